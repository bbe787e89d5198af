import PyProof.Rows.All
import Wide.All
import OpenK.AllK
import Wide.FinOn
import PyProof.EqAt
import PyProof.EqKinds
import PyProof.TupleCall
import PyProof.NeKinds
import PyProof.AutoSeq1
import KE.LcSums
import PyProof.Rows.StrWeight2
import PyProof.StrBlockG
import KE.KIntText
import PyProof.CallStr
import PyProof.WalksEnum
import PyProof.Rows.EnumRows
import PyProof.Rows.FactsT2
import KE.KRevIter
import PyProof.StrWalks
import PyProof.ReprRoads
import PyProof.StrLawsTight
import PyProof.Rows.StrItems
import PyProof.Rows.ReprOcc
import PyProof.Rows.StrJoinMade
import PyProof.ReprLen
import PyProof.ZipIter
import PyProof.Rows.SortWalk
import PyProof.ListRange
import PyProof.AttrMissHeap
import PyProof.Rows.SumAny
import PyProof.Rows.StrSplitMax
import Wide.Txt
import PyProof.StrLawsFirst
import PyProof.StrLawsRepr
import Lean
import PySem.Challenge.RW_stretchdeeds_k15_algebras_written
set_option Elab.async false
set_option linter.all false
set_option maxRecDepth 100000
set_option genSizeOf false
set_option bootstrap.genMatcherCode false
noncomputable section
abbrev zzA:=PySem.W.Frag
abbrev zzB:=@List.length_map
abbrev zzC:=@List.mem_cons
abbrev zzD:=@List.mem_cons_of_mem
abbrev zzE:=@List.getElem?_eq_getElem
abbrev zzF:=@List.mem_cons_self
abbrev zzG:=@List.getElem?_eq_some_iff
abbrev zzH:=@List.size_toArray
abbrev zzI:=@List.getElem?_map
abbrev zzJ:=@List.length_append
abbrev zzK:=@Nat.lt_of_lt_of_le
abbrev zzL:=@List.mem_append_right
abbrev zzM:=@List.mem_append
abbrev zzN:=@Nat.le_refl
abbrev zzO:=@Nat.le_trans
abbrev zzP:=@List.mem_append_left
abbrev zzQ:=@Nat.ne_of_lt
abbrev zzR:=@List.mem_singleton
abbrev zzS:=@List.length_take
abbrev zzT:=@List.length_cons
abbrev zzU:=@List.length_set
abbrev zzV:=@Int.natCast_mul
abbrev zzW:=@List.nodup_cons
abbrev zzX:=@Option.map_eq_some_iff
abbrev zzY:=@List.getElem?_set_ne
abbrev zzZ:=@Option.some.inj
abbrev zyA:=@List.mem_of_getElem?
abbrev zyB:=@List.map_map
abbrev zyC:=@Bool.and_eq_true
abbrev zyD:=@Bool.or_true
abbrev zyE:=@List.append_nil
abbrev zyF:=@List.getD_eq_getElem?_getD
abbrev zyG:=@decide_eq_false
abbrev zyH:=@Int.emod_lt_of_pos
abbrev zyI:=@List.nodup_nil
abbrev zyJ:=@List.getElem?_set_self
abbrev zyK:=@Option.bind_some
abbrev zyL:=@List.map_append
abbrev zyM:=@Int.emod_nonneg
abbrev zyN:=@decide_eq_true
abbrev zyO:=@List.getElem?_append_left
abbrev zyP:=@List.drop_eq_getElem_cons
abbrev zyQ:=@List.getElem?_append_right
abbrev zyR:=@List.map_cons
abbrev zyS:=@Array.length_toList
abbrev zyT:=@List.length_range
abbrev zyU:=@Bool.false_ne_true
abbrev zyV:=@Nat.le_succ
abbrev zyW:=@Nat.zero_add
abbrev zyX:=@List.getElem_mem
abbrev zyY:=@Nat.lt_succ_of_lt
abbrev zyZ:=@List.not_mem_nil
abbrev zxA:=@List.append_assoc
abbrev zxB:=@List.mem_map
abbrev zxC:=@List.nodup_append
abbrev zxD:=@PySem.wpAny_bind
abbrev zxE:=@PySem.wpAny_pure
abbrev zxF:=@PySem.Heap.get?_push_of_some
abbrev zxG:=@PySem.Heap.lt_size
abbrev zxH:=@PySem.Heap.get?_push_size
abbrev zxI:=@PySem.wpAny_newObj_type
abbrev zxJ:=@PySem.wpAny_holding
abbrev zxK:=@PySem.Heap.size_push
abbrev zxL:=@PySem.wpAny_mono
section
namespace L2
open PySem PySem.Spec PyProof.Rows
abbrev Key:=Sum Int Str
def K8:Key->Value->Bool
 | .inl k,v=>Value.isInt k v
 | .inr x,v=>Value.isStrOf x v
def nF(w:World):Key->Int
 | .inl k=>hashInt k
 | .inr x=>hashStr w x
theorem yI:∀{k:Key}{v:Value},K8 k v=true->(∃i t,k=Sum.inl i/\v=Value.int i t)\/(∃x t,k=Sum.inr x/\v=Value.str x t)
 | .inl i,v,h=>by
  obtain⟨t,e⟩:=Value.isInt_shape (k:=i) (v:=v) h;exact .inl ⟨i,t,rfl,e⟩
 | .inr x,v,h=>by
  obtain⟨t,e⟩:=Value.isStrOf_shape (x:=x) (v:=v) h;exact .inr ⟨x,t,rfl,e⟩
theorem Hg(i:Int)(t:Tok):K8 (.inl i) (.int i t)=true:=by simp[K8,Value.isInt]
theorem Hb(x:Str)(t:Tok):K8 (.inr x) (.str x t)=true:=by simp[K8,Value.isStrOf]
theorem uu(a b:Int):decide ((Sum.inl a:Key)=Sum.inl b)=(a==b):=by
 by_cases e:a=b
 . subst e;simp
 . have h:¬(Sum.inl a:Key)=Sum.inl b:=λq=>e (Sum.inl.inj q);rw[zyG h];exact(beq_eq_false_iff_ne.mpr e).symm
theorem tR(a b:Str):decide ((Sum.inr a:Key)=Sum.inr b)=decide (a=b):=by
 by_cases e:a=b
 . subst e;simp
 . have h:¬(Sum.inr a:Key)=Sum.inr b:=λq=>e (Sum.inr.inj q);rw[zyG h,zyG e]
theorem u7(a:Int)(b:Str):decide ((Sum.inl a:Key)=Sum.inr b)=false:=zyG (λq=>nomatch q)
theorem uf(a:Str)(b:Int):decide ((Sum.inr a:Key)=Sum.inl b)=false:=zyG (λq=>nomatch q)
def yH(prog:Program)(w:World):PySem.KeyKind prog w Key where
 is:=K8
 hash:=nF w
 inj:=λv a b ha hb=>by
  rcases yI ha with⟨i,t,rfl,rfl⟩|⟨x,t,rfl,rfl⟩
  . rcases yI hb with⟨j,u,rfl,e⟩|⟨y,u,rfl,e⟩
    . injection e with e1 _;rw[e1]
    . exact nomatch e
  . rcases yI hb with⟨j,u,rfl,e⟩|⟨y,u,rfl,e⟩
    . exact nomatch e
    . injection e with e1 _;rw[e1]
 byValue:=λk v h=>by
  rcases yI h with⟨i,t,rfl,rfl⟩|⟨x,t,rfl,rfl⟩<;>rfl
 pyHash:=λhv h=>by
  rcases yI hv with⟨i,t,rfl,rfl⟩|⟨x,t,rfl,rfl⟩
  . exact wpAny_pyHash_int h
  . exact wpAny_pyHash_str h
 eqBool:=λhu hv h=>by
  rcases yI hu with⟨i,t,rfl,rfl⟩|⟨x,t,rfl,rfl⟩
  . rcases yI hv with⟨j,u,rfl,rfl⟩|⟨y,u,rfl,rfl⟩
    . rw[uu]at h;exact wpAny_eqBool_int h
    . rw[u7]at h;exact SeqAt.EqAt.int_str i t y u _ _ _ _ h
  . rcases yI hv with⟨j,u,rfl,rfl⟩|⟨y,u,rfl,rfl⟩
    . rw[uf]at h;exact SeqAt.EqAt.str_int x t j u _ _ _ _ h
    . rw[tR]at h;exact wpAny_eqBool_str h
 «strs» := λk x t v h=>by
  rcases yI h with⟨i,u,rfl,e⟩|⟨y,u,rfl,e⟩
  . exact nomatch e
  . injection e with e1 _
    subst e1;cases v<;>rfl
theorem EI(prog:Program)(w:World)(i:Int)(t:Tok):(yH prog w).is (.inl i) (.int i t)=true:=Hg i t
theorem Y_(prog:Program)(w:World)(x:Str)(t:Tok):(yH prog w).is (.inr x) (.str x t)=true:=Hb x t
end L2
namespace L2
open PySem PySem.Spec PyProof.Rows
inductive V where
 |non|bl (b:Bool)|int (i:Int)|str (x:Str)|byt (b:Array UInt8)|flt (b:UInt64)|ref (a:Addr)|ty (n:String)
 deriving DecidableEq
def RelV:V->Value->Prop
 | .non,u=>u=Value.none
 | .bl b,u=>u=Value.bool b
 | .int i,u=>∃t,u=Value.int i t
 | .str x,u=>∃t,u=Value.str x t
 | .byt b,u=>∃t,u=Value.bytes b t
 | .flt b,u=>∃t,u=Value.float b t
 | .ref a,u=>u=Value.ref a
 | .ty n,u=>u=Value.type n
abbrev zQ:List V->List Value->Prop:=Paired RelV
theorem zQ.length(r:zQ xs us):xs.length=us.length:=Paired.length r
theorem zQ.get:∀{xs:List V}{us:List Value}{i:Nat}{x:V},zQ xs us->xs[i]? = some x->∃u,us[i]? = some u/\RelV x u
 |_,_,_,_,.nil,e=>by simp at e
 |_,_,0,_,.cons r _,e=>by simp at e;subst e;exact⟨_,rfl,r⟩
 |_,_,i+1,x,.cons _ t,e=>by
  obtain⟨u,h1,h2⟩:=zQ.get (i:=i) (x:=x) t (by simpa using e);exact⟨u,by simpa using h1,h2⟩
theorem zQ.set(r:RelV x u):∀{xs:List V}{us:List Value}(i:Nat),zQ xs us->zQ (xs.set i x) (us.set i u)
 |_,_,_,.nil=>.nil
 |_,_,0,.cons _ t=>.cons r t
 |_,_,i+1,.cons q t=>.cons q (zQ.set r i t)
theorem zQ.append:∀{xs ys:List V}{us ws:List Value},zQ xs us->zQ ys ws->zQ (xs++ys) (us++ws)
 |_,_,_,_,.nil,s=>s
 |_,_,_,_,.cons r t,s=>.cons r (zQ.append t s)
theorem zQ.take:∀{xs:List V}{us:List Value}(n:Nat),zQ xs us->zQ (xs.take n) (us.take n)
 |_,_,0,_=>.nil
 |_,_,_+1,.nil=>.nil
 |_,_,n+1,.cons r t=>.cons r (zQ.take n t)
theorem zQ.drop:∀{xs:List V}{us:List Value}(n:Nat),zQ xs us->zQ (xs.drop n) (us.drop n)
 |_,_,0,r=>r
 |_,_,_+1,.nil=>.nil
 |_,_,n+1,.cons _ t=>zQ.drop n t
def GX:Option V->Option Value->Prop
 |some v,some u=>RelV v u
 |none,none=>True
 |_,_=>False
def KV{κ:Type}:List (κ×V)->List (κ×Value)->Prop:=Paired λ(p:κ×V) (q:κ×Value)=>p.1=q.1/\RelV p.2 q.2
def kV:Key->V
 | .inl i=>.int i
 | .inr x=>.str x
inductive HO where
 |lst (xs:List V)
 |tup (xs:List V)
 |dK (kvs:List (Key×V))|dT (kvs:List (List Key×V))
 |set (S:Int->Bool) (n:Nat)
 |ins (C dx:Addr) (fs:List (Str×V))
 |own (x:Addr)
 |xd (fs:List (Str×V))
 |met (f x:Addr)
 |rng (lo hi:Int)
 |frz (o:Obj) (u:HO)
 |tbl (ps:Array Value)
 |ext (φ:Heap->Prop)
abbrev Hp:=Addr->Option HO
def upd(H:Hp)(a:Addr)(o:HO):Hp:=λb=>if b=a then some o else H b
theorem zV:upd H a o a=some o:=by unfold upd;rw[if_pos rfl]
theorem zE(h:b≠a):upd H a o b=H b:=by unfold upd;rw[if_neg h]
theorem yh{H:Hp}{a b:Addr}{o:HO}(h:H a=some o)(h':H b=none):a≠b:=by
 intro e;subst e;rw[h]at h';cases h'
section
variable(P:Program)(w:World)
def yU(H:Hp)(h:Heap)(a:Addr):HO->Prop
 | .lst xs=>xs.length<=sizeLine/\∃(its:List Value) (n:Nat),zQ xs its/\h.get? a=some {cls:=.type "list",data:=.seq its.toArray n}
 | .tup xs=>xs.length<=sizeLine/\∃its:List Value,zQ xs its/\IsTup h a its.toArray
 | .dK kvs=>kvs.length<=sizeLine/\(a==sysModules)=false/\∃vs,KV kvs vs/\h.DictOf (yH P w) a vs
 | .dT kvs=>kvs.length<=sizeLine/\(a==sysModules)=false/\∃xs:List (List Key×Addr×Value),
  Paired (λ(p:List Key×V) (q:List Key×Addr×Value)=>p.1=q.1/\H q.2.1=some (.tup (p.1.map kV))/\RelV p.2 q.2.2) kvs xs/\
  ∃o es ep,h.get? a=some o/\o.ExactDict/\o.data = .dict es ep/\es.toList=xs.map (entryOfKey (tupleKind (yH P w)))/\(xs.map (·.1)).Nodup
 | .set S n=>h.SetOf (intKind P w) a S n
 | .ins C dx fs=>H dx=some (.own a)/\fs.length<=1000/\dx≠a/\h.get? a=some (PySem.W.instObj C dx)/\
  ∃mA,h.Ns1 dx mA/\(∀f,GX (fs.lookup f) (mA f))/\PySem.Within mA (fs.map (·.1))
 | .own _=>∃o,h.get? a=some o
 | .xd fs=>∃mA,h.Ns1 a mA/\∀f,GX (fs.lookup f) (mA f)
 | .rng lo hi=>∃t u v,h.get? a=some {cls:=.type "range",data:=.fields #[.int lo t,.int hi u,.int 1 v]}
 | .frz o u=>h.get? a=some o/\yU H h a u
 | .tbl ps=>h.get? a=some {cls:=.none,data:=.fields ps}
 | .met f x=>h.get? a=some (PySem.W.methodObj (.ref f) (.ref x))
 | .ext φ=>φ h/\(∃o,h.get? a=some o)/\∀h1 h2:Heap,φ h1->(∀o,h1.get? a=some o->h2.get? a=some o)->φ h2
def Rw(H:Hp)(h:Heap):Prop:=∀a o,H a=some o->yU P w H h a o
end
section
variable{P:Program}{w:World}{H H':Hp}{h h':Heap}{a:Addr}{o:HO}
theorem yU.lt(x:yU P w H h a o):a<h.objs.size:=by
 cases o with
 |lst xs=>obtain⟨_,_,_,_,e⟩:=x;exact zxG e
 |tup xs=>obtain⟨_,_,_,p⟩:=x;exact p.lt
 |dK kvs=>obtain⟨_,_,_,_,o,_,_,e,_⟩:=x;exact zxG e
 |dT kvs=>obtain⟨_,_,_,_,o,_,_,e,_⟩:=x;exact zxG e
 |set S n=>obtain⟨o,_,_,_,e,_⟩:=x;exact zxG e
 |ins C dx fs=>obtain⟨_,_,_,e,_⟩:=x;exact zxG e
 |own y=>obtain⟨_,e⟩:=x;exact zxG e
 |xd fs=>obtain⟨_,⟨_,_,_,e,_⟩,_⟩:=x;exact zxG e
 |rng lo hi=>obtain⟨_,_,_,e⟩:=x;exact zxG e
 |frz ob u=>obtain⟨e,_⟩:=x;exact zxG e
 |tbl ps=>exact zxG (show h.get? a=some _ from x)
 |met f y=>exact zxG (show h.get? a=some _ from x)
 |ext φ=>obtain⟨_,⟨_,e⟩,_⟩:=x;exact zxG e
theorem Paired.mapP:∀{l₁:List α}{l₂:List β},Paired F l₁ l₂->(∀a b,F a b->G a b)->Paired G l₁ l₂
 |_,_,.nil,_=>.nil
 |_,_,.cons r t,f=>.cons (f _ _ r) (Paired.mapP t f)
theorem yU.stay(x:yU P w H h a o)(k:∀b u,(b=a\/H b=some (.own a))->h.get? b=some u->h'.get? b=some u)
 (ho:∀b,H b=some (.own a)->H' b=some (.own a)) (ht:∀b xs,H b=some (.tup xs)->H' b=some (.tup xs)):yU P w H' h' a o:=by
 induction o with
 |lst xs=>obtain⟨z,its,n,r,e⟩:=x;exact⟨z,its,n,r,k _ _ (.inl rfl) e⟩
 |tup xs=>obtain⟨z,its,r,ob,e,c⟩:=x;exact⟨z,its,r,ob,k _ _ (.inl rfl) e,c⟩
 |dK kvs=>obtain⟨z,y,vs,r,ob,es,ep,e,c⟩:=x;exact⟨z,y,vs,r,ob,es,ep,k _ _ (.inl rfl) e,c⟩
 |dT kvs=>
  obtain⟨z,y,xs,r,ob,es,ep,e,c⟩:=x;exact⟨z,y,xs,Paired.mapP r λp q z=>⟨z.1,ht _ _ z.2.1,z.2.2⟩,ob,es,ep,k _ _ (.inl rfl) e,c⟩
 |set S n=>obtain⟨ob,es,ep,t,e,c⟩:=x;exact⟨ob,es,ep,t,k _ _ (.inl rfl) e,c⟩
 |ins C dx fs=>
  obtain⟨d,z,ne,e,mA,⟨od,es,ep,e2,c⟩,r⟩:=x;exact⟨ho _ d,z,ne,k _ _ (.inl rfl) e,mA,⟨od,es,ep,k _ _ (.inr d) e2,c⟩,r⟩
 |own y=>obtain⟨ob,e⟩:=x;exact⟨ob,k _ _ (.inl rfl) e⟩
 |xd fs=>obtain⟨mA,⟨od,es,ep,e,c⟩,r⟩:=x;exact⟨mA,⟨od,es,ep,k _ _ (.inl rfl) e,c⟩,r⟩
 |rng lo hi=>obtain⟨t,u,v,e⟩:=x;exact⟨t,u,v,k _ _ (.inl rfl) e⟩
 |frz ob u ih=>obtain⟨e,q⟩:=x;exact⟨k _ _ (.inl rfl) e,ih q⟩
 |tbl ps=>
  have e:h.get? a=some {cls:=.none,data:=.fields ps}:=x;show h'.get? a=some {cls:=.none,data:=.fields ps};exact k a _ (.inl rfl) e
 |met f y=>
  have e:h.get? a=some (PySem.W.methodObj (.ref f) (.ref y)):=x;show h'.get? a=some (PySem.W.methodObj (.ref f) (.ref y));exact k a _ (.inl rfl) e
 |ext φ=>obtain⟨p,⟨o,e⟩,st⟩:=x;exact⟨st _ _ p λo q=>k _ _ (.inl rfl) q,⟨o,k _ _ (.inl rfl) e⟩,st⟩
theorem Rw.lt(x:Rw P w H h)(e:H a=some o):a<h.objs.size:=(x a o e).lt
theorem Rw.fresh(x:Rw P w H h)(e:h.objs.size<=a):H a=none:=by
 cases q:H a with
 |none=>rfl
 |some u=>exact absurd (zzK (x.lt q) e) (Nat.lt_irrefl _)
theorem Rw.kept(x:Rw P w H h)(k:∀b u,h.get? b=some u->h'.get? b=some u):Rw P w H h':=λa o e=>
 (x a o e).stay (λb u _ q=>k b u q) (λ_ q=>q) λ_ _ q=>q
theorem Rw.laid(x:Rw P w H h)(k:∀b u,h.get? b=some u->h'.get? b=some u)(hp:h.objs.size<=a)(new:yU P w (upd H a o) h' a o):Rw P w (upd H a o) h':=λb u e=>by
 have hn:=x.fresh hp
 by_cases hb:b=a
 . subst hb;rw[zV]at e;cases e;exact new
 . rw[zE hb]at e;exact(x b u e).stay (λc v _ q=>k c v q) (λc q=>by rw[zE (yh q hn)];exact q) λc xs q=>by rw[zE (yh q hn)];exact q
end
def Rd(H:Hp)(a:Addr)(u:HO):Prop:=H a=some u\/∃o,H a=some (.frz o u)
theorem Rd.ok(r:Rd H a u)(x:Rw P w H h):yU P w H h a u:=by
 rcases r with r|⟨o,r⟩
 . exact x a u r
 . obtain⟨_,q⟩:=x a _ r;exact q
def rV:Option HO->Prop
 |some (.lst _)=>True
 |some (.dK _)=>True
 |some (.dT _)=>True
 |some (.set _ _)=>True
 |some (.ins _ _ _)=>True
 |some (.ext _)=>True
 |_=>False
section
variable{P:Program}{w:World}{H:Hp}{h h':Heap}{x e:Addr}{o':HO}
theorem Rw.write(ok:Rw P w H h)(mu:rV (H x))(he:e=x\/H e=some (.own x))(k:∀b u,b≠e->h.get? b=some u->h'.get? b=some u)(heo:∃u,h'.get? e=some u)
 (new:yU P w (upd H x o') h' x o'):Rw P w (upd H x o') h':=λb u q=>by
 have nown:∀c y,H c=some (.own y)->c≠x:=λc y r z=>by subst z;rw[r]at mu;exact mu
 have ntup:∀c xs,H c=some (.tup xs)->c≠x:=λc xs r z=>by subst z;rw[r]at mu;exact mu
 by_cases hb:b=x
 . subst hb;rw[zV]at q;cases q;exact new
 . rw[zE hb]at q
   by_cases hbe:b=e
   . have q':H b=some (.own x):=by
      rcases he with z|z
      . exact absurd (hbe.trans z) hb
      . rw[hbe];exact z
     rw[q]at q';cases q';obtain⟨v,hv⟩:=heo;exact⟨v,by rw[hbe];exact hv⟩
   . refine(ok b u q).stay (λc v hc r=>k c v ?_ r) (λc r=>by rw[zE (nown c b r)];exact r) λc xs r=>by rw[zE (ntup c xs r)];exact r
     rcases hc with rfl|hc
     . exact hbe
     . rintro rfl
       rcases he with z|z
       . exact nown c b hc z
       . rw[hc]at z;cases z;exact hb rfl
end
structure Un(fs ex:List Addr)(H H':Hp)(h h':Heap):Prop where
 keep:∀b o,h.get? b=some o->H b=none->b ∉ fs->b ∉ ex->h'.get? b=some o
 slot:∀b o,h.get? b=some o->H b=none->b ∈ fs->b ∉ ex->∃sl,h'.get? b=some {o with slots:=sl}
 free:∀b o,h.get? b=some o->H b=none->b ∉ ex->H' b=none
 there:∀b o,h.get? b=some o->b ∉ ex->∃o',h'.get? b=some o'
 tups:∀b xs,H b=some (.tup xs)->H' b=some (.tup xs)
 frzs:∀b o u,H b=some (.frz o u)->H' b=some (.frz o u)
 tbls:∀b ps,H b=some (.tbl ps)->∃more,H' b=some (.tbl (ps++more))
section
variable{fs fs' ex ex':List Addr}{H H1 H2:Hp}{h h1 h2 h':Heap}{a x e:Addr}{o:HO}
theorem Un.any(u:Un fs ex H H1 h h1)(q:h.get? b=some ob)(n:H b=none)(hx:b ∉ ex):∃sl,h1.get? b=some {ob with slots:=sl}:=by
 by_cases hb:b ∈ fs
 . exact u.slot b ob q n hb hx
 . exact⟨ob.slots,u.keep b ob q n hb hx⟩
theorem Un.kept(k:∀b u,h.get? b=some u->h'.get? b=some u):Un fs ex H H h h':=
 ⟨λb ob q _ _ _=>k b ob q,λb ob q _ _ _=>⟨ob.slots,k b ob q⟩,λ_ _ _ n _=>n,λb ob q _=>⟨ob,k b ob q⟩,λ_ _ q=>q,λ_ _ _ q=>q,λ_ ps q=>⟨#[],by rw[q];simp⟩⟩
theorem Un.refl:Un fs ex H H h h:=Un.kept λ_ _ q=>q
theorem Un.laid(k:∀b u,h.get? b=some u->h'.get? b=some u)(hp:h.objs.size<=a)(hn:H a=none):Un fs ex H (upd H a o) h h' where
 keep:=λb u q _ _ _=>k b u q
 slot:=λb u q _ _ _=>⟨u.slots,k b u q⟩
 free:=λb u q n _=>by rw[zE (zzQ (zzK (zxG q) hp))];exact n
 there:=λb u q _=>⟨u,k b u q⟩
 tups:=λb xs q=>by rw[zE (yh q hn)];exact q
 frzs:=λb u xs q=>by rw[zE (yh q hn)];exact q
 tbls:=λb ps q=>⟨#[],by rw[zE (yh q hn),q];simp⟩
theorem Un.write(mu:rV (H x))(he:e=x\/H e=some (.own x))(k:∀b u,b≠e->h.get? b=some u->h'.get? b=some u)(heo:∃u,h'.get? e=some u):Un fs ex H (upd H x o) h h':=by
 have hx:∀b,H b=none->b≠x:=λb n z=>by subst z;rw[n]at mu;exact mu
 have hb:∀b,H b=none->b≠e:=λb n z=>by
  subst z
  rcases he with r|r
  . exact hx b n r
  . rw[n]at r;cases r
 have hm:∀b u,H b=some u->¬rV (some u)->b≠x:=λb u q nm z=>by subst z;rw[q]at mu;exact nm mu
 refine⟨λb u q n _ _=>k b u (hb b n) q,λb u q n _ _=>⟨u.slots,k b u (hb b n) q⟩,λb u q n _=>by rw[zE (hx b n)];exact n,λb u q _=>?_,
  λb xs q=>by rw[zE (hm b _ q λz=>z)];exact q,λb u xs q=>by rw[zE (hm b _ q λz=>z)];exact q,λb ps q=>⟨#[],by rw[zE (hm b _ q λz=>z),q];simp⟩⟩
 by_cases hbe:b=e
 . subst hbe;exact heo
 . exact⟨u,k b u hbe q⟩
end
def trk(h:Heap)(H:Hp):List Addr:=(List.range h.objs.size).filter λa=>(H a).isSome
def LV(h:Heap)(H:Hp):Heap:=PySem.W.hideAll h (trk h H)
theorem SG(h:Heap)(H:Hp):(LV h H).objs.size=h.objs.size:=PySem.W.hideAll_size _ _
theorem IH(e:h.get? b=some o)(n:H b=none):(LV h H).get? b=some o:=
 PySem.W.hideAll_get _ e λhm=>by
  have q:(H b).isSome=true:=(List.mem_filter.mp hm).2;rw[n]at q;simp at q
theorem Ab(e:(LV h H).get? b=some o):h.get? b=some o/\H b=none:=by
 have e':h.get? b=some o:=PySem.W.of_hideAll (trk h H) e;refine⟨e', ?_⟩;cases q:H b with
 |none=>rfl
 |some x=>
  have hm:b ∈ trk h H:=List.mem_filter.mpr ⟨List.mem_range.mpr (zxG e'),by simp[q]⟩;have z:(LV h H).get? b=none:=PySem.W.hideAll_none (trk h H) hm;rw[z]at e;cases e
end L2
namespace L2
open PySem PySem.Spec PyProof.Rows
structure Mod(K:zzA)(mg:Str->Option Value)(base:Heap):Prop where
 kin:K.In base
 glob:base.Ns mainGlobals mg
 blt:∃mb,base.Ns builtinsNs mb/\∀x:Str,x≠"__name__"->mb x=bootBuiltins x
 nolimit:base.NoLimit
structure Cx where
 prog:Program
 w:World
 K:zzA
 mg:Str->Option Value
 base:Heap
 A:Around
 N:List Str
 s₀:Shared
 H₀:Hp
 env:Env
 outer:List Env
 stack:List Env
 ex:List Addr
 fn:Str->Bool
 calm:Bool
 pn:List (Addr×Obj)
 xe:Value->Shared->Prop
def H0(l:List Env):List Addr:=l.filterMap (·.frame)
abbrev Cx.fs(X:Cx):List Addr:=H0 X.outer
def oo(sc:Scope)(x:Str):Prop:=sc.names.lookup x=some .local\/sc.names.lookup x=some .cell\/sc.names.lookup x=some .free
def Loc(sc:Scope)(x:Str):Prop:=sc.names.lookup x=some .local\/sc.names.lookup x=some .cell
def Look(env:Env)(h:Heap)(m:Str->Option Value)(x:Str)(u:Value):Prop:=
 (env.kindOf x=some .local/\m x=some u)\/((env.kindOf x=some .cell\/env.kindOf x=some .free)/\∃c,env.cells.lookup x=some c/\h.IsCell c (some u))
structure Cx.Ok(X:Cx):Prop where
 mod:Mod X.K X.mg X.base
 kind:X.env.scope.kind = .function
 glob:X.env.globals=mainGlobals
 blt:X.env.builtins=builtinsNs
 above:X.s₀.heap.objs.size<=X.env.locals
 inj:∀x y c,X.env.cells.lookup x=some c->X.env.cells.lookup y=some c->x=y
 has:∀x,(X.env.kindOf x=some .cell\/X.env.kindOf x=some .free)->∃c,X.env.cells.lookup x=some c
 cab:∀x c,X.fn x=true->X.env.cells.lookup x=some c->X.s₀.heap.objs.size<=c
 hd:X.calm=true->X.A.handled=none
 frames:X.A.frames=some X.stack
 stk:X.stack=X.outer\/(X.stack=X.env::X.outer/\X.env.frame=some X.env.locals)
 exf:∀b ∈ X.ex,b≠X.env.locals/\∀x c,X.env.cells.lookup x=some c->c≠b
 bs:∀b o,X.base.get? b=some o->X.s₀.heap.get? b=some o/\X.H₀ b=none
 bsz:X.base.objs.size<=X.s₀.heap.objs.size
 noex:∀b o,X.base.get? b=some o->b ∉ X.ex
 exfs:∀b ∈ X.ex,b ∉ X.fs
 funs:X.s₀.heap.FunFrames X.base X.outer
 frf:∀b ∈ X.fs,X.H₀ b=none
structure Inv(X:Cx)(pins:List (Addr×Obj))(σ:List (Option V))(H:Hp)(s:Shared):Prop where
 ok:X.Ok
 os:s.os=X.s₀.os
 bare:AllBare s.gens
 base:Un X.fs X.ex X.H₀ H X.s₀.heap s.heap
 loc:∃m,s.heap.Ns X.env.locals m/\∀(i:Nat) (x:Str) (v:V),X.N[i]? = some x->σ[i]? = some (some v)->oo X.env.scope x->∃u,RelV v u/\Look X.env s.heap m x u
 cell:∀x c,X.env.cells.lookup x=some c->∃v,s.heap.IsCell c v
 free:H X.env.locals=none
 freeC:∀x c,X.env.cells.lookup x=some c->H c=none
 pin:∀p ∈ X.pn++pins,s.heap.get? p.1=some p.2/\H p.1=none/\p.1≠X.env.locals/\p.1 ∉ X.fs/\∀v,p.2.data ≠ .cell v
 hok:Rw X.prog X.w H s.heap
 len:σ.length=X.N.length
section
variable{X:Cx}{pins:List (Addr×Obj)}{σ:List (Option V)}{H H':Hp}{s:Shared}{h':Heap}
theorem Cx.Ok.nofr(ok:X.Ok)(e:X.base.get? b=some o):b ∉ X.fs:=λhb=>by
 have:=(ok.funs.mem hb).1;rw[e]at this;cases this
theorem Inv.bs(I:Inv X pins σ H s):∀b o,X.base.get? b=some o->s.heap.get? b=some o/\H b=none:=λb o e=>
 ⟨I.base.keep b o (I.ok.bs b o e).1 (I.ok.bs b o e).2 (I.ok.nofr e) (I.ok.noex b o e),I.base.free b o (I.ok.bs b o e).1 (I.ok.bs b o e).2 (I.ok.noex b o e)⟩
theorem Inv.bk(I:Inv X pins σ H s):∀b o,X.base.get? b=some o->s.heap.get? b=some o:=λb o e=>(I.bs b o e).1
theorem Inv.mod(I:Inv X pins σ H s):Mod X.K X.mg X.base:=I.ok.mod
theorem Inv.kIn(I:Inv X pins σ H s):X.K.In s.heap:=I.ok.mod.kin.keeps I.bk
theorem Inv.lt(I:Inv X pins σ H s):X.env.locals<s.heap.objs.size:=let⟨_,hn,_⟩:=I.loc;hn.lt
theorem Inv.sz(I:Inv X pins σ H s):X.s₀.heap.objs.size<=s.heap.objs.size:=zzO I.ok.above (Nat.le_of_lt I.lt)
theorem Inv.nofs(I:Inv X pins σ H s)(h:s.heap.objs.size<=a):a ∉ X.fs:=λhb=>by
 obtain⟨_,o,ho,_⟩:=I.ok.funs.mem hb;exact absurd (zzK (zxG ho) (zzO I.sz h)) (Nat.lt_irrefl _)
theorem Inv.cne(I:Inv X pins σ H s):∀x c,X.env.cells.lookup x=some c->c≠X.env.locals:=λx c e z=>by
 obtain⟨v,o,ho,hd⟩:=I.cell x c e;obtain⟨m,⟨o',es,ep,ho',hd',_⟩,_⟩:=I.loc;rw[z,ho']at ho;cases ho;rw[hd']at hd;cases hd
theorem Inv.funs(I:Inv X pins σ H s):s.heap.FunFrames X.base X.outer:=by
 have all:∀(l:List Env),(∀b ∈ H0 l,b ∈ X.fs)->X.s₀.heap.FunFrames X.base l->s.heap.FunFrames X.base l:=by
  intro l
  induction l with
  |nil=>intro _ _;trivial
  |cons env r ih=>
   intro hs hl;obtain⟨hk,⟨L,o,hf,hn,ho,hd⟩,hr⟩:=hl;have hL:L ∈ X.fs:=hs L (by unfold H0;rw[List.filterMap_cons,hf];exact zzF);obtain⟨sl,e⟩:=I.base.slot L o ho (I.ok.frf L hL) hL λz=>I.ok.exfs L z hL;exact⟨hk,⟨L,_,hf,hn,e,hd⟩,ih (λb hb=>hs b (by unfold H0;rw[List.filterMap_cons,hf];exact zzD _ hb)) hr⟩
 exact all X.outer (λ_ hb=>hb) I.ok.funs
theorem Inv.stack(I:Inv X pins σ H s):s.heap.FunFrames X.base X.stack:=by
 rcases I.ok.stk with e|⟨e,hf⟩
 . rw[e];exact I.funs
 . rw[e];obtain⟨m,hn,_⟩:=I.loc;refine .cons (by rw[I.ok.kind];decide) hf hn ?_ I.funs;exact Heap.get?_none_of_le (zzO I.ok.bsz I.ok.above)
theorem Inv.stkSub(I:Inv X pins σ H s):∀b ∈ H0 X.stack,b ∈ X.env.locals::X.fs:=λb hb=>by
 rcases I.ok.stk with e|⟨e,hf⟩
 . rw[e]at hb;exact zzD _ hb
 . rw[e]at hb;unfold H0 at hb;rw[List.filterMap_cons,hf]at hb;exact hb
theorem Inv.stkFree(I:Inv X pins σ H s):∀b ∈ H0 X.stack,H b=none:=λb hb=>by
 rcases zzC.mp (I.stkSub b hb)with e|hb
 . rw[e];exact I.free
 . obtain⟨_,o,ho,_⟩:=I.ok.funs.mem hb;exact I.base.free b o ho (I.ok.frf b hb) λz=>I.ok.exfs b z hb
theorem Inv.step{g':Array GenState}{t':Nat}{d':Drawn}{ch:List Addr}(I:Inv X pins σ H s)
 (hch:∀b ∈ ch,(b ∈ X.ex\/X.s₀.heap.objs.size<=b)/\b≠X.env.locals/\(∀x c,X.env.cells.lookup x=some c->c≠b)/\∀p ∈ X.pn++pins,p.1≠b)
 (keep:∀b o,b≠X.env.locals->b ∉ X.fs->b ∉ ch->s.heap.get? b=some o->H b=none->h'.get? b=some o)
 (slot:∀b o,b≠X.env.locals->b ∈ X.fs->b ∉ ch->s.heap.get? b=some o->H b=none->∃sl,h'.get? b=some {o with slots:=sl}) (free:∀b o,b ∉ ch->s.heap.get? b=some o->H b=none->H' b=none)
 (there:∀b o,b ∉ ch->s.heap.get? b=some o->∃o',h'.get? b=some o')
 (tups:∀b xs,H b=some (.tup xs)->H' b=some (.tup xs)) (frzs:∀b o u,H b=some (.frz o u)->H' b=some (.frz o u)) (tbls:∀b ps,H b=some (.tbl ps)->∃more,H' b=some (.tbl (ps++more)))
 (ns:∀m,s.heap.Ns X.env.locals m->h'.Ns X.env.locals m) (hok:Rw X.prog X.w H' h') (hg:AllBare g'):
 Inv X pins σ H' {s with heap:=h',gens:=g',drawn:=d',toks:=t'}:=by
 have neL:∀b o,X.s₀.heap.get? b=some o->b≠X.env.locals:=λb o e=>zzQ (zzK (zxG e) I.ok.above);have neC:∀b o,X.s₀.heap.get? b=some o->b ∉ X.ex->b ∉ ch:=λb o e hx hb=>by
  rcases(hch b hb).1 with z|z
  . exact hx z
  . exact absurd (zzK (zxG e) z) (Nat.lt_irrefl _)
 have cellK:∀x c,X.env.cells.lookup x=some c->∀v,s.heap.IsCell c v->h'.IsCell c v:=λx c e v ⟨o,ho,hd⟩=>by
  have nch:c ∉ ch:=λz=>(hch c z).2.2.1 x c e rfl
  by_cases hc:c ∈ X.fs
  . obtain⟨sl,q⟩:=slot c o (I.cne x c e) hc nch ho (I.freeC x c e);exact⟨_,q,hd⟩
  . exact⟨o,keep c o (I.cne x c e) hc nch ho (I.freeC x c e),hd⟩
 refine⟨I.ok,I.os,hg,⟨λb o e n hb hx=>?_,λb o e n hb hx=>?_,λb o e n hx=>?_,λb o e hx=>?_,λb xs e=>tups b xs (I.base.tups b xs e),λb o xs e=>frzs b o xs (I.base.frzs b o xs e),λb ps e=>?_⟩, ?_,λx c e=>?_, ?_,λx c e=>?_,λp hp=>?_,hok,I.len⟩
 . exact keep b o (neL b o e) hb (neC b o e hx) (I.base.keep b o e n hb hx) (I.base.free b o e n hx)
 . obtain⟨sl,e1⟩:=I.base.slot b o e n hb hx;obtain⟨sl',e2⟩:=slot b _ (neL b o e) hb (neC b o e hx) e1 (I.base.free b o e n hx);exact⟨sl',e2⟩
 . obtain⟨o',e1⟩:=I.base.there b o e hx;exact free b o' (neC b o e hx) e1 (I.base.free b o e n hx)
 . obtain⟨o',e1⟩:=I.base.there b o e hx;exact there b o' (neC b o e hx) e1
 . obtain⟨m1,e1⟩:=I.base.tbls b ps e;obtain⟨m2,e2⟩:=tbls b _ e1;exact⟨m1++m2,by rw[e2,Array.append_assoc]⟩
 . obtain⟨m,hn,hl⟩:=I.loc;refine⟨m,ns m hn,λi x v e1 e2 e3=>?_⟩;obtain⟨u,r,l⟩:=hl i x v e1 e2 e3;refine⟨u,r, ?_⟩
   rcases l with l|⟨k,c,e,z⟩
   . exact .inl l
   . exact .inr ⟨k,c,e,cellK x c e _ z⟩
 . obtain⟨v,z⟩:=I.cell x c e;exact⟨v,cellK x c e v z⟩
 . obtain⟨m,⟨o,_,_,ho,_⟩,_⟩:=I.loc;exact free _ o (λz=>(hch _ z).2.1 rfl) ho I.free
 . obtain⟨v,o,ho,hd⟩:=I.cell x c e;exact free c o (λz=>(hch c z).2.2.1 x c e rfl) ho (I.freeC x c e)
 . obtain⟨e,n,ne,nf,d⟩:=I.pin p hp;have nch:p.1 ∉ ch:=λz=>(hch p.1 z).2.2.2 p hp rfl;exact⟨keep p.1 p.2 ne nf nch e n,free p.1 p.2 nch e n,ne,nf,d⟩
theorem Inv.un{t':Nat}(I:Inv X pins σ H s)(u:Un X.fs [] H H' s.heap h')(hok:Rw X.prog X.w H' h'):Inv X pins σ H' {s with heap:=h',toks:=t'}:=by
 obtain⟨m,⟨o,es,ep,ho,r⟩,_⟩:=id I.loc;obtain⟨sl,hL⟩:=u.any ho I.free (by simp);exact I.step (g':=s.gens) (d':=s.drawn) (ch:=[]) (λ_ z=>nomatch z) (λb o _ hb _ e n=>u.keep b o e n hb (by simp)) (λb o _ hb _ e n=>u.slot b o e n hb (by simp)) (λb o _ e n=>u.free b o e n (by simp)) (λb o _ e=>u.there b o e (by simp)) u.tups u.frzs u.tbls (λm' hm=>by
  obtain⟨o',es',ep',ho',r'⟩:=hm;rw[ho]at ho';cases ho';exact⟨_,es',ep',hL,r'⟩) hok I.bare
theorem Inv.call{g':Array GenState}{t':Nat}{d':Drawn}{ch:List Addr}(I:Inv X pins σ H s)(u:Un (H0 X.stack) ch H H' s.heap h')(hok:Rw X.prog X.w H' h')(hg:AllBare g')
 (hch:∀b ∈ ch,(b ∈ X.ex\/X.s₀.heap.objs.size<=b)/\b≠X.env.locals/\(∀x c,X.env.cells.lookup x=some c->c≠b)/\∀p ∈ X.pn++pins,p.1≠b):
 Inv X pins σ H' {s with heap:=h',gens:=g',drawn:=d',toks:=t'}:=by
 obtain⟨m,⟨o,es,ep,ho,r⟩,_⟩:=id I.loc;obtain⟨sl,hL⟩:=u.any ho I.free λz=>(hch _ z).2.1 rfl;exact I.step (ch:=ch) hch (λb o hL hb hc e n=>u.keep b o e n (λz=>(zzC.mp (I.stkSub b z)).elim hL hb) hc) (λb o _ _ hc e n=>u.any e n hc) (λb o hc e n=>u.free b o e n hc) (λb o hc e=>u.there b o e hc) u.tups u.frzs u.tbls (λm' hm=>by
  obtain⟨o',es',ep',ho',r'⟩:=hm;rw[ho]at ho';cases ho';exact⟨_,es',ep',hL,r'⟩) hok hg
theorem Inv.turned{t':Nat}{it:Addr}(I:Inv X pins σ H s)(k:∀b o,b≠it->s.heap.get? b=some o->h'.get? b=some o)(hn:H it=none)(hL:it≠X.env.locals)
 (h1:it ∈ X.ex\/X.s₀.heap.objs.size<=it) (h2:∀x c,X.env.cells.lookup x=some c->c≠it) (h3:∀p ∈ X.pn++pins,p.1≠it):Inv X pins σ H {s with heap:=h',toks:=t'}:=by
 have nit:∀b u,H b=some u->b≠it:=λb u e z=>by rw[z,hn]at e;cases e
 refine I.step (g':=s.gens) (d':=s.drawn) (ch:=[it]) (λb hb=>?_) (λb o _ _ hc e _=>k b o (λz=>hc (by simp[z])) e) (λb o _ _ hc e _=>⟨o.slots,k b o (λz=>hc (by simp[z])) e⟩) (λ_ _ _ _ n=>n)
  (λb o hc e=>⟨o,k b o (λz=>hc (by simp[z])) e⟩) (λ_ _ e=>e) (λ_ _ _ e=>e) (λb ps e=>⟨#[],by rw[e];simp⟩) (λm hm=>?_) (λb u e=>?_) I.bare
 . have e:b=it:=by simpa using hb
   subst e;exact⟨h1,hL,h2,h3⟩
 . obtain⟨o,es,ep,ho,r⟩:=hm;exact⟨o,es,ep,k _ o (Ne.symm hL) ho,r⟩
 . refine(I.hok b u e).stay (λc v hc q=>k c v ?_ q) (λ_ q=>q) λ_ _ q=>q
   rcases hc with z|z
   . rw[z];exact nit b u e
   . exact nit c _ z
theorem Inv.tok(I:Inv X pins σ H s)(t:Nat):Inv X pins σ H {s with toks:=t}:=I.un (h':=s.heap) (t':=t) Un.refl I.hok
theorem Inv.kept(I:Inv X pins σ H s)(k:∀b u,s.heap.get? b=some u->h'.get? b=some u):Inv X pins σ H {s with heap:=h',toks:=t'}:=I.un (Un.kept k) (I.hok.kept k)
theorem Inv.laid(I:Inv X pins σ H s)(k:∀b u,s.heap.get? b=some u->h'.get? b=some u)(hp:s.heap.objs.size<=a)(new:yU X.prog X.w (upd H a o) h' a o):
 Inv X pins σ (upd H a o) {s with heap:=h',toks:=t'}:=I.un (Un.laid k hp (I.hok.fresh hp)) (I.hok.laid k hp new)
theorem Inv.write(I:Inv X pins σ H s)(mu:rV (H x))(he:e=x\/H e=some (.own x))(k:∀b u,b≠e->s.heap.get? b=some u->h'.get? b=some u)(heo:∃u,h'.get? e=some u)
 (new:yU X.prog X.w (upd H x o) h' x o):Inv X pins σ (upd H x o) {s with heap:=h',toks:=t'}:=I.un (Un.write mu he k heo) (I.hok.write mu he k heo new)
theorem Inv.weak(I:Inv X pins σ H s)(hl:σ'.length=σ.length)(w:∀(i:Nat) v,σ'[i]? = some (some v)->σ[i]? = some (some v)):Inv X pins σ' H s:=
 ⟨I.ok,I.os,I.bare,I.base,let⟨m,hn,hl'⟩:=I.loc;⟨m,hn,λi x v e1 e2 e3=>hl' i x v e1 (w i v e2) e3⟩,I.cell,I.free,I.freeC,I.pin,I.hok,hl.trans I.len⟩
theorem Inv.pins_of(I:Inv X pins σ H s)(h:∀p ∈ pins',s.heap.get? p.1=some p.2/\H p.1=none/\p.1≠X.env.locals/\p.1 ∉ X.fs/\∀v,p.2.data ≠ .cell v):Inv X pins' σ H s:=
 ⟨I.ok,I.os,I.bare,I.base,I.loc,I.cell,I.free,I.freeC,λp hp=>(zzM.mp hp).elim (λz=>I.pin p (zzP _ z)) (h p),I.hok,I.len⟩
theorem EE{N:List Str}(hN:N.Nodup){i j:Nat}{x:Str}(a:N[i]? = some x)(b:N[j]? = some x):i=j:=by
 obtain⟨h1,e1⟩:=zzG.mp a;obtain⟨h2,e2⟩:=zzG.mp b;exact(List.getElem_inj hN).mp (e1.trans e2.symm)
theorem Kj{M:Model}{A:Around}{E:Value->Shared->Prop}{i:Nat}{x:Str}{v:V}{u:Value}{Q:Unit->Shared->Prop}(I:Inv X pins σ H s)(hN:X.N.Nodup)(hi:X.N[i]? = some x)(hx:Loc X.env.scope x)(r:RelV v u)
 (h:∀s',Inv X pins (σ.set i (some v)) H s'->(∃a,Heap.SameBut a s.heap s'.heap/\(a=X.env.locals\/X.env.cells.lookup x=some a))->Q () s') (hf:X.fn x=true\/X.env.scope.names.lookup x=some .local:=by first|exact .inl rfl|exact .inr rfl|assumption):wpAny M A (storeName X.env x u) Q E s:=by
 obtain⟨m,hn,hl⟩:=id I.loc;have hcls:(X.env.scope.kind == .class||(X.env.scope.kind == .module&&X.env.locals != X.env.globals))=false:=by rw[I.ok.kind];rfl
 have hiσ:i<σ.length:=by rw[I.len];exact(zzG.mp hi).1
 have cne:=I.cne;have tracked:∀{a:Addr}{h':Heap},(∃o,s.heap.get? a=some o/\H a=none)->Heap.SameBut a s.heap h'->Rw X.prog X.w H h':=λ{a h'} ha hs b ob e=>by
  obtain⟨_,_,hfree⟩:=ha;refine(I.hok b ob e).stay (λc w' hc q=>(hs.2 c ?_).trans q) (λ_ q=>q) λ_ _ q=>q
  rintro rfl
  rcases hc with rfl|hc
  . rw[hfree]at e;cases e
  . rw[hfree]at hc;cases hc
 rcases hx with hk|hk
 . refine wpAny_storeName_local hk hn (λh' hn' hs=>?_) hcls;obtain⟨oL,_,_,hoL,_⟩:=id hn;refine h _ ⟨I.ok,I.os,I.bare,⟨λb o e n hb hx=>?_,λb o e n hb hx=>?_,I.base.free,λb o e hx=>?_,I.base.tups,I.base.frzs,I.base.tbls⟩,⟨_,hn',λj y v' e1 e2 e3=>?_⟩,λy c e=>?_,I.free,I.freeC,λp hp=>?_,tracked ⟨oL,hoL,I.free⟩ hs,by simpa using I.len⟩ ⟨_,hs,.inl rfl⟩
   . exact(hs.2 b (zzQ (zzK (zxG e) I.ok.above))).trans (I.base.keep b o e n hb hx)
   . obtain⟨sl,e1⟩:=I.base.slot b o e n hb hx;exact⟨sl,(hs.2 b (zzQ (zzK (zxG e) I.ok.above))).trans e1⟩
   . obtain⟨o',e1⟩:=I.base.there b o e hx;exact⟨o',(hs.2 b (zzQ (zzK (zxG e) I.ok.above))).trans e1⟩
   . by_cases hj:j=i
     . subst hj;rw[hi]at e1;cases e1;rw[zyJ hiσ]at e2;cases e2;exact⟨u,r,.inl ⟨hk,by simp⟩⟩
     . rw[zzY (Ne.symm hj)]at e2;obtain⟨u',r',q⟩:=hl j y v' e1 e2 e3;refine⟨u',r', ?_⟩
       rcases q with⟨k,e⟩|⟨k,c,e,z⟩
       . refine .inl ⟨k, ?_⟩;have:y≠x:=λe=>hj (EE hN e1 (e ▸ hi));simp[this,e]
       . exact .inr ⟨k,c,e,z.sameBut hs (cne y c e)⟩
   . obtain⟨w',z⟩:=I.cell y c e;exact⟨w',z.sameBut hs (cne y c e)⟩
   . obtain⟨e,n,ne,nf,d⟩:=I.pin p hp;exact⟨(hs.2 p.1 ne).trans e,n,ne,nf,d⟩
 . have hfn:X.fn x=true:=by
    rcases hf with z|z
    . exact z
    . rw[z]at hk;cases hk
   obtain⟨c,hc⟩:=I.ok.has x (.inl hk);obtain⟨w',z⟩:=I.cell x c hc;refine wpAny_storeName_cell I.ok.kind hk hc z (λh' hc' hs=>?_);obtain⟨oc,hoc,hocd⟩:=id z;refine h {s with heap:=h'} ⟨I.ok,I.os,I.bare,⟨λb o e n hb hx=>?_,λb o e n hb hx=>?_,I.base.free,λb o e hx=>?_,I.base.tups,I.base.frzs,I.base.tbls⟩,⟨m,hn.sameBut hs (Ne.symm (cne x c hc)),λj y v' e1 e2 e3=>?_⟩,λy c' e=>?_,I.free,I.freeC,λp hp=>?_,tracked ⟨oc,hoc,I.freeC x c hc⟩ hs,by simpa using I.len⟩ ⟨c,hs,.inr hc⟩
   . exact(hs.2 b (zzQ (zzK (zxG e) (I.ok.cab x c hfn hc)))).trans (I.base.keep b o e n hb hx)
   . obtain⟨sl,e1⟩:=I.base.slot b o e n hb hx;exact⟨sl,(hs.2 b (zzQ (zzK (zxG e) (I.ok.cab x c hfn hc)))).trans e1⟩
   . obtain⟨o',e1⟩:=I.base.there b o e hx;exact⟨o',(hs.2 b (zzQ (zzK (zxG e) (I.ok.cab x c hfn hc)))).trans e1⟩
   . by_cases hj:j=i
     . subst hj;rw[hi]at e1;cases e1;rw[zyJ hiσ]at e2;cases e2;exact⟨u,r,.inr ⟨.inl hk,c,hc,hc'⟩⟩
     . rw[zzY (Ne.symm hj)]at e2;obtain⟨u',r',q⟩:=hl j y v' e1 e2 e3;refine⟨u',r', ?_⟩
       rcases q with q|⟨k,c',e,z'⟩
       . exact .inl q
       . refine .inr ⟨k,c',e,z'.sameBut hs ?_⟩
         rintro rfl
         exact hj (EE hN e1 (I.ok.inj _ _ _ e hc ▸ hi))
   . by_cases hcc:c'=c
     . subst hcc;exact⟨_,hc'⟩
     . obtain⟨w2,z2⟩:=I.cell y c' e;exact⟨w2,z2.sameBut hs hcc⟩
   . obtain⟨e,n,ne,nf,d⟩:=I.pin p hp;refine⟨(hs.2 p.1 ?_).trans e,n,ne,nf,d⟩;intro q;rw[q,hoc]at e;have q':oc=p.2:=zzZ e;exact d w' (by rw[<-q'];exact hocd)
theorem VW(I:Inv X pins σ H s)(hN:X.N.Nodup)(hi:X.N[i]? = some x)(hx:Loc X.env.scope x)(r:RelV v u)
 (h:∀s',Inv X pins (σ.set i (some v)) H s'->Q () s') (hf:X.fn x=true\/X.env.scope.names.lookup x=some .local:=by first|exact .inl rfl|exact .inr rfl|assumption):wpAny M A (storeName X.env x u) Q E s:=
 Kj I hN hi hx r (λs' I' _=>h s' I') hf
theorem Inv.call'(I:Inv X pins σ H s)(ho:s'.os=s.os)(u:Un (H0 X.stack) ch H H' s.heap s'.heap)(hok:Rw X.prog X.w H' s'.heap)(hg:AllBare s'.gens)
 (hch:∀b ∈ ch,(b ∈ X.ex\/X.s₀.heap.objs.size<=b)/\b≠X.env.locals/\(∀x c,X.env.cells.lookup x=some c->c≠b)/\∀p ∈ X.pn++pins,p.1≠b):Inv X pins σ H' s':=by
 obtain⟨h',g',d',t',o'⟩:=s';have e:o'=s.os:=ho;subst e;exact I.call (g':=g') (t':=t') (d':=d') u hok hg hch
end
abbrev XK:=Value->Option Addr->Hp->Prop
abbrev St:=List (Option V)
abbrev VK:=V->Hp->Prop
abbrev TE:=St->Hp->VK->Prop
abbrev TT:=St->Hp->(Bool->Hp->Prop)->Prop
abbrev TA:=St->Hp->(List V->Hp->Prop)->Prop
structure Ends where
 nx:St->Hp->Prop
 rt:VK
 bk:St->Hp->Prop:=λ_ _=>False
 ct:St->Hp->Prop:=λ_ _=>False
abbrev TS:=Ends->St->Hp->Prop
def EP(X:Cx)(pins:List (Addr×Obj))(σ:St)(Q:VK)(u:Value)(s':Shared):Prop:=∃v H',Inv X pins σ H' s'/\RelV v u/\Q v H'
def TP(X:Cx)(pins:List (Addr×Obj))(σ:St)(Q:Bool->Hp->Prop)(b:Bool)(s':Shared):Prop:=∃H',Inv X pins σ H' s'/\Q b H'
def AP(X:Cx)(pins:List (Addr×Obj))(σ:St)(Q:List V->Hp->Prop)(us:List Value)(s':Shared):Prop:=∃vs H',Inv X pins σ H' s'/\zQ vs us/\Q vs H'
def SP(X:Cx)(pins:List (Addr×Obj))(D:Ends)(f:Flow)(s':Shared):Prop:=
 match f with
 | .next=>∃σ' H',Inv X pins σ' H' s'/\D.nx σ' H'
 | .brk=>∃σ' H',Inv X pins σ' H' s'/\D.bk σ' H'
 | .cont=>∃σ' H',Inv X pins σ' H' s'/\D.ct σ' H'
 | .ret u=>∃v σ' H',Inv X pins σ' H' s'/\RelV v u/\D.rt v H'
def PE(X:Cx)(e:Expr)(t:TE):Prop:=
 ∀(pins:List (Addr×Obj)) (s:Shared) (σ:St) (H:Hp) (Q:VK),Inv X pins σ H s->t σ H Q->wpAny (model X.prog X.w) X.A (eval e X.env) (EP X pins σ Q) X.xe s
def PT(X:Cx)(e:Expr)(t:TT):Prop:=
 ∀(pins:List (Addr×Obj)) (s:Shared) (σ:St) (H:Hp) (Q:Bool->Hp->Prop),Inv X pins σ H s->t σ H Q->wpAny (model X.prog X.w) X.A (isTrue e X.env (eval e X.env)) (TP X pins σ Q) X.xe s
def PW(X:Cx)(e:Expr)(t:TT):Prop:=
 ∀(whole:Sem Value) (pins:List (Addr×Obj)) (s:Shared) (σ:St) (H:Hp) (Q:Bool->Hp->Prop),Inv X pins σ H s->t σ H Q->wpAny (model X.prog X.w) X.A (isTrue e X.env whole) (TP X pins σ Q) X.xe s
theorem PW.pt(h:PW X e t):PT X e t:=h _
def PA(X:Cx)(es:List Expr)(t:TA):Prop:=
 ∀(pos:Pos) (pins:List (Addr×Obj)) (s:Shared) (σ:St) (H:Hp) (Q:List V->Hp->Prop),Inv X pins σ H s->t σ H Q->wpAny (model X.prog X.w) X.A (spliced (backTo pos (starEach es X.env))) (AP X pins σ Q) X.xe s
def PS(X:Cx)(st:Stmt)(t:TS):Prop:=
 ∀(pins:List (Addr×Obj)) (s:Shared) (σ:St) (H:Hp) (D:Ends),Inv X pins σ H s->t D σ H->wpAny (model X.prog X.w) X.A (exec st X.env) (SP X pins D) X.xe s
def N5(X:Cx)(st:List Stmt)(t:TS):Prop:=
 ∀(pins:List (Addr×Obj)) (s:Shared) (σ:St) (H:Hp) (D:Ends),Inv X pins σ H s->t D σ H->wpAny (model X.prog X.w) X.A (execs st X.env) (SP X pins D) X.xe s
theorem yY(h:wpAny M A t Q E s)(hQ:∀a s,Q a s->Q' a s):wpAny M A t Q' E s:=zxL h hQ λ_ _ x=>x
end L2
namespace L2
open PySem PySem.Spec PyProof.Rows
section
variable{X:Cx}
def vm(i:Nat):TE:=λσ H Q=>∃v,σ[i]? = some (some v)/\Q v H
def tC(v:V):TE:=λ_ H Q=>Q v H
theorem OY(hN:X.N[i]? = some x)(hv:oo X.env.scope x)(hd:(x==("__debug__":Str))=false:=by decide)(hcd:(x==("__classdict__":Str))=false:=by decide):PE X (.Name x pos) (vm i):=by
 intro pins s σ H Q I h;obtain⟨v,e,h⟩:=h;obtain⟨m,hn,hl⟩:=I.loc;obtain⟨u,r,l⟩:=hl i x v hN e hv;have fin:EP X pins σ Q u s:=⟨v,H,I,r,h⟩
 rcases l with⟨hk,hm⟩|⟨hk,c,hc,hcell⟩
 . exact wpAny_Name (wpAny_loadName_local I.ok.kind hk hn hm fin) hd
 . rcases hk with hk|hk
   . exact wpAny_Name (wpAny_loadName_cell I.ok.kind hk hc hcell fin) hd
   . exact wpAny_Name (wpAny_loadName_free I.ok.kind hk hc hcell fin hcd) hd
theorem vk:PE X (.Constant (.int i) j pos) (tC (.int i)):=λ_ _ _ H _ I h=>wpAny_Constant_int ⟨.int i,H,I.tok _,⟨_,rfl⟩,h⟩
theorem pF:PE X (.Constant (.bool b) j pos) (tC (.bl b)):=λ_ _ _ H _ I h=>Constant_bool ⟨.bl b,H,I,rfl,h⟩
theorem tP:PE X (.Constant .none j pos) (tC .non):=λ_ _ _ H _ I h=>Constant_none ⟨.non,H,I,rfl,h⟩
theorem tS:PE X (.Constant (.str x) j pos) (tC (.str x)):=λ_ _ _ H _ I h=>Calls.Constant_str ⟨.str x,H,I.tok _,⟨_,rfl⟩,h⟩
def Gl(X:Cx)(x:Str):Prop:=X.env.kindOf x=some .globalImplicit
theorem Bq(I:Inv X pins σ H s)(hg:Gl X x)(hm:X.mg x=some u)(h:Q u s)
 (hd:(x==("__debug__":Str))=false:=by decide):wpAny (model X.prog X.w) X.A (eval (.Name x pos) X.env) Q E s:=
 Calls.Name_function_global I.ok.kind hg (Calls.loadGlobal_global (by rw[I.ok.glob];exact I.mod.glob.keeps I.bk) hm h) hd
theorem ZG(I:Inv X pins σ H s)(hg:Gl X x)(hm:X.mg x=none)(hv:bootBuiltins x=some u)(h:Q u s)
 (hn:x≠"__name__":=by decide) (hd:(x==("__debug__":Str))=false:=by decide):wpAny (model X.prog X.w) X.A (eval (.Name x pos) X.env) Q E s:=by
 obtain⟨mb,h1,h2⟩:=I.mod.blt;exact Calls.Name_function_global I.ok.kind hg (Calls.loadGlobal_builtin (by rw[I.ok.glob];exact I.mod.glob.keeps I.bk) hm (by rw[I.ok.blt];exact h1.keeps I.bk) ((h2 x hn).trans hv) h) hd
theorem J6(hg:Gl X x)(hm:X.mg x=some u)(r:RelV v u)(hd:(x==("__debug__":Str))=false:=by decide):PE X (.Name x pos) (tC v):=
 λ_ _ _ H _ I h=>Bq I hg hm ⟨v,H,I,r,h⟩ hd
theorem Am(hg:Gl X x)(hm:X.mg x=none)(hv:bootBuiltins x=some u)(r:RelV v u)(hn:x≠"__name__":=by decide)(hd:(x==("__debug__":Str))=false:=by decide):PE X (.Name x pos) (tC v):=
 λ_ _ _ H _ I h=>ZG I hg hm hv ⟨v,H,I,r,h⟩ hn hd
variable{a b:Expr}{ta tb:TE}{pos:Pos}
def PC(X:Cx)(op:CmpOp)(a b:Expr)(t:TE):Prop:=
 ∀(pins:List (Addr×Obj)) (s:Shared) (σ:St) (H:Hp) (Q:VK),Inv X pins σ H s->t σ H Q->
  wpAny (model X.prog X.w) X.A (eval a X.env) (λv s₁=>wpAny (model X.prog X.w) X.A (eval b X.env) (λu s₂=>wpAny (model X.prog X.w) X.A (compareOp op v u) (EP X pins σ Q) X.xe s₂) X.xe s₁) X.xe s
theorem Oa(b:Expr)(h:op ≠ .In)(h2:op ≠ .NotIn):behindInMarks op b=false:=by
 have e1:(op==CmpOp.In)=false:=by cases op<;>first|rfl|exact absurd rfl h
 have e2:(op==CmpOp.NotIn)=false:=by cases op<;>first|rfl|exact absurd rfl h2
 cases b<;>simp[behindInMarks,e1,e2]
def rZ(ta:TE):TE:=λσ H Q=>ta σ H λx H1=>Q (.bl (decide (x = .non))) H1
theorem RelV.none_iff(r:RelV x v):(v==Value.none)=decide (x = .non):=by
 cases x with
 |non=>cases r;rfl
 |bl _=>cases r;rfl
 |int _=>obtain⟨t,rfl⟩:=r;rfl
 |str _=>obtain⟨t,rfl⟩:=r;rfl
 |byt _=>obtain⟨t,rfl⟩:=r;rfl
 |flt _=>obtain⟨t,rfl⟩:=r;rfl
 |ref _=>cases r;rfl
 |ty _=>cases r;rfl
theorem uM(ha:PE X a ta):PC X .Is a (.Constant .none j pos') (rZ ta):=by
 intro pins s σ H Q I h;refine yY (ha pins s σ H _ I h) λv s1 ⟨x,H1,I1,r1,q1⟩=>?_;exact Constant_none (is_none_gen ⟨.bl _,H1,I1,by rw[r1.none_iff];rfl,q1⟩)
def tB(t:TE):TT:=λσ H Q=>t σ H λx H1=>∃c,x = .bl c/\Q c H1
theorem t_(h:PC X op a b t)(h1:behindInMarks op b=false:=by first|exact Oa _ (by decide) (by decide)|rfl):PT X (.Compare a [op] [b] pos) (tB t):=by
 intro pins s σ H Q I hw;refine wpAny_isTrue_Compare1 (yY (h pins s σ H _ I hw) λv s1 h1=>yY h1 λu s2 h2=>yY h2 λc s3 ⟨x,H1,I1,r1,q1⟩=>?_) h1;obtain⟨d,rfl,q⟩:=q1;cases r1;exact wpAny_truthy_bool ⟨H1,I1,q⟩
variable{tA tB':TT}{rest:List Expr}
def oX(t u:TT):TT:=λσ H Q=>t σ H λc H1=>if c=true then u σ H1 Q else Q false H1
def lL(t u:TT):TT:=λσ H Q=>t σ H λc H1=>if c=true then Q true H1 else u σ H1 Q
def nE(t:TT):TT:=λσ H Q=>t σ H λc H1=>Q (!c) H1
theorem Jx(ha:PT X a tA):PW X (.BoolOp .And [a] pos) tA:=by
 intro wh pins s σ H Q I h;refine isTrue_and (yY (ha pins s σ H Q I h) λc s1 e=>?_);cases c with
 |true=>exact isTrue_and_nil e
 |false=>exact e
theorem uo(ha:PT X a tA):PW X (.BoolOp .Or [a] pos) tA:=by
 intro wh pins s σ H Q I h;refine isTrue_or (yY (ha pins s σ H Q I h) λc s1 e=>?_);cases c with
 |false=>exact isTrue_or_nil e
 |true=>exact e
theorem se(ha:PT X a tA)(hb:PW X (.BoolOp .And (b::rest) pos) tB'):PW X (.BoolOp .And (a::b::rest) pos) (oX tA tB'):=by
 intro wh pins s σ H Q I h;refine isTrue_and (yY (ha pins s σ H _ I h) λc s1 ⟨H1,I1,q1⟩=>?_);cases c with
 |true=>exact hb wh pins s1 σ H1 Q I1 q1
 |false=>exact⟨H1,I1,q1⟩
theorem pD(ha:PT X a tA)(hb:PW X (.BoolOp .Or (b::rest) pos) tB'):PW X (.BoolOp .Or (a::b::rest) pos) (lL tA tB'):=by
 intro wh pins s σ H Q I h;refine isTrue_or (yY (ha pins s σ H _ I h) λc s1 ⟨H1,I1,q1⟩=>?_);cases c with
 |true=>exact⟨H1,I1,q1⟩
 |false=>exact hb wh pins s1 σ H1 Q I1 q1
theorem t8(ha:PT X a tA):PT X (.UnaryOp .Not a pos) (nE tA):=by
 intro pins s σ H Q I h;exact isTrue_not (ha pins s σ H (λc H1=>Q (!c) H1) I h)
def q9(ta tb:TE):TE:=λσ H Q=>ta σ H λx H1=>∃c,x = .bl c/\if c=true then tb σ H1 Q else Q (.bl false) H1
def me(ta tb:TE):TE:=λσ H Q=>ta σ H λx H1=>∃c,x = .bl c/\if c=true then Q (.bl true) H1 else tb σ H1 Q
theorem rj(h:PE X a t):PE X (.BoolOp op [a] pos) t:=λpins s σ H Q I hw=>BoolOp_one (h pins s σ H Q I hw)
theorem rh(ha:PE X a ta)(hb:PE X (.BoolOp .And (b::rest) pos) tb):PE X (.BoolOp .And (a::b::rest) pos) (q9 ta tb):=by
 intro pins s σ H Q I h;refine BoolOp_and (yY (ha pins s σ H _ I h) λv s1 ⟨x,H1,I1,r1,q1⟩=>?_);obtain⟨c,rfl,q1⟩:=q1;cases r1;refine wpAny_truthy_bool ?_;cases c with
 |true=>exact hb pins s1 σ H1 Q I1 q1
 |false=>exact⟨.bl false,H1,I1,rfl,q1⟩
theorem qM(ha:PE X a ta)(hb:PE X (.BoolOp .Or (b::rest) pos) tb):PE X (.BoolOp .Or (a::b::rest) pos) (me ta tb):=by
 intro pins s σ H Q I h;refine BoolOp_or (yY (ha pins s σ H _ I h) λv s1 ⟨x,H1,I1,r1,q1⟩=>?_);obtain⟨c,rfl,q1⟩:=q1;cases r1;refine wpAny_truthy_bool ?_;cases c with
 |false=>exact hb pins s1 σ H1 Q I1 q1
 |true=>exact⟨.bl true,H1,I1,rfl,q1⟩
def la(t:TT)(ta tb:TE):TE:=λσ H Q=>t σ H λc H1=>if c=true then ta σ H1 Q else tb σ H1 Q
theorem Ov(hc:PT X c tA)(ha:PE X a ta)(hb:PE X b tb):PE X (.IfExp c a b pos) (la tA ta tb):=by
 intro pins s σ H Q I h;refine wpAny_IfExp (yY (hc pins s σ H _ I h) λd s1 ⟨H1,I1,q1⟩=>?_);cases d with
 |true=>exact ha pins s1 σ H1 Q I1 q1
 |false=>exact hb pins s1 σ H1 Q I1 q1
end
end L2
namespace L2
open PySem PySem.Spec PyProof.Rows
def ZT(K:zzA)(H:Hp)(a:Addr)(xs:List V):Prop:=
 Rd H a (.lst xs) \/
  ∃(o:Obj) (its:Array Value) (n:Nat),K.lookup a=some o/\o.cls = .type "list"/\o.dict=none/\o.data = .seq its n/\its.size<=sizeLine/\zQ xs its.toList
def Oq(K:zzA)(H:Hp)(a:Addr)(xs:List V):Prop:=
 Rd H a (.lst xs)\/∃(its:Array Value) (n:Nat),K.lookup a=some {cls:=.type "list",data:=.seq its n}/\its.size<=sizeLine/\zQ xs its.toList
def Q2(K:zzA)(H:Hp)(a:Addr)(xs:List V):Prop:=
 Rd H a (.tup xs) \/
  ∃(o:Obj) (its:Array Value) (n:Nat),K.lookup a=some o/\o.cls = .type "tuple"/\o.data = .seq its n/\its.size<=sizeLine/\zQ xs its.toList
def nI:Value->Option V
 | .none=>some .non
 | .bool b=>some (.bl b)
 | .int i _=>some (.int i)
 | .str x _=>some (.str x)
 | .bytes b _=>some (.byt b)
 | .float b _=>some (.flt b)
 | .ref a=>some (.ref a)
 | .type n=>some (.ty n)
 |_=>none
theorem RelV.abs(r:RelV x u):nI u=some x:=by
 cases x with
 |non=>cases r;rfl
 |bl _=>cases r;rfl
 |int _=>obtain⟨t,rfl⟩:=r;rfl
 |str _=>obtain⟨t,rfl⟩:=r;rfl
 |byt _=>obtain⟨t,rfl⟩:=r;rfl
 |flt _=>obtain⟨t,rfl⟩:=r;rfl
 |ref _=>cases r;rfl
 |ty _=>cases r;rfl
theorem RelV.inj(r:RelV x u)(q:RelV y u):x=y:=zzZ (r.abs.symm.trans q.abs)
theorem zQ.inj:∀{xs ys:List V}{us:List Value},zQ xs us->zQ ys us->xs=ys
 |_,_,_,.nil,.nil=>rfl
 |_,_,_,.cons r t,.cons r' t'=>by rw[r.inj r',zQ.inj t t']
section
variable{X:Cx}{pins:List (Addr×Obj)}{σ:St}{H:Hp}{s:Shared}{a:Addr}{xs ys:List V}
theorem Inv.list(I:Inv X pins σ H s)(h:ZT X.K H a xs):∃its:List Value,zQ xs its/\PlainL s.heap a its.toArray/\xs.length<=sizeLine:=by
 rcases h with h|⟨o,its,n,hk,hc,hd,hs,hz,r⟩
 . obtain⟨z,its,n,r,e⟩:=h.ok I.hok;exact⟨its,r,⟨_,n,e,rfl,rfl,rfl⟩,z⟩
 . refine⟨its.toList,r,⟨o,n,I.kIn a o hk,hc,hd,by simpa using hs⟩, ?_⟩;have e:=r.length;simp only[zyS]at e;omega
theorem Inv.tuple(I:Inv X pins σ H s)(h:Q2 X.K H a xs):∃its:List Value,zQ xs its/\IsTup s.heap a its.toArray/\xs.length<=sizeLine:=by
 rcases h with h|⟨o,its,n,hk,hc,hs,hz,r⟩
 . obtain⟨z,its,r,p⟩:=h.ok I.hok;exact⟨its,r,p,z⟩
 . refine⟨its.toList,r,⟨o,I.kIn a o hk,hc,n,by simpa using hs⟩, ?_⟩;have e:=r.length;simp only[zyS]at e;omega
theorem Inv.list_inj(I:Inv X pins σ H s)(h:ZT X.K H a xs)(h':ZT X.K H a ys):xs=ys:=by
 obtain⟨its,r,⟨o,n,e,_,_,d⟩,_⟩:=I.list h;obtain⟨its',r',⟨o',n',e',_,_,d'⟩,_⟩:=I.list h';rw[e]at e';cases e';rw[d]at d';injection d' with d1 _
 have:its=its':=by simpa using congrArg Array.toList d1
 subst this;exact r.inj r'
theorem Inv.tuple_inj(I:Inv X pins σ H s)(h:Q2 X.K H a xs)(h':Q2 X.K H a ys):xs=ys:=by
 obtain⟨its,r,⟨o,e,_,n,d⟩,_⟩:=I.tuple h;obtain⟨its',r',⟨o',e',_,n',d'⟩,_⟩:=I.tuple h';rw[e]at e';cases e';rw[d]at d';injection d' with d1 _
 have:its=its':=by simpa using congrArg Array.toList d1
 subst this;exact r.inj r'
end
abbrev Cx.wish(X:Cx)(E:Value->Shared->Prop):Cx:={X with xe:=E}
abbrev Cx.nox(X:Cx):Cx:=X.wish λ_ _=>False
theorem Cx.Ok.wish{X:Cx}(ok:X.Ok)(E:Value->Shared->Prop):(X.wish E).Ok:=
 ⟨ok.mod,ok.kind,ok.glob,ok.blt,ok.above,ok.inj,ok.has,ok.cab,ok.hd,ok.frames,ok.stk,ok.exf,ok.bs,ok.bsz,ok.noex,ok.exfs,ok.funs,ok.frf⟩
theorem Cx.Ok.unwish{X:Cx}{E:Value->Shared->Prop}(ok:(X.wish E).Ok):X.Ok:=
 ⟨ok.mod,ok.kind,ok.glob,ok.blt,ok.above,ok.inj,ok.has,ok.cab,ok.hd,ok.frames,ok.stk,ok.exf,ok.bs,ok.bsz,ok.noex,ok.exfs,ok.funs,ok.frf⟩
section
variable{X:Cx}{pins:List (Addr×Obj)}{σ:St}{H:Hp}{s:Shared}{E:Value->Shared->Prop}
theorem Inv.wish(I:Inv X pins σ H s)(E:Value->Shared->Prop):Inv (X.wish E) pins σ H s:=⟨I.ok.wish E,I.os,I.bare,I.base,I.loc,I.cell,I.free,I.freeC,I.pin,I.hok,I.len⟩
theorem Inv.unwish(I:Inv (X.wish E) pins σ H s):Inv X pins σ H s:=⟨I.ok.unwish,I.os,I.bare,I.base,I.loc,I.cell,I.free,I.freeC,I.pin,I.hok,I.len⟩
theorem SP.unwish(h:SP (X.wish E) pins D f s'):SP X pins D f s':=by
 cases f with
 |next=>obtain⟨σ',H',I,q⟩:=h;exact⟨σ',H',I.unwish,q⟩
 |brk=>obtain⟨σ',H',I,q⟩:=h;exact⟨σ',H',I.unwish,q⟩
 |cont=>obtain⟨σ',H',I,q⟩:=h;exact⟨σ',H',I.unwish,q⟩
 |ret u=>obtain⟨v,σ',H',I,r,q⟩:=h;exact⟨v,σ',H',I.unwish,r,q⟩
theorem N5.nox{st:List Stmt}{t:TS}(h:N5 X.nox st t):N5 X st t:=λpins s σ H D I hw=>
 zxL (h pins s σ H D (I.wish _) hw) (λ_ _ q=>q.unwish) λ_ _ z=>False.elim z
end
section
variable{X:Cx}{st:Stmt}{rest:List Stmt}{t u:TS}{e:Expr}{te:TE}{pos:Pos}
def D0:TS:=λD σ H=>D.nx σ H
def pA(t u:TS):TS:=λD σ H=>t {D with nx:=u D} σ H
theorem LH:N5 X [] D0:=λ_ _ σ H _ I h=>wpAny_execs_nil ⟨σ,H,I,h⟩
theorem vf(h1:PS X st t)(h2:N5 X rest u):N5 X (st::rest) (pA t u):=by
 intro pins s σ H D I h;refine wpAny_execs_cons (yY (h1 pins s σ H {D with nx:=u D} I h) λf s1 q=>?_);cases f with
 |next=>
  obtain⟨σ',H',I',q⟩:=q;exact h2 pins s1 σ' H' D I' q
 |ret v=>exact q
 |brk=>exact q
 |cont=>exact q
theorem QH(h1:PS X st t):N5 X [st] t:=by
 intro pins s σ H D I h;refine wpAny_execs_cons (yY (h1 pins s σ H D I h) λf s1 q=>?_);cases f with
 |next=>exact wpAny_execs_nil q
 |ret v=>exact q
 |brk=>exact q
 |cont=>exact q
def tw:TS:=λD σ H=>D.bk σ H
theorem OS:PS X (.Break pos) tw:=λ_ _ σ H _ I h=>wpAny_Break ⟨σ,H,I,h⟩
theorem Inv.quiet(I:Inv X pins σ H s):interactive X.env=false:=by simp[interactive,I.ok.kind]
def Bk(te:TE):TS:=λD σ H=>te σ H λ_ H1=>D.nx σ H1
theorem Qa(he:PE X e te)(hs:swapsWith e none pos.line X.env=pure false:=by rfl):PS X (.Expr e pos) (Bk te):=by
 intro pins s σ H D I h;exact wpAny_Expr_any (yY (he pins s σ H _ I h) λv s1 ⟨x,H1,I1,r1,q1⟩=>⟨σ,H1,I1,q1⟩) I.quiet hs
def q_(te:TE):TS:=λD σ H=>te σ H D.rt
theorem IX(he:PE X e te):PS X (.Return (some e) pos) (q_ te):=by
 intro pins s σ H D I h;exact wpAny_Return_some (yY (he pins s σ H _ I h) λv s1 ⟨x,H1,I1,r1,q1⟩=>⟨x,σ,H1,I1,r1,q1⟩)
def qb(c:TT)(t u:TS):TS:=λD σ H=>c σ H λb H1=>if b=true then t D σ H1 else u D σ H1
theorem C_(hc:PT X c tc)(ha:N5 X a t)(hb:N5 X b u):PS X (.If c a b pos) (qb tc t u):=by
 intro pins s σ H D I h;refine wpAny_If (yY (hc pins s σ H _ I h) λd s1 ⟨H1,I1,q1⟩=>?_);cases d with
 |true=>exact ha pins s1 σ H1 D I1 q1
 |false=>exact hb pins s1 σ H1 D I1 q1
def OD:TS:=λ_ _ _=>False
theorem Ll:N5 X sts OD:=λ_ _ _ _ _ _ h=>h.elim
end
abbrev TG:=V->St->Hp->(St->Hp->Prop)->Prop
abbrev uQ:=List V->St->Hp->(St->Hp->Prop)->Prop
def PG(X:Cx)(target:Expr)(t:TG):Prop:=
 ∀(pins:List (Addr×Obj)) (s:Shared) (σ:St) (H:Hp) (v:V) (u:Value) (Q:St->Hp->Prop),Inv X pins σ H s->RelV v u->t v σ H Q->
  wpAny (model X.prog X.w) X.A (assign target X.env u) (λ_ s'=>∃σ' H',Inv X pins σ' H' s'/\Q σ' H') X.xe s
def Dp(X:Cx)(ts:List Expr)(t:uQ):Prop:=
 ∀(pins:List (Addr×Obj)) (s:Shared) (σ:St) (H:Hp) (vs:List V) (us:List Value) (Q:St->Hp->Prop),Inv X pins σ H s->zQ vs us->t vs σ H Q->
  wpAny (model X.prog X.w) X.A (assignInOrder ((assignEach ts X.env).map (·.2)) us) (λ_ s'=>∃σ' H',Inv X pins σ' H' s'/\Q σ' H') X.xe s
abbrev pQ:=V->V->V->Hp->(Hp->Prop)->Prop
def qi(X:Cx)(t:pQ):Prop:=
 ∀(pins:List (Addr×Obj)) (s:Shared) (σ:St) (H:Hp) (o i v:V) (ov iv u:Value) (Q:Hp->Prop),Inv X pins σ H s->RelV o ov->RelV i iv->RelV v u->t o i v H Q->
  wpAny (model X.prog X.w) X.A (setItem ov iv u) (λ_ s'=>∃H',Inv X pins σ H' s'/\Q H') X.xe s
section
variable{X:Cx}{pos:Pos}
def Yk(i:Nat):TG:=λv σ H Q=>Q (σ.set i (some v)) H
theorem Qm(hN:X.N.Nodup)(hi:X.N[i]? = some x)(hx:Loc X.env.scope x)(hf:X.fn x=true\/X.env.scope.names.lookup x=some .local:=by first|exact .inl rfl|exact .inr rfl|assumption):PG X (.Name x pos) (Yk i):=by
 intro pins s σ H v u Q I r h;exact wpAny_assign_Name (VW I hN hi hx r (λs' I'=>⟨_,H,I',h⟩) hf)
def OA:uQ:=λvs σ H Q=>vs=[]/\Q σ H
def VH(t:TG)(u:uQ):uQ:=λvs σ H Q=>∃v r,vs=v::r/\t v σ H λσ' H'=>u r σ' H' Q
theorem NL:Dp X [] OA:=by
 intro pins s σ H vs us Q I r h;obtain⟨e,h⟩:=h;subst e;cases r;exact assignInOrder_nil ⟨σ,H,I,h⟩
theorem Xm(h1:PG X e t)(h2:Dp X es u)
 (hs:(assignEach (e::es) X.env).map (·.2)=assign e X.env::(assignEach es X.env).map (·.2):=by rfl):Dp X (e::es) (VH t u):=by
 intro pins s σ H vs us Q I r h;obtain⟨v,vr,e1,h⟩:=h;subst e1;cases r with
 |cons r rr=>
  rw[hs];refine assignInOrder_cons (yY (h1 pins s σ H _ _ _ I r h) λ_ s1 ⟨σ1,H1,I1,q1⟩=>?_);exact h2 pins s1 σ1 H1 _ _ Q I1 rr q1
def C9(K:zzA)(n:Nat)(t:uQ):TG:=λv σ H Q=>∃a xs,v = .ref a/\Q2 K H a xs/\xs.length=n/\t xs σ H Q
theorem Be(hc:X.calm=true)(h:Dp X es t)
 (hn:(assignEach es X.env).length=n:=by rfl) (hst:(assignEach es X.env).findIdx? (·.1)=none:=by rfl):PG X (.Tuple es k pos) (C9 X.K n t):=by
 intro pins s σ H v u Q I r hw;obtain⟨a,xs,e1,hq,hl,hw⟩:=hw;subst e1;cases r;obtain⟨its,rv,ht,hz⟩:=I.tuple hq;refine assign_Tuple_tuple (I.ok.hd hc) ht (by simp[hn,<-hl,rv.length]) hst λh' hx=>?_;have I1:Inv X pins σ H {s with heap:=h'}:=I.kept (t':=s.toks) λb o e=>hx b o (zzQ (zxG e)) e;exact h pins _ σ H xs _ Q I1 (by simpa using rv) hw
def mj(to ti:TE)(t:pQ):TG:=λv σ H Q=>to σ H λo H1=>ti σ H1 λi H2=>t o i v H2 λH3=>Q σ H3
theorem FJ(ho:PE X o to)(hi:PE X i ti)(hs:qi X t)
 (ha:∀v,assign (.Subscript o i pos) X.env v=(do
  let ov <-holding [v] (eval o X.env);let iv <-holding [v,ov] (eval i X.env)
  standAt pos
  holding [v,ov,iv] (setItem ov iv v)
  release [v,ov,iv] []):=by intro _;rfl):PG X (.Subscript o i pos) (mj to ti t):=by
 intro pins s σ H v u Q I r h;rw[ha];refine zxD (zxJ (yY (ho pins s σ H _ I h) λov s1 ⟨x,H1,I1,r1,q1⟩=>?_));refine zxD (zxJ (yY (hi pins s1 σ H1 _ I1 q1) λiv s2 ⟨y,H2,I2,r2,q2⟩=>?_));refine zxD (wpAny_standAt (zxD (zxJ (yY (hs pins s2 σ H2 x y v ov iv u _ I2 r1 r2 r q2) λ_ s3 ⟨H3,I3,q3⟩=>?_))));exact wpAny_release ⟨σ,H3,I3,q3⟩
def rG(te:TE)(g:TG):TS:=λD σ H=>te σ H λx H1=>g x σ H1 D.nx
theorem ND(he:PE X e te)(hg:PG X tg g)(hs:swapsWithSole [tg] e pos.line X.env=pure false:=by rfl)(hw:swappedStores [tg] e X.env=pure none:=by rfl)
 (h1:(assignEach [tg] X.env).map (·.2)=[assign tg X.env]:=by rfl):PS X (.Assign [tg] e pos) (rG te g):=by
 intro pins s σ H D I h;refine wpAny_Assign_stores (yY (he pins s σ H _ I h) λv s1 ⟨x,H1,I1,r1,q1⟩=>?_) hs hw;rw[h1];exact yY (hg pins s1 σ H1 x v _ I1 r1 q1) λ_ s2 q=>q
theorem Od(hN:X.N.Nodup)(hi:X.N[i]? = some x)(hx:Loc X.env.scope x)(he:PE X e te)(hs:swapsWith e (some (.Name x pos')) pos.line X.env=pure false:=by rfl)(hf:X.fn x=true\/X.env.scope.names.lookup x=some .local:=by first|exact .inl rfl|exact .inr rfl|assumption):
 PS X (.Assign [.Name x pos'] e pos) (rG te (Yk i)):=by
 intro pins s σ H D I h;refine wpAny_Assign_Name (yY (he pins s σ H _ I h) λv s1 ⟨y,H1,I1,r1,q1⟩=>?_) hs;exact VW I1 hN hi hx r1 (λs2 I2=>⟨_,H1,I2,q1⟩) hf
def oT(i j:Nat)(ta:TA):TS:=λD σ H=>ta σ H λvs H1=>∃v w,vs=[v,w]/\D.nx ((σ.set i (some v)).set j (some w)) H1
theorem D_(hc:X.calm=true)(hN:X.N.Nodup)(hi:X.N[i]? = some x)(hj:X.N[j]? = some y)(hij:i≠j)
 (hx:X.env.scope.names.lookup x=some .local) (hy:X.env.scope.names.lookup y=some .local) (ha:PA X [a,b] ta)
 (hw:swappedStores [.Tuple [.Name x px,.Name y py] kt pt] (.Tuple [a,b] k2 pt2) X.env=pure (some [x,y]))
 (hs:swapsWithSole [.Tuple [.Name x px,.Name y py] kt pt] (.Tuple [a,b] k2 pt2) pos.line X.env=pure false:=by rfl):
 PS X (.Assign [.Tuple [.Name x px,.Name y py] kt pt] (.Tuple [a,b] k2 pt2) pos) (oT i j ta):=by
 intro pins s σ H D I h;rw[exec_Assign_arm];refine zxD (wpAny_standAt ?_);rw[hs];refine zxD (zxE ?_);rw[if_neg (by decide)];refine zxD (Tuple_ (yY (ha _ pins s σ H _ I h) λus s1 ⟨vs,H1,I1,r1,q1⟩=>?_));obtain⟨v,w,e1,q1⟩:=q1;subst e1;obtain⟨u1,u2,rfl,rv,rw'⟩:∃u1 u2,us=[u1,u2]/\RelV v u1/\RelV w u2:=by
  cases r1 with
  |cons p q=>
   cases q with
   |cons p' q'=>
    cases q';exact⟨_,_,rfl,p,p'⟩
 refine zxI ?_ (by show 2<=sizeLine;decide);have I2:Inv X pins σ H1 {s1 with heap:=s1.heap.push {cls:=.type "tuple",data:=.seq [u1,u2].toArray}}:=I1.kept (t':=s1.toks) λb o e=>zxF _ e;rw[hw];refine zxD (zxE ?_);show wpAny (model X.prog X.w) X.A (do rule "assign.swapped-stores";let items <-unpackItems (.ref s1.heap.objs.size) 2 none;assignInOrder [λv=>bindName X.env y v,λv=>bindName X.env x v] items.reverse;pure Flow.next) _ _ _;refine zxD (wpAny_rule (zxD (unpackItems_tuple (items:=#[u1,u2]) (I.ok.hd hc) (IsTup.new s1.heap _) λh' hx'=>?_)));have I3:=I2.kept (h':=h') (t':=s1.toks) λb o e=>hx' b o (zzQ (zxG e)) e;show wpAny _ _ (assignInOrder [λv=>bindName X.env y v,λv=>bindName X.env x v] [u2,u1] >>= λ_=>pure Flow.next) _ _ _;refine zxD (assignInOrder_cons (wpAny_bindName (VW I3 hN hj (.inl hy) rw' (λs2 I4=>?_) (.inr hy))));refine assignInOrder_cons (wpAny_bindName (VW I4 hN hi (.inl hx) rv (λs3 I5=>assignInOrder_nil (zxE ?_)) (.inr hx)));rw[List.set_comm _ _ (Ne.symm hij)]at I5;exact⟨_,H1,I5,q1⟩
end
section
variable{X:Cx}{pos:Pos}
def uU(c:TT)(tb:TS):TS:=λD σ H=>∃W:Nat->St->Hp->Prop,(∃m,W m σ H)/\∀m σ H,W m σ H->
 c σ H λb H1=>if b=true then ∃N:St->Hp->Prop,(∀σ' H',N σ' H'->∃m',m'<m/\W m' σ' H')/\tb {D with nx:=N,ct:=N,bk:=D.nx} σ H1 else D.nx σ H1
theorem Og(hp:PassesOwn (model X.prog X.w) X.A X.env X.xe)(hc:PT X c tc)(hb:N5 X body tb):PS X (.While c body [] pos) (uU tc tb):=by
 intro pins s σ H D I h;obtain⟨W,⟨m0,w0⟩,turn⟩:=h;refine wpAny_While (codeAny_whileLoop (λn s'=>∃σ' H',Inv X pins σ' H' s'/\W n σ' H') ?_ m0 ⟨σ,H,I,w0⟩)
 rintro n s1 ⟨σ1,H1,I1,w1⟩
 refine wpAny_passesOwn hp (yY (hc pins s1 σ1 H1 _ I1 (turn n σ1 H1 w1)) λb s2 ⟨H2,I2,q2⟩=>?_);cases b with
 |true=>
  obtain⟨N,hN,q2⟩:=q2;rw[if_pos rfl];refine wpAny_passesOwn hp (yY (hb pins s2 σ1 H2 _ I2 q2) λf s3 q3=>?_);cases f with
  |next=>
   obtain⟨σ3,H3,I3,n3⟩:=q3;obtain⟨m',hm,w3⟩:=hN σ3 H3 n3;exact⟨m',hm,σ3,H3,I3,w3⟩
  |cont=>
   obtain⟨σ3,H3,I3,n3⟩:=q3;obtain⟨m',hm,w3⟩:=hN σ3 H3 n3;exact⟨m',hm,σ3,H3,I3,w3⟩
  |brk=>exact q3
  |ret v=>exact q3
 |false=>
  rw[if_neg zyU];exact wpAny_execs_nil ⟨σ1,H2,I2,q2⟩
end
structure It where
 go:Nat->Hp->Prop
 yld:Nat->Hp->V->Hp->Prop
 stop:Nat->Hp->Prop
def Uq(X:Cx)(pins:List (Addr×Obj))(H:Hp)(b:Addr):Prop:=
 H b=none/\b≠X.env.locals/\b ∉ X.fs/\(b ∈ X.ex\/X.s₀.heap.objs.size<=b)/\(∀x c,X.env.cells.lookup x=some c->c≠b)/\∀p ∈ X.pn++pins,p.1≠b
theorem Inv.fpOk(I:Inv X pins σ H s)(hb:s.heap.objs.size<=b)(hn:H' b=none):Uq X pins H' b:=by
 refine⟨hn,Nat.ne_of_gt (zzK I.lt hb),I.nofs hb,.inr (zzO I.sz hb),λx c e z=>?_,λp hp z=>?_⟩
 . obtain⟨v,q⟩:=I.cell x c e;exact absurd (zzK q.lt (by rw[z];exact hb)) (Nat.lt_irrefl _)
 . exact absurd (zzK (zxG (I.pin p hp).1) (by rw[z];exact hb)) (Nat.lt_irrefl _)
structure Turn(P:Program)(w:World)(K:zzA)(tg:Expr)(J:It)(fp:List Addr)(it:Addr)(tn:Nat->Heap->Prop):Prop where
 mem:it ∈ fp
 obj:∀i h,tn i h->∀b ∈ fp,∃o,h.get? b=some o/\∀v,o.data ≠ .cell v
 keep:∀i h h',tn i h->(∀b ∈ fp,∀o,h.get? b=some o->h'.get? b=some o)->tn i h'
 item:∀(X:Cx),X.prog=P->X.w=w->X.K=K->X.calm=true->∀(i:Nat) (pins:List (Addr×Obj)) (s:Shared) (σ:St) (H:Hp) (E:Value->Shared->Prop),Inv X pins σ H s->(∀b ∈ fp,Uq X pins H b)->tn i s.heap->J.go i H->
  wpAny (model P w) X.A (pyNext (.ref it)) (λr s1=>∃u,r=some u/\
   wpAny (model P w) X.A (letOwnedTupleGo tg (.ref it) u) (λ_ s2=>∃x H',Inv X pins σ H' s2/\RelV x u/\J.yld i H x H'/\tn (i+1) s2.heap/\∀b ∈ fp,H' b=none) E s1) E s
 done:∀(X:Cx),X.prog=P->X.w=w->X.K=K->X.calm=true->∀(i:Nat) (pins:List (Addr×Obj)) (s:Shared) (σ:St) (H:Hp) (E:Value->Shared->Prop),Inv X pins σ H s->(∀b ∈ fp,Uq X pins H b)->tn i s.heap->J.stop i H->
  wpAny (model P w) X.A (pyNext (.ref it)) (λr s1=>r=none/\Inv X pins σ H s1) E s
 self:∀(A:Around) (i:Nat) (s:Shared) (Q:Value->Shared->Prop) (E:Value->Shared->Prop),tn i s.heap->Q (.ref it) s->wpAny (model P w) A (pyIter (.ref it)) Q E s
abbrev TI:=St->Hp->(It->Hp->Prop)->Prop
def mz(X:Cx)(pins:List (Addr×Obj))(σ:St)(tg:Expr)(R:It->Hp->Prop)(itv:Value)(s2:Shared):Prop:=
 ∃(it:Addr) (fp:List Addr) (tn:Nat->Heap->Prop) (J:It) (H':Hp),itv = .ref it/\Inv X pins σ H' s2/\Turn X.prog X.w X.K tg J fp it tn/\tn 0 s2.heap/\(∀b ∈ fp,Uq X pins H' b)/\R J H'
def PI(X:Cx)(tg iter:Expr)(wi:TI):Prop:=
 ∀(pins:List (Addr×Obj)) (s:Shared) (σ:St) (H:Hp) (R:It->Hp->Prop),Inv X pins σ H s->wi σ H R->
  wpAny (model X.prog X.w) X.A (eval iter X.env) (λv s1=>wpAny (model X.prog X.w) X.A (pyIter v) (mz X pins σ tg R) X.xe s1) X.xe s
theorem M9(ho:s.heap.get? it=some o)(hc:o.cls = .type n)(hd:o.data = .fields vs)
 (hn : ["enumerate","zip","dict_itemiterator","dict_reverseitemiterator","odict_iterator","itertools.zip_longest","itertools.pairwise"].contains n=false) (hQ:Q () s):wpAny M A (letOwnedTupleGo tg (.ref it) u) Q E s:=by
 unfold letOwnedTupleGo;cases tg<;>first
  |exact zxE hQ
  |(cases u<;>first
   |exact zxE hQ
   | (refine zxD (wpAny_load ho ?_)
      rw[hc,hd];show wpAny M A (if(["enumerate","zip","dict_itemiterator","dict_reverseitemiterator","odict_iterator","itertools.zip_longest","itertools.pairwise"].contains n&&vs[0]? == some (rawInt _))=true then _ else _) Q E s;rw[if_neg (by intro h;rw[hn,Bool.false_and]at h;cases h)];exact zxE hQ))
def ud(K:zzA)(a:Addr):It:=
 ⟨λi H=>∃xs x,ZT K H a xs/\xs[i]? = some x,λi H x H'=>H'=H/\∀xs,ZT K H a xs->xs[i]? = some x,λi H=>∃xs,ZT K H a xs/\xs.length<=i⟩
def oq(K:zzA)(a:Addr):It:=
 ⟨λi H=>∃xs x,Q2 K H a xs/\xs[i]? = some x,λi H x H'=>H'=H/\∀xs,Q2 K H a xs->xs[i]? = some x,λi H=>∃xs,Q2 K H a xs/\xs.length<=i⟩
def rN(lo:Int)(n:Nat):It:=⟨λi _=>i<n,λi H x H'=>H'=H/\x = .int (lo+i),λi _=>n<=i⟩
theorem Hi{P:Program}{w:World}{K:zzA}{tg:Expr}(a it:Addr):Turn P w K tg (ud K a) [it] it (λi h=>h.IsListIter it a i)where
 mem:=by simp
 obj:=λi h st b hb=>by
  have e:b=it:=by simpa using hb
  subst e;obtain⟨o,e,c,d⟩:=st;exact⟨o,e,λv z=>by rw[d]at z;cases z⟩
 keep:=λi h h' st k=>st.at λo e=>k it (by simp) o e
 item:=by
  intro X hP hw hK hc i pins s σ H E I hf st hg;subst hP hw hK;obtain⟨xs,x,hq,hx⟩:=hg;obtain⟨its,rv,p,hz⟩:=I.list hq;obtain⟨u,hu,ru⟩:=rv.get hx;obtain⟨f0,f1,f2,f3,f4,f5⟩:=hf it (by simp);refine wpAny_pyNext_list_item st p.isList (x:=u) (by simpa using hu) λh' st' sb=>?_;have I1:Inv X pins σ H {s with heap:=h'}:=I.turned (t':=s.toks) (λb o hb e=>(sb.2 b hb).trans e) f0 f1 f3 f4 f5;obtain⟨o,e,c,d⟩:=id st';exact⟨u,rfl,M9 (s:={s with heap:=h'}) e c d (by decide) ⟨x,H,I1,ru,⟨rfl,λys hy=>by rw[I.list_inj hy hq];exact hx⟩,st',λb hb=>(hf b hb).1⟩⟩
 done:=by
  intro X hP hw hK hc i pins s σ H E I hf st hg;subst hP hw hK;obtain⟨xs,hq,hx⟩:=hg;obtain⟨its,rv,p,hz⟩:=I.list hq;obtain⟨f0,f1,f2,f3,f4,f5⟩:=hf it (by simp);have hl:=rv.length;exact wpAny_pyNext_list_end (I.ok.hd hc) st p.isList (by simp;omega) λh' eb=>⟨rfl,I.turned (t':=s.toks) (λb o hb e=>eb b o hb e) f0 f1 f3 f4 f5⟩
 self:=λ_ _ _ _ _ st h=>wpAny_pyIter_listiter st h
theorem Fw{P:Program}{w:World}{K:zzA}{tg:Expr}(a it:Addr):Turn P w K tg (oq K a) [it] it (λi h=>h.IsTupleIter it a i)where
 mem:=by simp
 obj:=λi h st b hb=>by
  have e:b=it:=by simpa using hb
  subst e;obtain⟨o,e,c,d⟩:=st;exact⟨o,e,λv z=>by rw[d]at z;cases z⟩
 keep:=λi h h' st k=>st.at λo e=>k it (by simp) o e
 item:=by
  intro X hP hw hK hc i pins s σ H E I hf st hg;subst hP hw hK;obtain⟨xs,x,hq,hx⟩:=hg;obtain⟨its,rv,p,hz⟩:=I.tuple hq;obtain⟨u,hu,ru⟩:=rv.get hx;obtain⟨f0,f1,f2,f3,f4,f5⟩:=hf it (by simp);refine wpAny_pyNext_tuple_item st (show s.heap.IsTuple a its.toArray from p) (x:=u) (by simpa using hu) λh' st' sb=>?_;have I1:Inv X pins σ H {s with heap:=h'}:=I.turned (t':=s.toks) (λb o hb e=>(sb.2 b hb).trans e) f0 f1 f3 f4 f5;obtain⟨o,e,c,d⟩:=id st';exact⟨u,rfl,M9 (s:={s with heap:=h'}) e c d (by decide) ⟨x,H,I1,ru,⟨rfl,λys hy=>by rw[I.tuple_inj hy hq];exact hx⟩,st',λb hb=>(hf b hb).1⟩⟩
 done:=by
  intro X hP hw hK hc i pins s σ H E I hf st hg;subst hP hw hK;obtain⟨xs,hq,hx⟩:=hg;obtain⟨its,rv,p,hz⟩:=I.tuple hq;obtain⟨f0,f1,f2,f3,f4,f5⟩:=hf it (by simp);have hl:=rv.length;exact wpAny_pyNext_tuple_end (I.ok.hd hc) st (show s.heap.IsTuple a its.toArray from p) (by simp;omega) λh' eb=>⟨rfl,I.turned (t':=s.toks) (λb o hb e=>eb b o hb e) f0 f1 f3 f4 f5⟩
 self:=λ_ _ _ _ _ st h=>wpAny_pyIter_tupleiter st h
theorem FN{P:Program}{w:World}{K:zzA}{tg:Expr}(it:Addr)(lo:Int)(n:Nat):Turn P w K tg (rN lo n) [it] it (λi h=>IsRangeIter h it (lo+(i:Nat)*1) ((n:Int)-(i:Nat)) 1)where
 mem:=by simp
 obj:=λi h st b hb=>by
  have e:b=it:=by simpa using hb
  subst e;exact⟨_,st,λv z=>by
   have z':Data.fields _=Data.cell v:=z;cases z'⟩
 keep:=λi h h' st k=>k it (by simp) _ st
 item:=by
  intro X hP hw hK hc i pins s σ H E I hf st hg;subst hP hw hK;obtain⟨f0,f1,f2,f3,f4,f5⟩:=hf it (by simp);have W:=Walks.range (prog:=X.prog) (w:=X.w) (I.ok.hd hc) it lo 1 n;refine W.item i s _ _ hg st λv h' tk hv st' kk=>?_;obtain⟨t,rfl⟩:=hv;have I1:Inv X pins σ H {s with heap:=h',toks:=tk}:=I.turned (λb o hb e=>kk b o (by simpa using hb) e) f0 f1 f3 f4 f5;refine⟨_,rfl,M9 (s:={s with heap:=h',toks:=tk}) (n:="range_iterator") st' rfl rfl (by decide) ⟨.int (lo+i),H,I1,⟨t, ?_⟩,⟨rfl,rfl⟩,st',λb hb=>(hf b hb).1⟩⟩;rw[Int.mul_one]
 done:=by
  intro X hP hw hK hc i pins s σ H E I hf st hg;subst hP hw hK;obtain⟨f0,f1,f2,f3,f4,f5⟩:=hf it (by simp);exact wpAny_pyNext_range_end (I.ok.hd hc) st (by have:n<=i:=hg;omega) λh' eb=>⟨rfl,I.turned (t':=s.toks) (λb o hb e=>eb b o hb e) f0 f1 f3 f4 f5⟩
 self:=λ_ _ _ _ _ st h=>wpAny_pyIter_rangeiter st h
end L2
namespace L2
open PySem PySem.Spec PyProof.Rows
section
variable{X:Cx}{tg:Expr}
def OP(K:zzA)(tl:TE):TI:=λσ H R=>tl σ H λx H1=>∃a,x = .ref a/\(∃xs,ZT K H1 a xs)/\R (ud K a) H1
def ni(K:zzA)(tl:TE):TI:=λσ H R=>tl σ H λx H1=>∃a,x = .ref a/\(∃xs,Q2 K H1 a xs)/\R (oq K a) H1
theorem QU{l:Expr}{tl:TE}(hl:PE X l tl):PI X tg l (OP X.K tl):=by
 intro pins s σ H R I h;refine yY (hl pins s σ H _ I h) λv s1 ⟨x,H1,I1,r1,q1⟩=>?_;obtain⟨a,e,⟨xs,hq⟩,q⟩:=q1;subst e;cases r1;obtain⟨its,rv,p,hz⟩:=I1.list hq;refine wpAny_pyIter_list p.isList ?_;refine⟨s1.heap.objs.size,[s1.heap.objs.size],_,_,H1,rfl,I1.kept (t':=s1.toks) λb o e=>zxF _ e,Hi a _,⟨_,zxH _ rfl,rfl,rfl⟩,λb hb=>?_,q⟩;have e:b=s1.heap.objs.size:=by simpa using hb
 subst e;exact I1.fpOk (zzN _) (I1.hok.fresh (zzN _))
theorem Ft{l:Expr}{tl:TE}(hl:PE X l tl):PI X tg l (ni X.K tl):=by
 intro pins s σ H R I h;refine yY (hl pins s σ H _ I h) λv s1 ⟨x,H1,I1,r1,q1⟩=>?_;obtain⟨a,e,⟨xs,hq⟩,q⟩:=q1;subst e;cases r1;obtain⟨its,rv,p,hz⟩:=I1.tuple hq;refine wpAny_pyIter_tuple (show s1.heap.IsTuple a its.toArray from p) ?_;refine⟨s1.heap.objs.size,[s1.heap.objs.size],_,_,H1,rfl,I1.kept (t':=s1.toks) λb o e=>zxF _ e,Fw a _,⟨_,zxH _ rfl,rfl,rfl⟩,λb hb=>?_,q⟩;have e:b=s1.heap.objs.size:=by simpa using hb
 subst e;exact I1.fpOk (zzN _) (I1.hok.fresh (zzN _))
theorem Mj{pins:List (Addr×Obj)}{σ:St}{H:Hp}{s:Shared}{R:It->Hp->Prop}{E:Value->Shared->Prop}{lo hi:Int}{t u v:Tok}{tk:Nat}(I:Inv X pins σ H s)(h1 : -(2 ^ 62)<=lo)(h2:lo<2 ^ 62)(h3 : -(2 ^ 62)<=hi)(h4:hi<2 ^ 62)
 (q:R (rN lo (hi-lo).toNat) H):wpAny (model X.prog X.w) X.A (pyIter (.ref s.heap.objs.size)) (mz X pins σ tg R) E {s with heap:=s.heap.push {cls:=.type "range",data:=.fields #[.int lo t,.int hi u,.int 1 v]},toks:=tk}:=by
 refine wpAny_pyIter_range (IsRange.new ..) (small_one h1 h2 h3 h4) ?_;have I1:Inv X pins σ H {s with heap:=s.heap.push {cls:=.type "range",data:=.fields #[.int lo t,.int hi u,.int 1 v]},toks:=tk}:=I.kept λb o e=>zxF _ e;refine⟨(s.heap.push {cls:=.type "range",data:=.fields #[.int lo t,.int hi u,.int 1 v]}).objs.size,[(s.heap.push {cls:=.type "range",data:=.fields #[.int lo t,.int hi u,.int 1 v]}).objs.size],_,_,H,rfl,
  I1.kept (t':=tk) λb o e=>zxF _ e,FN _ lo (hi-lo).toNat, ?_,λb hb=>?_,q⟩
 . have e1:lo+((0:Nat):Int)*1=lo:=by simp
   have e2:(((hi-lo).toNat:Nat):Int)-((0:Nat):Int)=Builtin.Range.rangeSize lo hi 1:=by rw[rangeSize_one];split<;>omega
   show IsRangeIter _ _ (lo+((0:Nat):Int)*1) ((((hi-lo).toNat:Nat):Int)-((0:Nat):Int)) 1;rw[e1,e2];exact zxH _ rfl
 . have e:b=(s.heap.push {cls:=.type "range",data:=.fields #[.int lo t,.int hi u,.int 1 v]}).objs.size:=by simpa using hb
   subst e;exact I1.fpOk (zzN _) (I1.hok.fresh (zzN _))
def qc(ta:TA):TI:=λσ H R=>ta σ H λvs H1=>∃j:Int,vs=[.int j] /\ -(2 ^ 62)<=j/\j<2 ^ 62/\R (rN 0 j.toNat) H1
def qy(ta:TA):TI:=λσ H R=>ta σ H λvs H1=>∃i j:Int,vs=[.int i,.int j]/\(-(2 ^ 62)<=i/\i<2 ^ 62 /\ -(2 ^ 62)<=j/\j<2 ^ 62)/\R (rN i (j-i).toNat) H1
theorem Ke{a:Expr}{ta:TA}{p pos:Pos}(hg:Gl X "range")(hm:X.mg "range"=none)(ha:PA X [a] ta)(hs:starEach [a] X.env=[(false,eval a X.env)]:=by rfl):PI X tg (.Call (.Name "range" p) [a] [] pos) (qc ta):=by
 intro pins s σ H R I h;refine Call_ (ZG I hg hm boot_range (PyProof.Rows.callWith_type1 (yY (ha pos pins s σ H _ I h) λus s1 ⟨vs,H1,I1,r1,q1⟩=>?_) hs rfl));obtain⟨j,e,q1,q2,q⟩:=q1;subst e;cases r1 with
 |cons r rr=>
  cases rr;obtain⟨t,rfl⟩:=r;exact call_range_1 (Mj I1 (by omega) (by omega) q1 q2 (by simpa using q))
theorem Hj(hg:Gl X "range")(hm:X.mg "range"=none)(ha:PA X [a,b] ta)(hs:starEach [a,b] X.env=[(false,eval a X.env),(false,eval b X.env)]:=by rfl)(hs2:starEach [b] X.env=[(false,eval b X.env)]:=by rfl):
 PI X tg (.Call (.Name "range" p) [a,b] [] pos) (qy ta):=by
 intro pins s σ H R I h;refine Call_ (ZG I hg hm boot_range (PyProof.Rows.callWith_type1 (yY (ha pos pins s σ H _ I h) λus s1 ⟨vs,H1,I1,r1,q1⟩=>?_) (by rw[hs,hs2]) (by rw[hs2];rfl)));obtain⟨i,j,e,⟨q1,q2,q3,q4⟩,q⟩:=q1;subst e;cases r1 with
 |cons r rr=>
  cases rr with
  |cons r' rr=>
   cases rr;obtain⟨t,rfl⟩:=r;obtain⟨t',rfl⟩:=r';exact call_range_2 (Mj I1 q1 q2 q3 q4 q)
def sh(wi:TI)(g:TG)(tb:TS):TS:=λD σ H=>wi σ H λJ H1=>∃W:Nat->Nat->St->Hp->Prop,(∃m,W 0 m σ H1)/\∀i m σ H,W i m σ H->
 (J.stop i H/\D.nx σ H)\/(J.go i H/\∃N:St->Hp->Prop,(∀σ' H',N σ' H'->∃m',m'<m/\W (i+1) m' σ' H')/\∀x H',J.yld i H x H'->g x σ H' λσ2 H2=>tb {D with nx:=N,ct:=N,bk:=D.nx} σ2 H2)
def GA(fp:List Addr)(h:Heap):List (Addr×Obj):=fp.filterMap λb=>(h.get? b).map λo=>(b,o)
theorem Ys(hb:b ∈ fp)(e:h.get? b=some o):(b,o) ∈ GA fp h:=List.mem_filterMap.mpr ⟨b,hb,by rw[e];rfl⟩
theorem HL(hp:p ∈ GA fp h):p.1 ∈ fp/\h.get? p.1=some p.2:=by
 obtain⟨b,hb,e⟩:=List.mem_filterMap.mp hp;cases q:h.get? b with
 |none=>rw[q]at e;cases e
 |some o=>
  rw[q]at e;have e':(b,o)=p:=zzZ e;subst e';exact⟨hb,q⟩
theorem Inv.pinned(I:Inv X pins σ H s)(hf:∀b ∈ fp,Uq X pins H b)(ho:∀b ∈ fp,∃o,s.heap.get? b=some o/\∀v,o.data ≠ .cell v):Inv X (pins++GA fp s.heap) σ H s:=
 I.pins_of λp hp=>(zzM.mp hp).elim (λz=>I.pin p (zzL _ z)) λz=>by
  obtain⟨hb,e⟩:=HL z;obtain⟨f0,f1,f2,_⟩:=hf p.1 hb;obtain⟨o,e',d⟩:=ho p.1 hb;rw[e]at e';cases e';exact⟨e,f0,f1,f2,d⟩
theorem Inv.unpinned(I:Inv X (pins++pl) σ H s):Inv X pins σ H s:=I.pins_of λp hp=>I.pin p (zzL _ (zzP _ hp))
theorem FI(hp:PassesOwn (model X.prog X.w) X.A X.env X.xe)(hc:X.calm=true)(hi:PI X tg iter wi)(hg:PG X tg g)(hb:N5 X body tb)
 (hs:∀x,foldedSetIterable iter X.env x=pure x:=by intro _;rfl):PS X (.For tg iter body [] pos) (sh wi g tb):=by
 intro pins s σ H D I h;refine wpAny_For (yY (hi pins s σ H _ I h) λv s1 h1=>yY h1 λitv s2 h2=>?_) hs;obtain⟨it,fp,tn,J,H2,e,I2,T,st2,f2,W,⟨m0,w0⟩,turn⟩:=h2;subst e;have stat:∀{H':Hp},(∀b ∈ fp,H' b=none)->∀b ∈ fp,Uq X pins H' b:=λhn b hb=>⟨hn b hb,(f2 b hb).2⟩;refine codeAny_forLoop_any (λn s'=>∃i σ' H',Inv X pins σ' H' s'/\tn i s'.heap/\(∀b ∈ fp,H' b=none)/\W i n σ' H') ?_ m0 ⟨0,σ,H2,I2,st2,λb hb=>(f2 b hb).1,w0⟩
 rintro n s3 ⟨i,σ3,H3,I3,st3,fr3,w3⟩
 rcases turn i n σ3 H3 w3 with⟨stop,qn⟩|⟨go,N,hN,step⟩
 . refine wpAny_passesOwn hp (yY (T.done X rfl rfl rfl hc i pins s3 σ3 H3 X.xe I3 (stat fr3) st3 stop) λr s4 ⟨hr,I4⟩=>?_);subst hr;exact wpAny_execs_nil ⟨σ3,H3,I4,qn⟩
 . refine wpAny_passesOwn hp (yY (T.item X rfl rfl rfl hc i pins s3 σ3 H3 X.xe I3 (stat fr3) st3 go) λr s4 ⟨u,hr,h4⟩=>?_);subst hr;refine wpAny_passesOwn hp (yY h4 λ_ s5 ⟨x,H5,I5,r5,y5,st5,fr5⟩=>?_);have I5':=I5.pinned (stat fr5) (T.obj _ _ st5);refine wpAny_passesOwn hp (yY (hg _ s5 σ3 H5 x u _ I5' r5 (step x H5 y5)) λ_ s6 ⟨σ6,H6,I6,q6⟩=>?_);refine wpAny_passesOwn hp (yY (hb _ s6 σ6 H6 _ I6 q6) λf s7 q7=>?_);have again:∀{σ7:St}{H7:Hp},Inv X (pins++GA fp s5.heap) σ7 H7 s7->N σ7 H7->∃m,m<n/\∃i σ' H',Inv X pins σ' H' s7/\tn i s7.heap/\(∀b ∈ fp,H' b=none)/\W i m σ' H':=λ{σ7 H7} I7 n7=>by
    obtain⟨m',hm,w7⟩:=hN σ7 H7 n7;refine⟨m',hm,i+1,σ7,H7,I7.unpinned,T.keep _ _ _ st5 λb hb o e=>(I7.pin (b,o) (zzL _ (zzL _ (Ys hb e)))).1,λb hb=>?_,w7⟩;obtain⟨o,e,d⟩:=T.obj _ _ st5 b hb;exact(I7.pin (b,o) (zzL _ (zzL _ (Ys hb e)))).2.1
   cases f with
   |next=>obtain⟨σ7,H7,I7,n7⟩:=q7;exact again I7 n7
   |cont=>obtain⟨σ7,H7,I7,n7⟩:=q7;exact again I7 n7
   |brk=>obtain⟨σ7,H7,I7,q7⟩:=q7;exact⟨σ7,H7,I7.unpinned,q7⟩
   |ret v=>obtain⟨x7,σ7,H7,I7,r7,q7⟩:=q7;exact⟨x7,σ7,H7,I7.unpinned,r7,q7⟩
end
theorem Er{K:zzA}{a:Addr}{xs:List V}{g:TG}{tb:TS}{D:Ends}{σ:St}{H:Hp}(Pv:Nat->St->Hp->Prop)(h0:Pv 0 σ H)(hl:∀i σ H,i<=xs.length->Pv i σ H->ZT K H a xs)
 (hs:∀i x σ H,xs[i]? = some x->Pv i σ H->g x σ H λσ2 H2=>tb {D with nx:=Pv (i+1),ct:=Pv (i+1),bk:=D.nx} σ2 H2) (hd:∀σ H,Pv xs.length σ H->D.nx σ H):
 ∃W:Nat->Nat->St->Hp->Prop,(∃m,W 0 m σ H)/\∀i m σ H,W i m σ H->
  ((ud K a).stop i H/\D.nx σ H)\/((ud K a).go i H/\∃N:St->Hp->Prop,(∀σ' H',N σ' H'->∃m',m'<m/\W (i+1) m' σ' H')/\∀x H',(ud K a).yld i H x H'->g x σ H' λσ2 H2=>tb {D with nx:=N,ct:=N,bk:=D.nx} σ2 H2):=by
 refine⟨λi m σ H=>m=xs.length-i/\i<=xs.length/\Pv i σ H,⟨xs.length,by simp,Nat.zero_le _,h0⟩, ?_⟩
 rintro i m σ H ⟨rfl,hi,p⟩
 have q:=hl i σ H hi p
 by_cases hlt:i<xs.length
 . refine .inr ⟨⟨xs,xs[i],q,by simp[hlt]⟩,Pv (i+1),λσ' H' p'=>⟨xs.length-(i+1),by omega,rfl,hlt,p'⟩,λx H' y=>?_⟩;obtain⟨e,y⟩:=y;subst e;exact hs i x σ _ (y xs q) p
 . have e:i=xs.length:=by omega
   subst e;exact .inl ⟨⟨xs,q,zzN _⟩,hd σ H p⟩
end L2
namespace L2
open PySem PySem.Spec PyProof.Rows
abbrev R2:=V->V->Hp->VK->Prop
def Q3(X:Cx)(f:Value->Value->Sem Value)(r:R2):Prop:=
 ∀(pins:List (Addr×Obj)) (s:Shared) (σ:St) (H:Hp) (x y:V) (v u:Value) (Q:VK),Inv X pins σ H s->RelV x v->RelV y u->r x y H Q->
  wpAny (model X.prog X.w) X.A (f v u) (EP X pins σ Q) X.xe s
def YY(X:Cx)(f:Value)(r:List V->Hp->VK->Prop):Prop:=
 ∀(pins:List (Addr×Obj)) (s:Shared) (σ:St) (H:Hp) (xs:List V) (us:List Value) (Q:VK),Inv X pins σ H s->zQ xs us->r xs H Q->
  wpAny (model X.prog X.w) X.A (call f us) (EP X pins σ Q) X.xe s
def oC(X:Cx)(r:V->Hp->(Bool->Hp->Prop)->Prop):Prop:=
 ∀(pins:List (Addr×Obj)) (s:Shared) (σ:St) (H:Hp) (x:V) (v:Value) (Q:Bool->Hp->Prop),Inv X pins σ H s->RelV x v->r x H Q->
  wpAny (model X.prog X.w) X.A (truthy v) (TP X pins σ Q) X.xe s
def rQ(r:R2)(ta tb:TE):TE:=λσ H Q=>ta σ H λx H1=>tb σ H1 λy H2=>r x y H2 Q
def rI(C:Int->Int->Prop)(g:Int->Int->V):R2:=λx y H Q=>∃i j,x = .int i/\y = .int j/\C i j/\Q (g i j) H
def DO(g:Int->Int->V):R2:=λx y H Q=>∃i j,x = .int i/\y = .int j/\Q (g i j) H
section
variable{X:Cx}{a b c:Expr}{ta tb tc:TE}{pos:Pos}
theorem uR(ha:PE X a ta)(hb:PE X b tb){pins:List (Addr×Obj)}{s:Shared}{σ:St}{H:Hp}{R:V->V->Hp->Prop}(I:Inv X pins σ H s)
 (h:ta σ H λx H1=>tb σ H1 λy H2=>R x y H2) {Q:Value->Shared->Prop}{f:Value->Value->Sem Value}
 (hf:∀v u s2 x y H2,Inv X pins σ H2 s2->RelV x v->RelV y u->R x y H2->wpAny (model X.prog X.w) X.A (f v u) Q X.xe s2):
 wpAny (model X.prog X.w) X.A (eval a X.env) (λv s₁=>wpAny (model X.prog X.w) X.A (eval b X.env) (λu s₂=>wpAny (model X.prog X.w) X.A (f v u) Q X.xe s₂) X.xe s₁) X.xe s:=by
 refine yY (ha pins s σ H _ I h) λv s1 ⟨x,H1,I1,r1,q1⟩=>?_;refine yY (hb pins s1 σ H1 _ I1 q1) λu s2 ⟨y,H2,I2,r2,q2⟩=>?_;exact hf v u s2 x y H2 I2 r1 r2 q2
theorem DV{op:Operator}{r:R2}(ho:Q3 X (binaryOp op) r)(ha:PE X a ta)(hb:PE X b tb):PE X (.BinOp a op b pos) (rQ r ta tb):=by
 intro pins s σ H Q I h;exact wpAny_BinOp (uR ha hb I h λv u s2 x y H2 I2 rx ry q=>ho pins s2 σ H2 x y v u Q I2 rx ry q)
theorem mN{f:Value->Value->Sem Value}{C:Int->Int->Prop}{g:Int->Int->Int}
 (rule:∀(i j:Int) (t u:Tok) (s:Shared) (Q:Value->Shared->Prop) (E:Value->Shared->Prop),C i j->Q (.int (g i j) s.toks) {s with toks:=s.toks+1}->wpAny (model X.prog X.w) X.A (f (.int i t) (.int j u)) Q E s):
 Q3 X f (rI C λi j=>.int (g i j)):=by
 intro pins s σ H x y v u Q I rx ry h;obtain⟨i,j,rfl,rfl,hc,q⟩:=h;obtain⟨t,rfl⟩:=rx;obtain⟨t',rfl⟩:=ry;exact rule i j t t' s _ _ hc ⟨.int (g i j),H,I.tok _,⟨_,rfl⟩,q⟩
theorem pV{f:Value->Value->Sem Value}{g:Int->Int->Int}
 (rule:∀(i j:Int) (t u:Tok) (s:Shared) (Q:Value->Shared->Prop) (E:Value->Shared->Prop),Q (.int (g i j) s.toks) {s with toks:=s.toks+1}->wpAny (model X.prog X.w) X.A (f (.int i t) (.int j u)) Q E s):
 Q3 X f (DO λi j=>.int (g i j)):=by
 intro pins s σ H x y v u Q I rx ry h;obtain⟨i,j,rfl,rfl,q⟩:=h;obtain⟨t,rfl⟩:=rx;obtain⟨t',rfl⟩:=ry;exact rule i j t t' s _ _ ⟨.int (g i j),H,I.tok _,⟨_,rfl⟩,q⟩
theorem Js{f:Value->Value->Sem Value}{g:Int->Int->Bool}
 (rule:∀(i j:Int) (t u:Tok) (s:Shared) (Q:Value->Shared->Prop) (E:Value->Shared->Prop),Q (.bool (g i j)) s->wpAny (model X.prog X.w) X.A (f (.int i t) (.int j u)) Q E s):
 Q3 X f (DO λi j=>.bl (g i j)):=by
 intro pins s σ H x y v u Q I rx ry h;obtain⟨i,j,rfl,rfl,q⟩:=h;obtain⟨t,rfl⟩:=rx;obtain⟨t',rfl⟩:=ry;exact rule i j t t' s _ _ ⟨.bl (g i j),H,I,rfl,q⟩
def nj(i j:Int):Prop:=0<=j/\j<=1000000/\i.natAbs<2 ^ 64
theorem sO:Q3 X (binaryOp .Add) (DO λi j=>.int (i+j)):=pV λ_ _ _ _ _ _ _ q=>add_int q
theorem sW:Q3 X (binaryOp .Sub) (DO λi j=>.int (i-j)):=pV λ_ _ _ _ _ _ _ q=>sub_int q
theorem O1:Q3 X (binaryOp .Mod) (rI (λ_ j=>0<j) λi j=>.int (i%j)):=mN λi j _ _ _ _ _ hc q=>by
 have h1:(0:Int)<j:=hc;exact mod_int' (by omega) (by rw[Int.fmod_eq_emod_of_nonneg i (by omega)];exact q)
theorem uT:Q3 X (binaryOp .Pow) (rI nj λi j=>.int (i ^ j.toNat)):=mN λ_ _ _ _ _ _ _ hc q=>pow_int_small hc.1 hc.2.1 hc.2.2 q
end
section
variable{X:Cx}{a b c:Expr}{ta tb tc:TE}{pos:Pos}
theorem xy(I:Inv X pins σ H s)(q:Q (.bl k) H)(e:k=k'):EP X pins σ Q (.bool k') s:=by
 subst e;exact⟨.bl k,H,I,rfl,q⟩
theorem pW:Q3 X (compareOp .Lt) (DO λi j=>.bl (decide (i<j))):=Js λ_ _ _ _ _ _ _ q=>lt_int q
theorem qo:Q3 X (compareOp .LtE) (DO λi j=>.bl (decide (i<=j))):=Js λ_ _ _ _ _ _ _ q=>le_int q
theorem qC:Q3 X (compareOp .Gt) (DO λi j=>.bl (decide (j<i))):=Js λ_ _ _ _ _ _ _ q=>gt_int q
theorem rY:Q3 X (compareOp .GtE) (DO λi j=>.bl (decide (j<=i))):=Js λ_ _ _ _ _ _ _ q=>ge_int q
theorem S4:Q3 X (compareOp .In) (λx y H Q=>∃i j,x = .str i/\y = .str j/\Q (.bl (!(Builtin.Str.occurrences j i 0 j.length 1).isEmpty)) H):=by
 intro pins s σ H x y v u Q I rx ry h;obtain⟨i,j,rfl,rfl,q⟩:=h;obtain⟨t,rfl⟩:=rx;obtain⟨t',rfl⟩:=ry;exact in_str (xy I q rfl)
theorem uX:Q3 X (compareOp .Is) (λx y H Q=>y = .non/\Q (.bl (decide (x = .non))) H):=by
 intro pins s σ H x y v u Q I rx ry h;obtain⟨rfl,q⟩:=h;cases ry;refine is_none_gen (xy I q ?_);cases x<;>first
  |(cases rx;rfl)
  |(obtain⟨t,rfl⟩:=rx;rfl)
theorem JI:Q3 X (compareOp .IsNot) (λx y H Q=>y = .non/\Q (.bl (!decide (x = .non))) H):=by
 intro pins s σ H x y v u Q I rx ry h;obtain⟨rfl,q⟩:=h;cases ry;refine isnot_none_gen (xy I q ?_);cases x<;>first
  |(cases rx;rfl)
  |(obtain⟨t,rfl⟩:=rx;rfl)
theorem NI:Q3 X (compareOp .NotIn) (λx y H Q=>∃i j,x = .str i/\y = .str j/\Q (.bl (!(!(Builtin.Str.occurrences j i 0 j.length 1).isEmpty))) H):=by
 intro pins s σ H x y v u Q I rx ry h;obtain⟨i,j,rfl,rfl,q⟩:=h;obtain⟨t,rfl⟩:=rx;obtain⟨t',rfl⟩:=ry;exact notIn_str (xy I q rfl)
theorem FR(b:Expr)(h:op ≠ .In:=by decide)(h2:op ≠ .NotIn:=by decide):behindInMarks op b=false:=by
 have e1:(op==CmpOp.In)=false:=by cases op<;>first|rfl|exact absurd rfl h
 have e2:(op==CmpOp.NotIn)=false:=by cases op<;>first|rfl|exact absurd rfl h2
 cases b<;>simp[behindInMarks,e1,e2]
theorem AL{op:CmpOp}{r:R2}(ho:Q3 X (compareOp op) r)(ha:PE X a ta)(hb:PE X b tb)(hm:behindInMarks op b=false):PE X (.Compare a [op] [b] pos) (rQ r ta tb):=by
 intro pins s σ H Q I h;exact wpAny_Compare1 (uR ha hb I h λv u s2 x y H2 I2 rx ry q=>ho pins s2 σ H2 x y v u Q I2 rx ry q) hm
def Dv(t:TE):TT:=λσ H Q=>t σ H λx H'=>∃k,x = .bl k/\Q k H'
theorem B6(ho:Q3 X (compareOp op) r)(ha:PE X a ta)(hb:PE X b tb)(hm:behindInMarks op b=false):PT X (.Compare a [op] [b] pos) (Dv (rQ r ta tb)):=by
 intro pins s σ H Q I h;refine wpAny_isTrue_Compare1 (yY (ha pins s σ H _ I h) λv s1 ⟨x,H1,I1,r1,q1⟩=>yY (hb pins s1 σ H1 _ I1 q1) λu s2 ⟨y,H2,I2,r2,q2⟩=>
  yY (ho pins s2 σ H2 x y v u _ I2 r1 r2 q2) λc s3 ⟨z,H3,I3,r3,k,e,q3⟩=>?_) hm
 subst e;cases r3;exact wpAny_truthy_bool ⟨H3,I3,q3⟩
def Cy(r r':R2)(ta tb tc:TE):TE:=λσ H Q=>ta σ H λx H1=>tb σ H1 λy H2=>r x y H2 λz H3=>∃k,z = .bl k/\
 (if k=true then tc σ H3 λw' H4=>r' y w' H4 Q else Q (.bl false) H3)
theorem I_(ho:Q3 X (compareOp op) r)(ho':Q3 X (compareOp op') r')(ha:PE X a ta)(hb:PE X b tb)(hc:PE X c tc)
 (hm:lastMarks [op,op'] [b,c]=false:=by with_unfolding_all rfl):PT X (.Compare a [op,op'] [b,c] pos) (Dv (Cy r r' ta tb tc)):=by
 intro pins s σ H Q I h;refine isTrue_chain (yY (ha pins s σ H _ I h) λv s1 ⟨x,H1,I1,r1,q1⟩=>test_link (yY (hb pins s1 σ H1 _ I1 q1) λu s2 ⟨y,H2,I2,r2,q2⟩=>
  yY (ho pins s2 σ H2 x y v u _ I2 r1 r2 q2) λd s3 ⟨z,H3,I3,r3,k,e,q3⟩=>?_)) hm
 subst e;cases r3;refine wpAny_truthy_bool ?_;cases k with
 |false=>
  obtain⟨k',e',q'⟩:=q3;cases e';exact ite_ff ⟨H3,I3,q'⟩
 |true=>
  refine ite_tt (test_last (yY (hc pins s3 σ H3 _ I3 q3) λw' s4 ⟨z',H4,I4,r4,q4⟩=>yY (ho' pins s4 σ H4 y z' u w' _ I4 r2 r4 q4) λd' s5 ⟨z2,H5,I5,r5,k2,e2,q5⟩=>?_));subst e2;cases r5;exact wpAny_truthy_bool ⟨H5,I5,q5⟩
def t7(K:zzA)(x:V)(H:Hp)(k:Bool):Prop:=
 match x with
 | .non=>k=false
 | .bl b=>k=b
 | .int i=>k=(i != 0)
 | .str y=>y.length<=sizeLine/\k=((y.length:Int) != 0)
 | .byt y=>y.size<=sizeLine/\k=((y.size:Int) != 0)
 | .ref p=>(∃xs,ZT K H p xs/\k = !xs.isEmpty)\/(∃xs,Q2 K H p xs/\k = !xs.isEmpty)\/∃kvs,H p=some (.dK kvs)/\k = !kvs.isEmpty
 |_=>False
theorem Fb(r:KV kvs vs):(!vs.isEmpty) = !kvs.isEmpty:=by
 cases r<;>rfl
theorem Gh(r:zQ xs its):(!its.toArray.isEmpty) = !xs.isEmpty:=by
 cases r<;>simp
theorem Vn:(sizeLine:Nat)<2 ^ 63:=by rw[sizeLine_eq];decide
theorem tK:oC X (λx H Q=>∃k,t7 X.K x H k/\Q k H):=by
 intro pins s σ H x v Q I rx h;obtain⟨k,e,q⟩:=h;have hl:=Vn;have hs:sizeLine=16777216:=sizeLine_eq;cases x with
 |non=>
  cases rx;have e':k=false:=e;subst e';exact truthy_none ⟨H,I,q⟩
 |bl b=>
  cases rx;have e':k=b:=e;subst e';exact wpAny_truthy_bool ⟨H,I,q⟩
 |int i=>
  obtain⟨t,rfl⟩:=rx;have e':k=(i != 0):=e;subst e';exact PySem.P.truthy_int ⟨H,I,q⟩
 |str y=>
  obtain⟨t,rfl⟩:=rx;obtain⟨hy,e'⟩:y.length<=sizeLine/\k=((y.length:Int) != 0):=e;subst e';exact PySem.P.truthy_str (by omega) ⟨H,I.tok _,q⟩
 |byt y=>
  obtain⟨t,rfl⟩:=rx;obtain⟨hy,e'⟩:y.size<=sizeLine/\k=((y.size:Int) != 0):=e;subst e';exact PySem.W.truthy_bytes (by omega) ⟨H,I.tok _,q⟩
 |ref p=>
  cases rx;have e':(∃xs,ZT X.K H p xs/\k = !xs.isEmpty)\/(∃xs,Q2 X.K H p xs/\k = !xs.isEmpty)\/∃kvs,H p=some (.dK kvs)/\k = !kvs.isEmpty:=e
  rcases e' with⟨xs,hx,e'⟩|⟨xs,hx,e'⟩|⟨kvs,hx,e'⟩
  . subst e';obtain⟨its,r,pl,hz⟩:=I.list hx;have hlen:=r.length;exact wpAny_truthy_list pl.isList (by simp only[zzH];omega) ⟨H,I.tok _,by rw[Gh r];exact q⟩
  . subst e';obtain⟨its,r,pl,hz⟩:=I.tuple hx;have hlen:=r.length;exact truthy_tuple pl (by simp only[zzH];omega) ⟨H,I.tok _,by rw[Gh r];exact q⟩
  . subst e';obtain⟨hz,hS,vs,r,m⟩:kvs.length<=sizeLine/\(p==sysModules)=false/\∃vs,KV kvs vs/\s.heap.DictOf (yH X.prog X.w) p vs:=I.hok p _ hx;have hlen:kvs.length=vs.length:=Paired.length r;exact wpAny_truthy_dict hS m (by omega) ⟨H,I.tok _,by rw[Fb r];exact q⟩
 |_=>exact(show False from e).elim
theorem Cm(ha:PE X a ta)(he:∀whole,isTrue a X.env whole=(do let v <-whole;standAt a.pos;holding [v] (truthy v))):
 PT X a (λσ H Q=>ta σ H λx H'=>∃k,t7 X.K x H' k/\Q k H'):=by
 intro pins s σ H Q I h;exact isTrue_plain (yY (ha pins s σ H _ I h) λv s1 ⟨x,H1,I1,r1,q1⟩=>tK pins s1 σ H1 x v Q I1 r1 q1) (he _)
theorem FU:Q3 X (binaryOp .Add) (λx y H Q=>∃i j,x = .str i/\y = .str j/\i.length+j.length<=sizeLine/\Q (.str (i++j)) H):=by
 intro pins s σ H x y v u Q I rx ry h;obtain⟨i,j,rfl,rfl,hz,q⟩:=h;obtain⟨t,rfl⟩:=rx;obtain⟨t',rfl⟩:=ry;exact add_str (λt' tk=>⟨.str (i++j),H,I.tok _,⟨_,rfl⟩,q⟩) hz
theorem vals1(r:zQ [x] us):∃u,us=[u]/\RelV x u:=by
 cases r with
 |cons r1 r2=>cases r2;exact⟨_,rfl,r1⟩
theorem vals2(r:zQ [x,y] us):∃u w',us=[u,w']/\RelV x u/\RelV y w':=by
 cases r with
 |cons r1 r2=>
  cases r2 with
  |cons r3 r4=>cases r4;exact⟨_,_,rfl,r1,r3⟩
theorem Hu(hc:X.calm=true):YY X (.builtin "max") (λxs H Q=>∃i j,xs=[.int i,.int j]/\Q (.int (if j > i then j else i)) H):=by
 intro pins s σ H xs us Q I r h;obtain⟨i,j,rfl,q⟩:=h;obtain⟨u,w',rfl,⟨t,rfl⟩,⟨t',rfl⟩⟩:=vals2 r;refine max_two_ints (I.ok.hd hc) λh' tk k=>⟨_,H,I.kept k, ?_,q⟩
 by_cases hj:j > i
 . rw[if_pos hj,if_pos hj];exact⟨_,rfl⟩
 . rw[if_neg hj,if_neg hj];exact⟨_,rfl⟩
theorem He(hc:X.calm=true):YY X (.builtin "min") (λxs H Q=>∃i j,xs=[.int i,.int j]/\Q (.int (if j<i then j else i)) H):=by
 intro pins s σ H xs us Q I r h;obtain⟨i,j,rfl,q⟩:=h;obtain⟨u,w',rfl,⟨t,rfl⟩,⟨t',rfl⟩⟩:=vals2 r;refine min_two_ints (I.ok.hd hc) λh' tk k=>⟨_,H,I.kept k, ?_,q⟩
 by_cases hj:j<i
 . rw[if_pos hj,if_pos hj];exact⟨_,rfl⟩
 . rw[if_neg hj,if_neg hj];exact⟨_,rfl⟩
theorem Ks:YY X (.type "int") (λxs H Q=>(∃i,xs=[.int i]/\Q (.int i) H)\/∃k,xs=[.bl k]/\Q (.int (if k then 1 else 0)) H):=by
 intro pins s σ H xs us Q I r h
 rcases h with⟨i,rfl,q⟩|⟨k,rfl,q⟩
 . obtain⟨u,rfl,t,rfl⟩:=vals1 r;exact call_int_int ⟨.int i,H,I,⟨_,rfl⟩,q⟩
 . obtain⟨u,rfl,r1⟩:=vals1 r;cases r1;exact call_int_bool ⟨.int (if k then 1 else 0),H,I.tok _,⟨_,rfl⟩,q⟩
theorem LD:YY X (.type "str") (λxs H Q=>∃i,xs=[.int i]/\i.natAbs.log2<1920/\Q (.str (toString i)) H):=by
 intro pins s σ H xs us Q I r h;obtain⟨i,rfl,hz,q⟩:=h;obtain⟨u,rfl,t,rfl⟩:=vals1 r;exact PySem.P.str_of_int hz ⟨.str _,H,I.tok _,⟨_,rfl⟩,q⟩
end
end L2
namespace L2
open PySem PySem.Spec PyProof.Rows
structure ObjM(h:Heap)(x dx C:Addr)(mA:Str->Option Value):Prop where
 obj:h.get? x=some (PySem.W.instObj C dx)
 ns:h.Ns1 dx mA
 ne:dx≠x
theorem GX.some_of(r:GX (some v) o):∃u,o=some u/\RelV v u:=by
 cases o with
 |none=>exact(show False from r).elim
 |some u=>exact⟨u,rfl,r⟩
structure Cls(K:zzA)(C:Addr):Prop where
 pg:PySem.W.plainGet K C Str.empty=true
 hd:PySem.W.hasDictIn K C=true
 po:PySem.W.plainOver K C=true
 sa:PySem.W.findIn K (.ref C) "__setattr__"=some (some (.builtin "object.__setattr__"))
structure Con(K:zzA)(C:Addr)(f:Str)(v:V)(u:Value):Prop where
 at_:PySem.W.findIn K (.ref C) f=some (some u)
 rel:RelV v u
 get:PySem.W.specialIn K u "__get__"=some none
 cp:PySem.W.copiedNames.contains f=false
structure Meth(K:zzA)(C:Addr)(m:Str)(f:Addr):Prop where
 at_:PySem.W.findIn K (.ref C) m=some (some (.ref f))
 fn:PySem.W.isFn K (.ref f)=true
 kp:PySem.W.keepIn K (.ref f)=true
section
variable{X:Cx}{pins:List (Addr×Obj)}{σ:St}{H:Hp}{s:Shared}{A:Around}{E:Value->Shared->Prop}{Q:Value->Shared->Prop}{c:Value}{b:Bool}
inductive TyOf(K:zzA)(H:Hp):V->Value->Prop where
 |non:TyOf K H .non (.type "NoneType")
 |bl (x:Bool):TyOf K H (.bl x) (.type "bool")
 |int (i:Int):TyOf K H (.int i) (.type "int")
 |str (x:Str):TyOf K H (.str x) (.type "str")
 |flt (x:UInt64):TyOf K H (.flt x) (.type "float")
 |lst {a:Addr}{xs:List V}(e:H a=some (.lst xs)):TyOf K H (.ref a) (.type "list")
 |frz {a:Addr}{o:Obj}{xs:List V}(e:H a=some (.frz o (.lst xs))):TyOf K H (.ref a) (.type "list")
 |tup {a:Addr}{xs:List V}(e:H a=some (.tup xs)):TyOf K H (.ref a) (.type "tuple")
 |dK {a:Addr}{kvs:List (Key×V)}(e:H a=some (.dK kvs)):TyOf K H (.ref a) (.type "dict")
 |dT {a:Addr}{kvs:List (List Key×V)}(e:H a=some (.dT kvs)):TyOf K H (.ref a) (.type "dict")
 |ins {a C dx:Addr}{fs:List (Str×V)}(e:H a=some (.ins C dx fs)) (cl:Cls K C) (ha:PySem.W.findIn K (.ref C) "__class__"=some (some (.builtin "object.__class__")))
  (hn:PySem.W.specialIn K (.builtin "object.__class__") "__get__"=some (some (.builtin "getset_descriptor.__get__"))) (htk:PySem.W.takesIn K (.builtin "object.__class__")=some true)
  (hm:PySem.W.mroIn K C (.type "object")=some true):TyOf K H (.ref a) (.ref C)
end
end L2
namespace L2
open PySem PySem.Spec PyProof.Rows
structure Room(k:Nat)(A:Around):Prop where
 hd:A.handled=none
 dp:A.depth+3*k+5<recursionLimit
 un:A.units+16*k+200<cLine
 gd:A.guards=some []
theorem Room.mono(r:Room k A)(h:j<=k):Room j A:=⟨r.hd,by have:=r.dp;omega,by have:=r.un;omega,r.gd⟩
theorem Room.deeper(r:Room (k+1) A)(env:Env):Room k (A.deeper env):=
 ⟨r.hd,by have:=r.dp;show A.depth+1+3*k+5<_;omega,by have:=r.un;show A.units+3+16*k+200<_;omega,r.gd⟩
theorem Room.depth(r:Room k A):A.depth<recursionLimit:=by have:=r.dp;omega
def tH:TA:=λ_ H Q=>Q [] H
def Oh(ta:TE)(tr:TA):TA:=λσ H Q=>ta σ H λx H1=>tr σ H1 λxs H2=>Q (x::xs) H2
section
variable{X:Cx}{e:Expr}{es:List Expr}{te:TE}{t:TA}{pos:Pos}
theorem YT:PA X [] tH:=λ_ _ _ _ H Q I h=>Calls.spliced_nil ⟨[],H,I,.nil,h⟩
theorem wR(ha:PE X e te)(hr:PA X es t)(hs:starEach (e::es) X.env=(false,eval e X.env)::starEach es X.env:=by rfl):PA X (e::es) (Oh te t):=by
 intro pos pins s σ H Q I h;rw[hs];show wpAny _ _ (spliced ((false,eval e X.env)::backTo pos (starEach es X.env))) _ _ s;refine Calls.spliced_cons (yY (ha pins s σ H _ I h) λu s1 ⟨x,H1,I1,r1,q1⟩=>?_);exact yY (hr pos pins s1 σ H1 _ I1 q1) λus s2 ⟨xs,H2,I2,r2,q2⟩=>⟨x::xs,H2,I2,.cons r1 r2,q2⟩
def ng(t:TA):TE:=λσ H Q=>t σ H λxs H1=>xs.length<=sizeLine/\∀p,H1 p=none->Q (.ref p) (upd H1 p (.tup xs))
def o7(t:TA):TE:=λσ H Q=>t σ H λxs H1=>xs.length<=sizeLine/\∀p,H1 p=none->Q (.ref p) (upd H1 p (.lst xs))
theorem tD(h:PA X es t):PE X (.Tuple es x1 pos) (ng t):=by
 intro pins s σ H Q I hq;refine wpAny_Tuple_spliced (yY (h pos pins s σ H _ I hq) λus s1 ⟨xs,H1,I1,r,z,q⟩=>⟨by rw[<-r.length];exact z, ?_⟩);have hf:H1 s1.heap.objs.size=none:=I1.hok.fresh (zzN _);refine⟨.ref s1.heap.objs.size,upd H1 s1.heap.objs.size (.tup xs),I1.laid (t':=s1.toks) (λb u e=>zxF _ e) (zzN _) ?_,rfl,q _ hf⟩;exact⟨z,us,r,⟨_,zxH _ rfl,rfl,_,rfl⟩⟩
theorem sR(h:PA X es t):PE X (.List es pos) (o7 t):=by
 intro pins s σ H Q I hq;refine wpAny_List_spliced (yY (h pos pins s σ H _ I hq) λus s1 ⟨xs,H1,I1,r,z,q⟩=>⟨by rw[<-r.length];exact z, ?_⟩);have hf:H1 s1.heap.objs.size=none:=I1.hok.fresh (zzN _);refine⟨.ref s1.heap.objs.size,upd H1 s1.heap.objs.size (.lst xs),I1.laid (t':=s1.toks) (λb u e=>zxF _ e) (zzN _) ?_,rfl,q _ hf⟩;exact⟨z,us,0,r,zxH _ rfl⟩
end
abbrev Sp:=List V->Hp->VK->XK->Prop
abbrev H9:=List Env->Hp->Shared->XK->Value->Shared->Prop
structure Env0(P:Program)(w:World)(K:zzA)(mg:Str->Option Value)(base:Heap)(A:Around)(outer:List Env)(s:Shared)(H:Hp):Prop where
 frames:A.frames=some outer
 mod:Mod K mg base
 bs:∀b o,base.get? b=some o->s.heap.get? b=some o/\H b=none
 bsz:base.objs.size<=s.heap.objs.size
 funs:s.heap.FunFrames base outer
 frf:∀b ∈ H0 outer,H b=none
 hok:Rw P w H s.heap
 bare:AllBare s.gens
def CE(outer:List Env)(P:Program)(w:World)(H:Hp)(s:Shared)(Q:VK)(u:Value)(s':Shared):Prop:=
 ∃v H',s'.os=s.os/\AllBare s'.gens/\Un (H0 outer) [] H H' s.heap s'.heap/\Rw P w H' s'.heap/\RelV v u/\Q v H'
def CR(CX:H9)(outer:List Env)(P:Program)(w:World)(H:Hp)(s:Shared)(Q:VK)(E:XK)(r:Result)(s':Shared):Prop:=
 match r with
 | .ok (.ret u)=>CE outer P w H s Q u s'
 | .ok _=>False
 | .error e=>CX outer H s E e s'
structure FnOk(P:Program)(w:World)(K:zzA)(mg:Str->Option Value)(base:Heap)(CX:H9)(k:Nat)(f:Addr)(fd:FuncData)(ps:List Str)(sp:Sp):Prop where
 len:∀vs H Q E,sp vs H Q E->vs.length=ps.length
 run:∀(A:Around) (outer:List Env) (s:Shared) (H:Hp) (args:Args) (us:List Value) (vs:List V) (Q:VK) (E:XK),Room k A->Env0 P w K mg base A outer s H->BindsTo s fd args (ps.zip us)->zQ vs us->sp vs H Q E->
  codeAny (model P w) A (.call (.ref f) args) (CR CX outer P w H s Q E) s
theorem FnOk.imp{P:Program}{w:World}{K:zzA}{mg:Str->Option Value}{base:Heap}{CX:H9}{k:Nat}{f:Addr}{fd:FuncData}{ps:List Str}{sp sp':Sp}(F:FnOk P w K mg base CX k f fd ps sp)
 (h:∀vs H Q E,sp' vs H Q E->sp vs H Q E):FnOk P w K mg base CX k f fd ps sp':=
 ⟨λvs H Q E q=>F.len vs H Q E (h _ _ _ _ q),λA outer s H args us vs Q E hr he hb hv hs=>F.run A outer s H args us vs Q E hr he hb hv (h _ _ _ _ hs)⟩
section
variable{X:Cx}{pins:List (Addr×Obj)}{σ:St}{H:Hp}{s s':Shared}
theorem Inv.env0(I:Inv X pins σ H s):Env0 X.prog X.w X.K X.mg X.base X.A X.stack s H:=
 ⟨I.ok.frames,I.ok.mod,I.bs,zzO I.ok.bsz I.sz,I.stack,I.stkFree,I.hok,I.bare⟩
theorem Inv.after(I:Inv X pins σ H s)(h:CE X.stack X.prog X.w H s Q u s'):EP X pins σ Q u s':=by
 obtain⟨v,H',os,bare,un,hok,r,q⟩:=h;obtain⟨hh,g,d,t,os'⟩:=s';obtain rfl:os'=s.os:=os;exact⟨v,H',I.call (h':=hh) (g':=g) (d':=d) (t':=t) (ch:=[]) un hok bare (λb z=>absurd z (by simp)),r,q⟩
end
def DM(sp:Sp)(dvs:List V)(E:XK)(t:TA):TE:=λσ H Q=>t σ H λvs H1=>sp (vs++dvs) H1 Q E
def Binds(K:zzA)(fd:FuncData)(ps:List Str)(ds:List Value):Prop:=
 ∀(s:Shared) (us:List Value),K.In s.heap->(us++ds).length=ps.length->BindsTo s fd ⟨us,[]⟩ (ps.zip (us++ds))
theorem Binds.all{K:zzA}{fd:FuncData}{ps:List Str}(h:∀us:List Value,us.length=ps.length->bindArgs fd ⟨us,[]⟩=pure (ps.zip us)):Binds K fd ps []:=λs us _ hl=>by
 rw[zyE]at hl ⊢;exact .of_eq (h us hl)
def TB(CX:H9)(X:Cx)(E:XK):Prop:=∀(pins:List (Addr×Obj)) (σ:St) (H:Hp) (s:Shared) (e:Value) (s':Shared),Inv X pins σ H s->CX X.stack H s E e s'->X.xe e s'
section
variable{X:Cx}{CX:H9}{k:Nat}{f C:Addr}{fd:FuncData}{ps:List Str}{sp:Sp}{dvs:List V}{ds:List Value}{E:XK}{x m:Str}{p pos apos:Pos}{e o:Expr}{es:List Expr}{ta:TE}{t:TA}
theorem sE(F:FnOk X.prog X.w X.K X.mg X.base CX k f fd ps sp)(hr:Room k X.A)(hb:Binds X.K fd ps ds)(hd:zQ dvs ds)(hx:TB CX X E)
 (I:Inv X pins σ H s) (r:zQ vs us) (h:sp (vs++dvs) H Q E):wpAny (model X.prog X.w) X.A (call (.ref f) us) (EP X pins σ Q) X.xe s:=by
 have r2:zQ (vs++dvs) (us++ds):=r.append hd;have hl:(us++ds).length=ps.length:=by rw[<-r2.length];exact F.len _ _ _ _ h
 refine wpAny_call (codeAny_mono (F.run X.A X.stack s H ⟨us,[]⟩ (us++ds) (vs++dvs) Q E hr I.env0 (hb s us I.kIn hl) r2 h) λr s' hq=>?_);cases r with
 |error e=>exact hx pins σ H s e s' I hq
 |ok fl=>
  cases fl with
  |ret u=>exact I.after hq
  |next=>exact False.elim hq
  |brk=>exact False.elim hq
  |cont=>exact False.elim hq
theorem Bm(F:FnOk X.prog X.w X.K X.mg X.base CX k f fd ps sp)(hr:Room k X.A)(hg:Gl X x)(hm:X.mg x=some (.ref f))(hk:PySem.W.keepIn X.K (.ref f)=true)(hb:Binds X.K fd ps ds)(hd:zQ dvs ds)(hx:TB CX X E)
 (ha:PA X (e::es) t) (hdb:(x==("__debug__":Str))=false:=by decide) (he:starEach (e::es) X.env=(false,eval e X.env)::starEach es X.env:=by rfl) (hpl:(backTo pos (starEach es X.env)).any (·.1)=false:=by rfl):
 PE X (.Call (.Name x p) (e::es) [] pos) (DM sp dvs E t):=by
 intro pins s σ H Q I h;refine wpAny_Call_Name_kw (Bq I hg hm ?_ hdb);refine PySem.W.callWith_K (h₀:=X.base) I.ok.mod.kin hk (yY (ha pos pins s σ H _ I h) λus s1 ⟨vs,H1,I1,r,q⟩=>⟨I1.kIn, ?_⟩) he hpl;exact sE F hr hb hd hx I1 r q
structure Mk(K:zzA)(C f:Addr):Prop where
 makes:PySem.W.makesIn K C=true
 init:PySem.W.findIn K (.ref C) "__init__"=some (some (.ref f))
 fn:PySem.W.isFn K (.ref f)=true
 kp:PySem.W.keepIn K (.ref C)=true
end
section
variable{X:Cx}{CX:H9}{k:Nat}{f C:Addr}{fd:FuncData}{ps ks:List Str}{sp:Sp}{E:XK}{x m:Str}{p pos apos kpos:Pos}{e o:Expr}{es:List Expr}{kws:List Keyword}{te ta:TE}{t tk:TA}{nm:Option Str}
structure KBinds(K:zzA)(fd:FuncData)(ps ks:List Str)(g:List Value->List Value->List Value)(gV:List V->List V->List V):Prop where
 to:∀(s:Shared) (us ws:List Value),K.In s.heap->(g us ws).length=ps.length->BindsTo s fd ⟨us,ks.zip ws⟩ (ps.zip (g us ws))
 rel:∀{vs:List V}{us:List Value}{zs:List V}{ws:List Value},zQ vs us->zQ zs ws->zQ (gV vs zs) (g us ws)
variable{g:List Value->List Value->List Value}{gV:List V->List V->List V}
end
structure FnScope(N P:List Str)(sc:Scope):Prop where
 kind:sc.kind = .function
 co:sc.isCoroutine=false
 gen:sc.isGenerator=false
 nd:N.Nodup
 pre:N.take P.length=P
 par:∀x ∈ P,sc.names.lookup x=some .local\/sc.names.lookup x=some .cell
 nofree:∀y ∈ sc.names,y.2 ≠ .free
theorem KJ{kindOf:Str->Option NameKind}{x:Str}:∀{binds:List (Str×Value)}{m:Str->Option Value},(∀v,(x,v) ∉ binds)->bindL kindOf binds m x=m x
 | [],_,_=>rfl
 |(n,v)::r,m,h=>by
  unfold bindL;rw[KJ λw hw=>h w (zzD _ hw)]
  split
  . have:x≠n:=by rintro rfl;exact h v zzF
    simp[this]
  . rfl
theorem Lk{kindOf:Str->Option NameKind}{x:Str}:∀{binds:List (Str×Value)}{m:Str->Option Value},(∀v,(x,v) ∉ binds)->bindC kindOf binds m x=m x
 | [],_,_=>rfl
 |(n,v)::r,m,h=>by
  unfold bindC;rw[Lk λw hw=>h w (zzD _ hw)]
  split
  . rfl
  . have:x≠n:=by rintro rfl;exact h v zzF
    simp[this]
theorem Lu{kindOf:Str->Option NameKind}{x:Str}{v:Value}:∀{P:List Str}{vs:List Value}{i:Nat}{m:Str->Option Value},P.Nodup->P[i]? = some x->vs[i]? = some v->kindOf x=some .local->
 bindL kindOf (P.zip vs) m x=some v
 | [],_,_,_,_,h,_,_=>by simp at h
 |_::_,[],_,_,_,_,h,_=>by simp at h
 |p::P,w::vs,0,m,nd,h1,h2,hk=>by
  simp at h1 h2;subst h1;subst h2;show bindL kindOf ((p,w)::P.zip vs) m p=_;unfold bindL;rw[KJ λv hv=>(zzW.mp nd).1 (List.of_mem_zip hv).1,if_pos hk];simp
 |p::P,w::vs,i+1,m,nd,h1,h2,hk=>by
  show bindL kindOf ((p,w)::P.zip vs) m x=_;unfold bindL;exact Lu (i:=i) (zzW.mp nd).2 (by simpa using h1) (by simpa using h2) hk
theorem Kx{kindOf:Str->Option NameKind}{x:Str}{v:Value}:∀{P:List Str}{vs:List Value}{i:Nat}{m:Str->Option Value},P.Nodup->P[i]? = some x->vs[i]? = some v->kindOf x≠some .local->
 bindC kindOf (P.zip vs) m x=some v
 | [],_,_,_,_,h,_,_=>by simp at h
 |_::_,[],_,_,_,_,h,_=>by simp at h
 |p::P,w::vs,0,m,nd,h1,h2,hk=>by
  simp at h1 h2;subst h1;subst h2;show bindC kindOf ((p,w)::P.zip vs) m p=_;unfold bindC;rw[Lk λv hv=>(zzW.mp nd).1 (List.of_mem_zip hv).1,if_neg hk];simp
 |p::P,w::vs,i+1,m,nd,h1,h2,hk=>by
  show bindC kindOf ((p,w)::P.zip vs) m x=_;unfold bindC;exact Kx (i:=i) (zzW.mp nd).2 (by simpa using h1) (by simpa using h2) hk
def start(N:List Str)(vs:List V):St:=vs.map some++List.replicate (N.length-vs.length) none
def LL(CX:H9)(P:Program)(w:World)(K:zzA)(mg:Str->Option Value)(base:Heap)(N:List Str)(qual:Str)(scope:Scope)(f:Addr)(cd:Value)(A:Around)(outer:List Env)(s:Shared)(H:Hp)(E:XK):Cx where
 prog:=P
 w:=w
 K:=K
 mg:=mg
 base:=base
 A:=A.deeper (envOfC qual scope s.heap.objs.size f cd)
 N:=N
 s₀:=s
 H₀:=H
 env:=envOfC qual scope s.heap.objs.size f cd
 outer:=outer
 stack:=envOfC qual scope s.heap.objs.size f cd::outer
 ex:=[]
 calm:=true
 fn:=λ_=>true
 pn:=[]
 xe:=λe s'=>wpAny (model P w) (A.deeper (envOfC qual scope s.heap.objs.size f cd)) (leaving (envOfC qual scope s.heap.objs.size f cd) e) (λ_ s''=>CX outer H s E e s'') (λe' s''=>CX outer H s E e' s'') s'
theorem Ef{sc:Scope}{n:Nat}{x:Str}(h:sc.names.lookup x=some .cell):∃c,(cellsFrom n sc.names []).lookup x=some c:=by
 have q:=PySem.W.cellsFrom_some sc.names n [] (.inl h);exact Option.isSome_iff_exists.mp q
theorem Hx{CX:H9}{P:Program}{w:World}{K:zzA}{mg:Str->Option Value}{base:Heap}{N ps:List Str}{qual:Str}{scope:Scope}{f:Addr}{cd:Value}{A:Around}{outer:List Env}{s s1:Shared}{H:Hp}{E:XK}{us:List Value}{vs:List V}
 (S:FnScope N ps scope) (hd:A.handled=none) (e0:Env0 P w K mg base A outer s H) (hl:vs.length=ps.length) (r:zQ vs us)
 (x:InCallC s s.heap.objs.size (bindL (envOfC qual scope s.heap.objs.size f cd).kindOf (ps.zip us) λ_=>none) (cellsFrom (s.heap.objs.size+1) scope.names []) (bindC (envOfC qual scope s.heap.objs.size f cd).kindOf (ps.zip us) λ_=>none) s1):
 Inv (LL CX P w K mg base N qual scope f cd A outer s H E) [] (start N vs) H s1:=by
 have hpl:ps.length<=N.length:=by have:=congrArg List.length S.pre;rw[zzS]at this;omega
 obtain⟨h1,tk,rfl,hk⟩:=x.done;have noA:∀b:Addr,b ∉ (LL CX P w K mg base N qual scope f cd A outer s H E).ex:=λb z=>absurd (show b ∈ ([]:List Addr)from z) (by simp);refine⟨⟨e0.mod,S.kind,rfl,rfl,zzN _,λy z c h1 h2=>?_,λy hy=>?_,λy c _ h=>?_,λ_=>hd,Around.frames_deeper e0.frames,.inr ⟨rfl,rfl⟩,λb z=>absurd z (noA b),e0.bs,e0.bsz,λb _ _=>noA b,λb z=>absurd z (noA b),e0.funs,e0.frf⟩,
  rfl,e0.bare,Un.kept hk,⟨_,x.toInCall.ns,λi y v h1 h2 h3=>?_⟩,λy c h=>⟨_,x.cell y c h⟩,e0.hok.fresh (zzN _),λy c h=>?_,λp hp=>absurd (show p ∈ ([]:List (Addr×Obj))from hp) (by simp),e0.hok.kept hk, ?_⟩
 . exact name_of_addr x.apart (PySem.mem_of_lookup h1) (PySem.mem_of_lookup h2)
 . have hy:scope.names.lookup y=some .cell\/scope.names.lookup y=some .free:=hy
   rcases hy with hy|hy
   . exact Ef hy
   . exact absurd rfl (S.nofree _ (PySem.mem_of_lookup hy))
 . exact Nat.le_of_lt (x.above y c (PySem.mem_of_lookup h))
 . have hi:i<vs.length:=by
    unfold start at h2
    by_cases hi:i<vs.length
    . exact hi
    . rw[zyQ (by simpa using hi)]at h2;rw[List.getElem?_replicate]at h2
      split at h2<;>cases h2
   have ha:vs[i]? = some v:=by
    unfold start at h2;rw[zyO (by simpa using hi),zzI]at h2;cases e:vs[i]? with
    |none=>rw[e]at h2;cases h2
    |some a=>rw[e]at h2;cases h2;rfl
   obtain⟨u,hu,rv⟩:=r.get ha;have hp:ps[i]? = some y:=by
    rw[<-S.pre,List.getElem?_take_of_lt (by omega)];exact h1
   have ndP:ps.Nodup:=by rw[<-S.pre];exact S.nd.sublist (List.take_sublist _ _)
   refine⟨u,rv, ?_⟩
   rcases S.par y (zyA hp)with k|k
   . exact .inl ⟨k,Lu ndP hp hu k⟩
   . obtain⟨c,e⟩:=Ef (n:=s.heap.objs.size+1) k;refine .inr ⟨.inl k,c,e, ?_⟩;have q:=x.cell y c e;rw[Kx ndP hp hu (by show scope.names.lookup y≠_;rw[k];decide)]at q;exact q
 . exact e0.hok.fresh (Nat.le_of_lt (x.above y c (PySem.mem_of_lookup h)))
 . unfold start;show _=N.length;rw[zzJ,zzB,List.length_replicate];omega
theorem r9{CX:H9}{P:Program}{w:World}{K:zzA}{mg:Str->Option Value}{base:Heap}{k:Nat}{f:Addr}{name qual:Str}{params:Arguments}{body:List Stmt}{scope:Scope}{dV kV doc pm cdv ct oc:Value}{an od:Option Addr}
 {osl:Array (Option Value)}{N ps:List Str}{sp:Sp}(lk:K.lookup f=some ⟨oc,od,.func (PySem.W.fnOf name qual params body scope dV kV doc pm an cdv ct),osl⟩) (hcd:PySem.W.codeIn K cdv qual=true) (S:FnScope N ps scope)
 (len:∀vs H Q E,sp vs H Q E->vs.length=ps.length)
 (hbody:∀(A:Around) (outer:List Env) (s:Shared) (H:Hp) (vs:List V) (Q:VK) (E:XK),Room k (A.deeper (envOfC qual scope s.heap.objs.size f cdv))->sp vs H Q E->
  ∃t,N5 (LL CX P w K mg base N qual scope f cdv A outer s H E) body t/\t {nx:=λ_ H'=>Q .non H',rt:=Q} (start N vs) H):
 FnOk P w K mg base CX (k+1) f (PySem.W.fnOf name qual params body scope dV kV doc pm an cdv ct) ps sp:=by
 refine⟨len,λA outer s H args us vs Q E hr e0 hb r hsp=>?_⟩;have hl:=len _ _ _ _ hsp;have KX:K.In s.heap:=e0.mod.kin.keeps λb o e=>(e0.bs b o e).1;have lim:s.heap.NoLimit:=e0.mod.nolimit.keeps λb o e=>(e0.bs b o e).1;have hkind:∀y ∈ ps.zip us,scope.names.lookup y.1=some .local\/(scope.names.lookup y.1=some .cell/\((cellsFrom (s.heap.objs.size+1) scope.names []).lookup y.1).isSome=true):=λ⟨n,v⟩ hy=>by
  rcases S.par n (List.of_mem_zip hy).1 with q|q
  . exact .inl q
  . exact .inr ⟨q,PySem.W.cellsFrom_some _ _ _ (.inl q)⟩
 refine codeAny_call_function hr.depth (KX _ _ lk) rfl S.co S.gen rfl (PySem.W.codeRec_of KX hcd) (hb _ _ _ _ ?_);refine wpAny_newFunctionEnv_cells S.kind hkind λenv he s1 x=>?_;subst he;refine⟨lim.keeps x.toInCall.keep,codeAny_func ?_⟩;obtain⟨t,ht,hq⟩:=hbody A outer s H vs Q E (hr.deeper _) hsp;have I:Inv (LL CX P w K mg base N qual scope f cdv A outer s H E) [] (start N vs) H s1:=Hx S hr.hd e0 hl r x;refine zxL (ht [] s1 (start N vs) H _ I hq) (λfl s' hs=>?_) λe s' hs=>hs;have fin:∀{σ':St}{H':Hp}{v:V}{u:Value},Inv (LL CX P w K mg base N qual scope f cdv A outer s H E) [] σ' H' s'->RelV v u->Q v H'->CE outer P w H s Q u s':=
  λ{σ' H' v u} J rv q=>⟨v,H',J.os,J.bare,J.base,J.hok,rv,q⟩
 cases fl with
 |ret u=>
  obtain⟨v,σ',H',J,rv,q⟩:=hs;exact fin J rv q
 |next=>
  obtain⟨σ',H',J,q⟩:=hs;exact fin (v:=V.non) (u:=Value.none) J rfl q
 |brk=>
  obtain⟨_,_,_,q⟩:=hs;exact False.elim q
 |cont=>
  obtain⟨_,_,_,q⟩:=hs;exact False.elim q
end L2
namespace L2
open PySem PySem.Spec PyProof.Rows
section
variable{X:Cx}{x:Str}{p pos:Pos}{e:Expr}{es:List Expr}{t:TA}{id T:String}{r:List V->Hp->VK->Prop}
def mH(r:List V->Hp->VK->Prop)(t:TA):TE:=λσ H Q=>t σ H λvs H1=>r vs H1 Q
theorem PM(hc:YY X (.builtin id) r)(hg:Gl X x)(hm:X.mg x=none)(hv:bootBuiltins x=some (.builtin id))(ha:PA X (e::es) t)(hn:x≠"__name__":=by decide)(hdb:(x==("__debug__":Str))=false:=by decide)
 (he:starEach (e::es) X.env=(false,eval e X.env)::starEach es X.env:=by rfl) (hpl:(backTo pos (starEach es X.env)).any (·.1)=false:=by rfl):PE X (.Call (.Name x p) (e::es) [] pos) (mH r t):=by
 intro pins s σ H Q I h;refine wpAny_Call_Name_kw (ZG I hg hm hv ?_ hn hdb);exact PyProof.Rows.callWith_builtin1 (yY (ha pos pins s σ H _ I h) λus s1 ⟨vs,H1,I1,r1,q1⟩=>hc pins s1 σ H1 vs us Q I1 r1 q1) he hpl
theorem SO(hc:YY X (.type T) r)(hg:Gl X x)(hm:X.mg x=none)(hv:bootBuiltins x=some (.type T))(ha:PA X (e::es) t)(hn:x≠"__name__":=by decide)(hdb:(x==("__debug__":Str))=false:=by decide)
 (he:starEach (e::es) X.env=(false,eval e X.env)::starEach es X.env:=by rfl) (hpl:(backTo pos (starEach es X.env)).any (·.1)=false:=by rfl):PE X (.Call (.Name x p) (e::es) [] pos) (mH r t):=by
 intro pins s σ H Q I h;refine wpAny_Call_Name_kw (ZG I hg hm hv ?_ hn hdb);exact PyProof.Rows.callWith_type1 (yY (ha pos pins s σ H _ I h) λus s1 ⟨vs,H1,I1,r1,q1⟩=>hc pins s1 σ H1 vs us Q I1 r1 q1) he hpl
end
end L2
namespace L2
open PySem PySem.Spec PyProof.Rows
section
variable{κ:Type}[DecidableEq κ]
def Y8(kvs:List (κ×V))(k:κ):Option V:=(kvs.find? λkv=>decide (kv.1=k)).map (·.2)
def putK(kvs:List (κ×V))(k:κ)(v:V):List (κ×V):=
 if(kvs.any λkv=>decide (kv.1=k))=true then kvs.map (λkv=>if kv.1=k then(kv.1,v)else kv)else kvs++[(k,v)]
theorem MO{p:κ×V}{r:List (κ×V)}{k:κ}(e:p.1=k):Y8 (p::r) k=some p.2:=by simp[Y8,List.find?_cons,e]
theorem MM{p:κ×V}{r:List (κ×V)}{k:κ}(e:¬p.1=k):Y8 (p::r) k=Y8 r k:=by simp[Y8,List.find?_cons,e]
theorem Tt(k:κ):∀kvs:List (κ×V),(kvs.any λkv=>decide (kv.1=k))=(Y8 kvs k).isSome
 | []=>rfl
 |p::r=>by
  rw[List.any_cons]
  by_cases e:p.1=k
  . simp only[MO e,zyN e,Bool.true_or,Option.isSome_some]
  . rw[MM e,zyG e,Bool.false_or];exact Tt k r
theorem Mr(kvs:List (κ×V))(k:κ)(v:V):(putK kvs k v).length<=kvs.length+1:=by
 unfold putK
 split
 . rw[zzB];omega
 . rw[zzJ,zzT,List.length_nil];omega
theorem Jg{kvs:List (κ×V)}{k:κ}(v:V)(h:Y8 kvs k=none):putK kvs k v=kvs++[(k,v)]:=by
 unfold putK;rw[Tt,h];exact if_neg (by decide)
theorem GX.isSome_eq(r:GX o u):o.isSome=u.isSome:=by
 cases o with
 |none=>cases u with
  |none=>rfl
  |some _=>exact(show False from r).elim
 |some _=>cases u with
  |none=>exact(show False from r).elim
  |some _=>rfl
theorem GX.getD(r:GX o u)(rd:RelV d d'):RelV (o.getD d) (u.getD d'):=by
 cases o with
 |none=>cases u with
  |none=>exact rd
  |some _=>exact(show False from r).elim
 |some _=>cases u with
  |none=>exact(show False from r).elim
  |some _=>exact r
theorem KV.val{kvs:List (κ×V)}{vs:List (κ×Value)}(r:KV kvs vs)(k:κ):GX (Y8 kvs k) (valueAt vs k):=by
 unfold KV at r
 induction r with
 |nil=>exact True.intro
 | @cons p q ps qs h t ih=>
  obtain⟨h1,h2⟩:=h
  by_cases e:p.1=k
  . have e':q.1=k:=h1.symm.trans e;have b:valueAt (q::qs) k=some q.2:=by simp[valueAt,List.find?_cons,e']
    rw[MO e,b];exact h2
  . have e':¬q.1=k:=λz=>e (h1.trans z);have b:valueAt (q::qs) k=valueAt qs k:=by simp[valueAt,List.find?_cons,e']
    rw[MM e,b];exact ih
theorem KV.any(r:KV kvs vs)(k:κ):(kvs.any λkv=>decide (kv.1=k))=vs.any λkv=>decide (kv.1=k):=by
 unfold KV at r
 induction r with
 |nil=>rfl
 |cons h t ih=>rw[List.any_cons,List.any_cons,ih,h.1]
theorem KV.repl(r:KV kvs vs)(k:κ)(ry:RelV y u):
 KV (kvs.map λkv=>if kv.1=k then(kv.1,y)else kv) (vs.map λkv=>if kv.1=k then(kv.1,u)else kv):=by
 unfold KV at r ⊢
 induction r with
 |nil=>exact .nil
 | @cons p q ps qs h t ih=>
  rw[zyR,zyR];refine .cons ?_ ih;obtain⟨h1,h2⟩:=h
  by_cases e:p.1=k
  . rw[if_pos e,if_pos (h1.symm.trans e)];exact⟨h1,ry⟩
  . rw[if_neg e,if_neg (λz=>e (h1.trans z))];exact⟨h1,h2⟩
theorem KV.put(r:KV kvs vs)(k:κ)(ry:RelV y u):KV (putK kvs k y) (stored vs k u):=by
 unfold putK stored;rw[r.any k]
 by_cases e:(vs.any λkv=>decide (kv.1=k))=true
 . rw[if_pos e,if_pos e];exact r.repl k ry
 . rw[if_neg e,if_neg e];exact Paired.snoc r ⟨rfl,ry⟩
theorem KV.length(r:KV kvs vs):kvs.length=vs.length:=Paired.length r
end
theorem K9(r:RelV (kV k) u):(yH P w).is k u=true:=by
 cases k with
 |inl i=>obtain⟨t,e⟩:=(show ∃t,u=Value.int i t from r);subst e;exact EI P w i t
 |inr x=>obtain⟨t,e⟩:=(show ∃t,u=Value.str x t from r);subst e;exact Y_ P w x t
section
variable{P:Program}{w:World}{H:Hp}{h:Heap}{a:Addr}
theorem pY(ok:Rw P w H h)(e:Rd H a u):yU P w H h a u:=e.ok ok
theorem DC(ok:Rw P w H h)(e:Rd H a (.dK kvs)):kvs.length<=sizeLine/\(a==sysModules)=false/\∃vs,KV kvs vs/\h.DictOf (yH P w) a vs:=
 show yU P w H h a (.dK kvs)from pY ok e
theorem qQ(ok:Rw P w H h)(e:H a=some (.dK kvs)):kvs.length<=sizeLine/\(a==sysModules)=false/\∃vs,KV kvs vs/\h.DictOf (yH P w) a vs:=DC ok (.inl e)
end
section
variable{X:Cx}{pins:List (Addr×Obj)}{σ:St}{H:Hp}{s:Shared}{a:Addr}{y v:V}{u r:Value}{o:Option V}{A:Around}{E:Value->Shared->Prop}
theorem Inv.big(I:Inv X pins σ H s):sysModules<s.heap.objs.size:=by
 have h:mainGlobals<s.heap.objs.size:=(I.mod.glob.keeps I.bk).lt;exact Nat.lt_trans (by decide) h
theorem Af(I:Inv X pins σ H s)(mu:rV (H a))(hs:Heap.SameBut a s.heap h')(he:∃q,h'.get? a=some q)(new:yU X.prog X.w (upd H a ob) h' a ob):
 Inv X pins σ (upd H a ob) {s with heap:=h',toks:=t'}:=
 I.write (x:=a) (e:=a) mu (.inl rfl) (λb q hb z=>(hs.2 b hb).trans z) he new
theorem sF(z:kvs.length<=sizeLine)(hd:(a==sysModules)=false)(rel:KV kvs vs)(dd:h'.DictOf (yH P w) a vs):
 yU P w H' h' a (.dK kvs):=⟨z,hd,vs,rel,dd⟩
end
theorem CB(h:Heap)(hb:sysModules<h.objs.size):yU P w H (h.push {cls:=.type "dict",data:=.dict #[]}) h.objs.size (.dK []):=
 ⟨Nat.zero_le _,beq_eq_false_iff_ne.mpr (Ne.symm (zzQ hb)),[],.nil,Heap.DictOf.new h⟩
def NP:List (TE×TE)->St->Hp->(List (V×V)->Hp->Prop)->Prop
 | [],_,H,Q=>Q [] H
 |(tk,tv)::r,σ,H,Q=>tk σ H λx H1=>tv σ H1 λy H2=>NP r σ H2 λps H3=>Q ((x,y)::ps) H3
abbrev VV:List (V×V)->List (Value×Value)->Prop:=Paired λp q=>RelV p.1 q.1/\RelV p.2 q.2
def ux(X:Cx)(pos:Pos)(keys:List (Option Expr))(values:List Expr)(trs:List (TE×TE)):Prop:=
 ∀(pins:List (Addr×Obj)) (s:Shared) (σ:St) (H:Hp) (Q:List (V×V)->Hp->Prop),Inv X pins σ H s->NP trs σ H Q->
  wpAny (model X.prog X.w) X.A (evalPairs (pairTrees keys values X.env pos)) (λvs s'=>∃ps H',Inv X pins σ H' s'/\VV ps vs/\Q ps H') X.xe s
theorem Bo:ux X pos [] [] []:=λpins s σ H Q I h=>pairTrees_nil_walk ⟨[],H,I,.nil,h⟩
theorem Cr(hk:PE X k tk)(hv:PE X v tv)(hr:ux X pos ks vs trs):
 ux X pos (some k::ks) (v::vs) ((tk,tv)::trs):=λpins s σ H Q I h=>
 pairTrees_cons_walk (yY (hk pins s σ H _ I h) λu s1 ⟨x,H1,I1,rx,q1⟩=>yY (hv pins s1 σ H1 _ I1 q1) λw2 s2 ⟨y,H2,I2,ry,q2⟩=>
  yY (hr pins s2 σ H2 _ I2 q2) λws s3 ⟨ps,H3,I3,rel,q3⟩=>⟨(x,y)::ps,H3,I3,.cons ⟨rx,ry⟩ rel,q3⟩)
def Vh(kvs more:List (Key×V)):List (Key×V):=more.foldl (λacc kv=>putK acc kv.1 kv.2) kvs
theorem KV.merge:∀{more:List (Key×V)}{rs:List (Key×Value)}{kvs:List (Key×V)}{vs:List (Key×Value)},KV more rs->KV kvs vs->KV (Vh kvs more) (merged vs rs):=by
 intro more rs kvs vs r;unfold KV at r
 induction r generalizing kvs vs with
 |nil=>intro q;exact q
 | @cons p q ps qs h t ih=>
  intro r0;have e:KV (putK kvs p.1 p.2) (stored vs q.1 q.2):=by
   have:=r0.put p.1 h.2;rw[<-h.1];exact this
  exact ih e
theorem Wt:∀(more kvs:List (Key×V)),(Vh kvs more).length<=kvs.length+more.length
 | [],kvs=>by show kvs.length<=kvs.length+0;omega
 |p::r,kvs=>by
  have h1:=Wt r (putK kvs p.1 p.2);have h2:=Mr kvs p.1 p.2;show(Vh (putK kvs p.1 p.2) r).length<=_;rw[zzT];omega
theorem PN:∀{kvs:List (Key×V)}{ws:List (Value×Value)},VV (kvs.map λkv=>(kV kv.1,kv.2)) ws->∃rs,Carries (yH P w) ws rs/\KV kvs rs
 | [],_,r=>by rw[List.map_nil]at r;cases r;exact⟨[],True.intro,.nil⟩
 |p::kvs,_,r=>by
  rw[zyR]at r;cases r with
  | @cons a b as bs h t=>
   obtain⟨rs,c,q⟩:=PN (P:=P) (w:=w) t;obtain⟨b1,b2⟩:=b;exact⟨(p.1,b2)::rs,⟨K9 h.1,rfl,c⟩,.cons ⟨rfl,h.2⟩ q⟩
def qY(trs:List (TE×TE)):TE:=λσ H Q=>∀p,H p=none->NP trs σ (upd H p (.dK [])) λps H2=>H2 p=some (.dK [])/\∃kvs:List (Key×V),ps=kvs.map (λkv=>(kV kv.1,kv.2))/\kvs.length<=15/\Q (.ref p) (upd H2 p (.dK (Vh [] kvs)))
theorem Ai(h:ux X pos keys values trs)(hall:keys.all (·.isSome)=true)(hl:keys.length=values.length)(h0:keys≠[])
 (h15:keys.length<=15):PE X (.Dict keys values pos) (qY trs):=by
 intro pins s σ H Q I q;have hn:=I.hok.fresh (zzN s.heap.objs.size);have I1:=I.laid (a:=s.heap.objs.size) (o:=.dK []) (h':=s.heap.push {cls:=.type "dict",data:=.dict #[]}) (t':=s.toks) (λ_ _ q=>zxF _ q) (zzN _) (CB s.heap I.big);refine wpAny_Dict_walk (knd:=yH X.prog X.w) hall hl h0 h15 (yY (h pins _ σ _ _ I1 (q _ hn)) λws s2 ⟨ps,H2,I2,rel,e,kvs,ep,lk,q2⟩=>?_);subst ep;obtain⟨rs,c,rk⟩:=PN (P:=X.prog) (w:=X.w) rel;obtain⟨z,hd,vs0,r0,dd⟩:=qQ I2.hok e;cases r0;refine⟨rs,c,dd,λh' dd' hs=>⟨.ref s.heap.objs.size,_, ?_,rfl,q2⟩⟩;have hz:(Vh [] kvs).length<=sizeLine:=by
  have h1:=Wt kvs [];rw[List.length_nil]at h1;rw[sizeLine_eq];omega
 have he:∃q,h'.get? s.heap.objs.size=some q:=let⟨q,_,_,hq,_⟩:=dd';⟨q,hq⟩;exact Af I2 (by rw[e];exact True.intro) hs he (sF hz hd (rk.merge .nil) dd')
structure M1(X:Cx)(o:Expr)(m:Str)(apos:Pos)(e:Expr)(cpos:Pos):Prop where
 base:attributeBase o m X.env (eval o X.env)=eval o X.env
 few:((backTo cpos (starEach [e] X.env)).all (λx=>!x.1)&&(backToKw cpos (keywordEach [] X.env)).all (λx=>x.1.isSome)
  && decide (([e]:List Expr).length+([]:List Keyword).length+(if([]:List Keyword).isEmpty then 0 else 1)<30))=true
 line:(apos.endLine==cpos.line)=true
 trees:backTo cpos (starEach [e] X.env)=[(false,eval e X.env)]
structure M2(X:Cx)(o:Expr)(m:Str)(apos:Pos)(e f:Expr)(cpos:Pos):Prop where
 base:attributeBase o m X.env (eval o X.env)=eval o X.env
 few:((backTo cpos (starEach [e,f] X.env)).all (λx=>!x.1)&&(backToKw cpos (keywordEach [] X.env)).all (λx=>x.1.isSome)
  && decide (([e,f]:List Expr).length+([]:List Keyword).length+(if([]:List Keyword).isEmpty then 0 else 1)<30))=true
 line:(apos.endLine==cpos.line)=true
 trees:backTo cpos (starEach [e,f] X.env)=[(false,eval e X.env),(false,eval f X.env)]
end L2
namespace HT
open PySem PyProof.Rows
section
variable{prog:Program}{w:World}{A:Around}{E:Value->Shared->Prop}{s:Shared}
theorem Jn(ht:IsTup s.heap t vs.toArray)(hb:IsTup s.heap b ws.toArray)(hv:vs≠[])
 (h1:ws=[]->Q (.ref t) s) (h2:ws≠[]->Q (.ref s.heap.objs.size) {s with heap:=s.heap.push {cls:=.type "tuple",data:=.seq (vs++ws).toArray}})
 (hsz:vs.length+ws.length<=sizeLine):wpAny (model prog w) A (binaryOp .Add (.ref t) (.ref b)) Q E s:=by
 obtain⟨⟨cls,dd,data,sl⟩,ho,hc,n,hd⟩:=id ht;obtain⟨⟨cls2,dd2,data2,sl2⟩,ho2,hc2,n2,hd2⟩:=id hb;simp only at hc hd hc2 hd2;subst hc hd hc2 hd2;have e:vs.toArray++ws.toArray=(vs++ws).toArray:=by simp
 by_cases hw:ws=[]
 . exact concat_meets ⟨_,ho,rfl⟩ ⟨_,ho2,rfl⟩ noFill_tuple_add seq_tuple_add PySem.F.slot_tuple_add PySem.F.entry_tuple_add (PySem.F.args_tuple_add_2 _ _)
    (tuple_addW1 t b vs.toArray ws.toArray n n2 dd dd2 sl sl2 (by simpa using hv) (by simp[hw])) ⟨ho,ho2,h1 hw⟩
 . refine concat_meets ⟨_,ho,rfl⟩ ⟨_,ho2,rfl⟩ noFill_tuple_add seq_tuple_add PySem.F.slot_tuple_add PySem.F.entry_tuple_add (PySem.F.args_tuple_add_2 _ _)
    (tuple_addW2 t b vs.toArray ws.toArray n n2 dd dd2 sl sl2 (by simpa using hv) (by simpa using hw) (by rw[zzH,zzH];exact hsz)) ⟨ho,ho2, ?_⟩
   rw[e];exact h2 hw
def sIx(n d:Nat):Option Int->Nat
 |none=>d
 |some v=>if v<0 then(v+(n:Int)).toNat else min v.toNat n
theorem Mo(n d:Nat):sIx n d none=d:=rfl
theorem Po(n d k:Nat):sIx n d (some (k:Int))=min k n:=by
 show(if(k:Int)<0 then((k:Int)+(n:Int)).toNat else min (k:Int).toNat n)=min k n;rw[if_neg (by omega),Int.toNat_natCast]
theorem sU(n d:Nat)(hd:d<=n)(o:Option Int):sIx n d o<=n:=by
 cases o with
 |none=>exact hd
 |some v=>
  show(if v<0 then(v+(n:Int)).toNat else min v.toNat n)<=n
  by_cases hv:v<0
  . rw[if_pos hv];omega
  . rw[if_neg hv];exact Nat.min_le_right _ _
theorem BA(v:Int)(n d:Nat):(if v<0 then max (v+(n:Int)) 0 else min v (n:Int))=((sIx n d (some v):Nat):Int):=by
 show(if v<0 then max (v+(n:Int)) 0 else min v (n:Int))=(((if v<0 then(v+(n:Int)).toNat else min v.toNat n):Nat):Int)
 by_cases hv:v<0
 . simp only[if_pos hv];omega
 . simp only[if_neg hv];omega
theorem FG(lo hi:Option Int)(n:Nat):Builtin.Slice.sliceAdjust lo hi 1 (n:Int)=(((sIx n 0 lo:Nat):Int),((sIx n n hi:Nat):Int)):=by
 have h1:¬((1:Int)<0):=by omega
 unfold Builtin.Slice.sliceAdjust;simp only[h1,if_false];refine Prod.ext ?_ ?_
 . cases lo with
   |none=>rfl
   |some v=>exact BA v n 0
 . cases hi with
   |none=>rfl
   |some v=>exact BA v n n
theorem Bj(i j:Nat):Builtin.Slice.slicePlaces (i:Int) (j:Int) 1=j-i:=by
 unfold Builtin.Slice.slicePlaces;have h1:(1:Int) > 0:=by omega
 simp only[h1,if_true,Int.ediv_one]
 split<;>omega
theorem Tx(p:IsPart v o)(h:Q o s):wpAny (model prog w) A (Builtin.Slice.slicePartIndex v) Q E s:=by
 cases p with
 |none=>exact slicePart_none h
 |int i t=>exact slicePart_int h
theorem Uj{sl:Addr}{vl vu:Value}{lo hi:Option Int}{n:Nat}{Q:Int×Int×Nat->Shared->Prop}(hs:s.heap.IsSliceOf sl vl vu .none)(pl:IsPart vl lo)(pu:IsPart vu hi)
 (h:Q (((sIx n 0 lo:Nat):Int),1,sIx n n hi-sIx n 0 lo) s):wpAny (model prog w) A (Builtin.Slice.sliceApplied (.ref sl) (pure (n:Int))) Q E s:=by
 obtain⟨os,hos,hcs,hds⟩:=id hs;unfold Builtin.Slice.sliceApplied Builtin.Slice.sliceFields;refine zxD (zxD (wpAny_field hos hds (x:=vl) rfl (zxD (wpAny_field hos hds (x:=vu) rfl (zxD (wpAny_field hos hds (x:=.none) rfl (zxE ?_)))))));refine zxD (slicePart_none ?_);show wpAny _ _ (if((1:Int)==0)=true then _ else _) _ _ s;rw[if_neg (by decide)];refine zxD (Tx pl (zxD (Tx pu (zxD (zxE ?_)))));show wpAny _ _ (match Builtin.Slice.sliceAdjust lo hi 1 (n:Int)with|(lo,hi)=>pure (lo,(1:Int),Builtin.Slice.slicePlaces lo hi 1)) _ _ s;rw[FG lo hi n];show wpAny _ _ (pure (((sIx n 0 lo:Nat):Int),(1:Int),Builtin.Slice.slicePlaces ((sIx n 0 lo:Nat):Int) ((sIx n n hi:Nat):Int) 1)) _ _ s;rw[Bj];exact zxE h
theorem Cs(xs:Array Value)(i k:Nat):((List.range k).filterMap λ(m:Nat)=>xs[((i:Int)+(m:Int)*1).toNat]?).toArray=((xs.toList.drop i).take k).toArray:=by
 have e:(λ(m:Nat)=>xs[((i:Int)+(m:Int)*1).toNat]?)=λm=>xs[i+m]? := by
  funext m;have:((i:Int)+(m:Int)*1).toNat=i+m:=by omega
  rw[this]
 rw[e];have:=pick_run xs i k;rw[List.filterMap_map]at this;have e2:((λx=>xs[x]?)∘λx=>i+x)=λm=>xs[i+m]? := rfl;rw[e2]at this;rw[this]
theorem Qh{t sl:Addr}{items:Array Value}{vl vu:Value}{lo hi:Option Int}{Q:Value->Shared->Prop}(ht:IsTup s.heap t items)(hs:s.heap.IsSliceOf sl vl vu .none)(pl:IsPart vl lo)(pu:IsPart vu hi)
 (hw:¬(sIx items.size 0 lo=0/\sIx items.size items.size hi=items.size))
 (h:Q (.ref s.heap.objs.size) {s with heap:=s.heap.push {cls:=.type "tuple",data:=.seq ((items.toList.drop (sIx items.size 0 lo)).take (sIx items.size items.size hi-sIx items.size 0 lo)).toArray}})
 (hsz:items.size<=sizeLine):wpAny (model prog w) A (getItem (.ref t) (.ref sl)) Q E s:=by
 have htake:sizeOk (.seq ((items.toList.drop (sIx items.size 0 lo)).take (sIx items.size items.size hi-sIx items.size 0 lo)).toArray):=by
  show((items.toList.drop (sIx items.size 0 lo)).take (sIx items.size items.size hi-sIx items.size 0 lo)).toArray.size<=sizeLine;rw[zzH,zzS,List.length_drop,zyS];omega
 have hj:sIx items.size items.size hi<=items.size:=sU _ _ (zzN _) hi;obtain⟨os,hos,hcs,hds⟩:=id hs;have hTs:s.TypeIs (.ref sl) "slice":=⟨os,hos,hcs⟩;unfold getItem
 try with_reducible refine zxJ ?_
 first|refine zxD (zxE ?_)|skip
 refine zxD (wpAny_sequenceKey ht.typeIs (by decide) ?_);refine zxD (wpAny_callSpecial?_slot (name:=Str.ofString "__getitem__") ht.typeIs PyProof.Rows.slot_tuple_getitem
  (wpAny_call_entry PyProof.Rows.slot_tuple_getitem ht.typeIs entry_tuple_getitem ?_ (args_tuple_getitem _ _)))
 show wpAny _ _ (Builtin.Tuple.tupleItemsOf (.ref t) >>= _) _ _ s;refine zxD (tupleItemsOf_ ht ?_);refine zxD (wpAny_typeOf hTs ?_);rw[if_pos (by decide)];refine zxD (Uj hs pl pu ?_);have hno:¬((((sIx items.size 0 lo:Nat):Int)==0&&(1:Int)==1&&(sIx items.size items.size hi-sIx items.size 0 lo)==items.size)=true):=by
  intro q;rw[zyC,zyC]at q;have q1:((sIx items.size 0 lo:Nat):Int)=0:=eq_of_beq q.1.1;have q2:sIx items.size items.size hi-sIx items.size 0 lo=items.size:=eq_of_beq q.2;exact hw ⟨by omega,by omega⟩
 show wpAny _ _ (if(((sIx items.size 0 lo:Nat):Int)==0&&(1:Int)==1&&(sIx items.size items.size hi-sIx items.size 0 lo)==items.size)=true then _ else _) _ _ s;rw[if_neg hno,Cs]
 first
  |exact zxD (m:=Builtin.Tuple.tupleExact _) (zxI (zxE ⟨_,rfl,zxE h⟩) htake)
  |exact zxD (m:=Builtin.Tuple.tupleExact _) (zxI (zxD (zxE (zxE ⟨_,rfl,zxE h⟩))) htake)
  |exact zxD (zxD (m:=Builtin.Tuple.tupleExact _) (zxI (zxE (zxE ⟨_,rfl,zxE h⟩)) htake))
  |exact zxD (zxD (m:=Builtin.Tuple.tupleExact _) (zxI (zxE ⟨_,rfl,zxE h⟩) htake))
end
end HT
namespace L2
open PySem PySem.Spec PyProof.Rows
abbrev TO:=St->Hp->(Option Int->Hp->Prop)->Prop
def PO(X:Cx)(e:Option Expr)(t:TO):Prop:=
 ∀(pins:List (Addr×Obj)) (s:Shared) (σ:St) (H:Hp) (Q:Option Int->Hp->Prop),Inv X pins σ H s->t σ H Q->
  wpAny (model X.prog X.w) X.A (evalPart e X.env) (λu s'=>∃o H',Inv X pins σ H' s'/\IsPart u o/\Q o H') X.xe s
def JJ:TO:=λ_ H Q=>Q none H
def qr(t:TE):TO:=λσ H Q=>t σ H λx H1=>∃i,x = .int i/\Q (some i) H1
theorem intsAre_of:∀{us:List Value},zQ (ns.map V.int) us->IntsAre us ns:=by
 induction ns with
 |nil=>intro us r;rw[List.map_nil]at r;cases r;exact .nil
 |cons n ns ih=>
  intro us r;rw[zyR]at r;cases r with
  |cons r1 r2=>
   obtain⟨t,e⟩:=r1;subst e;exact .cons n t (ih r2)
section
variable{X:Cx}{e:Expr}{te:TE}{lo hi:Option Expr}{tl th:TO}{pos p2:Pos}
theorem BF:PO X none JJ:=by
 intro pins s σ H Q I h;rw[evalPart_none];exact zxE ⟨none,H,I,.none,h⟩
theorem Sr(h:PE X e te):PO X (some e) (qr te):=by
 intro pins s σ H Q I hw;rw[evalPart_some];refine yY (h pins s σ H _ I hw) λu s1 ⟨x,H1,I1,r1,q1⟩=>?_;obtain⟨i,rfl,q⟩:=q1;obtain⟨t,rfl⟩:=r1;exact⟨some i,H1,I1,.int i t,q⟩
def rP(X:Cx)(r:V->Option Int->Option Int->Hp->VK->Prop):Prop:=
 ∀(pins:List (Addr×Obj)) (s:Shared) (σ:St) (H:Hp) (x:V) (v vl vu:Value) (lo hi:Option Int) (sl:Addr) (Q:VK),Inv X pins σ H s->RelV x v->s.heap.IsSliceOf sl vl vu .none->IsPart vl lo->IsPart vu hi->r x lo hi H Q->
  ∃T id,typeLookup (.type T) "__getitem__"=pure (some (.builtin id))/\s.TypeIs v T/\wpAny (model X.prog X.w) X.A (getItem v (.ref sl)) (EP X pins σ Q) X.xe s
def mR(r:V->Option Int->Option Int->Hp->VK->Prop)(te:TE)(tl th:TO):TE:=λσ H Q=>te σ H λx H1=>tl σ H1 λl H2=>th σ H2 λu H3=>r x l u H3 Q
theorem P1(hr:rP X r)(he:PE X e te)(hl:PO X lo tl)(hu:PO X hi th):PE X (.Subscript e (.Slice lo hi none p2) pos) (mR r te tl th):=by
 intro pins s σ H Q I h;refine Subscript_ (yY (he pins s σ H _ I h) λv s1 ⟨x,H1,I1,r1,q1⟩=>?_);refine wpAny_Slice (yY (hl pins s1 σ H1 _ I1 q1) λvl s2 ⟨l,H2,I2,pl,q2⟩=>yY (hu pins s2 σ H2 _ I2 q2) λvu s3 ⟨u,H3,I3,pu,q3⟩=>?_);rw[evalPart_none];refine zxE ?_;have I4:Inv X pins σ H3 {s3 with heap:=s3.heap.push {cls:=.type "slice",data:=.fields #[vl,vu,.none]}}:=I3.kept (t':=s3.toks) λb ob q=>zxF _ q;obtain⟨T,id,hT,ht,hg⟩:=hr pins {s3 with heap:=s3.heap.push {cls:=.type "slice",data:=.fields #[vl,vu,.none]}} σ H3 x v vl vu l u s3.heap.objs.size Q I4 r1 (Heap.IsSliceOf.new ..) pl pu q3;show wpAny (model X.prog X.w) X.A (subscriptTail e (.Slice lo hi none p2) v (.ref s3.heap.objs.size)) (EP X pins σ Q) X.xe {s3 with heap:=s3.heap.push {cls:=.type "slice",data:=.fields #[vl,vu,.none]}};exact tail_any (ops:=[.ref s3.heap.objs.size,v]) ht hT hg (by with_unfolding_all rfl)
def G5(xs:List V)(lo hi:Option Int):List V:=(xs.drop (HT.sIx xs.length 0 lo)).take (HT.sIx xs.length xs.length hi-HT.sIx xs.length 0 lo)
theorem UZ(xs:List V)(lo hi:Option Int):(G5 xs lo hi).length<=xs.length:=by
 unfold G5;rw[zzS,List.length_drop];omega
def nv(K:zzA):V->Option Int->Option Int->Hp->VK->Prop:=λx lo hi H Q=>∃a xs,x = .ref a/\Q2 K H a xs/\
 ¬(HT.sIx xs.length 0 lo=0/\HT.sIx xs.length xs.length hi=xs.length)/\∀p,H p=none->Q (.ref p) (upd H p (.tup (G5 xs lo hi)))
theorem uV:rP X (nv X.K):=by
 intro pins s σ H x v vl vu lo hi sl Q I rx hs pl pu h;obtain⟨a,xs,rfl,hx,hw,q⟩:=h;cases rx;obtain⟨its,r,ht,hz⟩:=I.tuple hx;have hlen:its.toArray.size=xs.length:=by rw[zzH];exact r.length.symm
 refine⟨"tuple",_,PyProof.Rows.slot_tuple_getitem.lookup,ht.typeIs, ?_⟩;refine HT.Qh ht hs pl pu (by rw[hlen];exact hw) ?_ (by rw[hlen];exact hz);rw[hlen];refine⟨.ref s.heap.objs.size,_,I.laid (t':=s.toks) (o:=.tup (G5 xs lo hi)) (λb ob q=>zxF _ q) (zzN _) ?_,rfl,q _ (I.hok.fresh (zzN _))⟩;exact⟨zzO (UZ xs lo hi) hz,_,(r.drop (HT.sIx xs.length 0 lo)).take (HT.sIx xs.length xs.length hi-HT.sIx xs.length 0 lo),IsTup.new _ _⟩
def pH(K:zzA):R2:=λx y H Q=>∃a b xs ys,x = .ref a/\y = .ref b/\Q2 K H a xs/\Q2 K H b ys/\xs≠[]/\xs.length+ys.length<=sizeLine/\
 (ys=[]->Q (.ref a) H)/\(ys≠[]->∀p,H p=none->Q (.ref p) (upd H p (.tup (xs++ys))))
theorem zQ.nil_iff(r:zQ xs us):us=[] ↔ xs=[]:=by
 cases r with
 |nil=>simp
 |cons _ _=>simp
theorem AV:Q3 X (binaryOp .Add) (pH X.K):=by
 intro pins s σ H x y v u Q I rx ry h;obtain⟨a,b,xs,ys,rfl,rfl,ha,hb,hx,hz,q1,q2⟩:=h;cases rx;cases ry;obtain⟨its,r1,p1,_⟩:=I.tuple ha;obtain⟨its2,r2,p2,_⟩:=I.tuple hb;refine HT.Jn p1 p2 (λz=>hx (r1.nil_iff.mp z)) (λz=>⟨.ref a,H,I,rfl,q1 (r2.nil_iff.mp z)⟩) (λz=>?_) (by rw[<-r1.length,<-r2.length];exact hz);refine⟨.ref s.heap.objs.size,_,I.laid (t':=s.toks) (o:=.tup (xs++ys)) (λb ob q=>zxF _ q) (zzN _) ?_,rfl,q2 (λw=>z (r2.nil_iff.mpr w)) _ (I.hok.fresh (zzN _))⟩;exact⟨by rw[zzJ];exact hz,_,r1.append r2,IsTup.new _ _⟩
end
end L2
namespace L2
open PySem PySem.Spec PyProof.Rows
def HZ(n:Nat)(i:Int):Option Nat:=if 0<=i then(if i<n then some i.toNat else none)else if -(n:Int)<=i then some (i+n).toNat else none
def Pk{α:Type}(xs:List α)(i:Int):Option α:=(HZ xs.length i).bind λj=>xs[j]?
theorem BZ(h:HZ n i=some j):seqIndex? i n=some j/\j<n /\ -(n:Int)<=i/\i<n:=by
 unfold HZ at h
 by_cases h0:0<=i
 . rw[if_pos h0]at h
   by_cases h1:i<n
   . rw[if_pos h1]at h;have e:i.toNat=j:=zzZ h;exact⟨by rw[seqIndex_of h0 h1,e],by omega,by omega,h1⟩
   . rw[if_neg h1]at h;cases h
 . rw[if_neg h0]at h
   by_cases h1 : -(n:Int)<=i
   . rw[if_pos h1]at h;have e:(i+n).toNat=j:=zzZ h;exact⟨by rw[seqIndex_neg (by omega) h1,e],by omega,h1,by omega⟩
   . rw[if_neg h1]at h;cases h
theorem NF(h:Pk xs i=some v):∃j,seqIndex? i xs.length=some j/\xs[j]? = some v/\j<xs.length /\ -(xs.length:Int)<=i/\i<xs.length:=by
 unfold Pk at h;cases e:HZ xs.length i with
 |none=>rw[e]at h;cases h
 |some j=>
  rw[e]at h;obtain⟨h1,h2,h3,h4⟩:=BZ e;exact⟨j,h1,h,h2,h3,h4⟩
theorem wt{α:Type}{xs:List α}{j:Nat}{v:α}(h:xs[j]? = some v):Pk xs (j:Int)=some v:=by
 have hj:j<xs.length:=(zzG.mp h).1;have e:HZ xs.length (j:Int)=some j:=by
  unfold HZ;rw[if_pos (by omega),if_pos (by omega)];simp
 unfold Pk;rw[e];exact h
def xg(b:Expr):Prop:=∀o i,subscripted b false o i=operate [o,i] (getItem o i)
def qS(X:Cx)(r:R2):Prop:=
 ∀(value slice:Expr) (pins:List (Addr×Obj)) (s:Shared) (σ:St) (H:Hp) (x y:V) (v u:Value) (Q:VK),Inv X pins σ H s->RelV x v->RelV y u->r x y H Q->
  subscripted slice false v u=operate [v,u] (getItem v u)->wpAny (model X.prog X.w) X.A (subscriptTail value slice v u) (EP X pins σ Q) X.xe s
def ot(X:Cx)(id:String)(r:V->List V->Hp->VK->Prop):Prop:=
 ∀(pins:List (Addr×Obj)) (s:Shared) (σ:St) (H:Hp) (x:V) (xs:List V) (v:Value) (us:List Value) (Q:VK),Inv X pins σ H s->RelV x v->zQ xs us->r x xs H Q->
  wpAny (model X.prog X.w) X.A (call (.builtin id) (v::us)) (EP X pins σ Q) X.xe s
section
variable{X:Cx}{a b:Expr}{ta tb:TE}{pos:Pos}
theorem Y0(hr:qS X r)(ha:PE X a ta)(hb:PE X b tb)(hs:xg b):PE X (.Subscript a b pos) (rQ r ta tb):=by
 intro pins s σ H Q I h;exact Subscript_ (uR ha hb I h λv u s2 x y H2 I2 rx ry q=>hr a b pins s2 σ H2 x y v u Q I2 rx ry q (hs _ _))
def nr(K:zzA):R2:=λx y H Q=>∃p xs i v,x = .ref p/\y = .int i/\ZT K H p xs/\Pk xs i=some v/\Q v H
def qU(K:zzA):R2:=λx y H Q=>∃p xs i v,x = .ref p/\y = .int i/\Q2 K H p xs/\Pk xs i=some v/\Q v H
def nQ:R2:=λx y H Q=>∃z i c,x = .str z/\y = .int i/\z.length<=sizeLine/\Pk z.cps.toList i=some c/\Q (.str ⟨#[c]⟩) H
theorem Wf:qS X (nr X.K):=by
 intro value slice pins s σ H x y v u Q I rx ry h hs;obtain⟨p,xs,i,z,rfl,rfl,hq,he,q⟩:=h;cases rx;obtain⟨t,rfl⟩:=ry;obtain⟨its,r,pl,hz⟩:=I.list hq;obtain⟨j,h1,h2,h3,h4,h5⟩:=NF he;obtain⟨w,ew,rw'⟩:=r.get h2;have hl:=r.length;have hn:=Vn;have fin:EP X pins σ Q w s:=⟨z,H,I,rw',q⟩
 by_cases h0:0<=i
 . have hj:i.toNat=j:=by
    rw[seqIndex_of h0 h5]at h1;exact zzZ h1
   exact item_listR pl.isList h0 (by omega) (by rw[hj];simpa using ew) fin hs
 . have hj:(i+(its.toArray.size:Int)).toNat=j:=by
    rw[seqIndex_neg (by omega) h4]at h1;rw[zzH,<-hl];exact zzZ h1
   exact subscriptTail_builtinR (x:=w) pl.isList.typeIs slot_list_getitem.lookup
    (wpAny_getItem_list_neg (Q:=λr s'=>r=w/\EP X pins σ Q r s') pl.isList (by omega) (by rw[zzH]<;>omega) (by omega) (by rw[hj];simpa using ew) ⟨rfl,fin⟩) hs
theorem Vu:qS X (qU X.K):=by
 intro value slice pins s σ H x y v u Q I rx ry h hs;obtain⟨p,xs,i,z,rfl,rfl,hq,he,q⟩:=h;cases rx;obtain⟨t,rfl⟩:=ry;obtain⟨its,r,pl,hz⟩:=I.tuple hq;obtain⟨j,h1,h2,h3,h4,h5⟩:=NF he;obtain⟨w,ew,rw'⟩:=r.get h2;have hl:=r.length;have hn:=Vn;have fin:EP X pins σ Q w s:=⟨z,H,I,rw',q⟩;exact subscriptTail_builtinR (x:=w) pl.typeIs slot_tuple_getitem.lookup
  (getItem_tuple (j:=j) (Q:=λr s'=>r=w/\EP X pins σ Q r s') pl (by omega) (by omega) (by rw[zzH,<-hl];exact h1) (by simpa using ew) ⟨rfl,fin⟩) hs
theorem uH:qS X nQ:=by
 intro value slice pins s σ H x y v u Q I rx ry h hs;obtain⟨z,i,c,rfl,rfl,hz,he,q⟩:=h;obtain⟨t,rfl⟩:=rx;obtain⟨t',rfl⟩:=ry;obtain⟨j,h1,h2,h3,h4,h5⟩:=NF he;have hl:z.cps.toList.length=z.length:=by simp[Str.length]
 rw[hl]at h1 h4 h5;have hn:=Vn;exact tail_any (typeIs_str s z t) slot_str_getitem.lookup (getItem_str (c:=c) (by
  have e1:decide (i < -(2 ^ 63:Int))=false:=zyG (by omega);have e2:decide (i ≥ 2 ^ 63)=false:=zyG (by omega);rw[e1,e2,Bool.or_false]) (by rw[h1];simpa using h2) ⟨.str ⟨#[c]⟩,H,I.tok _,⟨_,rfl⟩,q⟩) hs
theorem Bd(its:List Value)(n j:Nat)(u:Value):Obj.mapSeq (·.setIfInBounds j u) {cls:=.type "list",data:=.seq its.toArray n}={cls:=.type "list",data:=.seq (its.set j u).toArray n}:=by
 simp[Obj.mapSeq]
theorem Inv.lst(I:Inv X pins σ H s)(h:H p=some (.lst xs)):
 ∃(its:List Value) (n:Nat),zQ xs its/\s.heap.get? p=some {cls:=.type "list",data:=.seq its.toArray n}/\xs.length<=sizeLine:=by
 obtain⟨z,its,n,r,e⟩:=I.hok p _ h;exact⟨its,n,r,e,z⟩
theorem Inv.lstUpd{pins:List (Addr×Obj)}{σ:St}{H:Hp}{s:Shared}{p:Addr}{xs ys:List V}{its its':List Value}{n n':Nat}{f:Obj->Obj}(I:Inv X pins σ H s)(h:H p=some (.lst xs))
 (ho:s.heap.get? p=some {cls:=.type "list",data:=.seq its.toArray n}) (hf:f {cls:=.type "list",data:=.seq its.toArray n}={cls:=.type "list",data:=.seq its'.toArray n'}) (r:zQ ys its') (hz:ys.length<=sizeLine) (t:Nat):
 Inv X pins σ (upd H p (.lst ys)) {s with heap:=s.heap.update p f,toks:=t}:=by
 have e:(s.heap.update p f).get? p=some {cls:=.type "list",data:=.seq its'.toArray n'}:=by
  rw[Heap.get?_update_self f ho (by rw[hf]<;>rfl),hf]
 refine I.write (x:=p) (e:=p) (by rw[h];trivial) (.inl rfl) (λb u hb q=>(Heap.get?_update_other _ _ (Ne.symm hb)).trans q) ⟨_,e⟩ ?_;exact⟨hz,its',n',r,e⟩
def ph:V->V->V->Hp->(Hp->Prop)->Prop:=λo i v H Q=>∃p xs k j,o = .ref p/\i = .int k/\H p=some (.lst xs)/\HZ xs.length k=some j/\Q (upd H p (.lst (xs.set j v)))
theorem set_list:qi X ph:=by
 intro pins s σ H o i v ov iv u Q I ro ri rv h;obtain⟨p,xs,k,j,rfl,rfl,hp,hj,q⟩:=h;cases ro;obtain⟨t,rfl⟩:=ri;obtain⟨its,n,r,ho,hz⟩:=I.lst hp;obtain⟨h1,h2,h3,h4⟩:=BZ hj;have hl:=r.length;have hn:=Vn;have I':Inv X pins σ (upd H p (.lst (xs.set j v))) {s with heap:=s.heap.update p (Obj.mapSeq (·.setIfInBounds j u))}:=
  I.lstUpd hp ho (Bd its n j u) (r.set rv j) (by rw[zzU];exact hz) s.toks
 by_cases h0:0<=k
 . have hk:k.toNat=j:=by
    rw[seqIndex_of h0 h4]at h1;exact zzZ h1
   exact PySem.W.ki_setAt ho h0 (by omega) (by rw[zzH,<-hl];exact h4) (by rw[hk];exact⟨_,I',q⟩)
 . have hk:(k+(its.toArray.size:Int)).toNat=j:=by
    rw[seqIndex_neg (by omega) h3]at h1;rw[zzH,<-hl];exact zzZ h1
   exact PySem.W.ki_setBack ho (by omega) (by rw[zzH,<-hl];exact h3) (by omega) (by rw[hk];exact⟨_,I',q⟩)
theorem L7(lo hi:Option Int)(n:Nat):(sliceBounds lo hi none n).1=((HT.sIx n 0 lo:Nat):Int)/\(sliceBounds lo hi none n).2.1=((HT.sIx n n hi:Nat):Int)/\(sliceBounds lo hi none n).2.2=1:=by
 refine⟨?_, ?_,rfl⟩
 . cases lo with
   |none=>simp[sliceBounds,HT.sIx]
   |some i=>
    simp only[sliceBounds,HT.sIx,Option.getD_none,show(1:Int) > 0 by decide,if_true]
    by_cases h:i<0
    . simp only[h,if_true]<;>omega
    . simp only[h,if_false]<;>omega
 . cases hi with
   |none=>simp[sliceBounds,HT.sIx]
   |some i=>
    simp only[sliceBounds,HT.sIx,Option.getD_none,show(1:Int) > 0 by decide,if_true]
    by_cases h:i<0
    . simp only[h,if_true]<;>omega
    . simp only[h,if_false]<;>omega
theorem GM(its:List Value)(lo hi:Option Int):slicePick its.toArray lo hi none=((its.drop (HT.sIx its.length 0 lo)).take (HT.sIx its.length its.length hi-HT.sIx its.length 0 lo)).toArray:=by
 obtain⟨h1,h2,h3⟩:=L7 lo hi its.toArray.size;unfold slicePick;rw[h1,h2,h3];simp only[sliceRange_one,pick_run,zzH]<;>rfl
def oU(K:zzA):V->Option Int->Option Int->Hp->VK->Prop:=λx lo hi H Q=>∃a xs,x = .ref a/\ZT K H a xs/\∀p,H p=none->Q (.ref p) (upd H p (.lst (G5 xs lo hi)))
theorem By:rP X (oU X.K):=by
 intro pins s σ H x v vl vu lo hi sl Q I rx hs pl pu h;obtain⟨a,xs,rfl,hx,q⟩:=h;cases rx;obtain⟨its,r,ht,hz⟩:=I.list hx;have hlen:=r.length;refine⟨"list",_,slot_list_getitem.lookup,ht.isList.typeIs, ?_⟩;refine wpAny_getItem_list_slice ht.isList hs pl pu .none (by simp) ?_ (by rw[zzH]<;>omega);rw[GM,<-hlen];refine⟨.ref s.heap.objs.size,_,I.laid (t':=s.toks) (o:=.lst (G5 xs lo hi)) (λb ob q=>zxF _ q) (zzN _) ?_,rfl,q _ (I.hok.fresh (zzN _))⟩;exact⟨zzO (UZ xs lo hi) hz,_,0,(r.drop (HT.sIx xs.length 0 lo)).take (HT.sIx xs.length xs.length hi-HT.sIx xs.length 0 lo),zxH _ rfl⟩
theorem YD:YY X (.builtin "len") (λxs H Q=>∃p ys,xs=[.ref p]/\(ZT X.K H p ys\/Q2 X.K H p ys)/\Q (.int ys.length) H):=by
 intro pins s σ H xs us Q I r h;obtain⟨p,ys,rfl,hq,q⟩:=h;obtain⟨u,rfl,rx⟩:=vals1 r;cases rx;have hn:=Vn
 rcases hq with hq|hq
 . obtain⟨its,r',pl,hz⟩:=I.list hq;have hlen:=r'.length;exact Calls.call_len_list pl.isList (by simp only[zzH]<;>omega) ⟨.int ys.length,H,I.tok _,⟨s.toks+1,by rw[zzH,hlen]⟩,q⟩
 . obtain⟨its,r',pl,hz⟩:=I.tuple hq;have hlen:=r'.length;exact len_tuple pl (by simp only[zzH]<;>omega) ⟨.int ys.length,H,I.tok _,⟨s.toks+1,by rw[zzH,hlen]⟩,q⟩
theorem LO:YY X (.builtin "len") (λxs H Q=>∃z,xs=[.str z]/\z.length<=sizeLine/\Q (.int z.length) H):=by
 intro pins s σ H xs us Q I r h;obtain⟨z,rfl,hz,q⟩:=h;obtain⟨u,rfl,t,rfl⟩:=vals1 r;have hn:=Vn;exact len_str (by omega) ⟨.int z.length,H,I.tok _,⟨_,rfl⟩,q⟩
theorem Qy:YY X (.type "list") (λxs H Q=>∃p ys,xs=[.ref p]/\(ZT X.K H p ys\/Q2 X.K H p ys)/\∀l,H l=none->Q (.ref l) (upd H l (.lst ys))):=by
 intro pins s σ H xs us Q I r h;obtain⟨p,ys,rfl,hq,q⟩:=h;obtain⟨u,rfl,rx⟩:=vals1 r;cases rx;have fin:∀(its:List Value),zQ ys its->ys.length<=sizeLine->∀(h':Heap) (c':Nat),(∀b o',s.heap.get? b=some o'->h'.get? b=some o')->
  h'.get? s.heap.objs.size=some {cls:=.type "list",dict:=none,data:=.seq its.toArray c',slots:=#[]}->EP X pins σ Q (.ref s.heap.objs.size) {s with heap:=h'}:=λits r' hz h' c' kp e=>
  ⟨.ref s.heap.objs.size,_,I.laid (t':=s.toks) kp (zzN _) (show yU X.prog X.w _ h' _ (.lst ys)from⟨hz,its,c',r',e⟩),rfl,q _ (I.hok.fresh (zzN _))⟩
 rcases hq with hq|hq
 . obtain⟨its,r',pl,hz⟩:=I.list hq;have hlen:=r'.length;obtain⟨o,ho,hc,n,hd⟩:=pl.isList;exact call_list_seq p (.inl rfl) ho hc hd (λh' c' kp e=>fin its r' hz h' c' kp e) (by simp only[zzH]<;>omega)
 . obtain⟨its,r',pl,hz⟩:=I.tuple hq;have hlen:=r'.length;obtain⟨o,ho,hc,n,hd⟩:=pl;exact call_list_seq p (.inr rfl) ho hc hd (λh' c' kp e=>fin its r' hz h' c' kp e) (by simp only[zzH]<;>omega)
theorem Wq:YY X (.type "tuple") (λxs H Q=>∃p ys,xs=[.ref p]/\((ZT X.K H p ys/\∀l,H l=none->Q (.ref l) (upd H l (.tup ys)))\/(Q2 X.K H p ys/\Q (.ref p) H))):=by
 intro pins s σ H xs us Q I r h;obtain⟨p,ys,rfl,h⟩:=h;obtain⟨u,rfl,rx⟩:=vals1 r;cases rx
 rcases h with⟨hq,q⟩|⟨hq,q⟩
 . obtain⟨its,r',pl,hz⟩:=I.list hq;have hlen:=r'.length;refine call_tuple_list pl.isList (λh' kp=>?_) (by simp only[zzH]<;>omega);have I1:Inv X pins σ H {s with heap:=h'}:=I.kept (t':=s.toks) kp;have I2:Inv X pins σ (upd H h'.objs.size (.tup ys)) {s with heap:=h'.push {cls:=.type "tuple",data:=.seq its.toArray}}:=
    I1.laid (t':=s.toks) (λb o e=>zxF _ e) (zzN _) (show yU X.prog X.w _ _ _ (.tup ys)from⟨hz,its,r',IsTup.new _ _⟩)
   exact⟨.ref h'.objs.size,_,I2,rfl,q _ (I1.hok.fresh (zzN _))⟩
 . obtain⟨its,r',pl,hz⟩:=I.tuple hq;exact call_tuple_same pl ⟨.ref p,H,I,rfl,q⟩
def oe(K:zzA)(T:String)(x:V)(H:Hp):Prop:=match x with
 | .str _=>T="str"
 | .int _=>T="int"
 | .ref p=>(T="list"/\∃xs,ZT K H p xs)\/(T="tuple"/\∃o,K.lookup p=some o/\o.cls = .type "tuple"/\o.dict=none) \/
  (T="dict"/\((∃kvs,H p=some (.dK kvs))\/∃kvs,H p=some (.dT kvs)))\/(T="set"/\∃S n,H p=some (.set S n))
 |_=>False
theorem Os(I:Inv X pins σ H s)(r:RelV x v)(ty:oe X.K T x H):
 s.TypeIs v T/\∀a,v = .ref a->∃ob,s.heap.get? a=some ob/\ob.dict=none:=by
 cases x with
 |str z=>
  obtain⟨t,rfl⟩:=r;cases(show T="str" from ty);exact⟨typeIs_str s z t,λ_ e=>nomatch e⟩
 |int i=>
  obtain⟨t,rfl⟩:=r;cases(show T="int" from ty);exact⟨typeIs_int s i t,λ_ e=>nomatch e⟩
 |ref p=>
  cases r
  rcases ty with⟨rfl,xs,hq⟩|⟨rfl,o,hk,hc,hd⟩|⟨rfl,hk⟩|⟨rfl,S,n,hk⟩
  . obtain⟨its,_,pl,_⟩:=I.list hq;refine⟨pl.isList.typeIs,λa e=>?_⟩;cases e;obtain⟨o,n,e,c,hd,_⟩:=pl;exact⟨o,e,hd⟩
  . refine⟨⟨o,I.kIn p o hk,hc⟩,λa e=>?_⟩;cases e;exact⟨o,I.kIn _ o hk,hd⟩
  . have z:∃o,s.heap.get? p=some o/\o.ExactDict:=by
     rcases hk with⟨kvs,hk⟩|⟨kvs,hk⟩
     . obtain⟨_,_,_,_,o,_,_,e,ex,_⟩:=I.hok p _ hk;exact⟨o,e,ex⟩
     . obtain⟨_,_,_,_,o,_,_,e,ex,_⟩:=I.hok p _ hk;exact⟨o,e,ex⟩
    obtain⟨o,e,ex⟩:=z;refine⟨⟨o,e,ex.1⟩,λa e2=>?_⟩;cases e2;exact⟨o,e,ex.2.1⟩
  . obtain⟨o,_,_,_,e,ex,_⟩:=I.hok p _ hk;refine⟨⟨o,e,ex.1⟩,λa e2=>?_⟩;cases e2;exact⟨o,e,ex.2.1⟩
 |_=>exact False.elim ty
def qe(K:zzA)(T:String)(r:V->List V->Hp->VK->Prop)(to:TE):TE:=λσ H Q=>to σ H λx H1=>oe K T x H1/\r x [] H1 Q
def oI(K:zzA)(T:String)(r:V->List V->Hp->VK->Prop)(to:TE)(t:TA):TE:=λσ H Q=>to σ H λx H1=>oe K T x H1/\t σ H1 λxs H2=>r x xs H2 Q
variable{o e:Expr}{es:List Expr}{to:TE}{t:TA}{name:Str}{apos cpos:Pos}{T id:String}{r:V->List V->Hp->VK->Prop}
theorem Jc(pa:PlainAttrs T)(slot:Slot T name id)(hty:typeOf (.builtin id)=pure (.type "method_descriptor"))(hm:ot X id r)(ho:PE X o to)
 (hbase:attributeBase o name X.env (eval o X.env)=eval o X.env:=by rfl) (hline:(apos.endLine==cpos.line)=true:=by rfl):PE X (.Call (.Attribute o name apos) [] [] cpos) (qe X.K T r to):=by
 intro pins s σ H Q I h;refine wpAny_Call_method0_late hbase hline (yY (ho pins s σ H _ I h) λv s1 ⟨x,H1,I1,r1,ty,q1⟩=>?_);obtain⟨h1,h2⟩:=Os I1 r1 ty;exact⟨T,id,pa,slot,hty,h1,h2,Calls.callWith_builtin rfl (PySem.evalArgs_none (hm pins s1 σ H1 x [] v [] Q I1 r1 .nil q1))⟩
theorem Cd(pa:PlainAttrs T)(slot:Slot T name id)(hty:typeOf (.builtin id)=pure (.type "method_descriptor"))(hm:ot X id r)(ho:PE X o to)(ha:PA X (e::es) t)
 (hbase:attributeBase o name X.env (eval o X.env)=eval o X.env:=by rfl)
 (hfew:((backTo cpos (starEach (e::es) X.env)).all (λx=>!x.1)&&(backToKw cpos (keywordEach [] X.env)).all (λx=>x.1.isSome)
  && decide ((e::es).length+([]:List Keyword).length+(if([]:List Keyword).isEmpty then 0 else 1)<30))=true:=by rfl)
 (hline:(apos.endLine==cpos.line)=true:=by rfl) (hs:starEach (e::es) X.env=(false,eval e X.env)::starEach es X.env:=by rfl) (hplain:(backTo cpos (starEach es X.env)).any (·.1)=false:=by rfl):
 PE X (.Call (.Attribute o name apos) (e::es) [] cpos) (oI X.K T r to t):=by
 intro pins s σ H Q I h;refine wpAny_Call_method_late hbase hfew hline rfl (yY (ho pins s σ H _ I h) λv s1 ⟨x,H1,I1,r1,ty,q1⟩=>?_);obtain⟨h1,h2⟩:=Os I1 r1 ty;refine⟨T,id,pa,slot,hty,h1,h2, ?_⟩;have hA:=ha cpos pins s1 σ H1 _ I1 q1;rw[hs]at hA ⊢;refine Calls.callWith_builtin (by show(false||(backTo cpos (starEach es X.env)).any (·.1))=false;rw[hplain]<;>rfl) (Calls.evalArgs_plain ?_);exact yY hA λus s2 ⟨vs,H2,I2,r2,q2⟩=>hm pins s2 σ H2 x vs v us Q I2 r1 r2 q2
end
end L2
namespace L2
open PySem PySem.Spec PyProof.Rows
def pz(X:Cx)(id:String)(r:V->List V->Hp->VK->Prop):Prop:=
 ∀(pins:List (Addr×Obj)) (s:Shared) (σ:St) (H:Hp) (x:V) (xs:List V) (v:Value) (us:List Value) (Q:VK),Inv X pins σ H s->RelV x v->zQ xs us->r x xs H Q->
  wpAny (model X.prog X.w) X.A (call (.builtin id) (v::us)) (EP X pins σ Q) X.xe s
theorem zQ.one:∀{x:V}{us:List Value},zQ [x] us->∃u,us=[u]/\RelV x u
 |_,_,.cons r .nil=>⟨_,rfl,r⟩
theorem zQ.zero:∀{us:List Value},zQ [] us->us=[]
 |_,.nil=>rfl
theorem zQ.eraseIdx:∀{xs:List V}{us:List Value}(i:Nat),zQ xs us->zQ (xs.eraseIdx i) (us.eraseIdx i)
 |_,_,_,.nil=>.nil
 |_,_,0,.cons _ t=>t
 |_,_,i+1,.cons r t=>.cons r (zQ.eraseIdx i t)
theorem zQ.rep(h:zQ xs us):∀k:Nat,zQ (List.replicate k xs).flatten (List.replicate k us).flatten
 |0=>.nil
 |k+1=>by
  rw[List.replicate_succ,List.replicate_succ,List.flatten_cons,List.flatten_cons];exact zQ.append h (zQ.rep h k)
theorem K3:∀(l:List α) (i:Nat),(l.eraseIdx i).length<=l.length
 | [],_=>zzN _
 |_::_,0=>zyV _
 |_::r,i+1=>Nat.succ_le_succ (K3 r i)
theorem foldl_rep(its:List Value):∀(k:Nat) (acc:List Value),
 List.foldl (λx1 x2=>x1++x2) acc.toArray (List.replicate k its.toArray)=(acc++(List.replicate k its).flatten).toArray
 |0,acc=>by simp
 |k+1,acc=>by
  have e:acc.toArray++its.toArray=(acc++its).toArray:=by simp
  have e2:(acc++its)++(List.replicate k its).flatten=acc++(List.replicate (k+1) its).flatten:=by
   rw[List.replicate_succ,List.flatten_cons,zxA]
  rw[<-e2,<-foldl_rep its k (acc++its),<-e,List.replicate_succ,List.foldl_cons]
section
variable{X:Cx}{pins:List (Addr×Obj)}{σ:St}{H:Hp}{s:Shared}{l b:Addr}{xs ys zs:List V}
theorem Inv.lset{its its':List Value}{n:Nat}{f:Array Value->Array Value}{t':Nat}(I:Inv X pins σ H s)(hH:H l=some (.lst xs))
 (e:s.heap.get? l=some {cls:=.type "list",data:=.seq its.toArray n}) (hf:f its.toArray=its'.toArray) (hv:zQ ys its') (hz:ys.length<=sizeLine):
 Inv X pins σ (upd H l (.lst ys)) {s with heap:=s.heap.update l (Obj.mapSeq f),toks:=t'}:=by
 have q:=PySem.IsL.update e f;rw[hf]at q;refine I.write (x:=l) (e:=l) (by rw[hH];exact trivial) (.inl rfl) (λb' u hb hu=>(Heap.get?_update_other s.heap (Obj.mapSeq f) (Ne.symm hb)).trans hu) ⟨_,q⟩ ?_;exact⟨hz,its',_,hv,q⟩
theorem Inv.lnew(I:Inv X pins σ H s)(hv:zQ ys its)(hz:ys.length<=sizeLine):
 Inv X pins σ (upd H s.heap.objs.size (.lst ys)) {s with heap:=s.heap.push {cls:=.type "list",data:=.seq its.toArray},toks:=t'}:=
 I.laid (λ_ _ q=>zxF _ q) (zzN _) ⟨hz,its,0,hv,zxH _ rfl⟩
theorem Inv.fresh(I:Inv X pins σ H s):H s.heap.objs.size=none:=I.hok.fresh (zzN _)
theorem Inv.lstM(I:Inv X pins σ H s)(hH:H l=some (.lst xs)):xs.length<=sizeLine/\∃(its:List Value) (n:Nat),zQ xs its/\xs.length=its.length/\s.heap.get? l=some {cls:=.type "list",data:=.seq its.toArray n}:=by
 obtain⟨z,its,n,r,e⟩:=I.hok l _ hH;exact⟨z,its,n,r,r.length,e⟩
theorem ER(h:n<=sizeLine):Builtin.List.listTooLong n=false:=by
 unfold Builtin.List.listTooLong;exact zyG (by omega)
end
section
variable{X:Cx}
def L9:V->List V->Hp->VK->Prop:=λx vs H Q=>∃l xs y,x = .ref l/\vs=[y]/\H l=some (.lst xs)/\xs.length<sizeLine/\Q .non (upd H l (.lst (xs++[y])))
theorem Uh:pz X "list.append" L9:=by
 intro pins s σ H x vs v us Q I rx rv h;obtain⟨l,xs,y,rfl,rfl,hH,hz,q⟩:=h;cases rx;obtain⟨u,rfl,ru⟩:=rv.one;obtain⟨z,its,n,r,hl,e⟩:=I.lstM hH;refine call_meets F.slot_list_append ⟨_,e,rfl⟩ F.entry_list_append (F.args_list_append_2 _ _) (PySem.list_append l its.toArray n u (by rw[zzH];omega)) ⟨e, ?_⟩;refine⟨.non,_,I.lset (its':=its++[u]) hH e (by simp) (r.append (.cons ru .nil)) ?_,rfl,q⟩;rw[zzJ,List.length_singleton];omega
def Bv:V->List V->Hp->VK->Prop:=λx vs H Q=>∃l b xs zs,x = .ref l/\vs=[.ref b]/\H l=some (.lst xs)/\H b=some (.lst zs)/\xs.length+zs.length<=sizeLine/\Q .non (upd H l (.lst (xs++zs)))
theorem HS:pz X "list.extend" Bv:=by
 intro pins s σ H x vs v us Q I rx rv h;obtain⟨l,b,xs,zs,rfl,rfl,hH,hB,hz,q⟩:=h;cases rx;obtain⟨u,rfl,ru⟩:=rv.one;cases ru;obtain⟨z,its,n,r,hl,e⟩:=I.lstM hH;obtain⟨z2,its2,n2,r2,tY,e2⟩:=I.lstM hB;have hsz:its.toArray.size+its2.toArray.size<=sizeLine:=by rw[zzH,zzH];omega
 have hlong:¬(!its.toArray.isEmpty&&Builtin.List.listTooLong (its.toArray.size+its2.toArray.size))=true:=by
  rw[ER hsz,Bool.and_false];exact zyU
 refine call_meets F.slot_list_extend ⟨_,e,rfl⟩ F.entry_list_extend (F.args_list_extend_2 _ _)
  (AutoSeq1.list_extend_list_list_0 l its.toArray n b its2.toArray n2 hlong (by rw[zzH];omega) (by omega)) ⟨e,e2, ?_⟩
 refine⟨.non,_,I.lset (its':=its++its2) hH e (by simp) (r.append r2) ?_,rfl,q⟩;rw[zzJ];omega
def IJ:V->List V->Hp->VK->Prop:=λx vs H Q=>∃l xs i k y,x = .ref l/\vs=[.int i]/\H l=some (.lst xs) /\ -(2 ^ 63)<=i/\i<2 ^ 63/\seqIndex? i xs.length=some k/\xs[k]? = some y/\Q y (upd H l (.lst (xs.eraseIdx k)))
theorem Cj:pz X "list.pop" IJ:=by
 intro pins s σ H x vs v us Q I rx rv h;obtain⟨l,xs,i,k,y,rfl,rfl,hH,h1,h2,hk,hy,q⟩:=h;cases rx;obtain⟨u,rfl,ru⟩:=rv.one;obtain⟨t,rfl⟩:=ru;obtain⟨z,its,n,r,hl,e⟩:=I.lstM hH;obtain⟨w,hw,rw'⟩:=r.get hy;refine call_meets F.slot_list_pop ⟨_,e,rfl⟩ F.entry_list_pop (F.args_list_pop_2 _ _)
  (MeetsSeq.list_pop_at l its.toArray n i t k w (fitsIndex_both h1 h2) (by rw[zzH,<-hl];exact hk) (by rw[<-Array.getElem?_toList];exact hw) (by rw[zzH];omega)) ⟨e, ?_⟩
 refine⟨y,_,I.lset (its':=its.eraseIdx k) hH e ?_ (r.eraseIdx k) ?_,rw',q⟩
 . show its.toArray.eraseIdxIfInBounds k=(its.eraseIdx k).toArray;rw[List.eraseIdxIfInBounds_toArray]
 . have:=K3 xs k;omega
def IP:V->List V->Hp->VK->Prop:=λx vs H Q=>∃l xs,x = .ref l/\vs=[]/\H l=some (.lst xs)/\Q .non (upd H l (.lst []))
theorem Mb:pz X "list.clear" IP:=by
 intro pins s σ H x vs v us Q I rx rv h;obtain⟨l,xs,rfl,rfl,hH,q⟩:=h;cases rx;have hus:=rv.zero;subst hus;obtain⟨z,its,n,r,hl,e⟩:=I.lstM hH;refine call_meets F.slot_list_clear ⟨_,e,rfl⟩ F.entry_list_clear (F.args_list_clear_1 _) (AutoSeq1.list_clear_list_0 l its.toArray n (by rw[zzH];omega)) ⟨e, ?_⟩;exact⟨.non,_,I.lset (its':=[]) (ys:=[]) hH e rfl .nil (Nat.zero_le _),rfl,q⟩
theorem len_rep(xs:List α)(k:Nat):(List.replicate k xs).flatten.length=k*xs.length:=by
 induction k with
 |zero=>simp
 |succ k ih=>rw[List.replicate_succ,List.flatten_cons,zzJ,ih,Nat.succ_mul,Nat.add_comm]
end
end L2
namespace Att
open PySem PySem.W PySem.Calls PyProof.Rows
theorem Pi:∀(ns:List Int) (vs:List Value),WellAll P h vs (ns.map WData.int)->IntsAre vs ns:=by
 intro ns
 induction ns with
 |nil=>
  intro vs w;rw[List.map_nil]at w;cases w;exact .nil
 |cons n ns ih=>
  intro vs w;rw[zyR]at w;cases w with
  |cons a b=>
   cases a;exact .cons _ _ (ih _ b)
theorem S6{l:OpenLaw}{n:Nat}(hn:l.most=some n){P:Params}{h:Heap}{args:List WData}{vals:List Value}
 (hpre:l.row.toRowW.claim.pre args=true) (hwl:WellAll P h vals args):
 ∃a vs ns,vals=[Value.ref a]/\args=[WData.list (ns.map WData.int)]/\h.get? a=some {cls:=.type "list",data:=.seq vs.toArray}/\IntsAre vs ns/\ns.length<=n:=by
 have hsh:WShape.hasAll [] args [.list .int]=true:=(pre_splitW hpre).1;have hc:l.pre.holds [] {args:=args}=true:=(pre_splitW hpre).2;obtain⟨d,r,rfl,h1,h2⟩:=hasAllW_cons hsh;obtain rfl:=hasAllW_nil h2;obtain⟨xs,rfl,h3⟩:=hasW_list h1;obtain⟨ns,rfl⟩:=items_int h3;have hlen:ns.length<=n:=by
  unfold OpenLaw.pre at hc;have h4:(WTm.not (.lt (.lit (.int (n:Int))) (.len (.arg 0)))).holds [] {args:=[.list (ns.map .int)]}=true:=by
   have h4:=(holds_andW hc).1;rw[hn]at h4;exact h4
  have h5:=condW_of h4 (w_not (w_lt w_lit (w_len_list (w_arg rfl))));rw[zzB]at h5;refine Nat.le_of_not_lt λq=>?_;have q':(n:Int)<((ns.length:Nat):Int):=by omega
  first
   |(rw[zyN q']at h5;exact absurd h5 (by decide))
   |(simp at h5;omega)
 cases hwl with
 |cons w1 w2=>
  cases w2;cases w1 with
  |list ho hall=>exact⟨_,_,ns,rfl,rfl,ho,Pi ns _ hall,hlen⟩
theorem HA(l:OpenLaw)(args:List WData):l.row.toRowW.claim.post args (.bool true) args=true:=
 postW_of (r:=l.row.toRowW) (X:=(true==true))
  (show WShape.has [] (.bool true) .bool=true by first|rfl|decide|simp[WShape.has,WShape.arms,WShape.armsAll])
  (show(WTm.eq .res (.lit (.bool true))).value [] {args:=args,res:=some (.bool true),after:=args}=some (.bool (true==true))from w_eq_bool (w_res rfl) w_lit) rfl
theorem M7{l:OpenLaw}{n:Nat}{q:Program}{loose:List Str}{XP:(Str->Option Value)->Heap->Prop}{YP:World->Heap->Prop}{d:DefRec}
 (hn:l.most=some n) (hdf:d.params.defaults=[])
 (call:∀(w:World) (s₀ s₁:Shared) (mg mb:Str->Option Value) (fa:Addr) (o:Obj) (pm cd doc:Value) (a:Addr) (vs:List Value) (ns:List Int),
  Ground q loose [] XP w s₀ mg mb s₁.heap->YP w s₁.heap->
  s₁.heap.get? fa=some o->o.data = .func (docDef d.name d.params d.body d.scope pm cd doc)->s₁.heap.CodeRec cd d.name->mg d.name=some (.ref fa)->
  s₁.heap.get? a=some {cls:=.type "list",data:=.seq vs.toArray}->IntsAre vs ns->ns.length<=n->s₁.gens = #[]->
  codeAny (model l.prog w) callerA (.call (.ref fa) ⟨[.ref a],[]⟩) (λr s'=>r = .ok (.ret (.bool true))/\OldK s₁.heap s'.heap/\s'.os=s₁.os/\AllBare s'.gens) s₁):
 WalkO q loose XP YP l.row.toRowW d [] (λf vs=>PySem.call f vs):=by
 intro w s₀ s₁ mg mb G Y fa o pm cd doc dV kV ho hd hcd hD hmg hg args vals as hpre hlay hrd hwl hlo;obtain rfl:dV = .none:=Dflts.none hD hdf;obtain rfl:kV = .none:=Dflts.noKw hD;obtain⟨a,vs,ns,rfl,rfl,hobj,hints,hlen⟩:=S6 hn hpre hwl;refine enter_call (codeAny_mono (call w s₀ s₁ mg mb fa o pm cd doc a vs ns G Y ho (fd_plain hd) hcd hmg hobj hints hlen hg) λr s' hq=>?_);obtain⟨rfl,h2,h3,h4⟩:=hq;exact⟨.inl ⟨.bool true,.bool true,[],rfl,λ_=>rfl,.bool true,HA l _,λ_=>⟨List.Pairwise.nil,λ_ hm=>(nomatch hm)⟩⟩,h2,h3,h4⟩
end Att
namespace L2
open PySem PySem.Spec PyProof.Rows
theorem ZY:∀{vs:List Value}{ns:List Int},IntsAre vs ns->zQ (ns.map V.int) vs
 |_,_,.nil=>.nil
 |_,_,.cons n t h=>.cons ⟨t,rfl⟩ (ZY h)
def tL(H:Hp):Prop:=∀b,H b=none\/∃o xs,H b=some (.frz o (.lst xs))
theorem OE{P:Program}{w:World}{K:zzA}{mg mb:Str->Option Value}{CX:H9}{k:Nat}{fa a:Addr}{fd:FuncData}{x:Str}{sp:Sp}{s₁:Shared}{vs:List Value}{ns:List Int}
 (KX:K.In s₁.heap) (hns:s₁.heap.Ns mainGlobals mg) (hb:s₁.heap.Ns builtinsNs mb) (hbb:∀x:Str,x≠"__name__"->mb x=bootBuiltins x) (hlim:s₁.heap.NoLimit) (hg:s₁.gens = #[])
 (ha:s₁.heap.get? a=some {cls:=.type "list",data:=.seq vs.toArray}) (hi:IntsAre vs ns) (hl:ns.length<=sizeLine) (hr:Room k callerA)
 (F:∀base:Heap,K.In base->base.Ns mainGlobals mg->FnOk P w K mg base CX k fa fd [x] sp) (hbind:∀(s:Shared) (u:Value),BindsTo s fd ⟨[u],[]⟩ [(x,u)])
 (hsp:∀H:Hp,tL H->Oq K H a (ns.map V.int)->sp [.ref a] H (λv _=>v = .bl true) λ_ _ _=>False)
 (hCX:∀H e s',CX [] H s₁ (λ_ _ _=>False) e s'->False):
 codeAny (model P w) callerA (.call (.ref fa) ⟨[.ref a],[]⟩) (λr s'=>r = .ok (.ret (.bool true))/\OldK s₁.heap s'.heap/\s'.os=s₁.os/\AllBare s'.gens) s₁:=by
 have rv:=ZY hi;have Jq:=hi.length;have core:∀H:Hp,tL H->Oq K H a (ns.map V.int)->Rw P w H s₁.heap->(∀b,H b≠none->b=a)->(H a≠none->K.lookup a=none)->
  codeAny (model P w) callerA (.call (.ref fa) ⟨[.ref a],[]⟩) (λr s'=>r = .ok (.ret (.bool true))/\OldK s₁.heap s'.heap/\s'.os=s₁.os/\AllBare s'.gens) s₁:=by
  intro H hO hS hok hA hK;have base_of:∀{b:Addr}{o:Obj},s₁.heap.get? b=some o->H b=none->(LV s₁.heap H).get? b=some o:=λe n=>IH e n;have noA:∀{b:Addr}{o:Obj}{es:Array DictEntry}{ep:Nat},s₁.heap.get? b=some o->o.data = .dict es ep->H b=none:=λ{b o es ep} e d=>by
   cases q:H b with
   |none=>rfl
   |some u=>
    have e':b=a:=hA b (by rw[q];simp);subst e';rw[ha]at e;cases e;have d':Data.seq vs.toArray _=Data.dict es ep:=d;cases d'
  have nsK:∀{b:Addr}{m:Str->Option Value},s₁.heap.Ns b m->(LV s₁.heap H).Ns b m:=λ{b m} ⟨o,es,ep,e,d,r⟩=>⟨o,es,ep,base_of e (noA e d),d,r⟩;have hKb:K.In (LV s₁.heap H):=λb o e=>base_of (KX b o e) (by
   cases q:H b with
   |none=>rfl
   |some u=>
    have e':b=a:=hA b (by rw[q];simp);subst e';rw[hK (by rw[q];simp)]at e;cases e)
  have hM:Mod K mg (LV s₁.heap H):=⟨hKb,nsK hns,⟨mb,nsK hb,hbb⟩,let⟨mc,h1,h2⟩:=hlim;⟨mc,nsK h1,h2⟩⟩;have e0:Env0 P w K mg (LV s₁.heap H) callerA [] s₁ H:=⟨rfl,hM,λb o e=>Ab e,Nat.le_of_eq (SG _ _),trivial,λb hb=>absurd (show b ∈ ([]:List Addr)from hb) (by simp),hok,.of_eq hg⟩;refine codeAny_mono ((F _ hKb (nsK hns)).run callerA [] s₁ H ⟨[.ref a],[]⟩ [.ref a] [.ref a] _ _ hr e0 (hbind s₁ (.ref a)) (.cons rfl .nil) (hsp H hO hS)) λr s' h=>?_;cases r with
  |error e=>exact(hCX H e s' h).elim
  |ok fl=>
   cases fl with
   |next=>exact False.elim h
   |brk=>exact False.elim h
   |cont=>exact False.elim h
   |ret u=>
    obtain⟨v,H',os,bare,un,hok',r',q⟩:=h;have q':v = .bl true:=q;subst q';obtain rfl:u=Value.bool true:=r';refine⟨rfl,OldK.of_keep λb o e=>?_,os,bare⟩;cases q:H b with
    |none=>exact un.keep b o e q (by intro z;exact absurd (show b ∈ ([]:List Addr)from z) (by simp)) (by simp)
    |some u=>
     rcases hO b with z|⟨ob,xs,z⟩
     . rw[q]at z;cases z
     . have z2:=un.frzs b ob _ z;obtain⟨e1,_⟩:=hok b _ z;obtain⟨e2,_⟩:=hok' b _ z2;rw[e]at e1;cases e1;exact e2
 cases hk:K.lookup a with
 |some o=>
  have e:=KX a o hk;rw[ha]at e;cases e;refine core (λ_=>none) (λ_=>.inl rfl) (.inr ⟨vs.toArray,_,hk,by rw[zzH,Jq];exact hl,by simpa using rv⟩) (λb u z=>by have z':(none:Option HO)=some u:=z;cases z') (λb z=>absurd rfl z) λz=>absurd rfl z
 |none=>
  refine core (λb=>if b=a then some (.frz {cls:=.type "list",data:=.seq vs.toArray} (.lst (ns.map V.int)))else none) (λb=>?_) (.inl (.inr ⟨{cls:=.type "list",data:=.seq vs.toArray},if_pos rfl⟩)) (λb u z=>?_) (λb z=>?_) λ_=>hk
  . by_cases hb:b=a
    . exact .inr ⟨_,_,if_pos hb⟩
    . exact .inl (if_neg hb)
  . by_cases hb:b=a
    . have z':=(if_pos hb).symm.trans z;cases z';subst hb;exact⟨ha,by rw[zzB];exact hl,vs,_,rv,ha⟩
    . have z':=(if_neg hb).symm.trans z;cases z'
  . by_cases hb:b=a
    . exact hb
    . exact absurd (if_neg hb) z
end L2
namespace L2
open PySem PySem.Spec PyProof.Rows
theorem walk_of{l:PySem.W.OpenLaw}{n k:Nat}{q:Program}{loose:List Str}{XP:(Str->Option Value)->Heap->Prop}{YP:World->Heap->Prop}{d:DefRec}{K:Params->zzA}{CX:World->H9}{sp:World->Sp}{x:Str}
 (hn:l.most=some n) (hn2:n<=sizeLine) (hdf:d.params.defaults=[]) (hr:Room k callerA)
 (hY:∀(w:World) (h:Heap),YP w h->(K w.params).In h)
 (F:∀(w:World) (mg:Str->Option Value) (fa:Addr) (h:Heap),(K w.params).In h->h.Ns mainGlobals mg->mg d.name=some (.ref fa)->
  ∃fd:FuncData,(∀(s:Shared) (u:Value),BindsTo s fd ⟨[u],[]⟩ [(x,u)])/\
   ∀base:Heap,(K w.params).In base->base.Ns mainGlobals mg->FnOk l.prog w (K w.params) mg base (CX w) k fa fd [x] (sp w))
 (hsp:∀(w:World) (H:Hp) (a:Addr) (ns:List Int),ns.length<=n->tL H->Oq (K w.params) H a (ns.map V.int)->sp w [.ref a] H (λv _=>v = .bl true) λ_ _ _=>False)
 (hCX:∀(w:World) (H:Hp) (s:Shared) (e:Value) (s':Shared),CX w [] H s (λ_ _ _=>False) e s'->False):
 PySem.W.WalkO q loose XP YP l.row.toRowW d [] (λf vs=>PySem.call f vs):=by
 refine Att.M7 hn hdf λw s₀ s₁ mg mb fa o pm cd doc a vs ns G Y ho hd hcd hmg hobj hints hlen hg=>?_;have KX:=hY w _ Y;obtain⟨fd,hb,hF⟩:=F w mg fa _ KX G.T.g hmg;exact OE KX G.T.g G.T.b G.T.builtins G.T.nolimit hg hobj hints (zzO hlen hn2) hr hF hb (λH hO hS=>hsp w H a ns hlen hO hS) λH e s'=>hCX w H s₁ e s'
end L2
namespace L2
open PySem PySem.Spec PyProof.Rows
def Pn(s:Stmt):Arguments:=match s with
 | .FunctionDef _ a _ _ _ _ _ _ _ _=>a
 |_=>{posonlyargs:=[],args:=[],vararg:=none,kwonlyargs:=[],kw_defaults:=[],kwarg:=none,defaults:=[]}
def Zv(s:Stmt):List Stmt:=match s with
 | .FunctionDef _ _ b _ _ _ _ _ _ _=>b
 |_=>[]
def ze(s:Stmt):Scope:=match s with
 | .FunctionDef _ _ _ _ _ _ sc _ _ _=>sc
 |_=>{kind:=.function,names:=[],isGenerator:=false,isCoroutine:=false}
abbrev Ko:H9:=λ_ _ _ _ _ _=>False
abbrev E0:XK:=λ_ _ _=>False
theorem O5:TB Ko X E0:=λ_ _ _ _ _ _ _ h=>h.elim
structure Fun(K:zzA)(x qual:Str)(st:Stmt)(f:Addr)(fd:FuncData):Prop where
 ex:∃(oc:Value) (od:Option Addr) (kV doc pm:Value) (an:Option Addr) (cdv ct:Value) (osl:Array (Option Value)),
  fd=PySem.W.fnOf x qual (Pn st) (Zv st) (ze st) .none kV doc pm an cdv ct/\K.lookup f=some ⟨oc,od,.func fd,osl⟩/\PySem.W.codeIn K cdv qual=true
 kp:PySem.W.keepIn K (.ref f)=true
section
variable{P:Program}{w:World}{K:zzA}{mg:Str->Option Value}{base:Heap}
theorem Fun.ok{x qual:Str}{st:Stmt}{f:Addr}{fd:FuncData}{N ps:List Str}{k:Nat}{sp:Sp}(F:Fun K x qual st f fd)(S:FnScope N ps (ze st))(len:∀vs H Q E,sp vs H Q E->vs.length=ps.length)
 (hbody:∀(cdv:Value) (A:Around) (outer:List Env) (s:Shared) (H:Hp) (vs:List V) (Q:VK) (E:XK),Room k (A.deeper (envOfC qual (ze st) s.heap.objs.size f cdv))->sp vs H Q E->
  ∃t,N5 (LL Ko P w K mg base N qual (ze st) f cdv A outer s H E).nox (Zv st) t/\t {nx:=λ_ H'=>Q .non H',rt:=Q} (start N vs) H):FnOk P w K mg base Ko (k+1) f fd ps sp:=by
 obtain⟨oc,od,kV,doc,pm,an,cdv,ct,osl,rfl,lk,hcd⟩:=F.ex;refine r9 lk hcd S len λA outer s H vs Q E hr hsp=>?_;obtain⟨t,h,q⟩:=hbody cdv A outer s H vs Q E hr hsp;exact⟨t,h.nox,q⟩
theorem Fun.binds{x qual:Str}{st:Stmt}{f:Addr}{fd:FuncData}{ps:List Str}(F:Fun K x qual st f fd)
 (h:∀(kV doc pm:Value) (an:Option Addr) (cdv ct:Value) (us:List Value),us.length=ps.length->bindArgs (PySem.W.fnOf x qual (Pn st) (Zv st) (ze st) .none kV doc pm an cdv ct) ⟨us,[]⟩=pure (ps.zip us)):Binds K fd ps []:=by
 obtain⟨oc,od,kV,doc,pm,an,cdv,ct,osl,rfl,lk,hcd⟩:=F.ex;exact .all (h kV doc pm an cdv ct)
end
theorem yA(h:n<=1000):n<sizeLine:=Nat.lt_of_le_of_lt h (by decide)
section
variable{X:Cx}
theorem pv(i:Nat)(hN:X.N[i]? = some x:=by rfl)(hv:oo X.env.scope x:=by first|exact Or.inl rfl|exact Or.inr (Or.inl rfl)|exact Or.inr (Or.inr rfl))(hd:(x==("__debug__":Str))=false:=by decide)
 (hcd:(x==("__classdict__":Str))=false:=by decide):PE X (.Name x pos) (vm i):=OY hN hv hd hcd
end
section
variable{κ:Type}[DecidableEq κ]
theorem AB{kvs:List (κ×V)}{k:κ}{v:V}(h:Y8 kvs k=some v):k ∈ kvs.map (·.1):=by
 have q:(kvs.any λkv=>decide (kv.1=k))=true:=by
  rw[Tt,h]
  all_goals rfl
 obtain⟨p,hp,e⟩:=List.any_eq_true.mp q;exact zxB.mpr ⟨p,hp,of_decide_eq_true e⟩
end
end L2
end
section
namespace G15
open PySem PySem.W PyProof.Rows L2
def top(i:Nat):Stmt:=PySem.Challenge.pw_stretchdeeds_k15_algebras_written.main.body.getD i (.Pass ⟨0,0,0,0⟩)
abbrev V4:Stmt:=top 8
abbrev wX:Stmt:=top 9
abbrev V6:Stmt:=top 10
abbrev PD:Stmt:=top 11
abbrev Wb:Stmt:=top 19
abbrev v_:Stmt:=top 20
abbrev ZX:Stmt:=top 21
abbrev Z0:Stmt:=top 22
abbrev vD:Stmt:=top 26
abbrev LK:Stmt:=top 27
abbrev wV:Stmt:=top 28
abbrev Wj:Stmt:=top 29
abbrev Wd:Stmt:=top 30
abbrev Zu:Stmt:=top 31
abbrev Yz:Stmt:=top 33
abbrev v9:Stmt:=top 34
abbrev Zg:Stmt:=top 35
abbrev wa:Stmt:=top 36
abbrev wZ:Stmt:=top 37
abbrev YA:Stmt:=top 38
abbrev Zj:Stmt:=top 39
abbrev xu:Stmt:=top 40
abbrev xf:Stmt:=top 41
abbrev xb:Stmt:=top 42
abbrev vI:Stmt:=top 43
abbrev Zt:Stmt:=top 44
abbrev wy:Stmt:=top 45
abbrev Qi:Stmt:=top 46
abbrev Zk:Stmt:=top 47
abbrev v7:Stmt:=top 48
abbrev X1:Stmt:=top 49
abbrev X4:Stmt:=top 50
abbrev vE:Stmt:=top 51
abbrev vL:Stmt:=top 52
abbrev we:Stmt:=top 53
abbrev wQ:Stmt:=top 55
abbrev Xg:Stmt:=top 56
abbrev vK:Stmt:=top 57
abbrev Zo:Stmt:=top 58
abbrev wL:Stmt:=top 59
abbrev YF:Stmt:=top 60
abbrev vH:Stmt:=top 61
abbrev YQ:Stmt:=top 62
abbrev Zl:Stmt:=top 63
abbrev YM:Stmt:=top 64
abbrev Za:Stmt:=top 65
abbrev vJ:Stmt:=top 66
abbrev YV:Stmt:=top 67
abbrev v3:Stmt:=top 68
abbrev Zr:Stmt:=top 69
abbrev wU:Stmt:=top 70
abbrev Yu:Stmt:=top 71
abbrev vF:Stmt:=top 72
abbrev xI:Stmt:=top 73
abbrev Wa:Stmt:=top 74
abbrev xq:Stmt:=top 75
abbrev vZ:Stmt:=top 76
abbrev wN:Stmt:=top 77
abbrev Zn:Stmt:=top 78
abbrev xo:Stmt:=top 79
abbrev B4:Stmt:=top 80
abbrev hpg:=PySem.Challenge.pw_stretchdeeds_k15_algebras_written
abbrev hva:Value:=.str "stretchdeeds.errors" 187
abbrev hvb:Value:=.str "stretchdeeds.terms" 232
abbrev hvc:Value:=.str "stretchdeeds.algebras" 298
abbrev hvd:Value:=.str "stretchdeeds.termtexts" 336
abbrev hve:Value:=.str "stretchdeeds.algtexts" 396
abbrev hvf:Value:=.str "law_stretchdeeds_k15_algebras_written" 583
abbrev hem:List Value:=[(.type "ValueError"), (.type "Exception"), (.type "BaseException"), (.type "object")]
abbrev kF(n q:Str)(s:Stmt)(pm hcd:Value):Obj:=⟨.type "function",none,.func (fnOf n q (Pn s) (Zv s) (ze s) .none .none .none pm none hcd .none),#[]⟩
abbrev kD(es:List DictEntry)(n:Nat):Obj:=⟨.type "dict",none,.dict es.toArray n,#[]⟩
abbrev kE(P:Params)(x:Str)(t:Nat)(v:Value):DictEntry:=⟨PyData.keyHash P x,.str x t,v⟩
abbrev kR(P:Params)(x:Str)(t:Nat)(a:Addr):DictEntry:=kE P x t (.ref a)
abbrev hfl(c:Value)(l:List Value):Obj:=⟨c,none,.fields l.toArray,#[]⟩
abbrev hco(n q:Str)(t u:Nat)(l k g:Int)(b:Bool)(a:Nat)(r s v:Value):Obj:=hfl (.type "code") [.str n t,.str q (t+1),.str "/claim/cut.py" (t+2),.int l 0,.int k 0,.int 0 0,.int 0 0,.int g 0,.ref a,.bool b,.int 181 0,.ref (a+1),.none,r,s,v,.int u 0,.int l 0,.str "/claim/cut.py" (u+1)]
abbrev hc7(n q:Str)(t u:Nat)(l k:Int)(a:Nat):=hco n q t u l k 3 true a (.ref (a+2)) (.ref (a+3)) (.ref (a+4))
abbrev hc5(n q:Str)(t:Nat)(l k:Int)(a:Nat):=hco n q t (t+3) l k 3 true a .none .none (.ref (a+2))
noncomputable abbrev hen(P:Params):List DictEntry:=[kE P "__doc__" 166 .none,kE P "__package__" 167 .none,kE P "__loader__" 168 (.builtin "__main__.__loader__#opaque"),kE P "__spec__" 169 .none,kR P "__annotations__" 170 6,kR P "__builtins__" 171 4,kE P "__file__" 173 (.str "/claim/cut.py" 172),kE P "__cached__" 174 .none,kR P "StretchError" 206 24,kR P "NoText" 231 44,kE P "MOST_TERMS" 235 (.int (40) 234),kE P "MOST_WITHIN" 237 (.int (12) 236),kR P "LETTERS" 241 47,kR P "PARTS" 260 48,kR P "is_let" 268 55,kR P "parts_after" 275 62,kR P "of_two" 284 69,kR P "worth" 297 76,kE P "MOST_VALUES" 301 (.int (8) 300),kE P "MOST_AROUND" 303 (.int (6) 302),kE P "MOST_DEEDS" 305 (.int (6) 304),kE P "MOST_SIGNS" 307 (.int (4) 306),kE P "MOST_LETTERS" 309 (.int (8) 308),kE P "SMALL_LETTERS" 311 (.str "abcdefghijklmnopqrstuvwxyz" 310),kR P "is_name" 317 81,kR P "is_rising" 323 86,kR P "join_by" 329 91,kR P "rows_by" 335 96,kE P "FIGURES" 339 (.str "0123456789" 338),kE P "MOST_FIGURES" 341 (.int (60) 340),kR P "is_figures" 347 101,kR P "fits" 356 108,kR P "first_fault" 367 115,kR P "leaf_of" 374 122,kR P "term_of" 385 129,kR P "read_term" 395 136,kR P "show_row" 403 141,kR P "show_rows" 409 146,kR P "show_sign" 415 151,kR P "show_algebra" 421 156,kR P "read_number" 431 163,kR P "read_row" 437 168,kR P "read_rows" 443 173,kR P "read_some_term" 451 180,kR P "read_join_table" 461 187,kR P "read_deed_table" 472 194,kR P "read_sizes" 482 201,kR P "read_join" 491 208,kR P "read_nothing" 500 215,kR P "is_new" 506 220,kR P "read_deed" 518 227,kR P "read_sign" 529 234,kR P "line_at" 537 241,kR P "as_told" 545 248,kR P "read_deeds" 556 255,kR P "read_signs" 567 262,kR P "read_algebra" 582 269,kR P "_law_cell_at" 592 276,kR P "_law_whole" 599 283,kR P "_law_stream" 610 290,kR P "_law_names" 616 295,kR P "_law_divisor" 624 302,kR P "_law_sums" 630 307,kR P "_law_rising" 636 312,kR P "_law_kept" 642 317,kR P "_law_joins" 648 322,kR P "_law_rows" 654 327,kR P "_law_plain" 660 332,kR P "_law_beside" 666 337,kR P "_law_made" 680 344,kR P "_law_order" 691 351,kR P "_law_signs" 697 356,kR P "_law_algebra" 703 361,kR P "_law_bent" 709 366,kR P "_law_digits" 720 373,kR P "_law_by_digits" 726 378,kR P "_law_any" 735 385,kR P "_law_shown_rows" 741 390,kR P "_law_lines" 747 395,kR P "_law_renamed" 753 400,kR P "_law_drawn" 760 407,kR P "_law_read_right" 769 414,kR P "law" 784 421]
def K(P:Params):Frag:=
 (nat_lit 3,kD (kE P "__name__" 165 hvf::hen P) 84)::
 (nat_lit 47,⟨(.type "tuple"),none,.seq #[(.str "a" 238),(.str "b" 239),(.str "c" 240)] 0,#[]⟩)::
 (nat_lit 48,kD [kE P "add" 242 (.int (2) 243),kE P "take" 244 (.int (2) 245),kE P "times" 246 (.int (2) 247),kE P "most" 248 (.int (2) 249),kE P "least" 250 (.int (2) 251),kE P "same" 252 (.int (4) 253)] 6)::
 (nat_lit 54,hc7 "is_let" "is_let" 261 266 14 2 49)::
 (nat_lit 55,kF "is_let" "is_let" V4 hvb (.ref 54))::
 (nat_lit 61,hc7 "parts_after" "parts_after" 269 273 16 1 56)::
 (nat_lit 62,kF "parts_after" "parts_after" wX hvb (.ref 61))::
 (nat_lit 68,hc7 "of_two" "of_two" 276 282 18 3 63)::
 (nat_lit 69,kF "of_two" "of_two" V6 hvb (.ref 68))::
 (nat_lit 75,hc7 "worth" "worth" 285 295 28 3 70)::
 (nat_lit 76,kF "worth" "worth" PD hvb (.ref 75))::
 (nat_lit 80,hc5 "is_name" "is_name" 312 47 1 77)::
 (nat_lit 81,kF "is_name" "is_name" Wb hvc (.ref 80))::
 (nat_lit 85,hc5 "is_rising" "is_rising" 318 51 1 82)::
 (nat_lit 86,kF "is_rising" "is_rising" v_ hvc (.ref 85))::
 (nat_lit 90,hc5 "join_by" "join_by" 324 53 2 87)::
 (nat_lit 91,kF "join_by" "join_by" ZX hvc (.ref 90))::
 (nat_lit 95,hc5 "rows_by" "rows_by" 330 55 3 92)::
 (nat_lit 96,kF "rows_by" "rows_by" Z0 hvc (.ref 95))::
 (nat_lit 100,hc5 "is_figures" "is_figures" 342 60 2 97)::
 (nat_lit 101,kF "is_figures" "is_figures" vD hvd (.ref 100))::
 (nat_lit 107,hc7 "fits" "fits" 348 354 66 3 102)::
 (nat_lit 108,kF "fits" "fits" LK hvd (.ref 107))::
 (nat_lit 114,hc7 "first_fault" "first_fault" 357 365 70 2 109)::
 (nat_lit 115,kF "first_fault" "first_fault" wV hvd (.ref 114))::
 (nat_lit 121,hc7 "leaf_of" "leaf_of" 368 372 79 1 116)::
 (nat_lit 122,kF "leaf_of" "leaf_of" Wj hvd (.ref 121))::
 (nat_lit 128,hc7 "term_of" "term_of" 375 383 83 1 123)::
 (nat_lit 129,kF "term_of" "term_of" Wd hvd (.ref 128))::
 (nat_lit 135,hc7 "read_term" "read_term" 386 393 90 2 130)::
 (nat_lit 136,kF "read_term" "read_term" Zu hvd (.ref 135))::
 (nat_lit 140,hc5 "show_row" "show_row" 398 97 1 137)::
 (nat_lit 141,kF "show_row" "show_row" Yz hve (.ref 140))::
 (nat_lit 145,hc5 "show_rows" "show_rows" 404 99 1 142)::
 (nat_lit 146,kF "show_rows" "show_rows" v9 hve (.ref 145))::
 (nat_lit 150,hc5 "show_sign" "show_sign" 410 101 2 147)::
 (nat_lit 151,kF "show_sign" "show_sign" Zg hve (.ref 150))::
 (nat_lit 155,hc5 "show_algebra" "show_algebra" 416 103 1 152)::
 (nat_lit 156,kF "show_algebra" "show_algebra" wa hve (.ref 155))::
 (nat_lit 162,hc7 "read_number" "read_number" 422 429 110 3 157)::
 (nat_lit 163,kF "read_number" "read_number" wZ hve (.ref 162))::
 (nat_lit 167,hc5 "read_row" "read_row" 432 115 2 164)::
 (nat_lit 168,kF "read_row" "read_row" YA hve (.ref 167))::
 (nat_lit 172,hc5 "read_rows" "read_rows" 438 118 3 169)::
 (nat_lit 173,kF "read_rows" "read_rows" Zj hve (.ref 172))::
 (nat_lit 179,hc7 "read_some_term" "read_some_term" 444 449 123 2 174)::
 (nat_lit 180,kF "read_some_term" "read_some_term" xu hve (.ref 179))::
 (nat_lit 186,hc7 "read_join_table" "read_join_table" 452 459 128 2 181)::
 (nat_lit 187,kF "read_join_table" "read_join_table" xf hve (.ref 186))::
 (nat_lit 193,hc7 "read_deed_table" "read_deed_table" 462 470 134 3 188)::
 (nat_lit 194,kF "read_deed_table" "read_deed_table" xb hve (.ref 193))::
 (nat_lit 200,hc7 "read_sizes" "read_sizes" 473 480 140 1 195)::
 (nat_lit 201,kF "read_sizes" "read_sizes" vI hve (.ref 200))::
 (nat_lit 207,hc7 "read_join" "read_join" 483 489 147 2 202)::
 (nat_lit 208,kF "read_join" "read_join" Zt hve (.ref 207))::
 (nat_lit 214,hc7 "read_nothing" "read_nothing" 492 498 150 2 209)::
 (nat_lit 215,kF "read_nothing" "read_nothing" wy hve (.ref 214))::
 (nat_lit 219,hc5 "is_new" "is_new" 501 155 2 216)::
 (nat_lit 220,kF "is_new" "is_new" Qi hve (.ref 219))::
 (nat_lit 226,hc7 "read_deed" "read_deed" 507 516 157 4 221)::
 (nat_lit 227,kF "read_deed" "read_deed" Zk hve (.ref 226))::
 (nat_lit 233,hc7 "read_sign" "read_sign" 519 527 163 3 228)::
 (nat_lit 234,kF "read_sign" "read_sign" v7 hve (.ref 233))::
 (nat_lit 240,hc7 "line_at" "line_at" 530 535 169 2 235)::
 (nat_lit 241,kF "line_at" "line_at" X1 hve (.ref 240))::
 (nat_lit 247,hc7 "as_told" "as_told" 538 543 173 2 242)::
 (nat_lit 248,kF "as_told" "as_told" X4 hve (.ref 247))::
 (nat_lit 254,hc7 "read_deeds" "read_deeds" 546 554 177 3 249)::
 (nat_lit 255,kF "read_deeds" "read_deeds" vE hve (.ref 254))::
 (nat_lit 261,hc7 "read_signs" "read_signs" 557 565 184 3 256)::
 (nat_lit 262,kF "read_signs" "read_signs" vL hve (.ref 261))::
 (nat_lit 268,hc7 "read_algebra" "read_algebra" 568 580 189 1 263)::
 (nat_lit 269,kF "read_algebra" "read_algebra" we hve (.ref 268))::
 (nat_lit 275,hc7 "_law_cell_at" "_law_cell_at" 585 590 200 2 270)::
 (nat_lit 276,kF "_law_cell_at" "_law_cell_at" wQ hvf (.ref 275))::
 (nat_lit 282,hc7 "_law_whole" "_law_whole" 593 597 204 1 277)::
 (nat_lit 283,kF "_law_whole" "_law_whole" Xg hvf (.ref 282))::
 (nat_lit 289,hc7 "_law_stream" "_law_stream" 600 608 206 2 284)::
 (nat_lit 290,kF "_law_stream" "_law_stream" vK hvf (.ref 289))::
 (nat_lit 294,hc5 "_law_names" "_law_names" 611 213 2 291)::
 (nat_lit 295,kF "_law_names" "_law_names" Zo hvf (.ref 294))::
 (nat_lit 301,hc7 "_law_divisor" "_law_divisor" 617 622 222 2 296)::
 (nat_lit 302,kF "_law_divisor" "_law_divisor" wL hvf (.ref 301))::
 (nat_lit 306,hc5 "_law_sums" "_law_sums" 625 226 3 303)::
 (nat_lit 307,kF "_law_sums" "_law_sums" YF hvf (.ref 306))::
 (nat_lit 311,hc5 "_law_rising" "_law_rising" 631 232 3 308)::
 (nat_lit 312,kF "_law_rising" "_law_rising" vH hvf (.ref 311))::
 (nat_lit 316,hc5 "_law_kept" "_law_kept" 637 236 3 313)::
 (nat_lit 317,kF "_law_kept" "_law_kept" YQ hvf (.ref 316))::
 (nat_lit 321,hc5 "_law_joins" "_law_joins" 643 239 2 318)::
 (nat_lit 322,kF "_law_joins" "_law_joins" Zl hvf (.ref 321))::
 (nat_lit 326,hc5 "_law_rows" "_law_rows" 649 250 4 323)::
 (nat_lit 327,kF "_law_rows" "_law_rows" YM hvf (.ref 326))::
 (nat_lit 331,hc5 "_law_plain" "_law_plain" 655 258 5 328)::
 (nat_lit 332,kF "_law_plain" "_law_plain" Za hvf (.ref 331))::
 (nat_lit 336,hc5 "_law_beside" "_law_beside" 661 261 3 333)::
 (nat_lit 337,kF "_law_beside" "_law_beside" vJ hvf (.ref 336))::
 (nat_lit 343,hc7 "_law_made" "_law_made" 667 678 280 3 338)::
 (nat_lit 344,kF "_law_made" "_law_made" YV hvf (.ref 343))::
 (nat_lit 350,hc7 "_law_order" "_law_order" 681 689 293 2 345)::
 (nat_lit 351,kF "_law_order" "_law_order" v3 hvf (.ref 350))::
 (nat_lit 355,hc5 "_law_signs" "_law_signs" 692 299 3 352)::
 (nat_lit 356,kF "_law_signs" "_law_signs" Zr hvf (.ref 355))::
 (nat_lit 360,hc5 "_law_algebra" "_law_algebra" 698 304 2 357)::
 (nat_lit 361,kF "_law_algebra" "_law_algebra" wU hvf (.ref 360))::
 (nat_lit 365,hc5 "_law_bent" "_law_bent" 704 322 2 362)::
 (nat_lit 366,kF "_law_bent" "_law_bent" Yu hvf (.ref 365))::
 (nat_lit 372,hc7 "_law_digits" "_law_digits" 710 718 336 3 367)::
 (nat_lit 373,kF "_law_digits" "_law_digits" vF hvf (.ref 372))::
 (nat_lit 377,hc5 "_law_by_digits" "_law_by_digits" 721 342 2 374)::
 (nat_lit 378,kF "_law_by_digits" "_law_by_digits" xI hvf (.ref 377))::
 (nat_lit 384,hc7 "_law_any" "_law_any" 727 733 351 1 379)::
 (nat_lit 385,kF "_law_any" "_law_any" Wa hvf (.ref 384))::
 (nat_lit 389,hc5 "_law_shown_rows" "_law_shown_rows" 736 357 1 386)::
 (nat_lit 390,kF "_law_shown_rows" "_law_shown_rows" xq hvf (.ref 389))::
 (nat_lit 394,hc5 "_law_lines" "_law_lines" 742 359 1 391)::
 (nat_lit 395,kF "_law_lines" "_law_lines" vZ hvf (.ref 394))::
 (nat_lit 399,hc5 "_law_renamed" "_law_renamed" 748 367 2 396)::
 (nat_lit 400,kF "_law_renamed" "_law_renamed" wN hvf (.ref 399))::
 (nat_lit 406,hc7 "_law_drawn" "_law_drawn" 754 758 375 1 401)::
 (nat_lit 407,kF "_law_drawn" "_law_drawn" Zn hvf (.ref 406))::
 (nat_lit 413,hc7 "_law_read_right" "_law_read_right" 761 767 377 2 408)::
 (nat_lit 414,kF "_law_read_right" "_law_read_right" xo hvf (.ref 413))::
 (nat_lit 420,hc7 "law" "law" 770 782 380 1 415)::
 (nat_lit 421,kF "law" "law" B4 hvf (.ref 420))::
 []
def kA:List Addr:=[3,47,48,54,55,61,62,68,69,75,76,80,81,85,86,90,91,95,96,100,101,107,108,114,115,121,122,128,129,135,136,140,141,145,146,150,151,155,156,162,163,167,168,172,173,179,180,186,187,193,194,200,201,207,208,214,215,219,220,226,227,233,234,240,241,247,248,254,255,261,262,268,269,275,276,282,283,289,290,294,295,301,302,306,307,311,312,316,317,321,322,326,327,331,332,336,337,343,344,350,351,355,356,360,361,365,366,372,373,377,378,384,385,389,390,394,395,399,400,406,407,413,414,420,421]
def qv:Program:={hpg with main:={hpg.main with body:=[1,2,4,5,6,7,8,9,10,11,13,14,15,16,17,18,19,20,21,22,24,25,26,27,28,29,30,31,33,34,35,36,37,38,39,40,41,42,43,44,45,46,47,48,49,50,51,52,53,55,56,57,58,59,60,61,62,63,64,65,66,67,68,69,70,71,72,73,74,75,76,77,78,79,80].map top}}
theorem kAe(P:Params):kA=(K P).map (·.1):=by kernel_rfl
set_option maxRecDepth 100000
theorem ws:PySem.Challenge.rw_stretchdeeds_k15_algebras_written.wellSaid=true:=by kernel_rfl
abbrev Xt(s:Shared):Bool:=xlAt qv [] s&&recOk (RowW.records (OpenRow.toRowW PySem.Challenge.rw_stretchdeeds_k15_algebras_written.row)) s
abbrev hk:Hook:=kHook K kA kAe
theorem tY{α β γ:Type}{f:α->β}{g:α->γ}{x:Option α}{a:β}{b:γ}(h:x.map f=some a)(k:x.map g=some b):x.map (λs=>(f s,g s))=some (a,b):=by
 cases x with
 |none=>cases h
 |some y=>cases h;cases k;rfl
def htp(l:List Value):Obj:=⟨.type "tuple",none,.seq l.toArray 0,#[]⟩
def htx:Nat->List Str->List Value
 |_,[]=>[]
 |t,x::l=>.str x t::htx (t+1) l
noncomputable def hfO(a t:Nat)(r:Str)(v:Value)(s:Stmt):List Obj:=match s with
 | .FunctionDef n p b _ _ _ c _ _ o=>
  let q:=r++n;let S:Obj:=⟨.none,none,.func {name:=n,qualname:=q,params:=p,body:=.stmts b,scope:=c,globals:=0,closure:=[],defaults:=.none,kwdefaults:=.none},#[]⟩
  match localNames p c (.stmts b) with
  |some (x,_)=>[htp [],hfl .none [],htp (htx (t+3) x),htp [],S,hc7 n q t (t+3+x.length) o.line p.args.length a,kF n q s v (.ref (a+5))]
  |none=>[htp [],hfl .none [],S,hc5 n q t o.line p.args.length a,kF n q s v (.ref (a+3))]
 |_=>[]
noncomputable def htk(s:Stmt):Nat:=match s with
 | .FunctionDef _ p b _ _ _ c _ _ _=>match localNames p c (.stmts b) with
  |some (x,_)=>6+x.length
  |none=>6
 |_=>0
noncomputable def hms(P:Params)(c:Str)(v:Value):Nat->Nat->List Stmt->List Obj×List DictEntry×List Value×Nat
 |_,t,[]=>([],[],[],t)
 |a,t,s::r=>match s with
  | .FunctionDef n _ _ _ _ _ _ _ _ o=>let f:=hfO a t (c++".") v s;let l:=a+f.length;let u:=t+htk s;let z:=hms P c v l u r;(f++z.1,kR P n (u-1) (l-1)::z.2.1,.int o.line 0:: .int 4 0:: .ref (l-2)::z.2.2.1,z.2.2.2)
  |_=>hms P c v a t r
def hfm(a b:Addr)(v:Value):Obj:=⟨.type "frame",none,.plain,#[some (.ref a),some (.ref 3),some (.ref b),none,some v,none,some (.ref 0)]⟩
def hbf(x:String)(v:Value):Obj:=hfl (.type "builtin_function_or_method") [.builtin x,v]
def hgd(x:Str)(t:Nat)(c:Addr)(g s:Value):Obj:=hfl (.type "getset_descriptor") [.str x t,.ref c,g,s]
noncomputable def hcO(P:Params)(a t:Nat)(v:Value)(bv mr sb:List Value)(nw:String)(d:Nat)(s:Stmt):List Obj:=match s with
 | .ClassDef n _ _ b _ _ _ _ _ sa o=>
  let m:=hms P n v (a+7) (t+12) b;let e:=a+7+m.1.length;let k:=m.2.2.2+sa.length;let z:=k+1;let C:=e+2
  let x:=kE P "__module__" (t+7) v;let f:=kE P "__firstlineno__" (t+11) (.int o.line (t+10));let y:=kR P "__static_attributes__" k e
  let W:=λt:Nat=>hgd "__weakref__" t C (.builtin "ExceptionGroup.__weakref__") .none
  let D:List DictEntry×List Obj:=match d with
   |0=>([],[])
   |1=>([kR P "__weakref__" (z+1) (C+1)],[W z])
   |_=>([kR P "__dict__" (z+1) (C+1),kR P "__weakref__" (z+3) (C+2)],[hgd "__dict__" z C (.builtin "function.__dict__") (.builtin "function.__dict__#set"),W (z+2)])
  [htp bv,hbf "type.__prepare__" (.type "type"),kD (x::kE P "__qualname__" (t+9) (.str n (t+8))::f::m.2.1++[y]) (4+m.2.1.length),htp [],hfl .none m.2.2.1,hco n n (t+2) (t+5) o.line 0 0 false (a+3) .none .none .none,hfm (a+5) (a+2) v]++m.1++[htp (htx m.2.2.2 sa),kD (x::f::m.2.1++y::D.1++[kE P "__doc__" (z+2*d) .none]) (2+d),⟨.type "type",none,.cls {name:=n,bases:=if bv.isEmpty then [.type "object"] else bv,mro:=.ref C::mr,ns:=e+1,qualname:=n,hasDict:=true,slotNames:=[],subclasses:=sb},#[if bv.isEmpty then none else some (.ref a),none,some (.str n t),some (.str n (t+8)),some (.builtin nw),some (.bool true)]⟩]++D.2++[hfl (.type "super") [.ref C,.ref C,.ref C],hbf "object.__init_subclass__" (.ref C)]
 |_=>[]
def hcs:List (Int×Addr):=[(2,20),(4,33),(14,54),(16,61),(18,68),(28,75),(47,80),(51,85),(53,90),(55,95),(60,100),(66,107),(70,114),(79,121),(83,128),(90,135),(97,140),(99,145),(101,150),(103,155),(110,162),(115,167),(118,172),(123,179),(128,186),(134,193),(140,200),(147,207),(150,214),(155,219),(157,226),(163,233),(169,240),(173,247),(177,254),(184,261),(189,268),(200,275),(204,282),(206,289),(213,294),(222,301),(226,306),(232,311),(236,316),(239,321),(250,326),(258,331),(261,336),(280,343),(293,350),(299,355),(304,360),(322,365),(336,372),(342,377),(351,384),(357,389),(359,394),(367,399),(375,406),(377,413),(380,420)]
noncomputable def hhp(P:Params)(v:Value)(g c:Nat)(l:List Obj):Heap:=⟨⟨boot_o_0 P::boot_o_1 P::boot_o_2 P::kD (kE P "__name__" 165 v::(hen P).take g) (g+1)::boot_o_4 P::boot_o_5 P::boot_o_6 P::boot_o_7 P::boot_o_8 P::boot_o_9 P::boot_o_10 P::htp []::hfl .none ((hcs.take c).flatMap λp=>[.int p.1 0,.int 0 0,.ref p.2])::hco "<module>" "<module>" 182 185 1 0 0 false 11 .none .none .none::hfm 13 3 (.str "__main__" 164)::l⟩,(boot_heap P).life⟩
abbrev hbd:=behindTheImports hpg
abbrev hev:Env:={scope:=hpg.main.scope,locals:=mainNs,globals:=mainNs,cells:=[],code:=.ref 13,frame:=some 14}
abbrev hcd:Code:=.body hbd hev
noncomputable abbrev hSh(t:Nat)(h:Heap)(o:OsState):Shared:=⟨h,⟨[]⟩,boot_drawn,t,o⟩
def hl0(P:Params):List Obj:=hcO P 15 189 hva [(.type "ValueError")] hem [(.ref 44)] "ValueError.__new__" 1 (top 1)++hcO P 28 207 hva [(.ref 24)] ((.ref 24)::hem) [] "ValueError.__new__" 0 (top 2)++[⟨(.type "tuple"),none,.seq #[(.str "a" 238),(.str "b" 239),(.str "c" 240)] 0,#[]⟩]++[kD [kE P "add" 242 (.int (2) 243),kE P "take" 244 (.int (2) 245),kE P "times" 246 (.int (2) 247),kE P "most" 248 (.int (2) 249),kE P "least" 250 (.int (2) 251),kE P "same" 252 (.int (4) 253)] 6]++hfO 49 261 "" hvb (top 8)++hfO 56 269 "" hvb (top 9)++hfO 63 276 "" hvb (top 10)++hfO 70 285 "" hvb (top 11)++hfO 77 312 "" hvc (top 19)++hfO 82 318 "" hvc (top 20)++hfO 87 324 "" hvc (top 21)++hfO 92 330 "" hvc (top 22)++hfO 97 342 "" hvd (top 26)++hfO 102 348 "" hvd (top 27)++hfO 109 357 "" hvd (top 28)
def hl1(P:Params):List Obj:=hl0 P++hfO 116 368 "" hvd (top 29)++hfO 123 375 "" hvd (top 30)++hfO 130 386 "" hvd (top 31)++hfO 137 398 "" hve (top 33)++hfO 142 404 "" hve (top 34)++hfO 147 410 "" hve (top 35)++hfO 152 416 "" hve (top 36)++hfO 157 422 "" hve (top 37)++hfO 164 432 "" hve (top 38)++hfO 169 438 "" hve (top 39)++hfO 174 444 "" hve (top 40)++hfO 181 452 "" hve (top 41)++hfO 188 462 "" hve (top 42)++hfO 195 473 "" hve (top 43)++hfO 202 483 "" hve (top 44)++hfO 209 492 "" hve (top 45)++hfO 216 501 "" hve (top 46)++hfO 221 507 "" hve (top 47)++hfO 228 519 "" hve (top 48)++hfO 235 530 "" hve (top 49)++hfO 242 538 "" hve (top 50)++hfO 249 546 "" hve (top 51)++hfO 256 557 "" hve (top 52)++hfO 263 568 "" hve (top 53)++hfO 270 585 "" hvf (top 55)++hfO 277 593 "" hvf (top 56)++hfO 284 600 "" hvf (top 57)++hfO 291 611 "" hvf (top 58)++hfO 296 617 "" hvf (top 59)++hfO 303 625 "" hvf (top 60)++hfO 308 631 "" hvf (top 61)++hfO 313 637 "" hvf (top 62)++hfO 318 643 "" hvf (top 63)
def hl2(P:Params):List Obj:=hl1 P++hfO 323 649 "" hvf (top 64)++hfO 328 655 "" hvf (top 65)++hfO 333 661 "" hvf (top 66)++hfO 338 667 "" hvf (top 67)++hfO 345 681 "" hvf (top 68)++hfO 352 692 "" hvf (top 69)++hfO 357 698 "" hvf (top 70)++hfO 362 704 "" hvf (top 71)++hfO 367 710 "" hvf (top 72)++hfO 374 721 "" hvf (top 73)++hfO 379 727 "" hvf (top 74)++hfO 386 736 "" hvf (top 75)++hfO 391 742 "" hvf (top 76)++hfO 396 748 "" hvf (top 77)++hfO 401 754 "" hvf (top 78)++hfO 408 761 "" hvf (top 79)++hfO 415 770 "" hvf (top 80)
theorem hr0(w:World)(o:OsState):topGo treeTable hpg w 11 (some (.ref 6)) 12 (hSh boot_toks (boot_heap w.params) o) (topStub hpg)=some (hSh 187 (hhp w.params (.str "__main__" 164) 8 0 []) o,⟨denote treeTable hcd,hcd,⟨0,0,0,0⟩,[topFrame ⟨0,0,0,0⟩]⟩):=by kernel_rfl
theorem hr1(w:World)(o:OsState):segRun treeTable hpg w 11 (some (.ref 6)) 1 1 (hSh 187 (hhp w.params (.str "__main__" 164) 8 0 []) o) (blockOf hbd hev hcd ⟨0,0,0,0⟩ [topFrame ⟨0,0,0,0⟩])=some (.next,hSh 187 (hhp w.params (.str "__main__" 164) 8 0 []) o,hcd,⟨0,0,0,0⟩):=by kernel_rfl
theorem ht0a(w:World)(o:OsState):segRun treeTable hpg (w.withFollow "special-get-raises" false) 11 (some (.ref 6)) 1 990 (hSh 187 (hhp (w.withFollow "special-get-raises" false).params (.str "__main__" 164) 8 0 []) o) (piecesOf (hbd.take 29) hev hcd ⟨0,0,0,0⟩ [topFrame ⟨0,0,0,0⟩])=some (.next,hSh 368 (hhp (w.withFollow "special-get-raises" false).params hvd 33 13 (hl0 (w.withFollow "special-get-raises" false).params)) o,hcd,⟨70,0,78,50⟩):=by kernel_rfl
theorem ht0b(w:World)(o:OsState):segRun treeTable hpg (w.withFollow "special-get-raises" true) 11 (some (.ref 6)) 1 990 (hSh 187 (hhp (w.withFollow "special-get-raises" true).params (.str "__main__" 164) 8 0 []) o) (piecesOf (hbd.take 29) hev hcd ⟨0,0,0,0⟩ [topFrame ⟨0,0,0,0⟩])=some (.next,hSh 368 (hhp (w.withFollow "special-get-raises" true).params hvd 33 13 (hl0 (w.withFollow "special-get-raises" true).params)) o,hcd,⟨70,0,78,50⟩):=by kernel_rfl
theorem hs0(w:World)(o:OsState):segRun treeTable hpg w 11 (some (.ref 6)) 1 990 (hSh 187 (hhp w.params (.str "__main__" 164) 8 0 []) o) (piecesOf (hbd.take 29) hev hcd ⟨0,0,0,0⟩ [topFrame ⟨0,0,0,0⟩])=some (.next,hSh 368 (hhp w.params hvd 33 13 (hl0 w.params)) o,hcd,⟨70,0,78,50⟩):=by
 have z:=World.withFollow_self w "special-get-raises"
 cases hb:w.params.followText "special-get-raises"
 ·rw[hb] at z;have y:=ht0a w o;rw[z] at y;exact y
 ·rw[hb] at z;have y:=ht0b w o;rw[z] at y;exact y
abbrev hb0:=hbd.drop 29
theorem hs1(w:World)(o:OsState):segRun treeTable hpg w 11 (some (.ref 6)) 1 998 (hSh 368 (hhp w.params hvd 33 13 (hl0 w.params)) o) (piecesOf (hb0.take 35) hev hcd ⟨70,0,78,50⟩ [topFrame ⟨0,0,0,0⟩])=some (.next,hSh 649 (hhp w.params hvf 66 46 (hl1 w.params)) o,hcd,⟨239,0,249,130⟩):=by kernel_rfl
abbrev hb1:=hb0.drop 35
theorem hs2(w:World)(o:OsState):topRun treeTable hpg w 11 (some (.ref 6)) 493 (hSh 649 (hhp w.params hvf 66 46 (hl1 w.params)) o) (restOf hb1 hev hcd ⟨239,0,249,130⟩ [topFrame ⟨0,0,0,0⟩])=some (hSh 785 (hhp w.params hvf 83 63 (hl2 w.params)) o):=by kernel_rfl
theorem hpa{w:World}{n N t t':Nat}{h h':Heap}{o:OsState}{r:Shared}{b:List Stmt}(m:Nat){p p':Pos}(x:segRun treeTable hpg w 11 (some (.ref 6)) 1 n (hSh t h o) (piecesOf (b.take m) hev hcd p [topFrame ⟨0,0,0,0⟩])=some (.next,hSh t' h' o,hcd,p'))(y:topRun treeTable hpg w 11 (some (.ref 6)) N (hSh t' h' o) (restOf (b.drop m) hev hcd p' [topFrame ⟨0,0,0,0⟩])=some r):topRun treeTable hpg w 11 (some (.ref 6)) (n+N) (hSh t h o) (restOf b hev hcd p [topFrame ⟨0,0,0,0⟩])=some r:=by
 have z:=piece_app x y;rwa[List.take_append_drop] at z
theorem hhr(w:World)(o:OsState):topRun treeTable hpg w 11 (some (.ref 6)) (12+(1+(990+(998+493)))) (hSh boot_toks (boot_heap w.params) o) (topStub hpg)=some (hSh 785 (hhp w.params hvf 83 63 (hl2 w.params)) o):=go_top (hr0 w o) (piece_block (hr1 w o) (hpa _ (hs0 w o) (hpa _ (hs1 w o) (hs2 w o))))
def hhf(P:Params):Heap:=hhp P hvf 83 63 (hl2 P)
theorem hhq(w:World):(λo=>((staticsOk (importedModules hpg.main.body) (boot_heap w.params) (hhf w.params)&&namesBound hpg (hhf w.params)&&gensDone (hSh 785 (hhf w.params) o)&&laidKept (boot_heap w.params) (hhf w.params)),openSeen qv ["PARTS"] (importedModules hpg.main.body) Xt true (hSh 785 (hhf w.params) o),hk.obs (hSh 785 (hhf w.params) o)))=λ_=>(true,openGood qv ["PARTS"],hk.val w):=by kernel_rfl
theorem hl:LeftO PySem.Challenge.pw_stretchdeeds_k15_algebras_written qv ["PARTS"] Xt hk.obs hk.val 8000:=LeftO.of_pieces (H₀:=boot_heap) (H₁:=hhf) (boot_open (by kernel_rfl) rfl λ_=>by kernel_rfl) (λ_=>by kernel_rfl) hhr rfl hhq
end G15
end
section
namespace PF
open PySem PySem.Spec PyProof.Rows L2
abbrev St:=L2.St
structure KD where
 d:Addr->List (Key×V)->Prop
 c:Str->Addr
instance:CoeFun KD (λ_=>Addr->List (Key×V)->Prop):=⟨KD.d⟩
inductive D where
 |non|bl (b:Bool)|int (i:Int)|str (x:Str)|tup (ds:List D)|lst (ds:List D)|dct (kvs:List (Key×D))|cl (c:Str)|ob (c:Str) (ns:List Str) (ds:List D)
mutual
inductive Rp(K:zzA)(kd:KD)(O:Addr->Prop)(H:Hp):V->D->Prop
 |non:Rp K kd O H .non .non
 |bl (b:Bool):Rp K kd O H (.bl b) (.bl b)
 |int (i:Int):Rp K kd O H (.int i) (.int i)
 |str (x:Str):Rp K kd O H (.str x) (.str x)
 |tup {a:Addr}{vs:List V}{ds:List D}:¬O a->Rd H a (.tup vs)->RpL K kd O H vs ds->Rp K kd O H (.ref a) (.tup ds)
 |tupK {a:Addr}{o:Obj}{its:Array Value}{n:Nat}{vs:List V}{ds:List D}:K.lookup a=some o->o.cls = .type "tuple"->o.data = .seq its n->its.size<=sizeLine->zQ vs its.toList->RpL K kd O H vs ds->Rp K kd O H (.ref a) (.tup ds)
 |lst {a:Addr}{vs:List V}{ds:List D}:¬O a->Rd H a (.lst vs)->RpL K kd O H vs ds->Rp K kd O H (.ref a) (.lst ds)
 |lstK {a:Addr}{its:Array Value}{n:Nat}{vs:List V}{ds:List D}:K.lookup a=some {cls:=.type "list",data:=.seq its n}->its.size<=sizeLine->zQ vs its.toList->RpL K kd O H vs ds->Rp K kd O H (.ref a) (.lst ds)
 |dct {a:Addr}{kvs:List (Key×V)}{ds:List (Key×D)}:¬O a->Rd H a (.dK kvs)->RpM K kd O H kvs ds->Rp K kd O H (.ref a) (.dct ds)
 |dctK {a:Addr}{kvs:List (Key×V)}{ds:List (Key×D)}:kd a kvs->RpM K kd O H kvs ds->Rp K kd O H (.ref a) (.dct ds)
 |cl (c:Str):Rp K kd O H (.ref (kd.c c)) (.cl c)
 |ob {a dx:Addr}{c:Str}{ns:List Str}{vs:List V}{ds:List D}:¬O a->H a=some (.ins (kd.c c) dx (ns.zip vs))->ns.length=vs.length->RpL K kd O H vs ds->Rp K kd O H (.ref a) (.ob c ns ds)
inductive RpL(K:zzA)(kd:KD)(O:Addr->Prop)(H:Hp):List V->List D->Prop
 |nil:RpL K kd O H [] []
 |cons {v:V}{d:D}{vs:List V}{ds:List D}:Rp K kd O H v d->RpL K kd O H vs ds->RpL K kd O H (v::vs) (d::ds)
inductive RpM(K:zzA)(kd:KD)(O:Addr->Prop)(H:Hp):List (Key×V)->List (Key×D)->Prop
 |nil:RpM K kd O H [] []
 |cons {k:Key}{v:V}{d:D}{vs:List (Key×V)}{ds:List (Key×D)}:Rp K kd O H v d->RpM K kd O H vs ds->RpM K kd O H ((k,v)::vs) ((k,d)::ds)
end
structure Grow(W:Addr->Prop)(H:Hp)(W':Addr->Prop)(H':Hp):Prop where
 keep:∀b o,H b=some o->¬W b->H' b=some o
 own:∀b,W' b->W b\/H b=none
theorem Grow.refl:Grow W H W H:=⟨λ_ _ h _=>h,λ_ h=>.inl h⟩
theorem Grow.trans(a:Grow W H W1 H1)(b:Grow W1 H1 W2 H2):Grow W H W2 H2 where
 keep:=λx o h n=>b.keep x o (a.keep x o h n) λq=>(a.own x q).elim n λz=>by rw[z]at h;cases h
 own:=λx q=>by
  rcases b.own x q with h|h
  . exact a.own x h
  . cases e:H x with
    |none=>exact .inr rfl
    |some o=>
     refine .inl (Classical.byContradiction λn=>?_);rw[a.keep x o e n]at h;cases h
theorem Grow.less(h:∀a,W' a->W a):Grow W H W' H:=⟨λ_ _ q _=>q,λb q=>.inl (h b q)⟩
theorem Grow.wr(h:W p):Grow W H W (upd H p o):=
 ⟨λb u q n=>by rw[zE (λe=>n (by rw[e];exact h))];exact q,λ_ q=>.inl q⟩
abbrev Vz(F W:Addr->Prop):Addr->Prop:=λa=>F a\/W a
section
variable{K:zzA}{kd:KD}{F W W':Addr->Prop}{H H':Hp}
theorem v8(g:Grow W H W' H')(n:¬W a)(h:Rd H a u):Rd H' a u:=by
 rcases h with h|⟨o,h⟩
 . exact .inl (g.keep _ _ h n)
 . exact .inr ⟨o,g.keep _ _ h n⟩
theorem JR(h:Rd H a u):H a≠none:=by
 rcases h with h|⟨o,h⟩<;>(rw[h];simp)
theorem VT(g:Grow W H W' H')(n:¬Vz F W a)(h:Rd H a u):¬Vz F W' a:=λq=>
 q.elim (λz=>n (.inl z)) λz=>(g.own a z).elim (λy=>n (.inr y)) λy=>JR h y
theorem Rp.grow(g:Grow W H W' H'){v:V}{d:D}(h:Rp K kd (Vz F W) H v d):Rp K kd (Vz F W') H' v d:=
 Rp.rec (motive_1:=λv d _=>Rp K kd (Vz F W') H' v d) (motive_2:=λvs ds _=>RpL K kd (Vz F W') H' vs ds) (motive_3:=λvs ds _=>RpM K kd (Vz F W') H' vs ds) .non .bl .int .str (λn h _ r=>.tup (VT g n h) (v8 g (λz=>n (.inr z)) h) r) (λa b c e f _ r=>.tupK a b c e f r) (λn h _ r=>.lst (VT g n h) (v8 g (λz=>n (.inr z)) h) r) (λa e f _ r=>.lstK a e f r) (λn h _ r=>.dct (VT g n h) (v8 g (λz=>n (.inr z)) h) r) (λh _ r=>.dctK h r) .cl (λn h l _ r=>.ob (VT g n (.inl h)) (g.keep _ _ h λz=>n (.inr z)) l r) .nil (λ_ _ h r=>.cons h r) .nil (λ_ _ h r=>.cons h r) h
theorem RpL.ind{O:Addr->Prop}{P:List V->List D->Prop}(h0:P [] [])(h1:∀{v d vs ds},Rp K kd O H v d->RpL K kd O H vs ds->P vs ds->P (v::vs) (d::ds)){vs:List V}{ds:List D}(h:RpL K kd O H vs ds):P vs ds:=
 RpL.rec (motive_1:=λ_ _ _=>True) (motive_2:=λvs ds _=>P vs ds) (motive_3:=λ_ _ _=>True) ⟨⟩ (λ_=>⟨⟩) (λ_=>⟨⟩) (λ_=>⟨⟩) (λ_ _ _ _=>⟨⟩) (λ_ _ _ _ _ _ _=>⟨⟩) (λ_ _ _ _=>⟨⟩) (λ_ _ _ _ _=>⟨⟩) (λ_ _ _ _=>⟨⟩) (λ_ _ _=>⟨⟩) (λ_=>⟨⟩) (λ_ _ _ _ _=>⟨⟩) h0 (λa r _ ih=>h1 a r ih) ⟨⟩ (λ_ _ _ _=>⟨⟩) h
theorem RpM.ind{O:Addr->Prop}{P:List (Key×V)->List (Key×D)->Prop}(h0:P [] [])(h1:∀{k v d vs ds},Rp K kd O H v d->RpM K kd O H vs ds->P vs ds->P ((k,v)::vs) ((k,d)::ds)){vs:List (Key×V)}{ds:List (Key×D)}(h:RpM K kd O H vs ds):P vs ds:=
 RpM.rec (motive_1:=λ_ _ _=>True) (motive_2:=λ_ _ _=>True) (motive_3:=λvs ds _=>P vs ds) ⟨⟩ (λ_=>⟨⟩) (λ_=>⟨⟩) (λ_=>⟨⟩) (λ_ _ _ _=>⟨⟩) (λ_ _ _ _ _ _ _=>⟨⟩) (λ_ _ _ _=>⟨⟩) (λ_ _ _ _ _=>⟨⟩) (λ_ _ _ _=>⟨⟩) (λ_ _ _=>⟨⟩) (λ_=>⟨⟩) (λ_ _ _ _ _=>⟨⟩) ⟨⟩ (λ_ _ _ _=>⟨⟩) h0 (λa r _ ih=>h1 a r ih) h
theorem RpL.grow(g:Grow W H W' H'){vs:List V}{ds:List D}(h:RpL K kd (Vz F W) H vs ds):RpL K kd (Vz F W') H' vs ds:=RpL.ind .nil (λa _ r=>.cons (Rp.grow g a) r) h
theorem Rp.less{O O':Addr->Prop}(g:∀a,O' a->O a){v:V}{d:D}(h:Rp K kd O H v d):Rp K kd O' H v d:=
 Rp.rec (motive_1:=λv d _=>Rp K kd O' H v d) (motive_2:=λvs ds _=>RpL K kd O' H vs ds) (motive_3:=λvs ds _=>RpM K kd O' H vs ds) .non .bl .int .str (λn h _ r=>.tup (λz=>n (g _ z)) h r) (λa b c e f _ r=>.tupK a b c e f r) (λn h _ r=>.lst (λz=>n (g _ z)) h r) (λa e f _ r=>.lstK a e f r) (λn h _ r=>.dct (λz=>n (g _ z)) h r) (λh _ r=>.dctK h r) .cl (λn h l _ r=>.ob (λz=>n (g _ z)) h l r) .nil (λ_ _ h r=>.cons h r) .nil (λ_ _ h r=>.cons h r) h
theorem RpL.less{O O':Addr->Prop}(g:∀a,O' a->O a){vs:List V}{ds:List D}(h:RpL K kd O H vs ds):RpL K kd O' H vs ds:=RpL.ind .nil (λa _ r=>.cons (Rp.less g a) r) h
theorem RpM.less{O O':Addr->Prop}(g:∀a,O' a->O a){vs:List (Key×V)}{ds:List (Key×D)}(h:RpM K kd O H vs ds):RpM K kd O' H vs ds:=RpM.ind .nil (λa _ r=>.cons (Rp.less g a) r) h
theorem RpL.length{O:Addr->Prop}{vs:List V}{ds:List D}(h:RpL K kd O H vs ds):vs.length=ds.length:=RpL.ind (P:=λa b=>a.length=b.length) rfl (λ_ _ r=>congrArg (· + 1) r) h
theorem RpM.length{O:Addr->Prop}{vs:List (Key×V)}{ds:List (Key×D)}(h:RpM K kd O H vs ds):vs.length=ds.length:=RpM.ind (P:=λa b=>a.length=b.length) rfl (λ_ _ r=>congrArg (· + 1) r) h
theorem RpL.get{O:Addr->Prop}{vs:List V}{ds:List D}{i:Nat}{d:D}(h:RpL K kd O H vs ds)(e:ds[i]? = some d):∃v,vs[i]? = some v/\Rp K kd O H v d:=
 RpL.ind (P:=λb c=>∀i,c[i]? = some d->∃v,b[i]? = some v/\Rp K kd O H v d) (λi e=>by rw[List.getElem?_nil]at e;cases e) (λa _ f i e=>by
  cases i with
  |zero=>cases e;exact⟨_,rfl,a⟩
  |succ i=>exact f i e) h i e
theorem RpL.append{O:Addr->Prop}{vs ws:List V}{ds es:List D}(h:RpL K kd O H vs ds)(r:RpL K kd O H ws es):RpL K kd O H (vs++ws) (ds++es):=RpL.ind (P:=λb c=>RpL K kd O H (b++ws) (c++es)) r (λa _ t=>.cons a t) h
theorem RpL.take{O:Addr->Prop}{vs:List V}{ds:List D}(n:Nat)(h:RpL K kd O H vs ds):RpL K kd O H (vs.take n) (ds.take n):=
 RpL.ind (P:=λb c=>∀n,RpL K kd O H (b.take n) (c.take n)) (λn=>by rw[List.take_nil,List.take_nil];exact .nil) (λa _ d n=>by
  cases n with
  |zero=>exact .nil
  |succ n=>exact .cons a (d n)) h n
theorem RpL.drop{O:Addr->Prop}{vs:List V}{ds:List D}(n:Nat)(h:RpL K kd O H vs ds):RpL K kd O H (vs.drop n) (ds.drop n):=
 RpL.ind (P:=λc d=>∀n,RpL K kd O H (c.drop n) (d.drop n)) (λn=>by rw[List.drop_nil,List.drop_nil];exact .nil) (λa b e n=>by
  cases n with
  |zero=>exact .cons a b
  |succ n=>exact e n) h n
theorem RpL.rep(h:RpL K kd O H vs ds):∀k:Nat,RpL K kd O H (List.replicate k vs).flatten (List.replicate k ds).flatten
 |0=>.nil
 |k+1=>by
  rw[List.replicate_succ,List.replicate_succ,List.flatten_cons,List.flatten_cons];exact h.append (RpL.rep h k)
end
inductive Vw(K:zzA)(kd:KD)(O:Addr->Prop)(H:Hp):V->D->Prop
 |non:Vw K kd O H .non .non
 |bl (b:Bool):Vw K kd O H (.bl b) (.bl b)
 |int (i:Int):Vw K kd O H (.int i) (.int i)
 |str (x:Str):Vw K kd O H (.str x) (.str x)
 |tup {a:Addr}{vs:List V}{ds:List D}:Rp K kd O H (.ref a) (.tup ds)->Q2 K H a vs->RpL K kd O H vs ds->Vw K kd O H (.ref a) (.tup ds)
 |lst {a:Addr}{vs:List V}{ds:List D}:Oq K H a vs->RpL K kd O H vs ds->Vw K kd O H (.ref a) (.lst ds)
 |dct {a:Addr}{kvs:List (Key×V)}{ds:List (Key×D)}:(Rd H a (.dK kvs)\/kd a kvs)->RpM K kd O H kvs ds->Vw K kd O H (.ref a) (.dct ds)
 |cl (c:Str):Vw K kd O H (.ref (kd.c c)) (.cl c)
 |ob {a dx:Addr}{c:Str}{ns:List Str}{vs:List V}{ds:List D}:H a=some (.ins (kd.c c) dx (ns.zip vs))->ns.length=vs.length->RpL K kd O H vs ds->Vw K kd O H (.ref a) (.ob c ns ds)
theorem Rp.vw{K:zzA}{kd:KD}{O:Addr->Prop}{H:Hp}{v:V}{d:D}(h:Rp K kd O H v d):Vw K kd O H v d:=by
 cases h with
 |non=>exact .non
 |bl b=>exact .bl b
 |int i=>exact .int i
 |str x=>exact .str x
 |tup n h r=>exact .tup (.tup n h r) (.inl h) r
 |tupK a b c e f r=>exact .tup (.tupK a b c e f r) (.inr ⟨_,_,_,a,b,c,e,f⟩) r
 |lst n h r=>exact .lst (.inl h) r
 |lstK a e f r=>exact .lst (.inr ⟨_,_,a,e,f⟩) r
 |dct n h r=>exact .dct (.inl h) r
 |dctK h r=>exact .dct (.inr h) r
 |cl c=>exact .cl c
 |ob n h l r=>exact .ob h l r
theorem _root_.L2.Oq.sq{K:zzA}{H:Hp}{a:Addr}{xs:List V}(h:Oq K H a xs):ZT K H a xs:=by
 rcases h with h|⟨b,n,k,z,r⟩
 . exact .inl h
 . exact .inr ⟨_,b,n,k,rfl,rfl,rfl,z,r⟩
theorem Bc(I:Inv X pins σ H s)(h:Oq X.K H a xs):
 xs.length<=sizeLine/\∃(its:List Value) (n:Nat),zQ xs its/\s.heap.get? a=some {cls:=.type "list",data:=.seq its.toArray n}:=by
 rcases h with h|⟨b,n,k,z,r⟩
 . exact h.ok I.hok
 . refine⟨by rw[r.length];simpa using z,b.toList,n,r,by simpa using I.kIn _ _ k⟩
theorem Rp.cl_eq{K:zzA}{kd:KD}{O:Addr->Prop}{H:Hp}{C:Addr}{c:Str}(h:Rp K kd O H (.ref C) (.cl c)):C=kd.c c:=by
 cases h;rfl
def zD:D->Bool
 | .non=>true | .bl _=>true | .int _=>true | .str _=>true|_=>false
theorem Rp.flat{K:zzA}{kd:KD}{O O':Addr->Prop}{H H':Hp}{v:V}{d:D}(h:Rp K kd O H v d)(e:zD d=true):Rp K kd O' H' v d:=by
 cases h with
 |non=>exact .non
 |bl b=>exact .bl b
 |int i=>exact .int i
 |str x=>exact .str x
 |_=>cases e
inductive Kind where
 |ls|tp|dc (ks:List Key)|ob (c:Str) (ns:List Str)
inductive O where
 |lf (st:Bool) (d:D)|nd (k:Kind) (os:List O)
abbrev G_(st:Bool)(d:D):O:=.lf (zD d||st) d
mutual
inductive Ro(L:Bool->V->D->Prop)(N:Addr->Prop)(H:Hp):V->O->List Addr->Prop
 |lf {st:Bool}{v:V}{d:D}:L st v d->Ro L N H v (.lf st d) []
 |ls {a:Addr}{vs:List V}{os:List O}{fp:List Addr}:H a=some (.lst vs)->RoL L N H vs os fp->Ro L N H (.ref a) (.nd .ls os) (a::fp)
 |dc {a:Addr}{ks:List Key}{vs:List V}{os:List O}{fp:List Addr}:H a=some (.dK (ks.zip vs))->ks.length=vs.length->RoL L N H vs os fp->Ro L N H (.ref a) (.nd (.dc ks) os) (a::fp)
 |ob {a dx C:Addr}{c:Str}{ns:List Str}{vs:List V}{os:List O}{fp:List Addr}:L true (.ref C) (.cl c)->H a=some (.ins C dx (ns.zip vs))->ns.length=vs.length->RoL L N H vs os fp->Ro L N H (.ref a) (.nd (.ob c ns) os) (a::fp)
 |tp {a:Addr}{vs:List V}{os:List O}{fp:List Addr}:N a->H a=some (.tup vs)->RoL L N H vs os fp->Ro L N H (.ref a) (.nd .tp os) fp
inductive RoL(L:Bool->V->D->Prop)(N:Addr->Prop)(H:Hp):List V->List O->List Addr->Prop
 |nil:RoL L N H [] [] []
 |cons {v:V}{o:O}{vs:List V}{os:List O}{fp fq:List Addr}:Ro L N H v o fp->RoL L N H vs os fq->RoL L N H (v::vs) (o::os) (fp++fq)
end
mutual
def O.toD:O->D
 | .lf _ d=>d
 | .nd .ls os=>.lst (O.toDs os)
 | .nd .tp os=>.tup (O.toDs os)
 | .nd (.dc ks) os=>.dct (ks.zip (O.toDs os))
 | .nd (.ob c ns) os=>.ob c ns (O.toDs os)
def O.toDs:List O->List D
 | []=>[]
 |o::r=>o.toD::O.toDs r
end
mutual
def O.str:O->Bool
 | .lf st _=>st
 | .nd _ os=>O.strs os
def O.strs:List O->Bool
 | []=>true
 |o::r=>o.str&&O.strs r
end
section
variable{L L':Bool->V->D->Prop}{N N':Addr->Prop}{H H':Hp}{K:zzA}{kd:KD}{Ob:Addr->Prop}
theorem Ro.mono(hL:∀st v d,L st v d->L' st v d)(hN:∀a vs,N a->H a=some (.tup vs)->N' a/\H' a=some (.tup vs)){v:V}{o:O}{fp:List Addr}(k:∀a ∈ fp,∀u,H a=some u->H' a=some u)(h:Ro L N H v o fp):Ro L' N' H' v o fp:=
 Ro.rec (motive_1:=λv o fp _=>(∀a ∈ fp,∀u,H a=some u->H' a=some u)->Ro L' N' H' v o fp) (motive_2:=λvs os fp _=>(∀a ∈ fp,∀u,H a=some u->H' a=some u)->RoL L' N' H' vs os fp)
  (λh _=>.lf (hL _ _ _ h)) (λh _ r k=>.ls (k _ zzF _ h) (r λa m=>k a (zzD _ m))) (λh l _ r k=>.dc (k _ zzF _ h) l (r λa m=>k a (zzD _ m))) (λc h l _ r k=>.ob (hL _ _ _ c) (k _ zzF _ h) l (r λa m=>k a (zzD _ m))) (λn h _ r k=>.tp (hN _ _ n h).1 (hN _ _ n h).2 (r k))
  (λ_=>.nil) (λ_ _ h r k=>.cons (h λa m=>k a (zzP _ m)) (r λa m=>k a (zzL _ m))) h k
theorem RoL.ind{P:List V->List O->List Addr->Prop}(h0:P [] [] [])(h1:∀{v o vs os fp fq},Ro L N H v o fp->RoL L N H vs os fq->P vs os fq->P (v::vs) (o::os) (fp++fq)){vs:List V}{os:List O}{fp:List Addr}(h:RoL L N H vs os fp):P vs os fp:=
 RoL.rec (motive_1:=λ_ _ _ _=>True) (motive_2:=λvs os fp _=>P vs os fp) (λ_=>⟨⟩) (λ_ _ _=>⟨⟩) (λ_ _ _ _=>⟨⟩) (λ_ _ _ _ _=>⟨⟩) (λ_ _ _ _=>⟨⟩) h0 (λa r _ ih=>h1 a r ih) h
theorem RoL.mono(hL:∀st v d,L st v d->L' st v d)(hN:∀a vs,N a->H a=some (.tup vs)->N' a/\H' a=some (.tup vs)){vs:List V}{os:List O}{fp:List Addr}(k:∀a ∈ fp,∀u,H a=some u->H' a=some u)(h:RoL L N H vs os fp):RoL L' N' H' vs os fp:=
 RoL.ind (P:=λc e b=>(∀a ∈ b,∀u,H a=some u->H' a=some u)->RoL L' N' H' c e b) (λ_=>.nil) (λh _ r k=>.cons (Ro.mono hL hN (λa m=>k a (zzP _ m)) h) (r λa m=>k a (zzL _ m))) h k
theorem Pp:∀{ks:List Key}{vs:List V}{ds:List D},RpL K kd Ob H vs ds->ks.length=vs.length->RpM K kd Ob H (ks.zip vs) (ks.zip ds)
 | [],_,_,_,_=>.nil
 |_::_,_,_,.nil,e=>by simp at e
 |_::_,_,_,.cons h r,e=>.cons h (Pp r (by simpa using e))
theorem Ro.rp(b:Bool)(hL:∀st v d,(b=true->st=true)->L st v d->Rp K kd Ob H v d)(hN:∀a,N a->¬Ob a){v:V}{o:O}{fp:List Addr}(s:b=true->o.str=true)(k:∀a ∈ fp,¬Ob a)(h:Ro L N H v o fp):Rp K kd Ob H v o.toD:=
 Ro.rec (motive_1:=λv o f _=>(b=true->o.str=true)->(∀a ∈ f,¬Ob a)->Rp K kd Ob H v o.toD) (motive_2:=λi g f _=>(b=true->O.strs g=true)->(∀a ∈ f,¬Ob a)->RpL K kd Ob H i (O.toDs g))
  (λh s _=>hL _ _ _ s h) (λh _ r s k=>.lst (k _ zzF) (.inl h) (r s λa m=>k a (zzD _ m))) (λh l _ r s k=>.dct (k _ zzF) (.inl h) (Pp (r s λa m=>k a (zzD _ m)) l)) (λc h l _ r s k=>by
   have e:=(hL _ _ _ (λ_=>rfl) c).cl_eq;subst e;exact .ob (k _ zzF) h l (r s λa m=>k a (zzD _ m))) (λn h _ r s k=>.tup (hN _ n) (.inl h) (r s k))
  (λ_ _=>.nil) (λ_ _ h r s k=>.cons (h (λz=>((zyC _ _).mp (s z)).1) λa m=>k a (zzP _ m)) (r (λz=>((zyC _ _).mp (s z)).2) λa m=>k a (zzL _ m))) h s k
theorem RoL.rp(b:Bool)(hL:∀st v d,(b=true->st=true)->L st v d->Rp K kd Ob H v d)(hN:∀a,N a->¬Ob a){vs:List V}{os:List O}{fp:List Addr}(s:b=true->O.strs os=true)(k:∀a ∈ fp,¬Ob a)(h:RoL L N H vs os fp):RpL K kd Ob H vs (O.toDs os):=
 RoL.ind (P:=λe c f=>(b=true->O.strs c=true)->(∀a ∈ f,¬Ob a)->RpL K kd Ob H e (O.toDs c)) (λ_ _=>.nil) (λh _ r s k=>.cons (Ro.rp b hL hN (λz=>((zyC _ _).mp (s z)).1) (λa m=>k a (zzP _ m)) h) (r (λz=>((zyC _ _).mp (s z)).2) λa m=>k a (zzL _ m))) h s k
theorem RoL.length{vs:List V}{os:List O}{fp:List Addr}(h:RoL L N H vs os fp):vs.length=os.length:=RoL.ind (P:=λa b _=>a.length=b.length) rfl (λ_ _ r=>congrArg (· + 1) r) h
theorem Rb:∀os:List O,(O.toDs os).length=os.length
 | []=>rfl
 |_::r=>congrArg (· + 1) (Rb r)
theorem RoL.append{vs ws:List V}{os ps:List O}{f g:List Addr}(h:RoL L N H vs os f)(r:RoL L N H ws ps g):RoL L N H (vs++ws) (os++ps) (f++g):=RoL.ind (P:=λa b f=>RoL L N H (a++ws) (b++ps) (f++g)) r (λh _ t=>by rw[zxA];exact .cons h t) h
theorem RoL.one(h:Ro L N H v o f):RoL L N H [v] [o] f:=by
 have:=RoL.cons h (RoL.nil (L:=L) (N:=N) (H:=H));rw[zyE]at this;exact this
theorem RoL.at_:∀{vs:List V}{os:List O}{fp:List Addr},RoL L N H vs os fp->os[k]? = some o->∃v f fo g,vs[k]? = some v/\fp=f++(fo++g)/\Ro L N H v o fo/\RoL L N H (vs.take k) (os.take k) f/\RoL L N H (vs.drop (k+1)) (os.drop (k+1)) g:=by
 induction k with
 |zero=>
  intro a b c h e;cases h with
  |nil=>cases e
  |cons h r=>
   rw[List.getElem?_cons_zero]at e;cases e;exact⟨_,[],_,_,rfl,rfl,h,.nil,r⟩
 |succ k d=>
  intro a b c h e;cases h with
  |nil=>cases e
  |cons h r=>
   rw[List.getElem?_cons_succ]at e;obtain⟨v,f,i,g,j,l,m,n,p⟩:=d r e;subst l;exact⟨v,_,i,g,by rw[List.getElem?_cons_succ];exact j,(zxA _ _ _).symm,m,.cons h n,p⟩
theorem RM(l:List α)(k:Nat):l.eraseIdx k=l.take k++l.drop (k+1):=List.eraseIdx_eq_take_drop_succ l k
end
abbrev AS:=List (Option O)
abbrev Ad:=Nat->List Addr
def Gw(T:List Addr)(ad:Ad):Addr->Prop:=λa=>a ∈ T\/∃i,a ∈ ad i
abbrev Lv(F B G:Addr->Prop)(st:Bool):Addr->Prop:=Vz (λa=>(st=true/\F a)\/B a) G
abbrev Lf(K:zzA)(kd:KD)(F B G:Addr->Prop)(H:Hp):Bool->V->D->Prop:=λst v d=>Rp K kd (Lv F B G st) H v d
abbrev Nf(F B G:Addr->Prop):Addr->Prop:=λa=>¬Lv F B G true a
abbrev wK(K:zzA)(kd:KD)(F B G:Addr->Prop)(H:Hp):V->O->List Addr->Prop:=Ro (Lf K kd F B G H) (Nf F B G) H
abbrev xt(K:zzA)(kd:KD)(F B G:Addr->Prop)(H:Hp):List V->List O->List Addr->Prop:=RoL (Lf K kd F B G H) (Nf F B G) H
def P6(K:zzA)(kd:KD)(F B G:Addr->Prop)(H:Hp):Option O->Option (Option V)->List Addr->Prop
 |none,_,fp=>fp=[]
 |some o,s,fp=>∃v,s=some (some v)/\wK K kd F B G H v o fp
structure Rel(K:zzA)(kd:KD)(F B:Addr->Prop)(T:List Addr)(ad:Ad)(as:AS)(σ:St)(H:Hp):Prop where
 len:as.length=σ.length
 out:∀i,as.length<=i->ad i=[]
 nd:∀i,(ad i).Nodup
 inj:∀i j a,a ∈ ad i->a ∈ ad j->i=j
 tnd:T.Nodup
 dis:∀i a,a ∈ ad i->a ∉ T
 ftr:∀a,F a->H a≠none
 btr:∀a,B a->H a≠none/\¬F a/\¬Gw T ad a
 gtr:∀a,Gw T ad a->H a≠none/\¬F a
 sl:∀i s,as[i]? = some s->P6 K kd F B (Gw T ad) H s σ[i]? (ad i)
inductive RV where
 |ow (o:O)|bo (i:Nat)
def xh(K:zzA)(kd:KD)(F B:Addr->Prop)(T:List Addr)(ad:Ad)(σ:St)(H:Hp)(v:V):RV->Prop
 | .ow o=>wK K kd F B (Gw T ad) H v o T
 | .bo i=>T=[]/\σ[i]? = some (some v)
def O.frz(o:O):O:=.lf o.str o.toD
def RV.frz:RV->RV
 | .ow o=>.ow o.frz
 | .bo i=>.bo i
def O.isLf:O->Bool
 | .lf _ _=>true
 |_=>false
def O.kl:O->Option Bool
 | .lf st _=>some st
 | .nd _ os=>if os.all O.isLf=true then some (O.strs os)else none
def RV.view(as:AS):RV->Option (D×Option Bool)
 | .ow o=>some (o.toD,some o.str)
 | .bo i=>match as[i]? with
  |some (some o)=>some (o.toD,o.kl)
  |_=>none
def U1(F B G:Addr->Prop):Option Bool->Addr->Prop
 |some st=>Lv F B G st
 |none=>λ_=>False
section
variable{K:zzA}{kd:KD}{F B F' B':Addr->Prop}{G G':Addr->Prop}{T T':List Addr}{ad ad1:Ad}{as as1:AS}{σ:St}{H H1 H':Hp}{v:V}{r:RV}{o:O}{fp:List Addr}{vs:List V}{os:List O}
theorem wK.grow(g:Grow G H G' H')(k:∀a ∈ fp,∀u,H a=some u->H' a=some u)(h:wK K kd F B G H v o fp):wK K kd F B G' H' v o fp:=
 Ro.mono (λst v d r=>Rp.grow g r) (λa vs n e=>⟨λz=>z.elim (λy=>n (.inl y)) λy=>(g.own a y).elim (λw=>n (.inr w)) λw=>(by rw[w]at e;cases e),g.keep a _ e (λw=>n (.inr w))⟩) k h
theorem xt.grow(g:Grow G H G' H')(k:∀a ∈ fp,∀u,H a=some u->H' a=some u)(h:xt K kd F B G H vs os fp):xt K kd F B G' H' vs os fp:=
 RoL.mono (λst v d r=>Rp.grow g r) (λa vs n e=>⟨λz=>z.elim (λy=>n (.inl y)) λy=>(g.own a y).elim (λw=>n (.inr w)) λw=>(by rw[w]at e;cases e),g.keep a _ e (λw=>n (.inr w))⟩) k h
theorem wK.lv(g:∀st a,Lv F' B' G' st a->Lv F B G st a)(h:wK K kd F B G H v o fp):wK K kd F' B' G' H v o fp:=
 Ro.mono (λst v d r=>r.less (g st)) (λa vs n e=>⟨λz=>n (g true a z),e⟩) (λ_ _ _ e=>e) h
theorem xt.lv(g:∀st a,Lv F' B' G' st a->Lv F B G st a)(h:xt K kd F B G H vs os fp):xt K kd F' B' G' H vs os fp:=
 RoL.mono (λst v d r=>r.less (g st)) (λa vs n e=>⟨λz=>n (g true a z),e⟩) (λ_ _ _ e=>e) h
theorem wK.less(g:∀a,G' a->G a)(h:wK K kd F B G H v o fp):wK K kd F B G' H v o fp:=wK.lv (λ_ a z=>z.elim .inl λy=>.inr (g a y)) h
theorem Gw.drop:∀a,Gw [] ad a->Gw T ad a:=λ_ h=>h.elim (λz=>nomatch z) .inr
theorem Rel.trk(R:Rel K kd F B T ad as σ H)(st:Bool):∀a,Lv F B (Gw T ad) st a->H a≠none:=λa h=>by
 rcases h with(h|h)|h
 . exact R.ftr a h.2
 . exact(R.btr a h).1
 . exact(R.gtr a h).1
theorem Rel.tr(R:Rel K kd F B T ad as σ H)(lv:Option Bool):∀a,U1 F B (Gw T ad) lv a->H a≠none:=λa h=>by
 cases lv with
 |none=>exact h.elim
 |some st=>exact R.trk st a h
theorem P6.lv{s:Option O}{x:Option (Option V)}(g:∀st a,Lv F' B' G' st a->Lv F B G st a)(h:P6 K kd F B G H s x fp):P6 K kd F' B' G' H s x fp:=by
 cases s with
 |none=>exact h
 |some o=>obtain⟨v,e,r⟩:=h;exact⟨v,e,wK.lv g r⟩
theorem P6.less{s:Option O}{x:Option (Option V)}(g:∀a,G' a->G a)(h:P6 K kd F B G H s x fp):P6 K kd F B G' H s x fp:=h.lv (λ_ a z=>z.elim .inl λy=>.inr (g a y))
theorem P6.grow{s:Option O}{x:Option (Option V)}(g:Grow G H G' H')(k:∀a ∈ fp,∀u,H a=some u->H' a=some u)(h:P6 K kd F B G H s x fp):P6 K kd F B G' H' s x fp:=by
 cases s with
 |none=>exact h
 |some o=>obtain⟨v,e,r⟩:=h;exact⟨v,e,wK.grow g k r⟩
theorem Rel.drop(R:Rel K kd F B T ad as σ H):Rel K kd F B [] ad as σ H where
 len:=R.len
 out:=R.out
 nd:=R.nd
 inj:=R.inj
 tnd:=zyI
 dis:=λ_ _ _ z=>nomatch z
 ftr:=R.ftr
 btr:=λa h=>let⟨h1,h2,h3⟩:=R.btr a h;⟨h1,h2,λz=>h3 (Gw.drop a z)⟩
 gtr:=λa h=>R.gtr a (Gw.drop a h)
 sl:=λi s e=>(R.sl i s e).less Gw.drop
theorem L8(R:Rel K kd F B T ad as σ H)(h:wK K kd F B (Gw T ad) H v o T):Rp K kd (Lv F B (Gw [] ad) o.str) H v o.toD:=
 Ro.rp o.str (λst v d hs r=>r.less λa z=>z.elim (λy=>.inl (y.elim (λx=>.inl ⟨hs x.1,x.2⟩) .inr)) λy=>.inr (Gw.drop a y))
  (λa n z=>n (z.elim (λy=>.inl (y.elim (λx=>.inl ⟨rfl,x.2⟩) .inr)) λy=>.inr (Gw.drop a y))) id
  (λa m z=>by
   rcases z with(z|z)|z|⟨i,z⟩
   . exact(R.gtr a (.inl m)).2 z.2
   . exact(R.btr a z).2.2 (.inl m)
   . cases z
   . exact R.dis i a z m) h
theorem xh.drop(R:Rel K kd F B T ad as σ H)(h:xh K kd F B T ad σ H v r):xh K kd F B [] ad σ H v r.frz:=by
 cases r with
 |ow o=>exact .lf (L8 R h)
 |bo i=>exact⟨rfl,h.2⟩
theorem xh.grow(g:Grow (Gw [] ad) H (Gw [] ad1) H1)(h:xh K kd F B [] ad σ H v r):xh K kd F B [] ad1 σ H1 v r:=by
 cases r with
 |ow o=>exact wK.grow g (λ_ m=>nomatch m) h
 |bo i=>exact h
theorem CQ{vs:List V}{os:List O}{fp:List Addr}(h:xt K kd F B G H vs os fp):os.all O.isLf=true->fp=[]:=
 RoL.ind (P:=λ_ os fp=>os.all O.isLf=true->fp=[]) (λ_=>rfl) (λh _ ih e=>by
  rw[List.all_cons,zyC]at e;rw[ih e.2,zyE];cases h with
  |lf=>rfl
  |ls=>cases e.1
  |dc=>cases e.1
  |ob=>cases e.1
  |tp=>cases e.1) h
theorem Gv{st:Bool}{b:Bool}(hs:b=true->st=true):∀a,Lv F B G b a->Lv F B G st a:=λa z=>z.elim (λy=>.inl (y.elim (λx=>.inl ⟨hs x.1,x.2⟩) .inr)) .inr
theorem Tz(h:xt K kd F B G H vs os fp)(e:os.all O.isLf=true):RpL K kd (Lv F B G (O.strs os)) H vs (O.toDs os):=by
 have:=CQ h e;subst this;exact RoL.rp (O.strs os) (λst v d hs r=>r.less (Gv hs)) (λa n z=>n (Gv (λ_=>rfl) a z)) id (by intro a m;cases m) h
theorem X3(h:xt K kd F B G H vs os fp):RpL K kd (λ_=>False) H vs (O.toDs os):=RoL.rp false (λst v d _ r=>r.less λ_ z=>z.elim) (λ_ _ z=>z) (λz=>Bool.noConfusion z) (λ_ _ z=>z) h
theorem Nn(h:wK K kd F B G H v o fp):Rp K kd (λ_=>False) H v o.toD:=Ro.rp false (λst v d _ r=>r.less λ_ z=>z.elim) (λ_ _ z=>z) (λz=>Bool.noConfusion z) (λ_ _ z=>z) h
theorem P7(h:wK K kd F B G H v o []):Rp K kd (Lv F B G o.str) H v o.toD:=
 Ro.rp o.str (λst v d hs r=>r.less (Gv hs)) (λa n z=>n (Gv (λ_=>rfl) a z)) id (by intro a m;cases m) h
theorem wK.vw(h:wK K kd F B G H v o fp):Vw K kd (U1 F B G o.kl) H v o.toD:=by
 cases h with
 |lf h=>exact h.vw
 |ls hH r=>
  rename_i a vs' os' fp';show Vw K kd (U1 F B G (if os'.all O.isLf=true then some (O.strs os')else none)) H _ (.lst (O.toDs os'))
  by_cases e:os'.all O.isLf=true
  . rw[if_pos e];exact .lst (.inl (.inl hH)) (Tz r e)
  . rw[if_neg e];exact .lst (.inl (.inl hH)) (X3 r)
 |dc hH l r=>
  rename_i a ks vs' os' fp';show Vw K kd (U1 F B G (if os'.all O.isLf=true then some (O.strs os')else none)) H _ (.dct (ks.zip (O.toDs os')))
  by_cases e:os'.all O.isLf=true
  . rw[if_pos e];exact .dct (.inl (.inl hH)) (Pp (Tz r e) l)
  . rw[if_neg e];exact .dct (.inl (.inl hH)) (Pp (X3 r) l)
 |ob hc hH l r=>
  rename_i a dx C c ns vs' os' fp';have ec:C=kd.c c:=hc.cl_eq;subst ec;show Vw K kd (U1 F B G (if os'.all O.isLf=true then some (O.strs os')else none)) H _ (.ob c ns (O.toDs os'))
  by_cases e:os'.all O.isLf=true
  . rw[if_pos e];exact .ob hH l (Tz r e)
  . rw[if_neg e];exact .ob hH l (X3 r)
 |tp n hH r=>
  rename_i a vs' os';show Vw K kd (U1 F B G (if os'.all O.isLf=true then some (O.strs os')else none)) H _ (.tup (O.toDs os'))
  by_cases e:os'.all O.isLf=true
  . rw[if_pos e];have rl:=Tz r e;exact .tup (.tup (λz=>n (Gv (λ_=>rfl) _ z)) (.inl hH) rl) (.inl (.inl hH)) rl
  . rw[if_neg e];exact .tup (.tup (λz=>z) (.inl hH) (X3 r)) (.inl (.inl hH)) (X3 r)
theorem xh.vw(R:Rel K kd F B [] ad as σ H)(h:xh K kd F B [] ad σ H v r){d:D}{lv:Option Bool}(e:r.view as=some (d,lv)):Vw K kd (U1 F B (Gw [] ad) lv) H v d:=by
 cases r with
 |ow o=>
  cases e;exact(P7 h).vw
 |bo i=>
  have e:(match as[i]? with|some (some o)=>some (o.toD,o.kl)|_=>none)=some (d,lv):=e;cases k:as[i]? with
  |none=>rw[k]at e;cases e
  |some s=>
   cases s with
   |none=>rw[k]at e;cases e
   |some o=>
    rw[k]at e;cases e;obtain⟨w,hw,ro⟩:=R.sl i _ k;rw[h.2]at hw;cases hw;exact ro.vw
theorem Rel.add{N:List Addr}(R:Rel K kd F B T ad as σ H)(hn:N.Nodup)(hl:∀a ∈ N,H a=none)(k:∀b u,H b=some u->H' b=some u)(h1:∀a ∈ N,H' a≠none):Rel K kd F B (N++T) ad as σ H'/\Grow (Gw T ad) H (Gw (N++T) ad) H':=by
 have g:Grow (Gw T ad) H (Gw (N++T) ad) H':=⟨λb u h _=>k b u h,λb h=>by
  rcases h with h|h
  . rcases zzM.mp h with h|h
    . exact .inr (hl b h)
    . exact .inl (.inl h)
  . exact .inl (.inr h)⟩
 have kn:∀a,H a≠none->H' a≠none:=λa z=>by
  cases e:H a with
  |none=>exact absurd e z
  |some u=>rw[k a u e];simp
 refine⟨⟨R.len,R.out,R.nd,R.inj, ?_,λi a m z=>?_,λa z=>kn a (R.ftr a z),λa z=>?_,λa z=>?_,λi s e=>(R.sl i s e).grow g λa _ u h=>k a u h⟩,g⟩
 . refine zxC.mpr ⟨hn,R.tnd,λa m b m' e=>?_⟩;subst e;exact(R.gtr a (.inl m')).1 (hl a m)
 . rcases zzM.mp z with z|z
   . exact(R.gtr a (.inr ⟨i,m⟩)).1 (hl a z)
   . exact R.dis i a m z
 . obtain⟨b1,b2,b3⟩:=R.btr a z;refine⟨kn a b1,b2,λy=>?_⟩
   rcases y with y|y
   . rcases zzM.mp y with y|y
     . exact b1 (hl a y)
     . exact b3 (.inl y)
   . exact b3 (.inr y)
 . rcases z with z|z
   . rcases zzM.mp z with z|z
     . exact⟨h1 a z,λf=>R.ftr a f (hl a z)⟩
     . exact⟨kn a (R.gtr a (.inl z)).1,(R.gtr a (.inl z)).2⟩
   . exact⟨kn a (R.gtr a (.inr z)).1,(R.gtr a (.inr z)).2⟩
theorem Rel.more(R:Rel K kd F B T ad as σ H)(k:∀b u,H b=some u->H' b=some u):Rel K kd F B T ad as σ H'/\Grow (Gw T ad) H (Gw T ad) H':=
 R.add (N:=[]) zyI (λ_ m=>nomatch m) k (λ_ m=>nomatch m)
theorem Rel.news(R:Rel K kd F B [] ad as σ H)(hn:T'.Nodup)(hl:∀a ∈ T',H a=none)(k:∀b u,H b=some u->H' b=some u)(h1:∀a ∈ T',H' a≠none):Rel K kd F B T' ad as σ H'/\Grow (Gw [] ad) H (Gw T' ad) H':=by
 have:=R.add hn hl k h1;rw[zyE]at this;exact this
end
inductive R0 where
 |im (d:D)|fl (ds:List D)|fd (kvs:List (Key×D))
def RQ(K:zzA)(kd:KD)(O:Addr->Prop)(H:Hp)(Q:VK):R0->Prop
 | .im d=>∀v H',(∀b o,H b=some o->H' b=some o)->Rp K kd O H' v d->Q v H'
 | .fl ds=>∀l vs H',H l=none->(∀b o,H b=some o->H' b=some o)->H' l=some (.lst vs)->RpL K kd (Vz O (· = l)) H' vs ds->Q (.ref l) H'
 | .fd ds=>∀l vs H',H l=none->(∀b o,H b=some o->H' b=some o)->H' l=some (.dK vs)->RpM K kd (Vz O (· = l)) H' vs ds->Q (.ref l) H'
def wrap(lv:Option Bool):R0->Option RV
 | .im d=>if(zD d||lv.isSome)=true then some (.ow (G_ (lv.getD false) d))else none
 | .fl ds=>if(ds.all zD||lv.isSome)=true then some (.ow (.nd .ls (ds.map (G_ (lv.getD false)))))else none
 | .fd kvs=>if((kvs.map (·.2)).all zD||lv.isSome)=true then some (.ow (.nd (.dc (kvs.map (·.1))) ((kvs.map (·.2)).map (G_ (lv.getD false)))))else none
theorem bS_{α β:Type}{o:Option α}{f:α->Option β}{b:β}(h:o.bind f=some b):∃a,o=some a/\f a=some b:=by
 cases o with
 |none=>cases h
 |some a=>exact⟨a,rfl,h⟩
theorem ite_some'{α:Type}{c:Prop}[Decidable c]{a:Option α}{b:α}(h:(if c then a else none)=some b):c/\a=some b:=by
 by_cases hc:c
 . rw[if_pos hc]at h;exact⟨hc,h⟩
 . rw[if_neg hc]at h;cases h
theorem zB{α:Type}{c:Prop}[Decidable c]{a b:α}(h:(if c then some a else none)=some b):c/\a=b:=by
 by_cases hc:c
 . rw[if_pos hc]at h;cases h;exact⟨hc,rfl⟩
 . rw[if_neg hc]at h;cases h
section
variable{K:zzA}{kd:KD}{F B:Addr->Prop}{G:Addr->Prop}{ad:Ad}{as:AS}{σ:St}{H H':Hp}{v:V}{r:R0}{rv:RV}{Q:VK}{lv:Option Bool}
theorem DH{Ob:Addr->Prop}{d:D}(h:zD d=true\/lv.isSome=true)(hO:∀st,lv=some st->∀a,Lv F B G st a->Ob a)(rp:Rp K kd Ob H v d):Lf K kd F B G H (zD d||lv.getD false) v d:=by
 cases e:zD d with
 |true=>exact rp.flat e
 |false=>
  rw[e]at h;cases lv with
  |none=>rcases h with h|h<;>cases h
  |some st=>exact rp.less (hO st rfl)
theorem OH{Ob:Addr->Prop}{N:Addr->Prop}(hO:∀st,lv=some st->∀a,Lv F B G st a->Ob a){vs:List V}{ds:List D}(e:(ds.all zD||lv.isSome)=true)(h:RpL K kd Ob H vs ds):RoL (Lf K kd F B G H) N H vs (ds.map (G_ (lv.getD false))) []:=
 RpL.ind (P:=λvs ds=>(ds.all zD||lv.isSome)=true->RoL (Lf K kd F B G H) N H vs (ds.map (G_ (lv.getD false))) []) (λ_=>.nil) (λ{v d vs ds} h _ ih e=>by
  rw[List.all_cons]at e;have e1:zD d=true\/lv.isSome=true:=by
   cases h1:lv.isSome<;>cases h2:zD d<;>simp[h1,h2]at e ⊢
  have e2:(ds.all zD||lv.isSome)=true:=by
   cases h1:lv.isSome with
   |true=>simp
   |false=>
    rw[h1,Bool.or_false,zyC]at e;rw[Bool.or_false];exact e.2
  exact RoL.cons (.lf (DH e1 hO h)) (ih e2)) h e
theorem Hd{O:Addr->Prop}{vs:List (Key×V)}{ds:List (Key×D)}(h:RpM K kd O H vs ds):vs=(ds.map (·.1)).zip (vs.map (·.2))/\RpL K kd O H (vs.map (·.2)) (ds.map (·.2)):=
 RpM.ind (P:=λvs ds=>vs=(ds.map (·.1)).zip (vs.map (·.2))/\RpL K kd O H (vs.map (·.2)) (ds.map (·.2))) ⟨rfl,.nil⟩ (λh _ ih=>by
  obtain⟨h1,h2⟩:=ih;refine⟨?_,.cons h h2⟩
  conv=>lhs;rw[h1]
  rfl) h
theorem YR(R:Rel K kd F B [] ad as σ H)(e:wrap lv r=some rv)(q:∀v T' H',Rel K kd F B T' ad as σ H'->xh K kd F B T' ad σ H' v rv->Grow (Gw [] ad) H (Gw T' ad) H'->Q v H'):RQ K kd (U1 F B (Gw [] ad) lv) H Q r:=by
 have hO:∀(l:List Addr) st,lv=some st->∀a,Lv F B (Gw l ad) st a->Vz (U1 F B (Gw [] ad) lv) (· ∈ l) a:=by
  intro l st e a z;subst e
  rcases z with z|z|z
  . exact .inl (.inl z)
  . exact .inr z
  . exact .inl (.inr (.inr z))
 cases r with
 |im d=>
  obtain⟨c,rfl⟩:=zB e;intro v H' k rp;obtain⟨R',g⟩:=R.more k;refine q v [] H' R' (.lf (DH ((Bool.or_eq_true _ _).mp c) (λst e a z=>?_) rp)) g;exact(hO [] st e a z).elim id λm=>nomatch m
 |fl ds=>
  obtain⟨c,rfl⟩:=zB e;intro l vs H' hl k hl' rp;obtain⟨R',g⟩:=R.news (T':=[l]) (by simp) (λa m=>by rw[zzR.mp m];exact hl) k (λa m=>by rw[zzR.mp m,hl'];simp);exact q _ [l] H' R' (.ls hl' (OH (λst e a z=>(hO [l] st e a z).elim .inl λm=>.inr (zzR.mp m)) c rp)) g
 |fd ds=>
  obtain⟨c,rfl⟩:=zB e;intro l vs H' hl k hl' rp;obtain⟨R',g⟩:=R.news (T':=[l]) (by simp) (λa m=>by rw[zzR.mp m];exact hl) k (λa m=>by rw[zzR.mp m,hl'];simp);obtain⟨e1,r1⟩:=Hd rp;refine q _ [l] H' R' (.dc (vs:=vs.map (·.2)) (by rw[hl',<-e1]) (by rw[zzB,zzB,rp.length]) (OH (λst e a z=>(hO [l] st e a z).elim .inl λm=>.inr (zzR.mp m)) c r1)) g
end
abbrev EF:=AS->Option (RV×AS)
def al(K:zzA)(kd:KD)(f:EF):TE:=λσ H Q=>∃F B ad as r as',Rel K kd F B [] ad as σ H/\f as=some (r,as')/\
 ∀v T' ad' H',Rel K kd F B T' ad' as' σ H'->xh K kd F B T' ad' σ H' v r->Grow (Gw [] ad) H (Gw T' ad') H'->Q v H'
@[irreducible] def AE(X:Cx)(kd:KD)(e:Expr)(f:EF):Prop:=PE X e (al X.K kd f)
theorem yq{X:Cx}{e:Expr}{t t':TE}(h:PE X e t)(k:∀σ H Q,t' σ H Q->t σ H Q):PE X e t':=λpins s σ H Q I q=>h pins s σ H Q I (k σ H Q q)
section
variable{K:zzA}{kd:KD}{F B:Addr->Prop}{ad:Ad}{as as1:AS}{σ:St}{H:Hp}{r:RV}{f:EF}{P:VK}
theorem wb(R:Rel K kd F B [] ad as σ H)(e:f as=some (r,as1))(k:∀v ad1 H1,Rel K kd F B [] ad1 as1 σ H1->xh K kd F B [] ad1 σ H1 v r.frz->Grow (Gw [] ad) H (Gw [] ad1) H1->P v H1):al K kd f σ H P:=
 ⟨F,B,ad,as,r,as1,R,e,λv T' ad' H' R' rv g=>k v ad' H' R'.drop (xh.drop R' rv) (g.trans (Grow.less Gw.drop))⟩
end
def sg(X:Cx)(kd:KD)(f:Value->Value->Sem Value)(g:D->D->Option R0):Prop:=
 Q3 X f (λx y H Q=>∃O d e r,(∀a,O a->H a≠none)/\Vw X.K kd O H x d/\Vw X.K kd O H y e/\g d e=some r/\RQ X.K kd O H Q r)
inductive VwL(K:zzA)(kd:KD)(O:Addr->Prop)(H:Hp):List V->List D->Prop
 |nil:VwL K kd O H [] []
 |cons {v:V}{d:D}{vs:List V}{ds:List D}:Vw K kd O H v d->VwL K kd O H vs ds->VwL K kd O H (v::vs) (d::ds)
def vN(X:Cx)(kd:KD)(f:Value)(g:List D->Option R0):Prop:=
 YY X f (λxs H Q=>∃O ds r,(∀a,O a->H a≠none)/\VwL X.K kd O H xs ds/\g ds=some r/\RQ X.K kd O H Q r)
def mF(X:Cx)(kd:KD)(g:D->D->Option R0):Prop:=
 qS X (λx y H Q=>∃O d e r,(∀a,O a->H a≠none)/\Vw X.K kd O H x d/\Vw X.K kd O H y e/\g d e=some r/\RQ X.K kd O H Q r)
def meet:Option Bool->Option Bool->Option Bool
 |some a,some b=>some (a&&b)
 |_,_=>none
theorem U1.meet1{F B G:Addr->Prop}{a b:Option Bool}:∀x,U1 F B G (meet a b) x->U1 F B G a x:=λx h=>by
 cases a with
 |none=>cases b<;>exact h.elim
 |some p=>
  cases b with
  |none=>exact h.elim
  |some q=>exact Gv (λz=>((zyC _ _).mp z).1) x h
theorem U1.meet2{F B G:Addr->Prop}{a b:Option Bool}:∀x,U1 F B G (meet a b) x->U1 F B G b x:=λx h=>by
 cases a with
 |none=>cases b<;>exact h.elim
 |some p=>
  cases b with
  |none=>exact h.elim
  |some q=>exact Gv (λz=>((zyC _ _).mp z).2) x h
theorem Vw.less{K:zzA}{kd:KD}{O O':Addr->Prop}{H:Hp}{v:V}{d:D}(g:∀a,O' a->O a)(h:Vw K kd O H v d):Vw K kd O' H v d:=by
 cases h with
 |non=>exact .non
 |bl b=>exact .bl b
 |int i=>exact .int i
 |str x=>exact .str x
 |tup r s l=>exact .tup (r.less g) s (l.less g)
 |lst h l=>exact .lst h (l.less g)
 |dct h l=>exact .dct h (l.less g)
 |cl c=>exact .cl c
 |ob h k l=>exact .ob h k (l.less g)
def f2(fa fb:EF)(g:D->D->Option R0):EF:=λas=>(fa as).bind λp=>(fb p.2).bind λq=>(p.1.frz.view q.2).bind λx=>(q.1.frz.view q.2).bind λy=>(g x.1 y.1).bind λr=>(wrap (meet x.2 y.2) r).bind λz=>some (z,q.2)
theorem B7{fa fb:EF}{g:D->D->Option R0}{as as':AS}{rv:RV}(h:f2 fa fb g as=some (rv,as')):
 ∃p as1 q x y lx ly r,fa as=some (p,as1)/\fb as1=some (q,as')/\p.frz.view as'=some (x,lx)/\q.frz.view as'=some (y,ly)/\g x y=some r/\wrap (meet lx ly) r=some rv:=by
 unfold f2 at h;obtain⟨⟨p,as1⟩,h1,h⟩:=bS_ h;obtain⟨⟨q,as2⟩,h2,h⟩:=bS_ h;obtain⟨⟨x,lx⟩,h3,h⟩:=bS_ h;obtain⟨⟨y,ly⟩,h4,h⟩:=bS_ h;obtain⟨r,h5,h⟩:=bS_ h;obtain⟨z,h6,h⟩:=bS_ h;cases h;exact⟨p,as1,q,x,y,lx,ly,r,h1,h2,h3,h4,h5,h6⟩
section
variable{X:Cx}{kd:KD}{a b c:Expr}{fa fb fc:EF}{pos:Pos}
theorem p9{g:D->D->Option R0}{R2':R2}(hr:∀x y H Q,(∃O d e r,(∀a,O a->H a≠none)/\Vw X.K kd O H x d/\Vw X.K kd O H y e/\g d e=some r/\RQ X.K kd O H Q r)->R2' x y H Q)
 {σ:St}{H:Hp}{Q:VK}(h:al X.K kd (f2 fa fb g) σ H Q):rQ R2' (al X.K kd fa) (al X.K kd fb) σ H Q:=by
 obtain⟨F,B,ad,as,r,as',R,e,q⟩:=h;obtain⟨p,as1,z,x,y,lx,ly,r0,h1,h2,h3,h4,h5,h6⟩:=B7 e;refine wb R h1 λv ad1 H1 R1 rv1 g1=>wb R1 h2 λu ad2 H2 R2 rv2 g2=>hr _ _ _ _ ?_;exact⟨_,x,y,r0,R2.tr _,(xh.vw R2 (rv1.grow g2) h3).less U1.meet1,(xh.vw R2 rv2 h4).less U1.meet2,h5,YR R2 h6 λw T' H' R' rv' g'=>q w T' ad2 H' R' rv' ((g1.trans g2).trans g')⟩
theorem su{op:Operator}{g:D->D->Option R0}(ho:sg X kd (binaryOp op) g)(ha:AE X kd a fa)(hb':AE X kd b fb):AE X kd (.BinOp a op b pos) (f2 fa fb g):=by with_unfolding_all exact(yq (DV ho ha hb') λσ H Q h=>p9 (λ_ _ _ _ z=>z) h)
theorem u6{op:CmpOp}{g:D->D->Option R0}(ho:sg X kd (compareOp op) g)(ha:AE X kd a fa)(hb':AE X kd b fb)(hm:behindInMarks op b=false):AE X kd (.Compare a [op] [b] pos) (f2 fa fb g):=by with_unfolding_all exact(yq (AL ho ha hb' hm) λσ H Q h=>p9 (λ_ _ _ _ z=>z) h)
theorem pZ{g:D->D->Option R0}(ho:mF X kd g)(ha:AE X kd a fa)(hb':AE X kd b fb)(hm:xg b):AE X kd (.Subscript a b pos) (f2 fa fb g):=by with_unfolding_all exact(yq (Y0 ho ha hb' hm) λσ H Q h=>p9 (λ_ _ _ _ z=>z) h)
def fC(d:D):EF:=λas=>some (.ow (.lf true d),as)
noncomputable def fV(i:Nat):EF:=λas=>match as[i]? with
 |some (some (.lf st d))=>some (.ow (.lf st d),as)
 |some (some (.nd _ _))=>some (.bo i,as)
 |_=>none
theorem Gk{v:V}{d:D}(h:PE X a (tC v))(hr:∀O H,Rp X.K kd O H v d):AE X kd a (fC d):=by with_unfolding_all exact(yq h λσ H Q h=>by
 obtain⟨F,B,ad,as,r,as',R,e,q⟩:=h;cases e;exact q v [] ad H R (.lf (hr _ _)) Grow.refl)
theorem sM{i:Nat}(h:PE X a (vm i)):AE X kd a (fV i):=by with_unfolding_all exact(yq h λσ H Q h=>by
 obtain⟨F,B,ad,as,r,as',R,e,q⟩:=h;unfold fV at e;cases k:as[i]? with
 |none=>rw[k]at e;cases e
 |some s=>
  rw[k]at e;cases s with
  |none=>cases e
  |some o=>
   obtain⟨v,h1,h2⟩:=R.sl i _ k;cases o with
   |lf st d=>
    cases e;have e0:ad i=[]:=by
     generalize hfp:ad i=fp at h2;cases h2;rfl
    rw[e0]at h2;exact⟨v,h1,q v [] ad H R h2 Grow.refl⟩
   |nd kk os=>
    cases e;exact⟨_,h1,q _ [] ad H R ⟨rfl,h1⟩ Grow.refl⟩)
end
def vO(ad:Ad)(i:Nat)(x:List Addr):Ad:=λj=>if j=i then x else ad j
section
variable{K:zzA}{kd:KD}{F B:Addr->Prop}{T T1 T2:List Addr}{ad ad1:Ad}{as as1:AS}{σ:St}{H H1:Hp}{v:V}{r:RV}{o:O}{i:Nat}
theorem zO{x:List Addr}:vO ad i x i=x:=if_pos rfl
theorem zR{j:Nat}{x:List Addr}(h:j≠i):vO ad i x j=ad j:=if_neg h
theorem xp:∀a,Gw T (vO ad i []) a->Gw T ad a:=λa h=>by
 rcases h with h|⟨j,h⟩
 . exact .inl h
 . by_cases e:j=i
   . subst e;rw[zO]at h;cases h
   . rw[zR e]at h;exact .inr ⟨j,h⟩
theorem Yv:∀a,Gw [] (vO ad i T) a->Gw T ad a:=λa h=>by
 rcases h with h|⟨j,h⟩
 . cases h
 . by_cases e:j=i
   . subst e;rw[zO]at h;exact .inl h
   . rw[zR e]at h;exact .inr ⟨j,h⟩
theorem BK:∀st a,Lv F (λa=>B a\/a ∈ T) (Gw [] ad) st a->Lv F B (Gw T ad) st a:=λst a z=>by
 rcases z with(z|z|z)|z
 . exact .inl (.inl z)
 . exact .inl (.inr z)
 . exact .inr (.inl z)
 . exact .inr (Gw.drop a z)
theorem X9:∀st a,Lv F B (Gw (T1++T2) ad) st a->Lv F (λa=>B a\/a ∈ T1) (Gw T2 ad) st a:=λst a z=>by
 rcases z with(z|z)|z|z
 . exact .inl (.inl z)
 . exact .inl (.inr (.inl z))
 . rcases zzM.mp z with z|z
   . exact .inl (.inr (.inr z))
   . exact .inr (.inl z)
 . exact .inr (.inr z)
theorem Rel.hide(R:Rel K kd F B T ad as σ H):Rel K kd F (λa=>B a\/a ∈ T) [] ad as σ H where
 len:=R.len
 out:=R.out
 nd:=R.nd
 inj:=R.inj
 tnd:=zyI
 dis:=λ_ _ _ z=>nomatch z
 ftr:=R.ftr
 btr:=λa h=>by
  rcases h with h|h
  . obtain⟨h1,h2,h3⟩:=R.btr a h;exact⟨h1,h2,λz=>h3 (Gw.drop a z)⟩
  . exact⟨(R.gtr a (.inl h)).1,(R.gtr a (.inl h)).2,λz=>z.elim (λm=>nomatch m) λ⟨j,y⟩=>R.dis j a y h⟩
 gtr:=λa h=>R.gtr a (Gw.drop a h)
 sl:=λi s e=>(R.sl i s e).lv BK
theorem Rel.unhide(hn:T1.Nodup)(hb:∀a ∈ T1,¬B a)(R:Rel K kd F (λa=>B a\/a ∈ T1) T2 ad as σ H):Rel K kd F B (T1++T2) ad as σ H where
 len:=R.len
 out:=R.out
 nd:=R.nd
 inj:=R.inj
 tnd:=zxC.mpr ⟨hn,R.tnd,λa m b m' e=>by subst e;exact(R.btr a (.inr m)).2.2 (.inl m')⟩
 dis:=λi a m z=>by
  rcases zzM.mp z with z|z
  . exact(R.btr a (.inr z)).2.2 (.inr ⟨i,m⟩)
  . exact R.dis i a m z
 ftr:=R.ftr
 btr:=λa h=>by
  obtain⟨h1,h2,h3⟩:=R.btr a (.inl h);refine⟨h1,h2,λz=>?_⟩
  rcases z with z|z
  . rcases zzM.mp z with z|z
    . exact hb a z h
    . exact h3 (.inl z)
  . exact h3 (.inr z)
 gtr:=λa h=>by
  rcases h with h|h
  . rcases zzM.mp h with h|h
    . exact⟨(R.btr a (.inr h)).1,(R.btr a (.inr h)).2.1⟩
    . exact R.gtr a (.inl h)
  . exact R.gtr a (.inr h)
 sl:=λi s e=>(R.sl i s e).lv X9
theorem Rel.frz(R:Rel K kd F B T ad as σ H)(h:as[i]? = some (some o)):
 Rel K kd F B T (vO ad i []) (as.set i (some o.frz)) σ H/\∃v,σ[i]? = some (some v)/\Rp K kd (Lv F B (Gw T (vO ad i [])) o.str) H v o.toD:=by
 obtain⟨v,hv,ro⟩:=R.sl i _ h;have rp:Rp K kd (Lv F B (Gw T (vO ad i [])) o.str) H v o.toD:=
  Ro.rp o.str (λst v d hs r=>r.less λa z=>z.elim (λy=>.inl (y.elim (λx=>.inl ⟨hs x.1,x.2⟩) .inr)) λy=>.inr (xp a y))
   (λa n z=>n (z.elim (λy=>.inl (y.elim (λx=>.inl ⟨rfl,x.2⟩) .inr)) λy=>.inr (xp a y))) id
   (λa m z=>by
    rcases z with(z|z)|z|⟨j,z⟩
    . exact(R.gtr a (.inr ⟨i,m⟩)).2 z.2
    . exact(R.btr a z).2.2 (.inr ⟨i,m⟩)
    . exact R.dis i a m z
    . by_cases e:j=i
      . subst e;rw[zO]at z;cases z
      . rw[zR e]at z;exact e (R.inj j i a z m)) ro
 have hi:i<as.length:=(zzG.mp h).1;refine⟨⟨by rw[zzU];exact R.len,λj hj=>?_,λj=>?_,λj k a h1 h2=>?_,R.tnd,λj a h1=>?_,R.ftr,λa h1=>?_,λa h1=>R.gtr a (xp a h1),λj s e=>?_⟩,v,hv,rp⟩
 . rw[zzU]at hj;rw[zR (by omega)];exact R.out j hj
 . by_cases e:j=i
   . subst e;rw[zO];exact zyI
   . rw[zR e];exact R.nd j
 . by_cases e:j=i
   . subst e;rw[zO]at h1;cases h1
   . by_cases e':k=i
     . subst e';rw[zO]at h2;cases h2
     . rw[zR e]at h1;rw[zR e']at h2;exact R.inj j k a h1 h2
 . by_cases e:j=i
   . subst e;rw[zO]at h1;cases h1
   . rw[zR e]at h1;exact R.dis j a h1
 . obtain⟨b1,b2,b3⟩:=R.btr a h1;exact⟨b1,b2,λz=>b3 (xp a z)⟩
 . by_cases q:j=i
   . subst q;rw[zyJ hi]at e;cases e;rw[zO];exact⟨v,hv,.lf rp⟩
   . rw[zzY (Ne.symm q)]at e;rw[zR q];exact(R.sl j s e).less xp
theorem Rel.put(R:Rel K kd F B T ad as σ H)(hi:i<as.length)(h:wK K kd F B (Gw T ad) H v o T):Rel K kd F B [] (vO ad i T) (as.set i (some o)) (σ.set i (some v)) H:=by
 have hi':i<σ.length:=by rw[<-R.len];exact hi
 refine⟨by rw[zzU,zzU];exact R.len,λj hj=>?_,λj=>?_,λj k a h1 h2=>?_,zyI,(λ_ _ _ z=>nomatch z),R.ftr,λa h1=>?_,λa h1=>R.gtr a (Yv a h1),λj s e=>?_⟩
 . rw[zzU]at hj;rw[zR (by omega)];exact R.out j hj
 . by_cases e:j=i
   . subst e;rw[zO];exact R.tnd
   . rw[zR e];exact R.nd j
 . by_cases e:j=i
   . subst e;rw[zO]at h1
     by_cases e':k=j
     . exact e'.symm
     . rw[zR e']at h2;exact(R.dis k a h2 h1).elim
   . rw[zR e]at h1
     by_cases e':k=i
     . subst e';rw[zO]at h2;exact(R.dis j a h1 h2).elim
     . rw[zR e']at h2;exact R.inj j k a h1 h2
 . obtain⟨b1,b2,b3⟩:=R.btr a h1;exact⟨b1,b2,λz=>b3 (Yv a z)⟩
 . by_cases q:j=i
   . subst q;rw[zyJ hi]at e;cases e;rw[zO,zyJ hi'];exact⟨v,rfl,h.less Yv⟩
   . rw[zzY (Ne.symm q)]at e;rw[zR q,zzY (Ne.symm q)];exact(R.sl j s e).less Yv
def Jj(as:AS):RV->Option (O×AS)
 | .ow o=>some (o,as)
 | .bo i=>match as[i]? with
  |some (some o)=>some (o.frz,as.set i (some o.frz))
  |_=>none
theorem T8{as':AS}(R:Rel K kd F B T ad as σ H)(h:xh K kd F B T ad σ H v r)(e:Jj as r=some (o,as')):∃ad',Rel K kd F B T ad' as' σ H/\wK K kd F B (Gw T ad') H v o T/\∀a,Gw T ad' a->Gw T ad a:=by
 cases r with
 |ow o'=>cases e;exact⟨ad,R,h,λ_ z=>z⟩
 |bo i=>
  have e:(match as[i]? with|some (some o)=>some (o.frz,as.set i (some o.frz))|_=>none)=some (o,as'):=e;cases k:as[i]? with
  |none=>rw[k]at e;cases e
  |some s=>
   cases s with
   |none=>rw[k]at e;cases e
   |some o1=>
    rw[k]at e;cases e;obtain⟨hT,hs⟩:=h;subst hT;obtain⟨R',w,hw,rp⟩:=R.frz k;rw[hs]at hw;cases hw;exact⟨_,R',.lf rp,xp⟩
end
abbrev TF:=AS->Option (Bool×AS)
def JE(K:zzA)(kd:KD)(f:TF):TT:=λσ H Q=>∃F B ad as b as',Rel K kd F B [] ad as σ H/\f as=some (b,as')/\
 ∀ad' H',Rel K kd F B [] ad' as' σ H'->Grow (Gw [] ad) H (Gw [] ad') H'->Q b H'
@[irreducible] def AT(X:Cx)(kd:KD)(e:Expr)(f:TF):Prop:=PT X e (JE X.K kd f)
@[irreducible] def AW(X:Cx)(kd:KD)(e:Expr)(f:TF):Prop:=PW X e (JE X.K kd f)
def truth:D->Option Bool
 | .non=>some false
 | .bl b=>some b
 | .int i=>some (i != 0)
 | .str x=>if x.length<=sizeLine then some ((x.length:Int) != 0)else none
 | .tup ds=>some (!ds.isEmpty)
 | .lst ds=>some (!ds.isEmpty)
 |_=>none
def fT(f:EF):TF:=λas=>(f as).bind λp=>(p.1.frz.view p.2).bind λx=>(truth x.1).bind λb=>some (b,p.2)
def Xn(f g:TF):TF:=λas=>(f as).bind λp=>if p.1=true then g p.2 else some (false,p.2)
def vP(f g:TF):TF:=λas=>(f as).bind λp=>if p.1=true then some (true,p.2)else g p.2
def ZF(f:TF):TF:=λas=>(f as).bind λp=>some (!p.1,p.2)
def Gy(c:TF)(f g:EF):EF:=λas=>(c as).bind λp=>if p.1=true then f p.2 else g p.2
def Uu:D->Option Int
 | .int i=>some i
 |_=>none
def oB:D->Option Str
 | .str i=>some i
 |_=>none
def H_:D->Option (List D)
 | .lst i=>some i
 |_=>none
def n_:D->Option (List D)
 | .tup i=>some i
 |_=>none
theorem Uo{d:D}{i:List D}(e:H_ d=some i):d = .lst i:=by
 cases d with
 |lst j=>cases e;rfl
 |_=>cases e
theorem sP{d:D}{i:List D}(e:n_ d=some i):d = .tup i:=by
 cases d with
 |tup j=>cases e;rfl
 |_=>cases e
theorem Nu{d:D}{c:Int}(h:Uu d=some c):d = .int c:=by
 cases d with
 |int i=>cases h;rfl
 |_=>cases h
def mC:D->Option Bool
 | .bl i=>some i
 |_=>none
theorem uv{d:D}{c:Bool}(h:mC d=some c):d = .bl c:=by
 cases d with
 |bl i=>cases h;rfl
 |_=>cases h
def nO:RV->Option D
 | .ow (.lf _ d)=>some d
 |_=>none
theorem CH{r:RV}{d:D}(h:nO r=some d):∃st,r = .ow (.lf st d):=by
 cases r with
 |bo i=>cases h
 |ow o=>
  cases o with
  |nd k os=>cases h
  |lf st d=>cases h;exact⟨st,rfl⟩
def nJ(r:RV):Option Bool:=(nO r).bind mC
theorem OC{r:RV}{c:Bool}(h:nJ r=some c):∃st,r = .ow (.lf st (.bl c)):=by
 obtain⟨d,h1,h⟩:=bS_ h;cases uv h;exact CH h1
def mw(r:RV):Option Int:=(nO r).bind Uu
theorem tV{r:RV}{c:Int}(h:mw r=some c):∃st,r = .ow (.lf st (.int c)):=by
 obtain⟨d,h1,h⟩:=bS_ h;cases Nu h;exact CH h1
def rC{α:Type}:List α->Option (α×α)
 | [a,b]=>some (a,b)
 |_=>none
theorem Bz{α:Type}{os:List α}{p:α×α}(h:rC os=some p):os=[p.1,p.2]:=by
 cases os with
 |nil=>cases h
 |cons x r=>
  cases r with
  |nil=>cases h
  |cons y r=>
   cases r with
   |nil=>cases h;rfl
   |cons _ _=>cases h
def oM(r:RV):Option (Bool×List D):=match r with
 | .ow (.lf s d)=>(H_ d).bind λl=>some (s,l)
 |_=>none
theorem CW{r:RV}{p:Bool×List D}(h:oM r=some p):r = .ow (.lf p.1 (.lst p.2)):=by
 cases r with
 |bo i=>cases h
 |ow o=>
  cases o with
  |nd k os=>cases h
  |lf st d=>
   obtain⟨l,h1,h⟩:=bS_ (show(H_ d).bind _=_ from h);cases h;cases Uo h1;rfl
def Pj(f g:EF):EF:=λas=>(f as).bind λp=>(nJ p.1).bind λc=>if c=true then g p.2 else some (.ow (.lf true (.bl false)),p.2)
def mD(f g:EF):EF:=λas=>(f as).bind λp=>(nJ p.1).bind λc=>if c=true then some (.ow (.lf true (.bl true)),p.2)else g p.2
section
variable{X:Cx}{kd:KD}{a b c:Expr}{fa fb:EF}{ta tb:TF}{pos:Pos}{es rest:List Expr}
theorem LN{e:Expr}{t t':TT}(h:PT X e t)(k:∀σ H Q,t' σ H Q->t σ H Q):PT X e t':=λpins s σ H Q I q=>h pins s σ H Q I (k σ H Q q)
theorem OL{e:Expr}{t t':TT}(h:PW X e t)(k:∀σ H Q,t' σ H Q->t σ H Q):PW X e t':=λw pins s σ H Q I q=>h w pins s σ H Q I (k σ H Q q)
theorem rD{O:Addr->Prop}{H:Hp}{v:V}{d:D}{k:Bool}(h:Vw X.K kd O H v d)(e:truth d=some k):t7 X.K v H k:=by
 cases h with
 |non=>cases e;rfl
 |bl b=>cases e;rfl
 |int i=>cases e;rfl
 |str x=>
  have e:(if x.length<=sizeLine then some ((x.length:Int) != 0)else none)=some k:=e
  by_cases hl:x.length<=sizeLine
  . rw[if_pos hl]at e;cases e;exact⟨hl,rfl⟩
  . rw[if_neg hl]at e;cases e
 |tup r hs hr=>
  cases e;refine .inr (.inl ⟨_,hs, ?_⟩);cases hr<;>rfl
 |lst hs hr=>
  cases e;refine .inl ⟨_,hs.sq, ?_⟩;cases hr<;>rfl
 |dct=>cases e
 |cl=>cases e
 |ob=>cases e
theorem tE(ha:AE X kd a fa)(he:∀whole,isTrue a X.env whole=(do let v <-whole;standAt a.pos;holding [v] (truthy v))):AT X kd a (fT fa):=by with_unfolding_all exact(LN (Cm ha he) λσ H Q h=>by
 obtain⟨F,B,ad,as,bb,as',R,e,q⟩:=h;obtain⟨⟨p,as1⟩,h1,e⟩:=bS_ (show(fa as).bind _=_ from e);obtain⟨⟨d,lv⟩,h2,e⟩:=bS_ e;obtain⟨k,h3,e⟩:=bS_ e;cases e;exact wb R h1 λv ad1 H1 R1 rv1 g1=>⟨_,rD (xh.vw R1 rv1 h2) h3,q ad1 H1 R1 g1⟩)
theorem sJ{op:CmpOp}{g:D->D->Option R0}(ho:sg X kd (compareOp op) g)(hg:∀x y r,g x y=some r->∃k,r = .im (.bl k))(ha:AE X kd a fa)(hb:AE X kd b fb)(hm:behindInMarks op b=false):
 AT X kd (.Compare a [op] [b] pos) (fT (f2 fa fb g)):=by with_unfolding_all exact(LN (B6 ho ha hb hm) λσ H Q h=>by
 obtain⟨F,B,ad,as,bb,as',R,e,q⟩:=h;obtain⟨⟨p,as1⟩,h1,e⟩:=bS_ (show(f2 fa fb g as).bind _=_ from e);obtain⟨⟨d,lv⟩,h2,e⟩:=bS_ e;obtain⟨k,h3,e⟩:=bS_ e;cases e;obtain⟨_,_,_,x,y,_,_,r0,_,_,_,_,hp,hw⟩:=B7 h1;obtain⟨k',rfl⟩:=hg _ _ _ hp;cases hw;cases h2;cases h3;refine p9 (λ_ _ _ _ z=>z) ⟨F,B,ad,as,_,_,R,h1,λv T' ad' H' R' rv g'=>?_⟩;generalize hT:T'=T2 at rv R' g';cases rv with
 |lf rp=>
  cases rp;exact⟨_,rfl,q ad' H' R' g'⟩)
theorem tM(ha:AT X kd a ta):AT X kd (.UnaryOp .Not a pos) (ZF ta):=by with_unfolding_all exact(LN (t8 ha) λσ H Q h=>by
 obtain⟨F,B,ad,as,bb,as',R,e,q⟩:=h;obtain⟨⟨p,as1⟩,h1,e⟩:=bS_ (show(ta as).bind _=_ from e);cases e;exact⟨F,B,ad,as,p,_,R,h1,λad' H' R' g=>q ad' H' R' g⟩)
theorem Tc(ha:AT X kd a ta):AW X kd (.BoolOp .And [a] pos) ta:=by with_unfolding_all exact(Jx ha)
theorem S9(ha:AT X kd a ta):AW X kd (.BoolOp .Or [a] pos) ta:=by with_unfolding_all exact(uo ha)
theorem Iq(ha:AT X kd a ta)(hb:AW X kd (.BoolOp .And (b::rest) pos) tb):AW X kd (.BoolOp .And (a::b::rest) pos) (Xn ta tb):=by with_unfolding_all exact(OL (se ha hb) λσ H Q h=>by
 obtain⟨F,B,ad,as,bb,as',R,e,q⟩:=h;obtain⟨⟨p,as1⟩,h1,e⟩:=bS_ (show(ta as).bind _=_ from e);refine⟨F,B,ad,as,p,as1,R,h1,λad' H' R' g=>?_⟩;cases p with
 |true=>exact⟨F,B,ad',as1,bb,as',R',e,λad2 H2 R2 g2=>q ad2 H2 R2 (g.trans g2)⟩
 |false=>cases e;exact q ad' H' R' g)
theorem qa(ha:AT X kd a ta)(hb:AW X kd (.BoolOp .Or (b::rest) pos) tb):AW X kd (.BoolOp .Or (a::b::rest) pos) (vP ta tb):=by with_unfolding_all exact(OL (pD ha hb) λσ H Q h=>by
 obtain⟨F,B,ad,as,bb,as',R,e,q⟩:=h;obtain⟨⟨p,as1⟩,h1,e⟩:=bS_ (show(ta as).bind _=_ from e);refine⟨F,B,ad,as,p,as1,R,h1,λad' H' R' g=>?_⟩;cases p with
 |false=>exact⟨F,B,ad',as1,bb,as',R',e,λad2 H2 R2 g2=>q ad2 H2 R2 (g.trans g2)⟩
 |true=>cases e;exact q ad' H' R' g)
theorem AW.at_{e:Expr}(h:AW X kd e ta):AT X kd e ta:=by with_unfolding_all exact(PW.pt h)
theorem Ie(hc:AT X kd c ta)(ha:AE X kd a fa)(hb:AE X kd b fb):AE X kd (.IfExp c a b pos) (Gy ta fa fb):=by with_unfolding_all exact(yq (Ov hc ha hb) λσ H Q h=>by
 obtain⟨F,B,ad,as,r,as',R,e,q⟩:=h;obtain⟨⟨p,as1⟩,h1,e⟩:=bS_ (show(ta as).bind _=_ from e);refine⟨F,B,ad,as,p,as1,R,h1,λad' H' R' g=>?_⟩;cases p with
 |true=>exact⟨F,B,ad',as1,r,as',R',e,λv T2 ad2 H2 R2 rv g2=>q v T2 ad2 H2 R2 rv (g.trans g2)⟩
 |false=>exact⟨F,B,ad',as1,r,as',R',e,λv T2 ad2 H2 R2 rv g2=>q v T2 ad2 H2 R2 rv (g.trans g2)⟩)
theorem Dm{K:zzA}{F B:Addr->Prop}{T:List Addr}{ad:Ad}{σ:St}{H:Hp}{v:V}{st c:Bool}(h:xh K kd F B T ad σ H v (.ow (.lf st (.bl c)))):T=[]/\v = .bl c:=by
 have h:wK K kd F B (Gw T ad) H v (.lf st (.bl c)) T:=h;generalize hT:Gw T ad=G at h;cases h with
 |lf rp=>cases rp;exact⟨rfl,rfl⟩
theorem sy{op}(ha:AE X kd a fa):AE X kd (.BoolOp op [a] pos) fa:=by with_unfolding_all exact(rj ha)
theorem uj(ha:AE X kd a fa)(hb:AE X kd (.BoolOp .And (b::rest) pos) fb):AE X kd (.BoolOp .And (a::b::rest) pos) (Pj fa fb):=by with_unfolding_all exact(yq (rh ha hb) λσ H Q h=>by
 obtain⟨F,B,ad,as,r,as',R,e,q⟩:=h;obtain⟨⟨p,as1⟩,h1,e⟩:=bS_ (show(fa as).bind _=_ from e);refine⟨F,B,ad,as,p,as1,R,h1,λv T' ad' H' R' rv g=>?_⟩;obtain⟨k,e1,e⟩:=bS_ e;obtain⟨st,rfl⟩:=OC e1;obtain⟨rfl,rfl⟩:=Dm rv;cases k with
 |true=>exact⟨true,rfl,⟨F,B,ad',as1,r,as',R',e,λv T2 ad2 H2 R2 rv g2=>q v T2 ad2 H2 R2 rv (g.trans g2)⟩⟩
 |false=>
  cases e;exact⟨false,rfl,q _ [] ad' H' R' (.lf (.bl false)) g⟩)
theorem qW(ha:AE X kd a fa)(hb:AE X kd (.BoolOp .Or (b::rest) pos) fb):AE X kd (.BoolOp .Or (a::b::rest) pos) (mD fa fb):=by with_unfolding_all exact(yq (qM ha hb) λσ H Q h=>by
 obtain⟨F,B,ad,as,r,as',R,e,q⟩:=h;obtain⟨⟨p,as1⟩,h1,e⟩:=bS_ (show(fa as).bind _=_ from e);refine⟨F,B,ad,as,p,as1,R,h1,λv T' ad' H' R' rv g=>?_⟩;obtain⟨k,e1,e⟩:=bS_ e;obtain⟨st,rfl⟩:=OC e1;obtain⟨rfl,rfl⟩:=Dm rv;cases k with
 |false=>exact⟨false,rfl,⟨F,B,ad',as1,r,as',R',e,λv T2 ad2 H2 R2 rv g2=>q v T2 ad2 H2 R2 rv (g.trans g2)⟩⟩
 |true=>
  cases e;exact⟨true,rfl,q _ [] ad' H' R' (.lf (.bl true)) g⟩)
end
abbrev AF:=AS->Option (List RV×AS)
inductive RVs(K:zzA)(kd:KD)(F B:Addr->Prop)(ad:Ad)(σ:St)(H:Hp):List V->List RV->Prop
 |nil:RVs K kd F B ad σ H [] []
 |cons {v:V}{r:RV}{vs:List V}{rs:List RV}:xh K kd F B [] ad σ H v r->RVs K kd F B ad σ H vs rs->RVs K kd F B ad σ H (v::vs) (r::rs)
def qw(K:zzA)(kd:KD)(f:AF):TA:=λσ H Q=>∃F B ad as rs as',Rel K kd F B [] ad as σ H/\f as=some (rs,as')/\
 ∀vs ad' H',Rel K kd F B [] ad' as' σ H'->RVs K kd F B ad' σ H' vs rs->Grow (Gw [] ad) H (Gw [] ad') H'->Q vs H'
@[irreducible] def AA(X:Cx)(kd:KD)(es:List Expr)(f:AF):Prop:=PA X es (qw X.K kd f)
def aN:AF:=λas=>some ([],as)
def aC(fa:EF)(fr:AF):AF:=λas=>(fa as).bind λp=>(fr p.2).bind λq=>some (p.1.frz::q.1,q.2)
theorem NG{X:Cx}{e:List Expr}{t t':TA}(h:PA X e t)(k:∀σ H Q,t' σ H Q->t σ H Q):PA X e t':=λpos pins s σ H Q I q=>h pos pins s σ H Q I (k σ H Q q)
abbrev DF:=AS->Option (List O×AS)
def oP(K:zzA)(kd:KD)(f:DF):TA:=λσ H Q=>∃F B ad as os as',Rel K kd F B [] ad as σ H/\f as=some (os,as')/\
 ∀vs T' ad' H',Rel K kd F B T' ad' as' σ H'->xt K kd F B (Gw T' ad') H' vs os T'->Grow (Gw [] ad) H (Gw T' ad') H'->Q vs H'
@[irreducible] def AD(X:Cx)(kd:KD)(es:List Expr)(f:DF):Prop:=PA X es (oP X.K kd f)
def dN:DF:=λas=>some ([],as)
def dC(fa:EF)(fr:DF):DF:=λas=>(fa as).bind λp=>(Jj p.2 p.1).bind λx=>(fr x.2).bind λq=>some (x.1::q.1,q.2)
def views(as:AS):List RV->Option (List D×Option Bool)
 | []=>some ([],some true)
 |r::rs=>(r.view as).bind λx=>(views as rs).bind λy=>some (x.1::y.1,meet x.2 y.2)
def fP(fr:AF)(g:List D->Option R0):EF:=λas=>(fr as).bind λp=>(views p.2 p.1).bind λx=>(g x.1).bind λr=>(wrap x.2 r).bind λz=>some (z,p.2)
def Kw(as:AS):RV->Option (Bool×D)
 | .ow o=>some (zD o.toD||o.str,o.toD)
 | .bo i=>match as[i]? with
  |some (some o)=>some (false,o.toD)
  |_=>none
def Yo(as:AS):List RV->Option (List (Bool×D))
 | []=>some []
 |r::rs=>(Kw as r).bind λx=>(Yo as rs).bind λy=>some (x::y)
def zg(fr:AF)(g:List (Bool×D)->Option O):EF:=λas=>(fr as).bind λp=>(Yo p.2 p.1).bind λx=>(g x).bind λo=>some (.ow o,p.2)
def oE(K:zzA)(kd:KD)(F:Addr->Prop)(H:Hp)(Q:VK)(o:O):Prop:=
 ∀v T H',T.Nodup->(∀a ∈ T,H a=none)->(∀b u,H b=some u->H' b=some u)->(∀a ∈ T,H' a≠none)->Ro (λ_ v d=>Rp K kd (Vz F (· ∈ T)) H' v d) (λa=>¬Vz F (· ∈ T) a) H' v o T->Q v H'
inductive RpA(K:zzA)(kd:KD)(F:Addr->Prop)(H:Hp):List V->List (Bool×D)->Prop
 |nil:RpA K kd F H [] []
 |cons {v:V}{st:Bool}{d:D}{vs:List V}{ds:List (Bool×D)}:Rp K kd (λa=>st=true/\F a) H v d->RpA K kd F H vs ds->RpA K kd F H (v::vs) ((st,d)::ds)
def Jl(K:zzA)(kd:KD)(g:List (Bool×D)->Option O):Sp:=λvs H Q _=>∃F ds o,(∀a,F a->H a≠none)/\RpA K kd F H vs ds/\g ds=some o/\oE K kd F H Q o
def Y4(os:List O):O:=if os.all O.isLf=true then .lf (O.strs os) (.tup (O.toDs os))else .nd .tp os
def yr(fr:DF):EF:=λas=>(fr as).bind λp=>if p.1.length<=sizeLine then some (.ow (Y4 p.1),p.2)else none
def yf(fr:DF):EF:=λas=>(fr as).bind λp=>if p.1.length<=sizeLine then some (.ow (.nd .ls p.1),p.2)else none
section
variable{X:Cx}{kd:KD}{a b c:Expr}{fa fb:EF}{ta tb:TF}{pos:Pos}{es rest:List Expr}{fr:AF}{fd:DF}
theorem RpA.length{K:zzA}{F:Addr->Prop}{H:Hp}{vs:List V}{ds:List (Bool×D)}(h:RpA K kd F H vs ds):vs.length=ds.length:=by
 induction h with
 |nil=>rfl
 |cons _ _ ih=>exact congrArg (· + 1) ih
theorem vi:AA X kd [] aN:=by with_unfolding_all exact(NG YT λσ H Q h=>by
 obtain⟨F,B,ad,as,rs,as',R,e,q⟩:=h;cases e;exact q [] ad H R .nil Grow.refl)
theorem J8(ha:AE X kd a fa)(hr:AA X kd es fr)(hs:starEach (a::es) X.env=(false,eval a X.env)::starEach es X.env):AA X kd (a::es) (aC fa fr):=by with_unfolding_all exact(NG (wR ha hr hs) λσ H Q h=>by
 obtain⟨F,B,ad,as,rs,as',R,e,q⟩:=h;obtain⟨⟨p,as1⟩,h1,e⟩:=bS_ (show(fa as).bind _=_ from e);obtain⟨⟨z,as2⟩,h2,e⟩:=bS_ e;cases e;refine wb R h1 λv ad1 H1 R1 rv1 g1=>⟨F,B,ad1,as1,z,_,R1,h2,λvs ad2 H2 R2 rv2 g2=>?_⟩;exact q _ ad2 H2 R2 (.cons (rv1.grow g2) rv2) (g1.trans g2))
theorem FQ:AD X kd [] dN:=by with_unfolding_all exact(NG YT λσ H Q h=>by
 obtain⟨F,B,ad,as,rs,as',R,e,q⟩:=h;cases e;exact q [] [] ad H R .nil Grow.refl)
theorem Df(ha:AE X kd a fa)(hr:AD X kd es fd)(hs:starEach (a::es) X.env=(false,eval a X.env)::starEach es X.env):AD X kd (a::es) (dC fa fd):=by with_unfolding_all exact(NG (wR ha hr hs) λσ H Q h=>by
 obtain⟨F,B,ad,as,rs,as',R,e,q⟩:=h;obtain⟨⟨p,as1⟩,h1,e⟩:=bS_ (show(fa as).bind _=_ from e);obtain⟨⟨o,as2⟩,h2,e⟩:=bS_ e;obtain⟨⟨os,as3⟩,h3,e⟩:=bS_ e;cases e;refine⟨F,B,ad,as,p,as1,R,h1,λv T1 ad1 H1 R1 rv1 g1=>?_⟩;obtain⟨ad2,R2,ro2,le2⟩:=T8 R1 rv1 h2;refine⟨F,_,ad2,as2,os,_,R2.hide,h3,λvs T3 ad3 H3 R3 ro3 g3=>?_⟩;have kT:∀a ∈ T1,∀u,H1 a=some u->H3 a=some u:=λa m u e=>g3.keep a u e λz=>z.elim (λy=>nomatch y) λ⟨i,y⟩=>R2.dis i a y m;have r1:wK X.K kd F B (Gw (T1++T3) ad3) H3 v o T1:=wK.lv X9 (wK.grow g3 kT (wK.lv BK ro2));have r3:xt X.K kd F B (Gw (T1++T3) ad3) H3 vs os T3:=xt.lv X9 ro3;refine q _ (T1++T3) ad3 H3 (R3.unhide R2.tnd λa m z=>(R2.btr a z).2.2 (.inl m)) (.cons r1 r3) ((g1.trans (Grow.less le2)).trans ⟨λb u e n=>g3.keep b u e λz=>n (Gw.drop b z),λb z=>?_⟩)
 rcases z with z|z
 . rcases zzM.mp z with z|z
   . exact .inl (.inl z)
   . exact(g3.own b (.inl z)).elim (λy=>.inl (Gw.drop b y)) .inr
 . exact(g3.own b (.inr z)).elim (λy=>.inl (Gw.drop b y)) .inr)
theorem Jd{x1}(h:AD X kd es fd):AE X kd (.Tuple es x1 pos) (yr fd):=by with_unfolding_all exact(yq (tD h) λσ H Q h=>by
 obtain⟨F,B,ad,as,r,as',R,e,q⟩:=h;obtain⟨⟨os,as1⟩,h1,e⟩:=bS_ (show(fd as).bind _=_ from e);obtain⟨hz,e⟩:=zB e;cases e;refine⟨F,B,ad,as,os,_,R,h1,λvs T1 ad1 H1 R1 ro1 g1=>⟨by rw[ro1.length];exact hz,λp hp=>?_⟩⟩;have k:∀b o,H1 b=some o->upd H1 p (.tup vs) b=some o:=λb o hb=>by rw[zE (yh hb hp)];exact hb
 obtain⟨R2,g2⟩:=R1.more k;have ro2:=xt.grow g2 (λa _ u h=>k a u h) ro1;have np:∀st,¬Lv F B (Gw T1 ad1) st p:=λst z=>R1.trk st p z hp;refine q _ T1 ad1 _ R2 ?_ (g1.trans g2);show wK X.K kd F B (Gw T1 ad1) _ _ (Y4 os) T1;unfold Y4
 by_cases hl:os.all O.isLf=true
 . rw[if_pos hl];have:=CQ ro2 hl;subst this;exact .lf (.tup (np _) (.inl zV) (Tz ro2 hl))
 . rw[if_neg hl];exact .tp (np _) zV ro2)
theorem Cu(h:AD X kd es fd):AE X kd (.List es pos) (yf fd):=by with_unfolding_all exact(yq (sR h) λσ H Q h=>by
 obtain⟨F,B,ad,as,r,as',R,e,q⟩:=h;obtain⟨⟨os,as1⟩,h1,e⟩:=bS_ (show(fd as).bind _=_ from e);obtain⟨hz,e⟩:=zB e;cases e;refine⟨F,B,ad,as,os,_,R,h1,λvs T1 ad1 H1 R1 ro1 g1=>⟨by rw[ro1.length];exact hz,λp hp=>?_⟩⟩;have k:∀b o,H1 b=some o->upd H1 p (.lst vs) b=some o:=λb o hb=>by rw[zE (yh hb hp)];exact hb
 obtain⟨R2,g2⟩:=R1.add (N:=[p]) (by simp) (λa m=>by rw[zzR.mp m];exact hp) k (λa m=>by rw[zzR.mp m,zV];simp);exact q _ _ ad1 _ R2 (.ls zV (xt.grow g2 (λa _ u h=>k a u h) ro1)) (g1.trans g2))
theorem VwL.less{K:zzA}{O O':Addr->Prop}{H:Hp}(g:∀a,O' a->O a){vs:List V}{ds:List D}(h:VwL K kd O H vs ds):VwL K kd O' H vs ds:=by
 induction h with
 |nil=>exact .nil
 |cons h _ ih=>exact .cons (h.less g) ih
theorem Wh{K:zzA}{F B:Addr->Prop}{ad:Ad}{as:AS}{σ:St}{H:Hp}(R:Rel K kd F B [] ad as σ H){vs:List V}{rs:List RV}{ds:List D}{lv:Option Bool}(h:RVs K kd F B ad σ H vs rs)(e:views as rs=some (ds,lv)):VwL K kd (U1 F B (Gw [] ad) lv) H vs ds:=by
 induction h generalizing ds lv with
 |nil=>cases e;exact .nil
 |cons h t ih=>
  obtain⟨⟨d,l⟩,h1,e⟩:=bS_ (show(RV.view as _).bind _=_ from e);obtain⟨⟨ds,l2⟩,h2,e⟩:=bS_ e;cases e;exact .cons ((xh.vw R h h1).less U1.meet1) ((ih h2).less U1.meet2)
theorem mn{g:List D->Option R0}{σ:St}{H:Hp}{Q:VK}{R':List V->Hp->VK->Prop}(hr:∀vs H Q,(∃O ds r,(∀a,O a->H a≠none)/\VwL X.K kd O H vs ds/\g ds=some r/\RQ X.K kd O H Q r)->R' vs H Q)
 (h:al X.K kd (fP fr g) σ H Q):qw X.K kd fr σ H λvs H1=>R' vs H1 Q:=by
 obtain⟨F,B,ad,as,r,as',R,e,q⟩:=h;obtain⟨⟨p,as1⟩,h1,e⟩:=bS_ (show(fr as).bind _=_ from e);obtain⟨⟨ds,lv⟩,h2,e⟩:=bS_ e;obtain⟨z,h3,e⟩:=bS_ e;obtain⟨y,h4,e⟩:=bS_ e;cases e;exact⟨F,B,ad,as,p,_,R,h1,λvs ad1 H1 R1 rv1 g1=>hr _ _ _ ⟨_,ds,z,R1.tr _,Wh R1 rv1 h2,h3,YR R1 h4 λw T' H' R' rv' g'=>q w T' ad1 H' R' rv' (g1.trans g')⟩⟩
theorem Au{K:zzA}{F B:Addr->Prop}{ad:Ad}{as:AS}{σ:St}{H:Hp}(R:Rel K kd F B [] ad as σ H){vs:List V}{rs:List RV}{ds:List (Bool×D)}(h:RVs K kd F B ad σ H vs rs)(e:Yo as rs=some ds):RpA K kd (Lv F B (Gw [] ad) true) H vs ds:=by
 induction h generalizing ds with
 |nil=>cases e;exact .nil
 |cons h t ih=>
  rename_i v r vs rs;obtain⟨⟨st,d⟩,h1,e⟩:=bS_ (show(Kw as r).bind _=_ from e);obtain⟨ds,h2,e⟩:=bS_ e;cases e;refine .cons ?_ (ih h2);cases r with
  |ow o=>
   cases h1;cases hf:zD o.toD with
   |true=>exact(Nn h).flat hf
   |false=>
    refine(P7 h).less λa z=>?_;have zs:o.str=true:=z.1;rw[zs];exact z.2
  |bo i=>
   have e:(match as[i]? with|some (some o)=>some (false,o.toD)|_=>none)=some (st,d):=h1;cases k:as[i]? with
   |none=>rw[k]at e;cases e
   |some s=>
    cases s with
    |none=>rw[k]at e;cases e
    |some o=>
     rw[k]at e;cases e;obtain⟨w,hw,ro⟩:=R.sl i _ k;rw[h.2]at hw;cases hw;exact(Nn ro).less λa z=>nomatch z.1
theorem tU{K:zzA}{F B:Addr->Prop}{ad:Ad}{as:AS}{σ:St}{H:Hp}{Q:VK}{o:O}(R:Rel K kd F B [] ad as σ H)(q:∀v T' H',Rel K kd F B T' ad as σ H'->xh K kd F B T' ad σ H' v (.ow o)->Grow (Gw [] ad) H (Gw T' ad) H'->Q v H'):
 oE K kd (Lv F B (Gw [] ad) true) H Q o:=λv T H' hn hl k h1 ro=>by
 obtain⟨R',g⟩:=R.news hn hl k h1;have le:∀st a,Lv F B (Gw T ad) st a->Vz (Lv F B (Gw [] ad) true) (· ∈ T) a:=λst a z=>by
  rcases z with(z|z)|z|z
  . exact .inl (.inl (.inl ⟨rfl,z.2⟩))
  . exact .inl (.inl (.inr z))
  . exact .inr z
  . exact .inl (.inr (.inr z))
 exact q v T H' R' (Ro.mono (λst v d r=>r.less (le st)) (λa vs n e=>⟨λz=>n (le true a z),e⟩) (λ_ _ _ e=>e) ro) g
theorem s9{g:List (Bool×D)->Option O}{σ:St}{H:Hp}{Q:VK}{E:XK}(h:al X.K kd (zg fr g) σ H Q):DM (Jl X.K kd g) [] E (qw X.K kd fr) σ H Q:=by
 obtain⟨F,B,ad,as,r,as',R,e,q⟩:=h;obtain⟨⟨p,as1⟩,h1,e⟩:=bS_ (show(fr as).bind _=_ from e);obtain⟨ds,h2,e⟩:=bS_ e;obtain⟨o,h3,e⟩:=bS_ e;cases e;refine⟨F,B,ad,as,p,_,R,h1,λvs ad1 H1 R1 rv1 g1=>?_⟩;show Jl X.K kd g (vs++[]) H1 Q E;rw[zyE];exact⟨_,ds,o,R1.trk true,Au R1 rv1 h2,h3,tU R1 λw T' H' R' rv' g'=>q w T' ad1 H' R' rv' (g1.trans g')⟩
end
inductive Out where
 |nx (as:AS)|rt (o:O)|bk (as:AS)|ct (as:AS)
abbrev SF:=AS->Option Out
structure RetOk(K:zzA)(kd:KD)(F:Addr->Prop)(T:List Addr)(H:Hp)(v:V)(o:O):Prop where
 nd:T.Nodup
 tr:∀a ∈ T,H a≠none
 ro:Ro (λ_ v d=>Rp K kd (Vz F (· ∈ T)) H v d) (λa=>¬Vz F (· ∈ T) a) H v o T
def B1(K:zzA)(kd:KD)(F B:Addr->Prop)(ad:Ad)(H:Hp)(D:Ends):Out->Prop
 | .nx as'=>∀σ' ad' H',Rel K kd F B [] ad' as' σ' H'->Grow (Gw [] ad) H (Gw [] ad') H'->D.nx σ' H'
 | .bk as'=>∀σ' ad' H',Rel K kd F B [] ad' as' σ' H'->Grow (Gw [] ad) H (Gw [] ad') H'->D.bk σ' H'
 | .ct as'=>∀σ' ad' H',Rel K kd F B [] ad' as' σ' H'->Grow (Gw [] ad) H (Gw [] ad') H'->D.ct σ' H'
 | .rt o=>∀v T H',RetOk K kd F T H' v o->Grow (Gw [] ad) H (· ∈ T) H'->D.rt v H'
def be(K:zzA)(kd:KD)(f:SF):TS:=λD σ H=>∃F B ad as o,Rel K kd F B [] ad as σ H/\f as=some o/\B1 K kd F B ad H D o
@[irreducible] def GN(X:Cx)(kd:KD)(st:Stmt)(f:SF):Prop:=PS X st (be X.K kd f)
@[irreducible] def N6(X:Cx)(kd:KD)(st:List Stmt)(f:SF):Prop:=N5 X st (be X.K kd f)
theorem vq(h:PS X e t)(k:∀D σ H,t' D σ H->t D σ H):PS X e t':=λa s σ H D I q=>h a s σ H D I (k D σ H q)
theorem Pr(h:N5 X e t)(k:∀D σ H,t' D σ H->t D σ H):N5 X e t':=λa s σ H D I q=>h a s σ H D I (k D σ H q)
theorem B1.pre{K:zzA}{kd:KD}{F B:Addr->Prop}{ad ad1:Ad}{H H1:Hp}{D:Ends}{o:Out}(g:Grow (Gw [] ad) H (Gw [] ad1) H1)(h:B1 K kd F B ad H D o):B1 K kd F B ad1 H1 D o:=by
 cases o with
 |nx as=>exact λσ' ad' H' R g'=>h σ' ad' H' R (g.trans g')
 |bk as=>exact λσ' ad' H' R g'=>h σ' ad' H' R (g.trans g')
 |ct as=>exact λσ' ad' H' R g'=>h σ' ad' H' R (g.trans g')
 |rt r=>exact λv T H' R g'=>h v T H' R (g.trans g')
noncomputable def wI:SF:=λas=>some (.nx as)
def oK:SF:=λas=>some (.bk as)
def zh(f g:SF):SF:=λas=>(f as).bind λo=>match o with | .nx as'=>g as'|o=>some o
def xX(c:TF)(f g:SF):SF:=λas=>(c as).bind λp=>if p.1=true then f p.2 else g p.2
def ya(f:EF):SF:=λas=>(f as).bind λp=>some (.nx p.2)
def Oz(as:AS):RV->Option O
 | .ow o=>if o.str=true then some o else none
 | .bo i=>match as[i]? with
  |some (some o)=>if o.str=true then some o else none
  |_=>none
def zI(f:EF):SF:=λas=>(f as).bind λp=>(Oz p.2 p.1).bind λo=>some (.rt o)
def zx(z:Bool)(i:Nat)(f:EF):SF:=λas=>(f as).bind λp=>(Jj p.2 (if z=true then p.1.frz else p.1)).bind λx=>if i<x.2.length then some (.nx (x.2.set i (some x.1)))else none
theorem Ro.strong{L:Bool->V->D->Prop}{N:Addr->Prop}{H:Hp}{v:V}{o:O}{fp:List Addr}(h:Ro L N H v o fp)(e:o.str=true):Ro (λst v d=>st=true/\L st v d) N H v o fp:=
 Ro.rec (motive_1:=λv o fp _=>o.str=true->Ro (λst v d=>st=true/\L st v d) N H v o fp) (motive_2:=λvs os fp _=>O.strs os=true->RoL (λst v d=>st=true/\L st v d) N H vs os fp)
  (λh e=>.lf ⟨e,h⟩) (λh _ r e=>.ls h (r e)) (λh l _ r e=>.dc h l (r e)) (λc h l _ r e=>.ob ⟨rfl,c⟩ h l (r e)) (λn h _ r e=>.tp n h (r e)) (λ_=>.nil) (λ_ _ h r e=>.cons (h ((zyC _ _).mp e).1) (r ((zyC _ _).mp e).2)) h e
section
variable{K:zzA}{kd:KD}{F B:Addr->Prop}{T:List Addr}{ad ad1:Ad}{as as1:AS}{σ:St}{H H1:Hp}{v:V}{r:RV}{o:O}
theorem E9(R:Rel K kd F B T ad as σ H)(hn:T'.Nodup)(hs:∀a ∈ T',Gw T ad a)(h:wK K kd F B (Gw T ad) H v o T')(e:o.str=true):RetOk K kd F T' H v o:=by
 have b:∀a,Vz F (· ∈ T') a->Lv F B (Gw T ad) true a:=λa z=>z.elim (λy=>.inl (.inl ⟨rfl,y⟩)) λy=>.inr (hs a y);exact⟨hn,λa m=>(R.gtr a (hs a m)).1,Ro.mono (λc v d r=>by obtain⟨rfl,r⟩:=r;exact r.less b) (λa f n e=>⟨λz=>n (b a z),e⟩) (λ_ _ _ e=>e) (Ro.strong h e)⟩
theorem Rel.ret(R:Rel K kd F B T ad as σ H)(hr:xh K kd F B T ad σ H v r)(e:Oz as r=some o):∃T',RetOk K kd F T' H v o/\∀b ∈ T',Gw T ad b:=by
 cases r with
 |ow g=>
  obtain⟨c,rfl⟩:=zB e;exact⟨T,E9 R R.tnd (λa m=>.inl m) hr c,λa m=>.inl m⟩
 |bo i=>
  have e:(match as[i]? with|some (some o)=>if o.str=true then some o else none|_=>none)=some o:=e;cases k:as[i]? with
  |none=>rw[k]at e;cases e
  |some s=>
   cases s with
   |none=>rw[k]at e;cases e
   |some h=>
    rw[k]at e;obtain⟨c,rfl⟩:=zB e;obtain⟨w,d,f⟩:=R.sl i _ k;rw[hr.2]at d;cases d;exact⟨ad i,E9 R (R.nd i) (λa m=>.inr ⟨i,m⟩) f c,λa m=>.inr ⟨i,m⟩⟩
end
section
variable{X:Cx}{kd:KD}{st:Stmt}{sts rest:List Stmt}{a b c e:Expr}{fa fb:EF}{ta:TF}{pos:Pos}{f g:SF}
theorem Ig:GN X kd (.Break pos) oK:=by with_unfolding_all exact(vq OS λD σ H h=>by
 obtain⟨F,B,a,as,o,R,e,q⟩:=h;cases e;exact q σ a H R Grow.refl)
theorem Qq:N6 X kd [] wI:=by with_unfolding_all exact(Pr LH λD σ H h=>by
 obtain⟨F,B,a,as,o,R,e,q⟩:=h;cases e;exact q σ a H R Grow.refl)
theorem yo(h1:GN X kd st f)(h2:N6 X kd rest g):N6 X kd (st::rest) (zh f g):=by with_unfolding_all exact(Pr (vf h1 h2) λD σ H h=>by
 obtain⟨F,B,ad,as,o,R,e,q⟩:=h;obtain⟨o1,e1,e⟩:=bS_ (show(f as).bind _=_ from e);refine⟨F,B,ad,as,o1,R,e1, ?_⟩;cases o1 with
 |nx as1=>exact λσ' ad' H' R' g'=>⟨F,B,ad',as1,o,R',e,q.pre g'⟩
 |bk as1=>cases e;exact q
 |ct as1=>cases e;exact q
 |rt r=>cases e;exact q)
theorem x_(h1:GN X kd st f):N6 X kd [st] f:=by with_unfolding_all exact(QH h1)
def nA:SF:=λ_=>none
theorem rW:GN X kd st nA:=by with_unfolding_all exact(λa s σ H D I h=>by obtain⟨F,B,b,as,o,R,e,q⟩:=h;cases e)
theorem Ed(hc:AT X kd c ta)(ha:N6 X kd sts f)(hb:N6 X kd rest g):GN X kd (.If c sts rest pos) (xX ta f g):=by with_unfolding_all exact(vq (C_ hc ha hb) λD σ H h=>by
 obtain⟨F,B,i,as,o,R,e,q⟩:=h;obtain⟨⟨p,a⟩,j,e⟩:=bS_ (show(ta as).bind _=_ from e);refine⟨F,B,i,as,p,a,R,j,λb k d g=>?_⟩;cases p with
 |true=>exact⟨F,B,b,a,o,d,e,q.pre g⟩
 |false=>exact⟨F,B,b,a,o,d,e,q.pre g⟩)
theorem As(he:AE X kd e fa)(hs:swapsWith e none pos.line X.env=pure false):GN X kd (.Expr e pos) (ya fa):=by with_unfolding_all exact(vq (Qa he hs) λD σ H h=>by
 obtain⟨F,B,c,as,o,R,e,q⟩:=h;obtain⟨⟨p,a⟩,d,e⟩:=bS_ (show(fa as).bind _=_ from e);cases e;exact⟨F,B,c,as,p,a,R,d,λv j b f i k g=>q σ b f i.drop (g.trans (Grow.less Gw.drop))⟩)
theorem ZQ(he:AE X kd e fa):GN X kd (.Return (some e) pos) (zI fa):=by with_unfolding_all exact(vq (IX he) λD σ H h=>by
 obtain⟨F,B,b,as,o,R,e,q⟩:=h;obtain⟨⟨p,a⟩,c,e⟩:=bS_ (show(fa as).bind _=_ from e);obtain⟨r,d,e⟩:=bS_ e;cases e;refine⟨F,B,b,as,p,a,R,c,λv s f i j k g=>?_⟩;obtain⟨l,m,n⟩:=j.ret k d;exact q v l i m (g.trans (Grow.less n)))
theorem Iu{K:zzA}{F B:Addr->Prop}{T:List Addr}{ad:Ad}{as as2:AS}{σ:St}{H:Hp}{v:V}{r:RV}{z:Bool}{o:O}{i:Nat}(R:Rel K kd F B T ad as σ H)(rv:xh K kd F B T ad σ H v r)
 (h2:Jj as (if z=true then r.frz else r)=some (o,as2)) (hl:i<as2.length):∃ad',Rel K kd F B [] ad' (as2.set i (some o)) (σ.set i (some v)) H/\∀a,Gw [] ad' a->Gw T ad a:=by
 cases z with
 |true=>
  obtain⟨b,c,d,e⟩:=T8 R.drop (xh.drop R rv) h2;exact⟨_,c.put hl d,λa y=>Gw.drop a (e a (Yv a y))⟩
 |false=>
  obtain⟨b,c,d,e⟩:=T8 R rv h2;exact⟨_,c.put hl d,λa y=>e a (Yv a y)⟩
theorem IZ(hN:X.N.Nodup)(hi:X.N[i]? = some x)(hx:Loc X.env.scope x)(he:AE X kd e fa)(hs:swapsWith e (some (.Name x pos')) pos.line X.env=pure false)(hf:X.fn x=true\/X.env.scope.names.lookup x=some .local):
 GN X kd (.Assign [.Name x pos'] e pos) (zx z i fa):=by with_unfolding_all exact(vq (Od hN hi hx he hs hf) λD σ H h=>by
 obtain⟨F,B,c,as,o,R,e,q⟩:=h;obtain⟨⟨p,a⟩,d,e⟩:=bS_ (show(fa as).bind _=_ from e);obtain⟨⟨y,f⟩,j,e⟩:=bS_ e;obtain⟨k,e⟩:=zB e;cases e;refine⟨F,B,c,as,p,a,R,d,λv t l m n r g=>?_⟩;obtain⟨b,R2,s⟩:=Iu n r j k;exact q _ b m R2 (g.trans (Grow.less s)))
end
def XH(n:Nat)(ds:List (Bool×D)):AS:=ds.map (λx=>some (.lf x.1 x.2))++List.replicate (n-ds.length) none
def nk:Out->Option O
 | .nx _=>some (.lf true .non)
 | .rt o=>some o
 |_=>none
def xD(n m:Nat)(f:SF)(ds:List (Bool×D)):Option O:=if ds.length=m then(f (XH n ds)).bind nk else none
theorem RpA.get{K:zzA}{kd:KD}{F:Addr->Prop}{H:Hp}:∀{vs:List V}{ds:List (Bool×D)}{i:Nat}{x:Bool×D},RpA K kd F H vs ds->ds[i]? = some x->∃v,vs[i]? = some v/\Rp K kd (λa=>x.1=true/\F a) H v x.2
 |_,_,_,_,.nil,e=>by simp at e
 |_,_,0,_,.cons h _,e=>by simp at e;subst e;exact⟨_,rfl,h⟩
 |_,_,i+1,_,.cons _ r,e=>by
  obtain⟨v,b,c⟩:=RpA.get (i:=i) r (by simpa using e);exact⟨v,by simpa using b,c⟩
theorem SQ{K:zzA}{kd:KD}{F:Addr->Prop}{H:Hp}{N:List Str}{vs:List V}{ds:List (Bool×D)}(ht:∀a,F a->H a≠none)(rp:RpA K kd F H vs ds):
 Rel K kd F (λ_=>False) [] (λ_=>[]) (XH N.length ds) (L2.start N vs) H:=by
 have c:=rp.length;have f:∀a,¬Gw [] (λ_=>[]) a:=λa z=>z.elim (λy=>nomatch y) λ⟨_,y⟩=>nomatch y;refine⟨by unfold XH L2.start;simp[c],λ_ _=>rfl,λ_=>zyI,(λ_ _ _ z=>nomatch z),zyI,(λ_ _ _ z=>nomatch z),ht,(λ_ z=>z.elim),λa z=>(f a z).elim,λi s e=>?_⟩;unfold XH at e;unfold L2.start
 by_cases g:i<ds.length
 . rw[zyO (by rw[zzB];exact g),zzI]at e;obtain⟨d,h,b⟩:=zzX.mp e;subst b;obtain⟨v,j,k⟩:=rp.get h;rw[zyO (by rw[zzB,c];exact g),zzI,j];refine⟨v,rfl,.lf (k.less λa z=>?_)⟩
   rcases z with(z|z)|z
   . exact z
   . exact z.elim
   . exact(f a z).elim
 . rw[zyQ (by rw[zzB];omega)]at e;have:=zyA e;have b:s=none:=(List.mem_replicate.mp this).2;subst b;rfl
section
variable{P:Program}{w:World}{K:zzA}{mg:Str->Option Value}{base:Heap}
theorem Iz(q:oE K kd F H Q o)(ro:RetOk K kd F T H' v o)(g:Grow (Gw [] λ_=>[]) H (· ∈ T) H'):Q v H':=by
 have c:∀a,¬Gw [] (λ_=>[]) a:=λa z=>z.elim (λy=>nomatch y) λ⟨_,y⟩=>nomatch y;exact q v T H' ro.nd (λa m=>(g.own a m).resolve_left (c a)) (λb u h=>g.keep b u h (c b)) ro.tr ro.ro
theorem DB{kd:KD}{x qual:Str}{st:Stmt}{f:Addr}{fd:FuncData}{N ps:List Str}{k:Nat}{c:SF}(Fn:Fun K x qual st f fd)(S:FnScope N ps (ze st))
 (hb:∀(cdv:Value) (A:Around) (outer:List Env) (s:Shared) (H:Hp) (E:XK),Room k (A.deeper (envOfC qual (ze st) s.heap.objs.size f cdv))->N6 (LL Ko P w K mg base N qual (ze st) f cdv A outer s H E).nox kd (Zv st) c):
 FnOk P w K mg base Ko (k+1) f fd ps (Jl K kd (xD N.length ps.length c)):=by
 with_unfolding_all (
 refine Fn.ok S (λvs H Q E h=>?_) (λcdv A outer s H vs Q E hr h=>⟨_,hb cdv A outer s H E hr, ?_⟩)
 . obtain⟨F,ds,r,_,rp,e,_⟩:=h;unfold xD at e
   by_cases hl:ds.length=ps.length
   . rw[rp.length,hl]
   . rw[if_neg hl]at e;cases e
 . obtain⟨F,ds,r,ht,rp,e,q⟩:=h;unfold xD at e
   by_cases hl:ds.length=ps.length
   . rw[if_pos hl]at e;obtain⟨o,e1,e⟩:=bS_ e;refine⟨F,λ_=>False,λ_=>[],XH N.length ds,o,SQ ht rp,e1, ?_⟩;cases o with
     |nx as=>cases e;exact λσ' ad' H' R g=>Iz q (T:=[]) ⟨zyI,(λ_ m=>nomatch m),.lf .non⟩ (g.trans (Grow.less (λ_ z=>nomatch z)))
     |rt o=>cases e;exact λv T H' ro g=>Iz q ro g
     |bk=>cases e
     |ct=>cases e
   . rw[if_neg hl]at e;cases e)
end
abbrev wg:=Bool×D
abbrev GF:=wg->AS->Option AS
abbrev O8:=List wg->AS->Option AS
def kids(st:Bool)(ds:List D):List wg:=ds.map λd=>(zD d||st,d)
inductive RpI(K:zzA)(kd:KD)(F B G:Addr->Prop)(H:Hp):List V->List wg->Prop
 |nil:RpI K kd F B G H [] []
 |cons {v:V}{x:wg}{vs:List V}{ds:List wg}:Rp K kd (Lv F B G x.1) H v x.2->RpI K kd F B G H vs ds->RpI K kd F B G H (v::vs) (x::ds)
def og(K:zzA)(kd:KD)(S:List Nat)(g:GF):TG:=λv σ H Q=>∃F B ad as x as',Rel K kd F B [] ad as σ H/\Rp K kd (Lv F B (Gw [] ad) x.1) H v x.2/\g x as=some as'/\
 ∀σ' ad' H',Rel K kd F B [] ad' as' σ' H'->Grow (Gw [] ad) H (Gw [] ad') H'->(∀j,j ∉ S->σ'[j]? = σ[j]?)->Q σ' H'
def oy(K:zzA)(kd:KD)(S:List Nat)(g:O8):uQ:=λvs σ H Q=>∃F B ad as ds as',Rel K kd F B [] ad as σ H/\RpI K kd F B (Gw [] ad) H vs ds/\g ds as=some as'/\
 ∀σ' ad' H',Rel K kd F B [] ad' as' σ' H'->Grow (Gw [] ad) H (Gw [] ad') H'->(∀j,j ∉ S->σ'[j]? = σ[j]?)->Q σ' H'
@[irreducible] def AG(X:Cx)(kd:KD)(tg:Expr)(S:List Nat)(g:GF):Prop:=PG X tg (og X.K kd S g)
@[irreducible] def DP(X:Cx)(kd:KD)(tg:List Expr)(S:List Nat)(g:O8):Prop:=Dp X tg (oy X.K kd S g)
theorem uw(h:PG X e t)(k:∀v σ H Q,t' v σ H Q->t v σ H Q):PG X e t':=λa s σ H v u Q I r q=>h a s σ H v u Q I r (k v σ H Q q)
theorem BJ(h:Dp X e t)(k:∀v σ H Q,t' v σ H Q->t v σ H Q):Dp X e t':=λa s σ H v u Q I r q=>h a s σ H v u Q I r (k v σ H Q q)
def gN(i:Nat):GF:=λx as=>if i<as.length then some (as.set i (some (.lf x.1 x.2)))else none
def Pf:O8:=λds as=>match ds with | []=>some as|_::_=>none
def xx(g:GF)(gs:O8):O8:=λds as=>match ds with | []=>none|d::r=>(g d as).bind λas1=>gs r as1
def gT(n:Nat)(gs:O8):GF:=λx as=>match x.2 with
 | .tup ds=>if ds.length=n then gs (kids x.1 ds) as else none
 | .lst ds=>if ds.length=n then gs (kids x.1 ds) as else none
 |_=>none
section
variable{K:zzA}{kd:KD}{F B G G':Addr->Prop}{H H':Hp}
theorem RpI.length(h:RpI K kd F B G H vs ds):vs.length=ds.length:=by
 induction h with
 |nil=>rfl
 |cons _ _ a=>exact congrArg (· + 1) a
theorem RpI.grow(g:Grow G H G' H')(h:RpI K kd F B G H vs ds):RpI K kd F B G' H' vs ds:=by
 induction h with
 |nil=>exact .nil
 |cons h _ a=>exact .cons (Rp.grow g h) a
theorem RpI.get{vs:List V}{ds:List wg}{i:Nat}{x:wg}(h:RpI K kd F B G H vs ds)(e:ds[i]? = some x):∃v,vs[i]? = some v/\Rp K kd (Lv F B G x.1) H v x.2:=by
 induction h generalizing i with
 |nil=>simp at e
 |cons h r a=>
  cases i with
  |zero=>simp at e;subst e;exact⟨_,rfl,h⟩
  |succ i=>
   obtain⟨v,b,c⟩:=a (i:=i) (by simpa using e);exact⟨v,by simpa using b,c⟩
theorem Yq{st:Bool}{vs:List V}{ds:List D}(h:RpL K kd (Lv F B G st) H vs ds):RpI K kd F B G H vs (kids st ds):=
 RpL.ind (P:=λa b=>RpI K kd F B G H a (kids st b)) .nil (λ{v d a b} h _ c=>by
  refine .cons (x:=(zD d||st,d)) ?_ c;cases e:zD d with
  |true=>exact h.flat e
  |false=>exact h) h
end
section
variable{prog:Program}{w:World}{A:Around}{E:Value->Shared->Prop}{s:Shared}
theorem LA(hne:l≠it):∀(n i:Nat) (s:Shared) (Q:List Value->Shared->Prop),s.heap.IsListIter it l i->s.heap.IsList l items->i+n<=items.size->
 (∀h',h'.IsListIter it l (i+n)->Heap.SameBut it s.heap h'->Q ((items.toList.drop i).take n) {s with heap:=h'})->wpAny (model prog w) A (draw (.ref it) n) Q E s
 |0,i,s,Q,a,_,_,f=>by
  show wpAny _ _ (pure []) Q E s;exact zxE (by simpa using f s.heap a (Heap.SameBut.refl ..))
 |n+1,i,s,Q,a,h,j,f=>by
  have b:i<items.size:=by omega
  show wpAny _ _ (pyNext (.ref it) >>= _) Q E s;refine zxD (wpAny_pyNext_list_item a h (x:=items[i]) (by simp[b]) λo c d=>?_);refine zxD (zxJ (LA hne n (i+1) _ _ c (h.extBut d.extBut hne) (by omega) λk e g=>zxE ?_));have m:items.toList.drop i=items[i]::items.toList.drop (i+1):=by simp[zyP,b]
  have:=f k (by rw[show i+(n+1)=i+1+n by omega];exact e) (d.trans g);rw[m,List.take_succ_cons]at this;exact this
theorem MH(hh:A.handled=none)(ht:s.heap.IsList l items)
 (hn:targets.length=items.size) (hstar:targets.findIdx? (·.1)=none)
 (h:∀h',Heap.ExtBut s.heap.objs.size s.heap h'->wpAny (model prog w) A (assignInOrder (targets.map (·.2)) items.toList) Q E {s with heap:=h'}):
 wpAny (model prog w) A (unpack (.ref l) targets) Q E s:=by
 unfold unpack;rw[hn,hstar];refine zxD (zxJ ?_);have a:l≠s.heap.objs.size:=by obtain⟨o,k,_⟩:=ht;exact zzQ (zxG k)
 unfold unpackItems;refine zxD ?_;unfold notIterableAtAll;refine zxD (wpAny_specialOf ht.typeIs PySem.F.slot_list_iter.lookup ?_);refine zxE ?_;simp only[Bool.false_eq_true,if_false];refine zxD (zxJ (wpAny_pyIter_list ht ?_));refine zxD (zxJ (LA a items.size 0 _ _ ⟨_,zxH _ rfl,rfl,rfl⟩ (ht.push _) (by omega) λm c d=>?_));have f:List.take items.size (List.drop 0 items.toList)=items.toList:=by
  rw[List.drop_zero];exact List.take_of_length_le (by simp)
 rw[f];rw[if_neg (by simp)];have g:m.IsList l items:=(ht.push _).extBut d.extBut a;refine zxD (zxJ (wpAny_pyNext_list_end hh c g (by simp) λn i=>?_));simp only[Option.isSome_none,Bool.false_eq_true,if_false];exact zxE (h n λb o j e=>i b o j (d.extBut b o j (zxF _ e)))
end
section
variable{X:Cx}{kd:KD}{a b c e tg iter:Expr}{es:List Expr}{body:List Stmt}{fa fb:EF}{pos:Pos}{g:GF}{gs:O8}{f:SF}{ta:TF}{S S1 S2:List Nat}
def nV(K:zzA)(n:Nat)(t:uQ):TG:=λv σ H Q=>∃a xs,v = .ref a/\ZT K H a xs/\xs.length=n/\t xs σ H Q
theorem Ci(hc:X.calm=true)(h:Dp X es t)(hn:(assignEach es X.env).length=n)(hst:(assignEach es X.env).findIdx? (·.1)=none):PG X (.Tuple es k pos) (nV X.K n t):=by
 intro c s σ H v u Q I r d;obtain⟨a,g,i,j,l,d⟩:=d;subst i;cases r;obtain⟨m,f,p,y⟩:=I.list j;rw[assign_Tuple];refine zxD (wpAny_standAt (MH (I.ok.hd hc) p.isList (by simp[hn,<-l,f.length]) hst λq w=>?_));have x:Inv X c σ H {s with heap:=q}:=I.kept (t':=s.toks) λb o e=>w b o (zzQ (zxG e)) e;exact h c _ σ H g _ Q x (by simpa using f) d
theorem BX(hN:X.N.Nodup)(hi:X.N[i]? = some x)(hx:Loc X.env.scope x)(hf:X.fn x=true\/X.env.scope.names.lookup x=some .local):AG X kd (.Name x pos) [i] (gN i):=by with_unfolding_all exact(uw (Qm hN hi hx hf) λv σ H Q h=>by
 obtain⟨F,B,f,as,y,a,R,b,e,q⟩:=h;obtain⟨c,e⟩:=zB e;cases e;exact q _ _ H (R.put c (o:=.lf y.1 y.2) (.lf b)) (Grow.less Yv) λj d=>zzY (λz=>d (by rw[z];simp)))
theorem Sz:DP X kd [] [] Pf:=by with_unfolding_all exact(BJ NL λd σ H Q h=>by
 obtain⟨F,B,a,as,f,b,R,c,e,q⟩:=h;cases c with
 |nil=>cases e;exact⟨rfl,q σ a H R Grow.refl λ_ _=>rfl⟩
 |cons=>cases e)
theorem Mg(h1:AG X kd a S1 g)(h2:DP X kd es S2 gs)(hs:(assignEach (a::es) X.env).map (·.2)=assign a X.env::(assignEach es X.env).map (·.2)):DP X kd (a::es) (S1++S2) (xx g gs):=by with_unfolding_all exact(BJ (Xm h1 h2 hs) λx σ H Q h=>by
 obtain⟨F,B,l,as,y,c,R,m,e,q⟩:=h;cases m with
 |nil=>cases e
 |cons r n=>
  obtain⟨b,o,e⟩:=bS_ (show(g _ as).bind _=_ from e);refine⟨_,_,rfl,F,B,l,as,_,b,R,r,o,λA d C p i s=>?_⟩;exact⟨F,B,d,b,_,c,p,n.grow i,e,λt f u R2 v w=>q t f u R2 (i.trans v) λj k=>(w j λz=>k (zzL _ z)).trans (s j λz=>k (zzP _ z))⟩)
theorem C7{k n:Nat}(hc:X.calm=true)(h:DP X kd es S gs)(hn:(assignEach es X.env).length=n)(hst:(assignEach es X.env).findIdx? (·.1)=none):AG X kd (.Tuple es k pos) S (gT n gs):=by
 with_unfolding_all (
 intro pins s σ H v u Q I r hw;obtain⟨F,B,ad,as,⟨st,d⟩,as',R,rp,e,q⟩:=hw;cases d with
 |tup ds=>
  have e:(if ds.length=n then gs (kids st ds) as else none)=some as':=e
  by_cases hl:ds.length=n
  . rw[if_pos hl]at e;have go:∃a xs,v = .ref a/\Q2 X.K H a xs/\RpL X.K kd (Lv F B (Gw [] ad) st) H xs ds:=by
     cases rp with
     |tup n h r=>exact⟨_,_,rfl,.inl h,r⟩
     |tupK a b c e f r=>exact⟨_,_,rfl,.inr ⟨_,_,_,a,b,c,e,f⟩,r⟩
    obtain⟨a,xs,rfl,hs,rl⟩:=go;exact Be hc h hn hst pins s σ H _ u Q I r ⟨a,xs,rfl,hs,by rw[rl.length,hl],F,B,ad,as,_,as',R,Yq rl,e,q⟩
  . rw[if_neg hl]at e;cases e
 |lst ds=>
  have e:(if ds.length=n then gs (kids st ds) as else none)=some as':=e
  by_cases hl:ds.length=n
  . rw[if_pos hl]at e;cases rp with
    |lstK a b c r'=>exact Ci hc h hn hst pins s σ H _ u Q I r ⟨_,_,rfl,.inr ⟨_,_,_,a,rfl,rfl,rfl,b,c⟩,by rw[r'.length,hl],F,B,ad,as,_,as',R,Yq r',e,q⟩
    |lst n h' r'=>exact Ci hc h hn hst pins s σ H _ u Q I r ⟨_,_,rfl,.inl h',by rw[r'.length,hl],F,B,ad,as,_,as',R,Yq r',e,q⟩
  . rw[if_neg hl]at e;cases e
 |_=>cases e)
def Vq(as:AS)(r:RV):Option (wg×AS):=(Jj as r.frz).bind λx=>match x.1 with | .lf st d=>some ((st,d),x.2)|_=>none
theorem ZZ{K:zzA}{F B:Addr->Prop}{T:List Addr}{ad:Ad}{as as':AS}{σ:St}{H:Hp}{v:V}{r:RV}{x:wg}(R:Rel K kd F B T ad as σ H)(h:xh K kd F B T ad σ H v r)(e:Vq as r=some (x,as')):
 ∃ad',Rel K kd F B [] ad' as' σ H/\Rp K kd (Lv F B (Gw [] ad') x.1) H v x.2/\∀a,Gw [] ad' a->Gw T ad a:=by
 obtain⟨⟨o,c⟩,f,e⟩:=bS_ e;obtain⟨b,g,i,j⟩:=T8 R.drop (xh.drop R h) f;cases o with
 |lf l d=>
  cases e;refine⟨b,g, ?_,λa y=>Gw.drop a (j a y)⟩;have:=P7 i;exact this
 |nd k m=>cases e
def GJ(f:EF)(g:GF):SF:=λas=>(f as).bind λp=>(Vq p.2 p.1).bind λq=>(g q.1 q.2).bind λas'=>some (.nx as')
theorem uC(he:AE X kd e fa)(hg:AG X kd tg S g)(hs:swapsWithSole [tg] e pos.line X.env=pure false)(hw:swappedStores [tg] e X.env=pure none)(h1:(assignEach [tg] X.env).map (·.2)=[assign tg X.env]):
 GN X kd (.Assign [tg] e pos) (GJ fa g):=by with_unfolding_all exact(vq (ND he hg hs hw h1) λD σ H h=>by
 obtain⟨F,B,ad,as,o,R,e,q⟩:=h;obtain⟨⟨p,as1⟩,h1,e⟩:=bS_ (show(fa as).bind _=_ from e);obtain⟨⟨x,as2⟩,h2,e⟩:=bS_ e;obtain⟨as3,h3,e⟩:=bS_ e;cases e;refine⟨F,B,ad,as,p,as1,R,h1,λv T' ad' H' R' rv g1=>?_⟩;obtain⟨ad2,R2,rp,le⟩:=ZZ R' rv h2;exact⟨F,B,ad2,as2,_,as3,R2,rp,h3,λσ' ad' H' R' g' _=>q σ' ad' H' R' ((g1.trans (Grow.less le)).trans g')⟩)
structure ItOk(K:zzA)(kd:KD)(F B:Addr->Prop)(ad:Ad)(H:Hp)(J:It)(ds:List wg):Prop where
 all:∀(ad2:Ad) (H2:Hp),Grow (Gw [] ad) H (Gw [] ad2) H2->(∀st a,Lv F B (Gw [] ad2) st a->H2 a≠none)->∀i,(i<ds.length->J.go i H2)/\(ds.length<=i->J.stop i H2)/\
  ∀v H3,J.yld i H2 v H3->(∀b o,H2 b=some o->H3 b=some o)/\∀x,ds[i]? = some x->Rp K kd (Lv F B (Gw [] ad2) x.1) H3 v x.2
abbrev IF:=AS->Option (List wg×AS)
def lC(K:zzA)(kd:KD)(f:IF):TI:=λσ H R=>∃F B ad as ds as',Rel K kd F B [] ad as σ H/\f as=some (ds,as')/\
 ∀J ad' H',Rel K kd F B [] ad' as' σ H'->Grow (Gw [] ad) H (Gw [] ad') H'->ItOk K kd F B ad' H' J ds->R J H'
@[irreducible] def AI(X:Cx)(kd:KD)(tg iter:Expr)(f:IF):Prop:=PI X tg iter (lC X.K kd f)
def forL(g:GF)(f:SF):List wg->AS->Option Out
 | [],as=>some (.nx as)
 |d::r,as=>(g d as).bind λas1=>(f as1).bind λo=>match o with
  | .nx as'=>forL g f r as'
  | .ct as'=>forL g f r as'
  | .bk as'=>some (.nx as')
  | .rt r=>some (.rt r)
def vB(fi:IF)(g:GF)(f:SF):SF:=λas=>(fi as).bind λp=>forL g f p.1 p.2
theorem uD(hp:PassesOwn (model X.prog X.w) X.A X.env X.xe)(hc:X.calm=true)(hi:AI X kd tg iter fi)(hg:AG X kd tg S g)(hb:N6 X kd body f)(hs:∀x,foldedSetIterable iter X.env x=pure x):
 GN X kd (.For tg iter body [] pos) (vB fi g f):=by with_unfolding_all exact(vq (FI hp hc hi hg hb hs) λD σ H h=>by
 obtain⟨F,B,ad,as,o,R,e,q⟩:=h;obtain⟨⟨ds,as1⟩,h1,e⟩:=bS_ (show(fi as).bind _=_ from e);refine⟨F,B,ad,as,ds,as1,R,h1,λJ ad1 H1 R1 g1 it=>?_⟩;refine⟨λi m σ2 H2=>m+i=ds.length/\∃ad2 as2,Rel X.K kd F B [] ad2 as2 σ2 H2/\Grow (Gw [] ad1) H1 (Gw [] ad2) H2/\forL g f (ds.drop i) as2=some o,⟨ds.length,rfl,ad1,as1,R1,Grow.refl,e⟩, ?_⟩
 rintro i m σ2 H2 ⟨hm,ad2,as2,R2,g2,e2⟩
 obtain⟨k1,k2,k3⟩:=it.all ad2 H2 g2 R2.trk i
 by_cases hi:i<ds.length
 . refine .inr ⟨k1 hi,λσ3 H3=>∃ad3 as3,Rel X.K kd F B [] ad3 as3 σ3 H3/\Grow (Gw [] ad1) H1 (Gw [] ad3) H3/\forL g f (ds.drop (i+1)) as3=some o,λσ3 H3 ⟨ad3,as3,R3,g3,e3⟩=>⟨m-1,by omega,by omega,ad3,as3,R3,g3,e3⟩,λv H3 hy=>?_⟩;obtain⟨kp,rp⟩:=k3 v H3 hy;rw[zyP hi]at e2;obtain⟨as3,e3,e2⟩:=bS_ (show(g _ as2).bind _=_ from e2);obtain⟨o3,e4,e2⟩:=bS_ e2;obtain⟨R3,g3⟩:=R2.more kp;refine⟨F,B,ad2,as2,_,as3,R3,rp _ (zzE hi),e3,λσ4 ad4 H4 R4 g4 _=>?_⟩;refine⟨F,B,ad4,as3,o3,R4,e4, ?_⟩;have gg:=(g2.trans g3).trans g4;cases o3 with
   |nx as5=>exact λσ5 ad5 H5 R5 g5=>⟨ad5,as5,R5,gg.trans g5,e2⟩
   |ct as5=>exact λσ5 ad5 H5 R5 g5=>⟨ad5,as5,R5,gg.trans g5,e2⟩
   |bk as5=>
    cases e2;exact λσ5 ad5 H5 R5 g5=>q σ5 ad5 H5 R5 (g1.trans (gg.trans g5))
   |rt r=>
    cases e2;exact λv T H5 ro g5=>q v T H5 ro (g1.trans (gg.trans g5))
 . refine .inl ⟨k2 (by omega), ?_⟩;rw[List.drop_eq_nil_of_le (by omega)]at e2;cases e2;exact q σ2 ad2 H2 R2 (g1.trans g2))
def Jh(c:TF)(f:SF):Nat->AS->Option Out
 |0,_=>none
 |n+1,as=>(c as).bind λp=>if p.1=true then(f p.2).bind λo=>match o with
  | .nx as'=>Jh c f n as'
  | .ct as'=>Jh c f n as'
  | .bk as'=>some (.nx as')
  | .rt r=>some (.rt r)else some (.nx p.2)
theorem Cq(hp:PassesOwn (model X.prog X.w) X.A X.env X.xe)(hc:AT X kd c ta)(hb:N6 X kd body f):GN X kd (.While c body [] pos) (Jh ta f n):=by with_unfolding_all exact(vq (Og hp hc hb) λD σ H h=>by
 obtain⟨F,B,ad,as,o,R,e,q⟩:=h;refine⟨λm σ2 H2=>∃ad2 as2,Rel X.K kd F B [] ad2 as2 σ2 H2/\Grow (Gw [] ad) H (Gw [] ad2) H2/\Jh ta f m as2=some o,⟨n,ad,as,R,Grow.refl,e⟩, ?_⟩
 rintro m σ2 H2 ⟨ad2,as2,R2,g2,e2⟩
 cases m with
 |zero=>cases e2
 |succ m=>
  obtain⟨⟨p,as3⟩,e3,e2⟩:=bS_ (show(ta as2).bind _=_ from e2);refine⟨F,B,ad2,as2,p,as3,R2,e3,λad3 H3 R3 g3=>?_⟩;cases p with
  |true=>
   rw[if_pos rfl]at e2 ⊢;obtain⟨o3,e4,e2⟩:=bS_ e2;refine⟨λσ3 H3=>∃ad3 as3,Rel X.K kd F B [] ad3 as3 σ3 H3/\Grow (Gw [] ad) H (Gw [] ad3) H3/\Jh ta f m as3=some o,λσ3 H3 h=>⟨m,by omega,h⟩,F,B,ad3,as3,o3,R3,e4, ?_⟩;have gg:=g2.trans g3;cases o3 with
   |nx as5=>exact λσ5 ad5 H5 R5 g5=>⟨ad5,as5,R5,gg.trans g5,e2⟩
   |ct as5=>exact λσ5 ad5 H5 R5 g5=>⟨ad5,as5,R5,gg.trans g5,e2⟩
   |bk as5=>
    cases e2;exact λσ5 ad5 H5 R5 g5=>q σ5 ad5 H5 R5 (gg.trans g5)
   |rt r=>
    cases e2;exact λv T H5 ro g5=>q v T H5 ro (gg.trans g5)
  |false=>
   rw[if_neg zyU]at e2 ⊢;cases e2;exact q σ2 ad3 H3 R3 (g2.trans g3))
def Th:wg->Option (List wg)
 |(st,.lst ds)=>some (kids st ds)
 |(st,.tup ds)=>some (kids st ds)
 |_=>none
def Ej(f:EF):IF:=λas=>(f as).bind λp=>(Vq p.2 p.1).bind λq=>(Th q.1).bind λds=>some (ds,q.2)
theorem BV{K:zzA}{F B:Addr->Prop}{ad:Ad}{H:Hp}{a:Addr}{vs:List V}{ds:List wg}(hs:∀(ad3:Ad) (H3:Hp),Grow (Gw [] ad) H (Gw [] ad3) H3->ZT K H3 a vs)(r:RpI K kd F B (Gw [] ad) H vs ds):ItOk K kd F B ad H (ud K a) ds:=⟨λc j h _ i=>by
 have b:=hs c j h;have e:=r.grow h;refine⟨λf=>?_,λf=>⟨_,b,by rw[r.length];exact f⟩,λv o k=>?_⟩
 . obtain⟨u,g,_⟩:=r.get (zzE f);exact⟨_,u,b,g⟩
 . obtain⟨rfl,l⟩:=k;refine⟨λ_ _ z=>z,λd m=>?_⟩;obtain⟨u,g,n⟩:=e.get m;have:=l _ b;rw[g]at this;cases this;exact n⟩
theorem sV{K:zzA}{F B:Addr->Prop}{ad:Ad}{H:Hp}{a:Addr}{vs:List V}{ds:List wg}(hs:∀(ad3:Ad) (H3:Hp),Grow (Gw [] ad) H (Gw [] ad3) H3->Q2 K H3 a vs)(r:RpI K kd F B (Gw [] ad) H vs ds):ItOk K kd F B ad H (oq K a) ds:=⟨λc j h _ i=>by
 have b:=hs c j h;have e:=r.grow h;refine⟨λf=>?_,λf=>⟨_,b,by rw[r.length];exact f⟩,λv o k=>?_⟩
 . obtain⟨u,g,_⟩:=r.get (zzE f);exact⟨_,u,b,g⟩
 . obtain⟨rfl,l⟩:=k;refine⟨λ_ _ z=>z,λd m=>?_⟩;obtain⟨u,g,n⟩:=e.get m;have:=l _ b;rw[g]at this;cases this;exact n⟩
theorem u0(he:AE X kd e fa):AI X kd tg e (Ej fa):=by
 with_unfolding_all (
 intro pins s σ H R I h;obtain⟨F,B,ad,as,ds,as',Rl,e,q⟩:=h;obtain⟨⟨p,as1⟩,h1,e⟩:=bS_ (show(fa as).bind _=_ from e);obtain⟨⟨⟨st,x⟩,as2⟩,h2,e⟩:=bS_ e;obtain⟨ys,h3,e⟩:=bS_ e;cases e;cases x with
 |lst xs=>
  cases h3;refine QU he pins s σ H R I ⟨F,B,ad,as,p,as1,Rl,h1,λv T1 ad1 H1 R1 rv1 g1=>?_⟩;obtain⟨ad2,R2,rp,le⟩:=ZZ R1 rv1 h2;cases rp with
  |lst hn hr rl=>exact⟨_,rfl,⟨_,.inl hr⟩,q _ ad2 H1 R2 (g1.trans (Grow.less le)) (BV (λad3 H3 g3=>.inl (v8 g3 (λz=>hn (.inr z)) hr)) (Yq rl))⟩
  |lstK a b c rl=>exact⟨_,rfl,⟨_,.inr ⟨_,_,_,a,rfl,rfl,rfl,b,c⟩⟩,q _ ad2 H1 R2 (g1.trans (Grow.less le)) (BV (λad3 H3 g3=>.inr ⟨_,_,_,a,rfl,rfl,rfl,b,c⟩) (Yq rl))⟩
 |tup xs=>
  cases h3;refine Ft he pins s σ H R I ⟨F,B,ad,as,p,as1,Rl,h1,λv T1 ad1 H1 R1 rv1 g1=>?_⟩;obtain⟨ad2,R2,rp,le⟩:=ZZ R1 rv1 h2;have go:∃a ys,v = .ref a/\(∀(ad3:Ad) (H3:Hp),Grow (Gw [] ad2) H1 (Gw [] ad3) H3->Q2 X.K H3 a ys)/\RpL X.K kd (Lv F B (Gw [] ad2) st) H1 ys xs:=by
   cases rp with
   |tup n h r=>exact⟨_,_,rfl,λad3 H3 g3=>.inl (v8 g3 (λz=>n (.inr z)) h),r⟩
   |tupK a b c e f r=>exact⟨_,_,rfl,λad3 H3 g3=>.inr ⟨_,_,_,a,b,c,e,f⟩,r⟩
  obtain⟨a,ys,rfl,hs,rl⟩:=go;exact⟨_,rfl,⟨_,hs ad2 H1 Grow.refl⟩,q _ ad2 H1 R2 (g1.trans (Grow.less le)) (sV hs (Yq rl))⟩
 |_=>cases h3)
def yP(lo:Int)(n:Nat):List wg:=(List.range n).map λ(i:Nat)=>(true,D.int (lo+(i:Int)))
theorem C0{K:zzA}{F B:Addr->Prop}{ad:Ad}{H:Hp}(lo:Int)(n:Nat):ItOk K kd F B ad H (rN lo n) (yP lo n):=⟨λe h g _ i=>by
 have c:(yP lo n).length=n:=by unfold yP;simp
 refine⟨λa=>by rw[c]at a;exact a,λa=>by rw[c]at a;exact a,λv j f=>?_⟩;obtain⟨rfl,rfl⟩:=f;refine⟨λ_ _ z=>z,λd b=>?_⟩;have a:i<n:=by rw[<-c];exact(zzG.mp b).1
 unfold yP at b;rw[zzI,List.getElem?_range a]at b;cases b;exact .int _⟩
def pX:List D->Option D
 | [x]=>some x
 |_=>none
theorem Dj(h:pX ds=some d):ds=[d]:=by
 cases ds with
 |nil=>cases h
 |cons x r=>
  cases r with
  |nil=>cases h;rfl
  |cons _ _=>cases h
def ym(ds:List D):Option (List wg):=((pX ds).bind Uu).bind λj=>if -(2 ^ 62)<=j/\j<2 ^ 62 then some (yP 0 j.toNat)else none
theorem B_(h:ym ds=some xs):∃j,ds=[.int j]/\(if -(2 ^ 62)<=j/\j<2 ^ 62 then some (yP 0 j.toNat)else none)=some xs:=by
 obtain⟨j,a,h⟩:=bS_ h;obtain⟨d,b,a⟩:=bS_ a;cases Nu a;exact⟨j,Dj b,h⟩
def JC:List D->Option (List wg)
 | [.int i,.int j]=>if -(2 ^ 62)<=i/\i<2 ^ 62 /\ -(2 ^ 62)<=j/\j<2 ^ 62 then some (yP i (j-i).toNat)else none
 |_=>none
def yi(fr:AF)(h:List D->Option (List wg)):IF:=λas=>(fr as).bind λp=>(views p.2 p.1).bind λds=>(h ds.1).bind λxs=>some (xs,p.2)
theorem HE(hg:Gl X "range")(hm:X.mg "range"=none)(ha:AA X kd [a] fr)(hs:starEach [a] X.env=[(false,eval a X.env)]):AI X kd tg (.Call (.Name "range" p) [a] [] pos) (yi fr ym):=by
 with_unfolding_all (
 intro b s σ H R I h;obtain⟨F,B,k,as,A,l,m,e,q⟩:=h;obtain⟨⟨n,o⟩,r,e⟩:=bS_ (show(fr as).bind _=_ from e);obtain⟨⟨C,D⟩,t,e⟩:=bS_ e;obtain⟨E,c,e⟩:=bS_ e;cases e;obtain⟨j,rfl,c⟩:=B_ c
 . obtain⟨g,u⟩:=zB c;cases u;refine Ke hg hm ha hs b s σ H R I ⟨F,B,k,as,n,_,m,r,λG d v i f w=>?_⟩;have x:=Wh i f t;cases x with
   |cons y z=>
    cases z;cases y;exact⟨j,rfl,g.1,g.2,q _ d v i w (C0 0 _)⟩)
theorem S5(hg:Gl X "range")(hm:X.mg "range"=none)(ha:AA X kd [a,b] fr)(hs:starEach [a,b] X.env=[(false,eval a X.env),(false,eval b X.env)])(hs2:starEach [b] X.env=[(false,eval b X.env)]):AI X kd tg (.Call (.Name "range" p) [a,b] [] pos) (yi fr JC):=by
 with_unfolding_all (
 intro c s σ H R I h;obtain⟨F,B,n,as,o,r,t,e,q⟩:=h;obtain⟨⟨u,v⟩,w,e⟩:=bS_ (show(fr as).bind _=_ from e);obtain⟨⟨x,J⟩,d,e⟩:=bS_ e;obtain⟨K,f,e⟩:=bS_ e;cases e
 match x,f,d with
 | [.int i,.int j],f,d=>
  obtain⟨y,z⟩:=zB (show(if -(2 ^ 62)<=i/\i<2 ^ 62 /\ -(2 ^ 62)<=j/\j<2 ^ 62 then some (yP i (j-i).toNat)else none)=some o from f);cases z;refine Hj hg hm ha hs hs2 c s σ H R I ⟨F,B,n,as,u,_,t,w,λL g A m k C=>?_⟩;have D:=Wh m k d;cases D with
  |cons E l=>
   cases l with
   |cons l G=>
    cases G;cases E;cases l;exact⟨i,j,rfl,y,q _ g A m C (C0 i _)⟩)
theorem Rel.mut{K:zzA}{F B:Addr->Prop}{T fo:List Addr}{ad:Ad}{as:AS}{σ:St}{H:Hp}{i:Nat}{l:Addr}{fp fp':List Addr}{n:O}{u:HO}(R:Rel K kd F B T ad as σ H)(hi:i<as.length)(hl:ad i=l::fp)(hs:σ[i]? = some (some (.ref l)))
 (hsub:∀a ∈ fp'++fo,a ∈ fp++T) (hnd:(fp'++fo).Nodup) (hu:H l≠none)
 (ro:∀(H':Hp) (G':Addr->Prop),H' l=some u->Grow (Gw T ad) H G' H'->(∀a ∈ fp',∀w,H a=some w->H' a=some w)->wK K kd F B G' H' (.ref l) n (l::fp')):
 Rel K kd F B fo (vO ad i (l::fp')) (as.set i (some n)) σ (upd H l u)/\Grow (Gw T ad) H (Gw fo (vO ad i (l::fp'))) (upd H l u):=by
 have hli:l ∈ ad i:=by rw[hl];exact zzF
 have lT:l ∉ T:=R.dis i l hli;have lfp:l ∉ fp:=by have:=R.nd i;rw[hl]at this;exact(zzW.mp this).1
 have lsub:∀a ∈ fp'++fo,a≠l:=λa m e=>by
  subst e
  rcases zzM.mp (hsub _ m)with z|z
  . exact lfp z
  . exact lT z
 have sub:∀a ∈ fp'++fo,Gw T ad a:=λa m=>by
  rcases zzM.mp (hsub a m)with z|z
  . exact .inr ⟨i,by rw[hl];exact zzD _ z⟩
  . exact .inl z
 have gsub:∀a,Gw fo (vO ad i (l::fp')) a->Gw T ad a:=λa z=>by
  rcases z with z|⟨j,z⟩
  . exact sub a (zzL _ z)
  . by_cases e:j=i
    . subst e;rw[zO]at z
      rcases zzC.mp z with z|z
      . subst z;exact .inr ⟨j,hli⟩
      . exact sub a (zzP _ z)
    . rw[zR e]at z;exact .inr ⟨j,z⟩
 have g:Grow (Gw T ad) H (Gw fo (vO ad i (l::fp'))) (upd H l u):=⟨λb w h n=>by rw[zE (λe=>n (by subst e;exact .inr ⟨i,hli⟩))];exact h,λb z=>.inl (gsub b z)⟩;have kn:∀a,H a≠none->upd H l u a≠none:=λa z=>by
  by_cases e:a=l
  . subst e;rw[zV];simp
  . rw[zE e];exact z
 obtain⟨hnd1,hnd2,hnd3⟩:=zxC.mp hnd;have inT:∀j a,j≠i->a ∈ ad j->a ∈ fp'++fo->False:=λj a hj m m'=>by
  rcases zzM.mp (hsub a m')with z|z
  . exact hj (R.inj j i a m (by rw[hl];exact zzD _ z))
  . exact R.dis j a m z
 refine⟨⟨by rw[zzU];exact R.len,λj hj=>?_,λj=>?_,λj k a h1 h2=>?_,hnd2,λj a h1 h2=>?_,λa z=>kn a (R.ftr a z),λa z=>?_,λa z=>⟨kn a (R.gtr a (gsub a z)).1,(R.gtr a (gsub a z)).2⟩,λj s e=>?_⟩,g⟩
 . rw[zzU]at hj;rw[zR (by omega)];exact R.out j hj
 . by_cases e:j=i
   . subst e;rw[zO];exact zzW.mpr ⟨λm=>lsub l (zzP _ m) rfl,hnd1⟩
   . rw[zR e];exact R.nd j
 . by_cases e:j=i
   . subst e
     by_cases e':k=j
     . exact e'.symm
     . rw[zO]at h1;rw[zR e']at h2
       rcases zzC.mp h1 with z|z
       . subst z;exact R.inj j k a hli h2
       . exact(inT k a e' h2 (zzP _ z)).elim
   . rw[zR e]at h1
     by_cases e':k=i
     . subst e';rw[zO]at h2
       rcases zzC.mp h2 with z|z
       . subst z;exact R.inj j k a h1 hli
       . exact(inT j a e h1 (zzP _ z)).elim
     . rw[zR e']at h2;exact R.inj j k a h1 h2
 . by_cases e:j=i
   . subst e;rw[zO]at h1
     rcases zzC.mp h1 with z|z
     . subst z;exact lsub a (zzL _ h2) rfl
     . exact hnd3 a z a h2 rfl
   . rw[zR e]at h1;exact inT j a e h1 (zzL _ h2)
 . obtain⟨b1,b2,b3⟩:=R.btr a z;exact⟨kn a b1,b2,λy=>b3 (gsub a y)⟩
 . by_cases q:j=i
   . subst q;rw[zyJ hi]at e;cases e;rw[zO];refine⟨_,hs,ro _ _ zV g λa m w h=>?_⟩;rw[zE (lsub a (zzP _ m))];exact h
   . rw[zzY (Ne.symm q)]at e;rw[zR q];refine(R.sl j s e).grow g λa m w h=>?_;rw[zE (λz=>q (R.inj j i l (by rw[<-z];exact m) hli))];exact h
abbrev MG:=List O->List O->Option (List O×O)
def yt(i:Nat)(fr:DF)(g:MG):EF:=λas=>match as[i]? with
 |some (some (.nd .ls _))=>(fr as).bind λp=>match p.2[i]? with
  |some (some (.nd .ls os))=>(g os p.1).bind λz=>some (.ow z.2,p.2.set i (some (.nd .ls z.1)))
  |_=>none
 |_=>none
def qF(X:Cx)(kd:KD)(r:V->List V->Hp->VK->Prop)(g:MG):Prop:=
 ∀(F B G:Addr->Prop) (l:Addr) (vs ws:List V) (os es os':List O) (o:O) (fp fq:List Addr) (H:Hp) (Q:VK),H l=some (.lst vs)->xt X.K kd F B G H vs os fp->xt X.K kd F B G H ws es fq->(fp++fq).Nodup->g os es=some (os',o)->
  (∀v vs' fp' fo,xt X.K kd F B G H vs' os' fp'->wK X.K kd F B G H v o fo->(∀a ∈ fp'++fo,a ∈ fp++fq)->(fp'++fo).Nodup->Q v (upd H l (.lst vs')))->r (.ref l) ws H Q
theorem qu{i:Nat}{fr:DF}{g:MG}{r:V->List V->Hp->VK->Prop}(hr:qF X kd r g)
 {σ:St}{H:Hp}{Q:VK}(h:al X.K kd (yt i fr g) σ H Q):oI X.K "list" r (vm i) (oP X.K kd fr) σ H Q:=by
 obtain⟨F,B,U,as,z,as',R,e,q⟩:=h;unfold yt at e;cases k:as[i]? with
 |none=>rw[k]at e;cases e
 |some a0=>
  rw[k]at e
  match a0,e,k with
  |some (.nd .ls os0),e,k=>
   obtain⟨⟨G,s⟩,h1,e⟩:=bS_ (show(fr as).bind _=_ from e);obtain⟨v0,f,t⟩:=R.sl i _ k;generalize W:U i=fp0 at t;cases t with
   |ls I rl0=>
   rename_i l vs0 Y;refine⟨_,f,.inl ⟨rfl,_,.inl (.inl I)⟩,F,B,U,as,G,s,R,h1,λws J x L j M g1=>?_⟩;cases p:s[i]? with
   |none=>rw[p]at e;cases e
   |some a2=>
    rw[p]at e
    match a2,e,p with
    |some (.nd .ls Z),e,p=>
     obtain⟨⟨y,o⟩,h3,e⟩:=bS_ (show(g Z G).bind _=_ from e);cases e;obtain⟨v1,A,C⟩:=j.sl i _ p;rw[f]at A;cases A;generalize c:x i=fp1 at C;cases C with
     |ls hH rl=>
     rename_i vs fp;have N:(fp++J).Nodup:=zxC.mpr ⟨by have:=j.nd i;rw[c]at this;exact(zzW.mp this).2,j.tnd,λa m b m' e=>by
          subst e;exact j.dis i a (by rw[c];exact zzD _ m) m'⟩
     refine hr F B (Gw J x) _ vs ws Z G y o fp J L Q hH rl M N h3 λv D fp' fo O P d E=>?_;obtain⟨R3,g3⟩:=j.mut (n:=.nd .ls y) (u:=.lst D) (zzG.mp p).1 c f d E (by rw[hH];simp) λH' G' S gr kp=>.ls S (xt.grow gr kp O);have T:∀a ∈ fo,∀w,L a=some w->upd L l (.lst D) a=some w:=λa m w h=>by
          rw[zE (λe=>?_)]
          . exact h
          . subst e
            rcases zzM.mp (d _ (zzL _ m))with z|z
            . have:=j.nd i;rw[c]at this;exact(zzW.mp this).1 z
            . exact j.dis i _ (by rw[c];exact zzF) z
     exact q v fo _ _ R3 (wK.grow g3 T P) (g1.trans g3)
end
end PF
end
section
set_option exponentiation.threshold 5000
namespace PF
open PySem PySem.Spec PyProof.Rows L2
section
variable{K:zzA}{kd:KD}{O:Addr->Prop}{H:Hp}{Q:VK}
theorem zX(q:RQ K kd O H Q (.im d))(r:Rp K kd O H v d):Q v H:=q v H (λ_ _ z=>z) r
theorem BL(hp:H p=none)(r:RpL K kd O H vs ds):RpL K kd (Vz O (· = p)) (upd H p o) vs ds:=
 RpL.grow (F:=O) (W:=λ_=>False) ⟨λb u q _=>by rw[zE (yh q hp)];exact q,λb z=>.inr (by rw[z];exact hp)⟩ (r.less λa z=>z.elim id False.elim)
theorem xY{p:Addr}{o:HO}(hp:H p=none):∀b u,H b=some u->upd H p o b=some u:=λb u q=>by rw[zE (yh q hp)];exact q
theorem XM{vs:List V}{ds:List D}(q:RQ K kd O H Q (.fl ds))(r:RpL K kd O H vs ds):∀p,H p=none->Q (.ref p) (upd H p (.lst vs)):=λp hp=>
 q p vs _ hp (xY hp) zV (BL hp r)
theorem TJ{vs:List V}{ds:List D}(ht:∀a,O a->H a≠none)(q:RQ K kd O H Q (.im (.tup ds)))(r:RpL K kd O H vs ds):∀p,H p=none->Q (.ref p) (upd H p (.tup vs)):=λp hp=>
 q _ _ (xY hp) (.tup (λz=>ht p z hp) (.inl zV) ((BL hp r).less λa z=>.inl z))
end
def big:Nat:=2 ^ 4000
theorem MP(h:i.natAbs<big):Builtin.Int.intBits i<=2 ^ 20:=by
 unfold Builtin.Int.intBits
 split
 . exact Nat.zero_le _
 . have:i.natAbs.log2<4000:=by
    rcases Nat.eq_zero_or_pos i.natAbs with a|b
    . rw[a];decide
    . exact(Nat.log2_lt (Nat.ne_of_gt b)).mpr h
   have e:(2:Nat) ^ 20=1048576:=by decide
   omega
theorem Di{i:Int}(h:i.natAbs<2 ^ 64):Builtin.Int.intBits i<=64:=by
 unfold Builtin.Int.intBits
 split
 . exact Nat.zero_le _
 . rcases Nat.eq_zero_or_pos i.natAbs with h0|hp
   . rw[h0];decide
   . exact(Nat.log2_lt (Nat.ne_of_gt hp)).mpr h
def Dh(f:Int->Int->Option R0)(x y:D):Option R0:=(Uu x).bind λi=>(Uu y).bind λj=>f i j
def ny(x y:D):Option R0:=match x with
 | .int i=>(Uu y).bind λj=>some (.im (.int (i+j)))
 | .str x=>(oB y).bind λy=>if x.length+y.length<=sizeLine then some (.im (.str (x++y)))else none
 | .lst xs=>(H_ y).bind λys=>if xs.length+ys.length<=sizeLine then some (.fl (xs++ys))else none
 | .tup xs=>(n_ y).bind λys=>if xs.length+ys.length<=sizeLine then some (.im (.tup (xs++ys)))else none
 |_=>none
def nU(x y:D):Option R0:=match x with
 | .int i=>(Uu y).bind λj=>if(i.natAbs<big/\j.natAbs<big)\/j.natAbs<2 ^ 64 then some (.im (.int (i*j)))else none
 | .lst xs=>(Uu y).bind λk=>if -(2 ^ 63)<=k/\k<2 ^ 63/\xs.length*k.toNat<=sizeLine then some (.fl (List.replicate k.toNat xs).flatten)else none
 | .tup xs=>(Uu y).bind λk=>if 1<=k/\k<2 ^ 63/\xs.length≠0/\xs.length*k.toNat<=sizeLine then some (.im (.tup (List.replicate k.toNat xs).flatten))else none
 |_=>none
def Wl(o:Operator)(x y:D):Option R0:=match o with
 | .Add=>ny x y
 | .Sub=>Dh (λi j=>some (.im (.int (i-j)))) x y
 | .Mult=>nU x y
 | .FloorDiv=>Dh (λi j=>if 0<j/\j.natAbs<big then some (.im (.int (i/j)))else none) x y
 | .Mod=>Dh (λi j=>if 0<j then some (.im (.int (i%j)))else none) x y
 | .Pow=>Dh (λi j=>if 0<=j/\j<=1000000/\i.natAbs<2 ^ 64 then some (.im (.int (i ^ j.toNat)))else none) x y
 |_=>none
theorem YH{K:zzA}{kd:KD}{O:Addr->Prop}{H:Hp}{v:V}{d:D}{i:Int}(h:Vw K kd O H v d)(e:Uu d=some i):d = .int i/\v = .int i:=by
 cases h with
 |int j=>cases e;exact⟨rfl,rfl⟩
 |_=>cases e
theorem sH{K:zzA}{kd:KD}{O:Addr->Prop}{H:Hp}{v:V}{d:D}{i:Str}(h:Vw K kd O H v d)(e:oB d=some i):d = .str i/\v = .str i:=by
 cases h with
 |str j=>cases e;exact⟨rfl,rfl⟩
 |_=>cases e
theorem YN{K:zzA}{kd:KD}{O:Addr->Prop}{H:Hp}{v w:V}{d e:D}{f:Int->Int->Option R0}{r:R0}(vx:Vw K kd O H v d)(vy:Vw K kd O H w e)(h:Dh f d e=some r):∃i j,v = .int i/\w = .int j/\f i j=some r:=by
 obtain⟨i,a,h⟩:=bS_ (show(Uu d).bind _=_ from h);obtain⟨j,b,h⟩:=bS_ h;exact⟨i,j,(YH vx a).2,(YH vy b).2,h⟩
section
variable{X:Cx}{kd:KD}
theorem Jw:Q3 X (binaryOp .Add) (λx y H Q=>∃l b xs zs,x = .ref l/\y = .ref b/\Oq X.K H l xs/\Oq X.K H b zs/\xs.length+zs.length<=sizeLine/\∀p,H p=none->Q (.ref p) (upd H p (.lst (xs++zs)))):=by
 intro d s σ H x y v u Q I g i h;obtain⟨l,b,w,A,rfl,rfl,j,k,B,q⟩:=h;cases g;cases i;obtain⟨z,c,n,r,e⟩:=Bc I j;obtain⟨C,a,D,f,m⟩:=Bc I k;have E:=r.length;have o:=f.length;refine PySem.P.add_list e m ?_ (by rw[zzH,zzH];omega);have t:c.toArray++a.toArray=(c++a).toArray:=by simp
 rw[t];exact⟨.ref _,_,I.lnew (t':=s.toks) (r.append f) (by rw[zzJ];omega),rfl,q _ I.fresh⟩
theorem Jp:Q3 X (binaryOp .Mult) (λx y H Q=>∃l k xs,x = .ref l/\y = .int k/\Oq X.K H l xs /\ -(2 ^ 63)<=k/\k<2 ^ 63/\xs.length*k.toNat<=sizeLine/\
 ∀p,H p=none->Q (.ref p) (upd H p (.lst (List.replicate k.toNat xs).flatten))):=by
 intro w s σ H x y v u Q I B C h;obtain⟨l,k,N,rfl,rfl,D,E,G,A,q⟩:=h;cases B;obtain⟨t,rfl⟩:=C;obtain⟨z,b,n,r,e⟩:=Bc I D;have J:=r.length;have d:b.toArray.size*k.toNat<=sizeLine:=by rw[zzH,<-J];exact A
 have f:¬b.toArray.size*k.toNat > (2 ^ 63-1)/8:=by
  have:(sizeLine:Nat)<=(2 ^ 63-1)/8:=by decide
  omega
 have g:¬(!Builtin.List.listFitsIndex k)=true:=by
  rw[fitsIndex_both E G];exact zyU
 have c:¬Builtin.List.listTooLong (b.toArray.size*k.toNat)=true:=by
  rw[ER d];exact zyU
 have i:List.foldl (λj o=>j++o) #[] (List.replicate (if b.toArray.isEmpty=true then 0 else k.toNat) b.toArray)=(List.replicate k.toNat b).flatten.toArray:=by
  have L:∀m:Nat,List.foldl (λj o=>j++o) #[] (List.replicate m b.toArray)=(List.replicate m b).flatten.toArray:=λm=>by
   have:=foldl_rep b m [];rw[List.nil_append]at this;exact this
  rw[L];cases b with
  |nil=>simp
  |cons a O=>rw[if_neg (by simp)]
 refine wpAny_binaryOp_repeat_ref (T:="list") (U:="int") (by decide) ⟨_,e,rfl⟩ (λM=>typeIs_int M k t) noFill_list_mul F.fills_int_mul F.slot_int_rmul repeat_list F.slot_int_index.lookup
  (call_meets F.slot_int_rmul (typeIs_int s k t) F.entry_int_rmul (F.args_int_rmul_2 _ _) (int___rmul___int_list k t l b.toArray n)
   ⟨e,rfl,⟨_,e,rfl⟩,call_meets F.slot_list_mul ⟨_,e,rfl⟩ F.entry_list_mul (F.args_list_mul_2 _ _) (AutoListH.list___mul___list_int_3 l b.toArray n k t g f c) ⟨e, ?_⟩⟩)
 rw[i];refine⟨.ref _,_,I.lnew (t':=s.toks) (r.rep k.toNat) ?_,rfl,q _ I.fresh⟩;rw[len_rep,Nat.mul_comm];exact A
theorem tuple_addW0(l b:Addr)(items items2:Array Value)(n n2:Nat)(dd dd2:Option Addr)(sl sl2:Array (Option Value))(h0:items.isEmpty=true):
 Meets (Builtin.«tuple.__add__» {pos:=[.ref l,.ref b]}) (λ_ R s=>s.heap.get? l=some {cls:=.type "tuple",dict:=dd,data:=.seq items n,slots:=sl}/\s.heap.get? b=some {cls:=.type "tuple",dict:=dd2,data:=.seq items2 n2,slots:=sl2}/\R (.ok (.ret (.ref b))) s):=
 .of_wp λa w A R s h=>by
  obtain⟨f,g,d,i,j⟩:=s;obtain⟨c,e,h⟩:=h;have f2:=AutoSeq1.sub_tuple_tuple
  wp_walk using wpAny_loadPart' c,wpAny_loadPart' e
  exact⟨_,rfl,h⟩
theorem EG(l:Addr)(items:Array Value)(n:Nat)(dd:Option Addr)(sl:Array (Option Value))(u:Tok):
 Meets (Builtin.«tuple.__mul__» {pos:=[.ref l,.int 1 u]}) (λ_ R s=>s.heap.get? l=some {cls:=.type "tuple",dict:=dd,data:=.seq items n,slots:=sl}/\R (.ok (.ret (.ref l))) s):=
 .of_wp λa w A R s h=>by
  obtain⟨c,g,d,e,f⟩:=s;obtain⟨b,h⟩:=h;have f2:=AutoSeq1.sub_tuple_tuple
  wp_walk using wpAny_loadPart' b
  exact⟨_,rfl,h⟩
theorem MA(l:Addr)(items its2:Array Value)(n:Nat)(dd:Option Addr)(sl:Array (Option Value))(x:Int)(u:Tok)(c1:¬(decide (x < -2 ^ 63)||decide (x ≥ 2 ^ 63))=true)(c2:¬(items.isEmpty||x==1)=true)(c3:¬(decide (x<=0)||items.isEmpty)=true)
 (hcap:¬(items.size:Int)*x > (2 ^ 63-1)/8) (ht:¬Builtin.Tuple.tupleTooMany (items.size*x)=true) (hz:¬(List.foldl (λx1 x2=>x1++x2) #[] (List.replicate x.toNat items)).size > sizeLine):
 Meets (Builtin.«tuple.__mul__» {pos:=[.ref l,.int x u]}) (λ_ R s=>s.heap.get? l=some {cls:=.type "tuple",dict:=dd,data:=.seq items n,slots:=sl}/\R (.ok (.ret (.ref s.heap.objs.size))) {s with heap:=s.heap.push {cls:=.type "tuple",data:=.seq (List.foldl (λx1 x2=>x1++x2) #[] (List.replicate x.toNat items))}}):=
 .of_wp λa w A R s h=>by
  obtain⟨c,g,d,e,f⟩:=s;obtain⟨b,h⟩:=h;have f2:=AutoSeq1.sub_tuple_tuple
  wp_walk using wpAny_loadPart' b
  rw[if_neg c1]
  wp_walk using wpAny_loadPart' b
  rw[if_neg hcap]
  wp_walk
  exact⟨_,rfl,h⟩
theorem Ue:fillsNumberSlot (Value.type "tuple") "mul"=pure false:=PySem.fillsNumberSlot_seq rfl rfl rfl rfl
theorem Nc:seqRepeat? (Value.type "tuple")=pure (some (Value.builtin "tuple.__mul__")):=W.of_pureOf rfl
theorem P0(a:Int)(t:Tok)(l:Addr)(items:Array Value)(n:Nat)(dd:Option Addr)(sl:Array (Option Value)):
 Meets (Builtin.«int.__rmul__» {pos:=[.int a t,.ref l]}) (λ_ R s=>s.heap.get? l=some {cls:=.type "tuple",dict:=dd,data:=.seq items n,slots:=sl}/\R (.ok (.ret .notImplemented)) s):=
 .of_wp λb w A R s h=>by
  obtain⟨e,g,d,f,i⟩:=s;obtain⟨c,h⟩:=h
  wp_walk using wpAny_load' c,wpAny_loadPart' c
  exact⟨_,rfl,h⟩
theorem JQ:Q3 X (binaryOp .Add) (λx y H Q=>∃a b ys,x = .ref a/\y = .ref b/\Q2 X.K H a []/\Q2 X.K H b ys/\Q (.ref b) H):=by
 intro j s σ H x y v u Q I t w h;obtain⟨a,b,M,rfl,rfl,z,A,q⟩:=h;cases t;cases w;obtain⟨B,C,D,_⟩:=I.tuple z;obtain⟨k,N,E,_⟩:=I.tuple A;cases C;obtain⟨⟨cls,G,l,J⟩,m,o,n,p⟩:=id D;obtain⟨⟨r,f,g,i⟩,c,d,L,e⟩:=id E;simp only at o p d e;subst o p d e;exact concat_meets ⟨_,m,rfl⟩ ⟨_,c,rfl⟩ noFill_tuple_add seq_tuple_add PySem.F.slot_tuple_add PySem.F.entry_tuple_add (PySem.F.args_tuple_add_2 _ _) (tuple_addW0 a b _ _ n L G f J i rfl) ⟨m,c,⟨.ref b,H,I,rfl,q⟩⟩
theorem AR:Q3 X (binaryOp .Mult) (λx y H Q=>∃l k xs,x = .ref l/\y = .int k/\Q2 X.K H l xs/\xs≠[]/\1<=k/\k<2 ^ 63/\xs.length*k.toNat<=sizeLine/\(k=1->Q (.ref l) H)/\
 (2<=k->∀p,H p=none->Q (.ref p) (upd H p (.tup (List.replicate k.toNat xs).flatten)))):=by
 intro A s σ H x y v u Q I M N h;obtain⟨l,k,B,rfl,rfl,O,i,Y,Z,C,P,R⟩:=h;cases M;obtain⟨t,rfl⟩:=N;obtain⟨c,r,p,_⟩:=I.tuple O;have j:=r.length;have f:c.toArray.size*k.toNat<=sizeLine:=by rw[zzH,<-j];exact C
 have g:((c.toArray.size:Int)*k)=((c.toArray.size*k.toNat:Nat):Int):=by
  rw[zzV,Int.toNat_of_nonneg (by omega)]
 have D:c.toArray.isEmpty=false:=by
  cases c with
  |nil=>rw[List.length_nil]at j;exact absurd (List.length_eq_zero_iff.mp j) i
  |cons a r'=>rfl
 have d:List.foldl (λS V=>S++V) #[] (List.replicate k.toNat c.toArray)=(List.replicate k.toNat c).flatten.toArray:=by
  have:=foldl_rep c k.toNat [];rw[List.nil_append]at this;exact this
 obtain⟨⟨cls,m,E,w⟩,e,G,n,J⟩:=id p;simp only at G J;subst G J;refine wpAny_binaryOp_repeat_ref (T:="tuple") (U:="int") (by decide) ⟨_,e,rfl⟩ (λW=>typeIs_int W k t) Ue F.fills_int_mul F.slot_int_rmul Nc F.slot_int_index.lookup
  (call_meets F.slot_int_rmul (typeIs_int s k t) F.entry_int_rmul (F.args_int_rmul_2 _ _) (P0 k t l c.toArray n m w) ⟨e,rfl,⟨_,e,rfl⟩, ?_⟩)
 by_cases L:k=1
 . subst L;exact call_meets F.slot_tuple_mul ⟨_,e,rfl⟩ F.entry_tuple_mul (F.args_tuple_mul_2 _ _) (EG l c.toArray n m w t) ⟨e,⟨.ref l,H,I,rfl,P rfl⟩⟩
 . have z:(List.replicate k.toNat B).flatten.length<=sizeLine:=by rw[len_rep,Nat.mul_comm];exact C
   refine call_meets F.slot_tuple_mul ⟨_,e,rfl⟩ F.entry_tuple_mul (F.args_tuple_mul_2 _ _) (MA l c.toArray #[] n m w k t (by simp;omega) (by rw[D];simpa using L) (by rw[D];simp;omega) ?_ ?_ ?_) ⟨e, ?_⟩
   . rw[g];have:((sizeLine:Nat):Int)<=(2 ^ 63-1)/8:=by decide
     omega
   . unfold Builtin.Tuple.tupleTooMany;rw[g];simp only[gt_iff_lt,decide_eq_true_eq];omega
   . rw[d,zzH,len_rep,Nat.mul_comm];rw[zzH]at f;omega
   . rw[d];refine⟨.ref s.heap.objs.size,_,I.laid (t':=s.toks) (o:=.tup (List.replicate k.toNat B).flatten) (λb ob q=>zxF _ q) (zzN _) ?_,rfl,R (by omega) _ (I.hok.fresh (zzN _))⟩;exact⟨z,_,r.rep k.toNat,IsTup.new _ _⟩
theorem uW(op:Operator):sg X kd (binaryOp op) (Wl op):=by
 intro pins s σ H x y v u Q I rx ry h;obtain⟨O,d,e,r,ht,vx,vy,he,q⟩:=h;cases op with
 |Add=>
  cases vx with
  |int i=>
   obtain⟨j,h1,he⟩:=bS_ (show(Uu e).bind _=_ from he);obtain⟨rfl,rfl⟩:=YH vy h1;cases he;exact sO pins s σ H _ _ v u Q I rx ry ⟨_,_,rfl,rfl,zX q (.int _)⟩
  |str i=>
   obtain⟨j,h1,he⟩:=bS_ (show(oB e).bind _=_ from he);obtain⟨rfl,rfl⟩:=sH vy h1;obtain⟨c,rfl⟩:=zB he;exact FU pins s σ H _ _ v u Q I rx ry ⟨_,_,rfl,rfl,c,zX q (.str _)⟩
  |lst hx rx'=>
   obtain⟨j,h1,he⟩:=bS_ (show(H_ e).bind _=_ from he);cases Uo h1;obtain⟨c,rfl⟩:=zB he;cases vy with
   |lst hy ry'=>exact Jw pins s σ H _ _ v u Q I rx ry ⟨_,_,_,_,rfl,rfl,hx,hy,by rw[rx'.length,ry'.length];exact c,XM q (rx'.append ry')⟩
  | @tup a1 vs1 ds1 r1 hx rx'=>
   obtain⟨j,h1,he⟩:=bS_ (show(n_ e).bind _=_ from he);cases sP h1;obtain⟨c,rfl⟩:=zB he;cases vy with
   |tup r2 hy ry'=>
    by_cases h0:vs1=([]:List V)
    . subst h0;cases rx';exact JQ pins s σ H _ _ v u Q I rx ry ⟨_,_,_,rfl,rfl,hx,hy,zX q r2⟩
    refine AV pins s σ H _ _ v u Q I rx ry ⟨_,_,_,_,rfl,rfl,hx,hy,h0,by rw[rx'.length,ry'.length];exact c,λhn=>?_,λhn=>TJ ht q (rx'.append ry')⟩
    . subst hn;cases ry';rw[zyE]at q;exact zX q r1
  |_=>cases he
 |Sub=>
  obtain⟨i,j,rfl,rfl,he⟩:=YN vx vy he;cases he;exact sW pins s σ H _ _ v u Q I rx ry ⟨_,_,rfl,rfl,zX q (.int _)⟩
 |Mult=>
  cases vx with
  |int i=>
   obtain⟨j,h1,he⟩:=bS_ (show(Uu e).bind _=_ from he);obtain⟨rfl,rfl⟩:=YH vy h1;obtain⟨c,rfl⟩:=zB he;obtain⟨t,rfl⟩:=rx;obtain⟨t',rfl⟩:=ry;exact mul_int ⟨.int _,H,I.tok _,⟨_,rfl⟩,zX q (.int _)⟩ (c.elim (λc=>IntMulOk.of_bits (MP c.1) (MP c.2)) λc=>IntMulOk.of_right (Di c))
  |lst hx rx'=>
   obtain⟨j,h1,he⟩:=bS_ (show(Uu e).bind _=_ from he);obtain⟨rfl,rfl⟩:=YH vy h1;obtain⟨c,rfl⟩:=zB he;exact Jp pins s σ H _ _ v u Q I rx ry ⟨_,_,_,rfl,rfl,hx,c.1,c.2.1,by rw[rx'.length];exact c.2.2,XM q (rx'.rep _)⟩
  |tup r1 hx rx'=>
   obtain⟨j,h1,he⟩:=bS_ (show(Uu e).bind _=_ from he);obtain⟨rfl,rfl⟩:=YH vy h1;obtain⟨c,rfl⟩:=zB he;refine AR pins s σ H _ _ v u Q I rx ry ⟨_,_,_,rfl,rfl,hx,λe=>?_,c.1,c.2.1,by rw[rx'.length];exact c.2.2.2,λe=>?_,λ_=>TJ ht q (rx'.rep _)⟩
   . have:=rx'.length;rw[e]at this;exact c.2.2.1 this.symm
   . subst e;refine zX q ?_;rw[show(1:Int).toNat=1 from rfl,List.replicate_one,List.flatten_cons,List.flatten_nil,zyE];exact r1
  |_=>cases he
 |FloorDiv=>
  obtain⟨i,j,rfl,rfl,he⟩:=YN vx vy he;obtain⟨c,rfl⟩:=zB he;obtain⟨t,rfl⟩:=rx;obtain⟨t',rfl⟩:=ry;refine floordiv_int (by omega) ?_ (.inl (PyProof.noPylong_of_log2 ?_))
  . rw[Int.fdiv_eq_ediv_of_nonneg _ (by omega)];exact⟨.int _,H,I.tok _,⟨_,rfl⟩,zX q (.int _)⟩
  . exact zzK ((Nat.log2_lt (by have:=c.1;omega)).mpr (show _<2 ^ 4000 from c.2)) (by decide)
 |Mod=>
  obtain⟨i,j,rfl,rfl,he⟩:=YN vx vy he;obtain⟨c,rfl⟩:=zB he;exact O1 pins s σ H _ _ v u Q I rx ry ⟨_,_,rfl,rfl,c,zX q (.int _)⟩
 |Pow=>
  obtain⟨i,j,rfl,rfl,he⟩:=YN vx vy he;obtain⟨c,rfl⟩:=zB he;exact uT pins s σ H _ _ v u Q I rx ry ⟨_,_,rfl,rfl,c,zX q (.int _)⟩
 |_=>cases he
end
def HY(f:D->D->Option Bool):List D->List D->Option Bool
 | [],[]=>some true
 |x::r,y::t=>(f x y).bind λb=>(HY f r t).bind λc=>some (b&&c)
 |_,_=>some false
def xm:Nat->D->D->Option Bool
 |0,_,_=>none
 |_+1,.non,.non=>some true
 |_+1,.bl a,.bl b=>some (a==b)
 |_+1,.int a,.int b=>some (a==b)
 |_+1,.str a,.str b=>some (a==b)
 |_+1,.bl a,.int b=>some ((if a then 1 else 0)==b)
 |_+1,.int a,.bl b=>some (a==(if b then 1 else 0))
 |n+1,.lst xs,.lst ys=>HY (xm n) xs ys
 |n+1,.tup xs,.tup ys=>HY (xm n) xs ys
 |_+1,.dct _,_=>none
 |_+1,.cl _,_=>none
 |_+1,.ob _ _ _,_=>none
 |_+1,_,.dct _=>none
 |_+1,_,.cl _=>none
 |_+1,_,.ob _ _ _=>none
 |_+1,_,_=>some false
def Ct(f:D->D->Option Bool)(xs ys:List D)(j:Nat):Bool:=match xs[j]?,ys[j]? with
 |some d,some e=>(f d e).getD false
 |_,_=>false
theorem Gr:∀{xs ys:List D}{b:Bool},HY f xs ys=some b->(∀(j:Nat) d e,xs[j]? = some d->ys[j]? = some e->∃c,f d e=some c)/\
 b=((List.range (min xs.length ys.length)).all (Ct f xs ys)&&xs.length==ys.length)
 | [],[],b,h=>by cases h;exact⟨λj d e h=>by simp at h,by simp⟩
 | [],y::t,b,h=>by cases h;exact⟨λj d e h=>by simp at h,by simp⟩
 |x::r,[],b,h=>by cases h;exact⟨λj d e _ h=>by simp at h,by simp⟩
 |x::r,y::t,b,h=>by
  obtain⟨b1,h1,h⟩:=bS_ (show(f x y).bind _=_ from h);obtain⟨c1,h2,h⟩:=bS_ h;cases h;obtain⟨k1,k2⟩:=Gr h2;refine⟨λj d e hd he=>?_, ?_⟩
  . cases j with
    |zero=>simp at hd he;subst hd he;exact⟨b1,h1⟩
    |succ j=>exact k1 j d e (by simpa using hd) (by simpa using he)
  . have e0:min (x::r).length (y::t).length=min r.length t.length+1:=by simp only[zzT];omega
    rw[e0,List.range_succ_eq_map,List.all_cons,List.all_map,k2];have e1:Ct f (x::r) (y::t) 0=b1:=by show(f x y).getD false=b1;rw[h1];rfl
    have e2:(Ct f (x::r) (y::t)∘Nat.succ)=Ct f r t:=by
     funext j;show Ct f (x::r) (y::t) (j+1)=_;unfold Ct;simp
    have e3:((x::r).length==(y::t).length)=(r.length==t.length):=by
     by_cases hh:r.length=t.length<;>simp[hh]
    rw[e1,e2,e3,Bool.and_assoc]
structure EqAll(A:Around)(s:Shared)(u v:Value)(b:Bool):Prop where
 rc:SeqAt.RcAt A s u v b
 ne:SeqAt.RcNeAt A s u v (!b)
 eq:SeqAt.EqAt A s u v b
section
variable{X:Cx}{kd:KD}{pins:List (Addr×Obj)}{σ:St}{H:Hp}{s:Shared}{O:Addr->Prop}
theorem Bw(I:Inv X pins σ H s)(h:Q2 X.K H a xs)(h':ZT X.K H a ys):False:=by
 obtain⟨_,_,⟨o,e,c,_⟩,_⟩:=I.tuple h;obtain⟨_,_,⟨f,n,b,d,_⟩,_⟩:=I.list h';rw[e]at b;cases b;rw[c]at d;exact absurd d (by decide)
theorem B2(I:Inv X pins σ H s):∀(n:Nat) (v:V) (d e:D) (b:Bool),Vw X.K kd O H v d->Vw X.K kd O H v e->xm n d e=some b->b=true
 |0,_,_,_,_,_,_,h=>by cases h
 |n+1,v,d,e,b,p,f,h=>by
  have lst:∀(i:List V) (l m:List D) (b:Bool),RpL X.K kd O H i l->RpL X.K kd O H i m->HY (xm n) l m=some b->b=true:=by
   intro i
   induction i with
   |nil=>intro l m b g a h;cases g;cases a;cases h;rfl
   |cons v i q=>
    intro l m b g a h;cases g with
    |cons r g=>
     cases a with
     | cons t a=>
            obtain⟨y,u,h⟩:=bS_ (show(xm n _ _).bind _=_ from h);obtain⟨z,w,h⟩:=bS_ h;cases h;rw[B2 I n _ _ _ _ r.vw t.vw u,q _ _ _ g a w];rfl
  cases p with
  |non=>cases f;cases h;rfl
  |bl x=>cases f;cases h;simp
  |int x=>cases f;cases h;simp
  |str x=>cases f;cases h;simp
  |tup g j o=>
   cases f with
   |tup a c k=>
    have:=I.tuple_inj j c;subst this;exact lst _ _ _ _ o k h
   |lst c k=>exact(Bw I j c.sq).elim
   |_=>cases h
  |lst j o=>
   cases f with
   |tup a c k=>exact(Bw I c j.sq).elim
   |lst c k=>
    have:=I.list_inj j.sq c.sq;subst this;exact lst _ _ _ _ o k h
   |_=>cases h
  |_=>cases h
theorem Na(I:Inv X pins σ H s):∀(n:Nat) (A:Around) (x y:V) (d e:D) (u v:Value) (b:Bool),A.units+n<cLine->Vw X.K kd O H x d->Vw X.K kd O H y e->RelV x u->RelV y v->xm n d e=some b->EqAll A s u v b
 |0,_,_,_,_,_,_,_,_,_,_,_,_,_,h=>by cases h
 |n+1,A,x,y,d,e,u,v,b,hu,h1,E,R,k,h=>by
  have f:A.units<cLine:=by omega
  have W:∀{vs ws:List V}{l g:List Value}{S T:List D},RpL X.K kd O H vs S->RpL X.K kd O H ws T->zQ vs l->zQ ws g->(∀(j:Nat) d e,S[j]? = some d->T[j]? = some e->∃c,xm n d e=some c)->
   ∀j (h1:j<l.toArray.size) (E:j<g.toArray.size),SeqAt.EqAt A.in1 s l.toArray[j] g.toArray[j] (Ct (xm n) S T j):=by
   intro vs ws l g S T F q v1 v2 hd j j1 j2;have q1:j<S.length:=by rw[<-F.length,v1.length];simpa using j1
   have q2:j<T.length:=by rw[<-q.length,v2.length];simpa using j2
   obtain⟨L,ha1,ra1⟩:=F.get (zzE q1);obtain⟨M,ha2,ra2⟩:=q.get (zzE q2);obtain⟨u1,hu1,ru1⟩:=v1.get ha1;obtain⟨u2,hu2,ru2⟩:=v2.get ha2;obtain⟨c,hc⟩:=hd j _ _ (zzE q1) (zzE q2);have e1:l.toArray[j]=u1:=by
    have:=(zzG.mp hu1).2;simpa using this
   have e2:g.toArray[j]=u2:=by
    have:=(zzG.mp hu2).2;simpa using this
   rw[e1,e2];have e3:Ct (xm n) S T j=c:=by
    unfold Ct;rw[zzE q1,zzE q2];show(xm n _ _).getD false=c;rw[hc];rfl
   rw[e3];exact(Na I n A.in1 L M _ _ u1 u2 c (by show A.units+1+n<cLine;omega) ra1.vw ra2.vw ru1 ru2 hc).eq
  have G:∀{a a':Addr},x = .ref a->y = .ref a'->a=a'->b=true:=by
   intro a a' e1 e2 e3;subst e1 e2 e3;exact B2 I (n+1) _ _ _ _ h1 E h
  cases h1 with
  |non=>
   cases R;cases E with
   |non=>cases k;cases h;exact⟨SeqAt.RcAt.none_none,SeqAt.RcNeAt.none_none,SeqAt.EqAt.same _⟩
   |bl=>cases k;cases h;exact⟨SeqAt.RcAt.none_bool _,SeqAt.RcNeAt.none_bool _,SeqAt.EqAt.none_bool _⟩
   |int=>obtain⟨t,rfl⟩:=k;cases h;exact⟨SeqAt.RcAt.none_int _ _,SeqAt.RcNeAt.none_int _ _,SeqAt.EqAt.none_int _ _⟩
   |str=>obtain⟨t,rfl⟩:=k;cases h;exact⟨SeqAt.RcAt.none_str _ _,SeqAt.RcNeAt.none_str _ _,SeqAt.EqAt.none_str _ _⟩
   |tup r o q=>
    cases k;cases h;obtain⟨l,J,p,_⟩:=I.tuple o;exact⟨SeqAt.RcAt.none_tuple p f,SeqAt.RcNeAt.none_tuple p f,SeqAt.EqAt.none_tuple p f⟩
   |lst o q=>
    cases k;cases h;obtain⟨l,J,p,_⟩:=I.list o.sq;exact⟨SeqAt.RcAt.none_list p.isList f,SeqAt.RcNeAt.none_list p.isList f,SeqAt.EqAt.none_list p.isList f⟩
   |_=>cases h
  |bl c=>
   cases R;cases E with
   |non=>cases k;cases h;exact⟨SeqAt.RcAt.bool_none _,SeqAt.RcNeAt.bool_none _,SeqAt.EqAt.bool_none _⟩
   |bl=>cases k;cases h;exact⟨SeqAt.RcAt.bool_bool _ _,SeqAt.RcNeAt.bool_bool _ _,SeqAt.EqAt.bool_bool _ _⟩
   |int=>obtain⟨t,rfl⟩:=k;cases h;exact⟨SeqAt.RcAt.bool_int _ _ _,SeqAt.RcNeAt.bool_int _ _ _,SeqAt.EqAt.bool_int _ _ _⟩
   |str=>obtain⟨t,rfl⟩:=k;cases h;exact⟨SeqAt.RcAt.bool_str _ _ _,SeqAt.RcNeAt.bool_str _ _ _,SeqAt.EqAt.bool_str _ _ _⟩
   |tup r o q=>
    cases k;cases h;obtain⟨l,J,p,_⟩:=I.tuple o;exact⟨SeqAt.RcAt.bool_tuple _ p f,SeqAt.RcNeAt.bool_tuple _ p f,SeqAt.EqAt.bool_tuple _ p f⟩
   |lst o q=>
    cases k;cases h;obtain⟨l,J,p,_⟩:=I.list o.sq;exact⟨SeqAt.RcAt.bool_list _ p.isList f,SeqAt.RcNeAt.bool_list _ p.isList f,SeqAt.EqAt.bool_list _ p.isList f⟩
   |_=>cases h
  |int c=>
   obtain⟨t0,rfl⟩:=R;cases E with
   |non=>cases k;cases h;exact⟨SeqAt.RcAt.int_none _ _,SeqAt.RcNeAt.int_none _ _,SeqAt.EqAt.int_none _ _⟩
   |bl=>cases k;cases h;exact⟨SeqAt.RcAt.int_bool _ _ _,SeqAt.RcNeAt.int_bool _ _ _,SeqAt.EqAt.int_bool _ _ _⟩
   |int=>obtain⟨t,rfl⟩:=k;cases h;exact⟨SeqAt.RcAt.int_int _ _ _ _,SeqAt.RcNeAt.int_int _ _ _ _,SeqAt.EqAt.int_int _ _ _ _⟩
   |str=>obtain⟨t,rfl⟩:=k;cases h;exact⟨SeqAt.RcAt.int_str _ _ _ _,SeqAt.RcNeAt.int_str _ _ _ _,SeqAt.EqAt.int_str _ _ _ _⟩
   |tup r o q=>
    cases k;cases h;obtain⟨l,J,p,_⟩:=I.tuple o;exact⟨SeqAt.RcAt.int_tuple _ _ p f,SeqAt.RcNeAt.int_tuple _ _ p f,SeqAt.EqAt.int_tuple _ _ p f⟩
   |lst o q=>
    cases k;cases h;obtain⟨l,J,p,_⟩:=I.list o.sq;exact⟨SeqAt.RcAt.int_list _ _ p.isList f,SeqAt.RcNeAt.int_list _ _ p.isList f,SeqAt.EqAt.int_list _ _ p.isList f⟩
   |_=>cases h
  |str c=>
   obtain⟨t0,rfl⟩:=R;cases E with
   |non=>cases k;cases h;exact⟨SeqAt.RcAt.str_none _ _,SeqAt.RcNeAt.str_none _ _,SeqAt.EqAt.str_none _ _⟩
   |bl=>cases k;cases h;exact⟨SeqAt.RcAt.str_bool _ _ _,SeqAt.RcNeAt.str_bool _ _ _,SeqAt.EqAt.str_bool _ _ _⟩
   |int=>obtain⟨t,rfl⟩:=k;cases h;exact⟨SeqAt.RcAt.str_int _ _ _ _,SeqAt.RcNeAt.str_int _ _ _ _,SeqAt.EqAt.str_int _ _ _ _⟩
   |str=>obtain⟨t,rfl⟩:=k;cases h;exact⟨SeqAt.RcAt.str_str _ _ _ _,SeqAt.RcNeAt.str_str _ _ _ _,SeqAt.EqAt.str_str _ _ _ _⟩
   |tup r o q=>
    cases k;cases h;obtain⟨l,J,p,_⟩:=I.tuple o;exact⟨SeqAt.RcAt.str_tuple _ _ p f,SeqAt.RcNeAt.str_tuple _ _ p f,SeqAt.EqAt.str_tuple _ _ p f⟩
   |lst o q=>
    cases k;cases h;obtain⟨l,J,p,_⟩:=I.list o.sq;exact⟨SeqAt.RcAt.str_list _ _ p.isList f,SeqAt.RcNeAt.str_list _ _ p.isList f,SeqAt.EqAt.str_list _ _ p.isList f⟩
   |_=>cases h
  | @tup L vs1 N r s1 F=>
   cases R;obtain⟨m,z,i,_⟩:=I.tuple s1;cases E with
   |non=>cases k;cases h;exact⟨SeqAt.RcAt.tuple_none i f,SeqAt.RcNeAt.tuple_none i f,SeqAt.EqAt.tuple_none i f⟩
   |bl=>cases k;cases h;exact⟨SeqAt.RcAt.tuple_bool _ i f,SeqAt.RcNeAt.tuple_bool _ i f,SeqAt.EqAt.tuple_bool _ i f⟩
   |int=>obtain⟨t,rfl⟩:=k;cases h;exact⟨SeqAt.RcAt.tuple_int _ _ i f,SeqAt.RcNeAt.tuple_int _ _ i f,SeqAt.EqAt.tuple_int _ _ i f⟩
   |str=>obtain⟨t,rfl⟩:=k;cases h;exact⟨SeqAt.RcAt.tuple_str _ _ i f,SeqAt.RcNeAt.tuple_str _ _ i f,SeqAt.EqAt.tuple_str _ _ i f⟩
   | @tup M vs2 P r' o q=>
    cases k;obtain⟨g,w,B,_⟩:=I.tuple o;obtain⟨k1,k2⟩:=Gr h;have Y:=W F q z w k1;have Z:((List.range (min m.toArray.size g.toArray.size)).all (Ct (xm n) N P)&&m.toArray.size==g.toArray.size)=b:=by
     rw[k2,zzH,zzH,<-z.length,<-w.length,F.length,q.length]
    have U:=SeqAt.RcAt.tuples i B f Y;have b2:=SeqAt.RcNeAt.tuples i B f Y;rw[Z]at U b2;refine⟨U,b2, ?_⟩
    by_cases Q:L=M
    . have hb:=G rfl rfl Q;subst Q;rw[hb];exact SeqAt.EqAt.same _
    . exact SeqAt.EqAt.of_refs Q U
   |lst o q=>
    cases k;cases h;obtain⟨l,J,p,_⟩:=I.list o.sq;exact⟨SeqAt.RcAt.tuple_list i p.isList f,SeqAt.RcNeAt.tuple_list i p.isList f,SeqAt.EqAt.tuple_list i p.isList f⟩
   |_=>cases h
  | @lst L vs1 N s1 F=>
   cases R;obtain⟨m,z,i,_⟩:=I.list s1.sq;cases E with
   |non=>cases k;cases h;exact⟨SeqAt.RcAt.list_none i.isList f,SeqAt.RcNeAt.list_none i.isList f,SeqAt.EqAt.list_none i.isList f⟩
   |bl=>cases k;cases h;exact⟨SeqAt.RcAt.list_bool _ i.isList f,SeqAt.RcNeAt.list_bool _ i.isList f,SeqAt.EqAt.list_bool _ i.isList f⟩
   |int=>obtain⟨t,rfl⟩:=k;cases h;exact⟨SeqAt.RcAt.list_int _ _ i.isList f,SeqAt.RcNeAt.list_int _ _ i.isList f,SeqAt.EqAt.list_int _ _ i.isList f⟩
   |str=>obtain⟨t,rfl⟩:=k;cases h;exact⟨SeqAt.RcAt.list_str _ _ i.isList f,SeqAt.RcNeAt.list_str _ _ i.isList f,SeqAt.EqAt.list_str _ _ i.isList f⟩
   |tup r' o q=>
    cases k;cases h;obtain⟨g,w,B,_⟩:=I.tuple o;exact⟨SeqAt.RcAt.list_tuple i.isList B f,SeqAt.RcNeAt.list_tuple i.isList B f,SeqAt.EqAt.list_tuple i.isList B f⟩
   | @lst M vs2 P o q=>
    cases k;obtain⟨g,w,B,_⟩:=I.list o.sq;obtain⟨k1,k2⟩:=Gr h;have Y:=W F q z w k1;have ez1:m.toArray.size=_:=zzH.trans (z.length.symm.trans F.length);have ez2:g.toArray.size=_:=zzH.trans (w.length.symm.trans q.length);have C:SeqAt.RcAt A s (.ref L) (.ref M) b/\SeqAt.RcNeAt A s (.ref L) (.ref M) (!b):=by
     by_cases hz:m.toArray.size=g.toArray.size
     . have U:=SeqAt.RcAt.lists i.isList B.isList hz f Y;have b2:=SeqAt.RcNeAt.lists i.isList B.isList hz f Y;have Z:(List.range m.toArray.size).all (Ct (xm n) N P)=b:=by
        rw[k2,<-ez1,<-ez2,<-hz,Nat.min_self];simp
       rw[Z]at U b2;exact⟨U,b2⟩
     . have hz':(m.toArray.size != g.toArray.size)=true:=by simpa using hz
       have Z:b=false:=by
        rw[k2,<-ez1,<-ez2];have:(m.toArray.size==g.toArray.size)=false:=by simpa using hz
        rw[this,Bool.and_false]
       rw[Z];exact⟨SeqAt.RcAt.lists_lengths i.isList B.isList hz' f,SeqAt.RcNeAt.lists_lengths i.isList B.isList hz' f⟩
    refine⟨C.1,C.2, ?_⟩
    by_cases Q:L=M
    . have hb:=G rfl rfl Q;subst Q;rw[hb];exact SeqAt.EqAt.same _
    . exact SeqAt.EqAt.of_refs Q C.1
   |_=>cases h
  |_=>cases h
end
structure DkAt(P:Program)(w:World)(h:Heap)(a:Addr)(kvs:List (Key×V)):Prop where
 le:kvs.length<=sizeLine
 ns:(a==sysModules)=false
 ex:∃vs,KV kvs vs/\h.DictOf (yH P w) a vs
structure KdOk(X:Cx)(kd:KD):Prop where
 inj:∀a k k',kd a k->kd a k'->k=k'
 inK:∀a k,kd a k->∃o,X.K.lookup a=some o
 at_:∀a k h,kd a k->X.K.In h->DkAt X.prog X.w h a k
section
variable{X:Cx}{kd:KD}{pins:List (Addr×Obj)}{σ:St}{H:Hp}{s:Shared}{O:Addr->Prop}
theorem RJ(I:Inv X pins σ H s)(hk:KdOk X kd){a:Addr}{kvs:List (Key×V)}(h:Rd H a (.dK kvs)\/kd a kvs):DkAt X.prog X.w s.heap a kvs:=by
 rcases h with h|h
 . obtain⟨z,hd,vs,rel,dd⟩:=DC I.hok h;exact⟨z,hd,vs,rel,dd⟩
 . exact hk.at_ _ _ _ h I.kIn
theorem Ow(I:Inv X pins σ H s):∀(n:Nat) (v:V) (d e x:D) (b c:Bool),Vw X.K kd O H v d->Vw X.K kd O H v e->xm n d x=some b->xm n e x=some c->b=c
 |0,_,_,_,_,_,_,_,_,h,_=>by cases h
 |n+1,v,d,e,x,b,c,h1,h2,h,h'=>by
  have lst:∀(vs:List V) (ds es xs:List D) (b c:Bool),RpL X.K kd O H vs ds->RpL X.K kd O H vs es->HY (xm n) ds xs=some b->HY (xm n) es xs=some c->b=c:=by
   intro vs
   induction vs with
   |nil=>intro ds es xs b c r1 r2 h h';cases r1;cases r2;exact zzZ (h.symm.trans h')
   |cons v vs ih=>
    intro ds es xs b c r1 r2 h h';cases r1 with
    |cons a1 r1=>
     cases r2 with
     | cons a2 r2=>
            cases xs with
            |nil=>cases h;cases h';rfl
            |cons x xs=>
             obtain⟨b1,k1,h⟩:=bS_ (show(xm n _ _).bind _=_ from h);obtain⟨c1,k2,h⟩:=bS_ h;obtain⟨b2,k3,h'⟩:=bS_ (show(xm n _ _).bind _=_ from h');obtain⟨c2,k4,h'⟩:=bS_ h';cases h;cases h';rw[Ow I n _ _ _ _ _ _ a1.vw a2.vw k1 k3,ih _ _ _ _ _ r1 r2 k2 k4]
  cases h1 with
  |tup r1 s1 l1=>
   cases h2 with
   |tup r2 s2 l2=>
    have:=I.tuple_inj s1 s2;subst this;cases x with
    |tup xs=>exact lst _ _ _ _ _ _ l1 l2 h h'
    |_=>exact zzZ (h.symm.trans h')
   |lst s2 l2=>exact(Bw I s1 s2.sq).elim
   |_=>cases h'
  |lst s1 l1=>
   cases h2 with
   |tup r2 s2 l2=>exact(Bw I s2 s1.sq).elim
   |lst s2 l2=>
    have:=I.list_inj s1.sq s2.sq;subst this;cases x with
    |lst xs=>exact lst _ _ _ _ _ _ l1 l2 h h'
    |_=>exact zzZ (h.symm.trans h')
   |_=>cases h'
  |dct s1 l1=>cases h
  |cl=>cases h
  |ob=>cases h
  |_=>cases h2;exact zzZ (h.symm.trans h')
end
def GS:D->Option Key
 | .int i=>some (.inl i)
 | .str x=>some (.inr x)
 |_=>none
def P5(kvs:List (Key×D))(k:Key):Option D:=(kvs.find? λkv=>decide (kv.1=k)).map (·.2)
theorem V_{K:zzA}{kd:KD}{O:Addr->Prop}{H:Hp}(k:Key){vs:List (Key×V)}{ds:List (Key×D)}(h:RpM K kd O H vs ds):(∃v d,Y8 vs k=some v/\P5 ds k=some d/\Rp K kd O H v d)\/(Y8 vs k=none/\P5 ds k=none):=
 RpM.ind (P:=λvs ds=>(∃v d,Y8 vs k=some v/\P5 ds k=some d/\Rp K kd O H v d)\/(Y8 vs k=none/\P5 ds k=none)) (.inr ⟨rfl,rfl⟩) (λ{k' v d vs ds} a _ ih=>by
  by_cases e:k'=k
  . left;refine⟨_,_, ?_, ?_,a⟩
    . unfold Y8;simp[e]
    . unfold P5;simp[e]
  . rcases ih with⟨v,d,h1,h2,h3⟩|⟨h1,h2⟩
    . left;refine⟨v,d, ?_, ?_,h3⟩
      . unfold Y8 at h1 ⊢;simpa[e]using h1
      . unfold P5 at h2 ⊢;simpa[e]using h2
    . right;refine⟨?_, ?_⟩
      . unfold Y8 at h1 ⊢;simpa[e]using h1
      . unfold P5 at h2 ⊢;simpa[e]using h2) h
def anyF(f:D->Option Bool):List D->Option Bool
 | []=>some false
 |x::r=>(f x).bind λb=>(anyF f r).bind λc=>some (b||c)
def SM(b:Bool):R0:=.im (.bl b)
def DI(x:D):D->Option Bool
 | .lst ys=>anyF (λy=>xm 50 y x) ys
 | .tup ys=>anyF (λy=>xm 50 y x) ys
 | .str y=>match x with | .str i=>some (!(Builtin.Str.occurrences y i 0 y.length 1).isEmpty)|_=>none
 | .dct kvs=>(GS x).bind λk=>some (P5 kvs k).isSome
 |_=>none
def qh:D->D->Option Bool
 |d,.non=>some (match d with | .non=>true|_=>false)
 |d,.bl b=>match d with | .bl c=>some (c==b)|_=>some false
 |_,_=>none
def Fe(f:Int->Int->Bool):D->D->Option R0:=Dh λi j=>some (SM (f i j))
def zw(o:CmpOp)(d e:D):Option R0:=match o with
 | .Eq=>(xm 60 d e).bind λb=>some (SM b)
 | .NotEq=>(xm 60 d e).bind λb=>some (SM !b)
 | .Lt=>Fe (λi j=>decide (i<j)) d e
 | .LtE=>Fe (λi j=>decide (i<=j)) d e
 | .Gt=>Fe (λi j=>decide (j<i)) d e
 | .GtE=>Fe (λi j=>decide (j<=i)) d e
 | .In=>(DI d e).bind λb=>some (SM b)
 | .NotIn=>(DI d e).bind λb=>some (SM !b)
 | .Is=>(qh d e).bind λb=>some (SM b)
 | .IsNot=>(qh d e).bind λb=>some (SM !b)
theorem X6{o:Option Bool}{f:Bool->Bool}{r:R0}(h:(o.bind λb=>some (SM (f b)))=some r):∃k,r = .im (.bl k):=by
 obtain⟨b,_,h⟩:=bS_ h;cases h;exact⟨_,rfl⟩
theorem Pz{x y:D}{f:Int->Int->Bool}{r:R0}(h:Fe f x y=some r):∃k,r = .im (.bl k):=by
 obtain⟨i,_,h⟩:=bS_ (show(Uu x).bind _=_ from h);obtain⟨j,_,h⟩:=bS_ h;cases h;exact⟨_,rfl⟩
theorem NK(op:CmpOp)(x y:D)(r:R0)(h:zw op x y=some r):∃k,r = .im (.bl k):=by
 cases op with
 |Eq=>exact X6 (f:=id) h
 |NotEq=>exact X6 (f:=not) h
 |Lt=>exact Pz h
 |LtE=>exact Pz h
 |Gt=>exact Pz h
 |GtE=>exact Pz h
 |In=>exact X6 (f:=id) h
 |NotIn=>exact X6 (f:=not) h
 |Is=>exact X6 (f:=id) h
 |IsNot=>exact X6 (f:=not) h
section
variable{X:Cx}{kd:KD}{pins:List (Addr×Obj)}{σ:St}{H:Hp}{s:Shared}{O:Addr->Prop}
noncomputable def LJ(K:zzA)(kd:KD)(O:Addr->Prop)(H:Hp)(n:Nat)(x:D)(u:Value):Bool:=@decide (∃v d,RelV v u/\Rp K kd O H v d/\xm n d x=some true) (Classical.propDecidable _)
theorem NN(I:Inv X pins σ H s)(hk:KdOk X kd){n:Nat}{x d:D}{v:V}{u:Value}{b:Bool}(r:RelV v u)(p:Rp X.K kd O H v d)(e:xm n d x=some b):LJ X.K kd O H n x u=b:=by
 unfold LJ;cases b with
 |true=>exact @zyN _ (Classical.propDecidable _) ⟨v,d,r,p,e⟩
 |false=>
  refine @zyG _ (Classical.propDecidable _) λ⟨v',d',r',p',e'⟩=>?_;have:=r.inj r';subst this;exact Bool.noConfusion (Ow I n _ _ _ _ _ _ p.vw p'.vw e e')
theorem Pq(I:Inv X pins σ H s)(hk:KdOk X kd){n:Nat}{x:D}{vs:List V}{us:List Value}{ds:List D}{b:Bool}(hv:zQ vs us)(h:RpL X.K kd O H vs ds)(e:anyF (λy=>xm n y x) ds=some b):us.any (LJ X.K kd O H n x)=b:=
 RpL.ind (P:=λvs ds=>∀us b,zQ vs us->anyF (λy=>xm n y x) ds=some b->us.any (LJ X.K kd O H n x)=b) (λus b hv e=>by cases e;cases hv;rfl) (λ{v d vs ds} a _ ih us b hv h=>by
  cases hv with
  |cons r t=>
   obtain⟨b1,h1,h⟩:=bS_ (show(xm n _ x).bind _=_ from h);obtain⟨c1,h2,h⟩:=bS_ h;cases h;rw[List.any_cons,NN I hk r a h1,ih _ _ t h2]) h us b hv e
theorem Yh{f:D->Option Bool}:∀{ds:List D}{b:Bool},anyF f ds=some b->∀d ∈ ds,∃c,f d=some c
 | [],_,_,d,hd=>by simp at hd
 |x::r,b,h,d,hd=>by
  obtain⟨b1,h1,h⟩:=bS_ (show(f x).bind _=_ from h);obtain⟨c1,h2,h⟩:=bS_ h
  rcases zzC.mp hd with e|e
  . subst e;exact⟨b1,h1⟩
  . exact Yh h2 d e
theorem VN(I:Inv X pins σ H s)(hk:KdOk X kd){n:Nat}{A:Around}(hu:A.units+n<cLine){x:V}{v:Value}{d:D}(vx:Vw X.K kd O H x d)(rx:RelV x v){vs:List V}{us:List Value}{ds:List D}(hv:zQ vs us)(h:RpL X.K kd O H vs ds)(k:∀e ∈ ds,∃c,xm n e d=some c):∀u ∈ us,SeqAt.EqAt A s u v (LJ X.K kd O H n d u):=
 RpL.ind (P:=λvs ds=>∀us,zQ vs us->(∀e ∈ ds,∃c,xm n e d=some c)->∀u ∈ us,SeqAt.EqAt A s u v (LJ X.K kd O H n d u)) (λus hv _ u hu=>by cases hv;simp at hu) (λa q ih us hv h u hm=>by
  cases hv with
  |cons r t=>
   rcases zzC.mp hm with e|e
   . subst e;obtain⟨c,hc⟩:=h _ zzF;rw[NN I hk r a hc];exact(Na I n A _ _ _ _ _ _ _ hu a.vw vx r rx hc).eq
   . exact ih _ t (λe he=>h e (zzD _ he)) u e) h us hv k
theorem P4{A:Around}{E:Value->Shared->Prop}{x:V}{v:Value}{b c:Bool}{d:D}{Q:Bool->Shared->Prop}(vx:Vw X.K kd O H x d)(rx:RelV x v)(e:qh d (.bl b)=some c)(h:Q c s):wpAny (model X.prog X.w) A (isSame v (.bool b)) Q E s:=by
 cases vx with
 |non=>cases rx;cases e;exact zxE h
 |bl k=>
  cases rx;have e:some (k==b)=some c:=e;cases e;refine zxE ?_;cases k<;>cases b<;>exact h
 |int=>obtain⟨t,rfl⟩:=rx;cases e;exact zxE h
 |str=>obtain⟨t,rfl⟩:=rx;cases e;exact zxE h
 |tup=>cases rx;cases e;exact zxE h
 |lst=>cases rx;cases e;exact zxE h
 |dct=>cases rx;cases e;exact zxE h
 |cl=>cases rx;cases e;exact zxE h
 |ob=>cases rx;cases e;exact zxE h
theorem Vx(hk:KdOk X kd)(hu:X.A.units+100<cLine)(op:CmpOp):sg X kd (compareOp op) (zw op):=by
 intro pins s σ H x y v u Q I rx ry h;obtain⟨O,d,e,r,ht,vx,vy,he,q⟩:=h;cases op with
 |Eq=>
  obtain⟨b,h1,he⟩:=bS_ (show(xm 60 d e).bind _=_ from he);cases he;exact(Na I 60 X.A x y d e v u b (by omega) vx vy rx ry h1).rc _ _ _ _ (xy I (zX q (.bl _)) rfl)
 |NotEq=>
  obtain⟨b,h1,he⟩:=bS_ (show(xm 60 d e).bind _=_ from he);cases he;exact(Na I 60 X.A x y d e v u b (by omega) vx vy rx ry h1).ne _ _ _ _ (xy I (zX q (.bl _)) rfl)
 |Lt=>
  obtain⟨i,j,rfl,rfl,he⟩:=YN vx vy he;cases he;exact pW pins s σ H _ _ v u Q I rx ry ⟨_,_,rfl,rfl,zX q (.bl _)⟩
 |LtE=>
  obtain⟨i,j,rfl,rfl,he⟩:=YN vx vy he;cases he;exact qo pins s σ H _ _ v u Q I rx ry ⟨_,_,rfl,rfl,zX q (.bl _)⟩
 |Gt=>
  obtain⟨i,j,rfl,rfl,he⟩:=YN vx vy he;cases he;exact qC pins s σ H _ _ v u Q I rx ry ⟨_,_,rfl,rfl,zX q (.bl _)⟩
 |GtE=>
  obtain⟨i,j,rfl,rfl,he⟩:=YN vx vy he;cases he;exact rY pins s σ H _ _ v u Q I rx ry ⟨_,_,rfl,rfl,zX q (.bl _)⟩
 |In=>
  obtain⟨b,h1,he⟩:=bS_ (show(DI d e).bind _=_ from he);cases he;cases vy with
  |lst hs rl=>
   cases ry;obtain⟨its,rv,p,_⟩:=I.list hs.sq;refine SeqAt.in_listAt (LJ X.K kd O H 50 d) p.isList (λw hw=>VN I hk (by show X.A.units+1+50<cLine;omega) vx rx rv rl (Yh h1) w (by simpa using hw)) ?_;have:=Pq I hk rv rl h1;rw[show its.toArray.any (LJ X.K kd O H 50 d)=b by rw[<-this];simp];exact xy (I) (zX q (.bl _)) rfl
  |tup rp hs rl=>
   cases ry;obtain⟨its,rv,p,_⟩:=I.tuple hs;refine SeqAt.in_tupleAt (LJ X.K kd O H 50 d) p (λw hw=>VN I hk (by show X.A.units+1+50<cLine;omega) vx rx rv rl (Yh h1) w (by simpa using hw)) ?_;have:=Pq I hk rv rl h1;rw[show its.toArray.any (LJ X.K kd O H 50 d)=b by rw[<-this];simp];exact xy (I) (zX q (.bl _)) rfl
  |str z=>
   cases vx with
   |str i=>cases h1;exact S4 pins s σ H _ _ v u Q I rx ry ⟨_,_,rfl,rfl,zX q (.bl _)⟩
   |_=>cases h1
  |dct hs rm=>
   cases ry;obtain⟨k,k1,h1⟩:=bS_ h1;cases h1;obtain⟨z,hd,vs,rel,dd⟩:=RJ I hk hs;have ek:x=kV k:=by
    cases vx with
    |int i=>cases k1;rfl
    |str i=>cases k1;rfl
    |_=>cases k1
   subst ek;refine wpAny_in_of (K9 rx) hd dd.mapOf ?_;rw[<-(rel.val k).isSome_eq]
   rcases V_ k rm with⟨v1,d1,e1,e2,_⟩|⟨e1,e2⟩
   . rw[e1];rw[e2]at q;exact xy (I.tok _) (zX q (.bl _)) rfl
   . rw[e1];rw[e2]at q;exact xy (I.tok _) (zX q (.bl _)) rfl
  |_=>cases h1
 |NotIn=>
  obtain⟨b,h1,he⟩:=bS_ (show(DI d e).bind _=_ from he);cases he;cases vy with
  |lst hs rl=>
   cases ry;obtain⟨its,rv,p,_⟩:=I.list hs.sq;refine SeqAt.notIn_listAt (LJ X.K kd O H 50 d) p.isList (λw hw=>VN I hk (by show X.A.units+1+50<cLine;omega) vx rx rv rl (Yh h1) w (by simpa using hw)) ?_;have:=Pq I hk rv rl h1;rw[show its.toArray.any (LJ X.K kd O H 50 d)=b by rw[<-this];simp];exact xy (I) (zX q (.bl _)) rfl
  |tup rp hs rl=>
   cases ry;obtain⟨its,rv,p,_⟩:=I.tuple hs;refine SeqAt.notIn_tupleAt (LJ X.K kd O H 50 d) p (λw hw=>VN I hk (by show X.A.units+1+50<cLine;omega) vx rx rv rl (Yh h1) w (by simpa using hw)) ?_;have:=Pq I hk rv rl h1;rw[show its.toArray.any (LJ X.K kd O H 50 d)=b by rw[<-this];simp];exact xy (I) (zX q (.bl _)) rfl
  |str z=>
   cases vx with
   |str i=>cases h1;exact NI pins s σ H _ _ v u Q I rx ry ⟨_,_,rfl,rfl,zX q (.bl _)⟩
   |_=>cases h1
  |dct hs rm=>
   cases ry;obtain⟨k,k1,h1⟩:=bS_ h1;cases h1;obtain⟨z,hd,vs,rel,dd⟩:=RJ I hk hs;have ek:x=kV k:=by
    cases vx with
    |int i=>cases k1;rfl
    |str i=>cases k1;rfl
    |_=>cases k1
   subst ek;refine wpAny_notIn_of (K9 rx) hd dd.mapOf ?_;rw[<-(rel.val k).isSome_eq]
   rcases V_ k rm with⟨v1,d1,e1,e2,_⟩|⟨e1,e2⟩
   . rw[e1];rw[e2]at q;exact xy (I.tok _) (zX q (.bl _)) rfl
   . rw[e1];rw[e2]at q;exact xy (I.tok _) (zX q (.bl _)) rfl
  |_=>cases h1
 |Is=>
  obtain⟨b,h1,he⟩:=bS_ (show(qh d e).bind _=_ from he);cases he;cases vy with
  |non=>
   refine uX pins s σ H _ _ v u Q I rx ry ⟨rfl, ?_⟩;have:decide (x=V.non)=b:=by cases vx<;>(cases h1;rfl)
   rw[this];exact zX q (.bl b)
  |bl c=>
   cases ry;exact zxD (P4 vx rx h1 (zxE (xy I (zX q (.bl _)) rfl)))
  |_=>cases h1
 |IsNot=>
  obtain⟨b,h1,he⟩:=bS_ (show(qh d e).bind _=_ from he);cases he;cases vy with
  |non=>
   refine JI pins s σ H _ _ v u Q I rx ry ⟨rfl, ?_⟩;have:decide (x=V.non)=b:=by cases vx<;>(cases h1;rfl)
   rw[this];exact zX q (.bl _)
  |bl c=>
   cases ry;exact zxD (P4 vx rx h1 (zxE (xy I (zX q (.bl _)) rfl)))
  |_=>cases h1
end
theorem Bp{K:zzA}{kd:KD}{O:Addr->Prop}{H:Hp}{vs:List V}{ds:List D}{i:Int}{d:D}(r:RpL K kd O H vs ds)(h:Pk ds i=some d):∃v,Pk vs i=some v/\Rp K kd O H v d:=by
 unfold Pk at h ⊢;obtain⟨j,a,b⟩:=bS_ h;rw[r.length,a];exact r.get b
def Ji(o:Option D):Option R0:=o.bind λd=>some (.im d)
def zA(x y:D):Option R0:=match x with
 | .lst xs=>(Uu y).bind λi=>Ji (Pk xs i)
 | .tup xs=>(Uu y).bind λi=>Ji (Pk xs i)
 | .str x=>(Uu y).bind λi=>if x.length<=sizeLine then(Pk x.cps.toList i).bind λc=>some (.im (.str ⟨#[c]⟩))else none
 | .dct kvs=>(GS y).bind λk=>Ji (P5 kvs k)
 |_=>none
theorem P_(h:Ji o=some r):∃d,o=some d/\r = .im d:=by
 obtain⟨d,a,b⟩:=bS_ (show o.bind _=_ from h);cases b;exact⟨d,a,rfl⟩
section
variable{X:Cx}{kd:KD}
theorem Nj{K:zzA}{O:Addr->Prop}{H:Hp}{x:V}{d:D}{k:Key}(vx:Vw K kd O H x d)(e:GS d=some k):x=kV k:=by
 cases vx with
 |int i=>cases e;rfl
 |str i=>cases e;rfl
 |_=>cases e
theorem oJ(hk:KdOk X kd):mF X kd zA:=by
 intro b f g s σ H x y v u Q I A B h C;obtain⟨O,d,e,r,U,P,D,a,q⟩:=h;cases P with
 |lst m E=>
  obtain⟨i,n,a⟩:=bS_ (show(Uu e).bind _=_ from a);obtain⟨rfl,rfl⟩:=YH D n;obtain⟨d,l,rfl⟩:=P_ a;obtain⟨w,p,j⟩:=Bp E l;exact Wf b f g s σ H _ _ v u Q I A B ⟨_,_,_,w,rfl,rfl,m.sq,p,zX q j⟩ C
 |tup J m E=>
  obtain⟨i,n,a⟩:=bS_ (show(Uu e).bind _=_ from a);obtain⟨rfl,rfl⟩:=YH D n;obtain⟨d,l,rfl⟩:=P_ a;obtain⟨w,p,j⟩:=Bp E l;exact Vu b f g s σ H _ _ v u Q I A B ⟨_,_,_,w,rfl,rfl,m,p,zX q j⟩ C
 |str z=>
  obtain⟨i,n,a⟩:=bS_ (show(Uu e).bind _=_ from a);obtain⟨rfl,rfl⟩:=YH D n;obtain⟨R,a⟩:=ite_some' a;obtain⟨c,l,a⟩:=bS_ a;cases a;exact uH b f g s σ H _ _ v u Q I A B ⟨_,_,c,rfl,rfl,R,l,zX q (.str _)⟩ C
 |dct m S=>
  obtain⟨k,l,a⟩:=bS_ (show(GS e).bind _=_ from a);obtain⟨d,K,rfl⟩:=P_ a;cases A;obtain⟨z,V,T,G,L⟩:=RJ I hk m;have:=Nj D l;subst this
  rcases V_ k S with⟨M,W,N,t,J⟩|⟨N,t⟩
  . rw[K]at t;cases t;obtain⟨Y,p,j⟩:=GX.some_of (v:=M) (o:=valueAt T k) (by rw[<-N];exact G.val k);exact tail_any L.typeIs PySem.F.slot_dict_getitem.lookup (wpAny_getItem_of (K9 B) L.mapOf p ⟨M,H,I.tok _,j,zX q J⟩) C
  . rw[K]at t;cases t
 |_=>cases a
def cutD(xs:List D)(lo hi:Option Int):List D:=(xs.drop (HT.sIx xs.length 0 lo)).take (HT.sIx xs.length xs.length hi-HT.sIx xs.length 0 lo)
theorem BC{K:zzA}{O:Addr->Prop}{H:Hp}{vs:List V}{ds:List D}(r:RpL K kd O H vs ds)(lo hi:Option Int):RpL K kd O H (G5 vs lo hi) (cutD ds lo hi):=by
 unfold G5 cutD;rw[r.length];exact(r.drop _).take _
def Wk(x:D)(lo hi:Option Int):Option R0:=match x with
 | .lst xs=>some (.fl (cutD xs lo hi))
 | .tup xs=>if HT.sIx xs.length 0 lo=0/\HT.sIx xs.length xs.length hi=xs.length then none else some (.im (.tup (cutD xs lo hi)))
 |_=>none
abbrev OF:=AS->Option (Option Int×AS)
def oN:OF:=λas=>some (none,as)
def oS(f:EF):OF:=λas=>(f as).bind λp=>(mw p.1).bind λi=>some (some i,p.2)
def Ym(fa:EF)(fl fh:OF)(g:D->Option Int->Option Int->Option R0):EF:=λas=>(fa as).bind λp=>(fl p.2).bind λl=>(fh l.2).bind λh=>(p.1.frz.view h.2).bind λx=>(g x.1 l.1 h.1).bind λr=>(wrap x.2 r).bind λz=>some (z,h.2)
def mW(K:zzA)(kd:KD)(f:OF):TO:=λσ H Q=>∃F B ad as o as',Rel K kd F B [] ad as σ H/\f as=some (o,as')/\
 ∀ad' H',Rel K kd F B [] ad' as' σ H'->Grow (Gw [] ad) H (Gw [] ad') H'->Q o H'
@[irreducible] def AO(X:Cx)(kd:KD)(e:Option Expr)(f:OF):Prop:=PO X e (mW X.K kd f)
theorem Cw(h:PO X e t)(k:∀σ H Q,t' σ H Q->t σ H Q):PO X e t':=λa s σ H Q I q=>h a s σ H Q I (k σ H Q q)
theorem Sk:AO X kd none oN:=by with_unfolding_all exact(Cw BF λσ H Q h=>by
 obtain⟨F,B,a,as,o,b,R,e,q⟩:=h;cases e;exact q a H R Grow.refl)
theorem sX{K:zzA}{F B:Addr->Prop}{T:List Addr}{ad:Ad}{σ:St}{H:Hp}{v:V}{st:Bool}{c:Int}(h:xh K kd F B T ad σ H v (.ow (.lf st (.int c)))):T=[]/\v = .int c:=by
 have h:wK K kd F B (Gw T ad) H v (.lf st (.int c)) T:=h;generalize b:Gw T ad=G at h;cases h with
 |lf a=>cases a;exact⟨rfl,rfl⟩
theorem BR{a:Expr}{fa:EF}(ha:AE X kd a fa):AO X kd (some a) (oS fa):=by with_unfolding_all exact(Cw (Sr ha) λσ H Q h=>by
 obtain⟨F,B,d,as,o,f,R,e,q⟩:=h;obtain⟨⟨p,g⟩,j,e⟩:=bS_ (show(fa as).bind _=_ from e);obtain⟨i,k,e⟩:=bS_ e;obtain⟨r,rfl⟩:=tV k;cases e;refine⟨F,B,d,as,_,_,R,j,λv s b l m c n=>?_⟩;obtain⟨rfl,rfl⟩:=sX c;exact⟨i,rfl,q b l m n⟩)
theorem oA:rP X (λx lo hi H Q=>∃O d r,(∀a,O a->H a≠none)/\Vw X.K kd O H x d/\Wk d lo hi=some r/\RQ X.K kd O H Q r):=by
 intro b s σ H x v j k e f l Q I m n o p h;obtain⟨O,d,r,t,u,c,q⟩:=h;cases u with
 |lst i g=>cases c;exact By b s σ H _ v j k e f l Q I m n o p ⟨_,_,rfl,i.sq,XM q (BC g e f)⟩
 |tup y i g=>
  have c:(if _ then none else some _:Option R0)=_:=c
  split at c
  . cases c
  . rename_i w;cases c;exact uV b s σ H _ v j k e f l Q I m n o p ⟨_,_,rfl,i,by rw[g.length];exact w,TJ t q (BC g e f)⟩
 |_=>cases c
theorem En{a:Expr}{lo hi:Option Expr}{fa:EF}{fl fh:OF}{pos p2:Pos}(ha:AE X kd a fa)(hl:AO X kd lo fl)(hh:AO X kd hi fh):AE X kd (.Subscript a (.Slice lo hi none p2) pos) (Ym fa fl fh Wk):=by with_unfolding_all exact(yq (P1 oA ha hl hh) λσ H Q h=>by
 obtain⟨F,B,O,as,r,s,R,e,q⟩:=h;obtain⟨⟨p,c⟩,t,e⟩:=bS_ (show(fa as).bind _=_ from e);obtain⟨⟨l,b⟩,x,e⟩:=bS_ e;obtain⟨⟨u,y⟩,A,e⟩:=bS_ e;obtain⟨⟨d,P⟩,C,e⟩:=bS_ e;obtain⟨D,E,e⟩:=bS_ e;obtain⟨z,G,e⟩:=bS_ e;cases e;refine wb R t λv f S I g J=>⟨F,B,f,c,l,b,I,x,λi T R2 n=>⟨F,B,i,b,u,_,R2,A,λj U k o=>?_⟩⟩;exact⟨_,d,D,k.tr _,xh.vw k ((g.grow n).grow o) C,E,YR k G λw K L M m N=>q w K j L M m (((J.trans n).trans o).trans N)⟩)
def ur:D->String
 | .non=>"NoneType" | .bl _=>"bool" | .int _=>"int" | .str _=>"str" | .tup _=>"tuple" | .lst _=>"list" | .dct _=>"dict"|_=>""
def FT:D->Bool
 | .cl _=>false | .ob _ _ _=>false|_=>true
def Ki(t c:String):Bool:=t==c||(t=="bool"&&c=="int")
def Qs(c:String):Bool:=c=="int"||c=="bool"||c=="str"||c=="list"||c=="tuple"||c=="dict"
theorem ui(K:zzA)(d:D)(c:String)(h:Qs c=true)(ho:FT d=true):PySem.W.kitOne K (.type (ur d)) (.type c)=some (Ki (ur d) c):=by
 have:c="int"\/c="bool"\/c="str"\/c="list"\/c="tuple"\/c="dict":=by
  unfold Qs at h;simp only[Bool.or_eq_true,beq_iff_eq]at h
  rcases h with((((h|h)|h)|h)|h)|h<;>simp[h]
 rcases this with rfl|rfl|rfl|rfl|rfl|rfl<;>cases d<;>first|rfl|cases ho
theorem sD(hk:KdOk X kd){pins:List (Addr×Obj)}{σ:St}{H:Hp}{s:Shared}{O:Addr->Prop}{A:Around}{E:Value->Shared->Prop}{Q:Value->Shared->Prop}{c:String}{x:V}{u:Value}{d:D}(I:Inv X pins σ H s)(rx:RelV x u)(vx:Vw X.K kd O H x d)(hc:Qs c=true)(ho:FT d=true)
 (h:∀tk,Q (.bool (Ki (ur d) c)) {s with toks:=tk}):wpAny (model X.prog X.w) A (call (.builtin "isinstance") [u,.type c]) Q E s:=by
 have e:=ui X.K d c hc ho;cases vx with
 |non=>cases rx;exact PySem.W.kia_one PySem.W.kitx_none I.kIn True.intro e (λz=>nomatch z) h
 |bl y=>cases rx;exact PySem.W.kia_one PySem.W.kitx_bool I.kIn True.intro e (λz=>nomatch z) h
 |int i=>obtain⟨t,rfl⟩:=rx;exact PySem.W.kia_one PySem.W.kitx_int I.kIn True.intro e (λz=>nomatch z) h
 |str y=>obtain⟨t,rfl⟩:=rx;exact PySem.W.kia_one PySem.W.kitx_str I.kIn True.intro e (λz=>nomatch z) h
 |lst a j=>
  cases rx;obtain⟨g,k,⟨o,n,b,f,_⟩,_⟩:=I.list a.sq;exact PySem.W.kia_one PySem.W.kitx_list I.kIn ⟨o,b,f⟩ e (λz=>nomatch z) h
 |tup m a j=>
  cases rx;obtain⟨g,k,⟨o,b,f,_⟩,_⟩:=I.tuple a;exact PySem.W.kia_one PySem.W.kitx_tuple I.kIn ⟨o,b,f⟩ e (λz=>nomatch z) h
 |dct a p=>
  cases rx;obtain⟨z,q,r,l,⟨o,v,B,b,f,_⟩⟩:=RJ I hk a;exact PySem.W.kia_one PySem.W.kitx_dict I.kIn ⟨o,b,f.1⟩ e (λz=>nomatch z) h
 |cl=>cases ho
 |ob=>cases ho
end
def Ye:List D->Option (List Int)
 | []=>some []
 | .int i::r=>(Ye r).bind λs=>some (i::s)
 |_::_=>none
def sd:List Int->Int
 | []=>0
 |x::r=>r.foldl (λa b=>if a<b then b else a) x
def uP:List Int->Int
 | []=>0
 |x::r=>r.foldl (λa b=>if b<a then b else a) x
theorem KS:∀(r:List Int) (x:Int),r.foldl (λa b=>if a<b then b else a) x ∈ x::r/\∀a ∈ x::r,a<=r.foldl (λa b=>if a<b then b else a) x
 | [],x=>⟨by simp,by simp⟩
 |y::r,x=>by
  rw[List.foldl_cons];obtain⟨h1,h2⟩:=KS r (if x<y then y else x);refine⟨?_,λa ha=>?_⟩
  . rcases zzC.mp h1 with e|e
    . rw[e];split<;>simp
    . exact zzD _ (zzD _ e)
  . have h3:=h2 _ zzF
    rcases zzC.mp ha with e|e
    . subst e;exact Int.le_trans (by split<;>omega) h3
    . rcases zzC.mp e with e|e
      . subst e;exact Int.le_trans (by split<;>omega) h3
      . exact h2 a (zzD _ e)
theorem Kz:∀(r:List Int) (x:Int),r.foldl (λa b=>if b<a then b else a) x ∈ x::r/\∀a ∈ x::r,r.foldl (λa b=>if b<a then b else a) x<=a
 | [],x=>⟨by simp,by simp⟩
 |y::r,x=>by
  rw[List.foldl_cons];obtain⟨h1,h2⟩:=Kz r (if y<x then y else x);refine⟨?_,λa ha=>?_⟩
  . rcases zzC.mp h1 with e|e
    . rw[e];split<;>simp
    . exact zzD _ (zzD _ e)
  . have h3:=h2 _ zzF
    rcases zzC.mp ha with e|e
    . subst e;exact Int.le_trans h3 (by split<;>omega)
    . rcases zzC.mp e with e|e
      . subst e;exact Int.le_trans h3 (by split<;>omega)
      . exact h2 a (zzD _ e)
theorem JU{ns:List Int}{M:Int}(h1:M ∈ ns)(h2:∀a ∈ ns,a<=M):sd ns=M:=by
 cases ns with
 |nil=>simp at h1
 |cons x r=>
  obtain⟨k1,k2⟩:=KS r x;have a1:=k2 M h1;have a2:=h2 _ k1;show r.foldl _ x=M;omega
theorem Dc{ns:List Int}{M:Int}(h1:M ∈ ns)(h2:∀a ∈ ns,M<=a):uP ns=M:=by
 cases ns with
 |nil=>simp at h1
 |cons x r=>
  obtain⟨k1,k2⟩:=Kz r x;have a1:=k2 M h1;have a2:=h2 _ k1;show r.foldl _ x=M;omega
def rM(f:D->Option R0)(ds:List D):Option R0:=match ds with
 | [x]=>f x
 |_=>none
theorem Gb{K:zzA}{kd:KD}{O:Addr->Prop}{H:Hp}{f:D->Option R0}{xs:List V}{ds:List D}{r:R0}(vl:VwL K kd O H xs ds)(h:rM f ds=some r):∃x d,xs=[x]/\Vw K kd O H x d/\f d=some r:=by
 cases vl with
 |nil=>cases h
 |cons a b=>
  cases b with
  |nil=>exact⟨_,_,rfl,a,h⟩
  |cons _ _=>cases h
def oQ:D->Option R0
 | .lst ds=>some (.im (.int ds.length))
 | .tup ds=>some (.im (.int ds.length))
 | .str x=>if x.length<=sizeLine then some (.im (.int x.length))else none
 | .dct kvs=>some (.im (.int kvs.length))
 |_=>none
def yQ:List D->Option R0:=rM oQ
def nP:D->Option R0
 | .int i=>some (.im (.int i))
 | .bl b=>some (.im (.int (if b then 1 else 0)))
 |_=>none
def Ao:List D->Option R0
 | [.int i]=>if i.natAbs.log2<1920 then some (.im (.str (toString i)))else none
 |_=>none
def tupP:List D->Option R0
 | [.lst ds]=>some (.im (.tup ds))
 | [.tup ds]=>some (.im (.tup ds))
 |_=>none
def oW:D->Option R0
 | .lst ds=>some (.fl ds)
 | .tup ds=>some (.fl ds)
 |_=>none
def lstP:List D->Option R0:=rM oW
def Jo(ds:List D):Option R0:=match ds with
 | [x,y]=>Dh (λi j=>some (.im (.int (if j > i then j else i)))) x y
 | [x]=>(H_ x).bind λds=>(Ye ds).bind λns=>if 0<ns.length then some (.im (.int (sd ns)))else none
 |_=>none
def uS:List D->Option R0
 | [.int i,.int j]=>some (.im (.int (if j<i then j else i)))
 | [.lst ds]=>(Ye ds).bind λns=>if 0<ns.length then some (.im (.int (uP ns)))else none
 |_=>none
theorem xO{K:zzA}{kd:KD}{O:Addr->Prop}{H:Hp}{xs:List V}{d:D}(h:VwL K kd O H xs [d]):∃x,xs=[x]/\Vw K kd O H x d:=by
 cases h with
 |cons a b=>cases b;exact⟨_,rfl,a⟩
theorem AN{K:zzA}{kd:KD}{O:Addr->Prop}{H:Hp}{xs:List V}{d e:D}(h:VwL K kd O H xs [d,e]):∃x y,xs=[x,y]/\Vw K kd O H x d/\Vw K kd O H y e:=by
 cases h with
 |cons a b=>
  cases b with
  |cons b c=>cases c;exact⟨_,_,rfl,a,b⟩
theorem Es{K:zzA}{kd:KD}{O:Addr->Prop}{H:Hp}{vs:List V}{ds:List D}{ns:List Int}(h:RpL K kd O H vs ds)(e:Ye ds=some ns):vs=ns.map V.int:=
 RpL.ind (P:=λvs ds=>∀ns,Ye ds=some ns->vs=ns.map V.int) (λns e=>by cases e;rfl) (λ{v d vs ds} a _ ih ns e=>by
  cases d with
  |int i=>
   obtain⟨s,h1,h2⟩:=bS_ (show(Ye _).bind _=_ from e);cases h2;cases a;rw[ih _ h1];rfl
  |_=>cases e) h ns e
section
variable{X:Cx}{kd:KD}
theorem SI(hk:KdOk X kd):vN X kd (.builtin "len") yQ:=by
 intro pins s σ H xs us Q I r h;obtain⟨O,ds,z,ht,vl,he,q⟩:=h;obtain⟨x,d,rfl,vx,he⟩:=Gb vl he;cases vx with
 |lst hr rl=>cases he;exact YD pins s σ H _ us Q I r ⟨_,_,rfl,.inl hr.sq,by rw[rl.length];exact zX q (.int _)⟩
 |tup rp hr rl=>cases he;exact YD pins s σ H _ us Q I r ⟨_,_,rfl,.inr hr,by rw[rl.length];exact zX q (.int _)⟩
 |str y=>
  obtain⟨c,rfl⟩:=zB he;exact LO pins s σ H _ us Q I r ⟨_,rfl,c,zX q (.int _)⟩
 |dct hr rm=>
  cases he;obtain⟨u,rfl,ru⟩:=vals1 r;cases ru;obtain⟨z,hd,vs,rel,dd⟩:=RJ I hk hr;refine call_len_dict hd dd (by rw[<-rel.length];rw[sizeLine_eq]at z;omega) ?_;rw[<-rel.length,rm.length];exact⟨.int _,H,I.tok _,⟨_,rfl⟩,zX q (.int _)⟩
 |_=>cases he
theorem Hy:vN X kd (.type "str") Ao:=by
 intro pins s σ H xs us Q I r h;obtain⟨O,ds,z,ht,vl,he,q⟩:=h;unfold Ao at he
 split at he
 . obtain⟨c,rfl⟩:=zB he;obtain⟨x,rfl,vx⟩:=xO vl;cases vx;exact LD pins s σ H _ us Q I r ⟨_,rfl,c,zX q (.str _)⟩
 . cases he
theorem S7:vN X kd (.type "tuple") tupP:=by
 intro pins s σ H xs us Q I r h;obtain⟨O,ds,z,ht,vl,he,q⟩:=h;unfold tupP at he
 split at he
 . cases he;obtain⟨x,rfl,vx⟩:=xO vl;cases vx with
   |lst hr rl=>exact Wq pins s σ H _ us Q I r ⟨_,_,rfl,.inl ⟨hr.sq,TJ ht q rl⟩⟩
 . cases he;obtain⟨x,rfl,vx⟩:=xO vl;cases vx with
   |tup rp hr rl=>exact Wq pins s σ H _ us Q I r ⟨_,_,rfl,.inr ⟨hr,zX q rp⟩⟩
 . cases he
theorem HP:vN X kd (.type "list") lstP:=by
 intro pins s σ H xs us Q I r h;obtain⟨O,ds,z,ht,vl,he,q⟩:=h;obtain⟨x,d,rfl,vx,he⟩:=Gb vl he;cases vx with
 |lst hr rl=>cases he;exact Qy pins s σ H _ us Q I r ⟨_,_,rfl,.inl hr.sq,XM q rl⟩
 |tup rp hr rl=>cases he;exact Qy pins s σ H _ us Q I r ⟨_,_,rfl,.inr hr,XM q rl⟩
 |_=>cases he
theorem SY(hc:X.calm=true):vN X kd (.builtin "max") Jo:=by
 intro pins s σ H xs us Q I r h;obtain⟨O,ds,z,ht,vl,he,q⟩:=h;cases vl with
 |nil=>cases he
 |cons vx vl=>
  cases vl with
  |nil=>
   obtain⟨ds,h0,he⟩:=bS_ (show(H_ _).bind _=_ from he);cases Uo h0;obtain⟨ns,h1,he⟩:=bS_ he;obtain⟨c,rfl⟩:=zB he;cases vx with
   |lst hr rl=>
    obtain⟨u,rfl,ru⟩:=vals1 r;cases ru;obtain⟨its,rv,p,_⟩:=I.list hr.sq;rw[Es rl h1]at rv;have hi:=intsAre_of rv;obtain⟨ys,e⟩:=hi.allInts.items;have hns:ns=ys.toList.map (·.1):=by rw[<-hi.numsOf,<-nums_intItems,<-e]
    have hsz:0<ys.size:=by
     have h3:=c;rw[hns,zzB,zyS]at h3;exact h3
    have hl:=p.isList;rw[e]at hl;refine max_intList (I.ok.hd hc) hl hsz λv h' tk hv kp=>?_;obtain⟨t,rfl⟩:=intItems_at hv;obtain⟨k1,k2⟩:=argBest_gt (numAt ys) (ys.size-1);refine⟨.int (sd ns),H,I.kept kp,⟨t, ?_⟩,zX q (.int _)⟩
    congr 1
    refine(JU ?_ λa ha=>?_).symm
    . rw[hns,numAt_eq];have hlt:argBest (λi j=>decide (numAt ys i > numAt ys j)) (ys.size-1)<(ys.toList.map (·.1)).length:=by rw[zzB,zyS];omega
      rw[zyF,zzE hlt];exact zyX hlt
    . rw[hns]at ha;obtain⟨j,hj,rfl⟩:=List.getElem_of_mem ha;have hj':=hj;rw[zzB,zyS]at hj;have:=k2 j (by omega);rw[numAt_eq ys j,zyF,zzE hj']at this;exact this
  |cons vy vl=>
   cases vl with
   |nil=>
    obtain⟨i,j,rfl,rfl,he⟩:=YN vx vy he;cases he;exact Hu hc pins s σ H _ us Q I r ⟨_,_,rfl,zX q (.int _)⟩
   |cons _ _=>cases he
theorem Hf(hc:X.calm=true):vN X kd (.builtin "min") uS:=by
 intro pins s σ H xs us Q I r h;obtain⟨O,ds,z,ht,vl,he,q⟩:=h;unfold uS at he
 split at he
 . cases he;obtain⟨x,y,rfl,vx,vy⟩:=AN vl;cases vx;cases vy;exact He hc pins s σ H _ us Q I r ⟨_,_,rfl,zX q (.int _)⟩
 . obtain⟨ns,h1,he⟩:=bS_ he;obtain⟨c,rfl⟩:=zB he;obtain⟨x,rfl,vx⟩:=xO vl;cases vx with
   |lst hr rl=>
    obtain⟨u,rfl,ru⟩:=vals1 r;cases ru;obtain⟨its,rv,p,_⟩:=I.list hr.sq;rw[Es rl h1]at rv;have hi:=intsAre_of rv;obtain⟨ys,e⟩:=hi.allInts.items;have hns:ns=ys.toList.map (·.1):=by rw[<-hi.numsOf,<-nums_intItems,<-e]
    have hsz:0<ys.size:=by
     have h3:=c;rw[hns,zzB,zyS]at h3;exact h3
    have hl:=p.isList;rw[e]at hl;refine min_intList (I.ok.hd hc) hl hsz λv h' tk hv kp=>?_;obtain⟨t,rfl⟩:=intItems_at hv;obtain⟨k1,k2⟩:=argBest_lt (numAt ys) (ys.size-1);refine⟨.int (uP ns),H,I.kept kp,⟨t, ?_⟩,zX q (.int _)⟩
    congr 1
    refine(Dc ?_ λa ha=>?_).symm
    . rw[hns,numAt_eq];have hlt:argBest (λi j=>decide (numAt ys i<numAt ys j)) (ys.size-1)<(ys.toList.map (·.1)).length:=by rw[zzB,zyS];omega
      rw[zyF,zzE hlt];exact zyX hlt
    . rw[hns]at ha;obtain⟨j,hj,rfl⟩:=List.getElem_of_mem ha;have hj':=hj;rw[zzB,zyS]at hj;have:=k2 j (by omega);rw[numAt_eq ys j,zyF,zzE hj']at this;exact this
 . cases he
end
def xv(env:Env):List (Str×NameKind)->List (Str×Addr)->List (Str×Addr)
 | [],cs=>cs
 |(n,k)::r,cs=>xv env r (if k == .free then((n,(env.cells.lookup n).getD 0)::cs)else cs)
theorem Ve(h:∀x ∈ scope.names,x.2 = .free->∃c,env.cells.lookup x.1=some c):closureFor scope env=pure (xv env scope.names []):=by
 have s:∀(b:List (Str×NameKind)) (i:List (Str×Addr)) (f:Str×NameKind->List (Str×Addr)->Sem (ForInStep (List (Str×Addr)))),
  (∀d g i,f (d,g) i=if g == .free then(do let a <-cellOf env d;pure (.yield ((d,a)::i)))else pure (.yield i))->
  (∀x ∈ b,x.2 = .free->∃c,env.cells.lookup x.1=some c)->(forIn b i f:Sem (List (Str×Addr)))=pure (xv env b i):=by
  intro b
  induction b with
  |nil=>intro i f _ _;rfl
  |cons x r p=>
   intro i f l m;obtain⟨n,k⟩:=x;rw[List.forIn_cons,l];unfold xv
   by_cases j:(k == .free)=true
   . obtain⟨c,q⟩:=m (n,k) zzF (by simpa using j);rw[if_pos j,if_pos j];have e:cellOf env n=pure c:=by unfold cellOf;rw[q]
     rw[e,q];exact p _ f l λy o=>m y (zzD _ o)
   . rw[if_neg j,if_neg j];exact p _ f l λy o=>m y (zzD _ o)
 simp only[closureFor];rw[s scope.names [] _ (λd g i=>?_) h]
 . rfl
 . rfl
theorem Ky:∀(names:List (Str×NameKind)) (cs:List (Str×Addr)) (p:Str×Addr),p ∈ xv env names cs->p ∈ cs\/((p.1,NameKind.free) ∈ names/\p.2=(env.cells.lookup p.1).getD 0)
 | [],_,_,h=>.inl h
 |(n,k)::r,b,p,h=>by
  unfold xv at h
  rcases Ky r _ p h with h|h
  . by_cases a:(k == .free)=true
    . rw[if_pos a]at h
      rcases zzC.mp h with e|h
      . subst e;have:k = .free:=by simpa using a
        subst this;exact .inr ⟨zzF,rfl⟩
      . exact .inl h
    . rw[if_neg a]at h;exact .inl h
  . exact .inr ⟨zzD _ h.1,h.2⟩
theorem T6:∀(names:List (Str×NameKind)) (cs:List (Str×Addr)) (p:Str×Addr),p ∈ cs->p ∈ xv env names cs
 | [],_,_,h=>h
 |(n,k)::r,a,p,h=>by
  unfold xv;refine T6 r _ p ?_
  split
  . exact zzD _ h
  . exact h
theorem G9:∀(names:List (Str×NameKind)) (cs:List (Str×Addr)) (x:Str),(x,NameKind.free) ∈ names->(x,(env.cells.lookup x).getD 0) ∈ xv env names cs
 |(n,k)::r,a,x,h=>by
  unfold xv
  rcases zzC.mp h with e|h
  . cases e;exact T6 r _ _ (by simp)
  . exact G9 r _ x h
theorem ZP:∀{l:List (Str×α)},(∀p ∈ l,p.1=x->p.2=a)->(∃b,(x,b) ∈ l)->l.lookup x=some a
 | [],_,h=>by obtain⟨_,h⟩:=h;cases h
 |(k,v)::r,u,h=>by
  rw[List.lookup_cons];cases hb:x==k with
  |true=>
   have:=u (k,v) zzF (beq_iff_eq.mp hb).symm;exact congrArg some this
  |false=>
   refine ZP (λp c=>u p (zzD _ c)) ?_;obtain⟨b,h⟩:=h
   rcases zzC.mp h with e|h
   . cases e;simp at hb
   . exact⟨b,h⟩
theorem Q9:∀(names:List (Str×NameKind)) (h:Heap) (acc:List (Str×Addr)) (p:Str×Addr),p ∈ cellsFrom h.objs.size names acc->
 p ∈ acc\/((p.1,NameKind.cell) ∈ names/\(pushCells h names).IsCell p.2 none/\h.objs.size<=p.2)
 | [],_,_,_,m=>.inl m
 |(n,k)::r,h,b,p,m=>by
  unfold cellsFrom at m;unfold pushCells
  split at m
  . rename_i a;rw[if_pos a];have e:(h.push {cls:=.type "cell",data:=.cell none}).objs.size=h.objs.size+1:=zxK ..;rw[<-e]at m
    rcases Q9 r _ _ p m with m|⟨c,d,f⟩
    . rcases zzC.mp m with g|m
      . subst g;have:k = .cell:=by simpa using a
        subst this;refine .inr ⟨zzF, ?_,zzN _⟩;have z:(h.push {cls:=.type "cell",data:=.cell none}).IsCell h.objs.size none:=⟨_,zxH _ rfl,rfl⟩;exact z.keeps (pushCells_keeps r _)
      . exact .inl m
    . exact .inr ⟨zzD _ c,d,by rw[e]at f;omega⟩
  . rename_i a;rw[if_neg a]
    rcases Q9 r h b p m with m|⟨c,d,f⟩
    . exact .inl m
    . exact .inr ⟨zzD _ c,d,f⟩
theorem YO:∀(names:List (Str×NameKind)) (n:Nat) (acc:List (Str×Addr)) (p:Str×Addr),p ∈ acc->p ∈ cellsFrom n names acc
 | [],_,_,_,m=>m
 |(_,k)::r,n,a,p,m=>by
  unfold cellsFrom
  split
  . exact YO r _ _ p (zzD _ m)
  . exact YO r _ _ p m
theorem Um:∀(names:List (Str×NameKind)) (n:Nat) (acc:List (Str×Addr)) (x:Str),(x,NameKind.cell) ∈ names->∃c,(x,c) ∈ cellsFrom n names acc
 |(y,k)::r,n,a,x,m=>by
  unfold cellsFrom
  rcases zzC.mp m with e|m
  . cases e;rw[if_pos (by decide)];exact⟨n,YO r _ _ _ zzF⟩
  . split
    . exact Um r _ _ x m
    . exact Um r _ _ x m
theorem Ui:∀(names:List (Str×NameKind)) (n:Nat) (acc:List (Str×Addr)),(∀p ∈ acc,p.2<n)->(∀p ∈ acc,∀q ∈ acc,p.2=q.2->p.1=q.1)->∀p ∈ cellsFrom n names acc,∀q ∈ cellsFrom n names acc,p.2=q.2->p.1=q.1
 | [],_,_,_,h=>h
 |(y,k)::r,n,c,b,h=>by
  unfold cellsFrom
  split
  . refine Ui r (n+1) _ (λp m=>?_) (λp m q a e=>?_)
    . rcases zzC.mp m with z|m
      . subst z;exact Nat.lt_succ_self _
      . exact zyY (b p m)
    . rcases zzC.mp m with z|m
      . rcases zzC.mp a with d|a
        . rw[z,d]
        . subst z;have:=b q a;rw[<-e]at this;exact absurd this (Nat.lt_irrefl _)
      . rcases zzC.mp a with d|a
        . subst d;have:=b p m;rw[e]at this;exact absurd this (Nat.lt_irrefl _)
        . exact h p m q a e
  . exact Ui r n c b h
section
variable{M:Model}{A:Around}{E:Value->Shared->Prop}{s:Shared}
def XF(scope:Scope)(env:Env)(cl:List (Str×Addr))(L:Addr):Env:=
 {scope:=relabel scope env,locals:=L,globals:=env.globals,cells:=cellsFrom (L+1) scope.names cl,qual:=env.qual,func:=none,code:=env.code,frame:=env.frame,builtins:=env.builtins}
theorem N2
 (h:∀h' env',{env' with scope:=relabel scope env}=XF scope env cl s.heap.objs.size->env'.locals=s.heap.objs.size->(∀b o,s.heap.get? b=some o->h'.get? b=some o)->h'.Ns s.heap.objs.size (λ_=>none)->
  (∀p ∈ cellsFrom (s.heap.objs.size+1) scope.names cl,p ∈ cl\/((p.1,NameKind.cell) ∈ scope.names/\h'.IsCell p.2 none/\s.heap.objs.size+1<=p.2))->Q env' {s with heap:=h'}):
 wpAny M A (newFunctionEnv scope env.globals cl [] env.qual none .none (some env)) Q E s:=by
 simp only[newFunctionEnv,Option.isSome_some,if_true];refine zxD (wpAny_alloc ?_);refine zxD (wpAny_layCells _ (λd a c=>by cases hkc:a==NameKind.cell<;>simp[hkc]) _ _ _ _ ?_);have e:(s.heap.push {cls:=.type "dict",data:=.dict #[]}).objs.size=s.heap.objs.size+1:=zxK ..;refine zxD (zxE (zxE (h _ _ ?_ rfl (λb o q=>pushCells_keeps _ _ b o (zxF _ q)) ((Heap.Ns.new s.heap (.type "dict")).keeps (pushCells_keeps _ _)) λp m=>?_)))
 . unfold XF;rw[<-e]
 . rw[<-e]at m
   rcases Q9 _ _ _ p m with m|⟨g,i,f⟩
   . exact .inl m
   . exact .inr ⟨g,i,by rw[e]at f;exact f⟩
end
abbrev yD(X:Cx)(N:List Str)(scope:Scope)(cl:List (Str×Addr))(s:Shared)(H:Hp)(fp:List Addr):Cx:=
 {X with N:=N,s₀:=s,H₀:=H,env:=XF scope X.env cl (s.heap.objs.size+1),outer:=X.stack,ex:=fp,fn:=λx=>scope.names.lookup x==some .cell,pn:=[],xe:=λ_ _=>False}
def qp(σ:St):Option Nat->Option V
 |none=>none
 |some j=>(σ[j]?).getD none
def wm(cap:List (Option Nat))(σ:St):St:=cap.map (qp σ)
def W5(N XN:List Str)(names:List (Str×NameKind))(envNames:List (Str×NameKind))(cap:List (Option Nat)):Bool:=
 N.length==cap.length&&(N.zip cap).all (λp=>match p.2 with|none=>true|some j=>XN[j]? == some p.1&&names.contains (p.1,NameKind.free)) &&
 names.all (λp=>p.2 != .free||envNames.lookup p.1==some .cell||envNames.lookup p.1==some .free)&&decide (names.map (·.1)).Nodup
def HX(X:Cx)(ifs:List Expr)(t:TT):Prop:=
 ∀(pins:List (Addr×Obj)) (s:Shared) (σ:St) (H:Hp) (Q:Bool->Hp->Prop),Inv X pins σ H s->t σ H Q->
  wpAny (model X.prog X.w) X.A (forIn ifs true λc r=>if r=true then do let ok <-isTrue c X.env (eval c X.env);pure (ForInStep.yield ok)else pure (ForInStep.yield r)) (TP X pins σ Q) X.xe s
theorem AC:HX X [] (λ_ H Q=>Q true H):=λa s σ H Q I h=>wpAny_tests_nil ⟨H,I,h⟩
theorem Ae(h:PT X c t):HX X [c] t:=λa s σ H Q I q=>wpAny_tests_one (h a s σ H Q I q)
def CT(wi:TI)(cap:List (Option Nat))(g:TG)(tt:TT)(te:TE):TE:=λσ H Q=>wi σ H λJ H1=>∃W:Nat->Nat->List V->Hp->Prop,(∃m,W 0 m [] H1)/\∀i m ys H,W i m ys H->ys.length<=sizeLine/\
 ((J.stop i H/\∀p,H p=none->Q (.ref p) (upd H p (.lst ys)))\/(J.go i H/\∀x H',J.yld i H x H'->g x (wm cap σ) H' λσ2 H2=>(∀(j:Nat) v,(wm cap σ)[j]? = some (some v)->σ2[j]? = some (some v))/\
   tt σ2 H2 λb H3=>if b=true then ys.length<sizeLine/\te σ2 H3 λy H4=>∃m',m'<m/\W (i+1) m' (ys++[y]) H4 else ∃m',m'<m/\W (i+1) m' ys H3))
section
variable{prog:Program}{w:World}{A:Around}{E:Value->Shared->Prop}{R:Result->Shared->Prop}{s:Shared}
theorem Nl(I:Nat->Shared->Prop)
 (turn:∀n s (E:Value->Shared->Prop),I n s->wpAny (model prog w) A (pyNext it) (λr s₁=>match r with
  |none=>R (.ok .next) s₁
  |some v=>wpAny (model prog w) A (letOwnedTupleGo target it v) (λ_ s₁=>wpAny (model prog w) A (assign target env v) (λ_ s₂=>
   wpAny (model prog w) A (forIn ifs true λc r=>if r=true then do let ok <-isTrue c env (eval c env);pure (ForInStep.yield ok)else pure (ForInStep.yield r)) (λok s₃=>
            if ok=true then wpAny (model prog w) A (eval elt env) (λx s₄=>
             wpAny (model prog w) A (call (.builtin "list.append") [acc,x]) (λ_ s₅=>∃m,m<n/\I m s₅) E s₄) E s₃
            else ∃m,m<n/\I m s₃) E s₂) E s₁) E s₁) E s)
 (n:Nat) (h:I n s):
 codeAny (model prog w) A (.compLoop (.ListComp elt [⟨target,iter,ifs,0⟩] scope pos) 0 it acc env) R s:=by
 refine codeAny_loop rfl I (λn s e=>?_) n h;show wpAny _ A ((compTurn (.ListComp elt [⟨target,iter,ifs,0⟩] scope pos) 0 it acc env).onRaise (λx=>do noteFrame x env;theTreesLotGoes x)) _ _ s;refine wpAny_noted ?_;rw[compTurn_list];refine zxD (wpAny_standAt (zxD (zxL (turn n s _ e) (λr f b=>?_) λ_ _ a=>a)));cases r with
 |none=>exact zxE b
 |some v=>
  refine zxD (zxL b (λ_ f b=>?_) λ_ _ a=>a);refine zxD (zxL b (λ_ k g=>zxD (zxL g (λok l d=>?_) λ_ _ a=>a)) λ_ _ a=>a);cases ok with
  |false=>exact zxE ⟨rfl,d⟩
  |true=>
   exact zxD (zxD (zxL d (λx o i=>zxD (zxL i (λ_ p j=>zxE (zxE ⟨rfl,j⟩)) λ_ _ a=>a)) λ_ _ a=>a))
end
structure CapOk(N XN:List Str)(names:List (Str×NameKind))(envNames:List (Str×NameKind))(cap:List (Option Nat)):Prop where
 len:N.length=cap.length
 at_:∀(i:Nat) x (j:Nat),N[i]? = some x->cap[i]? = some (some j)->XN[j]? = some x/\(x,NameKind.free) ∈ names
 fr:∀p ∈ names,p.2 = .free->envNames.lookup p.1=some .cell\/envNames.lookup p.1=some .free
 nd:(names.map (·.1)).Nodup
theorem Ey(h:W5 N XN names envNames cap=true):CapOk N XN names envNames cap:=by
 unfold W5 at h;simp only[zyC,beq_iff_eq,List.all_eq_true,decide_eq_true_eq]at h;obtain⟨⟨⟨a,b⟩,c⟩,d⟩:=h;refine⟨a,λi x j f g=>?_,λp k e=>?_,d⟩
 . have m:(x,some j) ∈ N.zip cap:=zyA (i:=i) (by rw[List.getElem?_zip_eq_some];exact⟨f,g⟩);have:=b _ m;simp only[zyC,beq_iff_eq]at this;exact⟨this.1,by simpa using this.2⟩
 . have:=c p k;rw[e]at this;simpa using this
theorem LP{names:List (Str×NameKind)}(h:(names.map (·.1)).Nodup){x:Str}{k k':NameKind}(m:(x,k) ∈ names)(m':(x,k') ∈ names):k=k':=by
 induction names with
 |nil=>cases m
 |cons p r ih=>
  obtain⟨h1,h2⟩:=zzW.mp (show(p.1::r.map (·.1)).Nodup from h)
  rcases zzC.mp m with e|m
  . rcases zzC.mp m' with e'|m'
    . rw[<-e]at e';cases e';rfl
    . exact absurd (zxB.mpr ⟨_,m',by rw[<-e]⟩) h1
  . rcases zzC.mp m' with e'|m'
    . exact absurd (zxB.mpr ⟨_,m,by rw[<-e']⟩) h1
    . exact ih h2 m m'
theorem Ug{names:List (Str×NameKind)}(h:(names.map (·.1)).Nodup){x:Str}{k:NameKind}(m:(x,k) ∈ names):names.lookup x=some k:=
 ZP (λp a e=>by obtain⟨y,b⟩:=p;cases(show y=x from e);exact LP h a m) ⟨k,m⟩
theorem Y9(x:Str):(relabel scope env).names.lookup x=(scope.names.lookup x).map λk=>if(k == .free&&env.scope.kind == .function&&env.kindOf x==some .cell)=true then NameKind.cell else k:=by
 unfold relabel;show(scope.names.map _).lookup x=_;generalize scope.names=a
 induction a with
 |nil=>rfl
 |cons p r b=>
  obtain⟨n,k⟩:=p;rw[zyR,List.lookup_cons (k:=n) (as:=r)];cases hb:x==n with
  |true=>
   have e:x=n:=beq_iff_eq.mp hb;subst e;show List.lookup x ((if(k==NameKind.free&&env.scope.kind == .function&&env.kindOf x==some .cell)=true then(x,NameKind.cell)else(x,k))::_)=_;show _=some (if(k==NameKind.free&&env.scope.kind == .function&&env.kindOf x==some .cell)=true then NameKind.cell else k)
   split
   . rw[List.lookup_cons,hb]
   . rw[List.lookup_cons,hb]
  |false=>
   show List.lookup x ((if(k==NameKind.free&&env.scope.kind == .function&&env.kindOf n==some .cell)=true then(n,NameKind.cell)else(n,k))::_)=_
   split
   . rw[List.lookup_cons,hb];exact b
   . rw[List.lookup_cons,hb];exact b
theorem Bg{X:Cx}{pins:List (Addr×Obj)}{σ:St}{H:Hp}{s:Shared}{N:List Str}{scope:Scope}{cap:List (Option Nat)}{fp:List Addr}{h':Heap}(I:Inv X pins σ H s)(C:CapOk N X.N scope.names X.env.scope.names cap)(hk:scope.kind = .function)
 (hf:∀b ∈ fp,Uq X pins H b) (ho:∀b ∈ fp,∃o,s.heap.get? b=some o)
 (old:∀b o,s.heap.get? b=some o->h'.get? b=some o) (ns:h'.Ns (s.heap.objs.size+1) (λ_=>none))
 (hc:∀p ∈ cellsFrom (s.heap.objs.size+1+1) scope.names (xv X.env scope.names []),p ∈ xv X.env scope.names []\/((p.1,NameKind.cell) ∈ scope.names/\h'.IsCell p.2 none/\s.heap.objs.size+1+1<=p.2)):
 Inv (yD X N scope (xv X.env scope.names []) s H fp) [] (wm cap σ) H {s with heap:=h'}:=by
 have has:∀x,(x,NameKind.free) ∈ scope.names->∃c,X.env.cells.lookup x=some c:=λx m=>I.ok.has x (C.fr _ m rfl);have clo:∀p ∈ xv X.env scope.names [],X.env.cells.lookup p.1=some p.2/\(p.1,NameKind.free) ∈ scope.names:=λp m=>by
  rcases Ky _ _ p m with z|⟨z1,z2⟩
  . cases z
  . obtain⟨c,e⟩:=has _ z1;rw[e]at z2;exact⟨by rw[e];exact congrArg some z2.symm,z1⟩
 have look:∀x c,(cellsFrom (s.heap.objs.size+1+1) scope.names (xv X.env scope.names [])).lookup x=some c->(X.env.cells.lookup x=some c/\(x,NameKind.free) ∈ scope.names)\/((x,NameKind.cell) ∈ scope.names/\h'.IsCell c none/\s.heap.objs.size+1+1<=c):=λx c e=>by
  rcases hc _ (mem_of_lookup e)with m|m
  . exact .inl (clo _ m)
  . exact .inr m
 have lt:∀x c,X.env.cells.lookup x=some c->c<s.heap.objs.size:=λx c e=>by obtain⟨v,z⟩:=I.cell x c e;exact z.lt
 have lookF:∀x,(x,NameKind.free) ∈ scope.names->∃c,(cellsFrom (s.heap.objs.size+1+1) scope.names (xv X.env scope.names [])).lookup x=some c/\X.env.cells.lookup x=some c:=λx m=>by
  obtain⟨c,e⟩:=has x m;have m1:=YO scope.names (s.heap.objs.size+1+1) _ _ (G9 (env:=X.env) scope.names [] x m);refine⟨c,ZP (λp hp ep=>?_) ⟨_,m1⟩,e⟩
  rcases hc p hp with z|z
  . have:=(clo p z).1;rw[ep,e]at this;exact(zzZ this).symm
  . rw[ep]at z;exact absurd (LP C.nd z.1 m) (by decide)
 have kinds:∀x,((relabel scope X.env).names.lookup x=some .cell\/(relabel scope X.env).names.lookup x=some .free)->(x,NameKind.free) ∈ scope.names\/(x,NameKind.cell) ∈ scope.names:=λx h=>by
  rw[Y9]at h;cases e:scope.names.lookup x with
  |none=>rw[e]at h;rcases h with h|h<;>cases h
  |some k=>
   have m:=mem_of_lookup e;cases k with
   |free=>exact .inl m
   |cell=>exact .inr m
   |_=>rw[e]at h;rcases h with h|h<;>(simp at h)
 have lsz:s.heap.objs.size+1<h'.objs.size:=ns.lt;refine⟨⟨I.ok.mod,hk,I.ok.glob,I.ok.blt,zyV _, ?_, ?_, ?_,I.ok.hd,I.ok.frames,.inl rfl, ?_,I.bs,zzO I.ok.bsz I.sz, ?_, ?_,I.stack,I.stkFree⟩,rfl,I.bare,(Un.kept old),⟨_,ns, ?_⟩, ?_,I.hok.fresh (zyV _), ?_,(λ_ z=>nomatch z),I.hok.kept old, ?_⟩
 . intro x y c e1 e2;refine Ui scope.names (s.heap.objs.size+1+1) _ (λp m=>?_) (λp m q m' e=>?_) (x,c) (mem_of_lookup e1) (y,c) (mem_of_lookup e2) rfl
   . exact zyY (zyY (lt _ _ (clo p m).1))
   . refine I.ok.inj _ _ _ (clo p m).1 ?_;rw[e];exact(clo q m').1
 . intro x h
   rcases kinds x h with m|m
   . obtain⟨c,e,_⟩:=lookF x m;exact⟨c,e⟩
   . obtain⟨c,e⟩:=Um scope.names (s.heap.objs.size+1+1) (xv X.env scope.names []) x m;cases q:(cellsFrom (s.heap.objs.size+1+1) scope.names (xv X.env scope.names [])).lookup x with
     |some c'=>exact⟨c',q⟩
     |none=>
      exfalso;have:=List.lookup_eq_none_iff.mp q (x,c) e;simp at this
 . intro x c hx e;have hx:(scope.names.lookup x==some .cell)=true:=hx;have m:=mem_of_lookup (beq_iff_eq.mp hx)
   rcases look x c e with z|z
   . exact absurd (LP C.nd z.2 m) (by decide)
   . exact zzO (zzO (zyV _) (zyV _)) z.2.2
 . intro b hb;obtain⟨o,e⟩:=ho b hb;refine⟨zzQ (zyY (zxG e)),λx c ec=>?_⟩
   rcases look x c ec with z|z
   . exact(hf b hb).2.2.2.2.1 x c z.1
   . have:=zxG e;intro q;subst q;exact absurd (zzK this (zzO (zzO (zyV _) (zyV _)) z.2.2)) (Nat.lt_irrefl _)
 . intro b o e hb
   rcases(hf b hb).2.2.2.1 with z|z
   . exact I.ok.noex b o e z
   . exact absurd (zzK (zxG e) (zzO I.ok.bsz z)) (Nat.lt_irrefl _)
 . intro b hb hm
   rcases zzC.mp (I.stkSub b hm)with z|z
   . exact(hf b hb).2.1 z
   . exact(hf b hb).2.2.1 z
 . intro i x v e1 e2 e3;have e2:(wm cap σ)[i]? = some (some v):=e2;unfold wm at e2;rw[zzI]at e2;cases ec:cap[i]? with
   |none=>rw[ec]at e2;cases e2
   |some c=>
    cases c with
    |none=>rw[ec]at e2;cases e2
    |some j=>
     rw[ec]at e2;have e2:(σ[j]?).getD none=some v:=zzZ e2;obtain⟨xn,m⟩:=C.at_ i x j e1 ec;have es:σ[j]? = some (some v):=by
      cases q:σ[j]? with
      |none=>rw[q]at e2;cases e2
      |some y=>rw[q]at e2;exact congrArg some e2
     have kf:=C.fr _ m rfl;obtain⟨mm,hn,hl⟩:=I.loc;obtain⟨u,r,l⟩:=hl j x v xn es (by rcases kf with k|k;exact .inr (.inl k);exact .inr (.inr k));refine⟨u,r,.inr ⟨?_, ?_⟩⟩
     . show(relabel scope X.env).names.lookup x=some .cell\/(relabel scope X.env).names.lookup x=some .free;rw[Y9,Ug C.nd m];show some (if _ then _ else _)=_\/some (if _ then _ else _)=_
       split
       . exact .inl rfl
       . exact .inr rfl
     . obtain⟨c,ec,eo⟩:=lookF x m;refine⟨c,ec, ?_⟩
       rcases l with⟨k1,_⟩|⟨_,c2,e4,z⟩
       . have k1:X.env.scope.names.lookup x=some .local:=k1
         rcases kf with k|k<;>(rw[k1]at k;cases k)
       . rw[eo]at e4;cases e4;exact z.keeps old
 . intro x c e
   rcases look x c e with z|z
   . obtain⟨v,q⟩:=I.cell x c z.1;exact⟨v,q.keeps old⟩
   . exact⟨none,z.2.1⟩
 . intro x c e
   rcases look x c e with z|z
   . exact I.freeC x c z.1
   . exact I.hok.fresh (zzO (zzO (zyV _) (zyV _)) z.2.2)
 . show(wm cap σ).length=N.length;unfold wm;rw[zzB,C.len]
abbrev lobj(its:List Value):Obj:={cls:=.type "list",data:=.seq its.toArray its.length}
section
variable{X:Cx}{pins:List (Addr×Obj)}{σ:St}{H2:Hp}{s2:Shared}{elt tg iter:Expr}{ifs:List Expr}{scope:Scope}{pos:Pos}{N:List Str}{cap:List (Option Nat)}{g:TG}{tt:TT}{te:TE}{wi:TI}
set_option maxHeartbeats 1000000
theorem PX{J:It}{it:Addr}{fp:List Addr}{tn:Nat->Heap->Prop}{Q:VK}{R:Value->Addr->Result->Shared->Prop}{E:Value->Shared->Prop}
 (hc:X.calm=true) (C:CapOk N X.N scope.names X.env.scope.names cap) (hk:scope.kind = .function)
 (hg:∀cl s H fp,PG (yD X N scope cl s H fp) tg g) (ht:∀cl s H fp,HX (yD X N scope cl s H fp) ifs tt) (he:∀cl s H fp,PE (yD X N scope cl s H fp) elt te)
 (I2:Inv X pins σ H2 s2) (T:Turn X.prog X.w X.K tg J fp it tn) (st2:tn 0 s2.heap) (f2:∀b ∈ fp,Uq X pins H2 b)
 (W:Nat->Nat->List V->Hp->Prop) (m0:Nat) (w0:W 0 m0 [] H2)
 (turn:∀i m ys H,W i m ys H->ys.length<=sizeLine/\((J.stop i H/\∀p,H p=none->Q (.ref p) (upd H p (.lst ys)))\/(J.go i H/\∀x H',J.yld i H x H'->g x (wm cap σ) H' λσ2 H2=>(∀(j:Nat) v,(wm cap σ)[j]? = some (some v)->σ2[j]? = some (some v))/\
  tt σ2 H2 λb H3=>if b=true then ys.length<sizeLine/\te σ2 H3 λy H4=>∃m',m'<m/\W (i+1) m' (ys++[y]) H4 else ∃m',m'<m/\W (i+1) m' ys H3)))
 (fin:∀ys H3 s1 m,Inv X pins σ (upd H3 s2.heap.objs.size (.lst ys)) s1->s1.heap.Ns (s2.heap.objs.size+1) m->Uq X pins (upd H3 s2.heap.objs.size (.lst ys)) (s2.heap.objs.size+1)->
  Q (.ref s2.heap.objs.size) (upd H3 s2.heap.objs.size (.lst ys))->R (.ref s2.heap.objs.size) (s2.heap.objs.size+1) (.ok .next) s1):
 wpAny (model X.prog X.w) X.A (newList []) (λacc s₃=>wpAny (model X.prog X.w) X.A (newFunctionEnv scope X.env.globals (xv X.env scope.names []) [] X.env.qual none .none (some X.env)) (λcenv s₄=>
  codeAny (model X.prog X.w) X.A (.compStart (.ListComp elt [⟨tg,iter,ifs,0⟩] scope pos) 0 (.ref it) acc {cenv with scope:=relabel scope X.env}) (R acc cenv.locals) s₄) E s₃) E s2:=by
 refine zxI (N2 λh' env' eE eL old hns hcells=>?_);have e1:(s2.heap.push {cls:=.type "list",dict:=none,data:=.seq ([]:List Value).toArray}).objs.size=s2.heap.objs.size+1:=zxK ..;dsimp only at eE eL old hns hcells;rw[e1]at eE eL hns hcells;have hD0:(s2.heap.push {cls:=.type "list",dict:=none,data:=.seq ([]:List Value).toArray}).get? s2.heap.objs.size=some (lobj []):=zxH _ rfl;have hD:h'.get? s2.heap.objs.size=some (lobj []):=old _ _ hD0;have old':∀b o,s2.heap.get? b=some o->h'.get? b=some o:=λb o q=>old b o (zxF _ q);have fex:∀b ∈ fp,∃o,s2.heap.get? b=some o:=λb hb=>by obtain⟨o,e,_⟩:=T.obj _ _ st2 b hb;exact⟨o,e⟩
 have flt:∀b ∈ fp,b<s2.heap.objs.size:=λb hb=>by obtain⟨o,e⟩:=fex b hb;exact zxG e
 have I':=Bg I2 C hk f2 fex old' hns hcells;rw[eE,eL];generalize hX:yD X N scope (xv X.env scope.names []) s2 H2 fp=X' at I';have xP:X'.prog=X.prog:=by rw[<-hX]
 have xw:X'.w=X.w:=by rw[<-hX]
 have xK:X'.K=X.K:=by rw[<-hX]
 have xA:X'.A=X.A:=by rw[<-hX]
 have xe:X'.env=XF scope X.env (xv X.env scope.names []) (s2.heap.objs.size+1):=by rw[<-hX]
 have xL:X'.env.locals=s2.heap.objs.size+1:=by rw[xe];rfl
 have xfs:X'.fs=H0 X.stack:=by rw[<-hX]
 have xex:X'.ex=fp:=by rw[<-hX]
 have xs:X'.s₀=s2:=by rw[<-hX]
 have xH:X'.H₀=H2:=by rw[<-hX]
 have xpn:X'.pn=[]:=by rw[<-hX]
 have xc:X'.calm=true:=by rw[<-hX];exact hc
 have xE:X'.xe=λ_ _=>False:=by rw[<-hX]
 have hg':PG X' tg g:=by rw[<-hX];exact hg _ _ _ _
 have ht':HX X' ifs tt:=by rw[<-hX];exact ht _ _ _ _
 have he':PE X' elt te:=by rw[<-hX];exact he _ _ _ _
 have H2D:H2 s2.heap.objs.size=none:=I2.hok.fresh (zzN _);have Dfs:s2.heap.objs.size ∉ X'.fs:=by
  rw[xfs];intro hm
  rcases zzC.mp (I2.stkSub _ hm)with z|z
  . exact absurd I2.lt (by rw[<-z];exact Nat.lt_irrefl _)
  . exact I2.nofs (zzN _) z
 have DL:s2.heap.objs.size≠X'.env.locals:=by rw[xL];exact zzQ (Nat.lt_succ_self _)
 have pinD:∀{σ':St}{H':Hp}{s':Shared}{its:List Value}{ps:List (Addr×Obj)},Inv X' ps σ' H' s'->s'.heap.get? s2.heap.objs.size=some (lobj its)->H' s2.heap.objs.size=none->Inv X' [(s2.heap.objs.size,lobj its)] σ' H' s':=λI e n=>
  I.pins_of λp hp=>by
   cases zzR.mp hp;exact⟨e,n,DL,Dfs,λv z=>by cases z⟩
 have stat:∀{H':Hp}{its:List Value},(∀b ∈ fp,H' b=none)->∀b ∈ fp,Uq X' [(s2.heap.objs.size,lobj its)] H' b:=λhn b hb=>by
  refine⟨hn b hb, ?_, ?_,.inl (by rw[xex];exact hb),(I'.ok.exf b (by rw[xex];exact hb)).2,λp hp=>?_⟩
  . exact(I'.ok.exf b (by rw[xex];exact hb)).1
  . exact I'.ok.exfs b (by rw[xex];exact hb)
  . rw[xpn,List.nil_append]at hp;cases zzR.mp hp;exact Nat.ne_of_gt (flt b hb)
 have loop:∀(n:Nat) (s':Shared),(∃i ys its H3,Inv X' [(s2.heap.objs.size,lobj its)] (wm cap σ) H3 s'/\tn i s'.heap/\(∀b ∈ fp,H3 b=none)/\zQ ys its/\W i n ys H3)->
  codeAny (model X.prog X.w) X.A (.compLoop (.ListComp elt [⟨tg,iter,ifs,0⟩] scope pos) 0 (.ref it) (.ref s2.heap.objs.size) (XF scope X.env (xv X.env scope.names []) (s2.heap.objs.size+1)))
   (R (.ref s2.heap.objs.size) (s2.heap.objs.size+1)) s':=by
  intro n s' h0;refine Nl (λn s'=>∃i ys its H3,Inv X' [(s2.heap.objs.size,lobj its)] (wm cap σ) H3 s'/\tn i s'.heap/\(∀b ∈ fp,H3 b=none)/\zQ ys its/\W i n ys H3) ?_ n h0;clear h0 n s'
  rintro n s3 E' ⟨i,ys,its,H3,I3,st3,fr3,rv3,w3⟩
  obtain⟨hz,hstep⟩:=turn i n ys H3 w3
  rcases hstep with⟨stop,qn⟩|⟨go,step⟩
  . have:=T.done X' xP xw xK xc i _ s3 _ H3 E' I3 (stat fr3) st3 stop;rw[xA]at this;refine zxL this (λr s4 ⟨hr,I4⟩=>?_) λ_ _ z=>z;subst hr;obtain⟨gD,nD,_⟩:=I4.pin (s2.heap.objs.size,lobj its) (by rw[xpn];simp);obtain⟨m,hn,_⟩:=I4.loc;rw[xL]at hn;have b4:=I4.base;rw[xfs,xex,xH,xs]at b4;have nL:H3 (s2.heap.objs.size+1)=none:=by have:=I4.free;rw[xL]at this;exact this
    have neD:∀b o,s2.heap.get? b=some o->b≠s2.heap.objs.size:=λb o e=>zzQ (zxG e);have neH:∀b u,H2 b=some u->b≠s2.heap.objs.size:=λb u e z=>by rw[z,H2D]at e;cases e
    have ne3:∀b u,H3 b=some u->b≠s2.heap.objs.size:=λb u e z=>by rw[z,nD]at e;cases e
    have hok4:=I4.hok;rw[xP,xw]at hok4;refine fin ys H3 s4 m (I2.call' (ch:=fp) ?_ ⟨b4.keep,b4.slot,λb o e n hx=>?_,b4.there,λb xs e=>?_,λb o u e=>?_,λb ps e=>?_⟩ ?_ I4.bare λb hb=>?_) hn (I2.fpOk (zyV _) (by rw[zE (Nat.ne_of_gt (Nat.lt_succ_self _))];exact nL)) (qn _ nD)
    . have:=I4.os;rw[xs]at this;exact this
    . rw[zE (neD b o e)];exact b4.free b o e n hx
    . rw[zE (neH b _ e)];exact b4.tups b xs e
    . rw[zE (neH b _ e)];exact b4.frzs b o u e
    . rw[zE (neH b _ e)];exact b4.tbls b ps e
    . intro b u e
      by_cases hb:b=s2.heap.objs.size
      . subst hb;rw[zV]at e;cases e;exact⟨hz,its,its.length,rv3,gD⟩
      . rw[zE hb]at e;exact(hok4 b u e).stay (λc v _ q=>q) (λc q=>by rw[zE (ne3 c _ q)];exact q) λc xs q=>by rw[zE (ne3 c _ q)];exact q
    . obtain⟨f0,f1,f3,f4,f5,f6⟩:=f2 b hb;exact⟨f4,f1,f5,f6⟩
  . have:=T.item X' xP xw xK xc i _ s3 _ H3 E' I3 (stat fr3) st3 go;rw[xA]at this;refine zxL this (λr s4 ⟨u,hr,h4⟩=>?_) λ_ _ z=>z;subst hr;refine zxL h4 (λ_ s5 ⟨x,H5,I5,r5,y5,st5,fr5⟩=>?_) λ_ _ z=>z;have I5':=I5.pinned (stat fr5) (T.obj _ _ st5);have h6:=hg' _ s5 _ H5 x u _ I5' r5 (step x H5 y5);rw[xP,xw,xA,xe,xE]at h6;refine zxL h6 (λ_ s6 ⟨σ6,H6,I6,cap6,q6⟩=>?_) λ_ _ z=>z.elim;have h7:=ht' _ s6 σ6 H6 _ I6 q6;rw[xP,xw,xA,xe,xE]at h7;refine zxL h7 (λb s7 ⟨H7,I7,q7⟩=>?_) λ_ _ z=>z.elim;have keep:∀{H8:Hp}{s8:Shared},Inv X' ([(s2.heap.objs.size,lobj its)]++GA fp s5.heap) σ6 H8 s8->Inv X' [(s2.heap.objs.size,lobj its)] (wm cap σ) H8 s8/\tn (i+1) s8.heap/\∀b ∈ fp,H8 b=none:=λ{H8 s8} I8=>by
     refine⟨I8.unpinned.weak ?_ cap6,T.keep _ _ _ st5 λb hb o e=>(I8.pin (b,o) (zzL _ (zzL _ (Ys hb e)))).1,λb hb=>?_⟩
     . rw[I3.len];exact I8.len.symm
     . obtain⟨o,e,d⟩:=T.obj _ _ st5 b hb;exact(I8.pin (b,o) (zzL _ (zzL _ (Ys hb e)))).2.1
    cases b with
    |false=>
     obtain⟨m',hm,w7⟩:=q7;obtain⟨k1,k2,k3⟩:=keep I7;exact⟨m',hm,i+1,ys,its,H7,k1,k2,k3,rv3,w7⟩
    |true=>
     obtain⟨hz2,q7⟩:=q7;have h8:=he' _ s7 σ6 H7 _ I7 q7;rw[xP,xw,xA,xe,xE]at h8;show wpAny _ _ _ _ _ _;refine zxL h8 (λyv s8 ⟨y,H8,I8,ry,m',hm,w8⟩=>?_) λ_ _ z=>z.elim;obtain⟨k1,k2,k3⟩:=keep I8;obtain⟨gD,nD,_⟩:=k1.pin (s2.heap.objs.size,lobj its) (by rw[xpn];simp);have hl:=rv3.length;refine append_at gD (λh9 sb gD9=>?_) (by rw[zzH];omega);have I9:Inv X' [] (wm cap σ) H8 {s8 with heap:=h9}:=(k1.pins_of (pins':=[]) (λ_ z=>nomatch z)).turned (t':=s8.toks) (it:=s2.heap.objs.size) (λb o hb e=>(sb.2 b hb).trans e) nD DL (.inr (by rw[xs];exact zzN _)) (λx c ec z=>by
      obtain⟨v,o,ho,hd⟩:=k1.cell x c ec;rw[z,gD]at ho;cases ho;cases hd) (λp hp=>by rw[xpn]at hp;cases hp)
     have gD9':h9.get? s2.heap.objs.size=some (lobj (its++[yv])):=by
      rw[gD9]
      congr 1
      show({cls:=.type "list",data:=.seq (its.toArray.push yv) (its.length+1)}:Obj)={cls:=.type "list",data:=.seq (its++[yv]).toArray (its++[yv]).length};rw[zzJ,List.length_singleton,List.push_toArray]
     refine⟨m',hm,i+1,ys++[y],its++[yv],H8,pinD I9 gD9' nD,T.keep _ _ _ k2 λb hb o e=>(sb.2 b (zzQ (flt b hb))).trans e,k3,rv3.append (.cons ry .nil),w8⟩
 have start:∃i ys its H3,Inv X' [(s2.heap.objs.size,lobj its)] (wm cap σ) H3 {s2 with heap:=h'}/\tn i h'/\(∀b ∈ fp,H3 b=none)/\zQ ys its/\W i m0 ys H3:=
  ⟨0,[],[],H2,pinD I' hD H2D,T.keep _ _ _ st2 λb hb o e=>old' b o e,λb hb=>(f2 b hb).1,.nil,w0⟩
 exact codeAny_compStart_list (loop m0 _ start) (T.self _ 0 _ _ _ (T.keep _ _ _ st2 λb hb o e=>old' b o e) (loop m0 _ start))
theorem JB(hc:X.calm=true)(hi:PI X tg iter wi)(hk:scope.kind = .function)(hcap:W5 N X.N scope.names X.env.scope.names cap=true)
 (hg:∀cl s H fp,PG (yD X N scope cl s H fp) tg g) (ht:∀cl s H fp,HX (yD X N scope cl s H fp) ifs tt) (he:∀cl s H fp,PE (yD X N scope cl s H fp) elt te)
 (hs:∀x,foldedSetIterable iter X.env x=pure x):PE X (.ListComp elt [⟨tg,iter,ifs,0⟩] scope pos) (CT wi cap g tt te):=by
 intro a s σ H Q I h;have C:=Ey hcap;rw[eval_ListComp];refine wpAny_comprehension_free (use:=none) rfl hs (Ve λx m e=>I.ok.has x.1 (C.fr x m e)) hk (λy m e=>Ug C.nd (by rw[<-e];exact m)) ?_;refine yY (hi a s σ H _ I h) λv O i=>yY i λj k l=>?_;obtain⟨P,S,U,J,V,e,n,T,d,f2,W,⟨p,t⟩,c⟩:=l;subst e;refine PX (R:=λf C r u=>compPost (model X.prog X.w) X.A X.xe none (EP X a σ Q) f C r u) hc C hk hg ht he n T d f2 W p t c λY Z z m B D fl q=>?_;refine⟨m,D,λh' E=>?_⟩;obtain⟨F,f1,f3,G,K,L⟩:=fl;exact⟨.ref k.heap.objs.size,_,B.turned (t':=z.toks) (λb o M e=>(E.2 b M).trans e) F f1 G K L,rfl,q⟩
theorem JS(hN:X.N.Nodup)(hiy:X.N[i]? = some y)(hy:Loc X.env.scope y)(hf:X.fn y=true\/X.env.scope.names.lookup y=some .local)
 (hsw:swapsWith (.ListComp elt [⟨tg,iter,ifs,0⟩] scope pos) (some (.Name y py)) spos.line X.env=pure true)
 (hc:X.calm=true) (hi:PI X tg iter wi) (hk:scope.kind = .function) (hcap:W5 N X.N scope.names X.env.scope.names cap=true)
 (hg:∀cl s H fp,PG (yD X N scope cl s H fp) tg g) (ht:∀cl s H fp,HX (yD X N scope cl s H fp) ifs tt) (he:∀cl s H fp,PE (yD X N scope cl s H fp) elt te)
 (hs:∀x,foldedSetIterable iter X.env x=pure x):PS X (.Assign [.Name y py] (.ListComp elt [⟨tg,iter,ifs,0⟩] scope pos) spos) (rG (CT wi cap g tt te) (Yk i)):=by
 intro c s σ H D I h;have C:=Ey hcap;rw[exec_Assign_Name_used _ _ _ _ hsw];refine zxD (wpAny_standAt (zxD ?_));show wpAny _ X.A (do let _ <-comprehension (.ListComp elt [⟨tg,iter,ifs,0⟩] scope pos) scope X.env _ (newList []) false (eval iter X.env) (some (assign (.Name y py) X.env))) _ _ s;refine zxD (zxL (wpAny_comprehension_free (use:=some (assign (.Name y py) X.env)) (Q:=λ_ d=>SP X c D .next d) rfl hs (Ve λx m e=>I.ok.has x.1 (C.fr x m e)) hk (λy m e=>Ug C.nd (by rw[<-e];exact m)) ?_) (λ_ d t=>zxE (zxE t)) λ_ _ e=>e);refine yY (hi c s σ H _ I h) λv s1 u=>yY u λB E F=>?_;obtain⟨it,fp,tn,J,H2,e,G,T,k,f2,W,⟨K,L⟩,f⟩:=F;subst e;refine PX (Q:=λx M=>Yk i x σ M D.nx) (R:=λl C r d=>compPost (model X.prog X.w) X.A X.xe (some (assign (.Name y py) X.env)) (λ_ d=>SP X c D .next d) l C r d) hc C hk hg ht he G T k f2 W K L f λys H3 s3 m O P fl q=>?_;obtain⟨S,f1,f3,U,p,V⟩:=fl;refine wpAny_assign_Name (Kj O hN hiy hy (v:=.ref E.heap.objs.size) rfl (λY Z ⟨a,sb,j⟩=>?_) hf);refine⟨m,P.sameBut sb (λz=>?_),λh' n=>?_⟩
 . rcases j with j|j
   . exact f1 (z.trans j)
   . exact p y a j z.symm
 . exact⟨_,_,Z.turned (t':=Y.toks) (λb o hb e=>(n.2 b hb).trans e) S f1 U p V,q⟩
end
structure ItC(K:zzA)(kd:KD)(F:Addr->Prop)(H:Hp)(J:It)(ds:List wg):Prop where
 all:∀(H2:Hp) (T:Addr->Prop),(∀b u,H b=some u->H2 b=some u)->(∀a,T a->H a=none/\H2 a≠none)->∀i,(i<ds.length->J.go i H2)/\(ds.length<=i->J.stop i H2)/\
  ∀v H3,J.yld i H2 v H3->(∀b o,H2 b=some o->H3 b=some o)/\∀x,ds[i]? = some x->Rp K kd (λa=>x.1=true/\(F a\/T a)) H3 v x.2
def mM(K:zzA)(kd:KD)(f:IF):TI:=λσ H R=>∃F B ad as ds as',Rel K kd F B [] ad as σ H/\f as=some (ds,as')/\
 ∀J ad' H',Rel K kd F B [] ad' as' σ H'->Grow (Gw [] ad) H (Gw [] ad') H'->ItC K kd (Lv F B (Gw [] ad') true) H' J ds->R J H'
@[irreducible] def DQ(X:Cx)(kd:KD)(tg iter:Expr)(f:IF):Prop:=PI X tg iter (mM X.K kd f)
def YJ(os:List O):List wg:=os.map λo=>match o with | .lf st d=>(st,d)|o=>(false,o.toD)
def uz(as:AS):RV->Option (List wg)
 | .ow o=>Th (o.str,o.toD)
 | .bo i=>match as[i]? with
  |some (some (.nd .ls os))=>some (YJ os)
  |some (some (.nd .tp os))=>some (YJ os)
  |_=>none
def yB(f:EF):IF:=λas=>(f as).bind λp=>(uz p.2 p.1).bind λds=>some (ds,p.2)
section
variable{K:zzA}{kd:KD}{F B:Addr->Prop}{G:Addr->Prop}{T:List Addr}{ad:Ad}{as:AS}{σ:St}{H H':Hp}
inductive RpC(K:zzA)(kd:KD)(F:Addr->Prop)(H:Hp):List V->List wg->Prop
 |nil:RpC K kd F H [] []
 |cons {v:V}{x:wg}{vs:List V}{ds:List wg}:Rp K kd (λa=>x.1=true/\F a) H v x.2->RpC K kd F H vs ds->RpC K kd F H (v::vs) (x::ds)
theorem RpC.length{vs:List V}{ds:List wg}(h:RpC K kd F H vs ds):vs.length=ds.length:=by
 induction h with
 |nil=>rfl
 |cons _ _ ih=>exact congrArg (· + 1) ih
theorem RpC.get{vs:List V}{ds:List wg}{i:Nat}{x:wg}(h:RpC K kd F H vs ds)(e:ds[i]? = some x):∃v,vs[i]? = some v/\Rp K kd (λa=>x.1=true/\F a) H v x.2:=by
 induction h generalizing i with
 |nil=>simp at e
 |cons h r ih=>
  cases i with
  |zero=>simp at e;subst e;exact⟨_,rfl,h⟩
  |succ i=>
   obtain⟨v,h1,h2⟩:=ih (i:=i) (by simpa using e);exact⟨v,by simpa using h1,h2⟩
theorem Rp.since{Ob:Addr->Prop}{v:V}{d:D}{T:Addr->Prop}(k:∀b u,H b=some u->H' b=some u)(hT:∀a,T a->H a=none)(h:Rp K kd Ob H v d):Rp K kd (Vz Ob T) H' v d:=
 Rp.grow (F:=Ob) (W:=λ_=>False) (W':=T) (H':=H') ⟨λb u q _=>k b u q,λb z=>.inr (hT b z)⟩ (h.less λa z=>z.elim id False.elim)
theorem Ga{st:Bool}{vs:List V}{ds:List D}(h:RpL K kd (Lv F B G st) H vs ds):RpC K kd (Lv F B G true) H vs (kids st ds):=
 RpL.ind (P:=λvs ds=>RpC K kd (Lv F B G true) H vs (kids st ds)) .nil (λ{v d vs ds} h _ ih=>by
  refine .cons (x:=(zD d||st,d)) ?_ ih;cases e:zD d with
  |true=>exact h.flat e
  |false=>
   refine h.less λa z=>?_;have zs:st=true:=z.1;rw[zs];exact z.2) h
theorem Dq{vs:List V}{os:List O}{fp:List Addr}(h:xt K kd F B G H vs os fp):RpC K kd (Lv F B G true) H vs (YJ os):=
 RoL.ind (P:=λvs os _=>RpC K kd (Lv F B G true) H vs (YJ os)) .nil (λ{v o vs os fp fq} h _ ih=>by
  have ha:=Nn h;refine .cons ?_ ih;cases h with
  |lf rp=>exact rp.less λa z=>(by have zs:=z.1;dsimp only at zs;rw[zs];exact z.2)
  |ls=>exact ha.less λa z=>nomatch z.1
  |dc=>exact ha.less λa z=>nomatch z.1
  |ob=>exact ha.less λa z=>nomatch z.1
  |tp=>exact ha.less λa z=>nomatch z.1) h
theorem TH{a:Addr}{vs:List V}{ds:List wg}(h:ZT K H a vs)(r:RpC K kd F H vs ds):ItC K kd F H (ud K a) ds:=⟨λH3 T k hT i=>by
 have hr3:ZT K H3 a vs:=by
  rcases h with(h|⟨o,h⟩)|h
  . exact .inl (.inl (k _ _ h))
  . exact .inl (.inr ⟨o,k _ _ h⟩)
  . exact .inr h
 refine⟨λhi=>?_,λhi=>⟨_,hr3,by rw[r.length];exact hi⟩,λv H4 hy=>?_⟩
 . obtain⟨u,hu,_⟩:=r.get (zzE hi);exact⟨_,u,hr3,hu⟩
 . obtain⟨rfl,hv⟩:=hy;refine⟨λ_ _ z=>z,λd hd=>?_⟩;obtain⟨u,hu,ru⟩:=r.get hd;have:=hv _ hr3;rw[hu]at this;cases this;exact(ru.since k λa z=>(hT a z).1).less λa z=>z.2.elim (λy=>.inl ⟨z.1,y⟩) .inr⟩
theorem Sl{a:Addr}{vs:List V}{ds:List wg}(h:Q2 K H a vs)(r:RpC K kd F H vs ds):ItC K kd F H (oq K a) ds:=⟨λH3 T k hT i=>by
 have hr3:Q2 K H3 a vs:=by
  rcases h with(h|⟨o,h⟩)|h
  . exact .inl (.inl (k _ _ h))
  . exact .inl (.inr ⟨o,k _ _ h⟩)
  . exact .inr h
 refine⟨λhi=>?_,λhi=>⟨_,hr3,by rw[r.length];exact hi⟩,λv H4 hy=>?_⟩
 . obtain⟨u,hu,_⟩:=r.get (zzE hi);exact⟨_,u,hr3,hu⟩
 . obtain⟨rfl,hv⟩:=hy;refine⟨λ_ _ z=>z,λd hd=>?_⟩;obtain⟨u,hu,ru⟩:=r.get hd;have:=hv _ hr3;rw[hu]at this;cases this;exact(ru.since k λa z=>(hT a z).1).less λa z=>z.2.elim (λy=>.inl ⟨z.1,y⟩) .inr⟩
theorem Ap(lo:Int)(n:Nat):ItC K kd F H (rN lo n) (yP lo n):=⟨λH2 T k hT i=>by
 have hl:(yP lo n).length=n:=by unfold yP;simp
 refine⟨λhi=>by rw[hl]at hi;exact hi,λhi=>by rw[hl]at hi;exact hi,λv H3 hy=>?_⟩;obtain⟨rfl,rfl⟩:=hy;refine⟨λ_ _ z=>z,λd hd=>?_⟩;have hi:i<n:=by rw[<-hl];exact(zzG.mp hd).1
 unfold yP at hd;rw[zzI,List.getElem?_range hi]at hd;cases hd;exact .int _⟩
end
theorem sQ{X:Cx}{kd:KD}{tg e:Expr}{fa:EF}(he:AE X kd e fa):DQ X kd tg e (yB fa):=by
 with_unfolding_all (
 intro pins s σ H R I h;obtain⟨F,B,ad,as,ds,as',Rl,e,q⟩:=h;obtain⟨⟨p,as1⟩,h1,e⟩:=bS_ (show(fa as).bind _=_ from e);obtain⟨ys,h2,e⟩:=bS_ e;cases e;cases p with
 |ow o=>
  have h2:Th (o.str,o.toD)=some ds:=h2;generalize hd:o.toD=d at h2;cases d with
  |lst xs=>
   cases h2;refine QU he pins s σ H R I ⟨F,B,ad,as,_,as1,Rl,h1,λv T1 ad1 H1 R1 rv1 g1=>?_⟩;have rp:=L8 R1 rv1;rw[hd]at rp;cases rp with
   |lst hn hr rl=>exact⟨_,rfl,⟨_,.inl hr⟩,q _ ad1 H1 R1.drop (g1.trans (Grow.less Gw.drop)) (TH (.inl hr) (Ga rl))⟩
   |lstK a b c rl=>exact⟨_,rfl,⟨_,.inr ⟨_,_,_,a,rfl,rfl,rfl,b,c⟩⟩,q _ ad1 H1 R1.drop (g1.trans (Grow.less Gw.drop)) (TH (.inr ⟨_,_,_,a,rfl,rfl,rfl,b,c⟩) (Ga rl))⟩
  |tup xs=>
   cases h2;refine Ft he pins s σ H R I ⟨F,B,ad,as,_,as1,Rl,h1,λv T1 ad1 H1 R1 rv1 g1=>?_⟩;have rp:=L8 R1 rv1;rw[hd]at rp;have go:∃a ys,v = .ref a/\Q2 X.K H1 a ys/\RpL X.K kd (Lv F B (Gw [] ad1) o.str) H1 ys xs:=by
    cases rp with
    |tup n h r=>exact⟨_,_,rfl,.inl h,r⟩
    |tupK a b c e f r=>exact⟨_,_,rfl,.inr ⟨_,_,_,a,b,c,e,f⟩,r⟩
   obtain⟨a,ys,rfl,hs,rl⟩:=go;exact⟨_,rfl,⟨_,hs⟩,q _ ad1 H1 R1.drop (g1.trans (Grow.less Gw.drop)) (Sl hs (Ga rl))⟩
  |_=>cases h2
 |bo i=>
  have h2:(match as1[i]? with|some (some (.nd .ls os))=>some (YJ os)|some (some (.nd .tp os))=>some (YJ os)|_=>none)=some ds:=h2;cases k:as1[i]? with
  |none=>rw[k]at h2;cases h2
  |some s0=>
   rw[k]at h2
   match s0,h2,k with
   |some (.nd .ls os),h2,k=>
    cases h2;refine QU he pins s σ H R I ⟨F,B,ad,as,_,as1,Rl,h1,λv T1 ad1 H1 R1 rv1 g1=>?_⟩;obtain⟨rfl,hs⟩:=rv1;obtain⟨w,hw,ro⟩:=R1.sl i _ k;rw[hs]at hw;cases hw;generalize hfp:ad1 i=fp at ro;cases ro with
    |ls hH rl=>exact⟨_,rfl,⟨_,.inl (.inl hH)⟩,q _ ad1 H1 R1 g1 (TH (.inl (.inl hH)) (Dq rl))⟩
   |some (.nd .tp os),h2,k=>
    cases h2;refine Ft he pins s σ H R I ⟨F,B,ad,as,_,as1,Rl,h1,λv T1 ad1 H1 R1 rv1 g1=>?_⟩;obtain⟨rfl,hs⟩:=rv1;obtain⟨w,hw,ro⟩:=R1.sl i _ k;rw[hs]at hw;cases hw;generalize hfp:ad1 i=fp at ro;cases ro with
    |tp n hH rl=>exact⟨_,rfl,⟨_,.inl (.inl hH)⟩,q _ ad1 H1 R1 g1 (Sl (.inl (.inl hH)) (Dq rl))⟩)
theorem Z4{X:Cx}{kd:KD}{tg a:Expr}{pos:Pos}{fr:AF}{p:Pos}(hg:Gl X "range")(hm:X.mg "range"=none)(ha:AA X kd [a] fr)(hs:starEach [a] X.env=[(false,eval a X.env)]):DQ X kd tg (.Call (.Name "range" p) [a] [] pos) (yi fr ym):=by
 with_unfolding_all (
 intro pins s σ H R I h;obtain⟨F,B,ad,as,ds,as',Rl,e,q⟩:=h;obtain⟨⟨ps,as1⟩,h1,e⟩:=bS_ (show(fr as).bind _=_ from e);obtain⟨⟨xs,lv⟩,h2,e⟩:=bS_ e;obtain⟨ys,h3,e⟩:=bS_ e;cases e;obtain⟨j,rfl,h3⟩:=B_ h3
 . obtain⟨hj,e3⟩:=zB h3;cases e3;refine Ke hg hm ha hs pins s σ H R I ⟨F,B,ad,as,ps,_,Rl,h1,λvs ad1 H1 R1 rv1 g1=>?_⟩;have vl:=Wh R1 rv1 h2;cases vl with
   |cons v1 v2=>
    cases v2;cases v1;exact⟨j,rfl,hj.1,hj.2,q _ ad1 H1 R1 g1 (Ap 0 _)⟩)
def o6(as:AS):Option Nat->Option O
 |none=>none
 |some j=>match as[j]? with
  |some (some (.lf st d))=>some (.lf st d)
  |some (some o)=>some (.lf false o.toD)
  |_=>none
def wC(cap:List (Option Nat))(as:AS):AS:=cap.map (o6 as)
def yy(g:GF)(tt:TF)(fe:EF)(as0:AS):List wg->Option (List O)
 | []=>some []
 |x::r=>(g x as0).bind λas1=>(tt as1).bind λb=>if b.1=true then(fe b.2).bind λp=>(Jj p.2 p.1).bind λq=>if q.1.str=true then(yy g tt fe as0 r).bind λos=>some (q.1::os)else none
  else yy g tt fe as0 r
def zq(fi:IF)(cap:List (Option Nat))(g:GF)(tt:TF)(fe:EF):EF:=λas=>(fi as).bind λp=>if p.1.length<=sizeLine then(yy g tt fe (wC cap p.2) p.1).bind λos=>some (.ow (.nd .ls os),p.2)else none
def zM:TF:=λas=>some (true,as)
section
variable{K:zzA}{kd:KD}{F B:Addr->Prop}{T:List Addr}{ad:Ad}{as:AS}{σ:St}{H H':Hp}{cap:List (Option Nat)}
theorem JZ(R:Rel K kd F B [] ad as σ H)(k:∀b u,H b=some u->H' b=some u)(hT:∀a ∈ T,H a=none)(hT':∀a ∈ T,H' a≠none):
 Rel K kd (Vz (Lv F B (Gw [] ad) true) (· ∈ T)) (λ_=>False) [] (λ_=>[]) (wC cap as) (wm cap σ) H':=by
 have no:∀a,¬Gw [] (λ_=>[]) a:=λa z=>z.elim (λy=>nomatch y) λ⟨_,y⟩=>nomatch y;have kn:∀a,H a≠none->H' a≠none:=λa z=>by
  cases e:H a with
  |none=>exact absurd e z
  |some u=>rw[k a u e];simp
 have up:∀{st:Bool}{v:V}{d:D},Rp K kd (λa=>st=true/\Lv F B (Gw [] ad) true a) H v d->Rp K kd (Lv (Vz (Lv F B (Gw [] ad) true) (· ∈ T)) (λ_=>False) (Gw [] λ_=>[]) st) H' v d:=λ{st v d} h=>by
  have:=Rp.grow (F:=λa=>st=true/\Lv F B (Gw [] ad) true a) (W:=λ_=>False) (W':=(· ∈ T)) (H':=H') ⟨λb u q _=>k b u q,λb z=>.inr (hT b z)⟩ (h.less λa z=>z.elim id False.elim);refine this.less λa z=>?_
  rcases z with(⟨z1,z2⟩|z)|z
  . rcases z2 with z2|z2
    . exact .inl ⟨z1,z2⟩
    . exact .inr z2
  . exact z.elim
  . exact(no a z).elim
 refine⟨by unfold wC wm;rw[zzB,zzB],λ_ _=>rfl,λ_=>zyI,(λ_ _ _ z=>nomatch z),zyI,(λ_ _ _ z=>nomatch z),λa z=>z.elim (λy=>kn a (R.trk true a y)) (hT' a),(λ_ z=>z.elim),λa z=>(no a z).elim,λi s e=>?_⟩;unfold wC at e;rw[zzI]at e;obtain⟨c,hc,rfl⟩:=zzX.mp e;have es:(wm cap σ)[i]? = some (qp σ c):=by
  unfold wm;rw[zzI,hc];rfl
 rw[es];cases c with
 |none=>rfl
 |some j=>
  show P6 _ _ _ _ _ _ (match as[j]? with|some (some (.lf st d))=>some (.lf st d)|some (some o)=>some (.lf false o.toD)|_=>none) _ _;cases k2:as[j]? with
  |none=>rfl
  |some s0=>
   cases s0 with
   |none=>rfl
   |some o=>
    obtain⟨v,hv,ro⟩:=R.sl j _ k2;cases o with
    |lf st d=>
     have e0:ad j=[]:=by
            generalize hfp:ad j=fp at ro;cases ro;rfl
     rw[e0]at ro;refine⟨v,by show some ((σ[j]?).getD none)=_;rw[hv];rfl,.lf (up ?_)⟩;exact(P7 ro).less λa z=>by have zs:st=true:=z.1;show Lv F B (Gw [] ad) st a;rw[zs];exact z.2
    |nd kk os=>exact⟨v,by show some ((σ[j]?).getD none)=_;rw[hv];rfl,.lf (up ((Nn ro).less λa z=>nomatch z.1))⟩
theorem IU{S:List Nat}{fi:IF}{g:GF}{tt:TF}{fe:EF}{Q:VK}(hS:∀i ∈ S,cap[i]? = some none)(h:al K kd (zq fi cap g tt fe) σ H Q):
 CT (mM K kd fi) cap (og K kd S g) (JE K kd tt) (al K kd fe) σ H Q:=by
 obtain⟨F,B,ad,as,r,as',R,e,q⟩:=h;obtain⟨⟨ds,as1⟩,h1,e⟩:=bS_ (show(fi as).bind _=_ from e)
 by_cases hz:ds.length<=sizeLine
 . have e:(if ds.length<=sizeLine then(yy g tt fe (wC cap as1) ds).bind λos=>some (RV.ow (.nd .ls os),as1)else none)=some (r,as'):=e;rw[if_pos hz]at e;obtain⟨os,h2,e⟩:=bS_ e;cases e;refine⟨F,B,ad,as,ds,as',R,h1,λJ ad1 H1 R1 g1 it=>?_⟩;refine⟨λi m ys H3=>m+i=ds.length/\∃T os1 os2,os=os1++os2/\yy g tt fe (wC cap as') (ds.drop i)=some os2/\os1.length<=i/\T.Nodup/\(∀a ∈ T,H1 a=none/\H3 a≠none)/\(∀b u,H1 b=some u->H3 b=some u)/\
    RoL (λ_ v d=>Rp K kd (Vz (Lv F B (Gw [] ad1) true) (· ∈ T)) H3 v d) (λa=>¬Vz (Lv F B (Gw [] ad1) true) (· ∈ T) a) H3 ys os1 T,⟨ds.length,rfl,[],[],os,rfl,h2,zzN _,zyI,(λ_ m=>nomatch m),(λ_ _ z=>z),.nil⟩, ?_⟩
   rintro i m ys H3 ⟨hm,T,os1,os2,eo,ec,hl,tnd,tf,k3,rl⟩
   obtain⟨i1,i2,i3⟩:=it.all H3 (· ∈ T) k3 tf i;have yl:=rl.length;refine⟨by omega, ?_⟩
   by_cases hi:i<ds.length
   . refine .inr ⟨i1 hi,λv H4 hy=>?_⟩;obtain⟨k4,rp⟩:=i3 v H4 hy;rw[zyP hi]at ec;obtain⟨as2,e2,ec⟩:=bS_ (show(g _ _).bind _=_ from ec);obtain⟨⟨b,as3⟩,e3,ec⟩:=bS_ ec;have k14:∀b u,H1 b=some u->H4 b=some u:=λb u h=>k4 b u (k3 b u h);have kn4:∀a,H3 a≠none->H4 a≠none:=λa z=>by
      cases e:H3 a with
      |none=>exact absurd e z
      |some u=>rw[k4 a u e];simp
     have R4:=JZ (cap:=cap) (T:=T) R1 k14 (λa z=>(tf a z).1) (λa z=>kn4 a (tf a z).2);have no:∀a,¬Gw [] (λ_=>[]) a:=λa z=>z.elim (λy=>nomatch y) λ⟨_,y⟩=>nomatch y;refine⟨_,_,_,_,ds[i],as2,R4,(rp _ (zzE hi)).less λa z=>?_,e2,λσ5 ad5 H5 R5 g5 keep5=>⟨λj w hw=>?_,_,_,ad5,as2,b,as3,R5,e3,λad6 H6 R6 g6=>?_⟩⟩
     . rcases z with(z|z)|z
       . exact z
       . exact z.elim
       . exact(no a z).elim
     . rw[keep5 j λz=>?_]
       . exact hw
       . have:=hS j z;unfold wm at hw;rw[zzI,this]at hw;cases hw
     . -- what stood is kept
       have g46:=g5.trans g6;have k46:∀b u,H4 b=some u->H6 b=some u:=λb u h=>g46.keep b u h (no b);have k36:∀b u,H3 b=some u->H6 b=some u:=λb u h=>k46 b u (k4 b u h);have kn6:∀a,H3 a≠none->H6 a≠none:=λa z=>by
        cases e:H3 a with
        |none=>exact absurd e z
        |some u=>rw[k36 a u e];simp
       have up:∀{H7:Hp}{T2:List Addr},(∀b u,H3 b=some u->H7 b=some u)->(∀a ∈ T2,H3 a=none)->RoL (λ_ v d=>Rp K kd (Vz (Lv F B (Gw [] ad1) true) (· ∈ T++T2)) H7 v d) (λa=>¬Vz (Lv F B (Gw [] ad1) true) (· ∈ T++T2) a) H7 ys os1 T:=λ{H7 T2} k7 f7=>
        RoL.mono (λst v d r=>(r.since k7 f7).less λa z=>z.elim (λy=>.inl (.inl y)) λy=>(zzM.mp y).elim (λx=>.inl (.inr x)) .inr)
         (λa vs n e=>⟨λz=>z.elim (λy=>n (.inl y)) λy=>(zzM.mp y).elim (λx=>n (.inr x)) λx=>(by have:=f7 a x;rw[this]at e;cases e),k7 _ _ e⟩) (λa _ u h=>k7 a u h) rl
       cases b with
       |false=>
        have:=up (T2:=[]) k36 (λ_ m=>nomatch m);rw[zyE]at this;exact⟨m-1,by omega,by omega,T,os1,os2,eo,ec,Nat.le_succ_of_le hl,tnd,λa z=>⟨(tf a z).1,kn6 a (tf a z).2⟩,λb u h=>k36 b u (k3 b u h),this⟩
       |true=>
        rw[if_pos rfl]at ec;obtain⟨⟨p,as7⟩,e7,ec⟩:=bS_ ec;obtain⟨⟨o,as8⟩,e8,ec⟩:=bS_ ec
        by_cases hs:o.str=true
        . have ec:(if o.str=true then(yy g tt fe (wC cap as') (ds.drop (i+1))).bind λos=>some (o::os)else none)=some os2:=ec;rw[if_pos hs]at ec;obtain⟨os3,e9,ec⟩:=bS_ ec;cases ec;refine⟨by omega,_,_,ad6,as3,p,as7,R6,e7,λy T2 ad7 H7 R7 rv7 g7=>?_⟩;obtain⟨ad8,R8,ro8,le8⟩:=T8 R7 rv7 e8;have g47:=g46.trans g7;have k47:∀b u,H4 b=some u->H7 b=some u:=λb u h=>g47.keep b u h (no b);have k37:∀b u,H3 b=some u->H7 b=some u:=λb u h=>k47 b u (k4 b u h);have f42:∀a ∈ T2,H4 a=none:=λa z=>(g47.own a (.inl z)).resolve_left (no a);have f32:∀a ∈ T2,H3 a=none:=λa z=>by
             cases e:H3 a with
             |none=>rfl
             |some u=>have:=k4 a u e;rw[f42 a z]at this;cases this
          have rt:=E9 R8 R8.tnd (λa z=>.inl z) ro8 hs;have ro9:Ro (λ_ v d=>Rp K kd (Vz (Lv F B (Gw [] ad1) true) (· ∈ T++T2)) H7 v d) (λa=>¬Vz (Lv F B (Gw [] ad1) true) (· ∈ T++T2) a) H7 y o T2:=
             Ro.mono (λst v d r=>r.less λa z=>z.elim (λy=>.inl (.inl y)) λy=>(zzM.mp y).elim (λx=>.inl (.inr x)) .inr)
              (λa vs n e=>⟨λz=>n (z.elim (λy=>.inl (.inl y)) λy=>(zzM.mp y).elim (λx=>.inl (.inr x)) .inr),e⟩) (λ_ _ _ h=>h) rt.ro
          refine⟨m-1,by omega,by omega,T++T2,os1++[o],os3,by rw[eo,zxA];rfl,e9,by rw[zzJ,List.length_singleton];omega,zxC.mpr ⟨tnd,rt.nd,λa z b z' e=>?_⟩,λa z=>?_,λb u h=>k37 b u (k3 b u h),(up k37 f32).append (RoL.one ro9)⟩
          . subst e;exact(tf a z).2 (f32 a z')
          . rcases zzM.mp z with z|z
            . refine⟨(tf a z).1, ?_⟩;cases e:H3 a with
              |none=>exact absurd e (tf a z).2
              |some u=>rw[k37 a u e];simp
            . refine⟨?_,rt.tr a z⟩;cases e:H1 a with
              |none=>rfl
              |some u=>have:=k3 a u e;rw[f32 a z]at this;cases this
        . have ec:(if o.str=true then(yy g tt fe (wC cap as') (ds.drop (i+1))).bind λos=>some (o::os)else none)=some os2:=ec;rw[if_neg hs]at ec;cases ec
   . refine .inl ⟨i2 (by omega),λp hp=>?_⟩;rw[List.drop_eq_nil_of_le (by omega)]at ec;cases ec;rw[zyE]at eo;subst eo;have pT:p ∉ T:=λz=>(tf p z).2 hp;have H1p:H1 p=none:=by
      cases e:H1 p with
      |none=>rfl
      |some u=>have:=k3 p u e;rw[hp]at this;cases this
     have kp:∀b u,H3 b=some u->upd H3 p (.lst ys) b=some u:=λb u h=>by rw[zE (yh h hp)];exact h
     obtain⟨R9,g9⟩:=R1.news (T':=p::T) (H':=upd H3 p (.lst ys)) (zzW.mpr ⟨pT,tnd⟩) (λa z=>(zzC.mp z).elim (λe=>by rw[e];exact H1p) λz=>(tf a z).1) (λb u h=>kp b u (k3 b u h)) (λa z=>by
      rcases zzC.mp z with e|z
      . rw[e,zV];simp
      . cases e:H3 a with
        |none=>exact absurd e (tf a z).2
        |some u=>rw[kp a u e];simp)
     refine q _ (p::T) ad1 _ R9 (.ls zV ?_) (g1.trans g9);have le:∀st a,Lv F B (Gw (p::T) ad1) st a->Vz (Vz (Lv F B (Gw [] ad1) true) (· ∈ T)) (· = p) a:=λst a z=>by
      rcases z with(z|z)|z|z
      . exact .inl (.inl (.inl (.inl ⟨rfl,z.2⟩)))
      . exact .inl (.inl (.inl (.inr z)))
      . exact(zzC.mp z).elim .inr λy=>.inl (.inr y)
      . exact .inl (.inl (.inr (.inr z)))
     exact RoL.mono (λst v d r=>(r.since kp (T:=(· = p)) λa z=>by rw[z];exact hp).less (le st)) (λa vs n e=>⟨λz=>(le true a z).elim n λy=>(by rw[y,hp]at e;cases e),kp _ _ e⟩) (λa _ u h=>kp a u h) rl
 . have e:(if ds.length<=sizeLine then(yy g tt fe (wC cap as1) ds).bind λos=>some (RV.ow (.nd .ls os),as1)else none)=some (r,as'):=e;rw[if_neg hz]at e;cases e
end
section
variable{X:Cx}{kd:KD}{elt tg iter e a b c:Expr}{es ifs:List Expr}{scope:Scope}{pos:Pos}{N:List Str}{cap:List (Option Nat)}{g:GF}{tt:TF}{fe fa fb:EF}{fi:IF}{S:List Nat}{fr:AF}{fd:DF}
theorem Qe:HX X [] (JE X.K kd zM):=λa s σ H Q I h=>by
 obtain⟨F,B,c,as,b,d,R,e,q⟩:=h;cases e;exact AC a s σ H Q I (q c H R Grow.refl)
theorem JY(h:AT X kd c tt):HX X [c] (JE X.K kd tt):=by with_unfolding_all exact(Ae h)
theorem QT(hc:X.calm=true)(hi:DQ X kd tg iter fi)(hk:scope.kind = .function)(hcap:W5 N X.N scope.names X.env.scope.names cap=true)(hS:S.all (λi=>cap[i]? == some none)=true)
 (hg:∀cl s H fp,AG (yD X N scope cl s H fp) kd tg S g) (ht:∀cl s H fp,HX (yD X N scope cl s H fp) ifs (JE X.K kd tt)) (he:∀cl s H fp,AE (yD X N scope cl s H fp) kd elt fe)
 (hs:∀x,foldedSetIterable iter X.env x=pure x):AE X kd (.ListComp elt [⟨tg,iter,ifs,0⟩] scope pos) (zq fi cap g tt fe):=by with_unfolding_all exact(yq (JB (g:=og X.K kd S g) (te:=al X.K kd fe) hc hi hk hcap hg ht he hs) λσ H Q h=>IU (λi m=>by simpa using List.all_eq_true.mp hS i m) h)
theorem A9(hN:X.N.Nodup)(hiy:X.N[i]? = some y)(hy:Loc X.env.scope y)(hf:X.fn y=true\/X.env.scope.names.lookup y=some .local)
 (hsw:swapsWith (.ListComp elt [⟨tg,iter,ifs,0⟩] scope pos) (some (.Name y py)) spos.line X.env=pure true)
 (hc:X.calm=true) (hi:DQ X kd tg iter fi) (hk:scope.kind = .function) (hcap:W5 N X.N scope.names X.env.scope.names cap=true) (hS:S.all (λi=>cap[i]? == some none)=true)
 (hg:∀cl s H fp,AG (yD X N scope cl s H fp) kd tg S g) (ht:∀cl s H fp,HX (yD X N scope cl s H fp) ifs (JE X.K kd tt)) (he:∀cl s H fp,AE (yD X N scope cl s H fp) kd elt fe)
 (hs:∀x,foldedSetIterable iter X.env x=pure x):GN X kd (.Assign [.Name y py] (.ListComp elt [⟨tg,iter,ifs,0⟩] scope pos) spos) (zx z i (zq fi cap g tt fe)):=by with_unfolding_all exact(vq (JS (g:=og X.K kd S g) (te:=al X.K kd fe) hN hiy hy hf hsw hc hi hk hcap hg ht he hs) λD σ H h=>by
 obtain⟨F,B,c,as,o,R,e,q⟩:=h;obtain⟨⟨p,a⟩,d,e⟩:=bS_ (show(zq fi cap g tt fe as).bind _=_ from e);obtain⟨⟨y,f⟩,j,e⟩:=bS_ e;obtain⟨k,e⟩:=zB e;cases e;refine IU (Q:=λx l=>Yk i x σ l D.nx) (λi m=>by simpa using List.all_eq_true.mp hS i m) ⟨F,B,c,as,p,a,R,d,λv A n r t u g=>?_⟩;obtain⟨b,R2,w⟩:=Iu t u j k;exact q _ b r R2 (g.trans (Grow.less w)))
theorem Bn(F:FnOk X.prog X.w X.K X.mg X.base Ko k f fdt ps (Jl X.K kd gg))(hr:Room k X.A)(hg:Gl X x)(hm:X.mg x=some (.ref f))(hk:PySem.W.keepIn X.K (.ref f)=true)
 (hb:Binds X.K fdt ps []) (hx:TB Ko X (λ_ _ _=>False)) (ha:AA X kd (e::es) fr) (hdb:(x==("__debug__":Str))=false) (he:starEach (e::es) X.env=(false,eval e X.env)::starEach es X.env) (hpl:(backTo pos (starEach es X.env)).any (·.1)=false):
 AE X kd (.Call (.Name x p) (e::es) [] pos) (zg fr gg):=by with_unfolding_all exact(yq (Bm F hr hg hm hk hb .nil hx ha hdb he hpl) λσ H Q h=>s9 h)
theorem tN{id:String}{gg:List D->Option R0}{x:Str}{p:Pos}(hc:vN X kd (.builtin id) gg)(hg:Gl X x)(hm:X.mg x=none)(hv:bootBuiltins x=some (.builtin id))(ha:AA X kd (e::es) fr)(hn:x≠"__name__")(hdb:(x==("__debug__":Str))=false)
 (he:starEach (e::es) X.env=(false,eval e X.env)::starEach es X.env) (hpl:(backTo pos (starEach es X.env)).any (·.1)=false):AE X kd (.Call (.Name x p) (e::es) [] pos) (fP fr gg):=by with_unfolding_all exact(yq (PM hc hg hm hv ha hn hdb he hpl) λσ H Q h=>mn (λ_ _ _ z=>z) h)
theorem sA(hc:vN X kd (.type T) gg)(hg:Gl X x)(hm:X.mg x=none)(hv:bootBuiltins x=some (.type T))(ha:AA X kd (e::es) fr)(hn:x≠"__name__")(hdb:(x==("__debug__":Str))=false)
 (he:starEach (e::es) X.env=(false,eval e X.env)::starEach es X.env) (hpl:(backTo pos (starEach es X.env)).any (·.1)=false):AE X kd (.Call (.Name x p) (e::es) [] pos) (fP fr gg):=by with_unfolding_all exact(yq (SO hc hg hm hv ha hn hdb he hpl) λσ H Q h=>mn (λ_ _ _ z=>z) h)
def Mt(fa:EF)(c:String):EF:=λas=>(fa as).bind λp=>(p.1.frz.view p.2).bind λx=>if FT x.1=true then some (.ow (.lf true (.bl (Ki (ur x.1) c))),p.2)else none
theorem IS(hk:KdOk X kd):YY X (.builtin "isinstance") (λxs H Q=>∃x c O d,xs=[x,.ty c]/\Qs c=true/\Vw X.K kd O H x d/\FT d=true/\Q (.bl (Ki (ur d) c)) H):=by
 intro b s σ H l m Q I r h;obtain⟨x,c,O,d,rfl,e,f,g,q⟩:=h;cases r with
 |cons i a=>
  cases a with
  |cons a j=>
   cases j;cases(show _=Value.type c from a);exact sD hk I i f e g λk=>⟨.bl _,H,I.tok k,rfl,q⟩
theorem Ni{c:String}{x y:Str}{p p2:Pos}(hkd:KdOk X kd)(hc:Qs c=true)(hg:Gl X x)(hm:X.mg x=none)(hv:bootBuiltins x=some (.builtin "isinstance"))(hg2:Gl X y)(hm2:X.mg y=none)(hv2:bootBuiltins y=some (.type c))(ha:AE X kd a fa)
 (hn:x≠"__name__") (hdb:(x==("__debug__":Str))=false) (hn2:y≠"__name__") (hdb2:(y==("__debug__":Str))=false)
 (he:starEach [a,.Name y p2] X.env=(false,eval a X.env)::starEach [.Name y p2] X.env) (he2:starEach [.Name y p2] X.env=(false,eval (.Name y p2) X.env)::starEach [] X.env) (hpl:(backTo pos (starEach [.Name y p2] X.env)).any (·.1)=false):
 AE X kd (.Call (.Name x p) [a,.Name y p2] [] pos) (Mt fa c):=by with_unfolding_all exact(yq (PM (IS hkd) hg hm hv (wR ha (wR (Am (v:=.ty c) hg2 hm2 hv2 rfl hn2 hdb2) YT he2) he) hn hdb he hpl) λσ H Q h=>by
 obtain⟨F,B,s,as,r,i,R,e,q⟩:=h;obtain⟨⟨p,j⟩,k,e⟩:=bS_ (show(fa as).bind _=_ from e);obtain⟨⟨d,t⟩,l,e⟩:=bS_ e;obtain⟨m,e⟩:=zB e;cases e;exact wb R k λv b n g f o=>⟨v,c,_,d,rfl,hc,xh.vw g f l,m,q _ [] b n g (.lf (.bl _)) o⟩)
def yx:MG:=λos es=>match es with | [o]=>if os.length<sizeLine then some (os++[o],.lf true .non)else none|_=>none
def Xr:MG:=λos es=>match es with | [.lf _ (.int i)]=>if -(2 ^ 63)<=i/\i<2 ^ 63 then(seqIndex? i os.length).bind λk=>(os[k]?).bind λo=>some (os.eraseIdx k,o)else none|_=>none
def Ml:MG:=λos es=>match es with | [.nd .ls ps]=>if os.length+ps.length<=sizeLine then some (os++ps,.lf true .non)else none|_=>none
theorem De{l f fo g:List Addr}(h:l.Nodup)(e:l=f++(fo++g)):((f++g)++fo).Nodup/\∀a ∈ (f++g)++fo,a ∈ l:=by
 subst e;have p:(f++(fo++g)).Perm ((f++g)++fo):=by
  rw[zxA];exact(List.perm_append_comm).append_left f
 exact⟨p.nodup_iff.mp h,λa m=>p.mem_iff.mpr m⟩
theorem u9:qF X kd L9 yx:=by
 intro F B G l f p q r g o s t H Q h c b d e k;unfold yx at e
 split at e
 . obtain⟨i,e⟩:=zB e;cases e;cases b with
   |cons j n=>
    cases n;rw[zyE]at d k;exact⟨l,f,_,rfl,rfl,h,by rw[c.length];exact i,k _ _ _ [] (c.append (RoL.one j)) (.lf .non) (λa m=>by rwa [zyE]at m) (by rw[zyE];exact d)⟩
 . cases e
theorem Ck:qF X kd IJ Xr:=by
 intro F B G l g E I J h o K L H Q m b a c e k;unfold Xr at e
 split at e
 . rename_i M i
   split at e
   . rename_i d;obtain⟨j,n,e⟩:=bS_ e;obtain⟨N,p,e⟩:=bS_ e;cases e;obtain⟨v,f,q,r,s,t,u,w,x⟩:=b.at_ p;cases a with
     |cons y z=>
      cases z;cases y with
      |lf A=>
       cases A;rw[zyE,zyE]at c k;obtain⟨C,D⟩:=De c t;refine⟨l,g,i,j,v,rfl,rfl,m,d.1,d.2,by rw[b.length];exact n,s,k v _ (f++r) q ?_ u D C⟩;rw[RM,RM];exact w.append x
   . cases e
 . cases e
theorem uk:qF X kd Bv Ml:=by
 intro F B G l h y z A i o C D H Q j d c f e k;unfold Ml at e
 split at e
 . rename_i E;obtain⟨n,e⟩:=zB e;cases e;cases c with
   |cons p q=>
    cases q;cases p with
    |ls r g=>
     rename_i b s I;rw[zyE]at f k;obtain⟨t,u,v⟩:=zxC.mp f;obtain⟨J,w⟩:=zzW.mp u;refine⟨l,b,h,s,rfl,rfl,j,r,by rw[d.length,g.length];exact n,k .non _ _ [] (d.append g) (.lf .non) (λa m=>?_) ?_⟩
     . rw[zyE]at m
       rcases zzM.mp m with m|m
       . exact zzP _ m
       . exact zzL _ (zzD _ m)
     . rw[zyE];exact zxC.mpr ⟨t,w,λa m b x=>v a m b (zzD _ x)⟩
 . cases e
theorem E5{i:Nat}{x:Str}{gg:MG}{r:V->List V->Hp->VK->Prop}{name:Str}{id:String}{apos cpos p:Pos}(hm:pz X id r)(hr:qF X kd r gg)(slot:Slot "list" name id)(hty:typeOf (.builtin id)=pure (.type "method_descriptor"))(ho:PE X (.Name x p) (vm i))(ha:AD X kd (e::es) fd)
 (hbase:attributeBase (.Name x p) name X.env (eval (.Name x p) X.env)=eval (.Name x p) X.env)
 (hfew:((backTo cpos (starEach (e::es) X.env)).all (λx=>!x.1)&&(backToKw cpos (keywordEach [] X.env)).all (λx=>x.1.isSome)
  && decide ((e::es).length+([]:List Keyword).length+(if([]:List Keyword).isEmpty then 0 else 1)<30))=true)
 (hline:(apos.endLine==cpos.line)=true) (hs:starEach (e::es) X.env=(false,eval e X.env)::starEach es X.env) (hplain:(backTo cpos (starEach es X.env)).any (·.1)=false):
 AE X kd (.Call (.Attribute (.Name x p) name apos) (e::es) [] cpos) (yt i fd gg):=by with_unfolding_all exact(yq (Cd PySem.F.plainAttrs_list slot hty hm ho ha hbase hfew hline hs hplain) λσ H Q h=>qu hr h)
end
inductive Ty where
 |str|lst|dct|int
def Ty.nm:Ty->String
 | .str=>"str" | .lst=>"list" | .dct=>"dict" | .int=>"int"
def G3:Ty->D->Bool
 | .str,.str _=>true
 | .lst,.lst _=>true
 | .dct,.dct _=>true
 | .int,.int _=>true
 |_,_=>false
def mJ(X:Cx)(T:String)(x:V)(H:Hp):Prop:=∀(pins:List (Addr×Obj)) (σ:St) (s:Shared) (v:Value),Inv X pins σ H s->RelV x v->s.TypeIs v T/\∀a,v = .ref a->∃ob,s.heap.get? a=some ob/\ob.dict=none
def mI(X:Cx)(T:String)(r:V->List V->Hp->VK->Prop)(to:TE)(t:TA):TE:=λσ H Q=>to σ H λx H1=>mJ X T x H1/\t σ H1 λxs H2=>r x xs H2 Q
section
variable{X:Cx}{kd:KD}{o e:Expr}{es:List Expr}{to:TE}{t:TA}{name:Str}{apos cpos:Pos}{T id:String}{r:V->List V->Hp->VK->Prop}
theorem pe(pa:PlainAttrs T)(slot:Slot T name id)(hty:typeOf (.builtin id)=pure (.type "method_descriptor"))(hm:ot X id r)(ho:PE X o to)(ha:PA X (e::es) t)
 (hbase:attributeBase o name X.env (eval o X.env)=eval o X.env)
 (hfew:((backTo cpos (starEach (e::es) X.env)).all (λx=>!x.1)&&(backToKw cpos (keywordEach [] X.env)).all (λx=>x.1.isSome)
  && decide ((e::es).length+([]:List Keyword).length+(if([]:List Keyword).isEmpty then 0 else 1)<30))=true)
 (hline:(apos.endLine==cpos.line)=true) (hs:starEach (e::es) X.env=(false,eval e X.env)::starEach es X.env) (hplain:(backTo cpos (starEach es X.env)).any (·.1)=false):
 PE X (.Call (.Attribute o name apos) (e::es) [] cpos) (mI X T r to t):=by
 intro a s σ H Q I h;refine wpAny_Call_method_late hbase hfew hline rfl (yY (ho a s σ H _ I h) λv f ⟨x,g,b,c,i,j⟩=>?_);obtain⟨k,l⟩:=i _ _ _ _ b c;refine⟨T,id,pa,slot,hty,k,l, ?_⟩;have d:=ha cpos a f σ g _ b j;rw[hs]at d ⊢;refine Calls.callWith_builtin (by show(false||(backTo cpos (starEach es X.env)).any (·.1))=false;rw[hplain]<;>rfl) (Calls.evalArgs_plain ?_);exact yY d λm n ⟨p,q,u,w,y⟩=>hm a n σ q x p v m Q u c w y
def Du(X:Cx)(kd:KD)(id:String)(g:D->List D->Option R0):Prop:=
 ot X id (λx xs H Q=>∃O d ds r,(∀a,O a->H a≠none)/\Vw X.K kd O H x d/\VwL X.K kd O H xs ds/\g d ds=some r/\RQ X.K kd O H Q r)
theorem qH(hk:KdOk X kd){O:Addr->Prop}{H:Hp}{x:V}{d:D}{ty:Ty}(h:Vw X.K kd O H x d)(e:G3 ty d=true):mJ X ty.nm x H:=by
 intro pins σ s v I rx;cases h with
 |str z=>
  obtain⟨t,rfl⟩:=rx;cases ty<;>first|(cases e;done)|exact⟨typeIs_str s z t,λ_ e=>nomatch e⟩
 |int z=>
  obtain⟨t,rfl⟩:=rx;cases ty<;>first|(cases e;done)|exact⟨typeIs_int s z t,λ_ e=>nomatch e⟩
 |lst hr rl=>
  cases rx;obtain⟨its,_,pl,_⟩:=I.list hr.sq;cases ty<;>first|(cases e;done)|skip
  refine⟨pl.isList.typeIs,λa e=>?_⟩;cases e;obtain⟨o,n,e,c,hd,_⟩:=pl;exact⟨o,e,hd⟩
 |dct hr rm=>
  cases rx;obtain⟨z,hd,vs,rel,dd⟩:=RJ I hk hr;cases ty<;>first|(cases e;done)|skip
  refine⟨dd.typeIs,λb q=>?_⟩;cases q;obtain⟨ob,_,_,h1,h2,_⟩:=dd;exact⟨ob,h1,h2.2.1⟩
 |non=>cases ty<;>cases e
 |bl=>cases ty<;>cases e
 |tup=>cases ty<;>cases e
 |cl=>cases ty<;>cases e
 |ob=>cases ty<;>cases e
def ye(ty:Ty)(fa:EF)(fr:AF)(g:D->List D->Option R0):EF:=λas=>(fa as).bind λp=>(p.1.frz.view p.2).bind λw=>if G3 ty w.1=true then(fr p.2).bind λq=>(p.1.frz.view q.2).bind λx=>(views q.2 q.1).bind λy=>(g x.1 y.1).bind λr=>(wrap (meet x.2 y.2) r).bind λz=>some (z,q.2)else none
theorem t9(hk:KdOk X kd)(h:al X.K kd (ye ty fa fr g) σ H Q):
 mI X ty.nm (λx xs H Q=>∃O d ds r,(∀a,O a->H a≠none)/\Vw X.K kd O H x d/\VwL X.K kd O H xs ds/\g d ds=some r/\RQ X.K kd O H Q r) (al X.K kd fa) (qw X.K kd fr) σ H Q:=by
 obtain⟨F,B,U,as,r,o,R,e,q⟩:=h;obtain⟨⟨p,c⟩,s,e⟩:=bS_ (show(fa as).bind _=_ from e);obtain⟨⟨V,W⟩,t,e⟩:=bS_ e;obtain⟨f,e⟩:=ite_some' e;obtain⟨⟨u,y⟩,A,e⟩:=bS_ e;obtain⟨⟨d,Y⟩,C,e⟩:=bS_ e;obtain⟨⟨D,E⟩,G,e⟩:=bS_ e;obtain⟨I,J,e⟩:=bS_ e;obtain⟨z,L,e⟩:=bS_ e;cases e;refine wb R s λv i Z m b M=>⟨qH hk (xh.vw m b t) f,F,B,i,c,u,_,m,A,λvs j H2 R2 k n=>?_⟩;exact⟨_,d,D,I,R2.tr _,(xh.vw R2 (b.grow n) C).less U1.meet1,(Wh R2 k G).less U1.meet2,J,YR R2 L λw N P S l T=>q w N j P S l ((M.trans n).trans T)⟩
theorem YI(hk:KdOk X kd)(hm:Du X kd id g)(pa:PlainAttrs ty.nm)(slot:Slot ty.nm name id)(hty:typeOf (.builtin id)=pure (.type "method_descriptor"))(ho:AE X kd a fa)(ha:AA X kd (e::es) fr)
 (hbase:attributeBase a name X.env (eval a X.env)=eval a X.env)
 (hfew:((backTo cpos (starEach (e::es) X.env)).all (λx=>!x.1)&&(backToKw cpos (keywordEach [] X.env)).all (λx=>x.1.isSome)
  && decide ((e::es).length+([]:List Keyword).length+(if([]:List Keyword).isEmpty then 0 else 1)<30))=true)
 (hline:(apos.endLine==cpos.line)=true) (hs:starEach (e::es) X.env=(false,eval e X.env)::starEach es X.env) (hplain:(backTo cpos (starEach es X.env)).any (·.1)=false):
 AE X kd (.Call (.Attribute a name apos) (e::es) [] cpos) (ye ty fa fr g):=by with_unfolding_all exact(yq (pe pa slot hty hm ho ha hbase hfew hline hs hplain) λσ H Q h=>t9 hk h)
def pC:D->List D->Option R0
 | .dct kvs,[k]=>(GS k).bind λk=>some (.im ((P5 kvs k).getD .non))
 | .dct kvs,[k,x]=>(GS k).bind λk=>some (.im ((P5 kvs k).getD x))
 |_,_=>none
theorem Vw.rp_of{O:Addr->Prop}{H:Hp}{x:V}{d:D}(h:Vw X.K kd O H x d)(e:zD d=true):Rp X.K kd O H x d:=by
 cases h with
 |non=>exact .non
 |bl b=>exact .bl b
 |int i=>exact .int i
 |str x=>exact .str x
 |_=>cases e
def getP':D->List D->Option R0
 |d,[k]=>pC d [k]
 |d,[k,x]=>if zD x=true then pC d [k,x]else none
 |_,_=>none
theorem sr(hk:KdOk X kd):Du X kd "dict.get" getP':=by
 intro B s σ H x N v P Q I C r h;obtain⟨O,d,R,S,T,D,E,a,q⟩:=h;unfold getP' at a
 split at a
 . rename_i k;cases E with
   |cons l g=>
    cases g;cases r with
    |cons m i=>
     cases i;cases D with
     |dct n o=>
      obtain⟨c,p,a⟩:=bS_ (show(GS k).bind _=_ from a);cases a;cases C;obtain⟨z,t,J,b,j⟩:=RJ I hk n;have:=Nj l p;subst this;refine call_meetsIn PySem.F.slot_dict_get j.typeIs PySem.F.entry_dict_get (PySem.F.args_dict_get_2 _ _) (meets_dict_get (yH X.prog X.w) _ (K9 m) t) ⟨_,j.mapOf, ?_⟩
      rcases V_ c o with⟨u,K,e,f,A⟩|⟨e,f⟩
      . rw[f]at q;refine⟨u,H,I.tok _, ?_,zX q A⟩;have:=(b.val c).getD (d:=.non) (d':=.none) rfl;rw[e]at this;exact this
      . rw[f]at q;refine⟨.non,H,I.tok _, ?_,zX q .non⟩;have:=(b.val c).getD (d:=.non) (d':=.none) rfl;rw[e]at this;exact this
     |_=>cases a
 . rename_i k y;obtain⟨L,a⟩:=ite_some' a;cases E with
   |cons l g=>
    cases g with
    |cons M g=>
     cases g;cases r with
     |cons m i=>
      cases i with
      |cons G i=>
            cases i;cases D with
            |dct n o=>
             obtain⟨c,p,a⟩:=bS_ (show(GS k).bind _=_ from a);cases a;cases C;obtain⟨z,t,J,b,j⟩:=RJ I hk n;have:=Nj l p;subst this;refine call_meetsIn PySem.F.slot_dict_get j.typeIs PySem.F.entry_dict_get (PySem.F.args_dict_get_3 _ _ _) (meets_dict_get_default (yH X.prog X.w) _ (K9 m) t _) ⟨_,j.mapOf, ?_⟩
             rcases V_ c o with⟨u,K,e,f,A⟩|⟨e,f⟩
             . rw[f]at q;refine⟨u,H,I.tok _, ?_,zX q A⟩;have:=(b.val c).getD G;rw[e]at this;exact this
             . rw[f]at q;refine⟨_,H,I.tok _, ?_,zX q (M.rp_of L)⟩;have:=(b.val c).getD G;rw[e]at this;exact this
            |_=>cases a
 . cases a
end
section
variable{K:zzA}{kd:KD}{F B G:Addr->Prop}{T:List Addr}{ad:Ad}{as:AS}{σ:St}{H H':Hp}
theorem Rel.wrT(R:Rel K kd F B T ad as σ H)(hp:p ∈ T):Rel K kd F B T ad as σ (upd H p u)/\Grow (Gw T ad) H (Gw T ad) (upd H p u):=by
 have g:Grow (Gw T ad) H (Gw T ad) (upd H p u):=Grow.wr (.inl hp);have b:∀a,H a≠none->upd H p u a≠none:=λa z=>by
  by_cases e:a=p
  . subst e;rw[zV];simp
  . rw[zE e];exact z
 exact⟨⟨R.len,R.out,R.nd,R.inj,R.tnd,R.dis,λa z=>b a (R.ftr a z),λa z=>⟨b a (R.btr a z).1,(R.btr a z).2⟩,λa z=>⟨b a (R.gtr a z).1,(R.gtr a z).2⟩,λi s e=>(R.sl i s e).grow g λa m w h=>by
  rw[zE (λz=>R.dis i a m (by rw[z];exact hp))];exact h⟩,g⟩
inductive RPs(K:zzA)(kd:KD)(F B G:Addr->Prop)(H:Hp):List (V×V)->List (Key×O)->Prop
 |nil:RPs K kd F B G H [] []
 |cons {k:Key}{v:V}{o:O}{ps:List (V×V)}{kos:List (Key×O)}:wK K kd F B G H v o []->RPs K kd F B G H ps kos->RPs K kd F B G H ((kV k,v)::ps) ((k,o)::kos)
theorem RPs.out:∀{ps:List (V×V)}{kos:List (Key×O)},RPs K kd F B G H ps kos->∃vs,ps=((kos.map (·.1)).zip vs).map (λkv=>(kV kv.1,kv.2))/\xt K kd F B G H vs (kos.map (·.2)) []/\vs.length=kos.length
 |_,_,.nil=>⟨[],rfl,.nil,rfl⟩
 |_,_,.cons (v:=v) h r=>by
  obtain⟨a,e,b,c⟩:=RPs.out r;subst e;exact⟨v::a,rfl,.cons h b,congrArg (· + 1) c⟩
end
def LC:List (EF×EF)->AS->Option (List (Key×O)×AS)
 | [],as=>some ([],as)
 |f::r,as=>(f.1 as).bind λp=>(f.2 p.2).bind λq=>match p.1,q.1 with
  | .ow ko,.ow vo=>(GS ko.toD).bind λk=>(LC r q.2).bind λz=>some ((k,vo.frz)::z.1,z.2)
  |_,_=>none
theorem BS{K:zzA}{kd:KD}{σ:St}:∀(fs:List (EF×EF)) (H:Hp) (Q:List (V×V)->Hp->Prop),(∃F B ad as kos as',Rel K kd F B [] ad as σ H/\LC fs as=some (kos,as')/\
 ∀ps ad' H',Rel K kd F B [] ad' as' σ H'->RPs K kd F B (Gw [] ad') H' ps kos->Grow (Gw [] ad) H (Gw [] ad') H'->Q ps H')->NP (fs.map λf=>(al K kd f.1,al K kd f.2)) σ H Q
 | [],H,Q,h=>by
  obtain⟨F,B,t,as,a,b,R,e,q⟩:=h;cases e;exact q [] t H R .nil Grow.refl
 |f::r,H,Q,h=>by
  obtain⟨F,B,t,as,a,b,R,e,q⟩:=h;obtain⟨⟨p,y⟩,c,e⟩:=bS_ (show(f.1 as).bind _=_ from e);obtain⟨⟨A,d⟩,g,e⟩:=bS_ e
  match p,A,e,c,g with
  | .ow w,.ow T,e,c,g=>
   obtain⟨k,C,e⟩:=bS_ (show(GS w.toD).bind _=_ from e);obtain⟨⟨z,D⟩,E,e⟩:=bS_ e;cases e;refine wb R c λv i G I j J=>wb I g λu l L R2 n M=>BS r L _ ⟨F,B,l,d,z,_,R2,E,λU o N O s x=>?_⟩;have P:=P7 (show wK K kd F B (Gw [] i) G v w.frz []from j);have S:v=kV k:=Nj P.vw C;rw[S];exact q _ o N O (.cons (wK.grow x (λ_ m=>nomatch m) n) s) ((J.trans M).trans x)
theorem Km:∀(kvs acc:List (Key×V)),((acc++kvs).map (·.1)).Nodup->Vh acc kvs=acc++kvs
 | [],a,_=>by rw[zyE];rfl
 |p::r,a,h=>by
  have b:Y8 a p.1=none:=by
   cases e:Y8 a p.1 with
   |none=>rfl
   |some v=>
    exfalso;have m:=AB e;rw[zyL,zyR]at h;exact(zxC.mp h).2.2 _ m _ zzF rfl
  show Vh (putK a p.1 p.2) r=_;rw[Jg _ b,Km r (a++[(p.1,p.2)]) (by rw[zxA];exact h),zxA];rfl
def CD(fs:List (EF×EF)):EF:=λas=>(LC fs as).bind λp=>if(p.1.map (·.1)).Nodup/\p.1.length<=15 then some (.ow (.nd (.dc (p.1.map (·.1))) (p.1.map (·.2))),p.2)else none
section
variable{X:Cx}{kd:KD}{e a b c o i:Expr}{pos pos':Pos}{fa fb fk fv:EF}
theorem SA(h:ux X pos keys values (fs.map λf=>(al X.K kd f.1,al X.K kd f.2)))(hall:keys.all (·.isSome)=true)(hl:keys.length=values.length)(h0:keys≠[])(h15:keys.length<=15):
 AE X kd (.Dict keys values pos) (CD fs):=by with_unfolding_all exact(yq (Ai h hall hl h0 h15) λσ H Q h=>by
 obtain⟨F,B,A,as,r,I,R,e,q⟩:=h;obtain⟨⟨c,J⟩,L,e⟩:=bS_ (show(LC fs as).bind _=_ from e);obtain⟨⟨l,M⟩,e⟩:=zB e;cases e;intro p j;have k:∀b o,H b=some o->upd H p (.dK []) b=some o:=λb o C=>by rw[zE (yh C j)];exact C
 obtain⟨R2,N⟩:=R.news (T':=[p]) (by simp) (λa m=>by rw[zzR.mp m];exact j) k (λa m=>by rw[zzR.mp m,zV];simp);refine BS fs _ _ ⟨F,_,A,as,c,_,R2.hide,L,λV g D O s t=>?_⟩;have P:¬Gw [] A p:=λz=>(R.gtr p z).1 j;have v:D p=some (.dK []):=t.keep p _ zV P;obtain⟨i,S,T,d⟩:=s.out;have E:=O.unhide (T1:=[p]) (T2:=[]) (by simp) (λa m z=>by rw[zzR.mp m]at z;exact(R.btr p z).1 j);rw[zyE]at E;have w:xt X.K kd F B (Gw [p] g) D i (c.map (·.2)) []:=xt.lv (X9 (T1:=[p]) (T2:=[])) T;have x:(((c.map (·.1)).zip i).map (·.1))=c.map (·.1):=List.map_fst_zip (by rw[zzB,d];exact zzN _);refine⟨v,(c.map (·.1)).zip i,S,by rw[List.length_zip,zzB,d];simpa using M, ?_⟩;rw[Km _ [] (by rw[List.nil_append,x];exact l),List.nil_append];obtain⟨U,G⟩:=E.wrT (u:=.dK ((c.map (·.1)).zip i)) (show p ∈ [p] by simp);refine q _ [p] g _ U (.dc (vs:=i) zV (by rw[zzB,d]) (xt.grow G (λ_ m=>nomatch m) w)) ((N.trans ⟨λb u e n=>t.keep b u e λz=>n (Gw.drop b z),λb z=>?_⟩).trans G)
 rcases z with z|z
 . exact .inl (.inl z)
 . exact(t.own b (.inr z)).elim (λy=>.inl (Gw.drop b y)) .inr)
end
abbrev Fn:=List (Bool×D)->Option O
section
variable{P:Program}{w:World}{K:zzA}{mg:Str->Option Value}{base:Heap}{kd:KD}
theorem Ac:FnOk P w K mg base Ko k f fd ps (Jl K kd λ_=>none):=
 ⟨λc H Q E h=>(by obtain⟨_,_,_,_,_,e,_⟩:=h;cases e),λA a s H b d c Q E _ _ _ _ h=>(by obtain⟨_,_,_,_,_,e,_⟩:=h;cases e)⟩
theorem QM(hr:Room k A):A.units+100<cLine:=by have:=hr.un;omega
def xF(P:Program)(w:World)(K:zzA)(kd:KD):Prop:=∀X:Cx,X.prog=P->X.w=w->X.K=K->KdOk X kd
theorem Xo{O:Addr->Prop}{H:Hp}:∀ns:List Int,RpL K kd O H (ns.map V.int) (ns.map D.int)
 | []=>.nil
 |_::r=>.cons (.int _) (Xo r)
theorem um{H:Hp}{a:Addr}{ns:List Int}{g:Fn}{E:XK}(hg:g [(true,.lst (ns.map D.int))]=some (.lf true (.bl true)))(hS:Oq K H a (ns.map V.int)):Jl K kd g [.ref a] H (λv _=>v = .bl true) E:=by
 refine⟨λ_=>False,[(true,.lst (ns.map D.int))],.lf true (.bl true),(λ_ z=>z.elim),.cons ?_ .nil,hg,λv T e _ _ _ _ b=>?_⟩
 . rcases hS with h|⟨c,n,k,z,r⟩
   . exact .lst (λz=>z.2) h (Xo ns)
   . exact .lstK k z r (Xo ns)
 . cases b with
   |lf d=>cases d;rfl
end
namespace Bt
theorem len:bootBuiltins "len"=some (.builtin "len"):=by decide +kernel
theorem max:bootBuiltins "max"=some (.builtin "max"):=by decide +kernel
theorem min:bootBuiltins "min"=some (.builtin "min"):=by decide +kernel
theorem sorted:bootBuiltins "sorted"=some (.builtin "sorted"):=by decide +kernel
theorem repr:bootBuiltins "repr"=some (.builtin "repr"):=by decide +kernel
theorem isinstance:bootBuiltins "isinstance"=some (.builtin "isinstance"):=by decide +kernel
theorem all:bootBuiltins "all"=some (.builtin "all"):=by decide +kernel
theorem int:bootBuiltins "int"=some (.type "int"):=by decide +kernel
theorem str:bootBuiltins "str"=some (.type "str"):=by decide +kernel
theorem list:bootBuiltins "list"=some (.type "list"):=by decide +kernel
theorem tuple:bootBuiltins "tuple"=some (.type "tuple"):=by decide +kernel
theorem n(x:Str)(h:(x==("__name__":Str))=false):x≠"__name__":=λe=>by subst e;simp at h
end Bt
def WD(f:EF)(as:AS)(st:Bool)(d:D):Prop:=f as=some (.ow (.lf st d),as)
def WT(f:TF)(as:AS)(b:Bool):Prop:=f as=some (b,as)
def WA(f:AF)(as:AS)(rs:List (Bool×D)):Prop:=f as=some (rs.map (λx=>.ow (.lf x.1 x.2)),as)
def WO(f:DF)(as:AS)(os:List O):Prop:=f as=some (os,as)
section
variable{as:AS}{f a b:EF}{s t:Bool}{x y z:D}{i j:Int}
theorem zb:WD (fC x) as true x:=rfl
theorem za{i:Nat}(h:as[i]? = some (some (.lf s x))):WD (fV i) as s x:=by unfold WD fV;rw[h]
theorem Dt(ha:WD a as s x)(hb:WD b as t y)(hg:g x y=some (.im z)):WD (f2 a b g) as (zD z||(s&&t)) z:=by
 unfold WD f2 at *;rw[ha];show((b as).bind _)=_;rw[hb];show((g x y).bind _)=_;rw[hg];show(if(zD z||(meet (some s) (some t)).isSome)=true then _ else _:Option RV).bind _=_;rw[if_pos (by unfold meet;simp)];rfl
theorem qX(ha:a as=some (.ow oa,as))(hb:b as=some (.ow ob,as))(hg:g oa.toD ob.toD=some (.im z)):WD (f2 a b g) as (zD z||(oa.str&&ob.str)) z:=by
 unfold WD f2 at *;rw[ha];show((b as).bind _)=_;rw[hb];show((g oa.toD ob.toD).bind _)=_;rw[hg];show(if(zD z||(meet (some oa.str) (some ob.str)).isSome)=true then _ else _:Option RV).bind _=_;rw[if_pos (by unfold meet;simp)];rfl
theorem zu(ha:WD a as s x)(hb:WD b as t y)(hg:g x y=some (.im z))(e:zD z=true):WD (f2 a b g) as true z:=by
 have:=Dt ha hb hg;rw[e]at this;exact this
theorem yp(ha:WD a as s (.int i))(hb:WD b as t (.int j)):WD (f2 a b (Wl .Add)) as true (.int (i+j)):=zu ha hb rfl rfl
theorem Uc(ha:WD a as s (.int i))(hb:WD b as t (.int j)):WD (f2 a b (Wl .Sub)) as true (.int (i-j)):=zu ha hb rfl rfl
theorem yL(ha:WD a as s (.int i))(hb:WD b as t (.int j))(h1:i.natAbs<big)(h2:j.natAbs<big):WD (f2 a b (Wl .Mult)) as true (.int (i*j)):=zu ha hb (by show(if _ then _ else _)=_;rw[if_pos (.inl ⟨h1,h2⟩)]) rfl
theorem wH(ha:WD a as s (.int i))(hb:WD b as t (.int j))(h1:0<j)(h2:j.natAbs<big):WD (f2 a b (Wl .FloorDiv)) as true (.int (i/j)):=zu ha hb (by show(if _ then _ else _)=_;rw[if_pos ⟨h1,h2⟩]) rfl
theorem yb(ha:WD a as s (.int i))(hb:WD b as t (.int j))(h1:0<j):WD (f2 a b (Wl .Mod)) as true (.int (i%j)):=zu ha hb (by show(if _ then _ else _)=_;rw[if_pos h1]) rfl
theorem z_(ha:WD a as s x)(hb:WD b as t y)(h:xm 60 x y=some c):WD (f2 a b (zw .Eq)) as true (.bl c):=zu ha hb (by show(xm 60 x y).bind _=_;rw[h];rfl) rfl
theorem V2(ha:WD a as s x)(hb:WD b as t y)(h:xm 60 x y=some c):WD (f2 a b (zw .NotEq)) as true (.bl (!c)):=zu ha hb (by show(xm 60 x y).bind _=_;rw[h];rfl) rfl
theorem Ru(ha:WD a as s (.int i))(hb:WD b as t (.int j)):WD (f2 a b (zw .Lt)) as true (.bl (decide (i<j))):=zu ha hb rfl rfl
theorem XA(ha:WD a as s (.int i))(hb:WD b as t (.int j)):WD (f2 a b (zw .Gt)) as true (.bl (decide (j<i))):=zu ha hb rfl rfl
theorem zp(h:WD f as s x)(e:truth x=some c):WT (fT f) as c:=by
 unfold WT fT;unfold WD at h;rw[h];show((truth x).bind _)=_;rw[e];rfl
theorem ZK(h:WT c as k):WT (ZF c) as (!k):=by unfold WT ZF at *;rw[h];rfl
theorem vn(h:WT c as k)(h2:k=true->WT e as l)(h3:k=false->l=false):WT (Xn c e) as l:=by
 unfold WT Xn at *;rw[h];cases k with
 |true=>exact h2 rfl
 |false=>rw[h3 rfl];rfl
theorem vh(h:WT c as k)(h2:k=false->WT e as l)(h3:k=true->l=true):WT (vP c e) as l:=by
 unfold WT vP at *;rw[h];cases k with
 |false=>exact h2 rfl
 |true=>rw[h3 rfl];rfl
theorem D9(h:WT c as true)(ha:WD a as s x):WD (Gy c a b) as s x:=by unfold WD Gy;unfold WT at h;rw[h];exact ha
theorem tZ(h:WT c as false)(hb:WD b as s x):WD (Gy c a b) as s x:=by unfold WD Gy;unfold WT at h;rw[h];exact hb
theorem TU(h:WD a as s (.bl k))(h2:k=true->WD b as true (.bl l))(h3:k=false->l=false):WD (Pj a b) as true (.bl l):=by
 unfold WD Pj at *;rw[h];cases k with
 |true=>exact h2 rfl
 |false=>rw[h3 rfl];rfl
theorem zo:WA aN as []:=rfl
theorem zl(ha:WD a as s x)(hr:WA fr as rs):WA (aC a fr) as ((s,x)::rs):=by
 unfold WA aC at *;unfold WD at ha;rw[ha];show((fr as).bind _)=_;rw[hr];rfl
theorem Uz:∀rs:List (Bool×D),Yo as (rs.map (λx=>.ow (.lf x.1 x.2)))=some (rs.map λx=>(zD x.2||x.1,x.2))
 | []=>rfl
 |r::a=>by
  show(Kw as (.ow (.lf r.1 r.2))).bind _=_;show(Yo as (a.map _)).bind _=_;rw[Uz a];rfl
theorem xG:∀rs:List (Bool×D),views as (rs.map (λx=>.ow (.lf x.1 x.2)))=some (rs.map (·.2),some (rs.all (·.1)))
 | []=>rfl
 |r::a=>by
  show(views as (a.map _)).bind _=_;rw[xG a];rfl
theorem We(ha:WA fr as rs)(hg:g (rs.map λx=>(zD x.2||x.1,x.2))=some (.lf s x)):WD (zg fr g) as s x:=by
 unfold WD zg;unfold WA at ha;rw[ha];show(Yo as _).bind _=_;rw[Uz];show(g _).bind _=_;rw[hg];rfl
theorem xJ(ha:WA fr as rs)(hg:g (rs.map λx=>(zD x.2||x.1,x.2))=some o):zg fr g as=some (.ow o,as):=by
 unfold zg;unfold WA at ha;rw[ha];show(Yo as _).bind _=_;rw[Uz];show(g _).bind _=_;rw[hg];rfl
theorem So(ha:WA fr as rs)(hg:g (rs.map (·.2))=some (.im x)):WD (fP fr g) as (zD x||rs.all (·.1)) x:=by
 unfold WD fP;unfold WA at ha;rw[ha];show(views as _).bind _=_;rw[xG];show(g _).bind _=_;rw[hg];show(if(zD x||(some (rs.all (·.1))).isSome)=true then _ else _:Option RV).bind _=_;rw[if_pos (by simp)];rfl
theorem yO(ha:WA fr as rs)(hg:g (rs.map (·.2))=some (.im x))(e:zD x=true):WD (fP fr g) as true x:=by
 have:=So ha hg;rw[e]at this;exact this
theorem zF:WO dN as []:=rfl
theorem zc{fr:DF}{os:List O}(ha:WD a as s x)(hr:WO fr as os):WO (dC a fr) as (.lf s x::os):=by
 unfold WO dC at *;unfold WD at ha;rw[ha];show((fr as).bind _)=_;rw[hr];rfl
theorem yN{fr:DF}{os:List O}(h:WO fr as os)(hl:os.length<=sizeLine):yf fr as=some (.ow (.nd .ls os),as):=by
 unfold yf;unfold WO at h;rw[h];show(if os.length<=sizeLine then _ else _)=_;rw[if_pos hl]
theorem zt{f g:SF}{as1:AS}{o:Option Out}(h1:f as=some (.nx as1))(h2:g as1=o):zh f g as=o:=by unfold zh;rw[h1];exact h2
theorem Px{f g:SF}{o:O}(h1:f as=some (.rt o)):zh f g as=some (.rt o):=by unfold zh;rw[h1];rfl
theorem wo{c:TF}{f g:SF}{o:Option Out}(h:WT c as true)(h1:f as=o):xX c f g as=o:=by unfold xX;unfold WT at h;rw[h];exact h1
theorem zN{c:TF}{f g:SF}{o:Option Out}(h:WT c as false)(h1:g as=o):xX c f g as=o:=by unfold xX;unfold WT at h;rw[h];exact h1
theorem yc{i:Nat}{st:Bool}(h:WD f as s x)(hi:i<as.length):zx st i f as=some (.nx (as.set i (some (.lf s x)))):=by
 unfold zx;unfold WD at h;rw[h];cases st<;>exact if_pos hi
theorem yg{i:Nat}{o:O}(h:f as=some (.ow o,as))(hi:i<as.length):zx false i f as=some (.nx (as.set i (some o))):=by
 unfold zx;rw[h];exact if_pos hi
theorem J4{i:Nat}{o:O}(h:f as=some (.ow o,as))(hi:i<as.length):zx true i f as=some (.nx (as.set i (some o.frz))):=by
 unfold zx;rw[h];exact if_pos hi
theorem y_(h:WD f as true x):zI f as=some (.rt (.lf true x)):=by unfold zI;unfold WD at h;rw[h];rfl
theorem yC(hl:ds.length=m)(h:c (XH n ds)=some (.rt o)):xD n m c ds=some o:=by unfold xD;rw[if_pos hl,h];rfl
theorem yZ{g:GF}{f:SF}(I:Nat->AS->Prop):∀(xs:List wg) (k:Nat) (as:AS),(∀i x as,xs[i]? = some x->I (k+i) as->∃as1,g x as=some as1/\∃as2,f as1=some (.nx as2)/\I (k+i+1) as2)->I k as->∃as',forL g f xs as=some (.nx as')/\I (k+xs.length) as'
 | [],k,as,_,h=>⟨as,rfl,h⟩
 |x::r,k,as,d,h=>by
  obtain⟨a,j,b,l,m⟩:=d 0 x as rfl h;obtain⟨c,n,o⟩:=yZ I r (k+1) b (λi y as e q=>by
   obtain⟨u,p,v,s,t⟩:=d (i+1) y as e (by rw[show k+(i+1)=k+1+i by omega];exact q);exact⟨u,p,v,s,by rw[show k+1+i+1=k+(i+1)+1 by omega];exact t⟩) m
  refine⟨c, ?_,by rw[zzT,show k+(r.length+1)=k+1+r.length by omega];exact o⟩;show(g x as).bind _=_;rw[j];show(f a).bind _=_;rw[l];exact n
theorem xB{fi:IF}{g:GF}{f:SF}{xs:List wg}{as':AS}{o:Option Out}(h:fi as=some (xs,as'))(h2:forL g f xs as'=o):vB fi g f as=o:=by unfold vB;rw[h];exact h2
theorem vg{lo:Int}{n i:Nat}{x:wg}(h:(yP lo n)[i]? = some x):x=(true,.int (lo+i))/\i<n:=by
 unfold yP at h;rw[zzI]at h;cases e:(List.range n)[i]? with
 |none=>rw[e]at h;cases h
 |some k=>
  rw[e]at h;obtain⟨a,b⟩:=zzG.mp e;rw[zyT]at a;rw[List.getElem_range]at b;subst b;exact⟨(zzZ h).symm,a⟩
theorem wW(h:WA fr as [(u,.int j)])(h0:0<=j)(h1:j<1000000):yi fr ym as=some (yP 0 j.toNat,as):=by
 unfold yi;unfold WA at h;rw[h];simp only[zyK,xG];show((if -(2 ^ 62)<=j/\j<2 ^ 62 then some (yP 0 j.toNat)else none).bind _)=_;rw[if_pos ⟨by omega,by omega⟩];rfl
theorem ID(ha:a as=some (.ow o,as))(hr:WA fr as rs):WA (aC a fr) as ((o.str,o.toD)::rs):=by
 unfold WA aC at *;rw[ha];show((fr as).bind _)=_;rw[hr];rfl
theorem QX{i:Nat}{o:O}(h:as[i]? = some (some o)):RV.view as (.bo i)=some (o.toD,o.kl):=by simp only[RV.view,h]
theorem O2{i:Nat}{o:O}(h:as[i]? = some (some o)):Jj as (.bo i)=some (o.frz,as.set i (some o.frz)):=by simp only[Jj,h]
theorem JV{i:Nat}{o:O}(h:as[i]? = some (some o))(hs:o.str=true):Oz as (.bo i)=some o:=by simp only[Oz,h,hs,if_true]
theorem Wv{i:Nat}{k:Kind}{os:List O}(h:as[i]? = some (some (.nd k os))):fV i as=some (.bo i,as):=by unfold fV;rw[h]
theorem pO{i:Nat}{os:List O}(h:as[i]? = some (some (.nd .ls os))):WD (fP (aC (fV i) aN) yQ) as true (.int os.length):=by
 have e:views as [.bo i]=some ([.lst (O.toDs os)],meet (O.nd .ls os).kl (some true)):=by
  show(RV.view as (.bo i)).bind _=_;rw[QX h];rfl
 unfold WD fP aC;rw[Wv h];simp only[zyK,aN,RV.frz,e];rw[show yQ [.lst (O.toDs os)]=some (.im (.int os.length)) by show some (R0.im (.int ((O.toDs os).length:Nat)))=_;rw[Rb]];rfl
theorem Yl{g:GF}{f:SF}{d:wg}{r:List wg}{as1 as2:AS}{o:Option Out}(h1:g d as=some as1)(h2:f as1=some (.nx as2))(h3:forL g f r as2=o):forL g f (d::r) as=o:=by
 show(g d as).bind _=_;rw[h1];show(f as1).bind _=_;rw[h2];exact h3
theorem Ta{i:Nat}{os:List O}(h:as[i]? = some (some (.nd .ls os)))(hl:os.length<sizeLine)(ha:WD a as s x):ya (yt i (dC a dN) yx) as=some (.nx (as.set i (some (.nd .ls (os++[.lf s x]))))):=by
 unfold ya yt;rw[h];have e:dC a dN as=some ([.lf s x],as):=zc ha zF;show((dC a dN as).bind _).bind _=_;rw[e];show(Option.bind (match as[i]? with|some (some (.nd .ls os))=>_|_=>none) _)=_;rw[h];show((yx os [.lf s x]).bind _).bind _=_;have e2:yx os [.lf s x]=some (os++[.lf s x],.lf true .non):=by unfold yx;exact if_pos hl
 rw[e2];rfl
theorem Ca{i:Nat}{os:List O}{k:Int}{o:O}(h:as[i]? = some (some (.nd .ls os)))(ha:WD a as s (.int k))(h0:0<=k)(h1:k<os.length)(hs:os.length<2 ^ 60)(ho:os[k.toNat]? = some o):yt i (dC a dN) Xr as=some (.ow o,as.set i (some (.nd .ls (os.eraseIdx k.toNat)))):=by
 unfold yt;rw[h];have e:dC a dN as=some ([.lf s (.int k)],as):=zc ha zF;show((dC a dN as).bind _)=_;rw[e];show(match as[i]? with|some (some (.nd .ls os))=>_|_=>none)=_;rw[h];show((Xr os [.lf s (.int k)]).bind _)=_;have e2:Xr os [.lf s (.int k)]=some (os.eraseIdx k.toNat,o):=by
  unfold Xr;show(if -(2 ^ 63)<=k/\k<2 ^ 63 then _ else _)=_;rw[if_pos ⟨by omega,by omega⟩];have e3:seqIndex? k os.length=some k.toNat:=by unfold seqIndex?;simp;omega
  rw[e3];show((os[k.toNat]?).bind _)=_;rw[ho];rfl
 rw[e2];rfl
theorem Oj(h:f as=some (.ow o,as))(hg:g (o.str,o.toD) as=some as'):GJ f g as=some (.nx as'):=by
 unfold GJ;rw[h];show(g (o.str,o.toD) as).bind _=_;rw[hg];rfl
theorem YL{i:Nat}{o:O}(h:as[i]? = some (some o))(hs:o.str=true):zI (fV i) as=some (.rt o):=by
 cases o with
 |lf a d=>unfold zI fV;rw[h];have:a=true:=hs;subst this;rfl
 |nd k b=>
  unfold zI;rw[Wv h];show(Oz as (.bo i)).bind _=_;rw[JV h hs];rfl
theorem Vk{fr:DF}{os:List O}(h:WO fr as os)(hl:os.length<=sizeLine)(ha:os.all O.isLf=true):WD (yr fr) as (O.strs os) (.tup (O.toDs os)):=by
 unfold WD yr;unfold WO at h;rw[h];show(if os.length<=sizeLine then some (RV.ow (Y4 os),as)else _)=_;rw[if_pos hl];unfold Y4;rw[if_pos ha]
theorem OV(ha:a as=some (.ow oa,as1))(hb:b as1=some (.ow ob,as2))(hg:g oa.toD ob.toD=some (.fl zs)):f2 a b g as=some (.ow (.nd .ls (zs.map (G_ (oa.str&&ob.str)))),as2):=by
 unfold f2;rw[ha];show((b as1).bind _)=_;rw[hb];show((g oa.toD ob.toD).bind _)=_;rw[hg];show(if(zs.all zD||(meet (some oa.str) (some ob.str)).isSome)=true then _ else _:Option RV).bind _=_;rw[if_pos (by unfold meet;simp)];rfl
theorem zT(ha:WD a as true x)(hb:WD b as true y)(hg:g x y=some (.im z)):WD (f2 a b g) as true z:=by
 have:=Dt ha hb hg;rw[show(zD z||(true&&true))=true by simp]at this;exact this
theorem vG:∀zs:List D,zs.map (G_ true)=zs.map (O.lf true)
 | []=>rfl
 |z::r=>by
  show G_ true z::r.map (G_ true)=_;rw[vG r];unfold G_;rw[zyD];rfl
theorem AX(ha:a as=some (.ow oa,as1))(hb:b as1=some (.ow ob,as2))(hg:g oa.toD ob.toD=some (.fl zs))(h1:oa.str=true)(h2:ob.str=true):f2 a b g as=some (.ow (.nd .ls (zs.map (O.lf true))),as2):=by
 have:=OV ha hb hg;rw[h1,h2,show(true&&true)=true from rfl,vG]at this;exact this
theorem zW{fr:DF}{o:O}{os:List O}{as1 as2:AS}(ha:a as=some (.ow o,as1))(hr:fr as1=some (os,as2)):dC a fr as=some (o::os,as2):=by
 unfold dC;rw[ha];show((fr as1).bind _)=_;rw[hr];rfl
theorem add_lists(h:xs.length+ys.length<=sizeLine):Wl .Add (.lst xs) (.lst ys)=some (.fl (xs++ys)):=if_pos h
theorem wG(lo:Int)(n:Nat):yP lo (n+1)=(true,.int lo)::yP (lo+1) n:=by
 unfold yP;rw[List.range_succ_eq_map,zyR,zyB]
 congr 1
 . simp
 . apply List.map_congr_left;intro i _;show(true,D.int _)=(true,D.int _)
   congr 2
   show lo+((i+1:Nat):Int)=_;omega
theorem Of(ha:WA fr as rs)(hg:g (rs.map (·.2))=some (.im x))(e:rs.all (·.1)=true):WD (fP fr g) as true x:=by
 have:=So ha hg;rw[e,zyD]at this;exact this
theorem Py(ha:WD a as s y)(ht:G3 ty y=true)(hr:WA fr as rs)(hg:g y (rs.map (·.2))=some (.im x))(e:zD x=true):WD (ye ty a fr g) as true x:=by
 unfold WD ye;unfold WD at ha;unfold WA at hr;rw[ha];show(if G3 ty y=true then _ else _:Option (RV×AS))=_;rw[if_pos ht,hr];simp only[zyK,xG];show((g y (rs.map (·.2))).bind _)=_;rw[hg];show(if(zD x||_)=true then _ else _:Option RV).bind _=_;rw[if_pos (by rw[e];rfl)];show some (RV.ow (.lf (zD x||_) x),as)=_;rw[e];rfl
theorem CU{fl fh:OF}{lo hi:Option Int}{g:D->Option Int->Option Int->Option R0}(ha:WD a as s y)(hl:fl as=some (lo,as))(hh:fh as=some (hi,as))(hg:g y lo hi=some (.im x)):WD (Ym a fl fh g) as (zD x||s) x:=by
 unfold WD Ym;unfold WD at ha;rw[ha];show((fl as).bind _)=_;rw[hl];show((fh as).bind _)=_;rw[hh];show((g y lo hi).bind _)=_;rw[hg];show(if(zD x||(some s).isSome)=true then _ else _:Option RV).bind _=_;rw[if_pos (by simp)];rfl
theorem Av(h:WD f as s x)(e:Th (s,x)=some ds):yB f as=some (ds,as):=by
 unfold yB;unfold WD at h;rw[h];show(Th (s,x)).bind _=_;rw[e];rfl
theorem Wc{g:GF}{fe:EF}{as0 as1:AS}{y:wg}{r:List wg}{os:List O}(h1:g y as0=some as1)(h2:WD fe as1 true x)(h3:yy g zM fe as0 r=some os):yy g zM fe as0 (y::r)=some (.lf true x::os):=by
 show(g y as0).bind _=_;rw[h1];show(fe as1).bind _=_;unfold WD at h2;rw[h2];show(yy g zM fe as0 r).bind _=_;rw[h3];rfl
theorem xM{fi:IF}{cap:List (Option Nat)}{g:GF}{tt:TF}{fe:EF}{xs:List wg}{os:List O}(h1:fi as=some (xs,as))(hl:xs.length<=sizeLine)(h2:yy g tt fe (wC cap as) xs=some os):zq fi cap g tt fe as=some (.ow (.nd .ls os),as):=by
 unfold zq;rw[h1];show(if xs.length<=sizeLine then _ else _)=_;rw[if_pos hl];show(yy g tt fe (wC cap as) xs).bind _=_;rw[h2];rfl
theorem PU(ha:fr as=some (rs,as))(hx:Yo as rs=some xs)(hg:g xs=some o):zg fr g as=some (.ow o,as):=by
 unfold zg;rw[ha];show(Yo as rs).bind _=_;rw[hx];show(g xs).bind _=_;rw[hg];rfl
end
theorem wz(h:Nat.ble n 1000=true):n<=sizeLine:=Nat.le_of_lt (yA (Nat.le_of_ble_eq_true h))
theorem zj(h:Nat.ble (a+1) b=true):a<b:=Nat.le_of_ble_eq_true h
theorem zK(h0 : -(10 ^ 200)<i)(h1:i<10 ^ 200):i.natAbs<big:=by
 have:(10:Nat) ^ 200<big:=by unfold big;decide +kernel
 have e:((10 ^ 200:Nat):Int)=(10:Int) ^ 200:=by norm_cast
 have:(i.natAbs:Int)<((10 ^ 200:Nat):Int):=by rw[e];omega
 omega
theorem Da{ns:List Int}{k:Int}(h0:0<=k)(h1:k<ns.length):∃x,zA (.lst (ns.map D.int)) (.int k)=some (.im (.int x)):=by
 have a:k.toNat<ns.length:=by omega
 refine⟨ns[k.toNat], ?_⟩;have h:=wt (xs:=ns.map D.int) (j:=k.toNat) (v:=D.int ns[k.toNat]) (by rw[zzI,zzE a];rfl);rw[show((k.toNat:Nat):Int)=k by omega]at h;show Ji (Pk _ _)=_;rw[h];rfl
def GC(K:zzA)(kd:KD)(mg:Str->Option Value)(x:Str)(d:D):Prop:=∃v u,mg x=some u/\RelV v u/\∀(O:Addr->Prop) (H:Hp),Rp K kd O H v d
section
variable{X:Cx}{kd:KD}{K:zzA}{mg:Str->Option Value}
theorem vj(h:GC X.K kd X.mg x d)(hg:Gl X x)(hd:(x==("__debug__":Str))=false):AE X kd (.Name x pos) (fC d):=by
 with_unfolding_all (
 obtain⟨v,u,h1,h2,h3⟩:=h;exact Gk (J6 hg h1 h2 hd) h3)
theorem GC.int{x:Str}{i:Int}{t:Tok}(h:mg x=some (.int i t)):GC K kd mg x (.int i):=⟨.int i,_,h,⟨t,rfl⟩,λ_ _=>.int i⟩
theorem GC.str{x y:Str}{t:Tok}(h:mg x=some (.str y t)):GC K kd mg x (.str y):=⟨.str y,_,h,⟨t,rfl⟩,λ_ _=>.str y⟩
theorem GC.tup{x:Str}{a:Addr}{od:Option Addr}{its:Array Value}{n:Nat}{sl:Array (Option Value)}{vs:List V}{ds:List D}(h:mg x=some (.ref a))(hk:K.lookup a=some ⟨.type "tuple",od,.seq its n,sl⟩)(hz:its.size<=sizeLine)(hv:zQ vs its.toList)
 (hr:∀(O:Addr->Prop) (H:Hp),RpL K kd O H vs ds):GC K kd mg x (.tup ds):=⟨.ref a,_,h,rfl,λO H=>.tupK hk rfl rfl hz hv (hr O H)⟩
def nY(K:zzA)(g:Fn):Sp:=λvs H Q E=>∀kd:KD,Jl K kd g vs H Q E
end
def XX(fa fb fc:EF)(g g':D->D->Option R0):EF:=λas=>(fa as).bind λp=>(fb p.2).bind λq=>(p.1.frz.view q.2).bind λx=>(q.1.frz.view q.2).bind λy=>(g x.1 y.1).bind λr=>match r with
 | .im (.bl true)=>(fc q.2).bind λt=>(q.1.frz.view t.2).bind λy'=>(t.1.frz.view t.2).bind λz=>(g' y'.1 z.1).bind λr'=>(wrap (meet y'.2 z.2) r').bind λo=>some (o,t.2)
 | .im (.bl false)=>some (.ow (.lf true (.bl false)),q.2)
 |_=>none
def ZJ:List D->Option (List Bool)
 | []=>some []
 | .bl b::r=>(ZJ r).bind λs=>some (b::s)
 |_::_=>none
def Fp:List D->Option R0
 | [.lst ds]=>(ZJ ds).bind λbs=>some (.im (.bl (bs.all id)))
 |_=>none
theorem Mc{K:zzA}{kd:KD}{O:Addr->Prop}{H:Hp}:∀{vs:List V}{us:List Value}{ds:List D}{bs:List Bool},RpL K kd O H vs ds->zQ vs us->ZJ ds=some bs->LSm.BoolsAre us bs
 |_,_,_,_,.nil,.nil,e=>by cases e;exact .nil
 |_,_,_,_,.cons (d:=d) a r,.cons b t,e=>by
  cases d with
  |bl c=>
   obtain⟨s,f,g⟩:=bS_ (show(ZJ _).bind _=_ from e);cases g;cases a;cases b;exact .cons _ (Mc r t f)
  |_=>cases e
section
variable{X:Cx}{kd:KD}
theorem HF{h h':Heap}{ob:Obj}(hk:∀b x,b ∉ [h.objs.size]->(h.push ob).get? b=some x->h'.get? b=some x)(b:Addr)(x:Obj)(e:h.get? b=some x):h'.get? b=some x:=by
 refine hk b x (λm=>?_) (zxF _ e);have:=zxG e;rw[zzR.mp m]at this;exact absurd this (Nat.lt_irrefl _)
theorem HU(hc:X.calm=true):vN X kd (.builtin "all") Fp:=by
 intro g s σ H E F Q I r h;obtain⟨O,G,z,J,m,c,q⟩:=h;unfold Fp at c
 split at c
 . obtain⟨bs,n,c⟩:=bS_ c;cases c;obtain⟨x,rfl,o⟩:=xO m;cases o with
   |lst t w=>
    rename_i l K;obtain⟨u,rfl,y⟩:=vals1 r;cases y;obtain⟨a,B,p,_⟩:=I.list t.sq;have j:=Mc w B n;have d:=p.isList;have f:l<s.heap.objs.size:=by obtain⟨_,e,_⟩:=d;exact zxG e
    refine call_all_walk (wpAny_pyIter_list d ?_);refine⟨s.heap.objs.size,[s.heap.objs.size,l],[s.heap.objs.size],a.toArray.size,_,_,(λi=>(bs[i]?).getD true),rfl,Walks.list (A:=X.A.in1) (I.ok.hd hc) _ l (zzQ f) a.toArray,⟨⟨_,zxH _ rfl,rfl,rfl⟩,d.push _⟩, ?_, ?_⟩
    . intro i v L M N C k;obtain⟨b,e,rfl⟩:=j.get i v (by simpa using C);simp only[e,Option.getD_some]at k;exact wpAny_truthy_bool k
    . intro P R D;have e:((List.range a.toArray.size).all λi=>(bs[i]?).getD true)=bs.all id:=by
       rw[zzH,j.length];exact LSm.range_all bs
      rw[e];exact⟨.bl (bs.all id),H,I.kept (HF D),rfl,zX q (.bl _)⟩
 . cases c
end
def oF:O->Option (Bool×D)
 | .lf s d=>some (s,d)
 |_=>none
theorem O4{o:O}{p:Bool×D}(h:oF o=some p):o = .lf p.1 p.2:=by
 cases o with
 |lf s d=>cases h;rfl
 |nd k os=>cases h
def Ja(i j:Nat)(fd:DF):SF:=λas=>(fd as).bind λp=>(rC p.1).bind λo=>(oF o.1).bind λa=>(oF o.2).bind λb=>if i<p.2.length/\j<p.2.length then some (.nx ((p.2.set i (some (.lf a.1 a.2))).set j (some (.lf b.1 b.2))))else none
section
variable{X:Cx}{kd:KD}{a b:Expr}{fd:DF}{pos:Pos}
theorem uZ{i j:Nat}{x y:Str}{px py pt:Pos}{kt k2 pt2}(hc:X.calm=true)(hN:X.N.Nodup)(hi:X.N[i]? = some x)(hj:X.N[j]? = some y)(hij:i≠j)
 (hx:X.env.scope.names.lookup x=some .local) (hy:X.env.scope.names.lookup y=some .local) (ha:AD X kd [a,b] fd)
 (hw:swappedStores [.Tuple [.Name x px,.Name y py] kt pt] (.Tuple [a,b] k2 pt2) X.env=pure (some [x,y]))
 (hs:swapsWithSole [.Tuple [.Name x px,.Name y py] kt pt] (.Tuple [a,b] k2 pt2) pos.line X.env=pure false):
 GN X kd (.Assign [.Tuple [.Name x px,.Name y py] kt pt] (.Tuple [a,b] k2 pt2) pos) (Ja i j fd):=by with_unfolding_all exact(vq (D_ hc hN hi hj hij hx hy ha hw hs) λD σ H h=>by
 obtain⟨F,B,ad,as,o,R,e,q⟩:=h;obtain⟨⟨os,as1⟩,h1,e⟩:=bS_ (show(fd as).bind _=_ from e);obtain⟨⟨o1,o2⟩,e1,e⟩:=bS_ e;obtain⟨⟨s1,d1⟩,e2,e⟩:=bS_ e;obtain⟨⟨s2,d2⟩,e3,e⟩:=bS_ e;cases Bz e1;cases O4 e2;cases O4 e3
 . obtain⟨⟨l1,l2⟩,e⟩:=zB e;cases e;refine⟨F,B,ad,as,_,as1,R,h1,λvs T' ad' H' R' rl g=>?_⟩;cases rl with
   |cons ra rb=>
    cases rb with
    |cons rb rn=>
     cases rn;cases ra with
     |lf ra=>
      cases rb with
      |lf rb=>
       refine⟨_,_,rfl, ?_⟩;have R2:=R'.put (T:=[]) (i:=i) (o:=.lf s1 d1) l1 (.lf ra);have R3:=R2.put (T:=[]) (i:=j) (o:=.lf s2 d2) (by rw[zzU];exact l2) (wK.less xp (.lf rb));exact q _ _ _ R3 (g.trans (Grow.less λa z=>xp a (xp a z))))
end
inductive Ents(w:World):List DictEntry->List (Key×V)->Prop
 |nil:Ents w [] []
 |str {x:Str}{t:Tok}{v:V}{u:Value}{r:List DictEntry}{s:List (Key×V)}:RelV v u->Ents w r s->Ents w (⟨PyData.keyHash w.params x,.str x t,u⟩::r) ((.inr x,v)::s)
theorem Ents.keys:∀{es:List DictEntry}{kvs:List (Key×V)},Ents w es kvs->∀e ∈ es,∃k,(yH P w).is k e.key=true/\e.hash=(yH P w).hash k
 |_,_,.nil,_,m=>nomatch m
 |_,_,.str (x:=x) (t:=t) _ r,e,m=>by
  rcases zzC.mp m with rfl|m
  . exact⟨.inr x,Y_ P w x t,rfl⟩
  . exact r.keys e m
theorem Ents.pairs:∀{es:List DictEntry}{kvs:List (Key×V)},Ents w es kvs->∃vs,KV kvs vs/\Pairs (yH P w) es vs/\vs.map (·.1)=kvs.map (·.1)
 |_,_,.nil=>⟨[],.nil,.nil,rfl⟩
 |_,_,.str (x:=x) (t:=t) (u:=u) h r=>by
  obtain⟨a,b,c,d⟩:=r.pairs (P:=P);exact⟨(.inr x,u)::a,.cons ⟨rfl,h⟩ b,.cons (Y_ P w x t) rfl c,by rw[zyR,zyR,d]⟩
structure DctAt(w:World)(K:zzA)(a:Addr)(kvs:List (Key×V)):Prop where
 ex:∃es ep,K.lookup a=some {cls:=.type "dict",data:=.dict es ep}/\Ents w es.toList kvs
 nd:(kvs.map (·.1)).Nodup
 le:kvs.length<=sizeLine
 ns:(a==sysModules)=false
def oV(l:List (Addr×List (Key×V)))(c:Str->Addr:=λ_=>0):KD:=⟨λa k=>l.lookup a=some k,c⟩
theorem lookup_mem{l:List (Addr×List (Key×V))}{a:Addr}{k:List (Key×V)}(h:l.lookup a=some k):(a,k) ∈ l:=by
 induction l with
 |nil=>cases h
 |cons p r b=>
  rw[List.lookup_cons]at h
  by_cases e:a=p.1
  . subst e;rw[beq_self_eq_true]at h;cases h;exact zzF
  . rw[show(a==p.1)=false from beq_eq_false_iff_ne.mpr e]at h;exact zzD _ (b h)
theorem si{P:Program}{w:World}{K:zzA}{l:List (Addr×List (Key×V))}{c:Str->Addr}(h:∀p ∈ l,DctAt w K p.1 p.2):xF P w K (oV l c):=λX n o r=>by
 subst n;subst o;subst r;refine⟨λa k v b d=>zzZ (b.symm.trans d),λa k b=>?_,λa k y b f=>?_⟩
 . obtain⟨g,i,e,_⟩:=(h _ (lookup_mem b)).ex;exact⟨_,e⟩
 . have q:=h _ (lookup_mem b);obtain⟨g,i,e,j⟩:=q.ex;obtain⟨s,d,t,u⟩:=j.pairs (P:=X.prog);refine⟨q.le,q.ns,s,d,_,g,i,f _ _ e,⟨rfl,rfl,rfl⟩,rfl,λx m=>j.keys x (by simpa using m),t,by rw[u];exact q.nd⟩
section
variable{K:zzA}{kd:KD}{mg:Str->Option Value}
theorem GC.dct(h:mg x=some (.ref a))(hk:kd a kvs)(hr:∀(O:Addr->Prop) (H:Hp),RpM K kd O H kvs ds):GC K kd mg x (.dct ds):=⟨.ref a,_,h,rfl,λO H=>.dctK hk (hr O H)⟩
end
def isStar:Expr->Bool
 | .Starred .. => true
 |_=>false
theorem Kd(h:isStar a=false):starEach (a::es) env=(false,eval a env)::starEach es env:=by
 cases a<;>first|rfl|cases h
theorem X7(hk:AE X kd k fk)(hv:AE X kd v fv)(hr:ux X pos ks vs trs):ux X pos (some k::ks) (v::vs) ((al X.K kd fk,al X.K kd fv)::trs):=by with_unfolding_all exact(Cr hk hv hr)
section
variable{as:AS}{f a b c:EF}{s t u:Bool}{x y z:D}{i j k:Int}
theorem ue(h:WD f as s x)(ho:FT x=true:=by rfl):WD (Mt f cl) as true (.bl (Ki (ur x) cl)):=by
 unfold WD Mt at *;rw[h];show(if FT x=true then _ else _)=_;rw[if_pos ho];rfl
theorem FC(h:WD f as s x)(e:Ki (ur x) cl=q)(ho:FT x=true:=by rfl):WD (Mt f cl) as true (.bl q):=by subst e;exact ue h ho
theorem Lz{fl fh:OF}{lo hi:Option Int}{g:D->Option Int->Option Int->Option R0}(ha:WD a as true y)(hl:fl as=some (lo,as))(hh:fh as=some (hi,as))(hg:g y lo hi=some (.im x)):WD (Ym a fl fh g) as true x:=by
 have:=CU ha hl hh hg;rw[zyD]at this;exact this
theorem mU:zA (.tup (x::ds)) (.int 0)=some (.im x):=by
 show Ji (Pk _ _)=_;rw[show(0:Int)=((0:Nat):Int)from rfl,wt (v:=x) rfl];rfl
theorem u3(h:WT cc as true)(h1:g as=some (.nx as1))(h2:Jh cc g n as1=o):Jh cc g (n+1) as=o:=by
 unfold WT at h;show(cc as).bind _=_;rw[h];show(g as).bind _=_;rw[h1];exact h2
theorem tG(h:WT cc as false):Jh cc g (n+1) as=some (.nx as):=by
 unfold WT at h;show(cc as).bind _=_;rw[h];rfl
theorem uE(h:WO fd as [.lf s x,.lf t y])(hi:p<as.length)(hj:q<as.length):Ja p q fd as=some (.nx ((as.set p (some (.lf s x))).set q (some (.lf t y)))):=by
 unfold Ja;unfold WO at h;rw[h];show(if _ then _ else _)=_;rw[if_pos ⟨hi,hj⟩]
theorem Kc(h1:g w as0=some as1)(h2:WT tt as1 false)(h3:yy g tt fe as0 r=o):yy g tt fe as0 (w::r)=o:=by
 unfold WT at h2;show(g w as0).bind _=_;rw[h1];show(tt as1).bind _=_;rw[h2];exact h3
theorem Kh{g:GF}{tt:TF}{fe:EF}{as0 as1:AS}{w:wg}{r:List wg}{os:List O}(h1:g w as0=some as1)(h2:WT tt as1 true)(h3:WD fe as1 true x)(h4:yy g tt fe as0 r=some os):yy g tt fe as0 (w::r)=some (.lf true x::os):=by
 unfold WT at h2;unfold WD at h3;show(g w as0).bind _=_;rw[h1];show(tt as1).bind _=_;rw[h2];show(fe as1).bind _=_;rw[h3];show(yy g tt fe as0 r).bind _=_;rw[h4];rfl
def WE(f:EF)(as:AS)(x:D):Prop:=∃o,f as=some (.ow o,as)/\o.str=true/\o.toD=x
def RE(r:Option O)(x:D):Prop:=∃o,r=some o/\o.str=true/\o.toD=x
theorem WD.e(h:WD f as true x):WE f as x:=⟨_,h,rfl,rfl⟩
theorem yz{fr:DF}{os:List O}(h:WO fr as os)(hl:os.length<=sizeLine)(hs:O.strs os=true)(e:D.lst (O.toDs os)=x):WE (yf fr) as x:=⟨_,yN h hl,hs,e⟩
theorem y7(h:WE a as x)(hr:WA fr as rs):WA (aC a fr) as ((true,x)::rs):=by
 obtain⟨o,b,c,rfl⟩:=h;have:=ID b hr;rw[c]at this;exact this
theorem NH(ha:WE a as x)(hg:RE (g [(true,x)]) z):WE (zg (aC a aN) g) as z:=by
 obtain⟨o,b,c,d⟩:=hg;exact⟨o,xJ (y7 ha zo) (by show g [(zD x||true,x)]=_;rw[zyD];exact b),c,d⟩
theorem Vj(ha:WE a as x)(hb:WE b as y)(hg:RE (g [(true,x),(true,y)]) z):WE (zg (aC a (aC b aN)) g) as z:=by
 obtain⟨o,c,d,e⟩:=hg;exact⟨o,xJ (y7 ha (y7 hb zo)) (by show g [(zD x||true,x),(zD y||true,y)]=_;rw[zyD,zyD];exact c),d,e⟩
theorem XJ(ha:WE a as x)(hb:WE b as y)(hc:WE c as w)(hg:RE (g [(true,x),(true,y),(true,w)]) z):WE (zg (aC a (aC b (aC c aN))) g) as z:=by
 obtain⟨o,d,e,f⟩:=hg;exact⟨o,xJ (y7 ha (y7 hb (y7 hc zo))) (by show g [(zD x||true,x),(zD y||true,y),(zD w||true,w)]=_;rw[zyD,zyD,zyD];exact d),e,f⟩
theorem Yw(ha:WE a as x)(hg:g [(true,x)]=some (.lf s z)):WD (zg (aC a aN) g) as s z:=xJ (y7 ha zo) (by show g [(zD x||true,x)]=_;rw[zyD];exact hg)
theorem Vr(ha:WE a as x)(hb:WE b as y)(hg:g [(true,x),(true,y)]=some (.lf s z)):WD (zg (aC a (aC b aN)) g) as s z:=xJ (y7 ha (y7 hb zo)) (by show g [(zD x||true,x),(zD y||true,y)]=_;rw[zyD,zyD];exact hg)
theorem NS(ha:WE a as x)(hb:WE b as y)(hc:WE c as w)(hg:g [(true,x),(true,y),(true,w)]=some (.lf s z)):WD (zg (aC a (aC b (aC c aN))) g) as s z:=xJ (y7 ha (y7 hb (y7 hc zo))) (by show g [(zD x||true,x),(zD y||true,y),(zD w||true,w)]=_;rw[zyD,zyD,zyD];exact hg)
theorem Fm(ha:WE a as x)(hb:WE b as y)(hg:g x y=some (.im z)):WD (f2 a b g) as true z:=by
 obtain⟨o,c,d,rfl⟩:=ha;obtain⟨p,e,f,rfl⟩:=hb;have:=qX c e hg;rw[d,f,Bool.and_true,zyD]at this;exact this
theorem lG(ha:WE a as x)(hb:WE b as y)(hg:g x y=some (.fl zs)):f2 a b g as=some (.ow (.nd .ls (zs.map (O.lf true))),as):=by
 obtain⟨o,c,d,rfl⟩:=ha;obtain⟨p,e,f,rfl⟩:=hb;exact AX c e hg d f
theorem Q1:∀zs:List D,O.strs (zs.map (O.lf true))=true
 | []=>rfl
 |_::r=>Q1 r
theorem VO:∀zs:List D,O.toDs (zs.map (O.lf true))=zs
 | []=>rfl
 |z::r=>congrArg (z :: ·) (VO r)
theorem AJ(ha:WE a as x)(hb:WE b as y)(hg:g x y=some (.fl zs)):WE (f2 a b g) as (.lst zs):=⟨_,lG ha hb hg,Q1 zs,congrArg D.lst (VO zs)⟩
theorem vd(h:WE f as x)(hi:p<as.length):zx true p f as=some (.nx (as.set p (some (.lf true x)))):=by
 obtain⟨o,a,b,rfl⟩:=h;have:=J4 a hi;rw[show o.frz = .lf true o.toD by unfold O.frz;rw[b]]at this;exact this
theorem uL(ha:WE a as x)(hb:WE b as y)(h:xm 60 x y=some q):WD (f2 a b (zw .Eq)) as true (.bl q):=Fm ha hb (by show(xm 60 x y).bind _=_;rw[h];rfl)
theorem Vp(ha:WE a as x)(hb:WE b as y)(h:xm 60 x y=some q):WD (f2 a b (zw .NotEq)) as true (.bl (!q)):=Fm ha hb (by show(xm 60 x y).bind _=_;rw[h];rfl)
theorem YE(ha:WE a as x)(hg:g [x]=some (.im z)):WD (fP (aC a aN) g) as true z:=Of (y7 ha zo) hg rfl
theorem XR{fr:DF}{o:O}{os:List O}(ha:a as=some (.ow o,as))(hr:WO fr as os):WO (dC a fr) as (o::os):=zW ha hr
theorem C2{fr:DF}{os:List O}(h:WO fr as os)(hl:os.length<=sizeLine):yr fr as=some (.ow (Y4 os),as):=by
 unfold yr;unfold WO at h;rw[h];show(if os.length<=sizeLine then some (RV.ow (Y4 os),as)else _)=_;rw[if_pos hl]
theorem Zy{fl fh:OF}{lo hi:Option Int}{g:D->Option Int->Option Int->Option R0}{zs:List D}(ha:WE a as y)(hl:fl as=some (lo,as))(hh:fh as=some (hi,as))(hg:g y lo hi=some (.fl zs)):WE (Ym a fl fh g) as (.lst zs):=by
 obtain⟨o,b,c,rfl⟩:=ha;refine⟨.nd .ls (zs.map (O.lf true)), ?_,Q1 zs,congrArg D.lst (VO zs)⟩;unfold Ym;rw[b];show((fl as).bind _)=_;rw[hl];show((fh as).bind _)=_;rw[hh];show((g o.toD lo hi).bind _)=_;rw[hg];show(if(zs.all zD||(some o.str).isSome)=true then some (RV.ow (.nd .ls (zs.map (G_ ((some o.str).getD false)))))else none:Option RV).bind _=_;rw[if_pos (by simp),c];show some (RV.ow (.nd .ls (zs.map (G_ true))),as)=_;rw[vG]
theorem Xy:Wk (.lst (xs++ys)) (some (xs.length:Int)) none=some (.fl ys):=by
 show some (R0.fl (cutD (xs++ys) (some (xs.length:Int)) none))=_
 congr 2
 unfold cutD;rw[HT.Po,HT.Mo,zzJ,Nat.min_eq_left (by omega),List.drop_left,List.take_of_length_le (by omega)]
theorem Nv:∀ds:List D,kids true ds=ds.map λd=>(true,d)
 | []=>rfl
 |d::r=>by show(zD d||true,d)::kids true r=_;rw[Nv r,zyD];rfl
theorem WR(h:WE f as (.lst ds)):yB f as=some (ds.map λd=>(true,d),as):=by
 obtain⟨o,a,b,c⟩:=h;unfold yB;rw[a];show(Th (o.str,o.toD)).bind _=_;rw[b,c];show some (kids true ds,as)=_;rw[Nv]
theorem DX(h:WD f as true (.lst ds)):Ej f as=some (ds.map λd=>(true,d),as):=by
 unfold Ej;unfold WD at h;rw[h];show some (kids true ds,as)=_;rw[Nv]
end
def Qv:List D->Option (List Str)
 | []=>some []
 | .str x::r=>(Qv r).bind λs=>some (x::s)
 |_::_=>none
theorem JO{K:zzA}{kd:KD}{O:Addr->Prop}{H:Hp}{vs:List V}{us:List Value}{ds:List D}{ns:List Str}(h:RpL K kd O H vs ds)(hv:zQ vs us)(e:Qv ds=some ns):StrsAre us ns:=
 RpL.ind (P:=λvs ds=>∀us ns,zQ vs us->Qv ds=some ns->StrsAre us ns) (λus ns hv e=>by cases e;cases hv;exact .nil) (λ{v d vs ds} a _ ih us ns hv e=>by
  cases hv with
  |cons b t=>
   cases a with
   |str x=>
    obtain⟨ys,h1,h2⟩:=bS_ (show(Qv _).bind _=_ from e);cases h2;obtain⟨tk,rfl⟩:=b;exact .cons _ _ (ih _ _ t h1)
   |_=>cases e) h us ns hv e
def xi:D->List D->Option R0
 | .str sep,[.lst ds]=>(Qv ds).bind λys=>if(ys.map (·.length)).sum+ys.length*sep.length<=16777216 then some (.im (.str (Txt.join sep ys)))else none
 |_,_=>none
def xZ:D->List D->Option R0
 | .str x,[.str y]=>if(y.length==0)=false/\x.length<=sizeLine/\(Builtin.Str.partsBetween x (Builtin.Str.occurrences x y 0 x.length (x.length+1)) y.length).length<=sizeLine then some (.fl ((Txt.split x y).map .str))else none
 |_,_=>none
section
variable{X:Cx}{kd:KD}
theorem Jy:Du X kd "str.join" xi:=by
 intro b s σ H x B v C Q I c r h;obtain⟨O,d,D,E,F,e,f,a,q⟩:=h;unfold xi at a
 split at a
 . rename_i g G;obtain⟨J,i,a⟩:=bS_ a;obtain⟨j,a⟩:=zB a;cases a;cases e;obtain⟨t,rfl⟩:=c;obtain⟨y,rfl,l⟩:=xO f;cases l with
   |lst m n=>
    obtain⟨u,rfl,o⟩:=vals1 r;cases o;obtain⟨p,w,z,_⟩:=I.list m.sq;exact join_list z.isList (JO n (by simpa using w) i) j λA k=>⟨.str _,H,I.tok _,⟨A,rfl⟩,zX q (.str _)⟩
 . cases a
theorem Up:∀{l:List (Str×Tok)}{ys:List Str},l.map (·.1)=ys->zQ (ys.map V.str) (strValues l)
 | [],_,e=>by cases e;exact .nil
 |(x,t)::r,_,e=>by cases e;exact .cons ⟨t,rfl⟩ (Up rfl)
theorem P9{K:zzA}{O:Addr->Prop}{H:Hp}:∀ys:List Str,RpL K kd O H (ys.map V.str) (ys.map D.str)
 | []=>.nil
 |y::r=>.cons (.str y) (P9 r)
theorem OT:Du X kd "str.split" xZ:=by
 intro a s σ H x D v E Q I k r h;obtain⟨O,d,G,J,K,m,n,f,q⟩:=h;unfold xZ at f
 split at f
 . rename_i x y;obtain⟨⟨g,p,z⟩,f⟩:=zB f;cases f;cases m;obtain⟨t,rfl⟩:=k;obtain⟨L,rfl,A⟩:=xO n;cases A;obtain⟨M,rfl,B⟩:=vals1 r;obtain⟨u,rfl⟩:=B;have c:∀(l:List (Str×Tok)) (i:Nat),l.map (·.1)=Txt.split x y->l.length<=sizeLine->EP X a σ Q (.ref s.heap.objs.size) {s with heap:=s.heap.push {cls:=.type "list",data:=.seq (strValues l).toArray},toks:=i}:=λl i j C=>by
    refine⟨.ref s.heap.objs.size,_,I.laid (λb o e=>zxF _ e) (zzN _) (show yU X.prog X.w _ _ _ (.lst ((Txt.split x y).map V.str))from⟨by rw[<-j];simpa using C,strValues l,0,Up j,zxH _ rfl⟩),rfl,XM q (P9 _) _ (I.hok.fresh (zzN _))⟩
   cases h1:(decide (x.length<y.length)||decide (Builtin.Str.strKind x<Builtin.Str.strKind y))
   . cases hf:(Builtin.Str.occurrences x y 0 x.length (x.length+1)).isEmpty
     . refine call_meets PySem.F.slot_str_split (typeIs_str _ _ _) PySem.F.entry_str_split (PySem.F.args_str_split_2 _ _) (meets_str_split_sep x y t u h1 g hf p z) ?_;show EP X a σ Q (.ref s.heap.objs.size) {s with toks:=_,heap:=s.heap.push {cls:=.type "list",data:=.seq (strsFrom s.toks _).toArray}};rw[strsFrom_eq];exact c (numbered s.toks _) _ ((numbered_texts _ _).trans ((if_neg (ne_true_of_eq_false h1)).trans (if_neg (ne_true_of_eq_false hf))).symm) (by have:=congrArg List.length (numbered_texts s.toks (Builtin.Str.partsBetween x (Builtin.Str.occurrences x y 0 x.length (x.length+1)) y.length));rw[zzB]at this;omega)
     . exact call_meets PySem.F.slot_str_split (typeIs_str _ _ _) PySem.F.entry_str_split (PySem.F.args_str_split_2 _ _) (meets_str_split_not_found x y t u h1 g hf) (c [(x,t)] s.toks ((if_neg (ne_true_of_eq_false h1)).trans (if_pos hf)).symm (by show 1<=sizeLine;decide))
   . exact call_meets PySem.F.slot_str_split (typeIs_str _ _ _) PySem.F.entry_str_split (PySem.F.args_str_split_2 _ _) (meets_str_split_cannot_occur x y t u h1) (c [(x,t)] s.toks (if_pos h1).symm (by show 1<=sizeLine;decide))
 . cases f
def wF:List D->Option R0
 | [.str x]=>some (.im (.str x))
 |ds=>Ao ds
def nX:D->Option R0
 | .str x=>if x.length<=640 then(PySem.intText? x).bind λn=>some (.im (.int n))else none
 |d=>nP d
def UW:List D->Option R0:=rM nX
theorem E8:vN X kd (.type "str") wF:=by
 intro a s σ H i d Q I r h;obtain⟨O,j,z,e,c,b,q⟩:=h;unfold wF at b
 split at b
 . cases b;obtain⟨x,rfl,f⟩:=xO c;cases f;obtain⟨u,rfl,g⟩:=vals1 r;obtain⟨t,rfl⟩:=g;exact PySem.P.str_of_str ⟨.str _,H,I,⟨t,rfl⟩,zX q (.str _)⟩
 . exact Hy a s σ H _ d Q I r ⟨O,_,z,e,c,b,q⟩
theorem FL:vN X kd (.type "int") UW:=by
 intro c s σ H m e Q I r h;obtain⟨O,o,z,p,f,a,q⟩:=h;obtain⟨x,d,rfl,g,a⟩:=Gb f a;cases g with
 |str y=>
  obtain⟨j,a⟩:=ite_some' a;obtain⟨n,k,a⟩:=bS_ a;cases a;obtain⟨u,rfl,l⟩:=vals1 r;obtain⟨t,rfl⟩:=l;exact PySem.W.KIN.call_text k j ⟨.int _,H,I.tok _,⟨_,rfl⟩,zX q (.int _)⟩
 |int i=>cases a;exact Ks c s σ H _ e Q I r (.inl ⟨_,rfl,zX q (.int _)⟩)
 |bl b=>cases a;exact Ks c s σ H _ e Q I r (.inr ⟨_,rfl,zX q (.int _)⟩)
 |_=>cases a
end
section
variable{X:Cx}{pins:List (Addr×Obj)}{σ:List (Option V)}{H:Hp}{s:Shared}{h':Heap}
theorem Qj{t':Nat}{ch:List Addr}{T:Addr}{o:HO}(I:Inv X pins σ H s)(hf:∀b ∈ ch,Uq X pins H b)(k:∀b u,b ∉ ch->s.heap.get? b=some u->h'.get? b=some u)(hp:s.heap.objs.size<=T)
 (new:yU X.prog X.w (upd H T o) h' T o):Inv X pins σ (upd H T o) {s with heap:=h',toks:=t'}:=by
 have hn:H T=none:=I.hok.fresh hp;have nT:∀b u,s.heap.get? b=some u->b≠T:=λb u e z=>absurd (zzK (zxG e) (by rw[z];exact hp)) (Nat.lt_irrefl _);have nc:∀b u,H b=some u->b ∉ ch:=λb u e z=>by have:=(hf b z).1;rw[e]at this;cases this
 refine I.step (g':=s.gens) (d':=s.drawn) (ch:=ch) (λb hb=>?_) (λb o _ _ hc e _=>k b o hc e) (λb o _ _ hc e _=>⟨o.slots,k b o hc e⟩) (λb o _ e n=>by rw[zE (nT b o e)];exact n)
  (λb o hc e=>⟨o,k b o hc e⟩) (λb xs e=>by rw[zE (yh e hn)];exact e) (λb o u e=>by rw[zE (yh e hn)];exact e) (λb ps e=>⟨#[],by rw[zE (yh e hn),e];simp⟩) (λm hm=>?_) (λb u e=>?_) I.bare
 . obtain⟨f0,f1,f2,f3,f4,f5⟩:=hf b hb;exact⟨f3,f1,f4,f5⟩
 . obtain⟨o,es,ep,ho,r⟩:=hm;exact⟨o,es,ep,k _ o (λz=>(hf _ z).2.1 rfl) ho,r⟩
 . by_cases hb:b=T
   . subst hb;rw[zV]at e;cases e;exact new
   . rw[zE hb]at e;refine(I.hok b u e).stay (λc v hc q=>k c v ?_ q) (λc q=>by rw[zE (yh q hn)];exact q) λc xs q=>by rw[zE (yh q hn)];exact q
     rcases hc with z|z
     . rw[z];exact nc b u e
     . exact nc c _ z
end
def nH(K:zzA)(a:Addr):It:=
 ⟨λi H=>∃xs x,ZT K H a xs/\xs[i]? = some x,λi H v H'=>∃T x,H T=none/\v = .ref T/\H'=upd H T (.tup [.int i,x])/\∀xs,ZT K H a xs->xs[i]? = some x,λi H=>∃xs,ZT K H a xs/\xs.length<=i⟩
theorem SZ{P:Program}{w:World}{K:zzA}{elts:List Expr}{k:Nat}{pos:Pos}(a e it:Addr)(hei:e≠it):Turn P w K (.Tuple elts k pos) (nH K a) [e,it] e (λi h=>(∃old,IsEnum h e it i old)/\h.IsListIter it a i)where
 mem:=by simp
 obj:=λi h st b hb=>by
  obtain⟨⟨old,he⟩,⟨o,e1,c,d⟩⟩:=st
  rcases zzC.mp hb with rfl|hb
  . exact⟨_,he,λv z=>by cases z⟩
  . rw[zzR.mp hb];exact⟨o,e1,λv z=>by rw[d]at z;cases z⟩
 keep:=λi h h' st kk=>⟨st.1.imp λold he=>kk e (by simp) _ he,st.2.at λo q=>kk it (by simp) o q⟩
 item:=by
  intro X hP hw hK hc i pins s σ H E I hf st hg;subst hP hw hK;obtain⟨xs,x,hq,hx⟩:=hg;obtain⟨its,rv,p,hz⟩:=I.list hq;obtain⟨u,hu,ru⟩:=rv.get hx;have hil:i<its.toArray.size:=by have:=(zzG.mp hu).1;simpa using this
  obtain⟨ol,hol,hcl,_⟩:=p.isList;have hae:a≠e:=λz=>by
   obtain⟨⟨old,he⟩,_⟩:=st;rw[z]at hol;rw[show s.heap.get? e=_ from he]at hol;cases hol;injection hcl with q;exact absurd q (by decide)
  have hai:a≠it:=λz=>by
   obtain⟨_,⟨o,e1,c,d⟩⟩:=st;rw[z,e1]at hol;cases hol;rw[c]at hcl;injection hcl with q;exact absurd q (by decide)
  have W:=WalksT.enumerate (prog:=X.prog) (w:=X.w) (A:=X.A) (I.ok.hd hc) e it a hei hae hai its.toArray;refine W.item i s _ _ hil ⟨st.1,st.2,p.isList⟩ λT vals h1 tk hP hT hTup hMid kk=>?_;obtain⟨t,v,hv,rfl⟩:=hP;have:v=u:=by rw[show its.toArray[i]? = its[i]? by simp,hu]at hv;cases hv;rfl
  subst this;refine⟨_,rfl,W.go elts k pos i T {s with heap:=h1,toks:=tk} _ _ hMid λh2 hSt kk2=>?_⟩;have hn:H T=none:=I.hok.fresh hT;have hTw:=W.apart i T h1 hMid;have k2:∀b o,b ∉ [e,it]->s.heap.get? b=some o->h2.get? b=some o:=λb o hb q=>kk2 b o hb (kk b o hb q);have hT2:IsTup h2 T #[.int i t,v]:=by
   obtain⟨o,q1,q2⟩:=hTup;exact⟨o,kk2 T o hTw q1,q2⟩
  refine⟨.ref T,upd H T (.tup [.int i,x]),Qj (s:=s) (t':=tk) (ch:=[e,it]) I hf k2 hT ⟨by show 2<=sizeLine;decide,[.int i t,v],.cons ⟨t,rfl⟩ (.cons ru .nil),hT2⟩,rfl,⟨T,x,hn,rfl,rfl,λys hy=>by rw[I.list_inj hy hq];exact hx⟩,⟨hSt.1,hSt.2.1⟩,λb hb=>?_⟩;have hbT:b≠T:=λz=>hTw (by rw[<-z];exact hb);rw[zE hbT];exact(hf b hb).1
 done:=by
  intro X hP hw hK hc i pins s σ H E I hf st hg;subst hP hw hK;obtain⟨xs,hq,hx⟩:=hg;obtain⟨its,rv,p,hz⟩:=I.list hq;have hl:=rv.length;obtain⟨⟨old,he⟩,hit⟩:=st;obtain⟨f0,f1,f2,f3,f4,f5⟩:=hf it (by simp);exact wpAny_pyNext_enum_end (I.ok.hd hc) he hit p.isList (by simp;omega) λh' eb=>⟨rfl,I.turned (t':=s.toks) (λb o hb e=>eb b o hb e) f0 f1 f3 f4 f5⟩
 self:=λ_ _ _ _ _ st h=>by
  obtain⟨⟨old,he⟩,_⟩:=st;exact wpAny_pyIter_enum he h
section
variable{X:Cx}{tg:Expr}
def tQ(K:zzA)(ta:TA):TI:=λσ H R=>ta σ H λvs H1=>∃a,vs=[.ref a]/\(∃xs,ZT K H1 a xs)/\R (nH K a) H1
theorem Jz{l:Expr}{ta:TA}{p pos pos':Pos}{elts:List Expr}{k:Nat}(hg:Gl X "enumerate")(hm:X.mg "enumerate"=none)(ha:PA X [l] ta)(hs:starEach [l] X.env=[(false,eval l X.env)]):
 PI X (.Tuple elts k pos') (.Call (.Name "enumerate" p) [l] [] pos) (tQ X.K ta):=by
 intro pins s σ H R I h;refine Call_ (ZG I hg hm boot_enumerate (PyProof.Rows.callWith_type1 (yY (ha pos pins s σ H _ I h) λus s1 ⟨vs,H1,I1,r1,q1⟩=>?_) hs rfl));obtain⟨a,rfl,⟨xs,hq⟩,q⟩:=q1;cases r1 with
 |cons r rr=>
  cases rr;cases r;obtain⟨its,rv,pl,hz⟩:=I1.list hq;refine call_enumerate_list pl.isList λh' he hit hsz hk=>?_;refine wpAny_pyIter_enum he ⟨s1.heap.objs.size+1,[s1.heap.objs.size+1,s1.heap.objs.size],_,_,H1,rfl,I1.kept (t':=s1.toks) hk,SZ a _ _ (Nat.succ_ne_self _),⟨⟨_,he⟩,hit⟩,λb hb=>?_,q⟩;have hb':s1.heap.objs.size<=b:=by
   rcases zzC.mp hb with rfl|hb
   . exact zyV _
   . rw[zzR.mp hb];exact zzN _
  exact I1.fpOk hb' (I1.hok.fresh hb')
end
section
variable{X:Cx}{kd:KD}{tg e:Expr}{fa:EF}
def RC(st:Bool):Nat->List D->List wg
 |_,[]=>[]
 |i,d::r=>(st,.tup [.int i,d])::RC st (i+1) r
theorem Kk(st:Bool):∀(i:Nat) (ds:List D),(RC st i ds).length=ds.length
 |_,[]=>rfl
 |i,_::r=>congrArg (· + 1) (Kk st (i+1) r)
theorem Lb{st:Bool}:∀{j:Nat}{ds:List D}{i:Nat}{y:wg},(RC st j ds)[i]? = some y->∃d,ds[i]? = some d/\y=(st,.tup [.int ((j+i:Nat):Int),d])
 |_,[],_,_,h=>by simp[RC]at h
 |j,d::r,0,y,h=>by
  simp only[RC,List.getElem?_cons_zero]at h;cases h;exact⟨d,rfl,rfl⟩
 |j,d::r,i+1,y,h=>by
  simp only[RC,List.getElem?_cons_succ]at h;obtain⟨d',h1,h2⟩:=Lb h;exact⟨d',by simpa using h1,by rw[h2,show j+1+i=j+(i+1) by omega]⟩
theorem SB{K:zzA}{F B:Addr->Prop}{ad:Ad}{H:Hp}{a:Addr}{vs:List V}{st:Bool}{ds:List D}(hs:∀(ad3:Ad) (H3:Hp),Grow (Gw [] ad) H (Gw [] ad3) H3->ZT K H3 a vs)(r:RpL K kd (Lv F B (Gw [] ad) st) H vs ds):ItOk K kd F B ad H (nH K a) (RC st 0 ds):=⟨λad3 H3 g3 tr i=>by
 have hr3:=hs ad3 H3 g3;have rl3:RpL K kd (Lv F B (Gw [] ad3) st) H3 vs ds:=RpL.grow g3 r;have hlen:=Kk st 0 ds;refine⟨λhi=>?_,λhi=>⟨_,hr3,by rw[r.length];omega⟩,λv H4 hy=>?_⟩
 . obtain⟨u,hu,_⟩:=r.get (zzE (by rw[<-hlen];exact hi));exact⟨_,u,hr3,hu⟩
 . obtain⟨T,x,hn,rfl,rfl,hv⟩:=hy;refine⟨xY hn,λy hy=>?_⟩;obtain⟨d,hd,rfl⟩:=Lb hy;obtain⟨u,hu,ru⟩:=rl3.get hd;have:=hv _ hr3;rw[hu]at this;cases this;rw[zyW];exact .tup (λz=>tr _ _ z hn) (.inl zV) (.cons (.int _) (.cons (Rp.grow ⟨λb o q _=>xY hn b o q,λb z=>.inl z⟩ ru) .nil))⟩
def pB(f:EF):IF:=λas=>(f as).bind λp=>(Vq p.2 p.1).bind λq=>match q.1 with
 |(st,.lst ds)=>some (RC st 0 ds,q.2)
 |_=>none
theorem Dg{p pos pos':Pos}{elts:List Expr}{k:Nat}(hg:Gl X "enumerate")(hm:X.mg "enumerate"=none)(he:AE X kd e fa)(hs:starEach [e] X.env=[(false,eval e X.env)]):
 AI X kd (.Tuple elts k pos') (.Call (.Name "enumerate" p) [e] [] pos) (pB fa):=by
 with_unfolding_all (
 intro pins s σ H R I h;obtain⟨F,B,ad,as,ds,as',Rl,e',q⟩:=h;obtain⟨⟨p,as1⟩,h1,e'⟩:=bS_ (show(fa as).bind _=_ from e');obtain⟨⟨⟨st,x⟩,as2⟩,h2,e'⟩:=bS_ e'
 match x,e',h2 with
 | .lst xs,e',h2=>
  cases e';refine Jz hg hm (wR he YT hs) hs pins s σ H R I (show al X.K kd fa σ H _ from⟨F,B,ad,as,p,as1,Rl,h1,λv T1 ad1 H1 R1 rv1 g1=>?_⟩);obtain⟨ad2,R2,rp,le⟩:=ZZ R1 rv1 h2;cases rp with
  |lst hn hr rl=>exact⟨_,rfl,⟨_,.inl hr⟩,q _ ad2 H1 R2 (g1.trans (Grow.less le)) (SB (λad3 H3 g3=>.inl (v8 g3 (λz=>hn (.inr z)) hr)) rl)⟩
  |lstK a b c rl=>exact⟨_,rfl,⟨_,.inr ⟨_,_,_,a,rfl,rfl,rfl,b,c⟩⟩,q _ ad2 H1 R2 (g1.trans (Grow.less le)) (SB (λad3 H3 g3=>.inr ⟨_,_,_,a,rfl,rfl,rfl,b,c⟩) rl)⟩)
end
def nK(K:zzA)(a:Addr)(n:Nat):It:=
 ⟨λi H=>i<n/\∃xs,ZT K H a xs/\xs.length=n,λi H v H'=>H'=H/\∀xs,ZT K H a xs->xs[n-1-i]? = some v,λi _=>n<=i⟩
theorem Ic{P:Program}{w:World}{K:zzA}{tg:Expr}(a it:Addr)(n:Nat):Turn P w K tg (nK K a n) [it] it (λi h=>i<=n/\h.IsRevIter it a ((n:Int)-1-i))where
 mem:=by simp
 obj:=λi h g b l=>by
  have e:b=it:=by simpa using l
  subst e;obtain⟨_,o,e,c,d⟩:=g;exact⟨o,e,λv z=>by rw[d]at z;cases z⟩
 keep:=λi h q g k=>⟨g.1,g.2.at λo e=>k it (by simp) o e⟩
 item:=by
  intro X t y A L i j s σ H E I r g B;subst t y A;obtain⟨Q,M,N,hl⟩:=B;obtain⟨R,S,p,hz⟩:=I.list N;have O:M[n-1-i]? = some (M[n-1-i]'(by omega)):=zzE _;obtain⟨u,T,U⟩:=S.get O;obtain⟨C,f1,f2,D,F,G⟩:=r it (by simp);obtain⟨J,f⟩:=g;rw[show(n:Int)-1-i=((n-1-i:Nat):Int) by omega]at f;refine wpAny_pyNext_rev_item f p.isList (x:=u) (by simpa using T) λq m V=>?_;have Y:Inv X j σ H {s with heap:=q}:=I.turned (t':=s.toks) (λb o l e=>(V.2 b l).trans e) C f1 D F G;obtain⟨o,e,c,d⟩:=id m;refine⟨u,rfl,M9 (s:={s with heap:=q}) e c d (by decide) ⟨_,H,Y,U,⟨rfl,λys Z=>by rw[I.list_inj Z N];exact O⟩,⟨Q, ?_⟩,λb l=>(r b l).1⟩⟩;rw[show(n:Int)-1-((i+1:Nat):Int)=((n-1-i:Nat):Int)-1 by omega];exact m
 done:=by
  intro X t y A L i j s σ H E I r g B;subst t y A;obtain⟨J,f⟩:=g;obtain⟨C,f1,f2,D,F,G⟩:=r it (by simp);rw[show(n:Int)-1-i = -1 by have:n<=i:=B;omega]at f;exact wpAny_pyNext_rev_end (I.ok.hd L) f λq eb=>⟨rfl,I.turned (t':=s.toks) (λb o l e=>eb b o l e) C f1 D F G⟩
 self:=λ_ _ _ _ _ g h=>wpAny_pyIter_revIter g.2 h
section
variable{X:Cx}{tg:Expr}
def pM(K:zzA)(ta:TA):TI:=λσ H R=>ta σ H λvs H1=>∃a xs,vs=[.ref a]/\ZT K H1 a xs/\R (nK K a xs.length) H1
theorem uK{l:Expr}{ta:TA}{p pos:Pos}(hg:Gl X "reversed")(hm:X.mg "reversed"=none)(ha:PA X [l] ta)(hs:starEach [l] X.env=[(false,eval l X.env)]):
 PI X tg (.Call (.Name "reversed" p) [l] [] pos) (pM X.K ta):=by
 intro g s σ H R I h;refine Call_ (ZG I hg hm boot_reversed (PyProof.Rows.callWith_type1 (yY (ha pos g s σ H _ I h) λz f ⟨A,k,i,m,n⟩=>?_) hs rfl));obtain⟨a,j,rfl,t,q⟩:=n;cases m with
 |cons r u=>
  cases u;cases r;obtain⟨c,v,w,B⟩:=i.list t;have x:=v.length;refine call_reversed_list w.isList ?_;have d:Heap.IsRevIter (f.heap.push (revObj a ((c.toArray.size:Int)-1))) f.heap.objs.size a ((c.toArray.size:Int)-1):=⟨_,zxH _ rfl,rfl,rfl⟩;refine wpAny_pyIter_revIter (s:={f with heap:=f.heap.push (revObj a ((c.toArray.size:Int)-1))}) d ⟨f.heap.objs.size,[f.heap.objs.size],_,_,k,rfl,i.kept (t':=f.toks) λb o e=>zxF _ e,Ic a _ j.length,⟨Nat.zero_le _, ?_⟩,λb y=>?_,q⟩
  . rw[show(j.length:Int)-1-((0:Nat):Int)=(c.toArray.size:Int)-1 by rw[x];simp];exact d
  . rw[zzR.mp y];exact i.fpOk (zzN _) (i.hok.fresh (zzN _))
end
section
variable{X:Cx}{kd:KD}{tg e:Expr}{fa:EF}
theorem OG{K:zzA}{F B:Addr->Prop}{ad:Ad}{H:Hp}{a:Addr}{vs:List V}{st:Bool}{ds:List D}(hs:∀(ad3:Ad) (H3:Hp),Grow (Gw [] ad) H (Gw [] ad3) H3->ZT K H3 a vs)(r:RpL K kd (Lv F B (Gw [] ad) st) H vs ds):ItOk K kd F B ad H (nK K a vs.length) (kids st ds.reverse):=⟨λc j k p i=>by
 have d:=hs c j k;have f:RpI K kd F B (Gw [] c) j vs (kids st ds):=(Yq r).grow k;have l:vs.length=ds.length:=r.length;have e:(kids st ds.reverse).length=ds.length:=by unfold kids;simp
 refine⟨λg=>⟨by omega,_,d,rfl⟩,λg=>by show vs.length<=i;omega,λv q b=>?_⟩;obtain⟨rfl,m⟩:=b;refine⟨λ_ _ z=>z,λy b=>?_⟩;have g:i<ds.length:=by rw[<-e];exact(zzG.mp b).1
 have h:(kids st ds)[vs.length-1-i]? = some y:=by
  unfold kids at b ⊢;rw[zzI]at b ⊢;rw[List.getElem?_reverse g]at b;rw[l];exact b
 obtain⟨u,n,o⟩:=f.get h;have:=m _ d;rw[n]at this;cases this;exact o⟩
def pL(f:EF):IF:=λas=>(f as).bind λp=>(Vq p.2 p.1).bind λq=>match q.1 with
 |(st,.lst ds)=>some (kids st ds.reverse,q.2)
 |_=>none
theorem rH{p pos:Pos}(hg:Gl X "reversed")(hm:X.mg "reversed"=none)(he:AE X kd e fa)(hs:starEach [e] X.env=[(false,eval e X.env)]):
 AI X kd tg (.Call (.Name "reversed" p) [e] [] pos) (pL fa):=by
 with_unfolding_all (
 intro pins s σ H R I h;obtain⟨F,B,ad,as,ds,as',Rl,e',q⟩:=h;obtain⟨⟨p,as1⟩,h1,e'⟩:=bS_ (show(fa as).bind _=_ from e');obtain⟨⟨⟨st,x⟩,as2⟩,h2,e'⟩:=bS_ e'
 match x,e',h2 with
 | .lst xs,e',h2=>
  cases e';refine uK hg hm (wR he YT hs) hs pins s σ H R I (show al X.K kd fa σ H _ from⟨F,B,ad,as,p,as1,Rl,h1,λv T1 ad1 H1 R1 rv1 g1=>?_⟩);obtain⟨ad2,R2,rp,le⟩:=ZZ R1 rv1 h2;cases rp with
  |lst hn hr rl=>exact⟨_,_,rfl,.inl hr,q _ ad2 H1 R2 (g1.trans (Grow.less le)) (OG (λad3 H3 g3=>.inl (v8 g3 (λz=>hn (.inr z)) hr)) rl)⟩
  |lstK a b c rl=>exact⟨_,_,rfl,.inr ⟨_,_,_,a,rfl,rfl,rfl,b,c⟩,q _ ad2 H1 R2 (g1.trans (Grow.less le)) (OG (λad3 H3 g3=>.inr ⟨_,_,_,a,rfl,rfl,rfl,b,c⟩) rl)⟩)
end
def o_(x:Str):It:=⟨λi _=>i<x.cps.size,λi H v H'=>H'=H/\∃c,x.cps[i]? = some c/\v = .str ⟨#[c]⟩,λi _=>x.cps.size<=i⟩
theorem MR{P:Program}{w:World}{K:zzA}{tg:Expr}(it:Addr)(x:Str)(t:Tok)(ty:String)(hty : ["enumerate","zip","dict_itemiterator","dict_reverseitemiterator","odict_iterator","itertools.zip_longest","itertools.pairwise"].contains ty=false)
 (hW:∀A:Around,A.handled=none->Walks P w A it [it] [it] x.cps.size (SignAt x) (λi h=>h.IsStrIter it ty x t i))
 (hS:∀(A:Around) (i:Nat) (s:Shared) (Q:Value->Shared->Prop) (E:Value->Shared->Prop),s.heap.IsStrIter it ty x t i->Q (.ref it) s->wpAny (model P w) A (pyIter (.ref it)) Q E s):Turn P w K tg (o_ x) [it] it (λi h=>i<=x.cps.size/\h.IsStrIter it ty x t i)where
 mem:=by simp
 obj:=λi h a b g=>by
  have e:b=it:=by simpa using g
  subst e;obtain⟨_,o,e,c,d⟩:=a;exact⟨o,e,λv z=>by rw[d]at z;cases z⟩
 keep:=λi h m a k=>⟨a.1,let⟨o,e,r⟩:=a.2;⟨o,k it (by simp) o e,r⟩⟩
 item:=by
  intro X q y B C i f s σ H E I n a p;subst q y B;obtain⟨D,f1,f2,F,G,J⟩:=n it (by simp);refine(hW X.A (I.ok.hd C)).item i s _ _ p a.2 λv m L R l M=>?_;obtain⟨c,u,N,rfl⟩:=R;have S:Inv X f σ H {s with heap:=m,toks:=L}:=I.turned (λb o g e=>M b o (by simpa using g) e) D f1 F G J;obtain⟨o,e,cl,d⟩:=id l;exact⟨_,rfl,M9 (s:={s with heap:=m,toks:=L}) e cl d hty ⟨.str ⟨#[c]⟩,H,S,⟨u,rfl⟩,⟨rfl,c,N,rfl⟩,⟨p,l⟩,λb g=>(n b g).1⟩⟩
 done:=by
  intro X q y B C i f s σ H E I n a p;subst q y B;obtain⟨D,f1,f2,F,G,J⟩:=n it (by simp);obtain⟨O,j⟩:=a;have:i=x.cps.size:=Nat.le_antisymm O p;subst this;exact(hW X.A (I.ok.hd C)).done s _ _ j λm L M=>⟨rfl,I.turned (λb o g e=>M b o (by simpa using g) e) D f1 F G J⟩
 self:=λA i s Q E a h=>by
  obtain⟨_,j⟩:=a;exact hS A i s Q E j h
section
variable{X:Cx}{tg:Expr}
def qm(te:TE):TI:=λσ H R=>te σ H λv H1=>∃x,v = .str x/\R (o_ x) H1
theorem D8{e:Expr}{te:TE}(he:PE X e te):PI X tg e (qm te):=by
 intro a s σ H R I h;refine yY (he a s σ H _ I h) λv c ⟨y,f,d,k,l⟩=>?_;obtain⟨x,rfl,q⟩:=l;obtain⟨t,rfl⟩:=k;have j:∀b ∈ [c.heap.objs.size],Uq X a f b:=λb m=>by
  rw[zzR.mp m];exact d.fpOk (zzN _) (d.hok.fresh (zzN _))
 cases ha:x.cps.all (· < 128)
 . exact wpAny_pyIter_wide ha ⟨c.heap.objs.size,[c.heap.objs.size],_,_,f,rfl,d.kept (t':=c.toks) λb o e=>zxF _ e,MR _ x t "str_iterator" (by decide) (λA g=>Walks.strWide g _ x t) (λ_ _ _ _ _ i h=>wpAny_pyIter_striter_wide i h),⟨Nat.zero_le _,_,zxH _ rfl,rfl,rfl⟩,j,q⟩
 . exact wpAny_pyIter_ascii ha ⟨c.heap.objs.size,[c.heap.objs.size],_,_,f,rfl,d.kept (t':=c.toks) λb o e=>zxF _ e,MR _ x t "str_ascii_iterator" (by decide) (λA g=>Walks.strAscii g _ x t) (λ_ _ _ _ _ i h=>wpAny_pyIter_striter_ascii i h),⟨Nat.zero_le _,_,zxH _ rfl,rfl,rfl⟩,j,q⟩
end
section
variable{X:Cx}{kd:KD}{tg e:Expr}{fa:EF}
def vp(x:Str):List wg:=x.cps.toList.map λc=>(true,.str ⟨#[c]⟩)
theorem J9{K:zzA}{F:Addr->Prop}{H:Hp}(x:Str):ItC K kd F H (o_ x) (vp x):=⟨λh T k j i=>by
 have e:(vp x).length=x.cps.size:=by unfold vp;simp
 refine⟨λa=>by rw[e]at a;exact a,λa=>by rw[e]at a;exact a,λv l f=>?_⟩;obtain⟨rfl,c,g,rfl⟩:=f;refine⟨λ_ _ z=>z,λd b=>?_⟩;unfold vp at b;rw[zzI]at b;rw[show x.cps.toList[i]? = x.cps[i]? by simp,g]at b;cases b;exact .str _⟩
def IL(f:EF):IF:=λas=>(f as).bind λp=>match p.1 with
 | .ow (.lf _ (.str x))=>some (vp x,p.2)
 |_=>none
theorem uO(he:AE X kd e fa):DQ X kd tg e (IL fa):=by
 with_unfolding_all (
 intro a s σ H R I h;obtain⟨F,B,j,as,r,k,l,b,q⟩:=h;obtain⟨⟨p,c⟩,d,b⟩:=bS_ (show(fa as).bind _=_ from b)
 match p,b,d with
 | .ow (.lf t (.str x)),b,d=>
  cases b;refine D8 he a s σ H R I ⟨F,B,j,as,_,c,l,d,λv u f m i g n=>?_⟩;have o:=L8 i g;cases o;exact⟨x,rfl,q _ f m i.drop (n.trans (Grow.less Gw.drop)) (J9 x)⟩)
end
mutual
def GW:D->Option PyData
 | .non=>some .none
 | .bl b=>some (.bool b)
 | .int i=>some (.int i)
 | .str x=>some (.str x)
 | .tup ds=>(LM ds).bind λps=>some (.tuple ps)
 | .lst ds=>(LM ds).bind λps=>some (.list ps)
 | .dct _=>none
 | .cl _=>none
 | .ob _ _ _=>none
def LM:List D->Option (List PyData)
 | []=>some []
 |d::r=>(GW d).bind λp=>(LM r).bind λps=>some (p::ps)
end
section
variable{X:Cx}{kd:KD}{pins:List (Addr×Obj)}{σ:St}{H:Hp}{s:Shared}{O:Addr->Prop}
mutual
theorem M0(I:Inv X pins σ H s):∀{v:V}{d:D}{u:Value}{p:PyData},Rp X.K kd O H v d->RelV v u->GW d=some p->∃as,Reads s.heap u p as
 |_,_,u,p,.non,r,e=>by unfold GW at e;cases e;cases r;exact⟨_,.none⟩
 |_,_,u,p,.bl b,r,e=>by unfold GW at e;cases e;cases r;exact⟨_,.bool b⟩
 |_,_,u,p,.int i,r,e=>by unfold GW at e;cases e;obtain⟨t,rfl⟩:=r;exact⟨_,.int i t⟩
 |_,_,u,p,.str x,r,e=>by unfold GW at e;cases e;obtain⟨t,rfl⟩:=r;exact⟨_,.str x t⟩
 |_,_,u,p,.tup hn hr rl,r,e=>by
  unfold GW at e;obtain⟨ps,h1,h2⟩:=bS_ e;cases h2;cases r;obtain⟨its,rv,⟨o,e1,c,n,dd⟩,_⟩:=I.tuple (.inl hr);obtain⟨as,ra⟩:=Z6 I rl rv h1;exact⟨_,.tuple e1 c dd (by simpa using ra)⟩
 |_,_,u,p,.tupK hk hc hd hz hv rl,r,e=>by
  unfold GW at e;obtain⟨ps,h1,h2⟩:=bS_ e;cases h2;cases r;obtain⟨as,ra⟩:=Z6 I rl hv h1;exact⟨_,.tuple (I.kIn _ _ hk) hc hd ra⟩
 |_,_,u,p,.lst hn hr rl,r,e=>by
  unfold GW at e;obtain⟨ps,h1,h2⟩:=bS_ e;cases h2;cases r;obtain⟨its,rv,⟨o,n,e1,c,_,dd⟩,_⟩:=I.list (.inl hr);obtain⟨as,ra⟩:=Z6 I rl rv h1;exact⟨_,.list e1 c dd (by simpa using ra)⟩
 |_,_,u,p,.lstK hk hz hv rl,r,e=>by
  unfold GW at e;obtain⟨ps,h1,h2⟩:=bS_ e;cases h2;cases r;obtain⟨as,ra⟩:=Z6 I rl hv h1;exact⟨_,.list (I.kIn _ _ hk) rfl rfl ra⟩
 |_,_,u,p,.dct _ _ _,r,e=>by unfold GW at e;cases e
 |_,_,u,p,.cl _,r,e=>by unfold GW at e;cases e
 |_,_,u,p,.ob _ _ _ _,r,e=>by unfold GW at e;cases e
 |_,_,u,p,.dctK _ _,r,e=>by unfold GW at e;cases e
theorem Z6(I:Inv X pins σ H s):∀{vs:List V}{ds:List D}{us:List Value}{ps:List PyData},RpL X.K kd O H vs ds->zQ vs us->LM ds=some ps->∃as,ReadsAll s.heap us ps as
 |_,_,_,_,.nil,.nil,e=>by unfold LM at e;cases e;exact⟨_,.nil⟩
 |_,_,_,_,.cons a r,.cons b t,e=>by
  unfold LM at e;obtain⟨p,h1,e⟩:=bS_ e;obtain⟨ps,h2,e⟩:=bS_ e;cases e;obtain⟨as,x⟩:=M0 I a b h1;obtain⟨bs,y⟩:=Z6 I r t h2;exact⟨_,.cons x y⟩
end
def ES:List D->Option R0
 | [.tup ds]=>(GW (.tup ds)).bind λp=>if p.showable=true/\p.hasDict=false/\p.depth<=60/\p.shown.length<=sizeLine then some (.im (.str p.shown))else none
 |_=>none
theorem E_(hg:X.A.guards=some [])(hu:X.A.units+100<cLine):vN X kd (.builtin "repr") ES:=by
 intro pins s σ H xs us Q I r h;obtain⟨O,ds,z,ht,vl,he,q⟩:=h;unfold ES at he
 split at he
 . obtain⟨p,h1,he⟩:=bS_ he;obtain⟨⟨hs,hd,hp,hz⟩,he⟩:=zB he;cases he;obtain⟨x,rfl,vx⟩:=xO vl;obtain⟨u,rfl,ru⟩:=vals1 r;cases vx with
   |tup rp hr rl=>
    obtain⟨as,rd⟩:=M0 I rp ru h1;cases ru;exact repr_of_reads' rd hs (PyData.noDict_hsm hd) hg (by omega) (λ_ _ e=>e) (λh' u tk hk=>⟨.str _,H,I.kept hk,⟨u,rfl⟩,zX q (.str _)⟩) hz
 . cases he
end
abbrev tx(v:Int):Str:=Str.ofString (toString v)
def NB(x:Str):Prop:=32 ∉ x.cps.toList
theorem LY{a b:Str}(h:a.cps.toList=b.cps.toList):a=b:=Str.ext' (Array.toList_inj.mp h)
theorem app_list(a b:Str):(a++b).cps.toList=a.cps.toList++b.cps.toList:=by rw[Str.cps_append,Array.toList_append]
theorem Wi(h0:0<=v):∀c ∈ (tx v).cps.toList,48<=c/\c<=57:=by
 obtain⟨m,rfl⟩:=Int.eq_ofNat_of_zero_le h0;intro c b;rw[PySem.W.KIN.signs_num]at b;obtain⟨d,a,e⟩:=zxB.mp b;have r:=digit_range (Nat.isDigit_of_mem_toDigits (by decide) (by decide) a);rw[<-e];exact r
theorem Dl(h0:0<=v):(tx v).cps.toList≠[]:=by
 obtain⟨m,rfl⟩:=Int.eq_ofNat_of_zero_le h0;rw[PySem.W.KIN.signs_num];intro e;have h:=toDigits_len_ge 10 m;rw[List.map_eq_nil_iff.mp e]at h;exact absurd h (by decide)
theorem xa(h0:0<=v)(h1:v<10 ^ 60):(tx v).length<=60:=toString_length_le h0 (by decide) h1
theorem CP(h0:0<=v)(h1:v<10 ^ 60):PySem.intText? (tx v)=some v:=by
 have b:=xa h0 h1;have d:=Wi h0;have a:=Dl h0;obtain⟨m,rfl⟩:=Int.eq_ofNat_of_zero_le h0;have e:=intText_digits (x:=tx ((m:Nat):Int)) (λc f=>d c f) a (zzO b (by decide));rw[PySem.W.KIN.signs_num,PySem.W.KIN.val_back]at e;exact e
theorem Ew:∀m:Nat,0<m->∃d r,Nat.toDigits 10 m=Nat.digitChar d::r/\1<=d/\d<10:=λm=>by
 induction m using Nat.strongRecOn with
 |_ m a=>
  intro b
  by_cases h:m<10
  . exact⟨m,[],by rw[Nat.toDigits_of_lt_base h],b,h⟩
  . have c:m%10<10:=Nat.mod_lt m (by decide);have t:Nat.toDigits 10 (m/10)++Nat.toDigits 10 (m%10)=Nat.toDigits 10 (10*(m/10)+m%10):=Nat.toDigits_append_toDigits (by decide) (by omega) c;rw[Nat.div_add_mod]at t;obtain⟨d,r,e,f,g⟩:=a (m/10) (by omega) (by omega);exact⟨d,r++Nat.toDigits 10 (m%10),by rw[<-t,e];rfl,f,g⟩
theorem Hh:∀d:Nat,d<10->(Nat.digitChar d).toNat=48+d:=by decide
theorem Ol(h0:0<v):∃c r,(tx v).cps.toList=c::r/\c≠48:=by
 obtain⟨m,rfl⟩:=Int.eq_ofNat_of_zero_le (Int.le_of_lt h0);obtain⟨d,r,e,b,a⟩:=Ew m (by omega);refine⟨(Nat.digitChar d).toNat,r.map Char.toNat, ?_,by rw[Hh d a];omega⟩;show(tx ((m:Nat):Int)).cps.toList=_;rw[PySem.W.KIN.signs_num,e];rfl
theorem J_:tx 0=("0":Str):=by decide +kernel
theorem O7(h:48<=c/\c<=57):DI (.str ⟨#[c]⟩) (.str "0123456789")=some true:=by
 have:c=48\/c=49\/c=50\/c=51\/c=52\/c=53\/c=54\/c=55\/c=56\/c=57:=by omega
 rcases this with rfl|rfl|rfl|rfl|rfl|rfl|rfl|rfl|rfl|rfl<;>exact congrArg some (by decide +kernel)
theorem M8:NB (tx v):=int_text_free' 32 ⟨by decide,by decide⟩ v
theorem log2_small(h:n<2 ^ 300):n.log2<1920:=by
 by_cases e:n=0
 . subst e;decide
 . exact zzK ((Nat.log2_lt e).mpr h) (by decide)
theorem OK{v:Int}(h0:0<=v)(h1:v<10 ^ 60):v.natAbs.log2<1920:=by
 refine log2_small ?_;have:(10:Nat) ^ 60<2 ^ 300:=by decide +kernel
 have:(v.natAbs:Int)<((10 ^ 60:Nat):Int):=by
  have e:((10 ^ 60:Nat):Int)=(10:Int) ^ 60:=by norm_cast
  rw[e];omega
 omega
theorem len_eq(x:Str):x.length=x.cps.toList.length:=by simp[Str.length]
theorem N9(sep:Str)(ys:List Str):Txt.join sep ys=Str.join sep ys:=StrLaws.glued_eq_join sep ys
section
variable{as:AS}{f a b:EF}{s t:Bool}{x y z:D}
theorem Ib(ha:WD a as true y)(ht:G3 ty y=true)(hb:WE b as x)(hg:g y [x]=some (.fl zs)):WE (ye ty a (aC b aN) g) as (.lst zs):=by
 have c:WA (aC b aN) as [(true,x)]:=y7 hb zo;refine⟨.nd .ls (zs.map (O.lf true)), ?_,Q1 zs,congrArg D.lst (VO zs)⟩;unfold ye;unfold WD at ha;unfold WA at c;rw[ha];show(if G3 ty y=true then _ else _:Option (RV×AS))=_;rw[if_pos ht,c];simp only[zyK,xG];show((g y [x]).bind _)=_;rw[hg];show(if(zs.all zD||true)=true then some (RV.ow (.nd .ls (zs.map (G_ true))))else none:Option RV).bind _=_;rw[if_pos (by simp),vG];rfl
theorem Dn{x:Str}(h:WD f as s (.str x)):IL f as=some (vp x,as):=by
 unfold IL;unfold WD at h;rw[h];rfl
theorem OZ:Wk (.lst (xs++ys)) none (some (xs.length:Int))=some (.fl xs):=by
 show some (R0.fl (cutD (xs++ys) none (some (xs.length:Int))))=_
 congr 2
 unfold cutD;rw[HT.Po,HT.Mo,zzJ,Nat.min_eq_left (by omega),List.drop_zero,Nat.sub_zero,List.take_left]
end
def oH(K:zzA)(a b:Addr):It:=
 ⟨λi H=>∃xs ys x y,ZT K H a xs/\ZT K H b ys/\xs[i]? = some x/\ys[i]? = some y,
  λi H v H'=>∃T x y,H T=none/\v = .ref T/\H'=upd H T (.tup [x,y])/\(∀xs,ZT K H a xs->xs[i]? = some x)/\∀ys,ZT K H b ys->ys[i]? = some y,
  λi H=>∃xs ys,ZT K H a xs/\ZT K H b ys/\(xs.length<=i\/ys.length<=i)⟩
theorem Fd{X:Cx}{pins:List (Addr×Obj)}{σ:List (Option V)}{H:Hp}{s:Shared}{h':Heap}{t':Nat}{ch:List Addr}(I:Inv X pins σ H s)(hf:∀b ∈ ch,Uq X pins H b)(k:∀b u,b ∉ ch->s.heap.get? b=some u->h'.get? b=some u):Inv X pins σ H {s with heap:=h',toks:=t'}:=by
 have nc:∀b u,H b=some u->b ∉ ch:=λb u e z=>by have:=(hf b z).1;rw[e]at this;cases this
 refine I.step (g':=s.gens) (d':=s.drawn) (ch:=ch) (λb hb=>?_) (λb o _ _ hc e _=>k b o hc e) (λb o _ _ hc e _=>⟨o.slots,k b o hc e⟩) (λb o _ e n=>n)
  (λb o hc e=>⟨o,k b o hc e⟩) (λb xs e=>e) (λb o u e=>e) (λb ps e=>⟨#[],by rw[e];simp⟩) (λm hm=>?_) (λb u e=>?_) I.bare
 . obtain⟨f0,f1,f2,f3,f4,f5⟩:=hf b hb;exact⟨f3,f1,f4,f5⟩
 . obtain⟨o,es,ep,ho,r⟩:=hm;exact⟨o,es,ep,k _ o (λz=>(hf _ z).2.1 rfl) ho,r⟩
 . refine(I.hok b u e).stay (λc v hc q=>k c v ?_ q) (λc q=>q) λc xs q=>q
   rcases hc with z|z
   . rw[z];exact nc b u e
   . exact nc c _ z
theorem Ou{P:Program}{w:World}{K:zzA}{elts:List Expr}{k:Nat}{pos:Pos}(a b z TI TO i1 i2:Addr)(D:ZipApart z TI TO i1 i2 a b):Turn P w K (.Tuple elts k pos) (oH K a b) [z,TI,TO,i1,i2] z
 (λi h=>IsZip h z TI TO .none/\IsPair h TI (.ref i1) (.ref i2)/\(∃p q,IsPair h TO p q)/\h.IsListIter i1 a i/\h.IsListIter i2 b i)where
 mem:=by simp
 obj:=λi h st c hc=>by
  obtain⟨hz,hTI,⟨p,q,hTO⟩,⟨o1,e1,c1,d1⟩,⟨o2,e2,c2,d2⟩⟩:=st;simp only[zzC,zyZ,or_false]at hc
  rcases hc with rfl|rfl|rfl|rfl|rfl
  . exact⟨_,hz,λv z=>by cases z⟩
  . exact⟨_,hTI,λv z=>by cases z⟩
  . exact⟨_,hTO,λv z=>by cases z⟩
  . exact⟨o1,e1,λv z=>by rw[d1]at z;cases z⟩
  . exact⟨o2,e2,λv z=>by rw[d2]at z;cases z⟩
 keep:=λi h h' st kk=>by
  obtain⟨hz,hTI,⟨p,q,hTO⟩,h1,h2⟩:=st;exact⟨kk z (by simp) _ hz,kk TI (by simp) _ hTI,⟨p,q,kk TO (by simp) _ hTO⟩,h1.at λo e=>kk i1 (by simp) o e,h2.at λo e=>kk i2 (by simp) o e⟩
 item:=by
  intro X hP hw hK hc i pins s σ H E I hf st hg;subst hP hw hK;obtain⟨xs,ys,x,y,hq,hr,hx,hy⟩:=hg;obtain⟨its,rv,p,hz⟩:=I.list hq;obtain⟨jts,rw',p',hz'⟩:=I.list hr;obtain⟨u,hu,ru⟩:=rv.get hx;obtain⟨u',hu',ru'⟩:=rw'.get hy;have W:=WalksT.zip2 (prog:=X.prog) (w:=X.w) (A:=X.A) (I.ok.hd hc) z TI TO i1 i2 a b D its.toArray jts.toArray;obtain⟨s1,s2,s3,s4,s5⟩:=st;have hil:i<min its.toArray.size jts.toArray.size:=by
   have:=(zzG.mp hu).1;have:=(zzG.mp hu').1;simp only[zzH];omega
  refine W.item i s _ _ hil ⟨s1,s2,s3,s4,s5,p.isList,p'.isList⟩ λT vals h1 tk hP hT hTup hMid kk=>?_;obtain⟨v,v',hv,hv',rfl⟩:=hP;have e1:v=u:=by rw[show its.toArray[i]? = its[i]? by simp,hu]at hv;cases hv;rfl
  have e2:v'=u':=by rw[show jts.toArray[i]? = jts[i]? by simp,hu']at hv';cases hv';rfl
  subst e1 e2;refine⟨_,rfl,W.go elts k pos i T {s with heap:=h1,toks:=tk} _ _ hMid λh2 hSt kk2=>?_⟩;have hn:H T=none:=I.hok.fresh hT;have hTw:=W.apart i T h1 hMid;have sub:∀c,c ∉ [z,TI,TO,i1,i2]->c ∉ [z,TO,i1,i2]:=λc hc m=>hc (by simp only[zzC,zyZ,or_false]at m ⊢;rcases m with rfl|rfl|rfl|rfl<;>simp);have k2:∀c o,c ∉ [z,TI,TO,i1,i2]->s.heap.get? c=some o->h2.get? c=some o:=λc o hb q=>kk2 c o (sub c hb) (kk c o (sub c hb) q);have hT2:IsTup h2 T #[v,v']:=by
   obtain⟨o,q1,q2⟩:=hTup;exact⟨o,kk2 T o hTw q1,q2⟩
  obtain⟨t1,t2,t3,t4,t5,_,_⟩:=hSt;refine⟨.ref T,upd H T (.tup [x,y]),Qj (s:=s) (t':=tk) (ch:=[z,TI,TO,i1,i2]) I hf k2 hT ⟨by show 2<=sizeLine;decide,[v,v'],.cons ru (.cons ru' .nil),hT2⟩,rfl,⟨T,x,y,hn,rfl,rfl,λq hq'=>by rw[I.list_inj hq' hq];exact hx,λq hq'=>by rw[I.list_inj hq' hr];exact hy⟩,⟨t1,t2,t3,t4,t5⟩,λc hc=>?_⟩;have hcT:c≠T:=λe=>by
   have:c<s.heap.objs.size:=by
    have hob:∀d ∈ [z,TI,TO,i1,i2],∃o,s.heap.get? d=some o:=λd hd=>by
     obtain⟨pp,qq,hTO⟩:=s3;obtain⟨o1,e1,_⟩:=s4;obtain⟨o2,e2,_⟩:=s5;simp only[zzC,zyZ,or_false]at hd
     rcases hd with rfl|rfl|rfl|rfl|rfl
     . exact⟨_,s1⟩
     . exact⟨_,s2⟩
     . exact⟨_,hTO⟩
     . exact⟨_,e1⟩
     . exact⟨_,e2⟩
    obtain⟨o,ho⟩:=hob c hc;exact zxG ho
   rw[e]at this;exact absurd (zzK this hT) (Nat.lt_irrefl _)
  rw[zE hcT];exact(hf c hc).1
 done:=by
  intro X hP hw hK hc i pins s σ H E I hf st hg;subst hP hw hK;obtain⟨xs,ys,hq,hr,hx⟩:=hg;obtain⟨its,rv,p,hz⟩:=I.list hq;obtain⟨jts,rw',p',hz'⟩:=I.list hr;have hl:=rv.length;have hl':=rw'.length;obtain⟨s1,s2,⟨pp,qq,s3⟩,s4,s5⟩:=st;refine wpAny_pyNext_zip_end (I.ok.hd hc) D s1 s2 s3 s4 s5 p.isList p'.isList (hx.imp (λh=>by simp;omega) (λh=>by simp;omega)) λh' eb=>⟨rfl,Fd (t':=s.toks) (ch:=[z,TI,TO,i1,i2]) I hf λc o hc q=>eb c o ?_ ?_ ?_ ?_ q⟩<;>(intro e;exact hc (by simp[e]))
 self:=λ_ _ _ _ _ st h=>wpAny_pyIter_zip st.1 h
section
variable{X:Cx}{tg:Expr}
def pj(K:zzA)(ta:TA):TI:=λσ H R=>ta σ H λvs H1=>∃a b,vs=[.ref a,.ref b]/\(∃xs,ZT K H1 a xs)/\(∃ys,ZT K H1 b ys)/\R (oH K a b) H1
theorem HV(I l1 l2:Nat)(h1:l1<I)(h2:l2<I):ZipApart (I+4) (I+2) (I+3) I (I+1) l1 l2:=by
 constructor<;>(show(_:Nat)≠_;omega)
theorem s_{l l':Expr}{ta:TA}{p pos pos':Pos}{elts:List Expr}{k:Nat}(hg:Gl X "zip")(hm:X.mg "zip"=none)(ha:PA X [l,l'] ta)(hs:starEach [l,l'] X.env=[(false,eval l X.env),(false,eval l' X.env)])(hs2:starEach [l'] X.env=[(false,eval l' X.env)]):
 PI X (.Tuple elts k pos') (.Call (.Name "zip" p) [l,l'] [] pos) (pj X.K ta):=by
 intro pins s σ H R I h;refine Call_ (ZG I hg hm boot_zip (PyProof.Rows.callWith_type1 (yY (ha pos pins s σ H _ I h) λus s1 ⟨vs,H1,I1,r1,q1⟩=>?_) (by rw[hs,hs2]) (by rw[hs2];rfl)));obtain⟨a,b,rfl,⟨xs,hq⟩,⟨ys,hr⟩,q⟩:=q1;cases r1 with
 |cons r rr=>
  cases rr with
  |cons r' rr=>
   cases rr;cases r;cases r';obtain⟨its,rv,pl,hz⟩:=I1.list hq;obtain⟨jts,rw',pl',hz'⟩:=I1.list hr;obtain⟨o1,ho1,_⟩:=pl.isList;obtain⟨o2,ho2,_⟩:=pl'.isList;refine call_zip_2 pl.isList pl'.isList λh' hZ hTI hTO hi1 hi2 hsz hk=>?_;refine wpAny_pyIter_zip hZ ⟨s1.heap.objs.size+4,[s1.heap.objs.size+4,s1.heap.objs.size+2,s1.heap.objs.size+3,s1.heap.objs.size,s1.heap.objs.size+1],_,_,H1,rfl,I1.kept (t':=s1.toks) hk,Ou a b _ _ _ _ _ (HV _ _ _ (zxG ho1) (zxG ho2)),⟨hZ,hTI,⟨_,_,hTO⟩,hi1,hi2⟩,λc hc=>?_,q⟩;have hb':s1.heap.objs.size<=c:=by
    simp only[zzC,zyZ,or_false]at hc
    rcases hc with rfl|rfl|rfl|rfl|rfl<;>first|exact zzN _|exact Nat.le_add_right _ _
   exact I1.fpOk hb' (I1.hok.fresh hb')
end
section
variable{X:Cx}{kd:KD}{tg e:Expr}{fa:EF}
def Y6(st:Bool):List D->List D->List wg
 |x::r,y::t=>(st,.tup [x,y])::Y6 st r t
 |_,_=>[]
theorem QG(st:Bool):∀(xs ys:List D),(Y6 st xs ys).length=min xs.length ys.length
 | [],_=>by simp[Y6]
 |_::_,[]=>by simp[Y6]
 |_::r,_::t=>by simp only[Y6,zzT,QG st r t];omega
theorem XY{st:Bool}:∀{xs ys:List D}{i:Nat}{y:wg},(Y6 st xs ys)[i]? = some y->∃d e,xs[i]? = some d/\ys[i]? = some e/\y=(st,.tup [d,e])
 | [],_,_,_,h=>by simp[Y6]at h
 |_::_,[],_,_,h=>by simp[Y6]at h
 |x::r,y::t,0,z,h=>by
  simp only[Y6,List.getElem?_cons_zero]at h;cases h;exact⟨x,y,rfl,rfl,rfl⟩
 |x::r,y::t,i+1,z,h=>by
  simp only[Y6,List.getElem?_cons_succ]at h;obtain⟨d,e,h1,h2,h3⟩:=XY h;exact⟨d,e,by simpa using h1,by simpa using h2,h3⟩
theorem sZ{K:zzA}{F B:Addr->Prop}{ad:Ad}{H:Hp}{a b:Addr}{vs ws:List V}{st:Bool}{ds es:List D}(hs:∀(ad3:Ad) (H3:Hp),Grow (Gw [] ad) H (Gw [] ad3) H3->ZT K H3 a vs)(hs':∀(ad3:Ad) (H3:Hp),Grow (Gw [] ad) H (Gw [] ad3) H3->ZT K H3 b ws)
 (r:RpL K kd (Lv F B (Gw [] ad) st) H vs ds) (r':RpL K kd (Lv F B (Gw [] ad) st) H ws es):ItOk K kd F B ad H (oH K a b) (Y6 st ds es):=⟨λad3 H3 g3 tr i=>by
 have hr3:=hs ad3 H3 g3;have hr4:=hs' ad3 H3 g3;have rl3:RpL K kd (Lv F B (Gw [] ad3) st) H3 vs ds:=RpL.grow g3 r;have rl4:RpL K kd (Lv F B (Gw [] ad3) st) H3 ws es:=RpL.grow g3 r';have hlen:=QG st ds es;have l1:vs.length=ds.length:=r.length;have l2:ws.length=es.length:=r'.length;refine⟨λhi=>?_,λhi=>⟨_,_,hr3,hr4,by omega⟩,λv H4 hy=>?_⟩
 . obtain⟨u,hu,_⟩:=r.get (zzE (show i<ds.length by omega));obtain⟨u',hu',_⟩:=r'.get (zzE (show i<es.length by omega));exact⟨_,_,u,u',hr3,hr4,hu,hu'⟩
 . obtain⟨T,x,y,hn,rfl,rfl,hv,hv'⟩:=hy;refine⟨xY hn,λq hq=>?_⟩;obtain⟨d,e,hd,he,rfl⟩:=XY hq;obtain⟨u,hu,ru⟩:=rl3.get hd;obtain⟨u',hu',ru'⟩:=rl4.get he;have:=hv _ hr3;rw[hu]at this;cases this;have:=hv' _ hr4;rw[hu']at this;cases this;exact .tup (λz=>tr _ _ z hn) (.inl zV) (.cons (Rp.grow ⟨λb o q _=>xY hn b o q,λb z=>.inl z⟩ ru) (.cons (Rp.grow ⟨λb o q _=>xY hn b o q,λb z=>.inl z⟩ ru') .nil))⟩
def HW(fr:AF):IF:=λas=>(fr as).bind λp=>(rC p.1).bind λo=>(oM o.1).bind λa=>(oM o.2).bind λb=>some (Y6 (a.1&&b.1) a.2 b.2,p.2)
theorem NT{K:zzA}{F B:Addr->Prop}{ad:Ad}{H:Hp}{v:V}{st q:Bool}{ds:List D}(rp:Rp K kd (Lv F B (Gw [] ad) st) H v (.lst ds))(hq:q=true->st=true):∃a vs,v = .ref a/\(∀(ad3:Ad) (H3:Hp),Grow (Gw [] ad) H (Gw [] ad3) H3->ZT K H3 a vs)/\RpL K kd (Lv F B (Gw [] ad) q) H vs ds:=by
 have le:∀a,Lv F B (Gw [] ad) q a->Lv F B (Gw [] ad) st a:=λa z=>z.imp (λy=>y.imp (λx=>⟨hq x.1,x.2⟩) id) id;cases rp with
 |lst hn hr rl=>exact⟨_,_,rfl,λad3 H3 g3=>.inl (v8 g3 (λz=>hn (.inr z)) hr),rl.less le⟩
 |lstK a b c rl=>exact⟨_,_,rfl,λad3 H3 g3=>.inr ⟨_,_,_,a,rfl,rfl,rfl,b,c⟩,rl.less le⟩
theorem rg{l l':Expr}{fr:AF}{p pos pos':Pos}{elts:List Expr}{k:Nat}(hg:Gl X "zip")(hm:X.mg "zip"=none)(ha:AA X kd [l,l'] fr)(hs:starEach [l,l'] X.env=[(false,eval l X.env),(false,eval l' X.env)])(hs2:starEach [l'] X.env=[(false,eval l' X.env)]):
 AI X kd (.Tuple elts k pos') (.Call (.Name "zip" p) [l,l'] [] pos) (HW fr):=by
 with_unfolding_all (
 intro pins s σ H R I h;obtain⟨F,B,ad,as,ds,as',Rl,e',q⟩:=h;obtain⟨⟨rs,as1⟩,h1,e'⟩:=bS_ (show(fr as).bind _=_ from e');obtain⟨⟨o1,o2⟩,e1,e'⟩:=bS_ e';obtain⟨⟨s1,d1⟩,e2,e'⟩:=bS_ e';obtain⟨⟨s2,d2⟩,e3,e'⟩:=bS_ e';cases Bz e1;cases CW e2;cases CW e3
 . cases e';refine s_ hg hm ha hs hs2 pins s σ H R I ⟨F,B,ad,as,_,as1,Rl,h1,λvs ad1 H1 R1 rv1 g1=>?_⟩;cases rv1 with
   |cons r1 rr=>
    cases rr with
    |cons r2 rr=>
     cases rr;cases r1 with
     |lf rp1=>
      cases r2 with
      |lf rp2=>
       obtain⟨a,vs,rfl,ha,ra⟩:=NT (q:=s1&&s2) rp1 (λz=>(Bool.and_eq_true_iff.mp z).1);obtain⟨b,ws,rfl,hb,rb⟩:=NT (q:=s1&&s2) rp2 (λz=>(Bool.and_eq_true_iff.mp z).2);exact⟨a,b,rfl,⟨_,ha _ _ Grow.refl⟩,⟨_,hb _ _ Grow.refl⟩,q _ ad1 H1 R1 g1 (sZ ha hb ra rb)⟩)
end
def insI(x:Int):List Int->List Int
 | []=>[x]
 |y::r=>if x<=y then x::y::r else y::insI x r
def sortI:List Int->List Int
 | []=>[]
 |x::r=>insI x (sortI r)
theorem insI_perm(x:Int):∀l:List Int,(insI x l).Perm (x::l)
 | []=>List.Perm.refl _
 |y::r=>by
  unfold insI
  split
  . exact List.Perm.refl _
  . exact((insI_perm x r).cons y).trans (List.Perm.swap x y r)
theorem sortI_perm:∀l:List Int,(sortI l).Perm l
 | []=>List.Perm.refl _
 |x::r=>(insI_perm x (sortI r)).trans ((sortI_perm r).cons x)
theorem U6(x:Int):∀l:List Int,l.Pairwise (· <= ·)->(insI x l).Pairwise (· <= ·)
 | [],_=>by simp[insI]
 |y::r,h=>by
  unfold insI;rw[List.pairwise_cons]at h
  split
  . rename_i a;rw[List.pairwise_cons,List.pairwise_cons];refine⟨λz b=>?_,h⟩
    rcases zzC.mp b with rfl|b
    . exact a
    . exact Int.le_trans a (h.1 z b)
  . rename_i a;rw[List.pairwise_cons];refine⟨λz b=>?_,U6 x r h.2⟩
    rcases zzC.mp ((insI_perm x r).mem_iff.mp b)with rfl|b
    . omega
    . exact h.1 z b
theorem Qu:∀l:List Int,(sortI l).Pairwise (· <= ·)
 | []=>List.Pairwise.nil
 |x::r=>U6 x _ (Qu r)
theorem K5:∀(a b:List Int),a.Perm b->a.Pairwise (· <= ·)->b.Pairwise (· <= ·)->a=b
 | [],b,p,_,_=>by rw[List.nil_perm]at p;exact p.symm
 |x::r,[],p,_,_=>by rw[List.perm_nil]at p;cases p
 |x::r,y::t,p,c,d=>by
  rw[List.pairwise_cons]at c d;have f:x=y:=by
   have h:x ∈ y::t:=p.mem_iff.mp (zzF ..);have i:y ∈ x::r:=p.mem_iff.mpr (zzF ..)
   rcases zzC.mp h with e|e
   . exact e
   . rcases zzC.mp i with g|g
     . exact g.symm
     . have:=d.1 x e;have:=c.1 y g;omega
  subst f;rw[K5 r t (List.Perm.cons_inv p) c.2 d.2]
theorem Pw{K:zzA}{kd:KD}{O:Addr->Prop}{H:Hp}{vs:List V}{us:List Value}{ds:List D}{ns:List Int}(h:RpL K kd O H vs ds)(hv:zQ vs us)(e:Ye ds=some ns):IntsAre us ns:=
 RpL.ind (P:=λvs ds=>∀us ns,zQ vs us->Ye ds=some ns->IntsAre us ns) (λus ns hv e=>by cases e;cases hv;exact .nil) (λ{v d vs ds} a _ ih us ns hv e=>by
  cases hv with
  |cons b t=>
   cases a with
   |int x=>
    obtain⟨ys,h1,h2⟩:=bS_ (show(Ye _).bind _=_ from e);cases h2;obtain⟨tk,rfl⟩:=b;exact .cons _ _ (ih _ _ t h1)
   |_=>cases e) h us ns hv e
theorem ZY:∀{us:List Value}{ns:List Int},IntsAre us ns->zQ (ns.map V.int) us
 |_,_,.nil=>.nil
 |_,_,.cons n t r=>.cons ⟨t,rfl⟩ (ZY r)
theorem ET{K:zzA}{kd:KD}{O:Addr->Prop}{H:Hp}:∀ns:List Int,RpL K kd O H (ns.map V.int) (ns.map D.int)
 | []=>.nil
 |y::r=>.cons (.int y) (ET r)
def Oo:List D->Option R0:=rM λx=>(H_ x).bind λds=>(Ye ds).bind λns=>if ns.length<64 then some (.fl ((sortI ns).map .int))else none
section
variable{X:Cx}{kd:KD}
theorem FS:vN X kd (.builtin "sorted") Oo:=by
 intro pins s σ H xs us Q I r h;obtain⟨O,ds,z,ht,vl,he,q⟩:=h;obtain⟨x,d,rfl,vx,he⟩:=Gb vl he;obtain⟨ds,h0,he2⟩:=bS_ (show(H_ d).bind _=_ from he);cases Uo h0
 . obtain⟨ns,h1,he⟩:=bS_ he2;obtain⟨hz,he⟩:=zB he;cases he;cases vx with
   |lst hr rl=>
    obtain⟨u,rfl,ru⟩:=vals1 r;cases ru;obtain⟨its,rv,pl,_⟩:=I.list hr.sq;have hI:=Pw rl rv h1;have hl:=hI.length;refine sorted_ints pl.isList hI (by omega) λout ns' a1 a2 a3=>?_;have e:ns'=sortI ns:=K5 _ _ (a2.trans (sortI_perm ns).symm) a3 (Qu ns);subst e;obtain⟨ee,hob⟩:=sortedAll_at s.heap its out;have hn:H (s.heap.objs.size+1)=none:=I.hok.fresh (zyV _);refine⟨.ref (s.heap.objs.size+1),_,I.laid (t':=s.toks) (λb o e=>sortedAll_old e) (zyV _) (show yU X.prog X.w _ _ _ (.lst ((sortI ns).map V.int))from⟨?_,out.toList,ee,ZY a1,by simpa[seqObj]using hob⟩),rfl,XM q (ET _) _ hn⟩;rw[zzB,(sortI_perm ns).length_eq];exact Nat.le_of_lt (yA (by omega))
end
def GV(f:D->Option Bool):List D->Option Nat
 | []=>none
 |x::r=>(f x).bind λb=>if b=true then(anyF f r).bind λ_=>some 0 else(GV f r).bind λj=>some (j+1)
def X0(d:D):List D->Option R0:=rM λx=>(H_ d).bind λds=>(GV (λy=>xm 50 y x) ds).bind λj=>if ds.length<=1000 then some (.im (.int j))else none
theorem Et:∀{ds:List D}{j:Nat},GV f ds=some j->∀d ∈ ds,∃c,f d=some c
 | [],_,h,_,m=>nomatch m
 |x::r,j,h,d,m=>by
  obtain⟨b,e,h⟩:=bS_ (show(f x).bind _=_ from h)
  rcases zzC.mp m with rfl|m
  . exact⟨b,e⟩
  . cases b with
    |true=>
     obtain⟨c,a,_⟩:=bS_ (show(anyF f r).bind _=_ from h);exact Yh a d m
    |false=>
     obtain⟨k,a,_⟩:=bS_ (show(GV f r).bind _=_ from h);exact Et a d m
section
variable{X:Cx}{kd:KD}{pins:List (Addr×Obj)}{σ:St}{H:Hp}{s:Shared}{O:Addr->Prop}
theorem Ar(I:Inv X pins σ H s)(hk:KdOk X kd)(hv:zQ vs us)(h:RpL X.K kd O H vs ds)(e:GV (λy=>xm n y x) ds=some j):∃h:j<us.length,LJ X.K kd O H n x us[j]=true/\∀m (hm:m<us.length),m<j->LJ X.K kd O H n x us[m]=false:=
 RpL.ind (P:=λvs ds=>∀us j,zQ vs us->GV (λy=>xm n y x) ds=some j->∃h:j<us.length,LJ X.K kd O H n x us[j]=true/\∀m (hm:m<us.length),m<j->LJ X.K kd O H n x us[m]=false) (λus j hv e=>by cases e) (λ{v d vs ds} a _ ih us j hv h=>by
  cases hv with
  |cons r t=>
   obtain⟨b,h1,h⟩:=bS_ (show(xm n _ x).bind _=_ from h);cases b with
   |true=>
    obtain⟨c,h2,h3⟩:=bS_ (show(anyF _ _).bind _=_ from h);cases h3;exact⟨by simp,NN I hk r a h1,λm hm hlt=>by omega⟩
   |false=>
    obtain⟨k,h2,h3⟩:=bS_ (show(GV _ _).bind _=_ from h);cases h3;obtain⟨hk',e1,e2⟩:=ih _ _ t h2;refine⟨by simpa using hk',by simpa using e1,λm hm hlt=>?_⟩;cases m with
    |zero=>exact NN I hk r a h1
    |succ m=>simpa using e2 m (by simpa using hm) (by omega)) h us j hv e
theorem Iv(hk:KdOk X kd)(hu:X.A.units+100<cLine):Du X kd "list.index" X0:=by
 intro k s σ H x Y v Z Q I C r h;obtain⟨O,d,ds,r0,ht,D,E,a,q⟩:=h;obtain⟨y',y,rfl,G,a⟩:=Gb E a;obtain⟨es,J,b⟩:=bS_ (show(H_ d).bind _=_ from a);cases Uo J
 . obtain⟨j,l,a⟩:=bS_ b;obtain⟨hz,a⟩:=zB a;cases a;obtain⟨u,rfl,L⟩:=vals1 r;cases D with
   |lst M c=>
    cases C;obtain⟨e,f,N,_⟩:=I.list M.sq;obtain⟨⟨cls,P,o,R⟩,p,t,n,z⟩:=N.isList;simp only at t z;subst t z;obtain⟨S,T,U⟩:=Ar I hk f c l;have B:=f.length;have g:=c.length;refine call_meets PySem.F.slot_list_index ⟨_,p,rfl⟩ PySem.F.entry_list_index (PySem.F.args_list_index_2 _ _)
     (SeqAt.list_indexAt _ e.toArray n P R _ (LJ X.K kd O H 50 y) j (by simpa using S) (by omega) (by simpa using T) (λm V i=>by simpa using U m (by simpa using V) i))
     ⟨p,λw W=>VN I hk (by show X.A.units+1+50<cLine;omega) G L f c (Et l) w (by simpa using W),⟨.int j,H,I.tok _,⟨_,rfl⟩,zX q (.int _)⟩⟩
end
theorem Ry:∀{vs:List V}{us:List Value},vs.length=us.length->(∀(i:Nat) v u,vs[i]? = some v->us[i]? = some u->RelV v u)->zQ vs us
 | [],[],_,_=>.nil
 | [],_::_,h,_=>by simp at h
 |_::_,[],h,_=>by simp at h
 |v::c,u::d,h,k=>.cons (k 0 v u rfl rfl) (Ry (by simpa using h) λi a b x y=>k (i+1) a b (by simpa using x) (by simpa using y))
section
variable{X:Cx}{tg:Expr}
def qT(ta:TA):TE:=λσ H Q=>ta σ H λvs H1=>∃j:Int,vs=[.int j] /\ -(2 ^ 62)<=j/\j<2 ^ 62/\∀r,H1 r=none->Q (.ref r) (upd H1 r (.rng 0 j))
theorem CO(hg:Gl X "range")(hm:X.mg "range"=none)(ha:PA X [a] ta)(hs:starEach [a] X.env=[(false,eval a X.env)]):PE X (.Call (.Name "range" p) [a] [] pos) (qT ta):=by
 intro c s σ H Q I h;refine Call_ (ZG I hg hm boot_range (PyProof.Rows.callWith_type1 (yY (ha pos c s σ H _ I h) λl f ⟨m,n,d,g,i⟩=>?_) hs rfl));obtain⟨j,e,u,v,q⟩:=i;subst e;cases g with
 |cons r k=>
  cases k;obtain⟨t,rfl⟩:=r;exact call_range_1 ⟨.ref f.heap.objs.size,_,d.laid (λb o e=>zxF _ e) (zzN _) (show yU X.prog X.w _ _ _ (.rng 0 j)from⟨_,_,_,zxH _ rfl⟩),rfl,q _ (d.hok.fresh (zzN _))⟩
def lK(ta:TA):TE:=λσ H Q=>Oh (qT ta) tH σ H λvs H2=>∃r H1,∃j:Int,vs=[.ref r]/\H1 r=none/\H2=upd H1 r (.rng 0 j)/\0<=j/\j<=100000/\∀l,H2 l=none->Q (.ref l) (upd H2 l (.lst ((List.range j.toNat).map λ(i:Nat)=>V.int i)))
theorem Hm(hc:X.calm=true)(hg:Gl X "range")(hm:X.mg "range"=none)(hgl:Gl X "list")(hml:X.mg "list"=none)(ha:PA X [a] ta)(hs:starEach [a] X.env=[(false,eval a X.env)])
 (hs':starEach [.Call (.Name "range" p) [a] [] pos] X.env=[(false,eval (.Call (.Name "range" p) [a] [] pos) X.env)]):PE X (.Call (.Name "list" p') [.Call (.Name "range" p) [a] [] pos] [] pos') (lK ta):=by
 intro b s σ H Q I h;refine Call_ (ZG I hgl hml Bt.list (PyProof.Rows.callWith_type1 (yY ((wR (CO hg hm ha hs) YT hs') pos' b s σ H (λD g=>∃r o,∃j:Int,D=[.ref r]/\o r=none/\g=upd o r (.rng 0 j)/\0<=j/\j<=100000/\∀l,g l=none->Q (.ref l) (upd g l (.lst ((List.range j.toNat).map λ(i:Nat)=>V.int i)))) I ?_) λP E ⟨D,g,m,F,G⟩=>?_) hs' rfl))
 . exact h
 obtain⟨r,o,j,rfl,R,rfl,S,T,q⟩:=G;cases F with
 |cons J K=>
  cases K;cases J;obtain⟨t,u,v,L⟩:=m.hok r _ (zV ..);have z:Builtin.Range.rangeSize 0 j 1=(j.toNat:Nat):=by rw[rangeSize_one];split<;>omega
  refine call_list_range (m.ok.hd hc) L (small_one (by omega) (by omega) (by omega) (by omega)) (n:=j.toNat) (by exact_mod_cast z) (by omega) λU W A M N B c=>?_;refine⟨.ref E.heap.objs.size,_,m.laid N (zzN _) (show yU X.prog X.w _ _ _ (.lst ((List.range j.toNat).map λ(i:Nat)=>V.int i))from⟨?_,A.toList,M, ?_,by simpa using B⟩),rfl,q _ (m.hok.fresh (zzN _))⟩
  . rw[zzB,zyT];exact zzO (show j.toNat<=100000 by omega) (by decide)
  . refine Ry (by rw[zzB,zyT];simpa using c.1.symm) λi x y d O=>?_;rw[zzI]at d;obtain⟨C,e⟩:=c.2 i y (by simpa using O);cases hr:(List.range j.toNat)[i]? with
    |none=>rw[hr]at d;cases d
    |some k=>
     rw[hr]at d;obtain⟨_,f⟩:=zzG.mp hr;rw[List.getElem_range]at f;subst f;cases d;exact⟨C,by rw[e];simp⟩
end
section
variable{X:Cx}{kd:KD}
def oZ:List D->Option R0
 | [.int j]=>if 0<=j/\j<=100000 then some (.fl ((List.range j.toNat).map λ(i:Nat)=>.int i))else none
 |_=>none
theorem Sb{K:zzA}{O:Addr->Prop}{H:Hp}:∀l:List Nat,RpL K kd O H (l.map λ(i:Nat)=>V.int i) (l.map λ(i:Nat)=>D.int i)
 | []=>.nil
 |y::r=>.cons (.int y) (Sb r)
theorem Hn(hc:X.calm=true)(hg:Gl X "range")(hm:X.mg "range"=none)(hgl:Gl X "list")(hml:X.mg "list"=none)(ha:AA X kd [a] fr)(hs:starEach [a] X.env=[(false,eval a X.env)])
 (hs':starEach [.Call (.Name "range" p) [a] [] pos] X.env=[(false,eval (.Call (.Name "range" p) [a] [] pos) X.env)]):AE X kd (.Call (.Name "list" p') [.Call (.Name "range" p) [a] [] pos] [] pos') (fP fr oZ):=by
 with_unfolding_all exact(yq (Hm hc hg hm hgl hml ha hs hs') λσ H Q h=>by
  obtain⟨F,B,y,as,r,A,R,e,q⟩:=h;obtain⟨⟨C,d⟩,D,e⟩:=bS_ (show(fr as).bind _=_ from e);obtain⟨⟨E,Z⟩,f,e⟩:=bS_ e;obtain⟨G,g,e⟩:=bS_ e;obtain⟨z,I,e⟩:=bS_ e;cases e
  match E,g,f with
  | [.int j],g,f=>
   obtain⟨⟨J,L⟩,M⟩:=zB (show(if 0<=j/\j<=100000 then some (R0.fl ((List.range j.toNat).map λ(i:Nat)=>.int i))else none)=some G from g);cases M;refine(show qw X.K kd fr σ H _ from⟨F,B,y,as,C,d,R,D,λvs k u v m N=>?_⟩);have O:=Wh v m f;have P:=YR v I (Q:=Q) λw S T U n V=>q w S k T U n (N.trans V);cases O with
   |cons W Y=>
    cases Y;cases W;refine⟨j,rfl,by omega,by omega,λr x=>⟨r,u,j,rfl,x,rfl,J,L,λl c=>?_⟩⟩;have s:l≠r:=λe=>by rw[e,zV]at c;cases c
    have t:u l=none:=by rw[zE s]at c;exact c
    exact P l _ _ t (λb o q=>xY c b o (xY x b o q)) zV (Sb _))
end
theorem QD(h:RoL L N H vs ls fp):vs.length=ls.length:=RoL.length h
section
variable{K:zzA}{kd:KD}{F B G:Addr->Prop}{H:Hp}
theorem VI(hp:G p):Grow G H G (upd H p u):=⟨λb w h n=>by rw[zE (λe=>n (by subst e;exact hp))];exact h,λb z=>.inl z⟩
theorem NQ:∀(os:List O) {vs:List V}{fp:List Addr}{n:Nat}{o:O},xt K kd F B G H vs os fp->fp.Nodup->(∀a ∈ fp,G a)->os[n]? = some o->
 ∃v f,vs[n]? = some v/\wK K kd F B G H v o f/\f.Nodup/\(∀a ∈ f,a ∈ fp)/\∀(p:Addr) (u:HO) (o':O),p ∈ f->wK K kd F B G (upd H p u) v o' f->xt K kd F B G (upd H p u) vs (os.set n o') fp
 | [],_,_,_,_,_,_,_,e=>by simp at e
 |E::k,_,_,n,o,r,l,c,e=>by
  cases r with
  |cons a r=>
   rename_i v I q J;obtain⟨s,t,i⟩:=zxC.mp l;cases n with
   |zero=>
    simp at e;subst e;exact⟨v,q,rfl,a,s,λx m=>zzP _ m,λp u j b d=>.cons d (xt.grow (VI (c p (zzP _ b))) (λx m w h=>by rw[zE (λe=>i p b x m e.symm)];exact h) r)⟩
   |succ n=>
    obtain⟨y,f,z,A,C,g,D⟩:=NQ k (n:=n) (o:=o) r t (λx m=>c x (zzL _ m)) (by simpa using e);exact⟨y,f,by simpa using z,A,C,λx m=>zzL _ (g x m),λp u j b d=>.cons (wK.grow (VI (c p (zzL _ (g p b)))) (λx m w h=>by rw[zE (λe=>i x m p (g p b) e)];exact h) a) (D p u j b d)⟩
theorem Lj(h:L st' v d'):∀(os:List O) {vs:List V}{fp:List Addr}{n:Nat}{st:Bool}{d:D},RoL L N H vs os fp->os[n]? = some (.lf st d)->RoL L N H (vs.set n v) (os.set n (.lf st' d')) fp
 | [],_,_,_,_,_,_,e=>by simp at e
 |f::b,_,_,n,c,d,r,e=>by
  cases r with
  |cons a r=>
   cases n with
   |zero=>
    simp at e;subst e;cases a with
    |lf _=>exact .cons (.lf h) r
   |succ n=>exact .cons a (Lj h b (n:=n) (st:=c) (d:=d) r (by simpa using e))
theorem Nh{v:V}{inner:List O}{fp:List Addr}{n:Nat}{st:Bool}{d:D}(c:Int)(r:wK K kd F B G H v (.nd .ls inner) fp)(hn:fp.Nodup)(hG:∀a ∈ fp,G a)(e:inner[n]? = some (.lf st d)):
 ∃p ivs,v = .ref p/\p ∈ fp/\H p=some (.lst ivs)/\n<ivs.length/\wK K kd F B G (upd H p (.lst (ivs.set n (.int c)))) v (.nd .ls (inner.set n (.lf true (.int c)))) fp:=by
 cases r with
 |ls hp ir=>
  rename_i p ivs ifp;have hpfp:p ∉ ifp:=(zzW.mp hn).1;refine⟨p,ivs,rfl,zzF ..,hp,by rw[QD ir];exact(zzG.mp e).1,.ls zV (Lj (.int c) inner (xt.grow (VI (hG p (zzF ..))) (λx m w h=>by rw[zE (λe=>hpfp (by subst e;exact m))];exact h) ir) e)⟩
theorem Fg{v:V}{os:List O}{fp:List Addr}{n:Nat}{o:O}(r:wK K kd F B G H v (.nd .ls os) fp)(hn:fp.Nodup)(hG:∀a ∈ fp,G a)(e:os[n]? = some o):
 ∃l vs w f,v = .ref l/\H l=some (.lst vs)/\vs[n]? = some w/\wK K kd F B G H w o f/\f.Nodup/\(∀a ∈ f,a ∈ fp)/\∀(p:Addr) (u:HO) (o':O),p ∈ f->wK K kd F B G (upd H p u) w o' f->wK K kd F B G (upd H p u) v (.nd .ls (os.set n o')) fp:=by
 cases r with
 |ls c g=>
  rename_i l h i;obtain⟨w,f,j,k,q,d,s⟩:=NQ os g (zzW.mp hn).2 (λa m=>hG a (zzD _ m)) e;exact⟨l,h,w,f,rfl,c,j,k,q,λa m=>zzD _ (d a m),λp u t b x=>.ls (by rw[zE (λe=>(zzW.mp hn).1 (by rw[e];exact d p b))];exact c) (s p u t b x)⟩
theorem sS{v:V}{os:List O}{fp:List Addr}{n:Nat}{o:O}(r:wK K kd F B G H v (.nd .tp os) fp)(hn:fp.Nodup)(hG:∀a ∈ fp,G a)(e:os[n]? = some o):
 ∃l vs w f,v = .ref l/\H l=some (.tup vs)/\vs[n]? = some w/\wK K kd F B G H w o f/\f.Nodup/\(∀a ∈ f,a ∈ fp)/\∀(p:Addr) (u:HO) (o':O),p ∈ f->wK K kd F B G (upd H p u) w o' f->wK K kd F B G (upd H p u) v (.nd .tp (os.set n o')) fp:=by
 cases r with
 |tp c d h=>
  rename_i l i;obtain⟨w,f,j,k,m,g,q⟩:=NQ os h hn hG e;exact⟨l,i,w,f,rfl,d,j,k,m,g,λp u s b t=>.tp c (by rw[zE (λe=>c (.inr (by rw[e];exact hG p (g p b))))];exact d) (q p u s b t)⟩
end
section
variable{K:zzA}{kd:KD}{F B:Addr->Prop}{ad:Ad}{as:AS}{σ:St}{H:Hp}{i:Nat}{o:O}
theorem Rel.slotU(R:Rel K kd F B [] ad as σ H)(k:as[i]? = some (some o)):
 ∃v,σ[i]? = some (some v)/\wK K kd F B (Gw [] ad) H v o (ad i)/\(ad i).Nodup/\(∀a ∈ ad i,Gw [] ad a)/\
  ∀(p:Addr) (u:HO) (o':O),p ∈ ad i->wK K kd F B (Gw [] ad) (upd H p u) v o' (ad i)->Rel K kd F B [] ad (as.set i (some o')) σ (upd H p u)/\Grow (Gw [] ad) H (Gw [] ad) (upd H p u):=by
 obtain⟨v,d,n⟩:=R.sl i _ k;have r:i<as.length:=(zzG.mp k).1;refine⟨v,d,n,R.nd i,λa m=>.inr ⟨i,m⟩,λp u t f b=>?_⟩;have g:Grow (Gw [] ad) H (Gw [] ad) (upd H p u):=VI (.inr ⟨i,f⟩);have c:∀a,H a≠none->upd H p u a≠none:=λa z=>by
  by_cases e:a=p
  . subst e;rw[zV];simp
  . rw[zE e];exact z
 refine⟨⟨by rw[zzU];exact R.len,λj l=>R.out j (by rw[zzU]at l;exact l),R.nd,R.inj,R.tnd,R.dis,λa z=>c a (R.ftr a z),λa z=>⟨c a (R.btr a z).1,(R.btr a z).2⟩,λa z=>⟨c a (R.gtr a z).1,(R.gtr a z).2⟩,λj s e=>?_⟩,g⟩
 by_cases q:j=i
 . subst q;rw[zyJ r]at e;cases e;exact⟨v,d,b⟩
 . rw[zzY (Ne.symm q)]at e;exact(R.sl j s e).grow g λa m u h=>by rw[zE (λe=>q (R.inj j i a m (by rw[e];exact f)))];exact h
theorem Rel.any(R:Rel K kd F B [] ad as σ H)(hy:as[y]? = some none):Rel K kd F B [] ad as (σ.set y v) H:=by
 refine⟨by rw[zzU];exact R.len,R.out,R.nd,R.inj,R.tnd,R.dis,R.ftr,R.btr,R.gtr,λj s e=>?_⟩
 by_cases q:j=y
 . subst q;rw[hy]at e;cases e;exact R.sl j none hy
 . rw[zzY (Ne.symm q)];exact R.sl j s e
end
abbrev Kn:=AS->Option Int
def lH(K:zzA)(kd:KD)(f:Kn):TE:=λσ H Q=>∃F B ad as k,Rel K kd F B [] ad as σ H/\f as=some k/\Q (.int k) H
@[irreducible] def AK(X:Cx)(kd:KD)(e:Expr)(f:Kn):Prop:=PE X e (lH X.K kd f)
def xC(c:Int):Kn:=λ_=>some c
def Xh:O->Option (List O)
 | .nd .ls os=>some os
 |_=>none
def S8:O->Option (List O)
 | .nd .tp os=>some os
 |_=>none
def Ua:O->Option D
 | .lf _ d=>some d
 |_=>none
def Nx{α:Type}(f:O->Option α)(os:List O)(k:Nat):Option α:=os[k]?.bind f
def Mw{α:Type}(f:O->Option α)(as:AS)(i:Nat):Option α:=as[i]?.bind λs=>s.bind f
theorem BE{o:O}{os:List O}(h:Xh o=some os):o = .nd .ls os:=by
 cases o with
 |lf s d=>cases h
 |nd k a=>cases k<;>cases h;rfl
theorem Sx{o:O}{os:List O}(h:S8 o=some os):o = .nd .tp os:=by
 cases o with
 |lf s d=>cases h
 |nd k a=>cases k<;>cases h;rfl
theorem Si(h:Ua o=some d):∃st,o = .lf st d:=by
 cases o with
 |lf s d=>cases h;exact⟨s,rfl⟩
 |nd k a=>cases h
theorem Fs{α:Type}{f:O->Option α}{os:List O}{k:Nat}{a:α}(h:Nx f os k=some a):∃o,os[k]? = some o/\f o=some a:=bS_ h
theorem FB(h:Mw f as k=some a):∃o,as[k]? = some (some o)/\f o=some a:=by
 obtain⟨s,b,h⟩:=bS_ h;obtain⟨o,rfl,h⟩:=bS_ h;exact⟨o,b,h⟩
theorem sY{os inner:List O}{k:Nat}(h:Nx Xh os k=some inner):os[k]? = some (.nd .ls inner):=by
 obtain⟨o,a,h⟩:=Fs h;cases BE h;exact a
theorem nh{os inner:List O}{k:Nat}(h:Nx S8 os k=some inner):os[k]? = some (.nd .tp inner):=by
 obtain⟨o,a,h⟩:=Fs h;cases Sx h;exact a
theorem rK{os:List O}{d:D}{k:Nat}(h:Nx Ua os k=some d):∃st,os[k]? = some (.lf st d):=by
 obtain⟨o,a,h⟩:=Fs h;obtain⟨b,rfl⟩:=Si h;exact⟨b,a⟩
theorem JD{as:AS}{inner:List O}{k:Nat}(h:Mw Xh as k=some inner):as[k]? = some (some (.nd .ls inner)):=by
 obtain⟨o,a,h⟩:=FB h;cases BE h;exact a
theorem pk(h:Mw Ua as k=some d):∃st,as[k]? = some (some (.lf st d)):=by
 obtain⟨o,a,h⟩:=FB h;obtain⟨b,rfl⟩:=Si h;exact⟨b,a⟩
theorem X2{α:Type}{f:O->Option α}{os:List O}{k:Nat}{o:O}{a:α}(h:os[k]? = some o)(e:f o=some a):Nx f os k=some a:=by unfold Nx;rw[h];exact e
theorem VL(h:as[k]? = some (some o))(e:f o=some a):Mw f as k=some a:=by unfold Mw;rw[h];exact e
def xV(i:Nat):Kn:=λas=>(Mw Ua as i).bind Uu
def Eg(i:Nat)(f:Kn):Kn:=λas=>(f as).bind λk=>if 0<=k then(Mw Ua as i).bind λd=>(H_ d).bind λds=>ds[k.toNat]?.bind Uu else none
def XU(f g:Kn):Kn:=λas=>(f as).bind λa=>(g as).bind λb=>if 0<b then some (a%b)else none
def Io(i:Nat):Kn:=λas=>(Mw Xh as i).bind λos=>some (os.length:Int)
section
variable{X:Cx}{kd:KD}{f g:Kn}{a b:Expr}
theorem Gc:AK X kd (.Constant (.int c) j pos) (xC c):=by
 with_unfolding_all exact(yq vk λσ H Q h=>by
  obtain⟨F,B,a,as,k,R,e,q⟩:=h;cases e;exact q)
theorem LQ(hv:PE X (.Name x p) (vm i)):AK X kd (.Name x p) (xV i):=by
 with_unfolding_all exact(yq hv λσ H Q h=>by
  obtain⟨F,B,ad,as,k,R,e,q⟩:=h;obtain⟨d,e1,e⟩:=bS_ (show(Mw Ua as i).bind _=_ from e);cases Nu e;obtain⟨st,k1⟩:=pk e1;obtain⟨v,hv,ro⟩:=R.sl i _ k1;generalize ad i=fp at ro;cases ro with
  |lf rp=>cases rp;exact⟨_,hv,q⟩)
theorem MB(hv:PE X (.Name x p) (vm i))(hb:AK X kd b f)(hs:xg b):AK X kd (.Subscript (.Name x p) b pos) (Eg i f):=by
 with_unfolding_all exact(yq (Y0 Wf hv hb hs) λσ H Q h=>by
  obtain⟨F,B,ad,as,c,R,e,q⟩:=h;obtain⟨k,h1,e⟩:=bS_ (show(f as).bind _=_ from e);obtain⟨hk,e⟩:=ite_some' e;obtain⟨d0,e1,e3⟩:=bS_ e;obtain⟨ds,e2,e4⟩:=bS_ e3;obtain⟨d,k2,e5⟩:=bS_ e4;cases Uo e2;cases Nu e5;obtain⟨st,k1⟩:=pk e1;obtain⟨v,hv,ro⟩:=R.sl i _ k1;generalize ad i=fp at ro;cases ro with
  |lf rp=>
   obtain⟨l,vs,rfl,hq,rl⟩:=NT (ad:=ad) (q:=st) rp (λz=>z);obtain⟨w,hw,rw'⟩:=rl.get k2;cases rw';refine⟨_,hv,F,B,ad,as,k,R,h1,l,vs,k,_,rfl,rfl,hq ad H Grow.refl, ?_,q⟩;have:=wt hw;rw[Int.toNat_of_nonneg hk]at this;exact this)
theorem TQ(ha:AK X kd a f)(hb:AK X kd b g):AK X kd (.BinOp a .Mod b pos) (XU f g):=by
 with_unfolding_all exact(yq (DV O1 ha hb) λσ H Q h=>by
  obtain⟨F,B,d,as,c,R,e,q⟩:=h;obtain⟨m,i,e⟩:=bS_ (show(f as).bind _=_ from e);obtain⟨n,j,e⟩:=bS_ e;obtain⟨k,e⟩:=zB e;cases e;exact⟨F,B,d,as,m,R,i,F,B,d,as,n,R,j,m,n,rfl,rfl,k,q⟩)
theorem Ik(hg:Gl X "len")(hm:X.mg "len"=none)(hb:bootBuiltins "len"=some (.builtin "len"))(hv:PE X (.Name x p) (vm i))(hst:starEach [.Name x p] X.env=(false,eval (.Name x p) X.env)::starEach [] X.env)(hpl:(backTo pos (starEach [] X.env)).any (·.1)=false):AK X kd (.Call (.Name "len" p0) [.Name x p] [] pos) (Io i):=by
 with_unfolding_all exact(yq (PM YD hg hm hb (wR hv YT hst) (by decide) (by decide) hst hpl) λσ H Q h=>by
  obtain⟨F,B,ad,as,c,R,e,q⟩:=h;obtain⟨os,e1,e⟩:=bS_ (show(Mw Xh as i).bind _=_ from e);cases e;obtain⟨v,hv,ro⟩:=R.sl i _ (JD e1);generalize ad i=fp at ro;cases ro with
  |ls hH rl=>
   rename_i l vs fp;refine⟨_,hv,l,vs,rfl,.inl (.inl (.inl hH)), ?_⟩;rw[QD rl];exact q)
end
def IT(i:Nat)(f fv:Kn):SF:=λas=>(f as).bind λk=>(fv as).bind λc=>if 0<=k then(Mw Xh as i).bind λos=>(Nx Ua os k.toNat).bind λ_=>some (.nx (as.set i (some (.nd .ls (os.set k.toNat (.lf true (.int c)))))))else none
def MC(i:Nat)(f1 f2 fv:Kn):SF:=λas=>(f1 as).bind λk1=>(f2 as).bind λk2=>(fv as).bind λc=>if 0<=k1/\0<=k2 then(Mw Xh as i).bind λos=>(Nx Xh os k1.toNat).bind λinner=>(Nx Ua inner k2.toNat).bind λ_=>some (.nx (as.set i (some (.nd .ls (os.set k1.toNat (.nd .ls (inner.set k2.toNat (.lf true (.int c)))))))))else none
def DN(as:AS)(y:Nat):Bool:=match as[y]? with
 |some none=>true
 |_=>false
theorem L_(h:DN as y=true):as[y]? = some none:=by
 unfold DN at h;cases k:as[y]? with
 |none=>rw[k]at h;cases h
 |some s=>
  cases s with
  |none=>rfl
  |some _=>rw[k]at h;cases h
def CM(y i:Nat)(f1:Kn)(n:Nat)(f2 f3 fv:Kn):SF:=λas=>(f1 as).bind λk1=>(f2 as).bind λk2=>(f3 as).bind λk3=>(fv as).bind λc=>if 0<=k1/\0<=k2/\0<=k3/\DN as y=true then
 (Mw Xh as i).bind λos=>(Nx S8 os k1.toNat).bind λps=>(Nx Xh ps n).bind λrows=>(Nx Xh rows k2.toNat).bind λinner=>(Nx Ua inner k3.toNat).bind λ_=>some (.nx (as.set i (some (.nd .ls (os.set k1.toNat (.nd .tp (ps.set n (.nd .ls (rows.set k2.toNat (.nd .ls (inner.set k3.toNat (.lf true (.int c)))))))))))))else none
theorem JP(h:j<n):HZ n (j:Int)=some j:=by
 unfold HZ;rw[if_pos (by omega),if_pos (by omega)];simp
theorem LR(h0:0<=k)(h:k.toNat<n):HZ n k=some k.toNat:=by
 have:=JP h;rw[show((k.toNat:Nat):Int)=k by omega]at this;exact this
theorem LG(h0:0<=k)(h:xs[k.toNat]? = some v):Pk xs k=some v:=by
 have:=wt h;rw[show((k.toNat:Nat):Int)=k by omega]at this;exact this
section
variable{X:Cx}{kd:KD}{f f1 f2 f3 fv:Kn}{e1 e2 e3 ev:Expr}{i y:Nat}
theorem JN(ho:PE X (.Name x p) (vm i))(h1:AK X kd e1 f)(hv:AK X kd ev fv)
 (ha:∀v,assign (.Subscript (.Name x p) e1 tpos) X.env v=(do
  let ov <-holding [v] (eval (.Name x p) X.env);let iv <-holding [v,ov] (eval e1 X.env)
  standAt tpos
  holding [v,ov,iv] (setItem ov iv v)
  release [v,ov,iv] []))
 (hs:swapsWithSole [.Subscript (.Name x p) e1 tpos] ev pos.line X.env=pure false) (hw:swappedStores [.Subscript (.Name x p) e1 tpos] ev X.env=pure none)
 (hm:(assignEach [.Subscript (.Name x p) e1 tpos] X.env).map (·.2)=[assign (.Subscript (.Name x p) e1 tpos) X.env]):
 GN X kd (.Assign [.Subscript (.Name x p) e1 tpos] ev pos) (IT i f fv):=by
 with_unfolding_all exact(vq (ND hv (FJ ho h1 set_list ha) hs hw hm) λD σ H h=>by
  obtain⟨F,B,a,as,o,R,e,q⟩:=h;obtain⟨k,j,e⟩:=bS_ (show(f as).bind _=_ from e);obtain⟨c,l,e⟩:=bS_ e;obtain⟨m,e⟩:=ite_some' e;obtain⟨I,n,e⟩:=bS_ e;obtain⟨d,r,e⟩:=bS_ e;have s:=JD n;obtain⟨J,t⟩:=rK r;cases e;obtain⟨v,sv,u,w,y,z⟩:=R.slotU s;obtain⟨p,b,rfl,A,C,E,g⟩:=Nh c u w y t;obtain⟨R2,G⟩:=z p _ _ A g;exact⟨F,B,a,as,c,R,l,_,sv,F,B,a,as,k,R,j,p,b,k,k.toNat,rfl,rfl,C,LR m E,q σ a _ R2 G⟩)
theorem JL{x:Str}{p p1 tpos pos:Pos}(ho:PE X (.Name x p) (vm i))(h1:AK X kd e1 f1)(hp1:xg e1)(h2:AK X kd e2 f2)(hv:AK X kd ev fv)
 (ha:∀v,assign (.Subscript (.Subscript (.Name x p) e1 p1) e2 tpos) X.env v=(do
  let ov <-holding [v] (eval (.Subscript (.Name x p) e1 p1) X.env);let iv <-holding [v,ov] (eval e2 X.env)
  standAt tpos
  holding [v,ov,iv] (setItem ov iv v)
  release [v,ov,iv] []))
 (hs:swapsWithSole [.Subscript (.Subscript (.Name x p) e1 p1) e2 tpos] ev pos.line X.env=pure false) (hw:swappedStores [.Subscript (.Subscript (.Name x p) e1 p1) e2 tpos] ev X.env=pure none)
 (hm:(assignEach [.Subscript (.Subscript (.Name x p) e1 p1) e2 tpos] X.env).map (·.2)=[assign (.Subscript (.Subscript (.Name x p) e1 p1) e2 tpos) X.env]):
 GN X kd (.Assign [.Subscript (.Subscript (.Name x p) e1 p1) e2 tpos] ev pos) (MC i f1 f2 fv):=by
 with_unfolding_all exact(vq (ND hv (FJ (Y0 Wf ho h1 hp1) h2 set_list ha) hs hw hm) λD σ H h=>by
  obtain⟨F,B,b,as,o,R,e,q⟩:=h;obtain⟨z,G,e⟩:=bS_ (show(f1 as).bind _=_ from e);obtain⟨f,I,e⟩:=bS_ e;obtain⟨c,J,e⟩:=bS_ e;obtain⟨⟨g,j⟩,e⟩:=ite_some' e;obtain⟨os,K,e⟩:=bS_ e;obtain⟨k,L,e⟩:=bS_ e;obtain⟨d,M,e⟩:=bS_ e;have N:=JD K;have O:=sY L;obtain⟨st,P⟩:=rK M;cases e;obtain⟨v,sv,Q,S,A,T⟩:=R.slotU N;obtain⟨l,U,w,fw,rfl,V,n,r,W,C,s⟩:=Fg Q S A O;obtain⟨p,t,rfl,E,u,Y,y⟩:=Nh c r W (λa m=>A a (C a m)) P;obtain⟨R2,Z⟩:=T p _ _ (C p E) (s p _ _ E y);exact⟨F,B,b,as,c,R,J,_,sv,F,B,b,as,z,R,G,l,U,z,_,rfl,rfl,.inl (.inl V),LG g n,F,B,b,as,f,R,I,p,t,f,f.toNat,rfl,rfl,u,LR j Y,q σ b _ R2 Z⟩)
theorem JG{x z:Str}{n:Nat}{ec:Expr}{p p1 p2 py pos0 q0 q1 tpos pos:Pos}(hN:X.N.Nodup)(hyi:X.N[y]? = some z)(hyl:Loc X.env.scope z)(hyf:X.fn z=true\/X.env.scope.names.lookup z=some .local)
 (ho:PE X (.Name x p) (vm i)) (h1:AK X kd e1 f1) (hp1:xg e1) (hc:PE X ec (tC (.int n))) (hpc:xg ec) (hsw:swapsWith (.Subscript (.Subscript (.Name x p) e1 p1) ec p2) (some (.Name z py)) pos0.line X.env=pure false)
 (ho2:PE X (.Name z q0) (vm y)) (h2:AK X kd e2 f2) (hp2:xg e2) (h3:AK X kd e3 f3) (hv:AK X kd ev fv)
 (ha:∀v,assign (.Subscript (.Subscript (.Name z q0) e2 q1) e3 tpos) X.env v=(do
  let ov <-holding [v] (eval (.Subscript (.Name z q0) e2 q1) X.env);let iv <-holding [v,ov] (eval e3 X.env)
  standAt tpos
  holding [v,ov,iv] (setItem ov iv v)
  release [v,ov,iv] []))
 (hs:swapsWithSole [.Subscript (.Subscript (.Name z q0) e2 q1) e3 tpos] ev pos.line X.env=pure false) (hw:swappedStores [.Subscript (.Subscript (.Name z q0) e2 q1) e3 tpos] ev X.env=pure none)
 (hm:(assignEach [.Subscript (.Subscript (.Name z q0) e2 q1) e3 tpos] X.env).map (·.2)=[assign (.Subscript (.Subscript (.Name z q0) e2 q1) e3 tpos) X.env]):
 N6 X kd [.Assign [.Name z py] (.Subscript (.Subscript (.Name x p) e1 p1) ec p2) pos0,.Assign [.Subscript (.Subscript (.Name z q0) e2 q1) e3 tpos] ev pos] (CM y i f1 n f2 f3 fv):=by
 with_unfolding_all exact(Pr (vf (Od hN hyi hyl (Y0 Vu (Y0 Wf ho h1 hp1) hc hpc) hsw hyf) (QH (ND hv (FJ (Y0 Wf ho2 h2 hp2) h3 set_list ha) hs hw hm))) λD σ H h=>by
  obtain⟨F,B,g,as,o,R,e,q⟩:=h;obtain⟨n1,j1,e⟩:=bS_ (show(f1 as).bind _=_ from e);obtain⟨n2,j2,e⟩:=bS_ e;obtain⟨u,j3,e⟩:=bS_ e;obtain⟨c,j4,e⟩:=bS_ e;obtain⟨⟨A,C,E,f⟩,e⟩:=ite_some' e;have f:=L_ f;obtain⟨os,e1,e⟩:=bS_ e;obtain⟨ps,e2,e⟩:=bS_ e;obtain⟨rows,e3,e⟩:=bS_ e;obtain⟨G,e4,e⟩:=bS_ e;obtain⟨d,e5,e⟩:=bS_ e;have I:=JD e1;have k2:=nh e2;have k3:=sY e3;have k4:=sY e4;obtain⟨st,k5⟩:=rK e5;cases e;obtain⟨v,sv,ro,hn,s,up⟩:=R.slotU I;obtain⟨l,vs,w,fw,rfl,hH,J,K,fn,t,L⟩:=Fg ro hn s k2;obtain⟨l2,M,w2,fw2,rfl,O,j,P,Q,b,S⟩:=sS K fn (λa m=>s a (t a m)) k3;obtain⟨T,U,w3,fw3,rfl,V,k,W,Y,r,Z⟩:=Fg P Q (λa m=>s a (t a (b a m))) k4;obtain⟨p,ivs,rfl,hp,hHp,hl,ro'⟩:=Nh c W Y (λa m=>s a (t a (b a (r a m)))) k5;have m3:=r p hp;have m2:=b p m3;have m1:=t p m2;obtain⟨R2,g2⟩:=up p _ _ m1 (L p _ _ m2 (S p _ _ m3 (Z p _ _ hp ro')));have yl:y<σ.length:=by rw[<-R.len];exact(zzG.mp f).1
  have R':=R.any (y:=y) (v:=some (.ref T)) f;have niy:i≠y:=λe=>by subst e;rw[f]at I;cases I
  have R2':=R2.any (y:=y) (v:=some (.ref T)) (by rw[zzY niy];exact f);refine⟨_,sv,F,B,g,as,n1,R,j1,l,vs,n1,_,rfl,rfl,.inl (.inl hH),LG A J,l2,M,(n:Int),_,rfl,rfl,.inl (.inl O),wt j, ?_⟩;exact⟨F,B,g,as,c,R',j4,_,zyJ yl,F,B,g,as,n2,R',j2,T,U,n2,_,rfl,rfl,.inl (.inl V),LG C k,F,B,g,as,u,R',j3,p,ivs,u,u.toNat,rfl,rfl,hHp,LR E hl,q _ g _ R2' g2⟩)
end
section
variable{X:Cx}{kd:KD}
theorem uA:rP X (λx lo hi H Q=>∃z,x = .str z/\z.length<=sizeLine/\Q (.str (Txt.slice z lo hi)) H):=by
 intro f s σ H x v p r w y A Q I n a o g h;obtain⟨z,rfl,b,q⟩:=h;obtain⟨t,rfl⟩:=n;refine⟨"str",_,F.slot_str_getitem.lookup,typeIs_str _ _ _, ?_⟩;cases o with
 |none=>
  cases g with
  |none=>exact wpAny_getItem_str_slice (l:=none) (u:=none) (st:=none) a rfl (post_val_or_str ⟨zzO (Txt.slice_le z _ _) b,λc k=>⟨.str _,H,I.kept (λ_ _ e=>e),⟨_,rfl⟩,q⟩⟩)
  |int j d=>exact wpAny_getItem_str_slice (l:=none) (u:=some (j,d)) (st:=none) a rfl (post_val_or_str ⟨zzO (Txt.slice_le z _ _) b,λc k=>⟨.str _,H,I.kept (λ_ _ e=>e),⟨_,rfl⟩,q⟩⟩)
 |int i m=>
  cases g with
  |none=>exact wpAny_getItem_str_slice (l:=some (i,m)) (u:=none) (st:=none) a rfl (post_val_or_str ⟨zzO (Txt.slice_le z _ _) b,λc k=>⟨.str _,H,I.kept (λ_ _ e=>e),⟨_,rfl⟩,q⟩⟩)
  |int j d=>exact wpAny_getItem_str_slice (l:=some (i,m)) (u:=some (j,d)) (st:=none) a rfl (post_val_or_str ⟨zzO (Txt.slice_le z _ _) b,λc k=>⟨.str _,H,I.kept (λ_ _ e=>e),⟨_,rfl⟩,q⟩⟩)
def Cv:D->Option Int->Option Int->Option R0
 | .str z,lo,hi=>if z.length<=sizeLine then some (.im (.str (Txt.slice z lo hi)))else none
 |_,_,_=>none
theorem qE:rP X (λx lo hi H Q=>∃O d r,(∀a,O a->H a≠none)/\Vw X.K kd O H x d/\Cv d lo hi=some r/\RQ X.K kd O H Q r):=by
 intro b s σ H x v f g i j k Q I l m n o h;obtain⟨O,d,r,t,p,e,q⟩:=h;unfold Cv at e
 split at e
 . obtain⟨c,rfl⟩:=zB e;cases p;exact uA b s σ H _ v f g i j k Q I l m n o ⟨_,rfl,c,zX q (.str _)⟩
 . cases e
theorem S_{a:Expr}{lo hi:Option Expr}{fa:EF}{fl fh:OF}{pos p2:Pos}(ha:AE X kd a fa)(hl:AO X kd lo fl)(hh:AO X kd hi fh):AE X kd (.Subscript a (.Slice lo hi none p2) pos) (Ym fa fl fh Cv):=by with_unfolding_all exact(yq (P1 qE ha hl hh) λσ H Q h=>by
 obtain⟨F,B,O,as,r,s,R,e,q⟩:=h;obtain⟨⟨p,c⟩,t,e⟩:=bS_ (show(fa as).bind _=_ from e);obtain⟨⟨l,b⟩,x,e⟩:=bS_ e;obtain⟨⟨u,y⟩,A,e⟩:=bS_ e;obtain⟨⟨d,P⟩,C,e⟩:=bS_ e;obtain⟨D,E,e⟩:=bS_ e;obtain⟨z,G,e⟩:=bS_ e;cases e;refine wb R t λv f S I g J=>⟨F,B,f,c,l,b,I,x,λi T R2 n=>⟨F,B,i,b,u,_,R2,A,λj U k o=>?_⟩⟩;exact⟨_,d,D,k.tr _,xh.vw k ((g.grow n).grow o) C,E,YR k G λw K L M m N=>q w K j L M m (((J.trans n).trans o).trans N)⟩)
end
theorem m9{α:Type}{P:List α->Prop}(h:∀a,P [a]):∀us:List α,us.length=1->P us
 | [a],_=>h a
theorem mZ{α:Type}{P:List α->Prop}(h:∀a b,P [a,b]):∀us:List α,us.length=2->P us
 | [a,b],_=>h a b
theorem lh{α:Type}{P:List α->Prop}(h:∀a b c,P [a,b,c]):∀us:List α,us.length=3->P us
 | [a,b,c],_=>h a b c
theorem lq{α:Type}{P:List α->Prop}(h:∀a b c d,P [a,b,c,d]):∀us:List α,us.length=4->P us
 | [a,b,c,d],_=>h a b c d
theorem mV{α:Type}{P:List α->Prop}(h:∀a b c d e,P [a,b,c,d,e]):∀us:List α,us.length=5->P us
 | [a,b,c,d,e],_=>h a b c d e
section
variable{X:Cx}{kd:KD}
theorem aI:AE X kd (.Constant (.int c) j pos) (fC (.int c)):=Gk vk λ_ _=>.int _
theorem aS:AE X kd (.Constant (.str c) j pos) (fC (.str c)):=Gk tS λ_ _=>.str _
theorem aZ:AE X kd (.Constant .none j pos) (fC .non):=Gk tP λ_ _=>.non
theorem aB:AE X kd (.Constant (.bool c) j pos) (fC (.bl c)):=Gk pF λ_ _=>.bl _
theorem ax{P:Program}{w:World}{K:zzA}{a b:Expr}{fa fb:EF}{pos:Pos}(hkd:xF P w K kd)(ha:AE X kd a fa)(hb:AE X kd b fb)(h1:X.prog=P:=by rfl)(h2:X.w=w:=by rfl)(h3:X.K=K:=by rfl)(hm:xg b:=by exact λ_ _=>rfl):AE X kd (.Subscript a b pos) (f2 fa fb zA):=pZ (oJ (hkd _ h1 h2 h3)) ha hb hm
theorem sv(z:Bool)(i:Nat)(hN:X.N.Nodup)(he:AE X kd e fa)(hi:X.N[i]? = some x:=by rfl)(hx:Loc X.env.scope x:=by first|exact Or.inl rfl|exact Or.inr rfl)(hs:swapsWith e (some (.Name x pos')) pos.line X.env=pure false:=by rfl)(hf:X.fn x=true\/X.env.scope.names.lookup x=some .local:=by first|exact Or.inl rfl|exact Or.inr rfl):
 GN X kd (.Assign [.Name x pos'] e pos) (zx z i fa):=IZ hN hi hx he hs hf
theorem an(i:Nat)(hN:X.N.Nodup)(hi:X.N[i]? = some x:=by rfl)(hx:Loc X.env.scope x:=by first|exact Or.inl rfl|exact Or.inr rfl)(hf:X.fn x=true\/X.env.scope.names.lookup x=some .local:=by first|exact Or.inl rfl|exact Or.inr rfl):AG X kd (.Name x pos) [i] (gN i):=BX hN hi hx hf
theorem av(i:Nat)(hN:X.N[i]? = some x:=by rfl)(hv:oo X.env.scope x:=by first|exact Or.inl rfl|exact Or.inr (Or.inl rfl)|exact Or.inr (Or.inr rfl))(hd:(x==("__debug__":Str))=false:=by decide)
 (hcd:(x==("__classdict__":Str))=false:=by decide):AE X kd (.Name x pos) (fV i):=sM (OY hN hv hd hcd)
end
structure CI(K:zzA)(kd:KD)(mg:Str->Option Value)(c:Str)(C:Addr):Prop where
 eq:kd.c c=C
 cl:Cls K C
 mks:PySem.W.makesIn K C=true
 kp:PySem.W.keepIn K (.ref C)=true
 mg:mg c=some (.ref C)
section
variable{as:AS}{f fo a b:EF}{fr:AF}{s t:Bool}{x y z d:D}{c m:Str}{ns cs:List Str}{ds:List D}{tbl:List (Str×Fn)}{g:Fn}{o:O}
inductive SqD:D->List D->Prop
 |l (ds:List D):SqD (.lst ds) ds
 |t (ds:List D):SqD (.tup ds) ds
end
open AutoSeq1 (wpAny_loadPart')
def Lw:D->List D->Option R0
 | .str x,[.str y]=>if(y.length==0)=false/\x.length<=sizeLine then some (.im (.tup [.str (Txt.partition x y).1,.str (Txt.partition x y).2.1,.str (Txt.partition x y).2.2]))else none
 |_,_=>none
def oi:D->List D->Option R0
 | .str x,[.str y]=>some (.im (.bl (Txt.startswith x y)))
 |_,_=>none
def OJ:D->List D->Option R0
 | .str x,[.str y,.int k]=>if(y.length==0)=false/\x.length<=sizeLine/\(decide (k < -(2 ^ 63:Int))||decide (k ≥ 2 ^ 63))=false/\(Builtin.Str.partsBetween x (Builtin.Str.occurrences x y 0 x.length (limitOf x k)) y.length).length<=sizeLine then some (.fl ((Txt.splitMax x y k).map .str))else none
 |_,_=>none
section
variable{X:Cx}{kd:KD}
theorem GP:Du X kd "str.startswith" oi:=by
 intro pins s σ H x xs v us Q I rx r h;obtain⟨O,d,ds,r0,ht,vx,vl,he,q⟩:=h;unfold oi at he
 split at he
 . cases he;cases vx;obtain⟨t,rfl⟩:=rx;obtain⟨y',rfl,vy⟩:=xO vl;cases vy;obtain⟨u',rfl,ru⟩:=vals1 r;obtain⟨u,rfl⟩:=ru;exact call_gives PySem.F.slot_str_startswith (typeIs_str _ _ _) PySem.F.entry_str_startswith (PySem.F.args_str_startswith_2 _ _) (gives_str_startswith _ _ t u) ⟨.bl _,H,I,rfl,zX q (.bl _)⟩
 . cases he
theorem NU:Du X kd "str.partition" Lw:=by
 intro pins s σ H x xs v us Q I rx r h;obtain⟨O,d,ds,r0,ht,vx,vl,he,q⟩:=h;unfold Lw at he
 split at he
 . rename_i x y;obtain⟨⟨hy,hx⟩,he⟩:=zB he;cases he;cases vx;obtain⟨t,rfl⟩:=rx;obtain⟨y',rfl,vy⟩:=xO vl;cases vy;obtain⟨u',rfl,ru⟩:=vals1 r;obtain⟨u,rfl⟩:=ru;refine call_meets PySem.F.slot_str_partition (typeIs_str _ _ _) PySem.F.entry_str_partition (PySem.F.args_str_partition_2 _ _) (meets_str_partition x y t u hy hx) ?_;have fin:∀(p q' r':Str) (a b c:Nat) (tk:Nat),Txt.partition x y=(p,q',r')->EP X pins σ Q (.ref s.heap.objs.size) {s with heap:=s.heap.push {cls:=.type "tuple",data:=.seq [Value.str p a,.str q' b,.str r' c].toArray},toks:=tk}:=λp q' r' a b c tk e=>by
    rw[e]at q;exact⟨.ref s.heap.objs.size,_,I.laid (λb o e=>zxF _ e) (zzN _) (show yU X.prog X.w _ _ _ (.tup [.str p,.str q',.str r'])from⟨by show 3<=sizeLine;decide,_,.cons ⟨a,rfl⟩ (.cons ⟨b,rfl⟩ (.cons ⟨c,rfl⟩ .nil)),IsTup.new _ _⟩),rfl,TJ ht q (.cons (.str _) (.cons (.str _) (.cons (.str _) .nil))) _ (I.hok.fresh (zzN _))⟩
   show EP X pins σ Q (.ref s.heap.objs.size) (match Builtin.Str.occurrences x y 0 x.length 1 with
    |i::_=>{s with toks:=s.toks+1+1,heap:=s.heap.push {cls:=.type "tuple",data:=.seq [Value.str (Builtin.Str.strSub x 0 i) s.toks,.str y u,.str (Builtin.Str.strSub x (i+y.length) x.length) (s.toks+1)].toArray}}
    | []=>{s with toks:=s.toks+1,heap:=s.heap.push {cls:=.type "tuple",data:=.seq [Value.str x t,.str Str.empty s.toks,.str Str.empty s.toks].toArray}})
   have e:Txt.partition x y=_:=rfl;cases ho:Builtin.Str.occurrences x y 0 x.length 1 with
   |nil=>exact fin _ _ _ _ _ _ _ (by unfold Txt.partition;rw[ho])
   |cons i r=>exact fin _ _ _ _ _ _ _ (by unfold Txt.partition;rw[ho])
 . cases he
theorem Mm:Du X kd "str.split" OJ:=by
 intro pins s σ H x xs v us Q I rx r h;obtain⟨O,d,ds,r0,ht,vx,vl,he,q⟩:=h;unfold OJ at he
 split at he
 . rename_i x y k;obtain⟨⟨hy,hx,hk,hn⟩,he⟩:=zB he;cases he;cases vx;obtain⟨t,rfl⟩:=rx;cases vl with
   |cons vy vl=>
   obtain⟨z',rfl,vz⟩:=xO vl;cases vy;cases vz;cases r with
   |cons ry r=>
   obtain⟨w',rfl,rw'⟩:=vals1 r;obtain⟨u,rfl⟩:=ry;obtain⟨v,rfl⟩:=rw';have fin:∀(l:List (Str×Tok)) (tk:Nat),l.map (·.1)=Txt.splitMax x y k->l.length<=sizeLine->EP X pins σ Q (.ref s.heap.objs.size) {s with heap:=s.heap.push {cls:=.type "list",data:=.seq (strValues l).toArray},toks:=tk}:=λl tk hl hz=>by
    refine⟨.ref s.heap.objs.size,_,I.laid (λb o e=>zxF _ e) (zzN _) (show yU X.prog X.w _ _ _ (.lst ((Txt.splitMax x y k).map V.str))from⟨by rw[<-hl];simpa using hz,strValues l,0,Up hl,zxH _ rfl⟩),rfl,XM q (P9 _) _ (I.hok.fresh (zzN _))⟩
   cases h1:(decide (x.length<y.length)||decide (Builtin.Str.strKind x<Builtin.Str.strKind y))
   . cases hf:(Builtin.Str.occurrences x y 0 x.length (limitOf x k)).isEmpty
     . refine call_meets PySem.F.slot_str_split (typeIs_str _ _ _) PySem.F.entry_str_split (PySem.F.args_str_split_3 _ _ _) (meets_str_split_sep_max x y k t u v hk h1 hy hf hx hn) ?_;show EP X pins σ Q (.ref s.heap.objs.size) {s with toks:=_,heap:=s.heap.push {cls:=.type "list",data:=.seq (strsFrom s.toks _).toArray}};rw[strsFrom_eq];exact fin (numbered s.toks _) _ ((numbered_texts _ _).trans ((if_neg (ne_true_of_eq_false h1)).trans (if_neg (ne_true_of_eq_false hf))).symm) (by have:=congrArg List.length (numbered_texts s.toks (Builtin.Str.partsBetween x (Builtin.Str.occurrences x y 0 x.length (limitOf x k)) y.length));rw[zzB]at this;omega)
     . exact call_meets PySem.F.slot_str_split (typeIs_str _ _ _) PySem.F.entry_str_split (PySem.F.args_str_split_3 _ _ _) (meets_str_split_max_not_found x y k t u v hk h1 hy hf) (fin [(x,t)] s.toks ((if_neg (ne_true_of_eq_false h1)).trans (if_pos hf)).symm (by show 1<=sizeLine;decide))
   . exact call_meets PySem.F.slot_str_split (typeIs_str _ _ _) PySem.F.entry_str_split (PySem.F.args_str_split_3 _ _ _) (meets_str_split_max_cannot_occur x y k t u v hk h1) (fin [(x,t)] s.toks (if_pos h1).symm (by show 1<=sizeLine;decide))
 . cases he
theorem AZ{b:List Stmt}{h0:ExceptHandler}{hs:List ExceptHandler}{pos:Pos}{g:SF}(h:N6 X kd b g)(hnx:∀v s,¬X.xe v s):GN X kd (.Try b (h0::hs) [] [] pos) g:=by
 with_unfolding_all (
 intro pins s σ H D I z;exact wpAny_Try_except (zxL (h pins s σ H D I z) (λf s q=>by cases f<;>first|exact q|exact wpAny_execs_nil q) λ_ _ e=>(hnx _ _ e).elim))
end
open PySem PySem.Spec PyProof.Rows L2 PySem.StrLaws PySem.Builtin PySem.Builtin.Str
section
variable{x y:Str}{h:Nat}{t:List Nat}
theorem BG(hy:y.cps.toList=h::t){n k:Nat}(ha:At x y n k):x.cps.toList[k]? = some h:=by
 have e:=ha.2;rw[subAt_eq,len_eq y,hy]at e;have e:=eq_of_beq e;have z:=congrArg (·[0]?) e;simpa using z
theorem Rk{pre post:List Nat}(hx:x.cps.toList=pre++y.cps.toList++post):At x y x.length pre.length:=by
 refine⟨by rw[len_eq x,len_eq y,hx];simp, ?_⟩;rw[subAt_eq,hx,len_eq y,zxA,List.drop_left,List.take_left];simp
theorem Pt{pre p post:List Nat}(hx:x.cps.toList=pre++p++post):strSub x pre.length (pre.length+p.length)=⟨p.toArray⟩:=LY (by
 rw[strSub_toList,hx,zxA,List.drop_left,show pre.length+p.length-pre.length=p.length by omega,List.take_left])
theorem Ng{pre p:List Nat}(hx:x.cps.toList=pre++p):strSub x pre.length x.length=⟨p.toArray⟩:=LY (by
 rw[strSub_toList,len_eq x,hx,List.drop_left,show(pre++p).length-pre.length=p.length by simp,List.take_length])
theorem YG(a:Str):(⟨a.cps.toList.toArray⟩:Str)=a:=LY (by simp)
theorem Yn(y a b:Str)(r:List Str):(Str.join y (a::b::r)).cps.toList=a.cps.toList++y.cps.toList++(Str.join y (b::r)).cps.toList:=by
 show(a++y++Str.join y (b::r)).cps.toList=_;rw[app_list,app_list]
theorem BM(hy:y.cps.toList=h::t){pre p post:List Nat}(hx:x.cps.toList=pre++p++post)(hp:h ∉ p){k n:Nat}(h1:pre.length<=k)(h2:k<pre.length+p.length):¬At x y n k:=λha=>by
 have e:=BG hy ha;rw[hx,zxA,zyQ h1,zyO (by omega)]at e;exact hp (zyA e)
theorem T4(hy:y.cps.toList=h::t):∀(ps:List Str) (pre:List Nat) (cuts:List Nat) (f:Nat),ps≠[]->(∀p ∈ ps,h ∉ p.cps.toList)->x.cps.toList=pre++(Str.join y ps).cps.toList->
 ChainG x y x.length pre.length cuts f->(∀k,f<=k->¬At x y x.length k)->partsFrom x y.length pre.length cuts=ps
 | [],_,_,_,hn,_,_,_,_=>absurd rfl hn
 | [p],pre,cuts,f,_,hp,hx,hc,hf=>by
  have hx:x.cps.toList=pre++p.cps.toList:=hx;cases cuts with
  |nil=>
   show[strSub x pre.length x.length]=_;rw[Ng hx,YG]
  |cons c r=>
   refine absurd hc.2.1 (BM hy (post:=[]) (by rw[zyE];exact hx) (hp p (by simp)) hc.1 ?_);have:=hc.2.1.1;rw[len_eq x,hx,zzJ]at this;have:0<y.length:=by rw[len_eq,hy];simp
   omega
 |p::q::r,pre,cuts,f,_,hp,hx,hc,hf=>by
  have hx:x.cps.toList=pre++p.cps.toList++y.cps.toList++(Str.join y (q::r)).cps.toList:=by rw[hx,Yn];simp
  have hA:At x y x.length (pre.length+p.cps.toList.length):=by
   have:=Rk hx
   rwa [zzJ]at this
  have hx2:x.cps.toList=pre++p.cps.toList++(y.cps.toList++(Str.join y (q::r)).cps.toList):=by rw[hx];simp
  cases cuts with
  |nil=>
   have e:f=pre.length:=hc;exact absurd hA (hf _ (by omega))
  |cons c cs=>
   obtain⟨h1,h2,h3,h4⟩:=hc;have e:c=pre.length+p.cps.toList.length:=by
    rcases Nat.lt_trichotomy c (pre.length+p.cps.toList.length)with z|z|z
    . exact absurd h2 (BM hy hx2 (hp p (by simp)) h1 z)
    . exact z
    . exact absurd hA (h3 _ (by omega) z)
   subst e;show strSub x pre.length (pre.length+p.cps.toList.length)::partsFrom x y.length (pre.length+p.cps.toList.length+y.length) cs=_;rw[Pt hx2,YG];have l:pre.length+p.cps.toList.length+y.length=(pre++p.cps.toList++y.cps.toList).length:=by rw[len_eq y];simp;omega
   rw[l]at h4 ⊢;rw[T4 hy (q::r) (pre++p.cps.toList++y.cps.toList) cs f (by simp) (λz m=>hp z (zzD _ m)) hx h4 hf]
theorem XO(x y:Str):Txt.split x y=partsBetween x (occurrences x y 0 x.length (x.length+1)) y.length:=by
 unfold Txt.split;have nil:partsBetween x [] y.length=[x]:=by rw[partsBetween_eq];show[strSub x 0 x.length]=_;rw[sub_whole]
 split
 . rename_i h;rw[PySem.W.occ_nil_of_no x y _ λi hi=>?_,nil]
   rcases Bool.or_eq_true_iff.mp h with h|h
   . have:=of_decide_eq_true h;omega
   . cases e:subAt x y i
     . rfl
     . have:=PySem.W.kind_le x y e;have:=of_decide_eq_true h;omega
 . split
   . rename_i h;rw[List.isEmpty_iff.mp h,nil]
   . rfl
theorem UA(hy:y.cps.toList=h::t){ps:List Str}(hn:ps≠[])(hp:∀p ∈ ps,h ∉ p.cps.toList):Txt.split (Str.join y ps) y=ps:=by
 obtain⟨f,hG,hf⟩:=occ_tight (Str.join y ps) y (by rw[len_eq,hy];simp);rw[XO,partsBetween_eq];exact T4 hy ps [] _ f hn hp rfl hG hf
theorem LZ(s sub:Str)(hi limit lo:Nat)(hw:1<=sub.length):∀(m cur:Nat) (st:Array Nat×Nat),ChainG s sub hi lo st.fst.toList st.snd->(st.fst.size=limit\/∀k,st.snd<=k->k<cur->¬At s sub hi k)->st.fst.size<=limit->
 ChainG s sub hi lo (forIn (List.range' cur m) st (occBody s sub hi limit)).run.fst.toList (forIn (List.range' cur m) st (occBody s sub hi limit)).run.snd/\
 ((forIn (List.range' cur m) st (occBody s sub hi limit)).run.fst.size=limit\/∀k,(forIn (List.range' cur m) st (occBody s sub hi limit)).run.snd<=k->k<cur+m->¬At s sub hi k)/\(forIn (List.range' cur m) st (occBody s sub hi limit)).run.fst.size<=limit
 |0,cur,st,h,hn,hl=>⟨h,hn,hl⟩
 |m+1,cur,st,h,hn,hl=>by
  rw[List.range'_succ,List.forIn_cons];unfold occBody;have e:cur+(m+1)=(cur+1)+m:=by omega
  rw[e]
  split
  . rename_i hc;have hn':∀k,st.snd<=k->k<cur->¬At s sub hi k:=hn.resolve_left (by have:=hc.1.1.1;omega);refine LZ s sub hi limit lo hw m (cur+1) _ ?_ (.inr ?_) ?_
    . show ChainG s sub hi lo (st.fst.push cur).toList (cur+sub.length);rw[Array.toList_push];exact chainG_snoc h hc.1.1.2 ⟨hc.1.2,hc.2⟩ hn'
    . intro k h1 h2;have h1':cur+sub.length<=k:=h1;omega
    . show(st.fst.push cur).size<=limit;rw[Array.size_push];have:=hc.1.1.1;omega
  . rename_i hc;refine LZ s sub hi limit lo hw m (cur+1) _ h ?_ hl
    by_cases hz:st.fst.size=limit
    . exact .inl hz
    . have hn':=hn.resolve_left hz;refine .inr λk h1 h2 hA=>?_
      by_cases hk:k<cur
      . exact hn' k h1 hk hA
      . have ek:k=cur:=by omega
        subst ek;exact hc ⟨⟨⟨by show st.fst.size<limit;omega,h1⟩,hA.1⟩,hA.2⟩
theorem JF(x y:Str)(limit:Nat)(hw:1<=y.length):∃f,ChainG x y x.length 0 (occurrences x y 0 x.length limit) f/\((occurrences x y 0 x.length limit).length=limit\/∀k,f<=k->¬At x y x.length k)/\(occurrences x y 0 x.length limit).length<=limit:=by
 rw[occ_eq];have key:=LZ x y x.length limit 0 hw (x.length+1-0) 0 ((#[]:Array Nat),0) rfl (.inr λk _ h=>by omega) (by simp);refine⟨_,key.1, ?_,by simpa using key.2.2⟩
 rcases key.2.1 with z|z
 . exact .inl (by simpa using z)
 . exact .inr λk hk hA=>z k hk (by have:=hA.1;omega) hA
theorem Bh(hy:y.cps.toList=h::t){pre p post cuts:List Nat}{c f n:Nat}(hx:x.cps.toList=pre++p++y.cps.toList++post)(hp:h ∉ p)(hc:ChainG x y x.length pre.length (c::cuts) f):c=pre.length+p.length:=by
 have hA:At x y x.length (pre.length+p.length):=by have:=Rk hx;rwa [zzJ]at this
 have hx2:x.cps.toList=pre++p++(y.cps.toList++post):=by rw[hx];simp
 rcases Nat.lt_trichotomy c (pre.length+p.length)with z|z|z
 . exact absurd hc.2.1 (BM hy hx2 hp hc.1 z)
 . exact z
 . exact absurd hA (hc.2.2.1 _ (by omega) z)
theorem D4{pre post:List Nat}(hx:x.cps.toList=pre++y.cps.toList++post):(decide (x.length<y.length)||decide (strKind x<strKind y))=false:=by
 have hA:=Rk hx;have:=PySem.W.kind_le x y hA.2;have:=hA.1;simp only[Bool.or_eq_false_iff,decide_eq_false_iff_not];omega
theorem HQ(hy:y.cps.toList=h::t){a b c:Str}(ha:h ∉ a.cps.toList)(hb:h ∉ b.cps.toList):Txt.splitMax (a++y++b++y++c) y 2=[a,b,c]:=by
 have ex:(a++y++b++y++c).cps.toList=[]++a.cps.toList++y.cps.toList++(b.cps.toList++y.cps.toList++c.cps.toList):=by simp only[app_list];simp
 have ex2:(a++y++b++y++c).cps.toList=(a.cps.toList++y.cps.toList)++b.cps.toList++y.cps.toList++c.cps.toList:=by simp only[app_list]
 have ex3:(a++y++b++y++c).cps.toList=(a.cps.toList++y.cps.toList++b.cps.toList++y.cps.toList)++c.cps.toList:=ex2;generalize hX:a++y++b++y++c=X at ex ex2 ex3;unfold Txt.splitMax;have l2:limitOf X 2=2:=rfl;rw[if_neg (by rw[D4 ex];nofun),l2];obtain⟨f,hG,hn,hl⟩:=JF X y 2 (by rw[len_eq,hy];simp);generalize occurrences X y 0 X.length 2=cuts at hG hn hl;have A1:At X y X.length a.cps.toList.length:=Rk (pre:=a.cps.toList) (post:=b.cps.toList++y.cps.toList++c.cps.toList) (by rw[ex];simp);have A2:At X y X.length (a.cps.toList++y.cps.toList++b.cps.toList).length:=Rk ex2
 match cuts,hG,hn,hl with
 | [],hG,hn,_=>
  have e:f=0:=hG
  rcases hn with z|z
  . cases z
  . exact absurd A1 (z _ (by omega))
 | [c1],hG,hn,_=>
  have e1:=Bh (n:=0) hy (pre:=[]) ex ha hG;have e:f=c1+y.length:=hG.2.2.2
  rcases hn with z|z
  . cases z
  . refine absurd A2 (z _ ?_);rw[e,e1,len_eq y];simp
 | [c1,c2],hG,_,_=>
  have e1:=Bh (n:=0) hy (pre:=[]) ex ha hG;have hG2:=hG.2.2.2;have e1':c1+y.length=(a.cps.toList++y.cps.toList).length:=by rw[e1,len_eq y];simp
  rw[e1']at hG2;have e2:=Bh (n:=0) hy ex2 hb hG2;rw[if_neg (by simp),partsBetween_eq];show[strSub X 0 c1,strSub X (c1+y.length) c2,strSub X (c2+y.length) X.length]=_;have e2':c2+y.length=(a.cps.toList++y.cps.toList++b.cps.toList++y.cps.toList).length:=by rw[e2,len_eq y];simp;omega
  rw[e1',e2',Ng ex3,e2,Pt (p:=b.cps.toList) (post:=y.cps.toList++c.cps.toList) (by rw[ex2];simp)];have e1'':c1=([]:List Nat).length+a.cps.toList.length:=e1;rw[e1'',show(0:Nat)=([]:List Nat).length from rfl,Pt (p:=a.cps.toList) (post:=y.cps.toList++(b.cps.toList++y.cps.toList++c.cps.toList)) (by rw[ex];simp),YG,YG,YG]
 |_::_::_::_,_,_,hl=>exact absurd hl (by simp)
theorem PP(hy:y.cps.toList=h::t){a b:Str}(ha:h ∉ a.cps.toList):Txt.partition (a++y++b) y=(a,y,b):=by
 have ex:(a++y++b).cps.toList=[]++a.cps.toList++y.cps.toList++b.cps.toList:=by simp only[app_list];simp
 generalize hX:a++y++b=X at ex;have A1:At X y X.length a.cps.toList.length:=Rk (pre:=a.cps.toList) (post:=b.cps.toList) (by rw[ex];simp);unfold Txt.partition
 rcases occ_head X y 1 (by decide)with⟨e,hn⟩|⟨i,r,e,hA,hn⟩
 . exact absurd A1 (hn _)
 . rw[e];have ei:i=a.cps.toList.length:=by
    rcases Nat.lt_trichotomy i a.cps.toList.length with z|z|z
    . exact absurd hA (BM hy (pre:=[]) (p:=a.cps.toList) (post:=y.cps.toList++b.cps.toList) (by rw[ex];simp) ha (Nat.zero_le _) (by simpa using z))
    . exact z
    . exact absurd A1 (hn _ z)
   show(strSub X 0 i,y,strSub X (i+y.length) X.length)=_;have e2:i+y.length=(a.cps.toList++y.cps.toList).length:=by rw[ei,len_eq y];simp
   rw[e2,Ng (p:=b.cps.toList) (by rw[ex];simp),ei];have:=Pt (x:=X) (pre:=[]) (p:=a.cps.toList) (post:=y.cps.toList++b.cps.toList) (by rw[ex];simp);rw[show([]:List Nat).length+a.cps.toList.length=a.cps.toList.length by simp]at this;rw[show(0:Nat)=([]:List Nat).length from rfl,this,YG,YG]
theorem FE(a b:Str):Txt.startswith (a++b) a=true:=by
 have:=Rk (x:=a++b) (y:=a) (pre:=[]) (post:=b.cps.toList) (by rw[app_list];simp);unfold Txt.startswith;simp only[zyC,decide_eq_true_eq];exact this
theorem SU{a y:Str}(hy:y.cps.toList=h::t)(ha:a.cps.toList.head? ≠ some h):Txt.startswith a y=false:=by
 cases e:Txt.startswith a y
 . rfl
 . unfold Txt.startswith at e;simp only[zyC,decide_eq_true_eq]at e;have:=BG hy (n:=a.length) (k:=0) e;exact absurd (by rw[List.head?_eq_getElem?];exact this) ha
end
section
variable{X:Cx}{kd:KD}{a b c:Expr}{fa fb fc:EF}{pos:Pos}{g g':D->D->Option R0}
theorem Ih{K:zzA}{kd:KD}{σ:St}{H:Hp}{Q:VK}(h:al K kd (XX fa fb fc g g') σ H Q):Cy (λx y H Q=>∃O d e r,(∀a,O a->H a≠none)/\Vw K kd O H x d/\Vw K kd O H y e/\g d e=some r/\RQ K kd O H Q r) (λx y H Q=>∃O d e r,(∀a,O a->H a≠none)/\Vw K kd O H x d/\Vw K kd O H y e/\g' d e=some r/\RQ K kd O H Q r) (al K kd fa) (al K kd fb) (al K kd fc) σ H Q:=by
 obtain⟨F,B,ad,as,r,as',R,e,q⟩:=h;obtain⟨⟨p,as1⟩,h1,e⟩:=bS_ (show(fa as).bind _=_ from e);obtain⟨⟨z,as2⟩,h2,e⟩:=bS_ e;obtain⟨⟨x,lx⟩,h3,e⟩:=bS_ e;obtain⟨⟨y,ly⟩,h4,e⟩:=bS_ e;obtain⟨r0,h5,e⟩:=bS_ e;refine wb R h1 λv ad1 H1 R1 rv1 g1=>wb R1 h2 λu ad2 H2 R2 rv2 g2=>⟨_,x,y,r0,R2.tr (meet lx ly),(xh.vw R2 (rv1.grow g2) h3).less U1.meet1,(xh.vw R2 rv2 h4).less U1.meet2,h5, ?_⟩
 match r0,e with
 | .im (.bl true),e=>
  obtain⟨⟨t,as3⟩,h6,e⟩:=bS_ (show(fc as2).bind _=_ from e);obtain⟨⟨y',ly'⟩,h7,e⟩:=bS_ e;obtain⟨⟨z',lz'⟩,h8,e⟩:=bS_ e;obtain⟨r1,h9,e⟩:=bS_ e;obtain⟨o,h10,e⟩:=bS_ e;cases e;intro w H3 kp rp;cases rp;obtain⟨R3,g3⟩:=R2.more kp;refine⟨true,rfl, ?_⟩;rw[if_pos rfl];refine wb R3 h6 λw' ad4 H4 R4 rv4 g4=>⟨_,y',z',r1,R4.tr (meet ly' lz'),(xh.vw R4 ((rv2.grow g3).grow g4) h7).less U1.meet1,(xh.vw R4 rv4 h8).less U1.meet2,h9, ?_⟩;exact YR R4 h10 λw T' H' R' rv' g'=>q w T' ad4 H' R' rv' ((((g1.trans g2).trans g3).trans g4).trans g')
 | .im (.bl false),e=>
  cases e;intro w H3 kp rp;cases rp;obtain⟨R3,g3⟩:=R2.more kp;refine⟨false,rfl, ?_⟩;rw[if_neg zyU];exact q _ [] ad2 H3 R3 (.lf (.bl _)) ((g1.trans g2).trans g3)
theorem CS(hg:∀x y r,g' x y=some r->∃k,r = .im (.bl k)){as as1:AS}{p:RV}(h:XX fa fb fc g g' as=some (p,as1)):∃k,p = .ow (.lf true (.bl k)):=by
 obtain⟨_,_,h⟩:=bS_ (show(fa as).bind _=_ from h);obtain⟨_,_,h⟩:=bS_ h;obtain⟨_,_,h⟩:=bS_ h;obtain⟨_,_,h⟩:=bS_ h;obtain⟨r0,_,h⟩:=bS_ h
 match r0,h with
 | .im (.bl true),h=>
  obtain⟨_,_,h⟩:=bS_ h;obtain⟨_,_,h⟩:=bS_ h;obtain⟨_,_,h⟩:=bS_ h;obtain⟨r1,h1,h⟩:=bS_ h;obtain⟨o,h2,h⟩:=bS_ h;cases h;obtain⟨k,rfl⟩:=hg _ _ _ h1;cases h2;exact⟨k,rfl⟩
 | .im (.bl false),h=>cases h;exact⟨false,rfl⟩
theorem M_{op op':CmpOp}(ho:sg X kd (compareOp op) g)(ho':sg X kd (compareOp op') g')(hg:∀x y r,g' x y=some r->∃k,r = .im (.bl k))(ha:AE X kd a fa)(hb:AE X kd b fb)(hc:AE X kd c fc)(hm:lastMarks [op,op'] [b,c]=false):
 AT X kd (.Compare a [op,op'] [b,c] pos) (fT (XX fa fb fc g g')):=by with_unfolding_all exact(LN (I_ ho ho' ha hb hc hm) λσ H Q h=>by
 obtain⟨F,B,ad,as,bb,as',R,e,q⟩:=h;obtain⟨⟨p,as1⟩,h1,e⟩:=bS_ (show(XX fa fb fc g g' as).bind _=_ from e);obtain⟨⟨d,lv⟩,h2,e⟩:=bS_ e;obtain⟨k,h3,e⟩:=bS_ e;cases e;obtain⟨k',rfl⟩:=CS hg h1;cases h2;cases h3;refine Ih ⟨F,B,ad,as,_,_,R,h1,λv T' ad' H' R' rv g'=>?_⟩;generalize hT:T'=T2 at rv R' g';cases rv with
 |lf rp=>
  cases rp;exact⟨_,rfl,q ad' H' R' g'⟩)
end
section
variable{K:zzA}{kd:KD}{F B:Addr->Prop}{T:List Addr}{ad:Ad}{as:AS}{σ:St}{H:Hp}{i:Nat}{o:O}{v:V}
theorem Lm{a:Addr}:Gw (ad i) (vO ad i []) a ↔ Gw [] ad a:=by
 constructor
 . rintro(z|⟨j,z⟩)
   . exact .inr ⟨i,z⟩
   . by_cases e:j=i
     . subst e;rw[zO]at z;cases z
     . rw[zR e]at z;exact .inr ⟨j,z⟩
 . rintro(z|⟨j,z⟩)
   . cases z
   . by_cases e:j=i
     . subst e;exact .inl z
     . exact .inr ⟨j,by rw[zR e];exact z⟩
theorem Rel.mv(R:Rel K kd F B [] ad as σ H)(h:as[i]? = some (some o)):
 Rel K kd F B (ad i) (vO ad i []) (as.set i none) σ H/\∃v,σ[i]? = some (some v)/\wK K kd F B (Gw (ad i) (vO ad i [])) H v o (ad i):=by
 have hi:i<as.length:=(zzG.mp h).1;obtain⟨v,hv,ro⟩:=R.sl i _ h;refine⟨⟨by rw[zzU];exact R.len,λj hj=>?_,λj=>?_,λj k a h1 h2=>?_,R.nd i,λj a h1 h2=>?_,R.ftr,λa h1=>?_,λa h1=>R.gtr a (Lm.mp h1),λj s e=>?_⟩,v,hv,ro.less λa z=>Lm.mp z⟩
 . rw[zzU]at hj;rw[zR (by omega)];exact R.out j hj
 . by_cases e:j=i
   . subst e;rw[zO];exact zyI
   . rw[zR e];exact R.nd j
 . by_cases e:j=i
   . subst e;rw[zO]at h1;cases h1
   . rw[zR e]at h1
     by_cases e':k=i
     . subst e';rw[zO]at h2;cases h2
     . rw[zR e']at h2;exact R.inj j k a h1 h2
 . by_cases e:j=i
   . subst e;rw[zO]at h1;cases h1
   . rw[zR e]at h1;exact e (R.inj j i a h1 h2)
 . obtain⟨b1,b2,b3⟩:=R.btr a h1;exact⟨b1,b2,λz=>b3 (Lm.mp z)⟩
 . by_cases q:j=i
   . subst q;rw[zyJ hi]at e;cases e;rw[zO];exact(rfl:([]:List Addr)=[])
   . rw[zzY (Ne.symm q)]at e;rw[zR q];have:=R.sl j s e;cases s with
     |none=>exact this
     |some o'=>
      obtain⟨w,hw,rw'⟩:=this;exact⟨w,hw,rw'.less λa z=>Lm.mp z⟩
end
def Jt(i:Nat):EF:=λas=>match as[i]? with
 |some (some o)=>some (.ow o,as.set i none)
 |_=>none
theorem qx{X:Cx}{kd:KD}{i:Nat}{x:Str}{p:Pos}(hv:PE X (.Name x p) (vm i)):AE X kd (.Name x p) (Jt i):=by with_unfolding_all exact(yq hv λσ H Q h=>by
 obtain⟨F,B,ad,as,r,as',R,e,q⟩:=h;unfold Jt at e;cases k:as[i]? with
 |none=>rw[k]at e;cases e
 |some s=>
  cases s with
  |none=>rw[k]at e;cases e
  |some o=>
   rw[k]at e;cases e;obtain⟨R',v,hv,ro⟩:=R.mv k;exact⟨v,hv,q v (ad i) _ H R' ro (Grow.less λa z=>Lm.mp z)⟩)
def Jv:Sp:=λvs H Q _=>∃v w,vs=[v,w]/\v≠V.non/\Q v H
abbrev mY:TS:=pA (qb (tB (rZ (vm 0))) OD D0) (q_ (vm 0))
section
variable{P:Program}{w:World}{K:zzA}{mg:Str->Option Value}{base:Heap}
theorem Ju{x qual:Str}{st:Stmt}{f:Addr}{fd:FuncData}{N ps:List Str}{k:Nat}(Fn:Fun K x qual st f fd)(S:FnScope N ps (ze st))(hps:2=ps.length)
 (hb:∀(cdv:Value) (A:Around) (outer:List Env) (s:Shared) (H:Hp) (E:XK),N5 (LL Ko P w K mg base N qual (ze st) f cdv A outer s H E).nox (Zv st) mY):
 FnOk P w K mg base Ko (k+1) f fd ps Jv:=by
 refine Fn.ok S (λvs H Q E h=>?_) (λcdv A outer s H vs Q E hr h=>⟨_,hb cdv A outer s H E, ?_⟩)
 . obtain⟨v,w,rfl,_⟩:=h;exact hps
 . obtain⟨v,w,rfl,hv,q⟩:=h;refine⟨v,rfl,false,by rw[zyG hv], ?_⟩;exact⟨v,rfl,q⟩
end
def Vm:O->Bool
 | .lf _ .non=>true
 |_=>false
def WK(fd:DF):EF:=λas=>(fd as).bind λp=>match p.1 with
 | [o,.lf _ _]=>if Vm o=true then none else some (.ow o,p.2)
 |_=>none
theorem qR{L:Bool->V->D->Prop}{N:Addr->Prop}{H:Hp}{v:V}{o:O}{fp:List Addr}(hL:∀st d,L st .non d->d = .non)(h:Ro L N H v o fp)(e:Vm o≠true):v≠V.non:=by
 intro z;subst z;cases h with
 |lf r=>cases hL _ _ r;exact e rfl
section
variable{X:Cx}{kd:KD}{e:Expr}{es:List Expr}{fd:DF}{pos:Pos}
theorem Al{k:Nat}{f:Addr}{fdt:FuncData}{ps:List Str}{x:Str}{p:Pos}(F:FnOk X.prog X.w X.K X.mg X.base Ko k f fdt ps Jv)(hr:Room k X.A)(hg:Gl X x)(hm:X.mg x=some (.ref f))(hk:PySem.W.keepIn X.K (.ref f)=true)
 (hb:Binds X.K fdt ps []) (hx:TB Ko X (λ_ _ _=>False)) (ha:AD X kd (e::es) fd) (hdb:(x==("__debug__":Str))=false) (he:starEach (e::es) X.env=(false,eval e X.env)::starEach es X.env) (hpl:(backTo pos (starEach es X.env)).any (·.1)=false):
 AE X kd (.Call (.Name x p) (e::es) [] pos) (WK fd):=by
 with_unfolding_all exact(yq (Bm F hr hg hm hk hb .nil hx ha hdb he hpl) λσ H Q h=>by
  obtain⟨F,B,ad,as,r,as',R,e,q⟩:=h;obtain⟨⟨os,as1⟩,h1,e⟩:=bS_ (show(fd as).bind _=_ from e)
  match os,e,h1 with
  | [o,.lf s d],e,h1=>
   by_cases hn:Vm o=true
   . have e:(if Vm o=true then none else some (RV.ow o,as1))=some (r,as'):=e;rw[if_pos hn]at e;cases e
   . have e:(if Vm o=true then none else some (RV.ow o,as1))=some (r,as'):=e;rw[if_neg hn]at e;cases e;refine(show oP X.K kd fd σ H _ from⟨F,B,ad,as,[o,.lf s d],_,R,h1,λvs T ad1 H1 R1 ro g1=>?_⟩);show Jv (vs++[]) H1 Q _;rw[zyE];cases ro with
     |cons r1 rl=>
      cases rl with
      |cons r2 rl=>
       cases rl;cases r2;rename_i v fp w _;refine⟨_,_,rfl,qR (λst d z=>by cases z;rfl) r1 hn, ?_⟩;rw[zyE,zyE]at R1 g1 r1;exact q _ _ ad1 H1 R1 r1 g1)
end
def rL(n:Nat)(H:Hp)(a:Addr):Prop:=∃vs,H a=some (.lst vs)/\vs.length<=n
def RD(S:Addr->Prop)(n:Nat)(H H':Hp):Prop:=(∀b,¬S b->H' b=H b)/\∀b m,rL m H b->rL (m+n) H' b
theorem RD.refl{S:Addr->Prop}{H:Hp}:RD S 0 H H:=⟨λ_ _=>rfl,λ_ _ h=>h⟩
theorem RD.clr{S:Addr->Prop}{n:Nat}{H H':Hp}{r:Addr}(h:RD S n H H')(hr:S r):RD S n H (upd H' r (.lst [])):=by
 refine⟨λb hb=>by rw[zE (λe=>hb (by rw[e];exact hr))];exact h.1 b hb,λb m hb=>?_⟩
 by_cases e:b=r
 . subst e;exact⟨[],zV,Nat.zero_le _⟩
 . obtain⟨vs,z,l⟩:=h.2 b m hb;exact⟨vs,by rw[zE e];exact z,l⟩
theorem RD.app{S:Addr->Prop}{n:Nat}{H H':Hp}{r:Addr}{ws:List V}{y:V}(h:RD S n H H')(hr:S r)(hw:H' r=some (.lst ws)):RD S (n+1) H (upd H' r (.lst (ws++[y]))):=by
 refine⟨λb hb=>by rw[zE (λe=>hb (by rw[e];exact hr))];exact h.1 b hb,λb m hb=>?_⟩;obtain⟨vs,z,l⟩:=h.2 b m hb
 by_cases e:b=r
 . subst e;rw[hw]at z;cases z;exact⟨_,zV,by rw[zzJ];exact Nat.add_le_add_right l 1⟩
 . exact⟨vs,by rw[zE e];exact z,Nat.le_succ_of_le l⟩
theorem RD.trans{S:Addr->Prop}{n m:Nat}{H H1 H2:Hp}(a:RD S n H H1)(b:RD S m H1 H2):RD S (n+m) H H2:=⟨λx h=>(b.1 x h).trans (a.1 x h),λx k h=>by rw[<-Nat.add_assoc];exact b.2 x _ (a.2 x k h)⟩
theorem RD.mono{S S':Addr->Prop}{n:Nat}{H H1:Hp}(a:RD S n H H1)(h:∀b,S b->S' b):RD S' n H H1:=⟨λx hx=>a.1 x λz=>hx (h x z),a.2⟩
def Hq(js:List Nat)(σ σ':St):Prop:=σ'.length=σ.length/\∀b,b ∉ js->σ'[b]? = σ[b]?
theorem Hq.set{js:List Nat}{σ σ':St}{j:Nat}{v:Option V}(h:Hq js σ σ')(hj:j ∈ js):Hq js σ (σ'.set j v):=⟨by rw[zzU];exact h.1,λb hb=>by rw[zzY (λe=>hb (by rw[<-e];exact hj))];exact h.2 b hb⟩
theorem Hq.trans{js:List Nat}{σ σ1 σ2:St}(a:Hq js σ σ1)(b:Hq js σ1 σ2):Hq js σ σ2:=⟨b.1.trans a.1,λx h=>(b.2 x h).trans (a.2 x h)⟩
theorem oh{K:zzA}{H:Hp}{r:Addr}{vs:List V}(z:H r=some (.lst vs)):oe K "list" (.ref r) H:=.inl ⟨rfl,vs,.inl (.inl z)⟩
abbrev om(K:zzA)(to:TE):TE:=qe K "list" IP to
abbrev nq(K:zzA)(c:Int)(to:TE):TE:=oI K "list" L9 to (Oh (tC (.int c)) tH)
section
variable{K:zzA}{D:Ends}{σ:St}{H:Hp}{i jr jn l t N:Nat}{js:List Nat}{g:Addr->Prop}{xs:List V}
theorem nu{te:TE}(hte:∀Q,Q (.ref l) H->te σ H Q)(hl:H l=some (.lst xs))(hx:∀x ∈ xs,∃a w r,x = .ref a/\H a=some (.tup [w,.ref r])/\g r/\rL N H r)(hng:¬g l)(hgL:∀a,g a->∃vs,H a=some (.lst vs))(hjn:jn ∈ js)(hj:jr ∈ js)(hlen:jr<σ.length)
 (q:∀σ' H',Hq js σ σ'->RD g 0 H H'->D.nx σ' H'):sh (OP K te) (C9 K 2 (VH (Yk jn) (VH (Yk jr) OA))) (Bk (om K (vm jr))) D σ H:=by
 refine hte _ ⟨l,rfl,⟨xs,.inl (.inl hl)⟩,Er (xs:=xs) (λ_ σ2 H2=>Hq js σ σ2/\RD g 0 H H2) ⟨⟨rfl,λ_ _=>rfl⟩,RD.refl⟩ (λ_ σ2 H2 _ P=>.inl (.inl (by rw[P.2.1 l hng];exact hl))) (λk x σ2 H2 hk P=>?_) λσ2 H2 P=>q σ2 H2 P.1 P.2⟩;obtain⟨a,w,r,rfl,ha,hr,hI⟩:=hx x (zyA hk);obtain⟨ws,z,_⟩:=P.2.2 r _ hI;have ha2:H2 a=some (.tup [w,.ref r]):=by
  rw[P.2.1 a λm=>by obtain⟨us,y⟩:=hgL a m;rw[ha]at y;cases y];exact ha
 refine⟨a,[w,.ref r],rfl,.inl (.inl ha2),rfl,w,[.ref r],rfl,.ref r,[],rfl,rfl, ?_⟩;exact⟨.ref r,zyJ (by rw[zzU,P.1.1];exact hlen),oh z,r,ws,rfl,rfl,z,(P.1.set hjn).set hj,P.2.clr hr⟩
theorem nt{te:TE}{c:Int}(hte:∀Q,Q (.ref l) H->te σ H Q)(hl:H l=some (.lst xs))(hz:xs.length<=1000)(hx:∀x ∈ xs,∃a w r,x = .ref a/\H a=some (.tup [w,.ref r])/\g r/\rL 1000 H r)(hng:¬g l)(hgL:∀a,g a->∃vs,H a=some (.lst vs))(hjn:jn ∈ js)(hj:jr ∈ js)(hlen:jr<σ.length)
 (q:∀σ' H',Hq js σ σ'->RD g xs.length H H'->D.nx σ' H'):sh (OP K te) (C9 K 2 (VH (Yk jn) (VH (Yk jr) OA))) (Bk (nq K c (vm jr))) D σ H:=by
 refine hte _ ⟨l,rfl,⟨xs,.inl (.inl hl)⟩,Er (xs:=xs) (λk σ2 H2=>Hq js σ σ2/\RD g k H H2) ⟨⟨rfl,λ_ _=>rfl⟩,RD.refl⟩ (λ_ σ2 H2 _ P=>.inl (.inl (by rw[P.2.1 l hng];exact hl))) (λk x σ2 H2 hk P=>?_) λσ2 H2 P=>q σ2 H2 P.1 P.2⟩;obtain⟨a,w,r,rfl,ha,hr,hI⟩:=hx x (zyA hk);obtain⟨ws,z,hw⟩:=P.2.2 r _ hI;have hkl:=(zzG.mp hk).1;have ha2:H2 a=some (.tup [w,.ref r]):=by
  rw[P.2.1 a λm=>by obtain⟨us,y⟩:=hgL a m;rw[ha]at y;cases y];exact ha
 refine⟨a,[w,.ref r],rfl,.inl (.inl ha2),rfl,w,[.ref r],rfl,.ref r,[],rfl,rfl, ?_⟩;exact⟨.ref r,zyJ (by rw[zzU,P.1.1];exact hlen),oh z,r,ws,.int c,rfl,rfl,z,Nat.lt_of_le_of_lt (zzO hw (show _<=2000 by omega)) (by decide),(P.1.set hjn).set hj,P.2.app hr z⟩
theorem nS{te:TE}{ws:List V}(hte:∀Q,Q (.ref l) H->te σ H Q)(hl:H l=some (.lst ws))(hg:g l)(q:∀H',RD g 0 H H'->D.nx σ H'):Bk (om K te) D σ H:=
 hte _ ⟨oh hl,l,ws,rfl,rfl,hl,q _ (RD.refl.clr hg)⟩
end
def Fy:O->Bool
 | .nd .tp [_,.nd .ls vs]=>decide (vs.length<=1000)
 |_=>false
section
variable{K:zzA}{kd:KD}{F B G:Addr->Prop}{H:Hp}
theorem EK{xs:List V}{ds:List O}{g:List Addr}(h:xt K kd F B G H xs ds g):ds.all Fy=true->∀x ∈ xs,∃a w r,x = .ref a/\H a=some (.tup [w,.ref r])/\r ∈ g/\rL 1000 H r:=
 RoL.ind (P:=λxs ds g=>ds.all Fy=true->∀x ∈ xs,∃a w r,x = .ref a/\H a=some (.tup [w,.ref r])/\r ∈ g/\rL 1000 H r) (λ_ _ m=>nomatch m) (λ{v o vs os f f'} h _ ih e x m=>by
  rw[List.all_cons,zyC]at e
  rcases zzC.mp m with rfl|m
  . cases h with
    |tp hN hH rl=>
     rename_i a vs' os';cases rl with
     |nil=>cases e.1
     |cons r1 rl=>
      cases rl with
      |nil=>cases e.1
      |cons r2 rl=>
       cases rl with
       |nil=>
        cases r2 with
        |ls hH2 rl2=>exact⟨a,_,_,rfl,hH,zzP _ (zzL _ (zzP _ zzF)),_,hH2,by rw[QD rl2];exact of_decide_eq_true e.1⟩
        |_=>cases e.1
       |cons _ _=>exact absurd e.1 (by simp[Fy])
    |_=>cases e.1
  . obtain⟨a,w,r,h1,h2,h3,h4⟩:=ih e.2 x m;exact⟨a,w,r,h1,h2,zzL _ h3,h4⟩) h
theorem ub{v:V}{fp:List Addr}{d0 d1 d3:O}{rows ds ss:List O}(h:wK K kd F B G H v (.nd .tp [d0,d1,.nd .ls rows,d3,.nd .ls ds,.nd .ls ss]) fp):
 ∃t w0 w1 w3 l2 l4 l5 xs2 xs4 xs5 f0 f1 f3 g2 g4 g5,v = .ref t/\¬G t/\H t=some (.tup [w0,w1,.ref l2,w3,.ref l4,.ref l5])/\H l2=some (.lst xs2)/\xt K kd F B G H xs2 rows g2/\H l4=some (.lst xs4)/\xt K kd F B G H xs4 ds g4/\H l5=some (.lst xs5)/\xt K kd F B G H xs5 ss g5/\
  fp=f0++(f1++((l2::g2)++(f3++((l4::g4)++(l5::g5))))):=by
 cases h with
 |tp hNt hH rl=>
  cases rl with
  |cons r0 rl=>
   cases rl with
   |cons r1 rl=>
    cases rl with
    |cons r2 rl=>
     cases rl with
     |cons r3 rl=>
      cases rl with
      |cons r4 rl=>
       cases rl with
       |cons r5 rl=>
        cases rl;cases r2 with
        |ls tY rr2=>
         cases r4 with
         |ls hl4 rr4=>
          cases r5 with
          |ls hl5 rr5=>exact⟨_,_,_,_,_,_,_,_,_,_,_,_,_,_,_,_,rfl,λz=>hNt (.inr z),hH,tY,rr2,hl4,rr4,hl5,rr5,by rw[zyE]⟩
variable{T:List Addr}{ad:Ad}{as:AS}{σ σ':St}{H':Hp}
theorem Rel.poke(R:Rel K kd F B T ad as σ H)(k:∀c u,H c=some u->c ∉ T->H' c=some u)(kn:∀a ∈ T,H' a≠none):Rel K kd F B T ad as σ H'/\Grow (Gw T ad) H (Gw T ad) H':=by
 have g:Grow (Gw T ad) H (Gw T ad) H':=⟨λb o e n=>k b o e λm=>n (.inl m),λb z=>.inl z⟩;have kq:∀a,H a≠none->H' a≠none:=λa h=>by
  by_cases m:a ∈ T
  . exact kn a m
  . cases e:H a with
    |none=>exact absurd e h
    |some u=>rw[k a u e m];simp
 exact⟨⟨R.len,R.out,R.nd,R.inj,R.tnd,R.dis,λa z=>kq a (R.ftr a z),λa z=>⟨kq a (R.btr a z).1,(R.btr a z).2⟩,λa z=>⟨kq a (R.gtr a z).1,(R.gtr a z).2⟩,λi s e=>(R.sl i s e).grow g λa m u h=>k a u h (R.dis i a m)⟩,g⟩
theorem Rel.smv{js:List Nat}(R:Rel K kd F B T ad as σ H)(hs:Hq js σ σ')(hjs:∀j ∈ js,as[j]? = some none):Rel K kd F B T ad as σ' H:=
 ⟨R.len.trans hs.1.symm,R.out,R.nd,R.inj,R.tnd,R.dis,R.ftr,R.btr,R.gtr,λj s e=>by
  have sj:=R.sl j s e
  by_cases m:j ∈ js
  . have z:=hjs j m;rw[e]at z;cases z;exact sj
  . rw[hs.2 j m];exact sj⟩
end
def J5(i:Nat)(fr:EF)(jn jr jv:Nat):SF:=λas=>(Mw S8 as i).bind λos=>match os with
 | [_,_,.nd .ls (.nd .ls r0::rows),_,.nd .ls ds,.nd .ls ss]=>
  (fr (as.set i none)).bind λp=>(p.1.frz.view p.2).bind λx=>
   if r0.length<=1000/\ss.length<=1000/\ds.all Fy=true/\ss.all Fy=true/\DN p.2 jn=true/\DN p.2 jr=true/\DN p.2 jv=true/\i ∉ [jn,jr,jv]/\xm 60 (.lst (O.toDs rows)) x.1=some true then some (.nx p.2)else none
 |_=>none
theorem n9{x:V}{xs:List V}:G5 (x::xs) (some 1) none=xs:=by
 have e:HT.sIx (x::xs).length 0 (some 1)=1:=by
  show HT.sIx (xs.length+1) 0 (some 1)=1;unfold HT.sIx;simp
 have e2:HT.sIx (x::xs).length (x::xs).length none=xs.length+1:=rfl;unfold G5;rw[e,e2];show List.take (xs.length+1-1) xs=xs;simp
theorem lF{x:V}{xs:List V}:Pk (x::xs) 0=some x:=by
 have e:HZ (x::xs).length 0=some 0:=by
  unfold HZ;rw[if_pos (Int.le_refl _)];simp
 unfold Pk;rw[e];rfl
section
variable{X:Cx}{kd:KD}{i jn jr jv m3 m4:Nat}{x zn zr zv:Str}{e2 e0 ea e2' e1 er e4 e5 e9 e4':Expr}{sb:List Stmt}{fr:EF}{p1 p2 p3 p4 p5 q1 q1' q2 q2' q3 q4 q5 a1 a3 a4 a5 c1 c3 c4 c5 s1 s3 s4 s5 sp cp ip n3 n4 r3 r4 t3 t4 o3 o4 i3 i4:Pos}
theorem Ah{rest:List Stmt}{gR:SF}(hR:N6 X kd rest gR)(hk:KdOk X kd)(hu:X.A.units+100<cLine)(hp:PassesOwn (model X.prog X.w) X.A X.env X.xe)(hc:X.calm=true)
 (h1:PE X (.Name x p1) (vm i)) (h2:PE X (.Name x p2) (vm i)) (h3:PE X (.Name x p3) (vm i)) (h4:PE X (.Name x p4) (vm i)) (h5:PE X (.Name x p5) (vm i))
 (k2:PE X e2 (tC (.int 2))) (k0:PE X e0 (tC (.int 0))) (k2':PE X e2' (tC (.int 2))) (k1:PE X e1 (tC (.int 1))) (k4:PE X e4 (tC (.int 4))) (k5:PE X e5 (tC (.int 5))) (k4':PE X e4' (tC (.int 4)))
 (x2:xg e2) (x0:xg e0) (x2':xg e2') (x4:xg e4) (x5:xg e5) (x4':xg e4') (hr2:AE X kd er fr) (hm:behindInMarks .NotEq er=false)
 (g3:PG X (.Tuple [.Name zn n3,.Name zr r3] m3 t3) (C9 X.K 2 (VH (Yk jn) (VH (Yk jr) OA)))) (g4:PG X (.Tuple [.Name zn n4,.Name zv r4] m4 t4) (C9 X.K 2 (VH (Yk jn) (VH (Yk jv) OA))))
 (b1:∀te,PE X (.Subscript (.Subscript (.Name x p1) e2 q1) e0 q1') te->PE X (.Call (.Attribute (.Subscript (.Subscript (.Name x p1) e2 q1) e0 q1') "append" a1) [ea] [] c1) (nq X.K 0 te))
 (b3:PE X (.Call (.Attribute (.Name zr o3) "clear" a3) [] [] c3) (om X.K (vm jr))) (b4:PE X (.Call (.Attribute (.Name zv o4) "append" a4) [e9] [] c4) (nq X.K 9 (vm jv)))
 (b5:∀te,PE X (.Subscript (.Name x p5) e4' q5) te->PE X (.Call (.Attribute (.Subscript (.Name x p5) e4' q5) "clear" a5) [] [] c5) (om X.K te))
 (w1:swapsWith (.Call (.Attribute (.Subscript (.Subscript (.Name x p1) e2 q1) e0 q1') "append" a1) [ea] [] c1) none s1.line X.env=pure false) (w3:swapsWith (.Call (.Attribute (.Name zr o3) "clear" a3) [] [] c3) none s3.line X.env=pure false) (w4:swapsWith (.Call (.Attribute (.Name zv o4) "append" a4) [e9] [] c4) none s4.line X.env=pure false)
 (w5:swapsWith (.Call (.Attribute (.Subscript (.Name x p5) e4' q5) "clear" a5) [] [] c5) none s5.line X.env=pure false)
 (f3:∀y,foldedSetIterable (.Subscript (.Name x p3) e4 q3) X.env y=pure y) (f4:∀y,foldedSetIterable (.Subscript (.Name x p4) e5 q4) X.env y=pure y):
 N6 X kd (.Expr (.Call (.Attribute (.Subscript (.Subscript (.Name x p1) e2 q1) e0 q1') "append" a1) [ea] [] c1) s1 ::
  .If (.Compare (.Subscript (.Subscript (.Name x p2) e2' q2) (.Slice (some e1) none none sp) q2') [.NotEq] [er] cp) sb [] ip ::
  .For (.Tuple [.Name zn n3,.Name zr r3] m3 t3) (.Subscript (.Name x p3) e4 q3) [.Expr (.Call (.Attribute (.Name zr o3) "clear" a3) [] [] c3) s3] [] i3 ::
  .For (.Tuple [.Name zn n4,.Name zv r4] m4 t4) (.Subscript (.Name x p4) e5 q4) [.Expr (.Call (.Attribute (.Name zv o4) "append" a4) [e9] [] c4) s4] [] i4 ::
  .Expr (.Call (.Attribute (.Subscript (.Name x p5) e4' q5) "clear" a5) [] [] c5) s5::rest) (zh (J5 i fr jn jr jv) gR):=by
 with_unfolding_all exact(Pr (vf (Qa (b1 _ (Y0 Wf (Y0 Vu h1 k2 x2) k0 x0)) w1) (vf (C_ (B6 (Vx hk hu .NotEq) (P1 By (Y0 Vu h2 k2' x2') (Sr k1) BF) hr2 hm) Ll LH) (vf (FI hp hc (QU (Y0 Vu h3 k4 x4)) g3 (QH (Qa b3 w3)) f3) (vf (FI hp hc (QU (Y0 Vu h4 k5 x5)) g4 (QH (Qa b4 w4)) f4) (vf (Qa (b5 _ (Y0 Vu h5 k4' x4')) w5) hR))))) λD σ H h=>by
  obtain⟨F,B,ad,as,o,R,e,q⟩:=h;obtain⟨o9,e,e9⟩:=bS_ (show(J5 i fr jn jr jv as).bind _=_ from e);obtain⟨os,e1,e⟩:=bS_ (show(Mw S8 as i).bind _=_ from e);obtain⟨o0,k0,e1⟩:=FB e1;have k0':=Sx e1;subst k0'
  match os,e,k0 with
  | [d0,d1,.nd .ls (.nd .ls r0::rows),d3,.nd .ls ds,.nd .ls ss],e,k0=>
   obtain⟨⟨pr,as1⟩,hfr,e⟩:=bS_ (show(fr (as.set i none)).bind _=_ from e);obtain⟨⟨dx,lv⟩,hvw,e⟩:=bS_ e;obtain⟨⟨z0,z5,c4,c5,y1,y2,y3,nis,heq⟩,e⟩:=zB e;cases e;have y1:=L_ y1;have y2:=L_ y2;have y3:=L_ y3;obtain⟨R0,v,hv,ro⟩:=R.mv k0;obtain⟨T,ad0,R0,ro,gg0⟩:∃T ad0,Rel X.K kd F B T ad0 (as.set i none) σ H/\wK X.K kd F B (Gw T ad0) H v _ T/\Grow (Gw [] ad) H (Gw T ad0) H:=⟨_,_,R0,ro,Grow.less λa z=>Lm.mp z⟩;obtain⟨t,w0,w1,w3,l2,l4,l5,xs2,xs4,xs5,f0,f1,f3,g2,g4,g5,rfl,hNt,hH,tY,rr2,hl4,rr4,hl5,rr5,hfp⟩:=ub ro;have nz:∀a ∈ T,H a≠none:=λa m=>(R0.gtr a (.inl m)).1;have nd:=R0.tnd;have nG:∀a ∈ T,¬Gw [] ad0 a:=λa m z=>z.elim (λy=>nomatch y) λ⟨j,y⟩=>R0.dis j a y m;rw[hfp]at nd;have i2:∀a ∈ l2::g2,a ∈ T:=λa m=>by rw[hfp];exact zzL _ (zzL _ (zzP _ m))
   have i4:∀a ∈ l4::g4,a ∈ T:=λa m=>by rw[hfp];exact zzL _ (zzL _ (zzL _ (zzL _ (zzP _ m))))
   have i5:∀a ∈ l5::g5,a ∈ T:=λa m=>by rw[hfp];exact zzL _ (zzL _ (zzL _ (zzL _ (zzL _ m))))
   have n1:=(zxC.mp (zxC.mp nd).2.1).2.1;obtain⟨n2,n3,n24⟩:=zxC.mp n1;obtain⟨_,n4,_⟩:=zxC.mp n3;obtain⟨n5,n6,n45⟩:=zxC.mp n4;have d24:∀a ∈ l2::g2,∀b ∈ l4::g4,a≠b:=λa ma b mb=>n24 a ma b (zzL _ (zzP _ mb));have d25:∀a ∈ l2::g2,∀b ∈ l5::g5,a≠b:=λa ma b mb=>n24 a ma b (zzL _ (zzL _ mb));cases rr2 with
   |cons ra rb=>
    rename_i vA xs' gA gB;cases ra with
    |ls h0 rr0=>
     rename_i a0 xs0 g0;have ma0:a0 ∈ l2::((a0::g0)++gB):=zzD _ (zzP _ zzF);have ta0:=i2 a0 ma0;have nl2:l2≠a0:=λz=>(zzW.mp n2).1 (by rw[z];exact zzP _ zzF);have nB:∀a ∈ gB,a≠a0:=λa m z=>(zxC.mp (zzW.mp n2).2).2.2 a0 zzF a m z.symm;have n04:∀a ∈ l4::g4,a≠a0:=λa m z=>d24 a0 ma0 a m z.symm;have n05:∀a ∈ l5::g5,a≠a0:=λa m z=>d25 a0 ma0 a m z.symm;have nt0:t≠a0:=λz=>by rw[z,h0]at hH;cases hH
     have hz0:xs0.length<sizeLine:=by rw[QD rr0];exact Nat.lt_of_le_of_lt z0 (by decide)
     refine⟨.ref t,hv,t,_,2,.ref l2,rfl,rfl,.inl (.inl hH),rfl,l2,_,0,.ref a0,rfl,rfl,.inl (.inl tY),lF,oh h0,a0,xs0,.int 0,rfl,rfl,h0,hz0, ?_⟩;have u1:∀b,b≠a0->upd H a0 (.lst (xs0++[.int 0])) b=H b:=λb hb=>zE hb;have un:∀b,H b≠none->upd H a0 (.lst (xs0++[.int 0])) b≠none:=λb hb=>by
      by_cases z:b=a0
      . rw[z,zV];simp
      . rw[u1 b z];exact hb
     generalize upd H a0 (.lst (xs0++[.int 0]))=H1 at u1 un;obtain⟨R1,G1⟩:=R0.poke (H':=H1) (λc u hc hn=>by rw[u1 c λz=>hn (by rw[z];exact ta0)];exact hc) λa m=>un a (nz a m);refine⟨.ref t,hv,t,_,2,.ref l2,rfl,rfl,.inl (.inl (by rw[u1 t nt0];exact hH)),rfl,1,rfl,l2,_,rfl,.inl (.inl (by rw[u1 l2 nl2];exact tY)),λp hp=>?_⟩;rw[n9];have kp:∀b u,H1 b=some u->upd H1 p (.lst xs') b=some u:=λb u hb=>by rw[zE (yh hb hp)];exact hb
     obtain⟨R1m,gm⟩:=R1.hide.more kp;refine wb R1m hfr λv2 ad2 H2 R2 rv2 gr=>?_;have vw:=xh.vw R2 rv2 hvw;have GT2:Grow (Gw T ad0) H (Gw T ad2) H2:=⟨λb u hb n=>gr.keep b u (kp b u (by rw[u1 b λz=>n (.inl (by rw[z];exact ta0))];exact hb)) λz=>n (Gw.drop b z),λb z=>by
      rcases z with z|z
      . exact .inl (.inl z)
      . rcases gr.own b (.inr z)with y|y
        . exact .inl (Gw.drop b y)
        . refine .inr ?_;cases hb:H b with
          |none=>rfl
          |some u=>
           have:=un b (by rw[hb];simp);cases hb1:H1 b with
           |none=>exact absurd hb1 this
           |some u'=>rw[kp b u' hb1]at y;cases y⟩
     have kT2:∀a ∈ T,a≠a0->∀u,H a=some u->H2 a=some u:=λa m n u hb=>gr.keep a u (kp a u (by rw[u1 a n];exact hb)) (nG a m);have rowsH:=xt.grow GT2 (λa m u hb=>kT2 a (i2 a (zzD _ (zzL _ m))) (nB a m) u hb) rb;have hp2:H2 p=some (.lst xs'):=gr.keep p _ zV λz=>(R1.hide.gtr p z).1 hp;refine⟨λ_=>False,.lst (O.toDs rows),dx,.im (.bl false),(λ_ z=>z.elim),.lst (.inl (.inl hp2)) (X3 rowsH),vw.less (λ_ z=>z.elim),(show(xm 60 _ _).bind _=_ by rw[heq];rfl),λw H3 k3 rp=>?_⟩;cases rp;refine⟨false,rfl, ?_⟩;have GT:Grow (Gw T ad0) H (Gw T ad2) H3:=GT2.trans ⟨λb u hb _=>k3 b u hb,λb z=>.inl z⟩;have kT:∀a ∈ T,a≠a0->∀u,H a=some u->H3 a=some u:=λa m n u hb=>k3 a u (kT2 a m n u hb);have R3:=Rel.unhide R0.tnd (λa m z=>(R0.btr a z).2.2 (.inl m)) (R2.more k3).1;rw[zyE]at R3;have s4:=EK (xt.grow GT (λa m u hb=>kT a (i4 a (zzD _ m)) (n04 a (zzD _ m)) u hb) rr4) c4;have s5:=EK (xt.grow GT (λa m u hb=>kT a (i5 a (zzD _ m)) (n05 a (zzD _ m)) u hb) rr5) c5;have hH3:H3 t=some (.tup [w0,w1,.ref l2,w3,.ref l4,.ref l5]):=GT.keep t _ hH hNt;have hl43:=kT l4 (i4 l4 zzF) (n04 l4 zzF) _ hl4;have hl53:=kT l5 (i5 l5 zzF) (n05 l5 zzF) _ hl5;have ln:∀j,as1[j]? = some none->j<σ.length:=λj y=>by rw[<-R3.len];exact(zzG.mp y).1
     have vt:∀{σ':St}{H':Hp}{n:Nat},Hq [jn,jr,jv] σ σ'->RD (λa=>a ∈ T/\∃us,H3 a=some (.lst us)) n H3 H'->∀(c:Int) (w:V),Pk [w0,w1,V.ref l2,w3,.ref l4,.ref l5] c=some w->∀Q:VK,Q w H'->rQ (qU X.K) (vm i) (tC (.int c)) σ' H' Q:=λ{σ' H' n} hs hc c w ha Q hq=>
      ⟨.ref t,by rw[hs.2 i nis];exact hv,t,_,c,w,rfl,rfl,.inl (.inl (by rw[hc.1 t λm=>by obtain⟨us,y⟩:=m.2;rw[hH3]at y;cases y];exact hH3)),ha,hq⟩
     have tp2:∀{H':Hp}{a:Addr}{us:List V}{n:Nat},RD (λa=>a ∈ T/\∃us,H3 a=some (.lst us)) n H3 H'->H3 a=some (.tup us)->H' a=some (.tup us):=λ{H' a us n} hc ha=>by
      rw[hc.1 a λm=>by obtain⟨us,y⟩:=m.2;rw[ha]at y;cases y];exact ha
     refine nu (N:=1000) (g:=λa=>a ∈ g4/\∃us,H3 a=some (.lst us)) (js:=[jn,jr,jv]) (vt ⟨rfl,λ_ _=>rfl⟩ RD.refl 4 _ rfl) hl43 (λx m=>by obtain⟨a,w,r,z1,z2,z3,z4⟩:=s4 x m;exact⟨a,w,r,z1,z2,⟨z3,by obtain⟨us,y,_⟩:=z4;exact⟨us,y⟩⟩,z4⟩) (λz=>(zzW.mp n5).1 z.1) (λa z=>z.2) (by simp) (by simp) (ln jr y2) λσ4 H4 m4 ch4=>?_;have C4:=ch4.mono (S':=λa=>a ∈ T/\∃us,H3 a=some (.lst us)) λa z=>⟨i4 a (zzD _ z.1),z.2⟩;have e54:H4 l5=H3 l5:=ch4.1 l5 λz=>n45 l5 (zzD _ z.1) l5 zzF rfl;have gL:∀a,(∃us,H3 a=some (.lst us))->∃us,H4 a=some (.lst us):=λa z=>by
      obtain⟨us,y⟩:=z;obtain⟨us',y',_⟩:=ch4.2 a _ ⟨us,y,zzN _⟩;exact⟨us',y'⟩
     refine nt (g:=λa=>a ∈ g5/\∃us,H3 a=some (.lst us)) (js:=[jn,jr,jv]) (vt m4 C4 5 _ rfl) (by rw[e54];exact hl53) (by rw[QD rr5];exact z5) (λx m=>by obtain⟨a,w,r,z1,z2,z3,z4⟩:=s5 x m;exact⟨a,w,r,z1,tp2 C4 z2,⟨z3,by obtain⟨us,y,_⟩:=z4;exact⟨us,y⟩⟩,ch4.2 r _ z4⟩) (λz=>(zzW.mp n6).1 z.1) (λa z=>gL a z.2) (by simp) (by simp) (by rw[m4.1];exact ln jv y3) λσ5 H5 m5 ch5=>?_;have M5:=m4.trans m5;have C5:=C4.trans (ch5.mono (S':=λa=>a ∈ T/\∃us,H3 a=some (.lst us)) λa z=>⟨i5 a (zzD _ z.1),z.2⟩);obtain⟨us4,hl45,_⟩:=C5.2 l4 _ ⟨_,hl43,zzN _⟩;refine nS (g:=λa=>a ∈ T/\∃us,H3 a=some (.lst us)) (vt M5 C5 4 _ rfl) hl45 ⟨i4 l4 zzF,_,hl43⟩ λH6 ch6=>?_;have C6:=C5.trans ch6;obtain⟨R6,G6⟩:=R3.poke (H':=H6) (λc u hc hn=>by rw[C6.1 c λz=>hn z.1];exact hc) λa m z=>by
      by_cases hI:∃us,H3 a=some (.lst us)
      . obtain⟨us,y⟩:=hI;obtain⟨us',y',_⟩:=C6.2 a _ ⟨us,y,zzN _⟩;rw[z]at y';cases y'
      . rw[C6.1 a λy=>hI y.2]at z;exact(R3.gtr a (.inl m)).1 z
     have R7:=(R6.smv M5 λj m=>by
      rcases zzC.mp m with rfl|m
      . exact y1
      rcases zzC.mp m with rfl|m
      . exact y2
      . rw[zzR.mp m];exact y3).drop
     exact⟨F,B,_,_,o,R7,e9,q.pre (((gg0.trans GT).trans G6).trans (Grow.less Gw.drop))⟩)
end
section
variable{X:Cx}{kd:KD}{P:Program}{w:World}{K:zzA}{a b e o:Expr}{es:List Expr}{fa fb fo:EF}{fr:AF}{fd_:DF}{pos p apos:Pos}{k n:Nat}
theorem xW{N Ps:List Str}{sc:Scope}(h1:sc.kind = .function:=by rfl)(h2:sc.isCoroutine=false:=by rfl)(h3:sc.isGenerator=false:=by rfl)(h4:N.Nodup:=by decide +kernel)(h5:N.take Ps.length=Ps:=by rfl)(h6:∀x ∈ Ps,sc.names.lookup x=some .local\/sc.names.lookup x=some .cell:=by decide +kernel)(h7:∀y ∈ sc.names,y.2 ≠ .free:=by decide +kernel):FnScope N Ps sc:=⟨h1,h2,h3,h4,h5,h6,h7⟩
theorem bs{x qual:Str}{st:Stmt}{f:Addr}{fd:FuncData}{ps:List Str}(F:Fun K x qual st f fd)
 (h:∀(kV doc pm:Value) (an:Option Addr) (cdv ct:Value) (us:List Value),us.length=ps.length->bindArgs (PySem.W.fnOf x qual (Pn st) (Zv st) (ze st) .none kV doc pm an cdv ct) ⟨us,[]⟩=pure (ps.zip us):=by first|exact λ_ _ _ _ _ _=>m9 λ_=>rfl|exact λ_ _ _ _ _ _=>mZ λ_ _=>rfl|exact λ_ _ _ _ _ _=>lh λ_ _ _=>rfl|exact λ_ _ _ _ _ _=>lq λ_ _ _ _=>rfl|exact λ_ _ _ _ _ _=>mV λ_ _ _ _ _=>rfl|exact λ_ _ _ _ _ _=>l6_ λ_ _ _ _ _ _=>rfl):Binds K fd ps []:=F.binds h
theorem bc(ha:AE X kd a fa)(hr:AA X kd es fr)(hs:isStar a=false:=by rfl):AA X kd (a::es) (aC fa fr):=J8 ha hr (Kd hs)
theorem bd(ha:AE X kd a fa)(hr:AD X kd es fd_)(hs:isStar a=false:=by rfl):AD X kd (a::es) (dC fa fd_):=Df ha hr (Kd hs)
theorem bn{op:Operator}(ha:AE X kd a fa)(hb:AE X kd b fb):AE X kd (.BinOp a op b pos) (f2 fa fb (Wl op)):=su (uW op) ha hb
theorem tc{op:CmpOp}(hkd:xF P w K kd)(hr:Room k X.A)(ha:AE X kd a fa)(hb:AE X kd b fb)(h1:X.prog=P:=by rfl)(h2:X.w=w:=by rfl)(h3:X.K=K:=by rfl)(hm:behindInMarks op b=false:=by exact FR _):AT X kd (.Compare a [op] [b] pos) (fT (f2 fa fb (zw op))):=sJ (Vx (hkd _ h1 h2 h3) (QM hr) op) (NK op) ha hb hm
theorem ec{op:CmpOp}(hkd:xF P w K kd)(hr:Room k X.A)(ha:AE X kd a fa)(hb:AE X kd b fb)(h1:X.prog=P:=by rfl)(h2:X.w=w:=by rfl)(h3:X.K=K:=by rfl)(hm:behindInMarks op b=false:=by exact FR _):AE X kd (.Compare a [op] [b] pos) (f2 fa fb (zw op)):=u6 (Vx (hkd _ h1 h2 h3) (QM hr) op) ha hb hm
theorem ck{f:Addr}{fdt:FuncData}{ps:List Str}{gg:List (Bool×D)->Option O}{x:Str}(F:FnOk X.prog X.w X.K X.mg X.base Ko k f fdt ps (Jl X.K kd gg))(hr:Room n X.A)(hm:X.mg x=some (.ref f))(hk:PySem.W.keepIn X.K (.ref f)=true)
 (hb:Binds X.K fdt ps []) (ha:AA X kd (e::es) fr) (hn:k<=n:=by omega) (hg:Gl X x:=by rfl) (hdb:(x==("__debug__":Str))=false:=by decide) (he:starEach (e::es) X.env=(false,eval e X.env)::starEach es X.env:=by rfl) (hpl:(backTo pos (starEach es X.env)).any (·.1)=false:=by rfl):
 AE X kd (.Call (.Name x p) (e::es) [] pos) (zg fr gg):=Bn F (hr.mono hn) hg hm hk hb O5 ha hdb he hpl
theorem bi{id:String}{gg:List D->Option R0}{x:Str}(hc:vN X kd (.builtin id) gg)(hm:X.mg x=none)(hv:bootBuiltins x=some (.builtin id))(ha:AA X kd (e::es) fr)(hg:Gl X x:=by rfl)(hn:x≠"__name__":=by exact Bt.n _ rfl)(hdb:(x==("__debug__":Str))=false:=by decide)
 (he:starEach (e::es) X.env=(false,eval e X.env)::starEach es X.env:=by rfl) (hpl:(backTo pos (starEach es X.env)).any (·.1)=false:=by rfl):AE X kd (.Call (.Name x p) (e::es) [] pos) (fP fr gg):=tN hc hg hm hv ha hn hdb he hpl
theorem p8{T:String}{gg:List D->Option R0}{x:Str}(hc:vN X kd (.type T) gg)(hm:X.mg x=none)(hv:bootBuiltins x=some (.type T))(ha:AA X kd (e::es) fr)(hg:Gl X x:=by rfl)(hn:x≠"__name__":=by exact Bt.n _ rfl)(hdb:(x==("__debug__":Str))=false:=by decide)
 (he:starEach (e::es) X.env=(false,eval e X.env)::starEach es X.env:=by rfl) (hpl:(backTo pos (starEach es X.env)).any (·.1)=false:=by rfl):AE X kd (.Call (.Name x p) (e::es) [] pos) (fP fr gg):=sA hc hg hm hv ha hn hdb he hpl
theorem sj(i:Nat){z:Bool}{x:Str}{pos':Pos}{rest:List Stmt}{g:SF}(hN:X.N.Nodup)(he:AE X kd e fa)(h2:N6 X kd rest g)(hi:X.N[i]? = some x:=by rfl)(hx:Loc X.env.scope x:=by first|exact Or.inl rfl|exact Or.inr rfl)(hs:swapsWith e (some (.Name x pos')) pos.line X.env=pure false:=by rfl)(hf:X.fn x=true\/X.env.scope.names.lookup x=some .local:=by first|exact Or.inl rfl|exact Or.inr rfl):
 N6 X kd (.Assign [.Name x pos'] e pos::rest) (zh (zx z i fa) g):=yo (IZ hN hi hx he hs hf) h2
end
structure Co(x:Str)(P:Program)(w:World)(K:zzA)(mg:Str->Option Value)(base:Heap)(kd:KD)(k:Nat)(f:Addr)(d:FuncData)(ps:List Str)(gg:List (Bool×D)->Option O):Prop where
 F:FnOk P w K mg base Ko k f d ps (Jl K kd gg)
 m:mg x=some (.ref f)
 kp:PySem.W.keepIn K (.ref f)=true
 b:Binds K d ps []
def IA:List Str->List Str->List (Option Nat)->List Str
 |t::ts,XN,none::c=>t::IA ts XN c
 | [],XN,none::c=>""::IA [] XN c
 |ts,XN,some j::c=>XN.getD j ""::IA ts XN c
 |_,_,[]=>[]
def q8:Expr->Str
 | .Name x _=>x
 |_=>""
def D6:Expr->List Str
 | .Tuple es _ _=>es.map q8
 |e=>[q8 e]
def sL:Nat->List (Option Nat)->List Nat
 |_,[]=>[]
 |k,none::c=>k::sL (k+1) c
 |k,some _::c=>sL (k+1) c
theorem E2:∀(c d:List (Option Nat)) (i:Nat),i ∈ sL d.length c->(d++c)[i]? = some none
 | [],_,_,h=>nomatch h
 |none::c,d,i,h=>by
  have ih:=E2 c (d++[none]) i;rw[zzJ,zxA]at ih
  rcases zzC.mp (show i ∈ d.length::sL (d.length+1) c from h)with rfl|h
  . simp
  . exact ih h
 |some x::c,d,i,h=>by
  have ih:=E2 c (d++[some x]) i;rw[zzJ,zxA]at ih;exact ih h
theorem O3{cap:List (Option Nat)}:(sL 0 cap).all (λi=>cap[i]? == some none)=true:=List.all_eq_true.mpr λi m=>by
 have:=E2 cap [] i m;rw[List.nil_append]at this;rw[this];rfl
theorem lg{N:List Str}(h:decide N.Nodup=true):N.Nodup:=of_decide_eq_true h
section
variable{X:Cx}{kd:KD}{elt tg iter e:Expr}{es ifs:List Expr}{scope:Scope}{pos p:Pos}{cap:List (Option Nat)}{g:GF}{tt:TF}{fe:EF}{fi:IF}{S:List Nat}{fr:AF}{k n:Nat}
theorem cq{f:Addr}{d:FuncData}{ps:List Str}{gg:List (Bool×D)->Option O}{x:Str}(C:Co x X.prog X.w X.K X.mg X.base kd k f d ps gg)(hr:Room n X.A)(ha:AA X kd (e::es) fr)(hn:k<=n:=by omega)(hg:Gl X x:=by rfl)(hdb:(x==("__debug__":Str))=false:=by decide)(he:starEach (e::es) X.env=(false,eval e X.env)::starEach es X.env:=by rfl)(hpl:(backTo pos (starEach es X.env)).any (·.1)=false:=by rfl):
 AE X kd (.Call (.Name x p) (e::es) [] pos) (zg fr gg):=Bn C.F (hr.mono hn) hg C.m C.kp C.b O5 ha hdb he hpl
theorem mX{a:Expr}{i:Nat}{gs:O8}(h1:AG X kd a [i] g)(h2:DP X kd es S gs)(hs:(assignEach (a::es) X.env).map (·.2)=assign a X.env::(assignEach es X.env).map (·.2):=by rfl):DP X kd (a::es) (i::S) (xx g gs):=Mg h1 h2 hs
def rO(X:Cx)(kd:KD)(tg:Expr)(g:GF):Prop:=∃S,AG X kd tg S g
def Oc(X:Cx)(kd:KD)(es:List Expr)(gs:O8):Prop:=∃S,DP X kd es S gs
theorem nC(i:Nat){x:Str}(hN:X.N.Nodup)(hi:X.N[i]? = some x:=by rfl)(hx:Loc X.env.scope x:=by first|exact Or.inl rfl|exact Or.inr rfl)(hf:X.fn x=true\/X.env.scope.names.lookup x=some .local:=by first|exact Or.inl rfl|exact Or.inr rfl):rO X kd (.Name x pos) (gN i):=⟨_,BX hN hi hx hf⟩
theorem oG{gs:O8}{j m:Nat}(h:Oc X kd es gs)(hc:X.calm=true:=by rfl)(hn:(assignEach es X.env).length=m:=by rfl)(hst:(assignEach es X.env).findIdx? (·.1)=none:=by rfl):rO X kd (.Tuple es j pos) (gT m gs):=h.elim λ_ h=>⟨_,C7 hc h hn hst⟩
theorem oD{a:Expr}{gs:O8}(h1:rO X kd a g)(h2:Oc X kd es gs)(hs:(assignEach (a::es) X.env).map (·.2)=assign a X.env::(assignEach es X.env).map (·.2):=by rfl):Oc X kd (a::es) (xx g gs):=h1.elim λ_ h1=>h2.elim λ_ h2=>⟨_,Mg h1 h2 hs⟩
theorem nM:Oc X kd [] Pf:=⟨_,Sz⟩
theorem ll{body:List Stmt}{f:SF}(hi:AI X kd tg iter fi)(hg:rO X kd tg g)(hb:N6 X kd body f)(hp:PassesOwn (model X.prog X.w) X.A X.env X.xe:=by exact PassesOwn.never)(hc:X.calm=true:=by rfl)(hs:∀x,foldedSetIterable iter X.env x=pure x:=by exact λ_=>rfl):GN X kd (.For tg iter body [] pos) (vB fi g f):=hg.elim λ_ hg=>uD hp hc hi hg hb hs
theorem oR(he:AE X kd e fe)(hg:rO X kd tg g)(hs:swapsWithSole [tg] e pos.line X.env=pure false:=by rfl)(hw:swappedStores [tg] e X.env=pure none:=by rfl)(h1:(assignEach [tg] X.env).map (·.2)=[assign tg X.env]:=by rfl):GN X kd (.Assign [tg] e pos) (GJ fe g):=hg.elim λ_ hg=>uC he hg hs hw h1
theorem cm(hi:DQ X kd tg iter fi)(hg:∀cl s H fp,AG (yD X (IA (D6 tg) X.N cap) scope cl s H fp) kd tg (sL 0 cap) g)(ht:∀cl s H fp,HX (yD X (IA (D6 tg) X.N cap) scope cl s H fp) ifs (JE X.K kd tt))(he:∀cl s H fp,AE (yD X (IA (D6 tg) X.N cap) scope cl s H fp) kd elt fe)
 (hc:X.calm=true:=by rfl) (hk:scope.kind = .function:=by rfl) (hcap:W5 (IA (D6 tg) X.N cap) X.N scope.names X.env.scope.names cap=true:=by kernel_rfl) (hs:∀x,foldedSetIterable iter X.env x=pure x:=by exact λ_=>rfl):AE X kd (.ListComp elt [⟨tg,iter,ifs,0⟩] scope pos) (zq fi cap g tt fe):=QT hc hi hk hcap O3 hg ht he hs
theorem m8{z:Bool}{i:Nat}{y:Str}{py spos:Pos}(hN:X.N.Nodup)(hi:DQ X kd tg iter fi)(hg:∀cl s H fp,AG (yD X (IA (D6 tg) X.N cap) scope cl s H fp) kd tg (sL 0 cap) g)(ht:∀cl s H fp,HX (yD X (IA (D6 tg) X.N cap) scope cl s H fp) ifs (JE X.K kd tt))(he:∀cl s H fp,AE (yD X (IA (D6 tg) X.N cap) scope cl s H fp) kd elt fe)
 (hiy:X.N[i]? = some y:=by rfl) (hy:Loc X.env.scope y:=by first|exact Or.inl rfl|exact Or.inr rfl) (hf:X.fn y=true\/X.env.scope.names.lookup y=some .local:=by first|exact Or.inl rfl|exact Or.inr rfl) (hsw:swapsWith (.ListComp elt [⟨tg,iter,ifs,0⟩] scope pos) (some (.Name y py)) spos.line X.env=pure true:=by rfl)
 (hc:X.calm=true:=by rfl) (hk:scope.kind = .function:=by rfl) (hcap:W5 (IA (D6 tg) X.N cap) X.N scope.names X.env.scope.names cap=true:=by kernel_rfl) (hs:∀x,foldedSetIterable iter X.env x=pure x:=by exact λ_=>rfl):GN X kd (.Assign [.Name y py] (.ListComp elt [⟨tg,iter,ifs,0⟩] scope pos) spos) (zx z i (zq fi cap g tt fe)):=A9 hN hiy hy hf hsw hc hi hk hcap O3 hg ht he hs
end
end PF
end
section
namespace G15
open PySem PySem.Spec PyProof.Rows L2 PF
abbrev zk:EF:=fV 1
abbrev zU:EF:=fC (.int 0)
abbrev zf:EF:=fV 0
abbrev yd:EF:=fC (.int 2)
abbrev zC:EF:=fC (.int 1)
abbrev zz:EF:=fV 2
abbrev xj:EF:=fC (.int 4)
abbrev Vy:GF:=gN 4
abbrev zZ:EF:=fV 4
abbrev zG:EF:=fV 3
abbrev zP:GF:=gN 0
abbrev zd:=Wl .Add
abbrev vQ:EF:=fV 5
abbrev G0:EF:=fC (.int 5)
abbrev vc:EF:=fV 6
abbrev XT:EF:=fV 7
abbrev yK:EF:=fV 11
abbrev zm:=Wl .Mod
abbrev zy:=Wl .Mult
abbrev ZO:EF:=fC (.int 8)
abbrev zJ:=Wl .FloorDiv
abbrev xk:EF:=fC (.int 3)
abbrev wk:=Wl .Sub
abbrev XI:EF:=fC (.int 6)
abbrev wB:AF:=aC (fV 3) aN
abbrev yJ:AF:=aC (fV 0) aN
abbrev yG:AF:=aC (fV 1) aN
abbrev yT:AF:=aC (fV 2) aN
abbrev Ax:AF:=aC (fV 5) aN
abbrev qP:AF:=aC (fV 7) aN
abbrev EO:List Str:=["thing","names"]
theorem Ls:FnScope EO ["thing","names"] (ze V4):=xW
def Mv:SF:=
 (zI (Pj (Mt zf "str") (Pj (f2 zf (fC (.tup [(.str "a"),(.str "b"),(.str "c")])) (zw .In)) (f2 zf zk (zw .In)))))
def ED:Fn:=xD 2 2 Mv
abbrev W_:List Str:=["word"]
theorem XG:FnScope W_ ["word"] (ze wX):=xW
def W3:SF:=
 (zI (ye .dct (fC (.dct [(.inr "add",(.int 2)),(.inr "take",(.int 2)),(.inr "times",(.int 2)),(.inr "most",(.int 2)),(.inr "least",(.int 2)),(.inr "same",(.int 4))])) (aC zf (aC zU aN)) getP'))
def wM:Fn:=xD 1 1 W3
abbrev Mp:List Str:=["word","one","other"]
theorem Kb:FnScope Mp ["word","one","other"] (ze V6):=xW
def Mx:SF:=
 (zh (xX (fT (f2 zf (fC (.str "add")) (zw .Eq))) (zI (f2 zk zz zd)) wI)
  (zh (xX (fT (f2 zf (fC (.str "take")) (zw .Eq))) (zI (f2 zk zz wk)) wI)
  (zh (xX (fT (f2 zf (fC (.str "times")) (zw .Eq))) (zI (f2 zk zz zy)) wI)
  (zh (xX (fT (f2 zf (fC (.str "most")) (zw .Eq))) (zI (fP (aC zk yT) Jo)) wI)
  (zI (fP (aC zk yT) uS))))))
def Mu:Fn:=xD 3 3 Mx
abbrev Sy:List Str:=["term","n","numbers","word","one","other","chosen"]
theorem Xw:FnScope Sy ["term","n","numbers"] (ze PD):=xW
def Sq(self:Fn):SF:=
 (zh (zx true 3 (f2 zf zU zA))
  (zh (xX (fT (f2 zG (fC (.str "number")) (zw .Eq))) (zI (f2 (f2 zf zC zA) zk zm)) wI)
  (zh (xX (fT (f2 zG (fC (.str "name")) (zw .Eq))) (zI (f2 (f2 zz (f2 zf zC zA) zA) zk zm)) wI)
  (zh (zx true 4 (zg (aC (f2 zf zC zA) (aC zk yT)) self))
  (zh (zx true 5 (zg (aC (f2 zf yd zA) (aC zk yT)) self))
  (zh (xX (fT (f2 zG (fC (.str "same")) (zw .Eq))) (zh (zx true 6 (Gy (fT (f2 zZ vQ (zw .Eq))) (f2 zf xk zA) (f2 zf xj zA)))
  (zI (zg (aC vc (aC zk yT)) self))) wI)
  (zI (f2 (zg (aC zG (aC zZ Ax)) Mu) zk zm))))))))
def wd:Nat->Fn
 |0=>λ_=>none
 |n+1=>xD 7 3 (Sq (wd n))
abbrev Lh:List Str:=["thing"]
theorem P8:FnScope Lh ["thing"] (ze Wb):=xW
def KY:SF:=
 (zh (xX (vP (ZF (fT (Mt zf "str"))) (vP (fT (f2 (fP yJ yQ) zC (zw .Lt))) (fT (f2 (fP yJ yQ) ZO (zw .Gt))))) (zI (fC (.bl false))) wI)
  (zI (fP (aC (zq (IL zf) [none] zP zM (f2 zf (fC (.str "abcdefghijklmnopqrstuvwxyz")) (zw .In))) aN) Fp)))
def Uv:Fn:=xD 1 1 KY
abbrev Rm:List Str:=["row"]
theorem QW:FnScope Rm ["row"] (ze v_):=xW
def Pb:SF:=
 (zI (fP (aC (zq (yi (aC (f2 (fP yJ yQ) zC wk) aN) ym) [none,some 0] zP zM (f2 (f2 zk zf zA) (f2 zk (f2 zf zC zd) zA) (zw .Lt))) aN) Fp))
def Xq:Fn:=xD 1 1 Pb
abbrev Us:List Str:=["n","term"]
theorem FX:FnScope Us ["n","term"] (ze ZX):=xW
theorem N3:(["a","term","n"]:List Str).Nodup:=by decide +kernel
theorem Nd:(["b","term","n","a"]:List Str).Nodup:=by decide +kernel
def KQ:SF:=
 (zI (zq (yi yJ ym) [none,some 1,some 0] zP zM (zq (yi yT ym) [none,some 1,some 2,some 0] zP zM (zg (aC zk (aC zz (aC (CD [((fC (.str "a")),zG),((fC (.str "b")),zf)]) aN))) (wd 20)))))
def KM:Fn:=xD 2 2 KQ
abbrev Q8:List Str:=["n","m","term"]
theorem E3:FnScope Q8 ["n","m","term"] (ze Z0):=xW
theorem N1:(["c","term","n"]:List Str).Nodup:=by decide +kernel
theorem Nr:(["a","term","n","c"]:List Str).Nodup:=by decide +kernel
def Ka:SF:=
 (zI (zq (yi yG ym) [none,some 2,some 0] zP zM (zq (yi yT ym) [none,some 1,some 2,some 0] zP zM (zg (aC zk (aC zz (aC (CD [((fC (.str "a")),zf),((fC (.str "c")),zG)]) aN))) (wd 20)))))
def Kt:Fn:=xD 3 3 Ka
abbrev QZ:List Str:=["word","most"]
theorem WL:FnScope QZ ["word","most"] (ze vD):=xW
def V5:SF:=
 (zh (xX (vP (fT (f2 zf (fC (.str "")) (zw .Eq))) (fT (f2 (fP yJ yQ) zk (zw .Gt)))) (zI (fC (.bl false))) wI)
  (zh (xX (Xn (fT (f2 (f2 zf zU zA) (fC (.str "0")) (zw .Eq))) (fT (f2 zf (fC (.str "0")) (zw .NotEq)))) (zI (fC (.bl false))) wI)
  (zI (fP (aC (zq (IL zf) [none] zP zM (f2 zf (fC (.str "0123456789")) (zw .In))) aN) Fp))))
def wu:Fn:=xD 2 2 V5
abbrev Cf:List Str:=["word","within","names"]
theorem B9:FnScope Cf ["word","within","names"] (ze LK):=xW
def ON:SF:=
 (zh (xX (fT (f2 (zg yJ wM) zU (zw .Gt))) (zI (f2 zk (fC (.int 12)) (zw .Lt))) wI)
  (zI (mD (zg (aC zf (aC (fC (.int 60)) aN)) wu) (zg (aC zf yT) ED))))
def IQ:Fn:=xD 3 3 ON
abbrev WX:List Str:=["words","names","wanted","at","word"]
theorem Xs:FnScope WX ["words","names"] (ze wV):=xW
def W7:SF:=
 (zh (zx true 2 (yf (dC zU dN)))
  (zh (vB (pB zf) (gT 2 (xx (gN 3) (xx Vy Pf))) (zh (xX (vP (fT (f2 (fP yT yQ) zU (zw .Eq))) (ZF (fT (zg (aC zZ (aC (f2 zz zU zA) yG)) IQ)))) (zI zG) wI)
  (zh (zx true 2 (f2 (f2 (yf (dC (f2 (f2 zz zU zA) zC zd) dN)) (zg (aC zZ aN) wM) zy) (Ym zz (oS zC) oN Wk) zd))
  (xX (fT (f2 (f2 (f2 zG zC zd) (fP yT yQ) zd) (fC (.int 40)) (zw .Gt))) (zI zG) wI))))
  (zI (Gy (fT (f2 (fP yT yQ) zU (zw .Gt))) (fP yJ yQ) (fC .non)))))
def Wy:Fn:=xD 5 2 W7
abbrev KP:List Str:=["word"]
theorem Tj:FnScope KP ["word"] (ze Wj):=xW
def LB:SF:=
 (zh (xX (fT (zg (aC zf (aC (fC (.int 60)) aN)) wu)) (zI (yr (dC (fC (.str "number")) (dC (fP yJ UW) dN)))) wI)
  (zI (yr (dC (fC (.str "name")) (dC zf dN)))))
def Kq:Fn:=xD 1 1 LB
abbrev La:List Str:=["words","ready","word","many","term"]
theorem TV:FnScope La ["words"] (ze Wd):=xW
def Lc:SF:=
 (zh (zx true 1 (yf dN))
  (zh (vB (pL zf) (gN 2) (zh (zx true 3 (zg yT wM))
  (zh (zx true 4 (Gy (fT (f2 zG zU (zw .Eq))) (zg yT Kq) (fP (aC (f2 (yf (dC zz dN)) (Ym zk oN (oS zG) Wk) zd) aN) tupP)))
  (zx true 1 (f2 (yf (dC zZ dN)) (Ym zk (oS zG) oN Wk) zd)))))
  (zI (f2 zk zU zA))))
def Lr:Fn:=xD 5 1 Lc
abbrev RU:List Str:=["text","names","words","fault"]
theorem VP:FnScope RU ["text","names"] (ze Zu):=xW
def U3:SF:=
 (zh (zx true 2 (ye .str zf (aC (fC (.str " ")) aN) xZ))
  (zh (zx true 3 (zg (aC zz yG) Wy))
  (zh (xX (fT (f2 zG (fC .non) (zw .IsNot))) nA wI)
  (zI (zg yT Lr)))))
def UM:Fn:=xD 4 2 U3
abbrev Tr:List Str:=["row"]
theorem UC:FnScope Tr ["row"] (ze Yz):=xW
def Gi:SF:=
 (zI (ye .str (fC (.str " ")) (aC (zq (yB zf) [none] zP zM (fP yJ wF)) aN) xi))
def Vi:Fn:=xD 1 1 Gi
abbrev RH:List Str:=["rows"]
theorem QP:FnScope RH ["rows"] (ze v9):=xW
def Rr:SF:=
 (zI (f2 (fC (.str "rows ")) (ye .str (fC (.str ", ")) (aC (zq (yB zf) [none] zP zM (zg yJ Vi)) aN) xi) zd))
def va:Fn:=xD 1 1 Rr
abbrev Rx:List Str:=["name","values"]
theorem Qf:FnScope Rx ["name","values"] (ze Zg):=xW
def RF:SF:=
 (zI (ye .str (fC (.str " ")) (aC (f2 (yf (dC (fC (.str "sign")) (dC zf dN))) (zq (yB zk) [none] zP zM (fP yJ wF)) zd) aN) xi))
def Zd:Fn:=xD 2 2 RF
abbrev XZ:List Str:=["algebra","lines"]
theorem YW:FnScope XZ ["algebra"] (ze wa):=xW
def Xz:SF:=
 (zh (zx false 1 (yf (dC (f2 (f2 (f2 (fC (.str "values ")) (fP (aC (f2 zf zU zA) aN) wF) zd) (fC (.str " around ")) zd) (fP (aC (f2 zf zC zA) aN) wF) zd) dN)))
  (zh (ya (yt 1 (dC (f2 (fC (.str "join ")) (zg (aC (f2 zf yd zA) aN) va) zd) dN) yx))
  (zh (ya (yt 1 (dC (f2 (fC (.str "nothing ")) (fP (aC (f2 zf xk zA) aN) wF) zd) dN) yx))
  (zh (ya (yt 1 (dC (zq (yB (f2 zf xj zA)) [none,none] (gT 2 (xx zP (xx (gN 1) Pf))) zM (f2 (f2 (f2 (fC (.str "deed ")) zf zd) (fC (.str " ")) zd) (zg yG va) zd)) dN) Ml))
  (zh (ya (yt 1 (dC (zq (yB (f2 zf G0 zA)) [none,none] (gT 2 (xx zP (xx (gN 1) Pf))) zM (zg (aC zf yG) Zd)) dN) Ml))
  (zI (ye .str (fC (.str "\n")) yG xi)))))))
def wx:Fn:=xD 2 1 Xz
abbrev Vb:List Str:=["word","least","most","number"]
theorem vU:FnScope Vb ["word","least","most"] (ze wZ):=xW
def W8:SF:=
 (zh (xX (ZF (fT (zg (aC zf (aC (fC (.int 60)) aN)) wu))) (zI (fC .non)) wI)
  (zh (zx true 3 (fP yJ UW))
  (zI (Gy (fT (XX zk zG zz (zw .LtE) (zw .LtE))) zG (fC .non)))))
def y9:Fn:=xD 4 3 W8
abbrev Tv:List Str:=["words","n","row"]
theorem Rc:FnScope Tv ["words","n"] (ze YA):=xW
def Ge:SF:=
 (zh (zx false 2 (zq (yB zf) [none,some 1] zP zM (zg (aC zf (aC zU (aC (f2 zk zC wk) aN))) y9)))
  (zI (Gy (fT (f2 (fC .non) zz (zw .In))) (fC .non) zz)))
def vW:Fn:=xD 3 2 Ge
abbrev UN:List Str:=["text","many","n","rows"]
theorem QS:FnScope UN ["text","many","n"] (ze Zj):=xW
def UT:SF:=
 (zh (zx false 3 (zq (yB (ye .str zf (aC (fC (.str ", ")) aN) xZ)) [none,some 2] zP zM (zg (aC (ye .str zf (aC (fC (.str " ")) aN) xZ) yG) vW)))
  (zh (xX (vP (fT (f2 (fP wB yQ) zk (zw .NotEq))) (ZF (fT (fP (aC (zq (yB zG) [none,some 2] zP zM (Pj (f2 zf (fC .non) (zw .IsNot)) (f2 (fP yJ yQ) zk (zw .Eq)))) aN) Fp)))) (zI (fC .non)) wI)
  (zI zG)))
def Zs:Fn:=xD 4 3 UT
abbrev Z_:List Str:=["text","names"]
theorem Qk:FnScope Z_ ["text","names"] (ze xu):=xW
def ZV:SF:=
 (zI (zg (aC zf yG) UM))
def wJ:Fn:=xD 2 2 ZV
abbrev Zm:List Str:=["text","n","parts","term"]
theorem vS:FnScope Zm ["text","n"] (ze xf):=xW
def Zb:SF:=
 (zh (zx true 2 (ye .str zf (aC (fC (.str " ")) aN) Lw))
  (zh (xX (fT (f2 (f2 zz zU zA) (fC (.str "rows")) (zw .Eq))) (zI (zg (aC (f2 zz yd zA) (aC zk yG)) Zs)) wI)
  (zh (zx true 3 (zg (aC zf (aC (yf (dC (fC (.str "a")) (dC (fC (.str "b")) dN))) aN)) wJ))
  (zI (Gy (fT (f2 zG (fC .non) (zw .Is))) (fC .non) (zg (aC zk wB) KM))))))
def x9:Fn:=xD 4 2 Zb
abbrev Ze:List Str:=["text","n","m","parts","term"]
theorem vR:FnScope Ze ["text","n","m"] (ze xb):=xW
def Zf:SF:=
 (zh (zx true 3 (ye .str zf (aC (fC (.str " ")) aN) Lw))
  (zh (xX (fT (f2 (f2 zG zU zA) (fC (.str "rows")) (zw .Eq))) (zI (zg (aC (f2 zG yd zA) (aC zz yG)) Zs)) wI)
  (zh (zx true 4 (zg (aC zf (aC (yf (dC (fC (.str "a")) (dC (fC (.str "c")) dN))) aN)) wJ))
  (zI (Gy (fT (f2 zZ (fC .non) (zw .Is))) (fC .non) (zg (aC zk (aC zz (aC zZ aN))) Kt))))))
def wq:Fn:=xD 5 3 Zf
abbrev VG:List Str:=["line","words","n","m"]
theorem Wu:FnScope VG ["line"] (ze vI):=xW
def VR:SF:=
 (zh (zx true 1 (ye .str zf (aC (fC (.str " ")) aN) xZ))
  (zh (xX (vP (fT (f2 (fP yG yQ) xj (zw .NotEq))) (vP (fT (f2 (f2 zk zU zA) (fC (.str "values")) (zw .NotEq))) (fT (f2 (f2 zk yd zA) (fC (.str "around")) (zw .NotEq))))) (zI (fC .non)) wI)
  (zh (zx true 2 (zg (aC (f2 zk zC zA) (aC zC (aC ZO aN))) y9))
  (zh (zx true 3 (zg (aC (f2 zk xk zA) (aC zC (aC XI aN))) y9))
  (zI (Gy (vP (fT (f2 zz (fC .non) (zw .Is))) (fT (f2 zG (fC .non) (zw .Is)))) (fC .non) (yr (dC zz (dC zG dN)))))))))
def YC:Fn:=xD 4 1 VR
abbrev U9:List Str:=["line","n","parts"]
theorem QO:FnScope U9 ["line","n"] (ze Zt):=xW
def RI:SF:=
 (zh (zx true 2 (ye .str zf (aC (fC (.str " ")) aN) Lw))
  (zI (Gy (fT (f2 (f2 zz zU zA) (fC (.str "join")) (zw .Eq))) (zg (aC (f2 zz yd zA) yG) x9) (fC .non))))
def XS:Fn:=xD 3 2 RI
abbrev Xd:List Str:=["line","n","words"]
theorem Y1:FnScope Xd ["line","n"] (ze wy):=xW
def Xl:SF:=
 (zh (zx true 2 (ye .str zf (aC (fC (.str " ")) aN) xZ))
  (zh (xX (vP (fT (f2 (fP yT yQ) yd (zw .NotEq))) (fT (f2 (f2 zz zU zA) (fC (.str "nothing")) (zw .NotEq)))) (zI (fC .non)) wI)
  (zI (zg (aC (f2 zz zC zA) (aC zU (aC (f2 zk zC wk) aN))) y9))))
def vT:Fn:=xD 3 2 Xl
abbrev MS:List Str:=["name","told"]
theorem Kg:FnScope MS ["name","told"] (ze Qi):=xW
def Eb:SF:=
 (zI (Pj (zg yJ Uv) (f2 zf (zq (yB zk) [none] zP zM (f2 zf zU zA)) (zw .NotIn))))
def wj:Fn:=xD 2 2 Eb
abbrev UR:List Str:=["line","n","m","told","words","rows"]
theorem VQ:FnScope UR ["line","n","m","told"] (ze Zk):=xW
def RX:SF:=
 (zh (zx true 4 (ye .str zf (aC (fC (.str " ")) (aC yd aN)) OJ))
  (zh (xX (vP (fT (f2 (fP (aC zZ aN) yQ) xk (zw .NotEq))) (vP (ZF (fT (zg (aC (f2 zZ zC zA) wB) wj))) (fT (f2 (fP wB yQ) XI (zw .Eq))))) (zI (fC .non)) wI)
  (zh (zx false 5 (zg (aC (f2 zZ yd zA) (aC zk yT)) wq))
  (zI (Gy (fT (f2 vQ (fC .non) (zw .Is))) (fC .non) (yr (dC (f2 zZ zC zA) (dC (Jt 5) dN))))))))
def xT:Fn:=xD 6 4 RX
abbrev UF:List Str:=["line","n","told","words","values"]
theorem Qb:FnScope UF ["line","n","told"] (ze v7):=xW
def RZ:SF:=
 (zh (zx true 3 (ye .str zf (aC (fC (.str " ")) aN) xZ))
  (zh (xX (vP (fT (f2 (fP wB yQ) yd (zw .Lt))) (vP (fT (f2 (f2 zG zU zA) (fC (.str "sign")) (zw .NotEq))) (vP (ZF (fT (zg (aC (f2 zG zC zA) yT) wj))) (fT (f2 (fP yT yQ) xj (zw .Eq)))))) (zI (fC .non)) wI)
  (zh (zx false 4 (zg (aC (Ym zG (oS yd) oN Wk) yG) vW))
  (zI (Gy (vP (fT (f2 zZ (fC .non) (zw .Is))) (ZF (fT (zg (aC zZ aN) Xq)))) (fC .non) (yr (dC (f2 zG zC zA) (dC (Jt 4) dN))))))))
def xS:Fn:=xD 5 3 RZ
abbrev KR:List Str:=["lines","at"]
theorem Gj:FnScope KR ["lines","at"] (ze X1):=xW
def Lp:SF:=
 (zh (xX (fT (f2 zk (fP yJ yQ) (zw .Eq))) nA wI)
  (zI (f2 zf zk zA)))
def Wg:Fn:=xD 2 2 Lp
abbrev KC:List Str:=["thing","at"]
theorem Fj:FnScope KC ["thing","at"] (ze X4):=xW
abbrev Qr:List Str:=["lines","n","m","deeds","at"]
theorem Wx:FnScope Qr ["lines","n","m"] (ze vE):=xW
def Qg:SF:=
 (zh (zx false 3 (yf dN))
  (zh (vB (yi (aC xk (aC (fP yJ yQ) aN)) JC) Vy (zh (xX (ZF (fT (ye .str (f2 zf zZ zA) (aC (fC (.str "deed ")) aN) oi))) oK wI)
  (ya (yt 3 (dC (WK (dC (zg (aC (f2 zf zZ zA) (aC zk (aC zz wB))) xT) (dC zZ dN))) dN) yx))))
  (zI zG)))
def Yy:Fn:=xD 5 3 Qg
abbrev Qn:List Str:=["lines","start","n","signs","at"]
theorem Wz:FnScope Qn ["lines","start","n"] (ze vL):=xW
def VE:SF:=
 (zh (zx false 3 (yf dN))
  (zh (vB (yi (aC zk (aC (fP yJ yQ) aN)) JC) Vy (ya (yt 3 (dC (WK (dC (zg (aC (f2 zf zZ zA) (aC zz wB)) xS) (dC zZ dN))) dN) yx)))
  (zI zG)))
def Yx:Fn:=xD 5 3 VE
abbrev XB:List Str:=["text","lines","sizes","n","m","join","nothing","deeds","signs"]
theorem Y2:FnScope XB ["text"] (ze we):=xW
def Xv:SF:=
 (zh (zx true 1 (ye .str zf (aC (fC (.str "\n")) aN) xZ))
  (zh (zx true 2 (WK (dC (zg (aC (f2 zk zU zA) aN) YC) (dC zU dN))))
  (zh (zx true 3 (f2 zz zU zA))
  (zh (zx true 4 (f2 zz zC zA))
  (zh (zx false 5 (WK (dC (zg (aC (zg (aC zk (aC zC aN)) Wg) wB) XS) (dC zC dN))))
  (zh (zx true 6 (WK (dC (zg (aC (zg (aC zk (aC yd aN)) Wg) wB) vT) (dC yd dN))))
  (zh (zx false 7 (zg (aC zk (aC zG (aC zZ aN))) Yy))
  (zh (zx false 8 (zg (aC zk (aC (f2 xk (fP qP yQ) zd) wB)) Yx))
  (zI (yr (dC zG (dC zZ (dC (Jt 5) (dC vc (dC (Jt 7) (dC (Jt 8) dN))))))))))))))))
def wc:Fn:=xD 9 1 Xv
abbrev WQ:List Str:=["_law_script","_law_k"]
theorem Xj:FnScope WQ ["_law_script","_law_k"] (ze wQ):=xW
def WU:SF:=
 (zh (xX (fT (f2 zk (fP yJ yQ) (zw .Lt))) (zI (f2 zf zk zA)) wI)
  (zI zU))
def yw:Fn:=xD 2 2 WU
abbrev VC:List Str:=["_law_cell","_law_many","_law_found","_law_number","_law_k"]
theorem Ws:FnScope VC ["_law_cell","_law_many"] (ze vK):=xW
def VX:SF:=
 (zh (zx false 2 (yf dN))
  (zh (zx true 3 (f2 (f2 zf (fC (.int 2147483647)) zm) (fC (.int 48271)) zd))
  (zh (vB (yi (aC (f2 zk zC zd) aN) ym) Vy (zh (zx true 3 (f2 (f2 (f2 (f2 zG zG zy) (f2 (fC (.int 48271)) zG zy) zd) zZ zd) (fC (.int 2147483647)) zm))
  (ya (yt 2 (dC (f2 (f2 (f2 zG (fC (.int 40692)) zy) (f2 (fC (.int 7)) zZ zy) zd) (fC (.int 2147483399)) zm) dN) yx))))
  (zI (Ym zz (oS zC) oN Wk)))))
def yk:Fn:=xD 5 2 VX
abbrev U_:List Str:=["_law_cell","_law_many","_law_letters","_law_xs","_law_base","_law_at","_law_found","_law_k"]
theorem V8:FnScope U_ ["_law_cell","_law_many"] (ze Zo):=xW
def U5:SF:=
 (zh (zx true 2 (fC (.str "abcdefghijklmnopqrstuvwxyz")))
  (zh (zx true 3 (zg (aC zf (aC (fC (.int 9)) aN)) yk))
  (zh (zx true 4 (ye .str (fC (.str "")) (aC (zq (yB (Ym zG oN (oS (f2 zC (f2 zf ZO zm) zd)) Wk)) [none,some 2] zP zM (f2 zk (f2 zf (fC (.int 26)) zm) zA)) aN) xi))
  (zh (zx true 5 (f2 (f2 zf ZO zJ) (fP (aC zZ aN) yQ) zm))
  (zh (zx false 6 (yf dN))
  (zh (vB (yi yG ym) (gN 7) (ya (yt 6 (dC (f2 (f2 (Ym zZ oN (oS vQ) Cv) (f2 zz (f2 (f2 (f2 zG ZO zA) (f2 xk XT zy) zd) (fC (.int 26)) zm) zA) zd) (Ym zZ (oS (f2 vQ zC zd)) oN Cv) zd) dN) yx)))
  (zI vc)))))))
def XQ:Fn:=xD 8 2 U5
abbrev WW:List Str:=["_law_one","_law_other"]
theorem Xf:FnScope WW ["_law_one","_law_other"] (ze wL):=xW
def Wp:SF:=
 (zh (Jh (fT (f2 zk zU (zw .Gt))) (Ja 0 1 (dC zk (dC (f2 zf zk zm) dN))) 10000)
  (zI zf))
def ZS:Fn:=xD 2 2 Wp
abbrev PR:List Str:=["_law_n","_law_m","_law_xs","_law_step","_law_rows_here","_law_c"]
theorem UE:FnScope PR ["_law_n","_law_m","_law_xs"] (ze YF):=xW
def TX:SF:=
 (zh (zx true 3 (f2 zf (zg (aC zf yG) ZS) zJ))
  (zh (zx false 4 (yf dN))
  (zh (vB (yi yG ym) (gN 5) (ya (yt 4 (dC (zq (yi yJ ym) [none,some 0,some 2,some 5,some 3] zP zM (f2 (f2 (f2 zf (f2 zz zU zA) zy) (f2 (f2 zG zZ zy) (f2 zz zC zA) zy) zd) zk zm)) dN) yx)))
  (zI zZ))))
def Vv:Fn:=xD 6 3 TX
abbrev QQ:List Str:=["_law_n","_law_m","_law_xs","_law_row"]
theorem WC:FnScope QQ ["_law_n","_law_m","_law_xs"] (ze vH):=xW
def QI:SF:=
 (zh (zx false 3 (fP (aC (f2 (yf (dC zU dN)) (zq (yi (aC (f2 zf zC wk) aN) ym) [none,some 0,some 2] zP zM (f2 (f2 zz zf zA) zk zm)) zd) aN) Oo))
  (zh (IT 3 (xC 0) (xC 0))
  (zI (zq (yi yG ym) [none,some 3] zP zM (fP yG lstP)))))
def YS:Fn:=xD 4 3 QI
abbrev PJ:List Str:=["_law_n","_law_m","_law_xs","_law_row"]
theorem Re:FnScope PJ ["_law_n","_law_m","_law_xs"] (ze YQ):=xW
def TR:SF:=
 (zh (zx true 3 (f2 (yf (dC zU dN)) (zq (yi (aC (f2 zf zC wk) aN) ym) [none,some 2,some 0] zP zM (f2 zC (f2 (f2 zk zf zA) (f2 zz zC wk) zm) zd)) zd))
  (zI (zq (yi yG ym) [none,some 3] zP zM (fP yG lstP))))
def VA:Fn:=xD 4 3 TR
abbrev U2:List Str:=["_law_kind","_law_n","_law_maps"]
theorem QC:FnScope U2 ["_law_kind","_law_n"] (ze Zl):=xW
def Pe:SF:=
 (zh (xX (fT (f2 zf zU (zw .Eq))) (zI (zq (yi yG ym) [none,some 1] zP zM (zq (yi yG ym) [none,some 1,some 0] zP zM (f2 (f2 zz zf zd) zk zm)))) wI)
  (zh (xX (fT (f2 zf zC (zw .Eq))) (zI (zq (yi yG ym) [none,some 1] zP zM (zq (yi yG ym) [none,some 0] zP zM (fP (aC zk yJ) Jo)))) wI)
  (zh (xX (fT (f2 zf yd (zw .Eq))) (zI (zq (yi yG ym) [none,some 1] zP zM (zq (yi yG ym) [none,some 0] zP zM (f2 (yf (dC zf (dC zk dN))) (fP (aC (f2 zf zU (zw .Eq)) aN) UW) zA)))) wI)
  (zh (xX (fT (f2 zf xk (zw .Eq))) (zI (zq (yi yG ym) [none,some 1] zP zM (zq (yi yG ym) [none,some 0] zP zM (f2 (yf (dC zk (dC zf dN))) (fP (aC (f2 zk zU (zw .Eq)) aN) UW) zA)))) wI)
  (zh (zx true 2 (yf (dC (yr (dC zU (dC zC dN))) (dC (yr (dC zC (dC zU dN))) (dC (yr (dC zU (dC zU dN))) (dC (yr (dC zC (dC zC dN))) dN))))))
  (zI (zq (yB zz) [none,some 2] zP zM (zq (yB zk) [none,some 1,some 0] zP zM (ye .lst zk (aC (yr (dC (f2 zf (f2 zz zU zA) zA) (dC (f2 zf (f2 zz zC zA) zA) dN))) aN) X0)))))))))
def Zp:Fn:=xD 3 2 Pe
abbrev TK:List Str:=["_law_kind","_law_n","_law_m","_law_xs"]
theorem U0:FnScope TK ["_law_kind","_law_n","_law_m","_law_xs"] (ze YM):=xW
def GE:SF:=
 (zh (xX (fT (f2 zf zU (zw .Eq))) (zI (zg (aC zk (aC zz wB)) Vv)) wI)
  (zh (xX (fT (f2 zf zC (zw .Eq))) (zI (zg (aC zk (aC zz wB)) YS)) wI)
  (zh (xX (fT (f2 zf xj (zw .Lt))) (zI (zg (aC zk (aC zz wB)) VA)) wI)
  (zI (zq (yi yT ym) [none,some 3] zP zM (f2 (yf (dC (yf (dC zU (dC zC (dC yd (dC xk dN))))) (dC (yf (dC zU (dC zC (dC xk (dC yd dN))))) dN))) (f2 (f2 zk zU zA) yd zm) zA))))))
def Yp:Fn:=xD 4 4 GE
abbrev Ra:List Str:=["_law_kind","_law_n","_law_m","_law_many","_law_cell","_law_rows_here"]
theorem QR:FnScope Ra ["_law_kind","_law_n","_law_m","_law_many","_law_cell"] (ze Za):=xW
def Rn:SF:=
 (zh (zx true 5 (zq (yi wB ym) [none,some 0,some 1,some 2,some 4] zP zM (zg (aC zk (aC zz (aC zG (aC (zg (aC (f2 zZ (f2 (fC (.int 31)) zf zy) zd) (aC (fC (.int 9)) aN)) yk) aN)))) Yp)))
  (zI (yr (dC zk (dC (zg (aC zf yG) Zp) (dC vQ dN))))))
def xU:Fn:=xD 6 5 Rn
abbrev Qo:List Str:=["_law_one","_law_other","_law_m","_law_n","_law_by","_law_join","_law_p","_law_here","_law_there","_law_deeds","_law_rows_here","_law_c","_law_made_here","_law_ahead"]
theorem Vd:FnScope Qo ["_law_one","_law_other","_law_m"] (ze vJ):=xW
def VS:SF:=
 (zh (zx true 3 (f2 (f2 zf zU zA) (f2 zk zU zA) zy))
  (zh (zx true 4 (f2 zk zU zA))
  (zh (zx false 5 (yf dN))
  (zh (vB (yi wB ym) (gN 6) (zh (zx true 7 (f2 (f2 zf zC zA) (f2 vc zZ zJ) zA))
  (zh (zx true 8 (f2 (f2 zk zC zA) (f2 vc zZ zm) zA))
  (ya (yt 5 (dC (zq (yi wB ym) [none,some 4,some 8,some 7] zP zM (f2 (f2 (f2 zG (f2 zf zk zJ) zA) zk zy) (f2 zz (f2 zf zk zm) zA) zd)) dN) yx)))))
  (zh (zx false 9 (yf dN))
  (zh (vB (HW (aC (f2 zf yd zA) (aC (f2 zk yd zA) aN))) (gT 2 (xx (gN 7) (xx (gN 8) Pf))) (zh (zx false 10 (yf dN))
  (zh (vB (yi yT ym) (gN 11) (zh (zx false 12 (yf dN))
  (zh (vB (yi wB ym) (gN 6) (zh (zx true 13 (f2 (f2 (f2 XT yK zA) (f2 vc zZ zJ) zA) zZ zy))
  (ya (yt 12 (dC (f2 (fV 13) (f2 (f2 (fV 8) yK zA) (f2 vc zZ zm) zA) zd) dN) yx))))
  (ya (yt 10 (dC (fV 12) dN) yx)))))
  (ya (yt 9 (dC (fV 10) dN) yx)))))
  (zI (yr (dC zG (dC vQ (dC (fV 9) dN)))))))))))
def YU:Fn:=xD 14 3 VS
abbrev Gm:List Str:=["_law_cell","_law_m","_law_many","_law_xs","_law_kind","_law_sizes","_law_one","_law_n"]
theorem RB:FnScope Gm ["_law_cell","_law_m","_law_many"] (ze YV):=xW
def Tw:SF:=
 (zh (zx true 3 (zg (aC zf (aC G0 aN)) yk))
  (zh (zx true 4 (f2 (f2 zG zU zA) (fC (.int 7)) zm))
  (zh (xX (fT (f2 zZ xj (zw .Gt))) (zh (zx true 5 (f2 (yf (dC (yr (dC yd (dC yd dN))) (dC (yr (dC xk (dC yd dN))) (dC (yr (dC yd (dC xk dN))) (dC (yr (dC xj (dC yd dN))) (dC (yr (dC yd (dC xj dN))) (dC (yr (dC yd (dC yd dN))) dN))))))) (f2 (f2 zG zC zA) XI zm) zA))
  (zh (zx true 6 (zg (aC (f2 (f2 zG yd zA) xj zm) (aC (f2 vQ zU zA) (aC zk (aC zz (aC (f2 zG xk zA) aN))))) xU))
  (zI (zg (aC vc (aC (zg (aC (f2 (f2 zG xj zA) xj zm) (aC (f2 vQ zC zA) (aC zk (aC zz (aC (f2 (f2 zG xk zA) (fC (.int 7)) zd) aN))))) xU) yG)) YU)))) wI)
  (zh (zx true 7 (f2 (yf (dC yd (dC xk (dC xj (dC G0 (dC xk (dC xj (dC XI (dC ZO dN))))))))) (f2 (f2 zG zC zA) ZO zm) zA))
  (zh (xX (Xn (fT (f2 zZ zU (zw .Eq))) (fT (f2 (f2 (f2 zG yd zA) (fC (.int 9)) zm) zU (zw .Eq)))) (zx true 7 zC) wI)
  (zh (xX (fT (f2 zZ xj (zw .Eq))) (zx true 7 xj) wI)
  (zI (zg (aC zZ (aC XT (aC zk (aC zz (aC (f2 zG xk zA) aN))))) xU))))))))
def Vl:Fn:=xD 8 3 Tw
abbrev US:List Str:=["_law_cell","_law_n","_law_left","_law_found","_law_x"]
theorem Qp:FnScope US ["_law_cell","_law_n"] (ze v3):=xW
def UO:SF:=
 (zh (zx false 2 (fP yG oZ))
  (zh (zx false 3 (yf dN))
  (zh (vB (Ej (zg (aC zf yG) yk)) Vy (ya (yt 3 (dC (yt 2 (dC (f2 zZ (fP yT yQ) zm) dN) Xr) dN) yx)))
  (zI zG))))
def Xa:Fn:=xD 5 2 UO
abbrev U7:List Str:=["_law_cell","_law_n","_law_names_here","_law_signs_here","_law_x","_law_name"]
theorem Q0:FnScope U7 ["_law_cell","_law_n","_law_names_here"] (ze Zr):=xW
def RS:SF:=
 (zh (zx false 3 (yf dN))
  (zh (vB (HW (aC (zg (aC zf (aC (fP yT yQ) aN)) yk) yT)) (gT 2 (xx Vy (xx (gN 5) Pf))) (ya (yt 3 (dC (yr (dC vQ (dC (zq (yi yG ym) [none,some 4] zP (fT (f2 (f2 (f2 zk (f2 (yf (dC zC (dC yd (dC xj (dC ZO (dC (fC (.int 16)) (dC (fC (.int 32)) (dC (fC (.int 64)) (dC (fC (.int 128)) dN))))))))) zf zA) zJ) yd zm) zC (zw .Eq))) zf) dN))) dN) yx)))
  (zI zG)))
def Zh:Fn:=xD 6 3 RS
abbrev Va:List Str:=["_law_cell","_law_other","_law_ys","_law_m","_law_many","_law_n","_law_join","_law_deeds","_law_order_here","_law_back","_law_joins_here","_law_names_here","_law_told","_law_name","_law_rows_here","_law_signs_here"]
theorem Xu:FnScope Va ["_law_cell","_law_other"] (ze wU):=xW
def Vc:SF:=
 (zh (zx true 2 (zg (aC zk (aC XI aN)) yk))
  (zh (zx true 3 (f2 zC (f2 (f2 zz zU zA) XI zm) zd))
  (zh (xX (fT (f2 (f2 (f2 (f2 zz zU zA) XI zJ) yd zm) zU (zw .Eq))) (zx true 3 (f2 zC (f2 (f2 (f2 zz zU zA) (fC (.int 12)) zJ) xk zm) zd)) wI)
  (zh (zx true 4 (f2 (yf (dC zC (dC yd (dC zU (dC xj (dC xk (dC yd (dC XI (dC G0 dN))))))))) (f2 (f2 zz zC zA) ZO zm) zA))
  (zh (xX (fT (f2 zZ xk (zw .Gt))) (zx true 3 (f2 zC (f2 zG yd zm) zd)) wI)
  (zh (GJ (zg (aC zf (aC zG (aC zZ aN))) Vl) (gT 3 (xx (gN 5) (xx (gN 6) (xx (gN 7) Pf)))))
  (zh (zx true 8 (zg (aC (f2 zz yd zA) Ax) Xa))
  (zh (zx true 9 (zq (yi Ax ym) [none,some 8] zP zM (ye .lst zk yJ X0)))
  (zh (zx true 10 (zq (yi Ax ym) [none,some 8,some 5,some 6,some 9] zP zM (zq (yi yT ym) [none,some 1,some 3,some 4,some 0] zP zM (f2 zk (f2 (f2 zz (f2 zG zZ zA) zA) (f2 zG zf zA) zA) zA))))
  (zh (zx true 11 (zg (aC (f2 zz xk zA) (aC (fC (.int 10)) aN)) XQ))
  (zh (zx false 12 (yf dN))
  (zh (vB (HW (aC (Ym yK oN (oS XI) Wk) qP)) (gT 2 (xx (gN 13) (xx (gN 14) Pf))) (ya (yt 12 (dC (yr (dC (fV 13) (dC (zq (yB (fV 14)) [none,some 8,some 5,some 9] zP zM (zq (yi yT ym) [none,some 1,some 0,some 3] zP zM (f2 zk (f2 zz (f2 zG zf zA) zA) zA))) dN))) dN) yx)))
  (zh (zx true 15 (zg (aC (f2 zz xj zA) (aC vQ (aC (Ym yK (oS XI) (oS (f2 XI (f2 (yf (dC zC (dC yd (dC zC (dC xj (dC zU (dC yd (dC xk (dC zC dN))))))))) (f2 (f2 zz G0 zA) ZO zm) zA) zd)) Wk) aN))) Zh))
  (zI (yr (dC vQ (dC zG (dC (fV 10) (dC (f2 (fV 8) zU zA) (dC (fV 12) (dC (fV 15) dN)))))))))))))))))))))
def wY:Fn:=xD 16 2 Vc
abbrev Gg:List Str:=["_law_algebra_here","_law_cell","_law_n","_law_m","_law_join","_law_nothing","_law_deeds","_law_signs_here","_law_xs","_law_joins_here","_law_told","_law_way","_law_rows_here"]
theorem vb:FnScope Gg ["_law_algebra_here","_law_cell"] (ze Yu):=xW
def Tn:SF:=
 (zh (GJ zf (gT 6 (xx (gN 2) (xx (gN 3) (xx Vy (xx (gN 5) (xx (gN 6) (xx (gN 7) Pf))))))))
  (zh (zx true 8 (zg (aC zk (aC ZO aN)) yk))
  (zh (zx false 9 (zq (yB zZ) [none] zP zM (fP yJ lstP)))
  (zh (zx false 10 (zq (yB vc) [none,none] (gT 2 (xx zP (xx (gN 1) Pf))) zM (yr (dC zf (dC (zq (yB zk) [none] zP zM (fP yJ lstP)) dN)))))
  (zh (zx true 11 (f2 (f2 (fV 8) zU zA) XI zm))
  (zh (xX (fT (f2 yK zU (zw .Eq))) (zx true 5 (f2 (f2 (fV 8) zC zA) zz zm)) wI)
  (zh (xX (vP (fT (f2 yK zC (zw .Eq))) (fT (f2 yK yd (zw .Eq)))) (MC 9 (XU (Eg 8 (xC 2)) (xV 2)) (XU (Eg 8 (xC 3)) (xV 2)) (XU (Eg 8 (xC 4)) (xV 2))) wI)
  (zh (xX (Xn (fT (f2 yK yd (zw .Gt))) (fT (f2 (fV 10) (yf dN) (zw .NotEq)))) (CM 12 10 (XU (Eg 8 (xC 5)) (Io 10)) 1 (XU (Eg 8 (xC 6)) (xV 3)) (XU (Eg 8 (xC 7)) (xV 2)) (XU (Eg 8 (xC 4)) (xV 2))) wI)
  (zI (yr (dC zz (dC zG (dC (fV 9) (dC vQ (dC (fV 10) (dC XT dN))))))))))))))))
def Vo:Fn:=xD 13 2 Tn
abbrev VD:List Str:=["_law_cell","_law_base","_law_many","_law_found","_law_k"]
theorem Vg:FnScope VD ["_law_cell","_law_base","_law_many"] (ze vF):=xW
def QB:SF:=
 (zh (zx false 3 (yf dN))
  (zh (vB (yi yT ym) Vy (zh (ya (yt 3 (dC (f2 zf zk zm) dN) yx))
  (zx true 0 (f2 zf zk zJ))))
  (zI zG)))
def Yr:Fn:=xD 5 3 QB
abbrev Y5:List Str:=["_law_algebra_here","_law_cell","_law_n","_law_m","_law_join","_law_nothing","_law_deeds","_law_signs_here","_law_digits_here","_law_joins_here","_law_told","_law_k","_law_at"]
theorem Z1:FnScope Y5 ["_law_algebra_here","_law_cell"] (ze xI):=xW
def YZ:SF:=
 (zh (GJ zf (gT 6 (xx (gN 2) (xx (gN 3) (xx Vy (xx (gN 5) (xx (gN 6) (xx (gN 7) Pf))))))))
  (zh (zx true 8 (zg (aC zk (aC zz (aC (f2 (f2 zC (f2 zz zz zy) zd) (f2 (f2 zz zG zy) (fP (aC vc aN) yQ) zy) zd) aN))) Yr))
  (zh (zx true 9 (zq (yi yT ym) [none,some 8,some 2] zP zM (Ym zk (oS (f2 zC (f2 zz zf zy) zd)) (oS (f2 (f2 zC (f2 zz zf zy) zd) zz zd)) Wk)))
  (zh (zx false 10 (yf dN))
  (zh (vB (yi (aC (fP (aC vc aN) yQ) aN) ym) (gN 11) (zh (zx true 12 (f2 (f2 zC (f2 zz zz zy) zd) (f2 (f2 zz zG zy) yK zy) zd))
  (ya (yt 10 (dC (yr (dC (f2 (f2 vc yK zA) zU zA) (dC (zq (yi wB ym) [none,some 8,some 12,some 2] zP zM (Ym zk (oS (f2 zz (f2 zG zf zy) zd)) (oS (f2 (f2 zz (f2 zG zf zy) zd) zG zd)) Wk)) dN))) dN) yx))))
  (zI (yr (dC zz (dC zG (dC (fV 9) (dC (f2 (fV 8) zU zA) (dC (fV 10) (dC XT dN)))))))))))))
def vv:Fn:=xD 13 2 YZ
abbrev K2:List Str:=["_law_script","_law_cell","_law_algebra_here"]
theorem GB:FnScope K2 ["_law_script"] (ze Wa):=xW
def K4:SF:=
 (zh (zx true 1 (zg (aC zf (aC yd aN)) yw))
  (zh (zx true 2 (zg (aC (zg (aC zf (aC zU aN)) yw) (aC (zg (aC zf (aC zC aN)) yw) aN)) wY))
  (zh (xX (fT (f2 (f2 zk yd zm) zC (zw .Eq))) (zI (zg (aC zz (aC (f2 zk yd zJ) aN)) vv)) wI)
  (zI (zg (aC zz (aC (f2 zk yd zJ) aN)) Vo)))))
def Q_:Fn:=xD 3 1 K4
abbrev Yi:List Str:=["_law_rows_here"]
theorem Zi:FnScope Yi ["_law_rows_here"] (ze xq):=xW
def Z7:SF:=
 (zI (ye .str (fC (.str ", ")) (aC (zq (yB zf) [none] zP zM (ye .str (fC (.str " ")) (aC (zq (yB zf) [none] zP zM (fP yJ wF)) aN) xi)) aN) xi))
def yM:Fn:=xD 1 1 Z7
abbrev UD:List Str:=["_law_algebra_here","_law_n","_law_m","_law_join","_law_nothing","_law_deeds","_law_signs_here","_law_lines_here","_law_name","_law_rows_here","_law_values"]
theorem QA:FnScope UD ["_law_algebra_here"] (ze vZ):=xW
def RN:SF:=
 (zh (GJ zf (gT 6 (xx (gN 1) (xx (gN 2) (xx (gN 3) (xx Vy (xx (gN 5) (xx (gN 6) Pf))))))))
  (zh (zx false 7 (yf (dC (f2 (f2 (f2 (fC (.str "values ")) (fP yG wF) zd) (fC (.str " around ")) zd) (fP yT wF) zd) (dC (f2 (fC (.str "join rows ")) (zg wB yM) zd) (dC (f2 (fC (.str "nothing ")) (fP (aC zZ aN) wF) zd) dN)))))
  (zh (vB (Ej vQ) (gT 2 (xx (gN 8) (xx (gN 9) Pf))) (ya (yt 7 (dC (f2 (f2 (f2 (fC (.str "deed ")) (fV 8) zd) (fC (.str " rows ")) zd) (zg (aC (fV 9) aN) yM) zd) dN) yx)))
  (zh (vB (Ej vc) (gT 2 (xx (gN 8) (xx (gN 10) Pf))) (ya (yt 7 (dC (ye .str (fC (.str " ")) (aC (f2 (yf (dC (f2 (fC (.str "sign ")) (fV 8) zd) dN)) (zq (yB (fV 10)) [none] zP zM (fP yJ wF)) zd) aN) xi) dN) yx)))
  (zI XT)))))
def ZD:Fn:=xD 11 1 RN
abbrev WY:List Str:=["_law_algebra_here","_law_cell","_law_n","_law_m","_law_join","_law_nothing","_law_deeds","_law_signs_here","_law_name"]
theorem Xi:FnScope WY ["_law_algebra_here","_law_cell"] (ze wN):=xW
def W4:SF:=
 (zh (GJ zf (gT 6 (xx (gN 2) (xx (gN 3) (xx Vy (xx (gN 5) (xx (gN 6) (xx (gN 7) Pf))))))))
  (zh (zx true 8 (f2 (yf (dC (fC (.str "rows")) (dC (fC (.str "join")) (dC (fC (.str "deed")) (dC (fC (.str "sign")) (dC (fC (.str "values")) (dC (fC (.str "nothing")) (dC (fC (.str "around")) (dC (fC (.str "a")) dN))))))))) (f2 (f2 zk xj zJ) ZO zm) zA))
  (zh (xX (Xn (fT (f2 (f2 zk xj zm) zC (zw .Eq))) (fT (f2 vc (yf dN) (zw .NotEq)))) (zx true 6 (f2 (yf (dC (yr (dC (fV 8) (dC (f2 (f2 vc zU zA) zC zA) dN))) dN)) (zq (yB (Ym vc (oS zC) oN Wk)) [none,some 8] zP (fT (f2 (f2 zf zU zA) zk (zw .NotEq))) zf) zd)) wI)
  (zh (xX (Xn (fT (f2 (f2 zk xj zm) zC (zw .Eq))) (fT (f2 XT (yf dN) (zw .NotEq)))) (zx true 7 (f2 (zq (yB (Ym XT (oS zC) oN Wk)) [none,some 8] zP (fT (f2 (f2 zf zU zA) zk (zw .NotEq))) zf) (yf (dC (yr (dC (fV 8) (dC (f2 (f2 XT zU zA) zC zA) dN))) dN)) zd)) wI)
  (zI (yr (dC zz (dC zG (dC zZ (dC vQ (dC vc (dC XT dN))))))))))))
def ZM:Fn:=xD 9 2 W4
abbrev R_:List Str:=["_law_script"]
theorem Qw:FnScope R_ ["_law_script"] (ze Zn):=xW
def UG:SF:=
 (zI (zg (aC (zg yJ Q_) (aC (zg (aC zf (aC xk aN)) yw) aN)) ZM))
def ZE:Fn:=xD 1 1 UG
abbrev Yd:List Str:=["_law_text","_law_due","_law_found"]
theorem Zw:FnScope Yd ["_law_text","_law_due"] (ze xo):=xW
def Yc:SF:=
 (zh (zx true 2 (zg yJ wc))
  (zI (Pj (Mt zz "tuple") (Pj (f2 zz zk (zw .Eq)) (f2 (fP yT ES) (fP yG ES) (zw .Eq))))))
def xr:Fn:=xD 3 2 Yc
abbrev Dr:List Str:=["_law_script","_law_algebra_here","_law_due","_law_text","_law_found","_law_told","_law_name","_law_rows_here","_law_values"]
theorem Q6:FnScope Dr ["_law_script"] (ze B4):=xW
def DA:SF:=
 (zh (zx true 1 (zg yJ ZE))
  (zh (zx true 2 (zg yJ ZE))
  (zh (zx true 3 (ye .str (fC (.str "\n")) (aC (zg yT ZD) aN) xi))
  (zh (zx true 4 (zg yG wx))
  (zh (xX (vP (ZF (fT (Mt zZ "str"))) (vP (fT (f2 zZ zG (zw .NotEq))) (fT (f2 zk zz (zw .NotEq))))) (zI (fC (.bl false))) wI)
  (zh (xX (ZF (fT (zg (aC zG yT) xr))) (zI (fC (.bl false))) wI)
  (zh (zx false 5 (zg wB wc))
  (zh (J5 5 (Ym (f2 zz yd zA) (oS zC) oN Wk) 6 7 8)
  (zI (Pj (zg (aC zG yT) xr) (f2 (zg yG wx) zG (zw .Eq))))))))))))
def K_:Fn:=xD 9 1 DA
structure Fq(K:zzA)(mg:Str->Option Value)(x:Str)(st:Stmt)(f:Addr)(d:FuncData)(ps:List Str):Prop where
 F:Fun K x x st f d
 b:Binds K d ps []
 m:mg x=some (.ref f)
theorem wA{P:Program}{w:World}{K:zzA}{mg:Str->Option Value}{base:Heap}{kd:KD}{x:Str}{st:Stmt}{f:Addr}{d:FuncData}{N ps:List Str}{k:Nat}{c:SF}(Q:Fq K mg x st f d ps)(S:FnScope N ps (ze st))
 (hb:∀(cdv:Value) (A:Around) (outer:List Env) (s:Shared) (H:Hp) (E:XK),Room k (A.deeper (envOfC x (ze st) s.heap.objs.size f cdv))->N6 (LL Ko P w K mg base N x (ze st) f cdv A outer s H E).nox kd (Zv st) c):
 Co x P w K mg base kd (k+1) f d ps (xD N.length ps.length c):=⟨DB Q.F S hb,Q.m,Q.F.kp,Q.b⟩
set_option genInjectivity false in
set_option genSizeOf false in
structure Adr where
 MF:Addr
 M6:FuncData
 W6:Addr
 Ww:FuncData
 Em:Addr
 EW:FuncData
 NM:Addr
 NA:FuncData
 Li:Addr
 K7:FuncData
 Rq:Addr
 UJ:FuncData
 KB:Addr
 Ln:FuncData
 K0:Addr
 Lx:FuncData
 QN:Addr
 VF:FuncData
 Om:Addr
 Je:FuncData
 Wr:Addr
 WN:FuncData
 Kr:Addr
 Kp:FuncData
 Kl:Addr
 Kf:FuncData
 Pc:Addr
 RG:FuncData
 PY:Addr
 T_:FuncData
 U8:Addr
 RP:FuncData
 UH:Addr
 Pd:FuncData
 Xb:Addr
 XE:FuncData
 WG:Addr
 WI:FuncData
 TL:Addr
 Tu:FuncData
 Ri:Addr
 RR:FuncData
 ZW:Addr
 Z3:FuncData
 ZA:Addr
 Zq:FuncData
 Zz:Addr
 ZC:FuncData
 VZ:Addr
 QJ:FuncData
 Pa:Addr
 UV:FuncData
 Xp:Addr
 Xx:FuncData
 Ei:Addr
 Mi:FuncData
 UY:Addr
 Rv:FuncData
 UL:Addr
 UI:FuncData
 Lg:Addr
 KI:FuncData
 Ux:Addr
 Q7:FuncData
 Ql:Addr
 VU:FuncData
 V7:Addr
 VJ:FuncData
 XC:Addr
 Xk:FuncData
 WH:Addr
 W0:FuncData
 Mz:Addr
 M3:FuncData
 Qd:Addr
 Qt:FuncData
 RT:Addr
 RO:FuncData
 WJ:Addr
 Vf:FuncData
 Tq:Addr
 GD:FuncData
 VY:Addr
 V1:FuncData
 Gn:Addr
 To:FuncData
 UP:Addr
 RW:FuncData
 Td:Addr
 PL:FuncData
 UB:Addr
 UQ:FuncData
 QK:Addr
 VM:FuncData
 Gs:Addr
 Gu:FuncData
 Rh:Addr
 RA:FuncData
 Rg:Addr
 UK:FuncData
 WS:Addr
 W9:FuncData
 PV:Addr
 PQ:FuncData
 QF:Addr
 Qx:FuncData
 Y3:Addr
 YX:FuncData
 Ld:Addr
 Ly:FuncData
 Z8:Addr
 ZU:FuncData
 RL:Addr
 UX:FuncData
 WZ:Addr
 WM:FuncData
 U4:Addr
 UU:FuncData
 Yj:Addr
 Yg:FuncData
 DD:Addr
 DU:FuncData
structure Txt(K:zzA)(kd:KD)(mg:Str->Option Value)(t:Adr):Prop where
 I0:Fq K mg "is_let" V4 t.MF t.M6 ["thing","names"]
 GQ:Fq K mg "parts_after" wX t.W6 t.Ww ["word"]
 C8:Fq K mg "of_two" V6 t.Em t.EW ["word","one","other"]
 X5:Fun K "worth" "worth" PD t.NM t.NA
 QV:Binds K t.NA ["term","n","numbers"] []
 wd:mg "worth"=some (.ref t.NM)
 HC:Fq K mg "is_name" Wb t.Li t.K7 ["thing"]
 Eh:Fq K mg "is_rising" v_ t.Rq t.UJ ["row"]
 Ho:Fq K mg "join_by" ZX t.KB t.Ln ["n","term"]
 Hl:Fq K mg "rows_by" Z0 t.K0 t.Lx ["n","m","term"]
 L1:Fq K mg "is_figures" vD t.QN t.VF ["word","most"]
 rA:Fq K mg "fits" LK t.Om t.Je ["word","within","names"]
 GO:Fq K mg "first_fault" wV t.Wr t.WN ["words","names"]
 SK:Fq K mg "leaf_of" Wj t.Kr t.Kp ["word"]
 SN:Fq K mg "term_of" Wd t.Kl t.Kf ["words"]
 Ek:Fq K mg "read_term" Zu t.Pc t.RG ["text","names"]
 FM:Fq K mg "show_row" Yz t.PY t.T_ ["row"]
 ME:Fq K mg "show_rows" v9 t.U8 t.RP ["rows"]
 ML:Fq K mg "show_sign" Zg t.UH t.Pd ["name","values"]
 P2:Fq K mg "show_algebra" wa t.Xb t.XE ["algebra"]
 GK:Fq K mg "read_number" wZ t.WG t.WI ["word","least","most"]
 FA:Fq K mg "read_row" YA t.TL t.Tu ["words","n"]
 MZ:Fq K mg "read_rows" Zj t.Ri t.RR ["text","many","n"]
 Uw:Fq K mg "read_some_term" xu t.ZW t.Z3 ["text","names"]
 V0:Fq K mg "read_join_table" xf t.ZA t.Zq ["text","n"]
 Qz:Fq K mg "read_deed_table" xb t.Zz t.ZC ["text","n","m"]
 LI:Fq K mg "read_sizes" vI t.VZ t.QJ ["line"]
 MU:Fq K mg "read_join" Zt t.Pa t.UV ["line","n"]
 Ti:Fq K mg "read_nothing" wy t.Xp t.Xx ["line","n"]
 OU:Fq K mg "is_new" Qi t.Ei t.Mi ["name","told"]
 Md:Fq K mg "read_deed" Zk t.UY t.Rv ["line","n","m","told"]
 MJ:Fq K mg "read_sign" v7 t.UL t.UI ["line","n","told"]
 HI:Fq K mg "line_at" X1 t.Lg t.KI ["lines","at"]
 KH:Fun K "as_told" "as_told" X4 t.Ux t.Q7
 S0:Binds K t.Q7 ["thing","at"] []
 Ht:mg "as_told"=some (.ref t.Ux)
 NY:Fq K mg "read_deeds" vE t.Ql t.VU ["lines","n","m"]
 NV:Fq K mg "read_signs" vL t.V7 t.VJ ["lines","start","n"]
 TM:Fq K mg "read_algebra" we t.XC t.Xk ["text"]
 G4:Fq K mg "_law_cell_at" wQ t.WH t.W0 ["_law_script","_law_k"]
 DY:Fq K mg "_law_whole" Xg t.Mz t.M3 ["_law_found"]
 Nk:Fq K mg "_law_stream" vK t.Qd t.Qt ["_law_cell","_law_many"]
 My:Fq K mg "_law_names" Zo t.RT t.RO ["_law_cell","_law_many"]
 GZ:Fq K mg "_law_divisor" wL t.WJ t.Vf ["_law_one","_law_other"]
 Fz:Fq K mg "_law_sums" YF t.Tq t.GD ["_law_n","_law_m","_law_xs"]
 NZ:Fq K mg "_law_rising" vH t.VY t.V1 ["_law_n","_law_m","_law_xs"]
 Fo:Fq K mg "_law_kept" YQ t.Gn t.To ["_law_n","_law_m","_law_xs"]
 EL:Fq K mg "_law_joins" Zl t.UP t.RW ["_law_kind","_law_n"]
 EZ:Fq K mg "_law_rows" YM t.Td t.PL ["_law_kind","_law_n","_law_m","_law_xs"]
 Me:Fq K mg "_law_plain" Za t.UB t.UQ ["_law_kind","_law_n","_law_m","_law_many","_law_cell"]
 Np:Fq K mg "_law_beside" vJ t.QK t.VM ["_law_one","_law_other","_law_m"]
 Fu:Fq K mg "_law_made" YV t.Gs t.Gu ["_law_cell","_law_m","_law_many"]
 Ep:Fq K mg "_law_order" v3 t.Rh t.RA ["_law_cell","_law_n"]
 EH:Fq K mg "_law_signs" Zr t.Rg t.UK ["_law_cell","_law_n","_law_names_here"]
 G7:Fq K mg "_law_algebra" wU t.WS t.W9 ["_law_cell","_law_other"]
 Fx:Fq K mg "_law_bent" Yu t.PV t.PQ ["_law_algebra_here","_law_cell"]
 LW:Fq K mg "_law_digits" vF t.QF t.Qx ["_law_cell","_law_base","_law_many"]
 Pg:Fq K mg "_law_by_digits" xI t.Y3 t.YX ["_law_algebra_here","_law_cell"]
 SX:Fq K mg "_law_any" Wa t.Ld t.Ly ["_law_script"]
 Ur:Fq K mg "_law_shown_rows" xq t.Z8 t.ZU ["_law_rows_here"]
 Ec:Fq K mg "_law_lines" vZ t.RL t.UX ["_law_algebra_here"]
 G2:Fq K mg "_law_renamed" wN t.WZ t.WM ["_law_algebra_here","_law_cell"]
 N7:Fq K mg "_law_drawn" Zn t.U4 t.UU ["_law_script"]
 Q5:Fq K mg "_law_read_right" xo t.Yj t.Yg ["_law_text","_law_due"]
 qG:Fq K mg "law" B4 t.DD t.DU ["_law_script"]
 HR:GC K kd mg "FIGURES" (.str "0123456789")
 S3:GC K kd mg "LETTERS" (.tup [(.str "a"),(.str "b"),(.str "c")])
 GI:GC K kd mg "MOST_AROUND" (.int 6)
 Nz:GC K kd mg "MOST_DEEDS" (.int 6)
 P3:GC K kd mg "MOST_FIGURES" (.int 60)
 Gf:GC K kd mg "MOST_LETTERS" (.int 8)
 L6:GC K kd mg "MOST_SIGNS" (.int 4)
 LU:GC K kd mg "MOST_TERMS" (.int 40)
 G8:GC K kd mg "MOST_VALUES" (.int 8)
 GL:GC K kd mg "MOST_WITHIN" (.int 12)
 Ag:GC K kd mg "PARTS" (.dct [(.inr "add",(.int 2)),(.inr "take",(.int 2)),(.inr "times",(.int 2)),(.inr "most",(.int 2)),(.inr "least",(.int 2)),(.inr "same",(.int 4))])
 Ph:GC K kd mg "SMALL_LETTERS" (.str "abcdefghijklmnopqrstuvwxyz")
 pP:mg "all"=none
 tu:mg "bool"=none
 Ms:mg "enumerate"=none
 DJ:mg "int"=none
 vC:mg "isinstance"=none
 IE:mg "len"=none
 Im:mg "list"=none
 qB:mg "max"=none
 qd:mg "min"=none
 Zx:mg "range"=none
 uc:mg "repr"=none
 FF:mg "reversed"=none
 CN:mg "sorted"=none
 Dz:mg "str"=none
 BN:mg "tuple"=none
 qZ:mg "zip"=none
set_option maxHeartbeats 8000000
section
variable{P:Program}{w:World}{K:zzA}{mg:Str->Option Value}{base:Heap}{kd:KD}{t:Adr}
local macro_rules | `(tactic| trivial)=>do let T:=Lean.mkIdent `T;let h:=Lean.mkIdent `hkd;let r:=Lean.mkIdent `hr;`(tactic| first|(show AE _ _ _ _;first|exact av _|exact aI|(refine ax $h ?_ ?_<;>trivial)|(refine bn ?_ ?_<;>trivial)|exact aS|exact aZ|exact aB|(refine ec $h $r ?_ ?_<;>trivial)|(refine ec $h $r ?_ ?_ (hm:=rfl)<;>trivial)|(refine cq (by assumption) $r ?_<;>trivial)|(refine Jd ?_;trivial)|(refine Cu ?_;trivial)|(refine cm ?_ ?_ ?_ ?_<;>trivial)|(refine En ?_ ?_ ?_<;>trivial)|(refine S_ ?_ ?_ ?_<;>trivial)|(refine bi (SI ($h _ rfl rfl rfl)) (Txt.IE $T) Bt.len ?_;trivial)|(refine bi (SY rfl) (Txt.qB $T) Bt.max ?_;trivial)|(refine bi (Hf rfl) (Txt.qd $T) Bt.min ?_;trivial)|(refine bi (HU rfl) (Txt.pP $T) Bt.all ?_;trivial)|(refine bi (E_ ($r).gd (QM $r)) (Txt.uc $T) Bt.repr ?_;trivial)|(refine bi FS (Txt.CN $T) Bt.sorted ?_;trivial)|(refine p8 FL (Txt.DJ $T) Bt.int ?_;trivial)|(refine Ni ($h _ rfl rfl rfl) rfl rfl (Txt.vC $T) Bt.isinstance rfl (Txt.DJ $T) Bt.int ?_ (Bt.n _ rfl) (by decide) (Bt.n _ rfl) (by decide) rfl rfl rfl;trivial)|(refine p8 E8 (Txt.Dz $T) Bt.str ?_;trivial)|(refine Ni ($h _ rfl rfl rfl) rfl rfl (Txt.vC $T) Bt.isinstance rfl (Txt.Dz $T) Bt.str ?_ (Bt.n _ rfl) (by decide) (Bt.n _ rfl) (by decide) rfl rfl rfl;trivial)|(refine p8 S7 (Txt.BN $T) Bt.tuple ?_;trivial)|(refine Ni ($h _ rfl rfl rfl) rfl rfl (Txt.vC $T) Bt.isinstance rfl (Txt.BN $T) Bt.tuple ?_ (Bt.n _ rfl) (by decide) (Bt.n _ rfl) (by decide) rfl rfl rfl;trivial)|(refine p8 HP (Txt.Im $T) Bt.list ?_;trivial)|(refine Ni ($h _ rfl rfl rfl) rfl rfl (Txt.vC $T) Bt.isinstance rfl (Txt.tu $T) Bt.bool ?_ (Bt.n _ rfl) (by decide) (Bt.n _ rfl) (by decide) rfl rfl rfl;trivial)|(refine Hn rfl rfl (Txt.Zx $T) rfl (Txt.Im $T) ?_ rfl rfl;trivial)|(refine ae_not ?_;trivial)|(refine Ie ?_ ?_ ?_<;>trivial)|(refine uj ?_ ?_<;>trivial)|(refine qW ?_ ?_<;>trivial)|(refine sy ?_;trivial)|(refine E5 Uh u9 PySem.F.slot_list_append PySem.F.type_list_append (pv _) ?_ rfl rfl rfl rfl rfl;trivial)|(refine E5 Cj Ck PySem.F.slot_list_pop PySem.F.type_list_pop (pv _) ?_ rfl rfl rfl rfl rfl;trivial)|(refine E5 HS uk PySem.F.slot_list_extend PySem.F.type_list_extend (pv _) ?_ rfl rfl rfl rfl rfl;trivial)|(refine YI (ty:=.str) ($h _ rfl rfl rfl) Jy PySem.F.plainAttrs_str PySem.F.slot_str_join PySem.F.type_str_join ?_ ?_ rfl rfl rfl rfl rfl<;>trivial)|(refine YI (ty:=.str) ($h _ rfl rfl rfl) OT PySem.F.plainAttrs_str PySem.F.slot_str_split PySem.F.type_str_split ?_ ?_ rfl rfl rfl rfl rfl<;>trivial)|(refine YI (ty:=.lst) ($h _ rfl rfl rfl) (Iv ($h _ rfl rfl rfl) (QM $r)) PySem.F.plainAttrs_list PySem.F.slot_list_index PySem.F.type_list_index ?_ ?_ rfl rfl rfl rfl rfl<;>trivial)|(refine YI (ty:=.dct) ($h _ rfl rfl rfl) (sr ($h _ rfl rfl rfl)) PySem.F.plainAttrs_dict PySem.F.slot_dict_get PySem.F.type_dict_get ?_ ?_ rfl rfl rfl rfl rfl<;>trivial)|(refine YI (ty:=.str) ($h _ rfl rfl rfl) NU PySem.F.plainAttrs_str PySem.F.slot_str_partition PySem.F.type_str_partition ?_ ?_ rfl rfl rfl rfl rfl<;>trivial)|(refine YI (ty:=.str) ($h _ rfl rfl rfl) GP PySem.F.plainAttrs_str PySem.F.slot_str_startswith PySem.F.type_str_startswith ?_ ?_ rfl rfl rfl rfl rfl<;>trivial)|(refine YI (ty:=.str) ($h _ rfl rfl rfl) Mm PySem.F.plainAttrs_str PySem.F.slot_str_split PySem.F.type_str_split ?_ ?_ rfl rfl rfl rfl rfl<;>trivial)|exact vj (Txt.S3 $T) rfl (by decide)|exact vj (Txt.Ag $T) rfl (by decide)|exact vj (Txt.Gf $T) rfl (by decide)|exact vj (Txt.Ph $T) rfl (by decide)|exact vj (Txt.HR $T) rfl (by decide)|exact vj (Txt.GL $T) rfl (by decide)|exact vj (Txt.P3 $T) rfl (by decide)|exact vj (Txt.LU $T) rfl (by decide)|exact vj (Txt.G8 $T) rfl (by decide)|exact vj (Txt.GI $T) rfl (by decide)|exact vj (Txt.Nz $T) rfl (by decide)|exact vj (Txt.L6 $T) rfl (by decide)|exact qx (pv _)|(refine Al (by assumption) (($r).mono (by omega)) rfl (Txt.Ht $T) (Txt.KH $T).kp (Txt.S0 $T) O5 ?_ (by decide) rfl rfl;trivial))|(show AA _ _ _ _;first|(refine bc ?_ ?_<;>trivial)|exact vi)|exact Qe|(refine JY ?_;trivial)|(intro _;trivial)|(show GN _ _ _ _;first|(refine m8 (by assumption) ?_ ?_ ?_ ?_<;>trivial)|(refine ZQ ?_;trivial)|exact Ig|(refine Ed ?_ ?_ ?_<;>trivial)|(refine ll ?_ ?_ ?_<;>trivial)|(refine Cq PassesOwn.never ?_ ?_<;>trivial)|(refine As ?_ rfl;trivial)|(refine sv _ _ (by assumption) ?_;trivial)|(refine uZ rfl (by assumption) rfl rfl (by decide) rfl rfl ?_ rfl rfl;trivial)|(refine oR ?_ ?_<;>trivial)|(refine JN (pv _) ?_ ?_ (λ_=>rfl) rfl rfl rfl<;>trivial)|(refine JL (pv _) ?_ (λ_ _=>rfl) ?_ ?_ (λ_=>rfl) rfl rfl rfl<;>trivial)|exact rW)|(show N6 _ _ _ _;first|(refine sj _ (by assumption) ?_ ?_<;>trivial)|(refine yo ?_ ?_<;>trivial)|(refine x_ ?_;trivial)|exact Qq)|(show AT _ _ _ _;first|(refine tc $h $r ?_ ?_<;>trivial)|(refine tc $h $r ?_ ?_ (hm:=rfl)<;>trivial)|(refine M_ (Vx ($h _ rfl rfl rfl) (QM $r) _) (Vx ($h _ rfl rfl rfl) (QM $r) _) (NK _) ?_ ?_ ?_ (by with_unfolding_all rfl)<;>trivial)|(refine tM ?_;trivial)|(refine tE ?_ (λ_=>rfl);trivial)|(refine AW.at_ ?_;trivial))|(show AD _ _ _ _;first|(refine bd ?_ ?_<;>trivial)|exact FQ)|(show AO _ _ _ _;first|(refine BR ?_;trivial)|exact Sk)|(show AG _ _ _ _ _;first|exact an _ (by assumption)|exact an _ (lg (by kernel_rfl))|(refine C7 rfl ?_ rfl rfl;trivial))|(show DP _ _ _ _ _;first|(refine mX ?_ ?_<;>trivial)|exact Sz)|(show rO _ _ _ _;first|exact nC _ (by assumption)|(refine oG ?_;trivial))|(show Oc _ _ _ _;first|(refine oD ?_ ?_<;>trivial)|exact nM)|(show DQ _ _ _ _ _;first|(refine Z4 rfl (Txt.Zx $T) ?_ rfl;trivial)|(refine uO ?_;trivial)|(refine sQ ?_;trivial))|(show AI _ _ _ _ _;first|(refine HE rfl (Txt.Zx $T) ?_ rfl;trivial)|(refine S5 rfl (Txt.Zx $T) ?_ rfl rfl;trivial)|(refine Dg rfl (Txt.Ms $T) ?_ rfl;trivial)|(refine rH rfl (Txt.FF $T) ?_ rfl;trivial)|(refine rg rfl (Txt.qZ $T) ?_ rfl rfl;trivial)|(refine u0 ?_;trivial))|(show AW _ _ _ _;first|(refine qa ?_ ?_<;>trivial)|(refine Iq ?_ ?_<;>trivial)|(refine S9 ?_;trivial)|(refine Tc ?_;trivial))|(show AK _ _ _ _;first|exact Gc|exact LQ (pv _)|(refine MB (pv _) ?_ (λ_ _=>rfl);trivial)|(refine TQ ?_ ?_<;>trivial)|exact Ik rfl (Txt.IE $T) Bt.len (pv _) rfl rfl))
theorem Ip(T:Txt K kd mg t)(hkd:xF P w K kd):Co "is_let" P w K mg base kd 1 t.MF t.M6 ["thing","names"] ED:=by
 refine wA (N:=EO) (k:=0) (c:=Mv) T.I0 Ls λcdv A outer s H E hr=>?_;have:=Ls.nd;conv=>arg 3;whnf
 trivial
theorem ZH(T:Txt K kd mg t)(hkd:xF P w K kd):Co "parts_after" P w K mg base kd 1 t.W6 t.Ww ["word"] wM:=by
 refine wA (N:=W_) (k:=0) (c:=W3) T.GQ XG λcdv A outer s H E hr=>?_;have:=XG.nd;conv=>arg 3;whnf
 trivial
theorem Ii(T:Txt K kd mg t)(hkd:xF P w K kd):Co "of_two" P w K mg base kd 1 t.Em t.EW ["word","one","other"] Mu:=by
 refine wA (N:=Mp) (k:=0) (c:=Mx) T.C8 Kb λcdv A outer s H E hr=>?_;have:=Kb.nd;conv=>arg 3;whnf
 trivial
theorem LF(T:Txt K kd mg t)(hkd:xF P w K kd):∀n:Nat,FnOk P w K mg base Ko (1+n) t.NM t.NA ["term","n","numbers"] (Jl K kd (wd n))
 |0=>Ac
 |n+1=>by
  have G:=LF T hkd n;refine DB (N:=Sy) (k:=1+n) (c:=Sq (wd n)) T.X5 Xw λcdv A outer s H E hr=>?_;exact(by
  refine sj 3 Xw.nd ?_ ?_;exact(ax hkd (av 0) aI);refine yo ?_ ?_;exact(Ed (tc hkd hr (av 3) aS) (x_ (ZQ (bn (ax hkd (av 0) aI) (av 1)))) Qq);refine yo ?_ ?_;exact(Ed (tc hkd hr (av 3) aS) (x_ (ZQ (bn (ax hkd (av 2) (ax hkd (av 0) aI)) (av 1)))) Qq);refine sj 4 Xw.nd ?_ ?_;exact(ck G hr T.wd T.X5.kp T.QV (bc (ax hkd (av 0) aI) (bc (av 1) (bc (av 2) vi))));refine sj 5 Xw.nd ?_ ?_;exact(ck G hr T.wd T.X5.kp T.QV (bc (ax hkd (av 0) aI) (bc (av 1) (bc (av 2) vi))));refine yo ?_ ?_;exact(Ed (tc hkd hr (av 3) aS) (by
  refine sj 6 Xw.nd ?_ ?_;exact(Ie (tc hkd hr (av 4) (av 5)) (ax hkd (av 0) aI) (ax hkd (av 0) aI));exact x_ (ZQ (ck G hr T.wd T.X5.kp T.QV (bc (av 6) (bc (av 1) (bc (av 2) vi)))))) Qq)
  exact x_ (ZQ (bn (cq (Ii T hkd) hr (bc (av 3) (bc (av 4) (bc (av 5) vi)))) (av 1))))
theorem Ha(T:Txt K kd mg t)(hkd:xF P w K kd):Co "is_name" P w K mg base kd 1 t.Li t.K7 ["thing"] Uv:=by
 refine wA (N:=Lh) (k:=0) (c:=KY) T.HC P8 λcdv A outer s H E hr=>?_;have:=P8.nd;conv=>arg 3;whnf
 trivial
theorem Mn(T:Txt K kd mg t)(hkd:xF P w K kd):Co "is_rising" P w K mg base kd 1 t.Rq t.UJ ["row"] Xq:=by
 refine wA (N:=Rm) (k:=0) (c:=Pb) T.Eh QW λcdv A outer s H E hr=>?_;have:=QW.nd;conv=>arg 3;whnf
 trivial
theorem Hk(T:Txt K kd mg t)(hkd:xF P w K kd):Co "join_by" P w K mg base kd 22 t.KB t.Ln ["n","term"] KM:=by
 refine wA (N:=Us) (k:=21) (c:=KQ) T.Ho FX λcdv A outer s H E hr=>?_;exact(x_ (ZQ (QT (N:=["a","term","n"]) (cap:=[none,some 1,some 0]) (S:=[0]) rfl (Z4 rfl T.Zx (bc (av 0) vi) rfl) rfl (by change W5 _ Us _ (ze ZX).names _=true;decide +kernel) (by decide) (λcl s H fp=>(an 0 N3)) (λcl s H fp=>Qe) (λcl s H fp=>(QT (N:=["b","term","n","a"]) (cap:=[none,some 1,some 2,some 0]) (S:=[0]) rfl (Z4 rfl T.Zx (bc (av 2) vi) rfl) rfl (by with_unfolding_all rfl) (by decide) (λcl s H fp=>(an 0 Nd)) (λcl s H fp=>Qe) (λcl s H fp=>(ck (LF T hkd 20) hr T.wd T.X5.kp T.QV (bc (av 1) (bc (av 2) (bc (SA (fs:=[((fC (.str "a")),zG),((fC (.str "b")),zf)]) (X7 aS (av 3) (X7 aS (av 0) Bo)) rfl rfl (by simp) (by decide)) vi))))) (λ_=>rfl))) (λ_=>rfl))))
theorem HJ(T:Txt K kd mg t)(hkd:xF P w K kd):Co "rows_by" P w K mg base kd 22 t.K0 t.Lx ["n","m","term"] Kt:=by
 refine wA (N:=Q8) (k:=21) (c:=Ka) T.Hl E3 λcdv A outer s H E hr=>?_;exact(x_ (ZQ (QT (N:=["c","term","n"]) (cap:=[none,some 2,some 0]) (S:=[0]) rfl (Z4 rfl T.Zx (bc (av 1) vi) rfl) rfl (by change W5 _ Q8 _ (ze Z0).names _=true;decide +kernel) (by decide) (λcl s H fp=>(an 0 N1)) (λcl s H fp=>Qe) (λcl s H fp=>(QT (N:=["a","term","n","c"]) (cap:=[none,some 1,some 2,some 0]) (S:=[0]) rfl (Z4 rfl T.Zx (bc (av 2) vi) rfl) rfl (by with_unfolding_all rfl) (by decide) (λcl s H fp=>(an 0 Nr)) (λcl s H fp=>Qe) (λcl s H fp=>(ck (LF T hkd 20) hr T.wd T.X5.kp T.QV (bc (av 1) (bc (av 2) (bc (SA (fs:=[((fC (.str "a")),zf),((fC (.str "c")),zG)]) (X7 aS (av 0) (X7 aS (av 3) Bo)) rfl rfl (by simp) (by decide)) vi))))) (λ_=>rfl))) (λ_=>rfl))))
theorem Yt(T:Txt K kd mg t)(hkd:xF P w K kd):Co "is_figures" P w K mg base kd 1 t.QN t.VF ["word","most"] wu:=by
 refine wA (N:=QZ) (k:=0) (c:=V5) T.L1 WL λcdv A outer s H E hr=>?_;have:=WL.nd;conv=>arg 3;whnf
 trivial
theorem u5(T:Txt K kd mg t)(hkd:xF P w K kd):Co "fits" P w K mg base kd 2 t.Om t.Je ["word","within","names"] IQ:=by
 refine wA (N:=Cf) (k:=1) (c:=ON) T.rA B9 λcdv A outer s H E hr=>?_;have:=B9.nd;have:=ZH (base:=base) T hkd;have:=Yt (base:=base) T hkd;have:=Ip (base:=base) T hkd;conv=>arg 3;whnf
 trivial
theorem GR(T:Txt K kd mg t)(hkd:xF P w K kd):Co "first_fault" P w K mg base kd 3 t.Wr t.WN ["words","names"] Wy:=by
 refine wA (N:=WX) (k:=2) (c:=W7) T.GO Xs λcdv A outer s H E hr=>?_;have:=Xs.nd;have:=u5 (base:=base) T hkd;have:=ZH (base:=base) T hkd;conv=>arg 3;whnf
 trivial
theorem SR(T:Txt K kd mg t)(hkd:xF P w K kd):Co "leaf_of" P w K mg base kd 2 t.Kr t.Kp ["word"] Kq:=by
 refine wA (N:=KP) (k:=1) (c:=LB) T.SK Tj λcdv A outer s H E hr=>?_;have:=Tj.nd;have:=Yt (base:=base) T hkd;conv=>arg 3;whnf
 trivial
theorem HN(T:Txt K kd mg t)(hkd:xF P w K kd):Co "term_of" P w K mg base kd 3 t.Kl t.Kf ["words"] Lr:=by
 refine wA (N:=La) (k:=2) (c:=Lc) T.SN TV λcdv A outer s H E hr=>?_;have:=TV.nd;have:=ZH (base:=base) T hkd;have:=SR (base:=base) T hkd;conv=>arg 3;whnf
 trivial
theorem EY(T:Txt K kd mg t)(hkd:xF P w K kd):Co "read_term" P w K mg base kd 4 t.Pc t.RG ["text","names"] UM:=by
 refine wA (N:=RU) (k:=3) (c:=U3) T.Ek VP λcdv A outer s H E hr=>?_;have:=VP.nd;have:=GR (base:=base) T hkd;have:=HN (base:=base) T hkd;conv=>arg 3;whnf
 trivial
theorem FH(T:Txt K kd mg t)(hkd:xF P w K kd):Co "show_row" P w K mg base kd 1 t.PY t.T_ ["row"] Vi:=by
 refine wA (N:=Tr) (k:=0) (c:=Gi) T.FM UC λcdv A outer s H E hr=>?_;have:=UC.nd;conv=>arg 3;whnf
 trivial
theorem N_(T:Txt K kd mg t)(hkd:xF P w K kd):Co "show_rows" P w K mg base kd 2 t.U8 t.RP ["rows"] va:=by
 refine wA (N:=RH) (k:=1) (c:=Rr) T.ME QP λcdv A outer s H E hr=>?_;have:=QP.nd;have:=FH (base:=base) T hkd;conv=>arg 3;whnf
 trivial
theorem EN(T:Txt K kd mg t)(hkd:xF P w K kd):Co "show_sign" P w K mg base kd 1 t.UH t.Pd ["name","values"] Zd:=by
 refine wA (N:=Rx) (k:=0) (c:=RF) T.ML Qf λcdv A outer s H E hr=>?_;have:=Qf.nd;conv=>arg 3;whnf
 trivial
theorem Te(T:Txt K kd mg t)(hkd:xF P w K kd):Co "show_algebra" P w K mg base kd 3 t.Xb t.XE ["algebra"] wx:=by
 refine wA (N:=XZ) (k:=2) (c:=Xz) T.P2 YW λcdv A outer s H E hr=>?_;have:=YW.nd;have:=N_ (base:=base) T hkd;have:=EN (base:=base) T hkd;conv=>arg 3;whnf
 trivial
theorem ZN(T:Txt K kd mg t)(hkd:xF P w K kd):Co "read_number" P w K mg base kd 2 t.WG t.WI ["word","least","most"] y9:=by
 refine wA (N:=Vb) (k:=1) (c:=W8) T.GK vU λcdv A outer s H E hr=>?_;have:=vU.nd;have:=Yt (base:=base) T hkd;conv=>arg 3;whnf
 exact(by
  refine yo ?_ ?_;trivial;refine sj 3 vU.nd ?_ ?_;trivial;exact x_ (ZQ (Ie (M_ (Vx (hkd _ rfl rfl rfl) (QM hr) .LtE) (Vx (hkd _ rfl rfl rfl) (QM hr) .LtE) (NK .LtE) (av 1) (av 3) (av 2) (by with_unfolding_all rfl)) (av 3) aZ)))
theorem T5(T:Txt K kd mg t)(hkd:xF P w K kd):Co "read_row" P w K mg base kd 3 t.TL t.Tu ["words","n"] vW:=by
 refine wA (N:=Tv) (k:=2) (c:=Ge) T.FA Rc λcdv A outer s H E hr=>?_;have:=Rc.nd;have:=ZN (base:=base) T hkd;conv=>arg 3;whnf
 trivial
theorem RK(T:Txt K kd mg t)(hkd:xF P w K kd):Co "read_rows" P w K mg base kd 4 t.Ri t.RR ["text","many","n"] Zs:=by
 refine wA (N:=UN) (k:=3) (c:=UT) T.MZ QS λcdv A outer s H E hr=>?_;have:=QS.nd;have:=T5 (base:=base) T hkd;conv=>arg 3;whnf
 trivial
theorem Yb(T:Txt K kd mg t)(hkd:xF P w K kd):Co "read_some_term" P w K mg base kd 5 t.ZW t.Z3 ["text","names"] wJ:=by
 refine wA (N:=Z_) (k:=4) (c:=ZV) T.Uw Qk λcdv A outer s H E hr=>?_;exact(x_ (AZ (x_ (ZQ (cq (EY T hkd) hr (bc (av 0) (bc (av 1) vi))))) (λ_ _ z=>z)))
theorem V9(T:Txt K kd mg t)(hkd:xF P w K kd):Co "read_join_table" P w K mg base kd 23 t.ZA t.Zq ["text","n"] x9:=by
 refine wA (N:=Zm) (k:=22) (c:=Zb) T.V0 vS λcdv A outer s H E hr=>?_;have:=vS.nd;have:=RK (base:=base) T hkd;have:=Yb (base:=base) T hkd;have:=Hk (base:=base) T hkd;conv=>arg 3;whnf
 trivial
theorem QE(T:Txt K kd mg t)(hkd:xF P w K kd):Co "read_deed_table" P w K mg base kd 23 t.Zz t.ZC ["text","n","m"] wq:=by
 refine wA (N:=Ze) (k:=22) (c:=Zf) T.Qz vR λcdv A outer s H E hr=>?_;have:=vR.nd;have:=RK (base:=base) T hkd;have:=Yb (base:=base) T hkd;have:=HJ (base:=base) T hkd;conv=>arg 3;whnf
 trivial
theorem L3(T:Txt K kd mg t)(hkd:xF P w K kd):Co "read_sizes" P w K mg base kd 3 t.VZ t.QJ ["line"] YC:=by
 refine wA (N:=VG) (k:=2) (c:=VR) T.LI Wu λcdv A outer s H E hr=>?_;have:=Wu.nd;have:=ZN (base:=base) T hkd;conv=>arg 3;whnf
 trivial
theorem EU(T:Txt K kd mg t)(hkd:xF P w K kd):Co "read_join" P w K mg base kd 24 t.Pa t.UV ["line","n"] XS:=by
 refine wA (N:=U9) (k:=23) (c:=RI) T.MU QO λcdv A outer s H E hr=>?_;have:=QO.nd;have:=V9 (base:=base) T hkd;conv=>arg 3;whnf
 trivial
theorem PK(T:Txt K kd mg t)(hkd:xF P w K kd):Co "read_nothing" P w K mg base kd 3 t.Xp t.Xx ["line","n"] vT:=by
 refine wA (N:=Xd) (k:=2) (c:=Xl) T.Ti Y1 λcdv A outer s H E hr=>?_;have:=Y1.nd;have:=ZN (base:=base) T hkd;conv=>arg 3;whnf
 trivial
theorem MQ(T:Txt K kd mg t)(hkd:xF P w K kd):Co "is_new" P w K mg base kd 2 t.Ei t.Mi ["name","told"] wj:=by
 refine wA (N:=MS) (k:=1) (c:=Eb) T.OU Kg λcdv A outer s H E hr=>?_;have:=Kg.nd;have:=Ha (base:=base) T hkd;conv=>arg 3;whnf
 trivial
theorem Eu(T:Txt K kd mg t)(hkd:xF P w K kd):Co "read_deed" P w K mg base kd 24 t.UY t.Rv ["line","n","m","told"] xT:=by
 refine wA (N:=UR) (k:=23) (c:=RX) T.Md VQ λcdv A outer s H E hr=>?_;have:=VQ.nd;have:=MQ (base:=base) T hkd;have:=QE (base:=base) T hkd;conv=>arg 3;whnf
 trivial
theorem EC(T:Txt K kd mg t)(hkd:xF P w K kd):Co "read_sign" P w K mg base kd 4 t.UL t.UI ["line","n","told"] xS:=by
 refine wA (N:=UF) (k:=3) (c:=RZ) T.MJ Qb λcdv A outer s H E hr=>?_;have:=Qb.nd;have:=MQ (base:=base) T hkd;have:=T5 (base:=base) T hkd;have:=Mn (base:=base) T hkd;conv=>arg 3;whnf
 trivial
theorem HB(T:Txt K kd mg t)(hkd:xF P w K kd):Co "line_at" P w K mg base kd 1 t.Lg t.KI ["lines","at"] Wg:=by
 refine wA (N:=KR) (k:=0) (c:=Lp) T.HI Gj λcdv A outer s H E hr=>?_;have:=Gj.nd;conv=>arg 3;whnf
 trivial
theorem Uy(T:Txt K kd mg t)(hkd:xF P w K kd):FnOk P w K mg base Ko 1 t.Ux t.Q7 ["thing","at"] Jv:=
 Ju (N:=KC) (k:=0) T.KH Fj rfl λcdv A outer s H E=>vf (C_ (t_ (uM (pv 0))) Ll LH) (QH (IX (pv 0)))
theorem NR(T:Txt K kd mg t)(hkd:xF P w K kd):Co "read_deeds" P w K mg base kd 25 t.Ql t.VU ["lines","n","m"] Yy:=by
 refine wA (N:=Qr) (k:=24) (c:=Qg) T.NY Wx λcdv A outer s H E hr=>?_;have:=Wx.nd;have:=Uy (base:=base) T hkd;have:=Eu (base:=base) T hkd;conv=>arg 3;whnf
 trivial
theorem Nt(T:Txt K kd mg t)(hkd:xF P w K kd):Co "read_signs" P w K mg base kd 5 t.V7 t.VJ ["lines","start","n"] Yx:=by
 refine wA (N:=Qn) (k:=4) (c:=VE) T.NV Wz λcdv A outer s H E hr=>?_;have:=Wz.nd;have:=Uy (base:=base) T hkd;have:=EC (base:=base) T hkd;conv=>arg 3;whnf
 trivial
theorem XW(T:Txt K kd mg t)(hkd:xF P w K kd):Co "read_algebra" P w K mg base kd 26 t.XC t.Xk ["text"] wc:=by
 refine wA (N:=XB) (k:=25) (c:=Xv) T.TM Y2 λcdv A outer s H E hr=>?_;have:=Y2.nd;have:=Uy (base:=base) T hkd;have:=L3 (base:=base) T hkd;have:=EU (base:=base) T hkd;have:=HB (base:=base) T hkd;have:=PK (base:=base) T hkd;have:=NR (base:=base) T hkd;have:=Nt (base:=base) T hkd;conv=>arg 3;whnf
 trivial
theorem WB(T:Txt K kd mg t)(hkd:xF P w K kd):Co "_law_cell_at" P w K mg base kd 1 t.WH t.W0 ["_law_script","_law_k"] yw:=by
 refine wA (N:=WQ) (k:=0) (c:=WU) T.G4 Xj λcdv A outer s H E hr=>?_;have:=Xj.nd;conv=>arg 3;whnf
 trivial
theorem yX(T:Txt K kd mg t)(hkd:xF P w K kd):Co "_law_stream" P w K mg base kd 1 t.Qd t.Qt ["_law_cell","_law_many"] yk:=by
 refine wA (N:=VC) (k:=0) (c:=VX) T.Nk Ws λcdv A outer s H E hr=>?_;have:=Ws.nd;conv=>arg 3;whnf
 trivial
theorem MN(T:Txt K kd mg t)(hkd:xF P w K kd):Co "_law_names" P w K mg base kd 2 t.RT t.RO ["_law_cell","_law_many"] XQ:=by
 refine wA (N:=U_) (k:=1) (c:=U5) T.My V8 λcdv A outer s H E hr=>?_;have:=V8.nd;have:=yX (base:=base) T hkd;conv=>arg 3;whnf
 trivial
theorem GH(T:Txt K kd mg t)(hkd:xF P w K kd):Co "_law_divisor" P w K mg base kd 1 t.WJ t.Vf ["_law_one","_law_other"] ZS:=by
 refine wA (N:=WW) (k:=0) (c:=Wp) T.GZ Xf λcdv A outer s H E hr=>?_;have:=Xf.nd;conv=>arg 3;whnf
 trivial
theorem FZ(T:Txt K kd mg t)(hkd:xF P w K kd):Co "_law_sums" P w K mg base kd 2 t.Tq t.GD ["_law_n","_law_m","_law_xs"] Vv:=by
 refine wA (N:=PR) (k:=1) (c:=TX) T.Fz UE λcdv A outer s H E hr=>?_;have:=UE.nd;have:=GH (base:=base) T hkd;conv=>arg 3;whnf
 trivial
theorem NJ(T:Txt K kd mg t)(hkd:xF P w K kd):Co "_law_rising" P w K mg base kd 1 t.VY t.V1 ["_law_n","_law_m","_law_xs"] YS:=by
 refine wA (N:=QQ) (k:=0) (c:=QI) T.NZ WC λcdv A outer s H E hr=>?_;have:=WC.nd;conv=>arg 3;whnf
 trivial
theorem FP(T:Txt K kd mg t)(hkd:xF P w K kd):Co "_law_kept" P w K mg base kd 1 t.Gn t.To ["_law_n","_law_m","_law_xs"] VA:=by
 refine wA (N:=PJ) (k:=0) (c:=TR) T.Fo Re λcdv A outer s H E hr=>?_;have:=Re.nd;conv=>arg 3;whnf
 trivial
theorem Mq(T:Txt K kd mg t)(hkd:xF P w K kd):Co "_law_joins" P w K mg base kd 1 t.UP t.RW ["_law_kind","_law_n"] Zp:=by
 refine wA (N:=U2) (k:=0) (c:=Pe) T.EL QC λcdv A outer s H E hr=>?_;have:=QC.nd;conv=>arg 3;whnf
 trivial
theorem FK(T:Txt K kd mg t)(hkd:xF P w K kd):Co "_law_rows" P w K mg base kd 3 t.Td t.PL ["_law_kind","_law_n","_law_m","_law_xs"] Yp:=by
 refine wA (N:=TK) (k:=2) (c:=GE) T.EZ U0 λcdv A outer s H E hr=>?_;have:=U0.nd;have:=FZ (base:=base) T hkd;have:=NJ (base:=base) T hkd;have:=FP (base:=base) T hkd;conv=>arg 3;whnf
 trivial
theorem EM(T:Txt K kd mg t)(hkd:xF P w K kd):Co "_law_plain" P w K mg base kd 4 t.UB t.UQ ["_law_kind","_law_n","_law_m","_law_many","_law_cell"] xU:=by
 refine wA (N:=Ra) (k:=3) (c:=Rn) T.Me QR λcdv A outer s H E hr=>?_;have:=QR.nd;have:=FK (base:=base) T hkd;have:=yX (base:=base) T hkd;have:=Mq (base:=base) T hkd;conv=>arg 3;whnf
 trivial
theorem L5(T:Txt K kd mg t)(hkd:xF P w K kd):Co "_law_beside" P w K mg base kd 1 t.QK t.VM ["_law_one","_law_other","_law_m"] YU:=by
 refine wA (N:=Qo) (k:=0) (c:=VS) T.Np Vd λcdv A outer s H E hr=>?_;have:=Vd.nd;conv=>arg 3;whnf
 trivial
theorem Ba(T:Txt K kd mg t)(hkd:xF P w K kd):Co "_law_made" P w K mg base kd 5 t.Gs t.Gu ["_law_cell","_law_m","_law_many"] Vl:=by
 refine wA (N:=Gm) (k:=4) (c:=Tw) T.Fu RB λcdv A outer s H E hr=>?_;have:=RB.nd;have:=yX (base:=base) T hkd;have:=EM (base:=base) T hkd;have:=L5 (base:=base) T hkd;conv=>arg 3;whnf
 trivial
theorem MI(T:Txt K kd mg t)(hkd:xF P w K kd):Co "_law_order" P w K mg base kd 2 t.Rh t.RA ["_law_cell","_law_n"] Xa:=by
 refine wA (N:=US) (k:=1) (c:=UO) T.Ep Qp λcdv A outer s H E hr=>?_;have:=Qp.nd;have:=yX (base:=base) T hkd;conv=>arg 3;whnf
 trivial
theorem Ez(T:Txt K kd mg t)(hkd:xF P w K kd):Co "_law_signs" P w K mg base kd 2 t.Rg t.UK ["_law_cell","_law_n","_law_names_here"] Zh:=by
 refine wA (N:=U7) (k:=1) (c:=RS) T.EH Q0 λcdv A outer s H E hr=>?_;have:=Q0.nd;have:=yX (base:=base) T hkd;conv=>arg 3;whnf
 trivial
theorem GY(T:Txt K kd mg t)(hkd:xF P w K kd):Co "_law_algebra" P w K mg base kd 6 t.WS t.W9 ["_law_cell","_law_other"] wY:=by
 refine wA (N:=Va) (k:=5) (c:=Vc) T.G7 Xu λcdv A outer s H E hr=>?_;have:=Xu.nd;have:=yX (base:=base) T hkd;have:=Ba (base:=base) T hkd;have:=MI (base:=base) T hkd;have:=MN (base:=base) T hkd;have:=Ez (base:=base) T hkd;conv=>arg 3;whnf
 trivial
theorem Bf(T:Txt K kd mg t)(hkd:xF P w K kd):Co "_law_bent" P w K mg base kd 2 t.PV t.PQ ["_law_algebra_here","_law_cell"] Vo:=by
 refine wA (N:=Gg) (k:=1) (c:=Tn) T.Fx vb λcdv A outer s H E hr=>?_;have:=vb.nd;have:=yX (base:=base) T hkd;conv=>arg 3;whnf
 exact(by
  refine yo ?_ ?_;trivial;refine sj 8 vb.nd ?_ ?_;trivial;refine yo ?_ ?_;trivial;refine yo ?_ ?_;trivial;refine sj 11 vb.nd ?_ ?_;trivial;refine yo ?_ ?_;trivial;refine yo ?_ ?_;trivial;refine yo ?_ ?_;exact(Ed (AW.at_ (Iq (tc hkd hr (av 11) aI) (Tc (tc hkd hr (av 10) (Cu FQ))))) (JG (y:=12) (n:=1) vb.nd rfl (by exact Or.inl rfl) (by exact Or.inr rfl) (pv 10) (TQ (MB (pv 8) Gc (λ_ _=>rfl)) (Ik rfl T.IE Bt.len (pv 10) rfl rfl)) (λ_ _=>rfl) vk (λ_ _=>rfl) rfl (pv 12) (TQ (MB (pv 8) Gc (λ_ _=>rfl)) (LQ (pv 3))) (λ_ _=>rfl) (TQ (MB (pv 8) Gc (λ_ _=>rfl)) (LQ (pv 2))) (TQ (MB (pv 8) Gc (λ_ _=>rfl)) (LQ (pv 2))) (λ_=>rfl) rfl rfl rfl) Qq);exact x_ (ZQ (Jd (bd (av 2) (bd (av 3) (bd (av 9) (bd (av 5) (bd (av 10) (bd (av 7) FQ)))))))))
theorem Nq(T:Txt K kd mg t)(hkd:xF P w K kd):Co "_law_digits" P w K mg base kd 1 t.QF t.Qx ["_law_cell","_law_base","_law_many"] Yr:=by
 refine wA (N:=VD) (k:=0) (c:=QB) T.LW Vg λcdv A outer s H E hr=>?_;have:=Vg.nd;conv=>arg 3;whnf
 trivial
theorem Pl(T:Txt K kd mg t)(hkd:xF P w K kd):Co "_law_by_digits" P w K mg base kd 2 t.Y3 t.YX ["_law_algebra_here","_law_cell"] vv:=by
 refine wA (N:=Y5) (k:=1) (c:=YZ) T.Pg Z1 λcdv A outer s H E hr=>?_;have:=Z1.nd;have:=Nq (base:=base) T hkd;conv=>arg 3;whnf
 trivial
theorem HM(T:Txt K kd mg t)(hkd:xF P w K kd):Co "_law_any" P w K mg base kd 7 t.Ld t.Ly ["_law_script"] Q_:=by
 refine wA (N:=K2) (k:=6) (c:=K4) T.SX GB λcdv A outer s H E hr=>?_;have:=GB.nd;have:=WB (base:=base) T hkd;have:=GY (base:=base) T hkd;have:=Pl (base:=base) T hkd;have:=Bf (base:=base) T hkd;conv=>arg 3;whnf
 trivial
theorem Ut(T:Txt K kd mg t)(hkd:xF P w K kd):Co "_law_shown_rows" P w K mg base kd 1 t.Z8 t.ZU ["_law_rows_here"] yM:=by
 refine wA (N:=Yi) (k:=0) (c:=Z7) T.Ur Zi λcdv A outer s H E hr=>?_;have:=Zi.nd;conv=>arg 3;whnf
 trivial
theorem MK(T:Txt K kd mg t)(hkd:xF P w K kd):Co "_law_lines" P w K mg base kd 2 t.RL t.UX ["_law_algebra_here"] ZD:=by
 refine wA (N:=UD) (k:=1) (c:=RN) T.Ec QA λcdv A outer s H E hr=>?_;have:=QA.nd;have:=Ut (base:=base) T hkd;conv=>arg 3;whnf
 trivial
theorem GU(T:Txt K kd mg t)(hkd:xF P w K kd):Co "_law_renamed" P w K mg base kd 1 t.WZ t.WM ["_law_algebra_here","_law_cell"] ZM:=by
 refine wA (N:=WY) (k:=0) (c:=W4) T.G2 Xi λcdv A outer s H E hr=>?_;have:=Xi.nd;conv=>arg 3;whnf
 trivial
theorem MX(T:Txt K kd mg t)(hkd:xF P w K kd):Co "_law_drawn" P w K mg base kd 8 t.U4 t.UU ["_law_script"] ZE:=by
 refine wA (N:=R_) (k:=7) (c:=UG) T.N7 Qw λcdv A outer s H E hr=>?_;have:=Qw.nd;have:=GU (base:=base) T hkd;have:=HM (base:=base) T hkd;have:=WB (base:=base) T hkd;conv=>arg 3;whnf
 trivial
theorem Ub(T:Txt K kd mg t)(hkd:xF P w K kd):Co "_law_read_right" P w K mg base kd 27 t.Yj t.Yg ["_law_text","_law_due"] xr:=by
 refine wA (N:=Yd) (k:=26) (c:=Yc) T.Q5 Zw λcdv A outer s H E hr=>?_;have:=Zw.nd;have:=XW (base:=base) T hkd;conv=>arg 3;whnf
 trivial
theorem qK(T:Txt K kd mg t)(hkd:xF P w K kd):Co "law" P w K mg base kd 28 t.DD t.DU ["_law_script"] K_:=by
 refine wA (N:=Dr) (k:=27) (c:=DA) T.qG Q6 λcdv A outer s H E hr=>?_;have:=Q6.nd;have:=MX (base:=base) T hkd;have:=MK (base:=base) T hkd;have:=Te (base:=base) T hkd;have:=Ub (base:=base) T hkd;have:=XW (base:=base) T hkd;conv=>arg 3;whnf
 exact(by
  refine yo ?_ ?_;trivial;refine yo ?_ ?_;trivial;refine yo ?_ ?_;trivial;refine yo ?_ ?_;trivial;refine yo ?_ ?_;trivial;refine yo ?_ ?_;trivial;refine yo ?_ ?_;trivial;exact(Ah (by trivial) (hkd _ rfl rfl rfl) (QM hr) PassesOwn.never rfl (pv 5) (pv 5) (pv 5) (pv 5) (pv 5) vk vk vk vk vk vk vk (λ_ _=>rfl) (λ_ _=>rfl) (λ_ _=>rfl) (λ_ _=>rfl) (λ_ _=>rfl) (λ_ _=>rfl) (En (ax hkd (av 2) aI) (BR aI) Sk) (FR _) (Be rfl (Xm (Qm (i:=6) Q6.nd rfl (by exact Or.inl rfl) (by exact Or.inr rfl)) (Xm (Qm (i:=7) Q6.nd rfl (by exact Or.inl rfl) (by exact Or.inr rfl)) NL rfl) rfl) rfl rfl) (Be rfl (Xm (Qm (i:=6) Q6.nd rfl (by exact Or.inl rfl) (by exact Or.inr rfl)) (Xm (Qm (i:=8) Q6.nd rfl (by exact Or.inl rfl) (by exact Or.inr rfl)) NL rfl) rfl) rfl rfl) (λ_ z=>Cd PySem.F.plainAttrs_list PySem.F.slot_list_append PySem.F.type_list_append Uh z (wR vk YT rfl) rfl rfl rfl rfl rfl) (Jc PySem.F.plainAttrs_list PySem.F.slot_list_clear PySem.F.type_list_clear Mb (pv 7) rfl rfl) (Cd PySem.F.plainAttrs_list PySem.F.slot_list_append PySem.F.type_list_append Uh (pv 8) (wR vk YT rfl) rfl rfl rfl rfl rfl) (λ_ z=>Jc PySem.F.plainAttrs_list PySem.F.slot_list_clear PySem.F.type_list_clear Mb z rfl rfl) rfl rfl rfl rfl (λ_=>rfl) (λ_=>rfl)))
end
abbrev oz(K:zzA)(x:Str)(f:Addr):Prop:=PySem.W.nsIn K mainGlobals x=some (some (.ref f))
abbrev FnAt(K:zzA)(x q:Str)(s:Stmt)(f:Addr):Prop:=∃d,Fun K x q s f d
abbrev Fk(K:zzA)(x:Str)(s:Stmt)(f:Addr):Prop:=oz K x f/\FnAt K x x s f
theorem uJ{l:PySem.W.OpenLaw}{w:World}{K:zzA}{h:Heap}{mg:Str->Option Value}{fa:Addr}(X:K.In h)(G:h.Ns mainGlobals mg)(hfa:mg "law"=some (.ref fa))
 {f0 f1 f2 f3 f4 f5 f6 f7 f8 f9 f10 f11 f12 f13 f14 f15 f16 f17 f18 f19 f20 f21 f22 f23 f24 f25 f26 f27 f28 f29 f30 f31 f32 f33 f34 f35 f36 f37 f38 f39 f40 f41 f42 f43 f44 f45 f46 f47 f48 f49 f50 f51 f52 f53 f54 f55 f56 f57 f58 f59 f60:Addr}
 {tk0_0:Tok}
 {q1:Addr}{go1:Option Addr}{gn1:Nat}{gs1:Array (Option Value)}{tk1_0:Tok}{tk1_1:Tok}{tk1_2:Tok}
 {tk2_0:Tok}
 {tk3_0:Tok}
 {tk4_0:Tok}
 {tk5_0:Tok}
 {tk6_0:Tok}
 {tk7_0:Tok}
 {tk8_0:Tok}
 {tk9_0:Tok}
 {q10:Addr}{gn10:Nat}{tk10_0:Tok}{tx10_0:Tok}{tk10_1:Tok}{tx10_1:Tok}{tk10_2:Tok}{tx10_2:Tok}{tk10_3:Tok}{tx10_3:Tok}{tk10_4:Tok}{tx10_4:Tok}{tk10_5:Tok}{tx10_5:Tok}
 {tk11_0:Tok}
 (a0:Fk K "is_let" V4 f0)
 (a1:Fk K "parts_after" wX f1)
 (a2:Fk K "of_two" V6 f2)
 (a3:oz K "worth" f3) (l3:FnAt K "worth" "worth" PD f3)
 (a4:Fk K "is_name" Wb f4)
 (a5:Fk K "is_rising" v_ f5)
 (a6:Fk K "join_by" ZX f6)
 (a7:Fk K "rows_by" Z0 f7)
 (a8:Fk K "is_figures" vD f8)
 (a9:Fk K "fits" LK f9)
 (a10:Fk K "first_fault" wV f10)
 (a11:Fk K "leaf_of" Wj f11)
 (a12:Fk K "term_of" Wd f12)
 (a13:Fk K "read_term" Zu f13)
 (a14:Fk K "show_row" Yz f14)
 (a15:Fk K "show_rows" v9 f15)
 (a16:Fk K "show_sign" Zg f16)
 (a17:Fk K "show_algebra" wa f17)
 (a18:Fk K "read_number" wZ f18)
 (a19:Fk K "read_row" YA f19)
 (a20:Fk K "read_rows" Zj f20)
 (a21:Fk K "read_some_term" xu f21)
 (a22:Fk K "read_join_table" xf f22)
 (a23:Fk K "read_deed_table" xb f23)
 (a24:Fk K "read_sizes" vI f24)
 (a25:Fk K "read_join" Zt f25)
 (a26:Fk K "read_nothing" wy f26)
 (a27:Fk K "is_new" Qi f27)
 (a28:Fk K "read_deed" Zk f28)
 (a29:Fk K "read_sign" v7 f29)
 (a30:Fk K "line_at" X1 f30)
 (a31:oz K "as_told" f31) (l31:FnAt K "as_told" "as_told" X4 f31)
 (a32:Fk K "read_deeds" vE f32)
 (a33:Fk K "read_signs" vL f33)
 (a34:Fk K "read_algebra" we f34)
 (a35:Fk K "_law_cell_at" wQ f35)
 (a36:Fk K "_law_whole" Xg f36)
 (a37:Fk K "_law_stream" vK f37)
 (a38:Fk K "_law_names" Zo f38)
 (a39:Fk K "_law_divisor" wL f39)
 (a40:Fk K "_law_sums" YF f40)
 (a41:Fk K "_law_rising" vH f41)
 (a42:Fk K "_law_kept" YQ f42)
 (a43:Fk K "_law_joins" Zl f43)
 (a44:Fk K "_law_rows" YM f44)
 (a45:Fk K "_law_plain" Za f45)
 (a46:Fk K "_law_beside" vJ f46)
 (a47:Fk K "_law_made" YV f47)
 (a48:Fk K "_law_order" v3 f48)
 (a49:Fk K "_law_signs" Zr f49)
 (a50:Fk K "_law_algebra" wU f50)
 (a51:Fk K "_law_bent" Yu f51)
 (a52:Fk K "_law_digits" vF f52)
 (a53:Fk K "_law_by_digits" xI f53)
 (a54:Fk K "_law_any" Wa f54)
 (a55:Fk K "_law_shown_rows" xq f55)
 (a56:Fk K "_law_lines" vZ f56)
 (a57:Fk K "_law_renamed" wN f57)
 (a58:Fk K "_law_drawn" Zn f58)
 (a59:Fk K "_law_read_right" xo f59)
 (a60:Fk K "law" B4 f60)
 (cg0:PySem.W.nsIn K mainGlobals "FIGURES"=some (some (.str "0123456789" tk0_0)))
 (cg1:PySem.W.nsIn K mainGlobals "LETTERS"=some (some (.ref q1))) (ch1:K.lookup q1=some ⟨.type "tuple",go1,.seq #[.str "a" tk1_0,.str "b" tk1_1,.str "c" tk1_2] gn1,gs1⟩)
 (cg2:PySem.W.nsIn K mainGlobals "MOST_AROUND"=some (some (.int 6 tk2_0)))
 (cg3:PySem.W.nsIn K mainGlobals "MOST_DEEDS"=some (some (.int 6 tk3_0)))
 (cg4:PySem.W.nsIn K mainGlobals "MOST_FIGURES"=some (some (.int 60 tk4_0)))
 (cg5:PySem.W.nsIn K mainGlobals "MOST_LETTERS"=some (some (.int 8 tk5_0)))
 (cg6:PySem.W.nsIn K mainGlobals "MOST_SIGNS"=some (some (.int 4 tk6_0)))
 (cg7:PySem.W.nsIn K mainGlobals "MOST_TERMS"=some (some (.int 40 tk7_0)))
 (cg8:PySem.W.nsIn K mainGlobals "MOST_VALUES"=some (some (.int 8 tk8_0)))
 (cg9:PySem.W.nsIn K mainGlobals "MOST_WITHIN"=some (some (.int 12 tk9_0)))
 (cg10:PySem.W.nsIn K mainGlobals "PARTS"=some (some (.ref q10))) (ch10:K.lookup q10=some {cls:=.type "dict",data:=.dict #[⟨PyData.keyHash w.params "add",.str "add" tx10_0,.int 2 tk10_0⟩,⟨PyData.keyHash w.params "take",.str "take" tx10_1,.int 2 tk10_1⟩,⟨PyData.keyHash w.params "times",.str "times" tx10_2,.int 2 tk10_2⟩,⟨PyData.keyHash w.params "most",.str "most" tx10_3,.int 2 tk10_3⟩,⟨PyData.keyHash w.params "least",.str "least" tx10_4,.int 2 tk10_4⟩,⟨PyData.keyHash w.params "same",.str "same" tx10_5,.int 4 tk10_5⟩] gn10})
 (cg11:PySem.W.nsIn K mainGlobals "SMALL_LETTERS"=some (some (.str "abcdefghijklmnopqrstuvwxyz" tk11_0)))
 (s10:(q10==sysModules)=false)
 (z0:PySem.W.nsIn K mainGlobals "all"=some none) (z1:PySem.W.nsIn K mainGlobals "bool"=some none) (z2:PySem.W.nsIn K mainGlobals "enumerate"=some none) (z3:PySem.W.nsIn K mainGlobals "int"=some none) (z4:PySem.W.nsIn K mainGlobals "isinstance"=some none) (z5:PySem.W.nsIn K mainGlobals "len"=some none) (z6:PySem.W.nsIn K mainGlobals "list"=some none) (z7:PySem.W.nsIn K mainGlobals "max"=some none) (z8:PySem.W.nsIn K mainGlobals "min"=some none) (z9:PySem.W.nsIn K mainGlobals "range"=some none) (z10:PySem.W.nsIn K mainGlobals "repr"=some none) (z11:PySem.W.nsIn K mainGlobals "reversed"=some none) (z12:PySem.W.nsIn K mainGlobals "sorted"=some none) (z13:PySem.W.nsIn K mainGlobals "str"=some none) (z14:PySem.W.nsIn K mainGlobals "tuple"=some none) (z15:PySem.W.nsIn K mainGlobals "zip"=some none):
 ∃fd:FuncData,(∀(s:Shared) (v:Value),BindsTo s fd ⟨[v],[]⟩ [("_law_script",v)])/\∀base:Heap,K.In base->base.Ns mainGlobals mg->FnOk l.prog w K mg base Ko 28 fa fd ["_law_script"] (nY K K_):=by
 have e:=hfa.symm.trans (PySem.W.mg_of X G a60.1);cases e;obtain⟨a0,_,F0⟩:=a0;obtain⟨a1,_,F1⟩:=a1;obtain⟨a2,_,F2⟩:=a2;obtain⟨_,F3⟩:=l3;obtain⟨a4,_,F4⟩:=a4;obtain⟨a5,_,F5⟩:=a5;obtain⟨a6,_,F6⟩:=a6;obtain⟨a7,_,F7⟩:=a7;obtain⟨a8,_,F8⟩:=a8;obtain⟨a9,_,F9⟩:=a9;obtain⟨a10,_,F10⟩:=a10;obtain⟨a11,_,F11⟩:=a11;obtain⟨a12,_,F12⟩:=a12;obtain⟨a13,_,F13⟩:=a13;obtain⟨a14,_,F14⟩:=a14;obtain⟨a15,_,F15⟩:=a15;obtain⟨a16,_,F16⟩:=a16;obtain⟨a17,_,F17⟩:=a17;obtain⟨a18,_,F18⟩:=a18;obtain⟨a19,_,F19⟩:=a19;obtain⟨a20,_,F20⟩:=a20;obtain⟨a21,_,F21⟩:=a21;obtain⟨a22,_,F22⟩:=a22;obtain⟨a23,_,F23⟩:=a23;obtain⟨a24,_,F24⟩:=a24;obtain⟨a25,_,F25⟩:=a25;obtain⟨a26,_,F26⟩:=a26;obtain⟨a27,_,F27⟩:=a27;obtain⟨a28,_,F28⟩:=a28;obtain⟨a29,_,F29⟩:=a29;obtain⟨a30,_,F30⟩:=a30;obtain⟨_,F31⟩:=l31;obtain⟨a32,_,F32⟩:=a32;obtain⟨a33,_,F33⟩:=a33;obtain⟨a34,_,F34⟩:=a34;obtain⟨a35,_,F35⟩:=a35;obtain⟨a36,_,F36⟩:=a36;obtain⟨a37,_,F37⟩:=a37;obtain⟨a38,_,F38⟩:=a38;obtain⟨a39,_,F39⟩:=a39;obtain⟨a40,_,F40⟩:=a40;obtain⟨a41,_,F41⟩:=a41;obtain⟨a42,_,F42⟩:=a42;obtain⟨a43,_,F43⟩:=a43;obtain⟨a44,_,F44⟩:=a44;obtain⟨a45,_,F45⟩:=a45;obtain⟨a46,_,F46⟩:=a46;obtain⟨a47,_,F47⟩:=a47;obtain⟨a48,_,F48⟩:=a48;obtain⟨a49,_,F49⟩:=a49;obtain⟨a50,_,F50⟩:=a50;obtain⟨a51,_,F51⟩:=a51;obtain⟨a52,_,F52⟩:=a52;obtain⟨a53,_,F53⟩:=a53;obtain⟨a54,_,F54⟩:=a54;obtain⟨a55,_,F55⟩:=a55;obtain⟨a56,_,F56⟩:=a56;obtain⟨a57,_,F57⟩:=a57;obtain⟨a58,_,F58⟩:=a58;obtain⟨a59,_,F59⟩:=a59;obtain⟨a60,_,F60⟩:=a60;obtain⟨_,_,_,_,_,_,_,_,_,rfl,_,_⟩:=F60.ex;let KL:List (Addr×List (Key×V)):=[(q10,[(.inr "add",(.int 2)),(.inr "take",(.int 2)),(.inr "times",(.int 2)),(.inr "most",(.int 2)),(.inr "least",(.int 2)),(.inr "same",(.int 4))])];have hkd:xF l.prog w K (oV KL):=si λp m=>by
  rw[zzR.mp m];exact⟨⟨_,_,ch10,(.str ⟨_,rfl⟩ (.str ⟨_,rfl⟩ (.str ⟨_,rfl⟩ (.str ⟨_,rfl⟩ (.str ⟨_,rfl⟩ (.str ⟨_,rfl⟩ .nil))))))⟩,show([.inr "add",.inr "take",.inr "times",.inr "most",.inr "least",.inr "same"]:List Key).Nodup by decide +kernel,show 6<=sizeLine by decide,s10⟩
 have LK10:KL.lookup q10=some ([(.inr "add",(.int 2)),(.inr "take",(.int 2)),(.inr "times",(.int 2)),(.inr "most",(.int 2)),(.inr "least",(.int 2)),(.inr "same",(.int 4))]:List (Key×V)):=by
  show List.lookup q10 ([(q10,[(.inr "add",(.int 2)),(.inr "take",(.int 2)),(.inr "times",(.int 2)),(.inr "most",(.int 2)),(.inr "least",(.int 2)),(.inr "same",(.int 4))])]:List (Addr×List (Key×V)))=_;rw[List.lookup_cons,beq_self_eq_true]
 have T:Txt K (oV KL) mg ⟨_,_,_,_,_,_,_,_,_,_,_,_,_,_,_,_,_,_,_,_,_,_,_,_,_,_,_,_,_,_,_,_,_,_,_,_,_,_,_,_,_,_,_,_,_,_,_,_,_,_,_,_,_,_,_,_,_,_,_,_,_,_,_,_,_,_,_,_,_,_,_,_,_,_,_,_,_,_,_,_,_,_,_,_,_,_,_,_,_,_,_,_,_,_,_,_,_,_,_,_,_,_,_,_,_,_,_,_,_,_,_,_,_,_,_,_,_,_,_,_,_,_⟩:=⟨⟨F0,bs F0,PySem.W.mg_of X G a0⟩,⟨F1,bs F1,PySem.W.mg_of X G a1⟩,⟨F2,bs F2,PySem.W.mg_of X G a2⟩,F3,bs F3,PySem.W.mg_of X G a3,⟨F4,bs F4,PySem.W.mg_of X G a4⟩,⟨F5,bs F5,PySem.W.mg_of X G a5⟩,⟨F6,bs F6,PySem.W.mg_of X G a6⟩,⟨F7,bs F7,PySem.W.mg_of X G a7⟩,⟨F8,bs F8,PySem.W.mg_of X G a8⟩,⟨F9,bs F9,PySem.W.mg_of X G a9⟩,⟨F10,bs F10,PySem.W.mg_of X G a10⟩,⟨F11,bs F11,PySem.W.mg_of X G a11⟩,⟨F12,bs F12,PySem.W.mg_of X G a12⟩,⟨F13,bs F13,PySem.W.mg_of X G a13⟩,⟨F14,bs F14,PySem.W.mg_of X G a14⟩,⟨F15,bs F15,PySem.W.mg_of X G a15⟩,⟨F16,bs F16,PySem.W.mg_of X G a16⟩,⟨F17,bs F17,PySem.W.mg_of X G a17⟩,⟨F18,bs F18,PySem.W.mg_of X G a18⟩,⟨F19,bs F19,PySem.W.mg_of X G a19⟩,⟨F20,bs F20,PySem.W.mg_of X G a20⟩,⟨F21,bs F21,PySem.W.mg_of X G a21⟩,⟨F22,bs F22,PySem.W.mg_of X G a22⟩,⟨F23,bs F23,PySem.W.mg_of X G a23⟩,⟨F24,bs F24,PySem.W.mg_of X G a24⟩,⟨F25,bs F25,PySem.W.mg_of X G a25⟩,⟨F26,bs F26,PySem.W.mg_of X G a26⟩,⟨F27,bs F27,PySem.W.mg_of X G a27⟩,⟨F28,bs F28,PySem.W.mg_of X G a28⟩,⟨F29,bs F29,PySem.W.mg_of X G a29⟩,⟨F30,bs F30,PySem.W.mg_of X G a30⟩,F31,bs F31,PySem.W.mg_of X G a31,⟨F32,bs F32,PySem.W.mg_of X G a32⟩,⟨F33,bs F33,PySem.W.mg_of X G a33⟩,⟨F34,bs F34,PySem.W.mg_of X G a34⟩,⟨F35,bs F35,PySem.W.mg_of X G a35⟩,⟨F36,bs F36,PySem.W.mg_of X G a36⟩,⟨F37,bs F37,PySem.W.mg_of X G a37⟩,⟨F38,bs F38,PySem.W.mg_of X G a38⟩,⟨F39,bs F39,PySem.W.mg_of X G a39⟩,⟨F40,bs F40,PySem.W.mg_of X G a40⟩,⟨F41,bs F41,PySem.W.mg_of X G a41⟩,⟨F42,bs F42,PySem.W.mg_of X G a42⟩,⟨F43,bs F43,PySem.W.mg_of X G a43⟩,⟨F44,bs F44,PySem.W.mg_of X G a44⟩,⟨F45,bs F45,PySem.W.mg_of X G a45⟩,⟨F46,bs F46,PySem.W.mg_of X G a46⟩,⟨F47,bs F47,PySem.W.mg_of X G a47⟩,⟨F48,bs F48,PySem.W.mg_of X G a48⟩,⟨F49,bs F49,PySem.W.mg_of X G a49⟩,⟨F50,bs F50,PySem.W.mg_of X G a50⟩,⟨F51,bs F51,PySem.W.mg_of X G a51⟩,⟨F52,bs F52,PySem.W.mg_of X G a52⟩,⟨F53,bs F53,PySem.W.mg_of X G a53⟩,⟨F54,bs F54,PySem.W.mg_of X G a54⟩,⟨F55,bs F55,PySem.W.mg_of X G a55⟩,⟨F56,bs F56,PySem.W.mg_of X G a56⟩,⟨F57,bs F57,PySem.W.mg_of X G a57⟩,⟨F58,bs F58,PySem.W.mg_of X G a58⟩,⟨F59,bs F59,PySem.W.mg_of X G a59⟩,⟨F60,bs F60,PySem.W.mg_of X G a60⟩,GC.str (PySem.W.mg_of X G cg0),GC.tup (vs:=[(.str "a"),(.str "b"),(.str "c")]) (PySem.W.mg_of X G cg1) ch1 (show 3<=sizeLine by decide) (.cons ⟨_,rfl⟩ (.cons ⟨_,rfl⟩ (.cons ⟨_,rfl⟩ .nil))) (λ_ _=>(.cons (.str _) (.cons (.str _) (.cons (.str _) .nil)))),GC.int (PySem.W.mg_of X G cg2),GC.int (PySem.W.mg_of X G cg3),GC.int (PySem.W.mg_of X G cg4),GC.int (PySem.W.mg_of X G cg5),GC.int (PySem.W.mg_of X G cg6),GC.int (PySem.W.mg_of X G cg7),GC.int (PySem.W.mg_of X G cg8),GC.int (PySem.W.mg_of X G cg9),GC.dct (PySem.W.mg_of X G cg10) LK10 (λ_ _=>(.cons (.int _) (.cons (.int _) (.cons (.int _) (.cons (.int _) (.cons (.int _) (.cons (.int _) .nil))))))),GC.str (PySem.W.mg_of X G cg11),PySem.W.mg_none_of X G z0,PySem.W.mg_none_of X G z1,PySem.W.mg_none_of X G z2,PySem.W.mg_none_of X G z3,PySem.W.mg_none_of X G z4,PySem.W.mg_none_of X G z5,PySem.W.mg_none_of X G z6,PySem.W.mg_none_of X G z7,PySem.W.mg_none_of X G z8,PySem.W.mg_none_of X G z9,PySem.W.mg_none_of X G z10,PySem.W.mg_none_of X G z11,PySem.W.mg_none_of X G z12,PySem.W.mg_none_of X G z13,PySem.W.mg_none_of X G z14,PySem.W.mg_none_of X G z15⟩;exact⟨_,λs v=>.of_eq rfl,λbase _ _=>(qK T hkd).F.imp λvs H Q E h=>h _⟩
theorem walk{l:PySem.W.OpenLaw}{q:Program}{loose:List Str}{XP:(Str->Option Value)->Heap->Prop}{YP:World->Heap->Prop}{d:DefRec}{K:Params->zzA}(hn:l.most=some 63)(hdf:d.params.defaults=[])
 (hY:∀(w:World) (h:Heap),YP w h->(K w.params).In h) (hm:∀ns:List Int,ns.length<=63->K_ [(true,.lst (ns.map D.int))]=some (.lf true (.bl true)))
 (F:∀(w:World) (mg:Str->Option Value) (fa:Addr) (h:Heap),(K w.params).In h->h.Ns mainGlobals mg->mg d.name=some (.ref fa)->
  ∃fd:FuncData,(∀(s:Shared) (u:Value),BindsTo s fd ⟨[u],[]⟩ [("_law_script",u)])/\∀base:Heap,(K w.params).In base->base.Ns mainGlobals mg->FnOk l.prog w (K w.params) mg base Ko 28 fa fd ["_law_script"] (nY (K w.params) K_)):
 PySem.W.WalkO q loose XP YP l.row.toRowW d [] (λf vs=>PySem.call f vs):=
 L2.walk_of (n:=63) (k:=28) (x:="_law_script") (CX:=λ_=>Ko) (sp:=λw=>nY (K w.params) K_) hn (by decide) hdf ⟨rfl,by decide,by decide,rfl⟩ hY F (λ_ _ a ns hl _ hS kd=>um (hm ns hl) hS) λ_ _ _ _ _ z=>z
abbrev yS(x:Int):O:=.lf true (.int x)
abbrev sI(x:Int):Option O:=some (yS x)
abbrev sT(d:D):Option O:=some (.lf true d)
abbrev sN(os:List O):Option O:=some (.nd .ls os)
abbrev TZ:Type:=List (List Int)
abbrev DZ:Type:=List (Str×TZ)
abbrev SS:Type:=List (Str×List Int)
theorem xQ{f:EF}{as as1:AS}{o:O}(h:f as=some (.ow o,as1))(hs:o.str=true):zI f as=some (.rt o):=by
 unfold zI;rw[h];show((if o.str=true then some o else none).bind _)=_;rw[if_pos hs];rfl
theorem Wn{n:Nat}(h:n<=1000000):n<=sizeLine:=zzO h (by decide)
theorem yn:∀xs:List Int,(xs.map yS).all O.isLf=true/\O.strs (xs.map yS)=true/\O.toDs (xs.map yS)=xs.map D.int
 | []=>⟨rfl,rfl,rfl⟩
 |x::r=>⟨(yn r).1,(yn r).2.1,congrArg (D.int x :: ·) (yn r).2.2⟩
theorem L0(xs:List Int):(xs.map D.int).map (O.lf true)=xs.map yS:=by rw[zyB];rfl
theorem ua{as:AS}{i:Nat}{os:List O}{fl fh:OF}{lo hi:Option Int}(h:as[i]? = some (sN os))(hl:os.all O.isLf=true)(hs:O.strs os=true)(h1:fl as=some (lo,as))(h2:fh as=some (hi,as)):
 Ym (fV i) fl fh Wk as=some (.ow (.nd .ls ((cutD (O.toDs os) lo hi).map (O.lf true))),as):=by
 unfold Ym;rw[Wv h];show((fl as).bind _)=_;rw[h1];show((fh as).bind _)=_;rw[h2];show((RV.view as (.bo i)).bind _)=_;rw[QX h];have e:(O.nd .ls os).kl=some true:=by simp only[O.kl,hl,if_true,hs]
 rw[e];show(wrap (some true) (.fl (cutD (O.toDs os) lo hi))).bind _=_;show(if((cutD (O.toDs os) lo hi).all zD||true)=true then some (RV.ow (.nd .ls ((cutD (O.toDs os) lo hi).map (G_ true))))else none:Option RV).bind _=_;rw[if_pos (by simp),vG];rfl
theorem HH{x:D}{xs:List D}:cutD (x::xs) (some 1) none=xs:=by
 have:=Xy (xs:=[x]) (ys:=xs);have e:Wk (.lst ([x]++xs)) (some (([x]:List D).length:Int)) none=some (.fl (cutD (x::xs) (some 1) none)):=rfl;rw[e]at this;injection this with this
 injection this
abbrev lp:SF:=(zh (zx true 3 (f2 (f2 (f2 (f2 zG zG zy) (f2 (fC (.int 48271)) zG zy) zd) zZ zd) (fC (.int 2147483647)) zm))
 (ya (yt 2 (dC (f2 (f2 (f2 zG (fC (.int 40692)) zy) (f2 (fC (.int 7)) zZ zy) zd) (fC (.int 2147483399)) zm) dN) yx)))
theorem Eo(ys:List Int)(w:Int):(ys++[w]).map yS=ys.map yS++[O.lf true (.int w)]:=by rw[zyL];rfl
theorem Tg{A B:Option O}:∀(n:Nat) (k x:Int) (ys:List Int) (e4:Option O),0<=k->k+n<=1000->0<=x->x<2 ^ 40->ys.length+n<=1000->(∀y ∈ ys,0<=y/\y<2147483399)->∃(x':Int) (zs:List Int) (e4':Option O),zs.length=ys.length+n/\(∀z ∈ zs,0<=z/\z<2147483399)/\
 forL Vy lp (yP k n) [A,B,sN (ys.map yS),sI x,e4]=some (.nx [A,B,sN (zs.map yS),sI x',e4'])
 |0,k,x,ys,e4,_,_,_,_,_,h=>⟨x,ys,e4,rfl,h,rfl⟩
 |n+1,k,x,ys,e4,hk,hkn,hx0,hx1,hl,h=>by
  have y0:=zyM (x*x+48271*x+k) (show(2147483647:Int)≠0 by decide);have y1:=zyH (x*x+48271*x+k) (show(0:Int)<2147483647 by decide);have w0:=zyM ((x*x+48271*x+k)%2147483647*40692+7*k) (show(2147483399:Int)≠0 by decide);have w1:=zyH ((x*x+48271*x+k)%2147483647*40692+7*k) (show(0:Int)<2147483399 by decide);obtain⟨x',zs,e4',h1,h2,h3⟩:=Tg (A:=A) (B:=B) n (k+1) ((x*x+48271*x+k)%2147483647) (ys++[((x*x+48271*x+k)%2147483647*40692+7*k)%2147483399]) (sI k) (by omega) (by omega) y0 (Int.lt_trans y1 (by decide)) (by rw[zzJ];show ys.length+1+n<=_;omega) (λz m=>by
   rcases zzM.mp m with m|m
   . exact h z m
   . rw[zzR.mp m];exact⟨w0,w1⟩)
  refine⟨x',zs,e4',by rw[h1,zzJ];show ys.length+1+n=_;omega,h2, ?_⟩;rw[Eo]at h3;rw[wG];have bx:x.natAbs<big:=zK (Int.lt_of_lt_of_le (by decide) hx0) (Int.lt_trans hx1 (by decide));have bk:k.natAbs<big:=zK (by omega) (by omega);exact Yl (as1:=[A,B,sN (ys.map yS),sI x,sI k]) rfl (zt (yc (i:=3) (yb (yp (yp (yL (za rfl) (za rfl) bx bx) (yL zb (za rfl) (zK (by decide) (by decide)) bx)) (za rfl)) zb (by decide)) (zj rfl))
   (Ta (i:=2) rfl (by rw[zzB];exact yA (by omega)) (yb (yp (yL (za rfl) zb (zK (Int.lt_of_lt_of_le (by decide) y0) (Int.lt_trans y1 (by decide))) (zK (by decide) (by decide))) (yL zb (za rfl) (zK (by decide) (by decide)) bk)) zb (by decide)))) h3
theorem Hs{s:Bool}{c m:Int}(h0:0<=m)(h1:m<=900):∃xs:List Int,(xs.length:Int)=m/\(∀x ∈ xs,0<=x/\x<2147483399)/\yk [(true,.int c),(true,.int m)]=sN (xs.map yS):=by
 have y0:=zyM c (show(2147483647:Int)≠0 by decide);have y1:=zyH c (show(0:Int)<2147483647 by decide);obtain⟨x',zs,e4,z1,z2,hf⟩:=Tg (A:=sI c) (B:=sI m) (m+1).toNat 0 (c%2147483647+48271) [] none (by omega) (by omega) (by omega) (by omega) (by show 0+_<=_;omega) (λ_ m=>nomatch m);cases zs with
 |nil=>rw[List.length_nil]at z1;simp at z1;omega
 |cons z r=>
  refine⟨r,by rw[zzT]at z1;simp at z1;omega,λx hx=>z2 x (zzD _ hx), ?_⟩;obtain⟨i1,i2,i3⟩:=yn (z::r);have hs:=ua (as:=[sI c,sI m,sN ((z::r).map yS),sI x',e4]) (i:=2) (fl:=oS zC) (fh:=oN) (lo:=some 1) (hi:=none) rfl i1 i2 rfl rfl;rw[i3]at hs;have hc:cutD ((z::r).map D.int) (some 1) none=r.map D.int:=HH;rw[hc,L0]at hs;refine yC rfl (zt (yg (i:=2) (yN zF (wz rfl)) (zj rfl)) (zt (yc (i:=3) (yp (yb (za rfl) zb (by decide)) zb) (zj rfl)) (zt (xB (wW (zl (yp (za rfl) zb) zo) (by omega) (by omega)) hf) ?_)));exact xQ hs (yn r).2.1
inductive Tm where
 |num (v:Int)|nam (x:Str)|op (w:Str) (x y:Tm)|sm (x y z u:Tm)
theorem OR{x y:Str}(h:x.length+y.length<=sizeLine):Wl .Add (.str x) (.str y)=some (.im (.str (x++y))):=if_pos h
theorem zY(x y:Str):(x++y).length=x.length+y.length:=by rw[len_eq,app_list,zzJ,<-len_eq,<-len_eq]
theorem FV(d e:D):zw .In d e=(DI d e).bind λb=>some (SM b):=rfl
theorem E7{x:Str}(h:∀c ∈ x.cps.toList,48<=c/\c<=57):yy zP zM (f2 zf (fC (.str "0123456789")) (zw .In)) [none] (vp x)=some ((x.cps.toList.map λ_=>D.bl true).map (O.lf true)):=by
 unfold vp;generalize x.cps.toList=l at h
 induction l with
 |nil=>rfl
 |cons c r ih=>exact Wc (as1:=[sT (.str ⟨#[c]⟩)]) rfl (zu (za rfl) zb (by rw[FV,O7 (h c (by simp))];rfl) rfl) (ih λd m=>h d (zzD _ m))
theorem PZ:∀l:List Nat,ZJ (l.map λ_=>D.bl true)=some (l.map λ_=>true)
 | []=>rfl
 |_::r=>by show(ZJ (r.map _)).bind _=_;rw[PZ r];rfl
theorem EV:∀l:List Nat,(l.map λ_=>true).all id=true
 | []=>rfl
 |_::r=>EV r
theorem str_beq{a b:Str}(h:a≠b):(a==b)=false:=beq_eq_false_iff_ne.mpr h
theorem uG{s u:Bool}{v:Int}(h0:0<=v)(h1:v<10 ^ 60):wu [(s,.str (tx v)),(u,.int 60)]=sT (.bl true):=by
 have hl:=xa h0 h1;have hne:=Dl h0;have hd:=Wi h0;have hlen:yQ [.str (tx v)]=some (.im (.int (tx v).length)):=if_pos (Wn (by omega));have ne0:tx v≠("":Str):=λe=>hne (by rw[e];rfl);refine yC rfl (zt (zN (vh (k:=false) (zp (z_ (c:=false) (za rfl) zb (congrArg some (str_beq ne0))) rfl) (λ_=>zp (XA (yO (zl (za rfl) zo) hlen rfl) (za rfl)) ?_) (λh=>nomatch h)) rfl) (zt (zN ?_ rfl) (y_ (YE (x:=.lst ((tx v).cps.toList.map λ_=>D.bl true)) ⟨_,xM (Dn (za rfl)) (by unfold vp;rw[zzB,<-len_eq];exact Wn (by omega)) (E7 hd),Q1 _,congrArg D.lst (VO _)⟩ ?_))))
 . exact congrArg some (zyG (by show ¬(60:Int)<((tx v).length:Int);omega))
 . -- no nought ahead
   have hat:∃c r,(tx v).cps.toList=c::r:=by
    cases e:(tx v).cps.toList with
    |nil=>exact absurd e hne
    |cons c r=>exact⟨c,r,rfl⟩
   obtain⟨c,r,ec⟩:=hat;have hix:zA (.str (tx v)) (.int 0)=some (.im (.str ⟨#[c]⟩)):=by
    show(if(tx v).length<=sizeLine then(Pk (tx v).cps.toList 0).bind _ else none)=_;rw[if_pos (Wn (by omega)),show(0:Int)=((0:Nat):Int)from rfl,wt (v:=c) (by rw[ec];rfl)];rfl
   by_cases hz:v=0
   . subst hz;refine vn (k:=((⟨#[c]⟩:Str)=="0")) (l:=false) (zp (z_ (zu (za rfl) zb hix rfl) zb rfl) rfl) (λ_=>?_) (λ_=>rfl);exact zp (V2 (c:=true) (za rfl) zb (by rw[J_];exact congrArg some (by decide +kernel))) rfl
   . obtain⟨c',r',e',hc'⟩:=Ol (v:=v) (by omega);have:c=c':=by rw[ec]at e';exact(List.cons.inj e').1
     subst this;refine vn (k:=false) (l:=false) (zp (z_ (c:=false) (zu (za rfl) zb hix rfl) zb ?_) rfl) (λh=>nomatch h) (λ_=>rfl);show some ((⟨#[c]⟩:Str)==("0":Str))=_;refine congrArg some (str_beq λe=>hc' ?_);have:=congrArg (λq:Str=>q.cps.toList) e;have e2:(("0":Str)).cps.toList=[48]:=by decide +kernel
     simp only[e2]at this;simpa using this
 . show(ZJ _).bind _=_;rw[PZ];show some (R0.im (.bl ((List.map (λ_=>true) (tx v).cps.toList).all id)))=_;rw[EV]
theorem Ex(x:Str):∀nm:List Str,anyF (λy=>xm 50 y (.str x)) (nm.map .str)=some (nm.any (· == x))
 | []=>rfl
 |n::r=>by
  show(some (n==x)).bind (λb=>(anyF _ (r.map .str)).bind _)=_;rw[zyK,Ex x r];rfl
abbrev yR(r:List Int):O:=.nd .ls (r.map yS)
abbrev zH(r:List Int):D:=.lst (r.map D.int)
theorem yV:∀T:TZ,O.strs (T.map yR)=true/\O.toDs (T.map yR)=T.map zH
 | []=>⟨rfl,rfl⟩
 |r::T=>⟨by show(O.strs (r.map yS)&&O.strs (T.map yR))=true;rw[(yn r).2.1,(yV T).1];rfl,by
  show D.lst (O.toDs (r.map yS))::O.toDs (T.map yR)=_;rw[(yn r).2.2,(yV T).2];rfl⟩
theorem Z2{g:GF}{fe:EF}{as0 as1:AS}{y:wg}{r:List wg}{o:O}{os:List O}(h1:g y as0=some as1)(h2:fe as1=some (.ow o,as1))(hs:o.str=true)(h3:yy g zM fe as0 r=some os):yy g zM fe as0 (y::r)=some (o::os):=by
 unfold yy;rw[h1];show((fe as1).bind _)=_;rw[h2];show(if o.str=true then _ else _)=_;rw[if_pos hs,h3];rfl
theorem y6:∀(n:Nat) (k:Int),(yP k n).length=n
 |0,_=>rfl
 |n+1,k=>by rw[wG];exact congrArg (· + 1) (y6 n (k+1))
theorem Xe{f:D->D->Option Bool}:∀{xs:List D},(∀x ∈ xs,f x x=some true)->HY f xs xs=some true
 | [],_=>rfl
 |x::r,h=>by
  show(f x x).bind _=_;rw[h x (zzF),zyK,Xe (xs:=r) λy m=>h y (zzD _ m)];rfl
theorem OW(w:Bool)(ds:List D):(kids w ds).length=ds.length:=by unfold kids;rw[zzB]
section
variable{as:AS}{a b f:EF}{x y z:D}
theorem ve{i:Nat}(h:as[i]? = some (sT x)):WE (fV i) as x:=(za h).e
theorem ce:WE (fC x) as x:=zb.e
theorem IB{fi:IF}{cap:List (Option Nat)}{g:GF}{fe:EF}{xs:List wg}{F:wg->D}(h1:fi as=some (xs,as))(hl:xs.length<=sizeLine)(H:∀x ∈ xs,∃as1,g x (wC cap as)=some as1/\WE fe as1 (F x)):WE (zq fi cap g zM fe) as (.lst (xs.map F)):=by
 have key:∀l:List wg,(∀x ∈ l,x ∈ xs)->∃os,yy g zM fe (wC cap as) l=some os/\O.strs os=true/\O.toDs os=l.map F:=λl=>by
  induction l with
  |nil=>intro _;exact⟨[],rfl,rfl,rfl⟩
  |cons d r ih=>
   intro hs;obtain⟨os,e1,e2,e3⟩:=ih λx m=>hs x (zzD _ m);obtain⟨as1,g1,o,g2,g3,g4⟩:=H d (hs d (by simp));exact⟨o::os,Z2 g1 g2 g3 e1,by show(o.str&&O.strs os)=true;rw[g3,e2];rfl,by show o.toD::O.toDs os=_;rw[g4,e3];rfl⟩
 obtain⟨os,e1,e2,e3⟩:=key xs λ_ m=>m;exact⟨_,xM h1 hl e1,e2,congrArg D.lst e3⟩
theorem IV{α:Type}{cap:List (Option Nat)}{fe fi:EF}{l:List α}{e F:α->D}(h:WE fi as (.lst (l.map e)))(hl:l.length<=1000)(H:∀v ∈ l,∃as1,gN 0 (true,e v) (wC cap as)=some as1/\WE fe as1 (F v)):WE (zq (yB fi) cap zP zM fe) as (.lst (l.map F)):=by
 have key:∀l':List α,(∀x ∈ l',x ∈ l)->∃os,yy zP zM fe (wC cap as) ((l'.map e).map λd=>(true,d))=some os/\O.strs os=true/\O.toDs os=l'.map F:=λl'=>by
  induction l' with
  |nil=>intro _;exact⟨[],rfl,rfl,rfl⟩
  |cons d r ih=>
   intro hs;obtain⟨os,e1,e2,e3⟩:=ih λx m=>hs x (zzD _ m);obtain⟨as1,g1,o,g2,g3,g4⟩:=H d (hs d (by simp));exact⟨o::os,Z2 g1 g2 g3 e1,by show(o.str&&O.strs os)=true;rw[g3,e2];rfl,by show o.toD::O.toDs os=_;rw[g4,e3];rfl⟩
 obtain⟨os,e1,e2,e3⟩:=key l λ_ m=>m;exact⟨_,xM (WR h) (by rw[zzB,zzB];exact Wn (by omega)) e1,e2,congrArg D.lst e3⟩
theorem Y7{u v:Str}(ha:WE a as (.str u))(hb:WE b as (.str v))(h:u.length+v.length<=1000000):WD (f2 a b zd) as true (.str (u++v)):=Fm ha hb (OR (Wn h))
theorem TN:∀ps:List Str,Qv (ps.map D.str)=some ps
 | []=>rfl
 |p::r=>by show(Qv (r.map D.str)).bind _=_;rw[TN r];rfl
theorem Tf{sep:Str}{ps:List Str}(h:(ps.map (·.length)).sum+ps.length*sep.length<=16777216):xi (.str sep) [.lst (ps.map D.str)]=some (.im (.str (Str.join sep ps))):=by
 show(Qv (ps.map D.str)).bind _=_;rw[TN];show(if _ then some (R0.im (.str (Txt.join sep ps)))else none)=_;rw[if_pos h,N9]
theorem LS{n:Nat}:∀{ps:List Str},(∀p ∈ ps,p.length<=n)->(ps.map (·.length)).sum<=ps.length*n
 | [],_=>by simp
 |p::r,h=>by
  have:=LS λp m=>h p (zzD _ m);have:=h p (by simp);rw[zyR,List.sum_cons,zzT,Nat.succ_mul];omega
theorem Z5(sep:Str){n:Nat}:∀{ps:List Str},(∀p ∈ ps,p.length<=n)->(Str.join sep ps).length<=ps.length*(n+sep.length)
 | [],_=>Nat.zero_le _
 | [p],h=>by have:=h p (by simp);show p.length<=1*_;omega
 |p::q::r,h=>by
  have ih:=Z5 sep (ps:=q::r) λp m=>h p (zzD _ m);have:=h p (by simp);rw[len_eq,Yn,zzJ,zzJ,<-len_eq,<-len_eq,<-len_eq,zzT (a:=p),Nat.succ_mul];omega
theorem joinM{α:Type}{fr:EF}{sep:Str}{l:List α}{g:α->Str}{n:Nat}(h:WE fr as (.lst (l.map λv=>D.str (g v))))(hp:∀v ∈ l,(g v).length<=n)(hl:l.length*(n+sep.length)<=1000000):WD (ye .str (fC (.str sep)) (aC fr aN) xi) as true (.str (Str.join sep (l.map g))):=by
 have e:(l.map λv=>D.str (g v))=(l.map g).map D.str:=by rw[zyB];rfl
 rw[e]at h;have:=LS (ps:=l.map g) (n:=n) λp m=>by obtain⟨v,mv,rfl⟩:=zxB.mp m;exact hp v mv
 rw[zzB]at this;exact Py zb rfl (y7 h zo) (Tf (by rw[zzB];rw[Nat.mul_add]at hl;omega)) rfl
theorem Fi{v:Int}(h:WE a as (.int v))(h0:0<=v)(h1:v<10 ^ 60):WD (fP (aC a aN) wF) as true (.str (tx v)):=YE h (by show Ao [.int v]=_;exact if_pos (OK h0 h1))
theorem Ul{ds:List D}{k:Nat}(h:ds[k]? = some x):zA (.lst ds) (.int (k:Int))=some (.im x):=by
 have e:=wt h;show Ji (Pk _ _)=_;rw[e];rfl
theorem HK{x y:Str}{ps:List Str}(hy:(y.length==0)=false)(e:Txt.split x y=ps)(hx:x.length<=1000000)(hl:ps.length<=1000000):xZ (.str x) [.str y]=some (.fl (ps.map .str)):=by
 have z:(Builtin.Str.partsBetween x (Builtin.Str.occurrences x y 0 x.length (x.length+1)) y.length).length<=sizeLine:=by rw[<-XO,e];exact Wn hl
 show(if _ then some (R0.fl ((Txt.split x y).map .str))else none)=_;rw[if_pos ⟨hy,Wn hx,z⟩,e]
theorem Gz{x y:Str}{ps:List Str}(h:WE a as (.str x))(hy:(y.length==0)=false)(e:Txt.split x y=ps)(hx:x.length<=1000000)(hl:ps.length<=1000000)(hd:WD a as true (.str x)):WE (ye .str a (aC (fC (.str y)) aN) xZ) as (.lst (ps.map .str)):=
 Ib hd rfl ce (HK hy e hx hl)
end
abbrev sb:Str:=" "
abbrev sc:Str:=", "
abbrev sn:Str:="\n"
theorem L4:sb.cps.toList=32::[]:=by decide +kernel
theorem qJ:sc.cps.toList=44::[32]:=by decide +kernel
theorem oO:sn.cps.toList=10::[]:=by decide +kernel
theorem Mf:(sb.length==0)=false:=by decide +kernel
theorem ox:(sc.length==0)=false:=by decide +kernel
theorem nR:(sn.length==0)=false:=by decide +kernel
theorem Hz:sb.length=1:=by decide +kernel
theorem rq:sc.length=2:=by decide +kernel
theorem sf:sn.length=1:=by decide +kernel
def rT(r:List Int):Str:=Str.join sb (r.map tx)
def tT(T:TZ):Str:=Str.join sc (T.map rT)
def Vs(r:List Int):Prop:=r.length<=8/\∀v ∈ r,0<=v/\v<10 ^ 60
def Ts(T:TZ):Prop:=T.length<=8/\∀r ∈ T,Vs r
theorem NC{r:List Int}(h:Vs r):(rT r).length<=500:=by
 have:=Z5 sb (ps:=r.map tx) (n:=60) λp m=>by obtain⟨v,mv,rfl⟩:=zxB.mp m;exact xa (h.2 v mv).1 (h.2 v mv).2
 rw[zzB,Hz]at this;have:=h.1;unfold rT;omega
theorem vV{T:TZ}(h:Ts T):(tT T).length<=5000:=by
 have:=Z5 sc (ps:=T.map rT) (n:=500) λp m=>by obtain⟨v,mv,rfl⟩:=zxB.mp m;exact NC (h.2 v mv)
 rw[zzB,rq]at this;have:=h.1;unfold tT;omega
theorem Gp{as:AS}{fi:EF}{r:List Int}(hr:Vs r)(h:WE fi as (zH r)):WE (zq (yB fi) [none] zP zM (fP yJ wF)) as (.lst (r.map λv=>D.str (tx v))):=
 IV h (by have:=hr.1;omega) λv m=>⟨_,rfl,(Fi (ve rfl) (hr.2 v m).1 (hr.2 v m).2).e⟩
theorem B8{as:AS}{fi:EF}{r:List Int}(hr:Vs r)(h:WE fi as (zH r)):WD (ye .str (fC (.str " ")) (aC (zq (yB fi) [none] zP zM (fP yJ wF)) aN) xi) as true (.str (rT r)):=
 joinM (n:=60) (Gp hr h) (λv m=>xa (hr.2 v m).1 (hr.2 v m).2) (by have:=hr.1;show _*(60+sb.length)<=_;rw[Hz];omega)
theorem MW{r:List Int}(hr:Vs r):Vi [(true,zH r)]=sT (.str (rT r)):=yC rfl (y_ (B8 hr (ve rfl)))
theorem V3{T:TZ}(hT:Ts T):va [(true,.lst (T.map zH))]=sT (.str (("rows ":Str)++tT T)):=
 yC rfl (y_ (Y7 ce (joinM (n:=500) (IV (ve rfl) (by have:=hT.1;omega) λr m=>⟨_,rfl,(Yw (ve rfl) (MW (hT.2 r m))).e⟩) (λr m=>NC (hT.2 r m)) (by have:=hT.1;show _*(500+sc.length)<=_;rw[rq];omega)).e (by have:=vV hT;have:("rows ":Str).length=5:=(by decide +kernel);show _+(tT T).length<=_;omega)))
theorem Ma{T:TZ}(hT:Ts T):yM [(true,.lst (T.map zH))]=sT (.str (tT T)):=
 yC rfl (y_ (joinM (n:=500) (IV (ve rfl) (by have:=hT.1;omega) λr m=>⟨_,rfl,(B8 (hT.2 r m) (ve rfl)).e⟩) (λr m=>NC (hT.2 r m)) (by have:=hT.1;show _*(500+sc.length)<=_;rw[rq];omega)))
section
variable{as:AS}{a b c:EF}{s t u:Bool}{i j k:Int}
theorem JW(ha:WD a as s (.int i))(hb:WD b as t (.int j))(hc:WD c as u (.int k)):WD (XX a b c (zw .LtE) (zw .LtE)) as true (.bl (decide (i<=j)&&decide (j<=k))):=by
 unfold WD at *
 by_cases h:i<=j
 . unfold XX;rw[ha];simp only[zyK];rw[hb];simp only[zyK];simp only[RV.frz,O.frz,RV.view,O.toD,O.str,zyK,zw,Fe,Dh,Uu,SM,h,decide_true,hc,Bool.true_and];rfl
 . unfold XX;rw[ha];simp only[zyK];rw[hb];simp only[zyK];simp only[RV.frz,O.frz,RV.view,O.toD,O.str,zyK,zw,Fe,Dh,Uu,SM,h,decide_false,Bool.false_and]
end
theorem Ny{v lo hi:Int}(h0:0<=v)(h1:v<10 ^ 60)(hl:lo<=v)(hh:v<=hi):y9 [(true,.str (tx v)),(true,.int lo),(true,.int hi)]=sT (.int v):=by
 have hi2:UW [.str (tx v)]=some (.im (.int v)):=by
  show(if(tx v).length<=640 then(PySem.intText? (tx v)).bind _ else none)=_;rw[if_pos (by have:=xa h0 h1;omega),CP h0 h1];rfl
 exact yC rfl (zt (zN (ZK (k:=true) (zp (Vr (ve rfl) ce (uG h0 h1)) rfl)) rfl) (zt (yc (i:=3) (YE (ve rfl) hi2) (zj rfl)) (y_ (D9 (zp (JW (za rfl) (za rfl) (za rfl)) (by rw[zyN hl,zyN hh];rfl)) (za rfl)))))
def In(n:Int)(r:List Int):Prop:=∀v ∈ r,0<=v/\v<n
theorem Sm:∀r:List Int,anyF (λy=>xm 50 y .non) (r.map D.int)=some false
 | []=>rfl
 |v::r=>by show(anyF _ (r.map D.int)).bind _=_;rw[Sm r];rfl
section
variable{as:AS}{f a b:EF}{x y z:D}
def WV(f:EF)(as:AS)(d:D):Prop:=∃r lv,f as=some (r,as)/\r.frz.view as=some (d,lv)
theorem p_{s:Bool}(h:WD f as s x):WV f as x:=⟨_,_,h,rfl⟩
theorem rS(h:WE f as x):WV f as x:=by
 obtain⟨o,h1,h2,h3⟩:=h;exact⟨.ow o,_,h1,by rw[<-h3];rfl⟩
theorem bv{i:Nat}{k:PF.Kind}{os:List O}(h:as[i]? = some (some (.nd k os))):WV (fV i) as (O.nd k os).toD:=⟨.bo i,_,Wv h,QX h⟩
theorem rR{g:D->D->Option R0}(ha:WV a as x)(hb:WV b as y)(hg:g x y=some (.im z))(hz:zD z=true):WD (f2 a b g) as true z:=by
 obtain⟨r,lv,h1,h2⟩:=ha;obtain⟨r',lv',h3,h4⟩:=hb;unfold WD f2;rw[h1];show((b as).bind _)=_;rw[h3];show((r.frz.view as).bind _)=_;rw[h2];show((r'.frz.view as).bind _)=_;rw[h4];show((g x y).bind _)=_;rw[hg];show(if(zD z||(meet lv lv').isSome)=true then some (RV.ow (.lf (zD z||(meet lv lv').getD false) z))else none:Option RV).bind _=_;rw[hz];rfl
theorem Jq{ds:List D}(h:WV f as (.lst ds)):WD (fP (aC f aN) yQ) as true (.int ds.length):=by
 obtain⟨r,lv,h1,h2⟩:=h;have e:views as [r.frz]=some ([.lst ds],meet lv (some true)):=by
  show(RV.view as r.frz).bind _=_;rw[h2];rfl
 unfold WD fP aC;rw[h1];simp only[zyK,aN,e];rfl
theorem SH{c:TF}{i:Nat}{o:O}(h:WT c as false)(hi:as[i]? = some (some o))(hs:o.str=true):zI (Gy c a (fV i)) as=some (.rt o):=by
 have e:Gy c a (fV i) as=fV i as:=by unfold Gy;unfold WT at h;rw[h];rfl
 have:=YL hi hs;unfold zI at this ⊢;rw[e];exact this
theorem DW{α:Type}{cap:List (Option Nat)}{fe fi:EF}{l:List α}{e:α->D}{G:α->O}(h:WE fi as (.lst (l.map e)))(hl:l.length<=1000)(H:∀v ∈ l,∃as1,gN 0 (true,e v) (wC cap as)=some as1/\fe as1=some (.ow (G v),as1)/\(G v).str=true):zq (yB fi) cap zP zM fe as=some (.ow (.nd .ls (l.map G)),as):=by
 have key:∀l':List α,(∀x ∈ l',x ∈ l)->yy zP zM fe (wC cap as) ((l'.map e).map λd=>(true,d))=some (l'.map G):=λl'=>by
  induction l' with
  |nil=>intro _;rfl
  |cons d r ih=>
   intro hs;obtain⟨as1,g1,g2,g3⟩:=H d (hs d (by simp));exact Z2 g1 g2 g3 (ih λx m=>hs x (zzD _ m))
 exact xM (WR h) (by rw[zzB,zzB];exact Wn (by omega)) (key l λ_ m=>m)
end
theorem rE(d e:D):zw .Eq d e=(xm 60 d e).bind λb=>some (SM b):=rfl
theorem sG(d e:D):zw .NotEq d e=(xm 60 d e).bind λb=>some (SM !b):=rfl
theorem Cc{n:Int}{r:List Int}(hn:n<=8)(hl:r.length<=100)(hr:In n r):vW [(true,.lst (r.map λv=>D.str (tx v))),(true,.int n)]=some (yR r):=by
 have hd:(yR r).toD=zH r:=congrArg D.lst (yn r).2.2;have hb:=bv (as:=[sT (.lst (r.map λv=>D.str (tx v))),sT (.int n),some (yR r)]) (i:=2) rfl;rw[hd]at hb;exact yC rfl (zt (yg (i:=2) (DW (G:=yS) (ve rfl) (by omega) λv m=>⟨_,rfl,NS (ve rfl) ce (Uc (za rfl) zb).e (Ny (hr v m).1 (by have:=(hr v m).2;omega) (hr v m).1 (by have:=(hr v m).2;omega)),rfl⟩) (zj rfl))
  (SH (zp (rR (rS ce) hb (z:=.bl false) (by rw[FV];show(anyF _ (r.map D.int)).bind _=_;rw[Sm];rfl) rfl) rfl) rfl (yn r).2.1))
theorem mem_join{y:Str}{c:Nat}:∀{ps:List Str},c ∈ (Str.join y ps).cps.toList->c ∈ y.cps.toList\/∃p ∈ ps,c ∈ p.cps.toList
 | [],h=>by cases h
 | [p],h=>.inr ⟨p,by simp,h⟩
 |p::q::r,h=>by
  rw[Yn]at h
  rcases zzM.mp h with h|h
  . rcases zzM.mp h with h|h
    . exact .inr ⟨p,by simp,h⟩
    . exact .inl h
  . rcases mem_join h with h|⟨z,m,h⟩
    . exact .inl h
    . exact .inr ⟨z,zzD _ m,h⟩
theorem BH{n:Int}{r:List Int}(hr:In n r){c:Nat}(h:c ∈ (rT r).cps.toList):c=32\/(48<=c/\c<=57):=by
 rcases mem_join h with h|⟨p,m,h⟩
 . rw[L4]at h;exact .inl (zzR.mp h)
 . obtain⟨v,mv,rfl⟩:=zxB.mp m;exact .inr (Wi (hr v mv).1 c h)
theorem BP{n:Int}{T:TZ}(hT:∀r ∈ T,In n r){c:Nat}(h:c ∈ (tT T).cps.toList):c=44\/c=32\/(48<=c/\c<=57):=by
 rcases mem_join h with h|⟨p,m,h⟩
 . rw[qJ]at h;rcases zzC.mp h with h|h
   . exact .inl h
   . exact .inr (.inl (zzR.mp h))
 . obtain⟨r,mr,rfl⟩:=zxB.mp m;exact .inr (BH (hT r mr) h)
theorem Hc{r:List Int}(hn:r≠[]):Txt.split (rT r) sb=r.map tx:=UA L4 (by simpa using hn) λp m=>by
 obtain⟨v,mv,rfl⟩:=zxB.mp m;exact M8
theorem SW{n:Int}{T:TZ}(hn:T≠[])(hT:∀r ∈ T,In n r):Txt.split (tT T) sc=T.map rT:=UA qJ (by simpa using hn) λp m h=>by
 obtain⟨r,mr,rfl⟩:=zxB.mp m;have:=BH (hT r mr) h;omega
theorem BY{n:Int}{r:List Int}(hn:n<=8)(hl:r.length<=8)(h:In n r):Vs r:=⟨hl,λv m=>⟨(h v m).1,by have:=(h v m).2;omega⟩⟩
theorem sC{α:Type}(l:List α)(g:α->Str):(l.map g).map D.str=l.map λv=>D.str (g v):=by rw[zyB];rfl
theorem NO{as:AS}{a b:EF}{x y:D}{o:O}{g:List (Bool×D)->Option O}(ha:WE a as x)(hb:WE b as y)(hg:g [(true,x),(true,y)]=some o):zg (aC a (aC b aN)) g as=some (.ow o,as):=xJ (y7 ha (y7 hb zo)) (by show g [(zD x||true,x),(zD y||true,y)]=_;rw[zyD,zyD];exact hg)
theorem AQ{as:AS}{fa fn:EF}{n:Int}{r:List Int}(hn:n<=8)(hr:In n r)(hl:r.length<=8)(hne:r≠[])(ha:WD fa as true (.str (rT r)))(hb:WE fn as (.int n)):zg (aC (ye .str fa (aC (fC (.str " ")) aN) xZ) (aC fn aN)) vW as=some (.ow (yR r),as):=by
 have h:=Gz (y:=sb) ha.e Mf (Hc hne) (by have:=NC (BY hn hl hr);omega) (by rw[zzB];omega) ha;rw[sC]at h;exact NO h hb (Cc hn (by omega) hr)
def Tb(n:Int)(m:Nat)(T:TZ):Prop:=T.length=m/\∀r ∈ T,(r.length:Int)=n/\In n r
theorem KO{α:Type}:∀l:List α,ZJ (l.map λ_=>D.bl true)=some (l.map λ_=>true)
 | []=>rfl
 |_::r=>by show(ZJ (r.map _)).bind _=_;rw[KO r];rfl
theorem SD{α:Type}:∀l:List α,(l.map λ_=>true).all id=true
 | []=>rfl
 |_::r=>SD r
theorem N4{α:Type}(l:List α):Fp [.lst (l.map λ_=>D.bl true)]=some (.im (.bl true)):=by
 show(ZJ _).bind _=_;rw[KO];show some (R0.im (.bl _))=_;rw[SD]
theorem IY{as:AS}{f:EF}{ds:List D}(h:WE f as (.lst ds)):WD (fP (aC f aN) yQ) as true (.int ds.length):=YE h rfl
abbrev vY(T:TZ):O:=.nd .ls (T.map yR)
theorem FW(T:TZ):(vY T).toD = .lst (T.map zH):=congrArg D.lst (yV T).2
theorem XD(T:TZ):YJ (T.map yR)=T.map λr=>(false,zH r):=by
 unfold YJ;rw[zyB];refine List.map_congr_left λr _=>?_;show(false,(yR r).toD)=_;rw[show(yR r).toD=zH r from congrArg D.lst (yn r).2.2]
theorem pS{as:AS}{i:Nat}{os:List O}(h:as[i]? = some (sN os)):yB (fV i) as=some (YJ os,as):=by
 unfold yB;rw[Wv h];show(uz as (.bo i)).bind _=_;simp only[uz,h];rfl
theorem KU{n:Int}{m:Nat}{T:TZ}(hn:1<=n)(hn2:n<=8)(hm:1<=m)(hm2:m<=8)(hT:Tb n m T):Zs [(true,.str (tT T)),(true,.int m),(true,.int n)]=some (vY T):=by
 have hne:T≠[]:=λe=>by have:=hT.1;rw[e]at this;simp at this;omega
 have hI:∀r ∈ T,In n r:=λr mr=>(hT.2 r mr).2;have hl8:∀r ∈ T,r.length<=8:=λr mr=>by have:=(hT.2 r mr).1;omega
 have hTs:Ts T:=⟨by have:=hT.1;omega,λr mr=>BY hn2 (hl8 r mr) (hI r mr)⟩;have hs:WE (ye .str zf (aC (fC (.str ", ")) aN) xZ) [sT (.str (tT T)),sT (.int m),sT (.int n),none] (.lst (T.map λr=>D.str (rT r))):=by
  have h:=Gz (as:=[sT (.str (tT T)),sT (.int m),sT (.int n),none]) (a:=fV 0) (y:=sc) (ve rfl) ox (SW hne hI) (by have:=vV hTs;omega) (by rw[zzB];have:=hT.1;omega) (za rfl)
  rwa [sC]at h
 have hb:=bv (as:=[sT (.str (tT T)),sT (.int m),sT (.int n),some (vY T)]) (i:=3) rfl;rw[FW]at hb;have hc:WE (zq (yB zG) [none,some 2] zP zM (Pj (f2 zf (fC .non) (zw .IsNot)) (f2 (fP yJ yQ) zk (zw .Eq)))) [sT (.str (tT T)),sT (.int m),sT (.int n),some (vY T)] (.lst (T.map λ_=>D.bl true)):=by
  have:=IB (as:=[sT (.str (tT T)),sT (.int m),sT (.int n),some (vY T)]) (fi:=yB zG) (cap:=[none,some 2]) (g:=gN 0) (fe:=Pj (f2 zf (fC .non) (zw .IsNot)) (f2 (fP yJ yQ) zk (zw .Eq))) (F:=λ_=>D.bl true) (pS rfl) (by rw[XD,zzB];have:=hT.1;exact Wn (by omega)) (λx mx=>by
   rw[XD]at mx;obtain⟨r,mr,rfl⟩:=zxB.mp mx;refine⟨[some (.lf false (zH r)),sT (.int n)],rfl,(TU (k:=true) (rR (x:=zH r) (p_ (s:=false) (za rfl)) (rS ce) (z:=.bl true) rfl rfl) (λ_=>rR (x:=.int (r.map D.int).length) (p_ (Jq (p_ (s:=false) (za rfl)))) (rS (ve rfl)) (z:=.bl true) ?_ rfl) (λh=>nomatch h)).e⟩;rw[rE,show xm 60 (.int ((r.map D.int).length:Nat)) (.int n)=some (((r.map D.int).length:Int)==n)from rfl];rw[zzB,(hT.2 r mr).1];simp;rfl)
  rw[XD,zyB]at this;exact this
 refine yC rfl (zt (yg (i:=3) (DW (G:=yR) hs (by have:=hT.1;omega) λr mr=>⟨_,rfl,AQ hn2 (hI r mr) (hl8 r mr) (λe=>by have:=(hT.2 r mr).1;rw[e]at this;simp at this;omega) (za rfl) (ve rfl),(yn r).2.1⟩) (zj rfl)) (zt (zN (vh (k:=false) (zp (rR (x:=.int (T.map zH).length) (z:=.bl false) (p_ (Jq hb)) (rS (ve rfl)) ?_ rfl) rfl) (λ_=>ZK (k:=true) (zp (YE hc (N4 T)) rfl)) (λh=>nomatch h)) rfl) (YL rfl (yV T).1)));rw[sG,show xm 60 (.int ((T.map zH).length:Nat)) (.int m)=some (((T.map zH).length:Int)==(m:Int))from rfl];rw[zzB,hT.1];simp;rfl
section
variable{as:AS}{a b:EF}{x y z:D}
theorem K1{ty:Ty}{g:D->List D->Option R0}(ha:WD a as true y)(ht:G3 ty y=true)(hb:WE b as x)(hg:g y [x]=some (.im z)):WD (ye ty a (aC b aN) g) as true z:=by
 have hr:WA (aC b aN) as [(true,x)]:=y7 hb zo;unfold WD ye;unfold WD at ha;unfold WA at hr;rw[ha];show(if G3 ty y=true then _ else _:Option (RV×AS))=_;rw[if_pos ht,hr];simp only[zyK,xG];show((g y [x]).bind _)=_;rw[hg];show(if(zD z||true)=true then some (RV.ow (G_ true z))else none:Option RV).bind _=_;rw[if_pos (by simp)];show some (RV.ow (.lf (zD z||true) z),as)=_;rw[zyD]
end
theorem Tp{x y p q r:Str}(hy:(y.length==0)=false)(hx:x.length<=1000000)(e:Txt.partition x y=(p,q,r)):Lw (.str x) [.str y]=some (.im (.tup [.str p,.str q,.str r])):=by
 show(if _ then some (R0.im (.tup [.str (Txt.partition x y).1,.str (Txt.partition x y).2.1,.str (Txt.partition x y).2.2]))else none)=_;rw[if_pos ⟨hy,Wn hx⟩,e]
theorem A_(x:Str):("rows ":Str)++x=("rows":Str)++sb++x:=by
 rw[show("rows ":Str)=("rows":Str)++sb by decide +kernel]
theorem KF{X:Str}:Txt.partition (("rows ":Str)++X) sb=(("rows":Str),sb,X):=by
 rw[A_];exact PP L4 (by decide +kernel)
theorem TY{as:AS}{a b c:EF}{x y w:D}{o:O}{g:List (Bool×D)->Option O}(ha:WE a as x)(hb:WE b as y)(hc:WE c as w)(hg:g [(true,x),(true,y),(true,w)]=some o):zg (aC a (aC b (aC c aN))) g as=some (.ow o,as):=xJ (y7 ha (y7 hb (y7 hc zo))) (by show g [(zD x||true,x),(zD y||true,y),(zD w||true,w)]=_;rw[zyD,zyD,zyD];exact hg)
def JT(n:Int)(X:Str)(T:TZ):Prop:=x9 [(true,.str X),(true,.int n)]=some (vY T)
def DT(n:Int)(m:Nat)(X:Str)(T:TZ):Prop:=wq [(true,.str X),(true,.int n),(true,.int m)]=some (vY T)
theorem Rj{n:Int}{m:Nat}{T:TZ}(hn:n<=8)(hm:m<=8)(hT:Tb n m T):Ts T:=⟨by have:=hT.1;omega,λr mr=>BY hn (by have:=(hT.2 r mr).1;omega) (hT.2 r mr).2⟩
theorem Sw{n:Int}{T:TZ}(hn:1<=n)(hn2:n<=8)(hT:Tb n n.toNat T):JT n (("rows ":Str)++tT T) T:=by
 have hl:=vV (Rj hn2 (by omega) hT);have lr:("rows ":Str).length=5:=(by decide +kernel);have e:=KU hn hn2 (by omega) (by omega) hT;rw[show((n.toNat:Nat):Int)=n by omega]at e;exact(yC rfl (zt (yc (i:=2) (K1 (za rfl) rfl ce (Tp Mf (by rw[zY];omega) KF)) (zj rfl)) (Px (wo (zp (z_ (zT (za rfl) zb rfl) zb rfl) rfl) (xQ (TY (zT (za rfl) zb rfl).e (ve rfl) (ve rfl) e) (yV T).1)))))
theorem B0{n:Int}{m:Nat}{T:TZ}(hn:1<=n)(hn2:n<=8)(hm:1<=m)(hm2:m<=8)(hT:Tb n m T):DT n m (("rows ":Str)++tT T) T:=by
 have hl:=vV (Rj hn2 (by omega) hT);have lr:("rows ":Str).length=5:=(by decide +kernel);exact(yC rfl (zt (yc (i:=3) (K1 (za rfl) rfl ce (Tp Mf (by rw[zY];omega) KF)) (zj rfl)) (Px (wo (zp (z_ (zT (za rfl) zb rfl) zb rfl) rfl) (xQ (TY (zT (za rfl) zb rfl).e (ve rfl) (ve rfl) (KU hn hn2 hm hm2 hT)) (yV T).1)))))
section
variable{as as1:AS}{a b:EF}{o:O}
theorem told{k:Int}(h:a as=some (.ow o,as))(hk:WD b as true (.int k))(hn:Vm o=false):WK (dC a (dC b dN)) as=some (.ow o,as):=by
 unfold WK;rw[zW h (zc hk zF)];show(if Vm o=true then none else some (RV.ow o,as))=_;rw[hn];rfl
theorem pb{c:TF}{r:RV}(h:WT c as false)(hb:b as=some (r,as1)):Gy c a b as=some (r,as1):=by unfold Gy;unfold WT at h;rw[h];exact hb
theorem ou{c:TF}{r:RV}(h:WT c as true)(ha:a as=some (r,as1)):Gy c a b as=some (r,as1):=by unfold Gy;unfold WT at h;rw[h];exact ha
theorem tF{fr:DF}{os:List O}(h:fr as=some (os,as1))(hl:os.length<=sizeLine)(hn:os.all O.isLf=false):yr fr as=some (.ow (.nd .tp os),as1):=by
 unfold yr;rw[h];show(if os.length<=sizeLine then some (RV.ow (Y4 os),as1)else _)=_;rw[if_pos hl];unfold Y4;rw[hn];rfl
theorem qI{i:Nat}(h:as[i]? = some (some o)):Jt i as=some (.ow o,as.set i none):=by unfold Jt;rw[h]
end
theorem Pm{as:AS}{fr:DF}{os:List O}{ds:List D}(h:WO fr as os)(hl:os.length<=sizeLine)(ha:os.all O.isLf=true)(hs:O.strs os=true)(e:O.toDs os=ds):WD (yr fr) as true (.tup ds):=by
 have:=Vk h hl ha
 rwa [hs,e]at this
theorem pG(a b c:Str):a++b++c=a++(b++c):=Str.append_assoc a b c
def lV(n m:Int):Str:=("values ":Str)++tx n++(" around ":Str)++tx m
def lE(e:Int):Str:=("nothing ":Str)++tx e
def lJ(X:Str):Str:=("join ":Str)++X
theorem pE(n m:Int):lV n m=Str.join sb [("values":Str),tx n,("around":Str),tx m]:=by
 show("values ":Str)++tx n++(" around ":Str)++tx m=("values":Str)++sb++(tx n++sb++(("around":Str)++sb++tx m));rw[show("values ":Str)=("values":Str)++sb by decide +kernel,show(" around ":Str)=sb++(("around":Str)++sb) by decide +kernel];simp only[pG]
theorem pN(e:Int):lE e=Str.join sb [("nothing":Str),tx e]:=by
 show("nothing ":Str)++tx e=("nothing":Str)++sb++tx e;rw[show("nothing ":Str)=("nothing":Str)++sb by decide +kernel]
theorem qL(X:Str):lJ X=("join":Str)++sb++X:=by
 show("join ":Str)++X=_;rw[show("join ":Str)=("join":Str)++sb by decide +kernel]
theorem Oy{n m:Int}(h0:0<=n/\n<10 ^ 60)(h1:0<=m/\m<10 ^ 60):(lV n m).length<=200:=by
 have:=xa h0.1 h0.2;have:=xa h1.1 h1.2;have e1:("values ":Str).length=7:=by decide +kernel
 have e2:(" around ":Str).length=8:=by decide +kernel
 unfold lV;simp only[zY];omega
theorem CY{e:Int}(h0:0<=e/\e<10 ^ 60):(lE e).length<=200:=by
 have:=xa h0.1 h0.2;have e1:("nothing ":Str).length=8:=by decide +kernel
 unfold lE;simp only[zY];omega
theorem C1{n m:Int}(hn:1<=n/\n<=8)(hm:1<=m/\m<=6):YC [(true,.str (lV n m))]=sT (.tup [.int n,.int m]):=by
 have hs:Txt.split (lV n m) sb=[("values":Str),tx n,("around":Str),tx m]:=by
  rw[pE];exact UA L4 (by simp) λp mp=>by
   simp only[zzC,zyZ,or_false]at mp
   rcases mp with rfl|rfl|rfl|rfl
   . decide +kernel
   . exact M8
   . decide +kernel
   . exact M8
 have hl:=Oy (n:=n) (m:=m) ⟨by omega,by omega⟩ ⟨by omega,by omega⟩;exact yC rfl (zt (vd (p:=1) (Gz (ve rfl) Mf hs (by omega) (Nat.le_of_ble_eq_true rfl) (za rfl)) (zj rfl)) (zt (zN (vh (k:=false) (zp (Vp (q:=true) (IY (ve rfl)).e ce rfl) rfl) (λ_=>vh (k:=false) (zp (V2 (c:=true) (zT (za rfl) zb rfl) zb rfl) rfl) (λ_=>zp (V2 (c:=true) (zT (za rfl) zb rfl) zb rfl) rfl) (λh=>nomatch h)) (λh=>nomatch h)) rfl)
  (zt (yc (i:=2) (NS (zT (za rfl) zb rfl).e ce ce (Ny (v:=n) (by omega) (by omega) (by omega) (by omega))) (zj rfl))
  (zt (yc (i:=3) (NS (zT (za rfl) zb rfl).e ce ce (Ny (v:=m) (by omega) (by omega) (by omega) (by omega))) (zj rfl))
  (y_ (tZ (vh (k:=false) (zp (Fm (ve rfl) ce rfl) rfl) (λ_=>zp (Fm (ve rfl) ce rfl) rfl) (λh=>nomatch h)) (Pm (os:=[.lf true (.int n),.lf true (.int m)]) (zc (za rfl) (zc (za rfl) zF)) (wz rfl) rfl rfl rfl)))))))
theorem E6{n e:Int}(hn:1<=n/\n<=8)(he:0<=e/\e<n):vT [(true,.str (lE e)),(true,.int n)]=sT (.int e):=by
 have hs:Txt.split (lE e) sb=[("nothing":Str),tx e]:=by
  rw[pN];exact UA L4 (by simp) λp mp=>by
   simp only[zzC,zyZ,or_false]at mp
   rcases mp with rfl|rfl
   . decide +kernel
   . exact M8
 have hl:=CY (e:=e) ⟨by omega,by omega⟩;exact yC rfl (zt (vd (p:=2) (Gz (ve rfl) Mf hs (by omega) (Nat.le_of_ble_eq_true rfl) (za rfl)) (zj rfl)) (zt (zN (vh (k:=false) (zp (Vp (q:=true) (IY (ve rfl)).e ce rfl) rfl) (λ_=>zp (V2 (c:=true) (zT (za rfl) zb rfl) zb rfl) rfl) (λh=>nomatch h)) rfl)
  (y_ (NS (zT (za rfl) zb rfl).e ce (Uc (za rfl) zb).e (Ny (v:=e) (by omega) (by omega) (by omega) (by omega))))))
theorem Ox{n:Int}{X:Str}{T:TZ}(hX:X.length<=100000)(h:JT n X T):XS [(true,.str (lJ X)),(true,.int n)]=some (vY T):=by
 have hp:Txt.partition (lJ X) sb=(("join":Str),sb,X):=by rw[qL];exact PP L4 (by decide +kernel)
 have lj:("join ":Str).length=5:=by decide +kernel
 exact yC rfl (zt (yc (i:=2) (K1 (za rfl) rfl ce (Tp Mf (by unfold lJ;rw[zY];omega) hp)) (zj rfl)) (xQ (ou (zp (z_ (zT (za rfl) zb rfl) zb rfl) rfl) (NO (zT (za rfl) zb rfl).e (ve rfl) h)) (yV T).1))
def Nm(x:Str):Prop:=1<=x.length/\x.length<=8/\∀c ∈ x.cps.toList,97<=c/\c<=122
theorem HD{c:Nat}(h:97<=c/\c<=122):DI (.str ⟨#[c]⟩) (.str "abcdefghijklmnopqrstuvwxyz")=some true:=by
 have key:∀k:Fin 26,(Builtin.Str.occurrences ("abcdefghijklmnopqrstuvwxyz":Str) ⟨#[97+k.val]⟩ 0 ("abcdefghijklmnopqrstuvwxyz":Str).length 1).isEmpty=false:=by decide +kernel
 have:=key ⟨c-97,by omega⟩;rw[show 97+(⟨c-97,by omega⟩:Fin 26).val=c by show 97+(c-97)=c;omega]at this;show some (!_)=_;rw[this];rfl
theorem Nb{x:Str}(h:∀c ∈ x.cps.toList,97<=c/\c<=122):yy zP zM (f2 zf (fC (.str "abcdefghijklmnopqrstuvwxyz")) (zw .In)) [none] (vp x)=some ((x.cps.toList.map λ_=>D.bl true).map (O.lf true)):=by
 unfold vp;generalize x.cps.toList=l at h
 induction l with
 |nil=>rfl
 |cons c r ih=>exact Wc (as1:=[sT (.str ⟨#[c]⟩)]) rfl (zu (za rfl) zb (by rw[FV,HD (h c (by simp))];rfl) rfl) (ih λd m=>h d (zzD _ m))
theorem Jm{s:Bool}{x:Str}(h:Nm x):Uv [(s,.str x)]=sT (.bl true):=by
 have hlen:yQ [.str x]=some (.im (.int x.length)):=if_pos (Wn (by have:=h.2.1;omega));have h1:=h.1;have h2:=h.2.1;exact yC rfl (zt (zN (vh (k:=false) (ZK (k:=true) (zp (FC (za rfl) rfl) rfl)) (λ_=>vh (k:=false) (zp (Ru (yO (zl (za rfl) zo) hlen rfl) zb) (congrArg some (zyG (by show ¬((x.length:Int)<1);omega)))) (λ_=>zp (XA (yO (zl (za rfl) zo) hlen rfl) zb) (congrArg some (zyG (by show ¬((8:Int)<(x.length:Int));omega)))) (λh=>nomatch h)) (λh=>nomatch h)) rfl)
  (y_ (YE (x:=.lst (x.cps.toList.map λ_=>D.bl true)) ⟨_,xM (Dn (za rfl)) (by unfold vp;rw[zzB,<-len_eq];exact Wn (by omega)) (Nb h.2.2),Q1 _,congrArg D.lst (VO _)⟩ (N4 _))))
theorem Il{α:Type}{s:Bool}{x:Str}{l:List α}{f:α->Str}{g:α->List D}(h:Nm x)(hl:l.length<=100)(hx:∀p ∈ l,f p≠x):wj [(true,.str x),(s,.lst (l.map λp=>.tup (.str (f p)::g p)))]=sT (.bl true):=by
 have key:∀l':List α,yy zP zM (f2 zf zU zA) [none] (kids s (l'.map λp=>.tup (.str (f p)::g p)))=some (((l'.map f).map D.str).map (O.lf true)):=λl'=>by
  induction l' with
  |nil=>rfl
  |cons p r ih=>exact Wc rfl (zu (za rfl) zb mU rfl) ih
 have hc:WE (zq (yB zk) [none] zP zM (f2 zf zU zA)) [sT (.str x),some (.lf s (.lst (l.map λp=>.tup (.str (f p)::g p))))] (.lst ((l.map f).map D.str)):=
  ⟨_,xM (Av (za rfl) rfl) (by rw[OW,zzB];exact Wn (by omega)) (key l),Q1 _,congrArg D.lst (VO _)⟩
 refine yC rfl (y_ (TU (k:=true) (Yw (ve rfl) (Jm h)) (λ_=>Fm (ve rfl) hc (z:=.bl true) ?_) (λh=>nomatch h)));show(DI (.str x) (.lst ((l.map f).map D.str))).bind _=_;show(anyF (λy=>xm 50 y (.str x)) ((l.map f).map .str)).bind _=_;rw[Ex];have:((l.map f).any (· == x))=false:=by
  rw[List.any_eq_false];intro y my;obtain⟨p,mp,rfl⟩:=zxB.mp my;simpa using hx p mp
 rw[this];rfl
section
variable{as:AS}{a b c:EF}{x y z:D}
theorem rf{ty:Ty}{g:D->List D->Option R0}{zs:List D}(ha:WD a as true y)(ht:G3 ty y=true)(hb:WE b as x)(hc:WE c as z)(hg:g y [x,z]=some (.fl zs)):WE (ye ty a (aC b (aC c aN)) g) as (.lst zs):=by
 have hr:WA (aC b (aC c aN)) as [(true,x),(true,z)]:=y7 hb (y7 hc zo);refine⟨.nd .ls (zs.map (O.lf true)), ?_,Q1 zs,congrArg D.lst (VO zs)⟩;unfold ye;unfold WD at ha;unfold WA at hr;rw[ha];show(if G3 ty y=true then _ else _:Option (RV×AS))=_;rw[if_pos ht,hr];simp only[zyK,xG];show((g y [x,z]).bind _)=_;rw[hg];show(if(zs.all zD||true)=true then some (RV.ow (.nd .ls (zs.map (G_ true))))else none:Option RV).bind _=_;rw[if_pos (by simp),vG];rfl
end
abbrev Dd:=Str×Str×TZ
abbrev Sd:=Str×List Int
abbrev v5(p:Dd):D:=.tup [.str p.1,.lst (p.2.2.map zH)]
abbrev wD(p:Dd):O:=.nd .tp [.lf true (.str p.1),vY p.2.2]
abbrev w9(p:Sd):O:=.nd .tp [.lf true (.str p.1),yR p.2]
abbrev Zc(p:Sd):D:=.tup [.str p.1,zH p.2]
def lD(p:Dd):Str:=("deed ":Str)++p.1++(" ":Str)++p.2.1
def lS(p:Sd):Str:=Str.join sb (("sign":Str)::p.1::p.2.map tx)
theorem Dw(p:Dd):lD p=("deed":Str)++sb++p.1++sb++p.2.1:=by
 unfold lD;rw[show("deed ":Str)=("deed":Str)++sb by decide +kernel]
def MY(n:Int)(m:Nat)(p:Dd):Prop:=Nm p.1/\p.2.1.length<=10000/\Tb n m p.2.2/\DT n m p.2.1 p.2.2
def QL(n:Int)(p:Sd):Prop:=Nm p.1/\p.2.length<=8/\In n p.2/\∀(k:Nat) (h:k+1<p.2.length),p.2[k]<p.2[k+1]
theorem Bs{x:Str}(h:Nm x){c:Nat}(hc:c<97):c ∉ x.cps.toList:=λm=>by have:=(h.2.2 c m).1;omega
theorem OQ{n:Int}{m:Nat}{p:Dd}(h:MY n m p):(lD p).length<=10020:=by
 have:=h.1.2.1;have:=h.2.1;have e1:("deed ":Str).length=5:=by decide +kernel
 have e2:(" ":Str).length=1:=Hz;unfold lD;simp only[zY];omega
theorem D7{x y:Str}{k:Int}{ps:List Str}(hy:(y.length==0)=false)(hk:0<=k/\k<1000)(h1:(decide (x.length<y.length)||decide (Builtin.Str.strKind x<Builtin.Str.strKind y))=false)(hf:(Builtin.Str.occurrences x y 0 x.length (limitOf x k)).isEmpty=false)(e:Txt.splitMax x y k=ps)(hx:x.length<=1000000)(hl:ps.length<=1000000):OJ (.str x) [.str y,.int k]=some (.fl (ps.map .str)):=by
 have z:Builtin.Str.partsBetween x (Builtin.Str.occurrences x y 0 x.length (limitOf x k)) y.length=ps:=by
  rw[<-e];unfold Txt.splitMax;rw[if_neg (by rw[h1];nofun),if_neg (by rw[hf];nofun)]
 show(if _ then some (R0.fl ((Txt.splitMax x y k).map .str))else none)=_;rw[if_pos ⟨hy,Wn hx,by simp only[Bool.or_eq_false_iff,decide_eq_false_iff_not];omega,by rw[z];exact Wn hl⟩,e]
theorem o8{a b c:Str}(ha:32 ∉ a.cps.toList)(hb:32 ∉ b.cps.toList)(hl:(a++sb++b++sb++c).length<=1000000):OJ (.str (a++sb++b++sb++c)) [.str sb,.int 2]=some (.fl [.str a,.str b,.str c]):=by
 have e:=HQ (y:=sb) (c:=c) L4 ha hb;have ex:(a++sb++b++sb++c).cps.toList=a.cps.toList++sb.cps.toList++(b.cps.toList++sb.cps.toList++c.cps.toList):=by simp only[app_list];simp
 refine D7 Mf ⟨by decide,by decide⟩ (D4 ex) ?_ e hl (by show 3<=_;decide)
 rcases StrLaws.occ_head (a++sb++b++sb++c) sb 2 (by decide)with⟨_,hn⟩|⟨i,r,ei,_⟩
 . exact absurd (Rk ex) (hn _)
 . show(Builtin.Str.occurrences _ sb 0 _ 2).isEmpty=false;rw[ei];rfl
theorem EA{as:AS}{i:Nat}{s:Bool}{ds:List D}(h:as[i]? = some (some (.lf s (.lst ds)))):WD (fP (aC (fV i) aN) yQ) as true (.int ds.length):=yO (zl (za h) zo) rfl rfl
theorem D3{as:AS}{i:Nat}{s:Bool}{fa:EF}{x:Str}{T:D}{r:O}(h:as[i]? = some (some (.lf s T)))(ha:WE fa as (.str x))(hn:∀q,wj [(true,.str x),(q,T)]=sT (.bl true)):WD (zg (aC fa (aC (fV i) aN)) wj) as true (.bl true):=
 We (y7 ha (zl (za h) zo)) (by show wj [(zD (.str x)||true,.str x),(zD T||s,T)]=_;exact hn _)
theorem JM{s:Bool}{n:Int}{m:Nat}{p:Dd}{done:List Dd}(h:MY n m p)(hd:done.length<6)(hx:∀q ∈ done,q.1≠p.1):xT [(true,.str (lD p)),(true,.int n),(true,.int m),(s,.lst (done.map v5))]=some (wD p):=by
 have hl:=OQ h;have hn:∀q,wj [(true,.str p.1),(q,.lst (done.map v5))]=sT (.bl true):=λq=>Il (f:=λp:Dd=>p.1) (g:=λp:Dd=>[.lst (p.2.2.map zH)]) h.1 (by omega) hx;have hs:=o8 (a:=("deed":Str)) (b:=p.1) (c:=p.2.1) (by decide +kernel) (Bs h.1 (by decide)) (by rw[<-Dw];omega);rw[<-Dw]at hs;refine yC rfl (zt (vd (p:=4) (rf (za rfl) rfl ce ce hs) (zj rfl)) (zt (zN (vh (k:=false) (zp (Vp (q:=true) (IY (ve rfl)).e ce rfl) rfl) (λ_=>vh (k:=false) (ZK (k:=true) (zp (D3 (r:=.lf true .non) rfl (zT (za rfl) zb rfl).e hn) rfl)) (λ_=>zp (z_ (c:=false) (EA rfl) zb ?_) rfl) (λh=>nomatch h)) (λh=>nomatch h)) rfl)
  (zt (yg (i:=5) (TY (zT (za rfl) zb rfl).e (ve rfl) (ve rfl) h.2.2.2) (zj rfl))
  (xQ (pb (zp (rR (bv rfl) (rS ce) (z:=.bl false) rfl rfl) rfl) (tF (os:=[.lf true (.str p.1),vY p.2.2]) (zW (zT (za rfl) zb rfl) (zW (qI rfl) rfl)) (wz rfl) rfl)) ?_))))
 . show some (((done.map v5).length:Int)==6)=_;rw[zzB];exact congrArg some (beq_eq_false_iff_ne.mpr (by omega))
 . show(true&&(O.strs (p.2.2.map yR)&&true))=true;rw[(yV _).1];rfl
theorem Oi{as:AS}{fr:AF}{j:Int}{u:Bool}(h:WA fr as [(u,.int j)])(h0 : -1000<=j)(h1:j<1000000):yi fr ym as=some (yP 0 j.toNat,as):=by
 unfold yi;unfold WA at h;rw[h];simp only[zyK,xG];show((if -(2 ^ 62)<=j/\j<2 ^ 62 then some (yP 0 j.toNat)else none).bind _)=_;rw[if_pos ⟨by omega,by omega⟩];rfl
theorem Ij{r:List Int}{k:Nat}(h:k<r.length):zA (zH r) (.int (k:Int))=some (.im (.int r[k])):=Ul (by rw[zzI,zzE h];rfl)
theorem Hw{s:Bool}{r:List Int}(hl:r.length<=100)(h:∀(k:Nat) (h:k+1<r.length),r[k]<r[k+1]):Xq [(s,zH r)]=sT (.bl true):=by
 have hc:WE (zq (yi (aC (f2 (fP yJ yQ) zC wk) aN) ym) [none,some 0] zP zM (f2 (f2 zk zf zA) (f2 zk (f2 zf zC zd) zA) (zw .Lt))) [some (.lf s (zH r))] (.lst ((yP 0 ((r.length:Int)-1).toNat).map λ_=>D.bl true)):=by
  refine IB (Oi (j:=(r.length:Int)-1) (u:=true) (zl (by have:=Uc (as:=[some (.lf s (zH r))]) (EA (i:=0) (ds:=r.map D.int) rfl) (zb (x:=.int 1));rw[zzB]at this;exact this) zo) (by omega) (by omega)) (by rw[y6];exact Wn (by omega)) λx mx=>?_;obtain⟨i,hi⟩:=List.getElem?_of_mem mx;obtain⟨rfl,hk⟩:=vg hi;refine⟨[sT (.int (0+(i:Int))),some (.lf s (zH r))],rfl, ?_⟩;have e0:(0:Int)+(i:Int)=(i:Int):=by omega
  have e1:(i:Int)+1=((i+1:Nat):Int):=by omega
  rw[e0];have z:=Ru (as:=[sT (.int (i:Int)),some (.lf s (zH r))]) (zu (za (i:=1) rfl) (za (i:=0) rfl) (Ij (r:=r) (k:=i) (by omega)) rfl) (zu (za (i:=1) rfl) (yp (za (i:=0) rfl) (zb (x:=.int 1))) (by rw[e1];exact Ij (r:=r) (k:=i+1) (by omega)) rfl);rw[zyN (h i (by omega))]at z;exact z.e
 exact yC rfl (y_ (YE hc (N4 _)))
theorem Cn{n:Int}{p:Sd}(hn:n<=8)(h:QL n p):(lS p).length<=1000:=by
 have:=Z5 sb (ps:=("sign":Str)::p.1::p.2.map tx) (n:=60) λq mq=>by
  rcases zzC.mp mq with rfl|mq
  . decide +kernel
  rcases zzC.mp mq with rfl|mq
  . have:=h.1.2.1;omega
  . obtain⟨v,mv,rfl⟩:=zxB.mp mq;have:=h.2.2.1 v mv;exact xa this.1 (by omega)
 rw[Hz,zzT,zzT,zzB]at this;have:=h.2.1;unfold lS;omega
theorem rJ{as:AS}{i:Nat}{k:PF.Kind}{os:List O}{d z:D}{g:List (Bool×D)->Option O}(h:as[i]? = some (some (.nd k os)))(hd:(O.nd k os).toD=d)(hg:∀q,g [(q,d)]=sT z):WD (zg (aC (fV i) aN) g) as true z:=by
 have ha:aC (fV i) aN as=some ([.bo i],as):=by unfold aC;rw[Wv h];rfl
 have e:Kw as (.bo i)=some (false,(O.nd k os).toD):=by simp only[Kw,h]
 exact PU ha (show(Kw as (.bo i)).bind _=_ by rw[e];rfl) (by rw[hd];exact hg _)
theorem Jr{s:Bool}{n:Int}{p:Sd}{done:List Sd}(hn:n<=8)(h:QL n p)(hd:done.length<4)(hx:∀q ∈ done,q.1≠p.1):xS [(true,.str (lS p)),(true,.int n),(s,.lst (done.map Zc))]=some (w9 p):=by
 have hl:=Cn hn h;have hn2:∀q,wj [(true,.str p.1),(q,.lst (done.map Zc))]=sT (.bl true):=λq=>Il (f:=λp:Sd=>p.1) (g:=λp:Sd=>[zH p.2]) h.1 (by omega) hx;have hs:Txt.split (lS p) sb=("sign":Str)::p.1::p.2.map tx:=UA L4 (by simp) λq mq=>by
  rcases zzC.mp mq with rfl|mq
  . decide +kernel
  rcases zzC.mp mq with rfl|mq
  . exact Bs h.1 (by decide)
  . obtain⟨v,mv,rfl⟩:=zxB.mp mq;exact M8
 have hc:Wk (.lst (.str ("sign":Str) :: .str p.1::p.2.map λv=>D.str (tx v))) (some 2) none=some (.fl (p.2.map λv=>D.str (tx v))):=Xy (xs:=[.str ("sign":Str),.str p.1]);have e0:(("sign":Str)::p.1::p.2.map tx).map D.str = .str ("sign":Str) :: .str p.1::p.2.map λv=>D.str (tx v):=by rw[zyR,zyR,sC]
 have hsp:=Gz (as:=XH 5 [(true,.str (lS p)),(true,.int n),(s,.lst (done.map Zc))]) (a:=fV 0) (ve rfl) Mf hs (by omega) (by rw[zzT,zzT,zzB];have:=h.2.1;omega) (za rfl);rw[e0]at hsp;refine yC rfl (zt (vd (p:=3) hsp (zj rfl)) (zt (zN (vh (k:=false) (zp (Ru (IY (ve rfl)) zb) ?_) (λ_=>vh (k:=false) (zp (V2 (c:=true) (zT (za rfl) zb (Ul (k:=0) rfl)) zb rfl) rfl) (λ_=>vh (k:=false) (ZK (k:=true) (zp (D3 (r:=.lf true .non) rfl (zT (za rfl) zb (Ul (k:=1) rfl)).e hn2) rfl)) (λ_=>zp (z_ (c:=false) (EA rfl) zb ?_) rfl) (λh=>nomatch h)) (λh=>nomatch h)) (λh=>nomatch h)) rfl)
  (zt (yg (i:=4) (NO (Zy (ve rfl) rfl rfl hc) (ve rfl) (Cc hn (by have:=h.2.1;omega) h.2.2.1)) (zj rfl))
  (xQ (pb (vh (k:=false) (zp (rR (bv rfl) (rS ce) (z:=.bl false) rfl rfl) rfl) (λ_=>ZK (k:=true) (zp (rJ (d:=zH p.2) rfl (congrArg D.lst (yn p.2).2.2) λ_=>Hw (by have:=h.2.1;omega) h.2.2.2) rfl)) (λh=>nomatch h)) (tF (os:=[.lf true (.str p.1),yR p.2]) (zW (zT (za rfl) zb (Ul (k:=1) rfl)) (zW (qI rfl) rfl)) (wz rfl) rfl)) ?_))))
 . refine congrArg some (zyG ?_);simp only[zzT];omega
 . show some (((done.map Zc).length:Int)==4)=_;rw[zzB];exact congrArg some (beq_eq_false_iff_ne.mpr (by omega))
 . show(true&&(O.strs (p.2.map yS)&&true))=true;rw[(yn _).2.1];rfl
section
variable{as as1 as2:AS}
theorem FY{a:EF}{fr:AF}{r:RV}{rs:List RV}(ha:a as=some (r,as1))(hf:fr as1=some (rs,as2)):aC a fr as=some (r.frz::rs,as2):=by
 unfold aC;rw[ha];show(fr as1).bind _=_;rw[hf];rfl
theorem JK{g:GF}{f:SF}{d:wg}{r:List wg}(h1:g d as=some as1)(h2:f as1=some (.bk as2)):forL g f (d::r) as=some (.nx as2):=by
 unfold forL;rw[h1];show(f as1).bind _=_;rw[h2];rfl
theorem Aj{f g:SF}(h:f as=some (.bk as1)):zh f g as=some (.bk as1):=by unfold zh;rw[h];rfl
theorem EJ{fr:AF}{i j:Int}{u v:Bool}(h:WA fr as [(u,.int i),(v,.int j)])(h0:0<=i)(h1:i<100000)(h2:0<=j)(h3:j<100000):yi fr JC as=some (yP i (j-i).toNat,as):=by
 unfold yi;unfold WA at h;rw[h];simp only[zyK,xG];show((if -(2 ^ 62)<=i/\i<2 ^ 62 /\ -(2 ^ 62)<=j/\j<2 ^ 62 then some (yP i (j-i).toNat)else none).bind _)=_;rw[if_pos ⟨by omega,by omega,by omega,by omega⟩];rfl
end
theorem Sn(p:Dd):(wD p).toD=v5 p:=by
 show D.tup [.str p.1,(vY p.2.2).toD]=_;rw[FW]
theorem BO(p:Sd):(w9 p).toD=Zc p:=by
 show D.tup [.str p.1,(yR p.2).toD]=_;rw[show(yR p.2).toD=zH p.2 from congrArg D.lst (yn p.2).2.2]
theorem BB(p:Dd):(wD p).str=true:=by
 show(true&&(O.strs (p.2.2.map yR)&&true))=true;rw[(yV _).1];rfl
theorem BD(p:Sd):(w9 p).str=true:=by
 show(true&&(O.strs (p.2.map yS)&&true))=true;rw[(yn _).2.1];rfl
theorem MT{α:Type}{f:α->O}{g:α->D}(h:∀x,(f x).toD=g x):∀l:List α,O.toDs (l.map f)=l.map g
 | []=>rfl
 |p::r=>by show(f p).toD::O.toDs (r.map f)=_;rw[h p,MT h r];rfl
theorem EB{α:Type}{f:α->O}(h:∀x,(f x).str=true):∀l:List α,O.strs (l.map f)=true
 | []=>rfl
 |p::r=>by show((f p).str&&O.strs (r.map f))=true;rw[h p,EB h r];rfl
theorem BQ{as:AS}{a:EF}{i:Nat}{os:List O}{o:O}(h:as[i]? = some (sN os))(hl:os.length<sizeLine)(ha:a as=some (.ow o,as)):ya (yt i (dC a dN) yx) as=some (.nx (as.set i (sN (os++[o])))):=by
 unfold ya yt;rw[h];rw[zW (fr:=dN) (os:=[]) ha rfl];show((match as[i]? with|some (some (.nd .ls os))=>_|_=>none:Option (RV×AS)).bind _)=_;rw[h];show((yx os [o]).bind _).bind _=_;rw[show yx os [o]=some (os++[o],.lf true .non)from if_pos hl];rfl
abbrev uY(L:List Str):D:=.lst (L.map D.str)
theorem Gq{L pre post:List Str}{q:Str}(h:L=pre++q::post):(L.map D.str)[pre.length]? = some (.str q):=by
 rw[h,zzI,zyQ (zzN _)];simp
abbrev A5(L:List Str)(n:Int)(m:Nat)(done:List Dd)(e4:Option O):AS:=[sT (uY L),sT (.int n),sT (.int m),sN (done.map wD),e4]
abbrev dB:SF:=(zh (xX (ZF (fT (ye .str (f2 zf zZ zA) (aC (fC (.str "deed ")) aN) oi))) oK wI)
 (ya (yt 3 (dC (WK (dC (zg (aC (f2 zf zZ zA) (aC zk (aC zz wB))) xT) (dC zZ dN))) dN) yx)))
theorem Ee(p:Dd):Txt.startswith (lD p) ("deed ":Str)=true:=by
 unfold lD;rw[pG,pG];exact FE _ _
theorem SL{L pre post:List Str}{n:Int}{m:Nat}{p:Dd}{done:List Dd}(hL:L=pre++lD p::post)(h:MY n m p)(hd:done.length<6)(hx:∀q ∈ done,q.1≠p.1):
 dB (A5 L n m done (sT (.int pre.length)))=some (.nx (A5 L n m (done++[p]) (sT (.int pre.length)))):=by
 have hk:=Gq hL;have hw:WD (f2 zf zZ zA) (A5 L n m done (sT (.int pre.length))) true (.str (lD p)):=zT (za rfl) (za rfl) (Ul hk);have hc:(zg (aC (f2 zf zZ zA) (aC zk (aC zz wB))) xT) (A5 L n m done (sT (.int pre.length)))=some (.ow (wD p),(A5 L n m done (sT (.int pre.length)))):=by
  refine PU (rs:=[.ow (.lf true (.str (lD p))),.ow (.lf true (.int n)),.ow (.lf true (.int m)),.bo 3]) (xs:=[(true,.str (lD p)),(true,.int n),(true,.int m),(false,(O.nd .ls (done.map wD)).toD)]) (FY hw rfl) rfl ?_;show xT [(true,.str (lD p)),(true,.int n),(true,.int m),(false,.lst (O.toDs (done.map wD)))]=_;rw[MT Sn];exact JM h hd hx
 have e:done.map wD++[wD p]=(done++[p]).map wD:=by rw[zyL];rfl
 refine zt (zN (ZK (k:=true) (zp (K1 hw rfl ce (z:=.bl true) (by show some (R0.im (.bl (Txt.startswith (lD p) ("deed ":Str))))=_;rw[Ee])) rfl)) rfl) ?_;rw[BQ (i:=3) (os:=done.map wD) rfl (by rw[zzB];exact yA (by omega)) (told hc (za rfl) rfl)];rw[e];rfl
theorem Kv{L:List Str}{n:Int}{m:Nat}{post:List Str}(hp:post=[]\/∃q r,post=q::r/\q.cps.toList.head? ≠ some 100):∀(ps done:List Dd) (pre:List Str) (e4:Option O),L=pre++(ps.map lD++post)->(∀p ∈ ps,MY n m p)->((done++ps).map (·.1)).Nodup->done.length+ps.length<=6->
 ∃e4',forL Vy dB (yP pre.length (ps.length+post.length)) (A5 L n m done e4)=some (.nx (A5 L n m (done++ps) e4'))
 | [],done,pre,e4,hL,_,_,_=>by
  rw[zyE]
  rcases hp with rfl|⟨q,r,rfl,hq⟩
  . exact⟨e4,rfl⟩
  . refine⟨sT (.int pre.length), ?_⟩;have hk:=Gq (q:=q) (post:=r) (by simpa using hL);have hw:WD (f2 zf zZ zA) (A5 L n m done (sT (.int pre.length))) true (.str q):=zT (za rfl) (za rfl) (Ul hk);rw[show([]:List Dd).length+(q::r).length=r.length+1 by simp,wG];refine JK (as1:=A5 L n m done (sT (.int pre.length))) rfl (Aj (wo (ZK (k:=false) (zp (K1 hw rfl ce (z:=.bl false) ?_) rfl)) rfl));show some (R0.im (.bl (Txt.startswith q ("deed ":Str))))=_;rw[SU (h:=100) (t:=[101,101,100,32]) (by decide +kernel) hq]
 |p::ps,done,pre,e4,hL,ho,hn,hl=>by
  have hL':L=pre++lD p::(ps.map lD++post):=by simpa using hL
  have hx:∀q ∈ done,q.1≠p.1:=λq mq e=>by
   rw[zyL,zxC]at hn;exact hn.2.2 q.1 (List.mem_map_of_mem mq) p.1 (by simp) e
  have s1:=SL hL' (ho p (by simp)) (by have:(p::ps).length=ps.length+1:=rfl;omega) hx;obtain⟨e4',s2⟩:=Kv (L:=L) (n:=n) (m:=m) hp ps (done++[p]) (pre++[lD p]) (sT (.int pre.length)) (by rw[hL'];simp) (λq mq=>ho q (zzD _ mq)) (by simpa using hn) (by simp at hl ⊢;omega);refine⟨e4', ?_⟩;rw[show(p::ps).length+post.length=(ps.length+post.length)+1 by simp;omega,wG];refine Yl (as1:=A5 L n m done (sT (.int pre.length))) rfl s1 ?_;rw[show((pre++[lD p]).length:Nat)=pre.length+1 by simp,show(((pre.length+1:Nat)):Int)=(pre.length:Int)+1 by omega]at s2;rw[s2];simp
theorem Bi{L:List Str}{n:Int}{m:Nat}{Ds:List Dd}{post:List Str}{x y z:Str}(hL:L=x::y::z::(Ds.map lD++post))(hp:post=[]\/∃q r,post=q::r/\q.cps.toList.head? ≠ some 100)(hpl:post.length<=100)(ho:∀p ∈ Ds,MY n m p)(hn:(Ds.map (·.1)).Nodup)(hl:Ds.length<=6):
 Yy [(true,uY L),(true,.int n),(true,.int m)]=sN (Ds.map wD):=by
 obtain⟨e4,hf⟩:=Kv (L:=L) (n:=n) (m:=m) hp Ds [] [x,y,z] none hL ho (by simpa using hn) (by simpa using hl);have len:L.length=3+(Ds.length+post.length):=by rw[hL];simp;omega
 refine yC rfl (zt (yg (i:=3) (yN zF (by decide)) (zj rfl)) (zt (as1:=A5 L n m Ds e4) (xB (EJ (i:=3) (j:=(L.map D.str).length) (zl zb (zl (EA rfl) zo)) (by decide) (by decide) (by omega) (by rw[zzB];omega)) ?_) (YL (i:=3) rfl (EB BB _))))
 . rw[zzB,len,show(((3+(Ds.length+post.length):Nat):Int)-3).toNat=Ds.length+post.length by omega];exact hf
abbrev B5(L:List Str)(k n:Int)(done:List Sd)(e4:Option O):AS:=[sT (uY L),sT (.int k),sT (.int n),sN (done.map w9),e4]
abbrev sB:SF:=(ya (yt 3 (dC (WK (dC (zg (aC (f2 zf zZ zA) (aC zz wB)) xS) (dC zZ dN))) dN) yx))
theorem SJ{L pre post:List Str}{k n:Int}{p:Sd}{done:List Sd}(hn8:n<=8)(hL:L=pre++lS p::post)(h:QL n p)(hd:done.length<4)(hx:∀q ∈ done,q.1≠p.1):
 sB (B5 L k n done (sT (.int pre.length)))=some (.nx (B5 L k n (done++[p]) (sT (.int pre.length)))):=by
 have hk:=Gq hL;have hw:WD (f2 zf zZ zA) (B5 L k n done (sT (.int pre.length))) true (.str (lS p)):=zT (za rfl) (za rfl) (Ul hk);have hc:(zg (aC (f2 zf zZ zA) (aC zz wB)) xS) (B5 L k n done (sT (.int pre.length)))=some (.ow (w9 p),(B5 L k n done (sT (.int pre.length)))):=by
  refine PU (rs:=[.ow (.lf true (.str (lS p))),.ow (.lf true (.int n)),.bo 3]) (xs:=[(true,.str (lS p)),(true,.int n),(false,(O.nd .ls (done.map w9)).toD)]) (FY hw rfl) rfl ?_;show xS [(true,.str (lS p)),(true,.int n),(false,.lst (O.toDs (done.map w9)))]=_;rw[MT BO];exact Jr hn8 h hd hx
 have e:done.map w9++[w9 p]=(done++[p]).map w9:=by rw[zyL];rfl
 show sB _=_;rw[show sB=ya _ from rfl,BQ (i:=3) (os:=done.map w9) rfl (by rw[zzB];exact yA (by omega)) (told hc (za rfl) rfl)];rw[e];rfl
theorem Le{L:List Str}{k n:Int}(hn8:n<=8):∀(ps done:List Sd) (pre:List Str) (e4:Option O),L=pre++ps.map lS->(∀p ∈ ps,QL n p)->((done++ps).map (·.1)).Nodup->done.length+ps.length<=4->
 ∃e4',forL Vy sB (yP pre.length ps.length) (B5 L k n done e4)=some (.nx (B5 L k n (done++ps) e4'))
 | [],done,pre,e4,hL,_,_,_=>by
  rw[zyE];exact⟨e4,rfl⟩
 |p::ps,done,pre,e4,hL,ho,hn,hl=>by
  have hL':L=pre++lS p::(ps.map lS):=by simpa using hL
  have hx:∀q ∈ done,q.1≠p.1:=λq mq e=>by
   rw[zyL,zxC]at hn;exact hn.2.2 q.1 (List.mem_map_of_mem mq) p.1 (by simp) e
  have s1:=SJ (k:=k) hn8 hL' (ho p (by simp)) (by have:(p::ps).length=ps.length+1:=rfl;omega) hx;obtain⟨e4',s2⟩:=Le (L:=L) (k:=k) hn8 ps (done++[p]) (pre++[lS p]) (sT (.int pre.length)) (by rw[hL'];simp) (λq mq=>ho q (zzD _ mq)) (by simpa using hn) (by simp at hl ⊢;omega);refine⟨e4', ?_⟩;rw[show(p::ps).length=ps.length+1 by simp,wG];refine Yl (as1:=B5 L k n done (sT (.int pre.length))) rfl s1 ?_;rw[show((pre++[lS p]).length:Nat)=pre.length+1 by simp,show(((pre.length+1:Nat)):Int)=(pre.length:Int)+1 by omega]at s2;rw[s2];simp
theorem Fl{L pre:List Str}{n:Int}{Ss:List Sd}(hn8:n<=8)(hL:L=pre++Ss.map lS)(hpl:pre.length<=100)(ho:∀p ∈ Ss,QL n p)(hn:(Ss.map (·.1)).Nodup)(hl:Ss.length<=4):
 Yx [(true,uY L),(true,.int pre.length),(true,.int n)]=sN (Ss.map w9):=by
 obtain⟨e4,hf⟩:=Le (L:=L) (k:=pre.length) hn8 Ss [] pre none hL ho (by simpa using hn) (by simpa using hl);have len:L.length=pre.length+Ss.length:=by rw[hL];simp
 refine yC rfl (zt (yg (i:=3) (yN zF (by decide)) (zj rfl)) (zt (as1:=B5 L pre.length n Ss e4) (xB (EJ (i:=pre.length) (j:=(L.map D.str).length) (zl (za rfl) (zl (EA rfl) zo)) (by omega) (by omega) (by omega) (by rw[zzB];omega)) ?_) (YL (i:=3) rfl (EB BD _))));rw[zzB,len,show(((pre.length+Ss.length:Nat):Int)-pre.length).toNat=Ss.length by omega];exact hf
abbrev vX(n:Int)(m:Nat)(T:TZ)(e:Int)(Ds:List Dd)(Ss:List Sd):D:=.tup [.int n,.int m,.lst (T.map zH),.int e,.lst (Ds.map v5),.lst (Ss.map Zc)]
def Wm(n:Int)(m:Nat)(X:Str)(e:Int)(Ds:List Dd)(Ss:List Sd):List Str:=lV n m::lJ X::lE e::(Ds.map lD++Ss.map lS)
structure AOk(n:Int)(m:Nat)(X:Str)(T:TZ)(e:Int)(Ds:List Dd)(Ss:List Sd):Prop where
 n1:1<=n
 n8:n<=8
 m1:1<=m
 m6:m<=6
 tb:Tb n n.toNat T
 jt:JT n X T
 xl:X.length<=10000
 xn:10 ∉ X.cps.toList
 e0:0<=e
 e1:e<n
 d6:Ds.length<=6
 dk:∀p ∈ Ds,MY n m p/\10 ∉ p.2.1.cps.toList
 dn:(Ds.map (·.1)).Nodup
 s4:Ss.length<=4
 sk:∀p ∈ Ss,QL n p
 sn:(Ss.map (·.1)).Nodup
theorem Sa{v:Int}(h:0<=v){c:Nat}(hc:c<48):c ∉ (tx v).cps.toList:=λm=>by have:=(Wi h c m).1;omega
theorem ZR{a b:Str}{c:Nat}(ha:c ∉ a.cps.toList)(hb:c ∉ b.cps.toList):c ∉ (a++b).cps.toList:=by
 rw[app_list];exact λm=>(zzM.mp m).elim ha hb
theorem Aq(p:Sd):(lS p).cps.toList.head? ≠ some 100:=by
 have e:(lS p).cps.toList=("sign":Str).cps.toList++sb.cps.toList++(Str.join sb (p.1::p.2.map tx)).cps.toList:=Yn sb _ _ _;have e2:("sign":Str).cps.toList=[115,105,103,110]:=by decide +kernel
 rw[e,e2];simp
section
variable{n e:Int}{m:Nat}{X:Str}{T:TZ}{Ds:List Dd}{Ss:List Sd}
theorem rz(h:AOk n m X T e Ds Ss):∀l ∈ Wm n m X e Ds Ss,10 ∉ l.cps.toList:=λl ml=>by
 have n1:=h.n1;have e0:=h.e0;unfold Wm at ml
 rcases zzC.mp ml with rfl|ml
 . exact ZR (ZR (ZR (by decide +kernel) (Sa (by omega) (by decide))) (by decide +kernel)) (Sa (by omega) (by decide))
 rcases zzC.mp ml with rfl|ml
 . exact ZR (by decide +kernel) h.xn
 rcases zzC.mp ml with rfl|ml
 . exact ZR (by decide +kernel) (Sa e0 (by decide))
 rcases zzM.mp ml with ml|ml
 . obtain⟨p,mp,rfl⟩:=zxB.mp ml;exact ZR (ZR (ZR (by decide +kernel) (Bs (h.dk p mp).1.1 (by decide))) (by decide +kernel)) (h.dk p mp).2
 . obtain⟨p,mp,rfl⟩:=zxB.mp ml;intro hm
   rcases mem_join hm with hm|⟨q,mq,hm⟩
   . rw[L4]at hm;exact absurd (zzR.mp hm) (by decide)
   rcases zzC.mp mq with rfl|mq
   . revert hm;decide +kernel
   rcases zzC.mp mq with rfl|mq
   . exact Bs (h.sk p mp).1 (by decide) hm
   . obtain⟨v,mv,rfl⟩:=zxB.mp mq;exact Sa ((h.sk p mp).2.2.1 v mv).1 (by decide) hm
theorem X8(h:AOk n m X T e Ds Ss):(Wm n m X e Ds Ss).length<=13/\∀l ∈ Wm n m X e Ds Ss,l.length<=10020:=by
 have n1:=h.n1;have n8:=h.n8;have m1:=h.m1;have m6:=h.m6;have e0:=h.e0;have e1:=h.e1;have d6:=h.d6;have s4:=h.s4;refine⟨by unfold Wm;simp;omega,λl ml=>?_⟩;unfold Wm at ml
 rcases zzC.mp ml with rfl|ml
 . have:=Oy (n:=n) (m:=(m:Int)) ⟨by omega,by omega⟩ ⟨by omega,by omega⟩;omega
 rcases zzC.mp ml with rfl|ml
 . have:=h.xl;have lj:("join ":Str).length=5:=by decide +kernel
   unfold lJ;rw[zY];omega
 rcases zzC.mp ml with rfl|ml
 . have:=CY (e:=e) ⟨by omega,by omega⟩;omega
 rcases zzM.mp ml with ml|ml
 . obtain⟨p,mp,rfl⟩:=zxB.mp ml;exact OQ (h.dk p mp).1
 . obtain⟨p,mp,rfl⟩:=zxB.mp ml;have:=Cn n8 (h.sk p mp);omega
theorem text_len(h:AOk n m X T e Ds Ss):(Str.join sn (Wm n m X e Ds Ss)).length<=200000:=by
 have:=Z5 sn (X8 h).2;have:=(X8 h).1;have:=sf;have z:(Wm n m X e Ds Ss).length*(10020+sn.length)<=13*(10020+sn.length):=Nat.mul_le_mul_right _ (X8 h).1;omega
theorem n0{k:Nat}(h:k<=200000):k<=sizeLine:=zzO h (by decide)
theorem Dy{L:List Str}{k:Nat}{q:Str}(h:(L.map D.str)[k]? = some (.str q))(hk:k<L.length):Wg [(true,uY L),(true,.int k)]=sT (.str q):=
 yC rfl (zt (zN (zp (uL (q:=false) (ve rfl) (IY (ve rfl)).e (by
  show some ((k:Int)==((L.map D.str).length:Int))=_;rw[zzB];exact congrArg some (beq_eq_false_iff_ne.mpr (by omega)))) rfl) rfl) (y_ (zT (za rfl) (za rfl) (Ul h))))
abbrev Aw(n:Int)(m:Nat)(T:TZ)(e:Int)(Ds:List Dd)(Ss:List Sd):O:=.nd .tp [.lf true (.int n),.lf true (.int m),vY T,.lf true (.int e),.nd .ls (Ds.map wD),.nd .ls (Ss.map w9)]
theorem Jf:(Aw n m T e Ds Ss).str=true:=by
 show(true&&(true&&(O.strs (T.map yR)&&(true&&(O.strs (Ds.map wD)&&(O.strs (Ss.map w9)&&true))))))=true;rw[(yV T).1,EB BB,EB BD];rfl
theorem IC(h:AOk n m X T e Ds Ss):wc [(true,.str (Str.join sn (Wm n m X e Ds Ss)))]=some (Aw n m T e Ds Ss):=by
 have n1:=h.n1;have n8:=h.n8;have m1:=h.m1;have m6:=h.m6;have e0:=h.e0;have e1:=h.e1;have d6:=h.d6;have s4:=h.s4;have hs:Txt.split (Str.join sn (Wm n m X e Ds Ss)) sn=Wm n m X e Ds Ss:=UA oO (by unfold Wm;simp) (rz h);have hsp:xZ (.str (Str.join sn (Wm n m X e Ds Ss))) [.str sn]=some (.fl ((Wm n m X e Ds Ss).map .str)):=by
  have z:(Builtin.Str.partsBetween (Str.join sn (Wm n m X e Ds Ss)) (Builtin.Str.occurrences (Str.join sn (Wm n m X e Ds Ss)) sn 0 (Str.join sn (Wm n m X e Ds Ss)).length ((Str.join sn (Wm n m X e Ds Ss)).length+1)) sn.length).length<=sizeLine:=by rw[<-XO,hs];exact Wn (by have:=(X8 h).1;omega)
  show(if _ then some (R0.fl ((Txt.split (Str.join sn (Wm n m X e Ds Ss)) sn).map .str))else none)=_;rw[if_pos ⟨nR,n0 (text_len h),z⟩,hs]
 generalize hL:Wm n m X e Ds Ss=L at hs hsp;have hL':L=lV n m::lJ X::lE e::(Ds.map lD++Ss.map lS):=hL.symm;have len:L.length=3+(Ds.length+Ss.length):=by rw[hL'];simp;omega
 have g0:(L.map D.str)[0]? = some (.str (lV n m)):=by rw[hL'];rfl
 have g1:(L.map D.str)[1]? = some (.str (lJ X)):=by rw[hL'];rfl
 have g2:(L.map D.str)[2]? = some (.str (lE e)):=by rw[hL'];rfl
 have hd:=Bi (n:=n) (m:=m) (L:=L) hL' (by
  cases Ss with
  |nil=>exact .inl rfl
  |cons p r=>exact .inr ⟨lS p,r.map lS,rfl,Aq p⟩) (by rw[zzB];omega) (λp mp=>(h.dk p mp).1) h.dn d6
 have hsg:=Fl (n:=n) (L:=L) (pre:=lV n m::lJ X::lE e::Ds.map lD) n8 (by rw[hL'];simp) (by simp;omega) h.sk h.sn s4;have ep:((lV n m::lJ X::lE e::Ds.map lD).length:Int)=3+(((Ds.map wD).length:Nat):Int):=by simp;omega
 rw[ep]at hsg;refine yC rfl (zt (vd (p:=1) (Ib (za rfl) rfl ce hsp) (zj rfl))
  (zt (yc (i:=2) (told (Yw (zT (za rfl) zb (Ul (k:=0) g0)).e (C1 (n:=n) (m:=(m:Int)) ⟨n1,n8⟩ ⟨by omega,by omega⟩)) zb rfl) (zj rfl))
  (zt (yc (i:=3) (zT (za rfl) zb rfl) (zj rfl))
  (zt (yc (i:=4) (zT (za rfl) zb rfl) (zj rfl))
  (zt (yg (i:=5) (told (NO (Vr (ve rfl) ce (Dy (k:=1) g1 (by omega))).e (ve rfl) (Ox (by have:=h.xl;omega) h.jt)) zb rfl) (zj rfl))
  (zt (yc (i:=6) (told (Vr (Vr (ve rfl) ce (Dy (k:=2) g2 (by omega))).e (ve rfl) (E6 ⟨n1,n8⟩ ⟨e0,e1⟩)) zb rfl) (zj rfl))
  (zt (yg (i:=7) (TY (ve rfl) (ve rfl) (ve rfl) hd) (zj rfl))
  (zt (yg (i:=8) (TY (ve rfl) (yp zb (pO rfl)).e (ve rfl) hsg) (zj rfl))
  (xQ (tF (os:=[.lf true (.int n),.lf true (.int m),vY T,.lf true (.int e),.nd .ls (Ds.map wD),.nd .ls (Ss.map w9)]) (zW (za rfl) (zW (za rfl) (zW (qI rfl) (zW (za rfl) (zW (qI rfl) (zW (qI rfl) rfl)))))) (wz rfl) rfl) Jf)))))))))
end
theorem Bx{α:Type}(f:α->D):∀l:List α,O.toDs (l.map λp=>O.lf true (f p))=l.map f
 | []=>rfl
 |p::r=>congrArg (f p :: ·) (Bx f r)
theorem MV{α:Type}(f:α->D):∀l:List α,O.strs (l.map λp=>O.lf true (f p))=true
 | []=>rfl
 |p::r=>by show(true&&O.strs _)=true;rw[MV f r];rfl
section
variable{as:AS}{a:EF}
theorem Cz{p:Nat}{os ps:List O}(h:as[p]? = some (sN os))(hl:os.length+ps.length<=sizeLine)(ha:a as=some (.ow (.nd .ls ps),as)):ya (yt p (dC a dN) Ml) as=some (.nx (as.set p (sN (os++ps)))):=by
 unfold ya yt;rw[h];have e:dC a dN as=some ([.nd .ls ps],as):=XR ha zF;show((dC a dN as).bind _).bind _=_;rw[e];show(Option.bind (match as[p]? with|some (some (.nd .ls os))=>_|_=>none) _)=_;rw[h];show((Ml os [.nd .ls ps]).bind _).bind _=_;have e2:Ml os [.nd .ls ps]=some (os++ps,.lf true .non):=by unfold Ml;exact if_pos hl
 rw[e2];rfl
theorem qN{i:Nat}{sep:Str}{ps:List Str}(h:as[i]? = some (sN (ps.map λs=>O.lf true (.str s))))(hj:xi (.str sep) [.lst (ps.map D.str)]=some (.im (.str (Str.join sep ps)))):WD (ye .str (fC (.str sep)) (aC (fV i) aN) xi) as true (.str (Str.join sep ps)):=by
 have hv:RV.view as (.bo i)=some (.lst (ps.map D.str),some true):=by
  rw[QX h];have e1:(ps.map λs=>O.lf true (.str s)).all O.isLf=true:=by simp[O.isLf]
  show some (D.lst (O.toDs _),(if _ then some (O.strs _)else none))=_;rw[if_pos e1,Bx,MV]
 have hr:aC (fV i) aN as=some ([.bo i],as):=FY (r:=.bo i) (Wv h) rfl;unfold WD ye;rw[show fC (.str sep) as=some (.ow (.lf true (.str sep)),as)from rfl];show((aC (fV i) aN as).bind (λq=>(RV.view q.2 (RV.ow (O.lf true (.str sep)))).bind λx=>(views q.2 q.1).bind λy=>(xi x.1 y.1).bind λr=>(wrap (meet x.2 y.2) r).bind λz=>some (z,q.2)))=_;rw[hr];show((views as [.bo i]).bind _)=_;have hvs:views as [.bo i]=some ([.lst (ps.map D.str)],some true):=by
  unfold views;rw[hv];rfl
 rw[hvs];show((xi (.str sep) [.lst (ps.map D.str)]).bind _)=_;rw[hj];rfl
theorem DE{α:Type}{cap:List (Option Nat)}{g:GF}{fe fi:EF}{l:List α}{e:α->D}{F:α->D}(h:WE fi as (.lst (l.map e)))(hl:l.length<=1000)(H:∀v ∈ l,∃as1,g (true,e v) (wC cap as)=some as1/\WD fe as1 true (F v)):zq (yB fi) cap g zM fe as=some (.ow (.nd .ls (l.map λv=>O.lf true (F v))),as):=by
 have key:∀l':List α,(∀x ∈ l',x ∈ l)->yy g zM fe (wC cap as) ((l'.map e).map λd=>(true,d))=some (l'.map λv=>O.lf true (F v)):=λl'=>by
  induction l' with
  |nil=>intro _;rfl
  |cons d r ih=>
   intro hs;obtain⟨as1,g1,g2⟩:=H d (hs d (by simp));exact Wc g1 g2 (ih λx m=>hs x (zzD _ m))
 exact xM (WR h) (by rw[zzB,zzB];exact Wn (by omega)) (key l λ_ m=>m)
end
abbrev VB(p:Dd):Dd:=(p.1,("rows ":Str)++tT p.2.2,p.2.2)
section
variable{n e:Int}{m:Nat}{X:Str}{T:TZ}{Ds:List Dd}{Ss:List Sd}
theorem Iw{p:Sd}(hn:n<=8)(h:QL n p):Vs p.2:=BY hn h.2.1 h.2.2.1
theorem NW{p:Sd}(hn:n<=8)(h:QL n p):Zd [(true,.str p.1),(true,zH p.2)]=sT (.str (lS p)):=by
 have hv:=Iw hn h;have hl:=hv.1;have e0:([.str ("sign":Str),.str p.1]:List D)++(p.2.map λv=>D.str (tx v))=((("sign":Str)::p.1::p.2.map tx).map λs=>D.str s):=by
  rw[zyR,zyR,zyB];rfl
 have hc:WE (f2 (yf (dC (fC (.str "sign")) (dC zf dN))) (zq (yB zk) [none] zP zM (fP yJ wF)) zd) [sT (.str p.1),sT (zH p.2)] (.lst ((("sign":Str)::p.1::p.2.map tx).map λs=>D.str s)):=by
  rw[<-e0];exact AJ (yz (os:=[.lf true (.str ("sign":Str)),.lf true (.str p.1)]) (zc zb (zc (za rfl) zF)) (wz rfl) rfl rfl) (Gp hv (ve rfl)) (add_lists (by show 2+(p.2.map _).length<=sizeLine;rw[zzB];exact Wn (by omega)))
 have:=joinM (sep:=sb) (n:=60) hc (λs ms=>by
  rcases zzC.mp ms with rfl|ms
  . decide +kernel
  rcases zzC.mp ms with rfl|ms
  . have:=h.1.2.1;omega
  . obtain⟨v,mv,rfl⟩:=zxB.mp ms;exact xa (hv.2 v mv).1 (hv.2 v mv).2) (by rw[Hz];simp;omega)
 rw[List.map_id']at this;exact yC rfl (y_ this)
abbrev tO(s:Str):O:=.lf true (.str s)
theorem KZ{p:Dd}(hn:n<=8)(hm:m<=6)(h:MY n m p):Ts p.2.2:=Rj hn (by omega) h.2.2.1
theorem AOk.rows(h:AOk n m X T e Ds Ss):AOk n m (("rows ":Str)++tT T) T e (Ds.map VB) Ss:=by
 have n1:=h.n1;have n8:=h.n8;have m1:=h.m1;have m6:=h.m6;have lr:("rows ":Str).length=5:=by decide +kernel
 have nn:∀T:TZ,(∀r ∈ T,In n r)->10 ∉ (("rows ":Str)++tT T).cps.toList:=λT hT=>ZR (by decide +kernel) λhm=>by have:=BP hT hm;omega
 refine⟨n1,n8,m1,m6,h.tb,Sw n1 n8 h.tb, ?_,nn T λr mr=>(h.tb.2 r mr).2,h.e0,h.e1,by rw[zzB];exact h.d6, ?_, ?_,h.s4,h.sk,h.sn⟩
 . have:=vV (Rj n8 (by omega) h.tb);rw[zY];omega
 . intro q mq;obtain⟨p,mp,rfl⟩:=zxB.mp mq;have hp:=(h.dk p mp).1;refine⟨⟨hp.1, ?_,hp.2.2.1,B0 n1 n8 m1 (by omega) hp.2.2.1⟩,nn p.2.2 λr mr=>(hp.2.2.1.2 r mr).2⟩;have:=vV (KZ n8 m6 hp);show(("rows ":Str)++tT p.2.2).length<=_;rw[zY];omega
 . rw[zyB];exact h.dn
theorem Ia(h:AOk n m X T e Ds Ss):wx [(true,vX n m T e Ds Ss)]=sT (.str (Str.join sn (Wm n m (("rows ":Str)++tT T) e (Ds.map VB) Ss))):=by
 have n1:=h.n1;have n8:=h.n8;have m1:=h.m1;have m6:=h.m6;have e0:=h.e0;have e1:=h.e1;have d6:=h.d6;have s4:=h.s4;have hT:=Rj n8 (by omega) h.tb;have lr:("rows ":Str).length=5:=by decide +kernel
 have l1:("values ":Str).length=7:=by decide +kernel
 have l2:(" around ":Str).length=8:=by decide +kernel
 have l3:("join ":Str).length=5:=by decide +kernel
 have l4:("nothing ":Str).length=8:=by decide +kernel
 have l5:("deed ":Str).length=5:=by decide +kernel
 have l6:(" ":Str).length=1:=by decide +kernel
 have tn:=xa (v:=n) (by omega) (by omega);have tm:=xa (v:=(m:Int)) (by omega) (by omega);have te:=xa (v:=e) (by omega) (by omega);have tt:=vV hT;have hD:∀as:AS,WE (f2 zf xj zA) as (.lst (Ds.map v5))->zq (yB (f2 zf xj zA)) [none,none] (gT 2 (xx zP (xx (gN 1) Pf))) zM (f2 (f2 (f2 (fC (.str "deed ")) zf zd) (fC (.str " ")) zd) (zg yG va) zd) as=some (.ow (.nd .ls (Ds.map λp=>tO (lD (VB p)))),as):=λas hw=>
  DE (F:=λp=>.str (lD (VB p))) hw (by omega) λp mp=>⟨[sT (.str p.1),sT (.lst (p.2.2.map zH))],rfl,Y7 (Y7 (Y7 ce (ve rfl) (by have z:(VB p).1.length<=8:=(h.dk p mp).1.1.2.1;omega)).e ce (by have z:(VB p).1.length<=8:=(h.dk p mp).1.1.2.1;rw[zY];omega)).e (Yw (ve rfl) (V3 (KZ n8 m6 (h.dk p mp).1))).e (by have z:(VB p).1.length<=8:=(h.dk p mp).1.1.2.1;have z2:p.1.length<=8:=z;have:=vV (KZ n8 m6 (h.dk p mp).1);show _+(("rows ":Str)++tT p.2.2).length<=_;simp only[zY];omega)⟩
 have hS:∀as:AS,WE (f2 zf G0 zA) as (.lst (Ss.map Zc))->zq (yB (f2 zf G0 zA)) [none,none] (gT 2 (xx zP (xx (gN 1) Pf))) zM (zg (aC zf yG) Zd) as=some (.ow (.nd .ls (Ss.map λp=>tO (lS p))),as):=λas hw=>
  DE (F:=λp=>.str (lS p)) hw (by omega) λp mp=>⟨[sT (.str p.1),sT (zH p.2)],rfl,Vr (ve rfl) (ve rfl) (NW n8 (h.sk p mp))⟩
 have ho:=X8 h.rows;have eo:([tO (lV n m),tO (lJ (("rows ":Str)++tT T)),tO (lE e)]++Ds.map λp=>tO (lD (VB p)))++(Ss.map λp=>tO (lS p))=(Wm n m (("rows ":Str)++tT T) e (Ds.map VB) Ss).map tO:=by
  unfold Wm;simp[zyL,zyB,Function.comp_def]
 have hj:xi (.str sn) [.lst ((Wm n m (("rows ":Str)++tT T) e (Ds.map VB) Ss).map D.str)]=some (.im (.str (Str.join sn (Wm n m (("rows ":Str)++tT T) e (Ds.map VB) Ss)))):=Tf (by
  have z:=LS ho.2;have z2:=Nat.mul_le_mul_right 10020 ho.1;rw[sf];have:=ho.1;omega)
 refine yC rfl (zt (yg (i:=1) (yN (os:=[tO (lV n m)]) (zc (Y7 (Y7 (Y7 ce (Fi (v:=n) (zT (za rfl) zb rfl).e (by omega) (by omega)).e (by omega)).e ce (by rw[zY];omega)).e (Fi (v:=(m:Int)) (zT (za rfl) zb rfl).e (by omega) (by omega)).e (by simp only[zY];omega)) zF) (wz rfl)) (zj rfl))
  (zt (Ta (i:=1) rfl (yA (by show 1<=1000;decide)) (Y7 ce (Yw (zT (za rfl) zb rfl).e (V3 hT)).e (by rw[zY];omega)))
  (zt (Ta (i:=1) rfl (yA (by show 2<=1000;decide)) (Y7 ce (Fi (v:=e) (zT (za rfl) zb rfl).e e0 (by omega)).e (by omega)))
  (zt (Cz (p:=1) rfl (by rw[zzB];exact Wn (by show 3+_<=_;omega)) (hD _ (zT (za rfl) zb rfl).e))
  (zt (Cz (p:=1) rfl (by rw[zzB,zzJ,zzB];exact Wn (by show 3+_+_<=_;omega)) (hS _ (zT (za rfl) zb rfl).e))
  (y_ (qN (i:=1) (ps:=Wm n m (("rows ":Str)++tT T) e (Ds.map VB) Ss) ?_ hj)))))))
 show some (some (O.nd .ls (([tO (lV n m),tO (lJ (("rows ":Str)++tT T)),tO (lE e)]++Ds.map λp=>tO (lD (VB p)))++(Ss.map λp=>tO (lS p)))))=_;rw[eo]
end
abbrev Jk(d1 d2 d3 d4 d5 d6 d0:D)(L:List Str)(e8 e9 e10:Option O):AS:=[sT d0,sT d1,sT d2,sT d3,sT d4,sT d5,sT d6,sN (L.map tO),e8,e9,e10]
abbrev mQ:SF:=(ya (yt 7 (dC (f2 (f2 (f2 (fC (.str "deed ")) (fV 8) zd) (fC (.str " rows ")) zd) (zg (aC (fV 9) aN) yM) zd) dN) yx))
abbrev mO:SF:=(ya (yt 7 (dC (ye .str (fC (.str " ")) (aC (f2 (yf (dC (f2 (fC (.str "sign ")) (fV 8) zd) dN)) (zq (yB (fV 10)) [none] zP zM (fP yJ wF)) zd) aN) xi) dN) yx))
theorem qO(p:Dd):("deed ":Str)++p.1++(" rows ":Str)++tT p.2.2=lD (VB p):=by
 show _=("deed ":Str)++p.1++(" ":Str)++(("rows ":Str)++tT p.2.2);rw[show(" rows ":Str)=(" ":Str)++("rows ":Str) by decide +kernel];simp only[pG]
theorem qf(x:Str):("join rows ":Str)++x=lJ (("rows ":Str)++x):=by
 unfold lJ;rw[show("join rows ":Str)=("join ":Str)++("rows ":Str) by decide +kernel,pG]
theorem ls_eq(p:Sd):Str.join sb ((("sign ":Str)++p.1)::p.2.map tx)=lS p:=by
 rw[show("sign ":Str)=("sign":Str)++sb by decide +kernel,StrLaws.join_shift];rfl
section
variable{n e:Int}{m:Nat}{X:Str}{T:TZ}{Ds:List Dd}{Ss:List Sd}{d0 d1 d2 d3 d4 d5 d6:D}
theorem T9(n8:n<=8)(m6:m<=6):∀(ps:List Dd) (L:List Str) (e8 e9 e10:Option O),(∀p ∈ ps,MY n m p)->L.length+ps.length<=100->
 ∃e8' e9',forL (gT 2 (xx (gN 8) (xx (gN 9) Pf))) mQ ((ps.map v5).map λd=>(true,d)) (Jk d1 d2 d3 d4 d5 d6 d0 L e8 e9 e10)=some (.nx (Jk d1 d2 d3 d4 d5 d6 d0 (L++ps.map λp=>lD (VB p)) e8' e9' e10))
 | [],L,e8,e9,e10,_,_=>⟨e8,e9,by rw[show L++([]:List Dd).map (λp=>lD (VB p))=L from zyE L];rfl⟩
 |p::ps,L,e8,e9,e10,ho,hl=>by
  have hp:=ho p (by simp);have tt:=vV (KZ n8 m6 hp);have l5:("deed ":Str).length=5:=by decide +kernel
  have l6:(" rows ":Str).length=6:=by decide +kernel
  have hz:=hp.1.2.1;obtain⟨e8',e9',ih⟩:=T9 n8 m6 ps (L++[lD (VB p)]) (sT (.str p.1)) (sT (.lst (p.2.2.map zH))) e10 (λq mq=>ho q (zzD _ mq)) (by simp at hl ⊢;omega);refine⟨e8',e9',Yl (as1:=Jk d1 d2 d3 d4 d5 d6 d0 L (sT (.str p.1)) (sT (.lst (p.2.2.map zH))) e10) (as2:=Jk d1 d2 d3 d4 d5 d6 d0 (L++[lD (VB p)]) (sT (.str p.1)) (sT (.lst (p.2.2.map zH))) e10) rfl ?_ (by rw[ih];simp)⟩;have:=Ta (as:=Jk d1 d2 d3 d4 d5 d6 d0 L (sT (.str p.1)) (sT (.lst (p.2.2.map zH))) e10) (i:=7) (os:=L.map tO) rfl (by rw[zzB];exact yA (by simp at hl;omega)) (Y7 (Y7 (Y7 (u:=("deed ":Str)) (v:=p.1) ce (ve (i:=8) rfl) (by omega)).e (ce (x:=.str (" rows ":Str))) (by rw[zY];omega)).e (Yw (ve (i:=9) rfl) (Ma (KZ n8 m6 hp))).e (by simp only[zY];omega));rw[qO]at this;rw[show mQ=ya _ from rfl,this];have e:L.map tO++[O.lf true (.str (lD (VB p)))]=(L++[lD (VB p)]).map tO:=by rw[zyL];rfl
  rw[e];rfl
theorem T7(n8:n<=8):∀(ps:List Sd) (L:List Str) (e8 e9 e10:Option O),(∀p ∈ ps,QL n p)->L.length+ps.length<=100->
 ∃e8' e10',forL (gT 2 (xx (gN 8) (xx (gN 10) Pf))) mO ((ps.map Zc).map λd=>(true,d)) (Jk d1 d2 d3 d4 d5 d6 d0 L e8 e9 e10)=some (.nx (Jk d1 d2 d3 d4 d5 d6 d0 (L++ps.map lS) e8' e9 e10'))
 | [],L,e8,e9,e10,_,_=>⟨e8,e10,by rw[show L++([]:List Sd).map lS=L from zyE L];rfl⟩
 |p::ps,L,e8,e9,e10,ho,hl=>by
  have hp:=ho p (by simp);have hv:=Iw n8 hp;have hlv:=hv.1;have l5:("sign ":Str).length=5:=by decide +kernel
  have hz:=hp.1.2.1;obtain⟨e8',e10',ih⟩:=T7 n8 ps (L++[lS p]) (sT (.str p.1)) e9 (sT (zH p.2)) (λq mq=>ho q (zzD _ mq)) (by simp at hl ⊢;omega);refine⟨e8',e10',Yl (as1:=Jk d1 d2 d3 d4 d5 d6 d0 L (sT (.str p.1)) e9 (sT (zH p.2))) (as2:=Jk d1 d2 d3 d4 d5 d6 d0 (L++[lS p]) (sT (.str p.1)) e9 (sT (zH p.2))) rfl ?_ (by rw[ih];simp)⟩;have e0:([.str (("sign ":Str)++p.1)]:List D)++(p.2.map λv=>D.str (tx v))=(((("sign ":Str)++p.1)::p.2.map tx).map λs=>D.str s):=by
   rw[zyR,zyB];rfl
  have hc:WE (f2 (yf (dC (f2 (fC (.str "sign ")) (fV 8) zd) dN)) (zq (yB (fV 10)) [none] zP zM (fP yJ wF)) zd) (Jk d1 d2 d3 d4 d5 d6 d0 L (sT (.str p.1)) e9 (sT (zH p.2))) (.lst (((("sign ":Str)++p.1)::p.2.map tx).map λs=>D.str s)):=by
   rw[<-e0];exact AJ (yz (os:=[.lf true (.str (("sign ":Str)++p.1))]) (zc (Y7 ce (ve (i:=8) rfl) (by omega)) zF) (wz rfl) rfl rfl) (Gp hv (ve (i:=10) rfl)) (add_lists (by show 1+(p.2.map _).length<=sizeLine;rw[zzB];exact Wn (by omega)))
  have hj:=joinM (sep:=sb) (n:=60) hc (λs ms=>by
   rcases zzC.mp ms with rfl|ms
   . rw[zY];omega
   . obtain⟨v,mv,rfl⟩:=zxB.mp ms;exact xa (hv.2 v mv).1 (hv.2 v mv).2) (by rw[Hz];simp;omega)
  rw[List.map_id',ls_eq]at hj;rw[show mO=ya _ from rfl,Ta (i:=7) (os:=L.map tO) rfl (by rw[zzB];exact yA (by simp at hl;omega)) hj];have e:L.map tO++[O.lf true (.str (lS p))]=(L++[lS p]).map tO:=by rw[zyL];rfl
  rw[e];rfl
theorem Iy(h:AOk n m X T e Ds Ss):ZD [(true,vX n m T e Ds Ss)]=sN ((Wm n m (("rows ":Str)++tT T) e (Ds.map VB) Ss).map tO):=by
 have n1:=h.n1;have n8:=h.n8;have m1:=h.m1;have m6:=h.m6;have e0:=h.e0;have e1:=h.e1;have d6:=h.d6;have s4:=h.s4;have hT:=Rj n8 (by omega) h.tb;have l1:("values ":Str).length=7:=by decide +kernel
 have l2:(" around ":Str).length=8:=by decide +kernel
 have l3:("join rows ":Str).length=10:=by decide +kernel
 have l4:("nothing ":Str).length=8:=by decide +kernel
 have tn:=xa (v:=n) (by omega) (by omega);have tm:=xa (v:=(m:Int)) (by omega) (by omega);have te:=xa (v:=e) (by omega) (by omega);have tt:=vV hT;obtain⟨a8,a9,f1⟩:=T9 (d0:=vX n m T e Ds Ss) (d1:=.int n) (d2:=.int m) (d3:=.lst (T.map zH)) (d4:=.int e) (d5:=.lst (Ds.map v5)) (d6:=.lst (Ss.map Zc)) n8 m6 Ds [lV n m,lJ (("rows ":Str)++tT T),lE e] none none none (λp mp=>(h.dk p mp).1) (by simp;omega);obtain⟨b8,b10,f2⟩:=T7 (d0:=vX n m T e Ds Ss) (d1:=.int n) (d2:=.int m) (d3:=.lst (T.map zH)) (d4:=.int e) (d5:=.lst (Ds.map v5)) (d6:=.lst (Ss.map Zc)) n8 Ss ([lV n m,lJ (("rows ":Str)++tT T),lE e]++Ds.map λp=>lD (VB p)) a8 a9 none h.sk (by simp;omega);have eo:([lV n m,lJ (("rows ":Str)++tT T),lE e]++Ds.map λp=>lD (VB p))++Ss.map lS=Wm n m (("rows ":Str)++tT T) e (Ds.map VB) Ss:=by
  unfold Wm;simp[zyB,Function.comp_def]
 rw[eo]at f2;have hjw:=Y7 (as:=[sT (vX n m T e Ds Ss),sT (.int n),sT (.int m),sT (.lst (T.map zH)),sT (.int e),sT (.lst (Ds.map v5)),sT (.lst (Ss.map Zc)),none,none,none,none]) (u:=("join rows ":Str)) ce (Yw (ve (i:=3) rfl) (Ma hT)).e (by omega);rw[qf]at hjw;exact yC rfl (zt (Oj (o:=.lf true (vX n m T e Ds Ss)) (za rfl) rfl)
  (zt (yg (i:=7) (yN (os:=[tO (lV n m),tO (lJ (("rows ":Str)++tT T)),tO (lE e)]) (zc (Y7 (Y7 (Y7 ce (Fi (v:=n) (ve rfl) (by omega) (by omega)).e (by omega)).e ce (by rw[zY];omega)).e (Fi (v:=(m:Int)) (ve rfl) (by omega) (by omega)).e (by simp only[zY];omega)) (zc hjw (zc (Y7 ce (Fi (v:=e) (ve rfl) e0 (by omega)).e (by omega)) zF))) (wz rfl)) (zj rfl))
  (zt (xB (DX (za rfl)) f1)
  (zt (xB (DX (za rfl)) f2)
  (YL (i:=7) rfl (MV (λs=>D.str s) _))))))
end
theorem Rz(xs:List Int):(O.nd .ls (xs.map yS)).str=true/\(O.nd .ls (xs.map yS)).toD = .lst (xs.map D.int):=⟨(yn xs).2.1,congrArg D.lst (yn xs).2.2⟩
theorem Sv:∀{n:Nat}{k:Int}{y:wg},y ∈ yP k n->∃b:Int,y=(true,.int b)/\k<=b/\b<k+n
 |0,_,_,h=>nomatch h
 |n+1,k,y,h=>by
  rw[wG]at h
  rcases zzC.mp h with rfl|h
  . exact⟨k,rfl,by omega,by omega⟩
  . obtain⟨b,e,h1,h2⟩:=Sv h;exact⟨b,e,by omega,by omega⟩
theorem KA{α:Type}(toD:α->D){Q:α->Prop}{g:GF}{fe:EF}{as0:AS}:∀{xs:List wg},(∀y ∈ xs,∃as1 a,g y as0=some as1/\WE fe as1 (toD a)/\Q a)->∃(os:List O) (l:List α),yy g zM fe as0 xs=some os/\O.strs os=true/\O.toDs os=l.map toD/\l.length=xs.length/\∀a ∈ l,Q a
 | [],_=>⟨[],[],rfl,rfl,rfl,rfl,λ_ m=>nomatch m⟩
 |y::xs,H=>by
  obtain⟨as1,a,h1,⟨o,h2,h3,h4⟩,h5⟩:=H y (zzF ..);obtain⟨os,l,a1,a2,a3,a4,a5⟩:=KA toD (Q:=Q) (g:=g) (fe:=fe) (as0:=as0) (xs:=xs) λz m=>H z (zzD _ m);refine⟨o::os,a::l,Z2 h1 h2 h3 a1,by show(o.str&&O.strs os)=true;rw[h3,a2];rfl,by show o.toD::O.toDs os=_;rw[h4,a3];rfl,congrArg (· + 1) a4,λb m=>?_⟩
  rcases zzC.mp m with rfl|m
  . exact h5
  . exact a5 b m
theorem Qc{α:Type}(toD:α->D){Q:α->Prop}{fi:IF}{cap:List (Option Nat)}{g:GF}{fe:EF}{as:AS}{xs:List wg}(h1:fi as=some (xs,as))(hl:xs.length<=1000)(H:∀y ∈ xs,∃as1 a,g y (wC cap as)=some as1/\WE fe as1 (toD a)/\Q a):
 ∃l:List α,l.length=xs.length/\(∀a ∈ l,Q a)/\WE (zq fi cap g zM fe) as (.lst (l.map toD)):=by
 obtain⟨os,l,a1,a2,a3,a4,a5⟩:=KA toD H;exact⟨l,a4,a5,_,xM h1 (Wn (by omega)) a1,a2,congrArg D.lst a3⟩
theorem xR{α:Type}(toD:α->D){Q:α->Prop}{fr:AF}{cap:List (Option Nat)}{fe:EF}{as:AS}{n:Nat}{u:Bool}(h1:WA fr as [(u,.int n)])(hl:n<=1000)(H:∀b:Int,0<=b->b<n->∃as1 a,gN 0 (true,.int b) (wC cap as)=some as1/\WE fe as1 (toD a)/\Q a):
 ∃l:List α,l.length=n/\(∀a ∈ l,Q a)/\WE (zq (yi fr ym) cap zP zM fe) as (.lst (l.map toD)):=by
 obtain⟨l,a1,a2,a3⟩:=Qc toD (Q:=Q) (cap:=cap) (g:=gN 0) (fe:=fe) (wW h1 (by omega) (by omega)) (by rw[y6];omega) (λy m=>by
  obtain⟨b,rfl,h0,h2⟩:=Sv m;exact H b h0 (by omega))
 rw[y6]at a1;exact⟨l,by omega,a2,a3⟩
theorem IR{f:EF}{as:AS}{x:D}(h:WE f as x):∃o,zI f as=some (.rt o)/\o.str=true/\o.toD=x:=by
 obtain⟨o,h1,h2,h3⟩:=h;exact⟨o,xQ h1 h2,h2,h3⟩
theorem yE{n m:Nat}{c:SF}{ds:List (Bool×D)}{x:D}(hl:ds.length=m)(h:∃o,c (XH n ds)=some (.rt o)/\o.str=true/\o.toD=x):RE (xD n m c ds) x:=by
 obtain⟨o,h1,h2,h3⟩:=h;exact⟨o,yC hl h1,h2,h3⟩
abbrev Rt(r:Option Out)(x:D):Prop:=∃o,r=some (.rt o)/\o.str=true/\o.toD=x
theorem zi{f g:SF}{as as1:AS}{x:D}(h1:f as=some (.nx as1))(h2:Rt (g as1) x):Rt (zh f g as) x:=by
 obtain⟨o,a,b,c⟩:=h2;exact⟨o,zt h1 a,b,c⟩
theorem wO{f g:SF}{as:AS}{x:D}(h1:Rt (f as) x):Rt (zh f g as) x:=by
 obtain⟨o,a,b,c⟩:=h1;exact⟨o,Px a,b,c⟩
theorem ZL{c:TF}{f g:SF}{as:AS}{x:D}(h:WT c as true)(h1:Rt (f as) x):Rt (xX c f g as) x:=by
 obtain⟨o,a,b,d⟩:=h1;exact⟨o,wo h a,b,d⟩
theorem yW{f:EF}{as:AS}{x:D}(h:WE f as x):Rt (zI f as) x:=IR h
def Row(n:Nat)(r:List Int):Prop:=r.length=n/\∀x ∈ r,0<=x/\x<(n:Int)
def Tab(k n:Nat)(T:TZ):Prop:=T.length=k/\∀r ∈ T,Row n r
abbrev zL(T:TZ):D:=.lst (T.map zH)
theorem ZI{r:List Int}{P:Int->Prop}{k:Int}(h0:0<=k)(h1:k<r.length)(hp:∀x ∈ r,P x):∃x,zA (.lst (r.map D.int)) (.int k)=some (.im (.int x))/\P x:=by
 have hk:k.toNat<r.length:=by omega
 refine⟨r[k.toNat], ?_,hp _ (zyX hk)⟩;have h:=wt (xs:=r.map D.int) (j:=k.toNat) (v:=D.int r[k.toNat]) (by rw[zzI,zzE hk];rfl);rw[show((k.toNat:Nat):Int)=k by omega]at h;show Ji (Pk _ _)=_;rw[h];rfl
theorem Gd{α:Type}(toD:α->D){T:List α}{P:α->Prop}{k:Int}(h0:0<=k)(h1:k<T.length)(hp:∀r ∈ T,P r):∃r,zA (.lst (T.map toD)) (.int k)=some (.im (toD r))/\P r:=by
 have hk:k.toNat<T.length:=by omega
 refine⟨T[k.toNat], ?_,hp _ (zyX hk)⟩;have h:=wt (xs:=T.map toD) (j:=k.toNat) (v:=toD T[k.toNat]) (by rw[zzI,zzE hk];rfl);rw[show((k.toNat:Nat):Int)=k by omega]at h;show Ji (Pk _ _)=_;rw[h];rfl
abbrev St(x:Int):Prop:=0<=x/\x<2147483399
theorem uF{a b:EF}{as:AS}{c:Int}{m:Nat}(hm:m<=900)(ha:WE a as (.int c))(hb:WE b as (.int m)):∃xs:List Int,xs.length=m/\(∀x ∈ xs,St x)/\WE (zg (aC a (aC b aN)) yk) as (.lst (xs.map D.int)):=by
 obtain⟨xs,h1,h2,h3⟩:=Hs (s:=true) (c:=c) (m:=m) (by omega) (by omega);exact⟨xs,by omega,h2,Vj ha hb ⟨_,h3,(Rz xs).1,(Rz xs).2⟩⟩
theorem Fv:∀(b:Nat) (a:Int) (f:Nat),b<f->0<a->a<1000->b<1000->∃g e,0<g/\g<1000/\Jh (fT (f2 zk zU (zw .Gt))) (Ja 0 1 (dC zk (dC (f2 zf zk zm) dN))) f [sI a,sI b]=some (.nx [sI g,e]):=by
 intro b
 induction b using Nat.strongRecOn with
 |ind b ih=>
  intro a f hf ha ha2 hb2;cases f with
  |zero=>omega
  |succ f=>
   by_cases hb:b=0
   . subst hb;exact⟨a,_,ha,ha2,tG (zp (XA (za rfl) zb) rfl)⟩
   . have m0:=zyM a (show(b:Int)≠0 by omega);have m1:=zyH a (show(0:Int)<b by omega);obtain⟨g,e,g0,g1,hg⟩:=ih (a%b).toNat (by omega) b f (by omega) (by omega) (by omega) (by omega);rw[show(((a%b).toNat:Nat):Int)=a%b by omega]at hg;exact⟨g,e,g0,g1,u3 (zp (XA (za rfl) zb) (congrArg some (zyN (show(0:Int)<b by omega)))) (uE (zc (za rfl) (zc (yb (za rfl) (za rfl) (by omega)) zF)) (zj rfl) (zj rfl)) hg⟩
theorem F_{n m:Nat}{s t:Bool}(hn:0<n)(hn2:n<=8)(hm:m<=8):∃g:Int,0<g/\g<1000/\ZS [(true,.int n),(true,.int m)]=sI g:=by
 obtain⟨g,e,g0,g1,hg⟩:=Fv m n 10000 (by omega) (by omega) (by omega) (by omega);exact⟨g,g0,g1,yC rfl (zt hg (y_ (za rfl)))⟩
theorem strs_snoc:∀(os:List O) (o:O),O.strs os=true->o.str=true->O.strs (os++[o])=true
 | [],o,_,h=>by show(o.str&&true)=true;rw[h];rfl
 |p::r,o,h,h'=>by
  have h:=(zyC _ _).mp (show(p.str&&O.strs r)=true from h);show(p.str&&O.strs (r++[o]))=true;rw[h.1,strs_snoc r o h.2 h'];rfl
theorem Ku:∀(os:List O) (o:O),O.toDs (os++[o])=O.toDs os++[o.toD]
 | [],o=>rfl
 |p::r,o=>congrArg (p.toD :: ·) (Ku r o)
structure Ows{α:Type}(toD:α->D)(Q:α->Prop)(os:List O)(l:List α):Prop where
 st:O.strs os=true
 ds:O.toDs os=l.map toD
 al:∀a ∈ l,Q a
 ln:os.length=l.length
theorem Ows.nil{α:Type}{toD:α->D}{Q:α->Prop}:Ows toD Q [] []:=⟨rfl,rfl,(λ_ m=>nomatch m),rfl⟩
theorem Ows.snoc{α:Type}{toD:α->D}{Q:α->Prop}{os:List O}{l:List α}{o:O}{a:α}(h:Ows toD Q os l)(h1:o.str=true)(h2:o.toD=toD a)(h3:Q a):Ows toD Q (os++[o]) (l++[a]):=
 ⟨strs_snoc os o h.st h1,(by rw[Ku,h.ds,h2,zyL];rfl),(λb m=>(zzM.mp m).elim (h.al b) λm=>(by rw[zzR.mp m];exact h3)),(by rw[zzJ,zzJ,h.ln];rfl)⟩
theorem Se{as as1:AS}{a:EF}{i:Nat}{os0 os:List O}{o:O}(h:as[i]? = some (sN os0))(ha:a as=some (.ow o,as1))(h1:as1[i]? = some (sN os))(hl:os.length<sizeLine):ya (yt i (dC a dN) yx) as=some (.nx (as1.set i (sN (os++[o])))):=by
 unfold ya yt;rw[h];have e:dC a dN as=some ([o],as1):=zW ha rfl;show((dC a dN as).bind _).bind _=_;rw[e];show(Option.bind (match as1[i]? with|some (some (.nd .ls os))=>_|_=>none) _)=_;rw[h1];show((yx os [o]).bind _).bind _=_;have e2:yx os [o]=some (os++[o],.lf true .non):=by unfold yx;exact if_pos hl
 rw[e2];rfl
theorem EX{α:Type}{toD:α->D}{Q:α->Prop}{as:AS}{a:EF}{i:Nat}{os:List O}{l:List α}{x:α}(h:as[i]? = some (sN os))(ho:Ows toD Q os l)(hl:l.length<1000)(ha:WE a as (toD x))(hx:Q x):
 ∃os',Ows toD Q os' (l++[x])/\ya (yt i (dC a dN) yx) as=some (.nx (as.set i (sN os'))):=by
 obtain⟨o,h1,h2,h3⟩:=ha;exact⟨os++[o],ho.snoc h2 h3 hx,Se h h1 h (by rw[ho.ln];exact yA (by omega))⟩
theorem Ows.retB{α:Type}{toD:α->D}{Q:α->Prop}{as:AS}{i:Nat}{os:List O}{l:List α}(h:as[i]? = some (sN os))(ho:Ows toD Q os l):Rt (zI (fV i) as) (.lst (l.map toD)):=
 ⟨_,YL h ho.st,ho.st,congrArg D.lst ho.ds⟩
theorem Wo{xs:List Int}(h:∀x ∈ xs,St x){k:Int}(h0:0<=k)(h1:k<xs.length):∃x,zA (.lst (xs.map D.int)) (.int k)=some (.im (.int x))/\St x:=ZI h0 h1 h
theorem xN{x:Int}{n:Nat}(hn:0<n):0<=x%n/\x%n<(n:Int):=⟨zyM _ (by omega),zyH _ (by omega)⟩
theorem Az{n m:Nat}{xs:List Int}(hn:0<n)(hn2:n<=8)(hm:m<=8)(hl:xs.length=9)(hx:∀x ∈ xs,St x):∃T,Tab m n T/\RE (Vv [(true,.int n),(true,.int m),(true,.lst (xs.map D.int))]) (zL T):=by
 obtain⟨g,g0,g1,hg⟩:=F_ (s:=true) (t:=true) (n:=n) (m:=m) hn hn2 hm;obtain⟨x0,a0,b0⟩:=Wo hx (k:=0) (by omega) (by omega);obtain⟨x1,a1,b1⟩:=Wo hx (k:=1) (by omega) (by omega);have q0:0<=(n:Int)/g:=Int.ediv_nonneg (by omega) (by omega);have q1:(n:Int)/g<=n:=Int.ediv_le_self _ (by omega);generalize hst:(n:Int)/g=st at q0 q1;have st4:∀(os:List O) (c:Int),0<=c->c<8->∃l:List Int,l.length=n/\(∀x ∈ l,0<=x/\x<(n:Int))/\WE (zq (yi yJ ym) [none,some 0,some 2,some 5,some 3] zP zM (f2 (f2 (f2 zf (f2 zz zU zA) zy) (f2 (f2 zG zZ zy) (f2 zz zC zA) zy) zd) zk zm))
  [sI n,sI m,sT (.lst (xs.map D.int)),sI st,sN os,sI c] (.lst (l.map D.int)):=λos c c0 c1=>
  xR D.int (n:=n) (zl (za rfl) zo) (by omega) λb h0 h1=>by
   have cs:0<=c*st/\c*st<=64:=⟨Int.mul_nonneg c0 q0,by have:=Int.mul_le_mul (show c<=8 by omega) (show st<=8 by omega) q0 (by omega);omega⟩;exact⟨[sI b,sI n,sT (.lst (xs.map D.int)),sI c,sI st],_,rfl,WD.e (yb (yp (yL (za rfl) (zu (za rfl) zb a0 rfl) (zK (by omega) (by omega)) (zK (by omega) (by omega))) (yL (yL (za rfl) (za rfl) (zK (by omega) (by omega)) (zK (by omega) (by omega))) (zu (za rfl) zb a1 rfl) (zK (by omega) (by omega)) (zK (by omega) (by omega)))) (za rfl) (by omega)),xN hn⟩
 obtain⟨as',hf,os,l,e5,rfl,ho,hlen⟩:=yZ (g:=gN 5) (f:=ya (yt 4 (dC (zq (yi yJ ym) [none,some 0,some 2,some 5,some 3] zP zM (f2 (f2 (f2 zf (f2 zz zU zA) zy) (f2 (f2 zG zZ zy) (f2 zz zC zA) zy) zd) zk zm)) dN) yx))
  (λi as=>∃(os:List O) (l:TZ) (e5:Option O),as=[sI n,sI m,sT (.lst (xs.map D.int)),sI st,sN os,e5]/\Ows zH (Row n) os l/\l.length=i)
  (yP 0 m) 0 [sI n,sI m,sT (.lst (xs.map D.int)),sI st,sN [],none] (λi x as hx' hI=>by
   obtain⟨os,l,e5,rfl,ho,hlen⟩:=hI;obtain⟨rfl,hi⟩:=vg hx';obtain⟨r,r1,r2,r3⟩:=st4 os (0+i) (by omega) (by omega);obtain⟨os',o1,o2⟩:=EX (x:=r) (i:=4) (toD:=zH) (Q:=Row n) rfl ho (by omega) r3 ⟨r1,r2⟩;exact⟨[sI n,sI m,sT (.lst (xs.map D.int)),sI st,sN os,sI (0+i)],rfl,_,o2,os',l++[r],_,rfl,o1,by rw[zzJ,hlen];show 0+i+1=_;omega⟩)
  ⟨[],[],none,rfl,Ows.nil,rfl⟩
 rw[y6]at hlen;refine⟨l,⟨by omega,ho.al⟩,yE rfl (zi (as1:=[sI n,sI m,sT (.lst (xs.map D.int)),sI st,none,none]) ?_ (zi (yg (i:=4) (yN zF (wz rfl)) (zj rfl)) (zi (xB (wW (zl (za rfl) zo) (by omega) (by omega)) hf) (Ows.retB (i:=4) rfl ho))))⟩;have:=yc (st:=true) (i:=3) (as:=[sI n,sI m,sT (.lst (xs.map D.int)),none,none,none]) (wH (za (i:=0) rfl) (We (zl (za (i:=0) rfl) (zl (za (i:=1) rfl) zo)) hg) g0 (zK (by omega) (by omega))) (zj rfl);rw[hst]at this;exact this
theorem DS{fr:AF}{as:AS}{rs:List (Bool×D)}{g:List D->Option R0}{zs:List D}(ha:WA fr as rs)(hg:g (rs.map (·.2))=some (.fl zs)):fP fr g as=some (.ow (.nd .ls (zs.map (G_ (rs.all (·.1))))),as):=by
 unfold fP;unfold WA at ha;rw[ha];show(views as _).bind _=_;rw[xG];show(g _).bind _=_;rw[hg];show(if(zs.all zD||(some (rs.all (·.1))).isSome)=true then _ else _:Option RV).bind _=_;rw[if_pos (by simp)];rfl
theorem CZ{a:EF}{as:AS}{x:D}{g:List D->Option R0}{zs:List D}(ha:WE a as x)(hg:g [x]=some (.fl zs)):fP (aC a aN) g as=some (.ow (.nd .ls (zs.map (O.lf true))),as):=by
 have:=DS (g:=g) (y7 ha (zo (as:=as))) hg;rw[show([(true,x)].all (·.1))=true from rfl,vG]at this;exact this
theorem DG{a:EF}{as:AS}{s:Bool}{r:List Int}(h:WD a as s (.lst (r.map D.int))):fP (aC a aN) lstP as=some (.ow (yR r),as):=by
 have:=DS (g:=lstP) (zl h (zo (as:=as))) rfl;rw[zyB]at this;exact this
theorem tJ{a:EF}{as:AS}{s:Bool}{r:List Int}(h:WD a as s (.lst (r.map D.int))):WE (fP (aC a aN) lstP) as (zH r):=⟨_,DG h,(Rz r).1,(Rz r).2⟩
theorem tI{a b c d:EF}{as:AS}{x y z u w:D}{g:List (Bool×D)->Option O}(ha:WE a as x)(hb:WE b as y)(hc:WE c as z)(hd:WE d as u)(hg:RE (g [(true,x),(true,y),(true,z),(true,u)]) w):WE (zg (aC a (aC b (aC c (aC d aN)))) g) as w:=by
 obtain⟨o,h1,h2⟩:=hg;exact⟨o,xJ (y7 ha (y7 hb (y7 hc (y7 hd zo)))) (by show g [(zD x||true,x),(zD y||true,y),(zD z||true,z),(zD u||true,u)]=_;rw[zyD,zyD,zyD,zyD];exact h1),h2⟩
theorem Ff{a b c d e:EF}{as:AS}{x y z u v w:D}{g:List (Bool×D)->Option O}(ha:WE a as x)(hb:WE b as y)(hc:WE c as z)(hd:WE d as u)(he:WE e as v)(hg:RE (g [(true,x),(true,y),(true,z),(true,u),(true,v)]) w):WE (zg (aC a (aC b (aC c (aC d (aC e aN))))) g) as w:=by
 obtain⟨o,h1,h2⟩:=hg;exact⟨o,xJ (y7 ha (y7 hb (y7 hc (y7 hd (y7 he zo))))) (by show g [(zD x||true,x),(zD y||true,y),(zD z||true,z),(zD u||true,u),(zD v||true,v)]=_;rw[zyD,zyD,zyD,zyD,zyD];exact h1),h2⟩
theorem J7{fr:DF}{as:AS}{os:List O}{x:D}(h:WO fr as os)(hl:os.length<=sizeLine)(hs:O.strs os=true)(e:D.tup (O.toDs os)=x):WE (yr fr) as x:=by
 refine⟨_,C2 h hl, ?_, ?_⟩
 . unfold Y4
   split
   . exact hs
   . exact hs
 . unfold Y4
   split
   . exact e
   . exact e
theorem Pw:∀l:List Int,Ye (l.map D.int)=some l
 | []=>rfl
 |x::r=>by
  show(Ye (r.map D.int)).bind _=_;rw[Pw r];rfl
theorem IW{n m:Nat}{fr:AF}{cap:List (Option Nat)}{as:AS}{u s:Bool}{r:List Int}(hr:Row n r)(hm:m<=8)(h1:WA fr as [(u,.int m)])(h2:∀b:Int,∃as1,gN 0 (true,.int b) (wC cap as)=some as1/\WD zk as1 s (.lst (r.map D.int))):
 ∃T,Tab m n T/\WE (zq (yi fr ym) cap zP zM (fP yG lstP)) as (zL T):=by
 obtain⟨l,a1,a2,a3⟩:=xR zH (Q:=Row n) (n:=m) (cap:=cap) (fe:=fP yG lstP) h1 (by omega) λb _ _=>by
  obtain⟨as1,g1,g2⟩:=h2 b;exact⟨as1,r,g1,tJ g2,hr⟩
 exact⟨l,⟨a1,a2⟩,a3⟩
theorem Bb{n m:Nat}{xs:List Int}(hn:0<n)(hn2:n<=8)(hm:m<=8)(hl:xs.length=9)(hx:∀x ∈ xs,St x):∃T,Tab m n T/\RE (YS [(true,.int n),(true,.int m),(true,.lst (xs.map D.int))]) (zL T):=by
 obtain⟨l,l1,l2,l3⟩:=xR (as:=[sI n,sI m,sT (.lst (xs.map D.int)),none]) (u:=true) D.int (Q:=λx=>0<=x/\x<(n:Int)) (n:=n-1) (cap:=[none,some 0,some 2]) (fr:=aC (f2 zf zC wk) aN) (fe:=f2 (f2 zz zf zA) zk zm)
  (by rw[show(((n-1:Nat):Nat):Int)=(n:Int)-1 by omega];exact zl (Uc (za rfl) zb) zo) (by omega) (λb h0 h1=>by
   obtain⟨x,hx1,hx2⟩:=Wo hx (k:=b) h0 (by omega);exact⟨[sI b,sI n,sT (.lst (xs.map D.int))],_,rfl,WD.e (yb (zu (za rfl) (za rfl) hx1 rfl) (za rfl) (by omega)),xN hn⟩)
 have w0:WE (f2 (yf (dC zU dN)) (zq (yi (aC (f2 zf zC wk) aN) ym) [none,some 0,some 2] zP zM (f2 (f2 zz zf zA) zk zm)) zd) [sI n,sI m,sT (.lst (xs.map D.int)),none] (.lst ((0::l).map D.int)):=
  AJ (yz (os:=[yS 0]) (zc zb zF) (wz rfl) rfl rfl) l3 (add_lists (by rw[zzB];exact Wn (by show 1+_<=_;omega)))
 have hp:=sortI_perm (0::l);have hlen:(sortI (0::l)).length=n:=by rw[hp.length_eq,zzT];omega
 have hr:Row n ((sortI (0::l)).set 0 0):=by
  refine⟨by rw[zzU];exact hlen,λx m=>?_⟩
  rcases List.mem_or_eq_of_mem_set m with m|rfl
  . rcases zzC.mp (hp.mem_iff.mp m)with rfl|m
    . omega
    . exact l2 x m
  . omega
 have s3:=yg (i:=3) (CZ (g:=Oo) w0 (by
  show(Ye ((0::l).map D.int)).bind _=_;rw[Pw];show(if(0::l).length<64 then _ else _)=_;rw[if_pos (by rw[zzT];omega)])) (zj rfl)
 rw[L0]at s3;have s4:IT 3 (xC 0) (xC 0) [sI n,sI m,sT (.lst (xs.map D.int)),sN ((sortI (0::l)).map yS)]=some (.nx [sI n,sI m,sT (.lst (xs.map D.int)),sN (((sortI (0::l)).set 0 0).map yS)]):=by
  cases hs:sortI (0::l)with
  |nil=>rw[hs]at hlen;simp at hlen;omega
  |cons y t=>rfl
 obtain⟨T,t1,t2⟩:=IW (n:=n) (m:=m) (s:=false) (u:=true) (cap:=[none,some 3]) (as:=[sI n,sI m,sT (.lst (xs.map D.int)),sN (((sortI (0::l)).set 0 0).map yS)]) (fr:=aC zk aN) hr hm (zl (za rfl) zo) (λb=>⟨[sI b,some (.lf false (.lst (O.toDs (((sortI (0::l)).set 0 0).map yS))))],rfl,by rw[(yn _).2.2];exact za rfl⟩);exact⟨T,t1,yE rfl (zi s3 (zi s4 (yW t2)))⟩
theorem B3{n m:Nat}{xs:List Int}(hn:2<=n)(hn2:n<=8)(hm:m<=8)(hl:xs.length=9)(hx:∀x ∈ xs,St x):∃T,Tab m n T/\RE (VA [(true,.int n),(true,.int m),(true,.lst (xs.map D.int))]) (zL T):=by
 obtain⟨l,l1,l2,l3⟩:=xR (as:=[sI n,sI m,sT (.lst (xs.map D.int)),none]) (u:=true) D.int (Q:=λx=>0<=x/\x<(n:Int)) (n:=n-1) (cap:=[none,some 2,some 0]) (fr:=aC (f2 zf zC wk) aN) (fe:=f2 zC (f2 (f2 zk zf zA) (f2 zz zC wk) zm) zd)
  (by rw[show(((n-1:Nat):Nat):Int)=(n:Int)-1 by omega];exact zl (Uc (za rfl) zb) zo) (by omega) (λb h0 h1=>by
   obtain⟨x,hx1,hx2⟩:=Wo hx (k:=b) h0 (by omega);have m0:=zyM x (show(n:Int)-1≠0 by omega);have m1:=zyH x (show(0:Int)<(n:Int)-1 by omega);exact⟨[sI b,sT (.lst (xs.map D.int)),sI n],_,rfl,WD.e (yp zb (yb (zu (za rfl) (za rfl) hx1 rfl) (Uc (za rfl) zb) (by omega))),by omega,by omega⟩)
 have w0:WE (f2 (yf (dC zU dN)) (zq (yi (aC (f2 zf zC wk) aN) ym) [none,some 2,some 0] zP zM (f2 zC (f2 (f2 zk zf zA) (f2 zz zC wk) zm) zd)) zd) [sI n,sI m,sT (.lst (xs.map D.int)),none] (.lst ((0::l).map D.int)):=
  AJ (yz (os:=[yS 0]) (zc zb zF) (wz rfl) rfl rfl) l3 (add_lists (by rw[zzB];exact Wn (by show 1+_<=_;omega)))
 have hr:Row n (0::l):=⟨by rw[zzT];omega,λx m=>by
  rcases zzC.mp m with rfl|m
  . omega
  . exact l2 x m⟩
 obtain⟨T,t1,t2⟩:=IW (n:=n) (m:=m) (s:=true) (u:=true) (cap:=[none,some 3]) (as:=[sI n,sI m,sT (.lst (xs.map D.int)),sT (.lst ((0::l).map D.int))]) (fr:=aC zk aN) hr hm (zl (za rfl) zo) (λb=>⟨[sI b,sT (.lst ((0::l).map D.int))],rfl,za rfl⟩);exact⟨T,t1,yE rfl (zi (vd (p:=3) w0 (zj rfl)) (yW t2))⟩
def KN(k:Int)(n:Nat):Prop:=(k=0/\1<=n)\/(k=1/\1<=n)\/(k=2/\2<=n)\/(k=3/\2<=n)\/(k=4/\n=4)
theorem Do{x y:Int}{c:Bool}:zA (.lst [.int x,.int y]) (.int (if c=true then 1 else 0))=some (.im (.int (if c=true then y else x))):=by cases c<;>rfl
theorem JA{as:AS}{n:Nat}{cap cap2:List (Option Nat)}{fr:AF}{u:Bool}{fe:EF}(hn2:n<=8)(h1:WA fr as [(true,.int n)])(H:∀a:Int,0<=a->a<n->∃as1,gN 0 (true,.int a) (wC cap as)=some as1/\WA yG as1 [(true,.int n)]/\∀b:Int,0<=b->b<n->∃as2 x,gN 0 (true,.int b) (wC cap2 as1)=some as2/\WD fe as2 true (.int x)/\0<=x/\x<(n:Int)):
 ∃T,Tab n n T/\WE (zq (yi fr ym) cap zP zM (zq (yi yG ym) cap2 zP zM fe)) as (zL T):=by
 obtain⟨T,a1,a2,a3⟩:=xR zH (Q:=Row n) (n:=n) (cap:=cap) (fe:=zq (yi yG ym) cap2 zP zM fe) h1 (by omega) λa h0 h1=>by
  obtain⟨as1,g1,g2,g3⟩:=H a h0 h1;obtain⟨r,b1,b2,b3⟩:=xR D.int (Q:=λx=>0<=x/\x<(n:Int)) (n:=n) (cap:=cap2) (fe:=fe) g2 (by omega) λb h0 h1=>by
   obtain⟨as2,x,c1,c2,c3⟩:=g3 b h0 h1;exact⟨as2,x,c1,WD.e c2,c3⟩
  exact⟨as1,r,g1,b3,b1,b2⟩
 exact⟨T,⟨a1,a2⟩,a3⟩
abbrev Rf:List D:=[.tup [.int 0,.int 1],.tup [.int 1,.int 0],.tup [.int 0,.int 0],.tup [.int 1,.int 1]]
theorem Ea{y:wg}(m:y ∈ Rf.map λd=>(true,d)):∃p q:Int,y=(true,.tup [.int p,.int q])/\(p=0\/p=1)/\(q=0\/q=1):=by
 simp only[zyR,List.map_nil,zzC,zyZ,or_false]at m
 rcases m with rfl|rfl|rfl|rfl
 . exact⟨0,1,rfl,.inl rfl,.inr rfl⟩
 . exact⟨1,0,rfl,.inr rfl,.inl rfl⟩
 . exact⟨0,0,rfl,.inl rfl,.inl rfl⟩
 . exact⟨1,1,rfl,.inr rfl,.inr rfl⟩
theorem IG{u v:Int}(hu:u=0\/u=1)(hv:v=0\/v=1):∃j:Int,0<=j/\j<4/\X0 (.lst Rf) [.tup [.int u,.int v]]=some (.im (.int j)):=by
 rcases hu with rfl|rfl<;>rcases hv with rfl|rfl
 . exact⟨2,by decide,by decide,rfl⟩
 . exact⟨0,by decide,by decide,rfl⟩
 . exact⟨1,by decide,by decide,rfl⟩
 . exact⟨3,by decide,by decide,rfl⟩
theorem BW{p q k:Int}(hp:p=0\/p=1)(hq:q=0\/q=1)(hk:k=0\/k=1):∃u:Int,(u=0\/u=1)/\zA (.tup [.int p,.int q]) (.int k)=some (.im (.int u)):=by
 rcases hk with rfl|rfl
 . exact⟨p,hp,rfl⟩
 . exact⟨q,hq,rfl⟩
theorem t6:∃T,Tab 4 4 T/\RE (Zp [(true,.int 4),(true,.int (4:Nat))]) (zL T):=by
 obtain⟨T,t1,t2,t3⟩:=Qc (as:=[sI 4,sI (4:Nat),sT (.lst Rf)]) zH (Q:=Row 4) (cap:=[none,some 2]) (g:=gN 0) (fe:=zq (yB zk) [none,some 1,some 0] zP zM (ye .lst zk (aC (yr (dC (f2 zf (f2 zz zU zA) zA) (dC (f2 zf (f2 zz zC zA) zA) dN))) aN) X0)) (WR (f:=fV 2) (WD.e (za rfl))) (by rw[zzB];show 4<=1000;decide) λy m=>by
  obtain⟨p,q,rfl,hp,hq⟩:=Ea m;obtain⟨r,r1,r2,r3⟩:=Qc (as:=[sT (.tup [.int p,.int q]),sT (.lst Rf)]) D.int (Q:=λx=>0<=x/\x<((4:Nat):Int)) (cap:=[none,some 1,some 0]) (g:=gN 0) (fe:=ye .lst zk (aC (yr (dC (f2 zf (f2 zz zU zA) zA) (dC (f2 zf (f2 zz zC zA) zA) dN))) aN) X0) (WR (f:=fV 1) (WD.e (za rfl))) (by rw[zzB];show 4<=1000;decide) λy m=>by
   obtain⟨p',q',rfl,hp',hq'⟩:=Ea m;obtain⟨u,hu,eu⟩:=BW hp' hq' hp;obtain⟨v,hv,ev⟩:=BW hp' hq' hq;obtain⟨j,j0,j1,ej⟩:=IG hu hv;exact⟨[sT (.tup [.int p',.int q']),sT (.lst Rf),sT (.tup [.int p,.int q])],j,rfl,WD.e (Py (za rfl) rfl (zl (Vk (os:=[yS u,yS v]) (zc (zu (za rfl) (zu (za rfl) zb rfl rfl) eu rfl) (zc (zu (za rfl) (zu (za rfl) zb rfl rfl) ev rfl) zF)) (wz rfl) rfl) zo) ej rfl),j0,j1⟩
  rw[zzB]at r1;exact⟨[sT (.tup [.int p,.int q]),sT (.lst Rf)],r,rfl,r3,r1,r2⟩
 rw[zzB]at t1;refine⟨T,⟨t1,t2⟩,yE rfl (zi (zN (zp (z_ (za rfl) zb rfl) rfl) rfl) (zi (zN (zp (z_ (za rfl) zb rfl) rfl) rfl) (zi (zN (zp (z_ (za rfl) zb rfl) rfl) rfl) (zi (zN (zp (z_ (za rfl) zb rfl) rfl) rfl) (zi (vd (p:=2) (x:=.lst Rf) (yz (os:=Rf.map (O.lf true)) ?_ (wz rfl) rfl rfl) (zj rfl)) (yW t3))))))⟩;exact zc (Vk (os:=[yS 0,yS 1]) (zc zb (zc zb zF)) (wz rfl) rfl) (zc (Vk (os:=[yS 1,yS 0]) (zc zb (zc zb zF)) (wz rfl) rfl) (zc (Vk (os:=[yS 0,yS 0]) (zc zb (zc zb zF)) (wz rfl) rfl) (zc (Vk (os:=[yS 1,yS 1]) (zc zb (zc zb zF)) (wz rfl) rfl) zF)))
theorem Ot{k:Int}{n:Nat}(h:KN k n)(hn2:n<=8):∃T,Tab n n T/\RE (Zp [(true,.int k),(true,.int n)]) (zL T):=by
 rcases h with⟨rfl,hn⟩|⟨rfl,hn⟩|⟨rfl,hn⟩|⟨rfl,hn⟩|⟨rfl,rfl⟩
 . obtain⟨T,t1,t2⟩:=JA (as:=[sI 0,sI n,none]) (n:=n) (u:=true) (cap:=[none,some 1]) (cap2:=[none,some 1,some 0]) (fr:=aC zk aN) (fe:=f2 (f2 zz zf zd) zk zm) hn2 (zl (za rfl) zo) λa _ _=>⟨[sI a,sI n],rfl,zl (za rfl) zo,λb _ _=>⟨[sI b,sI n,sI a],_,rfl,yb (yp (za rfl) (za rfl)) (za rfl) (by omega),xN hn⟩⟩;exact⟨T,t1,yE rfl (wO (ZL (zp (z_ (za rfl) zb rfl) rfl) (yW t2)))⟩
 . obtain⟨T,t1,t2⟩:=JA (as:=[sI 1,sI n,none]) (n:=n) (u:=true) (cap:=[none,some 1]) (cap2:=[none,some 0]) (fr:=aC zk aN) (fe:=fP (aC zk yJ) Jo) hn2 (zl (za rfl) zo) λa a0 a1=>⟨[sI a,sI n],rfl,zl (za rfl) zo,λb b0 b1=>⟨[sI b,sI a],if b > a then b else a,rfl,yO (zl (za rfl) (zl (za rfl) zo)) rfl rfl,by split<;>omega,by split<;>omega⟩⟩;exact⟨T,t1,yE rfl (zi (zN (zp (z_ (za rfl) zb rfl) rfl) rfl) (wO (ZL (zp (z_ (za rfl) zb rfl) rfl) (yW t2))))⟩
 . obtain⟨T,t1,t2⟩:=JA (as:=[sI 2,sI n,none]) (n:=n) (u:=true) (cap:=[none,some 1]) (cap2:=[none,some 0]) (fr:=aC zk aN) (fe:=f2 (yf (dC zf (dC zk dN))) (fP (aC (f2 zf zU (zw .Eq)) aN) UW) zA) hn2 (zl (za rfl) zo) λa a0 a1=>⟨[sI a,sI n],rfl,zl (za rfl) zo,λb b0 b1=>⟨[sI b,sI a],_,rfl,Fm (yz (os:=[yS b,yS a]) (zc (za rfl) (zc (za rfl) zF)) (wz rfl) rfl rfl) (WD.e (yO (zl (z_ (za rfl) zb rfl) zo) rfl rfl)) Do,by split<;>omega,by split<;>omega⟩⟩;exact⟨T,t1,yE rfl (zi (zN (zp (z_ (za rfl) zb rfl) rfl) rfl) (zi (zN (zp (z_ (za rfl) zb rfl) rfl) rfl) (wO (ZL (zp (z_ (za rfl) zb rfl) rfl) (yW t2)))))⟩
 . obtain⟨T,t1,t2⟩:=JA (as:=[sI 3,sI n,none]) (n:=n) (u:=true) (cap:=[none,some 1]) (cap2:=[none,some 0]) (fr:=aC zk aN) (fe:=f2 (yf (dC zk (dC zf dN))) (fP (aC (f2 zk zU (zw .Eq)) aN) UW) zA) hn2 (zl (za rfl) zo) λa a0 a1=>⟨[sI a,sI n],rfl,zl (za rfl) zo,λb b0 b1=>⟨[sI b,sI a],_,rfl,Fm (yz (os:=[yS a,yS b]) (zc (za rfl) (zc (za rfl) zF)) (wz rfl) rfl rfl) (WD.e (yO (zl (z_ (za rfl) zb rfl) zo) rfl rfl)) Do,by split<;>omega,by split<;>omega⟩⟩;exact⟨T,t1,yE rfl (zi (zN (zp (z_ (za rfl) zb rfl) rfl) rfl) (zi (zN (zp (z_ (za rfl) zb rfl) rfl) rfl) (zi (zN (zp (z_ (za rfl) zb rfl) rfl) rfl) (wO (ZL (zp (z_ (za rfl) zb rfl) rfl) (yW t2))))))⟩
 . exact t6
theorem O6{k:Int}{n m:Nat}{xs:List Int}(h:KN k n)(hn2:n<=8)(hm:m<=8)(hl:xs.length=9)(hx:∀x ∈ xs,St x):∃T,Tab m n T/\RE (Yp [(true,.int k),(true,.int n),(true,.int m),(true,.lst (xs.map D.int))]) (zL T):=by
 rcases h with⟨rfl,hn⟩|⟨rfl,hn⟩|⟨rfl,hn⟩|⟨rfl,hn⟩|⟨rfl,rfl⟩
 . obtain⟨T,t1,t2⟩:=Az (m:=m) (xs:=xs) hn hn2 hm hl hx;exact⟨T,t1,yE rfl (wO (ZL (zp (z_ (za rfl) zb rfl) rfl) (yW (XJ (WD.e (za rfl)) (WD.e (za rfl)) (WD.e (za rfl)) t2))))⟩
 . obtain⟨T,t1,t2⟩:=Bb (m:=m) (xs:=xs) hn hn2 hm hl hx;exact⟨T,t1,yE rfl (zi (zN (zp (z_ (za rfl) zb rfl) rfl) rfl) (wO (ZL (zp (z_ (za rfl) zb rfl) rfl) (yW (XJ (WD.e (za rfl)) (WD.e (za rfl)) (WD.e (za rfl)) t2)))))⟩
 . obtain⟨T,t1,t2⟩:=B3 (m:=m) (xs:=xs) hn hn2 hm hl hx;exact⟨T,t1,yE rfl (zi (zN (zp (z_ (za rfl) zb rfl) rfl) rfl) (zi (zN (zp (z_ (za rfl) zb rfl) rfl) rfl) (wO (ZL (zp (Ru (za rfl) zb) rfl) (yW (XJ (WD.e (za rfl)) (WD.e (za rfl)) (WD.e (za rfl)) t2))))))⟩
 . obtain⟨T,t1,t2⟩:=B3 (m:=m) (xs:=xs) hn hn2 hm hl hx;exact⟨T,t1,yE rfl (zi (zN (zp (z_ (za rfl) zb rfl) rfl) rfl) (zi (zN (zp (z_ (za rfl) zb rfl) rfl) rfl) (wO (ZL (zp (Ru (za rfl) zb) rfl) (yW (XJ (WD.e (za rfl)) (WD.e (za rfl)) (WD.e (za rfl)) t2))))))⟩
 . obtain⟨x0,a0,b0⟩:=Wo hx (k:=0) (by omega) (by omega);have hp:∃r:List Int,Row 4 r/\zA (.lst [zH [0,1,2,3],zH [0,1,3,2]]) (.int (x0%2))=some (.im (zH r)):=by
    rcases(show x0%2=0\/x0%2=1 by omega)with e|e<;>rw[e]
    . exact⟨[0,1,2,3],⟨rfl,by decide⟩,rfl⟩
    . exact⟨[0,1,3,2],⟨rfl,by decide⟩,rfl⟩
   obtain⟨r,r1,r2⟩:=hp;obtain⟨T,c1,c2,c3⟩:=xR (as:=[sI 4,sI (4:Nat),sI m,sT (.lst (xs.map D.int))]) (u:=true) zH (Q:=Row 4) (n:=m) (cap:=[none,some 3]) (fr:=aC zz aN) (fe:=f2 (yf (dC (yf (dC zU (dC zC (dC yd (dC xk dN))))) (dC (yf (dC zU (dC zC (dC xk (dC yd dN))))) dN))) (f2 (f2 zk zU zA) yd zm) zA) (zl (za rfl) zo) (by omega) λb _ _=>
    ⟨[sI b,sT (.lst (xs.map D.int))],r,rfl,WD.e (Fm (yz (XR (yN (zc zb (zc zb (zc zb (zc zb zF)))) (wz rfl)) (XR (yN (zc zb (zc zb (zc zb (zc zb zF)))) (wz rfl)) zF)) (wz rfl) rfl rfl) (WD.e (yb (zu (za rfl) zb a0 rfl) zb (by decide))) r2),r1⟩
   exact⟨T,⟨c1,c2⟩,yE rfl (zi (zN (zp (z_ (za rfl) zb rfl) rfl) rfl) (zi (zN (zp (z_ (za rfl) zb rfl) rfl) rfl) (zi (zN (zp (Ru (za rfl) zb) rfl) rfl) (yW c3))))⟩
abbrev PB(n:Nat)(J:TZ)(Ds:List TZ):D:=.tup [.int n,zL J,.lst (Ds.map zL)]
theorem GG{k c:Int}{n m w:Nat}(h:KN k n)(hn2:n<=8)(hm:m<=8)(hw:w<=8):∃J Ds,Tab n n J/\Ds.length=w/\(∀T ∈ Ds,Tab m n T)/\RE (xU [(true,.int k),(true,.int n),(true,.int m),(true,.int w),(true,.int c)]) (PB n J Ds):=by
 obtain⟨J,j1,oj,j2,j3,j4⟩:=Ot h hn2;obtain⟨Ds,d1,d2,d3⟩:=xR (as:=[sI k,sI n,sI m,sI w,sI c,none]) (u:=true) zL (Q:=Tab m n) (n:=w) (cap:=[none,some 0,some 1,some 2,some 4]) (fr:=aC zG aN) (fe:=zg (aC zk (aC zz (aC zG (aC (zg (aC (f2 zZ (f2 (fC (.int 31)) zf zy) zd) (aC (fC (.int 9)) aN)) yk) aN)))) Yp) (zl (za rfl) zo) (by omega) λb b0 b1=>by
  obtain⟨xs,x1,x2,x3⟩:=uF (as:=[sI b,sI k,sI n,sI m,sI c]) (a:=f2 zZ (f2 (fC (.int 31)) zf zy) zd) (b:=fC (.int 9)) (m:=9) (by omega) (WD.e (yp (za rfl) (yL zb (za rfl) (zK (by decide) (by decide)) (zK (by omega) (by omega))))) (WD.e zb);obtain⟨T,t1,t2⟩:=O6 h hn2 hm x1 x2;exact⟨[sI b,sI k,sI n,sI m,sI c],T,rfl,tI (WD.e (za rfl)) (WD.e (za rfl)) (WD.e (za rfl)) x3 t2,t1⟩
 refine⟨J,Ds,j1,d1,d2,yE rfl (zi (vd (p:=5) d3 (zj rfl)) (yW (J7 (os:=[yS n,oj,.lf true (.lst (Ds.map zL))]) (zc (za rfl) (XR (xJ (zl (za rfl) (zl (za rfl) zo)) j2) (zc (za rfl) zF))) (wz rfl) ?_ ?_)))⟩
 . show(true&&(oj.str&&(true&&true)))=true;rw[j3];rfl
 . show D.tup [.int n,oj.toD,.lst (Ds.map zL)]=_;rw[j4]
theorem mix{x y a b:Int}(hx:0<=x/\x<a)(hy:0<=y/\y<b):0<=x*b+y/\x*b+y<a*b:=by
 have h1:0<=x*b:=Int.mul_nonneg hx.1 (by omega);have h2:x*b<=(a-1)*b:=Int.mul_le_mul_of_nonneg_right (by omega) (by omega);rw[Int.sub_mul,Int.one_mul]at h2;omega
theorem CA{p a b:Int}(hp:0<=p)(h:p<a*b)(hb:0<b):(0<=p/b/\p/b<a)/\0<=p%b/\p%b<b:=
 ⟨⟨Int.ediv_nonneg hp (by omega),Int.ediv_lt_of_lt_mul hb h⟩,zyM _ (by omega),zyH _ hb⟩
theorem Bu{as:AS}{i j:Nat}{os ps:List O}(hij:i≠j)(h:as[i]? = some (sN os))(hj:as[j]? = some (sN ps))(hl:os.length<sizeLine):
 ya (yt i (dC (fV j) dN) yx) as=some (.nx ((as.set j (some (O.nd .ls ps).frz)).set i (sN (os++[(O.nd .ls ps).frz])))):=by
 have e:dC (fV j) dN as=some ([(O.nd .ls ps).frz],as.set j (some (O.nd .ls ps).frz)):=by
  unfold dC;rw[Wv hj];show((Jj as (.bo j)).bind _)=_;rw[O2 hj];rfl
 unfold ya yt;rw[h];show((dC (fV j) dN as).bind _).bind _=_;rw[e];show(Option.bind (match(as.set j (some (O.nd .ls ps).frz))[i]? with|some (some (.nd .ls os))=>_|_=>none) _)=_;rw[zzY (Ne.symm hij),h];show((yx os [(O.nd .ls ps).frz]).bind _).bind _=_;have e2:yx os [(O.nd .ls ps).frz]=some (os++[(O.nd .ls ps).frz],.lf true .non):=by unfold yx;exact if_pos hl
 rw[e2];rfl
theorem Ows.frz{α:Type}{toD:α->D}{Q:α->Prop}{os:List O}{l:List α}(h:Ows toD Q os l):(O.nd .ls os).frz = .lf true (.lst (l.map toD)):=by
 show O.lf (O.strs os) (.lst (O.toDs os))=_;rw[h.st,h.ds]
section
variable{n1 n2 m:Nat}{J1 J2:TZ}{D1 D2:List TZ}
theorem Oe(h1:0<n1)(h2:0<n2)(hn:n1*n2<=8)(j1:Tab n1 n1 J1)(j2:Tab n2 n2 J2):
 ∃os l e6 e7 e8,Ows zH (Row (n1*n2)) os l/\l.length=n1*n2/\forL (gN 6) (zh (zx true 7 (f2 (f2 zf zC zA) (f2 vc zZ zJ) zA))
 (zh (zx true 8 (f2 (f2 zk zC zA) (f2 vc zZ zm) zA))
 (ya (yt 5 (dC (zq (yi wB ym) [none,some 4,some 8,some 7] zP zM (f2 (f2 (f2 zG (f2 zf zk zJ) zA) zk zy) (f2 zz (f2 zf zk zm) zA) zd)) dN) yx))))
  (yP 0 (n1*n2)) [sT (PB n1 J1 D1),sT (PB n2 J2 D2),sI m,sI ((n1*n2:Nat):Int),sI n2,sN [],none,none,none,none,none,none,none,none]
  = some (.nx [sT (PB n1 J1 D1),sT (PB n2 J2 D2),sI m,sI ((n1*n2:Nat):Int),sI n2,sN os,e6,e7,e8,none,none,none,none,none]):=by
 have hn2:n2<=8:=zzO (Nat.le_mul_of_pos_left n2 h1) hn;obtain⟨as',hf,os,l,e6,e7,e8,rfl,ho,hlen⟩:=yZ (g:=gN 6) (f:=(zh (zx true 7 (f2 (f2 zf zC zA) (f2 vc zZ zJ) zA))
  (zh (zx true 8 (f2 (f2 zk zC zA) (f2 vc zZ zm) zA))
  (ya (yt 5 (dC (zq (yi wB ym) [none,some 4,some 8,some 7] zP zM (f2 (f2 (f2 zG (f2 zf zk zJ) zA) zk zy) (f2 zz (f2 zf zk zm) zA) zd)) dN) yx)))))
  (λi as=>∃(os:List O) (l:TZ) (e6 e7 e8:Option O),as=[sT (PB n1 J1 D1),sT (PB n2 J2 D2),sI m,sI ((n1*n2:Nat):Int),sI n2,sN os,e6,e7,e8,none,none,none,none,none]/\Ows zH (Row (n1*n2)) os l/\l.length=i)
  (yP 0 (n1*n2)) 0 [sT (PB n1 J1 D1),sT (PB n2 J2 D2),sI m,sI ((n1*n2:Nat):Int),sI n2,sN [],none,none,none,none,none,none,none,none] (λi x as hx' hI=>by
   obtain⟨os,l,e6,e7,e8,rfl,ho,hlen⟩:=hI;obtain⟨rfl,hi⟩:=vg hx';have hp:((0:Int)+i)<(n1:Int)*n2:=by rw[<-zzV];omega
   obtain⟨u1,u2⟩:=CA (by omega) hp (show(0:Int)<n2 by omega);obtain⟨r1,a1,b1⟩:=Gd zH (T:=J1) (P:=Row n1) u1.1 (by rw[j1.1];exact u1.2) j1.2;obtain⟨r2,a2,b2⟩:=Gd zH (T:=J2) (P:=Row n2) u2.1 (by rw[j2.1];exact u2.2) j2.2;obtain⟨r,c1,c2,c3⟩:=xR (as:=[sT (PB n1 J1 D1),sT (PB n2 J2 D2),sI m,sI ((n1*n2:Nat):Int),sI n2,sN os,sI (0+i),sT (zH r1),sT (zH r2),none,none,none,none,none]) (u:=true) D.int (Q:=λx=>0<=x/\x<((n1*n2:Nat):Int)) (n:=n1*n2) (cap:=[none,some 4,some 8,some 7]) (fr:=aC zG aN) (fe:=f2 (f2 (f2 zG (f2 zf zk zJ) zA) zk zy) (f2 zz (f2 zf zk zm) zA) zd) (zl (za rfl) zo) (by omega) λb h0 h3=>by
    obtain⟨v1,v2⟩:=CA h0 (show b<(n1:Int)*n2 by rw[<-zzV];exact h3) (show(0:Int)<n2 by omega);obtain⟨x,x1,x2⟩:=ZI (r:=r1) (P:=λx=>0<=x/\x<(n1:Int)) v1.1 (by rw[b1.1];exact v1.2) b1.2;obtain⟨y,y1,y2⟩:=ZI (r:=r2) (P:=λx=>0<=x/\x<(n2:Int)) v2.1 (by rw[b2.1];exact v2.2) b2.2;have n18:n1<=8:=zzO (Nat.le_mul_of_pos_right n1 h2) hn;refine⟨[sI b,sI n2,sT (zH r2),sT (zH r1)],x*n2+y,rfl,WD.e (yp (yL (zu (za rfl) (wH (za rfl) (za rfl) (by omega) (zK (by omega) (by omega))) x1 rfl) (za rfl) (zK (by omega) (by omega)) (zK (by omega) (by omega))) (zu (za rfl) (yb (za rfl) (za rfl) (by omega)) y1 rfl)), ?_⟩;rw[zzV];exact mix x2 y2
   obtain⟨os',o1,o2⟩:=EX (x:=r) (i:=5) (toD:=zH) (Q:=Row (n1*n2)) rfl ho (by omega) c3 ⟨c1,c2⟩;refine⟨[sT (PB n1 J1 D1),sT (PB n2 J2 D2),sI m,sI ((n1*n2:Nat):Int),sI n2,sN os,sI (0+i),e7,e8,none,none,none,none,none],rfl,_,zt (yc (i:=7) (zT (zT (za (i:=0) rfl) zb rfl) (wH (za (i:=6) rfl) (za (i:=4) rfl) (by omega) (zK (by omega) (by omega))) a1) (zj rfl)) (zt (yc (i:=8) (zT (zT (za (i:=1) rfl) zb rfl) (yb (za (i:=6) rfl) (za (i:=4) rfl) (by omega)) a2) (zj rfl)) o2),os',l++[r],_,_,_,rfl,o1,by rw[zzJ,hlen];show 0+i+1=_;omega⟩)
  ⟨[],[],none,none,none,rfl,Ows.nil,rfl⟩
 rw[y6]at hlen;exact⟨os,l,e6,e7,e8,ho,by omega,hf⟩
end
abbrev NX(n1 n2 m:Nat)(J1 J2:TZ)(D1 D2:List TZ)(os5:List O)(e6 e7 e8 e9 e10 e11 e12 e13:Option O):AS:=
 [sT (PB n1 J1 D1),sT (PB n2 J2 D2),sI m,sI ((n1*n2:Nat):Int),sI n2,sN os5,e6,e7,e8,e9,e10,e11,e12,e13]
abbrev o5:SF:=(zh (zx true 13 (f2 (f2 (f2 XT yK zA) (f2 vc zZ zJ) zA) zZ zy))
 (ya (yt 12 (dC (f2 (fV 13) (f2 (f2 (fV 8) yK zA) (f2 vc zZ zm) zA) zd) dN) yx)))
abbrev mi:SF:=(zh (zx false 12 (yf dN))
 (zh (vB (yi wB ym) (gN 6) o5)
 (ya (yt 10 (dC (fV 12) dN) yx))))
abbrev mE:SF:=(zh (zx false 10 (yf dN))
 (zh (vB (yi yT ym) (gN 11) mi)
 (ya (yt 9 (dC (fV 10) dN) yx))))
section
variable{n1 n2 m:Nat}{J1 J2:TZ}{D1 D2:List TZ}{os5:List O}
theorem oY{T1 T2:TZ}{c:Int}{e6 e9 e10 e13:Option O}(h1:0<n1)(h2:0<n2)(hn:n1*n2<=8)(t1:Tab m n1 T1)(t2:Tab m n2 T2)(c0:0<=c)(c1:c<m):
 ∃os r f6 f13,Ows D.int (λx=>0<=x/\x<((n1*n2:Nat):Int)) os r/\r.length=n1*n2/\forL (gN 6) o5 (yP 0 (n1*n2)) (NX n1 n2 m J1 J2 D1 D2 os5 e6 (sT (zL T1)) (sT (zL T2)) e9 e10 (sI c) (sN []) e13)
  = some (.nx (NX n1 n2 m J1 J2 D1 D2 os5 f6 (sT (zL T1)) (sT (zL T2)) e9 e10 (sI c) (sN os) f13)):=by
 have n28:n2<=8:=zzO (Nat.le_mul_of_pos_left n2 h1) hn;have n18:n1<=8:=zzO (Nat.le_mul_of_pos_right n1 h2) hn;obtain⟨r1,a1,b1⟩:=Gd zH (T:=T1) (P:=Row n1) c0 (by rw[t1.1];exact c1) t1.2;obtain⟨r2,a2,b2⟩:=Gd zH (T:=T2) (P:=Row n2) c0 (by rw[t2.1];exact c1) t2.2;obtain⟨as',hf,os,l,f6,f13,rfl,ho,hlen⟩:=yZ (g:=gN 6) (f:=o5)
  (λi as=>∃(os:List O) (l:List Int) (f6 f13:Option O),as=NX n1 n2 m J1 J2 D1 D2 os5 f6 (sT (zL T1)) (sT (zL T2)) e9 e10 (sI c) (sN os) f13/\Ows D.int (λx=>0<=x/\x<((n1*n2:Nat):Int)) os l/\l.length=i)
  (yP 0 (n1*n2)) 0 (NX n1 n2 m J1 J2 D1 D2 os5 e6 (sT (zL T1)) (sT (zL T2)) e9 e10 (sI c) (sN []) e13) (λi x as hx' hI=>by
   obtain⟨os,l,f6,f13,rfl,ho,hlen⟩:=hI;obtain⟨rfl,hi⟩:=vg hx';have hp:((0:Int)+i)<(n1:Int)*n2:=by rw[<-zzV];omega
   obtain⟨u1,u2⟩:=CA (by omega) hp (show(0:Int)<n2 by omega);obtain⟨x,x1,x2⟩:=ZI (r:=r1) (P:=λx=>0<=x/\x<(n1:Int)) u1.1 (by rw[b1.1];exact u1.2) b1.2;obtain⟨y,y1,y2⟩:=ZI (r:=r2) (P:=λx=>0<=x/\x<(n2:Int)) u2.1 (by rw[b2.1];exact u2.2) b2.2;have q:0<=x*n2+y/\x*n2+y<((n1*n2:Nat):Int):=by rw[zzV];exact mix x2 y2
   obtain⟨os',o1,o2⟩:=EX (as:=NX n1 n2 m J1 J2 D1 D2 os5 (sI (0+i)) (sT (zL T1)) (sT (zL T2)) e9 e10 (sI c) (sN os) (sI (x*n2))) (x:=x*n2+y) (i:=12) (toD:=D.int) (Q:=λx=>0<=x/\x<((n1*n2:Nat):Int)) (a:=f2 (fV 13) (f2 (f2 (fV 8) yK zA) (f2 vc zZ zm) zA) zd) rfl ho (by omega)
    (WD.e (yp (za rfl) (zu (zT (za rfl) (za rfl) a2) (yb (za rfl) (za rfl) (by omega)) y1 rfl))) q
   exact⟨NX n1 n2 m J1 J2 D1 D2 os5 (sI (0+i)) (sT (zL T1)) (sT (zL T2)) e9 e10 (sI c) (sN os) f13,rfl,_,zt (yc (i:=13) (yL (zu (zT (za (i:=7) rfl) (za (i:=11) rfl) a1) (wH (za (i:=6) rfl) (za (i:=4) rfl) (by omega) (zK (by omega) (by omega))) x1 rfl) (za (i:=4) rfl) (zK (by omega) (by omega)) (zK (by omega) (by omega))) (zj rfl)) o2,os',l++[x*n2+y],_,_,rfl,o1,by rw[zzJ,hlen];show 0+i+1=_;omega⟩)
  ⟨[],[],_,_,rfl,Ows.nil,rfl⟩
 rw[y6]at hlen;exact⟨os,l,f6,f13,ho,by omega,hf⟩
theorem nW{T1 T2:TZ}{e6 e9 e11 e12 e13:Option O}(h1:0<n1)(h2:0<n2)(hn:n1*n2<=8)(hm:m<=8)(t1:Tab m n1 T1)(t2:Tab m n2 T2):
 ∃os T f6 f11 f12 f13,Ows zH (Row (n1*n2)) os T/\T.length=m/\forL (gN 11) mi (yP 0 m) (NX n1 n2 m J1 J2 D1 D2 os5 e6 (sT (zL T1)) (sT (zL T2)) e9 (sN []) e11 e12 e13)
  = some (.nx (NX n1 n2 m J1 J2 D1 D2 os5 f6 (sT (zL T1)) (sT (zL T2)) e9 (sN os) f11 f12 f13)):=by
 obtain⟨as',hf,os,l,f6,f11,f12,f13,rfl,ho,hlen⟩:=yZ (g:=gN 11) (f:=mi)
  (λi as=>∃(os:List O) (l:TZ) (f6 f11 f12 f13:Option O),as=NX n1 n2 m J1 J2 D1 D2 os5 f6 (sT (zL T1)) (sT (zL T2)) e9 (sN os) f11 f12 f13/\Ows zH (Row (n1*n2)) os l/\l.length=i)
  (yP 0 m) 0 (NX n1 n2 m J1 J2 D1 D2 os5 e6 (sT (zL T1)) (sT (zL T2)) e9 (sN []) e11 e12 e13) (λi x as hx' hI=>by
   obtain⟨os,l,f6,f11,f12,f13,rfl,ho,hlen⟩:=hI;obtain⟨rfl,hi⟩:=vg hx';obtain⟨ps,r,g6,g13,p1,p2,p3⟩:=oY (J1:=J1) (J2:=J2) (D1:=D1) (D2:=D2) (os5:=os5) (e6:=f6) (e9:=e9) (e10:=sN os) (e13:=f13) h1 h2 hn t1 t2 (c:=0+i) (by omega) (by omega);have ap:=Bu (as:=NX n1 n2 m J1 J2 D1 D2 os5 g6 (sT (zL T1)) (sT (zL T2)) e9 (sN os) (sI (0+i)) (sN ps) g13) (i:=10) (j:=12) (by decide) rfl rfl (by rw[ho.ln];exact yA (by omega));rw[p1.frz]at ap;exact⟨NX n1 n2 m J1 J2 D1 D2 os5 f6 (sT (zL T1)) (sT (zL T2)) e9 (sN os) (sI (0+i)) f12 f13,rfl,_,zt (yg (i:=12) (yN zF (wz rfl)) (zj rfl)) (zt (xB (wW (zl (za (i:=3) rfl) zo) (by omega) (by omega)) p3) ap),_,l++[r],_,_,_,_,rfl,ho.snoc (o:=.lf true (zH r)) (a:=r) rfl rfl ⟨p2,p1.al⟩,by rw[zzJ,hlen];show 0+i+1=_;omega⟩)
  ⟨[],[],_,_,_,_,rfl,Ows.nil,rfl⟩
 rw[y6]at hlen;exact⟨os,l,f6,f11,f12,f13,ho,by omega,hf⟩
theorem QY{α:Type}{f:α->D}{l:List α}{i:Nat}{d:D}(h:(l.map f)[i]? = some d):∃a ∈ l,d=f a:=by
 rw[zzI]at h;obtain⟨a,h1,h2⟩:=zzX.mp h;exact⟨a,zyA h1,h2.symm⟩
theorem mf{w:Nat}{e6 e7 e8 e10 e11 e12 e13:Option O}(h1:0<n1)(h2:0<n2)(hn:n1*n2<=8)(hm:m<=8)(hw:w<=8)(l1:D1.length=w)(l2:D2.length=w)(t1:∀T ∈ D1,Tab m n1 T)(t2:∀T ∈ D2,Tab m n2 T):
 ∃os Ds f6 f7 f8 f10 f11 f12 f13,Ows zL (Tab m (n1*n2)) os Ds/\Ds.length=w/\forL (gT 2 (xx (gN 7) (xx (gN 8) Pf))) mE (Y6 true (D1.map zL) (D2.map zL)) (NX n1 n2 m J1 J2 D1 D2 os5 e6 e7 e8 (sN []) e10 e11 e12 e13)
  = some (.nx (NX n1 n2 m J1 J2 D1 D2 os5 f6 f7 f8 (sN os) f10 f11 f12 f13)):=by
 obtain⟨as',hf,os,l,f6,f7,f8,f10,f11,f12,f13,rfl,ho,hlen⟩:=yZ (g:=gT 2 (xx (gN 7) (xx (gN 8) Pf))) (f:=mE)
  (λi as=>∃(os:List O) (l:List TZ) (f6 f7 f8 f10 f11 f12 f13:Option O),as=NX n1 n2 m J1 J2 D1 D2 os5 f6 f7 f8 (sN os) f10 f11 f12 f13/\Ows zL (Tab m (n1*n2)) os l/\l.length=i)
  (Y6 true (D1.map zL) (D2.map zL)) 0 (NX n1 n2 m J1 J2 D1 D2 os5 e6 e7 e8 (sN []) e10 e11 e12 e13) (λi x as hx' hI=>by
   obtain⟨os,l,f6,f7,f8,f10,f11,f12,f13,rfl,ho,hlen⟩:=hI;obtain⟨d,e,z1,z2,rfl⟩:=XY hx';have hil:i<D1.length:=by have:=(zzG.mp z1).1;rw[zzB]at this;exact this
   obtain⟨T1,m1,rfl⟩:=QY z1;obtain⟨T2,m2,rfl⟩:=QY z2;obtain⟨ps,T,g6,g11,g12,g13,p1,p2,p3⟩:=nW (J1:=J1) (J2:=J2) (D1:=D1) (D2:=D2) (os5:=os5) (e6:=f6) (e9:=sN os) (e11:=f11) (e12:=f12) (e13:=f13) h1 h2 hn hm (t1 T1 m1) (t2 T2 m2);have ap:=Bu (as:=NX n1 n2 m J1 J2 D1 D2 os5 g6 (sT (zL T1)) (sT (zL T2)) (sN os) (sN ps) g11 g12 g13) (i:=9) (j:=10) (by decide) rfl rfl (by rw[ho.ln];exact yA (by omega));rw[p1.frz]at ap;exact⟨NX n1 n2 m J1 J2 D1 D2 os5 f6 (sT (zL T1)) (sT (zL T2)) (sN os) f10 f11 f12 f13,rfl,_,zt (yg (i:=10) (yN zF (wz rfl)) (zj rfl)) (zt (xB (wW (zl (za (i:=2) rfl) zo) (by omega) (by omega)) p3) ap),_,l++[T],_,_,_,_,_,_,_,rfl,ho.snoc (o:=.lf true (zL T)) (a:=T) rfl rfl ⟨p2,p1.al⟩,by rw[zzJ,hlen];show 0+i+1=_;omega⟩)
  ⟨[],[],_,_,_,_,_,_,_,rfl,Ows.nil,rfl⟩
 rw[QG,zzB,zzB,l1,l2,Nat.min_self]at hlen;exact⟨os,l,f6,f7,f8,f10,f11,f12,f13,ho,by omega,hf⟩
theorem Uk{as as2:AS}{j:Nat}{ps:List O}{fr:DF}{os:List O}(hj:as[j]? = some (sN ps))(hr:fr (as.set j (some (O.nd .ls ps).frz))=some (os,as2)):dC (fV j) fr as=some ((O.nd .ls ps).frz::os,as2):=by
 unfold dC;rw[Wv hj];show((Jj as (.bo j)).bind _)=_;rw[O2 hj];show(fr (as.set j (some (O.nd .ls ps).frz))).bind _=_;rw[hr];rfl
theorem Pu{as as1:AS}{fr:DF}{os:List O}(h:fr as=some (os,as1))(hl:os.length<=sizeLine):yr fr as=some (.ow (Y4 os),as1):=by
 unfold yr;rw[h];show(if os.length<=sizeLine then _ else _)=_;rw[if_pos hl]
theorem SE{w:Nat}(h1:0<n1)(h2:0<n2)(hn:n1*n2<=8)(hm:m<=8)(hw:w<=8)(j1:Tab n1 n1 J1)(j2:Tab n2 n2 J2)(l1:D1.length=w)(l2:D2.length=w)(t1:∀T ∈ D1,Tab m n1 T)(t2:∀T ∈ D2,Tab m n2 T):
 ∃J Ds,Tab (n1*n2) (n1*n2) J/\Ds.length=w/\(∀T ∈ Ds,Tab m (n1*n2) T)/\RE (YU [(true,PB n1 J1 D1),(true,PB n2 J2 D2),(true,.int m)]) (PB (n1*n2) J Ds):=by
 have n28:n2<=8:=zzO (Nat.le_mul_of_pos_left n2 h1) hn;have n18:n1<=8:=zzO (Nat.le_mul_of_pos_right n1 h2) hn;obtain⟨os,J,e6,e7,e8,ho,hl,hf⟩:=Oe (m:=m) (D1:=D1) (D2:=D2) h1 h2 hn j1 j2;obtain⟨ps,Ds,f6,f7,f8,f10,f11,f12,f13,po,pl,pf⟩:=mf (J1:=J1) (J2:=J2) (os5:=os) (e6:=e6) (e7:=e7) (e8:=e8) (e10:=none) (e11:=none) (e12:=none) (e13:=none) h1 h2 hn hm hw l1 l2 t1 t2;refine⟨J,Ds,⟨hl,ho.al⟩,pl,po.al,yE rfl (zi (as1:=[sT (PB n1 J1 D1),sT (PB n2 J2 D2),sI m,sI ((n1*n2:Nat):Int),none,none,none,none,none,none,none,none,none,none]) ?_ (zi (yc (i:=4) (zu (za rfl) zb rfl rfl) (zj rfl)) (zi (yg (i:=5) (yN zF (wz rfl)) (zj rfl)) (zi (xB (wW (zl (za rfl) zo) (by omega) (by omega)) hf) (zi (yg (i:=9) (yN zF (wz rfl)) (zj rfl)) (zi (xB ?_ pf) ?_))))))⟩
 . have:=yc (st:=true) (i:=3) (as:=[sT (PB n1 J1 D1),sT (PB n2 J2 D2),sI m,none,none,none,none,none,none,none,none,none,none,none]) (yL (zu (g:=zA) (za (i:=0) rfl) (zb (x:=.int 0)) rfl rfl) (zu (g:=zA) (za (i:=1) rfl) (zb (x:=.int 0)) rfl rfl) (zK (i:=(n1:Int)) (by omega) (by omega)) (zK (i:=(n2:Int)) (by omega) (by omega))) (zj rfl);rw[zzV];exact this
 . rfl
 . have e:=zW (as:=NX n1 n2 m J1 J2 D1 D2 os f6 f7 f8 (sN ps) f10 f11 f12 f13) (a:=fV 3) (za rfl) (Uk (j:=5) (fr:=dC (fV 9) dN) rfl (Uk (j:=9) (fr:=dN) rfl rfl));rw[ho.frz,po.frz]at e;exact⟨_,xQ (Pu e (wz rfl)) rfl,rfl,rfl⟩
end
abbrev E1:List D:=[.tup [.int 2,.int 2],.tup [.int 3,.int 2],.tup [.int 2,.int 3],.tup [.int 4,.int 2],.tup [.int 2,.int 4],.tup [.int 2,.int 2]]
theorem CG(x:Int):∃a b:Nat,2<=a/\2<=b/\a*b<=8/\zA (.lst E1) (.int (x%6))=some (.im (.tup [.int a,.int b])):=by
 rcases(show x%6=0\/x%6=1\/x%6=2\/x%6=3\/x%6=4\/x%6=5 by omega)with e|e|e|e|e|e<;>rw[e]
 . exact⟨2,2,by decide,by decide,by decide,rfl⟩
 . exact⟨3,2,by decide,by decide,by decide,rfl⟩
 . exact⟨2,3,by decide,by decide,by decide,rfl⟩
 . exact⟨4,2,by decide,by decide,by decide,rfl⟩
 . exact⟨2,4,by decide,by decide,by decide,rfl⟩
 . exact⟨2,2,by decide,by decide,by decide,rfl⟩
theorem ql(x:Int):∃n:Nat,2<=n/\n<=8/\zA (.lst [.int 2,.int 3,.int 4,.int 5,.int 3,.int 4,.int 6,.int 8]) (.int (x%8))=some (.im (.int n)):=by
 rcases(show x%8=0\/x%8=1\/x%8=2\/x%8=3\/x%8=4\/x%8=5\/x%8=6\/x%8=7 by omega)with e|e|e|e|e|e|e|e<;>rw[e]
 . exact⟨2,by decide,by decide,rfl⟩
 . exact⟨3,by decide,by decide,rfl⟩
 . exact⟨4,by decide,by decide,rfl⟩
 . exact⟨5,by decide,by decide,rfl⟩
 . exact⟨3,by decide,by decide,rfl⟩
 . exact⟨4,by decide,by decide,rfl⟩
 . exact⟨6,by decide,by decide,rfl⟩
 . exact⟨8,by decide,by decide,rfl⟩
theorem mP{x:Int}{n:Nat}(h:2<=n):KN (x%4) n:=by
 rcases(show x%4=0\/x%4=1\/x%4=2\/x%4=3 by omega)with e|e|e|e<;>rw[e]
 . exact .inl ⟨rfl,by omega⟩
 . exact .inr (.inl ⟨rfl,by omega⟩)
 . exact .inr (.inr (.inl ⟨rfl,h⟩))
 . exact .inr (.inr (.inr (.inl ⟨rfl,h⟩)))
theorem uh{as:AS}:WE (yf (dC (yr (dC yd (dC yd dN))) (dC (yr (dC xk (dC yd dN))) (dC (yr (dC yd (dC xk dN))) (dC (yr (dC xj (dC yd dN))) (dC (yr (dC yd (dC xj dN))) (dC (yr (dC yd (dC yd dN))) dN))))))) as (.lst E1):=by
 have t:∀a b:Int,WD (yr (dC (fC (.int a)) (dC (fC (.int b)) dN))) as true (.tup [.int a,.int b]):=λa b=>Vk (os:=[yS a,yS b]) (zc zb (zc zb zF)) (wz rfl) rfl;exact yz (os:=E1.map (O.lf true)) (zc (t 2 2) (zc (t 3 2) (zc (t 2 3) (zc (t 4 2) (zc (t 2 4) (zc (t 2 2) zF)))))) (wz rfl) rfl rfl
theorem JH{c:Int}{m w:Nat}(hm:m<=8)(hw:w<=8):∃(n:Nat) (J:TZ) (Ds:List TZ),1<=n/\n<=8/\Tab n n J/\Ds.length=w/\(∀T ∈ Ds,Tab m n T)/\RE (Vl [(true,.int c),(true,.int m),(true,.int w)]) (PB n J Ds):=by
 obtain⟨xs,hl,hx,ws⟩:=uF (as:=[sI c,sI m,sI w,none,none,none,none,none]) (a:=fV 0) (b:=fC (.int 5)) (c:=c) (m:=5) (by omega) (WD.e (za rfl)) (WD.e zb);obtain⟨x0,a0,_⟩:=Wo hx (k:=0) (by omega) (by omega);obtain⟨x1,a1,_⟩:=Wo hx (k:=1) (by omega) (by omega);obtain⟨x2,a2,_⟩:=Wo hx (k:=2) (by omega) (by omega);obtain⟨x3,a3,_⟩:=Wo hx (k:=3) (by omega) (by omega);obtain⟨x4,a4,_⟩:=Wo hx (k:=4) (by omega) (by omega);have y0:0<=x0%7/\x0%7<7:=⟨by omega,by omega⟩;have start:∀(C:SF) (x:D),Rt (C [sI c,sI m,sI w,sT (.lst (xs.map D.int)),sI (x0%7),none,none,none]) x->Rt (zh (zx true 3 (zg (aC zf (aC G0 aN)) yk)) (zh (zx true 4 (f2 (f2 zG zU zA) (fC (.int 7)) zm)) C) [sI c,sI m,sI w,none,none,none,none,none]) x:=λC x h=>
  zi (vd (p:=3) ws (zj rfl)) (zi (yc (i:=4) (yb (zu (za rfl) zb a0 rfl) zb (by decide)) (zj rfl)) h)
 generalize x0%7=k at y0 start
 by_cases hk:4<k
 . obtain⟨a,b,ha,hb,hab,es⟩:=CG x1;obtain⟨J1,D1,j1,l1,t1,p1⟩:=GG (k:=x2%4) (c:=x3) (m:=m) (w:=w) (mP ha) (zzO (Nat.le_mul_of_pos_right a (by omega)) hab) hm hw;obtain⟨J2,D2,j2,l2,t2,p2⟩:=GG (k:=x4%4) (c:=x3+7) (m:=m) (w:=w) (mP hb) (zzO (Nat.le_mul_of_pos_left b (by omega)) hab) hm hw;obtain⟨J,Ds,q1,q2,q3,q4⟩:=SE (n1:=a) (n2:=b) (m:=m) (w:=w) (by omega) (by omega) hab hm hw j1 j2 l1 l2 t1 t2;refine⟨a*b,J,Ds,Nat.mul_pos (by omega) (by omega),hab,q1,q2,q3,yE rfl (start _ _ (wO (ZL (zp (XA (za rfl) zb) (congrArg some (zyN hk))) (zi (yc (i:=5) (Fm uh (WD.e (yb (zu (za rfl) zb a1 rfl) zb (by decide))) es) (zj rfl)) (zi (vd (p:=6) (Ff (WD.e (yb (zu (za rfl) zb a2 rfl) zb (by decide))) (WD.e (zu (za rfl) zb rfl rfl)) (WD.e (za rfl)) (WD.e (za rfl)) (WD.e (zu (za rfl) zb a3 rfl)) p1) (zj rfl)) (yW (XJ (WD.e (za rfl)) (Ff (WD.e (yb (zu (za rfl) zb a4 rfl) zb (by decide))) (WD.e (zu (za rfl) zb rfl rfl)) (WD.e (za rfl)) (WD.e (za rfl)) (WD.e (yp (zu (za rfl) zb a3 rfl) zb)) p2) (WD.e (za rfl)) q4)))))))⟩
 . obtain⟨n,n2,n8,en⟩:=ql x1;have fin:∀n':Nat,KN k n'->n'<=8->∃(n:Nat) (J:TZ) (Ds:List TZ),1<=n/\n<=8/\Tab n n J/\Ds.length=w/\(∀T ∈ Ds,Tab m n T)/\Rt (zI (zg (aC zZ (aC XT (aC zk (aC zz (aC (f2 zG xk zA) aN))))) xU) [sI c,sI m,sI w,sT (.lst (xs.map D.int)),sI k,none,none,sI n']) (PB n J Ds):=λn' hK h8=>by
    obtain⟨J,Ds,j1,l1,t1,p1⟩:=GG (k:=k) (c:=x3) (m:=m) (w:=w) hK h8 hm hw;refine⟨n',J,Ds, ?_,h8,j1,l1,t1,yW (Ff (WD.e (za rfl)) (WD.e (za rfl)) (WD.e (za rfl)) (WD.e (za rfl)) (WD.e (zu (za rfl) zb a3 rfl)) p1)⟩;unfold KN at hK;omega
   have hk':=congrArg some (zyG hk);have set7:zx true 7 (f2 (yf (dC yd (dC xk (dC xj (dC G0 (dC xk (dC xj (dC XI (dC ZO dN))))))))) (f2 (f2 zG zC zA) ZO zm) zA) [sI c,sI m,sI w,sT (.lst (xs.map D.int)),sI k,none,none,none]=some (.nx [sI c,sI m,sI w,sT (.lst (xs.map D.int)),sI k,none,none,sI n]):=
    yc (i:=7) (Fm (yz (os:=([2,3,4,5,3,4,6,8]:List Int).map yS) (zc zb (zc zb (zc zb (zc zb (zc zb (zc zb (zc zb (zc zb zF)))))))) (wz rfl) rfl rfl) (WD.e (yb (zu (za rfl) zb a1 rfl) zb (by decide))) en) (zj rfl)
   by_cases h4:k=4
   . subst h4;obtain⟨n',J,Ds,r1,r2,r3,r4,r5,r6⟩:=fin 4 (.inr (.inr (.inr (.inr ⟨rfl,rfl⟩)))) (by decide);exact⟨n',J,Ds,r1,r2,r3,r4,r5,yE rfl (start _ _ (zi (zN (zp (XA (za rfl) zb) hk') rfl) (zi set7 (zi (zN (vn (k:=false) (zp (z_ (za rfl) zb rfl) rfl) (λh=>nomatch h) (λ_=>rfl)) rfl) (zi (wo (zp (z_ (za rfl) zb rfl) rfl) (yc (i:=7) zb (zj rfl))) r6)))))⟩
   . have f4:∀e:Option O,WT (fT (f2 zZ xj (zw .Eq))) [sI c,sI m,sI w,sT (.lst (xs.map D.int)),sI k,none,none,e] false:=λe=>zp (z_ (za rfl) zb rfl) (by show some (k==4)=_;simp[h4])
     by_cases h0:k=0/\x2%9=0
     . obtain⟨rfl,h9⟩:=h0;obtain⟨n',J,Ds,r1,r2,r3,r4,r5,r6⟩:=fin 1 (.inl ⟨rfl,zzN _⟩) (by decide);exact⟨n',J,Ds,r1,r2,r3,r4,r5,yE rfl (start _ _ (zi (zN (zp (XA (za rfl) zb) hk') rfl) (zi set7 (zi (wo (vn (k:=true) (zp (z_ (za rfl) zb rfl) rfl) (λ_=>zp (z_ (yb (zu (za rfl) zb a2 rfl) zb (by decide)) zb rfl) (by show some (x2%9==0)=_;simp[h9])) (λh=>nomatch h)) (yc (i:=7) zb (zj rfl))) (zi (zN (f4 _) rfl) r6)))))⟩
     . have hK:KN k n:=by unfold KN;omega
       obtain⟨n',J,Ds,r1,r2,r3,r4,r5,r6⟩:=fin n hK n8;refine⟨n',J,Ds,r1,r2,r3,r4,r5,yE rfl (start _ _ (zi (zN (zp (XA (za rfl) zb) hk') rfl) (zi set7 (zi (zN (vn (k:=k==0) (zp (z_ (za rfl) zb rfl) rfl) (λh=>zp (z_ (yb (zu (za rfl) zb a2 rfl) zb (by decide)) zb rfl) ?_) (λ_=>rfl)) rfl) (zi (zN (f4 _) rfl) r6)))))⟩;have hk0:k=0:=by simpa using h
       show some (x2%9==0)=some false;have:¬x2%9=0:=λz=>h0 ⟨hk0,z⟩;simp[this]
theorem uy{f:EF}{as:AS}{ds:List D}(h:WE f as (.lst ds)):Ej f as=some (ds.map λd=>(true,d),as):=by
 obtain⟨o,h1,h2,h3⟩:=h;unfold Ej;rw[h1];have e:Vq as (.ow o)=some ((o.str,o.toD),as):=rfl;show(Vq as (RV.ow o)).bind (λq=>(Th q.1).bind λds=>some (ds,q.2))=_;rw[e,h2,h3];show some (kids true ds,as)=_;rw[Nv]
theorem Gx:∀(l:List Int) (k:Nat) (h:k<l.length),(l[k]::l.eraseIdx k).Perm l
 |x::r,0,_=>List.Perm.refl _
 |x::r,k+1,h=>(List.Perm.swap _ _ _).trans ((Gx r k (by simpa using h)).cons x)
abbrev El(n:Nat):List Int:=(List.range n).map λ(i:Nat)=>(i:Int)
theorem CC{c:Int}{n:Nat}(hn:0<n)(hn8:n<=8):∃F:List Int,F.Perm (El n)/\RE (Xa [(true,.int c),(true,.int n)]) (.lst (F.map D.int)):=by
 obtain⟨xs,hl,hx,ws⟩:=uF (as:=[sI c,sI n,sN ((El n).map yS),sN [],none]) (a:=fV 0) (b:=fV 1) (c:=c) (m:=n) (by omega) (WD.e (za rfl)) (WD.e (za rfl));obtain⟨as',hf,L,F,e4,rfl,hp,hlen⟩:=yZ (g:=gN 4) (f:=ya (yt 3 (dC (yt 2 (dC (f2 zZ (fP yT yQ) zm) dN) Xr) dN) yx))
  (λi as=>∃(L F:List Int) (e4:Option O),as=[sI c,sI n,sN (L.map yS),sN (F.map yS),e4]/\(L++F).Perm (El n)/\L.length+i=n)
  ((xs.map D.int).map λd=>(true,d)) 0 [sI c,sI n,sN ((El n).map yS),sN [],none] (λi x as hx' hI=>by
    obtain⟨L,F,e4,rfl,hp,hlen⟩:=hI;have hi:i<n:=by
     have:=(zzG.mp hx').1;rw[zzB,zzB,hl]at this;exact this
    obtain⟨y,rfl⟩:∃y:Int,x=(true,.int y):=by
     rw[zyB,zzI]at hx';obtain⟨a,_,h2⟩:=zzX.mp hx';exact⟨a,h2.symm⟩
    have l0:(0:Int)<((L.map yS).length:Int):=by rw[zzB];omega
    have z0:=zyM y (show((L.map yS).length:Int)≠0 by omega);have z1:=zyH y l0;have hk:(y%((L.map yS).length:Int)).toNat<L.length:=by rw[zzB]at z0 z1 ⊢;omega
    generalize hkk:(y%((L.map yS).length:Int)).toNat=k at hk;have pop:=Ca (as:=[sI c,sI n,sN (L.map yS),sN (F.map yS),sI y]) (i:=2) (os:=L.map yS) (o:=yS L[k]) rfl (yb (za (i:=4) rfl) (pO (i:=2) rfl) l0) z0 z1 (by rw[zzB];omega) (by rw[hkk,zzI,zzE hk];rfl);rw[hkk,show(L.map yS).eraseIdx k=(L.eraseIdx k).map yS by rw[List.eraseIdx_eq_take_drop_succ,List.eraseIdx_eq_take_drop_succ,zyL,List.map_take,List.map_drop]]at pop;have ap:=Se (i:=3) (os:=F.map yS) (as:=[sI c,sI n,sN (L.map yS),sN (F.map yS),sI y]) rfl pop rfl (by rw[zzB];have:=hp.length_eq;rw[zzJ,zzB,zyT]at this;exact yA (by omega));rw[<-Eo]at ap;refine⟨[sI c,sI n,sN (L.map yS),sN (F.map yS),sI y],rfl,_,ap,L.eraseIdx k,F++[L[k]],_,rfl, ?_,by rw[List.length_eraseIdx_of_lt hk];omega⟩;rw[<-zxA];refine(List.perm_append_singleton _ _).trans ?_;rw[<-List.cons_append];exact((Gx L k hk).append_right F).trans hp)
  ⟨El n,[],none,rfl,by rw[zyE],by rw[zzB,zyT];rfl⟩
 rw[zzB,zzB,hl]at hlen;have hL:L=[]:=List.eq_nil_of_length_eq_zero (by omega);subst hL;have s2:=yg (i:=2) (as:=[sI c,sI n,none,none,none]) (CZ (a:=fV 1) (x:=.int n) (g:=oZ) (zs:=(El n).map D.int) (WD.e (za rfl)) (by
  show(if(0:Int)<=n/\(n:Int)<=100000 then _ else _)=_;rw[if_pos ⟨by omega,by omega⟩,zyB];rfl)) (zj rfl)
 rw[L0]at s2;exact⟨F,hp,yE rfl (zi s2 (zi (yg (i:=3) (yN zF (wz rfl)) (zj rfl)) (zi (xB (uy ws) hf) ⟨_,YL (i:=3) rfl (yn F).2.1,(Rz F).1,(Rz F).2⟩)))⟩
theorem atS{xs:List Int}(h:∀x ∈ xs,St x){k:Int}(h0:0<=k)(h1:k<xs.length):∃x,zA (zH xs) (.int k)=some (.im (.int x))/\St x:=ZI h0 h1 h
abbrev FD:Str:="abcdefghijklmnopqrstuvwxyz"
theorem J0:∀k,k<26->FD.cps.toList[k]? = some (97+k):=by decide +kernel
theorem Ir{i:Int}(h0:0<=i)(h1:i<26):zA (.str FD) (.int i)=some (.im (.str ⟨#[97+i.toNat]⟩)):=by
 show(if FD.length<=sizeLine then(Pk FD.cps.toList i).bind (λc=>some (R0.im (.str ⟨#[c]⟩)))else none)=_;rw[if_pos (show FD.length<=sizeLine by decide +kernel)];have:=wt (J0 i.toNat (by omega));rw[show((i.toNat:Nat):Int)=i by omega]at this;rw[this];rfl
theorem rU:∀l:List Str,(∀s ∈ l,s.length=1)->(l.map (·.length)).sum=l.length
 | [],_=>rfl
 |x::r,h=>by
  show x.length+(r.map (·.length)).sum=r.length+1;rw[h x (zzF ..),rU r λs m=>h s (zzD _ m)];omega
theorem len_app(a b:Str):(a++b).length=a.length+b.length:=by
 show(a++b).cps.size=a.cps.size+b.cps.size;rw[Str.cps_append,Array.size_append]
theorem K6:∀l:List Str,(∀s ∈ l,s.length=1)->(Str.join "" l).length=l.length
 | [],_=>rfl
 | [x],h=>h x (zzF ..)
 |x::y::r,h=>by
  show(x++""++Str.join "" (y::r)).length=_;rw[len_app,len_app,h x (zzF ..),K6 (y::r) λs m=>h s (zzD _ m)];show 1+0+(r.length+1)=r.length+1+1;omega
theorem add_str{a b:Str}(h:a.length+b.length<=1000):Wl .Add (.str a) (.str b)=some (.im (.str (a++b))):=if_pos (Wn (by omega))
abbrev nm(A B:Str)(x:Int)(k:Nat):Str:=A++⟨#[97+((x+3*(k:Int))%26).toNat]⟩++B
theorem uN{A B:Str}{x:Int}{k j:Nat}(hk:k<10)(hj:j<10)(h:nm A B x k=nm A B x j):k=j:=by
 have h:=congrArg (λs:Str=>s.cps.toList) h;simp only[Str.cps_append,Array.toList_append,zxA,List.append_cancel_left_eq]at h;have h:=(List.append_cancel_right h);injection h with h
 omega
abbrev Lt(s:Str):Prop:=∀c ∈ s.cps.toList,97<=c/\c<123
abbrev nZ(s:Str):Prop:=1<=s.length/\s.length<=8/\Lt s
theorem Lt.app{a b:Str}(h:Lt a)(g:Lt b):Lt (a++b):=λc m=>by
 rw[Str.cps_append,Array.toList_append]at m;exact(zzM.mp m).elim (h c) (g c)
theorem BI:∀l:List Str,(∀s ∈ l,Lt s)->Lt (Str.join "" l)
 | [],_=>λ_ z=>nomatch z
 | [x],h=>h x (zzF ..)
 |x::y::r,h=>Lt.app (Lt.app (h x (zzF ..)) λ_ z=>nomatch z) (BI (y::r) λs m=>h s (zzD _ m))
theorem Lt.slice{x:Str}(h:Lt x)(l u:Option Int):Lt (Txt.slice x l u):=by
 unfold Txt.slice
 split
 . exact h
 . intro c m;obtain⟨i,_,hi⟩:=List.mem_filterMap.mp (by simpa using m);exact h c (by rw[<-Array.getElem?_toList]at hi;exact zyA hi)
theorem M4(x:Str)(l u:Option Int):(Txt.slice x l u).length<=(Builtin.Str.strSliceIndices l u 1 x.length).length:=by
 unfold Txt.slice
 split
 . rename_i h;simp at h;omega
 . show(List.filterMap _ (Builtin.Str.strSliceIndices l u 1 x.length)).toArray.size<=_;rw[zzH];exact List.length_filterMap_le _ _
theorem qz{k:Int}{n:Nat}(h0:0<=k)(h1:k<n):(Builtin.Str.strSliceIndices none (some k) 1 n).length=k.toNat:=by
 unfold Builtin.Str.strSliceIndices sliceRange;simp only[show(1:Int) > 0 by decide,if_true,zzB,zyT]
 split<;>(try split)<;>(try split)<;>(try simp only[Int.ediv_one])<;>omega
theorem J3{k:Int}{n:Nat}(h0:0<=k)(h1:k<n):(Builtin.Str.strSliceIndices (some (k+1)) none 1 n).length=(n-k-1).toNat:=by
 unfold Builtin.Str.strSliceIndices sliceRange;simp only[show(1:Int) > 0 by decide,if_true,zzB,zyT]
 split<;>(try split)<;>(try split)<;>(try simp only[Int.ediv_one])<;>omega
theorem CF{c:Int}:∃ss:List Str,ss.length=10/\ss.Nodup/\(∀s ∈ ss,nZ s)/\RE (XQ [(true,.int c),(true,.int (10:Nat))]) (.lst (ss.map D.str)):=by
 obtain⟨xs,hl,hx,ws⟩:=uF (as:=[sI c,sI (10:Nat),sT (.str FD),none,none,none,none,none]) (a:=fV 0) (b:=fC (.int 9)) (c:=c) (m:=9) (by omega) (WD.e (za rfl)) (WD.e zb);obtain⟨x8,a8,_⟩:=atS hx (k:=8) (by omega) (by omega);have hk:(1+c%8).toNat<=9:=by omega
 have sl:WE (Ym zG oN (oS (f2 zC (f2 zf ZO zm) zd)) Wk) [sI c,sI (10:Nat),sT (.str FD),sT (zH xs),none,none,none,none] (.lst ((xs.take (1+c%8).toNat).map D.int)):=by
  refine Zy (lo:=none) (hi:=some (1+c%8)) (WD.e (za rfl)) rfl ?_ ?_
  . have:=yp (as:=[sI c,sI (10:Nat),sT (.str FD),sT (zH xs),none,none,none,none]) (zb (x:=.int 1)) (yb (za (i:=0) rfl) (zb (x:=.int 8)) (by decide));unfold oS;unfold WD at this;rw[this];rfl
  . have:=OZ (xs:=(xs.take (1+c%8).toNat).map D.int) (ys:=(xs.drop (1+c%8).toNat).map D.int);rw[<-zyL,List.take_append_drop,zzB,zzS,Nat.min_eq_left (by omega),show(((1+c%8).toNat:Nat):Int)=1+c%8 by omega]at this;exact this
 obtain⟨l,l1,l2,l3⟩:=Qc D.str (Q:=λs=>s.length=1/\Lt s) (cap:=[none,some 2]) (g:=gN 0) (fe:=f2 zk (f2 zf (fC (.int 26)) zm) zA) (WR sl) (by rw[zzB,zzB,zzS];omega) λy m=>by
  rw[zyB]at m;obtain⟨z,_,rfl⟩:=zxB.mp m;exact⟨[sI z,sT (.str FD)],⟨#[97+(z%26).toNat]⟩,rfl,WD.e (zu (za rfl) (yb (za rfl) zb (by decide)) (Ir (by omega) (by omega)) rfl),rfl,λq mq=>by
   rw[zzR.mp mq];have h0:=zyM z (show(26:Int)≠0 by decide);have h1:=zyH z (show(0:Int)<26 by decide);exact⟨by omega,by omega⟩⟩
 rw[zzB,zzB,zzS]at l1;have hb:(Str.join "" l).length=l.length:=K6 l λs m=>(l2 s m).1;have hlt:Lt (Str.join "" l):=BI l λs m=>(l2 s m).2;have hm:WD (ye .str (fC (.str "")) (aC (zq (yB (Ym zG oN (oS (f2 zC (f2 zf ZO zm) zd)) Wk)) [none,some 2] zP zM (f2 zk (f2 zf (fC (.int 26)) zm) zA)) aN) xi) [sI c,sI (10:Nat),sT (.str FD),sT (zH xs),none,none,none,none] true (.str (Str.join "" l)):=
  Py zb rfl (y7 l3 zo) (by
   show(Qv (l.map D.str)).bind _=_;rw[TN];show(if(l.map (·.length)).sum+l.length*0<=16777216 then some (R0.im (.str (Txt.join "" l)))else none)=_;rw[if_pos (by rw[rU l λs m=>(l2 s m).1];omega),N9]) rfl
 generalize Str.join "" l=base at hb hm hlt;have lb:(0:Int)<(base.length:Int):=by omega
 have lz:base.length<=sizeLine:=Wn (by omega);have z0:=zyM (c/8) (show(base.length:Int)≠0 by omega);have z1:=zyH (c/8) lb;generalize hat:c/8%(base.length:Int)=at_ at z0 z1
 have lA:=Txt.slice_le base none (some at_);have lB:=Txt.slice_le base (some (at_+1)) none;have mA:=M4 base none (some at_);have mB:=M4 base (some (at_+1)) none;rw[qz z0 z1]at mA;rw[J3 z0 z1]at mB;have tA:=hlt.slice none (some at_);have tB:=hlt.slice (some (at_+1)) none;have eA:Cv (.str base) none (some at_)=some (.im (.str (Txt.slice base none (some at_)))):=if_pos lz;have eB:Cv (.str base) (some (at_+1)) none=some (.im (.str (Txt.slice base (some (at_+1)) none))):=if_pos lz;generalize Txt.slice base none (some at_)=A at lA eA mA tA;generalize Txt.slice base (some (at_+1)) none=B at lB eB mB tB;have lo1:∀(f:EF) (as:AS) (k:Int),WD f as true (.int k)->oS f as=some (some k,as):=λf as k h=>by
  unfold oS;unfold WD at h;rw[h];rfl
 obtain⟨as',hf,os,e7,rfl,ho⟩:=yZ (g:=gN 7) (f:=ya (yt 6 (dC (f2 (f2 (Ym zZ oN (oS vQ) Cv) (f2 zz (f2 (f2 (f2 zG ZO zA) (f2 xk XT zy) zd) (fC (.int 26)) zm) zA) zd) (Ym zZ (oS (f2 vQ zC zd)) oN Cv) zd) dN) yx))
  (λi as=>∃(os:List O) (e7:Option O),as=[sI c,sI (10:Nat),sT (.str FD),sT (zH xs),sT (.str base),sI at_,sN os,e7]/\Ows D.str (λ_=>True) os ((List.range i).map (nm A B x8)))
  (yP 0 10) 0 [sI c,sI (10:Nat),sT (.str FD),sT (zH xs),sT (.str base),sI at_,sN [],none] (λi x as hx' hI=>by
   obtain⟨os,e7,rfl,ho⟩:=hI;obtain⟨rfl,hi⟩:=vg hx';rw[zyW]at ho;have d1:=Ir (i:=(x8+3*((0:Int)+i))%26) (by omega) (by omega);have e0:(x8+3*((0:Int)+i))%26=(x8+3*(i:Int))%26:=by rw[Int.zero_add]
   obtain⟨os',o1,o2⟩:=EX (as:=[sI c,sI (10:Nat),sT (.str FD),sT (zH xs),sT (.str base),sI at_,sN os,sI (0+i)]) (x:=nm A B x8 i) (i:=6) (toD:=D.str) (Q:=λ_=>True) (a:=f2 (f2 (Ym zZ oN (oS vQ) Cv) (f2 zz (f2 (f2 (f2 zG ZO zA) (f2 xk XT zy) zd) (fC (.int 26)) zm) zA) zd) (Ym zZ (oS (f2 vQ zC zd)) oN Cv) zd) rfl ho (by rw[zzB,zyT];omega)
    (WD.e (zT (zT (Lz (za (i:=4) rfl) rfl (lo1 _ _ _ (za (i:=5) rfl)) eA) (zu (za (i:=2) rfl) (yb (yp (zu (za (i:=3) rfl) zb a8 rfl) (yL zb (za (i:=7) rfl) (zK (by decide) (by decide)) (zK (by omega) (by omega)))) zb (by decide)) d1 rfl) (add_str (by show A.length+1<=_;omega))) (Lz (za (i:=4) rfl) (lo1 _ _ _ (yp (za (i:=5) rfl) zb)) rfl eB) (by
     rw[e0];exact add_str (by rw[len_app];show A.length+1+B.length<=_;omega)))) trivial
   refine⟨[sI c,sI (10:Nat),sT (.str FD),sT (zH xs),sT (.str base),sI at_,sN os,sI (0+i)],rfl,_,o2,os',_,rfl, ?_⟩;rw[show 0+i+1=i+1 by omega,List.range_succ,zyL];exact o1)
  ⟨[],none,rfl,Ows.nil⟩
 rw[y6,zyW]at ho;have s5:=yc (st:=true) (i:=5) (as:=[sI c,sI (10:Nat),sT (.str FD),sT (zH xs),sT (.str base),none,none,none]) (yb (wH (za (i:=0) rfl) (zb (x:=.int 8)) (by decide) (zK (by decide) (by decide))) (yO (g:=yQ) (x:=.int base.length) (zl (za (i:=4) rfl) zo) (if_pos lz) rfl) lb) (zj rfl);rw[hat]at s5;refine⟨(List.range 10).map (nm A B x8),by rw[zzB,zyT], ?_,λs ms=>?_,yE rfl (zi (yc (i:=2) zb (zj rfl)) (zi (vd (p:=3) ws (zj rfl)) (zi (yc (i:=4) hm (zj rfl)) (zi s5 (zi (yg (i:=6) (yN zF (wz rfl)) (zj rfl)) (zi (xB (wW (zl (za rfl) zo) (by decide) (by decide)) hf) (Ows.retB (i:=6) rfl ho)))))))⟩
 . exact List.pairwise_map.mpr ((List.nodup_range (n:=10)).imp_of_mem λha hb hne he=>hne (uN (List.mem_range.mp ha) (List.mem_range.mp hb) he))
 . obtain⟨i,_,rfl⟩:=zxB.mp ms;have h0:=zyM (x8+3*(i:Int)) (show(26:Int)≠0 by decide);have h1:=zyH (x8+3*(i:Int)) (show(0:Int)<26 by decide);refine⟨?_, ?_,Lt.app (Lt.app tA λq mq=>by rw[zzR.mp mq];exact⟨by omega,by omega⟩) tB⟩
   . rw[len_app,len_app];show 1<=A.length+1+B.length;omega
   . rw[len_app,len_app];show A.length+1+B.length<=8;omega
theorem qV{a b:EF}{as:AS}{d1 d2:List D}(ha:WE a as (.lst d1))(hb:WE b as (.lst d2)):HW (aC a (aC b aN)) as=some (Y6 true d1 d2,as):=by
 have h:=y7 ha (y7 hb (zo (as:=as)));unfold WA at h;unfold HW;rw[h];rfl
def rI:Nat->Int->List Int
 |0,_=>[]
 |n+1,k=>k::rI n (k+1)
theorem FO:∀{n:Nat}{k v:Int},v ∈ rI n k->k<=v/\v<k+n
 |n+1,k,v,h=>by
  rcases zzC.mp h with rfl|h
  . exact⟨by omega,by omega⟩
  . have:=FO h;exact⟨by omega,by omega⟩
theorem DK:∀(n:Nat) (k:Int),(rI n k).Pairwise (· < ·)
 |0,_=>.nil
 |n+1,k=>.cons (λv h=>by have:=FO h;omega) (DK n (k+1))
theorem CV:∀(n:Nat) (k:Int),(rI n k).length=n
 |0,_=>rfl
 |n+1,k=>congrArg (· + 1) (CV n (k+1))
theorem Lq{tt:TF}{as0:AS}{P:Int->Bool}{hi:Int}(H:∀v:Int,0<=v->v<hi->∃as1,gN 0 (true,.int v) as0=some as1/\WT tt as1 (P v)/\as1[0]? = some (sI v)):∀(n:Nat) (k:Int),0<=k->k+n<=hi->yy zP tt zf as0 (yP k n)=some (((rI n k).filter P).map yS)
 |0,_,_,_=>rfl
 |n+1,k,h0,h1=>by
  obtain⟨as1,g1,g2,g3⟩:=H k h0 (by omega);rw[wG];have ih:=Lq H n (k+1) (by omega) (by omega);show yy _ _ _ _ _=some (((k::rI n (k+1)).filter P).map yS);cases hp:P k
  . rw[hp]at g2;rw[List.filter_cons_of_neg (by rw[hp];decide)];exact Kc g1 g2 ih
  . rw[hp]at g2;rw[List.filter_cons_of_pos hp];exact Kh g1 g2 (za g3) ih
abbrev yu(p:Str×List Int):D:=.tup [.str p.1,zH p.2]
abbrev RY:List Int:=[1,2,4,8,16,32,64,128]
theorem Cb{c:Int}{n:Nat}{ns:List Str}(hn:n<=8)(hl:ns.length<=10)(hN:∀s ∈ ns,Nm s):∃ss:SS,(∀p ∈ ss,QL n p)/\(ss.map (·.1)).Sublist ns/\RE (Zh [(true,.int c),(true,.int n),(true,.lst (ns.map D.str))]) (.lst (ss.map yu)):=by
 obtain⟨xs,xl,hx,ws⟩:=uF (as:=[sI c,sI n,sT (.lst (ns.map D.str)),sN [],none,none]) (a:=fV 0) (b:=fP yT yQ) (c:=c) (m:=ns.length) (by omega) (WD.e (za rfl)) (WD.e (yO (zl (za rfl) zo) (by show some (R0.im (.int ((ns.map D.str).length:Int)))=_;rw[zzB]) rfl));obtain⟨as',hf,os,l,e4,e5,rfl,ho⟩:=yZ (g:=gT 2 (xx Vy (xx (gN 5) Pf))) (f:=ya (yt 3 (dC (yr (dC vQ (dC (zq (yi yG ym) [none,some 4] zP (fT (f2 (f2 (f2 zk (f2 (yf (dC zC (dC yd (dC xj (dC ZO (dC (fC (.int 16)) (dC (fC (.int 32)) (dC (fC (.int 64)) (dC (fC (.int 128)) dN))))))))) zf zA) zJ) yd zm) zC (zw .Eq))) zf) dN))) dN) yx))
  (λi as=>∃(os:List O) (l:SS) (e4 e5:Option O),as=[sI c,sI n,sT (.lst (ns.map D.str)),sN os,e4,e5]/\Ows yu (QL n) os l/\l.length=i/\l.map (·.1)=ns.take i)
  (Y6 true (xs.map D.int) (ns.map D.str)) 0 [sI c,sI n,sT (.lst (ns.map D.str)),sN [],none,none] (λi x as hx' hI=>by
   obtain⟨os,l,e4,e5,rfl,ho,hlen,hnm⟩:=hI;obtain⟨d,e,z1,z2,rfl⟩:=XY hx';have hil:i<ns.length:=by have:=(zzG.mp z2).1;rw[zzB]at this;exact this
   obtain⟨y,m1,rfl⟩:=QY z1;obtain⟨s,m2,rfl⟩:=QY z2;have hsi:ns[i]? = some s:=by
    rw[zzI]at z2;cases hh:ns[i]? with
    |none=>rw[hh]at z2;cases z2
    |some s'=>rw[hh]at z2;cases z2;rfl
   let P:Int->Bool:=λv=>y/((RY[v.toNat]?).getD 1)%2==1;have hr:=Lq (tt:=fT (f2 (f2 (f2 zk (f2 (yf (dC zC (dC yd (dC xj (dC ZO (dC (fC (.int 16)) (dC (fC (.int 32)) (dC (fC (.int 64)) (dC (fC (.int 128)) dN))))))))) zf zA) zJ) yd zm) zC (zw .Eq))) (as0:=[none,sI y]) (P:=P) (hi:=n) (λv b0 b1=>by
    have hk:v.toNat<RY.length:=by show v.toNat<8;omega
    have e:=zzE hk;have hm:∀d ∈ RY,0<d/\d<=128:=by decide
    have q2:=hm _ (zyX hk);have q1:=Ul (ds:=RY.map D.int) (k:=v.toNat) (x:=D.int RY[v.toNat]) (by rw[zzI,e];rfl);rw[show((v.toNat:Nat):Int)=v by omega]at q1;have eP:P v=(y/RY[v.toNat]%2==1):=by show(y/((RY[v.toNat]?).getD 1)%2==1)=_;rw[e];rfl
    refine⟨[sI v,sI y],rfl, ?_,rfl⟩;rw[eP];exact zp (z_ (yb (wH (za rfl) (Fm (yz (os:=RY.map yS) (zc zb (zc zb (zc zb (zc zb (zc zb (zc zb (zc zb (zc zb zF)))))))) (wz rfl) rfl rfl) (WD.e (za rfl)) q1) q2.1 (zK (by omega) (by omega))) zb (by decide)) zb rfl) rfl) n 0 (by omega) (by omega)
   generalize hr':(rI n 0).filter P=r at hr;have hsub:r.Sublist (rI n 0):=by rw[<-hr'];exact List.filter_sublist
   have hok:QL n (s,r):=⟨hN s m2,by have:=hsub.length_le;rw[CV]at this;show r.length<=8;omega,λv mv=>by have:=FO (hsub.subset mv);exact⟨by omega,by omega⟩,λj hj=>List.pairwise_iff_getElem.mp ((DK n 0).sublist hsub) j (j+1) (by have hj:j+1<r.length:=hj;omega) hj (by omega)⟩;have hc:=xM (as:=[sI c,sI n,sT (.lst (ns.map D.str)),sN os,sI y,sT (.str s)]) (cap:=[none,some 4]) (wW (zl (za (i:=1) rfl) zo) (by omega) (by omega)) (by rw[y6];exact Wn (by omega)) hr;obtain⟨os',o1,o2⟩:=EX (as:=[sI c,sI n,sT (.lst (ns.map D.str)),sN os,sI y,sT (.str s)]) (x:=(s,r)) (i:=3) (toD:=yu) (Q:=QL n) rfl ho (by omega) (J7 (zc (za (i:=5) rfl) (XR hc zF)) (wz rfl) (by show(true&&((O.nd .ls (r.map yS)).str&&true))=true;rw[(Rz r).1];rfl) (by show D.tup [.str s,(O.nd .ls (r.map yS)).toD]=_;rw[(Rz r).2])) hok;exact⟨[sI c,sI n,sT (.lst (ns.map D.str)),sN os,sI y,sT (.str s)],rfl,_,o2,os',l++[(s,r)],_,_,rfl,o1,by rw[zzJ,hlen];show 0+i+1=_;omega,by rw[zyL,hnm,List.take_add_one,zyW,hsi];rfl⟩)
  ⟨[],[],none,none,rfl,Ows.nil,rfl,rfl⟩
 exact⟨l,ho.1.al,by rw[ho.2.2];exact List.take_sublist _ _,yE rfl (zi (yg (i:=3) (yN zF (wz rfl)) (zj rfl)) (zi (xB (qV ws (WD.e (za rfl))) hf) (Ows.retB (i:=3) rfl ho.1)))⟩
theorem any_ints(b:Int):∀r:List Int,∃t,anyF (λy=>xm 50 y (.int b)) (r.map D.int)=some t
 | []=>⟨_,rfl⟩
 |x::r=>by
  obtain⟨t,h⟩:=any_ints b r;refine⟨(x==b)||t, ?_⟩;show(some (x==b)).bind _=_;rw[zyK,h];rfl
theorem MD{b:Int}:∀{r:List Int},b ∈ r->∃j:Nat,j<r.length/\GV (λy=>xm 50 y (.int b)) (r.map D.int)=some j
 |x::r,m=>by
  by_cases e:x=b
  . obtain⟨t,h⟩:=any_ints b r;refine⟨0,Nat.succ_pos _, ?_⟩;show(some (x==b)).bind _=_;rw[zyK,show(x==b)=true by simp[e]];show(anyF _ (r.map D.int)).bind _=_;rw[h];rfl
  . obtain⟨j,h1,h2⟩:=MD (r:=r) ((zzC.mp m).resolve_left λz=>e z.symm);refine⟨j+1,Nat.succ_lt_succ h1, ?_⟩;show(some (x==b)).bind _=_;rw[zyK,show(x==b)=false by simp[e]];show(GV _ (r.map D.int)).bind _=_;rw[h2];rfl
theorem Mh{F:List Int}{n:Nat}(h:F.Perm (El n)):Row n F/\∀b:Int,0<=b->b<n->b ∈ F:=by
 refine⟨⟨by rw[h.length_eq,zzB,zyT],λx m=>?_⟩,λb b0 b1=>h.mem_iff.mpr ?_⟩
 . obtain⟨i,hi,rfl⟩:=zxB.mp (h.mem_iff.mp m);have:=List.mem_range.mp hi;omega
 . exact zxB.mpr ⟨b.toNat,List.mem_range.mpr (by omega),by omega⟩
theorem qk{as:AS}{F:List Int}{n:Nat}{cap:List (Option Nat)}{fr:AF}(hF:F.Perm (El n))(hn:n<=8)(h1:WA fr as [(true,.int n)])(h2:∀b:Int,gN 0 (true,.int b) (wC cap as)=some [sI b,sT (.lst (F.map D.int))]):
 ∃B,Row n B/\WE (zq (yi fr ym) cap zP zM (ye .lst zk yJ X0)) as (.lst (B.map D.int)):=by
 obtain⟨r1,r2⟩:=Mh hF;obtain⟨B,b1,b2,b3⟩:=xR D.int (Q:=λx=>0<=x/\x<(n:Int)) (n:=n) (cap:=cap) (fe:=ye .lst zk yJ X0) h1 (by omega) λb b0 b1=>by
  obtain⟨j,j1,j2⟩:=MD (r2 b b0 b1);refine⟨_,(j:Int),h2 b,WD.e (Py (za rfl) rfl (zl (za rfl) zo) ?_ rfl),by omega,by rw[r1.1]at j1;omega⟩;show(GV _ (F.map D.int)).bind _=_;rw[j2];show(if(F.map D.int).length<=1000 then some (R0.im (.int j))else none)=_;rw[if_pos (by rw[zzB,r1.1];omega)]
 exact⟨B,⟨b1,b2⟩,b3⟩
theorem Aa{f:EF}{g:GF}{as as':AS}{x:D}(h:WE f as x)(hg:g (true,x) as=some as'):GJ f g as=some (.nx as'):=by
 obtain⟨o,h1,h2,h3⟩:=h;exact Oj h1 (by rw[h2,h3];exact hg)
theorem w_{n:Nat}{r:List Int}(hr:Row n r){k:Int}(h0:0<=k)(h1:k<n):∃x,zA (.lst (r.map D.int)) (.int k)=some (.im (.int x))/\0<=x/\x<(n:Int):=ZI h0 (by rw[hr.1];exact h1) hr.2
theorem Cg{k n:Nat}{T:TZ}(hT:Tab k n T){i:Int}(h0:0<=i)(h1:i<k):∃r,zA (.lst (T.map zH)) (.int i)=some (.im (zH r))/\Row n r:=Gd zH h0 (by rw[hT.1];exact h1) hT.2
theorem qg{as:AS}{F B:List Int}{J:TZ}{n:Nat}{fr:AF}{cap:List (Option Nat)}(hn:n<=8)(hF:Row n F)(hB:Row n B)(hJ:Tab n n J)(h1:WA fr as [(true,.int n)])(h2:∀a:Int,gN 0 (true,.int a) (wC cap as)=some [sI a,sT (.lst (F.map D.int)),sI n,sT (zL J),sT (.lst (B.map D.int))]):
 ∃T,Tab n n T/\WE (zq (yi fr ym) cap zP zM (zq (yi yT ym) [none,some 1,some 3,some 4,some 0] zP zM (f2 zk (f2 (f2 zz (f2 zG zZ zA) zA) (f2 zG zf zA) zA) zA))) as (zL T):=by
 obtain⟨T,t1,t2,t3⟩:=xR zH (Q:=Row n) (n:=n) (cap:=cap) (fe:=zq (yi yT ym) [none,some 1,some 3,some 4,some 0] zP zM (f2 zk (f2 (f2 zz (f2 zG zZ zA) zA) (f2 zG zf zA) zA) zA)) h1 (by omega) λa a0 a1=>by
  obtain⟨r,r1,r2,r3⟩:=xR (as:=[sI a,sT (.lst (F.map D.int)),sI n,sT (zL J),sT (.lst (B.map D.int))]) (u:=true) D.int (Q:=λx=>0<=x/\x<(n:Int)) (n:=n) (fr:=aC zz aN) (cap:=[none,some 1,some 3,some 4,some 0]) (fe:=f2 zk (f2 (f2 zz (f2 zG zZ zA) zA) (f2 zG zf zA) zA) zA) (zl (za rfl) zo) (by omega) λb b0 b1=>by
   obtain⟨p,p1,p2⟩:=w_ hB a0 a1;obtain⟨q,q1,q2⟩:=w_ hB b0 b1;obtain⟨t,t1,t2⟩:=Cg hJ p2.1 p2.2;obtain⟨v,v1,v2⟩:=w_ t2 q2.1 q2.2;obtain⟨w,w1,w2⟩:=w_ hF v2.1 v2.2;exact⟨[sI b,sT (.lst (F.map D.int)),sT (zL J),sT (.lst (B.map D.int)),sI a],w,rfl,WD.e (zu (za rfl) (zu (zT (za rfl) (zu (za rfl) (za rfl) p1 rfl) t1) (zu (za rfl) (za rfl) q1 rfl) v1 rfl) w1 rfl),w2⟩
  exact⟨_,r,h2 a,r3,r1,r2⟩
 exact⟨T,⟨t1,t2⟩,t3⟩
abbrev yj(p:Str×TZ):D:=.tup [.str p.1,zL p.2]
abbrev CJ:EF:=zq (yB (fV 14)) [none,some 8,some 5,some 9] zP zM (zq (yi yT ym) [none,some 1,some 0,some 3] zP zM (f2 zk (f2 zz (f2 zG zf zA) zA) zA))
theorem pR{as:AS}{F B:List Int}{T:TZ}{m n:Nat}(hn:n<=8)(hm:m<=8)(hF:Row n F)(hB:Row n B)(hT:Tab m n T)(h1:as[14]? = some (sT (zL T)))(h2:∀d:D,gN 0 (true,d) (wC [none,some 8,some 5,some 9] as)=some [sT d,sT (.lst (F.map D.int)),sI n,sT (.lst (B.map D.int))]):
 ∃T',Tab m n T'/\WE CJ as (zL T'):=by
 obtain⟨T',t1,t2,t3⟩:=Qc zH (Q:=Row n) (cap:=[none,some 8,some 5,some 9]) (g:=gN 0) (fe:=zq (yi yT ym) [none,some 1,some 0,some 3] zP zM (f2 zk (f2 zz (f2 zG zf zA) zA) zA)) (WR (f:=fV 14) (as:=as) (WD.e (za h1))) (by rw[zzB,zzB,hT.1];omega) λy my=>by
  rw[zyB]at my;obtain⟨r,mr,rfl⟩:=zxB.mp my;have hr:=hT.2 r mr;obtain⟨l,l1,l2,l3⟩:=xR (as:=[sT (zH r),sT (.lst (F.map D.int)),sI n,sT (.lst (B.map D.int))]) (u:=true) D.int (Q:=λx=>0<=x/\x<(n:Int)) (n:=n) (fr:=aC zz aN) (cap:=[none,some 1,some 0,some 3]) (fe:=f2 zk (f2 zz (f2 zG zf zA) zA) zA) (zl (za rfl) zo) (by omega) λa a0 a1=>by
   obtain⟨p,p1,p2⟩:=w_ hB a0 a1;obtain⟨v,v1,v2⟩:=w_ hr p2.1 p2.2;obtain⟨w,w1,w2⟩:=w_ hF v2.1 v2.2;exact⟨[sI a,sT (.lst (F.map D.int)),sT (zH r),sT (.lst (B.map D.int))],w,rfl,WD.e (zu (za rfl) (zu (za rfl) (zu (za rfl) (za rfl) p1 rfl) v1 rfl) w1 rfl),w2⟩
  exact⟨_,l,h2 _,l3,l1,l2⟩
 rw[zzB,zzB]at t1;exact⟨T',⟨by rw[t1,hT.1],t2⟩,t3⟩
structure Alg(n m:Nat)(J:TZ)(e:Int)(Ds:DZ):Prop where
 n1:1<=n
 n8:n<=8
 m1:1<=m
 m6:m<=6
 j:Tab n n J
 e0:0<=e
 en:e<n
 dl:Ds.length<=6
 ds:∀p ∈ Ds,Tab m n p.2
 nd:(Ds.map (·.1)).Nodup
 nm:∀x ∈ Ds.map (·.1),Nm x
abbrev y8(n m:Nat)(J:TZ)(e:Int)(Ds:DZ)(S:SS):D:=.tup [.int n,.int m,zL J,.int e,.lst (Ds.map yj),.lst (S.map yu)]
theorem O_{A0 A1 A2 A3 A4 A6 A7 A10 A11 A15:Option O}{F B:List Int}{Ds:List TZ}{ns:List Str}{m n:Nat}(hn:n<=8)(hm:m<=8)(hF:Row n F)(hB:Row n B)(hD:∀T ∈ Ds,Tab m n T)(hl:Ds.length<=ns.length)(hl8:Ds.length<=8):
 ∃os l e13 e14,Ows yj (λp=>Tab m n p.2) os l/\l.map (·.1)=ns.take Ds.length/\l.length=Ds.length/\forL (gT 2 (xx (gN 13) (xx (gN 14) Pf))) (ya (yt 12 (dC (yr (dC (fV 13) (dC CJ dN))) dN) yx)) (Y6 true (ns.map D.str) (Ds.map zL))
  [A0,A1,A2,A3,A4,sI n,A6,A7,sT (.lst (F.map D.int)),sT (.lst (B.map D.int)),A10,A11,sN [],none,none,A15]
  = some (.nx [A0,A1,A2,A3,A4,sI n,A6,A7,sT (.lst (F.map D.int)),sT (.lst (B.map D.int)),A10,A11,sN os,e13,e14,A15]):=by
 obtain⟨as',hf,os,l,e13,e14,rfl,ho,hlm,hlen⟩:=yZ (g:=gT 2 (xx (gN 13) (xx (gN 14) Pf))) (f:=ya (yt 12 (dC (yr (dC (fV 13) (dC CJ dN))) dN) yx))
  (λi as=>∃(os:List O) (l:DZ) (e13 e14:Option O),as=[A0,A1,A2,A3,A4,sI n,A6,A7,sT (.lst (F.map D.int)),sT (.lst (B.map D.int)),A10,A11,sN os,e13,e14,A15]/\Ows yj (λp=>Tab m n p.2) os l/\l.map (·.1)=ns.take i/\l.length=i)
  (Y6 true (ns.map D.str) (Ds.map zL)) 0 [A0,A1,A2,A3,A4,sI n,A6,A7,sT (.lst (F.map D.int)),sT (.lst (B.map D.int)),A10,A11,sN [],none,none,A15] (λi x as hx' hI=>by
   obtain⟨os,l,e13,e14,rfl,ho,hlm,hlen⟩:=hI;obtain⟨d,e,z1,z2,rfl⟩:=XY hx';have hil:i<Ds.length:=by have:=(zzG.mp z2).1;rw[zzB]at this;exact this
   obtain⟨T,mT,rfl⟩:=QY z2;rw[zzI]at z1;obtain⟨s,s1,rfl⟩:=zzX.mp z1;obtain⟨T',t1,o,t2,t3,t4⟩:=pR (as:=[A0,A1,A2,A3,A4,sI n,A6,A7,sT (.lst (F.map D.int)),sT (.lst (B.map D.int)),A10,A11,sN os,sT (.str s),sT (zL T),A15]) hn hm hF hB (hD T mT) rfl (λ_=>rfl);obtain⟨os',o1,o2⟩:=EX (as:=[A0,A1,A2,A3,A4,sI n,A6,A7,sT (.lst (F.map D.int)),sT (.lst (B.map D.int)),A10,A11,sN os,sT (.str s),sT (zL T),A15]) (x:=(s,T')) (i:=12) (toD:=yj) (Q:=λp=>Tab m n p.2) rfl ho (by omega) (J7 (zc (za (i:=13) rfl) (XR t2 zF)) (wz rfl) (by show(true&&(o.str&&true))=true;rw[t3];rfl) (by show D.tup [.str s,o.toD]=_;rw[t4])) t1;refine⟨[A0,A1,A2,A3,A4,sI n,A6,A7,sT (.lst (F.map D.int)),sT (.lst (B.map D.int)),A10,A11,sN os,sT (.str s),sT (zL T),A15],rfl,_,o2,os',l++[(s,T')],_,_,rfl,o1, ?_,by rw[zzJ,hlen];show 0+i+1=_;omega⟩;rw[zyL,hlm,show 0+i+1=i+1 by omega,zyW,List.take_succ,s1];rfl)
  ⟨[],[],none,none,rfl,Ows.nil,rfl,rfl⟩
 rw[QG,zzB,zzB,Nat.min_eq_right hl,zyW]at hlm hlen;exact⟨os,l,e13,e14,ho,hlm,hlen,hf⟩
theorem JX(x:Int):∃n:Nat,n<=6/\zA (.lst (([1,2,0,4,3,2,6,5]:List Int).map D.int)) (.int (x%8))=some (.im (.int n)):=by
 obtain⟨v,h1,h2⟩:=ZI (r:=[1,2,0,4,3,2,6,5]) (P:=λx=>0<=x/\x<=6) (k:=x%8) (by omega) (by show x%8<8;omega) (by decide);exact⟨v.toNat,by omega,by rw[show((v.toNat:Nat):Int)=v by omega];exact h1⟩
theorem tX(x:Int):∃n:Nat,n<=4/\zA (.lst (([1,2,1,4,0,2,3,1]:List Int).map D.int)) (.int (x%8))=some (.im (.int n)):=by
 obtain⟨v,h1,h2⟩:=ZI (r:=[1,2,1,4,0,2,3,1]) (P:=λx=>0<=x/\x<=4) (k:=x%8) (by omega) (by show x%8<8;omega) (by decide);exact⟨v.toNat,by omega,by rw[show((v.toNat:Nat):Int)=v by omega];exact h1⟩
theorem Xc{f:EF}{as:AS}{k:Int}(h:WD f as true (.int k)):oS f as=some (some k,as):=by
 unfold oS;unfold WD at h;rw[h];rfl
theorem An{α:Type}(f:α->D)(l:List α)(lo hi:Option Int):∃l':List α,l'.Sublist l/\PF.cutD (l.map f) lo hi=l'.map f:=by
 unfold PF.cutD;rw[zzB,<-List.map_drop,<-List.map_take];exact⟨_,(List.take_sublist _ _).trans (List.drop_sublist _ _),rfl⟩
theorem Dx{as:AS}{a b c d e f g h:Int}:WE (yf (dC (fC (.int a)) (dC (fC (.int b)) (dC (fC (.int c)) (dC (fC (.int d)) (dC (fC (.int e)) (dC (fC (.int f)) (dC (fC (.int g)) (dC (fC (.int h)) dN))))))))) as (.lst (([a,b,c,d,e,f,g,h]:List Int).map D.int)):=
 yz (os:=([a,b,c,d,e,f,g,h]:List Int).map yS) (zc zb (zc zb (zc zb (zc zb (zc zb (zc zb (zc zb (zc zb zF)))))))) (wz rfl) rfl rfl
theorem sx{k:Nat}(h:k<=4):HT.sIx 10 10 (some (6+(k:Int)))-HT.sIx 10 0 (some 6)<=4:=by
 have:k=0\/k=1\/k=2\/k=3\/k=4:=by omega
 rcases this with rfl|rfl|rfl|rfl|rfl<;>decide
abbrev Sg(n:Nat)(S:SS):Prop:=S.length<=4/\(∀p ∈ S,QL n p)/\(S.map (·.1)).Nodup
theorem E4{c c':Int}:∃n m J e Ds S,Alg n m J e Ds/\Sg n S/\RE (wY [(true,.int c),(true,.int c')]) (y8 n m J e Ds S):=by
 obtain⟨ys,hl,hy,ws⟩:=uF (as:=[sI c,sI c',none,none,none,none,none,none,none,none,none,none,none,none,none,none]) (a:=fV 1) (b:=fC (.int 6)) (c:=c') (m:=6) (by omega) (WD.e (za rfl)) (WD.e zb);obtain⟨y0,a0,_⟩:=Wo hy (k:=0) (by omega) (by omega);obtain⟨y1,a1,_⟩:=Wo hy (k:=1) (by omega) (by omega);obtain⟨y2,a2,_⟩:=Wo hy (k:=2) (by omega) (by omega);obtain⟨y3,a3,_⟩:=Wo hy (k:=3) (by omega) (by omega);obtain⟨y4,a4,_⟩:=Wo hy (k:=4) (by omega) (by omega);obtain⟨y5,a5,_⟩:=Wo hy (k:=5) (by omega) (by omega);obtain⟨w,w6,ew⟩:=JX y1;obtain⟨k,k4,ek⟩:=tX y5;have b3:(2:Int).natAbs<big:=zK (by decide) (by decide);obtain⟨m1,m11,m16,hC⟩:∃m1:Int,1<=m1/\m1<=6/\xX (fT (f2 (f2 (f2 (f2 zz zU zA) XI zJ) yd zm) zU (zw .Eq))) (zx true 3 (f2 zC (f2 (f2 (f2 zz zU zA) (fC (.int 12)) zJ) xk zm) zd)) wI
  [sI c,sI c',sT (.lst (ys.map D.int)),sI (1+y0%6),none,none,none,none,none,none,none,none,none,none,none,none]=some (.nx [sI c,sI c',sT (.lst (ys.map D.int)),sI m1,none,none,none,none,none,none,none,none,none,none,none,none]):=by
  by_cases h:y0/6%2=0
  . exact⟨1+y0/12%3,by omega,by omega,wo (zp (z_ (yb (wH (zu (za rfl) zb a0 rfl) zb (by decide) (zK (by decide) (by decide))) zb (by decide)) zb rfl) (by show some (y0/6%2==0)=_;simp[h])) (yc (i:=3) (yp zb (yb (wH (zu (za rfl) zb a0 rfl) zb (by decide) (zK (by decide) (by decide))) zb (by decide))) (zj rfl))⟩
  . exact⟨1+y0%6,by omega,by omega,zN (zp (z_ (yb (wH (zu (za rfl) zb a0 rfl) zb (by decide) (zK (by decide) (by decide))) zb (by decide)) zb rfl) (by show some (y0/6%2==0)=_;simp[h])) rfl⟩
 obtain⟨m,mm1,mm6,hE⟩:∃m:Nat,1<=m/\m<=6/\xX (fT (f2 zZ xk (zw .Gt))) (zx true 3 (f2 zC (f2 zG yd zm) zd)) wI
  [sI c,sI c',sT (.lst (ys.map D.int)),sI m1,sI w,none,none,none,none,none,none,none,none,none,none,none]=some (.nx [sI c,sI c',sT (.lst (ys.map D.int)),sI m,sI w,none,none,none,none,none,none,none,none,none,none,none]):=by
  by_cases h:(3:Int)<w
  . refine⟨(1+m1%2).toNat,by omega,by omega, ?_⟩;rw[show(((1+m1%2).toNat:Nat):Int)=1+m1%2 by omega];exact wo (zp (XA (za rfl) zb) (congrArg some (zyN h))) (yc (i:=3) (yp zb (yb (za rfl) zb (by decide))) (zj rfl))
  . refine⟨m1.toNat,by omega,by omega, ?_⟩;rw[show((m1.toNat:Nat):Int)=m1 by omega];exact zN (zp (XA (za rfl) zb) (congrArg some (zyG h))) rfl
 obtain⟨n,J,Ds,n1,n8,hJ,dl,hD,hmade⟩:=JH (c:=c) (m:=m) (w:=w) (by omega) (by omega);obtain⟨F,hF,hord⟩:=CC (c:=y2) n1 n8;obtain⟨rF,_⟩:=Mh hF;obtain⟨B,rB,hback⟩:=qk (as:=[sI c,sI c',sT (.lst (ys.map D.int)),sI m,sI w,sI n,sT (zL J),sT (.lst (Ds.map zL)),sT (.lst (F.map D.int)),none,none,none,none,none,none,none]) (cap:=[none,some 8]) (fr:=aC vQ aN) hF n8 (zl (za rfl) zo) (λb=>rfl);obtain⟨J',hJ',hjoin⟩:=qg (as:=[sI c,sI c',sT (.lst (ys.map D.int)),sI m,sI w,sI n,sT (zL J),sT (.lst (Ds.map zL)),sT (.lst (F.map D.int)),sT (.lst (B.map D.int)),none,none,none,none,none,none]) (cap:=[none,some 8,some 5,some 6,some 9]) (fr:=aC vQ aN) n8 rF rB hJ (zl (za rfl) zo) (λa=>rfl);obtain⟨ns,nl,nnd,nN,hnames⟩:=CF (c:=y3);obtain⟨os,l,e13,e14,ho,hlm,hlen,hf⟩:=O_ (A0:=sI c) (A1:=sI c') (A2:=sT (.lst (ys.map D.int))) (A3:=sI m) (A4:=sI w) (A6:=sT (zL J)) (A7:=sT (.lst (Ds.map zL))) (A10:=sT (zL J')) (A11:=sT (.lst (ns.map D.str))) (A15:=none) (ns:=ns.take 6) n8 (by omega) rF rB hD (by rw[zzS,nl];omega) (by omega);obtain⟨f0,ef,ff⟩:=w_ rF (k:=0) (by omega) (by omega);obtain⟨ks,kl,ck⟩:=An D.str ns (some 6) (some (6+(k:Int)));have nN:∀s ∈ ns,Nm s:=λs m=>⟨(nN s m).1,(nN s m).2.1,λc mc=>by have:=(nN s m).2.2 c mc;omega⟩;have ks4:ks.length<=4:=by
  have:=congrArg List.length ck;rw[zzB]at this;rw[<-this];unfold PF.cutD;rw[zzS,zzB,nl];refine zzO (Nat.min_le_left _ _) ?_;exact sx k4
 obtain⟨S,hS1,hS2,hS⟩:=Cb (c:=y4) (n:=n) (ns:=ks) n8 (by omega) (λs m=>nN s (kl.subset m));refine⟨n,m,J',f0,l,S,⟨n1,n8,mm1,mm6,hJ',ff.1,ff.2,by omega,ho.al, ?_, ?_⟩,⟨by have:=hS2.length_le;rw[zzB]at this;omega,hS1,(nnd.sublist kl).sublist hS2⟩, ?_⟩
 . rw[hlm];exact(nnd.sublist (List.take_sublist _ _)).sublist (List.take_sublist _ _)
 . rw[hlm];exact λx mx=>nN x (List.mem_of_mem_take (List.mem_of_mem_take mx))
 have z6:WE (Ym yK oN (oS XI) Wk) [sI c,sI c',sT (.lst (ys.map D.int)),sI m,sI w,sI n,sT (zL J),sT (.lst (Ds.map zL)),sT (.lst (F.map D.int)),sT (.lst (B.map D.int)),sT (zL J'),sT (.lst (ns.map D.str)),sN [],none,none,none] (.lst ((ns.take 6).map D.str)):=by
  refine Zy (lo:=none) (hi:=some 6) (WD.e (za rfl)) rfl (Xc zb) ?_;have:=OZ (xs:=(ns.take 6).map D.str) (ys:=(ns.drop 6).map D.str);rw[<-zyL,List.take_append_drop,zzB,zzS,nl]at this;exact this
 have zS:WE (zg (aC (f2 zz xj zA) (aC vQ (aC (Ym yK (oS XI) (oS (f2 XI (f2 (yf (dC zC (dC yd (dC zC (dC xj (dC zU (dC yd (dC xk (dC zC dN))))))))) (f2 (f2 zz G0 zA) ZO zm) zA) zd)) Wk) aN))) Zh) [sI c,sI c',sT (.lst (ys.map D.int)),sI m,sI w,sI n,sT (zL J),sT (.lst (Ds.map zL)),sT (.lst (F.map D.int)),sT (.lst (B.map D.int)),sT (zL J'),sT (.lst (ns.map D.str)),sN os,e13,e14,none] (.lst (S.map yu)):=
  XJ (WD.e (zu (za rfl) zb a4 rfl)) (WD.e (za rfl)) (Zy (lo:=some 6) (hi:=some (6+(k:Int))) (WD.e (za rfl)) (Xc zb) (Xc (yp zb (Fm Dx (WD.e (yb (zu (za rfl) zb a5 rfl) zb (by decide))) ek))) (by show some (R0.fl (PF.cutD (ns.map D.str) (some 6) (some (6+(k:Int)))))=_;rw[ck])) hS
 refine yE rfl (zi (vd (p:=2) ws (zj rfl)) (zi (yc (i:=3) (yp zb (yb (zu (za rfl) zb a0 rfl) zb (by decide))) (zj rfl)) (zi hC (zi (yc (i:=4) (Fm Dx (WD.e (yb (zu (za rfl) zb a1 rfl) zb (by decide))) ew) (zj rfl)) (zi hE
  (zi (as1:=[sI c,sI c',sT (.lst (ys.map D.int)),sI m,sI w,sI n,sT (zL J),sT (.lst (Ds.map zL)),none,none,none,none,none,none,none,none]) (Aa (XJ (WD.e (za rfl)) (WD.e (za rfl)) (WD.e (za rfl)) hmade) rfl)
  (zi (vd (p:=8) (Vj (WD.e (zu (za rfl) zb a2 rfl)) (WD.e (za rfl)) hord) (zj rfl)) (zi (vd (p:=9) hback (zj rfl)) (zi (vd (p:=10) hjoin (zj rfl)) (zi (vd (p:=11) (Vj (WD.e (zu (za rfl) zb a3 rfl)) (WD.e zb) hnames) (zj rfl)) (zi (yg (i:=12) (yN zF (wz rfl)) (zj rfl)) (zi (xB (qV z6 (WD.e (za rfl))) hf) (zi (vd (p:=15) zS (zj rfl)) ?_)))))))))))))
 have e:=zW (as:=[sI c,sI c',sT (.lst (ys.map D.int)),sI m,sI w,sI n,sT (zL J),sT (.lst (Ds.map zL)),sT (.lst (F.map D.int)),sT (.lst (B.map D.int)),sT (zL J'),sT (.lst (ns.map D.str)),sN os,e13,e14,sT (.lst (S.map yu))]) (a:=fV 5) (za rfl) (zW (a:=fV 3) (za rfl) (zW (a:=fV 10) (za rfl) (zW (a:=f2 (fV 8) zU zA) (zu (za rfl) zb ef rfl) (Uk (j:=12) (fr:=dC (fV 15) dN) rfl (zW (a:=fV 15) (za rfl) rfl)))));rw[ho.frz]at e;exact⟨_,xQ (Pu e (wz rfl)) rfl,rfl,rfl⟩
abbrev AY(n:Nat)(x:Int):Prop:=0<=x/\x<(n:Int)
theorem SV{c:Int}{n k:Nat}(hn:0<n)(hn8:n<=8)(hk:k<=900):∃ds:List Int,ds.length=k/\(∀x ∈ ds,AY n x)/\RE (Yr [(true,.int c),(true,.int n),(true,.int k)]) (.lst (ds.map D.int)):=by
 obtain⟨as',hf,x,os,l,e4,rfl,ho,hlen⟩:=yZ (g:=gN 4) (f:=zh (ya (yt 3 (dC (f2 zf zk zm) dN) yx)) (zx true 0 (f2 zf zk zJ)))
  (λi as=>∃(x:Int) (os:List O) (l:List Int) (e4:Option O),as=[sI x,sI n,sI k,sN os,e4]/\Ows D.int (AY n) os l/\l.length=i)
  (yP 0 k) 0 [sI c,sI n,sI k,sN [],none] (λi y as hx' hI=>by
   obtain⟨x,os,l,e4,rfl,ho,hlen⟩:=hI;obtain⟨rfl,hi⟩:=vg hx';obtain⟨os',o1,o2⟩:=EX (as:=[sI x,sI n,sI k,sN os,sI (0+i)]) (x:=x%n) (i:=3) (toD:=D.int) (Q:=AY n) (a:=f2 zf zk zm) rfl ho (by omega) (WD.e (yb (za rfl) (za rfl) (by omega))) (xN hn);exact⟨[sI x,sI n,sI k,sN os,sI (0+i)],rfl,_,zt o2 (yc (i:=0) (wH (za rfl) (za rfl) (by omega) (zK (by omega) (by omega))) (zj rfl)),x/n,os',l++[x%n],_,rfl,o1,by rw[zzJ,hlen];show 0+i+1=_;omega⟩)
  ⟨c,[],[],none,rfl,Ows.nil,rfl⟩
 rw[y6]at hlen;exact⟨l,by omega,ho.al,yE rfl (zi (yg (i:=3) (yN zF (wz rfl)) (zj rfl)) (zi (xB (wW (zl (za rfl) zo) (by omega) (by omega)) hf) (Ows.retB (i:=3) rfl ho)))⟩
theorem PH{ns:List Int}{k:Int}{s t:Bool}(hk:0<=k):∃x,yw [(s,.lst (ns.map .int)),(t,.int k)]=sT (.int x):=by
 by_cases h:k<((ns.map D.int).length:Int)
 . obtain⟨x,hx⟩:=Da (ns:=ns) hk (by rw[zzB]at h;exact h);exact⟨x,yC rfl (Px (wo (zp (Ru (za rfl) (yO (zl (za rfl) zo) rfl rfl)) (congrArg some (zyN h))) (y_ (zu (za rfl) (za rfl) hx rfl))))⟩
 . exact⟨0,yC rfl (zt (zN (zp (Ru (za rfl) (yO (zl (za rfl) zo) rfl rfl)) (congrArg some (zyG h))) rfl) (y_ zb))⟩
theorem Dk{ds:List Int}{a n:Nat}(h:a+n<=ds.length):Wk (.lst (ds.map D.int)) (some (a:Int)) (some ((a+n:Nat):Int))=some (.fl (((ds.drop a).take n).map D.int)):=by
 show some (R0.fl (PF.cutD (ds.map D.int) (some (a:Int)) (some ((a+n:Nat):Int))))=_
 congr 2
 unfold PF.cutD;rw[HT.Po,HT.Po,zzB,Nat.min_eq_left h,Nat.min_eq_left (show a<=ds.length by omega),<-List.map_drop,<-List.map_take,Nat.add_sub_cancel_left]
theorem Sj{ds:List Int}{a n N:Nat}(h:a+n<=ds.length)(hd:∀x ∈ ds,AY N x)(e:n=N):Row N ((ds.drop a).take n):=by
 refine⟨by rw[zzS,List.length_drop];omega,λx m=>hd x (List.mem_of_mem_drop (List.mem_of_mem_take m))⟩
theorem pw{f fl fh:EF}{as:AS}{ds:List Int}{a n:Nat}{lo hi:Int}(h:a+n<=ds.length)(hf:WD f as true (.lst (ds.map D.int)))(h1:WD fl as true (.int lo))(h2:WD fh as true (.int hi))(e1:lo=(a:Int))(e2:hi=((a+n:Nat):Int)):WE (Ym f (oS fl) (oS fh) Wk) as (zH ((ds.drop a).take n)):=by
 subst e1 e2;exact Zy (lo:=some (a:Int)) (hi:=some ((a+n:Nat):Int)) (WD.e hf) (Xc h1) (Xc h2) (Dk h)
theorem OI{α:Type}{f:α->D}{l:List α}{i:Nat}{p:α}(h:l[i]? = some p):zA (.lst (l.map f)) (.int (i:Int))=some (.im (f p)):=by
 have h:=wt (xs:=l.map f) (j:=i) (v:=f p) (by rw[zzI,h];rfl);show Ji (Pk _ _)=_;rw[h];rfl
abbrev mK:EF:=zq (yi wB ym) [none,some 8,some 12,some 2] zP zM (Ym zk (oS (f2 zz (f2 zG zf zy) zd)) (oS (f2 (f2 zz (f2 zG zf zy) zd) zG zd)) Wk)
abbrev mL:SF:=(zh (zx true 12 (f2 (f2 zC (f2 zz zz zy) zd) (f2 (f2 zz zG zy) yK zy) zd))
 (ya (yt 10 (dC (yr (dC (f2 (f2 vc yK zA) zU zA) (dC mK dN))) dN) yx)))
abbrev AU(n m:Nat)(a0 a1 a4 a5 a7 a9:Option O)(Ds:DZ)(ds:List Int)(e10 e11 e12:Option O):AS:=
 [a0,a1,sI n,sI m,a4,a5,sT (.lst (Ds.map yj)),a7,sT (.lst (ds.map D.int)),a9,e10,e11,e12]
theorem uq{n m:Nat}{a0 a1 a4 a5 a7 a9:Option O}{Ds:DZ}{ds:List Int}(n1:1<=n)(n8:n<=8)(m6:m<=6)(dl:Ds.length<=6)(d1:ds.length=1+n*n+n*m*Ds.length)(d2:∀x ∈ ds,AY n x):
 ∃os l e11 e12,Ows yj (λp=>Tab m n p.2) os l/\l.map (·.1)=Ds.map (·.1)/\l.length=Ds.length/\forL (gN 11) mL (yP 0 Ds.length) (AU n m a0 a1 a4 a5 a7 a9 Ds ds (sN []) none none)=some (.nx (AU n m a0 a1 a4 a5 a7 a9 Ds ds (sN os) e11 e12)):=by
 have nn:n*n<=64:=Nat.mul_le_mul n8 n8;have nm:n*m<=48:=Nat.mul_le_mul n8 m6;obtain⟨as',hf,os,l,e11,e12,rfl,ho,hlm,hlen⟩:=yZ (g:=gN 11) (f:=mL)
  (λi as=>∃(os:List O) (l:DZ) (e11 e12:Option O),as=AU n m a0 a1 a4 a5 a7 a9 Ds ds (sN os) e11 e12/\Ows yj (λp=>Tab m n p.2) os l/\l.map (·.1)=(Ds.map (·.1)).take i/\l.length=i)
  (yP 0 Ds.length) 0 (AU n m a0 a1 a4 a5 a7 a9 Ds ds (sN []) none none) (λi x as hx' hI=>by
   obtain⟨os,l,e11,e12,rfl,ho,hlm,hlen⟩:=hI;obtain⟨rfl,hi⟩:=vg hx';rw[Int.zero_add]at hx' ⊢;have g0:=zzE hi;generalize Ds[i]=p at g0;have hk:n*m*i+n*m<=n*m*Ds.length:=by rw[<-Nat.mul_succ];exact Nat.mul_le_mul_left _ hi
   have hk2:n*m*i<=288:=zzO (zzO (Nat.le_add_right _ _) hk) (Nat.mul_le_mul nm dl);have eat:((1+n*n+n*m*i:Nat):Int)=1+n*n+n*m*i:=by rw[Int.natCast_add,Int.natCast_add,zzV,zzV,zzV];rfl
   have enm:((n*m:Nat):Int)=n*m:=zzV n m;obtain⟨T,t1,t2,o,t3,t4,t5⟩:=xR (as:=AU n m a0 a1 a4 a5 a7 a9 Ds ds (sN os) (sI i) (sI ((1+n*n+n*m*i:Nat):Int))) (u:=true) zH (Q:=Row n) (n:=m) (fr:=aC zG aN) (cap:=[none,some 8,some 12,some 2]) (fe:=Ym zk (oS (f2 zz (f2 zG zf zy) zd)) (oS (f2 (f2 zz (f2 zG zf zy) zd) zG zd)) Wk) (zl (za rfl) zo) (by omega) λc c0 c1=>by
    have ha:n*c.toNat+n<=n*m:=by rw[<-Nat.mul_succ];exact Nat.mul_le_mul_left n (by omega)
    have ec:(c.toNat:Int)=c:=by omega
    have w:WD (f2 zz (f2 zG zf zy) zd) [sI c,sT (.lst (ds.map D.int)),sI ((1+n*n+n*m*i:Nat):Int),sI n] true (.int (((1+n*n+n*m*i:Nat):Int)+n*c)):=yp (za rfl) (yL (za rfl) (za rfl) (zK (by omega) (by omega)) (zK (by omega) (by omega)));exact⟨[sI c,sT (.lst (ds.map D.int)),sI ((1+n*n+n*m*i:Nat):Int),sI n],_,rfl,pw (a:=(1+n*n+n*m*i)+n*c.toNat) (n:=n) (by omega) (za rfl) w (yp w (za rfl)) (by rw[Int.natCast_add (1+n*n+n*m*i),zzV n c.toNat,ec]) (by rw[Int.natCast_add (1+n*n+n*m*i+n*c.toNat),Int.natCast_add (1+n*n+n*m*i),zzV n c.toNat,ec]),Sj (by omega) d2 rfl⟩
   obtain⟨os',o1,o2⟩:=EX (as:=AU n m a0 a1 a4 a5 a7 a9 Ds ds (sN os) (sI i) (sI ((1+n*n+n*m*i:Nat):Int))) (a:=yr (dC (f2 (f2 vc yK zA) zU zA) (dC mK dN))) (x:=(p.1,T)) (i:=10) (toD:=yj) (Q:=λp=>Tab m n p.2) rfl ho (by omega) (J7 (zc (zu (zT (za (i:=6) rfl) (za (i:=11) rfl) (OI g0)) zb rfl rfl) (XR t3 zF)) (wz rfl) (by show(true&&(o.str&&true))=true;rw[t4];rfl) (by show D.tup [.str p.1,o.toD]=_;rw[t5])) ⟨t1,t2⟩;refine⟨AU n m a0 a1 a4 a5 a7 a9 Ds ds (sN os) (sI i) e12,rfl,_,zt (as1:=AU n m a0 a1 a4 a5 a7 a9 Ds ds (sN os) (sI i) (sI ((1+n*n+n*m*i:Nat):Int))) ?_ o2,os',l++[(p.1,T)],_,_,rfl,o1, ?_,by rw[zzJ,hlen];show 0+i+1=_;omega⟩
   . rw[eat];exact yc (i:=12) (yp (yp zb (yL (za (i:=2) rfl) (za (i:=2) rfl) (zK (by omega) (by omega)) (zK (by omega) (by omega)))) (yL (yL (za (i:=2) rfl) (za (i:=3) rfl) (zK (by omega) (by omega)) (zK (by omega) (by omega))) (za (i:=11) rfl) (by rw[<-enm];exact zK (by omega) (by omega)) (zK (by omega) (by omega)))) (zj rfl)
   . rw[zyL,hlm,show 0+i+1=i+1 by omega,zyW,List.take_succ,zzI,g0];rfl)
  ⟨[],[],none,none,rfl,Ows.nil,rfl,rfl⟩
 rw[y6,zyW]at hlm hlen;exact⟨os,l,e11,e12,ho,by rw[hlm,<-zzB (f:=λp:Str×TZ=>p.1),List.take_length],hlen,hf⟩
theorem N0{n m:Nat}{J:TZ}{e c:Int}{Ds:DZ}{S:SS}(A:Alg n m J e Ds):∃J' e' Ds',Alg n m J' e' Ds'/\RE (vv [(true,y8 n m J e Ds S),(true,.int c)]) (y8 n m J' e' Ds' S):=by
 have n1:=A.n1;have n8:=A.n8;have m6:=A.m6;have dl:=A.dl;have nn:n*n<=64:=Nat.mul_le_mul n8 n8;have nm:n*m<=48:=Nat.mul_le_mul n8 m6;have nmd:n*m*Ds.length<=288:=Nat.mul_le_mul nm dl;obtain⟨ds,d1,d2,d3⟩:=SV (c:=c) (n:=n) (k:=1+n*n+n*m*Ds.length) n1 n8 (by omega);obtain⟨e',e1,e2⟩:=ZI (r:=ds) (P:=AY n) (k:=0) (by omega) (by omega) d2;obtain⟨J',j1,j2,j3⟩:=xR (as:=[sT (y8 n m J e Ds S),sI c,sI n,sI m,sT (zL J),sI e,sT (.lst (Ds.map yj)),sT (.lst (S.map yu)),sT (.lst (ds.map D.int)),none,none,none,none]) (u:=true) zH (Q:=Row n) (n:=n) (fr:=aC zz aN) (cap:=[none,some 8,some 2]) (fe:=Ym zk (oS (f2 zC (f2 zz zf zy) zd)) (oS (f2 (f2 zC (f2 zz zf zy) zd) zz zd)) Wk) (zl (za rfl) zo) (by omega) λa a0 a1=>by
  have ha:n*a.toNat+n<=n*n:=by rw[<-Nat.mul_succ];exact Nat.mul_le_mul_left n (by omega)
  have ea:(a.toNat:Int)=a:=by omega
  have w:WD (f2 zC (f2 zz zf zy) zd) [sI a,sT (.lst (ds.map D.int)),sI n] true (.int (1+n*a)):=yp zb (yL (za rfl) (za rfl) (zK (by omega) (by omega)) (zK (by omega) (by omega)));exact⟨[sI a,sT (.lst (ds.map D.int)),sI n],_,rfl,pw (a:=1+n*a.toNat) (n:=n) (by omega) (za rfl) w (yp w (za rfl)) (by rw[Int.natCast_add,zzV,ea];rfl) (by rw[Int.natCast_add,Int.natCast_add,zzV,ea];rfl),Sj (by omega) d2 rfl⟩
 obtain⟨os,l,e11,e12,ho,hlm,hlen,hf⟩:=uq (a0:=sT (y8 n m J e Ds S)) (a1:=sI c) (a4:=sT (zL J)) (a5:=sI e) (a7:=sT (.lst (S.map yu))) (a9:=sT (zL J')) n1 n8 m6 dl d1 d2;refine⟨J',e',l,⟨n1,n8,A.m1,m6,⟨j1,j2⟩,e2.1,e2.2,by omega,ho.al,by rw[hlm];exact A.nd,by rw[hlm];exact A.nm⟩, ?_⟩;have ek:((1+n*n+n*m*Ds.length:Nat):Int)=1+n*n+n*m*((Ds.map yj).length:Int):=by rw[Int.natCast_add,Int.natCast_add,zzV,zzV,zzV,zzB];rfl
 have enm:((n*m:Nat):Int)=n*m:=zzV n m;rw[ek]at d3;refine yE rfl (zi (as1:=[sT (y8 n m J e Ds S),sI c,sI n,sI m,sT (zL J),sI e,sT (.lst (Ds.map yj)),sT (.lst (S.map yu)),none,none,none,none,none]) (Aa (WD.e (za rfl)) rfl) (zi (vd (p:=8) (XJ (WD.e (za rfl)) (WD.e (za rfl)) (WD.e (yp (yp zb (yL (za rfl) (za rfl) (zK (by omega) (by omega)) (zK (by omega) (by omega)))) (yL (yL (za rfl) (za rfl) (zK (by omega) (by omega)) (zK (by omega) (by omega))) (yO (zl (za rfl) zo) rfl rfl) (by rw[<-enm];exact zK (by omega) (by omega)) (zK (by rw[zzB];omega) (by rw[zzB];omega))))) d3) (zj rfl)) (zi (vd (p:=9) j3 (zj rfl)) (zi (yg (i:=10) (yN zF (wz rfl)) (zj rfl)) (zi (xB (wW (j:=((Ds.map yj).length:Int)) (zl (yO (zl (za rfl) zo) rfl rfl) zo) (by omega) (by rw[zzB];omega)) (by rw[zzB];exact hf)) ?_)))));have q:=zW (as:=AU n m (sT (y8 n m J e Ds S)) (sI c) (sT (zL J)) (sI e) (sT (.lst (S.map yu))) (sT (zL J')) Ds ds (sN os) e11 e12) (a:=fV 2) (za rfl) (zW (a:=fV 3) (za rfl) (zW (a:=fV 9) (za rfl) (zW (a:=f2 (fV 8) zU zA) (zu (za rfl) zb e1 rfl) (Uk (j:=10) (fr:=dC XT dN) rfl (zW (a:=fV 7) (za rfl) rfl)))));rw[ho.frz]at q;exact⟨_,xQ (Pu q (wz rfl)) rfl,rfl,rfl⟩
abbrev yF(p:Str×TZ):O:=.nd .tp [.lf true (.str p.1),vY p.2]
abbrev u4:EF:=fP yJ lstP
theorem KG:∀T:TZ,yy zP zM u4 [none] ((T.map zH).map λd=>(true,d))=some (T.map yR)
 | []=>rfl
 |r::T=>Z2 (as1:=[sT (zH r)]) rfl (DG (za rfl)) (yn r).2.1 (KG T)
theorem CK{f:EF}{as:AS}{T:TZ}(hl:T.length<=1000)(h:WE f as (zL T)):zq (yB f) [none] zP zM u4 as=some (.ow (vY T),as):=
 xM (WR h) (by rw[zzB,zzB];exact Wn (by omega)) (KG T)
theorem Ud(p:Str×TZ):(yF p).str=true/\(yF p).toD=yj p:=by
 constructor
 . show(true&&(O.strs (p.2.map yR)&&true))=true;rw[(yV p.2).1];rfl
 . show D.tup [.str p.1,.lst (O.toDs (p.2.map yR))]=_;rw[(yV p.2).2]
theorem X_:∀Ds:DZ,O.strs (Ds.map yF)=true/\O.toDs (Ds.map yF)=Ds.map yj
 | []=>⟨rfl,rfl⟩
 |p::Ds=>⟨by show((yF p).str&&O.strs (Ds.map yF))=true;rw[(Ud p).1,(X_ Ds).1];rfl,by
  show(yF p).toD::O.toDs (Ds.map yF)=_;rw[(Ud p).2,(X_ Ds).2];rfl⟩
abbrev pI:EF:=yr (dC zf (dC (zq (yB zk) [none] zP zM u4) dN))
theorem OO{p:Str×TZ}(hl:p.2.length<=1000):pI [sT (.str p.1),sT (zL p.2)]=some (.ow (yF p),[sT (.str p.1),sT (zL p.2)]):=
 C2 (os:=[.lf true (.str p.1),vY p.2]) (zc (za (i:=0) rfl) (XR (CK hl (WD.e (za (i:=1) rfl))) zF)) (wz rfl)
theorem TC:∀Ds:DZ,(∀p ∈ Ds,p.2.length<=1000)->yy (gT 2 (xx zP (xx (gN 1) Pf))) zM pI [none,none] ((Ds.map yj).map λd=>(true,d))=some (Ds.map yF)
 | [],_=>rfl
 |p::Ds,h=>Z2 (as1:=[sT (.str p.1),sT (zL p.2)]) rfl (OO (h p (zzF ..))) (Ud p).1 (TC Ds λq m=>h q (zzD _ m))
theorem YB{as:AS}{i:Nat}{xs:List Int}{k x:Int}{s:Bool}(h:as[i]? = some (some (.lf s (.lst (xs.map D.int)))))(hk:0<=k)(hx:xs[k.toNat]? = some x):Eg i (xC k) as=some x:=by
 have e:(xs.map D.int)[k.toNat]? = some (.int x):=by rw[zzI,hx];rfl
 unfold Eg xC;show(if 0<=k then _ else none:Option Int)=_;rw[if_pos hk,VL (f:=Ua) h rfl];show((xs.map D.int)[k.toNat]?).bind Uu=_;rw[e];rfl
theorem Q4{as:AS}{i:Nat}{k:Int}{s:Bool}(h:as[i]? = some (some (.lf s (.int k)))):xV i as=some k:=by
 unfold xV;rw[VL (f:=Ua) h rfl];rfl
theorem Jb{as:AS}{i:Nat}{os:List O}(h:as[i]? = some (sN os)):Io i as=some (os.length:Int):=by
 unfold Io;rw[VL (f:=Xh) h rfl];rfl
theorem vM{as:AS}{f g:Kn}{a b:Int}(h1:f as=some a)(h2:g as=some b)(hb:0<b):XU f g as=some (a%b):=by
 unfold XU;simp only[h1,h2,zyK,if_pos hb]
theorem Su{r:List Int}{k:Int}(h:k.toNat<r.length):(r.map yS)[k.toNat]? = sT (.int r[k.toNat]):=by
 rw[zzI,zzE h];rfl
theorem Hr{as:AS}{i:Nat}{f1 f2 fv:Kn}{k1 k2 c:Int}{T:TZ}{r:List Int}(h1:f1 as=some k1)(h2:f2 as=some k2)(hv:fv as=some c)(p1:0<=k1)(p2:0<=k2)(hi:as[i]? = some (some (vY T)))(hr:T[k1.toNat]? = some r)(hk:k2.toNat<r.length):
 MC i f1 f2 fv as=some (.nx (as.set i (some (vY (T.set k1.toNat (r.set k2.toNat c)))))):=by
 have e1:(T.map yR)[k1.toNat]? = sN (r.map yS):=by rw[zzI,hr];rfl
 have e2:=Su hk;have e3:(T.map yR).set k1.toNat (.nd .ls ((r.map yS).set k2.toNat (.lf true (.int c))))=(T.set k1.toNat (r.set k2.toNat c)).map yR:=by
  rw[List.map_set];show _=(T.map yR).set k1.toNat (.nd .ls ((r.set k2.toNat c).map yS));rw[List.map_set]
 unfold MC;simp only[h1,h2,hv,zyK,if_pos (show 0<=k1/\0<=k2 from⟨p1,p2⟩),(VL hi rfl:Mw Xh as i=some (T.map yR)),(X2 e1 rfl:Nx Xh _ _=some (r.map yS)),(X2 e2 rfl:Nx Ua _ _=some (.int r[k2.toNat])),e3]
theorem II{as:AS}{y i:Nat}{f1 f2 f3 fv:Kn}{k1 k2 k3 c:Int}{Ds:DZ}{p:Str×TZ}{r:List Int}(h1:f1 as=some k1)(h2:f2 as=some k2)(h3:f3 as=some k3)(hv:fv as=some c)(p1:0<=k1)(p2:0<=k2)(p3:0<=k3)(hy:DN as y=true)(hi:as[i]? = some (sN (Ds.map yF)))(hp:Ds[k1.toNat]? = some p)(hr:p.2[k2.toNat]? = some r)(hk:k3.toNat<r.length):
 CM y i f1 1 f2 f3 fv as=some (.nx (as.set i (sN ((Ds.set k1.toNat (p.1,p.2.set k2.toNat (r.set k3.toNat c))).map yF)))):=by
 have e1:(Ds.map yF)[k1.toNat]? = some (.nd .tp [.lf true (.str p.1),.nd .ls (p.2.map yR)]):=by rw[zzI,hp];rfl
 have e2:([.lf true (.str p.1),.nd .ls (p.2.map yR)]:List O)[1]? = sN (p.2.map yR):=rfl;have e3:(p.2.map yR)[k2.toNat]? = sN (r.map yS):=by rw[zzI,hr];rfl
 have e4:=Su hk;have e6:(p.2.map yR).set k2.toNat (.nd .ls ((r.map yS).set k3.toNat (.lf true (.int c))))=(p.2.set k2.toNat (r.set k3.toNat c)).map yR:=by
  rw[List.map_set];show _=(p.2.map yR).set k2.toNat (.nd .ls ((r.set k3.toNat c).map yS));rw[List.map_set]
 have e5:(Ds.map yF).set k1.toNat (.nd .tp ([.lf true (.str p.1),.nd .ls (p.2.map yR)].set 1 (.nd .ls ((p.2.set k2.toNat (r.set k3.toNat c)).map yR))))=(Ds.set k1.toNat (p.1,p.2.set k2.toNat (r.set k3.toNat c))).map yF:=by
  symm;rw[List.map_set];rfl
 unfold CM;simp only[h1,h2,h3,hv,zyK,if_pos (show 0<=k1/\0<=k2/\0<=k3/\DN as y=true from⟨p1,p2,p3,hy⟩),(VL hi rfl:Mw Xh as i=some (Ds.map yF)),(X2 e1 rfl:Nx S8 _ _=some [.lf true (.str p.1),.nd .ls (p.2.map yR)]),(X2 e2 rfl:Nx Xh _ _=some (p.2.map yR)),(X2 e3 rfl:Nx Xh _ _=some (r.map yS)),(X2 e4 rfl:Nx Ua _ _=some (.int r[k3.toNat])),e6,e5]
theorem mh{as:AS}{i:Nat}{os:List O}{b:EF}(h:as[i]? = some (sN os))(hb:b as=some (.ow (.nd .ls []),as)):WD (f2 (fV i) b (zw .NotEq)) as true (.bl (!os.isEmpty)):=by
 have hc:zw .NotEq (O.nd .ls os).toD (.lst [])=some (.im (.bl (!os.isEmpty))):=by
  cases os with
  |nil=>rfl
  |cons o r=>rfl
 have hv:RV.view as (RV.ow (O.nd .ls [])).frz=some (.lst [],some true):=rfl;have hi:RV.view as (RV.bo i).frz=some ((O.nd .ls os).toD,(O.nd .ls os).kl):=QX h;have hw:wrap (meet (O.nd .ls os).kl (some true)) (.im (.bl (!os.isEmpty)))=some (.ow (.lf true (.bl (!os.isEmpty)))):=by
  simp[wrap,zD,G_]
 unfold WD f2;rw[Wv h];simp only[zyK,hb,hi,hv,hc,hw]
theorem mS{as:AS}{i:Nat}{os:List O}(h:as[i]? = some (sN os)):WD (f2 (fV i) (yf dN) (zw .NotEq)) as true (.bl (!os.isEmpty)):=mh h (yN zF (wz rfl))
theorem BU{n i:Nat}{r:List Int}{c:Int}(hr:Row n r)(hc:AY n c):Row n (r.set i c):=by
 refine⟨by rw[zzU];exact hr.1,λx m=>?_⟩
 rcases List.mem_or_eq_of_mem_set m with m|rfl
 . exact hr.2 x m
 . exact hc
theorem Br{k n i:Nat}{T:TZ}{r:List Int}(hT:Tab k n T)(hr:Row n r):Tab k n (T.set i r):=by
 refine⟨by rw[zzU];exact hT.1,λx m=>?_⟩
 rcases List.mem_or_eq_of_mem_set m with m|rfl
 . exact hT.2 x m
 . exact hr
theorem set_same{α:Type}:∀{l:List α}{i:Nat}{a:α},l[i]? = some a->l.set i a=l
 | [],_,_,h=>by simp at h
 |x::l,0,a,h=>by
  simp at h;rw[h];rfl
 |x::l,i+1,a,h=>congrArg (x :: ·) (set_same (l:=l) (i:=i) (by simpa using h))
abbrev Hv(n m:Nat)(a0 a1 a4 a6 a7:Option O)(xs:List Int)(w:Int)(e:Int)(J:TZ)(Ds:DZ):AS:=
 [a0,a1,sI n,sI m,a4,sI e,a6,a7,sT (.lst (xs.map D.int)),some (vY J),sN (Ds.map yF),sI w,none]
section
variable{n m:Nat}{a0 a1 a4 a6 a7:Option O}{xs:List Int}{w e:Int}{J:TZ}{Ds:DZ}
theorem YK(hl:xs.length=8)(k:Nat)(hk:k<8):∃x,xs[k]? = some x/\zA (.lst (xs.map D.int)) (.int (k:Int))=some (.im (.int x)):=by
 have g:=zzE (l:=xs) (i:=k) (by omega);exact⟨_,g,OI g⟩
theorem pU(hl:xs.length=8)(n1:1<=n)(he:AY n e):∃e',AY n e'/\xX (fT (f2 yK zU (zw .Eq))) (zx true 5 (f2 (f2 (fV 8) zC zA) zz zm)) wI (Hv n m a0 a1 a4 a6 a7 xs w e J Ds)=some (.nx (Hv n m a0 a1 a4 a6 a7 xs w e' J Ds)):=by
 obtain⟨x,_,hx⟩:=YK hl 1 (by omega)
 by_cases h:w=0
 . exact⟨x%n,xN n1,wo (zp (z_ (za (i:=11) rfl) zb rfl) (by show some (w==0)=_;simp[h])) (yc (i:=5) (yb (zu (za (i:=8) rfl) zb hx rfl) (za (i:=2) rfl) (by omega)) (zj rfl))⟩
 . exact⟨e,he,zN (zp (z_ (za (i:=11) rfl) zb rfl) (by show some (w==0)=_;simp[h])) rfl⟩
theorem pq(hl:xs.length=8)(n1:1<=n)(hJ:Tab n n J):∃J',Tab n n J'/\xX (vP (fT (f2 yK zC (zw .Eq))) (fT (f2 yK yd (zw .Eq)))) (MC 9 (XU (Eg 8 (xC 2)) (xV 2)) (XU (Eg 8 (xC 3)) (xV 2)) (XU (Eg 8 (xC 4)) (xV 2))) wI (Hv n m a0 a1 a4 a6 a7 xs w e J Ds)=some (.nx (Hv n m a0 a1 a4 a6 a7 xs w e J' Ds)):=by
 obtain⟨x2,g2,_⟩:=YK hl 2 (by omega);obtain⟨x3,g3,_⟩:=YK hl 3 (by omega);obtain⟨x4,g4,_⟩:=YK hl 4 (by omega);have t1:WT (fT (f2 yK zC (zw .Eq))) (Hv n m a0 a1 a4 a6 a7 xs w e J Ds) (w==1):=zp (z_ (za (i:=11) rfl) zb rfl) rfl;have t2:WT (fT (f2 yK yd (zw .Eq))) (Hv n m a0 a1 a4 a6 a7 xs w e J Ds) (w==2):=zp (z_ (za (i:=11) rfl) zb rfl) rfl;have t:WT (vP (fT (f2 yK zC (zw .Eq))) (fT (f2 yK yd (zw .Eq)))) (Hv n m a0 a1 a4 a6 a7 xs w e J Ds) (w==1||w==2):=vh t1 (λh=>by rw[h,Bool.false_or];exact t2) (λh=>by rw[h];rfl);cases hw:(w==1||w==2)with
 |false=>rw[hw]at t;exact⟨J,hJ,zN t rfl⟩
 |true=>
  rw[hw]at t;have m2:=xN (x:=x2) n1;have m3:=xN (x:=x3) n1;have m4:=xN (x:=x4) n1;have hk:(x2%(n:Int)).toNat<J.length:=by rw[hJ.1];omega
  have hr:=zzE hk;have hR:=hJ.2 _ (zyX hk);generalize J[(x2%(n:Int)).toNat]=r at hr hR;have hn:(0:Int)<n:=by omega
  exact⟨_,Br hJ (BU hR m4),wo t (Hr (vM (YB (i:=8) rfl (by decide) g2) (Q4 (i:=2) rfl) hn) (vM (YB (i:=8) rfl (by decide) g3) (Q4 (i:=2) rfl) hn) (vM (YB (i:=8) rfl (by decide) g4) (Q4 (i:=2) rfl) hn) m2.1 m3.1 rfl hr (by rw[hR.1];omega))⟩
theorem rX(hl:xs.length=8)(n1:1<=n)(m1:1<=m)(hD:∀p ∈ Ds,Tab m n p.2):∃Ds',Ds'.map (·.1)=Ds.map (·.1)/\(∀p ∈ Ds',Tab m n p.2)/\xX (Xn (fT (f2 yK yd (zw .Gt))) (fT (f2 (fV 10) (yf dN) (zw .NotEq)))) (CM 12 10 (XU (Eg 8 (xC 5)) (Io 10)) 1 (XU (Eg 8 (xC 6)) (xV 3)) (XU (Eg 8 (xC 7)) (xV 2)) (XU (Eg 8 (xC 4)) (xV 2))) wI (Hv n m a0 a1 a4 a6 a7 xs w e J Ds)=some (.nx (Hv n m a0 a1 a4 a6 a7 xs w e J Ds')):=by
 obtain⟨x4,g4,_⟩:=YK hl 4 (by omega);obtain⟨x5,g5,_⟩:=YK hl 5 (by omega);obtain⟨x6,g6,_⟩:=YK hl 6 (by omega);obtain⟨x7,g7,_⟩:=YK hl 7 (by omega);have t1:WT (fT (f2 yK yd (zw .Gt))) (Hv n m a0 a1 a4 a6 a7 xs w e J Ds) (decide (2<w)):=zp (XA (za (i:=11) rfl) zb) rfl;have t2:WT (fT (f2 (fV 10) (yf dN) (zw .NotEq))) (Hv n m a0 a1 a4 a6 a7 xs w e J Ds) (!(Ds.map yF).isEmpty):=zp (mS (i:=10) rfl) rfl;have t:WT (Xn (fT (f2 yK yd (zw .Gt))) (fT (f2 (fV 10) (yf dN) (zw .NotEq)))) (Hv n m a0 a1 a4 a6 a7 xs w e J Ds) (decide (2<w) && !(Ds.map yF).isEmpty):=vn t1 (λh=>by rw[h,Bool.true_and];exact t2) (λh=>by rw[h];rfl);cases hw:(decide (2<w) && !(Ds.map yF).isEmpty)with
 |false=>rw[hw]at t;exact⟨Ds,rfl,hD,zN t rfl⟩
 |true=>
  rw[hw]at t;have hne:0<Ds.length:=by
   cases Ds with
   |nil=>simp at hw
   |cons p r=>exact Nat.zero_lt_succ _
  have hlen:((Ds.map yF).length:Int)=Ds.length:=by rw[zzB]
  have m4:=xN (x:=x4) n1;have m5:=xN (x:=x5) hne;have m6:=xN (x:=x6) m1;have m7:=xN (x:=x7) n1;have hk:(x5%(Ds.length:Int)).toNat<Ds.length:=by omega
  have hp:=zzE hk;have hP:=hD _ (zyX hk);generalize Ds[(x5%(Ds.length:Int)).toNat]=p at hp hP;have hk2:(x6%(m:Int)).toNat<p.2.length:=by rw[hP.1];omega
  have hr:=zzE hk2;have hR:=hP.2 _ (zyX hk2);generalize p.2[(x6%(m:Int)).toNat]=r at hr hR;have hn:(0:Int)<n:=by omega
  have hm:(0:Int)<m:=by omega
  refine⟨Ds.set (x5%(Ds.length:Int)).toNat (p.1,p.2.set (x6%(m:Int)).toNat (r.set (x7%(n:Int)).toNat (x4%n))), ?_,λq mq=>?_,wo t (II (vM (YB (i:=8) rfl (by decide) g5) (by rw[<-hlen];exact Jb (i:=10) rfl) (by omega)) (vM (YB (i:=8) rfl (by decide) g6) (Q4 (i:=3) rfl) hm) (vM (YB (i:=8) rfl (by decide) g7) (Q4 (i:=2) rfl) hn) (vM (YB (i:=8) rfl (by decide) g4) (Q4 (i:=2) rfl) hn) m5.1 m6.1 m7.1 rfl rfl hp hr (by rw[hR.1];omega))⟩
  . rw[List.map_set];exact set_same (by rw[zzI,hp];rfl)
  . rcases List.mem_or_eq_of_mem_set mq with mq|rfl
    . exact hD q mq
    . exact Br hP (BU hR m4)
end
theorem A8(T:TZ):(vY T).frz = .lf true (zL T):=by
 show O.lf (O.strs _) (.lst (O.toDs _))=_;rw[(yV T).1,(yV T).2]
theorem HG(Ds:DZ):(O.nd .ls (Ds.map yF)).frz = .lf true (.lst (Ds.map yj)):=by
 show O.lf (O.strs _) (.lst (O.toDs _))=_;rw[(X_ Ds).1,(X_ Ds).2]
theorem AH{n m:Nat}{J:TZ}{e c:Int}{Ds:DZ}{S:SS}(A:Alg n m J e Ds):∃J' e' Ds',Alg n m J' e' Ds'/\RE (Vo [(true,y8 n m J e Ds S),(true,.int c)]) (y8 n m J' e' Ds' S):=by
 have n8:=A.n8;have m6:=A.m6;have dl:=A.dl;obtain⟨xs,xl,hx,ws⟩:=uF (as:=[sT (y8 n m J e Ds S),sI c,sI n,sI m,sT (zL J),sI e,sT (.lst (Ds.map yj)),sT (.lst (S.map yu)),none,none,none,none,none]) (a:=fV 1) (b:=fC (.int 8)) (c:=c) (m:=8) (by omega) (WD.e (za rfl)) (WD.e zb);obtain⟨x0,_,a0⟩:=YK xl 0 (by omega);obtain⟨e',he,s1⟩:=pU (m:=m) (a0:=sT (y8 n m J e Ds S)) (a1:=sI c) (a4:=sT (zL J)) (a6:=sT (.lst (Ds.map yj))) (a7:=sT (.lst (S.map yu))) (w:=x0%6) (J:=J) (Ds:=Ds) xl A.n1 ⟨A.e0,A.en⟩;obtain⟨J',hJ,s2⟩:=pq (m:=m) (a0:=sT (y8 n m J e Ds S)) (a1:=sI c) (a4:=sT (zL J)) (a6:=sT (.lst (Ds.map yj))) (a7:=sT (.lst (S.map yu))) (w:=x0%6) (e:=e') (Ds:=Ds) xl A.n1 A.j;obtain⟨Ds',hn,hD,s3⟩:=rX (a0:=sT (y8 n m J e Ds S)) (a1:=sI c) (a4:=sT (zL J)) (a6:=sT (.lst (Ds.map yj))) (a7:=sT (.lst (S.map yu))) (w:=x0%6) (e:=e') (J:=J') xl A.n1 A.m1 A.ds;have hlen:Ds'.length=Ds.length:=by rw[<-zzB (f:=λp:Str×TZ=>p.1),hn,zzB]
 refine⟨J',e',Ds',⟨A.n1,n8,A.m1,m6,hJ,he.1,he.2,by omega,hD,by rw[hn];exact A.nd,by rw[hn];exact A.nm⟩, ?_⟩;have c9:=yg (i:=9) (CK (T:=J) (f:=fV 4) (as:=[sT (y8 n m J e Ds S),sI c,sI n,sI m,sT (zL J),sI e,sT (.lst (Ds.map yj)),sT (.lst (S.map yu)),sT (.lst (xs.map D.int)),none,none,none,none]) (by rw[A.j.1];omega) (WD.e (za rfl))) (zj rfl);have c10:=yg (i:=10) (xM (cap:=[none,none]) (WR (f:=fV 6) (as:=[sT (y8 n m J e Ds S),sI c,sI n,sI m,sT (zL J),sI e,sT (.lst (Ds.map yj)),sT (.lst (S.map yu)),sT (.lst (xs.map D.int)),some (vY J),none,none,none]) (WD.e (za rfl))) (by rw[zzB,zzB];exact Wn (by omega)) (TC Ds λp mp=>by rw[(A.ds p mp).1];omega)) (zj rfl);refine yE rfl (zi (as1:=[sT (y8 n m J e Ds S),sI c,sI n,sI m,sT (zL J),sI e,sT (.lst (Ds.map yj)),sT (.lst (S.map yu)),none,none,none,none,none]) (Aa (WD.e (za rfl)) rfl) (zi (vd (p:=8) ws (zj rfl)) (zi c9 (zi c10 (zi (yc (i:=11) (yb (zu (za rfl) zb a0 rfl) zb (by decide)) (zj rfl)) (zi s1 (zi s2 (zi s3 ?_))))))));have q:=zW (as:=Hv n m (sT (y8 n m J e Ds S)) (sI c) (sT (zL J)) (sT (.lst (Ds.map yj))) (sT (.lst (S.map yu))) xs (x0%6) e' J' Ds') (a:=fV 2) (za rfl) (zW (a:=fV 3) (za rfl) (Uk (j:=9) (fr:=dC vQ (dC (fV 10) (dC XT dN))) rfl (zW (a:=fV 5) (za rfl) (Uk (j:=10) (fr:=dC XT dN) rfl (zW (a:=fV 7) (za rfl) rfl)))));rw[A8,HG]at q;exact⟨_,xQ (Pu q (wz rfl)) rfl,rfl,rfl⟩
theorem u_{ns:List Int}:∃n m J e Ds S,Alg n m J e Ds/\Sg n S/\RE (Q_ [(true,.lst (ns.map .int))]) (y8 n m J e Ds S):=by
 obtain⟨c,hc⟩:=PH (ns:=ns) (k:=2) (s:=true) (t:=true) (by omega);obtain⟨c0,hc0⟩:=PH (ns:=ns) (k:=0) (s:=true) (t:=true) (by omega);obtain⟨c1,hc1⟩:=PH (ns:=ns) (k:=1) (s:=true) (t:=true) (by omega);obtain⟨n,m,J,e,Ds,S,A,hSg,hA⟩:=E4 (c:=c0) (c':=c1);have s1:zx true 1 (zg (aC zf (aC yd aN)) yw) [sT (.lst (ns.map .int)),none,none]=some (.nx [sT (.lst (ns.map .int)),sI c,none]):=yc (i:=1) (We (zl (za rfl) (zl zb zo)) hc) (zj rfl);have s2:zx true 2 (zg (aC (zg (aC zf (aC zU aN)) yw) (aC (zg (aC zf (aC zC aN)) yw) aN)) wY) [sT (.lst (ns.map .int)),sI c,none]=some (.nx [sT (.lst (ns.map .int)),sI c,sT (y8 n m J e Ds S)]):=
  vd (p:=2) (Vj (WD.e (We (zl (za rfl) (zl zb zo)) hc0)) (WD.e (We (zl (za rfl) (zl zb zo)) hc1)) hA) (zj rfl)
 by_cases h:c%2=1
 . obtain⟨J',e',Ds',A',h'⟩:=N0 (c:=c/2) (S:=S) A;exact⟨n,m,J',e',Ds',S,A',hSg,yE rfl (zi s1 (zi s2 (wO (ZL (zp (z_ (yb (za rfl) zb (by decide)) zb rfl) (by show some (c%2==1)=_;simp[h])) (yW (Vj (WD.e (za rfl)) (WD.e (wH (za rfl) zb (by decide) (zK (by decide) (by decide)))) h'))))))⟩
 . obtain⟨J',e',Ds',A',h'⟩:=AH (c:=c/2) (S:=S) A;exact⟨n,m,J',e',Ds',S,A',hSg,yE rfl (zi s1 (zi s2 (zi (zN (zp (z_ (yb (za rfl) zb (by decide)) zb rfl) (by show some (c%2==1)=_;simp[h])) rfl) (yW (Vj (WD.e (za rfl)) (WD.e (wH (za rfl) zb (by decide) (zK (by decide) (by decide)))) h')))))⟩
theorem Ak{k:Nat}{r:List Int}:xm (k+2) (zH r) (zH r)=some true:=by
 show HY (xm (k+1)) (r.map D.int) (r.map D.int)=_;refine Xe λx m=>?_;obtain⟨i,_,rfl⟩:=zxB.mp m;show some (i==i)=_;simp
theorem uB{k:Nat}{T:TZ}:xm (k+3) (.lst (T.map zH)) (.lst (T.map zH))=some true:=by
 show HY (xm (k+2)) (T.map zH) (T.map zH)=_;refine Xe λx m=>?_;obtain⟨r,_,rfl⟩:=zxB.mp m;exact Ak
section
variable{n:Int}{m:Nat}{X:Str}{T:TZ}{e:Int}{Ds:List Dd}{Ss:List Sd}{A0 A1 A3 A4:Option O}
theorem Ay(h:AOk n m X T e Ds Ss):J5 5 (Ym (f2 zz yd zA) (oS zC) oN Wk) 6 7 8 [A0,A1,sT (vX n m T e Ds Ss),A3,A4,some (Aw n m T e Ds Ss),none,none,none]=some (.nx [A0,A1,sT (vX n m T e Ds Ss),A3,A4,none,none,none,none]):=by
 have n1:=h.n1;have n8:=h.n8;have m6:=h.m6;have s4:=h.s4;have t1:=h.tb.1;cases T with
 |nil=>simp at t1;omega
 |cons r T'=>
  have hw:WE (Ym (f2 zz yd zA) (oS zC) oN Wk) [A0,A1,sT (vX n m (r::T') e Ds Ss),A3,A4,none,none,none,none] (.lst (T'.map zH)):=
   Zy (lo:=some 1) (hi:=none) (zT (za rfl) zb rfl).e (Xc zb) rfl (Xy (xs:=[zH r]) (ys:=T'.map zH))
  obtain⟨o,w1,w2,w3⟩:=hw;have hr:r.length<=1000:=by have:=(h.tb.2 r (by simp)).1;omega
  have c4:(Ds.map wD).all Fy=true:=by
   rw[List.all_eq_true];intro x mx;obtain⟨p,mp,rfl⟩:=zxB.mp mx;have:=((h.dk p mp).1.2.2.1).1;exact zyN (by rw[zzB];omega)
  have c5:(Ss.map w9).all Fy=true:=by
   rw[List.all_eq_true];intro x mx;obtain⟨p,mp,rfl⟩:=zxB.mp mx;have:=(h.sk p mp).2.1;exact zyN (by rw[zzB];omega)
  show((Ym (f2 zz yd zA) (oS zC) oN Wk) [A0,A1,sT (vX n m (r::T') e Ds Ss),A3,A4,none,none,none,none]).bind _=_;rw[w1];show(if _ then _ else _)=_;refine if_pos ⟨by rw[zzB];exact hr,by rw[zzB];omega,c4,c5,rfl,rfl,rfl,by decide, ?_⟩;rw[(yV T').2];show xm 60 _ o.toD=_;rw[w3];exact uB (k:=57)
end
abbrev dd(p:Str×TZ):Dd:=(p.1,("rows ":Str)++tT p.2,p.2)
theorem O9{m n:Nat}{T:TZ}(h:Tab m n T):Tb n m T:=⟨h.1,λr mr=>⟨by have:=(h.2 r mr).1;omega,λv mv=>(h.2 r mr).2 v mv⟩⟩
theorem D5{n:Int}{T:TZ}(hT:∀r ∈ T,In n r):10 ∉ (("rows ":Str)++tT T).cps.toList:=by
 refine ZR (by decide +kernel) λm=>?_;have:=BP hT m;omega
theorem O0{n:Int}{m:Nat}{T:TZ}(hn:n<=8)(hm:m<=8)(hT:Tb n m T):(("rows ":Str)++tT T).length<=10000:=by
 have hl:=vV (Rj hn hm hT);have lr:("rows ":Str).length=5:=(by decide +kernel);rw[zY];omega
theorem m_{n m:Nat}{J:TZ}{e:Int}{Ds:DZ}{S:SS}(A:Alg n m J e Ds)(hS:Sg n S):AOk n m (("rows ":Str)++tT J) J e (Ds.map dd) S:=by
 have n1:=A.n1;have n8:=A.n8;have m1:=A.m1;have m6:=A.m6;have tj:=O9 A.j;have en:((n:Int)).toNat=n:=by omega
 refine⟨by omega,by omega,m1,m6,by rw[en];exact tj,Sw (by omega) (by omega) (by rw[en];exact tj),O0 (by omega) (by omega) tj,D5 λr mr=>(tj.2 r mr).2,A.e0,A.en,by rw[zzB];exact A.dl,λp mp=>?_, ?_,hS.1,hS.2.1,hS.2.2⟩
 . obtain⟨q,mq,rfl⟩:=zxB.mp mp;have tq:=O9 (A.ds q mq);exact⟨⟨A.nm q.1 (List.mem_map_of_mem mq),O0 (by omega) (by omega) tq,tq,B0 (by omega) (by omega) m1 (by omega) tq⟩,D5 λr mr=>(tq.2 r mr).2⟩
 . rw[zyB];exact A.nd
theorem KW{α:Type}{e:α->D}{P:α->Bool}{tt:TF}{as0:AS}(H:∀v:α,∃as1,gN 0 (true,e v) as0=some as1/\WT tt as1 (P v)/\as1[0]? = some (sT (e v))):∀l:List α,yy zP tt zf as0 ((l.map e).map λd=>(true,d))=some ((l.filter P).map λv=>O.lf true (e v))
 | []=>rfl
 |v::r=>by
  obtain⟨as1,g1,g2,g3⟩:=H v;have ih:=KW H r;show yy _ _ _ _ ((true,e v)::(r.map e).map λd=>(true,d))=_;cases hp:P v
  . rw[hp]at g2;rw[List.filter_cons_of_neg (by rw[hp];decide)];exact Kc g1 g2 ih
  . rw[hp]at g2;rw[List.filter_cons_of_pos hp];exact Kh g1 g2 (za g3) ih
theorem C3{α:Type}{e:α->D}{P:α->Bool}{tt:TF}{as:AS}{fi:EF}{cap:List (Option Nat)}{l:List α}(h:WE fi as (.lst (l.map e)))(hl:l.length<=1000)(H:∀v:α,∃as1,gN 0 (true,e v) (wC cap as)=some as1/\WT tt as1 (P v)/\as1[0]? = some (sT (e v))):WE (zq (yB fi) cap zP tt zf) as (.lst ((l.filter P).map e)):=
 ⟨_,xM (WR h) (by rw[zzB,zzB];exact Wn (by omega)) (KW H l),MV e _,congrArg D.lst (Bx e _)⟩
theorem DR{as:AS}{a b:EF}{xs ys:List D}(ha:WE a as (.lst xs))(hb:WE b as (.lst ys))(hl:xs.length+ys.length<=1000):WE (f2 a b zd) as (.lst (xs++ys)):=by
 obtain⟨o,h1,h2,h3⟩:=ha;obtain⟨p,h4,h5,h6⟩:=hb;have hg:Wl .Add o.toD p.toD=some (.fl (xs++ys)):=by
  rw[h3,h6];exact if_pos (Wn (by omega))
 have:=OV h1 h4 hg;rw[h2,h5]at this;refine⟨_,this, ?_, ?_⟩
 . show O.strs ((xs++ys).map (G_ true))=true;rw[vG];exact Q1 _
 . show D.lst (O.toDs ((xs++ys).map (G_ true)))=_;rw[vG];exact congrArg D.lst (VO _)
abbrev N8:List Str:=["rows","join","deed","sign","values","nothing","around","a"]
theorem pd:∀x ∈ N8,Nm x:=by
 intro x mx;simp only[zzC,zyZ,or_false]at mx;have key:∀y:Str,(1<=y.length/\y.length<=8/\y.cps.toList.all (λc=>decide (97<=c/\c<=122))=true)->Nm y:=λy h=>⟨h.1,h.2.1,λc mc=>of_decide_eq_true (List.all_eq_true.mp h.2.2 c mc)⟩
 rcases mx with rfl|rfl|rfl|rfl|rfl|rfl|rfl|rfl<;>exact key _ (by decide +kernel)
theorem qt(c:Int):∃x,Nm x/\zA (.lst (N8.map D.str)) (.int (c/4%8))=some (.im (.str x)):=by
 have hk:(c/4%8).toNat<N8.length:=by show(c/4%8).toNat<8;omega
 refine⟨N8[(c/4%8).toNat],pd _ (zyX hk), ?_⟩;have:=Ul (ds:=N8.map D.str) (k:=(c/4%8).toNat) (x:=D.str N8[(c/4%8).toNat]) (by rw[zzI,zzE hk];rfl)
 rwa [show(((c/4%8).toNat:Nat):Int)=c/4%8 by omega]at this
abbrev Z9(A0 A2 A3 A4 A5:Option O)(c:Int)(x:Str)(Ds:DZ)(S:SS):AS:=[A0,sI c,A2,A3,A4,A5,sT (.lst (Ds.map yj)),sT (.lst (S.map yu)),sT (.str x)]
abbrev mG(i:Nat):TF:=(Xn (fT (f2 (f2 zk xj zm) zC (zw .Eq))) (fT (f2 (fV i) (yf dN) (zw .NotEq))))
abbrev p6(i:Nat):EF:=(zq (yB (Ym (fV i) (oS zC) oN Wk)) [none,some 8] zP (fT (f2 (f2 zf zU zA) zk (zw .NotEq))) zf)
abbrev p7(i:Nat):EF:=(yf (dC (yr (dC (fV 8) (dC (f2 (f2 (fV i) zU zA) zC zA) dN))) dN))
section
variable{A0 A2 A3 A4 A5:Option O}{c:Int}{x:Str}{Ds:DZ}{S:SS}
theorem SC{α:Type}(d:Str×α)(r:List (Str×α))(x:Str)(h:((d::r).map (·.1)).Nodup):(x::(r.filter λp=>!(p.1==x)).map (·.1)).Nodup:=by
 refine zzW.mpr ⟨λm=>?_, ?_⟩
 . obtain⟨p,mp,e⟩:=zxB.mp m;have:=(List.mem_filter.mp mp).2;rw[e]at this;simp at this
 . exact((zzW.mp h).2).sublist (List.Sublist.map _ List.filter_sublist)
theorem qD{d:Str×TZ}{r:DZ}(hl:r.length<=100):WE (p6 6) (Z9 A0 A2 A3 A4 A5 c x (d::r) S) (.lst ((r.filter λp=>!(p.1==x)).map yj)):=
 C3 (e:=yj) (P:=λp=>!(p.1==x)) (Zy (lo:=some 1) (hi:=none) (ve rfl) (Xc zb) rfl (Xy (xs:=[yj d]) (ys:=r.map yj))) (by omega) λp=>⟨[sT (yj p),sT (.str x)],rfl,zp (V2 (c:=p.1==x) (zu (za rfl) zb rfl rfl) (za rfl) rfl) rfl,rfl⟩
theorem r_{d:Str×List Int}{r:SS}(hl:r.length<=100):WE (p6 7) (Z9 A0 A2 A3 A4 A5 c x Ds (d::r)) (.lst ((r.filter λp=>!(p.1==x)).map yu)):=
 C3 (e:=yu) (P:=λp=>!(p.1==x)) (Zy (lo:=some 1) (hi:=none) (ve rfl) (Xc zb) rfl (Xy (xs:=[yu d]) (ys:=r.map yu))) (by omega) λp=>⟨[sT (yu p),sT (.str x)],rfl,zp (V2 (c:=p.1==x) (zu (za rfl) zb rfl rfl) (za rfl) rfl) rfl,rfl⟩
end
section
variable{A0 A2 A3 A4 A5:Option O}{c:Int}{x:Str}{Ds:DZ}{S:SS}
theorem qj{d:Str×TZ}{r:DZ}:WE (p7 6) (Z9 A0 A2 A3 A4 A5 c x (d::r) S) (.lst ([((x,d.2):Str×TZ)].map yj)):=
 yz (zc (Pm (os:=[.lf true (.str x),.lf true (zL d.2)]) (zc (za rfl) (zc (zT (zT (za rfl) zb (Ul (k:=0) rfl)) zb rfl) zF)) (wz rfl) rfl rfl rfl) zF) (wz rfl) rfl rfl
theorem pK{d:Str×List Int}{r:SS}:WE (p7 7) (Z9 A0 A2 A3 A4 A5 c x Ds (d::r)) (.lst ([((x,d.2):Str×List Int)].map yu)):=
 yz (zc (Pm (os:=[.lf true (.str x),.lf true (zH d.2)]) (zc (za rfl) (zc (zT (zT (za rfl) zb (Ul (k:=0) rfl)) zb rfl) zF)) (wz rfl) rfl rfl rfl) zF) (wz rfl) rfl rfl
theorem Lo{as:AS}(h1:as[1]? = some (sI c)):WT (fT (f2 (f2 zk xj zm) zC (zw .Eq))) as (c%4==1):=zp (z_ (yb (za h1) zb (by decide)) zb rfl) rfl
theorem qA(hl:Ds.length<=6):∃Ds',(Ds'=Ds\/∃d r,Ds=d::r/\Ds'=(x,d.2)::r.filter λp=>!(p.1==x))/\xX (mG 6) (zx true 6 (f2 (p7 6) (p6 6) zd)) wI (Z9 A0 A2 A3 A4 A5 c x Ds S)=some (.nx (Z9 A0 A2 A3 A4 A5 c x Ds' S)):=by
 cases Ds with
 |nil=>exact⟨[],.inl rfl,zN (vn (k:=c%4==1) (l:=false) (Lo rfl) (λ_=>zp (Vp (q:=true) (ve rfl) (yz zF (wz rfl) rfl rfl) rfl) rfl) (λ_=>rfl)) rfl⟩
 |cons d r=>
  by_cases h:(c%4==1)=true
  . have hw:=DR (as:=Z9 A0 A2 A3 A4 A5 c x (d::r) S) qj (qD (by simp at hl;omega)) (by have:=List.length_filter_le (λp=>!(p.1==x)) r;simp at hl ⊢;omega);rw[<-zyL]at hw;refine⟨_,.inr ⟨d,r,rfl,rfl⟩, ?_⟩;have t1:=Lo (as:=Z9 A0 A2 A3 A4 A5 c x (d::r) S) (c:=c) rfl;rw[h]at t1;exact wo (vn (k:=true) (l:=true) t1 (λ_=>zp (Vp (q:=false) (ve rfl) (yz zF (wz rfl) rfl rfl) rfl) rfl) (λh=>nomatch h)) (vd (p:=6) hw (zj rfl))
  . have t1:=Lo (as:=Z9 A0 A2 A3 A4 A5 c x (d::r) S) (c:=c) rfl;rw[Bool.not_eq_true]at h;rw[h]at t1;exact⟨_,.inl rfl,zN (vn (k:=false) (l:=false) t1 (λh=>nomatch h) (λ_=>rfl)) rfl⟩
theorem pJ(hl:S.length<=4):∃S',(S'=S\/∃d r,S=d::r/\S'=(r.filter λp=>!(p.1==x))++[(x,d.2)])/\xX (mG 7) (zx true 7 (f2 (p6 7) (p7 7) zd)) wI (Z9 A0 A2 A3 A4 A5 c x Ds S)=some (.nx (Z9 A0 A2 A3 A4 A5 c x Ds S')):=by
 cases S with
 |nil=>exact⟨[],.inl rfl,zN (vn (k:=c%4==1) (l:=false) (Lo rfl) (λ_=>zp (Vp (q:=true) (ve rfl) (yz zF (wz rfl) rfl rfl) rfl) rfl) (λ_=>rfl)) rfl⟩
 |cons d r=>
  by_cases h:(c%4==1)=true
  . have hw:=DR (as:=Z9 A0 A2 A3 A4 A5 c x Ds (d::r)) (r_ (by simp at hl;omega)) pK (by have:=List.length_filter_le (λp=>!(p.1==x)) r;simp at hl ⊢;omega);rw[<-zyL]at hw;refine⟨_,.inr ⟨d,r,rfl,rfl⟩, ?_⟩;have t1:=Lo (as:=Z9 A0 A2 A3 A4 A5 c x Ds (d::r)) (c:=c) rfl;rw[h]at t1;exact wo (vn (k:=true) (l:=true) t1 (λ_=>zp (Vp (q:=false) (ve rfl) (yz zF (wz rfl) rfl rfl) rfl) rfl) (λh=>nomatch h)) (vd (p:=7) hw (zj rfl))
  . have t1:=Lo (as:=Z9 A0 A2 A3 A4 A5 c x Ds (d::r)) (c:=c) rfl;rw[Bool.not_eq_true]at h;rw[h]at t1;exact⟨_,.inl rfl,zN (vn (k:=false) (l:=false) t1 (λh=>nomatch h) (λ_=>rfl)) rfl⟩
end
section
variable{n m:Nat}{J:TZ}{e c:Int}{x:Str}{Ds Ds':DZ}{S S':SS}
theorem AM(A:Alg n m J e Ds)(hx:Nm x)(h:Ds'=Ds\/∃d r,Ds=d::r/\Ds'=(x,d.2)::r.filter λp=>!(p.1==x)):Alg n m J e Ds':=by
 rcases h with rfl|⟨d,r,rfl,rfl⟩
 . exact A
 . refine⟨A.n1,A.n8,A.m1,A.m6,A.j,A.e0,A.en, ?_,λp mp=>?_,SC d r x A.nd,λy my=>?_⟩
   . have:=A.dl;have:=List.length_filter_le (λp=>!(p.1==x)) r;simp at *;omega
   . rcases zzC.mp mp with rfl|mp
     . exact A.ds d (by simp)
     . exact A.ds p (zzD _ (List.mem_filter.mp mp).1)
   . rcases zzC.mp my with rfl|my
     . exact hx
     . obtain⟨p,mp,rfl⟩:=zxB.mp my;exact A.nm p.1 (List.mem_map_of_mem (zzD _ (List.mem_filter.mp mp).1))
theorem ug(A:Sg n S)(hx:Nm x)(h:S'=S\/∃d r,S=d::r/\S'=(r.filter λp=>!(p.1==x))++[(x,d.2)]):Sg n S':=by
 rcases h with rfl|⟨d,r,rfl,rfl⟩
 . exact A
 . refine⟨?_,λp mp=>?_, ?_⟩
   . have:=A.1;have:=List.length_filter_le (λp=>!(p.1==x)) r;simp at *;omega
   . rcases zzM.mp mp with mp|mp
     . exact A.2.1 p (zzD _ (List.mem_filter.mp mp).1)
     . rw[zzR.mp mp];have:=A.2.1 d (by simp);exact⟨hx,this.2⟩
   . have:=SC d r x A.2.2;rw[zyL];exact(List.perm_append_comm (l₁:=[x])).nodup_iff.mp this
theorem Fh(A:Alg n m J e Ds)(hS:Sg n S):∃Ds' S',Alg n m J e Ds'/\Sg n S'/\RE (ZM [(true,y8 n m J e Ds S),(true,.int c)]) (y8 n m J e Ds' S'):=by
 obtain⟨x,hx,ex⟩:=qt c;obtain⟨Ds',h1,r1⟩:=qA (A0:=sT (y8 n m J e Ds S)) (A2:=sI n) (A3:=sI m) (A4:=sT (zL J)) (A5:=sI e) (c:=c) (x:=x) (Ds:=Ds) (S:=S) A.dl;obtain⟨S',h2,r2⟩:=pJ (A0:=sT (y8 n m J e Ds S)) (A2:=sI n) (A3:=sI m) (A4:=sT (zL J)) (A5:=sI e) (c:=c) (x:=x) (Ds:=Ds') (S:=S) hS.1;refine⟨Ds',S',AM A hx h1,ug hS hx h2,yE rfl (zi (as1:=[sT (y8 n m J e Ds S),sI c,sI n,sI m,sT (zL J),sI e,sT (.lst (Ds.map yj)),sT (.lst (S.map yu)),none]) (Aa (ve rfl) rfl)
  (zi (yc (i:=8) (Fm (yz (os:=N8.map λs=>O.lf true (.str s)) (zc zb (zc zb (zc zb (zc zb (zc zb (zc zb (zc zb (zc zb zF)))))))) (wz rfl) rfl rfl) (WD.e (yb (wH (za rfl) zb (by decide) (zK (by decide) (by decide))) zb (by decide))) ex) (zj rfl))
  (zi r1 (zi r2 (yW (WD.e (Pm (os:=[yS n,yS m,.lf true (zL J),yS e,.lf true (.lst (Ds'.map yj)),.lf true (.lst (S'.map yu))]) (zc (za rfl) (zc (za rfl) (zc (za rfl) (zc (za rfl) (zc (za rfl) (zc (za rfl) zF)))))) (wz rfl) rfl rfl rfl)))))))⟩
end
theorem OB(ns:List Int):∃(n:Int) (m:Nat) (X:Str) (T:TZ) (e:Int) (Ds:List Dd) (Ss:List Sd),AOk n m X T e Ds Ss/\X=("rows ":Str)++tT T/\(∀p ∈ Ds,p.2.1=("rows ":Str)++tT p.2.2)/\RE (ZE [(true,.lst (ns.map .int))]) (vX n m T e Ds Ss):=by
 obtain⟨n,m,J,e,Ds,S,A,hS,hA⟩:=u_ (ns:=ns);obtain⟨c,hc⟩:=PH (ns:=ns) (k:=3) (s:=true) (t:=true) (by omega);obtain⟨Ds',S',A',hS',h'⟩:=Fh (c:=c) A hS;refine⟨n,m,_,J,e,Ds'.map dd,S',m_ A' hS',rfl,λp mp=>?_, ?_⟩
 . obtain⟨q,_,rfl⟩:=zxB.mp mp;rfl
 . have hd:vX n m J e (Ds'.map dd) S'=y8 n m J e Ds' S':=by
    show D.tup [_,_,_,_,.lst ((Ds'.map dd).map v5),_]=_;rw[zyB];rfl
   rw[hd];exact yE rfl (yW (Vj (NH (ve rfl) hA) (WD.e (We (zl (za rfl) (zl zb zo)) hc)) h'))
def Sh(k l:Nat)(d:D):Prop:=∃p,GW d=some p/\p.showable=true/\p.hasDict=false/\p.depth<=k/\p.shown.length<=l
def Vt(k l:Nat)(ds:List D):Prop:=∃ps,LM ds=some ps/\PyData.showableAll ps=true/\PyData.hasDictAll ps=false/\PyData.depthAll ps<=k/\((PyData.shownAll ps).map (·.length)).sum<=l/\ps.length=ds.length
theorem Vt.nil{k:Nat}:Vt k 0 []:=⟨[],by simp[LM],by simp[PyData.showableAll],by simp[PyData.hasDictAll],by simp[PyData.depthAll],by simp[PyData.shownAll],rfl⟩
theorem Vt.cons{k l m:Nat}{d:D}{r:List D}(h:Sh k l d)(g:Vt k m r):Vt k (l+m) (d::r):=by
 obtain⟨p,h1,h2,h3,h4,h5⟩:=h;obtain⟨ps,g1,g2,g3,g4,g5,g6⟩:=g;exact⟨p::ps,by simp[LM,h1,g1],by simp[PyData.showableAll,h2,g2],by simp[PyData.hasDictAll,h3,g3],by simp only[PyData.depthAll];omega,by simp only[PyData.shownAll,zyR,List.sum_cons];omega,congrArg (· + 1) g6⟩
theorem Vt.map{α:Type}{k l:Nat}{f:α->D}:∀{xs:List α},(∀x ∈ xs,Sh k l (f x))->Vt k (xs.length*l) (xs.map f)
 | [],_=>by rw[List.length_nil,Nat.zero_mul];exact Vt.nil
 |x::r,h=>by
  have:=Vt.cons (h x (by simp)) (Vt.map (xs:=r) λy m=>h y (zzD _ m));rw[zzT,Nat.succ_mul,Nat.add_comm];exact this
theorem Vt.lst{k l c:Nat}{ds:List D}(h:Vt k l ds)(hc:ds.length<=c):Sh (k+1) (l+2*c+3) (.lst ds):=by
 obtain⟨ps,g1,g2,g3,g4,g5,g6⟩:=h;have z:=listText_len_le (PyData.shownAll ps);rw[PyData.shownAll_length]at z;refine⟨.list ps,by simp[GW,g1],by simp[PyData.showable,g2],by simp[PyData.hasDict,g3],by simp only[PyData.depth];omega, ?_⟩;simp only[PyData.shown];omega
theorem Vt.tup{k l c:Nat}{ds:List D}(h:Vt k l ds)(hc:ds.length<=c):Sh (k+1) (l+2*c+3) (.tup ds):=by
 obtain⟨ps,g1,g2,g3,g4,g5,g6⟩:=h;have z:=tupleText_len_le (PyData.shownAll ps);rw[PyData.shownAll_length]at z;refine⟨.tuple ps,by simp[GW,g1],by simp[PyData.showable,g2],by simp[PyData.hasDict,g3],by simp only[PyData.depth];omega, ?_⟩;simp only[PyData.shown];omega
theorem Sh.mono{k l k' l':Nat}{d:D}(h:Sh k l d)(hk:k<=k')(hl:l<=l'):Sh k' l' d:=by
 obtain⟨p,h1,h2,h3,h4,h5⟩:=h;exact⟨p,h1,h2,h3,by omega,by omega⟩
theorem Nw{v:Int}(h0:0<=v)(h1:v<10 ^ 60):Sh 0 60 (.int v):=⟨.int v,by simp[GW],by simp[PyData.showable,OK h0 h1],by simp[PyData.hasDict],by simp[PyData.depth],by simp only[PyData.shown];exact xa h0 h1⟩
theorem IM{x:Str}(h:Nm x):Sh 0 90 (.str x):=⟨.str x,by simp[GW],by simp[PyData.showable],by simp[PyData.hasDict],by simp[PyData.depth],by
 simp only[PyData.shown];have:=StrLaws.reprText_len x (λc mc=>Nat.lt_of_le_of_lt (h.2.2 c mc).2 (by decide));have:=h.2.1;omega⟩
theorem OM{r:List Int}(h:Vs r):Sh 1 600 (zH r):=by
 have:=(Vt.map (k:=0) (l:=60) (f:=D.int) λv m=>Nw (h.2 v m).1 (h.2 v m).2).lst (c:=8) (by rw[zzB];exact h.1);have:=h.1;exact Sh.mono ‹Sh _ _ _› (zzN _) (by omega)
theorem Cp{T:TZ}(h:Ts T):Sh 2 5000 (.lst (T.map zH)):=by
 have z:=(Vt.map (k:=1) (l:=600) (f:=zH) λr m=>OM (h.2 r m)).lst (c:=8) (by rw[zzB];exact h.1);have:=h.1;exact z.mono (zzN _) (by omega)
section
variable{n e:Int}{m:Nat}{X:Str}{T:TZ}{Ds:List Dd}{Ss:List Sd}
theorem uI(h:AOk n m X T e Ds Ss):Sh 5 100000 (vX n m T e Ds Ss):=by
 have n1:=h.n1;have n8:=h.n8;have m6:=h.m6;have e0:=h.e0;have e1:=h.e1;have d6:=h.d6;have s4:=h.s4;have hD:Sh 4 40000 (.lst (Ds.map v5)):=by
  have z:=(Vt.map (k:=3) (l:=5200) (f:=v5) λp mp=>((Vt.cons ((IM (h.dk p mp).1.1).mono (Nat.zero_le _) (zzN _)) (Vt.cons (Cp (KZ n8 m6 (h.dk p mp).1)) Vt.nil)).tup (c:=2) (zzN 2)).mono (zzN _) (by omega)).lst (c:=6) (by rw[zzB];exact d6);exact z.mono (zzN _) (by omega)
 have hS:Sh 3 5000 (.lst (Ss.map Zc)):=by
  have z:=(Vt.map (k:=2) (l:=800) (f:=Zc) λp mp=>((Vt.cons ((IM (h.sk p mp).1).mono (Nat.zero_le _) (zzN _)) (Vt.cons (OM (Iw n8 (h.sk p mp))) Vt.nil)).tup (c:=2) (zzN 2)).mono (zzN _) (by omega)).lst (c:=4) (by rw[zzB];exact s4);exact z.mono (zzN _) (by omega)
 have z:=(Vt.cons ((Nw (v:=n) (by omega) (by omega)).mono (Nat.zero_le 4) (zzN _)) (Vt.cons ((Nw (v:=(m:Int)) (by omega) (by omega)).mono (Nat.zero_le 4) (zzN _)) (Vt.cons ((Cp (Rj n8 (by omega) h.tb)).mono (by decide:2<=4) (zzN _)) (Vt.cons ((Nw (v:=e) e0 (by omega)).mono (Nat.zero_le 4) (zzN _)) (Vt.cons hD (Vt.cons (hS.mono (by decide) (zzN _)) Vt.nil)))))).tup (c:=6) (zzN 6);exact z.mono (zzN _) (by omega)
theorem Ce(h:AOk n m X T e Ds Ss):∃s,ES [vX n m T e Ds Ss]=some (.im (.str s)):=by
 obtain⟨p,h1,h2,h3,h4,h5⟩:=uI h;refine⟨p.shown, ?_⟩;show(GW (vX n m T e Ds Ss)).bind _=_;rw[h1];show(if _ then some (R0.im (.str p.shown))else none)=_;rw[if_pos ⟨h2,h3,by omega,Wn (by omega)⟩]
theorem eq_int(k:Nat)(v:Int):xm (k+1) (.int v) (.int v)=some true:=by show some (v==v)=_;simp
theorem eq_str(k:Nat)(v:Str):xm (k+1) (.str v) (.str v)=some true:=by show some (v==v)=_;simp
theorem LX{k:Nat}{ds:List D}(h:∀d ∈ ds,xm k d d=some true):xm (k+1) (.lst ds) (.lst ds)=some true:=by show HY (xm k) ds ds=_;exact Xe h
theorem Fc{k:Nat}{ds:List D}(h:∀d ∈ ds,xm k d d=some true):xm (k+1) (.tup ds) (.tup ds)=some true:=by show HY (xm k) ds ds=_;exact Xe h
theorem Sf(k:Nat)(r:List Int):xm (k+2) (zH r) (zH r)=some true:=LX λd md=>by obtain⟨v,_,rfl⟩:=zxB.mp md;exact eq_int k v
theorem Bl(k:Nat)(T:TZ):xm (k+3) (.lst (T.map zH)) (.lst (T.map zH))=some true:=LX λd md=>by obtain⟨r,_,rfl⟩:=zxB.mp md;exact Sf k r
theorem OX:xm 60 (vX n m T e Ds Ss) (vX n m T e Ds Ss)=some true:=Fc (k:=59) λd md=>by
 simp only[zzC,zyZ,or_false]at md
 rcases md with rfl|rfl|rfl|rfl|rfl|rfl
 . exact eq_int 58 _
 . exact eq_int 58 _
 . exact Bl 56 _
 . exact eq_int 58 _
 . exact LX λd md=>by
    obtain⟨p,_,rfl⟩:=zxB.mp md;exact Fc (k:=57) λd md=>by
     simp only[zzC,zyZ,or_false]at md
     rcases md with rfl|rfl
     . exact eq_str 56 _
     . exact Bl 54 _
 . exact LX λd md=>by
    obtain⟨p,_,rfl⟩:=zxB.mp md;exact Fc (k:=57) λd md=>by
     simp only[zzC,zyZ,or_false]at md
     rcases md with rfl|rfl
     . exact eq_str 56 _
     . exact Sf 55 _
theorem IK(h:AOk n m X T e Ds Ss):xi (.str sn) [uY (Wm n m X e Ds Ss)]=some (.im (.str (Str.join sn (Wm n m X e Ds Ss)))):=Tf (by
 have ho:=X8 h;have z:=LS ho.2;have z2:=Nat.mul_le_mul_right 10020 ho.1;rw[sf];have:=ho.1;omega)
end
theorem On{as:AS}{a:EF}{x:D}{o:O}{g:List (Bool×D)->Option O}(ha:WE a as x)(hg:g [(true,x)]=some o):zg (aC a aN) g as=some (.ow o,as):=xJ (y7 ha zo) (by show g [(zD x||true,x)]=_;rw[zyD];exact hg)
theorem tW{n e:Int}{m:Nat}{T:TZ}{Ds:List Dd}{Ss:List Sd}:(Aw n m T e Ds Ss).toD=vX n m T e Ds Ss:=by
 show D.tup [.int n,.int m,(vY T).toD,.int e,.lst (O.toDs (Ds.map wD)),.lst (O.toDs (Ss.map w9))]=_;rw[FW,MT Sn,MT BO]
theorem CL(ns:List Int)(_:ns.length<=63):K_ [(true,.lst (ns.map .int))]=sT (.bl true):=by
 obtain⟨n,m,X,T,e,Ds0,Ss,h0,_,_,hd⟩:=OB ns;have h:=h0.rows;have eR:vX n m T e (Ds0.map VB) Ss=vX n m T e Ds0 Ss:=by
  show D.tup [.int n,.int m,.lst (T.map zH),.int e,.lst ((Ds0.map VB).map v5),.lst (Ss.map Zc)]=_;rw[zyB];rfl
 rw[<-eR]at hd;have e1:(Ds0.map VB).map VB=Ds0.map VB:=by rw[zyB];rfl
 generalize Ds0.map VB=Ds at h hd e1;obtain⟨rp,hr⟩:=Ce h;have hsh:=Ia h;have hli:=Iy h;rw[e1]at hsh hli;have rdO:=IC h;have hjn:=IK h;generalize Str.join sn (Wm n m (("rows ":Str)++tT T) e Ds Ss)=t at hsh rdO hjn;have rr:xr [(true,.str t),(true,vX n m T e Ds Ss)]=sT (.bl true):=
  yC rfl (zt (vd (p:=2) (NH (ve rfl) ⟨_,rdO,Jf,tW⟩) (zj rfl)) (y_ (TU (k:=true) (FC (za rfl) rfl) (λ_=>TU (k:=true) (z_ (c:=true) (za (i:=2) rfl) (za (i:=1) rfl) OX) (λ_=>z_ (c:=true) (YE (ve (i:=2) rfl) hr) (YE (ve (i:=1) rfl) hr) (eq_str 59 rp)) (λh=>nomatch h)) (λh=>nomatch h))))
 have hl:∀as:AS,as[2]? = some (sT (vX n m T e Ds Ss))->WD (ye .str (fC (.str "\n")) (aC (zg yT ZD) aN) xi) as true (.str t):=λas h1=>
  K1 zb rfl (x:=uY (Wm n m (("rows ":Str)++tT T) e Ds Ss)) ⟨_,On (ve h1) hli,MV (λs=>D.str s) _,congrArg D.lst (Bx (λs=>D.str s) _)⟩ hjn
 exact yC rfl (zt (vd (p:=1) (NH (ve rfl) hd) (zj rfl)) (zt (vd (p:=2) (NH (ve rfl) hd) (zj rfl))
  (zt (yc (i:=3) (hl _ rfl) (zj rfl)) (zt (yc (i:=4) (Yw (ve (i:=1) rfl) hsh) (zj rfl))
  (zt (zN (vh (k:=false) (ZK (k:=true) (zp (FC (za (i:=4) rfl) rfl) rfl)) (λ_=>vh (k:=false) (zp (V2 (c:=true) (za (i:=4) rfl) (za (i:=3) rfl) (eq_str 59 _)) rfl) (λ_=>zp (V2 (c:=true) (za (i:=1) rfl) (za (i:=2) rfl) OX) rfl) (λh=>nomatch h)) (λh=>nomatch h)) rfl)
  (zt (zN (ZK (k:=true) (zp (Vr (ve (i:=3) rfl) (ve (i:=2) rfl) rr) rfl)) rfl)
  (zt (yg (i:=5) (On (ve (i:=3) rfl) rdO) (zj rfl)) (zt (Ay h)
  (y_ (TU (k:=true) (Vr (ve (i:=3) rfl) (ve (i:=2) rfl) rr) (λ_=>z_ (c:=true) (Yw (ve (i:=1) rfl) hsh) (za (i:=3) rfl) (eq_str 59 _)) (λh=>nomatch h)))))))))))
end G15
end
end
open PySem PySem.W PyProof.Rows
set_option maxRecDepth 100000 in
set_option maxHeartbeats 0 in
theorem PySem.Challenge.cw_stretchdeeds_k15_algebras_written_holds : PySem.Challenge.rw_stretchdeeds_k15_algebras_written.Holds := by
 w_on;refine holds_law G15.ws λsaid=>?_
 refine holds_open (q:=G15.qv) (loose:=["PARTS"]) (Xt:=G15.Xt) (XP:=XL G15.qv []) (Yf:=Hook.obs (kHook G15.K G15.kA G15.kAe)) (Ya:=Hook.val (kHook G15.K G15.kA G15.kAe)) (YP:=Hook.says (kHook G15.K G15.kA G15.kAe)) (N:=8000) G15.hl (Hook.of (kHook G15.K G15.kA G15.kAe)) (Hook.keeps (kHook G15.K G15.kA G15.kAe)) (λs e=>xl_of s (Bool.and_eq_true_iff.mp e).1) XL.keeps (by rfl) (by rfl) (by rfl) (λs e=>recFacts_of (Bool.and_eq_true_iff.mp e).2) (by rfl) (by first|assumption|decide +kernel) (by decide +kernel) ⟨rfl,rfl,rfl,rfl,rfl,by decide +kernel⟩ ?hw ?hc
 (case hw=>w_witness2)
 k_fill
 refine G15.walk (l:=PySem.Challenge.rw_stretchdeeds_k15_algebras_written) rfl rfl (λw h Y=>PySem.W.kIn_of Y) G15.CL ?F
 case F=>
  intro w mg fa h KX G hmg;refine' G15.uJ KX G hmg ?_ ?_ ?_ ?_ ?_ ?_ ?_ ?_ ?_ ?_ ?_ ?_ ?_ ?_ ?_ ?_ ?_ ?_ ?_ ?_ ?_ ?_ ?_ ?_ ?_ ?_ ?_ ?_ ?_ ?_ ?_ ?_ ?_ ?_ ?_ ?_ ?_ ?_ ?_ ?_ ?_ ?_ ?_ ?_ ?_ ?_ ?_ ?_ ?_ ?_ ?_ ?_ ?_ ?_ ?_ ?_ ?_ ?_ ?_ ?_ ?_ ?_ ?_ ?_ ?_ ?_ ?_ ?_ ?_ ?_ ?_ ?_ ?_ ?_ ?_ ?_ ?_ ?_ ?_ ?_ ?_ ?_ ?_ ?_ ?_ ?_ ?_ ?_ ?_ ?_ ?_ ?_ ?_ ?_
  all_goals try first|k_is|(change _=_;k_is)|exact⟨_,⟨_,_,_,_,_,_,_,_,_,rfl,by k_is,by k_is⟩,by k_is⟩|(refine⟨?_, ?_⟩;(change _=_;k_is);exact⟨_,⟨_,_,_,_,_,_,_,_,_,rfl,by k_is,by k_is⟩,by k_is⟩)|rfl
#print axioms PySem.Challenge.cw_stretchdeeds_k15_algebras_written_holds
