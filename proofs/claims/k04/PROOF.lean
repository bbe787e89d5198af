import PyProof.Rows.All
import Wide.All
import OpenK.AllK
import Wide.FinOn
import PyProof.EqAt
import PyProof.EqKinds
import PyProof.TupleCall
import PyProof.NeKinds
import PyProof.AutoSeq1
import KE.LcSums
import PyProof.Rows.StrWeight2
import PyProof.StrBlockG
import KE.KIntText
import PyProof.CallStr
import PyProof.WalksEnum
import PyProof.Rows.EnumRows
import PyProof.Rows.FactsT2
import KE.KRevIter
import PyProof.StrWalks
import PyProof.ReprRoads
import PyProof.StrLawsTight
import PyProof.Rows.StrItems
import PyProof.Rows.ReprOcc
import PyProof.Rows.StrJoinMade
import PyProof.ReprLen
import PyProof.ZipIter
import PyProof.Rows.SortWalk
import PyProof.ListRange
import PyProof.AttrMissHeap
import PyProof.Rows.SumAny
import Lean
import PySem.Challenge.RW_stretchdeeds_k04_texts_of_no_term
set_option Elab.async false
set_option linter.all false
set_option maxRecDepth 100000
abbrev zC:=PySem.W.Frag
abbrev zD:=@List.length_map
abbrev zI:=@List.mem_cons
abbrev zS:=@List.mem_cons_of_mem
abbrev zzA:=@List.getElem?_eq_getElem
abbrev zzB:=@List.mem_cons_self
abbrev zzC:=@List.getElem?_eq_some_iff
abbrev zzD:=@List.size_toArray
abbrev zzE:=@List.getElem?_map
abbrev zzF:=@List.length_append
abbrev zzG:=@Nat.lt_of_lt_of_le
abbrev zzH:=@List.mem_append_right
abbrev zzI:=@List.mem_append
abbrev zzJ:=@Nat.le_refl
abbrev zzK:=@Nat.le_trans
abbrev zzL:=@List.mem_append_left
abbrev zzM:=@Nat.ne_of_lt
abbrev zzN:=@List.mem_singleton
abbrev zzO:=@List.length_take
abbrev zzP:=@List.length_cons
abbrev zzQ:=@List.length_set
abbrev zzS:=@List.nodup_cons
abbrev zzU:=@List.getElem?_set_ne
abbrev zzV:=@Option.some.inj
abbrev zzW:=@List.mem_of_getElem?
abbrev zzY:=@Bool.and_eq_true
abbrev zzZ:=@Bool.or_true
abbrev zyA:=@List.append_nil
abbrev zyB:=@List.getD_eq_getElem?_getD
abbrev zyC:=@decide_eq_false
abbrev zyD:=@Int.emod_lt_of_pos
abbrev zyE:=@Int.toNat_natCast
abbrev zyF:=@List.nodup_nil
abbrev zyG:=@List.getElem?_set_self
abbrev zyH:=@Option.bind_some
abbrev zyI:=@List.map_append
abbrev zyJ:=@Int.emod_nonneg
abbrev zyK:=@decide_eq_true
abbrev zyL:=@List.getElem?_append_left
abbrev zyM:=@List.drop_eq_getElem_cons
abbrev zyN:=@List.getElem?_append_right
abbrev zyO:=@List.map_cons
abbrev zyP:=@Array.length_toList
abbrev zyS:=@Bool.false_ne_true
abbrev zyT:=@Nat.le_succ
abbrev zyV:=@Int.toNat_of_nonneg
abbrev zyW:=@List.getElem_mem
abbrev zyX:=@Nat.lt_succ_of_lt
abbrev zyZ:=@List.append_assoc
abbrev zxB:=@List.nodup_append
abbrev zxC:=@PySem.wpAny_bind
abbrev zxD:=@PySem.wpAny_pure
abbrev zxE:=@PySem.Heap.get?_push_of_some
abbrev zxF:=@PySem.Heap.lt_size
abbrev zxG:=@PySem.Heap.get?_push_size
abbrev zxH:=@PySem.wpAny_newObj_type
abbrev zxJ:=@PySem.wpAny_holding
abbrev zxK:=@PySem.Heap.get?_update_other
abbrev zxN:=@PySem.Heap.size_push
abbrev zxO:=@PySem.Heap.get?_update_self
abbrev zxP:=@PySem.wpAny_mono
section
namespace L2
open PySem PySem.Spec PyProof.Rows
abbrev Key:=Sum Int Str
def zcb:Key->Value->Bool
 | .inl k,v=>Value.isInt k v
 | .inr x,v=>Value.isStrOf x v
def zpd(w:World):Key->Int
 | .inl k=>hashInt k
 | .inr x=>hashStr w x
theorem xq:∀{k:Key}{v:Value},zcb k v=true->(∃i t,k=Sum.inl i/\v=Value.int i t)\/(∃x t,k=Sum.inr x/\v=Value.str x t)
 | .inl i,v,h=>by
  obtain⟨t,e⟩:=Value.isInt_shape (k:=i) (v:=v) h
  exact .inl ⟨i,t,rfl,e⟩
 | .inr x,v,h=>by
  obtain⟨t,e⟩:=Value.isStrOf_shape (x:=x) (v:=v) h
  exact .inr ⟨x,t,rfl,e⟩
theorem zgQ(i:Int)(t:Tok):zcb (.inl i) (.int i t)=true:=by simp[zcb,Value.isInt]
theorem zhz(x:Str)(t:Tok):zcb (.inr x) (.str x t)=true:=by simp[zcb,Value.isStrOf]
theorem zlW(a b:Int):decide ((Sum.inl a:Key)=Sum.inl b)=(a==b):=by
 by_cases e:a=b
 · subst e;simp
 · have h:¬(Sum.inl a:Key)=Sum.inl b:=λq=>e (Sum.inl.inj q)
   rw[zyC h]
   exact(beq_eq_false_iff_ne.mpr e).symm
theorem zmP(a b:Str):decide ((Sum.inr a:Key)=Sum.inr b)=decide (a=b):=by
 by_cases e:a=b
 · subst e;simp
 · have h:¬(Sum.inr a:Key)=Sum.inr b:=λq=>e (Sum.inr.inj q)
   rw[zyC h,zyC e]
theorem znL(a:Int)(b:Str):decide ((Sum.inl a:Key)=Sum.inr b)=false:=zyC (λq=>nomatch q)
theorem zmj(a:Str)(b:Int):decide ((Sum.inr a:Key)=Sum.inl b)=false:=zyC (λq=>nomatch q)
def xr(prog:Program)(w:World):PySem.KeyKind prog w Key where
 is:=zcb
 hash:=zpd w
 inj:=λv a b ha hb=>by
  rcases xq ha with⟨i,t,rfl,rfl⟩|⟨x,t,rfl,rfl⟩
  · rcases xq hb with⟨j,u,rfl,e⟩|⟨y,u,rfl,e⟩
    · injection e with e1 _;rw[e1]
    · exact nomatch e
  · rcases xq hb with⟨j,u,rfl,e⟩|⟨y,u,rfl,e⟩
    · exact nomatch e
    · injection e with e1 _;rw[e1]
 byValue:=λk v h=>by
  rcases xq h with⟨i,t,rfl,rfl⟩|⟨x,t,rfl,rfl⟩<;>rfl
 pyHash:=λhv h=>by
  rcases xq hv with⟨i,t,rfl,rfl⟩|⟨x,t,rfl,rfl⟩
  · exact wpAny_pyHash_int h
  · exact wpAny_pyHash_str h
 eqBool:=λhu hv h=>by
  rcases xq hu with⟨i,t,rfl,rfl⟩|⟨x,t,rfl,rfl⟩
  · rcases xq hv with⟨j,u,rfl,rfl⟩|⟨y,u,rfl,rfl⟩
    · rw[zlW]at h;exact wpAny_eqBool_int h
    · rw[znL]at h;exact SeqAt.EqAt.int_str i t y u _ _ _ _ h
  · rcases xq hv with⟨j,u,rfl,rfl⟩|⟨y,u,rfl,rfl⟩
    · rw[zmj]at h;exact SeqAt.EqAt.str_int x t j u _ _ _ _ h
    · rw[zmP]at h;exact wpAny_eqBool_str h
 «strs» := λk x t v h=>by
  rcases xq h with⟨i,u,rfl,e⟩|⟨y,u,rfl,e⟩
  · exact nomatch e
  · injection e with e1 _
    subst e1
    cases v<;>rfl
theorem zdQ(prog:Program)(w:World)(i:Int)(t:Tok):(xr prog w).is (.inl i) (.int i t)=true:=zgQ i t
theorem Xb(prog:Program)(w:World)(x:Str)(t:Tok):(xr prog w).is (.inr x) (.str x t)=true:=zhz x t
end L2
namespace L2
open PySem PySem.Spec PyProof.Rows
inductive V where
 |non|bl (b:Bool)|int (i:Int)|str (x:Str)|byt (b:Array UInt8)|flt (b:UInt64)|ref (a:Addr)|ty (n:String)
 deriving DecidableEq
def RelV:V->Value->Prop
 | .non,u=>u=Value.none
 | .bl b,u=>u=Value.bool b
 | .int i,u=>∃t,u=Value.int i t
 | .str x,u=>∃t,u=Value.str x t
 | .byt b,u=>∃t,u=Value.bytes b t
 | .flt b,u=>∃t,u=Value.float b t
 | .ref a,u=>u=Value.ref a
 | .ty n,u=>u=Value.type n
abbrev Vals:List V->List Value->Prop:=Paired RelV
theorem Vals.length(r:Vals xs us):xs.length=us.length:=Paired.length r
theorem Vals.get:∀{xs:List V}{us:List Value}{i:Nat}{x:V},Vals xs us->xs[i]? = some x->∃u,us[i]? = some u/\RelV x u
 |_,_,_,_,.nil,e=>by simp at e
 |_,_,0,_,.cons r _,e=>by simp at e;subst e;exact⟨_,rfl,r⟩
 |_,_,i+1,x,.cons _ t,e=>by
  obtain⟨u,h1,h2⟩:=Vals.get (i:=i) (x:=x) t (by simpa using e)
  exact⟨u,by simpa using h1,h2⟩
theorem Vals.set(r:RelV x u):∀{xs:List V}{us:List Value}(i:Nat),Vals xs us->Vals (xs.set i x) (us.set i u)
 |_,_,_,.nil=>.nil
 |_,_,0,.cons _ t=>.cons r t
 |_,_,i+1,.cons q t=>.cons q (Vals.set r i t)
theorem Vals.append:∀{xs ys:List V}{us ws:List Value},Vals xs us->Vals ys ws->Vals (xs++ys) (us++ws)
 |_,_,_,_,.nil,s=>s
 |_,_,_,_,.cons r t,s=>.cons r (Vals.append t s)
theorem Vals.take:∀{xs:List V}{us:List Value}(n:Nat),Vals xs us->Vals (xs.take n) (us.take n)
 |_,_,0,_=>.nil
 |_,_,_+1,.nil=>.nil
 |_,_,n+1,.cons r t=>.cons r (Vals.take n t)
theorem Vals.drop:∀{xs:List V}{us:List Value}(n:Nat),Vals xs us->Vals (xs.drop n) (us.drop n)
 |_,_,0,r=>r
 |_,_,_+1,.nil=>.nil
 |_,_,n+1,.cons _ t=>Vals.drop n t
def zab:Option V->Option Value->Prop
 |some v,some u=>RelV v u
 |none,none=>True
 |_,_=>False
def KV{κ:Type}:List (κ×V)->List (κ×Value)->Prop:=Paired λ(p:κ×V) (q:κ×Value)=>p.1=q.1/\RelV p.2 q.2
def kV:Key->V
 | .inl i=>.int i
 | .inr x=>.str x
inductive HO where
 |lst (xs:List V)
 |tup (xs:List V)
 |dK (kvs:List (Key×V))|dT (kvs:List (List Key×V))
 |set (S:Int->Bool) (n:Nat)
 |ins (C dx:Addr) (fs:List (Str×V))
 |own (x:Addr)
 |xd (fs:List (Str×V))
 |met (f x:Addr)
 |rng (lo hi:Int)
 |frz (o:Obj) (u:HO)
 |tbl (ps:Array Value)
 |ext (φ:Heap->Prop)
abbrev Hp:=Addr->Option HO
def upd(H:Hp)(a:Addr)(o:HO):Hp:=λb=>if b=a then some o else H b
theorem zZ:upd H a o a=some o:=by unfold upd;rw[if_pos rfl]
theorem zK(h:b≠a):upd H a o b=H b:=by unfold upd;rw[if_neg h]
theorem yu{H:Hp}{a b:Addr}{o:HO}(h:H a=some o)(h':H b=none):a≠b:=by
 intro e;subst e;rw[h]at h';cases h'
section
variable(P:Program)(w:World)
def wI(H:Hp)(h:Heap)(a:Addr):HO->Prop
 | .lst xs=>xs.length<=sizeLine/\∃(its:List Value) (n:Nat),Vals xs its/\h.get? a=some {cls:=.type "list",data:=.seq its.toArray n}
 | .tup xs=>xs.length<=sizeLine/\∃its:List Value,Vals xs its/\IsTup h a its.toArray
 | .dK kvs=>kvs.length<=sizeLine/\(a==sysModules)=false/\∃vs,KV kvs vs/\h.DictOf (xr P w) a vs
 | .dT kvs=>kvs.length<=sizeLine/\(a==sysModules)=false/\∃xs:List (List Key×Addr×Value),
  Paired (λ(p:List Key×V) (q:List Key×Addr×Value)=>p.1=q.1/\H q.2.1=some (.tup (p.1.map kV))/\RelV p.2 q.2.2) kvs xs/\
  ∃o es ep,h.get? a=some o/\o.ExactDict/\o.data = .dict es ep/\es.toList=xs.map (entryOfKey (tupleKind (xr P w)))/\(xs.map (·.1)).Nodup
 | .set S n=>h.SetOf (intKind P w) a S n
 | .ins C dx fs=>H dx=some (.own a)/\fs.length<=1000/\dx≠a/\h.get? a=some (PySem.W.instObj C dx)/\
  ∃mA,h.Ns1 dx mA/\(∀f,zab (fs.lookup f) (mA f))/\PySem.Within mA (fs.map (·.1))
 | .own _=>∃o,h.get? a=some o
 | .xd fs=>∃mA,h.Ns1 a mA/\∀f,zab (fs.lookup f) (mA f)
 | .rng lo hi=>∃t u v,h.get? a=some {cls:=.type "range",data:=.fields #[.int lo t,.int hi u,.int 1 v]}
 | .frz o u=>h.get? a=some o/\wI H h a u
 | .tbl ps=>h.get? a=some {cls:=.none,data:=.fields ps}
 | .met f x=>h.get? a=some (PySem.W.methodObj (.ref f) (.ref x))
 | .ext φ=>φ h/\(∃o,h.get? a=some o)/\∀h1 h2:Heap,φ h1->(∀o,h1.get? a=some o->h2.get? a=some o)->φ h2
def HOk(H:Hp)(h:Heap):Prop:=∀a o,H a=some o->wI P w H h a o
end
section
variable{P:Program}{w:World}{H H':Hp}{h h':Heap}{a:Addr}{o:HO}
theorem wI.lt(x:wI P w H h a o):a<h.objs.size:=by
 cases o with
 |lst xs=>obtain⟨_,_,_,_,e⟩:=x;exact zxF e
 |tup xs=>obtain⟨_,_,_,p⟩:=x;exact p.lt
 |dK kvs=>obtain⟨_,_,_,_,o,_,_,e,_⟩:=x;exact zxF e
 |dT kvs=>obtain⟨_,_,_,_,o,_,_,e,_⟩:=x;exact zxF e
 |set S n=>obtain⟨o,_,_,_,e,_⟩:=x;exact zxF e
 |ins C dx fs=>obtain⟨_,_,_,e,_⟩:=x;exact zxF e
 |own y=>obtain⟨_,e⟩:=x;exact zxF e
 |xd fs=>obtain⟨_,⟨_,_,_,e,_⟩,_⟩:=x;exact zxF e
 |rng lo hi=>obtain⟨_,_,_,e⟩:=x;exact zxF e
 |frz ob u=>obtain⟨e,_⟩:=x;exact zxF e
 |tbl ps=>exact zxF (show h.get? a=some _ from x)
 |met f y=>exact zxF (show h.get? a=some _ from x)
 |ext φ=>obtain⟨_,⟨_,e⟩,_⟩:=x;exact zxF e
theorem Paired.mapP:∀{l₁:List α}{l₂:List β},Paired F l₁ l₂->(∀a b,F a b->G a b)->Paired G l₁ l₂
 |_,_,.nil,_=>.nil
 |_,_,.cons r t,f=>.cons (f _ _ r) (Paired.mapP t f)
theorem wI.stay(x:wI P w H h a o)(k:∀b u,(b=a\/H b=some (.own a))->h.get? b=some u->h'.get? b=some u)
 (ho:∀b,H b=some (.own a)->H' b=some (.own a)) (ht:∀b xs,H b=some (.tup xs)->H' b=some (.tup xs)):wI P w H' h' a o:=by
 induction o with
 |lst xs=>obtain⟨z,its,n,r,e⟩:=x;exact⟨z,its,n,r,k _ _ (.inl rfl) e⟩
 |tup xs=>obtain⟨z,its,r,ob,e,c⟩:=x;exact⟨z,its,r,ob,k _ _ (.inl rfl) e,c⟩
 |dK kvs=>obtain⟨z,y,vs,r,ob,es,ep,e,c⟩:=x;exact⟨z,y,vs,r,ob,es,ep,k _ _ (.inl rfl) e,c⟩
 |dT kvs=>
  obtain⟨z,y,xs,r,ob,es,ep,e,c⟩:=x
  exact⟨z,y,xs,Paired.mapP r λp q z=>⟨z.1,ht _ _ z.2.1,z.2.2⟩,ob,es,ep,k _ _ (.inl rfl) e,c⟩
 |set S n=>obtain⟨ob,es,ep,t,e,c⟩:=x;exact⟨ob,es,ep,t,k _ _ (.inl rfl) e,c⟩
 |ins C dx fs=>
  obtain⟨d,z,ne,e,mA,⟨od,es,ep,e2,c⟩,r⟩:=x
  exact⟨ho _ d,z,ne,k _ _ (.inl rfl) e,mA,⟨od,es,ep,k _ _ (.inr d) e2,c⟩,r⟩
 |own y=>obtain⟨ob,e⟩:=x;exact⟨ob,k _ _ (.inl rfl) e⟩
 |xd fs=>obtain⟨mA,⟨od,es,ep,e,c⟩,r⟩:=x;exact⟨mA,⟨od,es,ep,k _ _ (.inl rfl) e,c⟩,r⟩
 |rng lo hi=>obtain⟨t,u,v,e⟩:=x;exact⟨t,u,v,k _ _ (.inl rfl) e⟩
 |frz ob u ih=>obtain⟨e,q⟩:=x;exact⟨k _ _ (.inl rfl) e,ih q⟩
 |tbl ps=>
  have e:h.get? a=some {cls:=.none,data:=.fields ps}:=x
  show h'.get? a=some {cls:=.none,data:=.fields ps}
  exact k a _ (.inl rfl) e
 |met f y=>
  have e:h.get? a=some (PySem.W.methodObj (.ref f) (.ref y)):=x
  show h'.get? a=some (PySem.W.methodObj (.ref f) (.ref y))
  exact k a _ (.inl rfl) e
 |ext φ=>obtain⟨p,⟨o,e⟩,st⟩:=x;exact⟨st _ _ p λo q=>k _ _ (.inl rfl) q,⟨o,k _ _ (.inl rfl) e⟩,st⟩
theorem HOk.lt(x:HOk P w H h)(e:H a=some o):a<h.objs.size:=(x a o e).lt
theorem HOk.fresh(x:HOk P w H h)(e:h.objs.size<=a):H a=none:=by
 cases q:H a with
 |none=>rfl
 |some u=>exact absurd (zzG (x.lt q) e) (Nat.lt_irrefl _)
theorem HOk.kept(x:HOk P w H h)(k:∀b u,h.get? b=some u->h'.get? b=some u):HOk P w H h':=λa o e=>
 (x a o e).stay (λb u _ q=>k b u q) (λ_ q=>q) λ_ _ q=>q
theorem HOk.laid(x:HOk P w H h)(k:∀b u,h.get? b=some u->h'.get? b=some u)(hp:h.objs.size<=a)(new:wI P w (upd H a o) h' a o):HOk P w (upd H a o) h':=λb u e=>by
 have hn:=x.fresh hp
 by_cases hb:b=a
 · subst hb;rw[zZ]at e;cases e;exact new
 · rw[zK hb]at e
   exact(x b u e).stay (λc v _ q=>k c v q) (λc q=>by rw[zK (yu q hn)];exact q) λc xs q=>by rw[zK (yu q hn)];exact q
end
def Rd(H:Hp)(a:Addr)(u:HO):Prop:=H a=some u\/∃o,H a=some (.frz o u)
theorem Rd.ok(r:Rd H a u)(x:HOk P w H h):wI P w H h a u:=by
 rcases r with r|⟨o,r⟩
 · exact x a u r
 · obtain⟨_,q⟩:=x a _ r
   exact q
def Mut:Option HO->Prop
 |some (.lst _)=>True
 |some (.dK _)=>True
 |some (.dT _)=>True
 |some (.set _ _)=>True
 |some (.ins _ _ _)=>True
 |some (.ext _)=>True
 |_=>False
section
variable{P:Program}{w:World}{H:Hp}{h h':Heap}{x e:Addr}{o':HO}
theorem HOk.write(ok:HOk P w H h)(mu:Mut (H x))(he:e=x\/H e=some (.own x))(k:∀b u,b≠e->h.get? b=some u->h'.get? b=some u)(heo:∃u,h'.get? e=some u)
 (new:wI P w (upd H x o') h' x o'):HOk P w (upd H x o') h':=λb u q=>by
 have nown:∀c y,H c=some (.own y)->c≠x:=λc y r z=>by subst z;rw[r]at mu;exact mu
 have ntup:∀c xs,H c=some (.tup xs)->c≠x:=λc xs r z=>by subst z;rw[r]at mu;exact mu
 by_cases hb:b=x
 · subst hb;rw[zZ]at q;cases q;exact new
 · rw[zK hb]at q
   by_cases hbe:b=e
   · have q':H b=some (.own x):=by
      rcases he with z|z
      · exact absurd (hbe.trans z) hb
      · rw[hbe];exact z
     rw[q]at q';cases q'
     obtain⟨v,hv⟩:=heo
     exact⟨v,by rw[hbe];exact hv⟩
   · refine(ok b u q).stay (λc v hc r=>k c v ?_ r) (λc r=>by rw[zK (nown c b r)];exact r) λc xs r=>by rw[zK (ntup c xs r)];exact r
     rcases hc with rfl|hc
     · exact hbe
     · rintro rfl
       rcases he with z|z
       · exact nown c b hc z
       · rw[hc]at z;cases z;exact hb rfl
end
structure Un(fs ex:List Addr)(H H':Hp)(h h':Heap):Prop where
 keep:∀b o,h.get? b=some o->H b=none->b ∉ fs->b ∉ ex->h'.get? b=some o
 slot:∀b o,h.get? b=some o->H b=none->b ∈ fs->b ∉ ex->∃sl,h'.get? b=some {o with slots:=sl}
 free:∀b o,h.get? b=some o->H b=none->b ∉ ex->H' b=none
 there:∀b o,h.get? b=some o->b ∉ ex->∃o',h'.get? b=some o'
 tups:∀b xs,H b=some (.tup xs)->H' b=some (.tup xs)
 frzs:∀b o u,H b=some (.frz o u)->H' b=some (.frz o u)
 tbls:∀b ps,H b=some (.tbl ps)->∃more,H' b=some (.tbl (ps++more))
section
variable{fs fs' ex ex':List Addr}{H H1 H2:Hp}{h h1 h2 h':Heap}{a x e:Addr}{o:HO}
theorem Un.any(u:Un fs ex H H1 h h1)(q:h.get? b=some ob)(n:H b=none)(hx:b ∉ ex):∃sl,h1.get? b=some {ob with slots:=sl}:=by
 by_cases hb:b ∈ fs
 · exact u.slot b ob q n hb hx
 · exact⟨ob.slots,u.keep b ob q n hb hx⟩
theorem Un.kept(k:∀b u,h.get? b=some u->h'.get? b=some u):Un fs ex H H h h':=
 ⟨λb ob q _ _ _=>k b ob q,λb ob q _ _ _=>⟨ob.slots,k b ob q⟩,λ_ _ _ n _=>n,λb ob q _=>⟨ob,k b ob q⟩,λ_ _ q=>q,λ_ _ _ q=>q,λ_ ps q=>⟨#[],by rw[q];simp⟩⟩
theorem Un.refl:Un fs ex H H h h:=Un.kept λ_ _ q=>q
theorem Un.laid(k:∀b u,h.get? b=some u->h'.get? b=some u)(hp:h.objs.size<=a)(hn:H a=none):Un fs ex H (upd H a o) h h' where
 keep:=λb u q _ _ _=>k b u q
 slot:=λb u q _ _ _=>⟨u.slots,k b u q⟩
 free:=λb u q n _=>by rw[zK (zzM (zzG (zxF q) hp))];exact n
 there:=λb u q _=>⟨u,k b u q⟩
 tups:=λb xs q=>by rw[zK (yu q hn)];exact q
 frzs:=λb u xs q=>by rw[zK (yu q hn)];exact q
 tbls:=λb ps q=>⟨#[],by rw[zK (yu q hn),q];simp⟩
theorem Un.write(mu:Mut (H x))(he:e=x\/H e=some (.own x))(k:∀b u,b≠e->h.get? b=some u->h'.get? b=some u)(heo:∃u,h'.get? e=some u):Un fs ex H (upd H x o) h h':=by
 have hx:∀b,H b=none->b≠x:=λb n z=>by subst z;rw[n]at mu;exact mu
 have hb:∀b,H b=none->b≠e:=λb n z=>by
  subst z
  rcases he with r|r
  · exact hx b n r
  · rw[n]at r;cases r
 have hm:∀b u,H b=some u->¬Mut (some u)->b≠x:=λb u q nm z=>by subst z;rw[q]at mu;exact nm mu
 refine⟨λb u q n _ _=>k b u (hb b n) q,λb u q n _ _=>⟨u.slots,k b u (hb b n) q⟩,λb u q n _=>by rw[zK (hx b n)];exact n,λb u q _=>?_,
  λb xs q=>by rw[zK (hm b _ q λz=>z)];exact q,λb u xs q=>by rw[zK (hm b _ q λz=>z)];exact q,λb ps q=>⟨#[],by rw[zK (hm b _ q λz=>z),q];simp⟩⟩
 by_cases hbe:b=e
 · subst hbe;exact heo
 · exact⟨u,k b u hbe q⟩
theorem Un.mono(u:Un fs ex H H1 h h1)(hs:∀b ∈ fs,b ∈ fs')(hx:∀b ∈ ex,b ∈ ex'):Un fs' ex' H H1 h h1:=
 ⟨λb ob q n hb he=>u.keep b ob q n (λz=>hb (hs b z)) λz=>he (hx b z),λ_ _ q n _ he=>u.any q n λz=>he (hx _ z),λb ob q n he=>u.free b ob q n λz=>he (hx b z),λb ob q he=>u.there b ob q λz=>he (hx b z),u.tups,u.frzs,u.tbls⟩
end
def trk(h:Heap)(H:Hp):List Addr:=(List.range h.objs.size).filter λa=>(H a).isSome
def zdu(h:Heap)(H:Hp):Heap:=PySem.W.hideAll h (trk h H)
theorem zhd(h:Heap)(H:Hp):(zdu h H).objs.size=h.objs.size:=PySem.W.hideAll_size _ _
theorem ziJ(e:h.get? b=some o)(n:H b=none):(zdu h H).get? b=some o:=
 PySem.W.hideAll_get _ e λhm=>by
  have q:(H b).isSome=true:=(List.mem_filter.mp hm).2
  rw[n]at q;simp at q
theorem zlh(e:(zdu h H).get? b=some o):h.get? b=some o/\H b=none:=by
 have e':h.get? b=some o:=PySem.W.of_hideAll (trk h H) e
 refine⟨e', ?_⟩
 cases q:H b with
 |none=>rfl
 |some x=>
  have hm:b ∈ trk h H:=List.mem_filter.mpr ⟨List.mem_range.mpr (zxF e'),by simp[q]⟩
  have z:(zdu h H).get? b=none:=PySem.W.hideAll_none (trk h H) hm
  rw[z]at e;cases e
end L2
namespace L2
open PySem PySem.Spec PyProof.Rows
structure Mod(K:zC)(mg:Str->Option Value)(base:Heap):Prop where
 kin:K.In base
 glob:base.Ns mainGlobals mg
 blt:∃mb,base.Ns builtinsNs mb/\∀x:Str,x≠"__name__"->mb x=bootBuiltins x
 nolimit:base.NoLimit
structure Cx where
 prog:Program
 w:World
 K:zC
 mg:Str->Option Value
 base:Heap
 A:Around
 N:List Str
 s₀:Shared
 H₀:Hp
 env:Env
 outer:List Env
 stack:List Env
 ex:List Addr
 fn:Str->Bool
 calm:Bool
 pn:List (Addr×Obj)
 xe:Value->Shared->Prop
def frs(l:List Env):List Addr:=l.filterMap (·.frame)
abbrev Cx.fs(X:Cx):List Addr:=frs X.outer
def Vis(sc:Scope)(x:Str):Prop:=sc.names.lookup x=some .local\/sc.names.lookup x=some .cell\/sc.names.lookup x=some .free
def Loc(sc:Scope)(x:Str):Prop:=sc.names.lookup x=some .local\/sc.names.lookup x=some .cell
def Look(env:Env)(h:Heap)(m:Str->Option Value)(x:Str)(u:Value):Prop:=
 (env.kindOf x=some .local/\m x=some u)\/((env.kindOf x=some .cell\/env.kindOf x=some .free)/\∃c,env.cells.lookup x=some c/\h.IsCell c (some u))
structure Cx.Ok(X:Cx):Prop where
 mod:Mod X.K X.mg X.base
 kind:X.env.scope.kind = .function
 glob:X.env.globals=mainGlobals
 blt:X.env.builtins=builtinsNs
 above:X.s₀.heap.objs.size<=X.env.locals
 inj:∀x y c,X.env.cells.lookup x=some c->X.env.cells.lookup y=some c->x=y
 has:∀x,(X.env.kindOf x=some .cell\/X.env.kindOf x=some .free)->∃c,X.env.cells.lookup x=some c
 cab:∀x c,X.fn x=true->X.env.cells.lookup x=some c->X.s₀.heap.objs.size<=c
 hd:X.calm=true->X.A.handled=none
 frames:X.A.frames=some X.stack
 stk:X.stack=X.outer\/(X.stack=X.env::X.outer/\X.env.frame=some X.env.locals)
 exf:∀b ∈ X.ex,b≠X.env.locals/\∀x c,X.env.cells.lookup x=some c->c≠b
 bs:∀b o,X.base.get? b=some o->X.s₀.heap.get? b=some o/\X.H₀ b=none
 bsz:X.base.objs.size<=X.s₀.heap.objs.size
 noex:∀b o,X.base.get? b=some o->b ∉ X.ex
 exfs:∀b ∈ X.ex,b ∉ X.fs
 funs:X.s₀.heap.FunFrames X.base X.outer
 frf:∀b ∈ X.fs,X.H₀ b=none
structure Inv(X:Cx)(pins:List (Addr×Obj))(σ:List (Option V))(H:Hp)(s:Shared):Prop where
 ok:X.Ok
 os:s.os=X.s₀.os
 bare:AllBare s.gens
 base:Un X.fs X.ex X.H₀ H X.s₀.heap s.heap
 loc:∃m,s.heap.Ns X.env.locals m/\∀(i:Nat) (x:Str) (v:V),X.N[i]? = some x->σ[i]? = some (some v)->Vis X.env.scope x->∃u,RelV v u/\Look X.env s.heap m x u
 cell:∀x c,X.env.cells.lookup x=some c->∃v,s.heap.IsCell c v
 free:H X.env.locals=none
 freeC:∀x c,X.env.cells.lookup x=some c->H c=none
 pin:∀p ∈ X.pn++pins,s.heap.get? p.1=some p.2/\H p.1=none/\p.1≠X.env.locals/\p.1 ∉ X.fs/\∀v,p.2.data ≠ .cell v
 hok:HOk X.prog X.w H s.heap
 len:σ.length=X.N.length
section
variable{X:Cx}{pins:List (Addr×Obj)}{σ:List (Option V)}{H H':Hp}{s:Shared}{h':Heap}
theorem Cx.Ok.nofr(ok:X.Ok)(e:X.base.get? b=some o):b ∉ X.fs:=λhb=>by
 have:=(ok.funs.mem hb).1
 rw[e]at this;cases this
theorem Inv.bs(I:Inv X pins σ H s):∀b o,X.base.get? b=some o->s.heap.get? b=some o/\H b=none:=λb o e=>
 ⟨I.base.keep b o (I.ok.bs b o e).1 (I.ok.bs b o e).2 (I.ok.nofr e) (I.ok.noex b o e),I.base.free b o (I.ok.bs b o e).1 (I.ok.bs b o e).2 (I.ok.noex b o e)⟩
theorem Inv.bk(I:Inv X pins σ H s):∀b o,X.base.get? b=some o->s.heap.get? b=some o:=λb o e=>(I.bs b o e).1
theorem Inv.mod(I:Inv X pins σ H s):Mod X.K X.mg X.base:=I.ok.mod
theorem Inv.kIn(I:Inv X pins σ H s):X.K.In s.heap:=I.ok.mod.kin.keeps I.bk
theorem Inv.lt(I:Inv X pins σ H s):X.env.locals<s.heap.objs.size:=let⟨_,hn,_⟩:=I.loc;hn.lt
theorem Inv.sz(I:Inv X pins σ H s):X.s₀.heap.objs.size<=s.heap.objs.size:=zzK I.ok.above (Nat.le_of_lt I.lt)
theorem Inv.nofs(I:Inv X pins σ H s)(h:s.heap.objs.size<=a):a ∉ X.fs:=λhb=>by
 obtain⟨_,o,ho,_⟩:=I.ok.funs.mem hb
 exact absurd (zzG (zxF ho) (zzK I.sz h)) (Nat.lt_irrefl _)
theorem Inv.cne(I:Inv X pins σ H s):∀x c,X.env.cells.lookup x=some c->c≠X.env.locals:=λx c e z=>by
 obtain⟨v,o,ho,hd⟩:=I.cell x c e
 obtain⟨m,⟨o',es,ep,ho',hd',_⟩,_⟩:=I.loc
 rw[z,ho']at ho;cases ho;rw[hd']at hd;cases hd
theorem Inv.funs(I:Inv X pins σ H s):s.heap.FunFrames X.base X.outer:=by
 have all:∀(l:List Env),(∀b ∈ frs l,b ∈ X.fs)->X.s₀.heap.FunFrames X.base l->s.heap.FunFrames X.base l:=by
  intro l
  induction l with
  |nil=>intro _ _;trivial
  |cons env r ih=>
   intro hs hl
   obtain⟨hk,⟨L,o,hf,hn,ho,hd⟩,hr⟩:=hl
   have hL:L ∈ X.fs:=hs L (by unfold frs;rw[List.filterMap_cons,hf];exact zzB)
   obtain⟨sl,e⟩:=I.base.slot L o ho (I.ok.frf L hL) hL λz=>I.ok.exfs L z hL
   exact⟨hk,⟨L,_,hf,hn,e,hd⟩,ih (λb hb=>hs b (by unfold frs;rw[List.filterMap_cons,hf];exact zS _ hb)) hr⟩
 exact all X.outer (λ_ hb=>hb) I.ok.funs
theorem Inv.stack(I:Inv X pins σ H s):s.heap.FunFrames X.base X.stack:=by
 rcases I.ok.stk with e|⟨e,hf⟩
 · rw[e];exact I.funs
 · rw[e]
   obtain⟨m,hn,_⟩:=I.loc
   refine .cons (by rw[I.ok.kind];decide) hf hn ?_ I.funs
   exact Heap.get?_none_of_le (zzK I.ok.bsz I.ok.above)
theorem Inv.stkSub(I:Inv X pins σ H s):∀b ∈ frs X.stack,b ∈ X.env.locals::X.fs:=λb hb=>by
 rcases I.ok.stk with e|⟨e,hf⟩
 · rw[e]at hb;exact zS _ hb
 · rw[e]at hb
   unfold frs at hb
   rw[List.filterMap_cons,hf]at hb
   exact hb
theorem Inv.stkFree(I:Inv X pins σ H s):∀b ∈ frs X.stack,H b=none:=λb hb=>by
 rcases zI.mp (I.stkSub b hb)with e|hb
 · rw[e];exact I.free
 · obtain⟨_,o,ho,_⟩:=I.ok.funs.mem hb
   exact I.base.free b o ho (I.ok.frf b hb) λz=>I.ok.exfs b z hb
theorem Inv.step{g':Array GenState}{t':Nat}{d':Drawn}{ch:List Addr}(I:Inv X pins σ H s)
 (hch:∀b ∈ ch,(b ∈ X.ex\/X.s₀.heap.objs.size<=b)/\b≠X.env.locals/\(∀x c,X.env.cells.lookup x=some c->c≠b)/\∀p ∈ X.pn++pins,p.1≠b)
 (keep:∀b o,b≠X.env.locals->b ∉ X.fs->b ∉ ch->s.heap.get? b=some o->H b=none->h'.get? b=some o)
 (slot:∀b o,b≠X.env.locals->b ∈ X.fs->b ∉ ch->s.heap.get? b=some o->H b=none->∃sl,h'.get? b=some {o with slots:=sl}) (free:∀b o,b ∉ ch->s.heap.get? b=some o->H b=none->H' b=none)
 (there:∀b o,b ∉ ch->s.heap.get? b=some o->∃o',h'.get? b=some o')
 (tups:∀b xs,H b=some (.tup xs)->H' b=some (.tup xs)) (frzs:∀b o u,H b=some (.frz o u)->H' b=some (.frz o u)) (tbls:∀b ps,H b=some (.tbl ps)->∃more,H' b=some (.tbl (ps++more)))
 (ns:∀m,s.heap.Ns X.env.locals m->h'.Ns X.env.locals m) (hok:HOk X.prog X.w H' h') (hg:AllBare g'):
 Inv X pins σ H' {s with heap:=h',gens:=g',drawn:=d',toks:=t'}:=by
 have neL:∀b o,X.s₀.heap.get? b=some o->b≠X.env.locals:=λb o e=>zzM (zzG (zxF e) I.ok.above)
 have neC:∀b o,X.s₀.heap.get? b=some o->b ∉ X.ex->b ∉ ch:=λb o e hx hb=>by
  rcases(hch b hb).1 with z|z
  · exact hx z
  · exact absurd (zzG (zxF e) z) (Nat.lt_irrefl _)
 have cellK:∀x c,X.env.cells.lookup x=some c->∀v,s.heap.IsCell c v->h'.IsCell c v:=λx c e v ⟨o,ho,hd⟩=>by
  have nch:c ∉ ch:=λz=>(hch c z).2.2.1 x c e rfl
  by_cases hc:c ∈ X.fs
  · obtain⟨sl,q⟩:=slot c o (I.cne x c e) hc nch ho (I.freeC x c e)
    exact⟨_,q,hd⟩
  · exact⟨o,keep c o (I.cne x c e) hc nch ho (I.freeC x c e),hd⟩
 refine⟨I.ok,I.os,hg,⟨λb o e n hb hx=>?_,λb o e n hb hx=>?_,λb o e n hx=>?_,λb o e hx=>?_,λb xs e=>tups b xs (I.base.tups b xs e),λb o xs e=>frzs b o xs (I.base.frzs b o xs e),λb ps e=>?_⟩, ?_,λx c e=>?_, ?_,λx c e=>?_,λp hp=>?_,hok,I.len⟩
 · exact keep b o (neL b o e) hb (neC b o e hx) (I.base.keep b o e n hb hx) (I.base.free b o e n hx)
 · obtain⟨sl,e1⟩:=I.base.slot b o e n hb hx
   obtain⟨sl',e2⟩:=slot b _ (neL b o e) hb (neC b o e hx) e1 (I.base.free b o e n hx)
   exact⟨sl',e2⟩
 · obtain⟨o',e1⟩:=I.base.there b o e hx
   exact free b o' (neC b o e hx) e1 (I.base.free b o e n hx)
 · obtain⟨o',e1⟩:=I.base.there b o e hx
   exact there b o' (neC b o e hx) e1
 · obtain⟨m1,e1⟩:=I.base.tbls b ps e
   obtain⟨m2,e2⟩:=tbls b _ e1
   exact⟨m1++m2,by rw[e2,Array.append_assoc]⟩
 · obtain⟨m,hn,hl⟩:=I.loc
   refine⟨m,ns m hn,λi x v e1 e2 e3=>?_⟩
   obtain⟨u,r,l⟩:=hl i x v e1 e2 e3
   refine⟨u,r, ?_⟩
   rcases l with l|⟨k,c,e,z⟩
   · exact .inl l
   · exact .inr ⟨k,c,e,cellK x c e _ z⟩
 · obtain⟨v,z⟩:=I.cell x c e
   exact⟨v,cellK x c e v z⟩
 · obtain⟨m,⟨o,_,_,ho,_⟩,_⟩:=I.loc
   exact free _ o (λz=>(hch _ z).2.1 rfl) ho I.free
 · obtain⟨v,o,ho,hd⟩:=I.cell x c e
   exact free c o (λz=>(hch c z).2.2.1 x c e rfl) ho (I.freeC x c e)
 · obtain⟨e,n,ne,nf,d⟩:=I.pin p hp
   have nch:p.1 ∉ ch:=λz=>(hch p.1 z).2.2.2 p hp rfl
   exact⟨keep p.1 p.2 ne nf nch e n,free p.1 p.2 nch e n,ne,nf,d⟩
theorem Inv.un{t':Nat}(I:Inv X pins σ H s)(u:Un X.fs [] H H' s.heap h')(hok:HOk X.prog X.w H' h'):Inv X pins σ H' {s with heap:=h',toks:=t'}:=by
 obtain⟨m,⟨o,es,ep,ho,r⟩,_⟩:=id I.loc
 obtain⟨sl,hL⟩:=u.any ho I.free (by simp)
 exact I.step (g':=s.gens) (d':=s.drawn) (ch:=[]) (λ_ z=>nomatch z) (λb o _ hb _ e n=>u.keep b o e n hb (by simp)) (λb o _ hb _ e n=>u.slot b o e n hb (by simp)) (λb o _ e n=>u.free b o e n (by simp)) (λb o _ e=>u.there b o e (by simp)) u.tups u.frzs u.tbls (λm' hm=>by
  obtain⟨o',es',ep',ho',r'⟩:=hm
  rw[ho]at ho';cases ho'
  exact⟨_,es',ep',hL,r'⟩) hok I.bare
theorem Inv.call{g':Array GenState}{t':Nat}{d':Drawn}{ch:List Addr}(I:Inv X pins σ H s)(u:Un (frs X.stack) ch H H' s.heap h')(hok:HOk X.prog X.w H' h')(hg:AllBare g')
 (hch:∀b ∈ ch,(b ∈ X.ex\/X.s₀.heap.objs.size<=b)/\b≠X.env.locals/\(∀x c,X.env.cells.lookup x=some c->c≠b)/\∀p ∈ X.pn++pins,p.1≠b):
 Inv X pins σ H' {s with heap:=h',gens:=g',drawn:=d',toks:=t'}:=by
 obtain⟨m,⟨o,es,ep,ho,r⟩,_⟩:=id I.loc
 obtain⟨sl,hL⟩:=u.any ho I.free λz=>(hch _ z).2.1 rfl
 exact I.step (ch:=ch) hch (λb o hL hb hc e n=>u.keep b o e n (λz=>(zI.mp (I.stkSub b z)).elim hL hb) hc) (λb o _ _ hc e n=>u.any e n hc) (λb o hc e n=>u.free b o e n hc) (λb o hc e=>u.there b o e hc) u.tups u.frzs u.tbls (λm' hm=>by
  obtain⟨o',es',ep',ho',r'⟩:=hm
  rw[ho]at ho';cases ho'
  exact⟨_,es',ep',hL,r'⟩) hok hg
theorem Inv.turned{t':Nat}{it:Addr}(I:Inv X pins σ H s)(k:∀b o,b≠it->s.heap.get? b=some o->h'.get? b=some o)(hn:H it=none)(hL:it≠X.env.locals)
 (h1:it ∈ X.ex\/X.s₀.heap.objs.size<=it) (h2:∀x c,X.env.cells.lookup x=some c->c≠it) (h3:∀p ∈ X.pn++pins,p.1≠it):Inv X pins σ H {s with heap:=h',toks:=t'}:=by
 have nit:∀b u,H b=some u->b≠it:=λb u e z=>by rw[z,hn]at e;cases e
 refine I.step (g':=s.gens) (d':=s.drawn) (ch:=[it]) (λb hb=>?_) (λb o _ _ hc e _=>k b o (λz=>hc (by simp[z])) e) (λb o _ _ hc e _=>⟨o.slots,k b o (λz=>hc (by simp[z])) e⟩) (λ_ _ _ _ n=>n)
  (λb o hc e=>⟨o,k b o (λz=>hc (by simp[z])) e⟩) (λ_ _ e=>e) (λ_ _ _ e=>e) (λb ps e=>⟨#[],by rw[e];simp⟩) (λm hm=>?_) (λb u e=>?_) I.bare
 · have e:b=it:=by simpa using hb
   subst e
   exact⟨h1,hL,h2,h3⟩
 · obtain⟨o,es,ep,ho,r⟩:=hm
   exact⟨o,es,ep,k _ o (Ne.symm hL) ho,r⟩
 · refine(I.hok b u e).stay (λc v hc q=>k c v ?_ q) (λ_ q=>q) λ_ _ q=>q
   rcases hc with z|z
   · rw[z];exact nit b u e
   · exact nit c _ z
theorem Inv.tok(I:Inv X pins σ H s)(t:Nat):Inv X pins σ H {s with toks:=t}:=I.un (h':=s.heap) (t':=t) Un.refl I.hok
theorem Inv.kept(I:Inv X pins σ H s)(k:∀b u,s.heap.get? b=some u->h'.get? b=some u):Inv X pins σ H {s with heap:=h',toks:=t'}:=I.un (Un.kept k) (I.hok.kept k)
theorem Inv.laid(I:Inv X pins σ H s)(k:∀b u,s.heap.get? b=some u->h'.get? b=some u)(hp:s.heap.objs.size<=a)(new:wI X.prog X.w (upd H a o) h' a o):
 Inv X pins σ (upd H a o) {s with heap:=h',toks:=t'}:=I.un (Un.laid k hp (I.hok.fresh hp)) (I.hok.laid k hp new)
theorem Inv.write(I:Inv X pins σ H s)(mu:Mut (H x))(he:e=x\/H e=some (.own x))(k:∀b u,b≠e->s.heap.get? b=some u->h'.get? b=some u)(heo:∃u,h'.get? e=some u)
 (new:wI X.prog X.w (upd H x o) h' x o):Inv X pins σ (upd H x o) {s with heap:=h',toks:=t'}:=I.un (Un.write mu he k heo) (I.hok.write mu he k heo new)
theorem Inv.weak(I:Inv X pins σ H s)(hl:σ'.length=σ.length)(w:∀(i:Nat) v,σ'[i]? = some (some v)->σ[i]? = some (some v)):Inv X pins σ' H s:=
 ⟨I.ok,I.os,I.bare,I.base,let⟨m,hn,hl'⟩:=I.loc;⟨m,hn,λi x v e1 e2 e3=>hl' i x v e1 (w i v e2) e3⟩,I.cell,I.free,I.freeC,I.pin,I.hok,hl.trans I.len⟩
theorem Inv.pins_of(I:Inv X pins σ H s)(h:∀p ∈ pins',s.heap.get? p.1=some p.2/\H p.1=none/\p.1≠X.env.locals/\p.1 ∉ X.fs/\∀v,p.2.data ≠ .cell v):Inv X pins' σ H s:=
 ⟨I.ok,I.os,I.bare,I.base,I.loc,I.cell,I.free,I.freeC,λp hp=>(zzI.mp hp).elim (λz=>I.pin p (zzL _ z)) (h p),I.hok,I.len⟩
theorem zaI{N:List Str}(hN:N.Nodup){i j:Nat}{x:Str}(a:N[i]? = some x)(b:N[j]? = some x):i=j:=by
 obtain⟨h1,e1⟩:=zzC.mp a
 obtain⟨h2,e2⟩:=zzC.mp b
 exact(List.getElem_inj hN).mp (e1.trans e2.symm)
theorem zcl{M:Model}{A:Around}{E:Value->Shared->Prop}{i:Nat}{x:Str}{v:V}{u:Value}{Q:Unit->Shared->Prop}(I:Inv X pins σ H s)(hN:X.N.Nodup)(hi:X.N[i]? = some x)(hx:Loc X.env.scope x)(r:RelV v u)
 (h:∀s',Inv X pins (σ.set i (some v)) H s'->(∃a,Heap.SameBut a s.heap s'.heap/\(a=X.env.locals\/X.env.cells.lookup x=some a))->Q () s') (hf:X.fn x=true\/X.env.scope.names.lookup x=some .local:=by first|exact .inl rfl|exact .inr rfl|assumption):wpAny M A (storeName X.env x u) Q E s:=by
 obtain⟨m,hn,hl⟩:=id I.loc
 have hcls:(X.env.scope.kind == .class||(X.env.scope.kind == .module&&X.env.locals != X.env.globals))=false:=by rw[I.ok.kind];rfl
 have hiσ:i<σ.length:=by rw[I.len];exact(zzC.mp hi).1
 have cne:=I.cne
 have tracked:∀{a:Addr}{h':Heap},(∃o,s.heap.get? a=some o/\H a=none)->Heap.SameBut a s.heap h'->HOk X.prog X.w H h':=λ{a h'} ha hs b ob e=>by
  obtain⟨_,_,hfree⟩:=ha
  refine(I.hok b ob e).stay (λc w' hc q=>(hs.2 c ?_).trans q) (λ_ q=>q) λ_ _ q=>q
  rintro rfl
  rcases hc with rfl|hc
  · rw[hfree]at e;cases e
  · rw[hfree]at hc;cases hc
 rcases hx with hk|hk
 · refine wpAny_storeName_local hk hn (λh' hn' hs=>?_) hcls
   obtain⟨oL,_,_,hoL,_⟩:=id hn
   refine h _ ⟨I.ok,I.os,I.bare,⟨λb o e n hb hx=>?_,λb o e n hb hx=>?_,I.base.free,λb o e hx=>?_,I.base.tups,I.base.frzs,I.base.tbls⟩,⟨_,hn',λj y v' e1 e2 e3=>?_⟩,λy c e=>?_,I.free,I.freeC,λp hp=>?_,tracked ⟨oL,hoL,I.free⟩ hs,by simpa using I.len⟩ ⟨_,hs,.inl rfl⟩
   · exact(hs.2 b (zzM (zzG (zxF e) I.ok.above))).trans (I.base.keep b o e n hb hx)
   · obtain⟨sl,e1⟩:=I.base.slot b o e n hb hx
     exact⟨sl,(hs.2 b (zzM (zzG (zxF e) I.ok.above))).trans e1⟩
   · obtain⟨o',e1⟩:=I.base.there b o e hx
     exact⟨o',(hs.2 b (zzM (zzG (zxF e) I.ok.above))).trans e1⟩
   · by_cases hj:j=i
     · subst hj
       rw[hi]at e1;cases e1
       rw[zyG hiσ]at e2
       cases e2
       exact⟨u,r,.inl ⟨hk,by simp⟩⟩
     · rw[zzU (Ne.symm hj)]at e2
       obtain⟨u',r',q⟩:=hl j y v' e1 e2 e3
       refine⟨u',r', ?_⟩
       rcases q with⟨k,e⟩|⟨k,c,e,z⟩
       · refine .inl ⟨k, ?_⟩
         have:y≠x:=λe=>hj (zaI hN e1 (e ▸ hi))
         simp[this,e]
       · exact .inr ⟨k,c,e,z.sameBut hs (cne y c e)⟩
   · obtain⟨w',z⟩:=I.cell y c e
     exact⟨w',z.sameBut hs (cne y c e)⟩
   · obtain⟨e,n,ne,nf,d⟩:=I.pin p hp
     exact⟨(hs.2 p.1 ne).trans e,n,ne,nf,d⟩
 · have hfn:X.fn x=true:=by
    rcases hf with z|z
    · exact z
    · rw[z]at hk;cases hk
   obtain⟨c,hc⟩:=I.ok.has x (.inl hk)
   obtain⟨w',z⟩:=I.cell x c hc
   refine wpAny_storeName_cell I.ok.kind hk hc z (λh' hc' hs=>?_)
   obtain⟨oc,hoc,hocd⟩:=id z
   refine h {s with heap:=h'} ⟨I.ok,I.os,I.bare,⟨λb o e n hb hx=>?_,λb o e n hb hx=>?_,I.base.free,λb o e hx=>?_,I.base.tups,I.base.frzs,I.base.tbls⟩,⟨m,hn.sameBut hs (Ne.symm (cne x c hc)),λj y v' e1 e2 e3=>?_⟩,λy c' e=>?_,I.free,I.freeC,λp hp=>?_,tracked ⟨oc,hoc,I.freeC x c hc⟩ hs,by simpa using I.len⟩ ⟨c,hs,.inr hc⟩
   · exact(hs.2 b (zzM (zzG (zxF e) (I.ok.cab x c hfn hc)))).trans (I.base.keep b o e n hb hx)
   · obtain⟨sl,e1⟩:=I.base.slot b o e n hb hx
     exact⟨sl,(hs.2 b (zzM (zzG (zxF e) (I.ok.cab x c hfn hc)))).trans e1⟩
   · obtain⟨o',e1⟩:=I.base.there b o e hx
     exact⟨o',(hs.2 b (zzM (zzG (zxF e) (I.ok.cab x c hfn hc)))).trans e1⟩
   · by_cases hj:j=i
     · subst hj
       rw[hi]at e1;cases e1
       rw[zyG hiσ]at e2
       cases e2
       exact⟨u,r,.inr ⟨.inl hk,c,hc,hc'⟩⟩
     · rw[zzU (Ne.symm hj)]at e2
       obtain⟨u',r',q⟩:=hl j y v' e1 e2 e3
       refine⟨u',r', ?_⟩
       rcases q with q|⟨k,c',e,z'⟩
       · exact .inl q
       · refine .inr ⟨k,c',e,z'.sameBut hs ?_⟩
         rintro rfl
         exact hj (zaI hN e1 (I.ok.inj _ _ _ e hc ▸ hi))
   · by_cases hcc:c'=c
     · subst hcc;exact⟨_,hc'⟩
     · obtain⟨w2,z2⟩:=I.cell y c' e
       exact⟨w2,z2.sameBut hs hcc⟩
   · obtain⟨e,n,ne,nf,d⟩:=I.pin p hp
     refine⟨(hs.2 p.1 ?_).trans e,n,ne,nf,d⟩
     intro q
     rw[q,hoc]at e
     have q':oc=p.2:=zzV e
     exact d w' (by rw[<-q'];exact hocd)
theorem zeD(I:Inv X pins σ H s)(hN:X.N.Nodup)(hi:X.N[i]? = some x)(hx:Loc X.env.scope x)(r:RelV v u)
 (h:∀s',Inv X pins (σ.set i (some v)) H s'->Q () s') (hf:X.fn x=true\/X.env.scope.names.lookup x=some .local:=by first|exact .inl rfl|exact .inr rfl|assumption):wpAny M A (storeName X.env x u) Q E s:=
 zcl I hN hi hx r (λs' I' _=>h s' I') hf
theorem Inv.call'(I:Inv X pins σ H s)(ho:s'.os=s.os)(u:Un (frs X.stack) ch H H' s.heap s'.heap)(hok:HOk X.prog X.w H' s'.heap)(hg:AllBare s'.gens)
 (hch:∀b ∈ ch,(b ∈ X.ex\/X.s₀.heap.objs.size<=b)/\b≠X.env.locals/\(∀x c,X.env.cells.lookup x=some c->c≠b)/\∀p ∈ X.pn++pins,p.1≠b):Inv X pins σ H' s':=by
 obtain⟨h',g',d',t',o'⟩:=s'
 have e:o'=s.os:=ho
 subst e
 exact I.call (g':=g') (t':=t') (d':=d') u hok hg hch
end
abbrev XK:=Value->Option Addr->Hp->Prop
abbrev St:=List (Option V)
abbrev VK:=V->Hp->Prop
abbrev TE:=St->Hp->VK->Prop
abbrev TT:=St->Hp->(Bool->Hp->Prop)->Prop
abbrev TA:=St->Hp->(List V->Hp->Prop)->Prop
structure Ends where
 nx:St->Hp->Prop
 rt:VK
 bk:St->Hp->Prop:=λ_ _=>False
 ct:St->Hp->Prop:=λ_ _=>False
abbrev TS:=Ends->St->Hp->Prop
def EP(X:Cx)(pins:List (Addr×Obj))(σ:St)(Q:VK)(u:Value)(s':Shared):Prop:=∃v H',Inv X pins σ H' s'/\RelV v u/\Q v H'
def TP(X:Cx)(pins:List (Addr×Obj))(σ:St)(Q:Bool->Hp->Prop)(b:Bool)(s':Shared):Prop:=∃H',Inv X pins σ H' s'/\Q b H'
def AP(X:Cx)(pins:List (Addr×Obj))(σ:St)(Q:List V->Hp->Prop)(us:List Value)(s':Shared):Prop:=∃vs H',Inv X pins σ H' s'/\Vals vs us/\Q vs H'
def SP(X:Cx)(pins:List (Addr×Obj))(D:Ends)(f:Flow)(s':Shared):Prop:=
 match f with
 | .next=>∃σ' H',Inv X pins σ' H' s'/\D.nx σ' H'
 | .brk=>∃σ' H',Inv X pins σ' H' s'/\D.bk σ' H'
 | .cont=>∃σ' H',Inv X pins σ' H' s'/\D.ct σ' H'
 | .ret u=>∃v σ' H',Inv X pins σ' H' s'/\RelV v u/\D.rt v H'
def PE(X:Cx)(e:Expr)(t:TE):Prop:=
 ∀(pins:List (Addr×Obj)) (s:Shared) (σ:St) (H:Hp) (Q:VK),Inv X pins σ H s->t σ H Q->wpAny (model X.prog X.w) X.A (eval e X.env) (EP X pins σ Q) X.xe s
def PT(X:Cx)(e:Expr)(t:TT):Prop:=
 ∀(pins:List (Addr×Obj)) (s:Shared) (σ:St) (H:Hp) (Q:Bool->Hp->Prop),Inv X pins σ H s->t σ H Q->wpAny (model X.prog X.w) X.A (isTrue e X.env (eval e X.env)) (TP X pins σ Q) X.xe s
def PW(X:Cx)(e:Expr)(t:TT):Prop:=
 ∀(whole:Sem Value) (pins:List (Addr×Obj)) (s:Shared) (σ:St) (H:Hp) (Q:Bool->Hp->Prop),Inv X pins σ H s->t σ H Q->wpAny (model X.prog X.w) X.A (isTrue e X.env whole) (TP X pins σ Q) X.xe s
theorem PW.pt(h:PW X e t):PT X e t:=h _
def PA(X:Cx)(es:List Expr)(t:TA):Prop:=
 ∀(pos:Pos) (pins:List (Addr×Obj)) (s:Shared) (σ:St) (H:Hp) (Q:List V->Hp->Prop),Inv X pins σ H s->t σ H Q->wpAny (model X.prog X.w) X.A (spliced (backTo pos (starEach es X.env))) (AP X pins σ Q) X.xe s
def PS(X:Cx)(st:Stmt)(t:TS):Prop:=
 ∀(pins:List (Addr×Obj)) (s:Shared) (σ:St) (H:Hp) (D:Ends),Inv X pins σ H s->t D σ H->wpAny (model X.prog X.w) X.A (exec st X.env) (SP X pins D) X.xe s
def PSs(X:Cx)(st:List Stmt)(t:TS):Prop:=
 ∀(pins:List (Addr×Obj)) (s:Shared) (σ:St) (H:Hp) (D:Ends),Inv X pins σ H s->t D σ H->wpAny (model X.prog X.w) X.A (execs st X.env) (SP X pins D) X.xe s
theorem thn(h:wpAny M A t Q E s)(hQ:∀a s,Q a s->Q' a s):wpAny M A t Q' E s:=zxP h hQ λ_ _ x=>x
end L2
namespace L2
open PySem PySem.Spec PyProof.Rows
section
variable{X:Cx}
def VH(i:Nat):TE:=λσ H Q=>∃v,σ[i]? = some (some v)/\Q v H
def tC(v:V):TE:=λ_ H Q=>Q v H
theorem zjb(hN:X.N[i]? = some x)(hv:Vis X.env.scope x)(hd:(x==("__debug__":Str))=false:=by decide)(hcd:(x==("__classdict__":Str))=false:=by decide):PE X (.Name x pos) (VH i):=by
 intro pins s σ H Q I h
 obtain⟨v,e,h⟩:=h
 obtain⟨m,hn,hl⟩:=I.loc
 obtain⟨u,r,l⟩:=hl i x v hN e hv
 have fin:EP X pins σ Q u s:=⟨v,H,I,r,h⟩
 rcases l with⟨hk,hm⟩|⟨hk,c,hc,hcell⟩
 · exact wpAny_Name (wpAny_loadName_local I.ok.kind hk hn hm fin) hd
 · rcases hk with hk|hk
   · exact wpAny_Name (wpAny_loadName_cell I.ok.kind hk hc hcell fin) hd
   · exact wpAny_Name (wpAny_loadName_free I.ok.kind hk hc hcell fin hcd) hd
theorem zic:PE X (.Constant (.int i) j pos) (tC (.int i)):=λ_ _ _ H _ I h=>wpAny_Constant_int ⟨.int i,H,I.tok _,⟨_,rfl⟩,h⟩
theorem znV:PE X (.Constant (.bool b) j pos) (tC (.bl b)):=λ_ _ _ H _ I h=>Constant_bool ⟨.bl b,H,I,rfl,h⟩
theorem zlX:PE X (.Constant .none j pos) (tC .non):=λ_ _ _ H _ I h=>Constant_none ⟨.non,H,I,rfl,h⟩
theorem zfy:PE X (.Constant (.str x) j pos) (tC (.str x)):=λ_ _ _ H _ I h=>Calls.Constant_str ⟨.str x,H,I.tok _,⟨_,rfl⟩,h⟩
def Gl(X:Cx)(x:Str):Prop:=X.env.kindOf x=some .globalImplicit
theorem Z5(I:Inv X pins σ H s)(hg:Gl X x)(hm:X.mg x=some u)(h:Q u s)
 (hd:(x==("__debug__":Str))=false:=by decide):wpAny (model X.prog X.w) X.A (eval (.Name x pos) X.env) Q E s:=
 Calls.Name_function_global I.ok.kind hg (Calls.loadGlobal_global (by rw[I.ok.glob];exact I.mod.glob.keeps I.bk) hm h) hd
theorem Wo(I:Inv X pins σ H s)(hg:Gl X x)(hm:X.mg x=none)(hv:bootBuiltins x=some u)(h:Q u s)
 (hn:x≠"__name__":=by decide) (hd:(x==("__debug__":Str))=false:=by decide):wpAny (model X.prog X.w) X.A (eval (.Name x pos) X.env) Q E s:=by
 obtain⟨mb,h1,h2⟩:=I.mod.blt
 exact Calls.Name_function_global I.ok.kind hg (Calls.loadGlobal_builtin (by rw[I.ok.glob];exact I.mod.glob.keeps I.bk) hm (by rw[I.ok.blt];exact h1.keeps I.bk) ((h2 x hn).trans hv) h) hd
theorem zjG(hg:Gl X x)(hm:X.mg x=some u)(r:RelV v u)(hd:(x==("__debug__":Str))=false:=by decide):PE X (.Name x pos) (tC v):=
 λ_ _ _ H _ I h=>Z5 I hg hm ⟨v,H,I,r,h⟩ hd
theorem zgH(hg:Gl X x)(hm:X.mg x=none)(hv:bootBuiltins x=some u)(r:RelV v u)(hn:x≠"__name__":=by decide)(hd:(x==("__debug__":Str))=false:=by decide):PE X (.Name x pos) (tC v):=
 λ_ _ _ H _ I h=>Wo I hg hm hv ⟨v,H,I,r,h⟩ hn hd
variable{a b:Expr}{ta tb:TE}{pos:Pos}
variable{tA tB':TT}{rest:List Expr}
def zpl(t u:TT):TT:=λσ H Q=>t σ H λc H1=>if c=true then u σ H1 Q else Q false H1
def tOr(t u:TT):TT:=λσ H Q=>t σ H λc H1=>if c=true then Q true H1 else u σ H1 Q
def zpz(t:TT):TT:=λσ H Q=>t σ H λc H1=>Q (!c) H1
theorem zkP(ha:PT X a tA):PW X (.BoolOp .And [a] pos) tA:=by
 intro wh pins s σ H Q I h
 refine isTrue_and (thn (ha pins s σ H Q I h) λc s1 e=>?_)
 cases c with
 |true=>exact isTrue_and_nil e
 |false=>exact e
theorem zny(ha:PT X a tA):PW X (.BoolOp .Or [a] pos) tA:=by
 intro wh pins s σ H Q I h
 refine isTrue_or (thn (ha pins s σ H Q I h) λc s1 e=>?_)
 cases c with
 |false=>exact isTrue_or_nil e
 |true=>exact e
theorem znx(ha:PT X a tA)(hb:PW X (.BoolOp .And (b::rest) pos) tB'):PW X (.BoolOp .And (a::b::rest) pos) (zpl tA tB'):=by
 intro wh pins s σ H Q I h
 refine isTrue_and (thn (ha pins s σ H _ I h) λc s1 ⟨H1,I1,q1⟩=>?_)
 cases c with
 |true=>exact hb wh pins s1 σ H1 Q I1 q1
 |false=>exact⟨H1,I1,q1⟩
theorem zoM(ha:PT X a tA)(hb:PW X (.BoolOp .Or (b::rest) pos) tB'):PW X (.BoolOp .Or (a::b::rest) pos) (tOr tA tB'):=by
 intro wh pins s σ H Q I h
 refine isTrue_or (thn (ha pins s σ H _ I h) λc s1 ⟨H1,I1,q1⟩=>?_)
 cases c with
 |true=>exact⟨H1,I1,q1⟩
 |false=>exact hb wh pins s1 σ H1 Q I1 q1
theorem zmv(ha:PT X a tA):PT X (.UnaryOp .Not a pos) (zpz tA):=by
 intro pins s σ H Q I h
 exact isTrue_not (ha pins s σ H (λc H1=>Q (!c) H1) I h)
def zoH(ta tb:TE):TE:=λσ H Q=>ta σ H λx H1=>∃c,x = .bl c/\if c=true then tb σ H1 Q else Q (.bl false) H1
def zpm(ta tb:TE):TE:=λσ H Q=>ta σ H λx H1=>∃c,x = .bl c/\if c=true then Q (.bl true) H1 else tb σ H1 Q
def znN(ta:TE):TE:=λσ H Q=>ta σ H λx H1=>∃c,x = .bl c/\Q (.bl (!c)) H1
theorem zmb(h:PE X a t):PE X (.BoolOp op [a] pos) t:=λpins s σ H Q I hw=>BoolOp_one (h pins s σ H Q I hw)
theorem zmt(ha:PE X a ta)(hb:PE X (.BoolOp .And (b::rest) pos) tb):PE X (.BoolOp .And (a::b::rest) pos) (zoH ta tb):=by
 intro pins s σ H Q I h
 refine BoolOp_and (thn (ha pins s σ H _ I h) λv s1 ⟨x,H1,I1,r1,q1⟩=>?_)
 obtain⟨c,rfl,q1⟩:=q1
 cases r1
 refine wpAny_truthy_bool ?_
 cases c with
 |true=>exact hb pins s1 σ H1 Q I1 q1
 |false=>exact⟨.bl false,H1,I1,rfl,q1⟩
theorem znY(ha:PE X a ta)(hb:PE X (.BoolOp .Or (b::rest) pos) tb):PE X (.BoolOp .Or (a::b::rest) pos) (zpm ta tb):=by
 intro pins s σ H Q I h
 refine BoolOp_or (thn (ha pins s σ H _ I h) λv s1 ⟨x,H1,I1,r1,q1⟩=>?_)
 obtain⟨c,rfl,q1⟩:=q1
 cases r1
 refine wpAny_truthy_bool ?_
 cases c with
 |false=>exact hb pins s1 σ H1 Q I1 q1
 |true=>exact⟨.bl true,H1,I1,rfl,q1⟩
theorem znl(ha:PE X a ta):PE X (.UnaryOp .Not a pos) (znN ta):=by
 intro pins s σ H Q I h
 refine UnaryOp_ (thn (ha pins s σ H _ I h) λv s1 ⟨x,H1,I1,r1,q1⟩=>?_)
 obtain⟨c,rfl,q1⟩:=q1
 cases r1
 exact not_of (wpAny_truthy_bool ⟨.bl (!c),H1,I1,rfl,q1⟩)
def tIf(t:TT)(ta tb:TE):TE:=λσ H Q=>t σ H λc H1=>if c=true then ta σ H1 Q else tb σ H1 Q
theorem zhS(hc:PT X c tA)(ha:PE X a ta)(hb:PE X b tb):PE X (.IfExp c a b pos) (tIf tA ta tb):=by
 intro pins s σ H Q I h
 refine wpAny_IfExp (thn (hc pins s σ H _ I h) λd s1 ⟨H1,I1,q1⟩=>?_)
 cases d with
 |true=>exact ha pins s1 σ H1 Q I1 q1
 |false=>exact hb pins s1 σ H1 Q I1 q1
end
end L2
namespace L2
open PySem PySem.Spec PyProof.Rows
def SqL(K:zC)(H:Hp)(a:Addr)(xs:List V):Prop:=
 Rd H a (.lst xs) \/
  ∃(o:Obj) (its:Array Value) (n:Nat),K.lookup a=some o/\o.cls = .type "list"/\o.dict=none/\o.data = .seq its n/\its.size<=sizeLine/\Vals xs its.toList
def RdL(K:zC)(H:Hp)(a:Addr)(xs:List V):Prop:=
 Rd H a (.lst xs)\/∃(its:Array Value) (n:Nat),K.lookup a=some {cls:=.type "list",data:=.seq its n}/\its.size<=sizeLine/\Vals xs its.toList
def SqT(K:zC)(H:Hp)(a:Addr)(xs:List V):Prop:=
 Rd H a (.tup xs) \/
  ∃(o:Obj) (its:Array Value) (n:Nat),K.lookup a=some o/\o.cls = .type "tuple"/\o.data = .seq its n/\its.size<=sizeLine/\Vals xs its.toList
def zpv:Value->Option V
 | .none=>some .non
 | .bool b=>some (.bl b)
 | .int i _=>some (.int i)
 | .str x _=>some (.str x)
 | .bytes b _=>some (.byt b)
 | .float b _=>some (.flt b)
 | .ref a=>some (.ref a)
 | .type n=>some (.ty n)
 |_=>none
theorem RelV.abs(r:RelV x u):zpv u=some x:=by
 cases x with
 |non=>cases r;rfl
 |bl _=>cases r;rfl
 |int _=>obtain⟨t,rfl⟩:=r;rfl
 |str _=>obtain⟨t,rfl⟩:=r;rfl
 |byt _=>obtain⟨t,rfl⟩:=r;rfl
 |flt _=>obtain⟨t,rfl⟩:=r;rfl
 |ref _=>cases r;rfl
 |ty _=>cases r;rfl
theorem RelV.inj(r:RelV x u)(q:RelV y u):x=y:=zzV (r.abs.symm.trans q.abs)
theorem Vals.inj:∀{xs ys:List V}{us:List Value},Vals xs us->Vals ys us->xs=ys
 |_,_,_,.nil,.nil=>rfl
 |_,_,_,.cons r t,.cons r' t'=>by rw[r.inj r',Vals.inj t t']
section
variable{X:Cx}{pins:List (Addr×Obj)}{σ:St}{H:Hp}{s:Shared}{a:Addr}{xs ys:List V}
theorem Inv.list(I:Inv X pins σ H s)(h:SqL X.K H a xs):∃its:List Value,Vals xs its/\PlainL s.heap a its.toArray/\xs.length<=sizeLine:=by
 rcases h with h|⟨o,its,n,hk,hc,hd,hs,hz,r⟩
 · obtain⟨z,its,n,r,e⟩:=h.ok I.hok
   exact⟨its,r,⟨_,n,e,rfl,rfl,rfl⟩,z⟩
 · refine⟨its.toList,r,⟨o,n,I.kIn a o hk,hc,hd,by simpa using hs⟩, ?_⟩
   have e:=r.length
   simp only[zyP]at e
   omega
theorem Inv.tuple(I:Inv X pins σ H s)(h:SqT X.K H a xs):∃its:List Value,Vals xs its/\IsTup s.heap a its.toArray/\xs.length<=sizeLine:=by
 rcases h with h|⟨o,its,n,hk,hc,hs,hz,r⟩
 · obtain⟨z,its,r,p⟩:=h.ok I.hok
   exact⟨its,r,p,z⟩
 · refine⟨its.toList,r,⟨o,I.kIn a o hk,hc,n,by simpa using hs⟩, ?_⟩
   have e:=r.length
   simp only[zyP]at e
   omega
theorem Inv.list_inj(I:Inv X pins σ H s)(h:SqL X.K H a xs)(h':SqL X.K H a ys):xs=ys:=by
 obtain⟨its,r,⟨o,n,e,_,_,d⟩,_⟩:=I.list h
 obtain⟨its',r',⟨o',n',e',_,_,d'⟩,_⟩:=I.list h'
 rw[e]at e';cases e'
 rw[d]at d'
 injection d' with d1 _
 have:its=its':=by simpa using congrArg Array.toList d1
 subst this
 exact r.inj r'
theorem Inv.tuple_inj(I:Inv X pins σ H s)(h:SqT X.K H a xs)(h':SqT X.K H a ys):xs=ys:=by
 obtain⟨its,r,⟨o,e,_,n,d⟩,_⟩:=I.tuple h
 obtain⟨its',r',⟨o',e',_,n',d'⟩,_⟩:=I.tuple h'
 rw[e]at e';cases e'
 rw[d]at d'
 injection d' with d1 _
 have:its=its':=by simpa using congrArg Array.toList d1
 subst this
 exact r.inj r'
end
abbrev Cx.wish(X:Cx)(E:Value->Shared->Prop):Cx:={X with xe:=E}
abbrev Cx.nox(X:Cx):Cx:=X.wish λ_ _=>False
theorem Cx.Ok.wish{X:Cx}(ok:X.Ok)(E:Value->Shared->Prop):(X.wish E).Ok:=
 ⟨ok.mod,ok.kind,ok.glob,ok.blt,ok.above,ok.inj,ok.has,ok.cab,ok.hd,ok.frames,ok.stk,ok.exf,ok.bs,ok.bsz,ok.noex,ok.exfs,ok.funs,ok.frf⟩
theorem Cx.Ok.unwish{X:Cx}{E:Value->Shared->Prop}(ok:(X.wish E).Ok):X.Ok:=
 ⟨ok.mod,ok.kind,ok.glob,ok.blt,ok.above,ok.inj,ok.has,ok.cab,ok.hd,ok.frames,ok.stk,ok.exf,ok.bs,ok.bsz,ok.noex,ok.exfs,ok.funs,ok.frf⟩
section
variable{X:Cx}{pins:List (Addr×Obj)}{σ:St}{H:Hp}{s:Shared}{E:Value->Shared->Prop}
theorem Inv.wish(I:Inv X pins σ H s)(E:Value->Shared->Prop):Inv (X.wish E) pins σ H s:=⟨I.ok.wish E,I.os,I.bare,I.base,I.loc,I.cell,I.free,I.freeC,I.pin,I.hok,I.len⟩
theorem Inv.unwish(I:Inv (X.wish E) pins σ H s):Inv X pins σ H s:=⟨I.ok.unwish,I.os,I.bare,I.base,I.loc,I.cell,I.free,I.freeC,I.pin,I.hok,I.len⟩
theorem SP.unwish(h:SP (X.wish E) pins D f s'):SP X pins D f s':=by
 cases f with
 |next=>obtain⟨σ',H',I,q⟩:=h;exact⟨σ',H',I.unwish,q⟩
 |brk=>obtain⟨σ',H',I,q⟩:=h;exact⟨σ',H',I.unwish,q⟩
 |cont=>obtain⟨σ',H',I,q⟩:=h;exact⟨σ',H',I.unwish,q⟩
 |ret u=>obtain⟨v,σ',H',I,r,q⟩:=h;exact⟨v,σ',H',I.unwish,r,q⟩
theorem PSs.nox{st:List Stmt}{t:TS}(h:PSs X.nox st t):PSs X st t:=λpins s σ H D I hw=>
 zxP (h pins s σ H D (I.wish _) hw) (λ_ _ q=>q.unwish) λ_ _ z=>False.elim z
end
section
variable{X:Cx}{st:Stmt}{rest:List Stmt}{t u:TS}{e:Expr}{te:TE}{pos:Pos}
def zoO:TS:=λD σ H=>D.nx σ H
def zpw(t u:TS):TS:=λD σ H=>t {D with nx:=u D} σ H
theorem zgn:PSs X [] zoO:=λ_ _ σ H _ I h=>wpAny_execs_nil ⟨σ,H,I,h⟩
theorem Y6(h1:PS X st t)(h2:PSs X rest u):PSs X (st::rest) (zpw t u):=by
 intro pins s σ H D I h
 refine wpAny_execs_cons (thn (h1 pins s σ H {D with nx:=u D} I h) λf s1 q=>?_)
 cases f with
 |next=>
  obtain⟨σ',H',I',q⟩:=q
  exact h2 pins s1 σ' H' D I' q
 |ret v=>exact q
 |brk=>exact q
 |cont=>exact q
theorem zcO(h1:PS X st t):PSs X [st] t:=by
 intro pins s σ H D I h
 refine wpAny_execs_cons (thn (h1 pins s σ H D I h) λf s1 q=>?_)
 cases f with
 |next=>exact wpAny_execs_nil q
 |ret v=>exact q
 |brk=>exact q
 |cont=>exact q
theorem Inv.quiet(I:Inv X pins σ H s):interactive X.env=false:=by simp[interactive,I.ok.kind]
def zop(te:TE):TS:=λD σ H=>te σ H λ_ H1=>D.nx σ H1
theorem zge(he:PE X e te)(hs:swapsWith e none pos.line X.env=pure false:=by rfl):PS X (.Expr e pos) (zop te):=by
 intro pins s σ H D I h
 exact wpAny_Expr_any (thn (he pins s σ H _ I h) λv s1 ⟨x,H1,I1,r1,q1⟩=>⟨σ,H1,I1,q1⟩) I.quiet hs
def zoW(te:TE):TS:=λD σ H=>te σ H D.rt
theorem zmc(he:PE X e te):PS X (.Return (some e) pos) (zoW te):=by
 intro pins s σ H D I h
 exact wpAny_Return_some (thn (he pins s σ H _ I h) λv s1 ⟨x,H1,I1,r1,q1⟩=>⟨x,σ,H1,I1,r1,q1⟩)
def zph(c:TT)(t u:TS):TS:=λD σ H=>c σ H λb H1=>if b=true then t D σ H1 else u D σ H1
theorem zlz(hc:PT X c tc)(ha:PSs X a t)(hb:PSs X b u):PS X (.If c a b pos) (zph tc t u):=by
 intro pins s σ H D I h
 refine wpAny_If (thn (hc pins s σ H _ I h) λd s1 ⟨H1,I1,q1⟩=>?_)
 cases d with
 |true=>exact ha pins s1 σ H1 D I1 q1
 |false=>exact hb pins s1 σ H1 D I1 q1
end
abbrev TG:=V->St->Hp->(St->Hp->Prop)->Prop
abbrev TGs:=List V->St->Hp->(St->Hp->Prop)->Prop
def PG(X:Cx)(target:Expr)(t:TG):Prop:=
 ∀(pins:List (Addr×Obj)) (s:Shared) (σ:St) (H:Hp) (v:V) (u:Value) (Q:St->Hp->Prop),Inv X pins σ H s->RelV v u->t v σ H Q->
  wpAny (model X.prog X.w) X.A (assign target X.env u) (λ_ s'=>∃σ' H',Inv X pins σ' H' s'/\Q σ' H') X.xe s
def PGs(X:Cx)(ts:List Expr)(t:TGs):Prop:=
 ∀(pins:List (Addr×Obj)) (s:Shared) (σ:St) (H:Hp) (vs:List V) (us:List Value) (Q:St->Hp->Prop),Inv X pins σ H s->Vals vs us->t vs σ H Q->
  wpAny (model X.prog X.w) X.A (assignInOrder ((assignEach ts X.env).map (·.2)) us) (λ_ s'=>∃σ' H',Inv X pins σ' H' s'/\Q σ' H') X.xe s
abbrev zoF:=V->V->V->Hp->(Hp->Prop)->Prop
def zoU(X:Cx)(t:zoF):Prop:=
 ∀(pins:List (Addr×Obj)) (s:Shared) (σ:St) (H:Hp) (o i v:V) (ov iv u:Value) (Q:Hp->Prop),Inv X pins σ H s->RelV o ov->RelV i iv->RelV v u->t o i v H Q->
  wpAny (model X.prog X.w) X.A (setItem ov iv u) (λ_ s'=>∃H',Inv X pins σ H' s'/\Q H') X.xe s
section
variable{X:Cx}{pos:Pos}
def zlD(i:Nat):TG:=λv σ H Q=>Q (σ.set i (some v)) H
theorem zkS(hN:X.N.Nodup)(hi:X.N[i]? = some x)(hx:Loc X.env.scope x)(hf:X.fn x=true\/X.env.scope.names.lookup x=some .local:=by first|exact .inl rfl|exact .inr rfl|assumption):PG X (.Name x pos) (zlD i):=by
 intro pins s σ H v u Q I r h
 exact wpAny_assign_Name (zeD I hN hi hx r (λs' I'=>⟨_,H,I',h⟩) hf)
def zpb:TGs:=λvs σ H Q=>vs=[]/\Q σ H
def zoz(t:TG)(u:TGs):TGs:=λvs σ H Q=>∃v r,vs=v::r/\t v σ H λσ' H'=>u r σ' H' Q
theorem zjC:PGs X [] zpb:=by
 intro pins s σ H vs us Q I r h
 obtain⟨e,h⟩:=h
 subst e
 cases r
 exact assignInOrder_nil ⟨σ,H,I,h⟩
theorem zjy(h1:PG X e t)(h2:PGs X es u)
 (hs:(assignEach (e::es) X.env).map (·.2)=assign e X.env::(assignEach es X.env).map (·.2):=by rfl):PGs X (e::es) (zoz t u):=by
 intro pins s σ H vs us Q I r h
 obtain⟨v,vr,e1,h⟩:=h
 subst e1
 cases r with
 |cons r rr=>
  rw[hs]
  refine assignInOrder_cons (thn (h1 pins s σ H _ _ _ I r h) λ_ s1 ⟨σ1,H1,I1,q1⟩=>?_)
  exact h2 pins s1 σ1 H1 _ _ Q I1 rr q1
def zpE(K:zC)(n:Nat)(t:TGs):TG:=λv σ H Q=>∃a xs,v = .ref a/\SqT K H a xs/\xs.length=n/\t xs σ H Q
theorem zmJ(hc:X.calm=true)(h:PGs X es t)
 (hn:(assignEach es X.env).length=n:=by rfl) (hst:(assignEach es X.env).findIdx? (·.1)=none:=by rfl):PG X (.Tuple es k pos) (zpE X.K n t):=by
 intro pins s σ H v u Q I r hw
 obtain⟨a,xs,e1,hq,hl,hw⟩:=hw
 subst e1
 cases r
 obtain⟨its,rv,ht,hz⟩:=I.tuple hq
 refine assign_Tuple_tuple (I.ok.hd hc) ht (by simp[hn,<-hl,rv.length]) hst λh' hx=>?_
 have I1:Inv X pins σ H {s with heap:=h'}:=I.kept (t':=s.toks) λb o e=>hx b o (zzM (zxF e)) e
 exact h pins _ σ H xs _ Q I1 (by simpa using rv) hw
def zoY(to ti:TE)(t:zoF):TG:=λv σ H Q=>to σ H λo H1=>ti σ H1 λi H2=>t o i v H2 λH3=>Q σ H3
theorem zno(ho:PE X o to)(hi:PE X i ti)(hs:zoU X t)
 (ha:∀v,assign (.Subscript o i pos) X.env v=(do
  let ov <-holding [v] (eval o X.env)
  let iv <-holding [v,ov] (eval i X.env)
  standAt pos
  holding [v,ov,iv] (setItem ov iv v)
  release [v,ov,iv] []):=by intro _;rfl):PG X (.Subscript o i pos) (zoY to ti t):=by
 intro pins s σ H v u Q I r h
 rw[ha]
 refine zxC (zxJ (thn (ho pins s σ H _ I h) λov s1 ⟨x,H1,I1,r1,q1⟩=>?_))
 refine zxC (zxJ (thn (hi pins s1 σ H1 _ I1 q1) λiv s2 ⟨y,H2,I2,r2,q2⟩=>?_))
 refine zxC (wpAny_standAt (zxC (zxJ (thn (hs pins s2 σ H2 x y v ov iv u _ I2 r1 r2 r q2) λ_ s3 ⟨H3,I3,q3⟩=>?_))))
 exact wpAny_release ⟨σ,H3,I3,q3⟩
def zoT(te:TE)(g:TG):TS:=λD σ H=>te σ H λx H1=>g x σ H1 D.nx
theorem zij(he:PE X e te)(hg:PG X tg g)(hs:swapsWithSole [tg] e pos.line X.env=pure false:=by rfl)(hw:swappedStores [tg] e X.env=pure none:=by rfl)
 (h1:(assignEach [tg] X.env).map (·.2)=[assign tg X.env]:=by rfl):PS X (.Assign [tg] e pos) (zoT te g):=by
 intro pins s σ H D I h
 refine wpAny_Assign_stores (thn (he pins s σ H _ I h) λv s1 ⟨x,H1,I1,r1,q1⟩=>?_) hs hw
 rw[h1]
 exact thn (hg pins s1 σ H1 x v _ I1 r1 q1) λ_ s2 q=>q
theorem zmZ(hN:X.N.Nodup)(hi:X.N[i]? = some x)(hx:Loc X.env.scope x)(he:PE X e te)(hs:swapsWith e (some (.Name x pos')) pos.line X.env=pure false:=by rfl)(hf:X.fn x=true\/X.env.scope.names.lookup x=some .local:=by first|exact .inl rfl|exact .inr rfl|assumption):
 PS X (.Assign [.Name x pos'] e pos) (zoT te (zlD i)):=by
 intro pins s σ H D I h
 refine wpAny_Assign_Name (thn (he pins s σ H _ I h) λv s1 ⟨y,H1,I1,r1,q1⟩=>?_) hs
 exact zeD I1 hN hi hx r1 (λs2 I2=>⟨_,H1,I2,q1⟩) hf
end
structure It where
 go:Nat->Hp->Prop
 yld:Nat->Hp->V->Hp->Prop
 stop:Nat->Hp->Prop
def zae(X:Cx)(pins:List (Addr×Obj))(H:Hp)(b:Addr):Prop:=
 H b=none/\b≠X.env.locals/\b ∉ X.fs/\(b ∈ X.ex\/X.s₀.heap.objs.size<=b)/\(∀x c,X.env.cells.lookup x=some c->c≠b)/\∀p ∈ X.pn++pins,p.1≠b
theorem Inv.fpOk(I:Inv X pins σ H s)(hb:s.heap.objs.size<=b)(hn:H' b=none):zae X pins H' b:=by
 refine⟨hn,Nat.ne_of_gt (zzG I.lt hb),I.nofs hb,.inr (zzK I.sz hb),λx c e z=>?_,λp hp z=>?_⟩
 · obtain⟨v,q⟩:=I.cell x c e
   exact absurd (zzG q.lt (by rw[z];exact hb)) (Nat.lt_irrefl _)
 · exact absurd (zzG (zxF (I.pin p hp).1) (by rw[z];exact hb)) (Nat.lt_irrefl _)
structure Turn(P:Program)(w:World)(K:zC)(tg:Expr)(J:It)(fp:List Addr)(it:Addr)(tn:Nat->Heap->Prop):Prop where
 mem:it ∈ fp
 obj:∀i h,tn i h->∀b ∈ fp,∃o,h.get? b=some o/\∀v,o.data ≠ .cell v
 keep:∀i h h',tn i h->(∀b ∈ fp,∀o,h.get? b=some o->h'.get? b=some o)->tn i h'
 item:∀(X:Cx),X.prog=P->X.w=w->X.K=K->X.calm=true->∀(i:Nat) (pins:List (Addr×Obj)) (s:Shared) (σ:St) (H:Hp) (E:Value->Shared->Prop),Inv X pins σ H s->(∀b ∈ fp,zae X pins H b)->tn i s.heap->J.go i H->
  wpAny (model P w) X.A (pyNext (.ref it)) (λr s1=>∃u,r=some u/\
   wpAny (model P w) X.A (letOwnedTupleGo tg (.ref it) u) (λ_ s2=>∃x H',Inv X pins σ H' s2/\RelV x u/\J.yld i H x H'/\tn (i+1) s2.heap/\∀b ∈ fp,H' b=none) E s1) E s
 done:∀(X:Cx),X.prog=P->X.w=w->X.K=K->X.calm=true->∀(i:Nat) (pins:List (Addr×Obj)) (s:Shared) (σ:St) (H:Hp) (E:Value->Shared->Prop),Inv X pins σ H s->(∀b ∈ fp,zae X pins H b)->tn i s.heap->J.stop i H->
  wpAny (model P w) X.A (pyNext (.ref it)) (λr s1=>r=none/\Inv X pins σ H s1) E s
 self:∀(A:Around) (i:Nat) (s:Shared) (Q:Value->Shared->Prop) (E:Value->Shared->Prop),tn i s.heap->Q (.ref it) s->wpAny (model P w) A (pyIter (.ref it)) Q E s
abbrev TI:=St->Hp->(It->Hp->Prop)->Prop
def PIE(X:Cx)(pins:List (Addr×Obj))(σ:St)(tg:Expr)(R:It->Hp->Prop)(itv:Value)(s2:Shared):Prop:=
 ∃(it:Addr) (fp:List Addr) (tn:Nat->Heap->Prop) (J:It) (H':Hp),itv = .ref it/\Inv X pins σ H' s2/\Turn X.prog X.w X.K tg J fp it tn/\tn 0 s2.heap/\(∀b ∈ fp,zae X pins H' b)/\R J H'
def PI(X:Cx)(tg iter:Expr)(wi:TI):Prop:=
 ∀(pins:List (Addr×Obj)) (s:Shared) (σ:St) (H:Hp) (R:It->Hp->Prop),Inv X pins σ H s->wi σ H R->
  wpAny (model X.prog X.w) X.A (eval iter X.env) (λv s1=>wpAny (model X.prog X.w) X.A (pyIter v) (PIE X pins σ tg R) X.xe s1) X.xe s
theorem zdF(ho:s.heap.get? it=some o)(hc:o.cls = .type n)(hd:o.data = .fields vs)
 (hn : ["enumerate","zip","dict_itemiterator","dict_reverseitemiterator","odict_iterator","itertools.zip_longest","itertools.pairwise"].contains n=false) (hQ:Q () s):wpAny M A (letOwnedTupleGo tg (.ref it) u) Q E s:=by
 unfold letOwnedTupleGo
 cases tg<;>first
  |exact zxD hQ
  |(cases u<;>first
   |exact zxD hQ
   | (refine zxC (wpAny_load ho ?_)
      rw[hc,hd]
      show wpAny M A (if(["enumerate","zip","dict_itemiterator","dict_reverseitemiterator","odict_iterator","itertools.zip_longest","itertools.pairwise"].contains n&&vs[0]? == some (rawInt _))=true then _ else _) Q E s
      rw[if_neg (by intro h;rw[hn,Bool.false_and]at h;cases h)]
      exact zxD hQ))
def Itl(K:zC)(a:Addr):It:=
 ⟨λi H=>∃xs x,SqL K H a xs/\xs[i]? = some x,λi H x H'=>H'=H/\∀xs,SqL K H a xs->xs[i]? = some x,λi H=>∃xs,SqL K H a xs/\xs.length<=i⟩
def Itt(K:zC)(a:Addr):It:=
 ⟨λi H=>∃xs x,SqT K H a xs/\xs[i]? = some x,λi H x H'=>H'=H/\∀xs,SqT K H a xs->xs[i]? = some x,λi H=>∃xs,SqT K H a xs/\xs.length<=i⟩
def Itr(lo:Int)(n:Nat):It:=⟨λi _=>i<n,λi H x H'=>H'=H/\x = .int (lo+i),λi _=>n<=i⟩
theorem zhh{P:Program}{w:World}{K:zC}{tg:Expr}(a it:Addr):Turn P w K tg (Itl K a) [it] it (λi h=>h.IsListIter it a i)where
 mem:=by simp
 obj:=λi h st b hb=>by
  have e:b=it:=by simpa using hb
  subst e
  obtain⟨o,e,c,d⟩:=st
  exact⟨o,e,λv z=>by rw[d]at z;cases z⟩
 keep:=λi h h' st k=>st.at λo e=>k it (by simp) o e
 item:=by
  intro X hP hw hK hc i pins s σ H E I hf st hg
  subst hP hw hK
  obtain⟨xs,x,hq,hx⟩:=hg
  obtain⟨its,rv,p,hz⟩:=I.list hq
  obtain⟨u,hu,ru⟩:=rv.get hx
  obtain⟨f0,f1,f2,f3,f4,f5⟩:=hf it (by simp)
  refine wpAny_pyNext_list_item st p.isList (x:=u) (by simpa using hu) λh' st' sb=>?_
  have I1:Inv X pins σ H {s with heap:=h'}:=I.turned (t':=s.toks) (λb o hb e=>(sb.2 b hb).trans e) f0 f1 f3 f4 f5
  obtain⟨o,e,c,d⟩:=id st'
  exact⟨u,rfl,zdF (s:={s with heap:=h'}) e c d (by decide) ⟨x,H,I1,ru,⟨rfl,λys hy=>by rw[I.list_inj hy hq];exact hx⟩,st',λb hb=>(hf b hb).1⟩⟩
 done:=by
  intro X hP hw hK hc i pins s σ H E I hf st hg
  subst hP hw hK
  obtain⟨xs,hq,hx⟩:=hg
  obtain⟨its,rv,p,hz⟩:=I.list hq
  obtain⟨f0,f1,f2,f3,f4,f5⟩:=hf it (by simp)
  have hl:=rv.length
  exact wpAny_pyNext_list_end (I.ok.hd hc) st p.isList (by simp;omega) λh' eb=>⟨rfl,I.turned (t':=s.toks) (λb o hb e=>eb b o hb e) f0 f1 f3 f4 f5⟩
 self:=λ_ _ _ _ _ st h=>wpAny_pyIter_listiter st h
theorem zff{P:Program}{w:World}{K:zC}{tg:Expr}(a it:Addr):Turn P w K tg (Itt K a) [it] it (λi h=>h.IsTupleIter it a i)where
 mem:=by simp
 obj:=λi h st b hb=>by
  have e:b=it:=by simpa using hb
  subst e
  obtain⟨o,e,c,d⟩:=st
  exact⟨o,e,λv z=>by rw[d]at z;cases z⟩
 keep:=λi h h' st k=>st.at λo e=>k it (by simp) o e
 item:=by
  intro X hP hw hK hc i pins s σ H E I hf st hg
  subst hP hw hK
  obtain⟨xs,x,hq,hx⟩:=hg
  obtain⟨its,rv,p,hz⟩:=I.tuple hq
  obtain⟨u,hu,ru⟩:=rv.get hx
  obtain⟨f0,f1,f2,f3,f4,f5⟩:=hf it (by simp)
  refine wpAny_pyNext_tuple_item st (show s.heap.IsTuple a its.toArray from p) (x:=u) (by simpa using hu) λh' st' sb=>?_
  have I1:Inv X pins σ H {s with heap:=h'}:=I.turned (t':=s.toks) (λb o hb e=>(sb.2 b hb).trans e) f0 f1 f3 f4 f5
  obtain⟨o,e,c,d⟩:=id st'
  exact⟨u,rfl,zdF (s:={s with heap:=h'}) e c d (by decide) ⟨x,H,I1,ru,⟨rfl,λys hy=>by rw[I.tuple_inj hy hq];exact hx⟩,st',λb hb=>(hf b hb).1⟩⟩
 done:=by
  intro X hP hw hK hc i pins s σ H E I hf st hg
  subst hP hw hK
  obtain⟨xs,hq,hx⟩:=hg
  obtain⟨its,rv,p,hz⟩:=I.tuple hq
  obtain⟨f0,f1,f2,f3,f4,f5⟩:=hf it (by simp)
  have hl:=rv.length
  exact wpAny_pyNext_tuple_end (I.ok.hd hc) st (show s.heap.IsTuple a its.toArray from p) (by simp;omega) λh' eb=>⟨rfl,I.turned (t':=s.toks) (λb o hb e=>eb b o hb e) f0 f1 f3 f4 f5⟩
 self:=λ_ _ _ _ _ st h=>wpAny_pyIter_tupleiter st h
theorem zfA{P:Program}{w:World}{K:zC}{tg:Expr}(it:Addr)(lo:Int)(n:Nat):Turn P w K tg (Itr lo n) [it] it (λi h=>IsRangeIter h it (lo+(i:Nat)*1) ((n:Int)-(i:Nat)) 1)where
 mem:=by simp
 obj:=λi h st b hb=>by
  have e:b=it:=by simpa using hb
  subst e
  exact⟨_,st,λv z=>by
   have z':Data.fields _=Data.cell v:=z
   cases z'⟩
 keep:=λi h h' st k=>k it (by simp) _ st
 item:=by
  intro X hP hw hK hc i pins s σ H E I hf st hg
  subst hP hw hK
  obtain⟨f0,f1,f2,f3,f4,f5⟩:=hf it (by simp)
  have W:=Walks.range (prog:=X.prog) (w:=X.w) (I.ok.hd hc) it lo 1 n
  refine W.item i s _ _ hg st λv h' tk hv st' kk=>?_
  obtain⟨t,rfl⟩:=hv
  have I1:Inv X pins σ H {s with heap:=h',toks:=tk}:=I.turned (λb o hb e=>kk b o (by simpa using hb) e) f0 f1 f3 f4 f5
  refine⟨_,rfl,zdF (s:={s with heap:=h',toks:=tk}) (n:="range_iterator") st' rfl rfl (by decide) ⟨.int (lo+i),H,I1,⟨t, ?_⟩,⟨rfl,rfl⟩,st',λb hb=>(hf b hb).1⟩⟩
  rw[Int.mul_one]
 done:=by
  intro X hP hw hK hc i pins s σ H E I hf st hg
  subst hP hw hK
  obtain⟨f0,f1,f2,f3,f4,f5⟩:=hf it (by simp)
  exact wpAny_pyNext_range_end (I.ok.hd hc) st (by have:n<=i:=hg;omega) λh' eb=>⟨rfl,I.turned (t':=s.toks) (λb o hb e=>eb b o hb e) f0 f1 f3 f4 f5⟩
 self:=λ_ _ _ _ _ st h=>wpAny_pyIter_rangeiter st h
end L2
namespace L2
open PySem PySem.Spec PyProof.Rows
section
variable{X:Cx}{tg:Expr}
def zoh(K:zC)(tl:TE):TI:=λσ H R=>tl σ H λx H1=>∃a,x = .ref a/\(∃xs,SqL K H1 a xs)/\R (Itl K a) H1
def zpu(K:zC)(tl:TE):TI:=λσ H R=>tl σ H λx H1=>∃a,x = .ref a/\(∃xs,SqT K H1 a xs)/\R (Itt K a) H1
theorem zkF{l:Expr}{tl:TE}(hl:PE X l tl):PI X tg l (zoh X.K tl):=by
 intro pins s σ H R I h
 refine thn (hl pins s σ H _ I h) λv s1 ⟨x,H1,I1,r1,q1⟩=>?_
 obtain⟨a,e,⟨xs,hq⟩,q⟩:=q1
 subst e
 cases r1
 obtain⟨its,rv,p,hz⟩:=I1.list hq
 refine wpAny_pyIter_list p.isList ?_
 refine⟨s1.heap.objs.size,[s1.heap.objs.size],_,_,H1,rfl,I1.kept (t':=s1.toks) λb o e=>zxE _ e,zhh a _,⟨_,zxG _ rfl,rfl,rfl⟩,λb hb=>?_,q⟩
 have e:b=s1.heap.objs.size:=by simpa using hb
 subst e
 exact I1.fpOk (zzJ _) (I1.hok.fresh (zzJ _))
theorem zlY{l:Expr}{tl:TE}(hl:PE X l tl):PI X tg l (zpu X.K tl):=by
 intro pins s σ H R I h
 refine thn (hl pins s σ H _ I h) λv s1 ⟨x,H1,I1,r1,q1⟩=>?_
 obtain⟨a,e,⟨xs,hq⟩,q⟩:=q1
 subst e
 cases r1
 obtain⟨its,rv,p,hz⟩:=I1.tuple hq
 refine wpAny_pyIter_tuple (show s1.heap.IsTuple a its.toArray from p) ?_
 refine⟨s1.heap.objs.size,[s1.heap.objs.size],_,_,H1,rfl,I1.kept (t':=s1.toks) λb o e=>zxE _ e,zff a _,⟨_,zxG _ rfl,rfl,rfl⟩,λb hb=>?_,q⟩
 have e:b=s1.heap.objs.size:=by simpa using hb
 subst e
 exact I1.fpOk (zzJ _) (I1.hok.fresh (zzJ _))
theorem zeb{pins:List (Addr×Obj)}{σ:St}{H:Hp}{s:Shared}{R:It->Hp->Prop}{E:Value->Shared->Prop}{lo hi:Int}{t u v:Tok}{tk:Nat}(I:Inv X pins σ H s)(h1 : -(2 ^ 62)<=lo)(h2:lo<2 ^ 62)(h3 : -(2 ^ 62)<=hi)(h4:hi<2 ^ 62)
 (q:R (Itr lo (hi-lo).toNat) H):wpAny (model X.prog X.w) X.A (pyIter (.ref s.heap.objs.size)) (PIE X pins σ tg R) E {s with heap:=s.heap.push {cls:=.type "range",data:=.fields #[.int lo t,.int hi u,.int 1 v]},toks:=tk}:=by
 refine wpAny_pyIter_range (IsRange.new ..) (small_one h1 h2 h3 h4) ?_
 have I1:Inv X pins σ H {s with heap:=s.heap.push {cls:=.type "range",data:=.fields #[.int lo t,.int hi u,.int 1 v]},toks:=tk}:=I.kept λb o e=>zxE _ e
 refine⟨(s.heap.push {cls:=.type "range",data:=.fields #[.int lo t,.int hi u,.int 1 v]}).objs.size,[(s.heap.push {cls:=.type "range",data:=.fields #[.int lo t,.int hi u,.int 1 v]}).objs.size],_,_,H,rfl,
  I1.kept (t':=tk) λb o e=>zxE _ e,zfA _ lo (hi-lo).toNat, ?_,λb hb=>?_,q⟩
 · have e1:lo+((0:Nat):Int)*1=lo:=by simp
   have e2:(((hi-lo).toNat:Nat):Int)-((0:Nat):Int)=Builtin.Range.rangeSize lo hi 1:=by rw[rangeSize_one];split<;>omega
   show IsRangeIter _ _ (lo+((0:Nat):Int)*1) ((((hi-lo).toNat:Nat):Int)-((0:Nat):Int)) 1
   rw[e1,e2]
   exact zxG _ rfl
 · have e:b=(s.heap.push {cls:=.type "range",data:=.fields #[.int lo t,.int hi u,.int 1 v]}).objs.size:=by simpa using hb
   subst e
   exact I1.fpOk (zzJ _) (I1.hok.fresh (zzJ _))
def zoJ(ta:TA):TI:=λσ H R=>ta σ H λvs H1=>∃j:Int,vs=[.int j] /\ -(2 ^ 62)<=j/\j<2 ^ 62/\R (Itr 0 j.toNat) H1
def zos(ta:TA):TI:=λσ H R=>ta σ H λvs H1=>∃i j:Int,vs=[.int i,.int j]/\(-(2 ^ 62)<=i/\i<2 ^ 62 /\ -(2 ^ 62)<=j/\j<2 ^ 62)/\R (Itr i (j-i).toNat) H1
theorem zhu{a:Expr}{ta:TA}{p pos:Pos}(hg:Gl X "range")(hm:X.mg "range"=none)(ha:PA X [a] ta)(hs:starEach [a] X.env=[(false,eval a X.env)]:=by rfl):PI X tg (.Call (.Name "range" p) [a] [] pos) (zoJ ta):=by
 intro pins s σ H R I h
 refine Call_ (Wo I hg hm boot_range (PyProof.Rows.callWith_type1 (thn (ha pos pins s σ H _ I h) λus s1 ⟨vs,H1,I1,r1,q1⟩=>?_) hs rfl))
 obtain⟨j,e,q1,q2,q⟩:=q1
 subst e
 cases r1 with
 |cons r rr=>
  cases rr
  obtain⟨t,rfl⟩:=r
  exact call_range_1 (zeb I1 (by omega) (by omega) q1 q2 (by simpa using q))
theorem zhk(hg:Gl X "range")(hm:X.mg "range"=none)(ha:PA X [a,b] ta)(hs:starEach [a,b] X.env=[(false,eval a X.env),(false,eval b X.env)]:=by rfl)(hs2:starEach [b] X.env=[(false,eval b X.env)]:=by rfl):
 PI X tg (.Call (.Name "range" p) [a,b] [] pos) (zos ta):=by
 intro pins s σ H R I h
 refine Call_ (Wo I hg hm boot_range (PyProof.Rows.callWith_type1 (thn (ha pos pins s σ H _ I h) λus s1 ⟨vs,H1,I1,r1,q1⟩=>?_) (by rw[hs,hs2]) (by rw[hs2];rfl)))
 obtain⟨i,j,e,⟨q1,q2,q3,q4⟩,q⟩:=q1
 subst e
 cases r1 with
 |cons r rr=>
  cases rr with
  |cons r' rr=>
   cases rr
   obtain⟨t,rfl⟩:=r
   obtain⟨t',rfl⟩:=r'
   exact call_range_2 (zeb I1 q1 q2 q3 q4 q)
def zpF(wi:TI)(g:TG)(tb:TS):TS:=λD σ H=>wi σ H λJ H1=>∃W:Nat->Nat->St->Hp->Prop,(∃m,W 0 m σ H1)/\∀i m σ H,W i m σ H->
 (J.stop i H/\D.nx σ H)\/(J.go i H/\∃N:St->Hp->Prop,(∀σ' H',N σ' H'->∃m',m'<m/\W (i+1) m' σ' H')/\∀x H',J.yld i H x H'->g x σ H' λσ2 H2=>tb {D with nx:=N,ct:=N,bk:=D.nx} σ2 H2)
def zaJ(fp:List Addr)(h:Heap):List (Addr×Obj):=fp.filterMap λb=>(h.get? b).map λo=>(b,o)
theorem Ys(hb:b ∈ fp)(e:h.get? b=some o):(b,o) ∈ zaJ fp h:=List.mem_filterMap.mpr ⟨b,hb,by rw[e];rfl⟩
theorem zhc(hp:p ∈ zaJ fp h):p.1 ∈ fp/\h.get? p.1=some p.2:=by
 obtain⟨b,hb,e⟩:=List.mem_filterMap.mp hp
 cases q:h.get? b with
 |none=>rw[q]at e;cases e
 |some o=>
  rw[q]at e
  have e':(b,o)=p:=zzV e
  subst e'
  exact⟨hb,q⟩
theorem Inv.pinned(I:Inv X pins σ H s)(hf:∀b ∈ fp,zae X pins H b)(ho:∀b ∈ fp,∃o,s.heap.get? b=some o/\∀v,o.data ≠ .cell v):Inv X (pins++zaJ fp s.heap) σ H s:=
 I.pins_of λp hp=>(zzI.mp hp).elim (λz=>I.pin p (zzH _ z)) λz=>by
  obtain⟨hb,e⟩:=zhc z
  obtain⟨f0,f1,f2,_⟩:=hf p.1 hb
  obtain⟨o,e',d⟩:=ho p.1 hb
  rw[e]at e';cases e'
  exact⟨e,f0,f1,f2,d⟩
theorem Inv.unpinned(I:Inv X (pins++pl) σ H s):Inv X pins σ H s:=I.pins_of λp hp=>I.pin p (zzH _ (zzL _ hp))
theorem zni(hp:PassesOwn (model X.prog X.w) X.A X.env X.xe)(hc:X.calm=true)(hi:PI X tg iter wi)(hg:PG X tg g)(hb:PSs X body tb)
 (hs:∀x,foldedSetIterable iter X.env x=pure x:=by intro _;rfl):PS X (.For tg iter body [] pos) (zpF wi g tb):=by
 intro pins s σ H D I h
 refine wpAny_For (thn (hi pins s σ H _ I h) λv s1 h1=>thn h1 λitv s2 h2=>?_) hs
 obtain⟨it,fp,tn,J,H2,e,I2,T,st2,f2,W,⟨m0,w0⟩,turn⟩:=h2
 subst e
 have stat:∀{H':Hp},(∀b ∈ fp,H' b=none)->∀b ∈ fp,zae X pins H' b:=λhn b hb=>⟨hn b hb,(f2 b hb).2⟩
 refine codeAny_forLoop_any (λn s'=>∃i σ' H',Inv X pins σ' H' s'/\tn i s'.heap/\(∀b ∈ fp,H' b=none)/\W i n σ' H') ?_ m0 ⟨0,σ,H2,I2,st2,λb hb=>(f2 b hb).1,w0⟩
 rintro n s3 ⟨i,σ3,H3,I3,st3,fr3,w3⟩
 rcases turn i n σ3 H3 w3 with⟨stop,qn⟩|⟨go,N,hN,step⟩
 · refine wpAny_passesOwn hp (thn (T.done X rfl rfl rfl hc i pins s3 σ3 H3 X.xe I3 (stat fr3) st3 stop) λr s4 ⟨hr,I4⟩=>?_)
   subst hr
   exact wpAny_execs_nil ⟨σ3,H3,I4,qn⟩
 · refine wpAny_passesOwn hp (thn (T.item X rfl rfl rfl hc i pins s3 σ3 H3 X.xe I3 (stat fr3) st3 go) λr s4 ⟨u,hr,h4⟩=>?_)
   subst hr
   refine wpAny_passesOwn hp (thn h4 λ_ s5 ⟨x,H5,I5,r5,y5,st5,fr5⟩=>?_)
   have I5':=I5.pinned (stat fr5) (T.obj _ _ st5)
   refine wpAny_passesOwn hp (thn (hg _ s5 σ3 H5 x u _ I5' r5 (step x H5 y5)) λ_ s6 ⟨σ6,H6,I6,q6⟩=>?_)
   refine wpAny_passesOwn hp (thn (hb _ s6 σ6 H6 _ I6 q6) λf s7 q7=>?_)
   have again:∀{σ7:St}{H7:Hp},Inv X (pins++zaJ fp s5.heap) σ7 H7 s7->N σ7 H7->∃m,m<n/\∃i σ' H',Inv X pins σ' H' s7/\tn i s7.heap/\(∀b ∈ fp,H' b=none)/\W i m σ' H':=λ{σ7 H7} I7 n7=>by
    obtain⟨m',hm,w7⟩:=hN σ7 H7 n7
    refine⟨m',hm,i+1,σ7,H7,I7.unpinned,T.keep _ _ _ st5 λb hb o e=>(I7.pin (b,o) (zzH _ (zzH _ (Ys hb e)))).1,λb hb=>?_,w7⟩
    obtain⟨o,e,d⟩:=T.obj _ _ st5 b hb
    exact(I7.pin (b,o) (zzH _ (zzH _ (Ys hb e)))).2.1
   cases f with
   |next=>obtain⟨σ7,H7,I7,n7⟩:=q7;exact again I7 n7
   |cont=>obtain⟨σ7,H7,I7,n7⟩:=q7;exact again I7 n7
   |brk=>obtain⟨σ7,H7,I7,q7⟩:=q7;exact⟨σ7,H7,I7.unpinned,q7⟩
   |ret v=>obtain⟨x7,σ7,H7,I7,r7,q7⟩:=q7;exact⟨x7,σ7,H7,I7.unpinned,r7,q7⟩
end
end L2
namespace L2
open PySem PySem.Spec PyProof.Rows
abbrev R2:=V->V->Hp->VK->Prop
def OpR(X:Cx)(f:Value->Value->Sem Value)(r:R2):Prop:=
 ∀(pins:List (Addr×Obj)) (s:Shared) (σ:St) (H:Hp) (x y:V) (v u:Value) (Q:VK),Inv X pins σ H s->RelV x v->RelV y u->r x y H Q->
  wpAny (model X.prog X.w) X.A (f v u) (EP X pins σ Q) X.xe s
def UnR(X:Cx)(f:Value->Sem Value)(r:V->Hp->VK->Prop):Prop:=
 ∀(pins:List (Addr×Obj)) (s:Shared) (σ:St) (H:Hp) (x:V) (v:Value) (Q:VK),Inv X pins σ H s->RelV x v->r x H Q->
  wpAny (model X.prog X.w) X.A (f v) (EP X pins σ Q) X.xe s
def ZV(X:Cx)(f:Value)(r:List V->Hp->VK->Prop):Prop:=
 ∀(pins:List (Addr×Obj)) (s:Shared) (σ:St) (H:Hp) (xs:List V) (us:List Value) (Q:VK),Inv X pins σ H s->Vals xs us->r xs H Q->
  wpAny (model X.prog X.w) X.A (call f us) (EP X pins σ Q) X.xe s
def zpe(X:Cx)(r:V->Hp->(Bool->Hp->Prop)->Prop):Prop:=
 ∀(pins:List (Addr×Obj)) (s:Shared) (σ:St) (H:Hp) (x:V) (v:Value) (Q:Bool->Hp->Prop),Inv X pins σ H s->RelV x v->r x H Q->
  wpAny (model X.prog X.w) X.A (truthy v) (TP X pins σ Q) X.xe s
def tOp(r:R2)(ta tb:TE):TE:=λσ H Q=>ta σ H λx H1=>tb σ H1 λy H2=>r x y H2 Q
def tUn(r:V->Hp->VK->Prop)(ta:TE):TE:=λσ H Q=>ta σ H λx H1=>r x H1 Q
def rI(C:Int->Int->Prop)(g:Int->Int->V):R2:=λx y H Q=>∃i j,x = .int i/\y = .int j/\C i j/\Q (g i j) H
def rI0(g:Int->Int->V):R2:=λx y H Q=>∃i j,x = .int i/\y = .int j/\Q (g i j) H
def rU(g:Int->V):V->Hp->VK->Prop:=λx H Q=>∃i,x = .int i/\Q (g i) H
section
variable{X:Cx}{a b c:Expr}{ta tb tc:TE}{pos:Pos}
theorem zmV(ha:PE X a ta)(hb:PE X b tb){pins:List (Addr×Obj)}{s:Shared}{σ:St}{H:Hp}{R:V->V->Hp->Prop}(I:Inv X pins σ H s)
 (h:ta σ H λx H1=>tb σ H1 λy H2=>R x y H2) {Q:Value->Shared->Prop}{f:Value->Value->Sem Value}
 (hf:∀v u s2 x y H2,Inv X pins σ H2 s2->RelV x v->RelV y u->R x y H2->wpAny (model X.prog X.w) X.A (f v u) Q X.xe s2):
 wpAny (model X.prog X.w) X.A (eval a X.env) (λv s₁=>wpAny (model X.prog X.w) X.A (eval b X.env) (λu s₂=>wpAny (model X.prog X.w) X.A (f v u) Q X.xe s₂) X.xe s₁) X.xe s:=by
 refine thn (ha pins s σ H _ I h) λv s1 ⟨x,H1,I1,r1,q1⟩=>?_
 refine thn (hb pins s1 σ H1 _ I1 q1) λu s2 ⟨y,H2,I2,r2,q2⟩=>?_
 exact hf v u s2 x y H2 I2 r1 r2 q2
theorem zlH{op:Operator}{r:R2}(ho:OpR X (binaryOp op) r)(ha:PE X a ta)(hb:PE X b tb):PE X (.BinOp a op b pos) (tOp r ta tb):=by
 intro pins s σ H Q I h
 exact wpAny_BinOp (zmV ha hb I h λv u s2 x y H2 I2 rx ry q=>ho pins s2 σ H2 x y v u Q I2 rx ry q)
theorem znR(ho:UnR X (unaryOp op) r)(ha:PE X a ta):PE X (.UnaryOp op a pos) (tUn r ta):=by
 intro pins s σ H Q I h
 exact UnaryOp_ (thn (ha pins s σ H _ I h) λv s1 ⟨x,H1,I1,r1,q1⟩=>ho pins s1 σ H1 x v Q I1 r1 q1)
theorem opI{f:Value->Value->Sem Value}{C:Int->Int->Prop}{g:Int->Int->Int}
 (rule:∀(i j:Int) (t u:Tok) (s:Shared) (Q:Value->Shared->Prop) (E:Value->Shared->Prop),C i j->Q (.int (g i j) s.toks) {s with toks:=s.toks+1}->wpAny (model X.prog X.w) X.A (f (.int i t) (.int j u)) Q E s):
 OpR X f (rI C λi j=>.int (g i j)):=by
 intro pins s σ H x y v u Q I rx ry h
 obtain⟨i,j,rfl,rfl,hc,q⟩:=h
 obtain⟨t,rfl⟩:=rx
 obtain⟨t',rfl⟩:=ry
 exact rule i j t t' s _ _ hc ⟨.int (g i j),H,I.tok _,⟨_,rfl⟩,q⟩
theorem zoN{f:Value->Value->Sem Value}{g:Int->Int->Int}
 (rule:∀(i j:Int) (t u:Tok) (s:Shared) (Q:Value->Shared->Prop) (E:Value->Shared->Prop),Q (.int (g i j) s.toks) {s with toks:=s.toks+1}->wpAny (model X.prog X.w) X.A (f (.int i t) (.int j u)) Q E s):
 OpR X f (rI0 λi j=>.int (g i j)):=by
 intro pins s σ H x y v u Q I rx ry h
 obtain⟨i,j,rfl,rfl,q⟩:=h
 obtain⟨t,rfl⟩:=rx
 obtain⟨t',rfl⟩:=ry
 exact rule i j t t' s _ _ ⟨.int (g i j),H,I.tok _,⟨_,rfl⟩,q⟩
theorem zkT{f:Value->Value->Sem Value}{g:Int->Int->Bool}
 (rule:∀(i j:Int) (t u:Tok) (s:Shared) (Q:Value->Shared->Prop) (E:Value->Shared->Prop),Q (.bool (g i j)) s->wpAny (model X.prog X.w) X.A (f (.int i t) (.int j u)) Q E s):
 OpR X f (rI0 λi j=>.bl (g i j)):=by
 intro pins s σ H x y v u Q I rx ry h
 obtain⟨i,j,rfl,rfl,q⟩:=h
 obtain⟨t,rfl⟩:=rx
 obtain⟨t',rfl⟩:=ry
 exact rule i j t t' s _ _ ⟨.bl (g i j),H,I,rfl,q⟩
def zpp(i j:Int):Prop:=0<=j/\j<=1000000/\i.natAbs<2 ^ 64
theorem znf:OpR X (binaryOp .Add) (rI0 λi j=>.int (i+j)):=zoN λ_ _ _ _ _ _ _ q=>add_int q
theorem znj:OpR X (binaryOp .Sub) (rI0 λi j=>.int (i-j)):=zoN λ_ _ _ _ _ _ _ q=>sub_int q
theorem zmU:OpR X (binaryOp .Mod) (rI (λ_ j=>0<j) λi j=>.int (i%j)):=opI λi j _ _ _ _ _ hc q=>by
 have h1:(0:Int)<j:=hc
 exact mod_int' (by omega) (by rw[Int.fmod_eq_emod_of_nonneg i (by omega)];exact q)
theorem zlS:OpR X (binaryOp .Pow) (rI zpp λi j=>.int (i ^ j.toNat)):=opI λ_ _ _ _ _ _ _ hc q=>pow_int_small hc.1 hc.2.1 hc.2.2 q
theorem unI{f:Value->Sem Value}{g:Int->Int}
 (rule:∀(i:Int) (t:Tok) (s:Shared) (Q:Value->Shared->Prop) (E:Value->Shared->Prop),Q (.int (g i) s.toks) {s with toks:=s.toks+1}->wpAny (model X.prog X.w) X.A (f (.int i t)) Q E s):
 UnR X f (rU λi=>.int (g i)):=by
 intro pins s σ H x v Q I rx h
 obtain⟨i,rfl,q⟩:=h
 obtain⟨t,rfl⟩:=rx
 exact rule i t s _ _ ⟨.int (g i),H,I.tok _,⟨_,rfl⟩,q⟩
theorem zmE:UnR X (unaryOp .USub) (rU λi=>.int (-i)):=unI λ_ _ _ _ _ q=>neg_int q
end
section
variable{X:Cx}{a b c:Expr}{ta tb tc:TE}{pos:Pos}
theorem wy(I:Inv X pins σ H s)(q:Q (.bl k) H)(e:k=k'):EP X pins σ Q (.bool k') s:=by
 subst e
 exact⟨.bl k,H,I,rfl,q⟩
theorem zoj:OpR X (compareOp .Lt) (rI0 λi j=>.bl (decide (i<j))):=zkT λ_ _ _ _ _ _ _ q=>lt_int q
theorem zow:OpR X (compareOp .LtE) (rI0 λi j=>.bl (decide (i<=j))):=zkT λ_ _ _ _ _ _ _ q=>le_int q
theorem znU:OpR X (compareOp .Gt) (rI0 λi j=>.bl (decide (j<i))):=zkT λ_ _ _ _ _ _ _ q=>gt_int q
theorem zoG:OpR X (compareOp .GtE) (rI0 λi j=>.bl (decide (j<=i))):=zkT λ_ _ _ _ _ _ _ q=>ge_int q
theorem zhv:OpR X (compareOp .In) (λx y H Q=>∃i j,x = .str i/\y = .str j/\Q (.bl (!(Builtin.Str.occurrences j i 0 j.length 1).isEmpty)) H):=by
 intro pins s σ H x y v u Q I rx ry h
 obtain⟨i,j,rfl,rfl,q⟩:=h
 obtain⟨t,rfl⟩:=rx
 obtain⟨t',rfl⟩:=ry
 exact in_str (wy I q rfl)
theorem znD:OpR X (compareOp .Is) (λx y H Q=>y = .non/\Q (.bl (decide (x = .non))) H):=by
 intro pins s σ H x y v u Q I rx ry h
 obtain⟨rfl,q⟩:=h
 cases ry
 refine is_none_gen (wy I q ?_)
 cases x<;>first
  |(cases rx;rfl)
  |(obtain⟨t,rfl⟩:=rx;rfl)
theorem zkv:OpR X (compareOp .IsNot) (λx y H Q=>y = .non/\Q (.bl (!decide (x = .non))) H):=by
 intro pins s σ H x y v u Q I rx ry h
 obtain⟨rfl,q⟩:=h
 cases ry
 refine isnot_none_gen (wy I q ?_)
 cases x<;>first
  |(cases rx;rfl)
  |(obtain⟨t,rfl⟩:=rx;rfl)
theorem zcG:OpR X (compareOp .NotIn) (λx y H Q=>∃i j,x = .str i/\y = .str j/\Q (.bl (!(!(Builtin.Str.occurrences j i 0 j.length 1).isEmpty))) H):=by
 intro pins s σ H x y v u Q I rx ry h
 obtain⟨i,j,rfl,rfl,q⟩:=h
 obtain⟨t,rfl⟩:=rx
 obtain⟨t',rfl⟩:=ry
 exact notIn_str (wy I q rfl)
theorem zX(b:Expr)(h:op ≠ .In:=by decide)(h2:op ≠ .NotIn:=by decide):behindInMarks op b=false:=by
 have e1:(op==CmpOp.In)=false:=by cases op<;>first|rfl|exact absurd rfl h
 have e2:(op==CmpOp.NotIn)=false:=by cases op<;>first|rfl|exact absurd rfl h2
 cases b<;>simp[behindInMarks,e1,e2]
theorem zjI{op:CmpOp}{r:R2}(ho:OpR X (compareOp op) r)(ha:PE X a ta)(hb:PE X b tb)(hm:behindInMarks op b=false):PE X (.Compare a [op] [b] pos) (tOp r ta tb):=by
 intro pins s σ H Q I h
 exact wpAny_Compare1 (zmV ha hb I h λv u s2 x y H2 I2 rx ry q=>ho pins s2 σ H2 x y v u Q I2 rx ry q) hm
def zox(t:TE):TT:=λσ H Q=>t σ H λx H'=>∃k,x = .bl k/\Q k H'
theorem zjJ(ho:OpR X (compareOp op) r)(ha:PE X a ta)(hb:PE X b tb)(hm:behindInMarks op b=false):PT X (.Compare a [op] [b] pos) (zox (tOp r ta tb)):=by
 intro pins s σ H Q I h
 refine wpAny_isTrue_Compare1 (thn (ha pins s σ H _ I h) λv s1 ⟨x,H1,I1,r1,q1⟩=>thn (hb pins s1 σ H1 _ I1 q1) λu s2 ⟨y,H2,I2,r2,q2⟩=>
  thn (ho pins s2 σ H2 x y v u _ I2 r1 r2 q2) λc s3 ⟨z,H3,I3,r3,k,e,q3⟩=>?_) hm
 subst e
 cases r3
 exact wpAny_truthy_bool ⟨H3,I3,q3⟩
def zmT(K:zC)(x:V)(H:Hp)(k:Bool):Prop:=
 match x with
 | .non=>k=false
 | .bl b=>k=b
 | .int i=>k=(i != 0)
 | .str y=>y.length<=sizeLine/\k=((y.length:Int) != 0)
 | .byt y=>y.size<=sizeLine/\k=((y.size:Int) != 0)
 | .ref p=>(∃xs,SqL K H p xs/\k = !xs.isEmpty)\/(∃xs,SqT K H p xs/\k = !xs.isEmpty)\/∃kvs,H p=some (.dK kvs)/\k = !kvs.isEmpty
 |_=>False
theorem zfh(r:KV kvs vs):(!vs.isEmpty) = !kvs.isEmpty:=by
 cases r<;>rfl
theorem zbm(r:Vals xs its):(!its.toArray.isEmpty) = !xs.isEmpty:=by
 cases r<;>simp
theorem Wd:(sizeLine:Nat)<2 ^ 63:=by rw[sizeLine_eq];decide
theorem zne:zpe X (λx H Q=>∃k,zmT X.K x H k/\Q k H):=by
 intro pins s σ H x v Q I rx h
 obtain⟨k,e,q⟩:=h
 have hl:=Wd
 have hs:sizeLine=16777216:=sizeLine_eq
 cases x with
 |non=>
  cases rx
  have e':k=false:=e
  subst e'
  exact truthy_none ⟨H,I,q⟩
 |bl b=>
  cases rx
  have e':k=b:=e
  subst e'
  exact wpAny_truthy_bool ⟨H,I,q⟩
 |int i=>
  obtain⟨t,rfl⟩:=rx
  have e':k=(i != 0):=e
  subst e'
  exact PySem.P.truthy_int ⟨H,I,q⟩
 |str y=>
  obtain⟨t,rfl⟩:=rx
  obtain⟨hy,e'⟩:y.length<=sizeLine/\k=((y.length:Int) != 0):=e
  subst e'
  exact PySem.P.truthy_str (by omega) ⟨H,I.tok _,q⟩
 |byt y=>
  obtain⟨t,rfl⟩:=rx
  obtain⟨hy,e'⟩:y.size<=sizeLine/\k=((y.size:Int) != 0):=e
  subst e'
  exact PySem.W.truthy_bytes (by omega) ⟨H,I.tok _,q⟩
 |ref p=>
  cases rx
  have e':(∃xs,SqL X.K H p xs/\k = !xs.isEmpty)\/(∃xs,SqT X.K H p xs/\k = !xs.isEmpty)\/∃kvs,H p=some (.dK kvs)/\k = !kvs.isEmpty:=e
  rcases e' with⟨xs,hx,e'⟩|⟨xs,hx,e'⟩|⟨kvs,hx,e'⟩
  · subst e'
    obtain⟨its,r,pl,hz⟩:=I.list hx
    have hlen:=r.length
    exact wpAny_truthy_list pl.isList (by simp only[zzD];omega) ⟨H,I.tok _,by rw[zbm r];exact q⟩
  · subst e'
    obtain⟨its,r,pl,hz⟩:=I.tuple hx
    have hlen:=r.length
    exact truthy_tuple pl (by simp only[zzD];omega) ⟨H,I.tok _,by rw[zbm r];exact q⟩
  · subst e'
    obtain⟨hz,hS,vs,r,m⟩:kvs.length<=sizeLine/\(p==sysModules)=false/\∃vs,KV kvs vs/\s.heap.DictOf (xr X.prog X.w) p vs:=I.hok p _ hx
    have hlen:kvs.length=vs.length:=Paired.length r
    exact wpAny_truthy_dict hS m (by omega) ⟨H,I.tok _,by rw[zfh r];exact q⟩
 |_=>exact(show False from e).elim
theorem zhX(ha:PE X a ta)(he:∀whole,isTrue a X.env whole=(do let v <-whole;standAt a.pos;holding [v] (truthy v))):
 PT X a (λσ H Q=>ta σ H λx H'=>∃k,zmT X.K x H' k/\Q k H'):=by
 intro pins s σ H Q I h
 exact isTrue_plain (thn (ha pins s σ H _ I h) λv s1 ⟨x,H1,I1,r1,q1⟩=>zne pins s1 σ H1 x v Q I1 r1 q1) (he _)
theorem zeV:OpR X (binaryOp .Add) (λx y H Q=>∃i j,x = .str i/\y = .str j/\i.length+j.length<=sizeLine/\Q (.str (i++j)) H):=by
 intro pins s σ H x y v u Q I rx ry h
 obtain⟨i,j,rfl,rfl,hz,q⟩:=h
 obtain⟨t,rfl⟩:=rx
 obtain⟨t',rfl⟩:=ry
 exact add_str (λt' tk=>⟨.str (i++j),H,I.tok _,⟨_,rfl⟩,q⟩) hz
theorem vals1(r:Vals [x] us):∃u,us=[u]/\RelV x u:=by
 cases r with
 |cons r1 r2=>cases r2;exact⟨_,rfl,r1⟩
theorem vals2(r:Vals [x,y] us):∃u w',us=[u,w']/\RelV x u/\RelV y w':=by
 cases r with
 |cons r1 r2=>
  cases r2 with
  |cons r3 r4=>cases r4;exact⟨_,_,rfl,r1,r3⟩
theorem zhg(hc:X.calm=true):ZV X (.builtin "max") (λxs H Q=>∃i j,xs=[.int i,.int j]/\Q (.int (if j > i then j else i)) H):=by
 intro pins s σ H xs us Q I r h
 obtain⟨i,j,rfl,q⟩:=h
 obtain⟨u,w',rfl,⟨t,rfl⟩,⟨t',rfl⟩⟩:=vals2 r
 refine max_two_ints (I.ok.hd hc) λh' tk k=>⟨_,H,I.kept k, ?_,q⟩
 by_cases hj:j > i
 · rw[if_pos hj,if_pos hj];exact⟨_,rfl⟩
 · rw[if_neg hj,if_neg hj];exact⟨_,rfl⟩
theorem zgU(hc:X.calm=true):ZV X (.builtin "min") (λxs H Q=>∃i j,xs=[.int i,.int j]/\Q (.int (if j<i then j else i)) H):=by
 intro pins s σ H xs us Q I r h
 obtain⟨i,j,rfl,q⟩:=h
 obtain⟨u,w',rfl,⟨t,rfl⟩,⟨t',rfl⟩⟩:=vals2 r
 refine min_two_ints (I.ok.hd hc) λh' tk k=>⟨_,H,I.kept k, ?_,q⟩
 by_cases hj:j<i
 · rw[if_pos hj,if_pos hj];exact⟨_,rfl⟩
 · rw[if_neg hj,if_neg hj];exact⟨_,rfl⟩
theorem zcq:ZV X (.type "int") (λxs H Q=>(∃i,xs=[.int i]/\Q (.int i) H)\/∃k,xs=[.bl k]/\Q (.int (if k then 1 else 0)) H):=by
 intro pins s σ H xs us Q I r h
 rcases h with⟨i,rfl,q⟩|⟨k,rfl,q⟩
 · obtain⟨u,rfl,t,rfl⟩:=vals1 r
   exact call_int_int ⟨.int i,H,I,⟨_,rfl⟩,q⟩
 · obtain⟨u,rfl,r1⟩:=vals1 r
   cases r1
   exact call_int_bool ⟨.int (if k then 1 else 0),H,I.tok _,⟨_,rfl⟩,q⟩
theorem zcS:ZV X (.type "str") (λxs H Q=>∃i,xs=[.int i]/\i.natAbs.log2<1920/\Q (.str (toString i)) H):=by
 intro pins s σ H xs us Q I r h
 obtain⟨i,rfl,hz,q⟩:=h
 obtain⟨u,rfl,t,rfl⟩:=vals1 r
 exact PySem.P.str_of_int hz ⟨.str _,H,I.tok _,⟨_,rfl⟩,q⟩
end
end L2
namespace L2
open PySem PySem.Spec PyProof.Rows
structure ObjM(h:Heap)(x dx C:Addr)(mA:Str->Option Value):Prop where
 obj:h.get? x=some (PySem.W.instObj C dx)
 ns:h.Ns1 dx mA
 ne:dx≠x
theorem zab.some_of(r:zab (some v) o):∃u,o=some u/\RelV v u:=by
 cases o with
 |none=>exact(show False from r).elim
 |some u=>exact⟨u,rfl,r⟩
structure Cls(K:zC)(C:Addr):Prop where
 pg:PySem.W.plainGet K C Str.empty=true
 hd:PySem.W.hasDictIn K C=true
 po:PySem.W.plainOver K C=true
 sa:PySem.W.findIn K (.ref C) "__setattr__"=some (some (.builtin "object.__setattr__"))
structure Con(K:zC)(C:Addr)(f:Str)(v:V)(u:Value):Prop where
 at_:PySem.W.findIn K (.ref C) f=some (some u)
 rel:RelV v u
 get:PySem.W.specialIn K u "__get__"=some none
 cp:PySem.W.copiedNames.contains f=false
structure Meth(K:zC)(C:Addr)(m:Str)(f:Addr):Prop where
 at_:PySem.W.findIn K (.ref C) m=some (some (.ref f))
 fn:PySem.W.isFn K (.ref f)=true
 kp:PySem.W.keepIn K (.ref f)=true
section
variable{X:Cx}{pins:List (Addr×Obj)}{σ:St}{H:Hp}{s:Shared}{a C dx:Addr}{fs:List (Str×V)}{f:Str}{v:V}{A:Around}{E:Value->Shared->Prop}
theorem zkw(hb:attributeBase e f env (eval e env)=eval e env)
 (h:wpAny (model prog w) A (eval e env) (λo s₁=>wpAny (model prog w) A (getAttr o f true) Q E s₁) E s):wpAny (model prog w) A (eval (.Attribute e f pos) env) Q E s:=
 Attribute_any_ h (by rw[arm_eval_Attribute,hb])
end
section
variable{X:Cx}{pins:List (Addr×Obj)}{σ:St}{H:Hp}{s:Shared}{A:Around}{E:Value->Shared->Prop}{Q:Value->Shared->Prop}{c:Value}{b:Bool}
inductive TyOf(K:zC)(H:Hp):V->Value->Prop where
 |non:TyOf K H .non (.type "NoneType")
 |bl (x:Bool):TyOf K H (.bl x) (.type "bool")
 |int (i:Int):TyOf K H (.int i) (.type "int")
 |str (x:Str):TyOf K H (.str x) (.type "str")
 |flt (x:UInt64):TyOf K H (.flt x) (.type "float")
 |lst {a:Addr}{xs:List V}(e:H a=some (.lst xs)):TyOf K H (.ref a) (.type "list")
 |frz {a:Addr}{o:Obj}{xs:List V}(e:H a=some (.frz o (.lst xs))):TyOf K H (.ref a) (.type "list")
 |tup {a:Addr}{xs:List V}(e:H a=some (.tup xs)):TyOf K H (.ref a) (.type "tuple")
 |dK {a:Addr}{kvs:List (Key×V)}(e:H a=some (.dK kvs)):TyOf K H (.ref a) (.type "dict")
 |dT {a:Addr}{kvs:List (List Key×V)}(e:H a=some (.dT kvs)):TyOf K H (.ref a) (.type "dict")
 |ins {a C dx:Addr}{fs:List (Str×V)}(e:H a=some (.ins C dx fs)) (cl:Cls K C) (ha:PySem.W.findIn K (.ref C) "__class__"=some (some (.builtin "object.__class__")))
  (hn:PySem.W.specialIn K (.builtin "object.__class__") "__get__"=some (some (.builtin "getset_descriptor.__get__"))) (htk:PySem.W.takesIn K (.builtin "object.__class__")=some true)
  (hm:PySem.W.mroIn K C (.type "object")=some true):TyOf K H (.ref a) (.ref C)
end
end L2
namespace L2
open PySem PySem.Spec PyProof.Rows
structure Room(k:Nat)(A:Around):Prop where
 hd:A.handled=none
 dp:A.depth+3*k+5<recursionLimit
 un:A.units+16*k+200<cLine
 gd:A.guards=some []
theorem Room.mono(r:Room k A)(h:j<=k):Room j A:=⟨r.hd,by have:=r.dp;omega,by have:=r.un;omega,r.gd⟩
theorem Room.deeper(r:Room (k+1) A)(env:Env):Room k (A.deeper env):=
 ⟨r.hd,by have:=r.dp;show A.depth+1+3*k+5<_;omega,by have:=r.un;show A.units+3+16*k+200<_;omega,r.gd⟩
theorem zeJ{A:Around}{C:Addr}{us:List Value}{kw:List (Str×Value)}:(A.under (.builtin "type.__call__" ⟨.ref C::us,kw⟩)).depth=A.depth+1:=by
 first|rfl|simp[Around.under,Code.weight,Code.isCreation,Code.isGuard,Code.isCaller,Code.frames,Code.isFrame,guardIds]
theorem zfp{A:Around}{C:Addr}{us:List Value}{kw:List (Str×Value)}:(A.under (.builtin "type.__call__" ⟨.ref C::us,kw⟩)).units=A.units+1:=by
 first|rfl|simp[Around.under,Code.cUnits,Code.frames,Code.isFrame]
theorem zex{A:Around}{C:Addr}{us:List Value}{kw:List (Str×Value)}:(A.under (.builtin "type.__call__" ⟨.ref C::us,kw⟩)).guards=A.guards:=by
 first|rfl|simp[Around.under,Code.guards,Code.isGuard,guardIds,PySem.pushGuards]
theorem Room.make{k:Nat}{A:Around}(r:Room (k+1) A)(C:Addr)(us:List Value)(kw:List (Str×Value)):Room k (A.under (.builtin "type.__call__" ⟨.ref C::us,kw⟩)):=
 ⟨r.hd,by have:=r.dp;rw[zeJ];omega,by have:=r.un;rw[zfp];omega,by rw[zex];exact r.gd⟩
theorem Room.depth(r:Room k A):A.depth<recursionLimit:=by have:=r.dp;omega
def zps:TA:=λ_ H Q=>Q [] H
def zgi(ta:TE)(tr:TA):TA:=λσ H Q=>ta σ H λx H1=>tr σ H1 λxs H2=>Q (x::xs) H2
section
variable{X:Cx}{e:Expr}{es:List Expr}{te:TE}{t:TA}{pos:Pos}
theorem Zo:PA X [] zps:=λ_ _ _ _ H Q I h=>Calls.spliced_nil ⟨[],H,I,.nil,h⟩
theorem yQ(ha:PE X e te)(hr:PA X es t)(hs:starEach (e::es) X.env=(false,eval e X.env)::starEach es X.env:=by rfl):PA X (e::es) (zgi te t):=by
 intro pos pins s σ H Q I h
 rw[hs]
 show wpAny _ _ (spliced ((false,eval e X.env)::backTo pos (starEach es X.env))) _ _ s
 refine Calls.spliced_cons (thn (ha pins s σ H _ I h) λu s1 ⟨x,H1,I1,r1,q1⟩=>?_)
 exact thn (hr pos pins s1 σ H1 _ I1 q1) λus s2 ⟨xs,H2,I2,r2,q2⟩=>⟨x::xs,H2,I2,.cons r1 r2,q2⟩
def zpG(t:TA):TE:=λσ H Q=>t σ H λxs H1=>xs.length<=sizeLine/\∀p,H1 p=none->Q (.ref p) (upd H1 p (.tup xs))
def zpj(t:TA):TE:=λσ H Q=>t σ H λxs H1=>xs.length<=sizeLine/\∀p,H1 p=none->Q (.ref p) (upd H1 p (.lst xs))
theorem zhM(h:PA X es t):PE X (.Tuple es x1 pos) (zpG t):=by
 intro pins s σ H Q I hq
 refine wpAny_Tuple_spliced (thn (h pos pins s σ H _ I hq) λus s1 ⟨xs,H1,I1,r,z,q⟩=>⟨by rw[<-r.length];exact z, ?_⟩)
 have hf:H1 s1.heap.objs.size=none:=I1.hok.fresh (zzJ _)
 refine⟨.ref s1.heap.objs.size,upd H1 s1.heap.objs.size (.tup xs),I1.laid (t':=s1.toks) (λb u e=>zxE _ e) (zzJ _) ?_,rfl,q _ hf⟩
 exact⟨z,us,r,⟨_,zxG _ rfl,rfl,_,rfl⟩⟩
theorem zmX(h:PA X es t):PE X (.List es pos) (zpj t):=by
 intro pins s σ H Q I hq
 refine wpAny_List_spliced (thn (h pos pins s σ H _ I hq) λus s1 ⟨xs,H1,I1,r,z,q⟩=>⟨by rw[<-r.length];exact z, ?_⟩)
 have hf:H1 s1.heap.objs.size=none:=I1.hok.fresh (zzJ _)
 refine⟨.ref s1.heap.objs.size,upd H1 s1.heap.objs.size (.lst xs),I1.laid (t':=s1.toks) (λb u e=>zxE _ e) (zzJ _) ?_,rfl,q _ hf⟩
 exact⟨z,us,0,r,zxG _ rfl⟩
end
abbrev Sp:=List V->Hp->VK->XK->Prop
abbrev CXT:=List Env->Hp->Shared->XK->Value->Shared->Prop
structure Env0(P:Program)(w:World)(K:zC)(mg:Str->Option Value)(base:Heap)(A:Around)(outer:List Env)(s:Shared)(H:Hp):Prop where
 frames:A.frames=some outer
 mod:Mod K mg base
 bs:∀b o,base.get? b=some o->s.heap.get? b=some o/\H b=none
 bsz:base.objs.size<=s.heap.objs.size
 funs:s.heap.FunFrames base outer
 frf:∀b ∈ frs outer,H b=none
 hok:HOk P w H s.heap
 bare:AllBare s.gens
def CE(outer:List Env)(P:Program)(w:World)(H:Hp)(s:Shared)(Q:VK)(u:Value)(s':Shared):Prop:=
 ∃v H',s'.os=s.os/\AllBare s'.gens/\Un (frs outer) [] H H' s.heap s'.heap/\HOk P w H' s'.heap/\RelV v u/\Q v H'
def CR(CX:CXT)(outer:List Env)(P:Program)(w:World)(H:Hp)(s:Shared)(Q:VK)(E:XK)(r:Result)(s':Shared):Prop:=
 match r with
 | .ok (.ret u)=>CE outer P w H s Q u s'
 | .ok _=>False
 | .error e=>CX outer H s E e s'
structure FnOk(P:Program)(w:World)(K:zC)(mg:Str->Option Value)(base:Heap)(CX:CXT)(k:Nat)(f:Addr)(fd:FuncData)(ps:List Str)(sp:Sp):Prop where
 len:∀vs H Q E,sp vs H Q E->vs.length=ps.length
 run:∀(A:Around) (outer:List Env) (s:Shared) (H:Hp) (args:Args) (us:List Value) (vs:List V) (Q:VK) (E:XK),Room k A->Env0 P w K mg base A outer s H->BindsTo s fd args (ps.zip us)->Vals vs us->sp vs H Q E->
  codeAny (model P w) A (.call (.ref f) args) (CR CX outer P w H s Q E) s
theorem FnOk.imp{P:Program}{w:World}{K:zC}{mg:Str->Option Value}{base:Heap}{CX:CXT}{k:Nat}{f:Addr}{fd:FuncData}{ps:List Str}{sp sp':Sp}(F:FnOk P w K mg base CX k f fd ps sp)
 (h:∀vs H Q E,sp' vs H Q E->sp vs H Q E):FnOk P w K mg base CX k f fd ps sp':=
 ⟨λvs H Q E q=>F.len vs H Q E (h _ _ _ _ q),λA outer s H args us vs Q E hr he hb hv hs=>F.run A outer s H args us vs Q E hr he hb hv (h _ _ _ _ hs)⟩
theorem Env0.make{P:Program}{w:World}{K:zC}{mg:Str->Option Value}{base:Heap}{A:Around}{outer:List Env}{s:Shared}{H:Hp}(e:Env0 P w K mg base A outer s H)(C:Addr)(us:List Value)(kw:List (Str×Value)):
 Env0 P w K mg base (A.under (.builtin "type.__call__" ⟨.ref C::us,kw⟩)) outer s H:=⟨by first|exact e.frames|(simpa[Around.under,Code.envs,Code.isFrame,pushEnvs]using e.frames),e.mod,e.bs,e.bsz,e.funs,e.frf,e.hok,e.bare⟩
section
variable{X:Cx}{pins:List (Addr×Obj)}{σ:St}{H:Hp}{s s':Shared}
theorem Inv.env0(I:Inv X pins σ H s):Env0 X.prog X.w X.K X.mg X.base X.A X.stack s H:=
 ⟨I.ok.frames,I.ok.mod,I.bs,zzK I.ok.bsz I.sz,I.stack,I.stkFree,I.hok,I.bare⟩
theorem Inv.after(I:Inv X pins σ H s)(h:CE X.stack X.prog X.w H s Q u s'):EP X pins σ Q u s':=by
 obtain⟨v,H',os,bare,un,hok,r,q⟩:=h
 obtain⟨hh,g,d,t,os'⟩:=s'
 obtain rfl:os'=s.os:=os
 exact⟨v,H',I.call (h':=hh) (g':=g) (d':=d) (t':=t) (ch:=[]) un hok bare (λb z=>absurd z (by simp)),r,q⟩
end
def zlI(sp:Sp)(dvs:List V)(E:XK)(t:TA):TE:=λσ H Q=>t σ H λvs H1=>sp (vs++dvs) H1 Q E
def Binds(K:zC)(fd:FuncData)(ps:List Str)(ds:List Value):Prop:=
 ∀(s:Shared) (us:List Value),K.In s.heap->(us++ds).length=ps.length->BindsTo s fd ⟨us,[]⟩ (ps.zip (us++ds))
theorem Binds.all{K:zC}{fd:FuncData}{ps:List Str}(h:∀us:List Value,us.length=ps.length->bindArgs fd ⟨us,[]⟩=pure (ps.zip us)):Binds K fd ps []:=λs us _ hl=>by
 rw[zyA]at hl ⊢
 exact .of_eq (h us hl)
def zdB(CX:CXT)(X:Cx)(E:XK):Prop:=∀(pins:List (Addr×Obj)) (σ:St) (H:Hp) (s:Shared) (e:Value) (s':Shared),Inv X pins σ H s->CX X.stack H s E e s'->X.xe e s'
section
variable{X:Cx}{CX:CXT}{k:Nat}{f C:Addr}{fd:FuncData}{ps:List Str}{sp:Sp}{dvs:List V}{ds:List Value}{E:XK}{x m:Str}{p pos apos:Pos}{e o:Expr}{es:List Expr}{ta:TE}{t:TA}
theorem znv(F:FnOk X.prog X.w X.K X.mg X.base CX k f fd ps sp)(hr:Room k X.A)(hb:Binds X.K fd ps ds)(hd:Vals dvs ds)(hx:zdB CX X E)
 (I:Inv X pins σ H s) (r:Vals vs us) (h:sp (vs++dvs) H Q E):wpAny (model X.prog X.w) X.A (call (.ref f) us) (EP X pins σ Q) X.xe s:=by
 have r2:Vals (vs++dvs) (us++ds):=r.append hd
 have hl:(us++ds).length=ps.length:=by rw[<-r2.length];exact F.len _ _ _ _ h
 refine wpAny_call (codeAny_mono (F.run X.A X.stack s H ⟨us,[]⟩ (us++ds) (vs++dvs) Q E hr I.env0 (hb s us I.kIn hl) r2 h) λr s' hq=>?_)
 cases r with
 |error e=>exact hx pins σ H s e s' I hq
 |ok fl=>
  cases fl with
  |ret u=>exact I.after hq
  |next=>exact False.elim hq
  |brk=>exact False.elim hq
  |cont=>exact False.elim hq
theorem zkA(F:FnOk X.prog X.w X.K X.mg X.base CX k f fd ps sp)(hr:Room k X.A)(hg:Gl X x)(hm:X.mg x=some (.ref f))(hk:PySem.W.keepIn X.K (.ref f)=true)(hb:Binds X.K fd ps ds)(hd:Vals dvs ds)(hx:zdB CX X E)
 (ha:PA X (e::es) t) (hdb:(x==("__debug__":Str))=false:=by decide) (he:starEach (e::es) X.env=(false,eval e X.env)::starEach es X.env:=by rfl) (hpl:(backTo pos (starEach es X.env)).any (·.1)=false:=by rfl):
 PE X (.Call (.Name x p) (e::es) [] pos) (zlI sp dvs E t):=by
 intro pins s σ H Q I h
 refine wpAny_Call_Name_kw (Z5 I hg hm ?_ hdb)
 refine PySem.W.callWith_K (h₀:=X.base) I.ok.mod.kin hk (thn (ha pos pins s σ H _ I h) λus s1 ⟨vs,H1,I1,r,q⟩=>⟨I1.kIn, ?_⟩) he hpl
 exact znv F hr hb hd hx I1 r q
structure Mk(K:zC)(C f:Addr):Prop where
 makes:PySem.W.makesIn K C=true
 init:PySem.W.findIn K (.ref C) "__init__"=some (some (.ref f))
 fn:PySem.W.isFn K (.ref f)=true
 kp:PySem.W.keepIn K (.ref C)=true
end
section
variable{X:Cx}{CX:CXT}{k:Nat}{f C:Addr}{fd:FuncData}{ps ks:List Str}{sp:Sp}{E:XK}{x m:Str}{p pos apos kpos:Pos}{e o:Expr}{es:List Expr}{kws:List Keyword}{te ta:TE}{t tk:TA}{nm:Option Str}
structure KBinds(K:zC)(fd:FuncData)(ps ks:List Str)(g:List Value->List Value->List Value)(gV:List V->List V->List V):Prop where
 to:∀(s:Shared) (us ws:List Value),K.In s.heap->(g us ws).length=ps.length->BindsTo s fd ⟨us,ks.zip ws⟩ (ps.zip (g us ws))
 rel:∀{vs:List V}{us:List Value}{zs:List V}{ws:List Value},Vals vs us->Vals zs ws->Vals (gV vs zs) (g us ws)
variable{g:List Value->List Value->List Value}{gV:List V->List V->List V}
end
structure FnScope(N P:List Str)(sc:Scope):Prop where
 kind:sc.kind = .function
 co:sc.isCoroutine=false
 gen:sc.isGenerator=false
 nd:N.Nodup
 pre:N.take P.length=P
 par:∀x ∈ P,sc.names.lookup x=some .local\/sc.names.lookup x=some .cell
 nofree:∀y ∈ sc.names,y.2 ≠ .free
theorem zcx{kindOf:Str->Option NameKind}{x:Str}:∀{binds:List (Str×Value)}{m:Str->Option Value},(∀v,(x,v) ∉ binds)->bindL kindOf binds m x=m x
 | [],_,_=>rfl
 |(n,v)::r,m,h=>by
  unfold bindL
  rw[zcx λw hw=>h w (zS _ hw)]
  split
  · have:x≠n:=by rintro rfl;exact h v zzB
    simp[this]
  · rfl
theorem zcC{kindOf:Str->Option NameKind}{x:Str}:∀{binds:List (Str×Value)}{m:Str->Option Value},(∀v,(x,v) ∉ binds)->bindC kindOf binds m x=m x
 | [],_,_=>rfl
 |(n,v)::r,m,h=>by
  unfold bindC
  rw[zcC λw hw=>h w (zS _ hw)]
  split
  · rfl
  · have:x≠n:=by rintro rfl;exact h v zzB
    simp[this]
theorem zbU{kindOf:Str->Option NameKind}{x:Str}{v:Value}:∀{P:List Str}{vs:List Value}{i:Nat}{m:Str->Option Value},P.Nodup->P[i]? = some x->vs[i]? = some v->kindOf x=some .local->
 bindL kindOf (P.zip vs) m x=some v
 | [],_,_,_,_,h,_,_=>by simp at h
 |_::_,[],_,_,_,_,h,_=>by simp at h
 |p::P,w::vs,0,m,nd,h1,h2,hk=>by
  simp at h1 h2;subst h1;subst h2
  show bindL kindOf ((p,w)::P.zip vs) m p=_
  unfold bindL
  rw[zcx λv hv=>(zzS.mp nd).1 (List.of_mem_zip hv).1,if_pos hk]
  simp
 |p::P,w::vs,i+1,m,nd,h1,h2,hk=>by
  show bindL kindOf ((p,w)::P.zip vs) m x=_
  unfold bindL
  exact zbU (i:=i) (zzS.mp nd).2 (by simpa using h1) (by simpa using h2) hk
theorem zcf{kindOf:Str->Option NameKind}{x:Str}{v:Value}:∀{P:List Str}{vs:List Value}{i:Nat}{m:Str->Option Value},P.Nodup->P[i]? = some x->vs[i]? = some v->kindOf x≠some .local->
 bindC kindOf (P.zip vs) m x=some v
 | [],_,_,_,_,h,_,_=>by simp at h
 |_::_,[],_,_,_,_,h,_=>by simp at h
 |p::P,w::vs,0,m,nd,h1,h2,hk=>by
  simp at h1 h2;subst h1;subst h2
  show bindC kindOf ((p,w)::P.zip vs) m p=_
  unfold bindC
  rw[zcC λv hv=>(zzS.mp nd).1 (List.of_mem_zip hv).1,if_neg hk]
  simp
 |p::P,w::vs,i+1,m,nd,h1,h2,hk=>by
  show bindC kindOf ((p,w)::P.zip vs) m x=_
  unfold bindC
  exact zcf (i:=i) (zzS.mp nd).2 (by simpa using h1) (by simpa using h2) hk
def start(N:List Str)(vs:List V):St:=vs.map some++List.replicate (N.length-vs.length) none
def Xm(CX:CXT)(P:Program)(w:World)(K:zC)(mg:Str->Option Value)(base:Heap)(N:List Str)(qual:Str)(scope:Scope)(f:Addr)(cd:Value)(A:Around)(outer:List Env)(s:Shared)(H:Hp)(E:XK):Cx where
 prog:=P
 w:=w
 K:=K
 mg:=mg
 base:=base
 A:=A.deeper (envOfC qual scope s.heap.objs.size f cd)
 N:=N
 s₀:=s
 H₀:=H
 env:=envOfC qual scope s.heap.objs.size f cd
 outer:=outer
 stack:=envOfC qual scope s.heap.objs.size f cd::outer
 ex:=[]
 calm:=true
 fn:=λ_=>true
 pn:=[]
 xe:=λe s'=>wpAny (model P w) (A.deeper (envOfC qual scope s.heap.objs.size f cd)) (leaving (envOfC qual scope s.heap.objs.size f cd) e) (λ_ s''=>CX outer H s E e s'') (λe' s''=>CX outer H s E e' s'') s'
theorem zeu{sc:Scope}{n:Nat}{x:Str}(h:sc.names.lookup x=some .cell):∃c,(cellsFrom n sc.names []).lookup x=some c:=by
 have q:=PySem.W.cellsFrom_some sc.names n [] (.inl h)
 exact Option.isSome_iff_exists.mp q
theorem zhm{CX:CXT}{P:Program}{w:World}{K:zC}{mg:Str->Option Value}{base:Heap}{N ps:List Str}{qual:Str}{scope:Scope}{f:Addr}{cd:Value}{A:Around}{outer:List Env}{s s1:Shared}{H:Hp}{E:XK}{us:List Value}{vs:List V}
 (S:FnScope N ps scope) (hd:A.handled=none) (e0:Env0 P w K mg base A outer s H) (hl:vs.length=ps.length) (r:Vals vs us)
 (x:InCallC s s.heap.objs.size (bindL (envOfC qual scope s.heap.objs.size f cd).kindOf (ps.zip us) λ_=>none) (cellsFrom (s.heap.objs.size+1) scope.names []) (bindC (envOfC qual scope s.heap.objs.size f cd).kindOf (ps.zip us) λ_=>none) s1):
 Inv (Xm CX P w K mg base N qual scope f cd A outer s H E) [] (start N vs) H s1:=by
 have hpl:ps.length<=N.length:=by have:=congrArg List.length S.pre;rw[zzO]at this;omega
 obtain⟨h1,tk,rfl,hk⟩:=x.done
 have noA:∀b:Addr,b ∉ (Xm CX P w K mg base N qual scope f cd A outer s H E).ex:=λb z=>absurd (show b ∈ ([]:List Addr)from z) (by simp)
 refine⟨⟨e0.mod,S.kind,rfl,rfl,zzJ _,λy z c h1 h2=>?_,λy hy=>?_,λy c _ h=>?_,λ_=>hd,Around.frames_deeper e0.frames,.inr ⟨rfl,rfl⟩,λb z=>absurd z (noA b),e0.bs,e0.bsz,λb _ _=>noA b,λb z=>absurd z (noA b),e0.funs,e0.frf⟩,
  rfl,e0.bare,Un.kept hk,⟨_,x.toInCall.ns,λi y v h1 h2 h3=>?_⟩,λy c h=>⟨_,x.cell y c h⟩,e0.hok.fresh (zzJ _),λy c h=>?_,λp hp=>absurd (show p ∈ ([]:List (Addr×Obj))from hp) (by simp),e0.hok.kept hk, ?_⟩
 · exact name_of_addr x.apart (PySem.mem_of_lookup h1) (PySem.mem_of_lookup h2)
 · have hy:scope.names.lookup y=some .cell\/scope.names.lookup y=some .free:=hy
   rcases hy with hy|hy
   · exact zeu hy
   · exact absurd rfl (S.nofree _ (PySem.mem_of_lookup hy))
 · exact Nat.le_of_lt (x.above y c (PySem.mem_of_lookup h))
 · have hi:i<vs.length:=by
    unfold start at h2
    by_cases hi:i<vs.length
    · exact hi
    · rw[zyN (by simpa using hi)]at h2
      rw[List.getElem?_replicate]at h2
      split at h2<;>cases h2
   have ha:vs[i]? = some v:=by
    unfold start at h2
    rw[zyL (by simpa using hi),zzE]at h2
    cases e:vs[i]? with
    |none=>rw[e]at h2;cases h2
    |some a=>rw[e]at h2;cases h2;rfl
   obtain⟨u,hu,rv⟩:=r.get ha
   have hp:ps[i]? = some y:=by
    rw[<-S.pre,List.getElem?_take_of_lt (by omega)];exact h1
   have ndP:ps.Nodup:=by rw[<-S.pre];exact S.nd.sublist (List.take_sublist _ _)
   refine⟨u,rv, ?_⟩
   rcases S.par y (zzW hp)with k|k
   · exact .inl ⟨k,zbU ndP hp hu k⟩
   · obtain⟨c,e⟩:=zeu (n:=s.heap.objs.size+1) k
     refine .inr ⟨.inl k,c,e, ?_⟩
     have q:=x.cell y c e
     rw[zcf ndP hp hu (by show scope.names.lookup y≠_;rw[k];decide)]at q
     exact q
 · exact e0.hok.fresh (Nat.le_of_lt (x.above y c (PySem.mem_of_lookup h)))
 · unfold start
   show _=N.length
   rw[zzF,zD,List.length_replicate]
   omega
theorem zlR{CX:CXT}{P:Program}{w:World}{K:zC}{mg:Str->Option Value}{base:Heap}{k:Nat}{f:Addr}{name qual:Str}{params:Arguments}{body:List Stmt}{scope:Scope}{dV kV doc pm cdv ct oc:Value}{an od:Option Addr}
 {osl:Array (Option Value)}{N ps:List Str}{sp:Sp}(lk:K.lookup f=some ⟨oc,od,.func (PySem.W.fnOf name qual params body scope dV kV doc pm an cdv ct),osl⟩) (hcd:PySem.W.codeIn K cdv qual=true) (S:FnScope N ps scope)
 (len:∀vs H Q E,sp vs H Q E->vs.length=ps.length)
 (hbody:∀(A:Around) (outer:List Env) (s:Shared) (H:Hp) (vs:List V) (Q:VK) (E:XK),Room k (A.deeper (envOfC qual scope s.heap.objs.size f cdv))->sp vs H Q E->
  ∃t,PSs (Xm CX P w K mg base N qual scope f cdv A outer s H E) body t/\t {nx:=λ_ H'=>Q .non H',rt:=Q} (start N vs) H):
 FnOk P w K mg base CX (k+1) f (PySem.W.fnOf name qual params body scope dV kV doc pm an cdv ct) ps sp:=by
 refine⟨len,λA outer s H args us vs Q E hr e0 hb r hsp=>?_⟩
 have hl:=len _ _ _ _ hsp
 have KX:K.In s.heap:=e0.mod.kin.keeps λb o e=>(e0.bs b o e).1
 have lim:s.heap.NoLimit:=e0.mod.nolimit.keeps λb o e=>(e0.bs b o e).1
 have hkind:∀y ∈ ps.zip us,scope.names.lookup y.1=some .local\/(scope.names.lookup y.1=some .cell/\((cellsFrom (s.heap.objs.size+1) scope.names []).lookup y.1).isSome=true):=λ⟨n,v⟩ hy=>by
  rcases S.par n (List.of_mem_zip hy).1 with q|q
  · exact .inl q
  · exact .inr ⟨q,PySem.W.cellsFrom_some _ _ _ (.inl q)⟩
 refine codeAny_call_function hr.depth (KX _ _ lk) rfl S.co S.gen rfl (PySem.W.codeRec_of KX hcd) (hb _ _ _ _ ?_)
 refine wpAny_newFunctionEnv_cells S.kind hkind λenv he s1 x=>?_
 subst he
 refine⟨lim.keeps x.toInCall.keep,codeAny_func ?_⟩
 obtain⟨t,ht,hq⟩:=hbody A outer s H vs Q E (hr.deeper _) hsp
 have I:Inv (Xm CX P w K mg base N qual scope f cdv A outer s H E) [] (start N vs) H s1:=zhm S hr.hd e0 hl r x
 refine zxP (ht [] s1 (start N vs) H _ I hq) (λfl s' hs=>?_) λe s' hs=>hs
 have fin:∀{σ':St}{H':Hp}{v:V}{u:Value},Inv (Xm CX P w K mg base N qual scope f cdv A outer s H E) [] σ' H' s'->RelV v u->Q v H'->CE outer P w H s Q u s':=
  λ{σ' H' v u} J rv q=>⟨v,H',J.os,J.bare,J.base,J.hok,rv,q⟩
 cases fl with
 |ret u=>
  obtain⟨v,σ',H',J,rv,q⟩:=hs
  exact fin J rv q
 |next=>
  obtain⟨σ',H',J,q⟩:=hs
  exact fin (v:=V.non) (u:=Value.none) J rfl q
 |brk=>
  obtain⟨_,_,_,q⟩:=hs
  exact False.elim q
 |cont=>
  obtain⟨_,_,_,q⟩:=hs
  exact False.elim q
end L2
namespace L2
open PySem PySem.Spec PyProof.Rows
section
variable{X:Cx}{x:Str}{p pos:Pos}{e:Expr}{es:List Expr}{t:TA}{id T:String}{r:List V->Hp->VK->Prop}
def tCB(r:List V->Hp->VK->Prop)(t:TA):TE:=λσ H Q=>t σ H λvs H1=>r vs H1 Q
theorem WN(hc:ZV X (.builtin id) r)(hg:Gl X x)(hm:X.mg x=none)(hv:bootBuiltins x=some (.builtin id))(ha:PA X (e::es) t)(hn:x≠"__name__":=by decide)(hdb:(x==("__debug__":Str))=false:=by decide)
 (he:starEach (e::es) X.env=(false,eval e X.env)::starEach es X.env:=by rfl) (hpl:(backTo pos (starEach es X.env)).any (·.1)=false:=by rfl):PE X (.Call (.Name x p) (e::es) [] pos) (tCB r t):=by
 intro pins s σ H Q I h
 refine wpAny_Call_Name_kw (Wo I hg hm hv ?_ hn hdb)
 exact PyProof.Rows.callWith_builtin1 (thn (ha pos pins s σ H _ I h) λus s1 ⟨vs,H1,I1,r1,q1⟩=>hc pins s1 σ H1 vs us Q I1 r1 q1) he hpl
theorem zgZ(hc:ZV X (.type T) r)(hg:Gl X x)(hm:X.mg x=none)(hv:bootBuiltins x=some (.type T))(ha:PA X (e::es) t)(hn:x≠"__name__":=by decide)(hdb:(x==("__debug__":Str))=false:=by decide)
 (he:starEach (e::es) X.env=(false,eval e X.env)::starEach es X.env:=by rfl) (hpl:(backTo pos (starEach es X.env)).any (·.1)=false:=by rfl):PE X (.Call (.Name x p) (e::es) [] pos) (tCB r t):=by
 intro pins s σ H Q I h
 refine wpAny_Call_Name_kw (Wo I hg hm hv ?_ hn hdb)
 exact PyProof.Rows.callWith_type1 (thn (ha pos pins s σ H _ I h) λus s1 ⟨vs,H1,I1,r1,q1⟩=>hc pins s1 σ H1 vs us Q I1 r1 q1) he hpl
end
end L2
namespace L2
open PySem PySem.Spec PyProof.Rows
section
variable{κ:Type}[DecidableEq κ]
def Yx(kvs:List (κ×V))(k:κ):Option V:=(kvs.find? λkv=>decide (kv.1=k)).map (·.2)
def putK(kvs:List (κ×V))(k:κ)(v:V):List (κ×V):=
 if(kvs.any λkv=>decide (kv.1=k))=true then kvs.map (λkv=>if kv.1=k then(kv.1,v)else kv)else kvs++[(k,v)]
theorem zdT{p:κ×V}{r:List (κ×V)}{k:κ}(e:p.1=k):Yx (p::r) k=some p.2:=by simp[Yx,List.find?_cons,e]
theorem zdW{p:κ×V}{r:List (κ×V)}{k:κ}(e:¬p.1=k):Yx (p::r) k=Yx r k:=by simp[Yx,List.find?_cons,e]
theorem zbz(k:κ):∀kvs:List (κ×V),(kvs.any λkv=>decide (kv.1=k))=(Yx kvs k).isSome
 | []=>rfl
 |p::r=>by
  rw[List.any_cons]
  by_cases e:p.1=k
  · simp only[zdT e,zyK e,Bool.true_or,Option.isSome_some]
  · rw[zdW e,zyC e,Bool.false_or];exact zbz k r
theorem zdE(kvs:List (κ×V))(k:κ)(v:V):(putK kvs k v).length<=kvs.length+1:=by
 unfold putK
 split
 · rw[zD];omega
 · rw[zzF,zzP,List.length_nil];omega
theorem zjr{kvs:List (κ×V)}{k:κ}(v:V)(h:Yx kvs k=none):putK kvs k v=kvs++[(k,v)]:=by
 unfold putK
 rw[zbz,h]
 exact if_neg (by decide)
theorem zab.isSome_eq(r:zab o u):o.isSome=u.isSome:=by
 cases o with
 |none=>cases u with
  |none=>rfl
  |some _=>exact(show False from r).elim
 |some _=>cases u with
  |none=>exact(show False from r).elim
  |some _=>rfl
theorem zab.getD(r:zab o u)(rd:RelV d d'):RelV (o.getD d) (u.getD d'):=by
 cases o with
 |none=>cases u with
  |none=>exact rd
  |some _=>exact(show False from r).elim
 |some _=>cases u with
  |none=>exact(show False from r).elim
  |some _=>exact r
theorem KV.val{kvs:List (κ×V)}{vs:List (κ×Value)}(r:KV kvs vs)(k:κ):zab (Yx kvs k) (valueAt vs k):=by
 unfold KV at r
 induction r with
 |nil=>exact True.intro
 | @cons p q ps qs h t ih=>
  obtain⟨h1,h2⟩:=h
  by_cases e:p.1=k
  · have e':q.1=k:=h1.symm.trans e
    have b:valueAt (q::qs) k=some q.2:=by simp[valueAt,List.find?_cons,e']
    rw[zdT e,b];exact h2
  · have e':¬q.1=k:=λz=>e (h1.trans z)
    have b:valueAt (q::qs) k=valueAt qs k:=by simp[valueAt,List.find?_cons,e']
    rw[zdW e,b];exact ih
theorem KV.any(r:KV kvs vs)(k:κ):(kvs.any λkv=>decide (kv.1=k))=vs.any λkv=>decide (kv.1=k):=by
 unfold KV at r
 induction r with
 |nil=>rfl
 |cons h t ih=>rw[List.any_cons,List.any_cons,ih,h.1]
theorem KV.repl(r:KV kvs vs)(k:κ)(ry:RelV y u):
 KV (kvs.map λkv=>if kv.1=k then(kv.1,y)else kv) (vs.map λkv=>if kv.1=k then(kv.1,u)else kv):=by
 unfold KV at r ⊢
 induction r with
 |nil=>exact .nil
 | @cons p q ps qs h t ih=>
  rw[zyO,zyO]
  refine .cons ?_ ih
  obtain⟨h1,h2⟩:=h
  by_cases e:p.1=k
  · rw[if_pos e,if_pos (h1.symm.trans e)];exact⟨h1,ry⟩
  · rw[if_neg e,if_neg (λz=>e (h1.trans z))];exact⟨h1,h2⟩
theorem KV.put(r:KV kvs vs)(k:κ)(ry:RelV y u):KV (putK kvs k y) (stored vs k u):=by
 unfold putK stored
 rw[r.any k]
 by_cases e:(vs.any λkv=>decide (kv.1=k))=true
 · rw[if_pos e,if_pos e];exact r.repl k ry
 · rw[if_neg e,if_neg e];exact Paired.snoc r ⟨rfl,ry⟩
theorem KV.length(r:KV kvs vs):kvs.length=vs.length:=Paired.length r
end
theorem zbZ(r:RelV (kV k) u):(xr P w).is k u=true:=by
 cases k with
 |inl i=>obtain⟨t,e⟩:=(show ∃t,u=Value.int i t from r);subst e;exact zdQ P w i t
 |inr x=>obtain⟨t,e⟩:=(show ∃t,u=Value.str x t from r);subst e;exact Xb P w x t
section
variable{P:Program}{w:World}{H:Hp}{h:Heap}{a:Addr}
theorem zon(ok:HOk P w H h)(e:Rd H a u):wI P w H h a u:=e.ok ok
theorem zlE(ok:HOk P w H h)(e:Rd H a (.dK kvs)):kvs.length<=sizeLine/\(a==sysModules)=false/\∃vs,KV kvs vs/\h.DictOf (xr P w) a vs:=
 show wI P w H h a (.dK kvs)from zon ok e
theorem zof(ok:HOk P w H h)(e:H a=some (.dK kvs)):kvs.length<=sizeLine/\(a==sysModules)=false/\∃vs,KV kvs vs/\h.DictOf (xr P w) a vs:=zlE ok (.inl e)
end
section
variable{X:Cx}{pins:List (Addr×Obj)}{σ:St}{H:Hp}{s:Shared}{a:Addr}{y v:V}{u r:Value}{o:Option V}{A:Around}{E:Value->Shared->Prop}
theorem Inv.big(I:Inv X pins σ H s):sysModules<s.heap.objs.size:=by
 have h:mainGlobals<s.heap.objs.size:=(I.mod.glob.keeps I.bk).lt
 exact Nat.lt_trans (by decide) h
theorem zlm(I:Inv X pins σ H s)(mu:Mut (H a))(hs:Heap.SameBut a s.heap h')(he:∃q,h'.get? a=some q)(new:wI X.prog X.w (upd H a ob) h' a ob):
 Inv X pins σ (upd H a ob) {s with heap:=h',toks:=t'}:=
 I.write (x:=a) (e:=a) mu (.inl rfl) (λb q hb z=>(hs.2 b hb).trans z) he new
theorem zmr(z:kvs.length<=sizeLine)(hd:(a==sysModules)=false)(rel:KV kvs vs)(dd:h'.DictOf (xr P w) a vs):
 wI P w H' h' a (.dK kvs):=⟨z,hd,vs,rel,dd⟩
end
theorem zix(h:Heap)(hb:sysModules<h.objs.size):wI P w H (h.push {cls:=.type "dict",data:=.dict #[]}) h.objs.size (.dK []):=
 ⟨Nat.zero_le _,beq_eq_false_iff_ne.mpr (Ne.symm (zzM hb)),[],.nil,Heap.DictOf.new h⟩
def zdg:List (TE×TE)->St->Hp->(List (V×V)->Hp->Prop)->Prop
 | [],_,H,Q=>Q [] H
 |(tk,tv)::r,σ,H,Q=>tk σ H λx H1=>tv σ H1 λy H2=>zdg r σ H2 λps H3=>Q ((x,y)::ps) H3
abbrev VV:List (V×V)->List (Value×Value)->Prop:=Paired λp q=>RelV p.1 q.1/\RelV p.2 q.2
def PPs(X:Cx)(pos:Pos)(keys:List (Option Expr))(values:List Expr)(trs:List (TE×TE)):Prop:=
 ∀(pins:List (Addr×Obj)) (s:Shared) (σ:St) (H:Hp) (Q:List (V×V)->Hp->Prop),Inv X pins σ H s->zdg trs σ H Q->
  wpAny (model X.prog X.w) X.A (evalPairs (pairTrees keys values X.env pos)) (λvs s'=>∃ps H',Inv X pins σ H' s'/\VV ps vs/\Q ps H') X.xe s
theorem zfY:PPs X pos [] [] []:=λpins s σ H Q I h=>pairTrees_nil_walk ⟨[],H,I,.nil,h⟩
theorem ziR(hk:PE X k tk)(hv:PE X v tv)(hr:PPs X pos ks vs trs):
 PPs X pos (some k::ks) (v::vs) ((tk,tv)::trs):=λpins s σ H Q I h=>
 pairTrees_cons_walk (thn (hk pins s σ H _ I h) λu s1 ⟨x,H1,I1,rx,q1⟩=>thn (hv pins s1 σ H1 _ I1 q1) λw2 s2 ⟨y,H2,I2,ry,q2⟩=>
  thn (hr pins s2 σ H2 _ I2 q2) λws s3 ⟨ps,H3,I3,rel,q3⟩=>⟨(x,y)::ps,H3,I3,.cons ⟨rx,ry⟩ rel,q3⟩)
def Wv(kvs more:List (Key×V)):List (Key×V):=more.foldl (λacc kv=>putK acc kv.1 kv.2) kvs
theorem KV.merge:∀{more:List (Key×V)}{rs:List (Key×Value)}{kvs:List (Key×V)}{vs:List (Key×Value)},KV more rs->KV kvs vs->KV (Wv kvs more) (merged vs rs):=by
 intro more rs kvs vs r
 unfold KV at r
 induction r generalizing kvs vs with
 |nil=>intro q;exact q
 | @cons p q ps qs h t ih=>
  intro r0
  have e:KV (putK kvs p.1 p.2) (stored vs q.1 q.2):=by
   have:=r0.put p.1 h.2
   rw[<-h.1];exact this
  exact ih e
theorem Xz:∀(more kvs:List (Key×V)),(Wv kvs more).length<=kvs.length+more.length
 | [],kvs=>by show kvs.length<=kvs.length+0;omega
 |p::r,kvs=>by
  have h1:=Xz r (putK kvs p.1 p.2)
  have h2:=zdE kvs p.1 p.2
  show(Wv (putK kvs p.1 p.2) r).length<=_
  rw[zzP];omega
theorem zbd:∀{kvs:List (Key×V)}{ws:List (Value×Value)},VV (kvs.map λkv=>(kV kv.1,kv.2)) ws->∃rs,Carries (xr P w) ws rs/\KV kvs rs
 | [],_,r=>by rw[List.map_nil]at r;cases r;exact⟨[],True.intro,.nil⟩
 |p::kvs,_,r=>by
  rw[zyO]at r
  cases r with
  | @cons a b as bs h t=>
   obtain⟨rs,c,q⟩:=zbd (P:=P) (w:=w) t
   obtain⟨b1,b2⟩:=b
   exact⟨(p.1,b2)::rs,⟨zbZ h.1,rfl,c⟩,.cons ⟨rfl,h.2⟩ q⟩
def znO(trs:List (TE×TE)):TE:=λσ H Q=>∀p,H p=none->zdg trs σ (upd H p (.dK [])) λps H2=>H2 p=some (.dK [])/\∃kvs:List (Key×V),ps=kvs.map (λkv=>(kV kv.1,kv.2))/\kvs.length<=15/\Q (.ref p) (upd H2 p (.dK (Wv [] kvs)))
theorem zkI(h:PPs X pos keys values trs)(hall:keys.all (·.isSome)=true)(hl:keys.length=values.length)(h0:keys≠[])
 (h15:keys.length<=15):PE X (.Dict keys values pos) (znO trs):=by
 intro pins s σ H Q I q
 have hn:=I.hok.fresh (zzJ s.heap.objs.size)
 have I1:=I.laid (a:=s.heap.objs.size) (o:=.dK []) (h':=s.heap.push {cls:=.type "dict",data:=.dict #[]}) (t':=s.toks) (λ_ _ q=>zxE _ q) (zzJ _) (zix s.heap I.big)
 refine wpAny_Dict_walk (knd:=xr X.prog X.w) hall hl h0 h15 (thn (h pins _ σ _ _ I1 (q _ hn)) λws s2 ⟨ps,H2,I2,rel,e,kvs,ep,lk,q2⟩=>?_)
 subst ep
 obtain⟨rs,c,rk⟩:=zbd (P:=X.prog) (w:=X.w) rel
 obtain⟨z,hd,vs0,r0,dd⟩:=zof I2.hok e
 cases r0
 refine⟨rs,c,dd,λh' dd' hs=>⟨.ref s.heap.objs.size,_, ?_,rfl,q2⟩⟩
 have hz:(Wv [] kvs).length<=sizeLine:=by
  have h1:=Xz kvs []
  rw[List.length_nil]at h1
  rw[sizeLine_eq];omega
 have he:∃q,h'.get? s.heap.objs.size=some q:=let⟨q,_,_,hq,_⟩:=dd';⟨q,hq⟩
 exact zlm I2 (by rw[e];exact True.intro) hs he (zmr hz hd (rk.merge .nil) dd')
structure M1(X:Cx)(o:Expr)(m:Str)(apos:Pos)(e:Expr)(cpos:Pos):Prop where
 base:attributeBase o m X.env (eval o X.env)=eval o X.env
 few:((backTo cpos (starEach [e] X.env)).all (λx=>!x.1)&&(backToKw cpos (keywordEach [] X.env)).all (λx=>x.1.isSome)
  && decide (([e]:List Expr).length+([]:List Keyword).length+(if([]:List Keyword).isEmpty then 0 else 1)<30))=true
 line:(apos.endLine==cpos.line)=true
 trees:backTo cpos (starEach [e] X.env)=[(false,eval e X.env)]
structure M2(X:Cx)(o:Expr)(m:Str)(apos:Pos)(e f:Expr)(cpos:Pos):Prop where
 base:attributeBase o m X.env (eval o X.env)=eval o X.env
 few:((backTo cpos (starEach [e,f] X.env)).all (λx=>!x.1)&&(backToKw cpos (keywordEach [] X.env)).all (λx=>x.1.isSome)
  && decide (([e,f]:List Expr).length+([]:List Keyword).length+(if([]:List Keyword).isEmpty then 0 else 1)<30))=true
 line:(apos.endLine==cpos.line)=true
 trees:backTo cpos (starEach [e,f] X.env)=[(false,eval e X.env),(false,eval f X.env)]
end L2
namespace HT
open PySem PyProof.Rows
section
variable{prog:Program}{w:World}{A:Around}{E:Value->Shared->Prop}{s:Shared}
theorem zld(ht:IsTup s.heap t vs.toArray)(hb:IsTup s.heap b ws.toArray)(hv:vs≠[])
 (h1:ws=[]->Q (.ref t) s) (h2:ws≠[]->Q (.ref s.heap.objs.size) {s with heap:=s.heap.push {cls:=.type "tuple",data:=.seq (vs++ws).toArray}})
 (hsz:vs.length+ws.length<=sizeLine):wpAny (model prog w) A (binaryOp .Add (.ref t) (.ref b)) Q E s:=by
 obtain⟨⟨cls,dd,data,sl⟩,ho,hc,n,hd⟩:=id ht
 obtain⟨⟨cls2,dd2,data2,sl2⟩,ho2,hc2,n2,hd2⟩:=id hb
 simp only at hc hd hc2 hd2
 subst hc hd hc2 hd2
 have e:vs.toArray++ws.toArray=(vs++ws).toArray:=by simp
 by_cases hw:ws=[]
 · exact concat_meets ⟨_,ho,rfl⟩ ⟨_,ho2,rfl⟩ noFill_tuple_add seq_tuple_add PySem.F.slot_tuple_add PySem.F.entry_tuple_add (PySem.F.args_tuple_add_2 _ _)
    (tuple_addW1 t b vs.toArray ws.toArray n n2 dd dd2 sl sl2 (by simpa using hv) (by simp[hw])) ⟨ho,ho2,h1 hw⟩
 · refine concat_meets ⟨_,ho,rfl⟩ ⟨_,ho2,rfl⟩ noFill_tuple_add seq_tuple_add PySem.F.slot_tuple_add PySem.F.entry_tuple_add (PySem.F.args_tuple_add_2 _ _)
    (tuple_addW2 t b vs.toArray ws.toArray n n2 dd dd2 sl sl2 (by simpa using hv) (by simpa using hw) (by rw[zzD,zzD];exact hsz)) ⟨ho,ho2, ?_⟩
   rw[e]
   exact h2 hw
def sIx(n d:Nat):Option Int->Nat
 |none=>d
 |some v=>if v<0 then(v+(n:Int)).toNat else min v.toNat n
theorem zeo(n d:Nat):sIx n d none=d:=rfl
theorem zgl(n d k:Nat):sIx n d (some (k:Int))=min k n:=by
 show(if(k:Int)<0 then((k:Int)+(n:Int)).toNat else min (k:Int).toNat n)=min k n
 rw[if_neg (by omega),zyE]
theorem zmd(n d:Nat)(hd:d<=n)(o:Option Int):sIx n d o<=n:=by
 cases o with
 |none=>exact hd
 |some v=>
  show(if v<0 then(v+(n:Int)).toNat else min v.toNat n)<=n
  by_cases hv:v<0
  · rw[if_pos hv];omega
  · rw[if_neg hv];exact Nat.min_le_right _ _
theorem zgm(v:Int)(n d:Nat):(if v<0 then max (v+(n:Int)) 0 else min v (n:Int))=((sIx n d (some v):Nat):Int):=by
 show(if v<0 then max (v+(n:Int)) 0 else min v (n:Int))=(((if v<0 then(v+(n:Int)).toNat else min v.toNat n):Nat):Int)
 by_cases hv:v<0
 · simp only[if_pos hv];omega
 · simp only[if_neg hv];omega
theorem zfx(lo hi:Option Int)(n:Nat):Builtin.Slice.sliceAdjust lo hi 1 (n:Int)=(((sIx n 0 lo:Nat):Int),((sIx n n hi:Nat):Int)):=by
 have h1:¬((1:Int)<0):=by omega
 unfold Builtin.Slice.sliceAdjust
 simp only[h1,if_false]
 refine Prod.ext ?_ ?_
 · cases lo with
   |none=>rfl
   |some v=>exact zgm v n 0
 · cases hi with
   |none=>rfl
   |some v=>exact zgm v n n
theorem zeQ(i j:Nat):Builtin.Slice.slicePlaces (i:Int) (j:Int) 1=j-i:=by
 unfold Builtin.Slice.slicePlaces
 have h1:(1:Int) > 0:=by omega
 simp only[h1,if_true,Int.ediv_one]
 split<;>omega
theorem zbc(p:IsPart v o)(h:Q o s):wpAny (model prog w) A (Builtin.Slice.slicePartIndex v) Q E s:=by
 cases p with
 |none=>exact slicePart_none h
 |int i t=>exact slicePart_int h
theorem Vp{sl:Addr}{vl vu:Value}{lo hi:Option Int}{n:Nat}{Q:Int×Int×Nat->Shared->Prop}(hs:s.heap.IsSliceOf sl vl vu .none)(pl:IsPart vl lo)(pu:IsPart vu hi)
 (h:Q (((sIx n 0 lo:Nat):Int),1,sIx n n hi-sIx n 0 lo) s):wpAny (model prog w) A (Builtin.Slice.sliceApplied (.ref sl) (pure (n:Int))) Q E s:=by
 obtain⟨os,hos,hcs,hds⟩:=id hs
 unfold Builtin.Slice.sliceApplied Builtin.Slice.sliceFields
 refine zxC (zxC (wpAny_field hos hds (x:=vl) rfl (zxC (wpAny_field hos hds (x:=vu) rfl (zxC (wpAny_field hos hds (x:=.none) rfl (zxD ?_)))))))
 refine zxC (slicePart_none ?_)
 show wpAny _ _ (if((1:Int)==0)=true then _ else _) _ _ s
 rw[if_neg (by decide)]
 refine zxC (zbc pl (zxC (zbc pu (zxC (zxD ?_)))))
 show wpAny _ _ (match Builtin.Slice.sliceAdjust lo hi 1 (n:Int)with|(lo,hi)=>pure (lo,(1:Int),Builtin.Slice.slicePlaces lo hi 1)) _ _ s
 rw[zfx lo hi n]
 show wpAny _ _ (pure (((sIx n 0 lo:Nat):Int),(1:Int),Builtin.Slice.slicePlaces ((sIx n 0 lo:Nat):Int) ((sIx n n hi:Nat):Int) 1)) _ _ s
 rw[zeQ]
 exact zxD h
theorem ziG(xs:Array Value)(i k:Nat):((List.range k).filterMap λ(m:Nat)=>xs[((i:Int)+(m:Int)*1).toNat]?).toArray=((xs.toList.drop i).take k).toArray:=by
 have e:(λ(m:Nat)=>xs[((i:Int)+(m:Int)*1).toNat]?)=λm=>xs[i+m]? := by
  funext m
  have:((i:Int)+(m:Int)*1).toNat=i+m:=by omega
  rw[this]
 rw[e]
 have:=pick_run xs i k
 rw[List.filterMap_map]at this
 have e2:((λx=>xs[x]?)∘λx=>i+x)=λm=>xs[i+m]? := rfl
 rw[e2]at this
 rw[this]
theorem WX{t sl:Addr}{items:Array Value}{vl vu:Value}{lo hi:Option Int}{Q:Value->Shared->Prop}(ht:IsTup s.heap t items)(hs:s.heap.IsSliceOf sl vl vu .none)(pl:IsPart vl lo)(pu:IsPart vu hi)
 (hw:¬(sIx items.size 0 lo=0/\sIx items.size items.size hi=items.size))
 (h:Q (.ref s.heap.objs.size) {s with heap:=s.heap.push {cls:=.type "tuple",data:=.seq ((items.toList.drop (sIx items.size 0 lo)).take (sIx items.size items.size hi-sIx items.size 0 lo)).toArray}})
 (hsz:items.size<=sizeLine):wpAny (model prog w) A (getItem (.ref t) (.ref sl)) Q E s:=by
 have htake:sizeOk (.seq ((items.toList.drop (sIx items.size 0 lo)).take (sIx items.size items.size hi-sIx items.size 0 lo)).toArray):=by
  show((items.toList.drop (sIx items.size 0 lo)).take (sIx items.size items.size hi-sIx items.size 0 lo)).toArray.size<=sizeLine
  rw[zzD,zzO,List.length_drop,zyP]
  omega
 have hj:sIx items.size items.size hi<=items.size:=zmd _ _ (zzJ _) hi
 obtain⟨os,hos,hcs,hds⟩:=id hs
 have hTs:s.TypeIs (.ref sl) "slice":=⟨os,hos,hcs⟩
 unfold getItem
 try with_reducible refine zxJ ?_
 first|refine zxC (zxD ?_)|skip
 refine zxC (wpAny_sequenceKey ht.typeIs (by decide) ?_)
 refine zxC (wpAny_callSpecial?_slot (name:=Str.ofString "__getitem__") ht.typeIs PyProof.Rows.slot_tuple_getitem
  (wpAny_call_entry PyProof.Rows.slot_tuple_getitem ht.typeIs entry_tuple_getitem ?_ (args_tuple_getitem _ _)))
 show wpAny _ _ (Builtin.Tuple.tupleItemsOf (.ref t) >>= _) _ _ s
 refine zxC (tupleItemsOf_ ht ?_)
 refine zxC (wpAny_typeOf hTs ?_)
 rw[if_pos (by decide)]
 refine zxC (Vp hs pl pu ?_)
 have hno:¬((((sIx items.size 0 lo:Nat):Int)==0&&(1:Int)==1&&(sIx items.size items.size hi-sIx items.size 0 lo)==items.size)=true):=by
  intro q
  rw[zzY,zzY]at q
  have q1:((sIx items.size 0 lo:Nat):Int)=0:=eq_of_beq q.1.1
  have q2:sIx items.size items.size hi-sIx items.size 0 lo=items.size:=eq_of_beq q.2
  exact hw ⟨by omega,by omega⟩
 show wpAny _ _ (if(((sIx items.size 0 lo:Nat):Int)==0&&(1:Int)==1&&(sIx items.size items.size hi-sIx items.size 0 lo)==items.size)=true then _ else _) _ _ s
 rw[if_neg hno,ziG]
 first
  |exact zxC (m:=Builtin.Tuple.tupleExact _) (zxH (zxD ⟨_,rfl,zxD h⟩) htake)
  |exact zxC (m:=Builtin.Tuple.tupleExact _) (zxH (zxC (zxD (zxD ⟨_,rfl,zxD h⟩))) htake)
  |exact zxC (zxC (m:=Builtin.Tuple.tupleExact _) (zxH (zxD (zxD ⟨_,rfl,zxD h⟩)) htake))
  |exact zxC (zxC (m:=Builtin.Tuple.tupleExact _) (zxH (zxD ⟨_,rfl,zxD h⟩) htake))
end
end HT
namespace L2
open PySem PySem.Spec PyProof.Rows
abbrev TO:=St->Hp->(Option Int->Hp->Prop)->Prop
def PO(X:Cx)(e:Option Expr)(t:TO):Prop:=
 ∀(pins:List (Addr×Obj)) (s:Shared) (σ:St) (H:Hp) (Q:Option Int->Hp->Prop),Inv X pins σ H s->t σ H Q->
  wpAny (model X.prog X.w) X.A (evalPart e X.env) (λu s'=>∃o H',Inv X pins σ H' s'/\IsPart u o/\Q o H') X.xe s
def zfS:TO:=λ_ H Q=>Q none H
def zod(t:TE):TO:=λσ H Q=>t σ H λx H1=>∃i,x = .int i/\Q (some i) H1
theorem intsAre_of:∀{us:List Value},Vals (ns.map V.int) us->IntsAre us ns:=by
 induction ns with
 |nil=>intro us r;rw[List.map_nil]at r;cases r;exact .nil
 |cons n ns ih=>
  intro us r
  rw[zyO]at r
  cases r with
  |cons r1 r2=>
   obtain⟨t,e⟩:=r1
   subst e
   exact .cons n t (ih r2)
section
variable{X:Cx}{e:Expr}{te:TE}{lo hi:Option Expr}{tl th:TO}{pos p2:Pos}
theorem zkQ:PO X none zfS:=by
 intro pins s σ H Q I h
 rw[evalPart_none]
 exact zxD ⟨none,H,I,.none,h⟩
theorem zlq(h:PE X e te):PO X (some e) (zod te):=by
 intro pins s σ H Q I hw
 rw[evalPart_some]
 refine thn (h pins s σ H _ I hw) λu s1 ⟨x,H1,I1,r1,q1⟩=>?_
 obtain⟨i,rfl,q⟩:=q1
 obtain⟨t,rfl⟩:=r1
 exact⟨some i,H1,I1,.int i t,q⟩
def SlR(X:Cx)(r:V->Option Int->Option Int->Hp->VK->Prop):Prop:=
 ∀(pins:List (Addr×Obj)) (s:Shared) (σ:St) (H:Hp) (x:V) (v vl vu:Value) (lo hi:Option Int) (sl:Addr) (Q:VK),Inv X pins σ H s->RelV x v->s.heap.IsSliceOf sl vl vu .none->IsPart vl lo->IsPart vu hi->r x lo hi H Q->
  ∃T id,typeLookup (.type T) "__getitem__"=pure (some (.builtin id))/\s.TypeIs v T/\wpAny (model X.prog X.w) X.A (getItem v (.ref sl)) (EP X pins σ Q) X.xe s
def tSl(r:V->Option Int->Option Int->Hp->VK->Prop)(te:TE)(tl th:TO):TE:=λσ H Q=>te σ H λx H1=>tl σ H1 λl H2=>th σ H2 λu H3=>r x l u H3 Q
theorem zea(hr:SlR X r)(he:PE X e te)(hl:PO X lo tl)(hu:PO X hi th):PE X (.Subscript e (.Slice lo hi none p2) pos) (tSl r te tl th):=by
 intro pins s σ H Q I h
 refine Subscript_ (thn (he pins s σ H _ I h) λv s1 ⟨x,H1,I1,r1,q1⟩=>?_)
 refine wpAny_Slice (thn (hl pins s1 σ H1 _ I1 q1) λvl s2 ⟨l,H2,I2,pl,q2⟩=>thn (hu pins s2 σ H2 _ I2 q2) λvu s3 ⟨u,H3,I3,pu,q3⟩=>?_)
 rw[evalPart_none]
 refine zxD ?_
 have I4:Inv X pins σ H3 {s3 with heap:=s3.heap.push {cls:=.type "slice",data:=.fields #[vl,vu,.none]}}:=I3.kept (t':=s3.toks) λb ob q=>zxE _ q
 obtain⟨T,id,hT,ht,hg⟩:=hr pins {s3 with heap:=s3.heap.push {cls:=.type "slice",data:=.fields #[vl,vu,.none]}} σ H3 x v vl vu l u s3.heap.objs.size Q I4 r1 (Heap.IsSliceOf.new ..) pl pu q3
 show wpAny (model X.prog X.w) X.A (subscriptTail e (.Slice lo hi none p2) v (.ref s3.heap.objs.size)) (EP X pins σ Q) X.xe {s3 with heap:=s3.heap.push {cls:=.type "slice",data:=.fields #[vl,vu,.none]}}
 exact tail_any (ops:=[.ref s3.heap.objs.size,v]) ht hT hg (by with_unfolding_all rfl)
def zez(xs:List V)(lo hi:Option Int):List V:=(xs.drop (HT.sIx xs.length 0 lo)).take (HT.sIx xs.length xs.length hi-HT.sIx xs.length 0 lo)
theorem V9(xs:List V)(lo hi:Option Int):(zez xs lo hi).length<=xs.length:=by
 unfold zez
 rw[zzO,List.length_drop]
 omega
def zpt(K:zC):V->Option Int->Option Int->Hp->VK->Prop:=λx lo hi H Q=>∃a xs,x = .ref a/\SqT K H a xs/\
 ¬(HT.sIx xs.length 0 lo=0/\HT.sIx xs.length xs.length hi=xs.length)/\∀p,H p=none->Q (.ref p) (upd H p (.tup (zez xs lo hi)))
theorem zmg:SlR X (zpt X.K):=by
 intro pins s σ H x v vl vu lo hi sl Q I rx hs pl pu h
 obtain⟨a,xs,rfl,hx,hw,q⟩:=h
 cases rx
 obtain⟨its,r,ht,hz⟩:=I.tuple hx
 have hlen:its.toArray.size=xs.length:=by rw[zzD];exact r.length.symm
 refine⟨"tuple",_,PyProof.Rows.slot_tuple_getitem.lookup,ht.typeIs, ?_⟩
 refine HT.WX ht hs pl pu (by rw[hlen];exact hw) ?_ (by rw[hlen];exact hz)
 rw[hlen]
 refine⟨.ref s.heap.objs.size,_,I.laid (t':=s.toks) (o:=.tup (zez xs lo hi)) (λb ob q=>zxE _ q) (zzJ _) ?_,rfl,q _ (I.hok.fresh (zzJ _))⟩
 exact⟨zzK (V9 xs lo hi) hz,_,(r.drop (HT.sIx xs.length 0 lo)).take (HT.sIx xs.length xs.length hi-HT.sIx xs.length 0 lo),IsTup.new _ _⟩
def znX(K:zC):R2:=λx y H Q=>∃a b xs ys,x = .ref a/\y = .ref b/\SqT K H a xs/\SqT K H b ys/\xs≠[]/\xs.length+ys.length<=sizeLine/\
 (ys=[]->Q (.ref a) H)/\(ys≠[]->∀p,H p=none->Q (.ref p) (upd H p (.tup (xs++ys))))
theorem Vals.nil_iff(r:Vals xs us):us=[] ↔ xs=[]:=by
 cases r with
 |nil=>simp
 |cons _ _=>simp
theorem zlf:OpR X (binaryOp .Add) (znX X.K):=by
 intro pins s σ H x y v u Q I rx ry h
 obtain⟨a,b,xs,ys,rfl,rfl,ha,hb,hx,hz,q1,q2⟩:=h
 cases rx
 cases ry
 obtain⟨its,r1,p1,_⟩:=I.tuple ha
 obtain⟨its2,r2,p2,_⟩:=I.tuple hb
 refine HT.zld p1 p2 (λz=>hx (r1.nil_iff.mp z)) (λz=>⟨.ref a,H,I,rfl,q1 (r2.nil_iff.mp z)⟩) (λz=>?_) (by rw[<-r1.length,<-r2.length];exact hz)
 refine⟨.ref s.heap.objs.size,_,I.laid (t':=s.toks) (o:=.tup (xs++ys)) (λb ob q=>zxE _ q) (zzJ _) ?_,rfl,q2 (λw=>z (r2.nil_iff.mpr w)) _ (I.hok.fresh (zzJ _))⟩
 exact⟨by rw[zzF];exact hz,_,r1.append r2,IsTup.new _ _⟩
end
end L2
namespace L2
open PySem PySem.Spec PyProof.Rows
def ixN(n:Nat)(i:Int):Option Nat:=if 0<=i then(if i<n then some i.toNat else none)else if -(n:Int)<=i then some (i+n).toNat else none
def atI{α:Type}(xs:List α)(i:Int):Option α:=(ixN xs.length i).bind λj=>xs[j]?
theorem zgs(h:ixN n i=some j):seqIndex? i n=some j/\j<n /\ -(n:Int)<=i/\i<n:=by
 unfold ixN at h
 by_cases h0:0<=i
 · rw[if_pos h0]at h
   by_cases h1:i<n
   · rw[if_pos h1]at h
     have e:i.toNat=j:=zzV h
     exact⟨by rw[seqIndex_of h0 h1,e],by omega,by omega,h1⟩
   · rw[if_neg h1]at h;cases h
 · rw[if_neg h0]at h
   by_cases h1 : -(n:Int)<=i
   · rw[if_pos h1]at h
     have e:(i+n).toNat=j:=zzV h
     exact⟨by rw[seqIndex_neg (by omega) h1,e],by omega,h1,by omega⟩
   · rw[if_neg h1]at h;cases h
theorem zdx(h:atI xs i=some v):∃j,seqIndex? i xs.length=some j/\xs[j]? = some v/\j<xs.length /\ -(xs.length:Int)<=i/\i<xs.length:=by
 unfold atI at h
 cases e:ixN xs.length i with
 |none=>rw[e]at h;cases h
 |some j=>
  rw[e]at h
  obtain⟨h1,h2,h3,h4⟩:=zgs e
  exact⟨j,h1,h,h2,h3,h4⟩
theorem zal{α:Type}{xs:List α}{j:Nat}{v:α}(h:xs[j]? = some v):atI xs (j:Int)=some v:=by
 have hj:j<xs.length:=(zzC.mp h).1
 have e:ixN xs.length (j:Int)=some j:=by
  unfold ixN
  rw[if_pos (by omega),if_pos (by omega)];simp
 unfold atI;rw[e];exact h
def zdf(b:Expr):Prop:=∀o i,subscripted b false o i=operate [o,i] (getItem o i)
def IxR(X:Cx)(r:R2):Prop:=
 ∀(value slice:Expr) (pins:List (Addr×Obj)) (s:Shared) (σ:St) (H:Hp) (x y:V) (v u:Value) (Q:VK),Inv X pins σ H s->RelV x v->RelV y u->r x y H Q->
  subscripted slice false v u=operate [v,u] (getItem v u)->wpAny (model X.prog X.w) X.A (subscriptTail value slice v u) (EP X pins σ Q) X.xe s
def MtR(X:Cx)(id:String)(r:V->List V->Hp->VK->Prop):Prop:=
 ∀(pins:List (Addr×Obj)) (s:Shared) (σ:St) (H:Hp) (x:V) (xs:List V) (v:Value) (us:List Value) (Q:VK),Inv X pins σ H s->RelV x v->Vals xs us->r x xs H Q->
  wpAny (model X.prog X.w) X.A (call (.builtin id) (v::us)) (EP X pins σ Q) X.xe s
section
variable{X:Cx}{a b:Expr}{ta tb:TE}{pos:Pos}
theorem zok(hr:IxR X r)(ha:PE X a ta)(hb:PE X b tb)(hs:zdf b):PE X (.Subscript a b pos) (tOp r ta tb):=by
 intro pins s σ H Q I h
 exact Subscript_ (zmV ha hb I h λv u s2 x y H2 I2 rx ry q=>hr a b pins s2 σ H2 x y v u Q I2 rx ry q (hs _ _))
def zpo(K:zC):R2:=λx y H Q=>∃p xs i v,x = .ref p/\y = .int i/\SqL K H p xs/\atI xs i=some v/\Q v H
def zpr(K:zC):R2:=λx y H Q=>∃p xs i v,x = .ref p/\y = .int i/\SqT K H p xs/\atI xs i=some v/\Q v H
def zoX:R2:=λx y H Q=>∃z i c,x = .str z/\y = .int i/\z.length<=sizeLine/\atI z.cps.toList i=some c/\Q (.str ⟨#[c]⟩) H
theorem zkL:IxR X (zpo X.K):=by
 intro value slice pins s σ H x y v u Q I rx ry h hs
 obtain⟨p,xs,i,z,rfl,rfl,hq,he,q⟩:=h
 cases rx
 obtain⟨t,rfl⟩:=ry
 obtain⟨its,r,pl,hz⟩:=I.list hq
 obtain⟨j,h1,h2,h3,h4,h5⟩:=zdx he
 obtain⟨w,ew,rw'⟩:=r.get h2
 have hl:=r.length
 have hn:=Wd
 have fin:EP X pins σ Q w s:=⟨z,H,I,rw',q⟩
 by_cases h0:0<=i
 · have hj:i.toNat=j:=by
    rw[seqIndex_of h0 h5]at h1
    exact zzV h1
   exact item_listR pl.isList h0 (by omega) (by rw[hj];simpa using ew) fin hs
 · have hj:(i+(its.toArray.size:Int)).toNat=j:=by
    rw[seqIndex_neg (by omega) h4]at h1
    rw[zzD,<-hl]
    exact zzV h1
   exact subscriptTail_builtinR (x:=w) pl.isList.typeIs slot_list_getitem.lookup
    (wpAny_getItem_list_neg (Q:=λr s'=>r=w/\EP X pins σ Q r s') pl.isList (by omega) (by rw[zzD]<;>omega) (by omega) (by rw[hj];simpa using ew) ⟨rfl,fin⟩) hs
theorem zlT:IxR X (zpr X.K):=by
 intro value slice pins s σ H x y v u Q I rx ry h hs
 obtain⟨p,xs,i,z,rfl,rfl,hq,he,q⟩:=h
 cases rx
 obtain⟨t,rfl⟩:=ry
 obtain⟨its,r,pl,hz⟩:=I.tuple hq
 obtain⟨j,h1,h2,h3,h4,h5⟩:=zdx he
 obtain⟨w,ew,rw'⟩:=r.get h2
 have hl:=r.length
 have hn:=Wd
 have fin:EP X pins σ Q w s:=⟨z,H,I,rw',q⟩
 exact subscriptTail_builtinR (x:=w) pl.typeIs slot_tuple_getitem.lookup
  (getItem_tuple (j:=j) (Q:=λr s'=>r=w/\EP X pins σ Q r s') pl (by omega) (by omega) (by rw[zzD,<-hl];exact h1) (by simpa using ew) ⟨rfl,fin⟩) hs
theorem zaX:IxR X zoX:=by
 intro value slice pins s σ H x y v u Q I rx ry h hs
 obtain⟨z,i,c,rfl,rfl,hz,he,q⟩:=h
 obtain⟨t,rfl⟩:=rx
 obtain⟨t',rfl⟩:=ry
 obtain⟨j,h1,h2,h3,h4,h5⟩:=zdx he
 have hl:z.cps.toList.length=z.length:=by simp[Str.length]
 rw[hl]at h1 h4 h5
 have hn:=Wd
 exact tail_any (typeIs_str s z t) slot_str_getitem.lookup (getItem_str (c:=c) (by
  have e1:decide (i < -(2 ^ 63:Int))=false:=zyC (by omega)
  have e2:decide (i ≥ 2 ^ 63)=false:=zyC (by omega)
  rw[e1,e2,Bool.or_false]) (by rw[h1];simpa using h2) ⟨.str ⟨#[c]⟩,H,I.tok _,⟨_,rfl⟩,q⟩) hs
theorem zeE(its:List Value)(n j:Nat)(u:Value):Obj.mapSeq (·.setIfInBounds j u) {cls:=.type "list",data:=.seq its.toArray n}={cls:=.type "list",data:=.seq (its.set j u).toArray n}:=by
 simp[Obj.mapSeq]
theorem Inv.lst(I:Inv X pins σ H s)(h:H p=some (.lst xs)):
 ∃(its:List Value) (n:Nat),Vals xs its/\s.heap.get? p=some {cls:=.type "list",data:=.seq its.toArray n}/\xs.length<=sizeLine:=by
 obtain⟨z,its,n,r,e⟩:=I.hok p _ h
 exact⟨its,n,r,e,z⟩
theorem Inv.lstUpd{pins:List (Addr×Obj)}{σ:St}{H:Hp}{s:Shared}{p:Addr}{xs ys:List V}{its its':List Value}{n n':Nat}{f:Obj->Obj}(I:Inv X pins σ H s)(h:H p=some (.lst xs))
 (ho:s.heap.get? p=some {cls:=.type "list",data:=.seq its.toArray n}) (hf:f {cls:=.type "list",data:=.seq its.toArray n}={cls:=.type "list",data:=.seq its'.toArray n'}) (r:Vals ys its') (hz:ys.length<=sizeLine) (t:Nat):
 Inv X pins σ (upd H p (.lst ys)) {s with heap:=s.heap.update p f,toks:=t}:=by
 have e:(s.heap.update p f).get? p=some {cls:=.type "list",data:=.seq its'.toArray n'}:=by
  rw[zxO f ho (by rw[hf]<;>rfl),hf]
 refine I.write (x:=p) (e:=p) (by rw[h];trivial) (.inl rfl) (λb u hb q=>(zxK _ _ (Ne.symm hb)).trans q) ⟨_,e⟩ ?_
 exact⟨hz,its',n',r,e⟩
def zov:V->V->V->Hp->(Hp->Prop)->Prop:=λo i v H Q=>∃p xs k j,o = .ref p/\i = .int k/\H p=some (.lst xs)/\ixN xs.length k=some j/\Q (upd H p (.lst (xs.set j v)))
theorem set_list:zoU X zov:=by
 intro pins s σ H o i v ov iv u Q I ro ri rv h
 obtain⟨p,xs,k,j,rfl,rfl,hp,hj,q⟩:=h
 cases ro
 obtain⟨t,rfl⟩:=ri
 obtain⟨its,n,r,ho,hz⟩:=I.lst hp
 obtain⟨h1,h2,h3,h4⟩:=zgs hj
 have hl:=r.length
 have hn:=Wd
 have I':Inv X pins σ (upd H p (.lst (xs.set j v))) {s with heap:=s.heap.update p (Obj.mapSeq (·.setIfInBounds j u))}:=
  I.lstUpd hp ho (zeE its n j u) (r.set rv j) (by rw[zzQ];exact hz) s.toks
 by_cases h0:0<=k
 · have hk:k.toNat=j:=by
    rw[seqIndex_of h0 h4]at h1
    exact zzV h1
   exact PySem.W.ki_setAt ho h0 (by omega) (by rw[zzD,<-hl];exact h4) (by rw[hk];exact⟨_,I',q⟩)
 · have hk:(k+(its.toArray.size:Int)).toNat=j:=by
    rw[seqIndex_neg (by omega) h3]at h1
    rw[zzD,<-hl]
    exact zzV h1
   exact PySem.W.ki_setBack ho (by omega) (by rw[zzD,<-hl];exact h3) (by omega) (by rw[hk];exact⟨_,I',q⟩)
theorem zcH(lo hi:Option Int)(n:Nat):(sliceBounds lo hi none n).1=((HT.sIx n 0 lo:Nat):Int)/\(sliceBounds lo hi none n).2.1=((HT.sIx n n hi:Nat):Int)/\(sliceBounds lo hi none n).2.2=1:=by
 refine⟨?_, ?_,rfl⟩
 · cases lo with
   |none=>simp[sliceBounds,HT.sIx]
   |some i=>
    simp only[sliceBounds,HT.sIx,Option.getD_none,show(1:Int) > 0 by decide,if_true]
    by_cases h:i<0
    · simp only[h,if_true]<;>omega
    · simp only[h,if_false]<;>omega
 · cases hi with
   |none=>simp[sliceBounds,HT.sIx]
   |some i=>
    simp only[sliceBounds,HT.sIx,Option.getD_none,show(1:Int) > 0 by decide,if_true]
    by_cases h:i<0
    · simp only[h,if_true]<;>omega
    · simp only[h,if_false]<;>omega
theorem zbE(its:List Value)(lo hi:Option Int):slicePick its.toArray lo hi none=((its.drop (HT.sIx its.length 0 lo)).take (HT.sIx its.length its.length hi-HT.sIx its.length 0 lo)).toArray:=by
 obtain⟨h1,h2,h3⟩:=zcH lo hi its.toArray.size
 unfold slicePick
 rw[h1,h2,h3]
 simp only[sliceRange_one,pick_run,zzD]<;>rfl
def zpy(K:zC):V->Option Int->Option Int->Hp->VK->Prop:=λx lo hi H Q=>∃a xs,x = .ref a/\SqL K H a xs/\∀p,H p=none->Q (.ref p) (upd H p (.lst (zez xs lo hi)))
theorem zkc:SlR X (zpy X.K):=by
 intro pins s σ H x v vl vu lo hi sl Q I rx hs pl pu h
 obtain⟨a,xs,rfl,hx,q⟩:=h
 cases rx
 obtain⟨its,r,ht,hz⟩:=I.list hx
 have hlen:=r.length
 refine⟨"list",_,slot_list_getitem.lookup,ht.isList.typeIs, ?_⟩
 refine wpAny_getItem_list_slice ht.isList hs pl pu .none (by simp) ?_ (by rw[zzD]<;>omega)
 rw[zbE,<-hlen]
 refine⟨.ref s.heap.objs.size,_,I.laid (t':=s.toks) (o:=.lst (zez xs lo hi)) (λb ob q=>zxE _ q) (zzJ _) ?_,rfl,q _ (I.hok.fresh (zzJ _))⟩
 exact⟨zzK (V9 xs lo hi) hz,_,0,(r.drop (HT.sIx xs.length 0 lo)).take (HT.sIx xs.length xs.length hi-HT.sIx xs.length 0 lo),zxG _ rfl⟩
theorem W9:ZV X (.builtin "len") (λxs H Q=>∃p ys,xs=[.ref p]/\(SqL X.K H p ys\/SqT X.K H p ys)/\Q (.int ys.length) H):=by
 intro pins s σ H xs us Q I r h
 obtain⟨p,ys,rfl,hq,q⟩:=h
 obtain⟨u,rfl,rx⟩:=vals1 r
 cases rx
 have hn:=Wd
 rcases hq with hq|hq
 · obtain⟨its,r',pl,hz⟩:=I.list hq
   have hlen:=r'.length
   exact Calls.call_len_list pl.isList (by simp only[zzD]<;>omega) ⟨.int ys.length,H,I.tok _,⟨s.toks+1,by rw[zzD,hlen]⟩,q⟩
 · obtain⟨its,r',pl,hz⟩:=I.tuple hq
   have hlen:=r'.length
   exact len_tuple pl (by simp only[zzD]<;>omega) ⟨.int ys.length,H,I.tok _,⟨s.toks+1,by rw[zzD,hlen]⟩,q⟩
theorem zde:ZV X (.builtin "len") (λxs H Q=>∃z,xs=[.str z]/\z.length<=sizeLine/\Q (.int z.length) H):=by
 intro pins s σ H xs us Q I r h
 obtain⟨z,rfl,hz,q⟩:=h
 obtain⟨u,rfl,t,rfl⟩:=vals1 r
 have hn:=Wd
 exact len_str (by omega) ⟨.int z.length,H,I.tok _,⟨_,rfl⟩,q⟩
theorem Xx:ZV X (.type "tuple") (λxs H Q=>∃p ys,xs=[.ref p]/\((SqL X.K H p ys/\∀l,H l=none->Q (.ref l) (upd H l (.tup ys)))\/(SqT X.K H p ys/\Q (.ref p) H))):=by
 intro pins s σ H xs us Q I r h
 obtain⟨p,ys,rfl,h⟩:=h
 obtain⟨u,rfl,rx⟩:=vals1 r
 cases rx
 rcases h with⟨hq,q⟩|⟨hq,q⟩
 · obtain⟨its,r',pl,hz⟩:=I.list hq
   have hlen:=r'.length
   refine call_tuple_list pl.isList (λh' kp=>?_) (by simp only[zzD]<;>omega)
   have I1:Inv X pins σ H {s with heap:=h'}:=I.kept (t':=s.toks) kp
   have I2:Inv X pins σ (upd H h'.objs.size (.tup ys)) {s with heap:=h'.push {cls:=.type "tuple",data:=.seq its.toArray}}:=
    I1.laid (t':=s.toks) (λb o e=>zxE _ e) (zzJ _) (show wI X.prog X.w _ _ _ (.tup ys)from⟨hz,its,r',IsTup.new _ _⟩)
   exact⟨.ref h'.objs.size,_,I2,rfl,q _ (I1.hok.fresh (zzJ _))⟩
 · obtain⟨its,r',pl,hz⟩:=I.tuple hq
   exact call_tuple_same pl ⟨.ref p,H,I,rfl,q⟩
def tyV(K:zC)(T:String)(x:V)(H:Hp):Prop:=match x with
 | .str _=>T="str"
 | .int _=>T="int"
 | .ref p=>(T="list"/\∃xs,SqL K H p xs)\/(T="tuple"/\∃o,K.lookup p=some o/\o.cls = .type "tuple"/\o.dict=none) \/
  (T="dict"/\((∃kvs,H p=some (.dK kvs))\/∃kvs,H p=some (.dT kvs)))\/(T="set"/\∃S n,H p=some (.set S n))
 |_=>False
theorem ziy(I:Inv X pins σ H s)(r:RelV x v)(ty:tyV X.K T x H):
 s.TypeIs v T/\∀a,v = .ref a->∃ob,s.heap.get? a=some ob/\ob.dict=none:=by
 cases x with
 |str z=>
  obtain⟨t,rfl⟩:=r
  cases(show T="str" from ty)
  exact⟨typeIs_str s z t,λ_ e=>nomatch e⟩
 |int i=>
  obtain⟨t,rfl⟩:=r
  cases(show T="int" from ty)
  exact⟨typeIs_int s i t,λ_ e=>nomatch e⟩
 |ref p=>
  cases r
  rcases ty with⟨rfl,xs,hq⟩|⟨rfl,o,hk,hc,hd⟩|⟨rfl,hk⟩|⟨rfl,S,n,hk⟩
  · obtain⟨its,_,pl,_⟩:=I.list hq
    refine⟨pl.isList.typeIs,λa e=>?_⟩
    cases e
    obtain⟨o,n,e,c,hd,_⟩:=pl
    exact⟨o,e,hd⟩
  · refine⟨⟨o,I.kIn p o hk,hc⟩,λa e=>?_⟩
    cases e
    exact⟨o,I.kIn _ o hk,hd⟩
  · have z:∃o,s.heap.get? p=some o/\o.ExactDict:=by
     rcases hk with⟨kvs,hk⟩|⟨kvs,hk⟩
     · obtain⟨_,_,_,_,o,_,_,e,ex,_⟩:=I.hok p _ hk
       exact⟨o,e,ex⟩
     · obtain⟨_,_,_,_,o,_,_,e,ex,_⟩:=I.hok p _ hk
       exact⟨o,e,ex⟩
    obtain⟨o,e,ex⟩:=z
    refine⟨⟨o,e,ex.1⟩,λa e2=>?_⟩
    cases e2
    exact⟨o,e,ex.2.1⟩
  · obtain⟨o,_,_,_,e,ex,_⟩:=I.hok p _ hk
    refine⟨⟨o,e,ex.1⟩,λa e2=>?_⟩
    cases e2
    exact⟨o,e,ex.2.1⟩
 |_=>exact False.elim ty
def zpC(K:zC)(T:String)(r:V->List V->Hp->VK->Prop)(to:TE):TE:=λσ H Q=>to σ H λx H1=>tyV K T x H1/\r x [] H1 Q
def tBM(K:zC)(T:String)(r:V->List V->Hp->VK->Prop)(to:TE)(t:TA):TE:=λσ H Q=>to σ H λx H1=>tyV K T x H1/\t σ H1 λxs H2=>r x xs H2 Q
variable{o e:Expr}{es:List Expr}{to:TE}{t:TA}{name:Str}{apos cpos:Pos}{T id:String}{r:V->List V->Hp->VK->Prop}
theorem zmq(pa:PlainAttrs T)(slot:Slot T name id)(hty:typeOf (.builtin id)=pure (.type "method_descriptor"))(hm:MtR X id r)(ho:PE X o to)
 (hbase:attributeBase o name X.env (eval o X.env)=eval o X.env:=by rfl) (hline:(apos.endLine==cpos.line)=true:=by rfl):PE X (.Call (.Attribute o name apos) [] [] cpos) (zpC X.K T r to):=by
 intro pins s σ H Q I h
 refine wpAny_Call_method0_late hbase hline (thn (ho pins s σ H _ I h) λv s1 ⟨x,H1,I1,r1,ty,q1⟩=>?_)
 obtain⟨h1,h2⟩:=ziy I1 r1 ty
 exact⟨T,id,pa,slot,hty,h1,h2,Calls.callWith_builtin rfl (PySem.evalArgs_none (hm pins s1 σ H1 x [] v [] Q I1 r1 .nil q1))⟩
theorem zoE(pa:PlainAttrs T)(slot:Slot T name id)(hty:typeOf (.builtin id)=pure (.type "method_descriptor"))(hm:MtR X id r)(ho:PE X o to)(ha:PA X (e::es) t)
 (hbase:attributeBase o name X.env (eval o X.env)=eval o X.env:=by rfl)
 (hfew:((backTo cpos (starEach (e::es) X.env)).all (λx=>!x.1)&&(backToKw cpos (keywordEach [] X.env)).all (λx=>x.1.isSome)
  && decide ((e::es).length+([]:List Keyword).length+(if([]:List Keyword).isEmpty then 0 else 1)<30))=true:=by rfl)
 (hline:(apos.endLine==cpos.line)=true:=by rfl) (hs:starEach (e::es) X.env=(false,eval e X.env)::starEach es X.env:=by rfl) (hplain:(backTo cpos (starEach es X.env)).any (·.1)=false:=by rfl):
 PE X (.Call (.Attribute o name apos) (e::es) [] cpos) (tBM X.K T r to t):=by
 intro pins s σ H Q I h
 refine wpAny_Call_method_late hbase hfew hline rfl (thn (ho pins s σ H _ I h) λv s1 ⟨x,H1,I1,r1,ty,q1⟩=>?_)
 obtain⟨h1,h2⟩:=ziy I1 r1 ty
 refine⟨T,id,pa,slot,hty,h1,h2, ?_⟩
 have hA:=ha cpos pins s1 σ H1 _ I1 q1
 rw[hs]at hA ⊢
 refine Calls.callWith_builtin (by show(false||(backTo cpos (starEach es X.env)).any (·.1))=false;rw[hplain]<;>rfl) (Calls.evalArgs_plain ?_)
 exact thn hA λus s2 ⟨vs,H2,I2,r2,q2⟩=>hm pins s2 σ H2 x vs v us Q I2 r1 r2 q2
end
end L2
namespace L2
open PySem PySem.Spec PyProof.Rows
def MtM(X:Cx)(id:String)(r:V->List V->Hp->VK->Prop):Prop:=
 ∀(pins:List (Addr×Obj)) (s:Shared) (σ:St) (H:Hp) (x:V) (xs:List V) (v:Value) (us:List Value) (Q:VK),Inv X pins σ H s->RelV x v->Vals xs us->r x xs H Q->
  wpAny (model X.prog X.w) X.A (call (.builtin id) (v::us)) (EP X pins σ Q) X.xe s
theorem Vals.one:∀{x:V}{us:List Value},Vals [x] us->∃u,us=[u]/\RelV x u
 |_,_,.cons r .nil=>⟨_,rfl,r⟩
theorem Vals.two:∀{x y:V}{us:List Value},Vals [x,y] us->∃u v,us=[u,v]/\RelV x u/\RelV y v
 |_,_,_,.cons r (.cons q .nil)=>⟨_,_,rfl,r,q⟩
theorem Vals.zero:∀{us:List Value},Vals [] us->us=[]
 |_,.nil=>rfl
theorem Vals.dropLast(h:Vals xs us):Vals xs.dropLast us.dropLast:=by
 induction h with
 |nil=>exact .nil
 |cons r t ih=>
  cases t with
  |nil=>exact .nil
  |cons q t'=>exact .cons r ih
theorem Vals.eraseIdx:∀{xs:List V}{us:List Value}(i:Nat),Vals xs us->Vals (xs.eraseIdx i) (us.eraseIdx i)
 |_,_,_,.nil=>.nil
 |_,_,0,.cons _ t=>t
 |_,_,i+1,.cons r t=>.cons r (Vals.eraseIdx i t)
theorem Vals.reverse(h:Vals xs us):Vals xs.reverse us.reverse:=by
 induction h with
 |nil=>exact .nil
 |cons r t ih=>rw[List.reverse_cons,List.reverse_cons];exact Vals.append ih (.cons r .nil)
theorem Vals.rep(h:Vals xs us):∀k:Nat,Vals (List.replicate k xs).flatten (List.replicate k us).flatten
 |0=>.nil
 |k+1=>by
  rw[List.replicate_succ,List.replicate_succ,List.flatten_cons,List.flatten_cons]
  exact Vals.append h (Vals.rep h k)
theorem zbh(l:List α):l.eraseIdx (l.length-1)=l.dropLast:=by
 induction l with
 |nil=>rfl
 |cons a r ih=>
  cases r with
  |nil=>rfl
  |cons b r=>
   have e:(a::b::r).length-1=((b::r).length-1)+1:=by
    have h1:(a::b::r).length=r.length+2:=rfl
    have h2:(b::r).length=r.length+1:=rfl
    omega
   rw[e,List.eraseIdx_cons_succ,ih]
   all_goals rfl
theorem zcy:∀(l:List α) (i:Nat),(l.eraseIdx i).length<=l.length
 | [],_=>zzJ _
 |_::_,0=>zyT _
 |_::r,i+1=>Nat.succ_le_succ (zcy r i)
theorem foldl_rep(its:List Value):∀(k:Nat) (acc:List Value),
 List.foldl (λx1 x2=>x1++x2) acc.toArray (List.replicate k its.toArray)=(acc++(List.replicate k its).flatten).toArray
 |0,acc=>by simp
 |k+1,acc=>by
  have e:acc.toArray++its.toArray=(acc++its).toArray:=by simp
  have e2:(acc++its)++(List.replicate k its).flatten=acc++(List.replicate (k+1) its).flatten:=by
   rw[List.replicate_succ,List.flatten_cons,zyZ]
  rw[<-e2,<-foldl_rep its k (acc++its),<-e,List.replicate_succ,List.foldl_cons]
section
variable{X:Cx}{pins:List (Addr×Obj)}{σ:St}{H:Hp}{s:Shared}{l b:Addr}{xs ys zs:List V}
theorem Inv.lset{its its':List Value}{n:Nat}{f:Array Value->Array Value}{t':Nat}(I:Inv X pins σ H s)(hH:H l=some (.lst xs))
 (e:s.heap.get? l=some {cls:=.type "list",data:=.seq its.toArray n}) (hf:f its.toArray=its'.toArray) (hv:Vals ys its') (hz:ys.length<=sizeLine):
 Inv X pins σ (upd H l (.lst ys)) {s with heap:=s.heap.update l (Obj.mapSeq f),toks:=t'}:=by
 have q:=PySem.IsL.update e f
 rw[hf]at q
 refine I.write (x:=l) (e:=l) (by rw[hH];exact trivial) (.inl rfl) (λb' u hb hu=>(zxK s.heap (Obj.mapSeq f) (Ne.symm hb)).trans hu) ⟨_,q⟩ ?_
 exact⟨hz,its',_,hv,q⟩
theorem Inv.lnew(I:Inv X pins σ H s)(hv:Vals ys its)(hz:ys.length<=sizeLine):
 Inv X pins σ (upd H s.heap.objs.size (.lst ys)) {s with heap:=s.heap.push {cls:=.type "list",data:=.seq its.toArray},toks:=t'}:=
 I.laid (λ_ _ q=>zxE _ q) (zzJ _) ⟨hz,its,0,hv,zxG _ rfl⟩
theorem Inv.fresh(I:Inv X pins σ H s):H s.heap.objs.size=none:=I.hok.fresh (zzJ _)
theorem Inv.lstM(I:Inv X pins σ H s)(hH:H l=some (.lst xs)):xs.length<=sizeLine/\∃(its:List Value) (n:Nat),Vals xs its/\xs.length=its.length/\s.heap.get? l=some {cls:=.type "list",data:=.seq its.toArray n}:=by
 obtain⟨z,its,n,r,e⟩:=I.hok l _ hH
 exact⟨z,its,n,r,r.length,e⟩
theorem zjw(h:n<=sizeLine):Builtin.List.listTooLong n=false:=by
 unfold Builtin.List.listTooLong
 exact zyC (by omega)
end
section
variable{X:Cx}
def zgF:V->List V->Hp->VK->Prop:=λx vs H Q=>∃l xs y,x = .ref l/\vs=[y]/\H l=some (.lst xs)/\xs.length<sizeLine/\Q .non (upd H l (.lst (xs++[y])))
theorem Xj:MtM X "list.append" zgF:=by
 intro pins s σ H x vs v us Q I rx rv h
 obtain⟨l,xs,y,rfl,rfl,hH,hz,q⟩:=h
 cases rx
 obtain⟨u,rfl,ru⟩:=rv.one
 obtain⟨z,its,n,r,hl,e⟩:=I.lstM hH
 refine call_meets F.slot_list_append ⟨_,e,rfl⟩ F.entry_list_append (F.args_list_append_2 _ _) (PySem.list_append l its.toArray n u (by rw[zzD];omega)) ⟨e, ?_⟩
 refine⟨.non,_,I.lset (its':=its++[u]) hH e (by simp) (r.append (.cons ru .nil)) ?_,rfl,q⟩
 rw[zzF,List.length_singleton]
 omega
def zoD:V->List V->Hp->VK->Prop:=λx vs H Q=>∃l xs y,x = .ref l/\vs=[]/\H l=some (.lst xs)/\xs[xs.length-1]? = some y/\Q y (upd H l (.lst xs.dropLast))
theorem znM:MtM X "list.pop" zoD:=by
 intro pins s σ H x vs v us Q I rx rv h
 obtain⟨l,xs,y,rfl,rfl,hH,hy,q⟩:=h
 cases rx
 have hus:=rv.zero
 subst hus
 obtain⟨z,its,n,r,hl,e⟩:=I.lstM hH
 obtain⟨u,hu,ru⟩:=r.get hy
 have hy':its.toArray[its.toArray.size-1]? = some u:=by
  show its.toArray[its.length-1]? = some u
  rw[<-Array.getElem?_toList,<-hl]
  exact hu
 refine call_meets F.slot_list_pop ⟨_,e,rfl⟩ F.entry_list_pop (F.args_list_pop_1 _) (MeetsSeq.list_pop_last l its.toArray n u hy' (by rw[zzD];omega)) ⟨e, ?_⟩
 refine⟨y,_,I.lset (its':=its.dropLast) hH e ?_ r.dropLast ?_,ru,q⟩
 · show its.toArray.eraseIdxIfInBounds (its.toArray.size-1)=its.dropLast.toArray
   rw[zzD,List.eraseIdxIfInBounds_toArray,zbh]
 · rw[List.length_dropLast]
   omega
def zhD:V->List V->Hp->VK->Prop:=λx vs H Q=>∃l xs i k y,x = .ref l/\vs=[.int i]/\H l=some (.lst xs) /\ -(2 ^ 63)<=i/\i<2 ^ 63/\seqIndex? i xs.length=some k/\xs[k]? = some y/\Q y (upd H l (.lst (xs.eraseIdx k)))
theorem YZ:MtM X "list.pop" zhD:=by
 intro pins s σ H x vs v us Q I rx rv h
 obtain⟨l,xs,i,k,y,rfl,rfl,hH,h1,h2,hk,hy,q⟩:=h
 cases rx
 obtain⟨u,rfl,ru⟩:=rv.one
 obtain⟨t,rfl⟩:=ru
 obtain⟨z,its,n,r,hl,e⟩:=I.lstM hH
 obtain⟨w,hw,rw'⟩:=r.get hy
 refine call_meets F.slot_list_pop ⟨_,e,rfl⟩ F.entry_list_pop (F.args_list_pop_2 _ _)
  (MeetsSeq.list_pop_at l its.toArray n i t k w (fitsIndex_both h1 h2) (by rw[zzD,<-hl];exact hk) (by rw[<-Array.getElem?_toList];exact hw) (by rw[zzD];omega)) ⟨e, ?_⟩
 refine⟨y,_,I.lset (its':=its.eraseIdx k) hH e ?_ (r.eraseIdx k) ?_,rw',q⟩
 · show its.toArray.eraseIdxIfInBounds k=(its.eraseIdx k).toArray
   rw[List.eraseIdxIfInBounds_toArray]
 · have:=zcy xs k
   omega
theorem len_rep(xs:List α)(k:Nat):(List.replicate k xs).flatten.length=k*xs.length:=by
 induction k with
 |zero=>simp
 |succ k ih=>rw[List.replicate_succ,List.flatten_cons,zzF,ih,Nat.succ_mul,Nat.add_comm]
end
end L2
namespace Att
open PySem PySem.W PySem.Calls PyProof.Rows
theorem zad:∀(ns:List Int) (vs:List Value),WellAll P h vs (ns.map WData.int)->IntsAre vs ns:=by
 intro ns
 induction ns with
 |nil=>
  intro vs w
  rw[List.map_nil]at w
  cases w
  exact .nil
 |cons n ns ih=>
  intro vs w
  rw[zyO]at w
  cases w with
  |cons a b=>
   cases a
   exact .cons _ _ (ih _ b)
theorem zhf{l:OpenLaw}{n:Nat}(hn:l.most=some n){P:Params}{h:Heap}{args:List WData}{vals:List Value}
 (hpre:l.row.toRowW.claim.pre args=true) (hwl:WellAll P h vals args):
 ∃a vs ns,vals=[Value.ref a]/\args=[WData.list (ns.map WData.int)]/\h.get? a=some {cls:=.type "list",data:=.seq vs.toArray}/\IntsAre vs ns/\ns.length<=n:=by
 have hsh:WShape.hasAll [] args [.list .int]=true:=(pre_splitW hpre).1
 have hc:l.pre.holds [] {args:=args}=true:=(pre_splitW hpre).2
 obtain⟨d,r,rfl,h1,h2⟩:=hasAllW_cons hsh
 obtain rfl:=hasAllW_nil h2
 obtain⟨xs,rfl,h3⟩:=hasW_list h1
 obtain⟨ns,rfl⟩:=items_int h3
 have hlen:ns.length<=n:=by
  unfold OpenLaw.pre at hc
  have h4:(WTm.not (.lt (.lit (.int (n:Int))) (.len (.arg 0)))).holds [] {args:=[.list (ns.map .int)]}=true:=by
   have h4:=(holds_andW hc).1
   rw[hn]at h4
   exact h4
  have h5:=condW_of h4 (w_not (w_lt w_lit (w_len_list (w_arg rfl))))
  rw[zD]at h5
  refine Nat.le_of_not_lt λq=>?_
  have q':(n:Int)<((ns.length:Nat):Int):=by omega
  first
   |(rw[zyK q']at h5;exact absurd h5 (by decide))
   |(simp at h5;omega)
 cases hwl with
 |cons w1 w2=>
  cases w2
  cases w1 with
  |list ho hall=>exact⟨_,_,ns,rfl,rfl,ho,zad ns _ hall,hlen⟩
theorem zhe(l:OpenLaw)(args:List WData):l.row.toRowW.claim.post args (.bool true) args=true:=
 postW_of (r:=l.row.toRowW) (X:=(true==true))
  (show WShape.has [] (.bool true) .bool=true by first|rfl|decide|simp[WShape.has,WShape.arms,WShape.armsAll])
  (show(WTm.eq .res (.lit (.bool true))).value [] {args:=args,res:=some (.bool true),after:=args}=some (.bool (true==true))from w_eq_bool (w_res rfl) w_lit) rfl
theorem zep{l:OpenLaw}{n:Nat}{q:Program}{loose:List Str}{XP:(Str->Option Value)->Heap->Prop}{YP:World->Heap->Prop}{d:DefRec}
 (hn:l.most=some n) (hdf:d.params.defaults=[])
 (call:∀(w:World) (s₀ s₁:Shared) (mg mb:Str->Option Value) (fa:Addr) (o:Obj) (pm cd doc:Value) (a:Addr) (vs:List Value) (ns:List Int),
  Ground q loose [] XP w s₀ mg mb s₁.heap->YP w s₁.heap->
  s₁.heap.get? fa=some o->o.data = .func (docDef d.name d.params d.body d.scope pm cd doc)->s₁.heap.CodeRec cd d.name->mg d.name=some (.ref fa)->
  s₁.heap.get? a=some {cls:=.type "list",data:=.seq vs.toArray}->IntsAre vs ns->ns.length<=n->s₁.gens = #[]->
  codeAny (model l.prog w) callerA (.call (.ref fa) ⟨[.ref a],[]⟩) (λr s'=>r = .ok (.ret (.bool true))/\OldK s₁.heap s'.heap/\s'.os=s₁.os/\AllBare s'.gens) s₁):
 WalkO q loose XP YP l.row.toRowW d [] (λf vs=>PySem.call f vs):=by
 intro w s₀ s₁ mg mb G Y fa o pm cd doc dV kV ho hd hcd hD hmg hg args vals as hpre hlay hrd hwl hlo
 obtain rfl:dV = .none:=Dflts.none hD hdf
 obtain rfl:kV = .none:=Dflts.noKw hD
 obtain⟨a,vs,ns,rfl,rfl,hobj,hints,hlen⟩:=zhf hn hpre hwl
 refine enter_call (codeAny_mono (call w s₀ s₁ mg mb fa o pm cd doc a vs ns G Y ho (fd_plain hd) hcd hmg hobj hints hlen hg) λr s' hq=>?_)
 obtain⟨rfl,h2,h3,h4⟩:=hq
 exact⟨.inl ⟨.bool true,.bool true,[],rfl,λ_=>rfl,.bool true,zhe l _,λ_=>⟨List.Pairwise.nil,λ_ hm=>(nomatch hm)⟩⟩,h2,h3,h4⟩
end Att
namespace L2
open PySem PySem.Spec PyProof.Rows
theorem zct:∀{vs:List Value}{ns:List Int},IntsAre vs ns->Vals (ns.map V.int) vs
 |_,_,.nil=>.nil
 |_,_,.cons n t h=>.cons ⟨t,rfl⟩ (zct h)
def Only(H:Hp):Prop:=∀b,H b=none\/∃o xs,H b=some (.frz o (.lst xs))
theorem zje{P:Program}{w:World}{K:zC}{mg mb:Str->Option Value}{CX:CXT}{k:Nat}{fa a:Addr}{fd:FuncData}{x:Str}{sp:Sp}{s₁:Shared}{vs:List Value}{ns:List Int}
 (KX:K.In s₁.heap) (hns:s₁.heap.Ns mainGlobals mg) (hb:s₁.heap.Ns builtinsNs mb) (hbb:∀x:Str,x≠"__name__"->mb x=bootBuiltins x) (hlim:s₁.heap.NoLimit) (hg:s₁.gens = #[])
 (ha:s₁.heap.get? a=some {cls:=.type "list",data:=.seq vs.toArray}) (hi:IntsAre vs ns) (hl:ns.length<=sizeLine) (hr:Room k callerA)
 (F:∀base:Heap,K.In base->base.Ns mainGlobals mg->FnOk P w K mg base CX k fa fd [x] sp) (hbind:∀(s:Shared) (u:Value),BindsTo s fd ⟨[u],[]⟩ [(x,u)])
 (hsp:∀H:Hp,Only H->RdL K H a (ns.map V.int)->sp [.ref a] H (λv _=>v = .bl true) λ_ _ _=>False)
 (hCX:∀H e s',CX [] H s₁ (λ_ _ _=>False) e s'->False):
 codeAny (model P w) callerA (.call (.ref fa) ⟨[.ref a],[]⟩) (λr s'=>r = .ok (.ret (.bool true))/\OldK s₁.heap s'.heap/\s'.os=s₁.os/\AllBare s'.gens) s₁:=by
 have rv:=zct hi
 have lenV:=hi.length
 have core:∀H:Hp,Only H->RdL K H a (ns.map V.int)->HOk P w H s₁.heap->(∀b,H b≠none->b=a)->(H a≠none->K.lookup a=none)->
  codeAny (model P w) callerA (.call (.ref fa) ⟨[.ref a],[]⟩) (λr s'=>r = .ok (.ret (.bool true))/\OldK s₁.heap s'.heap/\s'.os=s₁.os/\AllBare s'.gens) s₁:=by
  intro H hO hS hok hA hK
  have base_of:∀{b:Addr}{o:Obj},s₁.heap.get? b=some o->H b=none->(zdu s₁.heap H).get? b=some o:=λe n=>ziJ e n
  have noA:∀{b:Addr}{o:Obj}{es:Array DictEntry}{ep:Nat},s₁.heap.get? b=some o->o.data = .dict es ep->H b=none:=λ{b o es ep} e d=>by
   cases q:H b with
   |none=>rfl
   |some u=>
    have e':b=a:=hA b (by rw[q];simp)
    subst e'
    rw[ha]at e;cases e
    have d':Data.seq vs.toArray _=Data.dict es ep:=d
    cases d'
  have nsK:∀{b:Addr}{m:Str->Option Value},s₁.heap.Ns b m->(zdu s₁.heap H).Ns b m:=λ{b m} ⟨o,es,ep,e,d,r⟩=>⟨o,es,ep,base_of e (noA e d),d,r⟩
  have hKb:K.In (zdu s₁.heap H):=λb o e=>base_of (KX b o e) (by
   cases q:H b with
   |none=>rfl
   |some u=>
    have e':b=a:=hA b (by rw[q];simp)
    subst e'
    rw[hK (by rw[q];simp)]at e;cases e)
  have hM:Mod K mg (zdu s₁.heap H):=⟨hKb,nsK hns,⟨mb,nsK hb,hbb⟩,let⟨mc,h1,h2⟩:=hlim;⟨mc,nsK h1,h2⟩⟩
  have e0:Env0 P w K mg (zdu s₁.heap H) callerA [] s₁ H:=⟨rfl,hM,λb o e=>zlh e,Nat.le_of_eq (zhd _ _),trivial,λb hb=>absurd (show b ∈ ([]:List Addr)from hb) (by simp),hok,.of_eq hg⟩
  refine codeAny_mono ((F _ hKb (nsK hns)).run callerA [] s₁ H ⟨[.ref a],[]⟩ [.ref a] [.ref a] _ _ hr e0 (hbind s₁ (.ref a)) (.cons rfl .nil) (hsp H hO hS)) λr s' h=>?_
  cases r with
  |error e=>exact(hCX H e s' h).elim
  |ok fl=>
   cases fl with
   |next=>exact False.elim h
   |brk=>exact False.elim h
   |cont=>exact False.elim h
   |ret u=>
    obtain⟨v,H',os,bare,un,hok',r',q⟩:=h
    have q':v = .bl true:=q
    subst q'
    obtain rfl:u=Value.bool true:=r'
    refine⟨rfl,OldK.of_keep λb o e=>?_,os,bare⟩
    cases q:H b with
    |none=>exact un.keep b o e q (by intro z;exact absurd (show b ∈ ([]:List Addr)from z) (by simp)) (by simp)
    |some u=>
     rcases hO b with z|⟨ob,xs,z⟩
     · rw[q]at z;cases z
     · have z2:=un.frzs b ob _ z
       obtain⟨e1,_⟩:=hok b _ z
       obtain⟨e2,_⟩:=hok' b _ z2
       rw[e]at e1;cases e1
       exact e2
 cases hk:K.lookup a with
 |some o=>
  have e:=KX a o hk
  rw[ha]at e
  cases e
  refine core (λ_=>none) (λ_=>.inl rfl) (.inr ⟨vs.toArray,_,hk,by rw[zzD,lenV];exact hl,by simpa using rv⟩) (λb u z=>by have z':(none:Option HO)=some u:=z;cases z') (λb z=>absurd rfl z) λz=>absurd rfl z
 |none=>
  refine core (λb=>if b=a then some (.frz {cls:=.type "list",data:=.seq vs.toArray} (.lst (ns.map V.int)))else none) (λb=>?_) (.inl (.inr ⟨{cls:=.type "list",data:=.seq vs.toArray},if_pos rfl⟩)) (λb u z=>?_) (λb z=>?_) λ_=>hk
  · by_cases hb:b=a
    · exact .inr ⟨_,_,if_pos hb⟩
    · exact .inl (if_neg hb)
  · by_cases hb:b=a
    · have z':=(if_pos hb).symm.trans z
      cases z'
      subst hb
      exact⟨ha,by rw[zD];exact hl,vs,_,rv,ha⟩
    · have z':=(if_neg hb).symm.trans z
      cases z'
  · by_cases hb:b=a
    · exact hb
    · exact absurd (if_neg hb) z
end L2
namespace L2
open PySem PySem.Spec PyProof.Rows
theorem walk_of{l:PySem.W.OpenLaw}{n k:Nat}{q:Program}{loose:List Str}{XP:(Str->Option Value)->Heap->Prop}{YP:World->Heap->Prop}{d:DefRec}{K:Params->zC}{CX:World->CXT}{sp:World->Sp}{x:Str}
 (hn:l.most=some n) (hn2:n<=sizeLine) (hdf:d.params.defaults=[]) (hr:Room k callerA)
 (hY:∀(w:World) (h:Heap),YP w h->(K w.params).In h)
 (F:∀(w:World) (mg:Str->Option Value) (fa:Addr) (h:Heap),(K w.params).In h->h.Ns mainGlobals mg->mg d.name=some (.ref fa)->
  ∃fd:FuncData,(∀(s:Shared) (u:Value),BindsTo s fd ⟨[u],[]⟩ [(x,u)])/\
   ∀base:Heap,(K w.params).In base->base.Ns mainGlobals mg->FnOk l.prog w (K w.params) mg base (CX w) k fa fd [x] (sp w))
 (hsp:∀(w:World) (H:Hp) (a:Addr) (ns:List Int),ns.length<=n->Only H->RdL (K w.params) H a (ns.map V.int)->sp w [.ref a] H (λv _=>v = .bl true) λ_ _ _=>False)
 (hCX:∀(w:World) (H:Hp) (s:Shared) (e:Value) (s':Shared),CX w [] H s (λ_ _ _=>False) e s'->False):
 PySem.W.WalkO q loose XP YP l.row.toRowW d [] (λf vs=>PySem.call f vs):=by
 refine Att.zep hn hdf λw s₀ s₁ mg mb fa o pm cd doc a vs ns G Y ho hd hcd hmg hobj hints hlen hg=>?_
 have KX:=hY w _ Y
 obtain⟨fd,hb,hF⟩:=F w mg fa _ KX G.T.g hmg
 exact zje KX G.T.g G.T.b G.T.builtins G.T.nolimit hg hobj hints (zzK hlen hn2) hr hF hb (λH hO hS=>hsp w H a ns hlen hO hS) λH e s'=>hCX w H s₁ e s'
end L2
namespace L2
open PySem PySem.Spec PyProof.Rows
def inClass(s:Stmt)(j:Nat):Stmt:=match s with
 | .ClassDef _ _ _ body _ _ _ _ _ _ _=>body.getD j (.Pass ⟨0,0,0,0⟩)
 |_=>.Pass ⟨0,0,0,0⟩
def zcQ(s:Stmt):Arguments:=match s with
 | .FunctionDef _ a _ _ _ _ _ _ _ _=>a
 |_=>{posonlyargs:=[],args:=[],vararg:=none,kwonlyargs:=[],kw_defaults:=[],kwarg:=none,defaults:=[]}
def Xd(s:Stmt):List Stmt:=match s with
 | .FunctionDef _ _ b _ _ _ _ _ _ _=>b
 |_=>[]
def zG(s:Stmt):Scope:=match s with
 | .FunctionDef _ _ _ _ _ _ sc _ _ _=>sc
 |_=>{kind:=.function,names:=[],isGenerator:=false,isCoroutine:=false}
abbrev CX0:CXT:=λ_ _ _ _ _ _=>False
abbrev E0:XK:=λ_ _ _=>False
theorem yS:zdB CX0 X E0:=λ_ _ _ _ _ _ _ h=>h.elim
structure Fun(K:zC)(x qual:Str)(st:Stmt)(f:Addr)(fd:FuncData):Prop where
 ex:∃(oc:Value) (od:Option Addr) (kV doc pm:Value) (an:Option Addr) (cdv ct:Value) (osl:Array (Option Value)),
  fd=PySem.W.fnOf x qual (zcQ st) (Xd st) (zG st) .none kV doc pm an cdv ct/\K.lookup f=some ⟨oc,od,.func fd,osl⟩/\PySem.W.codeIn K cdv qual=true
 kp:PySem.W.keepIn K (.ref f)=true
section
variable{P:Program}{w:World}{K:zC}{mg:Str->Option Value}{base:Heap}
theorem Fun.ok{x qual:Str}{st:Stmt}{f:Addr}{fd:FuncData}{N ps:List Str}{k:Nat}{sp:Sp}(F:Fun K x qual st f fd)(S:FnScope N ps (zG st))(len:∀vs H Q E,sp vs H Q E->vs.length=ps.length)
 (hbody:∀(cdv:Value) (A:Around) (outer:List Env) (s:Shared) (H:Hp) (vs:List V) (Q:VK) (E:XK),Room k (A.deeper (envOfC qual (zG st) s.heap.objs.size f cdv))->sp vs H Q E->
  ∃t,PSs (Xm CX0 P w K mg base N qual (zG st) f cdv A outer s H E).nox (Xd st) t/\t {nx:=λ_ H'=>Q .non H',rt:=Q} (start N vs) H):FnOk P w K mg base CX0 (k+1) f fd ps sp:=by
 obtain⟨oc,od,kV,doc,pm,an,cdv,ct,osl,rfl,lk,hcd⟩:=F.ex
 refine zlR lk hcd S len λA outer s H vs Q E hr hsp=>?_
 obtain⟨t,h,q⟩:=hbody cdv A outer s H vs Q E hr hsp
 exact⟨t,h.nox,q⟩
theorem Fun.binds{x qual:Str}{st:Stmt}{f:Addr}{fd:FuncData}{ps:List Str}(F:Fun K x qual st f fd)
 (h:∀(kV doc pm:Value) (an:Option Addr) (cdv ct:Value) (us:List Value),us.length=ps.length->bindArgs (PySem.W.fnOf x qual (zcQ st) (Xd st) (zG st) .none kV doc pm an cdv ct) ⟨us,[]⟩=pure (ps.zip us)):Binds K fd ps []:=by
 obtain⟨oc,od,kV,doc,pm,an,cdv,ct,osl,rfl,lk,hcd⟩:=F.ex
 exact .all (h kV doc pm an cdv ct)
end
theorem ZW(h:n<=1000):n<sizeLine:=Nat.lt_of_le_of_lt h (by decide)
section
variable{X:Cx}
theorem pv(i:Nat)(hN:X.N[i]? = some x:=by rfl)(hv:Vis X.env.scope x:=by first|exact Or.inl rfl|exact Or.inr (Or.inl rfl)|exact Or.inr (Or.inr rfl))(hd:(x==("__debug__":Str))=false:=by decide)
 (hcd:(x==("__classdict__":Str))=false:=by decide):PE X (.Name x pos) (VH i):=zjb hN hv hd hcd
end
section
variable{κ:Type}[DecidableEq κ]
theorem zjN{kvs:List (κ×V)}{k:κ}{v:V}(h:Yx kvs k=some v):k ∈ kvs.map (·.1):=by
 have q:(kvs.any λkv=>decide (kv.1=k))=true:=by
  rw[zbz,h]
  all_goals rfl
 obtain⟨p,hp,e⟩:=List.any_eq_true.mp q
 exact List.mem_map.mpr ⟨p,hp,of_decide_eq_true e⟩
end
end L2
end
section
namespace G04
open PySem PySem.W PyProof.Rows L2
def top(i:Nat):Stmt:=PySem.Challenge.pw_stretchdeeds_k04_texts_of_no_term.main.body.getD i (.Pass ⟨0,0,0,0⟩)
abbrev W4:Stmt:=top 16
abbrev vf:Stmt:=top 17
abbrev wO:Stmt:=top 21
abbrev zdn:Stmt:=top 22
abbrev vA:Stmt:=top 23
abbrev Xi:Stmt:=top 24
abbrev Xc:Stmt:=top 25
abbrev xZ:Stmt:=inClass (top 2) 0
abbrev Zb:Stmt:=top 26
abbrev Z4:Stmt:=top 28
abbrev vO:Stmt:=top 29
abbrev Yb:Stmt:=top 30
abbrev Ye:Stmt:=top 31
abbrev Zg:Stmt:=top 32
abbrev wA:Stmt:=top 33
abbrev W3:Stmt:=top 34
abbrev Yg:Stmt:=top 35
abbrev Z9:Stmt:=top 36
abbrev vq:Stmt:=top 37
abbrev vg:Stmt:=top 38
abbrev Zd:Stmt:=top 39
abbrev zfV:Stmt:=top 40
abbrev kF(n q:Str)(s:Stmt)(pm cd:Value):Obj:=⟨.type "function",none,.func (fnOf n q (zcQ s) (Xd s) (zG s) .none .none .none pm none cd .none),#[]⟩
abbrev kC(n:Str)(a:Nat)(q:Str)(b c:Nat)(i3 i4 i5 i6 i7:Int)(r8:Addr)(b9:Bool)(i10:Int)(r11 r13 r14 r15:Addr)(i16 i17:Int)(d:Nat):Obj:=⟨.type "code",none,.fields #[.str n a,.str q b,.str "/claim/cut.py" c,.int i3 0,.int i4 0,.int i5 0,.int i6 0,.int i7 0,.ref r8,.bool b9,.int i10 0,.ref r11,.none,.ref r13,.ref r14,.ref r15,.int i16 0,.int i17 0,.str "/claim/cut.py" d],#[]⟩
abbrev kD(es:List DictEntry)(n:Nat):Obj:=⟨.type "dict",none,.dict es.toArray n,#[]⟩
abbrev kE(P:Params)(x:Str)(t:Nat)(v:Value):DictEntry:=⟨PyData.keyHash P x,.str x t,v⟩
abbrev kR(P:Params)(x:Str)(t:Nat)(a:Addr):DictEntry:=kE P x t (.ref a)
def K(P:Params):Frag:=
 (nat_lit 2,⟨.none,none,.dict #[] 0,#[]⟩) ::
 (nat_lit 3,kD [kE P "__name__" 165 (.str "law_stretchdeeds_k04_texts_of_no_term" 473),kE P "__doc__" 166 .none,kE P "__package__" 167 .none,kE P "__loader__" 168 (.builtin "__main__.__loader__#opaque"),kE P "__spec__" 169 .none,kR P "__annotations__" 170 6,kR P "__builtins__" 171 4,kE P "__file__" 173 (.str "/claim/cut.py" 172),kE P "__cached__" 174 .none,kR P "StretchError" 206 24,kR P "NoText" 231 44,kR P "NotLetBy" 256 63,kR P "NoMake" 272 75,kR P "NoStretch" 288 87,kR P "NoValue" 304 99,kR P "NoDeed" 320 111,kR P "NoSign" 336 123,kR P "TooGreat" 352 135,kR P "NoRow" 368 147,kE P "MOST_TERMS" 372 (.int (40) 371),kE P "MOST_WITHIN" 374 (.int (12) 373),kR P "LETTERS" 378 150,kR P "PARTS" 397 151,kR P "is_let" 405 158,kR P "parts_after" 412 165,kE P "FIGURES" 416 (.str "0123456789" 415),kE P "MOST_FIGURES" 418 (.int (60) 417),kR P "is_figures" 424 170,kR P "fits" 433 177,kR P "first_fault" 444 184,kR P "leaf_of" 451 191,kR P "term_of" 462 198,kR P "read_term" 472 205,kR P "_law_draw" 486 212,kR P "_law_digits" 496 219,kR P "_law_leaf" 507 226,kR P "_law_term" 528 233,kR P "_law_shown" 537 240,kR P "_law_is_leaf" 543 245,kR P "_law_at" 555 252,kR P "_law_told" 567 259,kR P "_law_long" 579 266,kR P "_law_changed" 595 273,kR P "_law_refusal" 605 280,kR P "_law_right" 616 287,kR P "law" 626 294] 46) ::
 (nat_lit 23,kD [kE P "__module__" 196 (.str "stretchdeeds.errors" 187),kE P "__firstlineno__" 200 (.int (2) 199),kR P "__static_attributes__" 201 22,kR P "__weakref__" 203 25,kE P "__doc__" 204 .none] 3) ::
 (nat_lit 24,⟨(.type "type"),none,.cls {name:="StretchError",bases:=[(.type "ValueError")],mro:=[(.ref 24),(.type "ValueError"),(.type "Exception"),(.type "BaseException"),(.type "object")],ns:=23,qualname:="StretchError",hasDict:=true,slotNames:=[],subclasses:=[(.ref 44),(.ref 63),(.ref 75),(.ref 87),(.ref 99),(.ref 111),(.ref 123),(.ref 135),(.ref 147)],abstract:=false,collection:=none,hasDel:=false},#[some (.ref 15),none,some (.str "StretchError" 189),some (.str "StretchError" 197),some (.builtin "ValueError.__new__"),some (.bool true)]⟩) ::
 (nat_lit 40,kC "__init__" 219 "NoText.__init__" 220 221 6 2 0 0 3 35 true 181 36 37 38 39 224 6 225) ::
 (nat_lit 41,kF "__init__" "NoText.__init__" xZ (.str "stretchdeeds.errors" 187) (.ref 40)) ::
 (nat_lit 43,kD [kE P "__module__" 214 (.str "stretchdeeds.errors" 187),kE P "__firstlineno__" 218 (.int (4) 217),kR P "__init__" 226 41,kR P "__static_attributes__" 228 42,kE P "__doc__" 229 .none] 2) ::
 (nat_lit 44,⟨(.type "type"),none,.cls {name:="NoText",bases:=[(.ref 24)],mro:=[(.ref 44),(.ref 24),(.type "ValueError"),(.type "Exception"),(.type "BaseException"),(.type "object")],ns:=43,qualname:="NoText",hasDict:=true,slotNames:=[],subclasses:=[],abstract:=false,collection:=none,hasDel:=false},#[some (.ref 28),none,some (.str "NoText" 207),some (.str "NoText" 215),some (.builtin "ValueError.__new__"),some (.bool true)]⟩) ::
 (nat_lit 62,kD [kE P "__module__" 239 (.str "stretchdeeds.errors" 187),kE P "__firstlineno__" 243 (.int (9) 242),kR P "__init__" 251 60,kR P "__static_attributes__" 253 61,kE P "__doc__" 254 .none] 2) ::
 (nat_lit 63,⟨(.type "type"),none,.cls {name:="NotLetBy",bases:=[(.ref 24)],mro:=[(.ref 63),(.ref 24),(.type "ValueError"),(.type "Exception"),(.type "BaseException"),(.type "object")],ns:=62,qualname:="NotLetBy",hasDict:=true,slotNames:=[],subclasses:=[],abstract:=false,collection:=none,hasDel:=false},#[some (.ref 47),none,some (.str "NotLetBy" 232),some (.str "NotLetBy" 240),some (.builtin "ValueError.__new__"),some (.bool true)]⟩) ::
 (nat_lit 74,kD [kE P "__module__" 264 (.str "stretchdeeds.errors" 187),kE P "__firstlineno__" 268 (.int (14) 267),kR P "__static_attributes__" 269 73,kE P "__doc__" 270 .none] 2) ::
 (nat_lit 75,⟨(.type "type"),none,.cls {name:="NoMake",bases:=[(.ref 24)],mro:=[(.ref 75),(.ref 24),(.type "ValueError"),(.type "Exception"),(.type "BaseException"),(.type "object")],ns:=74,qualname:="NoMake",hasDict:=true,slotNames:=[],subclasses:=[],abstract:=false,collection:=none,hasDel:=false},#[some (.ref 66),none,some (.str "NoMake" 257),some (.str "NoMake" 265),some (.builtin "ValueError.__new__"),some (.bool true)]⟩) ::
 (nat_lit 86,kD [kE P "__module__" 280 (.str "stretchdeeds.errors" 187),kE P "__firstlineno__" 284 (.int (16) 283),kR P "__static_attributes__" 285 85,kE P "__doc__" 286 .none] 2) ::
 (nat_lit 87,⟨(.type "type"),none,.cls {name:="NoStretch",bases:=[(.ref 24)],mro:=[(.ref 87),(.ref 24),(.type "ValueError"),(.type "Exception"),(.type "BaseException"),(.type "object")],ns:=86,qualname:="NoStretch",hasDict:=true,slotNames:=[],subclasses:=[],abstract:=false,collection:=none,hasDel:=false},#[some (.ref 78),none,some (.str "NoStretch" 273),some (.str "NoStretch" 281),some (.builtin "ValueError.__new__"),some (.bool true)]⟩) ::
 (nat_lit 98,kD [kE P "__module__" 296 (.str "stretchdeeds.errors" 187),kE P "__firstlineno__" 300 (.int (18) 299),kR P "__static_attributes__" 301 97,kE P "__doc__" 302 .none] 2) ::
 (nat_lit 99,⟨(.type "type"),none,.cls {name:="NoValue",bases:=[(.ref 24)],mro:=[(.ref 99),(.ref 24),(.type "ValueError"),(.type "Exception"),(.type "BaseException"),(.type "object")],ns:=98,qualname:="NoValue",hasDict:=true,slotNames:=[],subclasses:=[],abstract:=false,collection:=none,hasDel:=false},#[some (.ref 90),none,some (.str "NoValue" 289),some (.str "NoValue" 297),some (.builtin "ValueError.__new__"),some (.bool true)]⟩) ::
 (nat_lit 110,kD [kE P "__module__" 312 (.str "stretchdeeds.errors" 187),kE P "__firstlineno__" 316 (.int (20) 315),kR P "__static_attributes__" 317 109,kE P "__doc__" 318 .none] 2) ::
 (nat_lit 111,⟨(.type "type"),none,.cls {name:="NoDeed",bases:=[(.ref 24)],mro:=[(.ref 111),(.ref 24),(.type "ValueError"),(.type "Exception"),(.type "BaseException"),(.type "object")],ns:=110,qualname:="NoDeed",hasDict:=true,slotNames:=[],subclasses:=[],abstract:=false,collection:=none,hasDel:=false},#[some (.ref 102),none,some (.str "NoDeed" 305),some (.str "NoDeed" 313),some (.builtin "ValueError.__new__"),some (.bool true)]⟩) ::
 (nat_lit 122,kD [kE P "__module__" 328 (.str "stretchdeeds.errors" 187),kE P "__firstlineno__" 332 (.int (22) 331),kR P "__static_attributes__" 333 121,kE P "__doc__" 334 .none] 2) ::
 (nat_lit 123,⟨(.type "type"),none,.cls {name:="NoSign",bases:=[(.ref 24)],mro:=[(.ref 123),(.ref 24),(.type "ValueError"),(.type "Exception"),(.type "BaseException"),(.type "object")],ns:=122,qualname:="NoSign",hasDict:=true,slotNames:=[],subclasses:=[],abstract:=false,collection:=none,hasDel:=false},#[some (.ref 114),none,some (.str "NoSign" 321),some (.str "NoSign" 329),some (.builtin "ValueError.__new__"),some (.bool true)]⟩) ::
 (nat_lit 134,kD [kE P "__module__" 344 (.str "stretchdeeds.errors" 187),kE P "__firstlineno__" 348 (.int (24) 347),kR P "__static_attributes__" 349 133,kE P "__doc__" 350 .none] 2) ::
 (nat_lit 135,⟨(.type "type"),none,.cls {name:="TooGreat",bases:=[(.ref 24)],mro:=[(.ref 135),(.ref 24),(.type "ValueError"),(.type "Exception"),(.type "BaseException"),(.type "object")],ns:=134,qualname:="TooGreat",hasDict:=true,slotNames:=[],subclasses:=[],abstract:=false,collection:=none,hasDel:=false},#[some (.ref 126),none,some (.str "TooGreat" 337),some (.str "TooGreat" 345),some (.builtin "ValueError.__new__"),some (.bool true)]⟩) ::
 (nat_lit 146,kD [kE P "__module__" 360 (.str "stretchdeeds.errors" 187),kE P "__firstlineno__" 364 (.int (26) 363),kR P "__static_attributes__" 365 145,kE P "__doc__" 366 .none] 2) ::
 (nat_lit 147,⟨(.type "type"),none,.cls {name:="NoRow",bases:=[(.ref 24)],mro:=[(.ref 147),(.ref 24),(.type "ValueError"),(.type "Exception"),(.type "BaseException"),(.type "object")],ns:=146,qualname:="NoRow",hasDict:=true,slotNames:=[],subclasses:=[],abstract:=false,collection:=none,hasDel:=false},#[some (.ref 138),none,some (.str "NoRow" 353),some (.str "NoRow" 361),some (.builtin "ValueError.__new__"),some (.bool true)]⟩) ::
 (nat_lit 150,⟨(.type "tuple"),none,.seq #[(.str "a" 375),(.str "b" 376),(.str "c" 377)] 0,#[]⟩) ::
 (nat_lit 151,kD [kE P "add" 379 (.int (2) 380),kE P "take" 381 (.int (2) 382),kE P "times" 383 (.int (2) 384),kE P "most" 385 (.int (2) 386),kE P "least" 387 (.int (2) 388),kE P "same" 389 (.int (4) 390)] 6) ::
 (nat_lit 157,kC "is_let" 398 "is_let" 399 400 33 2 0 0 3 152 true 181 153 154 155 156 403 33 404) ::
 (nat_lit 158,kF "is_let" "is_let" W4 (.str "stretchdeeds.terms" 369) (.ref 157)) ::
 (nat_lit 164,kC "parts_after" 406 "parts_after" 407 408 35 1 0 0 3 159 true 181 160 161 162 163 410 35 411) ::
 (nat_lit 165,kF "parts_after" "parts_after" vf (.str "stretchdeeds.terms" 369) (.ref 164)) ::
 (nat_lit 169,⟨.type "code",none,.fields #[(.str "is_figures" 419),(.str "is_figures" 420),(.str "/claim/cut.py" 421),(.int (40) 0),(.int (2) 0),(.int (0) 0),(.int (0) 0),(.int (3) 0),(.ref 166),(.bool true),(.int (181) 0),(.ref 167),.none,.none,.none,(.ref 168),(.int (422) 0),(.int (40) 0),(.str "/claim/cut.py" 423)],#[]⟩) ::
 (nat_lit 170,kF "is_figures" "is_figures" wO (.str "stretchdeeds.termtexts" 413) (.ref 169)) ::
 (nat_lit 176,kC "fits" 425 "fits" 426 427 46 3 0 0 3 171 true 181 172 173 174 175 431 46 432) ::
 (nat_lit 177,kF "fits" "fits" zdn (.str "stretchdeeds.termtexts" 413) (.ref 176)) ::
 (nat_lit 183,kC "first_fault" 434 "first_fault" 435 436 50 2 0 0 3 178 true 181 179 180 181 182 442 50 443) ::
 (nat_lit 184,kF "first_fault" "first_fault" vA (.str "stretchdeeds.termtexts" 413) (.ref 183)) ::
 (nat_lit 190,kC "leaf_of" 445 "leaf_of" 446 447 59 1 0 0 3 185 true 181 186 187 188 189 449 59 450) ::
 (nat_lit 191,kF "leaf_of" "leaf_of" Xi (.str "stretchdeeds.termtexts" 413) (.ref 190)) ::
 (nat_lit 197,kC "term_of" 452 "term_of" 453 454 63 1 0 0 3 192 true 181 193 194 195 196 460 63 461) ::
 (nat_lit 198,kF "term_of" "term_of" Xc (.str "stretchdeeds.termtexts" 413) (.ref 197)) ::
 (nat_lit 204,kC "read_term" 463 "read_term" 464 465 70 2 0 0 3 199 true 181 200 201 202 203 470 70 471) ::
 (nat_lit 205,kF "read_term" "read_term" Zb (.str "stretchdeeds.termtexts" 413) (.ref 204)) ::
 (nat_lit 211,kC "_law_draw" 475 "_law_draw" 476 477 77 2 0 0 3 206 true 181 207 208 209 210 484 77 485) ::
 (nat_lit 212,kF "_law_draw" "_law_draw" Z4 (.str "law_stretchdeeds_k04_texts_of_no_term" 473) (.ref 211)) ::
 (nat_lit 218,kC "_law_digits" 487 "_law_digits" 488 489 89 2 0 0 3 213 true 181 214 215 216 217 494 89 495) ::
 (nat_lit 219,kF "_law_digits" "_law_digits" vO (.str "law_stretchdeeds_k04_texts_of_no_term" 473) (.ref 218)) ::
 (nat_lit 225,kC "_law_leaf" 497 "_law_leaf" 498 499 95 2 0 0 3 220 true 181 221 222 223 224 505 95 506) ::
 (nat_lit 226,kF "_law_leaf" "_law_leaf" Yb (.str "law_stretchdeeds_k04_texts_of_no_term" 473) (.ref 225)) ::
 (nat_lit 232,kC "_law_term" 508 "_law_term" 509 510 102 3 0 0 3 227 true 181 228 229 230 231 526 102 527) ::
 (nat_lit 233,kF "_law_term" "_law_term" Ye (.str "law_stretchdeeds_k04_texts_of_no_term" 473) (.ref 232)) ::
 (nat_lit 239,kC "_law_shown" 529 "_law_shown" 530 531 124 1 0 0 3 234 true 181 235 236 237 238 535 124 536) ::
 (nat_lit 240,kF "_law_shown" "_law_shown" Zg (.str "law_stretchdeeds_k04_texts_of_no_term" 473) (.ref 239)) ::
 (nat_lit 244,⟨.type "code",none,.fields #[(.str "_law_is_leaf" 538),(.str "_law_is_leaf" 539),(.str "/claim/cut.py" 540),(.int (131) 0),(.int (2) 0),(.int (0) 0),(.int (0) 0),(.int (3) 0),(.ref 241),(.bool true),(.int (181) 0),(.ref 242),.none,.none,.none,(.ref 243),(.int (541) 0),(.int (131) 0),(.str "/claim/cut.py" 542)],#[]⟩) ::
 (nat_lit 245,kF "_law_is_leaf" "_law_is_leaf" wA (.str "law_stretchdeeds_k04_texts_of_no_term" 473) (.ref 244)) ::
 (nat_lit 251,kC "_law_at" 544 "_law_at" 545 546 137 2 0 0 3 246 true 181 247 248 249 250 553 137 554) ::
 (nat_lit 252,kF "_law_at" "_law_at" W3 (.str "law_stretchdeeds_k04_texts_of_no_term" 473) (.ref 251)) ::
 (nat_lit 258,kC "_law_told" 556 "_law_told" 557 558 152 2 0 0 3 253 true 181 254 255 256 257 565 152 566) ::
 (nat_lit 259,kF "_law_told" "_law_told" Yg (.str "law_stretchdeeds_k04_texts_of_no_term" 473) (.ref 258)) ::
 (nat_lit 265,kC "_law_long" 568 "_law_long" 569 570 164 1 0 0 3 260 true 181 261 262 263 264 577 164 578) ::
 (nat_lit 266,kF "_law_long" "_law_long" Z9 (.str "law_stretchdeeds_k04_texts_of_no_term" 473) (.ref 265)) ::
 (nat_lit 272,kC "_law_changed" 580 "_law_changed" 581 582 176 2 0 0 3 267 true 181 268 269 270 271 593 176 594) ::
 (nat_lit 273,kF "_law_changed" "_law_changed" vq (.str "law_stretchdeeds_k04_texts_of_no_term" 473) (.ref 272)) ::
 (nat_lit 279,kC "_law_refusal" 596 "_law_refusal" 597 598 199 2 0 0 3 274 true 181 275 276 277 278 603 199 604) ::
 (nat_lit 280,kF "_law_refusal" "_law_refusal" vg (.str "law_stretchdeeds_k04_texts_of_no_term" 473) (.ref 279)) ::
 (nat_lit 286,kC "_law_right" 606 "_law_right" 607 608 209 2 0 0 3 281 true 181 282 283 284 285 614 209 615) ::
 (nat_lit 287,kF "_law_right" "_law_right" Zd (.str "law_stretchdeeds_k04_texts_of_no_term" 473) (.ref 286)) ::
 (nat_lit 293,kC "law" 617 "law" 618 619 216 1 0 0 3 288 true 181 289 290 291 292 624 216 625) ::
 (nat_lit 294,kF "law" "law" zfV (.str "law_stretchdeeds_k04_texts_of_no_term" 473) (.ref 293)) ::
 []
def kA:List Addr:=[2,3,23,24,40,41,43,44,62,63,74,75,86,87,98,99,110,111,122,123,134,135,146,147,150,151,157,158,164,165,169,170,176,177,183,184,190,191,197,198,204,205,211,212,218,219,225,226,232,233,239,240,244,245,251,252,258,259,265,266,272,273,279,280,286,287,293,294]
def qv:Program:={PySem.Challenge.pw_stretchdeeds_k04_texts_of_no_term with main:={PySem.Challenge.pw_stretchdeeds_k04_texts_of_no_term.main with body:=[1,2,3,4,5,6,7,8,9,10,12,13,14,15,16,17,19,20,21,22,23,24,25,26,28,29,30,31,32,33,34,35,36,37,38,39,40].map top}}
theorem kAe(P:Params):kA=(K P).map (·.1):=by kernel_rfl
set_option maxRecDepth 100000
theorem ws:PySem.Challenge.rw_stretchdeeds_k04_texts_of_no_term.wellSaid=true:=by kernel_rfl
abbrev Xt(s:Shared):Bool:=xlAt qv [] s&&recOk (RowW.records (OpenRow.toRowW PySem.Challenge.rw_stretchdeeds_k04_texts_of_no_term.row)) s
abbrev hk:Hook:=kHook K kA kAe
theorem hl0(w:World):Option.map (λs₀=>Option.map (λs=>(openSeen qv ["PARTS"] (importedModules PySem.Challenge.pw_stretchdeeds_k04_texts_of_no_term.main.body) Xt true s,hk.obs s)) (topFrom treeTable PySem.Challenge.pw_stretchdeeds_k04_texts_of_no_term (w.withFollow "special-get-raises" false) 6188 s₀)) (fencedOpening treeTable PySem.Challenge.pw_stretchdeeds_k04_texts_of_no_term w 6188)=some (some (openGood qv ["PARTS"],hk.val (w.withFollow "special-get-raises" false))):=by kernel_rfl
theorem hl1(w:World):Option.map (λs₀=>Option.map (λs=>(openSeen qv ["PARTS"] (importedModules PySem.Challenge.pw_stretchdeeds_k04_texts_of_no_term.main.body) Xt true s,hk.obs s)) (topFrom treeTable PySem.Challenge.pw_stretchdeeds_k04_texts_of_no_term (w.withFollow "special-get-raises" true) 6188 s₀)) (fencedOpening treeTable PySem.Challenge.pw_stretchdeeds_k04_texts_of_no_term w 6188)=some (some (openGood qv ["PARTS"],hk.val (w.withFollow "special-get-raises" true))):=by kernel_rfl
theorem hl2{α β γ:Type}{f:α->β}{g:α->γ}{x:Option α}{a:β}{b:γ}(h:x.map f=some a)(k:x.map g=some b):x.map (λs=>(f s,g s))=some (a,b):=by
 cases x with
 |none=>cases h
 |some y=>cases h;cases k;rfl
theorem hl:LeftO PySem.Challenge.pw_stretchdeeds_k04_texts_of_no_term qv ["PARTS"] Xt hk.obs hk.val 6188:=LeftO.of_split "special-get-raises" λw=>hl2 (hl0 w) (hl1 w)
end G04
end
section
namespace PF
open PySem PySem.Spec PyProof.Rows L2
abbrev St:=L2.St
structure KD where
 d:Addr->List (Key×V)->Prop
 c:Str->Addr
instance:CoeFun KD (λ_=>Addr->List (Key×V)->Prop):=⟨KD.d⟩
inductive D where
 |non|bl (b:Bool)|int (i:Int)|str (x:Str)|tup (ds:List D)|lst (ds:List D)|dct (kvs:List (Key×D))|cl (c:Str)|ob (c:Str) (ns:List Str) (ds:List D)
mutual
inductive Rp(K:zC)(kd:KD)(O:Addr->Prop)(H:Hp):V->D->Prop
 |non:Rp K kd O H .non .non
 |bl (b:Bool):Rp K kd O H (.bl b) (.bl b)
 |int (i:Int):Rp K kd O H (.int i) (.int i)
 |str (x:Str):Rp K kd O H (.str x) (.str x)
 |tup {a:Addr}{vs:List V}{ds:List D}:¬O a->Rd H a (.tup vs)->RpL K kd O H vs ds->Rp K kd O H (.ref a) (.tup ds)
 |tupK {a:Addr}{o:Obj}{its:Array Value}{n:Nat}{vs:List V}{ds:List D}:K.lookup a=some o->o.cls = .type "tuple"->o.data = .seq its n->its.size<=sizeLine->Vals vs its.toList->RpL K kd O H vs ds->Rp K kd O H (.ref a) (.tup ds)
 |lst {a:Addr}{vs:List V}{ds:List D}:¬O a->Rd H a (.lst vs)->RpL K kd O H vs ds->Rp K kd O H (.ref a) (.lst ds)
 |lstK {a:Addr}{its:Array Value}{n:Nat}{vs:List V}{ds:List D}:K.lookup a=some {cls:=.type "list",data:=.seq its n}->its.size<=sizeLine->Vals vs its.toList->RpL K kd O H vs ds->Rp K kd O H (.ref a) (.lst ds)
 |dct {a:Addr}{kvs:List (Key×V)}{ds:List (Key×D)}:¬O a->Rd H a (.dK kvs)->RpM K kd O H kvs ds->Rp K kd O H (.ref a) (.dct ds)
 |dctK {a:Addr}{kvs:List (Key×V)}{ds:List (Key×D)}:kd a kvs->RpM K kd O H kvs ds->Rp K kd O H (.ref a) (.dct ds)
 |cl (c:Str):Rp K kd O H (.ref (kd.c c)) (.cl c)
 |ob {a dx:Addr}{c:Str}{ns:List Str}{vs:List V}{ds:List D}:¬O a->H a=some (.ins (kd.c c) dx (ns.zip vs))->ns.length=vs.length->RpL K kd O H vs ds->Rp K kd O H (.ref a) (.ob c ns ds)
inductive RpL(K:zC)(kd:KD)(O:Addr->Prop)(H:Hp):List V->List D->Prop
 |nil:RpL K kd O H [] []
 |cons {v:V}{d:D}{vs:List V}{ds:List D}:Rp K kd O H v d->RpL K kd O H vs ds->RpL K kd O H (v::vs) (d::ds)
inductive RpM(K:zC)(kd:KD)(O:Addr->Prop)(H:Hp):List (Key×V)->List (Key×D)->Prop
 |nil:RpM K kd O H [] []
 |cons {k:Key}{v:V}{d:D}{vs:List (Key×V)}{ds:List (Key×D)}:Rp K kd O H v d->RpM K kd O H vs ds->RpM K kd O H ((k,v)::vs) ((k,d)::ds)
end
structure Grow(W:Addr->Prop)(H:Hp)(W':Addr->Prop)(H':Hp):Prop where
 keep:∀b o,H b=some o->¬W b->H' b=some o
 own:∀b,W' b->W b\/H b=none
theorem Grow.refl{W:Addr->Prop}{H:Hp}:Grow W H W H:=⟨λ_ _ h _=>h,λ_ h=>.inl h⟩
theorem Grow.trans{W W1 W2:Addr->Prop}{H H1 H2:Hp}(a:Grow W H W1 H1)(b:Grow W1 H1 W2 H2):Grow W H W2 H2 where
 keep:=λx o h n=>b.keep x o (a.keep x o h n) λq=>(a.own x q).elim n λz=>by rw[z]at h;cases h
 own:=λx q=>by
  rcases b.own x q with h|h
  · exact a.own x h
  · cases e:H x with
    |none=>exact .inr rfl
    |some o=>
     refine .inl (Classical.byContradiction λn=>?_)
     rw[a.keep x o e n]at h
     cases h
theorem Grow.less{W W':Addr->Prop}{H:Hp}(h:∀a,W' a->W a):Grow W H W' H:=⟨λ_ _ q _=>q,λb q=>.inl (h b q)⟩
theorem Grow.wr{W:Addr->Prop}{H:Hp}{p:Addr}{o:HO}(h:W p):Grow W H W (upd H p o):=
 ⟨λb u q n=>by rw[zK (λe=>n (by rw[e];exact h))];exact q,λ_ q=>.inl q⟩
abbrev Un2(F W:Addr->Prop):Addr->Prop:=λa=>F a\/W a
section
variable{K:zC}{kd:KD}{F W W':Addr->Prop}{H H':Hp}
theorem Yn{a:Addr}{u:HO}(g:Grow W H W' H')(n:¬W a)(h:Rd H a u):Rd H' a u:=by
 rcases h with h|⟨o,h⟩
 · exact .inl (g.keep _ _ h n)
 · exact .inr ⟨o,g.keep _ _ h n⟩
theorem zkm{a:Addr}{u:HO}(h:Rd H a u):H a≠none:=by
 rcases h with h|⟨o,h⟩<;>(rw[h];simp)
theorem W0{a:Addr}{u:HO}(g:Grow W H W' H')(n:¬Un2 F W a)(h:Rd H a u):¬Un2 F W' a:=λq=>
 q.elim (λz=>n (.inl z)) λz=>(g.own a z).elim (λy=>n (.inr y)) λy=>zkm h y
theorem Rp.grow(g:Grow W H W' H'){v:V}{d:D}(h:Rp K kd (Un2 F W) H v d):Rp K kd (Un2 F W') H' v d:=
 Rp.rec (motive_1:=λv d _=>Rp K kd (Un2 F W') H' v d) (motive_2:=λvs ds _=>RpL K kd (Un2 F W') H' vs ds) (motive_3:=λvs ds _=>RpM K kd (Un2 F W') H' vs ds) .non .bl .int .str (λn h _ r=>.tup (W0 g n h) (Yn g (λz=>n (.inr z)) h) r) (λa b c e f _ r=>.tupK a b c e f r) (λn h _ r=>.lst (W0 g n h) (Yn g (λz=>n (.inr z)) h) r) (λa e f _ r=>.lstK a e f r) (λn h _ r=>.dct (W0 g n h) (Yn g (λz=>n (.inr z)) h) r) (λh _ r=>.dctK h r) .cl (λn h l _ r=>.ob (W0 g n (.inl h)) (g.keep _ _ h λz=>n (.inr z)) l r) .nil (λ_ _ h r=>.cons h r) .nil (λ_ _ h r=>.cons h r) h
theorem RpL.ind{O:Addr->Prop}{P:List V->List D->Prop}(h0:P [] [])(h1:∀{v d vs ds},Rp K kd O H v d->RpL K kd O H vs ds->P vs ds->P (v::vs) (d::ds)){vs:List V}{ds:List D}(h:RpL K kd O H vs ds):P vs ds:=
 RpL.rec (motive_1:=λ_ _ _=>True) (motive_2:=λvs ds _=>P vs ds) (motive_3:=λ_ _ _=>True) ⟨⟩ (λ_=>⟨⟩) (λ_=>⟨⟩) (λ_=>⟨⟩) (λ_ _ _ _=>⟨⟩) (λ_ _ _ _ _ _ _=>⟨⟩) (λ_ _ _ _=>⟨⟩) (λ_ _ _ _ _=>⟨⟩) (λ_ _ _ _=>⟨⟩) (λ_ _ _=>⟨⟩) (λ_=>⟨⟩) (λ_ _ _ _ _=>⟨⟩) h0 (λa r _ ih=>h1 a r ih) ⟨⟩ (λ_ _ _ _=>⟨⟩) h
theorem RpM.ind{O:Addr->Prop}{P:List (Key×V)->List (Key×D)->Prop}(h0:P [] [])(h1:∀{k v d vs ds},Rp K kd O H v d->RpM K kd O H vs ds->P vs ds->P ((k,v)::vs) ((k,d)::ds)){vs:List (Key×V)}{ds:List (Key×D)}(h:RpM K kd O H vs ds):P vs ds:=
 RpM.rec (motive_1:=λ_ _ _=>True) (motive_2:=λ_ _ _=>True) (motive_3:=λvs ds _=>P vs ds) ⟨⟩ (λ_=>⟨⟩) (λ_=>⟨⟩) (λ_=>⟨⟩) (λ_ _ _ _=>⟨⟩) (λ_ _ _ _ _ _ _=>⟨⟩) (λ_ _ _ _=>⟨⟩) (λ_ _ _ _ _=>⟨⟩) (λ_ _ _ _=>⟨⟩) (λ_ _ _=>⟨⟩) (λ_=>⟨⟩) (λ_ _ _ _ _=>⟨⟩) ⟨⟩ (λ_ _ _ _=>⟨⟩) h0 (λa r _ ih=>h1 a r ih) h
theorem RpL.grow(g:Grow W H W' H'){vs:List V}{ds:List D}(h:RpL K kd (Un2 F W) H vs ds):RpL K kd (Un2 F W') H' vs ds:=RpL.ind .nil (λa _ r=>.cons (Rp.grow g a) r) h
theorem Rp.less{O O':Addr->Prop}(g:∀a,O' a->O a){v:V}{d:D}(h:Rp K kd O H v d):Rp K kd O' H v d:=
 Rp.rec (motive_1:=λv d _=>Rp K kd O' H v d) (motive_2:=λvs ds _=>RpL K kd O' H vs ds) (motive_3:=λvs ds _=>RpM K kd O' H vs ds) .non .bl .int .str (λn h _ r=>.tup (λz=>n (g _ z)) h r) (λa b c e f _ r=>.tupK a b c e f r) (λn h _ r=>.lst (λz=>n (g _ z)) h r) (λa e f _ r=>.lstK a e f r) (λn h _ r=>.dct (λz=>n (g _ z)) h r) (λh _ r=>.dctK h r) .cl (λn h l _ r=>.ob (λz=>n (g _ z)) h l r) .nil (λ_ _ h r=>.cons h r) .nil (λ_ _ h r=>.cons h r) h
theorem RpL.less{O O':Addr->Prop}(g:∀a,O' a->O a){vs:List V}{ds:List D}(h:RpL K kd O H vs ds):RpL K kd O' H vs ds:=RpL.ind .nil (λa _ r=>.cons (Rp.less g a) r) h
theorem RpM.less{O O':Addr->Prop}(g:∀a,O' a->O a){vs:List (Key×V)}{ds:List (Key×D)}(h:RpM K kd O H vs ds):RpM K kd O' H vs ds:=RpM.ind .nil (λa _ r=>.cons (Rp.less g a) r) h
theorem RpL.length{O:Addr->Prop}{vs:List V}{ds:List D}(h:RpL K kd O H vs ds):vs.length=ds.length:=RpL.ind (P:=λvs ds=>vs.length=ds.length) rfl (λ_ _ r=>congrArg (· + 1) r) h
theorem RpM.length{O:Addr->Prop}{vs:List (Key×V)}{ds:List (Key×D)}(h:RpM K kd O H vs ds):vs.length=ds.length:=RpM.ind (P:=λvs ds=>vs.length=ds.length) rfl (λ_ _ r=>congrArg (· + 1) r) h
theorem RpL.get{O:Addr->Prop}{vs:List V}{ds:List D}{i:Nat}{d:D}(h:RpL K kd O H vs ds)(e:ds[i]? = some d):∃v,vs[i]? = some v/\Rp K kd O H v d:=
 RpL.ind (P:=λvs ds=>∀i,ds[i]? = some d->∃v,vs[i]? = some v/\Rp K kd O H v d) (λi e=>by rw[List.getElem?_nil]at e;cases e) (λa _ ih i e=>by
  cases i with
  |zero=>cases e;exact⟨_,rfl,a⟩
  |succ i=>exact ih i e) h i e
theorem RpL.append{O:Addr->Prop}{vs ws:List V}{ds es:List D}(h:RpL K kd O H vs ds)(r:RpL K kd O H ws es):RpL K kd O H (vs++ws) (ds++es):=RpL.ind (P:=λvs ds=>RpL K kd O H (vs++ws) (ds++es)) r (λa _ t=>.cons a t) h
theorem RpL.take{O:Addr->Prop}{vs:List V}{ds:List D}(n:Nat)(h:RpL K kd O H vs ds):RpL K kd O H (vs.take n) (ds.take n):=
 RpL.ind (P:=λvs ds=>∀n,RpL K kd O H (vs.take n) (ds.take n)) (λn=>by rw[List.take_nil,List.take_nil];exact .nil) (λa _ ih n=>by
  cases n with
  |zero=>exact .nil
  |succ n=>exact .cons a (ih n)) h n
theorem RpL.drop{O:Addr->Prop}{vs:List V}{ds:List D}(n:Nat)(h:RpL K kd O H vs ds):RpL K kd O H (vs.drop n) (ds.drop n):=
 RpL.ind (P:=λvs ds=>∀n,RpL K kd O H (vs.drop n) (ds.drop n)) (λn=>by rw[List.drop_nil,List.drop_nil];exact .nil) (λa b ih n=>by
  cases n with
  |zero=>exact .cons a b
  |succ n=>exact ih n) h n
theorem RpL.rep{O:Addr->Prop}{vs:List V}{ds:List D}(h:RpL K kd O H vs ds):∀k:Nat,RpL K kd O H (List.replicate k vs).flatten (List.replicate k ds).flatten
 |0=>.nil
 |k+1=>by
  rw[List.replicate_succ,List.replicate_succ,List.flatten_cons,List.flatten_cons]
  exact h.append (RpL.rep h k)
end
inductive Vw(K:zC)(kd:KD)(O:Addr->Prop)(H:Hp):V->D->Prop
 |non:Vw K kd O H .non .non
 |bl (b:Bool):Vw K kd O H (.bl b) (.bl b)
 |int (i:Int):Vw K kd O H (.int i) (.int i)
 |str (x:Str):Vw K kd O H (.str x) (.str x)
 |tup {a:Addr}{vs:List V}{ds:List D}:Rp K kd O H (.ref a) (.tup ds)->SqT K H a vs->RpL K kd O H vs ds->Vw K kd O H (.ref a) (.tup ds)
 |lst {a:Addr}{vs:List V}{ds:List D}:RdL K H a vs->RpL K kd O H vs ds->Vw K kd O H (.ref a) (.lst ds)
 |dct {a:Addr}{kvs:List (Key×V)}{ds:List (Key×D)}:(Rd H a (.dK kvs)\/kd a kvs)->RpM K kd O H kvs ds->Vw K kd O H (.ref a) (.dct ds)
 |cl (c:Str):Vw K kd O H (.ref (kd.c c)) (.cl c)
 |ob {a dx:Addr}{c:Str}{ns:List Str}{vs:List V}{ds:List D}:H a=some (.ins (kd.c c) dx (ns.zip vs))->ns.length=vs.length->RpL K kd O H vs ds->Vw K kd O H (.ref a) (.ob c ns ds)
theorem Rp.vw{K:zC}{kd:KD}{O:Addr->Prop}{H:Hp}{v:V}{d:D}(h:Rp K kd O H v d):Vw K kd O H v d:=by
 cases h with
 |non=>exact .non
 |bl b=>exact .bl b
 |int i=>exact .int i
 |str x=>exact .str x
 |tup n h r=>exact .tup (.tup n h r) (.inl h) r
 |tupK a b c e f r=>exact .tup (.tupK a b c e f r) (.inr ⟨_,_,_,a,b,c,e,f⟩) r
 |lst n h r=>exact .lst (.inl h) r
 |lstK a e f r=>exact .lst (.inr ⟨_,_,a,e,f⟩) r
 |dct n h r=>exact .dct (.inl h) r
 |dctK h r=>exact .dct (.inr h) r
 |cl c=>exact .cl c
 |ob n h l r=>exact .ob h l r
theorem _root_.L2.RdL.sq{K:zC}{H:Hp}{a:Addr}{xs:List V}(h:RdL K H a xs):SqL K H a xs:=by
 rcases h with h|⟨its,n,k,z,r⟩
 · exact .inl h
 · exact .inr ⟨_,its,n,k,rfl,rfl,rfl,z,r⟩
theorem zeX{X:Cx}{pins:List (Addr×Obj)}{σ:St}{H:Hp}{s:Shared}{a:Addr}{xs:List V}(I:Inv X pins σ H s)(h:RdL X.K H a xs):
 xs.length<=sizeLine/\∃(its:List Value) (n:Nat),Vals xs its/\s.heap.get? a=some {cls:=.type "list",data:=.seq its.toArray n}:=by
 rcases h with h|⟨its,n,k,z,r⟩
 · exact h.ok I.hok
 · refine⟨by rw[r.length];simpa using z,its.toList,n,r,by simpa using I.kIn _ _ k⟩
theorem Rp.cl_eq{K:zC}{kd:KD}{O:Addr->Prop}{H:Hp}{C:Addr}{c:Str}(h:Rp K kd O H (.ref C) (.cl c)):C=kd.c c:=by
 cases h;rfl
def zY:D->Bool
 | .non=>true | .bl _=>true | .int _=>true | .str _=>true|_=>false
theorem Rp.flat{K:zC}{kd:KD}{O O':Addr->Prop}{H H':Hp}{v:V}{d:D}(h:Rp K kd O H v d)(e:zY d=true):Rp K kd O' H' v d:=by
 cases h with
 |non=>exact .non
 |bl b=>exact .bl b
 |int i=>exact .int i
 |str x=>exact .str x
 |_=>cases e
inductive Kind where
 |ls|tp|dc (ks:List Key)|ob (c:Str) (ns:List Str)
inductive O where
 |lf (st:Bool) (d:D)|nd (k:Kind) (os:List O)
abbrev lfs(st:Bool)(d:D):O:=.lf (zY d||st) d
mutual
inductive Ro(L:Bool->V->D->Prop)(N:Addr->Prop)(H:Hp):V->O->List Addr->Prop
 |lf {st:Bool}{v:V}{d:D}:L st v d->Ro L N H v (.lf st d) []
 |ls {a:Addr}{vs:List V}{os:List O}{fp:List Addr}:H a=some (.lst vs)->RoL L N H vs os fp->Ro L N H (.ref a) (.nd .ls os) (a::fp)
 |dc {a:Addr}{ks:List Key}{vs:List V}{os:List O}{fp:List Addr}:H a=some (.dK (ks.zip vs))->ks.length=vs.length->RoL L N H vs os fp->Ro L N H (.ref a) (.nd (.dc ks) os) (a::fp)
 |ob {a dx C:Addr}{c:Str}{ns:List Str}{vs:List V}{os:List O}{fp:List Addr}:L true (.ref C) (.cl c)->H a=some (.ins C dx (ns.zip vs))->ns.length=vs.length->RoL L N H vs os fp->Ro L N H (.ref a) (.nd (.ob c ns) os) (a::fp)
 |tp {a:Addr}{vs:List V}{os:List O}{fp:List Addr}:N a->H a=some (.tup vs)->RoL L N H vs os fp->Ro L N H (.ref a) (.nd .tp os) fp
inductive RoL(L:Bool->V->D->Prop)(N:Addr->Prop)(H:Hp):List V->List O->List Addr->Prop
 |nil:RoL L N H [] [] []
 |cons {v:V}{o:O}{vs:List V}{os:List O}{fp fq:List Addr}:Ro L N H v o fp->RoL L N H vs os fq->RoL L N H (v::vs) (o::os) (fp++fq)
end
mutual
def O.toD:O->D
 | .lf _ d=>d
 | .nd .ls os=>.lst (O.toDs os)
 | .nd .tp os=>.tup (O.toDs os)
 | .nd (.dc ks) os=>.dct (ks.zip (O.toDs os))
 | .nd (.ob c ns) os=>.ob c ns (O.toDs os)
def O.toDs:List O->List D
 | []=>[]
 |o::r=>o.toD::O.toDs r
end
mutual
def O.str:O->Bool
 | .lf st _=>st
 | .nd _ os=>O.strs os
def O.strs:List O->Bool
 | []=>true
 |o::r=>o.str&&O.strs r
end
section
variable{L L':Bool->V->D->Prop}{N N':Addr->Prop}{H H':Hp}{K:zC}{kd:KD}{Ob:Addr->Prop}
theorem Ro.mono(hL:∀st v d,L st v d->L' st v d)(hN:∀a vs,N a->H a=some (.tup vs)->N' a/\H' a=some (.tup vs)){v:V}{o:O}{fp:List Addr}(k:∀a ∈ fp,∀u,H a=some u->H' a=some u)(h:Ro L N H v o fp):Ro L' N' H' v o fp:=
 Ro.rec (motive_1:=λv o fp _=>(∀a ∈ fp,∀u,H a=some u->H' a=some u)->Ro L' N' H' v o fp) (motive_2:=λvs os fp _=>(∀a ∈ fp,∀u,H a=some u->H' a=some u)->RoL L' N' H' vs os fp)
  (λh _=>.lf (hL _ _ _ h)) (λh _ r k=>.ls (k _ zzB _ h) (r λa m=>k a (zS _ m))) (λh l _ r k=>.dc (k _ zzB _ h) l (r λa m=>k a (zS _ m))) (λc h l _ r k=>.ob (hL _ _ _ c) (k _ zzB _ h) l (r λa m=>k a (zS _ m))) (λn h _ r k=>.tp (hN _ _ n h).1 (hN _ _ n h).2 (r k))
  (λ_=>.nil) (λ_ _ h r k=>.cons (h λa m=>k a (zzL _ m)) (r λa m=>k a (zzH _ m))) h k
theorem RoL.ind{P:List V->List O->List Addr->Prop}(h0:P [] [] [])(h1:∀{v o vs os fp fq},Ro L N H v o fp->RoL L N H vs os fq->P vs os fq->P (v::vs) (o::os) (fp++fq)){vs:List V}{os:List O}{fp:List Addr}(h:RoL L N H vs os fp):P vs os fp:=
 RoL.rec (motive_1:=λ_ _ _ _=>True) (motive_2:=λvs os fp _=>P vs os fp) (λ_=>⟨⟩) (λ_ _ _=>⟨⟩) (λ_ _ _ _=>⟨⟩) (λ_ _ _ _ _=>⟨⟩) (λ_ _ _ _=>⟨⟩) h0 (λa r _ ih=>h1 a r ih) h
theorem RoL.mono(hL:∀st v d,L st v d->L' st v d)(hN:∀a vs,N a->H a=some (.tup vs)->N' a/\H' a=some (.tup vs)){vs:List V}{os:List O}{fp:List Addr}(k:∀a ∈ fp,∀u,H a=some u->H' a=some u)(h:RoL L N H vs os fp):RoL L' N' H' vs os fp:=
 RoL.ind (P:=λvs os fp=>(∀a ∈ fp,∀u,H a=some u->H' a=some u)->RoL L' N' H' vs os fp) (λ_=>.nil) (λh _ r k=>.cons (Ro.mono hL hN (λa m=>k a (zzL _ m)) h) (r λa m=>k a (zzH _ m))) h k
theorem zas:∀{ks:List Key}{vs:List V}{ds:List D},RpL K kd Ob H vs ds->ks.length=vs.length->RpM K kd Ob H (ks.zip vs) (ks.zip ds)
 | [],_,_,_,_=>.nil
 |_::_,_,_,.nil,e=>by simp at e
 |_::_,_,_,.cons h r,e=>.cons h (zas r (by simpa using e))
theorem Ro.rp(b:Bool)(hL:∀st v d,(b=true->st=true)->L st v d->Rp K kd Ob H v d)(hN:∀a,N a->¬Ob a){v:V}{o:O}{fp:List Addr}(s:b=true->o.str=true)(k:∀a ∈ fp,¬Ob a)(h:Ro L N H v o fp):Rp K kd Ob H v o.toD:=
 Ro.rec (motive_1:=λv o fp _=>(b=true->o.str=true)->(∀a ∈ fp,¬Ob a)->Rp K kd Ob H v o.toD) (motive_2:=λvs os fp _=>(b=true->O.strs os=true)->(∀a ∈ fp,¬Ob a)->RpL K kd Ob H vs (O.toDs os))
  (λh s _=>hL _ _ _ s h) (λh _ r s k=>.lst (k _ zzB) (.inl h) (r s λa m=>k a (zS _ m))) (λh l _ r s k=>.dct (k _ zzB) (.inl h) (zas (r s λa m=>k a (zS _ m)) l)) (λc h l _ r s k=>by
   have e:=(hL _ _ _ (λ_=>rfl) c).cl_eq
   subst e
   exact .ob (k _ zzB) h l (r s λa m=>k a (zS _ m))) (λn h _ r s k=>.tup (hN _ n) (.inl h) (r s k))
  (λ_ _=>.nil) (λ_ _ h r s k=>.cons (h (λz=>((zzY _ _).mp (s z)).1) λa m=>k a (zzL _ m)) (r (λz=>((zzY _ _).mp (s z)).2) λa m=>k a (zzH _ m))) h s k
theorem RoL.rp(b:Bool)(hL:∀st v d,(b=true->st=true)->L st v d->Rp K kd Ob H v d)(hN:∀a,N a->¬Ob a){vs:List V}{os:List O}{fp:List Addr}(s:b=true->O.strs os=true)(k:∀a ∈ fp,¬Ob a)(h:RoL L N H vs os fp):RpL K kd Ob H vs (O.toDs os):=
 RoL.ind (P:=λvs os fp=>(b=true->O.strs os=true)->(∀a ∈ fp,¬Ob a)->RpL K kd Ob H vs (O.toDs os)) (λ_ _=>.nil) (λh _ r s k=>.cons (Ro.rp b hL hN (λz=>((zzY _ _).mp (s z)).1) (λa m=>k a (zzL _ m)) h) (r (λz=>((zzY _ _).mp (s z)).2) λa m=>k a (zzH _ m))) h s k
theorem RoL.length{vs:List V}{os:List O}{fp:List Addr}(h:RoL L N H vs os fp):vs.length=os.length:=RoL.ind (P:=λvs os _=>vs.length=os.length) rfl (λ_ _ r=>congrArg (· + 1) r) h
theorem V5:∀os:List O,(O.toDs os).length=os.length
 | []=>rfl
 |_::r=>congrArg (· + 1) (V5 r)
theorem RoL.append{vs ws:List V}{os ps:List O}{f g:List Addr}(h:RoL L N H vs os f)(r:RoL L N H ws ps g):RoL L N H (vs++ws) (os++ps) (f++g):=RoL.ind (P:=λvs os f=>RoL L N H (vs++ws) (os++ps) (f++g)) r (λh _ t=>by rw[zyZ];exact .cons h t) h
theorem RoL.one{v:V}{o:O}{f:List Addr}(h:Ro L N H v o f):RoL L N H [v] [o] f:=by
 have:=RoL.cons h (RoL.nil (L:=L) (N:=N) (H:=H))
 rw[zyA]at this
 exact this
theorem RoL.part(k:Nat):∀{vs:List V}{os:List O}{fp:List Addr},RoL L N H vs os fp->∃f g,fp=f++g/\RoL L N H (vs.take k) (os.take k) f/\RoL L N H (vs.drop k) (os.drop k) g:=by
 induction k with
 |zero=>intro vs os fp h;exact⟨[],fp,rfl,.nil,h⟩
 |succ k ih=>
  intro vs os fp h
  cases h with
  |nil=>exact⟨[],[],rfl,.nil,.nil⟩
  |cons h r=>
   obtain⟨f,g,rfl,h1,h2⟩:=ih r
   exact⟨_,g,(zyZ _ _ _).symm,.cons h h1,h2⟩
theorem RoL.at_{k:Nat}{o:O}:∀{vs:List V}{os:List O}{fp:List Addr},RoL L N H vs os fp->os[k]? = some o->∃v f fo g,vs[k]? = some v/\fp=f++(fo++g)/\Ro L N H v o fo/\RoL L N H (vs.take k) (os.take k) f/\RoL L N H (vs.drop (k+1)) (os.drop (k+1)) g:=by
 induction k with
 |zero=>
  intro vs os fp h e
  cases h with
  |nil=>cases e
  |cons h r=>
   rw[List.getElem?_cons_zero]at e
   cases e
   exact⟨_,[],_,_,rfl,rfl,h,.nil,r⟩
 |succ k ih=>
  intro vs os fp h e
  cases h with
  |nil=>cases e
  |cons h r=>
   rw[List.getElem?_cons_succ]at e
   obtain⟨v,f,fo,g,e1,e2,h1,h2,h3⟩:=ih r e
   subst e2
   exact⟨v,_,fo,g,by rw[List.getElem?_cons_succ];exact e1,(zyZ _ _ _).symm,h1,.cons h h2,h3⟩
theorem Zn{α:Type}(l:List α)(k:Nat):l.eraseIdx k=l.take k++l.drop (k+1):=List.eraseIdx_eq_take_drop_succ l k
end
abbrev AS:=List (Option O)
abbrev Ad:=Nat->List Addr
def Gw(T:List Addr)(ad:Ad):Addr->Prop:=λa=>a ∈ T\/∃i,a ∈ ad i
abbrev Lv(F B G:Addr->Prop)(st:Bool):Addr->Prop:=Un2 (λa=>(st=true/\F a)\/B a) G
abbrev Lf(K:zC)(kd:KD)(F B G:Addr->Prop)(H:Hp):Bool->V->D->Prop:=λst v d=>Rp K kd (Lv F B G st) H v d
abbrev Nf(F B G:Addr->Prop):Addr->Prop:=λa=>¬Lv F B G true a
abbrev RoS(K:zC)(kd:KD)(F B G:Addr->Prop)(H:Hp):V->O->List Addr->Prop:=Ro (Lf K kd F B G H) (Nf F B G) H
abbrev vK(K:zC)(kd:KD)(F B G:Addr->Prop)(H:Hp):List V->List O->List Addr->Prop:=RoL (Lf K kd F B G H) (Nf F B G) H
def zav(K:zC)(kd:KD)(F B G:Addr->Prop)(H:Hp):Option O->Option (Option V)->List Addr->Prop
 |none,_,fp=>fp=[]
 |some o,s,fp=>∃v,s=some (some v)/\RoS K kd F B G H v o fp
structure Rel(K:zC)(kd:KD)(F B:Addr->Prop)(T:List Addr)(ad:Ad)(as:AS)(σ:St)(H:Hp):Prop where
 len:as.length=σ.length
 out:∀i,as.length<=i->ad i=[]
 nd:∀i,(ad i).Nodup
 inj:∀i j a,a ∈ ad i->a ∈ ad j->i=j
 tnd:T.Nodup
 dis:∀i a,a ∈ ad i->a ∉ T
 ftr:∀a,F a->H a≠none
 btr:∀a,B a->H a≠none/\¬F a/\¬Gw T ad a
 gtr:∀a,Gw T ad a->H a≠none/\¬F a
 sl:∀i s,as[i]? = some s->zav K kd F B (Gw T ad) H s σ[i]? (ad i)
inductive RV where
 |ow (o:O)|bo (i:Nat)
def wz(K:zC)(kd:KD)(F B:Addr->Prop)(T:List Addr)(ad:Ad)(σ:St)(H:Hp)(v:V):RV->Prop
 | .ow o=>RoS K kd F B (Gw T ad) H v o T
 | .bo i=>T=[]/\σ[i]? = some (some v)
def O.frz(o:O):O:=.lf o.str o.toD
def RV.frz:RV->RV
 | .ow o=>.ow o.frz
 | .bo i=>.bo i
def O.isLf:O->Bool
 | .lf _ _=>true
 |_=>false
def O.kl:O->Option Bool
 | .lf st _=>some st
 | .nd _ os=>if os.all O.isLf=true then some (O.strs os)else none
def RV.view(as:AS):RV->Option (D×Option Bool)
 | .ow o=>some (o.toD,some o.str)
 | .bo i=>match as[i]? with
  |some (some o)=>some (o.toD,o.kl)
  |_=>none
def Obl(F B G:Addr->Prop):Option Bool->Addr->Prop
 |some st=>Lv F B G st
 |none=>λ_=>False
section
variable{K:zC}{kd:KD}{F B F' B':Addr->Prop}{G G':Addr->Prop}{T T':List Addr}{ad ad1:Ad}{as as1:AS}{σ:St}{H H1 H':Hp}{v:V}{r:RV}{o:O}{fp:List Addr}{vs:List V}{os:List O}
theorem RoS.grow(g:Grow G H G' H')(k:∀a ∈ fp,∀u,H a=some u->H' a=some u)(h:RoS K kd F B G H v o fp):RoS K kd F B G' H' v o fp:=
 Ro.mono (λst v d r=>Rp.grow g r) (λa vs n e=>⟨λz=>z.elim (λy=>n (.inl y)) λy=>(g.own a y).elim (λw=>n (.inr w)) λw=>(by rw[w]at e;cases e),g.keep a _ e (λw=>n (.inr w))⟩) k h
theorem vK.grow(g:Grow G H G' H')(k:∀a ∈ fp,∀u,H a=some u->H' a=some u)(h:vK K kd F B G H vs os fp):vK K kd F B G' H' vs os fp:=
 RoL.mono (λst v d r=>Rp.grow g r) (λa vs n e=>⟨λz=>z.elim (λy=>n (.inl y)) λy=>(g.own a y).elim (λw=>n (.inr w)) λw=>(by rw[w]at e;cases e),g.keep a _ e (λw=>n (.inr w))⟩) k h
theorem RoS.lv(g:∀st a,Lv F' B' G' st a->Lv F B G st a)(h:RoS K kd F B G H v o fp):RoS K kd F' B' G' H v o fp:=
 Ro.mono (λst v d r=>r.less (g st)) (λa vs n e=>⟨λz=>n (g true a z),e⟩) (λ_ _ _ e=>e) h
theorem vK.lv(g:∀st a,Lv F' B' G' st a->Lv F B G st a)(h:vK K kd F B G H vs os fp):vK K kd F' B' G' H vs os fp:=
 RoL.mono (λst v d r=>r.less (g st)) (λa vs n e=>⟨λz=>n (g true a z),e⟩) (λ_ _ _ e=>e) h
theorem RoS.less(g:∀a,G' a->G a)(h:RoS K kd F B G H v o fp):RoS K kd F B G' H v o fp:=RoS.lv (λ_ a z=>z.elim .inl λy=>.inr (g a y)) h
theorem Gw.drop:∀a,Gw [] ad a->Gw T ad a:=λ_ h=>h.elim (λz=>nomatch z) .inr
theorem Rel.trk(R:Rel K kd F B T ad as σ H)(st:Bool):∀a,Lv F B (Gw T ad) st a->H a≠none:=λa h=>by
 rcases h with(h|h)|h
 · exact R.ftr a h.2
 · exact(R.btr a h).1
 · exact(R.gtr a h).1
theorem Rel.tr(R:Rel K kd F B T ad as σ H)(lv:Option Bool):∀a,Obl F B (Gw T ad) lv a->H a≠none:=λa h=>by
 cases lv with
 |none=>exact h.elim
 |some st=>exact R.trk st a h
theorem zav.lv{s:Option O}{x:Option (Option V)}(g:∀st a,Lv F' B' G' st a->Lv F B G st a)(h:zav K kd F B G H s x fp):zav K kd F' B' G' H s x fp:=by
 cases s with
 |none=>exact h
 |some o=>obtain⟨v,e,r⟩:=h;exact⟨v,e,RoS.lv g r⟩
theorem zav.less{s:Option O}{x:Option (Option V)}(g:∀a,G' a->G a)(h:zav K kd F B G H s x fp):zav K kd F B G' H s x fp:=h.lv (λ_ a z=>z.elim .inl λy=>.inr (g a y))
theorem zav.grow{s:Option O}{x:Option (Option V)}(g:Grow G H G' H')(k:∀a ∈ fp,∀u,H a=some u->H' a=some u)(h:zav K kd F B G H s x fp):zav K kd F B G' H' s x fp:=by
 cases s with
 |none=>exact h
 |some o=>obtain⟨v,e,r⟩:=h;exact⟨v,e,RoS.grow g k r⟩
theorem Rel.drop(R:Rel K kd F B T ad as σ H):Rel K kd F B [] ad as σ H where
 len:=R.len
 out:=R.out
 nd:=R.nd
 inj:=R.inj
 tnd:=zyF
 dis:=λ_ _ _ z=>nomatch z
 ftr:=R.ftr
 btr:=λa h=>let⟨h1,h2,h3⟩:=R.btr a h;⟨h1,h2,λz=>h3 (Gw.drop a z)⟩
 gtr:=λa h=>R.gtr a (Gw.drop a h)
 sl:=λi s e=>(R.sl i s e).less Gw.drop
theorem ziu(R:Rel K kd F B T ad as σ H)(h:RoS K kd F B (Gw T ad) H v o T):Rp K kd (Lv F B (Gw [] ad) o.str) H v o.toD:=
 Ro.rp o.str (λst v d hs r=>r.less λa z=>z.elim (λy=>.inl (y.elim (λx=>.inl ⟨hs x.1,x.2⟩) .inr)) λy=>.inr (Gw.drop a y))
  (λa n z=>n (z.elim (λy=>.inl (y.elim (λx=>.inl ⟨rfl,x.2⟩) .inr)) λy=>.inr (Gw.drop a y))) id
  (λa m z=>by
   rcases z with(z|z)|z|⟨i,z⟩
   · exact(R.gtr a (.inl m)).2 z.2
   · exact(R.btr a z).2.2 (.inl m)
   · cases z
   · exact R.dis i a z m) h
theorem wz.drop(R:Rel K kd F B T ad as σ H)(h:wz K kd F B T ad σ H v r):wz K kd F B [] ad σ H v r.frz:=by
 cases r with
 |ow o=>exact .lf (ziu R h)
 |bo i=>exact⟨rfl,h.2⟩
theorem wz.grow(g:Grow (Gw [] ad) H (Gw [] ad1) H1)(h:wz K kd F B [] ad σ H v r):wz K kd F B [] ad1 σ H1 v r:=by
 cases r with
 |ow o=>exact RoS.grow g (λ_ m=>nomatch m) h
 |bo i=>exact h
theorem ziF{vs:List V}{os:List O}{fp:List Addr}(h:vK K kd F B G H vs os fp):os.all O.isLf=true->fp=[]:=
 RoL.ind (P:=λ_ os fp=>os.all O.isLf=true->fp=[]) (λ_=>rfl) (λh _ ih e=>by
  rw[List.all_cons,zzY]at e
  rw[ih e.2,zyA]
  cases h with
  |lf=>rfl
  |ls=>cases e.1
  |dc=>cases e.1
  |ob=>cases e.1
  |tp=>cases e.1) h
theorem zbn{st:Bool}{b:Bool}(hs:b=true->st=true):∀a,Lv F B G b a->Lv F B G st a:=λa z=>z.elim (λy=>.inl (y.elim (λx=>.inl ⟨hs x.1,x.2⟩) .inr)) .inr
theorem zbe(h:vK K kd F B G H vs os fp)(e:os.all O.isLf=true):RpL K kd (Lv F B G (O.strs os)) H vs (O.toDs os):=by
 have:=ziF h e
 subst this
 exact RoL.rp (O.strs os) (λst v d hs r=>r.less (zbn hs)) (λa n z=>n (zbn (λ_=>rfl) a z)) id (by intro a m;cases m) h
theorem WY(h:vK K kd F B G H vs os fp):RpL K kd (λ_=>False) H vs (O.toDs os):=RoL.rp false (λst v d _ r=>r.less λ_ z=>z.elim) (λ_ _ z=>z) (λz=>Bool.noConfusion z) (λ_ _ z=>z) h
theorem zfC(h:RoS K kd F B G H v o fp):Rp K kd (λ_=>False) H v o.toD:=Ro.rp false (λst v d _ r=>r.less λ_ z=>z.elim) (λ_ _ z=>z) (λz=>Bool.noConfusion z) (λ_ _ z=>z) h
theorem zbB(h:RoS K kd F B G H v o []):Rp K kd (Lv F B G o.str) H v o.toD:=
 Ro.rp o.str (λst v d hs r=>r.less (zbn hs)) (λa n z=>n (zbn (λ_=>rfl) a z)) id (by intro a m;cases m) h
theorem RoS.vw(h:RoS K kd F B G H v o fp):Vw K kd (Obl F B G o.kl) H v o.toD:=by
 cases h with
 |lf h=>exact h.vw
 |ls hH r=>
  rename_i a vs' os' fp'
  show Vw K kd (Obl F B G (if os'.all O.isLf=true then some (O.strs os')else none)) H _ (.lst (O.toDs os'))
  by_cases e:os'.all O.isLf=true
  · rw[if_pos e];exact .lst (.inl (.inl hH)) (zbe r e)
  · rw[if_neg e];exact .lst (.inl (.inl hH)) (WY r)
 |dc hH l r=>
  rename_i a ks vs' os' fp'
  show Vw K kd (Obl F B G (if os'.all O.isLf=true then some (O.strs os')else none)) H _ (.dct (ks.zip (O.toDs os')))
  by_cases e:os'.all O.isLf=true
  · rw[if_pos e];exact .dct (.inl (.inl hH)) (zas (zbe r e) l)
  · rw[if_neg e];exact .dct (.inl (.inl hH)) (zas (WY r) l)
 |ob hc hH l r=>
  rename_i a dx C c ns vs' os' fp'
  have ec:C=kd.c c:=hc.cl_eq
  subst ec
  show Vw K kd (Obl F B G (if os'.all O.isLf=true then some (O.strs os')else none)) H _ (.ob c ns (O.toDs os'))
  by_cases e:os'.all O.isLf=true
  · rw[if_pos e];exact .ob hH l (zbe r e)
  · rw[if_neg e];exact .ob hH l (WY r)
 |tp n hH r=>
  rename_i a vs' os'
  show Vw K kd (Obl F B G (if os'.all O.isLf=true then some (O.strs os')else none)) H _ (.tup (O.toDs os'))
  by_cases e:os'.all O.isLf=true
  · rw[if_pos e]
    have rl:=zbe r e
    exact .tup (.tup (λz=>n (zbn (λ_=>rfl) _ z)) (.inl hH) rl) (.inl (.inl hH)) rl
  · rw[if_neg e];exact .tup (.tup (λz=>z) (.inl hH) (WY r)) (.inl (.inl hH)) (WY r)
theorem wz.vw(R:Rel K kd F B [] ad as σ H)(h:wz K kd F B [] ad σ H v r){d:D}{lv:Option Bool}(e:r.view as=some (d,lv)):Vw K kd (Obl F B (Gw [] ad) lv) H v d:=by
 cases r with
 |ow o=>
  cases e
  exact(zbB h).vw
 |bo i=>
  have e:(match as[i]? with|some (some o)=>some (o.toD,o.kl)|_=>none)=some (d,lv):=e
  cases k:as[i]? with
  |none=>rw[k]at e;cases e
  |some s=>
   cases s with
   |none=>rw[k]at e;cases e
   |some o=>
    rw[k]at e
    cases e
    obtain⟨w,hw,ro⟩:=R.sl i _ k
    rw[h.2]at hw
    cases hw
    exact ro.vw
theorem Rel.add{N:List Addr}(R:Rel K kd F B T ad as σ H)(hn:N.Nodup)(hl:∀a ∈ N,H a=none)(k:∀b u,H b=some u->H' b=some u)(h1:∀a ∈ N,H' a≠none):Rel K kd F B (N++T) ad as σ H'/\Grow (Gw T ad) H (Gw (N++T) ad) H':=by
 have g:Grow (Gw T ad) H (Gw (N++T) ad) H':=⟨λb u h _=>k b u h,λb h=>by
  rcases h with h|h
  · rcases zzI.mp h with h|h
    · exact .inr (hl b h)
    · exact .inl (.inl h)
  · exact .inl (.inr h)⟩
 have kn:∀a,H a≠none->H' a≠none:=λa z=>by
  cases e:H a with
  |none=>exact absurd e z
  |some u=>rw[k a u e];simp
 refine⟨⟨R.len,R.out,R.nd,R.inj, ?_,λi a m z=>?_,λa z=>kn a (R.ftr a z),λa z=>?_,λa z=>?_,λi s e=>(R.sl i s e).grow g λa _ u h=>k a u h⟩,g⟩
 · refine zxB.mpr ⟨hn,R.tnd,λa m b m' e=>?_⟩
   subst e
   exact(R.gtr a (.inl m')).1 (hl a m)
 · rcases zzI.mp z with z|z
   · exact(R.gtr a (.inr ⟨i,m⟩)).1 (hl a z)
   · exact R.dis i a m z
 · obtain⟨b1,b2,b3⟩:=R.btr a z
   refine⟨kn a b1,b2,λy=>?_⟩
   rcases y with y|y
   · rcases zzI.mp y with y|y
     · exact b1 (hl a y)
     · exact b3 (.inl y)
   · exact b3 (.inr y)
 · rcases z with z|z
   · rcases zzI.mp z with z|z
     · exact⟨h1 a z,λf=>R.ftr a f (hl a z)⟩
     · exact⟨kn a (R.gtr a (.inl z)).1,(R.gtr a (.inl z)).2⟩
   · exact⟨kn a (R.gtr a (.inr z)).1,(R.gtr a (.inr z)).2⟩
theorem Rel.more(R:Rel K kd F B T ad as σ H)(k:∀b u,H b=some u->H' b=some u):Rel K kd F B T ad as σ H'/\Grow (Gw T ad) H (Gw T ad) H':=
 R.add (N:=[]) zyF (λ_ m=>nomatch m) k (λ_ m=>nomatch m)
theorem Rel.news(R:Rel K kd F B [] ad as σ H)(hn:T'.Nodup)(hl:∀a ∈ T',H a=none)(k:∀b u,H b=some u->H' b=some u)(h1:∀a ∈ T',H' a≠none):Rel K kd F B T' ad as σ H'/\Grow (Gw [] ad) H (Gw T' ad) H':=by
 have:=R.add hn hl k h1
 rw[zyA]at this
 exact this
end
inductive R0 where
 |im (d:D)|fl (ds:List D)|fd (kvs:List (Key×D))
def RQ(K:zC)(kd:KD)(O:Addr->Prop)(H:Hp)(Q:VK):R0->Prop
 | .im d=>∀v H',(∀b o,H b=some o->H' b=some o)->Rp K kd O H' v d->Q v H'
 | .fl ds=>∀l vs H',H l=none->(∀b o,H b=some o->H' b=some o)->H' l=some (.lst vs)->RpL K kd (Un2 O (· = l)) H' vs ds->Q (.ref l) H'
 | .fd ds=>∀l vs H',H l=none->(∀b o,H b=some o->H' b=some o)->H' l=some (.dK vs)->RpM K kd (Un2 O (· = l)) H' vs ds->Q (.ref l) H'
def wrap(lv:Option Bool):R0->Option RV
 | .im d=>if(zY d||lv.isSome)=true then some (.ow (lfs (lv.getD false) d))else none
 | .fl ds=>if(ds.all zY||lv.isSome)=true then some (.ow (.nd .ls (ds.map (lfs (lv.getD false)))))else none
 | .fd kvs=>if((kvs.map (·.2)).all zY||lv.isSome)=true then some (.ow (.nd (.dc (kvs.map (·.1))) ((kvs.map (·.2)).map (lfs (lv.getD false)))))else none
theorem bS_{α β:Type}{o:Option α}{f:α->Option β}{b:β}(h:o.bind f=some b):∃a,o=some a/\f a=some b:=by
 cases o with
 |none=>cases h
 |some a=>exact⟨a,rfl,h⟩
theorem ite_some'{α:Type}{c:Prop}[Decidable c]{a:Option α}{b:α}(h:(if c then a else none)=some b):c/\a=some b:=by
 by_cases hc:c
 · rw[if_pos hc]at h;exact⟨hc,h⟩
 · rw[if_neg hc]at h;cases h
theorem zR{α:Type}{c:Prop}[Decidable c]{a b:α}(h:(if c then some a else none)=some b):c/\a=b:=by
 by_cases hc:c
 · rw[if_pos hc]at h;cases h;exact⟨hc,rfl⟩
 · rw[if_neg hc]at h;cases h
section
variable{K:zC}{kd:KD}{F B:Addr->Prop}{G:Addr->Prop}{ad:Ad}{as:AS}{σ:St}{H H':Hp}{v:V}{r:R0}{rv:RV}{Q:VK}{lv:Option Bool}
theorem zlF{Ob:Addr->Prop}{d:D}(h:zY d=true\/lv.isSome=true)(hO:∀st,lv=some st->∀a,Lv F B G st a->Ob a)(rp:Rp K kd Ob H v d):Lf K kd F B G H (zY d||lv.getD false) v d:=by
 cases e:zY d with
 |true=>exact rp.flat e
 |false=>
  rw[e]at h
  cases lv with
  |none=>rcases h with h|h<;>cases h
  |some st=>exact rp.less (hO st rfl)
theorem zhF{Ob:Addr->Prop}{N:Addr->Prop}(hO:∀st,lv=some st->∀a,Lv F B G st a->Ob a){vs:List V}{ds:List D}(e:(ds.all zY||lv.isSome)=true)(h:RpL K kd Ob H vs ds):RoL (Lf K kd F B G H) N H vs (ds.map (lfs (lv.getD false))) []:=
 RpL.ind (P:=λvs ds=>(ds.all zY||lv.isSome)=true->RoL (Lf K kd F B G H) N H vs (ds.map (lfs (lv.getD false))) []) (λ_=>.nil) (λ{v d vs ds} h _ ih e=>by
  rw[List.all_cons]at e
  have e1:zY d=true\/lv.isSome=true:=by
   cases h1:lv.isSome<;>cases h2:zY d<;>simp[h1,h2]at e ⊢
  have e2:(ds.all zY||lv.isSome)=true:=by
   cases h1:lv.isSome with
   |true=>simp
   |false=>
    rw[h1,Bool.or_false,zzY]at e
    rw[Bool.or_false];exact e.2
  exact RoL.cons (.lf (zlF e1 hO h)) (ih e2)) h e
theorem zhp{O:Addr->Prop}{vs:List (Key×V)}{ds:List (Key×D)}(h:RpM K kd O H vs ds):vs=(ds.map (·.1)).zip (vs.map (·.2))/\RpL K kd O H (vs.map (·.2)) (ds.map (·.2)):=
 RpM.ind (P:=λvs ds=>vs=(ds.map (·.1)).zip (vs.map (·.2))/\RpL K kd O H (vs.map (·.2)) (ds.map (·.2))) ⟨rfl,.nil⟩ (λh _ ih=>by
  obtain⟨h1,h2⟩:=ih
  refine⟨?_,.cons h h2⟩
  conv=>lhs;rw[h1]
  rfl) h
theorem Yp(R:Rel K kd F B [] ad as σ H)(e:wrap lv r=some rv)(q:∀v T' H',Rel K kd F B T' ad as σ H'->wz K kd F B T' ad σ H' v rv->Grow (Gw [] ad) H (Gw T' ad) H'->Q v H'):RQ K kd (Obl F B (Gw [] ad) lv) H Q r:=by
 have hO:∀(l:List Addr) st,lv=some st->∀a,Lv F B (Gw l ad) st a->Un2 (Obl F B (Gw [] ad) lv) (· ∈ l) a:=by
  intro l st e a z
  subst e
  rcases z with z|z|z
  · exact .inl (.inl z)
  · exact .inr z
  · exact .inl (.inr (.inr z))
 cases r with
 |im d=>
  obtain⟨c,rfl⟩:=zR e
  intro v H' k rp
  obtain⟨R',g⟩:=R.more k
  refine q v [] H' R' (.lf (zlF ((Bool.or_eq_true _ _).mp c) (λst e a z=>?_) rp)) g
  exact(hO [] st e a z).elim id λm=>nomatch m
 |fl ds=>
  obtain⟨c,rfl⟩:=zR e
  intro l vs H' hl k hl' rp
  obtain⟨R',g⟩:=R.news (T':=[l]) (by simp) (λa m=>by rw[zzN.mp m];exact hl) k (λa m=>by rw[zzN.mp m,hl'];simp)
  exact q _ [l] H' R' (.ls hl' (zhF (λst e a z=>(hO [l] st e a z).elim .inl λm=>.inr (zzN.mp m)) c rp)) g
 |fd ds=>
  obtain⟨c,rfl⟩:=zR e
  intro l vs H' hl k hl' rp
  obtain⟨R',g⟩:=R.news (T':=[l]) (by simp) (λa m=>by rw[zzN.mp m];exact hl) k (λa m=>by rw[zzN.mp m,hl'];simp)
  obtain⟨e1,r1⟩:=zhp rp
  refine q _ [l] H' R' (.dc (vs:=vs.map (·.2)) (by rw[hl',<-e1]) (by rw[zD,zD,rp.length]) (zhF (λst e a z=>(hO [l] st e a z).elim .inl λm=>.inr (zzN.mp m)) c r1)) g
end
abbrev EF:=AS->Option (RV×AS)
def al(K:zC)(kd:KD)(f:EF):TE:=λσ H Q=>∃F B ad as r as',Rel K kd F B [] ad as σ H/\f as=some (r,as')/\
 ∀v T' ad' H',Rel K kd F B T' ad' as' σ H'->wz K kd F B T' ad' σ H' v r->Grow (Gw [] ad) H (Gw T' ad') H'->Q v H'
@[irreducible] def AE(X:Cx)(kd:KD)(e:Expr)(f:EF):Prop:=PE X e (al X.K kd f)
theorem yL{X:Cx}{e:Expr}{t t':TE}(h:PE X e t)(k:∀σ H Q,t' σ H Q->t σ H Q):PE X e t':=λpins s σ H Q I q=>h pins s σ H Q I (k σ H Q q)
section
variable{K:zC}{kd:KD}{F B:Addr->Prop}{ad:Ad}{as as1:AS}{σ:St}{H:Hp}{r:RV}{f:EF}{P:VK}
theorem vI(R:Rel K kd F B [] ad as σ H)(e:f as=some (r,as1))(k:∀v ad1 H1,Rel K kd F B [] ad1 as1 σ H1->wz K kd F B [] ad1 σ H1 v r.frz->Grow (Gw [] ad) H (Gw [] ad1) H1->P v H1):al K kd f σ H P:=
 ⟨F,B,ad,as,r,as1,R,e,λv T' ad' H' R' rv g=>k v ad' H' R'.drop (wz.drop R' rv) (g.trans (Grow.less Gw.drop))⟩
end
def OpD(X:Cx)(kd:KD)(f:Value->Value->Sem Value)(g:D->D->Option R0):Prop:=
 OpR X f (λx y H Q=>∃O d e r,(∀a,O a->H a≠none)/\Vw X.K kd O H x d/\Vw X.K kd O H y e/\g d e=some r/\RQ X.K kd O H Q r)
def UnD(X:Cx)(kd:KD)(f:Value->Sem Value)(g:D->Option R0):Prop:=
 UnR X f (λx H Q=>∃O d r,(∀a,O a->H a≠none)/\Vw X.K kd O H x d/\g d=some r/\RQ X.K kd O H Q r)
inductive VwL(K:zC)(kd:KD)(O:Addr->Prop)(H:Hp):List V->List D->Prop
 |nil:VwL K kd O H [] []
 |cons {v:V}{d:D}{vs:List V}{ds:List D}:Vw K kd O H v d->VwL K kd O H vs ds->VwL K kd O H (v::vs) (d::ds)
def CallD(X:Cx)(kd:KD)(f:Value)(g:List D->Option R0):Prop:=
 ZV X f (λxs H Q=>∃O ds r,(∀a,O a->H a≠none)/\VwL X.K kd O H xs ds/\g ds=some r/\RQ X.K kd O H Q r)
def IxD(X:Cx)(kd:KD)(g:D->D->Option R0):Prop:=
 IxR X (λx y H Q=>∃O d e r,(∀a,O a->H a≠none)/\Vw X.K kd O H x d/\Vw X.K kd O H y e/\g d e=some r/\RQ X.K kd O H Q r)
def meet:Option Bool->Option Bool->Option Bool
 |some a,some b=>some (a&&b)
 |_,_=>none
theorem Obl.meet1{F B G:Addr->Prop}{a b:Option Bool}:∀x,Obl F B G (meet a b) x->Obl F B G a x:=λx h=>by
 cases a with
 |none=>cases b<;>exact h.elim
 |some p=>
  cases b with
  |none=>exact h.elim
  |some q=>exact zbn (λz=>((zzY _ _).mp z).1) x h
theorem Obl.meet2{F B G:Addr->Prop}{a b:Option Bool}:∀x,Obl F B G (meet a b) x->Obl F B G b x:=λx h=>by
 cases a with
 |none=>cases b<;>exact h.elim
 |some p=>
  cases b with
  |none=>exact h.elim
  |some q=>exact zbn (λz=>((zzY _ _).mp z).2) x h
theorem Vw.less{K:zC}{kd:KD}{O O':Addr->Prop}{H:Hp}{v:V}{d:D}(g:∀a,O' a->O a)(h:Vw K kd O H v d):Vw K kd O' H v d:=by
 cases h with
 |non=>exact .non
 |bl b=>exact .bl b
 |int i=>exact .int i
 |str x=>exact .str x
 |tup r s l=>exact .tup (r.less g) s (l.less g)
 |lst h l=>exact .lst h (l.less g)
 |dct h l=>exact .dct h (l.less g)
 |cl c=>exact .cl c
 |ob h k l=>exact .ob h k (l.less g)
def f2(fa fb:EF)(g:D->D->Option R0):EF:=λas=>(fa as).bind λp=>(fb p.2).bind λq=>(p.1.frz.view q.2).bind λx=>(q.1.frz.view q.2).bind λy=>(g x.1 y.1).bind λr=>(wrap (meet x.2 y.2) r).bind λz=>some (z,q.2)
theorem zgg{fa fb:EF}{g:D->D->Option R0}{as as':AS}{rv:RV}(h:f2 fa fb g as=some (rv,as')):
 ∃p as1 q x y lx ly r,fa as=some (p,as1)/\fb as1=some (q,as')/\p.frz.view as'=some (x,lx)/\q.frz.view as'=some (y,ly)/\g x y=some r/\wrap (meet lx ly) r=some rv:=by
 unfold f2 at h
 obtain⟨⟨p,as1⟩,h1,h⟩:=bS_ h
 obtain⟨⟨q,as2⟩,h2,h⟩:=bS_ h
 obtain⟨⟨x,lx⟩,h3,h⟩:=bS_ h
 obtain⟨⟨y,ly⟩,h4,h⟩:=bS_ h
 obtain⟨r,h5,h⟩:=bS_ h
 obtain⟨z,h6,h⟩:=bS_ h
 cases h
 exact⟨p,as1,q,x,y,lx,ly,r,h1,h2,h3,h4,h5,h6⟩
section
variable{X:Cx}{kd:KD}{a b c:Expr}{fa fb fc:EF}{pos:Pos}
theorem al2{g:D->D->Option R0}{R2':R2}(hr:∀x y H Q,(∃O d e r,(∀a,O a->H a≠none)/\Vw X.K kd O H x d/\Vw X.K kd O H y e/\g d e=some r/\RQ X.K kd O H Q r)->R2' x y H Q)
 {σ:St}{H:Hp}{Q:VK}(h:al X.K kd (f2 fa fb g) σ H Q):tOp R2' (al X.K kd fa) (al X.K kd fb) σ H Q:=by
 obtain⟨F,B,ad,as,r,as',R,e,q⟩:=h
 obtain⟨p,as1,z,x,y,lx,ly,r0,h1,h2,h3,h4,h5,h6⟩:=zgg e
 refine vI R h1 λv ad1 H1 R1 rv1 g1=>vI R1 h2 λu ad2 H2 R2 rv2 g2=>hr _ _ _ _ ?_
 exact⟨_,x,y,r0,R2.tr _,(wz.vw R2 (rv1.grow g2) h3).less Obl.meet1,(wz.vw R2 rv2 h4).less Obl.meet2,h5,Yp R2 h6 λw T' H' R' rv' g'=>q w T' ad2 H' R' rv' ((g1.trans g2).trans g')⟩
theorem zr{op:Operator}{g:D->D->Option R0}(ho:OpD X kd (binaryOp op) g)(ha:AE X kd a fa)(hb':AE X kd b fb):AE X kd (.BinOp a op b pos) (f2 fa fb g):=by with_unfolding_all exact(yL (zlH ho ha hb') λσ H Q h=>al2 (λ_ _ _ _ z=>z) h)
theorem Yc{op:CmpOp}{g:D->D->Option R0}(ho:OpD X kd (compareOp op) g)(ha:AE X kd a fa)(hb':AE X kd b fb)(hm:behindInMarks op b=false):AE X kd (.Compare a [op] [b] pos) (f2 fa fb g):=by with_unfolding_all exact(yL (zjI ho ha hb' hm) λσ H Q h=>al2 (λ_ _ _ _ z=>z) h)
theorem zoy{g:D->D->Option R0}(ho:IxD X kd g)(ha:AE X kd a fa)(hb':AE X kd b fb)(hm:zdf b):AE X kd (.Subscript a b pos) (f2 fa fb g):=by with_unfolding_all exact(yL (zok ho ha hb' hm) λσ H Q h=>al2 (λ_ _ _ _ z=>z) h)
def fC(d:D):EF:=λas=>some (.ow (.lf true d),as)
def fV(i:Nat):EF:=λas=>match as[i]? with
 |some (some (.lf st d))=>some (.ow (.lf st d),as)
 |some (some (.nd _ _))=>some (.bo i,as)
 |_=>none
theorem Wt{v:V}{d:D}(h:PE X a (tC v))(hr:∀O H,Rp X.K kd O H v d):AE X kd a (fC d):=by with_unfolding_all exact(yL h λσ H Q h=>by
 obtain⟨F,B,ad,as,r,as',R,e,q⟩:=h
 cases e
 exact q v [] ad H R (.lf (hr _ _)) Grow.refl)
theorem zmk{i:Nat}(h:PE X a (VH i)):AE X kd a (fV i):=by with_unfolding_all exact(yL h λσ H Q h=>by
 obtain⟨F,B,ad,as,r,as',R,e,q⟩:=h
 unfold fV at e
 cases k:as[i]? with
 |none=>rw[k]at e;cases e
 |some s=>
  rw[k]at e
  cases s with
  |none=>cases e
  |some o=>
   obtain⟨v,h1,h2⟩:=R.sl i _ k
   cases o with
   |lf st d=>
    cases e
    have e0:ad i=[]:=by
     generalize hfp:ad i=fp at h2
     cases h2
     rfl
    rw[e0]at h2
    exact⟨v,h1,q v [] ad H R h2 Grow.refl⟩
   |nd kk os=>
    cases e
    exact⟨_,h1,q _ [] ad H R ⟨rfl,h1⟩ Grow.refl⟩)
end
def Yu(ad:Ad)(i:Nat)(x:List Addr):Ad:=λj=>if j=i then x else ad j
section
variable{K:zC}{kd:KD}{F B:Addr->Prop}{T T1 T2:List Addr}{ad ad1:Ad}{as as1:AS}{σ:St}{H H1:Hp}{v:V}{r:RV}{o:O}{i:Nat}
theorem yt{x:List Addr}:Yu ad i x i=x:=if_pos rfl
theorem yx{j:Nat}{x:List Addr}(h:j≠i):Yu ad i x j=ad j:=if_neg h
theorem vQ:∀a,Gw T (Yu ad i []) a->Gw T ad a:=λa h=>by
 rcases h with h|⟨j,h⟩
 · exact .inl h
 · by_cases e:j=i
   · subst e;rw[yt]at h;cases h
   · rw[yx e]at h;exact .inr ⟨j,h⟩
theorem Yq:∀a,Gw [] (Yu ad i T) a->Gw T ad a:=λa h=>by
 rcases h with h|⟨j,h⟩
 · cases h
 · by_cases e:j=i
   · subst e;rw[yt]at h;exact .inl h
   · rw[yx e]at h;exact .inr ⟨j,h⟩
theorem zdp:∀st a,Lv F (λa=>B a\/a ∈ T) (Gw [] ad) st a->Lv F B (Gw T ad) st a:=λst a z=>by
 rcases z with(z|z|z)|z
 · exact .inl (.inl z)
 · exact .inl (.inr z)
 · exact .inr (.inl z)
 · exact .inr (Gw.drop a z)
theorem vW:∀st a,Lv F B (Gw (T1++T2) ad) st a->Lv F (λa=>B a\/a ∈ T1) (Gw T2 ad) st a:=λst a z=>by
 rcases z with(z|z)|z|z
 · exact .inl (.inl z)
 · exact .inl (.inr (.inl z))
 · rcases zzI.mp z with z|z
   · exact .inl (.inr (.inr z))
   · exact .inr (.inl z)
 · exact .inr (.inr z)
theorem Rel.hide(R:Rel K kd F B T ad as σ H):Rel K kd F (λa=>B a\/a ∈ T) [] ad as σ H where
 len:=R.len
 out:=R.out
 nd:=R.nd
 inj:=R.inj
 tnd:=zyF
 dis:=λ_ _ _ z=>nomatch z
 ftr:=R.ftr
 btr:=λa h=>by
  rcases h with h|h
  · obtain⟨h1,h2,h3⟩:=R.btr a h
    exact⟨h1,h2,λz=>h3 (Gw.drop a z)⟩
  · exact⟨(R.gtr a (.inl h)).1,(R.gtr a (.inl h)).2,λz=>z.elim (λm=>nomatch m) λ⟨j,y⟩=>R.dis j a y h⟩
 gtr:=λa h=>R.gtr a (Gw.drop a h)
 sl:=λi s e=>(R.sl i s e).lv zdp
theorem Rel.unhide(hn:T1.Nodup)(hb:∀a ∈ T1,¬B a)(R:Rel K kd F (λa=>B a\/a ∈ T1) T2 ad as σ H):Rel K kd F B (T1++T2) ad as σ H where
 len:=R.len
 out:=R.out
 nd:=R.nd
 inj:=R.inj
 tnd:=zxB.mpr ⟨hn,R.tnd,λa m b m' e=>by subst e;exact(R.btr a (.inr m)).2.2 (.inl m')⟩
 dis:=λi a m z=>by
  rcases zzI.mp z with z|z
  · exact(R.btr a (.inr z)).2.2 (.inr ⟨i,m⟩)
  · exact R.dis i a m z
 ftr:=R.ftr
 btr:=λa h=>by
  obtain⟨h1,h2,h3⟩:=R.btr a (.inl h)
  refine⟨h1,h2,λz=>?_⟩
  rcases z with z|z
  · rcases zzI.mp z with z|z
    · exact hb a z h
    · exact h3 (.inl z)
  · exact h3 (.inr z)
 gtr:=λa h=>by
  rcases h with h|h
  · rcases zzI.mp h with h|h
    · exact⟨(R.btr a (.inr h)).1,(R.btr a (.inr h)).2.1⟩
    · exact R.gtr a (.inl h)
  · exact R.gtr a (.inr h)
 sl:=λi s e=>(R.sl i s e).lv vW
theorem Rel.frz(R:Rel K kd F B T ad as σ H)(h:as[i]? = some (some o)):
 Rel K kd F B T (Yu ad i []) (as.set i (some o.frz)) σ H/\∃v,σ[i]? = some (some v)/\Rp K kd (Lv F B (Gw T (Yu ad i [])) o.str) H v o.toD:=by
 obtain⟨v,hv,ro⟩:=R.sl i _ h
 have rp:Rp K kd (Lv F B (Gw T (Yu ad i [])) o.str) H v o.toD:=
  Ro.rp o.str (λst v d hs r=>r.less λa z=>z.elim (λy=>.inl (y.elim (λx=>.inl ⟨hs x.1,x.2⟩) .inr)) λy=>.inr (vQ a y))
   (λa n z=>n (z.elim (λy=>.inl (y.elim (λx=>.inl ⟨rfl,x.2⟩) .inr)) λy=>.inr (vQ a y))) id
   (λa m z=>by
    rcases z with(z|z)|z|⟨j,z⟩
    · exact(R.gtr a (.inr ⟨i,m⟩)).2 z.2
    · exact(R.btr a z).2.2 (.inr ⟨i,m⟩)
    · exact R.dis i a m z
    · by_cases e:j=i
      · subst e;rw[yt]at z;cases z
      · rw[yx e]at z;exact e (R.inj j i a z m)) ro
 have hi:i<as.length:=(zzC.mp h).1
 refine⟨⟨by rw[zzQ];exact R.len,λj hj=>?_,λj=>?_,λj k a h1 h2=>?_,R.tnd,λj a h1=>?_,R.ftr,λa h1=>?_,λa h1=>R.gtr a (vQ a h1),λj s e=>?_⟩,v,hv,rp⟩
 · rw[zzQ]at hj
   rw[yx (by omega)];exact R.out j hj
 · by_cases e:j=i
   · subst e;rw[yt];exact zyF
   · rw[yx e];exact R.nd j
 · by_cases e:j=i
   · subst e;rw[yt]at h1;cases h1
   · by_cases e':k=i
     · subst e';rw[yt]at h2;cases h2
     · rw[yx e]at h1;rw[yx e']at h2;exact R.inj j k a h1 h2
 · by_cases e:j=i
   · subst e;rw[yt]at h1;cases h1
   · rw[yx e]at h1;exact R.dis j a h1
 · obtain⟨b1,b2,b3⟩:=R.btr a h1
   exact⟨b1,b2,λz=>b3 (vQ a z)⟩
 · by_cases q:j=i
   · subst q
     rw[zyG hi]at e
     cases e
     rw[yt]
     exact⟨v,hv,.lf rp⟩
   · rw[zzU (Ne.symm q)]at e
     rw[yx q]
     exact(R.sl j s e).less vQ
theorem Rel.put(R:Rel K kd F B T ad as σ H)(hi:i<as.length)(h:RoS K kd F B (Gw T ad) H v o T):Rel K kd F B [] (Yu ad i T) (as.set i (some o)) (σ.set i (some v)) H:=by
 have hi':i<σ.length:=by rw[<-R.len];exact hi
 refine⟨by rw[zzQ,zzQ];exact R.len,λj hj=>?_,λj=>?_,λj k a h1 h2=>?_,zyF,(λ_ _ _ z=>nomatch z),R.ftr,λa h1=>?_,λa h1=>R.gtr a (Yq a h1),λj s e=>?_⟩
 · rw[zzQ]at hj
   rw[yx (by omega)];exact R.out j hj
 · by_cases e:j=i
   · subst e;rw[yt];exact R.tnd
   · rw[yx e];exact R.nd j
 · by_cases e:j=i
   · subst e
     rw[yt]at h1
     by_cases e':k=j
     · exact e'.symm
     · rw[yx e']at h2
       exact(R.dis k a h2 h1).elim
   · rw[yx e]at h1
     by_cases e':k=i
     · subst e'
       rw[yt]at h2
       exact(R.dis j a h1 h2).elim
     · rw[yx e']at h2
       exact R.inj j k a h1 h2
 · obtain⟨b1,b2,b3⟩:=R.btr a h1
   exact⟨b1,b2,λz=>b3 (Yq a z)⟩
 · by_cases q:j=i
   · subst q
     rw[zyG hi]at e
     cases e
     rw[yt,zyG hi']
     exact⟨v,rfl,h.less Yq⟩
   · rw[zzU (Ne.symm q)]at e
     rw[yx q,zzU (Ne.symm q)]
     exact(R.sl j s e).less Yq
def toO(as:AS):RV->Option (O×AS)
 | .ow o=>some (o,as)
 | .bo i=>match as[i]? with
  |some (some o)=>some (o.frz,as.set i (some o.frz))
  |_=>none
theorem VN{as':AS}(R:Rel K kd F B T ad as σ H)(h:wz K kd F B T ad σ H v r)(e:toO as r=some (o,as')):∃ad',Rel K kd F B T ad' as' σ H/\RoS K kd F B (Gw T ad') H v o T/\∀a,Gw T ad' a->Gw T ad a:=by
 cases r with
 |ow o'=>cases e;exact⟨ad,R,h,λ_ z=>z⟩
 |bo i=>
  have e:(match as[i]? with|some (some o)=>some (o.frz,as.set i (some o.frz))|_=>none)=some (o,as'):=e
  cases k:as[i]? with
  |none=>rw[k]at e;cases e
  |some s=>
   cases s with
   |none=>rw[k]at e;cases e
   |some o1=>
    rw[k]at e
    cases e
    obtain⟨hT,hs⟩:=h
    subst hT
    obtain⟨R',w,hw,rp⟩:=R.frz k
    rw[hs]at hw
    cases hw
    exact⟨_,R',.lf rp,vQ⟩
end
abbrev TF:=AS->Option (Bool×AS)
def alT(K:zC)(kd:KD)(f:TF):TT:=λσ H Q=>∃F B ad as b as',Rel K kd F B [] ad as σ H/\f as=some (b,as')/\
 ∀ad' H',Rel K kd F B [] ad' as' σ H'->Grow (Gw [] ad) H (Gw [] ad') H'->Q b H'
@[irreducible] def AT(X:Cx)(kd:KD)(e:Expr)(f:TF):Prop:=PT X e (alT X.K kd f)
@[irreducible] def AW(X:Cx)(kd:KD)(e:Expr)(f:TF):Prop:=PW X e (alT X.K kd f)
def truth:D->Option Bool
 | .non=>some false
 | .bl b=>some b
 | .int i=>some (i != 0)
 | .str x=>if x.length<=sizeLine then some ((x.length:Int) != 0)else none
 | .tup ds=>some (!ds.isEmpty)
 | .lst ds=>some (!ds.isEmpty)
 |_=>none
def fT(f:EF):TF:=λas=>(f as).bind λp=>(p.1.frz.view p.2).bind λx=>(truth x.1).bind λb=>some (b,p.2)
def vL(f g:TF):TF:=λas=>(f as).bind λp=>if p.1=true then g p.2 else some (false,p.2)
def Yw(f g:TF):TF:=λas=>(f as).bind λp=>if p.1=true then some (true,p.2)else g p.2
def Y8(f:TF):TF:=λas=>(f as).bind λp=>some (!p.1,p.2)
def fIf(c:TF)(f g:EF):EF:=λas=>(c as).bind λp=>if p.1=true then f p.2 else g p.2
def asI:D->Option Int
 | .int i=>some i
 |_=>none
def asS:D->Option Str
 | .str i=>some i
 |_=>none
def asL:D->Option (List D)
 | .lst i=>some i
 |_=>none
def asT:D->Option (List D)
 | .tup i=>some i
 |_=>none
theorem zfm{d:D}{i:List D}(e:asL d=some i):d = .lst i:=by
 cases d with
 |lst j=>cases e;rfl
 |_=>cases e
theorem zmF{d:D}{i:List D}(e:asT d=some i):d = .tup i:=by
 cases d with
 |tup j=>cases e;rfl
 |_=>cases e
theorem zeK{d:D}{c:Int}(h:asI d=some c):d = .int c:=by
 cases d with
 |int i=>cases h;rfl
 |_=>cases h
def asB:D->Option Bool
 | .bl i=>some i
 |_=>none
theorem zml{d:D}{c:Bool}(h:asB d=some c):d = .bl c:=by
 cases d with
 |bl i=>cases h;rfl
 |_=>cases h
def rvD:RV->Option D
 | .ow (.lf _ d)=>some d
 |_=>none
theorem zjq{r:RV}{d:D}(h:rvD r=some d):∃st,r = .ow (.lf st d):=by
 cases r with
 |bo i=>cases h
 |ow o=>
  cases o with
  |nd k os=>cases h
  |lf st d=>cases h;exact⟨st,rfl⟩
def rvB(r:RV):Option Bool:=(rvD r).bind asB
theorem zfi{r:RV}{c:Bool}(h:rvB r=some c):∃st,r = .ow (.lf st (.bl c)):=by
 obtain⟨d,h1,h⟩:=bS_ h
 cases zml h
 exact zjq h1
def rvI(r:RV):Option Int:=(rvD r).bind asI
theorem zmQ{r:RV}{c:Int}(h:rvI r=some c):∃st,r = .ow (.lf st (.int c)):=by
 obtain⟨d,h1,h⟩:=bS_ h
 cases zeK h
 exact zjq h1
def zfv(f g:EF):EF:=λas=>(f as).bind λp=>(rvB p.1).bind λc=>if c=true then g p.2 else some (.ow (.lf true (.bl false)),p.2)
def fOr(f g:EF):EF:=λas=>(f as).bind λp=>(rvB p.1).bind λc=>if c=true then some (.ow (.lf true (.bl true)),p.2)else g p.2
def zgT(f:EF):EF:=λas=>(f as).bind λp=>(rvB p.1).bind λc=>some (.ow (.lf true (.bl (!c))),p.2)
def f1(fa:EF)(g:D->Option R0):EF:=λas=>(fa as).bind λp=>(p.1.frz.view p.2).bind λx=>(g x.1).bind λr=>(wrap x.2 r).bind λz=>some (z,p.2)
section
variable{X:Cx}{kd:KD}{a b c:Expr}{fa fb:EF}{ta tb:TF}{pos:Pos}{es rest:List Expr}
theorem zfE{e:Expr}{t t':TT}(h:PT X e t)(k:∀σ H Q,t' σ H Q->t σ H Q):PT X e t':=λpins s σ H Q I q=>h pins s σ H Q I (k σ H Q q)
theorem zis{e:Expr}{t t':TT}(h:PW X e t)(k:∀σ H Q,t' σ H Q->t σ H Q):PW X e t':=λw pins s σ H Q I q=>h w pins s σ H Q I (k σ H Q q)
theorem znc{O:Addr->Prop}{H:Hp}{v:V}{d:D}{k:Bool}(h:Vw X.K kd O H v d)(e:truth d=some k):zmT X.K v H k:=by
 cases h with
 |non=>cases e;rfl
 |bl b=>cases e;rfl
 |int i=>cases e;rfl
 |str x=>
  have e:(if x.length<=sizeLine then some ((x.length:Int) != 0)else none)=some k:=e
  by_cases hl:x.length<=sizeLine
  · rw[if_pos hl]at e;cases e;exact⟨hl,rfl⟩
  · rw[if_neg hl]at e;cases e
 |tup r hs hr=>
  cases e
  refine .inr (.inl ⟨_,hs, ?_⟩)
  cases hr<;>rfl
 |lst hs hr=>
  cases e
  refine .inl ⟨_,hs.sq, ?_⟩
  cases hr<;>rfl
 |dct=>cases e
 |cl=>cases e
 |ob=>cases e
theorem zcJ(ha:AE X kd a fa)(he:∀whole,isTrue a X.env whole=(do let v <-whole;standAt a.pos;holding [v] (truthy v))):AT X kd a (fT fa):=by with_unfolding_all exact(zfE (zhX ha he) λσ H Q h=>by
 obtain⟨F,B,ad,as,bb,as',R,e,q⟩:=h
 obtain⟨⟨p,as1⟩,h1,e⟩:=bS_ (show(fa as).bind _=_ from e)
 obtain⟨⟨d,lv⟩,h2,e⟩:=bS_ e
 obtain⟨k,h3,e⟩:=bS_ e
 cases e
 exact vI R h1 λv ad1 H1 R1 rv1 g1=>⟨_,znc (wz.vw R1 rv1 h2) h3,q ad1 H1 R1 g1⟩)
theorem yc{op:CmpOp}{g:D->D->Option R0}(ho:OpD X kd (compareOp op) g)(hg:∀x y r,g x y=some r->∃k,r = .im (.bl k))(ha:AE X kd a fa)(hb:AE X kd b fb)(hm:behindInMarks op b=false):
 AT X kd (.Compare a [op] [b] pos) (fT (f2 fa fb g)):=by with_unfolding_all exact(zfE (zjJ ho ha hb hm) λσ H Q h=>by
 obtain⟨F,B,ad,as,bb,as',R,e,q⟩:=h
 obtain⟨⟨p,as1⟩,h1,e⟩:=bS_ (show(f2 fa fb g as).bind _=_ from e)
 obtain⟨⟨d,lv⟩,h2,e⟩:=bS_ e
 obtain⟨k,h3,e⟩:=bS_ e
 cases e
 obtain⟨_,_,_,x,y,_,_,r0,_,_,_,_,hp,hw⟩:=zgg h1
 obtain⟨k',rfl⟩:=hg _ _ _ hp
 cases hw
 cases h2
 cases h3
 refine al2 (λ_ _ _ _ z=>z) ⟨F,B,ad,as,_,_,R,h1,λv T' ad' H' R' rv g'=>?_⟩
 generalize hT:T'=T2 at rv R' g'
 cases rv with
 |lf rp=>
  cases rp
  exact⟨_,rfl,q ad' H' R' g'⟩)
theorem zeT(ha:AT X kd a ta):AT X kd (.UnaryOp .Not a pos) (Y8 ta):=by with_unfolding_all exact(zfE (zmv ha) λσ H Q h=>by
 obtain⟨F,B,ad,as,bb,as',R,e,q⟩:=h
 obtain⟨⟨p,as1⟩,h1,e⟩:=bS_ (show(ta as).bind _=_ from e)
 cases e
 exact⟨F,B,ad,as,p,_,R,h1,λad' H' R' g=>q ad' H' R' g⟩)
theorem vX(ha:AT X kd a ta):AW X kd (.BoolOp .And [a] pos) ta:=by with_unfolding_all exact(zkP ha)
theorem Z0(ha:AT X kd a ta):AW X kd (.BoolOp .Or [a] pos) ta:=by with_unfolding_all exact(zny ha)
theorem zbx(ha:AT X kd a ta)(hb:AW X kd (.BoolOp .And (b::rest) pos) tb):AW X kd (.BoolOp .And (a::b::rest) pos) (vL ta tb):=by with_unfolding_all exact(zis (znx ha hb) λσ H Q h=>by
 obtain⟨F,B,ad,as,bb,as',R,e,q⟩:=h
 obtain⟨⟨p,as1⟩,h1,e⟩:=bS_ (show(ta as).bind _=_ from e)
 refine⟨F,B,ad,as,p,as1,R,h1,λad' H' R' g=>?_⟩
 cases p with
 |true=>exact⟨F,B,ad',as1,bb,as',R',e,λad2 H2 R2 g2=>q ad2 H2 R2 (g.trans g2)⟩
 |false=>cases e;exact q ad' H' R' g)
theorem zcc(ha:AT X kd a ta)(hb:AW X kd (.BoolOp .Or (b::rest) pos) tb):AW X kd (.BoolOp .Or (a::b::rest) pos) (Yw ta tb):=by with_unfolding_all exact(zis (zoM ha hb) λσ H Q h=>by
 obtain⟨F,B,ad,as,bb,as',R,e,q⟩:=h
 obtain⟨⟨p,as1⟩,h1,e⟩:=bS_ (show(ta as).bind _=_ from e)
 refine⟨F,B,ad,as,p,as1,R,h1,λad' H' R' g=>?_⟩
 cases p with
 |false=>exact⟨F,B,ad',as1,bb,as',R',e,λad2 H2 R2 g2=>q ad2 H2 R2 (g.trans g2)⟩
 |true=>cases e;exact q ad' H' R' g)
theorem AW.at_{e:Expr}(h:AW X kd e ta):AT X kd e ta:=by with_unfolding_all exact(PW.pt h)
theorem zlB(hc:AT X kd c ta)(ha:AE X kd a fa)(hb:AE X kd b fb):AE X kd (.IfExp c a b pos) (fIf ta fa fb):=by with_unfolding_all exact(yL (zhS hc ha hb) λσ H Q h=>by
 obtain⟨F,B,ad,as,r,as',R,e,q⟩:=h
 obtain⟨⟨p,as1⟩,h1,e⟩:=bS_ (show(ta as).bind _=_ from e)
 refine⟨F,B,ad,as,p,as1,R,h1,λad' H' R' g=>?_⟩
 cases p with
 |true=>exact⟨F,B,ad',as1,r,as',R',e,λv T2 ad2 H2 R2 rv g2=>q v T2 ad2 H2 R2 rv (g.trans g2)⟩
 |false=>exact⟨F,B,ad',as1,r,as',R',e,λv T2 ad2 H2 R2 rv g2=>q v T2 ad2 H2 R2 rv (g.trans g2)⟩)
theorem zjk{K:zC}{F B:Addr->Prop}{T:List Addr}{ad:Ad}{σ:St}{H:Hp}{v:V}{st c:Bool}(h:wz K kd F B T ad σ H v (.ow (.lf st (.bl c)))):T=[]/\v = .bl c:=by
 have h:RoS K kd F B (Gw T ad) H v (.lf st (.bl c)) T:=h
 generalize hT:Gw T ad=G at h
 cases h with
 |lf rp=>cases rp;exact⟨rfl,rfl⟩
theorem zcM{op}(ha:AE X kd a fa):AE X kd (.BoolOp op [a] pos) fa:=by with_unfolding_all exact(zmb ha)
theorem zda(ha:AE X kd a fa)(hb:AE X kd (.BoolOp .And (b::rest) pos) fb):AE X kd (.BoolOp .And (a::b::rest) pos) (zfv fa fb):=by with_unfolding_all exact(yL (zmt ha hb) λσ H Q h=>by
 obtain⟨F,B,ad,as,r,as',R,e,q⟩:=h
 obtain⟨⟨p,as1⟩,h1,e⟩:=bS_ (show(fa as).bind _=_ from e)
 refine⟨F,B,ad,as,p,as1,R,h1,λv T' ad' H' R' rv g=>?_⟩
 obtain⟨k,e1,e⟩:=bS_ e
 obtain⟨st,rfl⟩:=zfi e1
 obtain⟨rfl,rfl⟩:=zjk rv
 cases k with
 |true=>exact⟨true,rfl,⟨F,B,ad',as1,r,as',R',e,λv T2 ad2 H2 R2 rv g2=>q v T2 ad2 H2 R2 rv (g.trans g2)⟩⟩
 |false=>
  cases e
  exact⟨false,rfl,q _ [] ad' H' R' (.lf (.bl false)) g⟩)
theorem zoS(ha:AE X kd a fa)(hb:AE X kd (.BoolOp .Or (b::rest) pos) fb):AE X kd (.BoolOp .Or (a::b::rest) pos) (fOr fa fb):=by with_unfolding_all exact(yL (znY ha hb) λσ H Q h=>by
 obtain⟨F,B,ad,as,r,as',R,e,q⟩:=h
 obtain⟨⟨p,as1⟩,h1,e⟩:=bS_ (show(fa as).bind _=_ from e)
 refine⟨F,B,ad,as,p,as1,R,h1,λv T' ad' H' R' rv g=>?_⟩
 obtain⟨k,e1,e⟩:=bS_ e
 obtain⟨st,rfl⟩:=zfi e1
 obtain⟨rfl,rfl⟩:=zjk rv
 cases k with
 |false=>exact⟨false,rfl,⟨F,B,ad',as1,r,as',R',e,λv T2 ad2 H2 R2 rv g2=>q v T2 ad2 H2 R2 rv (g.trans g2)⟩⟩
 |true=>
  cases e
  exact⟨true,rfl,q _ [] ad' H' R' (.lf (.bl true)) g⟩)
theorem zhV(ha:AE X kd a fa):AE X kd (.UnaryOp .Not a pos) (zgT fa):=by with_unfolding_all exact(yL (znl ha) λσ H Q h=>by
 obtain⟨F,B,ad,as,r,as',R,e,q⟩:=h
 obtain⟨⟨p,as1⟩,h1,e⟩:=bS_ (show(fa as).bind _=_ from e)
 refine⟨F,B,ad,as,p,as1,R,h1,λv T' ad' H' R' rv g=>?_⟩
 obtain⟨k,e1,e⟩:=bS_ e
 obtain⟨st,rfl⟩:=zfi e1
 obtain⟨rfl,rfl⟩:=zjk rv
 cases e
 exact⟨k,rfl,q _ [] ad' H' R' (.lf (.bl _)) g⟩)
theorem zgx{op:UnaryOp}{g:D->Option R0}(ho:UnD X kd (unaryOp op) g)(ha:AE X kd a fa):AE X kd (.UnaryOp op a pos) (f1 fa g):=by with_unfolding_all exact(yL (znR ho ha) λσ H Q h=>by
 obtain⟨F,B,ad,as,r,as',R,e,q⟩:=h
 obtain⟨⟨p,as1⟩,h1,e⟩:=bS_ (show(fa as).bind _=_ from e)
 obtain⟨⟨x,lv⟩,h2,e⟩:=bS_ e
 obtain⟨z,h3,e⟩:=bS_ e
 obtain⟨y,h4,e⟩:=bS_ e
 cases e
 refine vI R h1 λv ad1 H1 R1 rv1 g1=>⟨_,x,z,R1.tr _,wz.vw R1 rv1 h2,h3,Yp R1 h4 λw T' H' R' rv' g'=>q w T' ad1 H' R' rv' (g1.trans g')⟩)
end
abbrev AF:=AS->Option (List RV×AS)
inductive RVs(K:zC)(kd:KD)(F B:Addr->Prop)(ad:Ad)(σ:St)(H:Hp):List V->List RV->Prop
 |nil:RVs K kd F B ad σ H [] []
 |cons {v:V}{r:RV}{vs:List V}{rs:List RV}:wz K kd F B [] ad σ H v r->RVs K kd F B ad σ H vs rs->RVs K kd F B ad σ H (v::vs) (r::rs)
def alA(K:zC)(kd:KD)(f:AF):TA:=λσ H Q=>∃F B ad as rs as',Rel K kd F B [] ad as σ H/\f as=some (rs,as')/\
 ∀vs ad' H',Rel K kd F B [] ad' as' σ H'->RVs K kd F B ad' σ H' vs rs->Grow (Gw [] ad) H (Gw [] ad') H'->Q vs H'
@[irreducible] def AA(X:Cx)(kd:KD)(es:List Expr)(f:AF):Prop:=PA X es (alA X.K kd f)
def aN:AF:=λas=>some ([],as)
def aC(fa:EF)(fr:AF):AF:=λas=>(fa as).bind λp=>(fr p.2).bind λq=>some (p.1.frz::q.1,q.2)
theorem zdb{X:Cx}{e:List Expr}{t t':TA}(h:PA X e t)(k:∀σ H Q,t' σ H Q->t σ H Q):PA X e t':=λpos pins s σ H Q I q=>h pos pins s σ H Q I (k σ H Q q)
abbrev DF:=AS->Option (List O×AS)
def alD(K:zC)(kd:KD)(f:DF):TA:=λσ H Q=>∃F B ad as os as',Rel K kd F B [] ad as σ H/\f as=some (os,as')/\
 ∀vs T' ad' H',Rel K kd F B T' ad' as' σ H'->vK K kd F B (Gw T' ad') H' vs os T'->Grow (Gw [] ad) H (Gw T' ad') H'->Q vs H'
@[irreducible] def AD(X:Cx)(kd:KD)(es:List Expr)(f:DF):Prop:=PA X es (alD X.K kd f)
def dN:DF:=λas=>some ([],as)
def dC(fa:EF)(fr:DF):DF:=λas=>(fa as).bind λp=>(toO p.2 p.1).bind λx=>(fr x.2).bind λq=>some (x.1::q.1,q.2)
def views(as:AS):List RV->Option (List D×Option Bool)
 | []=>some ([],some true)
 |r::rs=>(r.view as).bind λx=>(views as rs).bind λy=>some (x.1::y.1,meet x.2 y.2)
def fP(fr:AF)(g:List D->Option R0):EF:=λas=>(fr as).bind λp=>(views p.2 p.1).bind λx=>(g x.1).bind λr=>(wrap x.2 r).bind λz=>some (z,p.2)
def zik(as:AS):RV->Option (Bool×D)
 | .ow o=>some (zY o.toD||o.str,o.toD)
 | .bo i=>match as[i]? with
  |some (some o)=>some (false,o.toD)
  |_=>none
def Yj(as:AS):List RV->Option (List (Bool×D))
 | []=>some []
 |r::rs=>(zik as r).bind λx=>(Yj as rs).bind λy=>some (x::y)
def zV(fr:AF)(g:List (Bool×D)->Option O):EF:=λas=>(fr as).bind λp=>(Yj p.2 p.1).bind λx=>(g x).bind λo=>some (.ow o,p.2)
def RQO(K:zC)(kd:KD)(F:Addr->Prop)(H:Hp)(Q:VK)(o:O):Prop:=
 ∀v T H',T.Nodup->(∀a ∈ T,H a=none)->(∀b u,H b=some u->H' b=some u)->(∀a ∈ T,H' a≠none)->Ro (λ_ v d=>Rp K kd (Un2 F (· ∈ T)) H' v d) (λa=>¬Un2 F (· ∈ T) a) H' v o T->Q v H'
inductive RpA(K:zC)(kd:KD)(F:Addr->Prop)(H:Hp):List V->List (Bool×D)->Prop
 |nil:RpA K kd F H [] []
 |cons {v:V}{st:Bool}{d:D}{vs:List V}{ds:List (Bool×D)}:Rp K kd (λa=>st=true/\F a) H v d->RpA K kd F H vs ds->RpA K kd F H (v::vs) ((st,d)::ds)
def spD(K:zC)(kd:KD)(g:List (Bool×D)->Option O):Sp:=λvs H Q _=>∃F ds o,(∀a,F a->H a≠none)/\RpA K kd F H vs ds/\g ds=some o/\RQO K kd F H Q o
def zed(os:List O):O:=if os.all O.isLf=true then .lf (O.strs os) (.tup (O.toDs os))else .nd .tp os
def zaf(fr:DF):EF:=λas=>(fr as).bind λp=>if p.1.length<=sizeLine then some (.ow (zed p.1),p.2)else none
def zP(fr:DF):EF:=λas=>(fr as).bind λp=>if p.1.length<=sizeLine then some (.ow (.nd .ls p.1),p.2)else none
section
variable{X:Cx}{kd:KD}{a b c:Expr}{fa fb:EF}{ta tb:TF}{pos:Pos}{es rest:List Expr}{fr:AF}{fd:DF}
theorem RpA.length{K:zC}{F:Addr->Prop}{H:Hp}{vs:List V}{ds:List (Bool×D)}(h:RpA K kd F H vs ds):vs.length=ds.length:=by
 induction h with
 |nil=>rfl
 |cons _ _ ih=>exact congrArg (· + 1) ih
theorem zA:AA X kd [] aN:=by with_unfolding_all exact(zdb Zo λσ H Q h=>by
 obtain⟨F,B,ad,as,rs,as',R,e,q⟩:=h
 cases e
 exact q [] ad H R .nil Grow.refl)
theorem zj(ha:AE X kd a fa)(hr:AA X kd es fr)(hs:starEach (a::es) X.env=(false,eval a X.env)::starEach es X.env):AA X kd (a::es) (aC fa fr):=by with_unfolding_all exact(zdb (yQ ha hr hs) λσ H Q h=>by
 obtain⟨F,B,ad,as,rs,as',R,e,q⟩:=h
 obtain⟨⟨p,as1⟩,h1,e⟩:=bS_ (show(fa as).bind _=_ from e)
 obtain⟨⟨z,as2⟩,h2,e⟩:=bS_ e
 cases e
 refine vI R h1 λv ad1 H1 R1 rv1 g1=>⟨F,B,ad1,as1,z,_,R1,h2,λvs ad2 H2 R2 rv2 g2=>?_⟩
 exact q _ ad2 H2 R2 (.cons (rv1.grow g2) rv2) (g1.trans g2))
theorem zE:AD X kd [] dN:=by with_unfolding_all exact(zdb Zo λσ H Q h=>by
 obtain⟨F,B,ad,as,rs,as',R,e,q⟩:=h
 cases e
 exact q [] [] ad H R .nil Grow.refl)
theorem zg(ha:AE X kd a fa)(hr:AD X kd es fd)(hs:starEach (a::es) X.env=(false,eval a X.env)::starEach es X.env):AD X kd (a::es) (dC fa fd):=by with_unfolding_all exact(zdb (yQ ha hr hs) λσ H Q h=>by
 obtain⟨F,B,ad,as,rs,as',R,e,q⟩:=h
 obtain⟨⟨p,as1⟩,h1,e⟩:=bS_ (show(fa as).bind _=_ from e)
 obtain⟨⟨o,as2⟩,h2,e⟩:=bS_ e
 obtain⟨⟨os,as3⟩,h3,e⟩:=bS_ e
 cases e
 refine⟨F,B,ad,as,p,as1,R,h1,λv T1 ad1 H1 R1 rv1 g1=>?_⟩
 obtain⟨ad2,R2,ro2,le2⟩:=VN R1 rv1 h2
 refine⟨F,_,ad2,as2,os,_,R2.hide,h3,λvs T3 ad3 H3 R3 ro3 g3=>?_⟩
 have kT:∀a ∈ T1,∀u,H1 a=some u->H3 a=some u:=λa m u e=>g3.keep a u e λz=>z.elim (λy=>nomatch y) λ⟨i,y⟩=>R2.dis i a y m
 have r1:RoS X.K kd F B (Gw (T1++T3) ad3) H3 v o T1:=RoS.lv vW (RoS.grow g3 kT (RoS.lv zdp ro2))
 have r3:vK X.K kd F B (Gw (T1++T3) ad3) H3 vs os T3:=vK.lv vW ro3
 refine q _ (T1++T3) ad3 H3 (R3.unhide R2.tnd λa m z=>(R2.btr a z).2.2 (.inl m)) (.cons r1 r3) ((g1.trans (Grow.less le2)).trans ⟨λb u e n=>g3.keep b u e λz=>n (Gw.drop b z),λb z=>?_⟩)
 rcases z with z|z
 · rcases zzI.mp z with z|z
   · exact .inl (.inl z)
   · exact(g3.own b (.inl z)).elim (λy=>.inl (Gw.drop b y)) .inr
 · exact(g3.own b (.inr z)).elim (λy=>.inl (Gw.drop b y)) .inr)
theorem We{x1}(h:AD X kd es fd):AE X kd (.Tuple es x1 pos) (zaf fd):=by with_unfolding_all exact(yL (zhM h) λσ H Q h=>by
 obtain⟨F,B,ad,as,r,as',R,e,q⟩:=h
 obtain⟨⟨os,as1⟩,h1,e⟩:=bS_ (show(fd as).bind _=_ from e)
 obtain⟨hz,e⟩:=zR e
 cases e
 refine⟨F,B,ad,as,os,_,R,h1,λvs T1 ad1 H1 R1 ro1 g1=>⟨by rw[ro1.length];exact hz,λp hp=>?_⟩⟩
 have k:∀b o,H1 b=some o->upd H1 p (.tup vs) b=some o:=λb o hb=>by rw[zK (yu hb hp)];exact hb
 obtain⟨R2,g2⟩:=R1.more k
 have ro2:=vK.grow g2 (λa _ u h=>k a u h) ro1
 have np:∀st,¬Lv F B (Gw T1 ad1) st p:=λst z=>R1.trk st p z hp
 refine q _ T1 ad1 _ R2 ?_ (g1.trans g2)
 show RoS X.K kd F B (Gw T1 ad1) _ _ (zed os) T1
 unfold zed
 by_cases hl:os.all O.isLf=true
 · rw[if_pos hl]
   have:=ziF ro2 hl
   subst this
   exact .lf (.tup (np _) (.inl zZ) (zbe ro2 hl))
 · rw[if_neg hl]
   exact .tp (np _) zZ ro2)
theorem zW(h:AD X kd es fd):AE X kd (.List es pos) (zP fd):=by with_unfolding_all exact(yL (zmX h) λσ H Q h=>by
 obtain⟨F,B,ad,as,r,as',R,e,q⟩:=h
 obtain⟨⟨os,as1⟩,h1,e⟩:=bS_ (show(fd as).bind _=_ from e)
 obtain⟨hz,e⟩:=zR e
 cases e
 refine⟨F,B,ad,as,os,_,R,h1,λvs T1 ad1 H1 R1 ro1 g1=>⟨by rw[ro1.length];exact hz,λp hp=>?_⟩⟩
 have k:∀b o,H1 b=some o->upd H1 p (.lst vs) b=some o:=λb o hb=>by rw[zK (yu hb hp)];exact hb
 obtain⟨R2,g2⟩:=R1.add (N:=[p]) (by simp) (λa m=>by rw[zzN.mp m];exact hp) k (λa m=>by rw[zzN.mp m,zZ];simp)
 exact q _ _ ad1 _ R2 (.ls zZ (vK.grow g2 (λa _ u h=>k a u h) ro1)) (g1.trans g2))
theorem VwL.less{K:zC}{O O':Addr->Prop}{H:Hp}(g:∀a,O' a->O a){vs:List V}{ds:List D}(h:VwL K kd O H vs ds):VwL K kd O' H vs ds:=by
 induction h with
 |nil=>exact .nil
 |cons h _ ih=>exact .cons (h.less g) ih
theorem zar{K:zC}{F B:Addr->Prop}{ad:Ad}{as:AS}{σ:St}{H:Hp}(R:Rel K kd F B [] ad as σ H){vs:List V}{rs:List RV}{ds:List D}{lv:Option Bool}(h:RVs K kd F B ad σ H vs rs)(e:views as rs=some (ds,lv)):VwL K kd (Obl F B (Gw [] ad) lv) H vs ds:=by
 induction h generalizing ds lv with
 |nil=>cases e;exact .nil
 |cons h t ih=>
  obtain⟨⟨d,l⟩,h1,e⟩:=bS_ (show(RV.view as _).bind _=_ from e)
  obtain⟨⟨ds,l2⟩,h2,e⟩:=bS_ e
  cases e
  exact .cons ((wz.vw R h h1).less Obl.meet1) ((ih h2).less Obl.meet2)
theorem alP{g:List D->Option R0}{σ:St}{H:Hp}{Q:VK}{R':List V->Hp->VK->Prop}(hr:∀vs H Q,(∃O ds r,(∀a,O a->H a≠none)/\VwL X.K kd O H vs ds/\g ds=some r/\RQ X.K kd O H Q r)->R' vs H Q)
 (h:al X.K kd (fP fr g) σ H Q):alA X.K kd fr σ H λvs H1=>R' vs H1 Q:=by
 obtain⟨F,B,ad,as,r,as',R,e,q⟩:=h
 obtain⟨⟨p,as1⟩,h1,e⟩:=bS_ (show(fr as).bind _=_ from e)
 obtain⟨⟨ds,lv⟩,h2,e⟩:=bS_ e
 obtain⟨z,h3,e⟩:=bS_ e
 obtain⟨y,h4,e⟩:=bS_ e
 cases e
 exact⟨F,B,ad,as,p,_,R,h1,λvs ad1 H1 R1 rv1 g1=>hr _ _ _ ⟨_,ds,z,R1.tr _,zar R1 rv1 h2,h3,Yp R1 h4 λw T' H' R' rv' g'=>q w T' ad1 H' R' rv' (g1.trans g')⟩⟩
theorem zgj{K:zC}{F B:Addr->Prop}{ad:Ad}{as:AS}{σ:St}{H:Hp}(R:Rel K kd F B [] ad as σ H){vs:List V}{rs:List RV}{ds:List (Bool×D)}(h:RVs K kd F B ad σ H vs rs)(e:Yj as rs=some ds):RpA K kd (Lv F B (Gw [] ad) true) H vs ds:=by
 induction h generalizing ds with
 |nil=>cases e;exact .nil
 |cons h t ih=>
  rename_i v r vs rs
  obtain⟨⟨st,d⟩,h1,e⟩:=bS_ (show(zik as r).bind _=_ from e)
  obtain⟨ds,h2,e⟩:=bS_ e
  cases e
  refine .cons ?_ (ih h2)
  cases r with
  |ow o=>
   cases h1
   cases hf:zY o.toD with
   |true=>exact(zfC h).flat hf
   |false=>
    refine(zbB h).less λa z=>?_
    have zs:o.str=true:=z.1
    rw[zs]
    exact z.2
  |bo i=>
   have e:(match as[i]? with|some (some o)=>some (false,o.toD)|_=>none)=some (st,d):=h1
   cases k:as[i]? with
   |none=>rw[k]at e;cases e
   |some s=>
    cases s with
    |none=>rw[k]at e;cases e
    |some o=>
     rw[k]at e
     cases e
     obtain⟨w,hw,ro⟩:=R.sl i _ k
     rw[h.2]at hw
     cases hw
     exact(zfC ro).less λa z=>nomatch z.1
theorem zna{K:zC}{F B:Addr->Prop}{ad:Ad}{as:AS}{σ:St}{H:Hp}{Q:VK}{o:O}(R:Rel K kd F B [] ad as σ H)(q:∀v T' H',Rel K kd F B T' ad as σ H'->wz K kd F B T' ad σ H' v (.ow o)->Grow (Gw [] ad) H (Gw T' ad) H'->Q v H'):
 RQO K kd (Lv F B (Gw [] ad) true) H Q o:=λv T H' hn hl k h1 ro=>by
 obtain⟨R',g⟩:=R.news hn hl k h1
 have le:∀st a,Lv F B (Gw T ad) st a->Un2 (Lv F B (Gw [] ad) true) (· ∈ T) a:=λst a z=>by
  rcases z with(z|z)|z|z
  · exact .inl (.inl (.inl ⟨rfl,z.2⟩))
  · exact .inl (.inl (.inr z))
  · exact .inr z
  · exact .inl (.inr (.inr z))
 exact q v T H' R' (Ro.mono (λst v d r=>r.less (le st)) (λa vs n e=>⟨λz=>n (le true a z),e⟩) (λ_ _ _ e=>e) ro) g
theorem zma{g:List (Bool×D)->Option O}{σ:St}{H:Hp}{Q:VK}{E:XK}(h:al X.K kd (zV fr g) σ H Q):zlI (spD X.K kd g) [] E (alA X.K kd fr) σ H Q:=by
 obtain⟨F,B,ad,as,r,as',R,e,q⟩:=h
 obtain⟨⟨p,as1⟩,h1,e⟩:=bS_ (show(fr as).bind _=_ from e)
 obtain⟨ds,h2,e⟩:=bS_ e
 obtain⟨o,h3,e⟩:=bS_ e
 cases e
 refine⟨F,B,ad,as,p,_,R,h1,λvs ad1 H1 R1 rv1 g1=>?_⟩
 show spD X.K kd g (vs++[]) H1 Q E
 rw[zyA]
 exact⟨_,ds,o,R1.trk true,zgj R1 rv1 h2,h3,zna R1 λw T' H' R' rv' g'=>q w T' ad1 H' R' rv' (g1.trans g')⟩
end
inductive Out where
 |nx (as:AS)|rt (o:O)|bk (as:AS)|ct (as:AS)
abbrev SF:=AS->Option Out
structure RetOk(K:zC)(kd:KD)(F:Addr->Prop)(T:List Addr)(H:Hp)(v:V)(o:O):Prop where
 nd:T.Nodup
 tr:∀a ∈ T,H a≠none
 ro:Ro (λ_ v d=>Rp K kd (Un2 F (· ∈ T)) H v d) (λa=>¬Un2 F (· ∈ T) a) H v o T
def zgd(K:zC)(kd:KD)(F B:Addr->Prop)(ad:Ad)(H:Hp)(D:Ends):Out->Prop
 | .nx as'=>∀σ' ad' H',Rel K kd F B [] ad' as' σ' H'->Grow (Gw [] ad) H (Gw [] ad') H'->D.nx σ' H'
 | .bk as'=>∀σ' ad' H',Rel K kd F B [] ad' as' σ' H'->Grow (Gw [] ad) H (Gw [] ad') H'->D.bk σ' H'
 | .ct as'=>∀σ' ad' H',Rel K kd F B [] ad' as' σ' H'->Grow (Gw [] ad) H (Gw [] ad') H'->D.ct σ' H'
 | .rt o=>∀v T H',RetOk K kd F T H' v o->Grow (Gw [] ad) H (· ∈ T) H'->D.rt v H'
def be(K:zC)(kd:KD)(f:SF):TS:=λD σ H=>∃F B ad as o,Rel K kd F B [] ad as σ H/\f as=some o/\zgd K kd F B ad H D o
@[irreducible] def ASt(X:Cx)(kd:KD)(st:Stmt)(f:SF):Prop:=PS X st (be X.K kd f)
@[irreducible] def ASs(X:Cx)(kd:KD)(st:List Stmt)(f:SF):Prop:=PSs X st (be X.K kd f)
theorem XX{X:Cx}{e:Stmt}{t t':TS}(h:PS X e t)(k:∀D σ H,t' D σ H->t D σ H):PS X e t':=λpins s σ H D I q=>h pins s σ H D I (k D σ H q)
theorem zgy{X:Cx}{e:List Stmt}{t t':TS}(h:PSs X e t)(k:∀D σ H,t' D σ H->t D σ H):PSs X e t':=λpins s σ H D I q=>h pins s σ H D I (k D σ H q)
theorem zgd.pre{K:zC}{kd:KD}{F B:Addr->Prop}{ad ad1:Ad}{H H1:Hp}{D:Ends}{o:Out}(g:Grow (Gw [] ad) H (Gw [] ad1) H1)(h:zgd K kd F B ad H D o):zgd K kd F B ad1 H1 D o:=by
 cases o with
 |nx as=>exact λσ' ad' H' R g'=>h σ' ad' H' R (g.trans g')
 |bk as=>exact λσ' ad' H' R g'=>h σ' ad' H' R (g.trans g')
 |ct as=>exact λσ' ad' H' R g'=>h σ' ad' H' R (g.trans g')
 |rt r=>exact λv T H' R g'=>h v T H' R (g.trans g')
def sNx:SF:=λas=>some (.nx as)
def zM(f g:SF):SF:=λas=>(f as).bind λo=>match o with | .nx as'=>g as'|o=>some o
def sIf(c:TF)(f g:SF):SF:=λas=>(c as).bind λp=>if p.1=true then f p.2 else g p.2
def xU(f:EF):SF:=λas=>(f as).bind λp=>some (.nx p.2)
def zii(as:AS):RV->Option O
 | .ow o=>if o.str=true then some o else none
 | .bo i=>match as[i]? with
  |some (some o)=>if o.str=true then some o else none
  |_=>none
def yF(f:EF):SF:=λas=>(f as).bind λp=>(zii p.2 p.1).bind λo=>some (.rt o)
def zF(z:Bool)(i:Nat)(f:EF):SF:=λas=>(f as).bind λp=>(toO p.2 (if z=true then p.1.frz else p.1)).bind λx=>if i<x.2.length then some (.nx (x.2.set i (some x.1)))else none
theorem Ro.strong{L:Bool->V->D->Prop}{N:Addr->Prop}{H:Hp}{v:V}{o:O}{fp:List Addr}(h:Ro L N H v o fp)(e:o.str=true):Ro (λst v d=>st=true/\L st v d) N H v o fp:=
 Ro.rec (motive_1:=λv o fp _=>o.str=true->Ro (λst v d=>st=true/\L st v d) N H v o fp) (motive_2:=λvs os fp _=>O.strs os=true->RoL (λst v d=>st=true/\L st v d) N H vs os fp)
  (λh e=>.lf ⟨e,h⟩) (λh _ r e=>.ls h (r e)) (λh l _ r e=>.dc h l (r e)) (λc h l _ r e=>.ob ⟨rfl,c⟩ h l (r e)) (λn h _ r e=>.tp n h (r e)) (λ_=>.nil) (λ_ _ h r e=>.cons (h ((zzY _ _).mp e).1) (r ((zzY _ _).mp e).2)) h e
section
variable{K:zC}{kd:KD}{F B:Addr->Prop}{T:List Addr}{ad ad1:Ad}{as as1:AS}{σ:St}{H H1:Hp}{v:V}{r:RV}{o:O}
theorem zfs{T':List Addr}(R:Rel K kd F B T ad as σ H)(hn:T'.Nodup)(hs:∀a ∈ T',Gw T ad a)(h:RoS K kd F B (Gw T ad) H v o T')(e:o.str=true):RetOk K kd F T' H v o:=by
 have le:∀a,Un2 F (· ∈ T') a->Lv F B (Gw T ad) true a:=λa z=>z.elim (λy=>.inl (.inl ⟨rfl,y⟩)) λy=>.inr (hs a y)
 exact⟨hn,λa m=>(R.gtr a (hs a m)).1,Ro.mono (λst v d r=>by obtain⟨rfl,r⟩:=r;exact r.less le) (λa vs n e=>⟨λz=>n (le a z),e⟩) (λ_ _ _ e=>e) (Ro.strong h e)⟩
theorem Rel.ret(R:Rel K kd F B T ad as σ H)(hr:wz K kd F B T ad σ H v r)(e:zii as r=some o):∃T',RetOk K kd F T' H v o/\∀b ∈ T',Gw T ad b:=by
 cases r with
 |ow o'=>
  obtain⟨hs,rfl⟩:=zR e
  exact⟨T,zfs R R.tnd (λa m=>.inl m) hr hs,λa m=>.inl m⟩
 |bo i=>
  have e:(match as[i]? with|some (some o)=>if o.str=true then some o else none|_=>none)=some o:=e
  cases k:as[i]? with
  |none=>rw[k]at e;cases e
  |some s=>
   cases s with
   |none=>rw[k]at e;cases e
   |some o1=>
    rw[k]at e
    obtain⟨hs,rfl⟩:=zR e
    obtain⟨w,hw,ro⟩:=R.sl i _ k
    rw[hr.2]at hw
    cases hw
    exact⟨ad i,zfs R (R.nd i) (λa m=>.inr ⟨i,m⟩) ro hs,λa m=>.inr ⟨i,m⟩⟩
end
section
variable{X:Cx}{kd:KD}{st:Stmt}{sts rest:List Stmt}{a b c e:Expr}{fa fb:EF}{ta:TF}{pos:Pos}{f g:SF}
theorem yN:ASs X kd [] sNx:=by with_unfolding_all exact(zgy zgn λD σ H h=>by
 obtain⟨F,B,ad,as,o,R,e,q⟩:=h
 cases e
 exact q σ ad H R Grow.refl)
theorem zq(h1:ASt X kd st f)(h2:ASs X kd rest g):ASs X kd (st::rest) (zM f g):=by with_unfolding_all exact(zgy (Y6 h1 h2) λD σ H h=>by
 obtain⟨F,B,ad,as,o,R,e,q⟩:=h
 obtain⟨o1,e1,e⟩:=bS_ (show(f as).bind _=_ from e)
 refine⟨F,B,ad,as,o1,R,e1, ?_⟩
 cases o1 with
 |nx as1=>exact λσ' ad' H' R' g'=>⟨F,B,ad',as1,o,R',e,q.pre g'⟩
 |bk as1=>cases e;exact q
 |ct as1=>cases e;exact q
 |rt r=>cases e;exact q)
theorem zy(h1:ASt X kd st f):ASs X kd [st] f:=by with_unfolding_all exact(zcO h1)
def sNo:SF:=λ_=>none
theorem zoC:ASt X kd st sNo:=by with_unfolding_all exact(λpins s σ H D I h=>by obtain⟨F,B,ad,as,o,R,e,q⟩:=h;cases e)
theorem yV(hc:AT X kd c ta)(ha:ASs X kd sts f)(hb:ASs X kd rest g):ASt X kd (.If c sts rest pos) (sIf ta f g):=by with_unfolding_all exact(XX (zlz hc ha hb) λD σ H h=>by
 obtain⟨F,B,ad,as,o,R,e,q⟩:=h
 obtain⟨⟨p,as1⟩,h1,e⟩:=bS_ (show(ta as).bind _=_ from e)
 refine⟨F,B,ad,as,p,as1,R,h1,λad' H' R' g=>?_⟩
 cases p with
 |true=>exact⟨F,B,ad',as1,o,R',e,q.pre g⟩
 |false=>exact⟨F,B,ad',as1,o,R',e,q.pre g⟩)
theorem Zf(he:AE X kd e fa)(hs:swapsWith e none pos.line X.env=pure false):ASt X kd (.Expr e pos) (xU fa):=by with_unfolding_all exact(XX (zge he hs) λD σ H h=>by
 obtain⟨F,B,ad,as,o,R,e,q⟩:=h
 obtain⟨⟨p,as1⟩,h1,e⟩:=bS_ (show(fa as).bind _=_ from e)
 cases e
 exact⟨F,B,ad,as,p,as1,R,h1,λv T' ad' H' R' rv g=>q σ ad' H' R'.drop (g.trans (Grow.less Gw.drop))⟩)
theorem yf(he:AE X kd e fa):ASt X kd (.Return (some e) pos) (yF fa):=by with_unfolding_all exact(XX (zmc he) λD σ H h=>by
 obtain⟨F,B,ad,as,o,R,e,q⟩:=h
 obtain⟨⟨p,as1⟩,h1,e⟩:=bS_ (show(fa as).bind _=_ from e)
 obtain⟨r,h2,e⟩:=bS_ e
 cases e
 refine⟨F,B,ad,as,p,as1,R,h1,λv T' ad' H' R' rv g=>?_⟩
 obtain⟨T2,ro,le⟩:=R'.ret rv h2
 exact q v T2 H' ro (g.trans (Grow.less le)))
theorem znK{K:zC}{F B:Addr->Prop}{T:List Addr}{ad:Ad}{as as2:AS}{σ:St}{H:Hp}{v:V}{r:RV}{z:Bool}{o:O}{i:Nat}(R:Rel K kd F B T ad as σ H)(rv:wz K kd F B T ad σ H v r)
 (h2:toO as (if z=true then r.frz else r)=some (o,as2)) (hl:i<as2.length):∃ad',Rel K kd F B [] ad' (as2.set i (some o)) (σ.set i (some v)) H/\∀a,Gw [] ad' a->Gw T ad a:=by
 cases z with
 |true=>
  obtain⟨ad1,R1,ro,le⟩:=VN R.drop (wz.drop R rv) h2
  exact⟨_,R1.put hl ro,λa y=>Gw.drop a (le a (Yq a y))⟩
 |false=>
  obtain⟨ad1,R1,ro,le⟩:=VN R rv h2
  exact⟨_,R1.put hl ro,λa y=>le a (Yq a y)⟩
theorem zmM{z:Bool}{i:Nat}{x:Str}{pos':Pos}(hN:X.N.Nodup)(hi:X.N[i]? = some x)(hx:Loc X.env.scope x)(he:AE X kd e fa)(hs:swapsWith e (some (.Name x pos')) pos.line X.env=pure false)(hf:X.fn x=true\/X.env.scope.names.lookup x=some .local):
 ASt X kd (.Assign [.Name x pos'] e pos) (zF z i fa):=by with_unfolding_all exact(XX (zmZ hN hi hx he hs hf) λD σ H h=>by
 obtain⟨F,B,ad,as,o,R,e,q⟩:=h
 obtain⟨⟨p,as1⟩,h1,e⟩:=bS_ (show(fa as).bind _=_ from e)
 obtain⟨⟨y,as2⟩,h2,e⟩:=bS_ e
 obtain⟨hl,e⟩:=zR e
 cases e
 refine⟨F,B,ad,as,p,as1,R,h1,λv T' ad' H' R' rv g=>?_⟩
 obtain⟨ad2,R2,le⟩:=znK R' rv h2 hl
 exact q _ ad2 H' R2 (g.trans (Grow.less le)))
end
def xN(n:Nat)(ds:List (Bool×D)):AS:=ds.map (λx=>some (.lf x.1 x.2))++List.replicate (n-ds.length) none
def zpg:Out->Option O
 | .nx _=>some (.lf true .non)
 | .rt o=>some o
 |_=>none
def fnR(n m:Nat)(f:SF)(ds:List (Bool×D)):Option O:=if ds.length=m then(f (xN n ds)).bind zpg else none
theorem RpA.get{K:zC}{kd:KD}{F:Addr->Prop}{H:Hp}:∀{vs:List V}{ds:List (Bool×D)}{i:Nat}{x:Bool×D},RpA K kd F H vs ds->ds[i]? = some x->∃v,vs[i]? = some v/\Rp K kd (λa=>x.1=true/\F a) H v x.2
 |_,_,_,_,.nil,e=>by simp at e
 |_,_,0,_,.cons h _,e=>by simp at e;subst e;exact⟨_,rfl,h⟩
 |_,_,i+1,_,.cons _ r,e=>by
  obtain⟨v,h1,h2⟩:=RpA.get (i:=i) r (by simpa using e)
  exact⟨v,by simpa using h1,h2⟩
theorem zco{K:zC}{kd:KD}{F:Addr->Prop}{H:Hp}{N:List Str}{vs:List V}{ds:List (Bool×D)}(ht:∀a,F a->H a≠none)(rp:RpA K kd F H vs ds):
 Rel K kd F (λ_=>False) [] (λ_=>[]) (xN N.length ds) (L2.start N vs) H:=by
 have hl:=rp.length
 have no:∀a,¬Gw [] (λ_=>[]) a:=λa z=>z.elim (λy=>nomatch y) λ⟨_,y⟩=>nomatch y
 refine⟨by unfold xN L2.start;simp[hl],λ_ _=>rfl,λ_=>zyF,(λ_ _ _ z=>nomatch z),zyF,(λ_ _ _ z=>nomatch z),ht,(λ_ z=>z.elim),λa z=>(no a z).elim,λi s e=>?_⟩
 unfold xN at e
 unfold L2.start
 by_cases hi:i<ds.length
 · rw[zyL (by rw[zD];exact hi),zzE]at e
   obtain⟨d,hd,ea⟩:=Option.map_eq_some_iff.mp e
   subst ea
   obtain⟨v,hv,rv⟩:=rp.get hd
   rw[zyL (by rw[zD,hl];exact hi),zzE,hv]
   refine⟨v,rfl,.lf (rv.less λa z=>?_)⟩
   rcases z with(z|z)|z
   · exact z
   · exact z.elim
   · exact(no a z).elim
 · rw[zyN (by rw[zD];omega)]at e
   have:=zzW e
   have ea:s=none:=(List.mem_replicate.mp this).2
   subst ea
   rfl
section
variable{P:Program}{w:World}{K:zC}{mg:Str->Option Value}{base:Heap}
theorem ziW{kd:KD}{F:Addr->Prop}{H H':Hp}{Q:VK}{o:O}{v:V}{T:List Addr}(q:RQO K kd F H Q o)(ro:RetOk K kd F T H' v o)(g:Grow (Gw [] λ_=>[]) H (· ∈ T) H'):Q v H':=by
 have no:∀a,¬Gw [] (λ_=>[]) a:=λa z=>z.elim (λy=>nomatch y) λ⟨_,y⟩=>nomatch y
 exact q v T H' ro.nd (λa m=>(g.own a m).resolve_left (no a)) (λb u h=>g.keep b u h (no b)) ro.tr ro.ro
theorem wB{kd:KD}{x qual:Str}{st:Stmt}{f:Addr}{fd:FuncData}{N ps:List Str}{k:Nat}{c:SF}(Fn:Fun K x qual st f fd)(S:FnScope N ps (zG st))
 (hb:∀(cdv:Value) (A:Around) (outer:List Env) (s:Shared) (H:Hp) (E:XK),Room k (A.deeper (envOfC qual (zG st) s.heap.objs.size f cdv))->ASs (Xm CX0 P w K mg base N qual (zG st) f cdv A outer s H E).nox kd (Xd st) c):
 FnOk P w K mg base CX0 (k+1) f fd ps (spD K kd (fnR N.length ps.length c)):=by
 with_unfolding_all (
 refine Fn.ok S (λvs H Q E h=>?_) (λcdv A outer s H vs Q E hr h=>⟨_,hb cdv A outer s H E hr, ?_⟩)
 · obtain⟨F,ds,r,_,rp,e,_⟩:=h
   unfold fnR at e
   by_cases hl:ds.length=ps.length
   · rw[rp.length,hl]
   · rw[if_neg hl]at e;cases e
 · obtain⟨F,ds,r,ht,rp,e,q⟩:=h
   unfold fnR at e
   by_cases hl:ds.length=ps.length
   · rw[if_pos hl]at e
     obtain⟨o,e1,e⟩:=bS_ e
     refine⟨F,λ_=>False,λ_=>[],xN N.length ds,o,zco ht rp,e1, ?_⟩
     cases o with
     |nx as=>cases e;exact λσ' ad' H' R g=>ziW q (T:=[]) ⟨zyF,(λ_ m=>nomatch m),.lf .non⟩ (g.trans (Grow.less (λ_ z=>nomatch z)))
     |rt o=>cases e;exact λv T H' ro g=>ziW q ro g
     |bk=>cases e
     |ct=>cases e
   · rw[if_neg hl]at e;cases e)
end
abbrev It1:=Bool×D
abbrev GF:=It1->AS->Option AS
abbrev GFs:=List It1->AS->Option AS
def kids(st:Bool)(ds:List D):List It1:=ds.map λd=>(zY d||st,d)
inductive RpI(K:zC)(kd:KD)(F B G:Addr->Prop)(H:Hp):List V->List It1->Prop
 |nil:RpI K kd F B G H [] []
 |cons {v:V}{x:It1}{vs:List V}{ds:List It1}:Rp K kd (Lv F B G x.1) H v x.2->RpI K kd F B G H vs ds->RpI K kd F B G H (v::vs) (x::ds)
def alG(K:zC)(kd:KD)(S:List Nat)(g:GF):TG:=λv σ H Q=>∃F B ad as x as',Rel K kd F B [] ad as σ H/\Rp K kd (Lv F B (Gw [] ad) x.1) H v x.2/\g x as=some as'/\
 ∀σ' ad' H',Rel K kd F B [] ad' as' σ' H'->Grow (Gw [] ad) H (Gw [] ad') H'->(∀j,j ∉ S->σ'[j]? = σ[j]?)->Q σ' H'
def zpA(K:zC)(kd:KD)(S:List Nat)(g:GFs):TGs:=λvs σ H Q=>∃F B ad as ds as',Rel K kd F B [] ad as σ H/\RpI K kd F B (Gw [] ad) H vs ds/\g ds as=some as'/\
 ∀σ' ad' H',Rel K kd F B [] ad' as' σ' H'->Grow (Gw [] ad) H (Gw [] ad') H'->(∀j,j ∉ S->σ'[j]? = σ[j]?)->Q σ' H'
@[irreducible] def AG(X:Cx)(kd:KD)(tg:Expr)(S:List Nat)(g:GF):Prop:=PG X tg (alG X.K kd S g)
@[irreducible] def AGs(X:Cx)(kd:KD)(tg:List Expr)(S:List Nat)(g:GFs):Prop:=PGs X tg (zpA X.K kd S g)
theorem zmH{X:Cx}{e:Expr}{t t':TG}(h:PG X e t)(k:∀v σ H Q,t' v σ H Q->t v σ H Q):PG X e t':=λpins s σ H v u Q I r q=>h pins s σ H v u Q I r (k v σ H Q q)
theorem zgq{X:Cx}{e:List Expr}{t t':TGs}(h:PGs X e t)(k:∀v σ H Q,t' v σ H Q->t v σ H Q):PGs X e t':=λpins s σ H v u Q I r q=>h pins s σ H v u Q I r (k v σ H Q q)
def gN(i:Nat):GF:=λx as=>if i<as.length then some (as.set i (some (.lf x.1 x.2)))else none
def gsN:GFs:=λds as=>match ds with | []=>some as|_::_=>none
def gsC(g:GF)(gs:GFs):GFs:=λds as=>match ds with | []=>none|d::r=>(g d as).bind λas1=>gs r as1
def gT(n:Nat)(gs:GFs):GF:=λx as=>match x.2 with
 | .tup ds=>if ds.length=n then gs (kids x.1 ds) as else none
 | .lst ds=>if ds.length=n then gs (kids x.1 ds) as else none
 |_=>none
section
variable{K:zC}{kd:KD}{F B G G':Addr->Prop}{H H':Hp}
theorem RpI.length{vs:List V}{ds:List It1}(h:RpI K kd F B G H vs ds):vs.length=ds.length:=by
 induction h with
 |nil=>rfl
 |cons _ _ ih=>exact congrArg (· + 1) ih
theorem RpI.grow(g:Grow G H G' H'){vs:List V}{ds:List It1}(h:RpI K kd F B G H vs ds):RpI K kd F B G' H' vs ds:=by
 induction h with
 |nil=>exact .nil
 |cons h _ ih=>exact .cons (Rp.grow g h) ih
theorem RpI.get{vs:List V}{ds:List It1}{i:Nat}{x:It1}(h:RpI K kd F B G H vs ds)(e:ds[i]? = some x):∃v,vs[i]? = some v/\Rp K kd (Lv F B G x.1) H v x.2:=by
 induction h generalizing i with
 |nil=>simp at e
 |cons h r ih=>
  cases i with
  |zero=>simp at e;subst e;exact⟨_,rfl,h⟩
  |succ i=>
   obtain⟨v,h1,h2⟩:=ih (i:=i) (by simpa using e)
   exact⟨v,by simpa using h1,h2⟩
theorem Yh{st:Bool}{vs:List V}{ds:List D}(h:RpL K kd (Lv F B G st) H vs ds):RpI K kd F B G H vs (kids st ds):=
 RpL.ind (P:=λvs ds=>RpI K kd F B G H vs (kids st ds)) .nil (λ{v d vs ds} h _ ih=>by
  refine .cons (x:=(zY d||st,d)) ?_ ih
  cases e:zY d with
  |true=>exact h.flat e
  |false=>exact h) h
end
section
variable{prog:Program}{w:World}{A:Around}{E:Value->Shared->Prop}{s:Shared}
theorem zbY{it l:Addr}{items:Array Value}(hne:l≠it):∀(n i:Nat) (s:Shared) (Q:List Value->Shared->Prop),s.heap.IsListIter it l i->s.heap.IsList l items->i+n<=items.size->
 (∀h',h'.IsListIter it l (i+n)->Heap.SameBut it s.heap h'->Q ((items.toList.drop i).take n) {s with heap:=h'})->wpAny (model prog w) A (draw (.ref it) n) Q E s
 |0,i,s,Q,hit,_,_,hQ=>by
  show wpAny _ _ (pure []) Q E s
  exact zxD (by simpa using hQ s.heap hit (Heap.SameBut.refl ..))
 |n+1,i,s,Q,hit,ht,hle,hQ=>by
  have hlt:i<items.size:=by omega
  show wpAny _ _ (pyNext (.ref it) >>= _) Q E s
  refine zxC (wpAny_pyNext_list_item hit ht (x:=items[i]) (by simp[hlt]) λh₁ hit₁ hs₁=>?_)
  refine zxC (zxJ (zbY hne n (i+1) _ _ hit₁ (ht.extBut hs₁.extBut hne) (by omega) λh₂ hit₂ hs₂=>zxD ?_))
  have hd:items.toList.drop i=items[i]::items.toList.drop (i+1):=by simp[zyM,hlt]
  have:=hQ h₂ (by rw[show i+(n+1)=i+1+n by omega];exact hit₂) (hs₁.trans hs₂)
  rw[hd,List.take_succ_cons]at this
  exact this
theorem zeh{l:Addr}{items:Array Value}{targets:List (Bool×(Value->Sem Unit))}{Q:Unit->Shared->Prop}(hh:A.handled=none)(ht:s.heap.IsList l items)
 (hn:targets.length=items.size) (hstar:targets.findIdx? (·.1)=none)
 (h:∀h',Heap.ExtBut s.heap.objs.size s.heap h'->wpAny (model prog w) A (assignInOrder (targets.map (·.2)) items.toList) Q E {s with heap:=h'}):
 wpAny (model prog w) A (unpack (.ref l) targets) Q E s:=by
 unfold unpack
 rw[hn,hstar]
 refine zxC (zxJ ?_)
 have hlt:l≠s.heap.objs.size:=by obtain⟨o,ho,_⟩:=ht;exact zzM (zxF ho)
 unfold unpackItems
 refine zxC ?_
 unfold notIterableAtAll
 refine zxC (wpAny_specialOf ht.typeIs PySem.F.slot_list_iter.lookup ?_)
 refine zxD ?_
 simp only[Bool.false_eq_true,if_false]
 refine zxC (zxJ (wpAny_pyIter_list ht ?_))
 refine zxC (zxJ (zbY hlt items.size 0 _ _ ⟨_,zxG _ rfl,rfl,rfl⟩ (ht.push _) (by omega) λh₁ hit₁ hs₁=>?_))
 have hall:List.take items.size (List.drop 0 items.toList)=items.toList:=by
  rw[List.drop_zero];exact List.take_of_length_le (by simp)
 rw[hall]
 rw[if_neg (by simp)]
 have ht₁:h₁.IsList l items:=(ht.push _).extBut hs₁.extBut hlt
 refine zxC (zxJ (wpAny_pyNext_list_end hh hit₁ ht₁ (by simp) λh₂ he₂=>?_))
 simp only[Option.isSome_none,Bool.false_eq_true,if_false]
 exact zxD (h h₂ λb o hb e=>he₂ b o hb (hs₁.extBut b o hb (zxE _ e)))
end
section
variable{X:Cx}{kd:KD}{a b c e tg iter:Expr}{es:List Expr}{body:List Stmt}{fa fb:EF}{pos:Pos}{g:GF}{gs:GFs}{f:SF}{ta:TF}{S S1 S2:List Nat}
def zpI(K:zC)(n:Nat)(t:TGs):TG:=λv σ H Q=>∃a xs,v = .ref a/\SqL K H a xs/\xs.length=n/\t xs σ H Q
theorem ziC{es:List Expr}{k:Nat}{t:TGs}{n:Nat}(hc:X.calm=true)(h:PGs X es t)(hn:(assignEach es X.env).length=n)(hst:(assignEach es X.env).findIdx? (·.1)=none):PG X (.Tuple es k pos) (zpI X.K n t):=by
 intro pins s σ H v u Q I r hw
 obtain⟨a,xs,e1,hq,hl,hw⟩:=hw
 subst e1
 cases r
 obtain⟨its,rv,ht,hz⟩:=I.list hq
 rw[assign_Tuple]
 refine zxC (wpAny_standAt (zeh (I.ok.hd hc) ht.isList (by simp[hn,<-hl,rv.length]) hst λh' hx=>?_))
 have I1:Inv X pins σ H {s with heap:=h'}:=I.kept (t':=s.toks) λb o e=>hx b o (zzM (zxF e)) e
 exact h pins _ σ H xs _ Q I1 (by simpa using rv) hw
theorem zkZ{i:Nat}{x:Str}(hN:X.N.Nodup)(hi:X.N[i]? = some x)(hx:Loc X.env.scope x)(hf:X.fn x=true\/X.env.scope.names.lookup x=some .local):AG X kd (.Name x pos) [i] (gN i):=by with_unfolding_all exact(zmH (zkS hN hi hx hf) λv σ H Q h=>by
 obtain⟨F,B,ad,as,y,as',R,rp,e,q⟩:=h
 obtain⟨hl,e⟩:=zR e
 cases e
 exact q _ _ H (R.put hl (o:=.lf y.1 y.2) (.lf rp)) (Grow.less Yq) λj hj=>zzU (λz=>hj (by rw[z];simp)))
theorem Xe:AGs X kd [] [] gsN:=by with_unfolding_all exact(zgq zjC λvs σ H Q h=>by
 obtain⟨F,B,ad,as,ds,as',R,rp,e,q⟩:=h
 cases rp with
 |nil=>cases e;exact⟨rfl,q σ ad H R Grow.refl λ_ _=>rfl⟩
 |cons=>cases e)
theorem yU(h1:AG X kd a S1 g)(h2:AGs X kd es S2 gs)(hs:(assignEach (a::es) X.env).map (·.2)=assign a X.env::(assignEach es X.env).map (·.2)):AGs X kd (a::es) (S1++S2) (gsC g gs):=by with_unfolding_all exact(zgq (zjy h1 h2 hs) λvs σ H Q h=>by
 obtain⟨F,B,ad,as,ds,as',R,rp,e,q⟩:=h
 cases rp with
 |nil=>cases e
 |cons r rr=>
  obtain⟨as1,e1,e⟩:=bS_ (show(g _ as).bind _=_ from e)
  refine⟨_,_,rfl,F,B,ad,as,_,as1,R,r,e1,λσ' ad' H' R' g' k'=>?_⟩
  exact⟨F,B,ad',as1,_,as',R',rr.grow g',e,λσ2 ad2 H2 R2 g2 k2=>q σ2 ad2 H2 R2 (g'.trans g2) λj hj=>(k2 j λz=>hj (zzH _ z)).trans (k' j λz=>hj (zzL _ z))⟩)
theorem Vk{k n:Nat}(hc:X.calm=true)(h:AGs X kd es S gs)(hn:(assignEach es X.env).length=n)(hst:(assignEach es X.env).findIdx? (·.1)=none):AG X kd (.Tuple es k pos) S (gT n gs):=by
 with_unfolding_all (
 intro pins s σ H v u Q I r hw
 obtain⟨F,B,ad,as,⟨st,d⟩,as',R,rp,e,q⟩:=hw
 cases d with
 |tup ds=>
  have e:(if ds.length=n then gs (kids st ds) as else none)=some as':=e
  by_cases hl:ds.length=n
  · rw[if_pos hl]at e
    have go:∃a xs,v = .ref a/\SqT X.K H a xs/\RpL X.K kd (Lv F B (Gw [] ad) st) H xs ds:=by
     cases rp with
     |tup n h r=>exact⟨_,_,rfl,.inl h,r⟩
     |tupK a b c e f r=>exact⟨_,_,rfl,.inr ⟨_,_,_,a,b,c,e,f⟩,r⟩
    obtain⟨a,xs,rfl,hs,rl⟩:=go
    exact zmJ hc h hn hst pins s σ H _ u Q I r ⟨a,xs,rfl,hs,by rw[rl.length,hl],F,B,ad,as,_,as',R,Yh rl,e,q⟩
  · rw[if_neg hl]at e;cases e
 |lst ds=>
  have e:(if ds.length=n then gs (kids st ds) as else none)=some as':=e
  by_cases hl:ds.length=n
  · rw[if_pos hl]at e
    cases rp with
    |lstK a b c r'=>exact ziC hc h hn hst pins s σ H _ u Q I r ⟨_,_,rfl,.inr ⟨_,_,_,a,rfl,rfl,rfl,b,c⟩,by rw[r'.length,hl],F,B,ad,as,_,as',R,Yh r',e,q⟩
    |lst n h' r'=>exact ziC hc h hn hst pins s σ H _ u Q I r ⟨_,_,rfl,.inl h',by rw[r'.length,hl],F,B,ad,as,_,as',R,Yh r',e,q⟩
  · rw[if_neg hl]at e;cases e
 |_=>cases e)
def Vy(as:AS)(r:RV):Option (It1×AS):=(toO as r.frz).bind λx=>match x.1 with | .lf st d=>some ((st,d),x.2)|_=>none
theorem vV{K:zC}{F B:Addr->Prop}{T:List Addr}{ad:Ad}{as as':AS}{σ:St}{H:Hp}{v:V}{r:RV}{x:It1}(R:Rel K kd F B T ad as σ H)(h:wz K kd F B T ad σ H v r)(e:Vy as r=some (x,as')):
 ∃ad',Rel K kd F B [] ad' as' σ H/\Rp K kd (Lv F B (Gw [] ad') x.1) H v x.2/\∀a,Gw [] ad' a->Gw T ad a:=by
 obtain⟨⟨o,as1⟩,h1,e⟩:=bS_ e
 obtain⟨ad1,R1,ro,le⟩:=VN R.drop (wz.drop R h) h1
 cases o with
 |lf st d=>
  cases e
  refine⟨ad1,R1, ?_,λa y=>Gw.drop a (le a y)⟩
  have:=zbB ro
  exact this
 |nd k os=>cases e
def Vr(f:EF)(g:GF):SF:=λas=>(f as).bind λp=>(Vy p.2 p.1).bind λq=>(g q.1 q.2).bind λas'=>some (.nx as')
theorem zaY(he:AE X kd e fa)(hg:AG X kd tg S g)(hs:swapsWithSole [tg] e pos.line X.env=pure false)(hw:swappedStores [tg] e X.env=pure none)(h1:(assignEach [tg] X.env).map (·.2)=[assign tg X.env]):
 ASt X kd (.Assign [tg] e pos) (Vr fa g):=by with_unfolding_all exact(XX (zij he hg hs hw h1) λD σ H h=>by
 obtain⟨F,B,ad,as,o,R,e,q⟩:=h
 obtain⟨⟨p,as1⟩,h1,e⟩:=bS_ (show(fa as).bind _=_ from e)
 obtain⟨⟨x,as2⟩,h2,e⟩:=bS_ e
 obtain⟨as3,h3,e⟩:=bS_ e
 cases e
 refine⟨F,B,ad,as,p,as1,R,h1,λv T' ad' H' R' rv g1=>?_⟩
 obtain⟨ad2,R2,rp,le⟩:=vV R' rv h2
 exact⟨F,B,ad2,as2,_,as3,R2,rp,h3,λσ' ad' H' R' g' _=>q σ' ad' H' R' ((g1.trans (Grow.less le)).trans g')⟩)
structure ItOk(K:zC)(kd:KD)(F B:Addr->Prop)(ad:Ad)(H:Hp)(J:It)(ds:List It1):Prop where
 all:∀(ad2:Ad) (H2:Hp),Grow (Gw [] ad) H (Gw [] ad2) H2->(∀st a,Lv F B (Gw [] ad2) st a->H2 a≠none)->∀i,(i<ds.length->J.go i H2)/\(ds.length<=i->J.stop i H2)/\
  ∀v H3,J.yld i H2 v H3->(∀b o,H2 b=some o->H3 b=some o)/\∀x,ds[i]? = some x->Rp K kd (Lv F B (Gw [] ad2) x.1) H3 v x.2
abbrev IF:=AS->Option (List It1×AS)
def alI(K:zC)(kd:KD)(f:IF):TI:=λσ H R=>∃F B ad as ds as',Rel K kd F B [] ad as σ H/\f as=some (ds,as')/\
 ∀J ad' H',Rel K kd F B [] ad' as' σ H'->Grow (Gw [] ad) H (Gw [] ad') H'->ItOk K kd F B ad' H' J ds->R J H'
@[irreducible] def AI(X:Cx)(kd:KD)(tg iter:Expr)(f:IF):Prop:=PI X tg iter (alI X.K kd f)
def forL(g:GF)(f:SF):List It1->AS->Option Out
 | [],as=>some (.nx as)
 |d::r,as=>(g d as).bind λas1=>(f as1).bind λo=>match o with
  | .nx as'=>forL g f r as'
  | .ct as'=>forL g f r as'
  | .bk as'=>some (.nx as')
  | .rt r=>some (.rt r)
def WW(fi:IF)(g:GF)(f:SF):SF:=λas=>(fi as).bind λp=>forL g f p.1 p.2
theorem ZL{fi:IF}(hp:PassesOwn (model X.prog X.w) X.A X.env X.xe)(hc:X.calm=true)(hi:AI X kd tg iter fi)(hg:AG X kd tg S g)(hb:ASs X kd body f)(hs:∀x,foldedSetIterable iter X.env x=pure x):
 ASt X kd (.For tg iter body [] pos) (WW fi g f):=by with_unfolding_all exact(XX (zni hp hc hi hg hb hs) λD σ H h=>by
 obtain⟨F,B,ad,as,o,R,e,q⟩:=h
 obtain⟨⟨ds,as1⟩,h1,e⟩:=bS_ (show(fi as).bind _=_ from e)
 refine⟨F,B,ad,as,ds,as1,R,h1,λJ ad1 H1 R1 g1 it=>?_⟩
 refine⟨λi m σ2 H2=>m+i=ds.length/\∃ad2 as2,Rel X.K kd F B [] ad2 as2 σ2 H2/\Grow (Gw [] ad1) H1 (Gw [] ad2) H2/\forL g f (ds.drop i) as2=some o,⟨ds.length,rfl,ad1,as1,R1,Grow.refl,e⟩, ?_⟩
 rintro i m σ2 H2 ⟨hm,ad2,as2,R2,g2,e2⟩
 obtain⟨k1,k2,k3⟩:=it.all ad2 H2 g2 R2.trk i
 by_cases hi:i<ds.length
 · refine .inr ⟨k1 hi,λσ3 H3=>∃ad3 as3,Rel X.K kd F B [] ad3 as3 σ3 H3/\Grow (Gw [] ad1) H1 (Gw [] ad3) H3/\forL g f (ds.drop (i+1)) as3=some o,λσ3 H3 ⟨ad3,as3,R3,g3,e3⟩=>⟨m-1,by omega,by omega,ad3,as3,R3,g3,e3⟩,λv H3 hy=>?_⟩
   obtain⟨kp,rp⟩:=k3 v H3 hy
   rw[zyM hi]at e2
   obtain⟨as3,e3,e2⟩:=bS_ (show(g _ as2).bind _=_ from e2)
   obtain⟨o3,e4,e2⟩:=bS_ e2
   obtain⟨R3,g3⟩:=R2.more kp
   refine⟨F,B,ad2,as2,_,as3,R3,rp _ (zzA hi),e3,λσ4 ad4 H4 R4 g4 _=>?_⟩
   refine⟨F,B,ad4,as3,o3,R4,e4, ?_⟩
   have gg:=(g2.trans g3).trans g4
   cases o3 with
   |nx as5=>exact λσ5 ad5 H5 R5 g5=>⟨ad5,as5,R5,gg.trans g5,e2⟩
   |ct as5=>exact λσ5 ad5 H5 R5 g5=>⟨ad5,as5,R5,gg.trans g5,e2⟩
   |bk as5=>
    cases e2
    exact λσ5 ad5 H5 R5 g5=>q σ5 ad5 H5 R5 (g1.trans (gg.trans g5))
   |rt r=>
    cases e2
    exact λv T H5 ro g5=>q v T H5 ro (g1.trans (gg.trans g5))
 · refine .inl ⟨k2 (by omega), ?_⟩
   rw[List.drop_eq_nil_of_le (by omega)]at e2
   cases e2
   exact q σ2 ad2 H2 R2 (g1.trans g2))
def zou:It1->Option (List It1)
 |(st,.lst ds)=>some (kids st ds)
 |(st,.tup ds)=>some (kids st ds)
 |_=>none
def zbP(f:EF):IF:=λas=>(f as).bind λp=>(Vy p.2 p.1).bind λq=>(zou q.1).bind λds=>some (ds,q.2)
theorem zgh{K:zC}{F B:Addr->Prop}{ad:Ad}{H:Hp}{a:Addr}{vs:List V}{ds:List It1}(hs:∀(ad3:Ad) (H3:Hp),Grow (Gw [] ad) H (Gw [] ad3) H3->SqL K H3 a vs)(r:RpI K kd F B (Gw [] ad) H vs ds):ItOk K kd F B ad H (Itl K a) ds:=⟨λad3 H3 g3 _ i=>by
 have hr3:=hs ad3 H3 g3
 have rl3:=r.grow g3
 refine⟨λhi=>?_,λhi=>⟨_,hr3,by rw[r.length];exact hi⟩,λv H4 hy=>?_⟩
 · obtain⟨u,hu,_⟩:=r.get (zzA hi)
   exact⟨_,u,hr3,hu⟩
 · obtain⟨rfl,hv⟩:=hy
   refine⟨λ_ _ z=>z,λd hd=>?_⟩
   obtain⟨u,hu,ru⟩:=rl3.get hd
   have:=hv _ hr3
   rw[hu]at this
   cases this
   exact ru⟩
theorem znr{K:zC}{F B:Addr->Prop}{ad:Ad}{H:Hp}{a:Addr}{vs:List V}{ds:List It1}(hs:∀(ad3:Ad) (H3:Hp),Grow (Gw [] ad) H (Gw [] ad3) H3->SqT K H3 a vs)(r:RpI K kd F B (Gw [] ad) H vs ds):ItOk K kd F B ad H (Itt K a) ds:=⟨λad3 H3 g3 _ i=>by
 have hr3:=hs ad3 H3 g3
 have rl3:=r.grow g3
 refine⟨λhi=>?_,λhi=>⟨_,hr3,by rw[r.length];exact hi⟩,λv H4 hy=>?_⟩
 · obtain⟨u,hu,_⟩:=r.get (zzA hi)
   exact⟨_,u,hr3,hu⟩
 · obtain⟨rfl,hv⟩:=hy
   refine⟨λ_ _ z=>z,λd hd=>?_⟩
   obtain⟨u,hu,ru⟩:=rl3.get hd
   have:=hv _ hr3
   rw[hu]at this
   cases this
   exact ru⟩
theorem zfb(he:AE X kd e fa):AI X kd tg e (zbP fa):=by
 with_unfolding_all (
 intro pins s σ H R I h
 obtain⟨F,B,ad,as,ds,as',Rl,e,q⟩:=h
 obtain⟨⟨p,as1⟩,h1,e⟩:=bS_ (show(fa as).bind _=_ from e)
 obtain⟨⟨⟨st,x⟩,as2⟩,h2,e⟩:=bS_ e
 obtain⟨ys,h3,e⟩:=bS_ e
 cases e
 cases x with
 |lst xs=>
  cases h3
  refine zkF he pins s σ H R I ⟨F,B,ad,as,p,as1,Rl,h1,λv T1 ad1 H1 R1 rv1 g1=>?_⟩
  obtain⟨ad2,R2,rp,le⟩:=vV R1 rv1 h2
  cases rp with
  |lst hn hr rl=>exact⟨_,rfl,⟨_,.inl hr⟩,q _ ad2 H1 R2 (g1.trans (Grow.less le)) (zgh (λad3 H3 g3=>.inl (Yn g3 (λz=>hn (.inr z)) hr)) (Yh rl))⟩
  |lstK a b c rl=>exact⟨_,rfl,⟨_,.inr ⟨_,_,_,a,rfl,rfl,rfl,b,c⟩⟩,q _ ad2 H1 R2 (g1.trans (Grow.less le)) (zgh (λad3 H3 g3=>.inr ⟨_,_,_,a,rfl,rfl,rfl,b,c⟩) (Yh rl))⟩
 |tup xs=>
  cases h3
  refine zlY he pins s σ H R I ⟨F,B,ad,as,p,as1,Rl,h1,λv T1 ad1 H1 R1 rv1 g1=>?_⟩
  obtain⟨ad2,R2,rp,le⟩:=vV R1 rv1 h2
  have go:∃a ys,v = .ref a/\(∀(ad3:Ad) (H3:Hp),Grow (Gw [] ad2) H1 (Gw [] ad3) H3->SqT X.K H3 a ys)/\RpL X.K kd (Lv F B (Gw [] ad2) st) H1 ys xs:=by
   cases rp with
   |tup n h r=>exact⟨_,_,rfl,λad3 H3 g3=>.inl (Yn g3 (λz=>n (.inr z)) h),r⟩
   |tupK a b c e f r=>exact⟨_,_,rfl,λad3 H3 g3=>.inr ⟨_,_,_,a,b,c,e,f⟩,r⟩
  obtain⟨a,ys,rfl,hs,rl⟩:=go
  exact⟨_,rfl,⟨_,hs ad2 H1 Grow.refl⟩,q _ ad2 H1 R2 (g1.trans (Grow.less le)) (znr hs (Yh rl))⟩
 |_=>cases h3)
def vH(lo:Int)(n:Nat):List It1:=(List.range n).map λ(i:Nat)=>(true,D.int (lo+(i:Int)))
theorem zhZ{K:zC}{F B:Addr->Prop}{ad:Ad}{H:Hp}(lo:Int)(n:Nat):ItOk K kd F B ad H (Itr lo n) (vH lo n):=⟨λad2 H2 g _ i=>by
 have hl:(vH lo n).length=n:=by unfold vH;simp
 refine⟨λhi=>by rw[hl]at hi;exact hi,λhi=>by rw[hl]at hi;exact hi,λv H3 hy=>?_⟩
 obtain⟨rfl,rfl⟩:=hy
 refine⟨λ_ _ z=>z,λd hd=>?_⟩
 have hi:i<n:=by rw[<-hl];exact(zzC.mp hd).1
 unfold vH at hd
 rw[zzE,List.getElem?_range hi]at hd
 cases hd
 exact .int _⟩
def znQ:List D->Option D
 | [x]=>some x
 |_=>none
theorem zjM{ds:List D}{d:D}(h:znQ ds=some d):ds=[d]:=by
 cases ds with
 |nil=>cases h
 |cons x r=>
  cases r with
  |nil=>cases h;rfl
  |cons _ _=>cases h
def zdv(ds:List D):Option (List It1):=((znQ ds).bind asI).bind λj=>if -(2 ^ 62)<=j/\j<2 ^ 62 then some (vH 0 j.toNat)else none
theorem zjB{ds:List D}{xs:List It1}(h:zdv ds=some xs):∃j,ds=[.int j]/\(if -(2 ^ 62)<=j/\j<2 ^ 62 then some (vH 0 j.toNat)else none)=some xs:=by
 obtain⟨j,h1,h⟩:=bS_ h
 obtain⟨d,h2,h1⟩:=bS_ h1
 cases zeK h1
 exact⟨j,zjM h2,h⟩
def zja:List D->Option (List It1)
 | [.int i,.int j]=>if -(2 ^ 62)<=i/\i<2 ^ 62 /\ -(2 ^ 62)<=j/\j<2 ^ 62 then some (vH i (j-i).toNat)else none
 |_=>none
def VL(fr:AF)(h:List D->Option (List It1)):IF:=λas=>(fr as).bind λp=>(views p.2 p.1).bind λds=>(h ds.1).bind λxs=>some (xs,p.2)
theorem Xg{fr:AF}{p:Pos}(hg:Gl X "range")(hm:X.mg "range"=none)(ha:AA X kd [a] fr)(hs:starEach [a] X.env=[(false,eval a X.env)]):AI X kd tg (.Call (.Name "range" p) [a] [] pos) (VL fr zdv):=by
 with_unfolding_all (
 intro pins s σ H R I h
 obtain⟨F,B,ad,as,ds,as',Rl,e,q⟩:=h
 obtain⟨⟨ps,as1⟩,h1,e⟩:=bS_ (show(fr as).bind _=_ from e)
 obtain⟨⟨xs,lv⟩,h2,e⟩:=bS_ e
 obtain⟨ys,h3,e⟩:=bS_ e
 cases e
 obtain⟨j,rfl,h3⟩:=zjB h3
 · obtain⟨hj,e3⟩:=zR h3
   cases e3
   refine zhu hg hm ha hs pins s σ H R I ⟨F,B,ad,as,ps,_,Rl,h1,λvs ad1 H1 R1 rv1 g1=>?_⟩
   have vl:=zar R1 rv1 h2
   cases vl with
   |cons v1 v2=>
    cases v2
    cases v1
    exact⟨j,rfl,hj.1,hj.2,q _ ad1 H1 R1 g1 (zhZ 0 _)⟩)
theorem zgX{fr:AF}{p:Pos}(hg:Gl X "range")(hm:X.mg "range"=none)(ha:AA X kd [a,b] fr)(hs:starEach [a,b] X.env=[(false,eval a X.env),(false,eval b X.env)])(hs2:starEach [b] X.env=[(false,eval b X.env)]):AI X kd tg (.Call (.Name "range" p) [a,b] [] pos) (VL fr zja):=by
 with_unfolding_all (
 intro pins s σ H R I h
 obtain⟨F,B,ad,as,ds,as',Rl,e,q⟩:=h
 obtain⟨⟨ps,as1⟩,h1,e⟩:=bS_ (show(fr as).bind _=_ from e)
 obtain⟨⟨xs,lv⟩,h2,e⟩:=bS_ e
 obtain⟨ys,h3,e⟩:=bS_ e
 cases e
 match xs,h3,h2 with
 | [.int i,.int j],h3,h2=>
  obtain⟨hj,e3⟩:=zR (show(if -(2 ^ 62)<=i/\i<2 ^ 62 /\ -(2 ^ 62)<=j/\j<2 ^ 62 then some (vH i (j-i).toNat)else none)=some ds from h3)
  cases e3
  refine zhk hg hm ha hs hs2 pins s σ H R I ⟨F,B,ad,as,ps,_,Rl,h1,λvs ad1 H1 R1 rv1 g1=>?_⟩
  have vl:=zar R1 rv1 h2
  cases vl with
  |cons v1 v2=>
   cases v2 with
   |cons v2 v3=>
    cases v3
    cases v1
    cases v2
    exact⟨i,j,rfl,hj,q _ ad1 H1 R1 g1 (zhZ i _)⟩)
theorem Rel.mut{K:zC}{F B:Addr->Prop}{T fo:List Addr}{ad:Ad}{as:AS}{σ:St}{H:Hp}{i:Nat}{l:Addr}{fp fp':List Addr}{n:O}{u:HO}(R:Rel K kd F B T ad as σ H)(hi:i<as.length)(hl:ad i=l::fp)(hs:σ[i]? = some (some (.ref l)))
 (hsub:∀a ∈ fp'++fo,a ∈ fp++T) (hnd:(fp'++fo).Nodup) (hu:H l≠none)
 (ro:∀(H':Hp) (G':Addr->Prop),H' l=some u->Grow (Gw T ad) H G' H'->(∀a ∈ fp',∀w,H a=some w->H' a=some w)->RoS K kd F B G' H' (.ref l) n (l::fp')):
 Rel K kd F B fo (Yu ad i (l::fp')) (as.set i (some n)) σ (upd H l u)/\Grow (Gw T ad) H (Gw fo (Yu ad i (l::fp'))) (upd H l u):=by
 have hli:l ∈ ad i:=by rw[hl];exact zzB
 have lT:l ∉ T:=R.dis i l hli
 have lfp:l ∉ fp:=by have:=R.nd i;rw[hl]at this;exact(zzS.mp this).1
 have lsub:∀a ∈ fp'++fo,a≠l:=λa m e=>by
  subst e
  rcases zzI.mp (hsub _ m)with z|z
  · exact lfp z
  · exact lT z
 have sub:∀a ∈ fp'++fo,Gw T ad a:=λa m=>by
  rcases zzI.mp (hsub a m)with z|z
  · exact .inr ⟨i,by rw[hl];exact zS _ z⟩
  · exact .inl z
 have gsub:∀a,Gw fo (Yu ad i (l::fp')) a->Gw T ad a:=λa z=>by
  rcases z with z|⟨j,z⟩
  · exact sub a (zzH _ z)
  · by_cases e:j=i
    · subst e
      rw[yt]at z
      rcases zI.mp z with z|z
      · subst z;exact .inr ⟨j,hli⟩
      · exact sub a (zzL _ z)
    · rw[yx e]at z;exact .inr ⟨j,z⟩
 have g:Grow (Gw T ad) H (Gw fo (Yu ad i (l::fp'))) (upd H l u):=⟨λb w h n=>by rw[zK (λe=>n (by subst e;exact .inr ⟨i,hli⟩))];exact h,λb z=>.inl (gsub b z)⟩
 have kn:∀a,H a≠none->upd H l u a≠none:=λa z=>by
  by_cases e:a=l
  · subst e;rw[zZ];simp
  · rw[zK e];exact z
 obtain⟨hnd1,hnd2,hnd3⟩:=zxB.mp hnd
 have inT:∀j a,j≠i->a ∈ ad j->a ∈ fp'++fo->False:=λj a hj m m'=>by
  rcases zzI.mp (hsub a m')with z|z
  · exact hj (R.inj j i a m (by rw[hl];exact zS _ z))
  · exact R.dis j a m z
 refine⟨⟨by rw[zzQ];exact R.len,λj hj=>?_,λj=>?_,λj k a h1 h2=>?_,hnd2,λj a h1 h2=>?_,λa z=>kn a (R.ftr a z),λa z=>?_,λa z=>⟨kn a (R.gtr a (gsub a z)).1,(R.gtr a (gsub a z)).2⟩,λj s e=>?_⟩,g⟩
 · rw[zzQ]at hj
   rw[yx (by omega)];exact R.out j hj
 · by_cases e:j=i
   · subst e;rw[yt]
     exact zzS.mpr ⟨λm=>lsub l (zzL _ m) rfl,hnd1⟩
   · rw[yx e];exact R.nd j
 · by_cases e:j=i
   · subst e
     by_cases e':k=j
     · exact e'.symm
     · rw[yt]at h1
       rw[yx e']at h2
       rcases zI.mp h1 with z|z
       · subst z;exact R.inj j k a hli h2
       · exact(inT k a e' h2 (zzL _ z)).elim
   · rw[yx e]at h1
     by_cases e':k=i
     · subst e'
       rw[yt]at h2
       rcases zI.mp h2 with z|z
       · subst z;exact R.inj j k a h1 hli
       · exact(inT j a e h1 (zzL _ z)).elim
     · rw[yx e']at h2
       exact R.inj j k a h1 h2
 · by_cases e:j=i
   · subst e
     rw[yt]at h1
     rcases zI.mp h1 with z|z
     · subst z;exact lsub a (zzH _ h2) rfl
     · exact hnd3 a z a h2 rfl
   · rw[yx e]at h1
     exact inT j a e h1 (zzH _ h2)
 · obtain⟨b1,b2,b3⟩:=R.btr a z
   exact⟨kn a b1,b2,λy=>b3 (gsub a y)⟩
 · by_cases q:j=i
   · subst q
     rw[zyG hi]at e
     cases e
     rw[yt]
     refine⟨_,hs,ro _ _ zZ g λa m w h=>?_⟩
     rw[zK (lsub a (zzL _ m))];exact h
   · rw[zzU (Ne.symm q)]at e
     rw[yx q]
     refine(R.sl j s e).grow g λa m w h=>?_
     rw[zK (λz=>q (R.inj j i l (by rw[<-z];exact m) hli))];exact h
abbrev MG:=List O->List O->Option (List O×O)
def xx(i:Nat)(fr:DF)(g:MG):EF:=λas=>match as[i]? with
 |some (some (.nd .ls _))=>(fr as).bind λp=>match p.2[i]? with
  |some (some (.nd .ls os))=>(g os p.1).bind λz=>some (.ow z.2,p.2.set i (some (.nd .ls z.1)))
  |_=>none
 |_=>none
def MuD(X:Cx)(kd:KD)(r:V->List V->Hp->VK->Prop)(g:MG):Prop:=
 ∀(F B G:Addr->Prop) (l:Addr) (vs ws:List V) (os es os':List O) (o:O) (fp fq:List Addr) (H:Hp) (Q:VK),H l=some (.lst vs)->vK X.K kd F B G H vs os fp->vK X.K kd F B G H ws es fq->(fp++fq).Nodup->g os es=some (os',o)->
  (∀v vs' fp' fo,vK X.K kd F B G H vs' os' fp'->RoS X.K kd F B G H v o fo->(∀a ∈ fp'++fo,a ∈ fp++fq)->(fp'++fo).Nodup->Q v (upd H l (.lst vs')))->r (.ref l) ws H Q
theorem zlt{i:Nat}{fr:DF}{g:MG}{r:V->List V->Hp->VK->Prop}(hr:MuD X kd r g)
 {σ:St}{H:Hp}{Q:VK}(h:al X.K kd (xx i fr g) σ H Q):tBM X.K "list" r (VH i) (alD X.K kd fr) σ H Q:=by
 obtain⟨F,B,ad,as,z,as',R,e,q⟩:=h
 unfold xx at e
 cases k:as[i]? with
 |none=>rw[k]at e;cases e
 |some a0=>
  rw[k]at e
  match a0,e,k with
  |some (.nd .ls os0),e,k=>
   obtain⟨⟨es,as1⟩,h1,e⟩:=bS_ (show(fr as).bind _=_ from e)
   obtain⟨v0,hs0,ro0⟩:=R.sl i _ k
   generalize hfp0:ad i=fp0 at ro0
   cases ro0 with
   |ls hH0 rl0=>
   rename_i l vs0 fp00
   refine⟨_,hs0,.inl ⟨rfl,_,.inl (.inl hH0)⟩,F,B,ad,as,es,as1,R,h1,λws T1 ad1 H1 R1 ro1 g1=>?_⟩
   cases k2:as1[i]? with
   |none=>rw[k2]at e;cases e
   |some a2=>
    rw[k2]at e
    match a2,e,k2 with
    |some (.nd .ls os),e,k2=>
     obtain⟨⟨os',o⟩,h3,e⟩:=bS_ (show(g os es).bind _=_ from e)
     cases e
     obtain⟨v1,hs1,ro2⟩:=R1.sl i _ k2
     rw[hs0]at hs1
     cases hs1
     generalize hfp:ad1 i=fp1 at ro2
     cases ro2 with
     |ls hH rl=>
     rename_i vs fp
     have hnd:(fp++T1).Nodup:=zxB.mpr ⟨by have:=R1.nd i;rw[hfp]at this;exact(zzS.mp this).2,R1.tnd,λa m b m' e=>by
          subst e;exact R1.dis i a (by rw[hfp];exact zS _ m) m'⟩
     refine hr F B (Gw T1 ad1) _ vs ws os es os' o fp T1 H1 Q hH rl ro1 hnd h3 λv vs' fp' fo rl' ro' hsub hnd'=>?_
     obtain⟨R3,g3⟩:=R1.mut (n:=.nd .ls os') (u:=.lst vs') (zzC.mp k2).1 hfp hs0 hsub hnd' (by rw[hH];simp) λH' G' hl' gr kp=>.ls hl' (vK.grow gr kp rl')
     have lno:∀a ∈ fo,∀w,H1 a=some w->upd H1 l (.lst vs') a=some w:=λa m w h=>by
          rw[zK (λe=>?_)]
          · exact h
          · subst e
            rcases zzI.mp (hsub _ (zzH _ m))with z|z
            · have:=R1.nd i;rw[hfp]at this;exact(zzS.mp this).1 z
            · exact R1.dis i _ (by rw[hfp];exact zzB) z
     exact q v fo _ _ R3 (RoS.grow g3 lno ro') (g1.trans g3)
end
end PF
end
section
set_option exponentiation.threshold 5000
namespace PF
open PySem PySem.Spec PyProof.Rows L2
section
variable{K:zC}{kd:KD}{O:Addr->Prop}{H:Hp}{Q:VK}
theorem yj{d:D}{v:V}(q:RQ K kd O H Q (.im d))(r:Rp K kd O H v d):Q v H:=q v H (λ_ _ z=>z) r
theorem zfL{vs:List V}{ds:List D}{p:Addr}{o:HO}(hp:H p=none)(r:RpL K kd O H vs ds):RpL K kd (Un2 O (· = p)) (upd H p o) vs ds:=
 RpL.grow (F:=O) (W:=λ_=>False) ⟨λb u q _=>by rw[zK (yu q hp)];exact q,λb z=>.inr (by rw[z];exact hp)⟩ (r.less λa z=>z.elim id False.elim)
theorem Vc{p:Addr}{o:HO}(hp:H p=none):∀b u,H b=some u->upd H p o b=some u:=λb u q=>by rw[zK (yu q hp)];exact q
theorem zbq{vs:List V}{ds:List D}(q:RQ K kd O H Q (.fl ds))(r:RpL K kd O H vs ds):∀p,H p=none->Q (.ref p) (upd H p (.lst vs)):=λp hp=>
 q p vs _ hp (Vc hp) zZ (zfL hp r)
theorem zdA{vs:List V}{ds:List D}(ht:∀a,O a->H a≠none)(q:RQ K kd O H Q (.im (.tup ds)))(r:RpL K kd O H vs ds):∀p,H p=none->Q (.ref p) (upd H p (.tup vs)):=λp hp=>
 q _ _ (Vc hp) (.tup (λz=>ht p z hp) (.inl zZ) ((zfL hp r).less λa z=>.inl z))
end
def big:Nat:=2 ^ 4000
theorem zdV{i:Int}(h:i.natAbs<big):Builtin.Int.intBits i<=2 ^ 20:=by
 unfold Builtin.Int.intBits
 split
 · exact Nat.zero_le _
 · have:i.natAbs.log2<4000:=by
    rcases Nat.eq_zero_or_pos i.natAbs with h0|hp
    · rw[h0];decide
    · exact(Nat.log2_lt (Nat.ne_of_gt hp)).mpr h
   have e:(2:Nat) ^ 20=1048576:=by decide
   omega
def onI(f:Int->Int->Option R0)(x y:D):Option R0:=(asI x).bind λi=>(asI y).bind λj=>f i j
def zpx(x y:D):Option R0:=match x with
 | .int i=>(asI y).bind λj=>some (.im (.int (i+j)))
 | .str x=>(asS y).bind λy=>if x.length+y.length<=sizeLine then some (.im (.str (x++y)))else none
 | .lst xs=>(asL y).bind λys=>if xs.length+ys.length<=sizeLine then some (.fl (xs++ys))else none
 | .tup xs=>(asT y).bind λys=>if xs.length+ys.length<=sizeLine then some (.im (.tup (xs++ys)))else none
 |_=>none
def zpa(x y:D):Option R0:=match x with
 | .int i=>(asI y).bind λj=>if i.natAbs<big/\j.natAbs<big then some (.im (.int (i*j)))else none
 | .lst xs=>(asI y).bind λk=>if -(2 ^ 63)<=k/\k<2 ^ 63/\xs.length*k.toNat<=sizeLine then some (.fl (List.replicate k.toNat xs).flatten)else none
 | .tup xs=>(asI y).bind λk=>if 1<=k/\k<2 ^ 63/\xs.length≠0/\xs.length*k.toNat<=sizeLine then some (.im (.tup (List.replicate k.toNat xs).flatten))else none
 |_=>none
def zm(o:Operator)(x y:D):Option R0:=match o with
 | .Add=>zpx x y
 | .Sub=>onI (λi j=>some (.im (.int (i-j)))) x y
 | .Mult=>zpa x y
 | .FloorDiv=>onI (λi j=>if 0<j/\j.natAbs<big then some (.im (.int (i/j)))else none) x y
 | .Mod=>onI (λi j=>if 0<j then some (.im (.int (i%j)))else none) x y
 | .Pow=>onI (λi j=>if 0<=j/\j<=1000000/\i.natAbs<2 ^ 64 then some (.im (.int (i ^ j.toNat)))else none) x y
 |_=>none
theorem Z8{K:zC}{kd:KD}{O:Addr->Prop}{H:Hp}{v:V}{d:D}{i:Int}(h:Vw K kd O H v d)(e:asI d=some i):d = .int i/\v = .int i:=by
 cases h with
 |int j=>cases e;exact⟨rfl,rfl⟩
 |_=>cases e
theorem znz{K:zC}{kd:KD}{O:Addr->Prop}{H:Hp}{v:V}{d:D}{i:Str}(h:Vw K kd O H v d)(e:asS d=some i):d = .str i/\v = .str i:=by
 cases h with
 |str j=>cases e;exact⟨rfl,rfl⟩
 |_=>cases e
theorem Ym{K:zC}{kd:KD}{O:Addr->Prop}{H:Hp}{v w:V}{d e:D}{f:Int->Int->Option R0}{r:R0}(vx:Vw K kd O H v d)(vy:Vw K kd O H w e)(h:onI f d e=some r):∃i j,v = .int i/\w = .int j/\f i j=some r:=by
 obtain⟨i,h1,h⟩:=bS_ (show(asI d).bind _=_ from h)
 obtain⟨j,h2,h⟩:=bS_ h
 exact⟨i,j,(Z8 vx h1).2,(Z8 vy h2).2,h⟩
section
variable{X:Cx}{kd:KD}
theorem zlo:OpR X (binaryOp .Add) (λx y H Q=>∃l b xs zs,x = .ref l/\y = .ref b/\RdL X.K H l xs/\RdL X.K H b zs/\xs.length+zs.length<=sizeLine/\∀p,H p=none->Q (.ref p) (upd H p (.lst (xs++zs)))):=by
 intro pins s σ H x y v u Q I rx ry h
 obtain⟨l,b,xs,zs,rfl,rfl,hH,hB,hz,q⟩:=h
 cases rx
 cases ry
 obtain⟨z,its,n,r,e⟩:=zeX I hH
 obtain⟨z2,its2,n2,r2,e2⟩:=zeX I hB
 have hl:=r.length
 have hl2:=r2.length
 refine PySem.P.add_list e e2 ?_ (by rw[zzD,zzD];omega)
 have ea:its.toArray++its2.toArray=(its++its2).toArray:=by simp
 rw[ea]
 exact⟨.ref _,_,I.lnew (t':=s.toks) (r.append r2) (by rw[zzF];omega),rfl,q _ I.fresh⟩
theorem zkK:OpR X (binaryOp .Mult) (λx y H Q=>∃l k xs,x = .ref l/\y = .int k/\RdL X.K H l xs /\ -(2 ^ 63)<=k/\k<2 ^ 63/\xs.length*k.toNat<=sizeLine/\
 ∀p,H p=none->Q (.ref p) (upd H p (.lst (List.replicate k.toNat xs).flatten))):=by
 intro pins s σ H x y v u Q I rx ry h
 obtain⟨l,k,xs,rfl,rfl,hH,h1,h2,hz,q⟩:=h
 cases rx
 obtain⟨t,rfl⟩:=ry
 obtain⟨z,its,n,r,e⟩:=zeX I hH
 have hl:=r.length
 have hlen:its.toArray.size*k.toNat<=sizeLine:=by rw[zzD,<-hl];exact hz
 have hcap:¬its.toArray.size*k.toNat > (2 ^ 63-1)/8:=by
  have:(sizeLine:Nat)<=(2 ^ 63-1)/8:=by decide
  omega
 have hfit:¬(!Builtin.List.listFitsIndex k)=true:=by
  rw[fitsIndex_both h1 h2]
  exact zyS
 have hlong:¬Builtin.List.listTooLong (its.toArray.size*k.toNat)=true:=by
  rw[zjw hlen]
  exact zyS
 have hnew:List.foldl (λx1 x2=>x1++x2) #[] (List.replicate (if its.toArray.isEmpty=true then 0 else k.toNat) its.toArray)=(List.replicate k.toNat its).flatten.toArray:=by
  have f0:∀m:Nat,List.foldl (λx1 x2=>x1++x2) #[] (List.replicate m its.toArray)=(List.replicate m its).flatten.toArray:=λm=>by
   have:=foldl_rep its m []
   rw[List.nil_append]at this
   exact this
  rw[f0]
  cases its with
  |nil=>simp
  |cons a r'=>rw[if_neg (by simp)]
 refine wpAny_binaryOp_repeat_ref (T:="list") (U:="int") (by decide) ⟨_,e,rfl⟩ (λs'=>typeIs_int s' k t) noFill_list_mul F.fills_int_mul F.slot_int_rmul repeat_list F.slot_int_index.lookup
  (call_meets F.slot_int_rmul (typeIs_int s k t) F.entry_int_rmul (F.args_int_rmul_2 _ _) (int___rmul___int_list k t l its.toArray n)
   ⟨e,rfl,⟨_,e,rfl⟩,call_meets F.slot_list_mul ⟨_,e,rfl⟩ F.entry_list_mul (F.args_list_mul_2 _ _) (AutoListH.list___mul___list_int_3 l its.toArray n k t hfit hcap hlong) ⟨e, ?_⟩⟩)
 rw[hnew]
 refine⟨.ref _,_,I.lnew (t':=s.toks) (r.rep k.toNat) ?_,rfl,q _ I.fresh⟩
 rw[len_rep,Nat.mul_comm]
 exact hz
theorem tuple_addW0(l b:Addr)(items items2:Array Value)(n n2:Nat)(dd dd2:Option Addr)(sl sl2:Array (Option Value))(h0:items.isEmpty=true):
 Meets (Builtin.«tuple.__add__» {pos:=[.ref l,.ref b]}) (λ_ R s=>s.heap.get? l=some {cls:=.type "tuple",dict:=dd,data:=.seq items n,slots:=sl}/\s.heap.get? b=some {cls:=.type "tuple",dict:=dd2,data:=.seq items2 n2,slots:=sl2}/\R (.ok (.ret (.ref b))) s):=
 .of_wp λprog w A R s h=>by
  obtain⟨hp,g,d,tk,os⟩:=s;obtain⟨hl,hb,h⟩:=h
  have f2:=AutoSeq1.sub_tuple_tuple
  wp_walk using wpAny_loadPart' hl,wpAny_loadPart' hb
  exact⟨_,rfl,h⟩
theorem zes(l:Addr)(items:Array Value)(n:Nat)(dd:Option Addr)(sl:Array (Option Value))(u:Tok):
 Meets (Builtin.«tuple.__mul__» {pos:=[.ref l,.int 1 u]}) (λ_ R s=>s.heap.get? l=some {cls:=.type "tuple",dict:=dd,data:=.seq items n,slots:=sl}/\R (.ok (.ret (.ref l))) s):=
 .of_wp λprog w A R s h=>by
  obtain⟨hp,g,d,tk,os⟩:=s;obtain⟨hl,h⟩:=h
  have f2:=AutoSeq1.sub_tuple_tuple
  wp_walk using wpAny_loadPart' hl
  exact⟨_,rfl,h⟩
theorem zew(l:Addr)(items its2:Array Value)(n:Nat)(dd:Option Addr)(sl:Array (Option Value))(x:Int)(u:Tok)(c1:¬(decide (x < -2 ^ 63)||decide (x ≥ 2 ^ 63))=true)(c2:¬(items.isEmpty||x==1)=true)(c3:¬(decide (x<=0)||items.isEmpty)=true)
 (hcap:¬(items.size:Int)*x > (2 ^ 63-1)/8) (ht:¬Builtin.Tuple.tupleTooMany (items.size*x)=true) (hz:¬(List.foldl (λx1 x2=>x1++x2) #[] (List.replicate x.toNat items)).size > sizeLine):
 Meets (Builtin.«tuple.__mul__» {pos:=[.ref l,.int x u]}) (λ_ R s=>s.heap.get? l=some {cls:=.type "tuple",dict:=dd,data:=.seq items n,slots:=sl}/\R (.ok (.ret (.ref s.heap.objs.size))) {s with heap:=s.heap.push {cls:=.type "tuple",data:=.seq (List.foldl (λx1 x2=>x1++x2) #[] (List.replicate x.toNat items))}}):=
 .of_wp λprog w A R s h=>by
  obtain⟨hp,g,d,tk,os⟩:=s;obtain⟨hl,h⟩:=h
  have f2:=AutoSeq1.sub_tuple_tuple
  wp_walk using wpAny_loadPart' hl
  rw[if_neg c1]
  wp_walk using wpAny_loadPart' hl
  rw[if_neg hcap]
  wp_walk
  exact⟨_,rfl,h⟩
theorem VB:fillsNumberSlot (Value.type "tuple") "mul"=pure false:=PySem.fillsNumberSlot_seq rfl rfl rfl rfl
theorem zdh:seqRepeat? (Value.type "tuple")=pure (some (Value.builtin "tuple.__mul__")):=W.of_pureOf rfl
theorem zby(a:Int)(t:Tok)(l:Addr)(items:Array Value)(n:Nat)(dd:Option Addr)(sl:Array (Option Value)):
 Meets (Builtin.«int.__rmul__» {pos:=[.int a t,.ref l]}) (λ_ R s=>s.heap.get? l=some {cls:=.type "tuple",dict:=dd,data:=.seq items n,slots:=sl}/\R (.ok (.ret .notImplemented)) s):=
 .of_wp λprog w A R s h=>by
  obtain⟨hp,g,d,tk,os⟩:=s;obtain⟨hl,h⟩:=h
  wp_walk using wpAny_load' hl,wpAny_loadPart' hl
  exact⟨_,rfl,h⟩
theorem zkq:OpR X (binaryOp .Add) (λx y H Q=>∃a b ys,x = .ref a/\y = .ref b/\SqT X.K H a []/\SqT X.K H b ys/\Q (.ref b) H):=by
 intro pins s σ H x y v u Q I rx ry h
 obtain⟨a,b,ys,rfl,rfl,ha,hb,q⟩:=h
 cases rx
 cases ry
 obtain⟨its,r1,p1,_⟩:=I.tuple ha
 obtain⟨its2,r2,p2,_⟩:=I.tuple hb
 cases r1
 obtain⟨⟨cls,dd,data,sl⟩,ho,hc,n,hd⟩:=id p1
 obtain⟨⟨cls2,dd2,data2,sl2⟩,ho2,hc2,n2,hd2⟩:=id p2
 simp only at hc hd hc2 hd2
 subst hc hd hc2 hd2
 exact concat_meets ⟨_,ho,rfl⟩ ⟨_,ho2,rfl⟩ noFill_tuple_add seq_tuple_add PySem.F.slot_tuple_add PySem.F.entry_tuple_add (PySem.F.args_tuple_add_2 _ _) (tuple_addW0 a b _ _ n n2 dd dd2 sl sl2 rfl) ⟨ho,ho2,⟨.ref b,H,I,rfl,q⟩⟩
theorem zkX:OpR X (binaryOp .Mult) (λx y H Q=>∃l k xs,x = .ref l/\y = .int k/\SqT X.K H l xs/\xs≠[]/\1<=k/\k<2 ^ 63/\xs.length*k.toNat<=sizeLine/\(k=1->Q (.ref l) H)/\
 (2<=k->∀p,H p=none->Q (.ref p) (upd H p (.tup (List.replicate k.toNat xs).flatten)))):=by
 intro pins s σ H x y v u Q I rx ry h
 obtain⟨l,k,xs,rfl,rfl,hH,hne,h1,h2,hz,q1,q2⟩:=h
 cases rx
 obtain⟨t,rfl⟩:=ry
 obtain⟨its,r,p,_⟩:=I.tuple hH
 have hl:=r.length
 have hlen:its.toArray.size*k.toNat<=sizeLine:=by rw[zzD,<-hl];exact hz
 have hki:((its.toArray.size:Int)*k)=((its.toArray.size*k.toNat:Nat):Int):=by
  rw[Int.natCast_mul,zyV (by omega)]
 have he:its.toArray.isEmpty=false:=by
  cases its with
  |nil=>rw[List.length_nil]at hl;exact absurd (List.length_eq_zero_iff.mp hl) hne
  |cons a r'=>rfl
 have hnew:List.foldl (λx1 x2=>x1++x2) #[] (List.replicate k.toNat its.toArray)=(List.replicate k.toNat its).flatten.toArray:=by
  have:=foldl_rep its k.toNat []
  rw[List.nil_append]at this
  exact this
 obtain⟨⟨cls,dd,data,sl⟩,ho,hc,n,hd⟩:=id p
 simp only at hc hd
 subst hc hd
 refine wpAny_binaryOp_repeat_ref (T:="tuple") (U:="int") (by decide) ⟨_,ho,rfl⟩ (λs'=>typeIs_int s' k t) VB F.fills_int_mul F.slot_int_rmul zdh F.slot_int_index.lookup
  (call_meets F.slot_int_rmul (typeIs_int s k t) F.entry_int_rmul (F.args_int_rmul_2 _ _) (zby k t l its.toArray n dd sl) ⟨ho,rfl,⟨_,ho,rfl⟩, ?_⟩)
 by_cases hk:k=1
 · subst hk
   exact call_meets F.slot_tuple_mul ⟨_,ho,rfl⟩ F.entry_tuple_mul (F.args_tuple_mul_2 _ _) (zes l its.toArray n dd sl t) ⟨ho,⟨.ref l,H,I,rfl,q1 rfl⟩⟩
 · have hfl:(List.replicate k.toNat xs).flatten.length<=sizeLine:=by rw[len_rep,Nat.mul_comm];exact hz
   refine call_meets F.slot_tuple_mul ⟨_,ho,rfl⟩ F.entry_tuple_mul (F.args_tuple_mul_2 _ _) (zew l its.toArray #[] n dd sl k t (by simp;omega) (by rw[he];simpa using hk) (by rw[he];simp;omega) ?_ ?_ ?_) ⟨ho, ?_⟩
   · rw[hki]
     have:((sizeLine:Nat):Int)<=(2 ^ 63-1)/8:=by decide
     omega
   · unfold Builtin.Tuple.tupleTooMany
     rw[hki]
     simp only[gt_iff_lt,decide_eq_true_eq]
     omega
   · rw[hnew,zzD,len_rep,Nat.mul_comm]
     rw[zzD]at hlen
     omega
   · rw[hnew]
     refine⟨.ref s.heap.objs.size,_,I.laid (t':=s.toks) (o:=.tup (List.replicate k.toNat xs).flatten) (λb ob q=>zxE _ q) (zzJ _) ?_,rfl,q2 (by omega) _ (I.hok.fresh (zzJ _))⟩
     exact⟨hfl,_,r.rep k.toNat,IsTup.new _ _⟩
theorem zu(op:Operator):OpD X kd (binaryOp op) (zm op):=by
 intro pins s σ H x y v u Q I rx ry h
 obtain⟨O,d,e,r,ht,vx,vy,he,q⟩:=h
 cases op with
 |Add=>
  cases vx with
  |int i=>
   obtain⟨j,h1,he⟩:=bS_ (show(asI e).bind _=_ from he)
   obtain⟨rfl,rfl⟩:=Z8 vy h1
   cases he
   exact znf pins s σ H _ _ v u Q I rx ry ⟨_,_,rfl,rfl,yj q (.int _)⟩
  |str i=>
   obtain⟨j,h1,he⟩:=bS_ (show(asS e).bind _=_ from he)
   obtain⟨rfl,rfl⟩:=znz vy h1
   obtain⟨c,rfl⟩:=zR he
   exact zeV pins s σ H _ _ v u Q I rx ry ⟨_,_,rfl,rfl,c,yj q (.str _)⟩
  |lst hx rx'=>
   obtain⟨j,h1,he⟩:=bS_ (show(asL e).bind _=_ from he)
   cases zfm h1
   obtain⟨c,rfl⟩:=zR he
   cases vy with
   |lst hy ry'=>exact zlo pins s σ H _ _ v u Q I rx ry ⟨_,_,_,_,rfl,rfl,hx,hy,by rw[rx'.length,ry'.length];exact c,zbq q (rx'.append ry')⟩
  | @tup a1 vs1 ds1 r1 hx rx'=>
   obtain⟨j,h1,he⟩:=bS_ (show(asT e).bind _=_ from he)
   cases zmF h1
   obtain⟨c,rfl⟩:=zR he
   cases vy with
   |tup r2 hy ry'=>
    by_cases h0:vs1=([]:List V)
    · subst h0
      cases rx'
      exact zkq pins s σ H _ _ v u Q I rx ry ⟨_,_,_,rfl,rfl,hx,hy,yj q r2⟩
    refine zlf pins s σ H _ _ v u Q I rx ry ⟨_,_,_,_,rfl,rfl,hx,hy,h0,by rw[rx'.length,ry'.length];exact c,λhn=>?_,λhn=>zdA ht q (rx'.append ry')⟩
    · subst hn
      cases ry'
      rw[zyA]at q
      exact yj q r1
  |_=>cases he
 |Sub=>
  obtain⟨i,j,rfl,rfl,he⟩:=Ym vx vy he
  cases he
  exact znj pins s σ H _ _ v u Q I rx ry ⟨_,_,rfl,rfl,yj q (.int _)⟩
 |Mult=>
  cases vx with
  |int i=>
   obtain⟨j,h1,he⟩:=bS_ (show(asI e).bind _=_ from he)
   obtain⟨rfl,rfl⟩:=Z8 vy h1
   obtain⟨c,rfl⟩:=zR he
   obtain⟨t,rfl⟩:=rx
   obtain⟨t',rfl⟩:=ry
   exact mul_int ⟨.int _,H,I.tok _,⟨_,rfl⟩,yj q (.int _)⟩ (IntMulOk.of_bits (zdV c.1) (zdV c.2))
  |lst hx rx'=>
   obtain⟨j,h1,he⟩:=bS_ (show(asI e).bind _=_ from he)
   obtain⟨rfl,rfl⟩:=Z8 vy h1
   obtain⟨c,rfl⟩:=zR he
   exact zkK pins s σ H _ _ v u Q I rx ry ⟨_,_,_,rfl,rfl,hx,c.1,c.2.1,by rw[rx'.length];exact c.2.2,zbq q (rx'.rep _)⟩
  |tup r1 hx rx'=>
   obtain⟨j,h1,he⟩:=bS_ (show(asI e).bind _=_ from he)
   obtain⟨rfl,rfl⟩:=Z8 vy h1
   obtain⟨c,rfl⟩:=zR he
   refine zkX pins s σ H _ _ v u Q I rx ry ⟨_,_,_,rfl,rfl,hx,λe=>?_,c.1,c.2.1,by rw[rx'.length];exact c.2.2.2,λe=>?_,λ_=>zdA ht q (rx'.rep _)⟩
   · have:=rx'.length
     rw[e]at this
     exact c.2.2.1 this.symm
   · subst e
     refine yj q ?_
     rw[show(1:Int).toNat=1 from rfl,List.replicate_one,List.flatten_cons,List.flatten_nil,zyA]
     exact r1
  |_=>cases he
 |FloorDiv=>
  obtain⟨i,j,rfl,rfl,he⟩:=Ym vx vy he
  obtain⟨c,rfl⟩:=zR he
  obtain⟨t,rfl⟩:=rx
  obtain⟨t',rfl⟩:=ry
  refine floordiv_int (by omega) ?_ (.inl (PyProof.noPylong_of_log2 ?_))
  · rw[Int.fdiv_eq_ediv_of_nonneg _ (by omega)]
    exact⟨.int _,H,I.tok _,⟨_,rfl⟩,yj q (.int _)⟩
  · exact zzG ((Nat.log2_lt (by have:=c.1;omega)).mpr (show _<2 ^ 4000 from c.2)) (by decide)
 |Mod=>
  obtain⟨i,j,rfl,rfl,he⟩:=Ym vx vy he
  obtain⟨c,rfl⟩:=zR he
  exact zmU pins s σ H _ _ v u Q I rx ry ⟨_,_,rfl,rfl,c,yj q (.int _)⟩
 |Pow=>
  obtain⟨i,j,rfl,rfl,he⟩:=Ym vx vy he
  obtain⟨c,rfl⟩:=zR he
  exact zlS pins s σ H _ _ v u Q I rx ry ⟨_,_,rfl,rfl,c,yj q (.int _)⟩
 |_=>cases he
end
def eqL(f:D->D->Option Bool):List D->List D->Option Bool
 | [],[]=>some true
 |x::r,y::t=>(f x y).bind λb=>(eqL f r t).bind λc=>some (b&&c)
 |_,_=>some false
def eqF:Nat->D->D->Option Bool
 |0,_,_=>none
 |_+1,.non,.non=>some true
 |_+1,.bl a,.bl b=>some (a==b)
 |_+1,.int a,.int b=>some (a==b)
 |_+1,.str a,.str b=>some (a==b)
 |_+1,.bl a,.int b=>some ((if a then 1 else 0)==b)
 |_+1,.int a,.bl b=>some (a==(if b then 1 else 0))
 |n+1,.lst xs,.lst ys=>eqL (eqF n) xs ys
 |n+1,.tup xs,.tup ys=>eqL (eqF n) xs ys
 |_+1,.dct _,_=>none
 |_+1,.cl _,_=>none
 |_+1,.ob _ _ _,_=>none
 |_+1,_,.dct _=>none
 |_+1,_,.cl _=>none
 |_+1,_,.ob _ _ _=>none
 |_+1,_,_=>some false
def eqJ(f:D->D->Option Bool)(xs ys:List D)(j:Nat):Bool:=match xs[j]?,ys[j]? with
 |some d,some e=>(f d e).getD false
 |_,_=>false
theorem zaM{f:D->D->Option Bool}:∀{xs ys:List D}{b:Bool},eqL f xs ys=some b->(∀(j:Nat) d e,xs[j]? = some d->ys[j]? = some e->∃c,f d e=some c)/\
 b=((List.range (min xs.length ys.length)).all (eqJ f xs ys)&&xs.length==ys.length)
 | [],[],b,h=>by cases h;exact⟨λj d e h=>by simp at h,by simp⟩
 | [],y::t,b,h=>by cases h;exact⟨λj d e h=>by simp at h,by simp⟩
 |x::r,[],b,h=>by cases h;exact⟨λj d e _ h=>by simp at h,by simp⟩
 |x::r,y::t,b,h=>by
  obtain⟨b1,h1,h⟩:=bS_ (show(f x y).bind _=_ from h)
  obtain⟨c1,h2,h⟩:=bS_ h
  cases h
  obtain⟨k1,k2⟩:=zaM h2
  refine⟨λj d e hd he=>?_, ?_⟩
  · cases j with
    |zero=>simp at hd he;subst hd he;exact⟨b1,h1⟩
    |succ j=>exact k1 j d e (by simpa using hd) (by simpa using he)
  · have e0:min (x::r).length (y::t).length=min r.length t.length+1:=by simp only[zzP];omega
    rw[e0,List.range_succ_eq_map,List.all_cons,List.all_map,k2]
    have e1:eqJ f (x::r) (y::t) 0=b1:=by show(f x y).getD false=b1;rw[h1];rfl
    have e2:(eqJ f (x::r) (y::t)∘Nat.succ)=eqJ f r t:=by
     funext j
     show eqJ f (x::r) (y::t) (j+1)=_
     unfold eqJ
     simp
    have e3:((x::r).length==(y::t).length)=(r.length==t.length):=by
     by_cases hh:r.length=t.length<;>simp[hh]
    rw[e1,e2,e3,Bool.and_assoc]
structure EqAll(A:Around)(s:Shared)(u v:Value)(b:Bool):Prop where
 rc:SeqAt.RcAt A s u v b
 ne:SeqAt.RcNeAt A s u v (!b)
 eq:SeqAt.EqAt A s u v b
section
variable{X:Cx}{kd:KD}{pins:List (Addr×Obj)}{σ:St}{H:Hp}{s:Shared}{O:Addr->Prop}
theorem zfP(I:Inv X pins σ H s){a:Addr}{xs ys:List V}(h:SqT X.K H a xs)(h':SqL X.K H a ys):False:=by
 obtain⟨_,_,⟨o,e,c,_⟩,_⟩:=I.tuple h
 obtain⟨_,_,⟨o',n,e',c',_⟩,_⟩:=I.list h'
 rw[e]at e'
 cases e'
 rw[c]at c'
 exact absurd c' (by decide)
theorem zfK(I:Inv X pins σ H s):∀(n:Nat) (v:V) (d e:D) (b:Bool),Vw X.K kd O H v d->Vw X.K kd O H v e->eqF n d e=some b->b=true
 |0,_,_,_,_,_,_,h=>by cases h
 |n+1,v,d,e,b,h1,h2,h=>by
  have lst:∀(vs:List V) (ds es:List D) (b:Bool),RpL X.K kd O H vs ds->RpL X.K kd O H vs es->eqL (eqF n) ds es=some b->b=true:=by
   intro vs
   induction vs with
   |nil=>intro ds es b r1 r2 h;cases r1;cases r2;cases h;rfl
   |cons v vs ih=>
    intro ds es b r1 r2 h
    cases r1 with
    |cons a1 r1=>
     cases r2 with
     |cons a2 r2=>
      obtain⟨b1,k1,h⟩:=bS_ (show(eqF n _ _).bind _=_ from h)
      obtain⟨c1,k2,h⟩:=bS_ h
      cases h
      rw[zfK I n _ _ _ _ a1.vw a2.vw k1,ih _ _ _ r1 r2 k2]
      rfl
  cases h1 with
  |non=>cases h2;cases h;rfl
  |bl x=>cases h2;cases h;simp
  |int x=>cases h2;cases h;simp
  |str x=>cases h2;cases h;simp
  |tup r1 s1 l1=>
   cases h2 with
   |tup r2 s2 l2=>
    have:=I.tuple_inj s1 s2
    subst this
    exact lst _ _ _ _ l1 l2 h
   |lst s2 l2=>exact(zfP I s1 s2.sq).elim
   |_=>cases h
  |lst s1 l1=>
   cases h2 with
   |tup r2 s2 l2=>exact(zfP I s2 s1.sq).elim
   |lst s2 l2=>
    have:=I.list_inj s1.sq s2.sq
    subst this
    exact lst _ _ _ _ l1 l2 h
   |_=>cases h
  |_=>cases h
theorem zcZ(I:Inv X pins σ H s):∀(n:Nat) (A:Around) (x y:V) (d e:D) (u v:Value) (b:Bool),A.units+n<cLine->Vw X.K kd O H x d->Vw X.K kd O H y e->RelV x u->RelV y v->eqF n d e=some b->EqAll A s u v b
 |0,_,_,_,_,_,_,_,_,_,_,_,_,_,h=>by cases h
 |n+1,A,x,y,d,e,u,v,b,hu,h1,h2,r1,r2,h=>by
  have hu0:A.units<cLine:=by omega
  have itm:∀{vs ws:List V}{its its2:List Value}{ds es:List D},RpL X.K kd O H vs ds->RpL X.K kd O H ws es->Vals vs its->Vals ws its2->(∀(j:Nat) d e,ds[j]? = some d->es[j]? = some e->∃c,eqF n d e=some c)->
   ∀j (h1:j<its.toArray.size) (h2:j<its2.toArray.size),SeqAt.EqAt A.in1 s its.toArray[j] its2.toArray[j] (eqJ (eqF n) ds es j):=by
   intro vs ws its its2 ds es l1 l2 v1 v2 hd j j1 j2
   have q1:j<ds.length:=by rw[<-l1.length,v1.length];simpa using j1
   have q2:j<es.length:=by rw[<-l2.length,v2.length];simpa using j2
   obtain⟨a1,ha1,ra1⟩:=l1.get (zzA q1)
   obtain⟨a2,ha2,ra2⟩:=l2.get (zzA q2)
   obtain⟨u1,hu1,ru1⟩:=v1.get ha1
   obtain⟨u2,hu2,ru2⟩:=v2.get ha2
   obtain⟨c,hc⟩:=hd j _ _ (zzA q1) (zzA q2)
   have e1:its.toArray[j]=u1:=by
    have:=(zzC.mp hu1).2
    simpa using this
   have e2:its2.toArray[j]=u2:=by
    have:=(zzC.mp hu2).2
    simpa using this
   rw[e1,e2]
   have e3:eqJ (eqF n) ds es j=c:=by
    unfold eqJ
    rw[zzA q1,zzA q2]
    show(eqF n _ _).getD false=c
    rw[hc];rfl
   rw[e3]
   exact(zcZ I n A.in1 a1 a2 _ _ u1 u2 c (by show A.units+1+n<cLine;omega) ra1.vw ra2.vw ru1 ru2 hc).eq
  have same:∀{a a':Addr},x = .ref a->y = .ref a'->a=a'->b=true:=by
   intro a a' e1 e2 e3
   subst e1 e2 e3
   exact zfK I (n+1) _ _ _ _ h1 h2 h
  cases h1 with
  |non=>
   cases r1
   cases h2 with
   |non=>cases r2;cases h;exact⟨SeqAt.RcAt.none_none,SeqAt.RcNeAt.none_none,SeqAt.EqAt.same _⟩
   |bl=>cases r2;cases h;exact⟨SeqAt.RcAt.none_bool _,SeqAt.RcNeAt.none_bool _,SeqAt.EqAt.none_bool _⟩
   |int=>obtain⟨t,rfl⟩:=r2;cases h;exact⟨SeqAt.RcAt.none_int _ _,SeqAt.RcNeAt.none_int _ _,SeqAt.EqAt.none_int _ _⟩
   |str=>obtain⟨t,rfl⟩:=r2;cases h;exact⟨SeqAt.RcAt.none_str _ _,SeqAt.RcNeAt.none_str _ _,SeqAt.EqAt.none_str _ _⟩
   |tup r s2 l2=>
    cases r2;cases h
    obtain⟨its,rv,p,_⟩:=I.tuple s2
    exact⟨SeqAt.RcAt.none_tuple p hu0,SeqAt.RcNeAt.none_tuple p hu0,SeqAt.EqAt.none_tuple p hu0⟩
   |lst s2 l2=>
    cases r2;cases h
    obtain⟨its,rv,p,_⟩:=I.list s2.sq
    exact⟨SeqAt.RcAt.none_list p.isList hu0,SeqAt.RcNeAt.none_list p.isList hu0,SeqAt.EqAt.none_list p.isList hu0⟩
   |_=>cases h
  |bl c=>
   cases r1
   cases h2 with
   |non=>cases r2;cases h;exact⟨SeqAt.RcAt.bool_none _,SeqAt.RcNeAt.bool_none _,SeqAt.EqAt.bool_none _⟩
   |bl=>cases r2;cases h;exact⟨SeqAt.RcAt.bool_bool _ _,SeqAt.RcNeAt.bool_bool _ _,SeqAt.EqAt.bool_bool _ _⟩
   |int=>obtain⟨t,rfl⟩:=r2;cases h;exact⟨SeqAt.RcAt.bool_int _ _ _,SeqAt.RcNeAt.bool_int _ _ _,SeqAt.EqAt.bool_int _ _ _⟩
   |str=>obtain⟨t,rfl⟩:=r2;cases h;exact⟨SeqAt.RcAt.bool_str _ _ _,SeqAt.RcNeAt.bool_str _ _ _,SeqAt.EqAt.bool_str _ _ _⟩
   |tup r s2 l2=>
    cases r2;cases h
    obtain⟨its,rv,p,_⟩:=I.tuple s2
    exact⟨SeqAt.RcAt.bool_tuple _ p hu0,SeqAt.RcNeAt.bool_tuple _ p hu0,SeqAt.EqAt.bool_tuple _ p hu0⟩
   |lst s2 l2=>
    cases r2;cases h
    obtain⟨its,rv,p,_⟩:=I.list s2.sq
    exact⟨SeqAt.RcAt.bool_list _ p.isList hu0,SeqAt.RcNeAt.bool_list _ p.isList hu0,SeqAt.EqAt.bool_list _ p.isList hu0⟩
   |_=>cases h
  |int c=>
   obtain⟨t0,rfl⟩:=r1
   cases h2 with
   |non=>cases r2;cases h;exact⟨SeqAt.RcAt.int_none _ _,SeqAt.RcNeAt.int_none _ _,SeqAt.EqAt.int_none _ _⟩
   |bl=>cases r2;cases h;exact⟨SeqAt.RcAt.int_bool _ _ _,SeqAt.RcNeAt.int_bool _ _ _,SeqAt.EqAt.int_bool _ _ _⟩
   |int=>obtain⟨t,rfl⟩:=r2;cases h;exact⟨SeqAt.RcAt.int_int _ _ _ _,SeqAt.RcNeAt.int_int _ _ _ _,SeqAt.EqAt.int_int _ _ _ _⟩
   |str=>obtain⟨t,rfl⟩:=r2;cases h;exact⟨SeqAt.RcAt.int_str _ _ _ _,SeqAt.RcNeAt.int_str _ _ _ _,SeqAt.EqAt.int_str _ _ _ _⟩
   |tup r s2 l2=>
    cases r2;cases h
    obtain⟨its,rv,p,_⟩:=I.tuple s2
    exact⟨SeqAt.RcAt.int_tuple _ _ p hu0,SeqAt.RcNeAt.int_tuple _ _ p hu0,SeqAt.EqAt.int_tuple _ _ p hu0⟩
   |lst s2 l2=>
    cases r2;cases h
    obtain⟨its,rv,p,_⟩:=I.list s2.sq
    exact⟨SeqAt.RcAt.int_list _ _ p.isList hu0,SeqAt.RcNeAt.int_list _ _ p.isList hu0,SeqAt.EqAt.int_list _ _ p.isList hu0⟩
   |_=>cases h
  |str c=>
   obtain⟨t0,rfl⟩:=r1
   cases h2 with
   |non=>cases r2;cases h;exact⟨SeqAt.RcAt.str_none _ _,SeqAt.RcNeAt.str_none _ _,SeqAt.EqAt.str_none _ _⟩
   |bl=>cases r2;cases h;exact⟨SeqAt.RcAt.str_bool _ _ _,SeqAt.RcNeAt.str_bool _ _ _,SeqAt.EqAt.str_bool _ _ _⟩
   |int=>obtain⟨t,rfl⟩:=r2;cases h;exact⟨SeqAt.RcAt.str_int _ _ _ _,SeqAt.RcNeAt.str_int _ _ _ _,SeqAt.EqAt.str_int _ _ _ _⟩
   |str=>obtain⟨t,rfl⟩:=r2;cases h;exact⟨SeqAt.RcAt.str_str _ _ _ _,SeqAt.RcNeAt.str_str _ _ _ _,SeqAt.EqAt.str_str _ _ _ _⟩
   |tup r s2 l2=>
    cases r2;cases h
    obtain⟨its,rv,p,_⟩:=I.tuple s2
    exact⟨SeqAt.RcAt.str_tuple _ _ p hu0,SeqAt.RcNeAt.str_tuple _ _ p hu0,SeqAt.EqAt.str_tuple _ _ p hu0⟩
   |lst s2 l2=>
    cases r2;cases h
    obtain⟨its,rv,p,_⟩:=I.list s2.sq
    exact⟨SeqAt.RcAt.str_list _ _ p.isList hu0,SeqAt.RcNeAt.str_list _ _ p.isList hu0,SeqAt.EqAt.str_list _ _ p.isList hu0⟩
   |_=>cases h
  | @tup a1 vs1 ds1 r s1 l1=>
   cases r1
   obtain⟨its1,rv1,p1,_⟩:=I.tuple s1
   cases h2 with
   |non=>cases r2;cases h;exact⟨SeqAt.RcAt.tuple_none p1 hu0,SeqAt.RcNeAt.tuple_none p1 hu0,SeqAt.EqAt.tuple_none p1 hu0⟩
   |bl=>cases r2;cases h;exact⟨SeqAt.RcAt.tuple_bool _ p1 hu0,SeqAt.RcNeAt.tuple_bool _ p1 hu0,SeqAt.EqAt.tuple_bool _ p1 hu0⟩
   |int=>obtain⟨t,rfl⟩:=r2;cases h;exact⟨SeqAt.RcAt.tuple_int _ _ p1 hu0,SeqAt.RcNeAt.tuple_int _ _ p1 hu0,SeqAt.EqAt.tuple_int _ _ p1 hu0⟩
   |str=>obtain⟨t,rfl⟩:=r2;cases h;exact⟨SeqAt.RcAt.tuple_str _ _ p1 hu0,SeqAt.RcNeAt.tuple_str _ _ p1 hu0,SeqAt.EqAt.tuple_str _ _ p1 hu0⟩
   | @tup a2 vs2 ds2 r' s2 l2=>
    cases r2
    obtain⟨its2,rv2,p2,_⟩:=I.tuple s2
    obtain⟨k1,k2⟩:=zaM h
    have he:=itm l1 l2 rv1 rv2 k1
    have eb:((List.range (min its1.toArray.size its2.toArray.size)).all (eqJ (eqF n) ds1 ds2)&&its1.toArray.size==its2.toArray.size)=b:=by
     rw[k2,zzD,zzD,<-rv1.length,<-rv2.length,l1.length,l2.length]
    have b1:=SeqAt.RcAt.tuples p1 p2 hu0 he
    have b2:=SeqAt.RcNeAt.tuples p1 p2 hu0 he
    rw[eb]at b1 b2
    refine⟨b1,b2, ?_⟩
    by_cases ha:a1=a2
    · have hb:=same rfl rfl ha
      subst ha
      rw[hb]
      exact SeqAt.EqAt.same _
    · exact SeqAt.EqAt.of_refs ha b1
   |lst s2 l2=>
    cases r2;cases h
    obtain⟨its,rv,p,_⟩:=I.list s2.sq
    exact⟨SeqAt.RcAt.tuple_list p1 p.isList hu0,SeqAt.RcNeAt.tuple_list p1 p.isList hu0,SeqAt.EqAt.tuple_list p1 p.isList hu0⟩
   |_=>cases h
  | @lst a1 vs1 ds1 s1 l1=>
   cases r1
   obtain⟨its1,rv1,p1,_⟩:=I.list s1.sq
   cases h2 with
   |non=>cases r2;cases h;exact⟨SeqAt.RcAt.list_none p1.isList hu0,SeqAt.RcNeAt.list_none p1.isList hu0,SeqAt.EqAt.list_none p1.isList hu0⟩
   |bl=>cases r2;cases h;exact⟨SeqAt.RcAt.list_bool _ p1.isList hu0,SeqAt.RcNeAt.list_bool _ p1.isList hu0,SeqAt.EqAt.list_bool _ p1.isList hu0⟩
   |int=>obtain⟨t,rfl⟩:=r2;cases h;exact⟨SeqAt.RcAt.list_int _ _ p1.isList hu0,SeqAt.RcNeAt.list_int _ _ p1.isList hu0,SeqAt.EqAt.list_int _ _ p1.isList hu0⟩
   |str=>obtain⟨t,rfl⟩:=r2;cases h;exact⟨SeqAt.RcAt.list_str _ _ p1.isList hu0,SeqAt.RcNeAt.list_str _ _ p1.isList hu0,SeqAt.EqAt.list_str _ _ p1.isList hu0⟩
   |tup r' s2 l2=>
    cases r2;cases h
    obtain⟨its2,rv2,p2,_⟩:=I.tuple s2
    exact⟨SeqAt.RcAt.list_tuple p1.isList p2 hu0,SeqAt.RcNeAt.list_tuple p1.isList p2 hu0,SeqAt.EqAt.list_tuple p1.isList p2 hu0⟩
   | @lst a2 vs2 ds2 s2 l2=>
    cases r2
    obtain⟨its2,rv2,p2,_⟩:=I.list s2.sq
    obtain⟨k1,k2⟩:=zaM h
    have he:=itm l1 l2 rv1 rv2 k1
    have ez1:its1.toArray.size=_:=zzD.trans (rv1.length.symm.trans l1.length)
    have ez2:its2.toArray.size=_:=zzD.trans (rv2.length.symm.trans l2.length)
    have both:SeqAt.RcAt A s (.ref a1) (.ref a2) b/\SeqAt.RcNeAt A s (.ref a1) (.ref a2) (!b):=by
     by_cases hz:its1.toArray.size=its2.toArray.size
     · have b1:=SeqAt.RcAt.lists p1.isList p2.isList hz hu0 he
       have b2:=SeqAt.RcNeAt.lists p1.isList p2.isList hz hu0 he
       have eb:(List.range its1.toArray.size).all (eqJ (eqF n) ds1 ds2)=b:=by
        rw[k2,<-ez1,<-ez2,<-hz,Nat.min_self]
        simp
       rw[eb]at b1 b2
       exact⟨b1,b2⟩
     · have hz':(its1.toArray.size != its2.toArray.size)=true:=by simpa using hz
       have eb:b=false:=by
        rw[k2,<-ez1,<-ez2]
        have:(its1.toArray.size==its2.toArray.size)=false:=by simpa using hz
        rw[this,Bool.and_false]
       rw[eb]
       exact⟨SeqAt.RcAt.lists_lengths p1.isList p2.isList hz' hu0,SeqAt.RcNeAt.lists_lengths p1.isList p2.isList hz' hu0⟩
    refine⟨both.1,both.2, ?_⟩
    by_cases ha:a1=a2
    · have hb:=same rfl rfl ha
      subst ha
      rw[hb]
      exact SeqAt.EqAt.same _
    · exact SeqAt.EqAt.of_refs ha both.1
   |_=>cases h
  |_=>cases h
end
structure DkAt(P:Program)(w:World)(h:Heap)(a:Addr)(kvs:List (Key×V)):Prop where
 le:kvs.length<=sizeLine
 ns:(a==sysModules)=false
 ex:∃vs,KV kvs vs/\h.DictOf (xr P w) a vs
structure KdOk(X:Cx)(kd:KD):Prop where
 inj:∀a k k',kd a k->kd a k'->k=k'
 inK:∀a k,kd a k->∃o,X.K.lookup a=some o
 at_:∀a k h,kd a k->X.K.In h->DkAt X.prog X.w h a k
section
variable{X:Cx}{kd:KD}{pins:List (Addr×Obj)}{σ:St}{H:Hp}{s:Shared}{O:Addr->Prop}
theorem zaa(I:Inv X pins σ H s)(hk:KdOk X kd){a:Addr}{kvs:List (Key×V)}(h:Rd H a (.dK kvs)\/kd a kvs):DkAt X.prog X.w s.heap a kvs:=by
 rcases h with h|h
 · obtain⟨z,hd,vs,rel,dd⟩:=zlE I.hok h
   exact⟨z,hd,vs,rel,dd⟩
 · exact hk.at_ _ _ _ h I.kIn
theorem zhL(I:Inv X pins σ H s):∀(n:Nat) (v:V) (d e x:D) (b c:Bool),Vw X.K kd O H v d->Vw X.K kd O H v e->eqF n d x=some b->eqF n e x=some c->b=c
 |0,_,_,_,_,_,_,_,_,h,_=>by cases h
 |n+1,v,d,e,x,b,c,h1,h2,h,h'=>by
  have lst:∀(vs:List V) (ds es xs:List D) (b c:Bool),RpL X.K kd O H vs ds->RpL X.K kd O H vs es->eqL (eqF n) ds xs=some b->eqL (eqF n) es xs=some c->b=c:=by
   intro vs
   induction vs with
   |nil=>intro ds es xs b c r1 r2 h h';cases r1;cases r2;exact zzV (h.symm.trans h')
   |cons v vs ih=>
    intro ds es xs b c r1 r2 h h'
    cases r1 with
    |cons a1 r1=>
     cases r2 with
     |cons a2 r2=>
      cases xs with
      |nil=>cases h;cases h';rfl
      |cons x xs=>
       obtain⟨b1,k1,h⟩:=bS_ (show(eqF n _ _).bind _=_ from h)
       obtain⟨c1,k2,h⟩:=bS_ h
       obtain⟨b2,k3,h'⟩:=bS_ (show(eqF n _ _).bind _=_ from h')
       obtain⟨c2,k4,h'⟩:=bS_ h'
       cases h;cases h'
       rw[zhL I n _ _ _ _ _ _ a1.vw a2.vw k1 k3,ih _ _ _ _ _ r1 r2 k2 k4]
  cases h1 with
  |tup r1 s1 l1=>
   cases h2 with
   |tup r2 s2 l2=>
    have:=I.tuple_inj s1 s2
    subst this
    cases x with
    |tup xs=>exact lst _ _ _ _ _ _ l1 l2 h h'
    |_=>exact zzV (h.symm.trans h')
   |lst s2 l2=>exact(zfP I s1 s2.sq).elim
   |_=>cases h'
  |lst s1 l1=>
   cases h2 with
   |tup r2 s2 l2=>exact(zfP I s2 s1.sq).elim
   |lst s2 l2=>
    have:=I.list_inj s1.sq s2.sq
    subst this
    cases x with
    |lst xs=>exact lst _ _ _ _ _ _ l1 l2 h h'
    |_=>exact zzV (h.symm.trans h')
   |_=>cases h'
  |dct s1 l1=>cases h
  |cl=>cases h
  |ob=>cases h
  |_=>cases h2;exact zzV (h.symm.trans h')
end
def zbJ:D->Option Key
 | .int i=>some (.inl i)
 | .str x=>some (.inr x)
 |_=>none
def Wh(kvs:List (Key×D))(k:Key):Option D:=(kvs.find? λkv=>decide (kv.1=k)).map (·.2)
theorem WQ{K:zC}{kd:KD}{O:Addr->Prop}{H:Hp}(k:Key){vs:List (Key×V)}{ds:List (Key×D)}(h:RpM K kd O H vs ds):(∃v d,Yx vs k=some v/\Wh ds k=some d/\Rp K kd O H v d)\/(Yx vs k=none/\Wh ds k=none):=
 RpM.ind (P:=λvs ds=>(∃v d,Yx vs k=some v/\Wh ds k=some d/\Rp K kd O H v d)\/(Yx vs k=none/\Wh ds k=none)) (.inr ⟨rfl,rfl⟩) (λ{k' v d vs ds} a _ ih=>by
  by_cases e:k'=k
  · left
    refine⟨_,_, ?_, ?_,a⟩
    · unfold Yx;simp[e]
    · unfold Wh;simp[e]
  · rcases ih with⟨v,d,h1,h2,h3⟩|⟨h1,h2⟩
    · left
      refine⟨v,d, ?_, ?_,h3⟩
      · unfold Yx at h1 ⊢;simpa[e]using h1
      · unfold Wh at h2 ⊢;simpa[e]using h2
    · right
      refine⟨?_, ?_⟩
      · unfold Yx at h1 ⊢;simpa[e]using h1
      · unfold Wh at h2 ⊢;simpa[e]using h2) h
def anyF(f:D->Option Bool):List D->Option Bool
 | []=>some false
 |x::r=>(f x).bind λb=>(anyF f r).bind λc=>some (b||c)
def blR(b:Bool):R0:=.im (.bl b)
def inP(x:D):D->Option Bool
 | .lst ys=>anyF (λy=>eqF 50 y x) ys
 | .tup ys=>anyF (λy=>eqF 50 y x) ys
 | .str y=>match x with | .str i=>some (!(Builtin.Str.occurrences y i 0 y.length 1).isEmpty)|_=>none
 | .dct kvs=>(zbJ x).bind λk=>some (Wh kvs k).isSome
 |_=>none
def isP:D->D->Option Bool
 |d,.non=>some (match d with | .non=>true|_=>false)
 |d,.bl b=>match d with | .bl c=>some (c==b)|_=>some false
 |_,_=>none
def zju(f:Int->Int->Bool):D->D->Option R0:=onI λi j=>some (blR (f i j))
def zH(o:CmpOp)(d e:D):Option R0:=match o with
 | .Eq=>(eqF 60 d e).bind λb=>some (blR b)
 | .NotEq=>(eqF 60 d e).bind λb=>some (blR !b)
 | .Lt=>zju (λi j=>decide (i<j)) d e
 | .LtE=>zju (λi j=>decide (i<=j)) d e
 | .Gt=>zju (λi j=>decide (j<i)) d e
 | .GtE=>zju (λi j=>decide (j<=i)) d e
 | .In=>(inP d e).bind λb=>some (blR b)
 | .NotIn=>(inP d e).bind λb=>some (blR !b)
 | .Is=>(isP d e).bind λb=>some (blR b)
 | .IsNot=>(isP d e).bind λb=>some (blR !b)
theorem Xk{o:Option Bool}{f:Bool->Bool}{r:R0}(h:(o.bind λb=>some (blR (f b)))=some r):∃k,r = .im (.bl k):=by
 obtain⟨b,_,h⟩:=bS_ h
 cases h
 exact⟨_,rfl⟩
theorem zah{x y:D}{f:Int->Int->Bool}{r:R0}(h:zju f x y=some r):∃k,r = .im (.bl k):=by
 obtain⟨i,_,h⟩:=bS_ (show(asI x).bind _=_ from h)
 obtain⟨j,_,h⟩:=bS_ h
 cases h
 exact⟨_,rfl⟩
theorem zO(op:CmpOp)(x y:D)(r:R0)(h:zH op x y=some r):∃k,r = .im (.bl k):=by
 cases op with
 |Eq=>exact Xk (f:=id) h
 |NotEq=>exact Xk (f:=not) h
 |Lt=>exact zah h
 |LtE=>exact zah h
 |Gt=>exact zah h
 |GtE=>exact zah h
 |In=>exact Xk (f:=id) h
 |NotIn=>exact Xk (f:=not) h
 |Is=>exact Xk (f:=id) h
 |IsNot=>exact Xk (f:=not) h
section
variable{X:Cx}{kd:KD}{pins:List (Addr×Obj)}{σ:St}{H:Hp}{s:Shared}{O:Addr->Prop}
noncomputable def eqW(K:zC)(kd:KD)(O:Addr->Prop)(H:Hp)(n:Nat)(x:D)(u:Value):Bool:=@decide (∃v d,RelV v u/\Rp K kd O H v d/\eqF n d x=some true) (Classical.propDecidable _)
theorem zhE(I:Inv X pins σ H s)(hk:KdOk X kd){n:Nat}{x d:D}{v:V}{u:Value}{b:Bool}(r:RelV v u)(p:Rp X.K kd O H v d)(e:eqF n d x=some b):eqW X.K kd O H n x u=b:=by
 unfold eqW
 cases b with
 |true=>exact @zyK _ (Classical.propDecidable _) ⟨v,d,r,p,e⟩
 |false=>
  refine @zyC _ (Classical.propDecidable _) λ⟨v',d',r',p',e'⟩=>?_
  have:=r.inj r'
  subst this
  exact Bool.noConfusion (zhL I n _ _ _ _ _ _ p.vw p'.vw e e')
theorem zaq(I:Inv X pins σ H s)(hk:KdOk X kd){n:Nat}{x:D}{vs:List V}{us:List Value}{ds:List D}{b:Bool}(hv:Vals vs us)(h:RpL X.K kd O H vs ds)(e:anyF (λy=>eqF n y x) ds=some b):us.any (eqW X.K kd O H n x)=b:=
 RpL.ind (P:=λvs ds=>∀us b,Vals vs us->anyF (λy=>eqF n y x) ds=some b->us.any (eqW X.K kd O H n x)=b) (λus b hv e=>by cases e;cases hv;rfl) (λ{v d vs ds} a _ ih us b hv h=>by
  cases hv with
  |cons r t=>
   obtain⟨b1,h1,h⟩:=bS_ (show(eqF n _ x).bind _=_ from h)
   obtain⟨c1,h2,h⟩:=bS_ h
   cases h
   rw[List.any_cons,zhE I hk r a h1,ih _ _ t h2]) h us b hv e
theorem YT{f:D->Option Bool}:∀{ds:List D}{b:Bool},anyF f ds=some b->∀d ∈ ds,∃c,f d=some c
 | [],_,_,d,hd=>by simp at hd
 |x::r,b,h,d,hd=>by
  obtain⟨b1,h1,h⟩:=bS_ (show(f x).bind _=_ from h)
  obtain⟨c1,h2,h⟩:=bS_ h
  rcases zI.mp hd with e|e
  · subst e;exact⟨b1,h1⟩
  · exact YT h2 d e
theorem zao(I:Inv X pins σ H s)(hk:KdOk X kd){n:Nat}{A:Around}(hu:A.units+n<cLine){x:V}{v:Value}{d:D}(vx:Vw X.K kd O H x d)(rx:RelV x v){vs:List V}{us:List Value}{ds:List D}(hv:Vals vs us)(h:RpL X.K kd O H vs ds)(k:∀e ∈ ds,∃c,eqF n e d=some c):∀u ∈ us,SeqAt.EqAt A s u v (eqW X.K kd O H n d u):=
 RpL.ind (P:=λvs ds=>∀us,Vals vs us->(∀e ∈ ds,∃c,eqF n e d=some c)->∀u ∈ us,SeqAt.EqAt A s u v (eqW X.K kd O H n d u)) (λus hv _ u hu=>by cases hv;simp at hu) (λa q ih us hv h u hm=>by
  cases hv with
  |cons r t=>
   rcases zI.mp hm with e|e
   · subst e
     obtain⟨c,hc⟩:=h _ zzB
     rw[zhE I hk r a hc]
     exact(zcZ I n A _ _ _ _ _ _ _ hu a.vw vx r rx hc).eq
   · exact ih _ t (λe he=>h e (zS _ he)) u e) h us hv k
theorem zaw{A:Around}{E:Value->Shared->Prop}{x:V}{v:Value}{b c:Bool}{d:D}{Q:Bool->Shared->Prop}(vx:Vw X.K kd O H x d)(rx:RelV x v)(e:isP d (.bl b)=some c)(h:Q c s):wpAny (model X.prog X.w) A (isSame v (.bool b)) Q E s:=by
 cases vx with
 |non=>cases rx;cases e;exact zxD h
 |bl k=>
  cases rx
  have e:some (k==b)=some c:=e
  cases e
  refine zxD ?_
  cases k<;>cases b<;>exact h
 |int=>obtain⟨t,rfl⟩:=rx;cases e;exact zxD h
 |str=>obtain⟨t,rfl⟩:=rx;cases e;exact zxD h
 |tup=>cases rx;cases e;exact zxD h
 |lst=>cases rx;cases e;exact zxD h
 |dct=>cases rx;cases e;exact zxD h
 |cl=>cases rx;cases e;exact zxD h
 |ob=>cases rx;cases e;exact zxD h
theorem zT(hk:KdOk X kd)(hu:X.A.units+100<cLine)(op:CmpOp):OpD X kd (compareOp op) (zH op):=by
 intro pins s σ H x y v u Q I rx ry h
 obtain⟨O,d,e,r,ht,vx,vy,he,q⟩:=h
 cases op with
 |Eq=>
  obtain⟨b,h1,he⟩:=bS_ (show(eqF 60 d e).bind _=_ from he)
  cases he
  exact(zcZ I 60 X.A x y d e v u b (by omega) vx vy rx ry h1).rc _ _ _ _ (wy I (yj q (.bl _)) rfl)
 |NotEq=>
  obtain⟨b,h1,he⟩:=bS_ (show(eqF 60 d e).bind _=_ from he)
  cases he
  exact(zcZ I 60 X.A x y d e v u b (by omega) vx vy rx ry h1).ne _ _ _ _ (wy I (yj q (.bl _)) rfl)
 |Lt=>
  obtain⟨i,j,rfl,rfl,he⟩:=Ym vx vy he
  cases he
  exact zoj pins s σ H _ _ v u Q I rx ry ⟨_,_,rfl,rfl,yj q (.bl _)⟩
 |LtE=>
  obtain⟨i,j,rfl,rfl,he⟩:=Ym vx vy he
  cases he
  exact zow pins s σ H _ _ v u Q I rx ry ⟨_,_,rfl,rfl,yj q (.bl _)⟩
 |Gt=>
  obtain⟨i,j,rfl,rfl,he⟩:=Ym vx vy he
  cases he
  exact znU pins s σ H _ _ v u Q I rx ry ⟨_,_,rfl,rfl,yj q (.bl _)⟩
 |GtE=>
  obtain⟨i,j,rfl,rfl,he⟩:=Ym vx vy he
  cases he
  exact zoG pins s σ H _ _ v u Q I rx ry ⟨_,_,rfl,rfl,yj q (.bl _)⟩
 |In=>
  obtain⟨b,h1,he⟩:=bS_ (show(inP d e).bind _=_ from he)
  cases he
  cases vy with
  |lst hs rl=>
   cases ry
   obtain⟨its,rv,p,_⟩:=I.list hs.sq
   refine SeqAt.in_listAt (eqW X.K kd O H 50 d) p.isList (λw hw=>zao I hk (by show X.A.units+1+50<cLine;omega) vx rx rv rl (YT h1) w (by simpa using hw)) ?_
   have:=zaq I hk rv rl h1
   rw[show its.toArray.any (eqW X.K kd O H 50 d)=b by rw[<-this];simp]
   exact wy (I) (yj q (.bl _)) rfl
  |tup rp hs rl=>
   cases ry
   obtain⟨its,rv,p,_⟩:=I.tuple hs
   refine SeqAt.in_tupleAt (eqW X.K kd O H 50 d) p (λw hw=>zao I hk (by show X.A.units+1+50<cLine;omega) vx rx rv rl (YT h1) w (by simpa using hw)) ?_
   have:=zaq I hk rv rl h1
   rw[show its.toArray.any (eqW X.K kd O H 50 d)=b by rw[<-this];simp]
   exact wy (I) (yj q (.bl _)) rfl
  |str z=>
   cases vx with
   |str i=>cases h1;exact zhv pins s σ H _ _ v u Q I rx ry ⟨_,_,rfl,rfl,yj q (.bl _)⟩
   |_=>cases h1
  |dct hs rm=>
   cases ry
   obtain⟨k,k1,h1⟩:=bS_ h1
   cases h1
   obtain⟨z,hd,vs,rel,dd⟩:=zaa I hk hs
   have ek:x=kV k:=by
    cases vx with
    |int i=>cases k1;rfl
    |str i=>cases k1;rfl
    |_=>cases k1
   subst ek
   refine wpAny_in_of (zbZ rx) hd dd.mapOf ?_
   rw[<-(rel.val k).isSome_eq]
   rcases WQ k rm with⟨v1,d1,e1,e2,_⟩|⟨e1,e2⟩
   · rw[e1];rw[e2]at q;exact wy (I.tok _) (yj q (.bl _)) rfl
   · rw[e1];rw[e2]at q;exact wy (I.tok _) (yj q (.bl _)) rfl
  |_=>cases h1
 |NotIn=>
  obtain⟨b,h1,he⟩:=bS_ (show(inP d e).bind _=_ from he)
  cases he
  cases vy with
  |lst hs rl=>
   cases ry
   obtain⟨its,rv,p,_⟩:=I.list hs.sq
   refine SeqAt.notIn_listAt (eqW X.K kd O H 50 d) p.isList (λw hw=>zao I hk (by show X.A.units+1+50<cLine;omega) vx rx rv rl (YT h1) w (by simpa using hw)) ?_
   have:=zaq I hk rv rl h1
   rw[show its.toArray.any (eqW X.K kd O H 50 d)=b by rw[<-this];simp]
   exact wy (I) (yj q (.bl _)) rfl
  |tup rp hs rl=>
   cases ry
   obtain⟨its,rv,p,_⟩:=I.tuple hs
   refine SeqAt.notIn_tupleAt (eqW X.K kd O H 50 d) p (λw hw=>zao I hk (by show X.A.units+1+50<cLine;omega) vx rx rv rl (YT h1) w (by simpa using hw)) ?_
   have:=zaq I hk rv rl h1
   rw[show its.toArray.any (eqW X.K kd O H 50 d)=b by rw[<-this];simp]
   exact wy (I) (yj q (.bl _)) rfl
  |str z=>
   cases vx with
   |str i=>cases h1;exact zcG pins s σ H _ _ v u Q I rx ry ⟨_,_,rfl,rfl,yj q (.bl _)⟩
   |_=>cases h1
  |dct hs rm=>
   cases ry
   obtain⟨k,k1,h1⟩:=bS_ h1
   cases h1
   obtain⟨z,hd,vs,rel,dd⟩:=zaa I hk hs
   have ek:x=kV k:=by
    cases vx with
    |int i=>cases k1;rfl
    |str i=>cases k1;rfl
    |_=>cases k1
   subst ek
   refine wpAny_notIn_of (zbZ rx) hd dd.mapOf ?_
   rw[<-(rel.val k).isSome_eq]
   rcases WQ k rm with⟨v1,d1,e1,e2,_⟩|⟨e1,e2⟩
   · rw[e1];rw[e2]at q;exact wy (I.tok _) (yj q (.bl _)) rfl
   · rw[e1];rw[e2]at q;exact wy (I.tok _) (yj q (.bl _)) rfl
  |_=>cases h1
 |Is=>
  obtain⟨b,h1,he⟩:=bS_ (show(isP d e).bind _=_ from he)
  cases he
  cases vy with
  |non=>
   refine znD pins s σ H _ _ v u Q I rx ry ⟨rfl, ?_⟩
   have:decide (x=V.non)=b:=by cases vx<;>(cases h1;rfl)
   rw[this]
   exact yj q (.bl b)
  |bl c=>
   cases ry
   exact zxC (zaw vx rx h1 (zxD (wy I (yj q (.bl _)) rfl)))
  |_=>cases h1
 |IsNot=>
  obtain⟨b,h1,he⟩:=bS_ (show(isP d e).bind _=_ from he)
  cases he
  cases vy with
  |non=>
   refine zkv pins s σ H _ _ v u Q I rx ry ⟨rfl, ?_⟩
   have:decide (x=V.non)=b:=by cases vx<;>(cases h1;rfl)
   rw[this]
   exact yj q (.bl _)
  |bl c=>
   cases ry
   exact zxC (zaw vx rx h1 (zxD (wy I (yj q (.bl _)) rfl)))
  |_=>cases h1
end
theorem zgb{K:zC}{kd:KD}{O:Addr->Prop}{H:Hp}{vs:List V}{ds:List D}{i:Int}{d:D}(r:RpL K kd O H vs ds)(h:atI ds i=some d):∃v,atI vs i=some v/\Rp K kd O H v d:=by
 unfold atI at h ⊢
 obtain⟨j,h1,h2⟩:=bS_ h
 rw[r.length,h1]
 exact r.get h2
def imR(o:Option D):Option R0:=o.bind λd=>some (.im d)
def ixP(x y:D):Option R0:=match x with
 | .lst xs=>(asI y).bind λi=>imR (atI xs i)
 | .tup xs=>(asI y).bind λi=>imR (atI xs i)
 | .str x=>(asI y).bind λi=>if x.length<=sizeLine then(atI x.cps.toList i).bind λc=>some (.im (.str ⟨#[c]⟩))else none
 | .dct kvs=>(zbJ y).bind λk=>imR (Wh kvs k)
 |_=>none
theorem zbs{o:Option D}{r:R0}(h:imR o=some r):∃d,o=some d/\r = .im d:=by
 obtain⟨d,h1,h2⟩:=bS_ (show o.bind _=_ from h)
 cases h2
 exact⟨d,h1,rfl⟩
section
variable{X:Cx}{kd:KD}
theorem zdt{K:zC}{O:Addr->Prop}{H:Hp}{x:V}{d:D}{k:Key}(vx:Vw K kd O H x d)(e:zbJ d=some k):x=kV k:=by
 cases vx with
 |int i=>cases e;rfl
 |str i=>cases e;rfl
 |_=>cases e
theorem zoZ(hk:KdOk X kd):IxD X kd ixP:=by
 intro value slice pins s σ H x y v u Q I rx ry h hs
 obtain⟨O,d,e,r,ht,vx,vy,he,q⟩:=h
 cases vx with
 |lst hr rl=>
  obtain⟨i,h0,he⟩:=bS_ (show(asI e).bind _=_ from he)
  obtain⟨rfl,rfl⟩:=Z8 vy h0
  obtain⟨d,h1,rfl⟩:=zbs he
  obtain⟨w,hw,rw'⟩:=zgb rl h1
  exact zkL value slice pins s σ H _ _ v u Q I rx ry ⟨_,_,_,w,rfl,rfl,hr.sq,hw,yj q rw'⟩ hs
 |tup rp hr rl=>
  obtain⟨i,h0,he⟩:=bS_ (show(asI e).bind _=_ from he)
  obtain⟨rfl,rfl⟩:=Z8 vy h0
  obtain⟨d,h1,rfl⟩:=zbs he
  obtain⟨w,hw,rw'⟩:=zgb rl h1
  exact zlT value slice pins s σ H _ _ v u Q I rx ry ⟨_,_,_,w,rfl,rfl,hr,hw,yj q rw'⟩ hs
 |str z=>
  obtain⟨i,h0,he⟩:=bS_ (show(asI e).bind _=_ from he)
  obtain⟨rfl,rfl⟩:=Z8 vy h0
  obtain⟨hz,he⟩:=ite_some' he
  obtain⟨c,h1,he⟩:=bS_ he
  cases he
  exact zaX value slice pins s σ H _ _ v u Q I rx ry ⟨_,_,c,rfl,rfl,hz,h1,yj q (.str _)⟩ hs
 |dct hr rm=>
  obtain⟨k,h1,he⟩:=bS_ (show(zbJ e).bind _=_ from he)
  obtain⟨d,h2,rfl⟩:=zbs he
  cases rx
  obtain⟨z,hd,vs,rel,dd⟩:=zaa I hk hr
  have:=zdt vy h1
  subst this
  rcases WQ k rm with⟨v1,d1,e1,e2,rp⟩|⟨e1,e2⟩
  · rw[h2]at e2
    cases e2
    obtain⟨w',hw,rw'⟩:=zab.some_of (v:=v1) (o:=valueAt vs k) (by rw[<-e1];exact rel.val k)
    exact tail_any dd.typeIs PySem.F.slot_dict_getitem.lookup (wpAny_getItem_of (zbZ ry) dd.mapOf hw ⟨v1,H,I.tok _,rw',yj q rp⟩) hs
  · rw[h2]at e2;cases e2
 |_=>cases he
def cutD(xs:List D)(lo hi:Option Int):List D:=(xs.drop (HT.sIx xs.length 0 lo)).take (HT.sIx xs.length xs.length hi-HT.sIx xs.length 0 lo)
theorem zgA{K:zC}{O:Addr->Prop}{H:Hp}{vs:List V}{ds:List D}(r:RpL K kd O H vs ds)(lo hi:Option Int):RpL K kd O H (zez vs lo hi) (cutD ds lo hi):=by
 unfold zez cutD
 rw[r.length]
 exact(r.drop _).take _
def slP(x:D)(lo hi:Option Int):Option R0:=match x with
 | .lst xs=>some (.fl (cutD xs lo hi))
 | .tup xs=>if HT.sIx xs.length 0 lo=0/\HT.sIx xs.length xs.length hi=xs.length then none else some (.im (.tup (cutD xs lo hi)))
 |_=>none
abbrev OF:=AS->Option (Option Int×AS)
def oN:OF:=λas=>some (none,as)
def oS(f:EF):OF:=λas=>(f as).bind λp=>(rvI p.1).bind λi=>some (some i,p.2)
def fSl(fa:EF)(fl fh:OF)(g:D->Option Int->Option Int->Option R0):EF:=λas=>(fa as).bind λp=>(fl p.2).bind λl=>(fh l.2).bind λh=>(p.1.frz.view h.2).bind λx=>(g x.1 l.1 h.1).bind λr=>(wrap x.2 r).bind λz=>some (z,h.2)
def alO(K:zC)(kd:KD)(f:OF):TO:=λσ H Q=>∃F B ad as o as',Rel K kd F B [] ad as σ H/\f as=some (o,as')/\
 ∀ad' H',Rel K kd F B [] ad' as' σ H'->Grow (Gw [] ad) H (Gw [] ad') H'->Q o H'
@[irreducible] def AO(X:Cx)(kd:KD)(e:Option Expr)(f:OF):Prop:=PO X e (alO X.K kd f)
theorem zhQ{e:Option Expr}{t t':TO}(h:PO X e t)(k:∀σ H Q,t' σ H Q->t σ H Q):PO X e t':=λpins s σ H Q I q=>h pins s σ H Q I (k σ H Q q)
theorem vm:AO X kd none oN:=by with_unfolding_all exact(zhQ zkQ λσ H Q h=>by
 obtain⟨F,B,ad,as,o,as',R,e,q⟩:=h
 cases e
 exact q ad H R Grow.refl)
theorem zlZ{K:zC}{F B:Addr->Prop}{T:List Addr}{ad:Ad}{σ:St}{H:Hp}{v:V}{st:Bool}{c:Int}(h:wz K kd F B T ad σ H v (.ow (.lf st (.int c)))):T=[]/\v = .int c:=by
 have h:RoS K kd F B (Gw T ad) H v (.lf st (.int c)) T:=h
 generalize hT:Gw T ad=G at h
 cases h with
 |lf rp=>cases rp;exact⟨rfl,rfl⟩
theorem wK{a:Expr}{fa:EF}(ha:AE X kd a fa):AO X kd (some a) (oS fa):=by with_unfolding_all exact(zhQ (zlq ha) λσ H Q h=>by
 obtain⟨F,B,ad,as,o,as',R,e,q⟩:=h
 obtain⟨⟨p,as1⟩,h1,e⟩:=bS_ (show(fa as).bind _=_ from e)
 obtain⟨i,e1,e⟩:=bS_ e
 obtain⟨st,rfl⟩:=zmQ e1
 cases e
 refine⟨F,B,ad,as,_,_,R,h1,λv T' ad1 H1 R1 rv1 g1=>?_⟩
 obtain⟨rfl,rfl⟩:=zlZ rv1
 exact⟨i,rfl,q ad1 H1 R1 g1⟩)
theorem zpn:SlR X (λx lo hi H Q=>∃O d r,(∀a,O a->H a≠none)/\Vw X.K kd O H x d/\slP d lo hi=some r/\RQ X.K kd O H Q r):=by
 intro pins s σ H x v vl vu lo hi sl Q I rx hs pl pu h
 obtain⟨O,d,r,ht,vx,he,q⟩:=h
 cases vx with
 |lst hr rl=>cases he;exact zkc pins s σ H _ v vl vu lo hi sl Q I rx hs pl pu ⟨_,_,rfl,hr.sq,zbq q (zgA rl lo hi)⟩
 |tup rp hr rl=>
  have he:(if _ then none else some _:Option R0)=_:=he
  split at he
  · cases he
  · rename_i hw
    cases he
    exact zmg pins s σ H _ v vl vu lo hi sl Q I rx hs pl pu ⟨_,_,rfl,hr,by rw[rl.length];exact hw,zdA ht q (zgA rl lo hi)⟩
 |_=>cases he
theorem vD{a:Expr}{lo hi:Option Expr}{fa:EF}{fl fh:OF}{pos p2:Pos}(ha:AE X kd a fa)(hl:AO X kd lo fl)(hh:AO X kd hi fh):AE X kd (.Subscript a (.Slice lo hi none p2) pos) (fSl fa fl fh slP):=by with_unfolding_all exact(yL (zea zpn ha hl hh) λσ H Q h=>by
 obtain⟨F,B,ad,as,r,as',R,e,q⟩:=h
 obtain⟨⟨p,as1⟩,h1,e⟩:=bS_ (show(fa as).bind _=_ from e)
 obtain⟨⟨l,as2⟩,h2,e⟩:=bS_ e
 obtain⟨⟨u,as3⟩,h3,e⟩:=bS_ e
 obtain⟨⟨d,lv⟩,h4,e⟩:=bS_ e
 obtain⟨r',h5,e⟩:=bS_ e
 obtain⟨z,h6,e⟩:=bS_ e
 cases e
 refine vI R h1 λv ad1 H1 R1 rv1 g1=>⟨F,B,ad1,as1,l,as2,R1,h2,λad2 H2 R2 g2=>⟨F,B,ad2,as2,u,_,R2,h3,λad3 H3 R3 g3=>?_⟩⟩
 exact⟨_,d,r',R3.tr _,wz.vw R3 ((rv1.grow g2).grow g3) h4,h5,Yp R3 h6 λw T' H' R' rv' g'=>q w T' ad3 H' R' rv' (((g1.trans g2).trans g3).trans g')⟩)
def zac:D->Option R0
 | .int i=>some (.im (.int (-i)))
 |_=>none
theorem zll:UnD X kd (unaryOp .USub) zac:=by
 intro pins s σ H x v Q I rx h
 obtain⟨O,d,r,ht,vx,he,q⟩:=h
 cases vx with
 |int i=>cases he;exact zmE pins s σ H _ v Q I rx ⟨i,rfl,yj q (.int _)⟩
 |_=>cases he
def tyD:D->String
 | .non=>"NoneType" | .bl _=>"bool" | .int _=>"int" | .str _=>"str" | .tup _=>"tuple" | .lst _=>"list" | .dct _=>"dict"|_=>""
def zeM:D->Bool
 | .cl _=>false | .ob _ _ _=>false|_=>true
def zch(t c:String):Bool:=t==c||(t=="bool"&&c=="int")
def Ww(c:String):Bool:=c=="int"||c=="bool"||c=="str"||c=="list"||c=="tuple"||c=="dict"
theorem znJ(K:zC)(d:D)(c:String)(h:Ww c=true)(ho:zeM d=true):PySem.W.kitOne K (.type (tyD d)) (.type c)=some (zch (tyD d) c):=by
 have:c="int"\/c="bool"\/c="str"\/c="list"\/c="tuple"\/c="dict":=by
  unfold Ww at h
  simp only[Bool.or_eq_true,beq_iff_eq]at h
  rcases h with((((h|h)|h)|h)|h)|h<;>simp[h]
 rcases this with rfl|rfl|rfl|rfl|rfl|rfl<;>cases d<;>first|rfl|cases ho
theorem znH(hk:KdOk X kd){pins:List (Addr×Obj)}{σ:St}{H:Hp}{s:Shared}{O:Addr->Prop}{A:Around}{E:Value->Shared->Prop}{Q:Value->Shared->Prop}{c:String}{x:V}{u:Value}{d:D}(I:Inv X pins σ H s)(rx:RelV x u)(vx:Vw X.K kd O H x d)(hc:Ww c=true)(ho:zeM d=true)
 (h:∀tk,Q (.bool (zch (tyD d) c)) {s with toks:=tk}):wpAny (model X.prog X.w) A (call (.builtin "isinstance") [u,.type c]) Q E s:=by
 have e:=znJ X.K d c hc ho
 cases vx with
 |non=>cases rx;exact PySem.W.kia_one PySem.W.kitx_none I.kIn True.intro e (λz=>nomatch z) h
 |bl y=>cases rx;exact PySem.W.kia_one PySem.W.kitx_bool I.kIn True.intro e (λz=>nomatch z) h
 |int i=>obtain⟨t,rfl⟩:=rx;exact PySem.W.kia_one PySem.W.kitx_int I.kIn True.intro e (λz=>nomatch z) h
 |str y=>obtain⟨t,rfl⟩:=rx;exact PySem.W.kia_one PySem.W.kitx_str I.kIn True.intro e (λz=>nomatch z) h
 |lst hr rl=>
  cases rx
  obtain⟨its,rv,⟨o,n,h1,h2,_⟩,_⟩:=I.list hr.sq
  exact PySem.W.kia_one PySem.W.kitx_list I.kIn ⟨o,h1,h2⟩ e (λz=>nomatch z) h
 |tup rp hr rl=>
  cases rx
  obtain⟨its,rv,⟨o,h1,h2,_⟩,_⟩:=I.tuple hr
  exact PySem.W.kia_one PySem.W.kitx_tuple I.kIn ⟨o,h1,h2⟩ e (λz=>nomatch z) h
 |dct hr rm=>
  cases rx
  obtain⟨z,hd,vs,rel,⟨o,es,ep,h1,h2,_⟩⟩:=zaa I hk hr
  exact PySem.W.kia_one PySem.W.kitx_dict I.kIn ⟨o,h1,h2.1⟩ e (λz=>nomatch z) h
 |cl=>cases ho
 |ob=>cases ho
end
def zca:List D->Option (List Int)
 | []=>some []
 | .int i::r=>(zca r).bind λs=>some (i::s)
 |_::_=>none
def zlV:List Int->Int
 | []=>0
 |x::r=>r.foldl (λa b=>if a<b then b else a) x
def znh:List Int->Int
 | []=>0
 |x::r=>r.foldl (λa b=>if b<a then b else a) x
theorem zcB:∀(r:List Int) (x:Int),r.foldl (λa b=>if a<b then b else a) x ∈ x::r/\∀a ∈ x::r,a<=r.foldl (λa b=>if a<b then b else a) x
 | [],x=>⟨by simp,by simp⟩
 |y::r,x=>by
  rw[List.foldl_cons]
  obtain⟨h1,h2⟩:=zcB r (if x<y then y else x)
  refine⟨?_,λa ha=>?_⟩
  · rcases zI.mp h1 with e|e
    · rw[e];split<;>simp
    · exact zS _ (zS _ e)
  · have h3:=h2 _ zzB
    rcases zI.mp ha with e|e
    · subst e;exact Int.le_trans (by split<;>omega) h3
    · rcases zI.mp e with e|e
      · subst e;exact Int.le_trans (by split<;>omega) h3
      · exact h2 a (zS _ e)
theorem zbR:∀(r:List Int) (x:Int),r.foldl (λa b=>if b<a then b else a) x ∈ x::r/\∀a ∈ x::r,r.foldl (λa b=>if b<a then b else a) x<=a
 | [],x=>⟨by simp,by simp⟩
 |y::r,x=>by
  rw[List.foldl_cons]
  obtain⟨h1,h2⟩:=zbR r (if y<x then y else x)
  refine⟨?_,λa ha=>?_⟩
  · rcases zI.mp h1 with e|e
    · rw[e];split<;>simp
    · exact zS _ (zS _ e)
  · have h3:=h2 _ zzB
    rcases zI.mp ha with e|e
    · subst e;exact Int.le_trans h3 (by split<;>omega)
    · rcases zI.mp e with e|e
      · subst e;exact Int.le_trans h3 (by split<;>omega)
      · exact h2 a (zS _ e)
theorem zkH{ns:List Int}{M:Int}(h1:M ∈ ns)(h2:∀a ∈ ns,a<=M):zlV ns=M:=by
 cases ns with
 |nil=>simp at h1
 |cons x r=>
  obtain⟨k1,k2⟩:=zcB r x
  have a1:=k2 M h1
  have a2:=h2 _ k1
  show r.foldl _ x=M
  omega
theorem zkB{ns:List Int}{M:Int}(h1:M ∈ ns)(h2:∀a ∈ ns,M<=a):znh ns=M:=by
 cases ns with
 |nil=>simp at h1
 |cons x r=>
  obtain⟨k1,k2⟩:=zbR r x
  have a1:=k2 M h1
  have a2:=h2 _ k1
  show r.foldl _ x=M
  omega
def on1(f:D->Option R0)(ds:List D):Option R0:=match ds with
 | [x]=>f x
 |_=>none
theorem zjc{K:zC}{kd:KD}{O:Addr->Prop}{H:Hp}{f:D->Option R0}{xs:List V}{ds:List D}{r:R0}(vl:VwL K kd O H xs ds)(h:on1 f ds=some r):∃x d,xs=[x]/\Vw K kd O H x d/\f d=some r:=by
 cases vl with
 |nil=>cases h
 |cons a b=>
  cases b with
  |nil=>exact⟨_,_,rfl,a,h⟩
  |cons _ _=>cases h
def zpB:D->Option R0
 | .lst ds=>some (.im (.int ds.length))
 | .tup ds=>some (.im (.int ds.length))
 | .str x=>if x.length<=sizeLine then some (.im (.int x.length))else none
 | .dct kvs=>some (.im (.int kvs.length))
 |_=>none
def yz:List D->Option R0:=on1 zpB
def zpD:D->Option R0
 | .int i=>some (.im (.int i))
 | .bl b=>some (.im (.int (if b then 1 else 0)))
 |_=>none
def zjR:List D->Option R0
 | [.int i]=>if i.natAbs.log2<1920 then some (.im (.str (toString i)))else none
 |_=>none
def tupP:List D->Option R0
 | [.lst ds]=>some (.im (.tup ds))
 | [.tup ds]=>some (.im (.tup ds))
 |_=>none
def zjF(ds:List D):Option R0:=match ds with
 | [x,y]=>onI (λi j=>some (.im (.int (if j > i then j else i)))) x y
 | [x]=>(asL x).bind λds=>(zca ds).bind λns=>if 0<ns.length then some (.im (.int (zlV ns)))else none
 |_=>none
def zhb:List D->Option R0
 | [.int i,.int j]=>some (.im (.int (if j<i then j else i)))
 | [.lst ds]=>(zca ds).bind λns=>if 0<ns.length then some (.im (.int (znh ns)))else none
 |_=>none
theorem Zc{K:zC}{kd:KD}{O:Addr->Prop}{H:Hp}{xs:List V}{d:D}(h:VwL K kd O H xs [d]):∃x,xs=[x]/\Vw K kd O H x d:=by
 cases h with
 |cons a b=>cases b;exact⟨_,rfl,a⟩
theorem zjW{K:zC}{kd:KD}{O:Addr->Prop}{H:Hp}{xs:List V}{d e:D}(h:VwL K kd O H xs [d,e]):∃x y,xs=[x,y]/\Vw K kd O H x d/\Vw K kd O H y e:=by
 cases h with
 |cons a b=>
  cases b with
  |cons b c=>cases c;exact⟨_,_,rfl,a,b⟩
theorem zdM{K:zC}{kd:KD}{O:Addr->Prop}{H:Hp}{vs:List V}{ds:List D}{ns:List Int}(h:RpL K kd O H vs ds)(e:zca ds=some ns):vs=ns.map V.int:=
 RpL.ind (P:=λvs ds=>∀ns,zca ds=some ns->vs=ns.map V.int) (λns e=>by cases e;rfl) (λ{v d vs ds} a _ ih ns e=>by
  cases d with
  |int i=>
   obtain⟨s,h1,h2⟩:=bS_ (show(zca _).bind _=_ from e)
   cases h2
   cases a
   rw[ih _ h1]
   rfl
  |_=>cases e) h ns e
section
variable{X:Cx}{kd:KD}
theorem yg(hk:KdOk X kd):CallD X kd (.builtin "len") yz:=by
 intro pins s σ H xs us Q I r h
 obtain⟨O,ds,z,ht,vl,he,q⟩:=h
 obtain⟨x,d,rfl,vx,he⟩:=zjc vl he
 cases vx with
 |lst hr rl=>cases he;exact W9 pins s σ H _ us Q I r ⟨_,_,rfl,.inl hr.sq,by rw[rl.length];exact yj q (.int _)⟩
 |tup rp hr rl=>cases he;exact W9 pins s σ H _ us Q I r ⟨_,_,rfl,.inr hr,by rw[rl.length];exact yj q (.int _)⟩
 |str y=>
  obtain⟨c,rfl⟩:=zR he
  exact zde pins s σ H _ us Q I r ⟨_,rfl,c,yj q (.int _)⟩
 |dct hr rm=>
  cases he
  obtain⟨u,rfl,ru⟩:=vals1 r
  cases ru
  obtain⟨z,hd,vs,rel,dd⟩:=zaa I hk hr
  refine call_len_dict hd dd (by rw[<-rel.length];rw[sizeLine_eq]at z;omega) ?_
  rw[<-rel.length,rm.length]
  exact⟨.int _,H,I.tok _,⟨_,rfl⟩,yj q (.int _)⟩
 |_=>cases he
theorem zhi:CallD X kd (.type "str") zjR:=by
 intro pins s σ H xs us Q I r h
 obtain⟨O,ds,z,ht,vl,he,q⟩:=h
 unfold zjR at he
 split at he
 · obtain⟨c,rfl⟩:=zR he
   obtain⟨x,rfl,vx⟩:=Zc vl
   cases vx
   exact zcS pins s σ H _ us Q I r ⟨_,rfl,c,yj q (.str _)⟩
 · cases he
theorem Xf:CallD X kd (.type "tuple") tupP:=by
 intro pins s σ H xs us Q I r h
 obtain⟨O,ds,z,ht,vl,he,q⟩:=h
 unfold tupP at he
 split at he
 · cases he
   obtain⟨x,rfl,vx⟩:=Zc vl
   cases vx with
   |lst hr rl=>exact Xx pins s σ H _ us Q I r ⟨_,_,rfl,.inl ⟨hr.sq,zdA ht q rl⟩⟩
 · cases he
   obtain⟨x,rfl,vx⟩:=Zc vl
   cases vx with
   |tup rp hr rl=>exact Xx pins s σ H _ us Q I r ⟨_,_,rfl,.inr ⟨hr,yj q rp⟩⟩
 · cases he
theorem zhB(hc:X.calm=true):CallD X kd (.builtin "max") zjF:=by
 intro pins s σ H xs us Q I r h
 obtain⟨O,ds,z,ht,vl,he,q⟩:=h
 cases vl with
 |nil=>cases he
 |cons vx vl=>
  cases vl with
  |nil=>
   obtain⟨ds,h0,he⟩:=bS_ (show(asL _).bind _=_ from he)
   cases zfm h0
   obtain⟨ns,h1,he⟩:=bS_ he
   obtain⟨c,rfl⟩:=zR he
   cases vx with
   |lst hr rl=>
    obtain⟨u,rfl,ru⟩:=vals1 r
    cases ru
    obtain⟨its,rv,p,_⟩:=I.list hr.sq
    rw[zdM rl h1]at rv
    have hi:=intsAre_of rv
    obtain⟨ys,e⟩:=hi.allInts.items
    have hns:ns=ys.toList.map (·.1):=by rw[<-hi.numsOf,<-nums_intItems,<-e]
    have hsz:0<ys.size:=by
     have h3:=c;rw[hns,zD,zyP]at h3;exact h3
    have hl:=p.isList
    rw[e]at hl
    refine max_intList (I.ok.hd hc) hl hsz λv h' tk hv kp=>?_
    obtain⟨t,rfl⟩:=intItems_at hv
    obtain⟨k1,k2⟩:=argBest_gt (numAt ys) (ys.size-1)
    refine⟨.int (zlV ns),H,I.kept kp,⟨t, ?_⟩,yj q (.int _)⟩
    congr 1
    refine(zkH ?_ λa ha=>?_).symm
    · rw[hns,numAt_eq]
      have hlt:argBest (λi j=>decide (numAt ys i > numAt ys j)) (ys.size-1)<(ys.toList.map (·.1)).length:=by rw[zD,zyP];omega
      rw[zyB,zzA hlt]
      exact zyW hlt
    · rw[hns]at ha
      obtain⟨j,hj,rfl⟩:=List.getElem_of_mem ha
      have hj':=hj
      rw[zD,zyP]at hj
      have:=k2 j (by omega)
      rw[numAt_eq ys j,zyB,zzA hj']at this
      exact this
  |cons vy vl=>
   cases vl with
   |nil=>
    obtain⟨i,j,rfl,rfl,he⟩:=Ym vx vy he
    cases he
    exact zhg hc pins s σ H _ us Q I r ⟨_,_,rfl,yj q (.int _)⟩
   |cons _ _=>cases he
theorem zho(hc:X.calm=true):CallD X kd (.builtin "min") zhb:=by
 intro pins s σ H xs us Q I r h
 obtain⟨O,ds,z,ht,vl,he,q⟩:=h
 unfold zhb at he
 split at he
 · cases he
   obtain⟨x,y,rfl,vx,vy⟩:=zjW vl
   cases vx;cases vy
   exact zgU hc pins s σ H _ us Q I r ⟨_,_,rfl,yj q (.int _)⟩
 · obtain⟨ns,h1,he⟩:=bS_ he
   obtain⟨c,rfl⟩:=zR he
   obtain⟨x,rfl,vx⟩:=Zc vl
   cases vx with
   |lst hr rl=>
    obtain⟨u,rfl,ru⟩:=vals1 r
    cases ru
    obtain⟨its,rv,p,_⟩:=I.list hr.sq
    rw[zdM rl h1]at rv
    have hi:=intsAre_of rv
    obtain⟨ys,e⟩:=hi.allInts.items
    have hns:ns=ys.toList.map (·.1):=by rw[<-hi.numsOf,<-nums_intItems,<-e]
    have hsz:0<ys.size:=by
     have h3:=c;rw[hns,zD,zyP]at h3;exact h3
    have hl:=p.isList
    rw[e]at hl
    refine min_intList (I.ok.hd hc) hl hsz λv h' tk hv kp=>?_
    obtain⟨t,rfl⟩:=intItems_at hv
    obtain⟨k1,k2⟩:=argBest_lt (numAt ys) (ys.size-1)
    refine⟨.int (znh ns),H,I.kept kp,⟨t, ?_⟩,yj q (.int _)⟩
    congr 1
    refine(zkB ?_ λa ha=>?_).symm
    · rw[hns,numAt_eq]
      have hlt:argBest (λi j=>decide (numAt ys i<numAt ys j)) (ys.size-1)<(ys.toList.map (·.1)).length:=by rw[zD,zyP];omega
      rw[zyB,zzA hlt]
      exact zyW hlt
    · rw[hns]at ha
      obtain⟨j,hj,rfl⟩:=List.getElem_of_mem ha
      have hj':=hj
      rw[zD,zyP]at hj
      have:=k2 j (by omega)
      rw[numAt_eq ys j,zyB,zzA hj']at this
      exact this
 · cases he
end
def ww(env:Env):List (Str×NameKind)->List (Str×Addr)->List (Str×Addr)
 | [],cs=>cs
 |(n,k)::r,cs=>ww env r (if k == .free then((n,(env.cells.lookup n).getD 0)::cs)else cs)
theorem zbD{scope:Scope}{env:Env}(h:∀x ∈ scope.names,x.2 = .free->∃c,env.cells.lookup x.1=some c):closureFor scope env=pure (ww env scope.names []):=by
 have go:∀(names:List (Str×NameKind)) (cs:List (Str×Addr)) (f:Str×NameKind->List (Str×Addr)->Sem (ForInStep (List (Str×Addr)))),
  (∀name kind cs,f (name,kind) cs=if kind == .free then(do let a <-cellOf env name;pure (.yield ((name,a)::cs)))else pure (.yield cs))->
  (∀x ∈ names,x.2 = .free->∃c,env.cells.lookup x.1=some c)->(forIn names cs f:Sem (List (Str×Addr)))=pure (ww env names cs):=by
  intro names
  induction names with
  |nil=>intro cs f _ _;rfl
  |cons x r ih=>
   intro cs f hf hx
   obtain⟨n,k⟩:=x
   rw[List.forIn_cons,hf]
   unfold ww
   by_cases hk:(k == .free)=true
   · obtain⟨c,hc⟩:=hx (n,k) zzB (by simpa using hk)
     rw[if_pos hk,if_pos hk]
     have e:cellOf env n=pure c:=by unfold cellOf;rw[hc]
     rw[e,hc]
     exact ih _ f hf λy hy=>hx y (zS _ hy)
   · rw[if_neg hk,if_neg hk]
     exact ih _ f hf λy hy=>hx y (zS _ hy)
 simp only[closureFor]
 rw[go scope.names [] _ (λname kind cs=>?_) h]
 · rfl
 · rfl
theorem zcs{env:Env}:∀(names:List (Str×NameKind)) (cs:List (Str×Addr)) (p:Str×Addr),p ∈ ww env names cs->p ∈ cs\/((p.1,NameKind.free) ∈ names/\p.2=(env.cells.lookup p.1).getD 0)
 | [],_,_,h=>.inl h
 |(n,k)::r,cs,p,h=>by
  unfold ww at h
  rcases zcs r _ p h with h|h
  · by_cases hk:(k == .free)=true
    · rw[if_pos hk]at h
      rcases zI.mp h with e|h
      · subst e
        have:k = .free:=by simpa using hk
        subst this
        exact .inr ⟨zzB,rfl⟩
      · exact .inl h
    · rw[if_neg hk]at h;exact .inl h
  · exact .inr ⟨zS _ h.1,h.2⟩
theorem zbf{env:Env}:∀(names:List (Str×NameKind)) (cs:List (Str×Addr)) (p:Str×Addr),p ∈ cs->p ∈ ww env names cs
 | [],_,_,h=>h
 |(n,k)::r,cs,p,h=>by
  unfold ww
  refine zbf r _ p ?_
  split
  · exact zS _ h
  · exact h
theorem zbV{env:Env}:∀(names:List (Str×NameKind)) (cs:List (Str×Addr)) (x:Str),(x,NameKind.free) ∈ names->(x,(env.cells.lookup x).getD 0) ∈ ww env names cs
 |(n,k)::r,cs,x,h=>by
  unfold ww
  rcases zI.mp h with e|h
  · cases e
    exact zbf r _ _ (by simp)
  · exact zbV r _ x h
theorem ZG{α:Type}{x:Str}{a:α}:∀{l:List (Str×α)},(∀p ∈ l,p.1=x->p.2=a)->(∃b,(x,b) ∈ l)->l.lookup x=some a
 | [],_,h=>by obtain⟨_,h⟩:=h;cases h
 |(k,v)::r,u,h=>by
  rw[List.lookup_cons]
  cases hb:x==k with
  |true=>
   have:=u (k,v) zzB (beq_iff_eq.mp hb).symm
   exact congrArg some this
  |false=>
   refine ZG (λp hp=>u p (zS _ hp)) ?_
   obtain⟨b,h⟩:=h
   rcases zI.mp h with e|h
   · cases e;simp at hb
   · exact⟨b,h⟩
theorem VG:∀(names:List (Str×NameKind)) (h:Heap) (acc:List (Str×Addr)) (p:Str×Addr),p ∈ cellsFrom h.objs.size names acc->
 p ∈ acc\/((p.1,NameKind.cell) ∈ names/\(pushCells h names).IsCell p.2 none/\h.objs.size<=p.2)
 | [],_,_,_,m=>.inl m
 |(n,k)::r,h,acc,p,m=>by
  unfold cellsFrom at m
  unfold pushCells
  split at m
  · rename_i hk
    rw[if_pos hk]
    have e:(h.push {cls:=.type "cell",data:=.cell none}).objs.size=h.objs.size+1:=zxN ..
    rw[<-e]at m
    rcases VG r _ _ p m with m|⟨m1,m2,m3⟩
    · rcases zI.mp m with e2|m
      · subst e2
        have:k = .cell:=by simpa using hk
        subst this
        refine .inr ⟨zzB, ?_,zzJ _⟩
        have z:(h.push {cls:=.type "cell",data:=.cell none}).IsCell h.objs.size none:=⟨_,zxG _ rfl,rfl⟩
        exact z.keeps (pushCells_keeps r _)
      · exact .inl m
    · exact .inr ⟨zS _ m1,m2,by rw[e]at m3;omega⟩
  · rename_i hk
    rw[if_neg hk]
    rcases VG r h acc p m with m|⟨m1,m2,m3⟩
    · exact .inl m
    · exact .inr ⟨zS _ m1,m2,m3⟩
theorem Yl:∀(names:List (Str×NameKind)) (n:Nat) (acc:List (Str×Addr)) (p:Str×Addr),p ∈ acc->p ∈ cellsFrom n names acc
 | [],_,_,_,m=>m
 |(_,k)::r,n,acc,p,m=>by
  unfold cellsFrom
  split
  · exact Yl r _ _ p (zS _ m)
  · exact Yl r _ _ p m
theorem Vj:∀(names:List (Str×NameKind)) (n:Nat) (acc:List (Str×Addr)) (x:Str),(x,NameKind.cell) ∈ names->∃c,(x,c) ∈ cellsFrom n names acc
 |(y,k)::r,n,acc,x,m=>by
  unfold cellsFrom
  rcases zI.mp m with e|m
  · cases e
    rw[if_pos (by decide)]
    exact⟨n,Yl r _ _ _ zzB⟩
  · split
    · exact Vj r _ _ x m
    · exact Vj r _ _ x m
theorem Vx:∀(names:List (Str×NameKind)) (n:Nat) (acc:List (Str×Addr)),(∀p ∈ acc,p.2<n)->(∀p ∈ acc,∀q ∈ acc,p.2=q.2->p.1=q.1)->∀p ∈ cellsFrom n names acc,∀q ∈ cellsFrom n names acc,p.2=q.2->p.1=q.1
 | [],_,_,_,h=>h
 |(y,k)::r,n,acc,lt,h=>by
  unfold cellsFrom
  split
  · refine Vx r (n+1) _ (λp m=>?_) (λp m q m' e=>?_)
    · rcases zI.mp m with z|m
      · subst z;exact Nat.lt_succ_self _
      · exact zyX (lt p m)
    · rcases zI.mp m with z|m
      · rcases zI.mp m' with z'|m'
        · rw[z,z']
        · subst z;have:=lt q m';rw[<-e]at this;exact absurd this (Nat.lt_irrefl _)
      · rcases zI.mp m' with z'|m'
        · subst z';have:=lt p m;rw[e]at this;exact absurd this (Nat.lt_irrefl _)
        · exact h p m q m' e
  · exact Vx r n acc lt h
section
variable{M:Model}{A:Around}{E:Value->Shared->Prop}{s:Shared}
def Yz(scope:Scope)(env:Env)(cl:List (Str×Addr))(L:Addr):Env:=
 {scope:=relabel scope env,locals:=L,globals:=env.globals,cells:=cellsFrom (L+1) scope.names cl,qual:=env.qual,func:=none,code:=env.code,frame:=env.frame,builtins:=env.builtins}
theorem zdm{scope:Scope}{env:Env}{cl:List (Str×Addr)}{Q:Env->Shared->Prop}
 (h:∀h' env',{env' with scope:=relabel scope env}=Yz scope env cl s.heap.objs.size->env'.locals=s.heap.objs.size->(∀b o,s.heap.get? b=some o->h'.get? b=some o)->h'.Ns s.heap.objs.size (λ_=>none)->
  (∀p ∈ cellsFrom (s.heap.objs.size+1) scope.names cl,p ∈ cl\/((p.1,NameKind.cell) ∈ scope.names/\h'.IsCell p.2 none/\s.heap.objs.size+1<=p.2))->Q env' {s with heap:=h'}):
 wpAny M A (newFunctionEnv scope env.globals cl [] env.qual none .none (some env)) Q E s:=by
 simp only[newFunctionEnv,Option.isSome_some,if_true]
 refine zxC (wpAny_alloc ?_)
 refine zxC (wpAny_layCells _ (λname kind cells=>by cases hkc:kind==NameKind.cell<;>simp[hkc]) _ _ _ _ ?_)
 have e:(s.heap.push {cls:=.type "dict",data:=.dict #[]}).objs.size=s.heap.objs.size+1:=zxN ..
 refine zxC (zxD (zxD (h _ _ ?_ rfl (λb o q=>pushCells_keeps _ _ b o (zxE _ q)) ((Heap.Ns.new s.heap (.type "dict")).keeps (pushCells_keeps _ _)) λp m=>?_)))
 · unfold Yz
   rw[<-e]
 · rw[<-e]at m
   rcases VG _ _ _ p m with m|⟨m1,m2,m3⟩
   · exact .inl m
   · exact .inr ⟨m1,m2,by rw[e]at m3;exact m3⟩
end
abbrev vY(X:Cx)(N:List Str)(scope:Scope)(cl:List (Str×Addr))(s:Shared)(H:Hp)(fp:List Addr):Cx:=
 {X with N:=N,s₀:=s,H₀:=H,env:=Yz scope X.env cl (s.heap.objs.size+1),outer:=X.stack,ex:=fp,fn:=λx=>scope.names.lookup x==some .cell,pn:=[],xe:=λ_ _=>False}
def znS(σ:St):Option Nat->Option V
 |none=>none
 |some j=>(σ[j]?).getD none
def wL(cap:List (Option Nat))(σ:St):St:=cap.map (znS σ)
def zcm(N XN:List Str)(names:List (Str×NameKind))(envNames:List (Str×NameKind))(cap:List (Option Nat)):Bool:=
 N.length==cap.length&&(N.zip cap).all (λp=>match p.2 with|none=>true|some j=>XN[j]? == some p.1&&names.contains (p.1,NameKind.free)) &&
 names.all (λp=>p.2 != .free||envNames.lookup p.1==some .cell||envNames.lookup p.1==some .free)&&decide (names.map (·.1)).Nodup
def PTs(X:Cx)(ifs:List Expr)(t:TT):Prop:=
 ∀(pins:List (Addr×Obj)) (s:Shared) (σ:St) (H:Hp) (Q:Bool->Hp->Prop),Inv X pins σ H s->t σ H Q->
  wpAny (model X.prog X.w) X.A (forIn ifs true λc r=>if r=true then do let ok <-isTrue c X.env (eval c X.env);pure (ForInStep.yield ok)else pure (ForInStep.yield r)) (TP X pins σ Q) X.xe s
theorem zkW{X:Cx}:PTs X [] (λ_ H Q=>Q true H):=λpins s σ H Q I h=>wpAny_tests_nil ⟨H,I,h⟩
theorem zjO{X:Cx}{c:Expr}{t:TT}(h:PT X c t):PTs X [c] t:=λpins s σ H Q I q=>wpAny_tests_one (h pins s σ H Q I q)
def zly(wi:TI)(cap:List (Option Nat))(g:TG)(tt:TT)(te:TE):TE:=λσ H Q=>wi σ H λJ H1=>∃W:Nat->Nat->List V->Hp->Prop,(∃m,W 0 m [] H1)/\∀i m ys H,W i m ys H->ys.length<=sizeLine/\
 ((J.stop i H/\∀p,H p=none->Q (.ref p) (upd H p (.lst ys)))\/(J.go i H/\∀x H',J.yld i H x H'->g x (wL cap σ) H' λσ2 H2=>(∀(j:Nat) v,(wL cap σ)[j]? = some (some v)->σ2[j]? = some (some v))/\
   tt σ2 H2 λb H3=>if b=true then ys.length<sizeLine/\te σ2 H3 λy H4=>∃m',m'<m/\W (i+1) m' (ys++[y]) H4 else ∃m',m'<m/\W (i+1) m' ys H3))
section
variable{prog:Program}{w:World}{A:Around}{E:Value->Shared->Prop}{R:Result->Shared->Prop}{s:Shared}
theorem zcR{elt target iter:Expr}{ifs:List Expr}{scope:Scope}{pos:Pos}{it acc:Value}{env:Env}(I:Nat->Shared->Prop)
 (turn:∀n s (E:Value->Shared->Prop),I n s->wpAny (model prog w) A (pyNext it) (λr s₁=>match r with
  |none=>R (.ok .next) s₁
  |some v=>wpAny (model prog w) A (letOwnedTupleGo target it v) (λ_ s₁=>wpAny (model prog w) A (assign target env v) (λ_ s₂=>
   wpAny (model prog w) A (forIn ifs true λc r=>if r=true then do let ok <-isTrue c env (eval c env);pure (ForInStep.yield ok)else pure (ForInStep.yield r)) (λok s₃=>
    if ok=true then wpAny (model prog w) A (eval elt env) (λx s₄=>
     wpAny (model prog w) A (call (.builtin "list.append") [acc,x]) (λ_ s₅=>∃m,m<n/\I m s₅) E s₄) E s₃
    else ∃m,m<n/\I m s₃) E s₂) E s₁) E s₁) E s)
 (n:Nat) (h:I n s):
 codeAny (model prog w) A (.compLoop (.ListComp elt [⟨target,iter,ifs,0⟩] scope pos) 0 it acc env) R s:=by
 refine codeAny_loop rfl I (λn s hI=>?_) n h
 show wpAny _ A ((compTurn (.ListComp elt [⟨target,iter,ifs,0⟩] scope pos) 0 it acc env).onRaise (λx=>do noteFrame x env;theTreesLotGoes x)) _ _ s
 refine wpAny_noted ?_
 rw[compTurn_list]
 refine zxC (wpAny_standAt (zxC (zxP (turn n s _ hI) (λr s₁ h₁=>?_) λ_ _ h'=>h')))
 cases r with
 |none=>exact zxD h₁
 |some v=>
  refine zxC (zxP h₁ (λ_ s₁ h₁=>?_) λ_ _ h'=>h')
  refine zxC (zxP h₁ (λ_ s₂ h₂=>zxC (zxP h₂ (λok s₃ h₃=>?_) λ_ _ h'=>h')) λ_ _ h'=>h')
  cases ok with
  |false=>exact zxD ⟨rfl,h₃⟩
  |true=>
   exact zxC (zxC (zxP h₃ (λx s₄ h₄=>zxC (zxP h₄ (λ_ s₅ h₅=>zxD (zxD ⟨rfl,h₅⟩)) λ_ _ h'=>h')) λ_ _ h'=>h'))
end
structure CapOk(N XN:List Str)(names:List (Str×NameKind))(envNames:List (Str×NameKind))(cap:List (Option Nat)):Prop where
 len:N.length=cap.length
 at_:∀(i:Nat) x (j:Nat),N[i]? = some x->cap[i]? = some (some j)->XN[j]? = some x/\(x,NameKind.free) ∈ names
 fr:∀p ∈ names,p.2 = .free->envNames.lookup p.1=some .cell\/envNames.lookup p.1=some .free
 nd:(names.map (·.1)).Nodup
theorem ziK{N XN:List Str}{names envNames:List (Str×NameKind)}{cap:List (Option Nat)}(h:zcm N XN names envNames cap=true):CapOk N XN names envNames cap:=by
 unfold zcm at h
 simp only[zzY,beq_iff_eq,List.all_eq_true,decide_eq_true_eq]at h
 obtain⟨⟨⟨h1,h2⟩,h3⟩,h4⟩:=h
 refine⟨h1,λi x j e1 e2=>?_,λp hp e=>?_,h4⟩
 · have m:(x,some j) ∈ N.zip cap:=zzW (i:=i) (by rw[List.getElem?_zip_eq_some];exact⟨e1,e2⟩)
   have:=h2 _ m
   simp only[zzY,beq_iff_eq]at this
   exact⟨this.1,by simpa using this.2⟩
 · have:=h3 p hp
   rw[e]at this
   simpa using this
theorem zcP{names:List (Str×NameKind)}(h:(names.map (·.1)).Nodup){x:Str}{k k':NameKind}(m:(x,k) ∈ names)(m':(x,k') ∈ names):k=k':=by
 induction names with
 |nil=>cases m
 |cons p r ih=>
  obtain⟨h1,h2⟩:=zzS.mp (show(p.1::r.map (·.1)).Nodup from h)
  rcases zI.mp m with e|m
  · rcases zI.mp m' with e'|m'
    · rw[<-e]at e';cases e';rfl
    · exact absurd (List.mem_map.mpr ⟨_,m',by rw[<-e]⟩) h1
  · rcases zI.mp m' with e'|m'
    · exact absurd (List.mem_map.mpr ⟨_,m,by rw[<-e']⟩) h1
    · exact ih h2 m m'
theorem zce{names:List (Str×NameKind)}(h:(names.map (·.1)).Nodup){x:Str}{k:NameKind}(m:(x,k) ∈ names):names.lookup x=some k:=
 ZG (λp hp e=>by obtain⟨y,k'⟩:=p;cases(show y=x from e);exact zcP h hp m) ⟨k,m⟩
theorem YB{env:Env}{scope:Scope}(x:Str):(relabel scope env).names.lookup x=(scope.names.lookup x).map λk=>if(k == .free&&env.scope.kind == .function&&env.kindOf x==some .cell)=true then NameKind.cell else k:=by
 unfold relabel
 show(scope.names.map _).lookup x=_
 generalize scope.names=names
 induction names with
 |nil=>rfl
 |cons p r ih=>
  obtain⟨n,k⟩:=p
  rw[zyO,List.lookup_cons (k:=n) (as:=r)]
  cases hb:x==n with
  |true=>
   have e:x=n:=beq_iff_eq.mp hb
   subst e
   show List.lookup x ((if(k==NameKind.free&&env.scope.kind == .function&&env.kindOf x==some .cell)=true then(x,NameKind.cell)else(x,k))::_)=_
   show _=some (if(k==NameKind.free&&env.scope.kind == .function&&env.kindOf x==some .cell)=true then NameKind.cell else k)
   split
   · rw[List.lookup_cons,hb]
   · rw[List.lookup_cons,hb]
  |false=>
   show List.lookup x ((if(k==NameKind.free&&env.scope.kind == .function&&env.kindOf n==some .cell)=true then(n,NameKind.cell)else(n,k))::_)=_
   split
   · rw[List.lookup_cons,hb];exact ih
   · rw[List.lookup_cons,hb];exact ih
theorem zfr{X:Cx}{pins:List (Addr×Obj)}{σ:St}{H:Hp}{s:Shared}{N:List Str}{scope:Scope}{cap:List (Option Nat)}{fp:List Addr}{h':Heap}(I:Inv X pins σ H s)(C:CapOk N X.N scope.names X.env.scope.names cap)(hk:scope.kind = .function)
 (hf:∀b ∈ fp,zae X pins H b) (ho:∀b ∈ fp,∃o,s.heap.get? b=some o)
 (old:∀b o,s.heap.get? b=some o->h'.get? b=some o) (ns:h'.Ns (s.heap.objs.size+1) (λ_=>none))
 (hc:∀p ∈ cellsFrom (s.heap.objs.size+1+1) scope.names (ww X.env scope.names []),p ∈ ww X.env scope.names []\/((p.1,NameKind.cell) ∈ scope.names/\h'.IsCell p.2 none/\s.heap.objs.size+1+1<=p.2)):
 Inv (vY X N scope (ww X.env scope.names []) s H fp) [] (wL cap σ) H {s with heap:=h'}:=by
 have has:∀x,(x,NameKind.free) ∈ scope.names->∃c,X.env.cells.lookup x=some c:=λx m=>I.ok.has x (C.fr _ m rfl)
 have clo:∀p ∈ ww X.env scope.names [],X.env.cells.lookup p.1=some p.2/\(p.1,NameKind.free) ∈ scope.names:=λp m=>by
  rcases zcs _ _ p m with z|⟨z1,z2⟩
  · cases z
  · obtain⟨c,e⟩:=has _ z1
    rw[e]at z2
    exact⟨by rw[e];exact congrArg some z2.symm,z1⟩
 have look:∀x c,(cellsFrom (s.heap.objs.size+1+1) scope.names (ww X.env scope.names [])).lookup x=some c->(X.env.cells.lookup x=some c/\(x,NameKind.free) ∈ scope.names)\/((x,NameKind.cell) ∈ scope.names/\h'.IsCell c none/\s.heap.objs.size+1+1<=c):=λx c e=>by
  rcases hc _ (mem_of_lookup e)with m|m
  · exact .inl (clo _ m)
  · exact .inr m
 have lt:∀x c,X.env.cells.lookup x=some c->c<s.heap.objs.size:=λx c e=>by obtain⟨v,z⟩:=I.cell x c e;exact z.lt
 have lookF:∀x,(x,NameKind.free) ∈ scope.names->∃c,(cellsFrom (s.heap.objs.size+1+1) scope.names (ww X.env scope.names [])).lookup x=some c/\X.env.cells.lookup x=some c:=λx m=>by
  obtain⟨c,e⟩:=has x m
  have m1:=Yl scope.names (s.heap.objs.size+1+1) _ _ (zbV (env:=X.env) scope.names [] x m)
  refine⟨c,ZG (λp hp ep=>?_) ⟨_,m1⟩,e⟩
  rcases hc p hp with z|z
  · have:=(clo p z).1
    rw[ep,e]at this
    exact(zzV this).symm
  · rw[ep]at z
    exact absurd (zcP C.nd z.1 m) (by decide)
 have kinds:∀x,((relabel scope X.env).names.lookup x=some .cell\/(relabel scope X.env).names.lookup x=some .free)->(x,NameKind.free) ∈ scope.names\/(x,NameKind.cell) ∈ scope.names:=λx h=>by
  rw[YB]at h
  cases e:scope.names.lookup x with
  |none=>rw[e]at h;rcases h with h|h<;>cases h
  |some k=>
   have m:=mem_of_lookup e
   cases k with
   |free=>exact .inl m
   |cell=>exact .inr m
   |_=>rw[e]at h;rcases h with h|h<;>(simp at h)
 have lsz:s.heap.objs.size+1<h'.objs.size:=ns.lt
 refine⟨⟨I.ok.mod,hk,I.ok.glob,I.ok.blt,zyT _, ?_, ?_, ?_,I.ok.hd,I.ok.frames,.inl rfl, ?_,I.bs,zzK I.ok.bsz I.sz, ?_, ?_,I.stack,I.stkFree⟩,rfl,I.bare,(Un.kept old),⟨_,ns, ?_⟩, ?_,I.hok.fresh (zyT _), ?_,(λ_ z=>nomatch z),I.hok.kept old, ?_⟩
 · intro x y c e1 e2
   refine Vx scope.names (s.heap.objs.size+1+1) _ (λp m=>?_) (λp m q m' e=>?_) (x,c) (mem_of_lookup e1) (y,c) (mem_of_lookup e2) rfl
   · exact zyX (zyX (lt _ _ (clo p m).1))
   · refine I.ok.inj _ _ _ (clo p m).1 ?_
     rw[e];exact(clo q m').1
 · intro x h
   rcases kinds x h with m|m
   · obtain⟨c,e,_⟩:=lookF x m;exact⟨c,e⟩
   · obtain⟨c,e⟩:=Vj scope.names (s.heap.objs.size+1+1) (ww X.env scope.names []) x m
     cases q:(cellsFrom (s.heap.objs.size+1+1) scope.names (ww X.env scope.names [])).lookup x with
     |some c'=>exact⟨c',q⟩
     |none=>
      exfalso
      have:=List.lookup_eq_none_iff.mp q (x,c) e
      simp at this
 · intro x c hx e
   have hx:(scope.names.lookup x==some .cell)=true:=hx
   have m:=mem_of_lookup (beq_iff_eq.mp hx)
   rcases look x c e with z|z
   · exact absurd (zcP C.nd z.2 m) (by decide)
   · exact zzK (zzK (zyT _) (zyT _)) z.2.2
 · intro b hb
   obtain⟨o,e⟩:=ho b hb
   refine⟨zzM (zyX (zxF e)),λx c ec=>?_⟩
   rcases look x c ec with z|z
   · exact(hf b hb).2.2.2.2.1 x c z.1
   · have:=zxF e
     intro q;subst q
     exact absurd (zzG this (zzK (zzK (zyT _) (zyT _)) z.2.2)) (Nat.lt_irrefl _)
 · intro b o e hb
   rcases(hf b hb).2.2.2.1 with z|z
   · exact I.ok.noex b o e z
   · exact absurd (zzG (zxF e) (zzK I.ok.bsz z)) (Nat.lt_irrefl _)
 · intro b hb hm
   rcases zI.mp (I.stkSub b hm)with z|z
   · exact(hf b hb).2.1 z
   · exact(hf b hb).2.2.1 z
 · intro i x v e1 e2 e3
   have e2:(wL cap σ)[i]? = some (some v):=e2
   unfold wL at e2
   rw[zzE]at e2
   cases ec:cap[i]? with
   |none=>rw[ec]at e2;cases e2
   |some c=>
    cases c with
    |none=>rw[ec]at e2;cases e2
    |some j=>
     rw[ec]at e2
     have e2:(σ[j]?).getD none=some v:=zzV e2
     obtain⟨xn,m⟩:=C.at_ i x j e1 ec
     have es:σ[j]? = some (some v):=by
      cases q:σ[j]? with
      |none=>rw[q]at e2;cases e2
      |some y=>rw[q]at e2;exact congrArg some e2
     have kf:=C.fr _ m rfl
     obtain⟨mm,hn,hl⟩:=I.loc
     obtain⟨u,r,l⟩:=hl j x v xn es (by rcases kf with k|k;exact .inr (.inl k);exact .inr (.inr k))
     refine⟨u,r,.inr ⟨?_, ?_⟩⟩
     · show(relabel scope X.env).names.lookup x=some .cell\/(relabel scope X.env).names.lookup x=some .free
       rw[YB,zce C.nd m]
       show some (if _ then _ else _)=_\/some (if _ then _ else _)=_
       split
       · exact .inl rfl
       · exact .inr rfl
     · obtain⟨c,ec,eo⟩:=lookF x m
       refine⟨c,ec, ?_⟩
       rcases l with⟨k1,_⟩|⟨_,c2,e4,z⟩
       · have k1:X.env.scope.names.lookup x=some .local:=k1
         rcases kf with k|k<;>(rw[k1]at k;cases k)
       · rw[eo]at e4;cases e4
         exact z.keeps old
 · intro x c e
   rcases look x c e with z|z
   · obtain⟨v,q⟩:=I.cell x c z.1;exact⟨v,q.keeps old⟩
   · exact⟨none,z.2.1⟩
 · intro x c e
   rcases look x c e with z|z
   · exact I.freeC x c z.1
   · exact I.hok.fresh (zzK (zzK (zyT _) (zyT _)) z.2.2)
 · show(wL cap σ).length=N.length
   unfold wL
   rw[zD,C.len]
abbrev lobj(its:List Value):Obj:={cls:=.type "list",data:=.seq its.toArray its.length}
section
variable{X:Cx}{pins:List (Addr×Obj)}{σ:St}{H2:Hp}{s2:Shared}{elt tg iter:Expr}{ifs:List Expr}{scope:Scope}{pos:Pos}{N:List Str}{cap:List (Option Nat)}{g:TG}{tt:TT}{te:TE}{wi:TI}
set_option maxHeartbeats 1000000
theorem zfo{J:It}{it:Addr}{fp:List Addr}{tn:Nat->Heap->Prop}{Q:VK}{R:Value->Addr->Result->Shared->Prop}{E:Value->Shared->Prop}
 (hc:X.calm=true) (C:CapOk N X.N scope.names X.env.scope.names cap) (hk:scope.kind = .function)
 (hg:∀cl s H fp,PG (vY X N scope cl s H fp) tg g) (ht:∀cl s H fp,PTs (vY X N scope cl s H fp) ifs tt) (he:∀cl s H fp,PE (vY X N scope cl s H fp) elt te)
 (I2:Inv X pins σ H2 s2) (T:Turn X.prog X.w X.K tg J fp it tn) (st2:tn 0 s2.heap) (f2:∀b ∈ fp,zae X pins H2 b)
 (W:Nat->Nat->List V->Hp->Prop) (m0:Nat) (w0:W 0 m0 [] H2)
 (turn:∀i m ys H,W i m ys H->ys.length<=sizeLine/\((J.stop i H/\∀p,H p=none->Q (.ref p) (upd H p (.lst ys)))\/(J.go i H/\∀x H',J.yld i H x H'->g x (wL cap σ) H' λσ2 H2=>(∀(j:Nat) v,(wL cap σ)[j]? = some (some v)->σ2[j]? = some (some v))/\
  tt σ2 H2 λb H3=>if b=true then ys.length<sizeLine/\te σ2 H3 λy H4=>∃m',m'<m/\W (i+1) m' (ys++[y]) H4 else ∃m',m'<m/\W (i+1) m' ys H3)))
 (fin:∀ys H3 s1 m,Inv X pins σ (upd H3 s2.heap.objs.size (.lst ys)) s1->s1.heap.Ns (s2.heap.objs.size+1) m->zae X pins (upd H3 s2.heap.objs.size (.lst ys)) (s2.heap.objs.size+1)->
  Q (.ref s2.heap.objs.size) (upd H3 s2.heap.objs.size (.lst ys))->R (.ref s2.heap.objs.size) (s2.heap.objs.size+1) (.ok .next) s1):
 wpAny (model X.prog X.w) X.A (newList []) (λacc s₃=>wpAny (model X.prog X.w) X.A (newFunctionEnv scope X.env.globals (ww X.env scope.names []) [] X.env.qual none .none (some X.env)) (λcenv s₄=>
  codeAny (model X.prog X.w) X.A (.compStart (.ListComp elt [⟨tg,iter,ifs,0⟩] scope pos) 0 (.ref it) acc {cenv with scope:=relabel scope X.env}) (R acc cenv.locals) s₄) E s₃) E s2:=by
 refine zxH (zdm λh' env' eE eL old hns hcells=>?_)
 have e1:(s2.heap.push {cls:=.type "list",dict:=none,data:=.seq ([]:List Value).toArray}).objs.size=s2.heap.objs.size+1:=zxN ..
 dsimp only at eE eL old hns hcells
 rw[e1]at eE eL hns hcells
 have hD0:(s2.heap.push {cls:=.type "list",dict:=none,data:=.seq ([]:List Value).toArray}).get? s2.heap.objs.size=some (lobj []):=zxG _ rfl
 have hD:h'.get? s2.heap.objs.size=some (lobj []):=old _ _ hD0
 have old':∀b o,s2.heap.get? b=some o->h'.get? b=some o:=λb o q=>old b o (zxE _ q)
 have fex:∀b ∈ fp,∃o,s2.heap.get? b=some o:=λb hb=>by obtain⟨o,e,_⟩:=T.obj _ _ st2 b hb;exact⟨o,e⟩
 have flt:∀b ∈ fp,b<s2.heap.objs.size:=λb hb=>by obtain⟨o,e⟩:=fex b hb;exact zxF e
 have I':=zfr I2 C hk f2 fex old' hns hcells
 rw[eE,eL]
 generalize hX:vY X N scope (ww X.env scope.names []) s2 H2 fp=X' at I'
 have xP:X'.prog=X.prog:=by rw[<-hX]
 have xw:X'.w=X.w:=by rw[<-hX]
 have xK:X'.K=X.K:=by rw[<-hX]
 have xA:X'.A=X.A:=by rw[<-hX]
 have xe:X'.env=Yz scope X.env (ww X.env scope.names []) (s2.heap.objs.size+1):=by rw[<-hX]
 have xL:X'.env.locals=s2.heap.objs.size+1:=by rw[xe];rfl
 have xfs:X'.fs=frs X.stack:=by rw[<-hX]
 have xex:X'.ex=fp:=by rw[<-hX]
 have xs:X'.s₀=s2:=by rw[<-hX]
 have xH:X'.H₀=H2:=by rw[<-hX]
 have xpn:X'.pn=[]:=by rw[<-hX]
 have xc:X'.calm=true:=by rw[<-hX];exact hc
 have xE:X'.xe=λ_ _=>False:=by rw[<-hX]
 have hg':PG X' tg g:=by rw[<-hX];exact hg _ _ _ _
 have ht':PTs X' ifs tt:=by rw[<-hX];exact ht _ _ _ _
 have he':PE X' elt te:=by rw[<-hX];exact he _ _ _ _
 have H2D:H2 s2.heap.objs.size=none:=I2.hok.fresh (zzJ _)
 have Dfs:s2.heap.objs.size ∉ X'.fs:=by
  rw[xfs]
  intro hm
  rcases zI.mp (I2.stkSub _ hm)with z|z
  · exact absurd I2.lt (by rw[<-z];exact Nat.lt_irrefl _)
  · exact I2.nofs (zzJ _) z
 have DL:s2.heap.objs.size≠X'.env.locals:=by rw[xL];exact zzM (Nat.lt_succ_self _)
 have pinD:∀{σ':St}{H':Hp}{s':Shared}{its:List Value}{ps:List (Addr×Obj)},Inv X' ps σ' H' s'->s'.heap.get? s2.heap.objs.size=some (lobj its)->H' s2.heap.objs.size=none->Inv X' [(s2.heap.objs.size,lobj its)] σ' H' s':=λI e n=>
  I.pins_of λp hp=>by
   cases zzN.mp hp
   exact⟨e,n,DL,Dfs,λv z=>by cases z⟩
 have stat:∀{H':Hp}{its:List Value},(∀b ∈ fp,H' b=none)->∀b ∈ fp,zae X' [(s2.heap.objs.size,lobj its)] H' b:=λhn b hb=>by
  refine⟨hn b hb, ?_, ?_,.inl (by rw[xex];exact hb),(I'.ok.exf b (by rw[xex];exact hb)).2,λp hp=>?_⟩
  · exact(I'.ok.exf b (by rw[xex];exact hb)).1
  · exact I'.ok.exfs b (by rw[xex];exact hb)
  · rw[xpn,List.nil_append]at hp
    cases zzN.mp hp
    exact Nat.ne_of_gt (flt b hb)
 have loop:∀(n:Nat) (s':Shared),(∃i ys its H3,Inv X' [(s2.heap.objs.size,lobj its)] (wL cap σ) H3 s'/\tn i s'.heap/\(∀b ∈ fp,H3 b=none)/\Vals ys its/\W i n ys H3)->
  codeAny (model X.prog X.w) X.A (.compLoop (.ListComp elt [⟨tg,iter,ifs,0⟩] scope pos) 0 (.ref it) (.ref s2.heap.objs.size) (Yz scope X.env (ww X.env scope.names []) (s2.heap.objs.size+1)))
   (R (.ref s2.heap.objs.size) (s2.heap.objs.size+1)) s':=by
  intro n s' h0
  refine zcR (λn s'=>∃i ys its H3,Inv X' [(s2.heap.objs.size,lobj its)] (wL cap σ) H3 s'/\tn i s'.heap/\(∀b ∈ fp,H3 b=none)/\Vals ys its/\W i n ys H3) ?_ n h0
  clear h0 n s'
  rintro n s3 E' ⟨i,ys,its,H3,I3,st3,fr3,rv3,w3⟩
  obtain⟨hz,hstep⟩:=turn i n ys H3 w3
  rcases hstep with⟨stop,qn⟩|⟨go,step⟩
  · have:=T.done X' xP xw xK xc i _ s3 _ H3 E' I3 (stat fr3) st3 stop
    rw[xA]at this
    refine zxP this (λr s4 ⟨hr,I4⟩=>?_) λ_ _ z=>z
    subst hr
    obtain⟨gD,nD,_⟩:=I4.pin (s2.heap.objs.size,lobj its) (by rw[xpn];simp)
    obtain⟨m,hn,_⟩:=I4.loc
    rw[xL]at hn
    have b4:=I4.base
    rw[xfs,xex,xH,xs]at b4
    have nL:H3 (s2.heap.objs.size+1)=none:=by have:=I4.free;rw[xL]at this;exact this
    have neD:∀b o,s2.heap.get? b=some o->b≠s2.heap.objs.size:=λb o e=>zzM (zxF e)
    have neH:∀b u,H2 b=some u->b≠s2.heap.objs.size:=λb u e z=>by rw[z,H2D]at e;cases e
    have ne3:∀b u,H3 b=some u->b≠s2.heap.objs.size:=λb u e z=>by rw[z,nD]at e;cases e
    have hok4:=I4.hok
    rw[xP,xw]at hok4
    refine fin ys H3 s4 m (I2.call' (ch:=fp) ?_ ⟨b4.keep,b4.slot,λb o e n hx=>?_,b4.there,λb xs e=>?_,λb o u e=>?_,λb ps e=>?_⟩ ?_ I4.bare λb hb=>?_) hn (I2.fpOk (zyT _) (by rw[zK (Nat.ne_of_gt (Nat.lt_succ_self _))];exact nL)) (qn _ nD)
    · have:=I4.os;rw[xs]at this;exact this
    · rw[zK (neD b o e)];exact b4.free b o e n hx
    · rw[zK (neH b _ e)];exact b4.tups b xs e
    · rw[zK (neH b _ e)];exact b4.frzs b o u e
    · rw[zK (neH b _ e)];exact b4.tbls b ps e
    · intro b u e
      by_cases hb:b=s2.heap.objs.size
      · subst hb
        rw[zZ]at e
        cases e
        exact⟨hz,its,its.length,rv3,gD⟩
      · rw[zK hb]at e
        exact(hok4 b u e).stay (λc v _ q=>q) (λc q=>by rw[zK (ne3 c _ q)];exact q) λc xs q=>by rw[zK (ne3 c _ q)];exact q
    · obtain⟨f0,f1,f3,f4,f5,f6⟩:=f2 b hb
      exact⟨f4,f1,f5,f6⟩
  · have:=T.item X' xP xw xK xc i _ s3 _ H3 E' I3 (stat fr3) st3 go
    rw[xA]at this
    refine zxP this (λr s4 ⟨u,hr,h4⟩=>?_) λ_ _ z=>z
    subst hr
    refine zxP h4 (λ_ s5 ⟨x,H5,I5,r5,y5,st5,fr5⟩=>?_) λ_ _ z=>z
    have I5':=I5.pinned (stat fr5) (T.obj _ _ st5)
    have h6:=hg' _ s5 _ H5 x u _ I5' r5 (step x H5 y5)
    rw[xP,xw,xA,xe,xE]at h6
    refine zxP h6 (λ_ s6 ⟨σ6,H6,I6,cap6,q6⟩=>?_) λ_ _ z=>z.elim
    have h7:=ht' _ s6 σ6 H6 _ I6 q6
    rw[xP,xw,xA,xe,xE]at h7
    refine zxP h7 (λb s7 ⟨H7,I7,q7⟩=>?_) λ_ _ z=>z.elim
    have keep:∀{H8:Hp}{s8:Shared},Inv X' ([(s2.heap.objs.size,lobj its)]++zaJ fp s5.heap) σ6 H8 s8->Inv X' [(s2.heap.objs.size,lobj its)] (wL cap σ) H8 s8/\tn (i+1) s8.heap/\∀b ∈ fp,H8 b=none:=λ{H8 s8} I8=>by
     refine⟨I8.unpinned.weak ?_ cap6,T.keep _ _ _ st5 λb hb o e=>(I8.pin (b,o) (zzH _ (zzH _ (Ys hb e)))).1,λb hb=>?_⟩
     · rw[I3.len];exact I8.len.symm
     · obtain⟨o,e,d⟩:=T.obj _ _ st5 b hb
       exact(I8.pin (b,o) (zzH _ (zzH _ (Ys hb e)))).2.1
    cases b with
    |false=>
     obtain⟨m',hm,w7⟩:=q7
     obtain⟨k1,k2,k3⟩:=keep I7
     exact⟨m',hm,i+1,ys,its,H7,k1,k2,k3,rv3,w7⟩
    |true=>
     obtain⟨hz2,q7⟩:=q7
     have h8:=he' _ s7 σ6 H7 _ I7 q7
     rw[xP,xw,xA,xe,xE]at h8
     show wpAny _ _ _ _ _ _
     refine zxP h8 (λyv s8 ⟨y,H8,I8,ry,m',hm,w8⟩=>?_) λ_ _ z=>z.elim
     obtain⟨k1,k2,k3⟩:=keep I8
     obtain⟨gD,nD,_⟩:=k1.pin (s2.heap.objs.size,lobj its) (by rw[xpn];simp)
     have hl:=rv3.length
     refine append_at gD (λh9 sb gD9=>?_) (by rw[zzD];omega)
     have I9:Inv X' [] (wL cap σ) H8 {s8 with heap:=h9}:=(k1.pins_of (pins':=[]) (λ_ z=>nomatch z)).turned (t':=s8.toks) (it:=s2.heap.objs.size) (λb o hb e=>(sb.2 b hb).trans e) nD DL (.inr (by rw[xs];exact zzJ _)) (λx c ec z=>by
      obtain⟨v,o,ho,hd⟩:=k1.cell x c ec
      rw[z,gD]at ho
      cases ho
      cases hd) (λp hp=>by rw[xpn]at hp;cases hp)
     have gD9':h9.get? s2.heap.objs.size=some (lobj (its++[yv])):=by
      rw[gD9]
      congr 1
      show({cls:=.type "list",data:=.seq (its.toArray.push yv) (its.length+1)}:Obj)={cls:=.type "list",data:=.seq (its++[yv]).toArray (its++[yv]).length}
      rw[zzF,List.length_singleton,List.push_toArray]
     refine⟨m',hm,i+1,ys++[y],its++[yv],H8,pinD I9 gD9' nD,T.keep _ _ _ k2 λb hb o e=>(sb.2 b (zzM (flt b hb))).trans e,k3,rv3.append (.cons ry .nil),w8⟩
 have start:∃i ys its H3,Inv X' [(s2.heap.objs.size,lobj its)] (wL cap σ) H3 {s2 with heap:=h'}/\tn i h'/\(∀b ∈ fp,H3 b=none)/\Vals ys its/\W i m0 ys H3:=
  ⟨0,[],[],H2,pinD I' hD H2D,T.keep _ _ _ st2 λb hb o e=>old' b o e,λb hb=>(f2 b hb).1,.nil,w0⟩
 exact codeAny_compStart_list (loop m0 _ start) (T.self _ 0 _ _ _ (T.keep _ _ _ st2 λb hb o e=>old' b o e) (loop m0 _ start))
theorem zka(hc:X.calm=true)(hi:PI X tg iter wi)(hk:scope.kind = .function)(hcap:zcm N X.N scope.names X.env.scope.names cap=true)
 (hg:∀cl s H fp,PG (vY X N scope cl s H fp) tg g) (ht:∀cl s H fp,PTs (vY X N scope cl s H fp) ifs tt) (he:∀cl s H fp,PE (vY X N scope cl s H fp) elt te)
 (hs:∀x,foldedSetIterable iter X.env x=pure x):PE X (.ListComp elt [⟨tg,iter,ifs,0⟩] scope pos) (zly wi cap g tt te):=by
 intro pins s σ H Q I h
 have C:=ziK hcap
 rw[eval_ListComp]
 refine wpAny_comprehension_free (use:=none) rfl hs (zbD λx m e=>I.ok.has x.1 (C.fr x m e)) hk (λy m e=>zce C.nd (by rw[<-e];exact m)) ?_
 refine thn (hi pins s σ H _ I h) λv s1 h1=>thn h1 λitv s2 h2=>?_
 obtain⟨it,fp,tn,J,H2,e,I2,T,st2,f2,W,⟨m0,w0⟩,turn⟩:=h2
 subst e
 refine zfo (R:=λacc C r s'=>compPost (model X.prog X.w) X.A X.xe none (EP X pins σ Q) acc C r s') hc C hk hg ht he I2 T st2 f2 W m0 w0 turn λys H3 s3 m I3 hn fl q=>?_
 refine⟨m,hn,λh' sb=>?_⟩
 obtain⟨f0,f1,f3,f4,f5,f6⟩:=fl
 exact⟨.ref s2.heap.objs.size,_,I3.turned (t':=s3.toks) (λb o hb e=>(sb.2 b hb).trans e) f0 f1 f4 f5 f6,rfl,q⟩
end
structure ItC(K:zC)(kd:KD)(F:Addr->Prop)(H:Hp)(J:It)(ds:List It1):Prop where
 all:∀(H2:Hp) (T:Addr->Prop),(∀b u,H b=some u->H2 b=some u)->(∀a,T a->H a=none/\H2 a≠none)->∀i,(i<ds.length->J.go i H2)/\(ds.length<=i->J.stop i H2)/\
  ∀v H3,J.yld i H2 v H3->(∀b o,H2 b=some o->H3 b=some o)/\∀x,ds[i]? = some x->Rp K kd (λa=>x.1=true/\(F a\/T a)) H3 v x.2
def alC(K:zC)(kd:KD)(f:IF):TI:=λσ H R=>∃F B ad as ds as',Rel K kd F B [] ad as σ H/\f as=some (ds,as')/\
 ∀J ad' H',Rel K kd F B [] ad' as' σ H'->Grow (Gw [] ad) H (Gw [] ad') H'->ItC K kd (Lv F B (Gw [] ad') true) H' J ds->R J H'
@[irreducible] def AIc(X:Cx)(kd:KD)(tg iter:Expr)(f:IF):Prop:=PI X tg iter (alC X.K kd f)
section
variable{K:zC}{kd:KD}{F B:Addr->Prop}{G:Addr->Prop}{T:List Addr}{ad:Ad}{as:AS}{σ:St}{H H':Hp}
inductive RpC(K:zC)(kd:KD)(F:Addr->Prop)(H:Hp):List V->List It1->Prop
 |nil:RpC K kd F H [] []
 |cons {v:V}{x:It1}{vs:List V}{ds:List It1}:Rp K kd (λa=>x.1=true/\F a) H v x.2->RpC K kd F H vs ds->RpC K kd F H (v::vs) (x::ds)
theorem Rp.since{Ob:Addr->Prop}{v:V}{d:D}{T:Addr->Prop}(k:∀b u,H b=some u->H' b=some u)(hT:∀a,T a->H a=none)(h:Rp K kd Ob H v d):Rp K kd (Un2 Ob T) H' v d:=
 Rp.grow (F:=Ob) (W:=λ_=>False) (W':=T) (H':=H') ⟨λb u q _=>k b u q,λb z=>.inr (hT b z)⟩ (h.less λa z=>z.elim id False.elim)
end
def zpc(as:AS):Option Nat->Option O
 |none=>none
 |some j=>match as[j]? with
  |some (some (.lf st d))=>some (.lf st d)
  |some (some o)=>some (.lf false o.toD)
  |_=>none
def zaZ(cap:List (Option Nat))(as:AS):AS:=cap.map (zpc as)
def wF(g:GF)(tt:TF)(fe:EF)(as0:AS):List It1->Option (List O)
 | []=>some []
 |x::r=>(g x as0).bind λas1=>(tt as1).bind λb=>if b.1=true then(fe b.2).bind λp=>(toO p.2 p.1).bind λq=>if q.1.str=true then(wF g tt fe as0 r).bind λos=>some (q.1::os)else none
  else wF g tt fe as0 r
def zcr(fi:IF)(cap:List (Option Nat))(g:GF)(tt:TF)(fe:EF):EF:=λas=>(fi as).bind λp=>if p.1.length<=sizeLine then(wF g tt fe (zaZ cap p.2) p.1).bind λos=>some (.ow (.nd .ls os),p.2)else none
def zgO:TF:=λas=>some (true,as)
section
variable{K:zC}{kd:KD}{F B:Addr->Prop}{T:List Addr}{ad:Ad}{as:AS}{σ:St}{H H':Hp}{cap:List (Option Nat)}
theorem zkf(R:Rel K kd F B [] ad as σ H)(k:∀b u,H b=some u->H' b=some u)(hT:∀a ∈ T,H a=none)(hT':∀a ∈ T,H' a≠none):
 Rel K kd (Un2 (Lv F B (Gw [] ad) true) (· ∈ T)) (λ_=>False) [] (λ_=>[]) (zaZ cap as) (wL cap σ) H':=by
 have no:∀a,¬Gw [] (λ_=>[]) a:=λa z=>z.elim (λy=>nomatch y) λ⟨_,y⟩=>nomatch y
 have kn:∀a,H a≠none->H' a≠none:=λa z=>by
  cases e:H a with
  |none=>exact absurd e z
  |some u=>rw[k a u e];simp
 have up:∀{st:Bool}{v:V}{d:D},Rp K kd (λa=>st=true/\Lv F B (Gw [] ad) true a) H v d->Rp K kd (Lv (Un2 (Lv F B (Gw [] ad) true) (· ∈ T)) (λ_=>False) (Gw [] λ_=>[]) st) H' v d:=λ{st v d} h=>by
  have:=Rp.grow (F:=λa=>st=true/\Lv F B (Gw [] ad) true a) (W:=λ_=>False) (W':=(· ∈ T)) (H':=H') ⟨λb u q _=>k b u q,λb z=>.inr (hT b z)⟩ (h.less λa z=>z.elim id False.elim)
  refine this.less λa z=>?_
  rcases z with(⟨z1,z2⟩|z)|z
  · rcases z2 with z2|z2
    · exact .inl ⟨z1,z2⟩
    · exact .inr z2
  · exact z.elim
  · exact(no a z).elim
 refine⟨by unfold zaZ wL;rw[zD,zD],λ_ _=>rfl,λ_=>zyF,(λ_ _ _ z=>nomatch z),zyF,(λ_ _ _ z=>nomatch z),λa z=>z.elim (λy=>kn a (R.trk true a y)) (hT' a),(λ_ z=>z.elim),λa z=>(no a z).elim,λi s e=>?_⟩
 unfold zaZ at e
 rw[zzE]at e
 obtain⟨c,hc,rfl⟩:=Option.map_eq_some_iff.mp e
 have es:(wL cap σ)[i]? = some (znS σ c):=by
  unfold wL
  rw[zzE,hc]
  rfl
 rw[es]
 cases c with
 |none=>rfl
 |some j=>
  show zav _ _ _ _ _ _ (match as[j]? with|some (some (.lf st d))=>some (.lf st d)|some (some o)=>some (.lf false o.toD)|_=>none) _ _
  cases k2:as[j]? with
  |none=>rfl
  |some s0=>
   cases s0 with
   |none=>rfl
   |some o=>
    obtain⟨v,hv,ro⟩:=R.sl j _ k2
    cases o with
    |lf st d=>
     have e0:ad j=[]:=by
      generalize hfp:ad j=fp at ro
      cases ro
      rfl
     rw[e0]at ro
     refine⟨v,by show some ((σ[j]?).getD none)=_;rw[hv];rfl,.lf (up ?_)⟩
     exact(zbB ro).less λa z=>by have zs:st=true:=z.1;show Lv F B (Gw [] ad) st a;rw[zs];exact z.2
    |nd kk os=>exact⟨v,by show some ((σ[j]?).getD none)=_;rw[hv];rfl,.lf (up ((zfC ro).less λa z=>nomatch z.1))⟩
theorem znd{S:List Nat}{fi:IF}{g:GF}{tt:TF}{fe:EF}{Q:VK}(hS:∀i ∈ S,cap[i]? = some none)(h:al K kd (zcr fi cap g tt fe) σ H Q):
 zly (alC K kd fi) cap (alG K kd S g) (alT K kd tt) (al K kd fe) σ H Q:=by
 obtain⟨F,B,ad,as,r,as',R,e,q⟩:=h
 obtain⟨⟨ds,as1⟩,h1,e⟩:=bS_ (show(fi as).bind _=_ from e)
 by_cases hz:ds.length<=sizeLine
 · have e:(if ds.length<=sizeLine then(wF g tt fe (zaZ cap as1) ds).bind λos=>some (RV.ow (.nd .ls os),as1)else none)=some (r,as'):=e
   rw[if_pos hz]at e
   obtain⟨os,h2,e⟩:=bS_ e
   cases e
   refine⟨F,B,ad,as,ds,as',R,h1,λJ ad1 H1 R1 g1 it=>?_⟩
   refine⟨λi m ys H3=>m+i=ds.length/\∃T os1 os2,os=os1++os2/\wF g tt fe (zaZ cap as') (ds.drop i)=some os2/\os1.length<=i/\T.Nodup/\(∀a ∈ T,H1 a=none/\H3 a≠none)/\(∀b u,H1 b=some u->H3 b=some u)/\
    RoL (λ_ v d=>Rp K kd (Un2 (Lv F B (Gw [] ad1) true) (· ∈ T)) H3 v d) (λa=>¬Un2 (Lv F B (Gw [] ad1) true) (· ∈ T) a) H3 ys os1 T,⟨ds.length,rfl,[],[],os,rfl,h2,zzJ _,zyF,(λ_ m=>nomatch m),(λ_ _ z=>z),.nil⟩, ?_⟩
   rintro i m ys H3 ⟨hm,T,os1,os2,eo,ec,hl,tnd,tf,k3,rl⟩
   obtain⟨i1,i2,i3⟩:=it.all H3 (· ∈ T) k3 tf i
   have yl:=rl.length
   refine⟨by omega, ?_⟩
   by_cases hi:i<ds.length
   · refine .inr ⟨i1 hi,λv H4 hy=>?_⟩
     obtain⟨k4,rp⟩:=i3 v H4 hy
     rw[zyM hi]at ec
     obtain⟨as2,e2,ec⟩:=bS_ (show(g _ _).bind _=_ from ec)
     obtain⟨⟨b,as3⟩,e3,ec⟩:=bS_ ec
     have k14:∀b u,H1 b=some u->H4 b=some u:=λb u h=>k4 b u (k3 b u h)
     have kn4:∀a,H3 a≠none->H4 a≠none:=λa z=>by
      cases e:H3 a with
      |none=>exact absurd e z
      |some u=>rw[k4 a u e];simp
     have R4:=zkf (cap:=cap) (T:=T) R1 k14 (λa z=>(tf a z).1) (λa z=>kn4 a (tf a z).2)
     have no:∀a,¬Gw [] (λ_=>[]) a:=λa z=>z.elim (λy=>nomatch y) λ⟨_,y⟩=>nomatch y
     refine⟨_,_,_,_,ds[i],as2,R4,(rp _ (zzA hi)).less λa z=>?_,e2,λσ5 ad5 H5 R5 g5 keep5=>⟨λj w hw=>?_,_,_,ad5,as2,b,as3,R5,e3,λad6 H6 R6 g6=>?_⟩⟩
     · rcases z with(z|z)|z
       · exact z
       · exact z.elim
       · exact(no a z).elim
     · rw[keep5 j λz=>?_]
       · exact hw
       · have:=hS j z
         unfold wL at hw
         rw[zzE,this]at hw
         cases hw
     · -- what stood is kept
       have g46:=g5.trans g6
       have k46:∀b u,H4 b=some u->H6 b=some u:=λb u h=>g46.keep b u h (no b)
       have k36:∀b u,H3 b=some u->H6 b=some u:=λb u h=>k46 b u (k4 b u h)
       have kn6:∀a,H3 a≠none->H6 a≠none:=λa z=>by
        cases e:H3 a with
        |none=>exact absurd e z
        |some u=>rw[k36 a u e];simp
       have up:∀{H7:Hp}{T2:List Addr},(∀b u,H3 b=some u->H7 b=some u)->(∀a ∈ T2,H3 a=none)->RoL (λ_ v d=>Rp K kd (Un2 (Lv F B (Gw [] ad1) true) (· ∈ T++T2)) H7 v d) (λa=>¬Un2 (Lv F B (Gw [] ad1) true) (· ∈ T++T2) a) H7 ys os1 T:=λ{H7 T2} k7 f7=>
        RoL.mono (λst v d r=>(r.since k7 f7).less λa z=>z.elim (λy=>.inl (.inl y)) λy=>(zzI.mp y).elim (λx=>.inl (.inr x)) .inr)
         (λa vs n e=>⟨λz=>z.elim (λy=>n (.inl y)) λy=>(zzI.mp y).elim (λx=>n (.inr x)) λx=>(by have:=f7 a x;rw[this]at e;cases e),k7 _ _ e⟩) (λa _ u h=>k7 a u h) rl
       cases b with
       |false=>
        have:=up (T2:=[]) k36 (λ_ m=>nomatch m)
        rw[zyA]at this
        exact⟨m-1,by omega,by omega,T,os1,os2,eo,ec,Nat.le_succ_of_le hl,tnd,λa z=>⟨(tf a z).1,kn6 a (tf a z).2⟩,λb u h=>k36 b u (k3 b u h),this⟩
       |true=>
        rw[if_pos rfl]at ec
        obtain⟨⟨p,as7⟩,e7,ec⟩:=bS_ ec
        obtain⟨⟨o,as8⟩,e8,ec⟩:=bS_ ec
        by_cases hs:o.str=true
        · have ec:(if o.str=true then(wF g tt fe (zaZ cap as') (ds.drop (i+1))).bind λos=>some (o::os)else none)=some os2:=ec
          rw[if_pos hs]at ec
          obtain⟨os3,e9,ec⟩:=bS_ ec
          cases ec
          refine⟨by omega,_,_,ad6,as3,p,as7,R6,e7,λy T2 ad7 H7 R7 rv7 g7=>?_⟩
          obtain⟨ad8,R8,ro8,le8⟩:=VN R7 rv7 e8
          have g47:=g46.trans g7
          have k47:∀b u,H4 b=some u->H7 b=some u:=λb u h=>g47.keep b u h (no b)
          have k37:∀b u,H3 b=some u->H7 b=some u:=λb u h=>k47 b u (k4 b u h)
          have f42:∀a ∈ T2,H4 a=none:=λa z=>(g47.own a (.inl z)).resolve_left (no a)
          have f32:∀a ∈ T2,H3 a=none:=λa z=>by
             cases e:H3 a with
             |none=>rfl
             |some u=>have:=k4 a u e;rw[f42 a z]at this;cases this
          have rt:=zfs R8 R8.tnd (λa z=>.inl z) ro8 hs
          have ro9:Ro (λ_ v d=>Rp K kd (Un2 (Lv F B (Gw [] ad1) true) (· ∈ T++T2)) H7 v d) (λa=>¬Un2 (Lv F B (Gw [] ad1) true) (· ∈ T++T2) a) H7 y o T2:=
             Ro.mono (λst v d r=>r.less λa z=>z.elim (λy=>.inl (.inl y)) λy=>(zzI.mp y).elim (λx=>.inl (.inr x)) .inr)
              (λa vs n e=>⟨λz=>n (z.elim (λy=>.inl (.inl y)) λy=>(zzI.mp y).elim (λx=>.inl (.inr x)) .inr),e⟩) (λ_ _ _ h=>h) rt.ro
          refine⟨m-1,by omega,by omega,T++T2,os1++[o],os3,by rw[eo,zyZ];rfl,e9,by rw[zzF,List.length_singleton];omega,zxB.mpr ⟨tnd,rt.nd,λa z b z' e=>?_⟩,λa z=>?_,λb u h=>k37 b u (k3 b u h),(up k37 f32).append (RoL.one ro9)⟩
          · subst e
            exact(tf a z).2 (f32 a z')
          · rcases zzI.mp z with z|z
            · refine⟨(tf a z).1, ?_⟩
              cases e:H3 a with
              |none=>exact absurd e (tf a z).2
              |some u=>rw[k37 a u e];simp
            · refine⟨?_,rt.tr a z⟩
              cases e:H1 a with
              |none=>rfl
              |some u=>have:=k3 a u e;rw[f32 a z]at this;cases this
        · have ec:(if o.str=true then(wF g tt fe (zaZ cap as') (ds.drop (i+1))).bind λos=>some (o::os)else none)=some os2:=ec
          rw[if_neg hs]at ec
          cases ec
   · refine .inl ⟨i2 (by omega),λp hp=>?_⟩
     rw[List.drop_eq_nil_of_le (by omega)]at ec
     cases ec
     rw[zyA]at eo
     subst eo
     have pT:p ∉ T:=λz=>(tf p z).2 hp
     have H1p:H1 p=none:=by
      cases e:H1 p with
      |none=>rfl
      |some u=>have:=k3 p u e;rw[hp]at this;cases this
     have kp:∀b u,H3 b=some u->upd H3 p (.lst ys) b=some u:=λb u h=>by rw[zK (yu h hp)];exact h
     obtain⟨R9,g9⟩:=R1.news (T':=p::T) (H':=upd H3 p (.lst ys)) (zzS.mpr ⟨pT,tnd⟩) (λa z=>(zI.mp z).elim (λe=>by rw[e];exact H1p) λz=>(tf a z).1) (λb u h=>kp b u (k3 b u h)) (λa z=>by
      rcases zI.mp z with e|z
      · rw[e,zZ];simp
      · cases e:H3 a with
        |none=>exact absurd e (tf a z).2
        |some u=>rw[kp a u e];simp)
     refine q _ (p::T) ad1 _ R9 (.ls zZ ?_) (g1.trans g9)
     have le:∀st a,Lv F B (Gw (p::T) ad1) st a->Un2 (Un2 (Lv F B (Gw [] ad1) true) (· ∈ T)) (· = p) a:=λst a z=>by
      rcases z with(z|z)|z|z
      · exact .inl (.inl (.inl (.inl ⟨rfl,z.2⟩)))
      · exact .inl (.inl (.inl (.inr z)))
      · exact(zI.mp z).elim .inr λy=>.inl (.inr y)
      · exact .inl (.inl (.inr (.inr z)))
     exact RoL.mono (λst v d r=>(r.since kp (T:=(· = p)) λa z=>by rw[z];exact hp).less (le st)) (λa vs n e=>⟨λz=>(le true a z).elim n λy=>(by rw[y,hp]at e;cases e),kp _ _ e⟩) (λa _ u h=>kp a u h) rl
 · have e:(if ds.length<=sizeLine then(wF g tt fe (zaZ cap as1) ds).bind λos=>some (RV.ow (.nd .ls os),as1)else none)=some (r,as'):=e
   rw[if_neg hz]at e
   cases e
end
section
variable{X:Cx}{kd:KD}{elt tg iter e a b c:Expr}{es ifs:List Expr}{scope:Scope}{pos:Pos}{N:List Str}{cap:List (Option Nat)}{g:GF}{tt:TF}{fe fa fb:EF}{fi:IF}{S:List Nat}{fr:AF}{fd:DF}
theorem zjz:PTs X [] (alT X.K kd zgO):=λpins s σ H Q I h=>by
 obtain⟨F,B,ad,as,b,as',R,e,q⟩:=h
 cases e
 exact zkW pins s σ H Q I (q ad H R Grow.refl)
theorem zjP(h:AT X kd c tt):PTs X [c] (alT X.K kd tt):=by with_unfolding_all exact(zjO h)
theorem zgw(hc:X.calm=true)(hi:AIc X kd tg iter fi)(hk:scope.kind = .function)(hcap:zcm N X.N scope.names X.env.scope.names cap=true)(hS:S.all (λi=>cap[i]? == some none)=true)
 (hg:∀cl s H fp,AG (vY X N scope cl s H fp) kd tg S g) (ht:∀cl s H fp,PTs (vY X N scope cl s H fp) ifs (alT X.K kd tt)) (he:∀cl s H fp,AE (vY X N scope cl s H fp) kd elt fe)
 (hs:∀x,foldedSetIterable iter X.env x=pure x):AE X kd (.ListComp elt [⟨tg,iter,ifs,0⟩] scope pos) (zcr fi cap g tt fe):=by with_unfolding_all exact(yL (zka (g:=alG X.K kd S g) (te:=al X.K kd fe) hc hi hk hcap hg ht he hs) λσ H Q h=>znd (λi m=>by simpa using List.all_eq_true.mp hS i m) h)
theorem yd{k:Nat}{f:Addr}{fdt:FuncData}{ps:List Str}{gg:List (Bool×D)->Option O}{x:Str}{p:Pos}(F:FnOk X.prog X.w X.K X.mg X.base CX0 k f fdt ps (spD X.K kd gg))(hr:Room k X.A)(hg:Gl X x)(hm:X.mg x=some (.ref f))(hk:PySem.W.keepIn X.K (.ref f)=true)
 (hb:Binds X.K fdt ps []) (hx:zdB CX0 X (λ_ _ _=>False)) (ha:AA X kd (e::es) fr) (hdb:(x==("__debug__":Str))=false) (he:starEach (e::es) X.env=(false,eval e X.env)::starEach es X.env) (hpl:(backTo pos (starEach es X.env)).any (·.1)=false):
 AE X kd (.Call (.Name x p) (e::es) [] pos) (zV fr gg):=by with_unfolding_all exact(yL (zkA F hr hg hm hk hb .nil hx ha hdb he hpl) λσ H Q h=>zma h)
theorem yO{id:String}{gg:List D->Option R0}{x:Str}{p:Pos}(hc:CallD X kd (.builtin id) gg)(hg:Gl X x)(hm:X.mg x=none)(hv:bootBuiltins x=some (.builtin id))(ha:AA X kd (e::es) fr)(hn:x≠"__name__")(hdb:(x==("__debug__":Str))=false)
 (he:starEach (e::es) X.env=(false,eval e X.env)::starEach es X.env) (hpl:(backTo pos (starEach es X.env)).any (·.1)=false):AE X kd (.Call (.Name x p) (e::es) [] pos) (fP fr gg):=by with_unfolding_all exact(yL (WN hc hg hm hv ha hn hdb he hpl) λσ H Q h=>alP (λ_ _ _ z=>z) h)
theorem Yo{T:String}{gg:List D->Option R0}{x:Str}{p:Pos}(hc:CallD X kd (.type T) gg)(hg:Gl X x)(hm:X.mg x=none)(hv:bootBuiltins x=some (.type T))(ha:AA X kd (e::es) fr)(hn:x≠"__name__")(hdb:(x==("__debug__":Str))=false)
 (he:starEach (e::es) X.env=(false,eval e X.env)::starEach es X.env) (hpl:(backTo pos (starEach es X.env)).any (·.1)=false):AE X kd (.Call (.Name x p) (e::es) [] pos) (fP fr gg):=by with_unfolding_all exact(yL (zgZ hc hg hm hv ha hn hdb he hpl) λσ H Q h=>alP (λ_ _ _ z=>z) h)
def zhA(fa:EF)(c:String):EF:=λas=>(fa as).bind λp=>(p.1.frz.view p.2).bind λx=>if zeM x.1=true then some (.ow (.lf true (.bl (zch (tyD x.1) c))),p.2)else none
theorem zjl(hk:KdOk X kd):ZV X (.builtin "isinstance") (λxs H Q=>∃x c O d,xs=[x,.ty c]/\Ww c=true/\Vw X.K kd O H x d/\zeM d=true/\Q (.bl (zch (tyD d) c)) H):=by
 intro pins s σ H xs us Q I r h
 obtain⟨x,c,O,d,rfl,hc,vx,ho,q⟩:=h
 cases r with
 |cons r1 r2=>
  cases r2 with
  |cons r2 r3=>
   cases r3
   cases(show _=Value.type c from r2)
   exact znH hk I r1 vx hc ho λtk=>⟨.bl _,H,I.tok tk,rfl,q⟩
theorem ziB{c:String}{x y:Str}{p p2:Pos}(hkd:KdOk X kd)(hc:Ww c=true)(hg:Gl X x)(hm:X.mg x=none)(hv:bootBuiltins x=some (.builtin "isinstance"))(hg2:Gl X y)(hm2:X.mg y=none)(hv2:bootBuiltins y=some (.type c))(ha:AE X kd a fa)
 (hn:x≠"__name__") (hdb:(x==("__debug__":Str))=false) (hn2:y≠"__name__") (hdb2:(y==("__debug__":Str))=false)
 (he:starEach [a,.Name y p2] X.env=(false,eval a X.env)::starEach [.Name y p2] X.env) (he2:starEach [.Name y p2] X.env=(false,eval (.Name y p2) X.env)::starEach [] X.env) (hpl:(backTo pos (starEach [.Name y p2] X.env)).any (·.1)=false):
 AE X kd (.Call (.Name x p) [a,.Name y p2] [] pos) (zhA fa c):=by with_unfolding_all exact(yL (WN (zjl hkd) hg hm hv (yQ ha (yQ (zgH (v:=.ty c) hg2 hm2 hv2 rfl hn2 hdb2) Zo he2) he) hn hdb he hpl) λσ H Q h=>by
 obtain⟨F,B,ad,as,r,as',R,e,q⟩:=h
 obtain⟨⟨p,as1⟩,h1,e⟩:=bS_ (show(fa as).bind _=_ from e)
 obtain⟨⟨d,lv⟩,h2,e⟩:=bS_ e
 obtain⟨ho,e⟩:=zR e
 cases e
 exact vI R h1 λv ad1 H1 R1 rv1 g1=>⟨v,c,_,d,rfl,hc,wz.vw R1 rv1 h2,ho,q _ [] ad1 H1 R1 (.lf (.bl _)) g1⟩)
def Vd:MG:=λos es=>match es with | [o]=>if os.length<sizeLine then some (os++[o],.lf true .non)else none|_=>none
def xR:MG:=λos es=>match es with | [.lf _ (.int i)]=>if -(2 ^ 63)<=i/\i<2 ^ 63 then(seqIndex? i os.length).bind λk=>(os[k]?).bind λo=>some (os.eraseIdx k,o)else none|_=>none
def zdo:MG:=λos es=>match es with | []=>(os[os.length-1]?).bind λo=>some (os.eraseIdx (os.length-1),o)|_=>none
def ZQ(i:Int)(n:Nat):Nat:=if i<0 then(i+(n:Int)).toNat else min i.toNat n
def Xl:MG:=λos es=>match es with | [.lf _ (.int i),o]=>if(-(2 ^ 63)<=i/\i<2 ^ 63)/\os.length<sizeLine then some (os.take (ZQ i os.length)++o::os.drop (ZQ i os.length),.lf true .non)else none|_=>none
theorem zgG{l f fo g:List Addr}(h:l.Nodup)(e:l=f++(fo++g)):((f++g)++fo).Nodup/\∀a ∈ (f++g)++fo,a ∈ l:=by
 subst e
 have p:(f++(fo++g)).Perm ((f++g)++fo):=by
  rw[zyZ]
  exact(List.perm_append_comm).append_left f
 exact⟨p.nodup_iff.mp h,λa m=>p.mem_iff.mpr m⟩
theorem zcI:MuD X kd zgF Vd:=by
 intro F B G l vs ws os es os' o fp fq H Q hH rl rw' hn e k
 unfold Vd at e
 split at e
 · obtain⟨hz,e⟩:=zR e
   cases e
   cases rw' with
   |cons h1 h2=>
    cases h2
    rw[zyA]at hn k
    exact⟨l,vs,_,rfl,rfl,hH,by rw[rl.length];exact hz,k _ _ _ [] (rl.append (RoL.one h1)) (.lf .non) (λa m=>by rwa [zyA]at m) (by rw[zyA];exact hn)⟩
 · cases e
theorem YM:MuD X kd zhD xR:=by
 intro F B G l vs ws os es os' o fp fq H Q hH rl rw' hn e k
 unfold xR at e
 split at e
 · rename_i st i
   split at e
   · rename_i hi
     obtain⟨j,hj,e⟩:=bS_ e
     obtain⟨o1,ho,e⟩:=bS_ e
     cases e
     obtain⟨v,f,fo,gg,hv,hf,ro,r1,r2⟩:=rl.at_ ho
     cases rw' with
     |cons h1 h2=>
      cases h2
      cases h1 with
      |lf rp=>
       cases rp
       rw[zyA,zyA]at hn k
       obtain⟨n1,n2⟩:=zgG hn hf
       refine⟨l,vs,i,j,v,rfl,rfl,hH,hi.1,hi.2,by rw[rl.length];exact hj,hv,k v _ (f++gg) fo ?_ ro n2 n1⟩
       rw[Zn,Zn]
       exact r1.append r2
   · cases e
 · cases e
theorem zmy:MuD X kd zoD zdo:=by
 intro F B G l vs ws os es os' o fp fq H Q hH rl rw' hn e k
 unfold zdo at e
 split at e
 · obtain⟨o1,ho,e⟩:=bS_ e
   cases e
   obtain⟨v,f,fo,gg,hv,hf,ro,r1,r2⟩:=rl.at_ ho
   cases rw'
   rw[zyA]at hn k
   obtain⟨n1,n2⟩:=zgG hn hf
   have hl:=rl.length
   refine⟨l,vs,v,rfl,rfl,hH,by rw[hl];exact hv, ?_⟩
   have:=k v (vs.eraseIdx (os.length-1)) (f++gg) fo (by rw[Zn,Zn];exact r1.append r2) ro n2 n1
   rw[<-hl,zbh]at this
   exact this
 · cases e
def znW:V->List V->Hp->VK->Prop:=λx vs H Q=>∃l xs i y,x = .ref l/\vs=[.int i,y]/\H l=some (.lst xs) /\ -(2 ^ 63)<=i/\i<2 ^ 63/\xs.length<sizeLine/\Q .non (upd H l (.lst (xs.take (ZQ i xs.length)++y::xs.drop (ZQ i xs.length))))
theorem zeN:MtM X "list.insert" znW:=by
 intro pins s σ H x vs v us Q I rx rv h
 obtain⟨l,xs,i,y,rfl,rfl,hH,h1,h2,hz,q⟩:=h
 cases rx
 obtain⟨u,w,rfl,ru,rw'⟩:=rv.two
 obtain⟨t,rfl⟩:=ru
 obtain⟨z,its,n,r,hl,e⟩:=I.lstM hH
 refine call_meets F.slot_list_insert ⟨_,e,rfl⟩ F.entry_list_insert (F.args_list_insert_3 _ _ _) (AutoSeq1.list_insert_list_int_val_1 l its.toArray n i t w (by rw[fitsIndex_both h1 h2];exact zyS) (by rw[zzD];omega)) ⟨e, ?_⟩
 refine⟨.non,_,I.lset (its':=its.take (ZQ i its.length)++w::its.drop (ZQ i its.length)) hH e ?_ ((r.take _).append (.cons rw' (r.drop _))) ?_,rfl, ?_⟩
 · show((its.toArray.extract 0 (ZQ i its.toArray.size)).push w++its.toArray.extract (ZQ i its.toArray.size))=_
   rw[zzD]
   simp
   exact List.take_of_length_le (by rw[List.length_drop];omega)
 · rw[zzF,zzP,zzO,List.length_drop]
   omega
 · rw[<-hl];exact q
theorem zfH:MuD X kd znW Xl:=by
 intro F B G l vs ws os es os' o fp fq H Q hH rl rw' hn e k
 unfold Xl at e
 split at e
 · rename_i st i o1
   obtain⟨hi,e⟩:=zR e
   cases e
   cases rw' with
   |cons h1 h2=>
    cases h2 with
    |cons h2 h3=>
     cases h3
     cases h1 with
     |lf rp=>
      cases rp
      rw[List.nil_append,zyA]at hn k
      obtain⟨f,gg,hf,r1,r2⟩:=rl.part (ZQ i os.length)
      have hl:=rl.length
      rename_i fx
      refine⟨l,vs,i,_,rfl,rfl,hH,hi.1.1,hi.1.2,by rw[hl];exact hi.2, ?_⟩
      rw[hl]
      subst hf
      have p:((f++gg)++fx).Perm (f++(fx++gg)):=by
       rw[zyZ]
       exact(List.perm_append_comm).append_left f
      refine k _ _ _ [] (r1.append (.cons h2 r2)) (.lf .non) (λa m=>?_) (by rw[zyA];exact p.nodup_iff.mp hn)
      rw[zyA]at m
      exact p.mem_iff.mpr m
 · cases e
theorem vG{i:Nat}{x:Str}{gg:MG}{r:V->List V->Hp->VK->Prop}{name:Str}{id:String}{apos cpos p:Pos}(hm:MtM X id r)(hr:MuD X kd r gg)(slot:Slot "list" name id)(hty:typeOf (.builtin id)=pure (.type "method_descriptor"))(ho:PE X (.Name x p) (VH i))(ha:AD X kd (e::es) fd)
 (hbase:attributeBase (.Name x p) name X.env (eval (.Name x p) X.env)=eval (.Name x p) X.env)
 (hfew:((backTo cpos (starEach (e::es) X.env)).all (λx=>!x.1)&&(backToKw cpos (keywordEach [] X.env)).all (λx=>x.1.isSome)
  && decide ((e::es).length+([]:List Keyword).length+(if([]:List Keyword).isEmpty then 0 else 1)<30))=true)
 (hline:(apos.endLine==cpos.line)=true) (hs:starEach (e::es) X.env=(false,eval e X.env)::starEach es X.env) (hplain:(backTo cpos (starEach es X.env)).any (·.1)=false):
 AE X kd (.Call (.Attribute (.Name x p) name apos) (e::es) [] cpos) (xx i fd gg):=by with_unfolding_all exact(yL (zoE PySem.F.plainAttrs_list slot hty hm ho ha hbase hfew hline hs hplain) λσ H Q h=>zlt hr h)
theorem zkY{i:Nat}{x:Str}{gg:MG}{r:V->List V->Hp->VK->Prop}{name:Str}{id:String}{apos cpos p:Pos}(hm:MtM X id r)(hr:MuD X kd r gg)(slot:Slot "list" name id)(hty:typeOf (.builtin id)=pure (.type "method_descriptor"))(ho:PE X (.Name x p) (VH i))
 (hbase:attributeBase (.Name x p) name X.env (eval (.Name x p) X.env)=eval (.Name x p) X.env) (hline:(apos.endLine==cpos.line)=true):
 AE X kd (.Call (.Attribute (.Name x p) name apos) [] [] cpos) (xx i dN gg):=by with_unfolding_all exact(yL (zmq PySem.F.plainAttrs_list slot hty hm ho hbase hline) λσ H Q h=>by
 have:=zlt hr h
 obtain⟨v,h1,h2,h3⟩:=this
 refine⟨v,h1,h2, ?_⟩
 obtain⟨F,B,ad,as,os,as',R,e,q⟩:=h3
 cases e
 exact q [] [] ad H R .nil Grow.refl)
end
inductive Ty where
 |str|lst|dct|int
def Ty.nm:Ty->String
 | .str=>"str" | .lst=>"list" | .dct=>"dict" | .int=>"int"
def zbH:Ty->D->Bool
 | .str,.str _=>true
 | .lst,.lst _=>true
 | .dct,.dct _=>true
 | .int,.int _=>true
 |_,_=>false
def tyS(X:Cx)(T:String)(x:V)(H:Hp):Prop:=∀(pins:List (Addr×Obj)) (σ:St) (s:Shared) (v:Value),Inv X pins σ H s->RelV x v->s.TypeIs v T/\∀a,v = .ref a->∃ob,s.heap.get? a=some ob/\ob.dict=none
def tMD(X:Cx)(T:String)(r:V->List V->Hp->VK->Prop)(to:TE)(t:TA):TE:=λσ H Q=>to σ H λx H1=>tyS X T x H1/\t σ H1 λxs H2=>r x xs H2 Q
section
variable{X:Cx}{kd:KD}{o e:Expr}{es:List Expr}{to:TE}{t:TA}{name:Str}{apos cpos:Pos}{T id:String}{r:V->List V->Hp->VK->Prop}
theorem zoB(pa:PlainAttrs T)(slot:Slot T name id)(hty:typeOf (.builtin id)=pure (.type "method_descriptor"))(hm:MtR X id r)(ho:PE X o to)(ha:PA X (e::es) t)
 (hbase:attributeBase o name X.env (eval o X.env)=eval o X.env)
 (hfew:((backTo cpos (starEach (e::es) X.env)).all (λx=>!x.1)&&(backToKw cpos (keywordEach [] X.env)).all (λx=>x.1.isSome)
  && decide ((e::es).length+([]:List Keyword).length+(if([]:List Keyword).isEmpty then 0 else 1)<30))=true)
 (hline:(apos.endLine==cpos.line)=true) (hs:starEach (e::es) X.env=(false,eval e X.env)::starEach es X.env) (hplain:(backTo cpos (starEach es X.env)).any (·.1)=false):
 PE X (.Call (.Attribute o name apos) (e::es) [] cpos) (tMD X T r to t):=by
 intro pins s σ H Q I h
 refine wpAny_Call_method_late hbase hfew hline rfl (thn (ho pins s σ H _ I h) λv s1 ⟨x,H1,I1,r1,ty,q1⟩=>?_)
 obtain⟨h1,h2⟩:=ty _ _ _ _ I1 r1
 refine⟨T,id,pa,slot,hty,h1,h2, ?_⟩
 have hA:=ha cpos pins s1 σ H1 _ I1 q1
 rw[hs]at hA ⊢
 refine Calls.callWith_builtin (by show(false||(backTo cpos (starEach es X.env)).any (·.1))=false;rw[hplain]<;>rfl) (Calls.evalArgs_plain ?_)
 exact thn hA λus s2 ⟨vs,H2,I2,r2,q2⟩=>hm pins s2 σ H2 x vs v us Q I2 r1 r2 q2
def MtD(X:Cx)(kd:KD)(id:String)(g:D->List D->Option R0):Prop:=
 MtR X id (λx xs H Q=>∃O d ds r,(∀a,O a->H a≠none)/\Vw X.K kd O H x d/\VwL X.K kd O H xs ds/\g d ds=some r/\RQ X.K kd O H Q r)
theorem zoI(hk:KdOk X kd){O:Addr->Prop}{H:Hp}{x:V}{d:D}{ty:Ty}(h:Vw X.K kd O H x d)(e:zbH ty d=true):tyS X ty.nm x H:=by
 intro pins σ s v I rx
 cases h with
 |str z=>
  obtain⟨t,rfl⟩:=rx
  cases ty<;>first|(cases e;done)|exact⟨typeIs_str s z t,λ_ e=>nomatch e⟩
 |int z=>
  obtain⟨t,rfl⟩:=rx
  cases ty<;>first|(cases e;done)|exact⟨typeIs_int s z t,λ_ e=>nomatch e⟩
 |lst hr rl=>
  cases rx
  obtain⟨its,_,pl,_⟩:=I.list hr.sq
  cases ty<;>first|(cases e;done)|skip
  refine⟨pl.isList.typeIs,λa e=>?_⟩
  cases e
  obtain⟨o,n,e,c,hd,_⟩:=pl
  exact⟨o,e,hd⟩
 |dct hr rm=>
  cases rx
  obtain⟨z,hd,vs,rel,dd⟩:=zaa I hk hr
  cases ty<;>first|(cases e;done)|skip
  refine⟨dd.typeIs,λb q=>?_⟩
  cases q
  obtain⟨ob,_,_,h1,h2,_⟩:=dd
  exact⟨ob,h1,h2.2.1⟩
 |non=>cases ty<;>cases e
 |bl=>cases ty<;>cases e
 |tup=>cases ty<;>cases e
 |cl=>cases ty<;>cases e
 |ob=>cases ty<;>cases e
def xu(ty:Ty)(fa:EF)(fr:AF)(g:D->List D->Option R0):EF:=λas=>(fa as).bind λp=>(p.1.frz.view p.2).bind λw=>if zbH ty w.1=true then(fr p.2).bind λq=>(p.1.frz.view q.2).bind λx=>(views q.2 q.1).bind λy=>(g x.1 y.1).bind λr=>(wrap (meet x.2 y.2) r).bind λz=>some (z,q.2)else none
theorem zmL(hk:KdOk X kd){ty:Ty}{fa:EF}{fr:AF}{g:D->List D->Option R0}{σ:St}{H:Hp}{Q:VK}(h:al X.K kd (xu ty fa fr g) σ H Q):
 tMD X ty.nm (λx xs H Q=>∃O d ds r,(∀a,O a->H a≠none)/\Vw X.K kd O H x d/\VwL X.K kd O H xs ds/\g d ds=some r/\RQ X.K kd O H Q r) (al X.K kd fa) (alA X.K kd fr) σ H Q:=by
 obtain⟨F,B,ad,as,r,as',R,e,q⟩:=h
 obtain⟨⟨p,as1⟩,h1,e⟩:=bS_ (show(fa as).bind _=_ from e)
 obtain⟨⟨d0,l0⟩,h0,e⟩:=bS_ e
 obtain⟨hty,e⟩:=ite_some' e
 obtain⟨⟨ps,as2⟩,h2,e⟩:=bS_ e
 obtain⟨⟨d,lv⟩,h3,e⟩:=bS_ e
 obtain⟨⟨ds,lv2⟩,h4,e⟩:=bS_ e
 obtain⟨r0,h5,e⟩:=bS_ e
 obtain⟨z,h6,e⟩:=bS_ e
 cases e
 refine vI R h1 λv ad1 H1 R1 rv1 g1=>⟨zoI hk (wz.vw R1 rv1 h0) hty,F,B,ad1,as1,ps,_,R1,h2,λvs ad2 H2 R2 rv2 g2=>?_⟩
 exact⟨_,d,ds,r0,R2.tr _,(wz.vw R2 (rv1.grow g2) h3).less Obl.meet1,(zar R2 rv2 h4).less Obl.meet2,h5,Yp R2 h6 λw T' H' R' rv' g'=>q w T' ad2 H' R' rv' ((g1.trans g2).trans g')⟩
theorem vN{ty:Ty}{a:Expr}{fa:EF}{fr:AF}{g:D->List D->Option R0}(hk:KdOk X kd)(hm:MtD X kd id g)(pa:PlainAttrs ty.nm)(slot:Slot ty.nm name id)(hty:typeOf (.builtin id)=pure (.type "method_descriptor"))(ho:AE X kd a fa)(ha:AA X kd (e::es) fr)
 (hbase:attributeBase a name X.env (eval a X.env)=eval a X.env)
 (hfew:((backTo cpos (starEach (e::es) X.env)).all (λx=>!x.1)&&(backToKw cpos (keywordEach [] X.env)).all (λx=>x.1.isSome)
  && decide ((e::es).length+([]:List Keyword).length+(if([]:List Keyword).isEmpty then 0 else 1)<30))=true)
 (hline:(apos.endLine==cpos.line)=true) (hs:starEach (e::es) X.env=(false,eval e X.env)::starEach es X.env) (hplain:(backTo cpos (starEach es X.env)).any (·.1)=false):
 AE X kd (.Call (.Attribute a name apos) (e::es) [] cpos) (xu ty fa fr g):=by with_unfolding_all exact(yL (zoB pa slot hty hm ho ha hbase hfew hline hs hplain) λσ H Q h=>zmL hk h)
def zoa:D->List D->Option R0
 | .dct kvs,[k]=>(zbJ k).bind λk=>some (.im ((Wh kvs k).getD .non))
 | .dct kvs,[k,x]=>(zbJ k).bind λk=>some (.im ((Wh kvs k).getD x))
 |_,_=>none
theorem Vw.rp_of{O:Addr->Prop}{H:Hp}{x:V}{d:D}(h:Vw X.K kd O H x d)(e:zY d=true):Rp X.K kd O H x d:=by
 cases h with
 |non=>exact .non
 |bl b=>exact .bl b
 |int i=>exact .int i
 |str x=>exact .str x
 |_=>cases e
def getP':D->List D->Option R0
 |d,[k]=>zoa d [k]
 |d,[k,x]=>if zY x=true then zoa d [k,x]else none
 |_,_=>none
theorem zeH(hk:KdOk X kd):MtD X kd "dict.get" getP':=by
 intro pins s σ H x xs v us Q I rx r h
 obtain⟨O,d,ds,r0,ht,vx,vl,he,q⟩:=h
 unfold getP' at he
 split at he
 · rename_i k
   cases vl with
   |cons vk vr=>
    cases vr
    cases r with
    |cons rk rr=>
     cases rr
     cases vx with
     |dct hr rm=>
      obtain⟨kk,h1,he⟩:=bS_ (show(zbJ k).bind _=_ from he)
      cases he
      cases rx
      obtain⟨z,hd,vs,rel,dd⟩:=zaa I hk hr
      have:=zdt vk h1
      subst this
      refine call_meetsIn PySem.F.slot_dict_get dd.typeIs PySem.F.entry_dict_get (PySem.F.args_dict_get_2 _ _) (meets_dict_get (xr X.prog X.w) _ (zbZ rk) hd) ⟨_,dd.mapOf, ?_⟩
      rcases WQ kk rm with⟨v1,d1,e1,e2,rp⟩|⟨e1,e2⟩
      · rw[e2]at q
        refine⟨v1,H,I.tok _, ?_,yj q rp⟩
        have:=(rel.val kk).getD (d:=.non) (d':=.none) rfl
        rw[e1]at this
        exact this
      · rw[e2]at q
        refine⟨.non,H,I.tok _, ?_,yj q .non⟩
        have:=(rel.val kk).getD (d:=.non) (d':=.none) rfl
        rw[e1]at this
        exact this
     |_=>cases he
 · rename_i k y
   obtain⟨hf,he⟩:=ite_some' he
   cases vl with
   |cons vk vr=>
    cases vr with
    |cons vy vr=>
     cases vr
     cases r with
     |cons rk rr=>
      cases rr with
      |cons ry rr=>
       cases rr
       cases vx with
       |dct hr rm=>
        obtain⟨kk,h1,he⟩:=bS_ (show(zbJ k).bind _=_ from he)
        cases he
        cases rx
        obtain⟨z,hd,vs,rel,dd⟩:=zaa I hk hr
        have:=zdt vk h1
        subst this
        refine call_meetsIn PySem.F.slot_dict_get dd.typeIs PySem.F.entry_dict_get (PySem.F.args_dict_get_3 _ _ _) (meets_dict_get_default (xr X.prog X.w) _ (zbZ rk) hd _) ⟨_,dd.mapOf, ?_⟩
        rcases WQ kk rm with⟨v1,d1,e1,e2,rp⟩|⟨e1,e2⟩
        · rw[e2]at q
          refine⟨v1,H,I.tok _, ?_,yj q rp⟩
          have:=(rel.val kk).getD ry
          rw[e1]at this
          exact this
        · rw[e2]at q
          refine⟨_,H,I.tok _, ?_,yj q (vy.rp_of hf)⟩
          have:=(rel.val kk).getD ry
          rw[e1]at this
          exact this
       |_=>cases he
 · cases he
end
section
variable{K:zC}{kd:KD}{F B G:Addr->Prop}{T:List Addr}{ad:Ad}{as:AS}{σ:St}{H H':Hp}
theorem Rel.wrT{p:Addr}{u:HO}(R:Rel K kd F B T ad as σ H)(hp:p ∈ T):Rel K kd F B T ad as σ (upd H p u)/\Grow (Gw T ad) H (Gw T ad) (upd H p u):=by
 have g:Grow (Gw T ad) H (Gw T ad) (upd H p u):=Grow.wr (.inl hp)
 have kn:∀a,H a≠none->upd H p u a≠none:=λa z=>by
  by_cases e:a=p
  · subst e;rw[zZ];simp
  · rw[zK e];exact z
 exact⟨⟨R.len,R.out,R.nd,R.inj,R.tnd,R.dis,λa z=>kn a (R.ftr a z),λa z=>⟨kn a (R.btr a z).1,(R.btr a z).2⟩,λa z=>⟨kn a (R.gtr a z).1,(R.gtr a z).2⟩,λi s e=>(R.sl i s e).grow g λa m w h=>by
  rw[zK (λz=>R.dis i a m (by rw[z];exact hp))];exact h⟩,g⟩
inductive RPs(K:zC)(kd:KD)(F B G:Addr->Prop)(H:Hp):List (V×V)->List (Key×O)->Prop
 |nil:RPs K kd F B G H [] []
 |cons {k:Key}{v:V}{o:O}{ps:List (V×V)}{kos:List (Key×O)}:RoS K kd F B G H v o []->RPs K kd F B G H ps kos->RPs K kd F B G H ((kV k,v)::ps) ((k,o)::kos)
theorem RPs.out:∀{ps:List (V×V)}{kos:List (Key×O)},RPs K kd F B G H ps kos->∃vs,ps=((kos.map (·.1)).zip vs).map (λkv=>(kV kv.1,kv.2))/\vK K kd F B G H vs (kos.map (·.2)) []/\vs.length=kos.length
 |_,_,.nil=>⟨[],rfl,.nil,rfl⟩
 |_,_,.cons (v:=v) h r=>by
  obtain⟨vs,e,rl,hl⟩:=RPs.out r
  subst e
  exact⟨v::vs,rfl,.cons h rl,congrArg (· + 1) hl⟩
end
def zbk:List (EF×EF)->AS->Option (List (Key×O)×AS)
 | [],as=>some ([],as)
 |f::r,as=>(f.1 as).bind λp=>(f.2 p.2).bind λq=>match p.1,q.1 with
  | .ow ko,.ow vo=>(zbJ ko.toD).bind λk=>(zbk r q.2).bind λz=>some ((k,vo.frz)::z.1,z.2)
  |_,_=>none
theorem zgf{K:zC}{kd:KD}{σ:St}:∀(fs:List (EF×EF)) (H:Hp) (Q:List (V×V)->Hp->Prop),(∃F B ad as kos as',Rel K kd F B [] ad as σ H/\zbk fs as=some (kos,as')/\
 ∀ps ad' H',Rel K kd F B [] ad' as' σ H'->RPs K kd F B (Gw [] ad') H' ps kos->Grow (Gw [] ad) H (Gw [] ad') H'->Q ps H')->zdg (fs.map λf=>(al K kd f.1,al K kd f.2)) σ H Q
 | [],H,Q,h=>by
  obtain⟨F,B,ad,as,kos,as',R,e,q⟩:=h
  cases e
  exact q [] ad H R .nil Grow.refl
 |f::r,H,Q,h=>by
  obtain⟨F,B,ad,as,kos,as',R,e,q⟩:=h
  obtain⟨⟨p,as1⟩,h1,e⟩:=bS_ (show(f.1 as).bind _=_ from e)
  obtain⟨⟨p2,as2⟩,h2,e⟩:=bS_ e
  match p,p2,e,h1,h2 with
  | .ow ko,.ow vo,e,h1,h2=>
   obtain⟨k,hk,e⟩:=bS_ (show(zbJ ko.toD).bind _=_ from e)
   obtain⟨⟨z,as3⟩,h3,e⟩:=bS_ e
   cases e
   refine vI R h1 λv ad1 H1 R1 rv1 g1=>vI R1 h2 λu ad2 H2 R2 rv2 g2=>zgf r H2 _ ⟨F,B,ad2,as2,z,_,R2,h3,λps ad3 H3 R3 rp3 g3=>?_⟩
   have rk:=zbB (show RoS K kd F B (Gw [] ad1) H1 v ko.frz []from rv1)
   have ek:v=kV k:=zdt rk.vw hk
   rw[ek]
   exact q _ ad3 H3 R3 (.cons (RoS.grow g3 (λ_ m=>nomatch m) rv2) rp3) ((g1.trans g2).trans g3)
theorem zcp:∀(kvs acc:List (Key×V)),((acc++kvs).map (·.1)).Nodup->Wv acc kvs=acc++kvs
 | [],acc,_=>by rw[zyA];rfl
 |p::r,acc,h=>by
  have hv:Yx acc p.1=none:=by
   cases e:Yx acc p.1 with
   |none=>rfl
   |some v=>
    exfalso
    have m:=zjN e
    rw[zyI,zyO]at h
    exact(zxB.mp h).2.2 _ m _ zzB rfl
  show Wv (putK acc p.1 p.2) r=_
  rw[zjr _ hv,zcp r (acc++[(p.1,p.2)]) (by rw[zyZ];exact h),zyZ]
  rfl
def zck(fs:List (EF×EF)):EF:=λas=>(zbk fs as).bind λp=>if(p.1.map (·.1)).Nodup/\p.1.length<=15 then some (.ow (.nd (.dc (p.1.map (·.1))) (p.1.map (·.2))),p.2)else none
section
variable{X:Cx}{kd:KD}{e a b c o i:Expr}{pos pos':Pos}{fa fb fk fv:EF}
theorem zgc{keys:List (Option Expr)}{values:List Expr}{fs:List (EF×EF)}(h:PPs X pos keys values (fs.map λf=>(al X.K kd f.1,al X.K kd f.2)))(hall:keys.all (·.isSome)=true)(hl:keys.length=values.length)(h0:keys≠[])(h15:keys.length<=15):
 AE X kd (.Dict keys values pos) (zck fs):=by with_unfolding_all exact(yL (zkI h hall hl h0 h15) λσ H Q h=>by
 obtain⟨F,B,ad,as,r,as',R,e,q⟩:=h
 obtain⟨⟨kos,as1⟩,h1,e⟩:=bS_ (show(zbk fs as).bind _=_ from e)
 obtain⟨⟨hnd,hz⟩,e⟩:=zR e
 cases e
 intro p hp
 have k:∀b o,H b=some o->upd H p (.dK []) b=some o:=λb o hb=>by rw[zK (yu hb hp)];exact hb
 obtain⟨R2,g2⟩:=R.news (T':=[p]) (by simp) (λa m=>by rw[zzN.mp m];exact hp) k (λa m=>by rw[zzN.mp m,zZ];simp)
 refine zgf fs _ _ ⟨F,_,ad,as,kos,_,R2.hide,h1,λps ad3 H3 R3 rp3 g3=>?_⟩
 have np:¬Gw [] ad p:=λz=>(R.gtr p z).1 hp
 have hp3:H3 p=some (.dK []):=g3.keep p _ zZ np
 obtain⟨vs,ep,rl,hvl⟩:=rp3.out
 have Ru:=R3.unhide (T1:=[p]) (T2:=[]) (by simp) (λa m z=>by rw[zzN.mp m]at z;exact(R.btr p z).1 hp)
 rw[zyA]at Ru
 have rlu:vK X.K kd F B (Gw [p] ad3) H3 vs (kos.map (·.2)) []:=vK.lv (vW (T1:=[p]) (T2:=[])) rl
 have ekz:(((kos.map (·.1)).zip vs).map (·.1))=kos.map (·.1):=List.map_fst_zip (by rw[zD,hvl];exact zzJ _)
 refine⟨hp3,(kos.map (·.1)).zip vs,ep,by rw[List.length_zip,zD,hvl];simpa using hz, ?_⟩
 rw[zcp _ [] (by rw[List.nil_append,ekz];exact hnd),List.nil_append]
 obtain⟨R4,g4⟩:=Ru.wrT (u:=.dK ((kos.map (·.1)).zip vs)) (show p ∈ [p] by simp)
 refine q _ [p] ad3 _ R4 (.dc (vs:=vs) zZ (by rw[zD,hvl]) (vK.grow g4 (λ_ m=>nomatch m) rlu)) ((g2.trans ⟨λb u e n=>g3.keep b u e λz=>n (Gw.drop b z),λb z=>?_⟩).trans g4)
 rcases z with z|z
 · exact .inl (.inl z)
 · exact(g3.own b (.inr z)).elim (λy=>.inl (Gw.drop b y)) .inr)
end
abbrev Fn:=List (Bool×D)->Option O
section
variable{P:Program}{w:World}{K:zC}{mg:Str->Option Value}{base:Heap}{kd:KD}
theorem zki{k:Nat}{f:Addr}{fd:FuncData}{ps:List Str}:FnOk P w K mg base CX0 k f fd ps (spD K kd λ_=>none):=
 ⟨λvs H Q E h=>(by obtain⟨_,_,_,_,_,e,_⟩:=h;cases e),λA outer s H args us vs Q E _ _ _ _ h=>(by obtain⟨_,_,_,_,_,e,_⟩:=h;cases e)⟩
theorem ym{A:Around}{k:Nat}(hr:Room k A):A.units+100<cLine:=by have:=hr.un;omega
def KD1(P:Program)(w:World)(K:zC)(kd:KD):Prop:=∀X:Cx,X.prog=P->X.w=w->X.K=K->KdOk X kd
theorem Y4{O:Addr->Prop}{H:Hp}:∀ns:List Int,RpL K kd O H (ns.map V.int) (ns.map D.int)
 | []=>.nil
 |_::r=>.cons (.int _) (Y4 r)
theorem znC{H:Hp}{a:Addr}{ns:List Int}{g:Fn}{E:XK}(hg:g [(true,.lst (ns.map D.int))]=some (.lf true (.bl true)))(hS:RdL K H a (ns.map V.int)):spD K kd g [.ref a] H (λv _=>v = .bl true) E:=by
 refine⟨λ_=>False,[(true,.lst (ns.map D.int))],.lf true (.bl true),(λ_ z=>z.elim),.cons ?_ .nil,hg,λv T H' _ _ _ _ ro=>?_⟩
 · rcases hS with h|⟨its,n,k,z,r⟩
   · exact .lst (λz=>z.2) h (Y4 ns)
   · exact .lstK k z r (Y4 ns)
 · cases ro with
   |lf rp=>cases rp;rfl
end
namespace Bt
theorem len:bootBuiltins "len"=some (.builtin "len"):=by decide +kernel
theorem max:bootBuiltins "max"=some (.builtin "max"):=by decide +kernel
theorem min:bootBuiltins "min"=some (.builtin "min"):=by decide +kernel
theorem isinstance:bootBuiltins "isinstance"=some (.builtin "isinstance"):=by decide +kernel
theorem all:bootBuiltins "all"=some (.builtin "all"):=by decide +kernel
theorem int:bootBuiltins "int"=some (.type "int"):=by decide +kernel
theorem bool:bootBuiltins "bool"=some (.type "bool"):=by decide +kernel
theorem str:bootBuiltins "str"=some (.type "str"):=by decide +kernel
theorem tuple:bootBuiltins "tuple"=some (.type "tuple"):=by decide +kernel
theorem n(x:Str)(h:(x==("__name__":Str))=false):x≠"__name__":=λe=>by subst e;simp at h
end Bt
def WD(f:EF)(as:AS)(st:Bool)(d:D):Prop:=f as=some (.ow (.lf st d),as)
def WT(f:TF)(as:AS)(b:Bool):Prop:=f as=some (b,as)
def WA(f:AF)(as:AS)(rs:List (Bool×D)):Prop:=f as=some (rs.map (λx=>.ow (.lf x.1 x.2)),as)
def WO(f:DF)(as:AS)(os:List O):Prop:=f as=some (os,as)
section
variable{as:AS}{f a b:EF}{s t:Bool}{x y z:D}{i j:Int}
theorem zf:WD (fC x) as true x:=rfl
theorem zb{i:Nat}(h:as[i]? = some (some (.lf s x))):WD (fV i) as s x:=by unfold WD fV;rw[h]
theorem zlr{g:D->D->Option R0}(ha:WD a as s x)(hb:WD b as t y)(hg:g x y=some (.im z)):WD (f2 a b g) as (zY z||(s&&t)) z:=by
 unfold WD f2 at *
 rw[ha];show((b as).bind _)=_
 rw[hb];show((g x y).bind _)=_
 rw[hg]
 show(if(zY z||(meet (some s) (some t)).isSome)=true then _ else _:Option RV).bind _=_
 rw[if_pos (by unfold meet;simp)]
 rfl
theorem zfM{g:D->D->Option R0}{oa ob:O}(ha:a as=some (.ow oa,as))(hb:b as=some (.ow ob,as))(hg:g oa.toD ob.toD=some (.im z)):WD (f2 a b g) as (zY z||(oa.str&&ob.str)) z:=by
 unfold WD f2 at *
 rw[ha];show((b as).bind _)=_
 rw[hb];show((g oa.toD ob.toD).bind _)=_
 rw[hg]
 show(if(zY z||(meet (some oa.str) (some ob.str)).isSome)=true then _ else _:Option RV).bind _=_
 rw[if_pos (by unfold meet;simp)]
 rfl
theorem yH{g:D->D->Option R0}(ha:WD a as s x)(hb:WD b as t y)(hg:g x y=some (.im z))(e:zY z=true):WD (f2 a b g) as true z:=by
 have:=zlr ha hb hg;rw[e]at this;exact this
theorem yM(ha:WD a as s (.int i))(hb:WD b as t (.int j)):WD (f2 a b (zm .Add)) as true (.int (i+j)):=yH ha hb rfl rfl
theorem zjf(ha:WD a as s (.int i))(hb:WD b as t (.int j)):WD (f2 a b (zm .Sub)) as true (.int (i-j)):=yH ha hb rfl rfl
theorem wN(ha:WD a as s (.int i))(hb:WD b as t (.int j))(h1:i.natAbs<big)(h2:j.natAbs<big):WD (f2 a b (zm .Mult)) as true (.int (i*j)):=yH ha hb (by show(if _ then _ else _)=_;rw[if_pos ⟨h1,h2⟩]) rfl
theorem VJ(ha:WD a as s (.int i))(hb:WD b as t (.int j))(h1:0<j)(h2:j.natAbs<big):WD (f2 a b (zm .FloorDiv)) as true (.int (i/j)):=yH ha hb (by show(if _ then _ else _)=_;rw[if_pos ⟨h1,h2⟩]) rfl
theorem yJ(ha:WD a as s (.int i))(hb:WD b as t (.int j))(h1:0<j):WD (f2 a b (zm .Mod)) as true (.int (i%j)):=yH ha hb (by show(if _ then _ else _)=_;rw[if_pos h1]) rfl
theorem zcW(ha:WD a as s (.int i))(hb:WD b as t (.int j))(h1:0<=j/\j<=1000000/\i.natAbs<2 ^ 64):WD (f2 a b (zm .Pow)) as true (.int (i ^ j.toNat)):=yH ha hb (by show(if _ then _ else _)=_;rw[if_pos h1]) rfl
theorem wC{c:Bool}(ha:WD a as s x)(hb:WD b as t y)(h:eqF 60 x y=some c):WD (f2 a b (zH .Eq)) as true (.bl c):=yH ha hb (by show(eqF 60 x y).bind _=_;rw[h];rfl) rfl
theorem zlN{c:Bool}(ha:WD a as s x)(hb:WD b as t y)(h:eqF 60 x y=some c):WD (f2 a b (zH .NotEq)) as true (.bl (!c)):=yH ha hb (by show(eqF 60 x y).bind _=_;rw[h];rfl) rfl
theorem zeB(ha:WD a as s (.int i))(hb:WD b as t (.int j)):WD (f2 a b (zH .Lt)) as true (.bl (decide (i<j))):=yH ha hb rfl rfl
theorem Zh(ha:WD a as s (.int i))(hb:WD b as t (.int j)):WD (f2 a b (zH .Gt)) as true (.bl (decide (j<i))):=yH ha hb rfl rfl
theorem zeF(ha:WD a as s (.int i)):WD (f1 a zac) as true (.int (-i)):=by
 unfold WD f1 at *
 rw[ha]
 rfl
theorem yh{c:Bool}(h:WD f as s x)(e:truth x=some c):WT (fT f) as c:=by
 unfold WT fT;unfold WD at h
 rw[h];show((truth x).bind _)=_
 rw[e];rfl
theorem zfc{c:TF}{k:Bool}(h:WT c as k):WT (Y8 c) as (!k):=by unfold WT Y8 at *;rw[h];rfl
theorem zax{c e:TF}{k l:Bool}(h:WT c as k)(h2:k=true->WT e as l)(h3:k=false->l=false):WT (vL c e) as l:=by
 unfold WT vL at *;rw[h]
 cases k with
 |true=>exact h2 rfl
 |false=>rw[h3 rfl];rfl
theorem zbo{c e:TF}{k l:Bool}(h:WT c as k)(h2:k=false->WT e as l)(h3:k=true->l=true):WT (Yw c e) as l:=by
 unfold WT Yw at *;rw[h]
 cases k with
 |false=>exact h2 rfl
 |true=>rw[h3 rfl];rfl
theorem ziq{c:TF}(h:WT c as true)(ha:WD a as s x):WD (fIf c a b) as s x:=by unfold WD fIf;unfold WT at h;rw[h];exact ha
theorem ziN{c:TF}(h:WT c as false)(hb:WD b as s x):WD (fIf c a b) as s x:=by unfold WD fIf;unfold WT at h;rw[h];exact hb
theorem zcV{k l:Bool}(h:WD a as s (.bl k))(h2:k=true->WD b as true (.bl l))(h3:k=false->l=false):WD (zfv a b) as true (.bl l):=by
 unfold WD zfv at *;rw[h]
 cases k with
 |true=>exact h2 rfl
 |false=>rw[h3 rfl];rfl
theorem zoQ{k l:Bool}(h:WD a as s (.bl k))(h2:k=false->WD b as true (.bl l))(h3:k=true->l=true):WD (fOr a b) as true (.bl l):=by
 unfold WD fOr at *;rw[h]
 cases k with
 |false=>exact h2 rfl
 |true=>rw[h3 rfl];rfl
theorem zN:WA aN as []:=rfl
theorem zB{fr:AF}{rs:List (Bool×D)}(ha:WD a as s x)(hr:WA fr as rs):WA (aC a fr) as ((s,x)::rs):=by
 unfold WA aC at *;unfold WD at ha
 rw[ha];show((fr as).bind _)=_
 rw[hr];rfl
theorem Vq:∀rs:List (Bool×D),Yj as (rs.map (λx=>.ow (.lf x.1 x.2)))=some (rs.map λx=>(zY x.2||x.1,x.2))
 | []=>rfl
 |r::rs=>by
  show(zik as (.ow (.lf r.1 r.2))).bind _=_
  show(Yj as (rs.map _)).bind _=_
  rw[Vq rs];rfl
theorem vZ:∀rs:List (Bool×D),views as (rs.map (λx=>.ow (.lf x.1 x.2)))=some (rs.map (·.2),some (rs.all (·.1)))
 | []=>rfl
 |r::rs=>by
  show(views as (rs.map _)).bind _=_
  rw[vZ rs];rfl
theorem vh{fr:AF}{rs:List (Bool×D)}{g:List (Bool×D)->Option O}(ha:WA fr as rs)(hg:g (rs.map λx=>(zY x.2||x.1,x.2))=some (.lf s x)):WD (zV fr g) as s x:=by
 unfold WD zV;unfold WA at ha
 rw[ha];show(Yj as _).bind _=_
 rw[Vq];show(g _).bind _=_
 rw[hg];rfl
theorem Za{fr:AF}{rs:List (Bool×D)}{o:O}{g:List (Bool×D)->Option O}(ha:WA fr as rs)(hg:g (rs.map λx=>(zY x.2||x.1,x.2))=some o):zV fr g as=some (.ow o,as):=by
 unfold zV;unfold WA at ha
 rw[ha];show(Yj as _).bind _=_
 rw[Vq];show(g _).bind _=_
 rw[hg];rfl
theorem zfX{fr:AF}{rs:List (Bool×D)}{g:List D->Option R0}(ha:WA fr as rs)(hg:g (rs.map (·.2))=some (.im x)):WD (fP fr g) as (zY x||rs.all (·.1)) x:=by
 unfold WD fP;unfold WA at ha
 rw[ha];show(views as _).bind _=_
 rw[vZ];show(g _).bind _=_
 rw[hg]
 show(if(zY x||(some (rs.all (·.1))).isSome)=true then _ else _:Option RV).bind _=_
 rw[if_pos (by simp)];rfl
theorem yp{fr:AF}{rs:List (Bool×D)}{g:List D->Option R0}(ha:WA fr as rs)(hg:g (rs.map (·.2))=some (.im x))(e:zY x=true):WD (fP fr g) as true x:=by
 have:=zfX ha hg;rw[e]at this;exact this
theorem zU:WO dN as []:=rfl
theorem zp{fr:DF}{os:List O}(ha:WD a as s x)(hr:WO fr as os):WO (dC a fr) as (.lf s x::os):=by
 unfold WO dC at *;unfold WD at ha
 rw[ha];show((fr as).bind _)=_
 rw[hr];rfl
theorem xW{fr:DF}{os:List O}(h:WO fr as os)(hl:os.length<=sizeLine):zP fr as=some (.ow (.nd .ls os),as):=by
 unfold zP;unfold WO at h
 rw[h];show(if os.length<=sizeLine then _ else _)=_
 rw[if_pos hl]
theorem zcL{fr:DF}{os:List O}{g:D->D->Option R0}(h:WO fr as os)(hl:os.length<=sizeLine)(hb:WD b as t y)(hg:g (.lst (O.toDs os)) y=some (.im z)):WD (f2 (zP fr) b g) as (zY z||(O.strs os&&t)) z:=by
 unfold WD f2 at *
 rw[xW h hl];show((b as).bind _)=_
 rw[hb];show((g (.lst (O.toDs os)) y).bind _)=_
 rw[hg]
 show(if(zY z||(meet (some (O.strs os)) (some t)).isSome)=true then _ else _:Option RV).bind _=_
 rw[if_pos (by unfold meet;simp)]
 rfl
theorem zx{f g:SF}{as1:AS}{o:Option Out}(h1:f as=some (.nx as1))(h2:g as1=o):zM f g as=o:=by unfold zM;rw[h1];exact h2
theorem yI{f g:SF}{o:O}(h1:f as=some (.rt o)):zM f g as=some (.rt o):=by unfold zM;rw[h1];rfl
theorem yD{c:TF}{f g:SF}{o:Option Out}(h:WT c as true)(h1:f as=o):sIf c f g as=o:=by unfold sIf;unfold WT at h;rw[h];exact h1
theorem zJ{c:TF}{f g:SF}{o:Option Out}(h:WT c as false)(h1:g as=o):sIf c f g as=o:=by unfold sIf;unfold WT at h;rw[h];exact h1
theorem yK{i:Nat}{st:Bool}(h:WD f as s x)(hi:i<as.length):zF st i f as=some (.nx (as.set i (some (.lf s x)))):=by
 unfold zF;unfold WD at h
 rw[h]
 cases st<;>exact if_pos hi
theorem zga{i:Nat}{o:O}(h:f as=some (.ow o,as))(hi:i<as.length):zF false i f as=some (.nx (as.set i (some o))):=by
 unfold zF
 rw[h]
 exact if_pos hi
theorem zam{i:Nat}{o:O}(h:f as=some (.ow o,as))(hi:i<as.length):zF true i f as=some (.nx (as.set i (some o.frz))):=by
 unfold zF
 rw[h]
 exact if_pos hi
theorem ye(h:WD f as true x):yF f as=some (.rt (.lf true x)):=by unfold yF;unfold WD at h;rw[h];rfl
theorem yP{n m:Nat}{c:SF}{ds:List (Bool×D)}{o:O}(hl:ds.length=m)(h:c (xN n ds)=some (.rt o)):fnR n m c ds=some o:=by unfold fnR;rw[if_pos hl,h];rfl
theorem Vg{g:GF}{f:SF}(I:Nat->AS->Prop):∀(xs:List It1) (k:Nat) (as:AS),(∀i x as,xs[i]? = some x->I (k+i) as->∃as1,g x as=some as1/\∃as2,f as1=some (.nx as2)/\I (k+i+1) as2)->I k as->∃as',forL g f xs as=some (.nx as')/\I (k+xs.length) as'
 | [],k,as,_,h=>⟨as,rfl,h⟩
 |x::r,k,as,st,h=>by
  obtain⟨as1,h1,as2,h2,h3⟩:=st 0 x as rfl h
  obtain⟨as',h4,h5⟩:=Vg I r (k+1) as2 (λi y as e q=>by
   obtain⟨u,k1,v,k2,k3⟩:=st (i+1) y as e (by rw[show k+(i+1)=k+1+i by omega];exact q)
   exact⟨u,k1,v,k2,by rw[show k+1+i+1=k+(i+1)+1 by omega];exact k3⟩) h3
  refine⟨as', ?_,by rw[zzP,show k+(r.length+1)=k+1+r.length by omega];exact h5⟩
  show(g x as).bind _=_
  rw[h1];show(f as1).bind _=_
  rw[h2];exact h4
theorem wW{fi:IF}{g:GF}{f:SF}{xs:List It1}{as':AS}{o:Option Out}(h:fi as=some (xs,as'))(h2:forL g f xs as'=o):WW fi g f as=o:=by unfold WW;rw[h];exact h2
theorem zbC{lo:Int}{n i:Nat}{x:It1}(h:(vH lo n)[i]? = some x):x=(true,.int (lo+i))/\i<n:=by
 unfold vH at h
 rw[zzE]at h
 cases e:(List.range n)[i]? with
 |none=>rw[e]at h;cases h
 |some k=>
  rw[e]at h
  obtain⟨h1,h2⟩:=zzC.mp e
  rw[List.length_range]at h1
  rw[List.getElem_range]at h2
  subst h2
  exact⟨(zzV h).symm,h1⟩
theorem zaj{fr:AF}{j:Int}{u:Bool}(h:WA fr as [(u,.int j)])(h0:0<=j)(h1:j<1000000):VL fr zdv as=some (vH 0 j.toNat,as):=by
 unfold VL;unfold WA at h
 rw[h]
 simp only[zyH,vZ]
 show((if -(2 ^ 62)<=j/\j<2 ^ 62 then some (vH 0 j.toNat)else none).bind _)=_
 rw[if_pos ⟨by omega,by omega⟩];rfl
theorem vC{fr:AF}{rs:List (Bool×D)}{o:O}(ha:a as=some (.ow o,as))(hr:WA fr as rs):WA (aC a fr) as ((o.str,o.toD)::rs):=by
 unfold WA aC at *
 rw[ha];show((fr as).bind _)=_
 rw[hr];rfl
theorem zcK{i:Nat}{o:O}(h:as[i]? = some (some o)):RV.view as (.bo i)=some (o.toD,o.kl):=by simp only[RV.view,h]
theorem zlg{i:Nat}{o:O}(h:as[i]? = some (some o))(hs:o.str=true):zii as (.bo i)=some o:=by simp only[zii,h,hs,if_true]
theorem zfW{i:Nat}{k:Kind}{os:List O}(h:as[i]? = some (some (.nd k os))):fV i as=some (.bo i,as):=by unfold fV;rw[h]
theorem zdq{i:Nat}{os:List O}(h:as[i]? = some (some (.nd .ls os))):WD (fP (aC (fV i) aN) yz) as true (.int os.length):=by
 have e:views as [.bo i]=some ([.lst (O.toDs os)],meet (O.nd .ls os).kl (some true)):=by
  show(RV.view as (.bo i)).bind _=_
  rw[zcK h];rfl
 unfold WD fP aC
 rw[zfW h]
 simp only[zyH,aN,RV.frz,e]
 rw[show yz [.lst (O.toDs os)]=some (.im (.int os.length)) by show some (R0.im (.int ((O.toDs os).length:Nat)))=_;rw[V5]]
 rfl
theorem ixB{i:Nat}{os:List O}(h:as[i]? = some (some (.nd .ls os)))(hl:os.all O.isLf=true)(hb:WD b as t y)(hg:ixP (.lst (O.toDs os)) y=some (.im z)):WD (f2 (fV i) b ixP) as (zY z||(O.strs os&&t)) z:=by
 unfold WD f2 at *
 rw[zfW h];show((b as).bind _)=_
 rw[hb];show((RV.view as (.bo i)).bind _)=_
 rw[zcK h]
 have e:(O.nd .ls os).kl=some (O.strs os):=by simp only[O.kl,hl,if_true]
 rw[e]
 show((ixP (.lst (O.toDs os)) y).bind _)=_
 rw[hg]
 show(if(zY z||(meet (some (O.strs os)) (some t)).isSome)=true then _ else _:Option RV).bind _=_
 rw[if_pos (by unfold meet;simp)]
 rfl
theorem zjp{i:Nat}{ds:List D}(h:as[i]? = some (some (.lf s (.lst ds)))):zbP (fV i) as=some (kids s ds,as):=by
 unfold zbP fV;rw[h];rfl
theorem xj{g:GF}{f:SF}{d:It1}{r:List It1}{as1 as2:AS}{o:Option Out}(h1:g d as=some as1)(h2:f as1=some (.nx as2))(h3:forL g f r as2=o):forL g f (d::r) as=o:=by
 show(g d as).bind _=_
 rw[h1];show(f as1).bind _=_
 rw[h2];exact h3
theorem ZZ{g:GF}{f:SF}{d:It1}{r:List It1}{as1:AS}{o:O}(h1:g d as=some as1)(h2:f as1=some (.rt o)):forL g f (d::r) as=some (.rt o):=by
 show(g d as).bind _=_
 rw[h1];show(f as1).bind _=_
 rw[h2];rfl
theorem zds{i:Nat}{os:List O}(h:as[i]? = some (some (.nd .ls os)))(hl:os.length<sizeLine)(ha:WD a as s x):xU (xx i (dC a dN) Vd) as=some (.nx (as.set i (some (.nd .ls (os++[.lf s x]))))):=by
 unfold xU xx;rw[h]
 have e:dC a dN as=some ([.lf s x],as):=zp ha zU
 show((dC a dN as).bind _).bind _=_
 rw[e];show(Option.bind (match as[i]? with|some (some (.nd .ls os))=>_|_=>none) _)=_
 rw[h];show((Vd os [.lf s x]).bind _).bind _=_
 have e2:Vd os [.lf s x]=some (os++[.lf s x],.lf true .non):=by unfold Vd;exact if_pos hl
 rw[e2];rfl
theorem Y7{i:Nat}{os:List O}{k:Int}{o:O}(h:as[i]? = some (some (.nd .ls os)))(ha:WD a as s (.int k))(h0:0<=k)(h1:k<os.length)(hs:os.length<2 ^ 60)(ho:os[k.toNat]? = some o):xx i (dC a dN) xR as=some (.ow o,as.set i (some (.nd .ls (os.eraseIdx k.toNat)))):=by
 unfold xx;rw[h]
 have e:dC a dN as=some ([.lf s (.int k)],as):=zp ha zU
 show((dC a dN as).bind _)=_
 rw[e];show(match as[i]? with|some (some (.nd .ls os))=>_|_=>none)=_
 rw[h];show((xR os [.lf s (.int k)]).bind _)=_
 have e2:xR os [.lf s (.int k)]=some (os.eraseIdx k.toNat,o):=by
  unfold xR
  show(if -(2 ^ 63)<=k/\k<2 ^ 63 then _ else _)=_
  rw[if_pos ⟨by omega,by omega⟩]
  have e3:seqIndex? k os.length=some k.toNat:=by unfold seqIndex?;simp;omega
  rw[e3];show((os[k.toNat]?).bind _)=_
  rw[ho];rfl
 rw[e2];rfl
theorem zfN{i:Nat}{os:List O}{o:O}{as1:AS}(h:as[i]? = some (some (.nd .ls os)))(hl:os.length<sizeLine)(ha:a as=some (.ow o,as)):xU (xx i (dC (fC (.int 0)) (dC a dN)) Xl) as=some (.nx (as.set i (some (.nd .ls (o::os))))):=by
 unfold xU xx;rw[h]
 have e:dC (fC (.int 0)) (dC a dN) as=some ([.lf true (.int 0),o],as):=by
  unfold dC;show((a as).bind _).bind _=_
  rw[ha];rfl
 show((dC (fC (.int 0)) (dC a dN) as).bind _).bind _=_
 rw[e];show(Option.bind (match as[i]? with|some (some (.nd .ls os))=>_|_=>none) _)=_
 rw[h];show((Xl os [.lf true (.int 0),o]).bind _).bind _=_
 have e2:Xl os [.lf true (.int 0),o]=some (o::os,.lf true .non):=by
  unfold Xl
  show(if(-(2 ^ 63)<=(0:Int)/\(0:Int)<2 ^ 63)/\os.length<sizeLine then _ else _)=_
  rw[if_pos ⟨⟨by decide,by decide⟩,hl⟩]
  have e3:ZQ 0 os.length=0:=by unfold ZQ;simp
  rw[e3];rfl
 rw[e2];rfl
theorem zaN{g:GF}{o:O}{as':AS}(h:f as=some (.ow o,as))(hg:g (o.str,o.toD) as=some as'):Vr f g as=some (.nx as'):=by
 unfold Vr;rw[h]
 show(g (o.str,o.toD) as).bind _=_
 rw[hg];rfl
theorem zjY{i:Nat}{o:O}(h:as[i]? = some (some o))(hs:o.str=true):yF (fV i) as=some (.rt o):=by
 cases o with
 |lf st d=>unfold yF fV;rw[h];have:st=true:=hs;subst this;rfl
 |nd k os=>
  unfold yF;rw[zfW h];show(zii as (.bo i)).bind _=_
  rw[zlg h hs];rfl
theorem Wf{fr:DF}{os:List O}(h:WO fr as os)(hl:os.length<=sizeLine)(ha:os.all O.isLf=true):WD (zaf fr) as (O.strs os) (.tup (O.toDs os)):=by
 unfold WD zaf;unfold WO at h
 rw[h];show(if os.length<=sizeLine then some (RV.ow (zed os),as)else _)=_
 rw[if_pos hl];unfold zed;rw[if_pos ha]
theorem zmK{g:D->D->Option R0}{oa ob:O}{zs:List D}{as1 as2:AS}(ha:a as=some (.ow oa,as1))(hb:b as1=some (.ow ob,as2))(hg:g oa.toD ob.toD=some (.fl zs)):f2 a b g as=some (.ow (.nd .ls (zs.map (lfs (oa.str&&ob.str)))),as2):=by
 unfold f2
 rw[ha];show((b as1).bind _)=_
 rw[hb];show((g oa.toD ob.toD).bind _)=_
 rw[hg]
 show(if(zs.all zY||(meet (some oa.str) (some ob.str)).isSome)=true then _ else _:Option RV).bind _=_
 rw[if_pos (by unfold meet;simp)]
 rfl
theorem Wj{g:D->D->Option R0}(ha:WD a as true x)(hb:WD b as true y)(hg:g x y=some (.im z)):WD (f2 a b g) as true z:=by
 have:=zlr ha hb hg
 rw[show(zY z||(true&&true))=true by simp]at this
 exact this
theorem zoV{i:Nat}{os:List O}(h:as[i]? = some (some (.nd .ls os)))(hl:os.all O.isLf=true)(hs:O.strs os=true)(hb:WD b as true y)(hg:ixP (.lst (O.toDs os)) y=some (.im z)):WD (f2 (fV i) b ixP) as true z:=by
 have:=ixB h hl hb hg
 rw[hs,show(zY z||(true&&true))=true by simp]at this
 exact this
theorem Vb:∀zs:List D,zs.map (lfs true)=zs.map (O.lf true)
 | []=>rfl
 |z::r=>by
  show lfs true z::r.map (lfs true)=_
  rw[Vb r];unfold lfs;rw[zzZ];rfl
theorem zai{g:D->D->Option R0}{oa ob:O}{zs:List D}{as1 as2:AS}(ha:a as=some (.ow oa,as1))(hb:b as1=some (.ow ob,as2))(hg:g oa.toD ob.toD=some (.fl zs))(h1:oa.str=true)(h2:ob.str=true):f2 a b g as=some (.ow (.nd .ls (zs.map (O.lf true))),as2):=by
 have:=zmK ha hb hg
 rw[h1,h2,show(true&&true)=true from rfl,Vb]at this
 exact this
theorem zdL{fr:DF}{o:O}{os:List O}{as1 as2:AS}(ha:a as=some (.ow o,as1))(hr:fr as1=some (os,as2)):dC a fr as=some (o::os,as2):=by
 unfold dC
 rw[ha];show((fr as1).bind _)=_
 rw[hr];rfl
theorem zlk{fr:DF}{os:List O}{as1:AS}(h:fr as=some (os,as1))(hl:os.length<=sizeLine):zP fr as=some (.ow (.nd .ls os),as1):=by
 unfold zP
 rw[h];show(if os.length<=sizeLine then _ else _)=_
 rw[if_pos hl]
theorem zcF{i:Nat}{o:O}{as1:AS}(h:f as=some (.ow o,as1))(hi:i<as1.length):zF true i f as=some (.nx (as1.set i (some o.frz))):=by
 unfold zF
 rw[h]
 exact if_pos hi
theorem add_lists{xs ys:List D}(h:xs.length+ys.length<=sizeLine):zm .Add (.lst xs) (.lst ys)=some (.fl (xs++ys)):=if_pos h
theorem Vn(lo:Int)(n:Nat):vH lo (n+1)=(true,.int lo)::vH (lo+1) n:=by
 unfold vH
 rw[List.range_succ_eq_map,zyO,List.map_map]
 congr 1
 · simp
 · apply List.map_congr_left
   intro i _
   show(true,D.int _)=(true,D.int _)
   congr 2
   show lo+((i+1:Nat):Int)=_
   omega
theorem zau{fr:AF}{rs:List (Bool×D)}{g:List D->Option R0}(ha:WA fr as rs)(hg:g (rs.map (·.2))=some (.im x))(e:rs.all (·.1)=true):WD (fP fr g) as true x:=by
 have:=zfX ha hg;rw[e,zzZ]at this;exact this
theorem zcX{ty:Ty}{fr:AF}{rs:List (Bool×D)}{g:D->List D->Option R0}(ha:WD a as s y)(ht:zbH ty y=true)(hr:WA fr as rs)(hg:g y (rs.map (·.2))=some (.im x))(e:zY x=true):WD (xu ty a fr g) as true x:=by
 unfold WD xu;unfold WD at ha;unfold WA at hr
 rw[ha]
 show(if zbH ty y=true then _ else _:Option (RV×AS))=_
 rw[if_pos ht,hr]
 simp only[zyH,vZ]
 show((g y (rs.map (·.2))).bind _)=_
 rw[hg]
 show(if(zY x||_)=true then _ else _:Option RV).bind _=_
 rw[if_pos (by rw[e];rfl)]
 show some (RV.ow (.lf (zY x||_) x),as)=_
 rw[e];rfl
theorem ziD{fl fh:OF}{lo hi:Option Int}{g:D->Option Int->Option Int->Option R0}(ha:WD a as s y)(hl:fl as=some (lo,as))(hh:fh as=some (hi,as))(hg:g y lo hi=some (.im x)):WD (fSl a fl fh g) as (zY x||s) x:=by
 unfold WD fSl;unfold WD at ha
 rw[ha];show((fl as).bind _)=_
 rw[hl];show((fh as).bind _)=_
 rw[hh];show((g y lo hi).bind _)=_
 rw[hg]
 show(if(zY x||(some s).isSome)=true then _ else _:Option RV).bind _=_
 rw[if_pos (by simp)];rfl
theorem zhj{g:GF}{fe:EF}{as0 as1:AS}{y:It1}{r:List It1}{os:List O}(h1:g y as0=some as1)(h2:WD fe as1 true x)(h3:wF g zgO fe as0 r=some os):wF g zgO fe as0 (y::r)=some (.lf true x::os):=by
 show(g y as0).bind _=_
 rw[h1];show(fe as1).bind _=_
 unfold WD at h2
 rw[h2];show(wF g zgO fe as0 r).bind _=_
 rw[h3];rfl
theorem zgI{fi:IF}{cap:List (Option Nat)}{g:GF}{tt:TF}{fe:EF}{xs:List It1}{os:List O}(h1:fi as=some (xs,as))(hl:xs.length<=sizeLine)(h2:wF g tt fe (zaZ cap as) xs=some os):zcr fi cap g tt fe as=some (.ow (.nd .ls os),as):=by
 unfold zcr
 rw[h1];show(if xs.length<=sizeLine then _ else _)=_
 rw[if_pos hl];show(wF g tt fe (zaZ cap as) xs).bind _=_
 rw[h2];rfl
theorem zjU{fs:List (EF×EF)}{kos:List (Key×O)}(h:zbk fs as=some (kos,as))(h1:(kos.map (·.1)).Nodup)(h2:kos.length<=15):zck fs as=some (.ow (.nd (.dc (kos.map (·.1))) (kos.map (·.2))),as):=by
 unfold zck
 rw[h];show(if _ then _ else _)=_
 rw[if_pos ⟨h1,h2⟩]
end
theorem szl{n:Nat}(h:Nat.ble n 1000=true):n<=sizeLine:=Nat.le_of_lt (ZW (Nat.le_of_ble_eq_true h))
theorem zQ{a b:Nat}(h:Nat.ble (a+1) b=true):a<b:=Nat.le_of_ble_eq_true h
theorem yC{i:Int}(h0 : -(10 ^ 200)<i)(h1:i<10 ^ 200):i.natAbs<big:=by
 have:(10:Nat) ^ 200<big:=by unfold big;decide +kernel
 have e:((10 ^ 200:Nat):Int)=(10:Int) ^ 200:=by norm_cast
 have:(i.natAbs:Int)<((10 ^ 200:Nat):Int):=by rw[e];omega
 omega
theorem zgr{ns:List Int}{k:Int}(h0:0<=k)(h1:k<ns.length):∃x,ixP (.lst (ns.map D.int)) (.int k)=some (.im (.int x)):=by
 have hk:k.toNat<ns.length:=by omega
 refine⟨ns[k.toNat], ?_⟩
 have h:=zal (xs:=ns.map D.int) (j:=k.toNat) (v:=D.int ns[k.toNat]) (by rw[zzE,zzA hk];rfl)
 rw[show((k.toNat:Nat):Int)=k by omega]at h
 show imR (atI _ _)=_
 rw[h];rfl
def GC(K:zC)(kd:KD)(mg:Str->Option Value)(x:Str)(d:D):Prop:=∃v u,mg x=some u/\RelV v u/\∀(O:Addr->Prop) (H:Hp),Rp K kd O H v d
section
variable{X:Cx}{kd:KD}{K:zC}{mg:Str->Option Value}
theorem X5{x:Str}{d:D}{pos:Pos}(h:GC X.K kd X.mg x d)(hg:Gl X x)(hd:(x==("__debug__":Str))=false):AE X kd (.Name x pos) (fC d):=by
 with_unfolding_all (
 obtain⟨v,u,h1,h2,h3⟩:=h
 exact Wt (zjG hg h1 h2 hd) h3)
theorem GC.int{x:Str}{i:Int}{t:Tok}(h:mg x=some (.int i t)):GC K kd mg x (.int i):=⟨.int i,_,h,⟨t,rfl⟩,λ_ _=>.int i⟩
theorem GC.str{x y:Str}{t:Tok}(h:mg x=some (.str y t)):GC K kd mg x (.str y):=⟨.str y,_,h,⟨t,rfl⟩,λ_ _=>.str y⟩
theorem GC.tup{x:Str}{a:Addr}{od:Option Addr}{its:Array Value}{n:Nat}{sl:Array (Option Value)}{vs:List V}{ds:List D}(h:mg x=some (.ref a))(hk:K.lookup a=some ⟨.type "tuple",od,.seq its n,sl⟩)(hz:its.size<=sizeLine)(hv:Vals vs its.toList)
 (hr:∀(O:Addr->Prop) (H:Hp),RpL K kd O H vs ds):GC K kd mg x (.tup ds):=⟨.ref a,_,h,rfl,λO H=>.tupK hk rfl rfl hz hv (hr O H)⟩
def spL(K:zC)(g:Fn):Sp:=λvs H Q E=>∀kd:KD,spD K kd g vs H Q E
end
def Wc:List D->Option (List Bool)
 | []=>some []
 | .bl b::r=>(Wc r).bind λs=>some (b::s)
 |_::_=>none
def zmn:List D->Option R0
 | [.lst ds]=>(Wc ds).bind λbs=>some (.im (.bl (bs.all id)))
 |_=>none
theorem zee{K:zC}{kd:KD}{O:Addr->Prop}{H:Hp}:∀{vs:List V}{us:List Value}{ds:List D}{bs:List Bool},RpL K kd O H vs ds->Vals vs us->Wc ds=some bs->LSm.BoolsAre us bs
 |_,_,_,_,.nil,.nil,e=>by cases e;exact .nil
 |_,_,_,_,.cons (d:=d) a r,.cons b t,e=>by
  cases d with
  |bl c=>
   obtain⟨s,h1,h2⟩:=bS_ (show(Wc _).bind _=_ from e)
   cases h2
   cases a
   cases b
   exact .cons _ (zee r t h1)
  |_=>cases e
section
variable{X:Cx}{kd:KD}
theorem zgN{h h':Heap}{ob:Obj}(hk:∀b x,b ∉ [h.objs.size]->(h.push ob).get? b=some x->h'.get? b=some x)(b:Addr)(x:Obj)(e:h.get? b=some x):h'.get? b=some x:=by
 refine hk b x (λm=>?_) (zxE _ e)
 have:=zxF e
 rw[zzN.mp m]at this
 exact absurd this (Nat.lt_irrefl _)
theorem zgM(hc:X.calm=true):CallD X kd (.builtin "all") zmn:=by
 intro pins s σ H xs us Q I r h
 obtain⟨O,ds,z,ht,vl,he,q⟩:=h
 unfold zmn at he
 split at he
 · obtain⟨bs,h1,he⟩:=bS_ he
   cases he
   obtain⟨x,rfl,vx⟩:=Zc vl
   cases vx with
   |lst hr rl=>
    rename_i l vs
    obtain⟨u,rfl,ru⟩:=vals1 r
    cases ru
    obtain⟨its,rv,p,_⟩:=I.list hr.sq
    have hb:=zee rl rv h1
    have hl:=p.isList
    have hlt:l<s.heap.objs.size:=by obtain⟨_,e,_⟩:=hl;exact zxF e
    refine call_all_walk (wpAny_pyIter_list hl ?_)
    refine⟨s.heap.objs.size,[s.heap.objs.size,l],[s.heap.objs.size],its.toArray.size,_,_,(λi=>(bs[i]?).getD true),rfl,Walks.list (A:=X.A.in1) (I.ok.hd hc) _ l (zzM hlt) its.toArray,⟨⟨_,zxG _ rfl,rfl,rfl⟩,hl.push _⟩, ?_, ?_⟩
    · intro i v s' Q' E' hP hQ
      obtain⟨b,e,rfl⟩:=hb.get i v (by simpa using hP)
      simp only[e,Option.getD_some]at hQ
      exact wpAny_truthy_bool hQ
    · intro h' tk hk
      have e:((List.range its.toArray.size).all λi=>(bs[i]?).getD true)=bs.all id:=by
       rw[zzD,hb.length]
       exact LSm.range_all bs
      rw[e]
      exact⟨.bl (bs.all id),H,I.kept (zgN hk),rfl,yj q (.bl _)⟩
 · cases he
end
inductive Ents(w:World):List DictEntry->List (Key×V)->Prop
 |nil:Ents w [] []
 |str {x:Str}{t:Tok}{v:V}{u:Value}{r:List DictEntry}{s:List (Key×V)}:RelV v u->Ents w r s->Ents w (⟨PyData.keyHash w.params x,.str x t,u⟩::r) ((.inr x,v)::s)
theorem Ents.keys{P:Program}{w:World}:∀{es:List DictEntry}{kvs:List (Key×V)},Ents w es kvs->∀e ∈ es,∃k,(xr P w).is k e.key=true/\e.hash=(xr P w).hash k
 |_,_,.nil,_,m=>nomatch m
 |_,_,.str (x:=x) (t:=t) _ r,e,m=>by
  rcases zI.mp m with rfl|m
  · exact⟨.inr x,Xb P w x t,rfl⟩
  · exact r.keys e m
theorem Ents.pairs{P:Program}{w:World}:∀{es:List DictEntry}{kvs:List (Key×V)},Ents w es kvs->∃vs,KV kvs vs/\Pairs (xr P w) es vs/\vs.map (·.1)=kvs.map (·.1)
 |_,_,.nil=>⟨[],.nil,.nil,rfl⟩
 |_,_,.str (x:=x) (t:=t) (u:=u) h r=>by
  obtain⟨vs,h1,h2,h3⟩:=r.pairs (P:=P)
  exact⟨(.inr x,u)::vs,.cons ⟨rfl,h⟩ h1,.cons (Xb P w x t) rfl h2,by rw[zyO,zyO,h3]⟩
structure DctAt(w:World)(K:zC)(a:Addr)(kvs:List (Key×V)):Prop where
 ex:∃es ep,K.lookup a=some {cls:=.type "dict",data:=.dict es ep}/\Ents w es.toList kvs
 nd:(kvs.map (·.1)).Nodup
 le:kvs.length<=sizeLine
 ns:(a==sysModules)=false
def kdL(l:List (Addr×List (Key×V)))(c:Str->Addr:=λ_=>0):KD:=⟨λa k=>l.lookup a=some k,c⟩
theorem lookup_mem{l:List (Addr×List (Key×V))}{a:Addr}{k:List (Key×V)}(h:l.lookup a=some k):(a,k) ∈ l:=by
 induction l with
 |nil=>cases h
 |cons p r ih=>
  rw[List.lookup_cons]at h
  by_cases e:a=p.1
  · subst e
    rw[beq_self_eq_true]at h
    cases h
    exact zzB
  · rw[show(a==p.1)=false from beq_eq_false_iff_ne.mpr e]at h
    exact zS _ (ih h)
theorem zmz{P:Program}{w:World}{K:zC}{l:List (Addr×List (Key×V))}{c:Str->Addr}(h:∀p ∈ l,DctAt w K p.1 p.2):KD1 P w K (kdL l c):=λX e1 e2 e3=>by
 subst e1;subst e2;subst e3
 refine⟨λa k k' h1 h2=>zzV (h1.symm.trans h2),λa k h1=>?_,λa k hp h1 hin=>?_⟩
 · obtain⟨es,ep,e,_⟩:=(h _ (lookup_mem h1)).ex
   exact⟨_,e⟩
 · have q:=h _ (lookup_mem h1)
   obtain⟨es,ep,e,en⟩:=q.ex
   obtain⟨vs,h2,h3,h4⟩:=en.pairs (P:=X.prog)
   refine⟨q.le,q.ns,vs,h2,_,es,ep,hin _ _ e,⟨rfl,rfl,rfl⟩,rfl,λx m=>en.keys x (by simpa using m),h3,by rw[h4];exact q.nd⟩
section
variable{K:zC}{kd:KD}{mg:Str->Option Value}
theorem GC.dct{x:Str}{a:Addr}{kvs:List (Key×V)}{ds:List (Key×D)}(h:mg x=some (.ref a))(hk:kd a kvs)(hr:∀(O:Addr->Prop) (H:Hp),RpM K kd O H kvs ds):GC K kd mg x (.dct ds):=⟨.ref a,_,h,rfl,λO H=>.dctK hk (hr O H)⟩
end
def isStar:Expr->Bool
 | .Starred .. => true
 |_=>false
theorem za{a:Expr}{es:List Expr}{env:Env}(h:isStar a=false):starEach (a::es) env=(false,eval a env)::starEach es env:=by
 cases a<;>first|rfl|cases h
theorem xg{X:Cx}{kd:KD}{pos:Pos}{k v:Expr}{ks:List (Option Expr)}{vs:List Expr}{fk fv:EF}{trs:List (TE×TE)}(hk:AE X kd k fk)(hv:AE X kd v fv)(hr:PPs X pos ks vs trs):PPs X pos (some k::ks) (v::vs) ((al X.K kd fk,al X.K kd fv)::trs):=by with_unfolding_all exact(ziR hk hv hr)
section
variable{as:AS}{f a b c:EF}{s t u:Bool}{x y z:D}{i j k:Int}
theorem zmx{cl:String}(h:WD f as s x)(ho:zeM x=true:=by rfl):WD (zhA f cl) as true (.bl (zch (tyD x) cl)):=by
 unfold WD zhA at *;rw[h];show(if zeM x=true then _ else _)=_;rw[if_pos ho];rfl
theorem zim{cl:String}{q:Bool}(h:WD f as s x)(e:zch (tyD x) cl=q)(ho:zeM x=true:=by rfl):WD (zhA f cl) as true (.bl q):=by subst e;exact zmx h ho
theorem Vz{fl fh:OF}{lo hi:Option Int}{g:D->Option Int->Option Int->Option R0}(ha:WD a as true y)(hl:fl as=some (lo,as))(hh:fh as=some (hi,as))(hg:g y lo hi=some (.im x)):WD (fSl a fl fh g) as true x:=by
 have:=ziD ha hl hh hg;rw[zzZ]at this;exact this
theorem zhW{q:Bool}(h:WD f as s (.bl q)):WD (zgT f) as true (.bl (!q)):=by
 unfold WD zgT at *;rw[h];rfl
theorem zhC{g:GF}{tt:TF}{fe:EF}{as0 as1:AS}{w:It1}{r:List It1}{o:Option (List O)}(h1:g w as0=some as1)(h2:WT tt as1 false)(h3:wF g tt fe as0 r=o):wF g tt fe as0 (w::r)=o:=by
 unfold WT at h2
 show(g w as0).bind _=_
 rw[h1];show(tt as1).bind _=_
 rw[h2];exact h3
theorem zgS{g:GF}{tt:TF}{fe:EF}{as0 as1:AS}{w:It1}{r:List It1}{os:List O}(h1:g w as0=some as1)(h2:WT tt as1 true)(h3:WD fe as1 true x)(h4:wF g tt fe as0 r=some os):wF g tt fe as0 (w::r)=some (.lf true x::os):=by
 unfold WT at h2;unfold WD at h3
 show(g w as0).bind _=_
 rw[h1];show(tt as1).bind _=_
 rw[h2];show(fe as1).bind _=_
 rw[h3];show(wF g tt fe as0 r).bind _=_
 rw[h4];rfl
def WE(f:EF)(as:AS)(x:D):Prop:=∃o,f as=some (.ow o,as)/\o.str=true/\o.toD=x
theorem WD.e(h:WD f as true x):WE f as x:=⟨_,h,rfl,rfl⟩
theorem yE{fr:DF}{os:List O}(h:WO fr as os)(hl:os.length<=sizeLine)(hs:O.strs os=true)(e:D.lst (O.toDs os)=x):WE (zP fr) as x:=⟨_,xW h hl,hs,e⟩
theorem zet{fr:AF}{rs:List (Bool×D)}(h:WE a as x)(hr:WA fr as rs):WA (aC a fr) as ((true,x)::rs):=by
 obtain⟨o,h1,h2,rfl⟩:=h
 have:=vC h1 hr
 rw[h2]at this
 exact this
theorem X7{g:List (Bool×D)->Option O}(ha:WE a as x)(hg:g [(true,x)]=some (.lf s z)):WD (zV (aC a aN) g) as s z:=Za (zet ha zN) (by show g [(zY x||true,x)]=_;rw[zzZ];exact hg)
theorem vd{g:List (Bool×D)->Option O}(ha:WE a as x)(hb:WE b as y)(hg:g [(true,x),(true,y)]=some (.lf s z)):WD (zV (aC a (aC b aN)) g) as s z:=Za (zet ha (zet hb zN)) (by show g [(zY x||true,x),(zY y||true,y)]=_;rw[zzZ,zzZ];exact hg)
theorem zid{w:D}{g:List (Bool×D)->Option O}(ha:WE a as x)(hb:WE b as y)(hc:WE c as w)(hg:g [(true,x),(true,y),(true,w)]=some (.lf s z)):WD (zV (aC a (aC b (aC c aN))) g) as s z:=Za (zet ha (zet hb (zet hc zN))) (by show g [(zY x||true,x),(zY y||true,y),(zY w||true,w)]=_;rw[zzZ,zzZ,zzZ];exact hg)
theorem f2E{g:D->D->Option R0}(ha:WE a as x)(hb:WE b as y)(hg:g x y=some (.im z)):WD (f2 a b g) as true z:=by
 obtain⟨o,h1,h2,rfl⟩:=ha
 obtain⟨p,h3,h4,rfl⟩:=hb
 have:=zfM h1 h3 hg
 rw[h2,h4,Bool.and_true,zzZ]at this
 exact this
theorem f2L{g:D->D->Option R0}{zs:List D}(ha:WE a as x)(hb:WE b as y)(hg:g x y=some (.fl zs)):f2 a b g as=some (.ow (.nd .ls (zs.map (O.lf true))),as):=by
 obtain⟨o,h1,h2,rfl⟩:=ha
 obtain⟨p,h3,h4,rfl⟩:=hb
 exact zai h1 h3 hg h2 h4
theorem Wx:∀zs:List D,O.strs (zs.map (O.lf true))=true
 | []=>rfl
 |_::r=>Wx r
theorem W5:∀zs:List D,O.toDs (zs.map (O.lf true))=zs
 | []=>rfl
 |z::r=>congrArg (z :: ·) (W5 r)
theorem zaF{g:D->D->Option R0}{zs:List D}(ha:WE a as x)(hb:WE b as y)(hg:g x y=some (.fl zs)):WE (f2 a b g) as (.lst zs):=⟨_,f2L ha hb hg,Wx zs,congrArg D.lst (W5 zs)⟩
theorem Vl{p:Nat}(h:WE f as x)(hi:p<as.length):zF true p f as=some (.nx (as.set p (some (.lf true x)))):=by
 obtain⟨o,h1,h2,rfl⟩:=h
 have:=zam h1 hi
 rw[show o.frz = .lf true o.toD by unfold O.frz;rw[h2]]at this
 exact this
theorem zdk{q:Bool}(ha:WE a as x)(hb:WE b as y)(h:eqF 60 x y=some q):WD (f2 a b (zH .Eq)) as true (.bl q):=f2E ha hb (by show(eqF 60 x y).bind _=_;rw[h];rfl)
theorem zfj{g:List D->Option R0}(ha:WE a as x)(hg:g [x]=some (.im z)):WD (fP (aC a aN) g) as true z:=zau (zet ha zN) hg rfl
theorem zak{fl fh:OF}{lo hi:Option Int}{g:D->Option Int->Option Int->Option R0}{zs:List D}(ha:WE a as y)(hl:fl as=some (lo,as))(hh:fh as=some (hi,as))(hg:g y lo hi=some (.fl zs)):WE (fSl a fl fh g) as (.lst zs):=by
 obtain⟨o,h1,h2,rfl⟩:=ha
 refine⟨.nd .ls (zs.map (O.lf true)), ?_,Wx zs,congrArg D.lst (W5 zs)⟩
 unfold fSl
 rw[h1];show((fl as).bind _)=_
 rw[hl];show((fh as).bind _)=_
 rw[hh];show((g o.toD lo hi).bind _)=_
 rw[hg]
 show(if(zs.all zY||(some o.str).isSome)=true then some (RV.ow (.nd .ls (zs.map (lfs ((some o.str).getD false)))))else none:Option RV).bind _=_
 rw[if_pos (by simp),h2]
 show some (RV.ow (.nd .ls (zs.map (lfs true))),as)=_
 rw[Vb]
theorem zaL{xs ys:List D}:slP (.lst (xs++ys)) (some (xs.length:Int)) none=some (.fl ys):=by
 show some (R0.fl (cutD (xs++ys) (some (xs.length:Int)) none))=_
 congr 2
 unfold cutD
 rw[HT.zgl,HT.zeo,zzF,Nat.min_eq_left (by omega),List.drop_left,List.take_of_length_le (by omega)]
theorem zfa:∀ds:List D,kids true ds=ds.map λd=>(true,d)
 | []=>rfl
 |d::r=>by show(zY d||true,d)::kids true r=_;rw[zfa r,zzZ];rfl
theorem zls{ds:List D}(h:WD f as true (.tup ds)):zbP f as=some (ds.map λd=>(true,d),as):=by
 unfold zbP;unfold WD at h
 rw[h];show some (kids true ds,as)=_
 rw[zfa]
end
def V4:List D->Option (List Str)
 | []=>some []
 | .str x::r=>(V4 r).bind λs=>some (x::s)
 |_::_=>none
theorem zkd{K:zC}{kd:KD}{O:Addr->Prop}{H:Hp}{vs:List V}{us:List Value}{ds:List D}{ns:List Str}(h:RpL K kd O H vs ds)(hv:Vals vs us)(e:V4 ds=some ns):StrsAre us ns:=
 RpL.ind (P:=λvs ds=>∀us ns,Vals vs us->V4 ds=some ns->StrsAre us ns) (λus ns hv e=>by cases e;cases hv;exact .nil) (λ{v d vs ds} a _ ih us ns hv e=>by
  cases hv with
  |cons b t=>
   cases a with
   |str x=>
    obtain⟨ys,h1,h2⟩:=bS_ (show(V4 _).bind _=_ from e)
    cases h2
    obtain⟨tk,rfl⟩:=b
    exact .cons _ _ (ih _ _ t h1)
   |_=>cases e) h us ns hv e
def zcd:D->List D->Option R0
 | .str sep,[.lst ds]=>(V4 ds).bind λys=>if(ys.map (·.length)).sum+ys.length*sep.length<=16777216 then some (.im (.str (Txt.join sep ys)))else none
 |_,_=>none
def Yt:D->List D->Option R0
 | .str x,[.str y]=>if(y.length==0)=false/\x.length<=sizeLine/\(Builtin.Str.partsBetween x (Builtin.Str.occurrences x y 0 x.length (x.length+1)) y.length).length<=sizeLine then some (.fl ((Txt.split x y).map .str))else none
 |_,_=>none
section
variable{X:Cx}{kd:KD}
theorem zgz:MtD X kd "str.join" zcd:=by
 intro pins s σ H x xs v us Q I rx r h
 obtain⟨O,d,ds,r0,ht,vx,vl,he,q⟩:=h
 unfold zcd at he
 split at he
 · rename_i sep es
   obtain⟨ys,h1,he⟩:=bS_ he
   obtain⟨hz,he⟩:=zR he
   cases he
   cases vx
   obtain⟨t,rfl⟩:=rx
   obtain⟨y,rfl,vy⟩:=Zc vl
   cases vy with
   |lst hr rl=>
    obtain⟨u,rfl,ru⟩:=vals1 r
    cases ru
    obtain⟨its,rv,pl,_⟩:=I.list hr.sq
    exact join_list pl.isList (zkd rl (by simpa using rv) h1) hz λt' k=>⟨.str _,H,I.tok _,⟨t',rfl⟩,yj q (.str _)⟩
 · cases he
theorem zcv:∀{l:List (Str×Tok)}{ys:List Str},l.map (·.1)=ys->Vals (ys.map V.str) (strValues l)
 | [],_,e=>by cases e;exact .nil
 |(x,t)::r,_,e=>by cases e;exact .cons ⟨t,rfl⟩ (zcv rfl)
theorem zeq{K:zC}{O:Addr->Prop}{H:Hp}:∀ys:List Str,RpL K kd O H (ys.map V.str) (ys.map D.str)
 | []=>.nil
 |y::r=>.cons (.str y) (zeq r)
theorem Ve:MtD X kd "str.split" Yt:=by
 intro pins s σ H x xs v us Q I rx r h
 obtain⟨O,d,ds,r0,ht,vx,vl,he,q⟩:=h
 unfold Yt at he
 split at he
 · rename_i x y
   obtain⟨⟨hy,hx,hn⟩,he⟩:=zR he
   cases he
   cases vx
   obtain⟨t,rfl⟩:=rx
   obtain⟨y',rfl,vy⟩:=Zc vl
   cases vy
   obtain⟨u',rfl,ru⟩:=vals1 r
   obtain⟨u,rfl⟩:=ru
   have fin:∀(l:List (Str×Tok)) (tk:Nat),l.map (·.1)=Txt.split x y->l.length<=sizeLine->EP X pins σ Q (.ref s.heap.objs.size) {s with heap:=s.heap.push {cls:=.type "list",data:=.seq (strValues l).toArray},toks:=tk}:=λl tk hl hz=>by
    refine⟨.ref s.heap.objs.size,_,I.laid (λb o e=>zxE _ e) (zzJ _) (show wI X.prog X.w _ _ _ (.lst ((Txt.split x y).map V.str))from⟨by rw[<-hl];simpa using hz,strValues l,0,zcv hl,zxG _ rfl⟩),rfl,zbq q (zeq _) _ (I.hok.fresh (zzJ _))⟩
   cases h1:(decide (x.length<y.length)||decide (Builtin.Str.strKind x<Builtin.Str.strKind y))
   · cases hf:(Builtin.Str.occurrences x y 0 x.length (x.length+1)).isEmpty
     · refine call_meets PySem.F.slot_str_split (typeIs_str _ _ _) PySem.F.entry_str_split (PySem.F.args_str_split_2 _ _) (meets_str_split_sep x y t u h1 hy hf hx hn) ?_
       show EP X pins σ Q (.ref s.heap.objs.size) {s with toks:=_,heap:=s.heap.push {cls:=.type "list",data:=.seq (strsFrom s.toks _).toArray}}
       rw[strsFrom_eq]
       exact fin (numbered s.toks _) _ ((numbered_texts _ _).trans ((if_neg (ne_true_of_eq_false h1)).trans (if_neg (ne_true_of_eq_false hf))).symm) (by have:=congrArg List.length (numbered_texts s.toks (Builtin.Str.partsBetween x (Builtin.Str.occurrences x y 0 x.length (x.length+1)) y.length));rw[zD]at this;omega)
     · exact call_meets PySem.F.slot_str_split (typeIs_str _ _ _) PySem.F.entry_str_split (PySem.F.args_str_split_2 _ _) (meets_str_split_not_found x y t u h1 hy hf) (fin [(x,t)] s.toks ((if_neg (ne_true_of_eq_false h1)).trans (if_pos hf)).symm (by show 1<=sizeLine;decide))
   · exact call_meets PySem.F.slot_str_split (typeIs_str _ _ _) PySem.F.entry_str_split (PySem.F.args_str_split_2 _ _) (meets_str_split_cannot_occur x y t u h1) (fin [(x,t)] s.toks (if_pos h1).symm (by show 1<=sizeLine;decide))
 · cases he
def ziA:List D->Option R0
 | [.str x]=>some (.im (.str x))
 |ds=>zjR ds
def zoi:D->Option R0
 | .str x=>if x.length<=640 then(PySem.intText? x).bind λn=>some (.im (.int n))else none
 |d=>zpD d
def Y5:List D->Option R0:=on1 zoi
theorem zeG:CallD X kd (.type "str") ziA:=by
 intro pins s σ H xs us Q I r h
 obtain⟨O,ds,z,ht,vl,he,q⟩:=h
 unfold ziA at he
 split at he
 · cases he
   obtain⟨x,rfl,vx⟩:=Zc vl
   cases vx
   obtain⟨u,rfl,ru⟩:=vals1 r
   obtain⟨t,rfl⟩:=ru
   exact PySem.P.str_of_str ⟨.str _,H,I,⟨t,rfl⟩,yj q (.str _)⟩
 · exact zhi pins s σ H _ us Q I r ⟨O,_,z,ht,vl,he,q⟩
theorem Yi:CallD X kd (.type "int") Y5:=by
 intro pins s σ H xs us Q I r h
 obtain⟨O,ds,z,ht,vl,he,q⟩:=h
 obtain⟨x,d,rfl,vx,he⟩:=zjc vl he
 cases vx with
 |str y=>
  obtain⟨hl,he⟩:=ite_some' he
  obtain⟨n,hn,he⟩:=bS_ he
  cases he
  obtain⟨u,rfl,ru⟩:=vals1 r
  obtain⟨t,rfl⟩:=ru
  exact PySem.W.KIN.call_text hn hl ⟨.int _,H,I.tok _,⟨_,rfl⟩,yj q (.int _)⟩
 |int i=>cases he;exact zcq pins s σ H _ us Q I r (.inl ⟨_,rfl,yj q (.int _)⟩)
 |bl b=>cases he;exact zcq pins s σ H _ us Q I r (.inr ⟨_,rfl,yj q (.int _)⟩)
 |_=>cases he
end
section
variable{X:Cx}{pins:List (Addr×Obj)}{σ:List (Option V)}{H:Hp}{s:Shared}{h':Heap}
theorem zdc{t':Nat}{ch:List Addr}{T:Addr}{o:HO}(I:Inv X pins σ H s)(hf:∀b ∈ ch,zae X pins H b)(k:∀b u,b ∉ ch->s.heap.get? b=some u->h'.get? b=some u)(hp:s.heap.objs.size<=T)
 (new:wI X.prog X.w (upd H T o) h' T o):Inv X pins σ (upd H T o) {s with heap:=h',toks:=t'}:=by
 have hn:H T=none:=I.hok.fresh hp
 have nT:∀b u,s.heap.get? b=some u->b≠T:=λb u e z=>absurd (zzG (zxF e) (by rw[z];exact hp)) (Nat.lt_irrefl _)
 have nc:∀b u,H b=some u->b ∉ ch:=λb u e z=>by have:=(hf b z).1;rw[e]at this;cases this
 refine I.step (g':=s.gens) (d':=s.drawn) (ch:=ch) (λb hb=>?_) (λb o _ _ hc e _=>k b o hc e) (λb o _ _ hc e _=>⟨o.slots,k b o hc e⟩) (λb o _ e n=>by rw[zK (nT b o e)];exact n)
  (λb o hc e=>⟨o,k b o hc e⟩) (λb xs e=>by rw[zK (yu e hn)];exact e) (λb o u e=>by rw[zK (yu e hn)];exact e) (λb ps e=>⟨#[],by rw[zK (yu e hn),e];simp⟩) (λm hm=>?_) (λb u e=>?_) I.bare
 · obtain⟨f0,f1,f2,f3,f4,f5⟩:=hf b hb
   exact⟨f3,f1,f4,f5⟩
 · obtain⟨o,es,ep,ho,r⟩:=hm
   exact⟨o,es,ep,k _ o (λz=>(hf _ z).2.1 rfl) ho,r⟩
 · by_cases hb:b=T
   · subst hb;rw[zZ]at e;cases e;exact new
   · rw[zK hb]at e
     refine(I.hok b u e).stay (λc v hc q=>k c v ?_ q) (λc q=>by rw[zK (yu q hn)];exact q) λc xs q=>by rw[zK (yu q hn)];exact q
     rcases hc with z|z
     · rw[z];exact nc b u e
     · exact nc c _ z
end
def Ite(K:zC)(a:Addr):It:=
 ⟨λi H=>∃xs x,SqL K H a xs/\xs[i]? = some x,λi H v H'=>∃T x,H T=none/\v = .ref T/\H'=upd H T (.tup [.int i,x])/\∀xs,SqL K H a xs->xs[i]? = some x,λi H=>∃xs,SqL K H a xs/\xs.length<=i⟩
theorem zht{P:Program}{w:World}{K:zC}{elts:List Expr}{k:Nat}{pos:Pos}(a e it:Addr)(hei:e≠it):Turn P w K (.Tuple elts k pos) (Ite K a) [e,it] e (λi h=>(∃old,IsEnum h e it i old)/\h.IsListIter it a i)where
 mem:=by simp
 obj:=λi h st b hb=>by
  obtain⟨⟨old,he⟩,⟨o,e1,c,d⟩⟩:=st
  rcases zI.mp hb with rfl|hb
  · exact⟨_,he,λv z=>by cases z⟩
  · rw[zzN.mp hb]
    exact⟨o,e1,λv z=>by rw[d]at z;cases z⟩
 keep:=λi h h' st kk=>⟨st.1.imp λold he=>kk e (by simp) _ he,st.2.at λo q=>kk it (by simp) o q⟩
 item:=by
  intro X hP hw hK hc i pins s σ H E I hf st hg
  subst hP hw hK
  obtain⟨xs,x,hq,hx⟩:=hg
  obtain⟨its,rv,p,hz⟩:=I.list hq
  obtain⟨u,hu,ru⟩:=rv.get hx
  have hil:i<its.toArray.size:=by have:=(zzC.mp hu).1;simpa using this
  obtain⟨ol,hol,hcl,_⟩:=p.isList
  have hae:a≠e:=λz=>by
   obtain⟨⟨old,he⟩,_⟩:=st
   rw[z]at hol;rw[show s.heap.get? e=_ from he]at hol;cases hol
   injection hcl with q;exact absurd q (by decide)
  have hai:a≠it:=λz=>by
   obtain⟨_,⟨o,e1,c,d⟩⟩:=st
   rw[z,e1]at hol;cases hol;rw[c]at hcl
   injection hcl with q;exact absurd q (by decide)
  have W:=WalksT.enumerate (prog:=X.prog) (w:=X.w) (A:=X.A) (I.ok.hd hc) e it a hei hae hai its.toArray
  refine W.item i s _ _ hil ⟨st.1,st.2,p.isList⟩ λT vals h1 tk hP hT hTup hMid kk=>?_
  obtain⟨t,v,hv,rfl⟩:=hP
  have:v=u:=by rw[show its.toArray[i]? = its[i]? by simp,hu]at hv;cases hv;rfl
  subst this
  refine⟨_,rfl,W.go elts k pos i T {s with heap:=h1,toks:=tk} _ _ hMid λh2 hSt kk2=>?_⟩
  have hn:H T=none:=I.hok.fresh hT
  have hTw:=W.apart i T h1 hMid
  have k2:∀b o,b ∉ [e,it]->s.heap.get? b=some o->h2.get? b=some o:=λb o hb q=>kk2 b o hb (kk b o hb q)
  have hT2:IsTup h2 T #[.int i t,v]:=by
   obtain⟨o,q1,q2⟩:=hTup
   exact⟨o,kk2 T o hTw q1,q2⟩
  refine⟨.ref T,upd H T (.tup [.int i,x]),zdc (s:=s) (t':=tk) (ch:=[e,it]) I hf k2 hT ⟨by show 2<=sizeLine;decide,[.int i t,v],.cons ⟨t,rfl⟩ (.cons ru .nil),hT2⟩,rfl,⟨T,x,hn,rfl,rfl,λys hy=>by rw[I.list_inj hy hq];exact hx⟩,⟨hSt.1,hSt.2.1⟩,λb hb=>?_⟩
  have hbT:b≠T:=λz=>hTw (by rw[<-z];exact hb)
  rw[zK hbT]
  exact(hf b hb).1
 done:=by
  intro X hP hw hK hc i pins s σ H E I hf st hg
  subst hP hw hK
  obtain⟨xs,hq,hx⟩:=hg
  obtain⟨its,rv,p,hz⟩:=I.list hq
  have hl:=rv.length
  obtain⟨⟨old,he⟩,hit⟩:=st
  obtain⟨f0,f1,f2,f3,f4,f5⟩:=hf it (by simp)
  exact wpAny_pyNext_enum_end (I.ok.hd hc) he hit p.isList (by simp;omega) λh' eb=>⟨rfl,I.turned (t':=s.toks) (λb o hb e=>eb b o hb e) f0 f1 f3 f4 f5⟩
 self:=λ_ _ _ _ _ st h=>by
  obtain⟨⟨old,he⟩,_⟩:=st
  exact wpAny_pyIter_enum he h
section
variable{X:Cx}{tg:Expr}
def zms(K:zC)(ta:TA):TI:=λσ H R=>ta σ H λvs H1=>∃a,vs=[.ref a]/\(∃xs,SqL K H1 a xs)/\R (Ite K a) H1
theorem zkl{l:Expr}{ta:TA}{p pos pos':Pos}{elts:List Expr}{k:Nat}(hg:Gl X "enumerate")(hm:X.mg "enumerate"=none)(ha:PA X [l] ta)(hs:starEach [l] X.env=[(false,eval l X.env)]):
 PI X (.Tuple elts k pos') (.Call (.Name "enumerate" p) [l] [] pos) (zms X.K ta):=by
 intro pins s σ H R I h
 refine Call_ (Wo I hg hm boot_enumerate (PyProof.Rows.callWith_type1 (thn (ha pos pins s σ H _ I h) λus s1 ⟨vs,H1,I1,r1,q1⟩=>?_) hs rfl))
 obtain⟨a,rfl,⟨xs,hq⟩,q⟩:=q1
 cases r1 with
 |cons r rr=>
  cases rr
  cases r
  obtain⟨its,rv,pl,hz⟩:=I1.list hq
  refine call_enumerate_list pl.isList λh' he hit hsz hk=>?_
  refine wpAny_pyIter_enum he ⟨s1.heap.objs.size+1,[s1.heap.objs.size+1,s1.heap.objs.size],_,_,H1,rfl,I1.kept (t':=s1.toks) hk,zht a _ _ (Nat.succ_ne_self _),⟨⟨_,he⟩,hit⟩,λb hb=>?_,q⟩
  have hb':s1.heap.objs.size<=b:=by
   rcases zI.mp hb with rfl|hb
   · exact zyT _
   · rw[zzN.mp hb];exact zzJ _
  exact I1.fpOk hb' (I1.hok.fresh hb')
end
section
variable{X:Cx}{kd:KD}{tg e:Expr}{fa:EF}
def Yv(st:Bool):Nat->List D->List It1
 |_,[]=>[]
 |i,d::r=>(st,.tup [.int i,d])::Yv st (i+1) r
theorem zbS(st:Bool):∀(i:Nat) (ds:List D),(Yv st i ds).length=ds.length
 |_,[]=>rfl
 |i,_::r=>congrArg (· + 1) (zbS st (i+1) r)
theorem zcw{st:Bool}:∀{j:Nat}{ds:List D}{i:Nat}{y:It1},(Yv st j ds)[i]? = some y->∃d,ds[i]? = some d/\y=(st,.tup [.int ((j+i:Nat):Int),d])
 |_,[],_,_,h=>by simp[Yv]at h
 |j,d::r,0,y,h=>by
  simp only[Yv,List.getElem?_cons_zero]at h
  cases h
  exact⟨d,rfl,rfl⟩
 |j,d::r,i+1,y,h=>by
  simp only[Yv,List.getElem?_cons_succ]at h
  obtain⟨d',h1,h2⟩:=zcw h
  exact⟨d',by simpa using h1,by rw[h2,show j+1+i=j+(i+1) by omega]⟩
theorem zgu{K:zC}{F B:Addr->Prop}{ad:Ad}{H:Hp}{a:Addr}{vs:List V}{st:Bool}{ds:List D}(hs:∀(ad3:Ad) (H3:Hp),Grow (Gw [] ad) H (Gw [] ad3) H3->SqL K H3 a vs)(r:RpL K kd (Lv F B (Gw [] ad) st) H vs ds):ItOk K kd F B ad H (Ite K a) (Yv st 0 ds):=⟨λad3 H3 g3 tr i=>by
 have hr3:=hs ad3 H3 g3
 have rl3:RpL K kd (Lv F B (Gw [] ad3) st) H3 vs ds:=RpL.grow g3 r
 have hlen:=zbS st 0 ds
 refine⟨λhi=>?_,λhi=>⟨_,hr3,by rw[r.length];omega⟩,λv H4 hy=>?_⟩
 · obtain⟨u,hu,_⟩:=r.get (zzA (by rw[<-hlen];exact hi))
   exact⟨_,u,hr3,hu⟩
 · obtain⟨T,x,hn,rfl,rfl,hv⟩:=hy
   refine⟨Vc hn,λy hy=>?_⟩
   obtain⟨d,hd,rfl⟩:=zcw hy
   obtain⟨u,hu,ru⟩:=rl3.get hd
   have:=hv _ hr3
   rw[hu]at this
   cases this
   rw[Nat.zero_add]
   exact .tup (λz=>tr _ _ z hn) (.inl zZ) (.cons (.int _) (.cons (Rp.grow ⟨λb o q _=>Vc hn b o q,λb z=>.inl z⟩ ru) .nil))⟩
def zkU(f:EF):IF:=λas=>(f as).bind λp=>(Vy p.2 p.1).bind λq=>match q.1 with
 |(st,.lst ds)=>some (Yv st 0 ds,q.2)
 |_=>none
theorem zkn{p pos pos':Pos}{elts:List Expr}{k:Nat}(hg:Gl X "enumerate")(hm:X.mg "enumerate"=none)(he:AE X kd e fa)(hs:starEach [e] X.env=[(false,eval e X.env)]):
 AI X kd (.Tuple elts k pos') (.Call (.Name "enumerate" p) [e] [] pos) (zkU fa):=by
 with_unfolding_all (
 intro pins s σ H R I h
 obtain⟨F,B,ad,as,ds,as',Rl,e',q⟩:=h
 obtain⟨⟨p,as1⟩,h1,e'⟩:=bS_ (show(fa as).bind _=_ from e')
 obtain⟨⟨⟨st,x⟩,as2⟩,h2,e'⟩:=bS_ e'
 match x,e',h2 with
 | .lst xs,e',h2=>
  cases e'
  refine zkl hg hm (yQ he Zo hs) hs pins s σ H R I (show al X.K kd fa σ H _ from⟨F,B,ad,as,p,as1,Rl,h1,λv T1 ad1 H1 R1 rv1 g1=>?_⟩)
  obtain⟨ad2,R2,rp,le⟩:=vV R1 rv1 h2
  cases rp with
  |lst hn hr rl=>exact⟨_,rfl,⟨_,.inl hr⟩,q _ ad2 H1 R2 (g1.trans (Grow.less le)) (zgu (λad3 H3 g3=>.inl (Yn g3 (λz=>hn (.inr z)) hr)) rl)⟩
  |lstK a b c rl=>exact⟨_,rfl,⟨_,.inr ⟨_,_,_,a,rfl,rfl,rfl,b,c⟩⟩,q _ ad2 H1 R2 (g1.trans (Grow.less le)) (zgu (λad3 H3 g3=>.inr ⟨_,_,_,a,rfl,rfl,rfl,b,c⟩) rl)⟩)
end
def Itv(K:zC)(a:Addr)(n:Nat):It:=
 ⟨λi H=>i<n/\∃xs,SqL K H a xs/\xs.length=n,λi H v H'=>H'=H/\∀xs,SqL K H a xs->xs[n-1-i]? = some v,λi _=>n<=i⟩
theorem ziU{P:Program}{w:World}{K:zC}{tg:Expr}(a it:Addr)(n:Nat):Turn P w K tg (Itv K a n) [it] it (λi h=>i<=n/\h.IsRevIter it a ((n:Int)-1-i))where
 mem:=by simp
 obj:=λi h st b hb=>by
  have e:b=it:=by simpa using hb
  subst e
  obtain⟨_,o,e,c,d⟩:=st
  exact⟨o,e,λv z=>by rw[d]at z;cases z⟩
 keep:=λi h h' st k=>⟨st.1,st.2.at λo e=>k it (by simp) o e⟩
 item:=by
  intro X hP hw hK hc i pins s σ H E I hf st hg
  subst hP hw hK
  obtain⟨hi,xs,hq,hl⟩:=hg
  obtain⟨its,rv,p,hz⟩:=I.list hq
  have hx:xs[n-1-i]? = some (xs[n-1-i]'(by omega)):=zzA _
  obtain⟨u,hu,ru⟩:=rv.get hx
  obtain⟨f0,f1,f2,f3,f4,f5⟩:=hf it (by simp)
  obtain⟨hin,hst⟩:=st
  rw[show(n:Int)-1-i=((n-1-i:Nat):Int) by omega]at hst
  refine wpAny_pyNext_rev_item hst p.isList (x:=u) (by simpa using hu) λh' st' sb=>?_
  have I1:Inv X pins σ H {s with heap:=h'}:=I.turned (t':=s.toks) (λb o hb e=>(sb.2 b hb).trans e) f0 f1 f3 f4 f5
  obtain⟨o,e,c,d⟩:=id st'
  refine⟨u,rfl,zdF (s:={s with heap:=h'}) e c d (by decide) ⟨_,H,I1,ru,⟨rfl,λys hy=>by rw[I.list_inj hy hq];exact hx⟩,⟨hi, ?_⟩,λb hb=>(hf b hb).1⟩⟩
  rw[show(n:Int)-1-((i+1:Nat):Int)=((n-1-i:Nat):Int)-1 by omega]
  exact st'
 done:=by
  intro X hP hw hK hc i pins s σ H E I hf st hg
  subst hP hw hK
  obtain⟨hin,hst⟩:=st
  obtain⟨f0,f1,f2,f3,f4,f5⟩:=hf it (by simp)
  rw[show(n:Int)-1-i = -1 by have:n<=i:=hg;omega]at hst
  exact wpAny_pyNext_rev_end (I.ok.hd hc) hst λh' eb=>⟨rfl,I.turned (t':=s.toks) (λb o hb e=>eb b o hb e) f0 f1 f3 f4 f5⟩
 self:=λ_ _ _ _ _ st h=>wpAny_pyIter_revIter st.2 h
section
variable{X:Cx}{tg:Expr}
def zot(K:zC)(ta:TA):TI:=λσ H R=>ta σ H λvs H1=>∃a xs,vs=[.ref a]/\SqL K H1 a xs/\R (Itv K a xs.length) H1
theorem znb{l:Expr}{ta:TA}{p pos:Pos}(hg:Gl X "reversed")(hm:X.mg "reversed"=none)(ha:PA X [l] ta)(hs:starEach [l] X.env=[(false,eval l X.env)]):
 PI X tg (.Call (.Name "reversed" p) [l] [] pos) (zot X.K ta):=by
 intro pins s σ H R I h
 refine Call_ (Wo I hg hm boot_reversed (PyProof.Rows.callWith_type1 (thn (ha pos pins s σ H _ I h) λus s1 ⟨vs,H1,I1,r1,q1⟩=>?_) hs rfl))
 obtain⟨a,xs,rfl,hq,q⟩:=q1
 cases r1 with
 |cons r rr=>
  cases rr
  cases r
  obtain⟨its,rv,pl,hz⟩:=I1.list hq
  have hl:=rv.length
  refine call_reversed_list pl.isList ?_
  have hobj:Heap.IsRevIter (s1.heap.push (revObj a ((its.toArray.size:Int)-1))) s1.heap.objs.size a ((its.toArray.size:Int)-1):=⟨_,zxG _ rfl,rfl,rfl⟩
  refine wpAny_pyIter_revIter (s:={s1 with heap:=s1.heap.push (revObj a ((its.toArray.size:Int)-1))}) hobj ⟨s1.heap.objs.size,[s1.heap.objs.size],_,_,H1,rfl,I1.kept (t':=s1.toks) λb o e=>zxE _ e,ziU a _ xs.length,⟨Nat.zero_le _, ?_⟩,λb hb=>?_,q⟩
  · rw[show(xs.length:Int)-1-((0:Nat):Int)=(its.toArray.size:Int)-1 by rw[hl];simp]
    exact hobj
  · rw[zzN.mp hb]
    exact I1.fpOk (zzJ _) (I1.hok.fresh (zzJ _))
end
section
variable{X:Cx}{kd:KD}{tg e:Expr}{fa:EF}
theorem ziX{K:zC}{F B:Addr->Prop}{ad:Ad}{H:Hp}{a:Addr}{vs:List V}{st:Bool}{ds:List D}(hs:∀(ad3:Ad) (H3:Hp),Grow (Gw [] ad) H (Gw [] ad3) H3->SqL K H3 a vs)(r:RpL K kd (Lv F B (Gw [] ad) st) H vs ds):ItOk K kd F B ad H (Itv K a vs.length) (kids st ds.reverse):=⟨λad3 H3 g3 tr i=>by
 have hr3:=hs ad3 H3 g3
 have rl3:RpI K kd F B (Gw [] ad3) H3 vs (kids st ds):=(Yh r).grow g3
 have hl:vs.length=ds.length:=r.length
 have hlen:(kids st ds.reverse).length=ds.length:=by unfold kids;simp
 refine⟨λhi=>⟨by omega,_,hr3,rfl⟩,λhi=>by show vs.length<=i;omega,λv H4 hy=>?_⟩
 obtain⟨rfl,hv⟩:=hy
 refine⟨λ_ _ z=>z,λy hy=>?_⟩
 have hi:i<ds.length:=by rw[<-hlen];exact(zzC.mp hy).1
 have hy2:(kids st ds)[vs.length-1-i]? = some y:=by
  unfold kids at hy ⊢
  rw[zzE]at hy ⊢
  rw[List.getElem?_reverse hi]at hy
  rw[hl];exact hy
 obtain⟨u,hu,ru⟩:=rl3.get hy2
 have:=hv _ hr3
 rw[hu]at this
 cases this
 exact ru⟩
def zkE(f:EF):IF:=λas=>(f as).bind λp=>(Vy p.2 p.1).bind λq=>match q.1 with
 |(st,.lst ds)=>some (kids st ds.reverse,q.2)
 |_=>none
theorem zmu{p pos:Pos}(hg:Gl X "reversed")(hm:X.mg "reversed"=none)(he:AE X kd e fa)(hs:starEach [e] X.env=[(false,eval e X.env)]):
 AI X kd tg (.Call (.Name "reversed" p) [e] [] pos) (zkE fa):=by
 with_unfolding_all (
 intro pins s σ H R I h
 obtain⟨F,B,ad,as,ds,as',Rl,e',q⟩:=h
 obtain⟨⟨p,as1⟩,h1,e'⟩:=bS_ (show(fa as).bind _=_ from e')
 obtain⟨⟨⟨st,x⟩,as2⟩,h2,e'⟩:=bS_ e'
 match x,e',h2 with
 | .lst xs,e',h2=>
  cases e'
  refine znb hg hm (yQ he Zo hs) hs pins s σ H R I (show al X.K kd fa σ H _ from⟨F,B,ad,as,p,as1,Rl,h1,λv T1 ad1 H1 R1 rv1 g1=>?_⟩)
  obtain⟨ad2,R2,rp,le⟩:=vV R1 rv1 h2
  cases rp with
  |lst hn hr rl=>exact⟨_,_,rfl,.inl hr,q _ ad2 H1 R2 (g1.trans (Grow.less le)) (ziX (λad3 H3 g3=>.inl (Yn g3 (λz=>hn (.inr z)) hr)) rl)⟩
  |lstK a b c rl=>exact⟨_,_,rfl,.inr ⟨_,_,_,a,rfl,rfl,rfl,b,c⟩,q _ ad2 H1 R2 (g1.trans (Grow.less le)) (ziX (λad3 H3 g3=>.inr ⟨_,_,_,a,rfl,rfl,rfl,b,c⟩) rl)⟩)
end
def Itc(x:Str):It:=⟨λi _=>i<x.cps.size,λi H v H'=>H'=H/\∃c,x.cps[i]? = some c/\v = .str ⟨#[c]⟩,λi _=>x.cps.size<=i⟩
theorem zdR{P:Program}{w:World}{K:zC}{tg:Expr}(it:Addr)(x:Str)(t:Tok)(ty:String)(hty : ["enumerate","zip","dict_itemiterator","dict_reverseitemiterator","odict_iterator","itertools.zip_longest","itertools.pairwise"].contains ty=false)
 (hW:∀A:Around,A.handled=none->Walks P w A it [it] [it] x.cps.size (SignAt x) (λi h=>h.IsStrIter it ty x t i))
 (hS:∀(A:Around) (i:Nat) (s:Shared) (Q:Value->Shared->Prop) (E:Value->Shared->Prop),s.heap.IsStrIter it ty x t i->Q (.ref it) s->wpAny (model P w) A (pyIter (.ref it)) Q E s):Turn P w K tg (Itc x) [it] it (λi h=>i<=x.cps.size/\h.IsStrIter it ty x t i)where
 mem:=by simp
 obj:=λi h st b hb=>by
  have e:b=it:=by simpa using hb
  subst e
  obtain⟨_,o,e,c,d⟩:=st
  exact⟨o,e,λv z=>by rw[d]at z;cases z⟩
 keep:=λi h h' st k=>⟨st.1,let⟨o,e,r⟩:=st.2;⟨o,k it (by simp) o e,r⟩⟩
 item:=by
  intro X hP hw hK hc i pins s σ H E I hf st hg
  subst hP hw hK
  obtain⟨f0,f1,f2,f3,f4,f5⟩:=hf it (by simp)
  refine(hW X.A (I.ok.hd hc)).item i s _ _ hg st.2 λv h' tk hv st' kk=>?_
  obtain⟨c,u,hcc,rfl⟩:=hv
  have I1:Inv X pins σ H {s with heap:=h',toks:=tk}:=I.turned (λb o hb e=>kk b o (by simpa using hb) e) f0 f1 f3 f4 f5
  obtain⟨o,e,cl,d⟩:=id st'
  exact⟨_,rfl,zdF (s:={s with heap:=h',toks:=tk}) e cl d hty ⟨.str ⟨#[c]⟩,H,I1,⟨u,rfl⟩,⟨rfl,c,hcc,rfl⟩,⟨hg,st'⟩,λb hb=>(hf b hb).1⟩⟩
 done:=by
  intro X hP hw hK hc i pins s σ H E I hf st hg
  subst hP hw hK
  obtain⟨f0,f1,f2,f3,f4,f5⟩:=hf it (by simp)
  obtain⟨hin,hst⟩:=st
  have:i=x.cps.size:=Nat.le_antisymm hin hg
  subst this
  exact(hW X.A (I.ok.hd hc)).done s _ _ hst λh' tk kk=>⟨rfl,I.turned (λb o hb e=>kk b o (by simpa using hb) e) f0 f1 f3 f4 f5⟩
 self:=λA i s Q E st h=>by
  obtain⟨_,hst⟩:=st
  exact hS A i s Q E hst h
section
variable{X:Cx}{tg:Expr}
def zor(te:TE):TI:=λσ H R=>te σ H λv H1=>∃x,v = .str x/\R (Itc x) H1
theorem znI{e:Expr}{te:TE}(he:PE X e te):PI X tg e (zor te):=by
 intro pins s σ H R I h
 refine thn (he pins s σ H _ I h) λv s1 ⟨y,H1,I1,r1,q1⟩=>?_
 obtain⟨x,rfl,q⟩:=q1
 obtain⟨t,rfl⟩:=r1
 have fp:∀b ∈ [s1.heap.objs.size],zae X pins H1 b:=λb hb=>by
  rw[zzN.mp hb]
  exact I1.fpOk (zzJ _) (I1.hok.fresh (zzJ _))
 cases ha:x.cps.all (· < 128)
 · exact wpAny_pyIter_wide ha ⟨s1.heap.objs.size,[s1.heap.objs.size],_,_,H1,rfl,I1.kept (t':=s1.toks) λb o e=>zxE _ e,zdR _ x t "str_iterator" (by decide) (λA hA=>Walks.strWide hA _ x t) (λ_ _ _ _ _ st h=>wpAny_pyIter_striter_wide st h),⟨Nat.zero_le _,_,zxG _ rfl,rfl,rfl⟩,fp,q⟩
 · exact wpAny_pyIter_ascii ha ⟨s1.heap.objs.size,[s1.heap.objs.size],_,_,H1,rfl,I1.kept (t':=s1.toks) λb o e=>zxE _ e,zdR _ x t "str_ascii_iterator" (by decide) (λA hA=>Walks.strAscii hA _ x t) (λ_ _ _ _ _ st h=>wpAny_pyIter_striter_ascii st h),⟨Nat.zero_le _,_,zxG _ rfl,rfl,rfl⟩,fp,q⟩
end
section
variable{X:Cx}{kd:KD}{tg e:Expr}{fa:EF}
def vJ(x:Str):List It1:=x.cps.toList.map λc=>(true,.str ⟨#[c]⟩)
theorem zjS{K:zC}{F:Addr->Prop}{H:Hp}(x:Str):ItC K kd F H (Itc x) (vJ x):=⟨λH2 T k hT i=>by
 have hl:(vJ x).length=x.cps.size:=by unfold vJ;simp
 refine⟨λhi=>by rw[hl]at hi;exact hi,λhi=>by rw[hl]at hi;exact hi,λv H3 hy=>?_⟩
 obtain⟨rfl,c,hc,rfl⟩:=hy
 refine⟨λ_ _ z=>z,λd hd=>?_⟩
 unfold vJ at hd
 rw[zzE]at hd
 rw[show x.cps.toList[i]? = x.cps[i]? by simp,hc]at hd
 cases hd
 exact .str _⟩
def ziz(f:EF):IF:=λas=>(f as).bind λp=>match p.1 with
 | .ow (.lf _ (.str x))=>some (vJ x,p.2)
 |_=>none
theorem zil(he:AE X kd e fa):AIc X kd tg e (ziz fa):=by
 with_unfolding_all (
 intro pins s σ H R I h
 obtain⟨F,B,ad,as,ds,as',Rl,e',q⟩:=h
 obtain⟨⟨p,as1⟩,h1,e'⟩:=bS_ (show(fa as).bind _=_ from e')
 match p,e',h1 with
 | .ow (.lf st (.str x)),e',h1=>
  cases e'
  refine znI he pins s σ H R I ⟨F,B,ad,as,_,as1,Rl,h1,λv T1 ad1 H1 R1 rv1 g1=>?_⟩
  have rp:=ziu R1 rv1
  cases rp
  exact⟨x,rfl,q _ ad1 H1 R1.drop (g1.trans (Grow.less Gw.drop)) (zjS x)⟩)
end
abbrev tx(v:Int):Str:=Str.ofString (toString v)
abbrev bl1:Str:=⟨#[32]⟩
def NB(x:Str):Prop:=32 ∉ x.cps.toList
theorem zdi{a b:Str}(h:a.cps.toList=b.cps.toList):a=b:=Str.ext' (Array.toList_inj.mp h)
theorem app_list(a b:Str):(a++b).cps.toList=a.cps.toList++b.cps.toList:=by rw[Str.cps_append,Array.toList_append]
theorem Vm(a b:Str)(r:List Str):(Str.join bl1 (a::b::r)).cps.toList=a.cps.toList++32::(Str.join bl1 (b::r)).cps.toList:=by
 show(a++bl1++Str.join bl1 (b::r)).cps.toList=_
 rw[app_list,app_list,zyZ];rfl
theorem zmA{v:Int}(h0:0<=v)(h1:v<10 ^ 60):(tx v).length<=60:=toString_length_le h0 (by decide) h1
theorem blank_eq:(" ":Str)=bl1:=by decide +kernel
theorem zoe{v:Int}:NB (tx v):=int_text_free' 32 ⟨by decide,by decide⟩ v
theorem log2_small{n:Nat}(h:n<2 ^ 300):n.log2<1920:=by
 by_cases e:n=0
 · subst e;decide
 · exact zzG ((Nat.log2_lt e).mpr h) (by decide)
theorem zmw{v:Int}(h0:0<=v)(h1:v<10 ^ 60):v.natAbs.log2<1920:=by
 refine log2_small ?_
 have:(10:Nat) ^ 60<2 ^ 300:=by decide +kernel
 have:(v.natAbs:Int)<((10 ^ 60:Nat):Int):=by
  have e:((10 ^ 60:Nat):Int)=(10:Int) ^ 60:=by norm_cast
  rw[e];omega
 omega
theorem len_eq(x:Str):x.length=x.cps.toList.length:=by simp[Str.length]
theorem ZR:∀(xs ys:List Str),xs≠[]->ys≠[]->Str.join bl1 (xs++ys)=Str.join bl1 xs++bl1++Str.join bl1 ys
 | [],_,h,_=>absurd rfl h
 | [a],[],_,h=>absurd rfl h
 | [a],b::r,_,_=>rfl
 |a::b::r,ys,_,hy=>by
  have ih:=ZR (b::r) ys (by simp) hy
  refine zdi ?_
  have e1:(Str.join bl1 (a::b::r++ys)).cps.toList=a.cps.toList++32::(Str.join bl1 (b::r++ys)).cps.toList:=Vm a b (r++ys)
  rw[e1,ih]
  simp only[app_list,Vm,zyZ,List.cons_append]
theorem zdU:∀(xs:List Str) (n:Nat),(∀x ∈ xs,x.length<=n)->(Str.join bl1 xs).length<=(n+1)*xs.length
 | [],n,_=>by show 0<=_;omega
 | [a],n,h=>by have:=h a (by simp);show a.length<=(n+1)*1;omega
 |a::b::r,n,h=>by
  have ih:=zdU (b::r) n (λx m=>h x (zS _ m))
  have ha:=h a (by simp)
  rw[len_eq,Vm,zzF,zzP,<-len_eq,<-len_eq]
  have e:(n+1)*(a::b::r).length=(n+1)*(b::r).length+(n+1):=by rw[zzP,Nat.mul_add,Nat.mul_one]
  omega
section
variable{as:AS}{f a b:EF}{s t:Bool}{x y z:D}
theorem znF{ty:Ty}{g:D->List D->Option R0}{zs:List D}(ha:WD a as true y)(ht:zbH ty y=true)(hb:WE b as x)(hg:g y [x]=some (.fl zs)):WE (xu ty a (aC b aN) g) as (.lst zs):=by
 have hr:WA (aC b aN) as [(true,x)]:=zet hb zN
 refine⟨.nd .ls (zs.map (O.lf true)), ?_,Wx zs,congrArg D.lst (W5 zs)⟩
 unfold xu;unfold WD at ha;unfold WA at hr
 rw[ha]
 show(if zbH ty y=true then _ else _:Option (RV×AS))=_
 rw[if_pos ht,hr]
 simp only[zyH,vZ]
 show((g y [x]).bind _)=_
 rw[hg]
 show(if(zs.all zY||true)=true then some (RV.ow (.nd .ls (zs.map (lfs true))))else none:Option RV).bind _=_
 rw[if_pos (by simp),Vb];rfl
theorem zlQ{x:Str}(h:WD f as s (.str x)):ziz f as=some (vJ x,as):=by
 unfold ziz;unfold WD at h
 rw[h];rfl
theorem zlK{ds:List D}(h:WD f as true (.lst ds)):zkU f as=some (Yv true 0 ds,as):=by
 unfold zkU;unfold WD at h
 rw[h];rfl
theorem zoK{ds:List D}(h:WD f as true (.lst ds)):zkE f as=some (ds.reverse.map λd=>(true,d),as):=by
 unfold zkE;unfold WD at h
 rw[h]
 show some (kids true ds.reverse,as)=_
 rw[zfa]
theorem zeP{xs ys:List D}:slP (.lst (xs++ys)) none (some (xs.length:Int))=some (.fl xs):=by
 show some (R0.fl (cutD (xs++ys) none (some (xs.length:Int))))=_
 congr 2
 unfold cutD
 rw[HT.zgl,HT.zeo,zzF,Nat.min_eq_left (by omega),List.drop_zero,Nat.sub_zero,List.take_left]
end
theorem zkO{L:Bool->V->D->Prop}{N:Addr->Prop}{H:Hp}{vs:List V}{ls:List O}{fp:List Addr}(h:RoL L N H vs ls fp):vs.length=ls.length:=RoL.length h
theorem zkN{H:Hp}{l:Addr}{u w:HO}:upd (upd H l u) l w=upd H l w:=by
 funext a
 by_cases e:a=l
 · subst e;rw[zZ,zZ]
 · rw[zK e,zK e,zK e]
section
variable{K:zC}{kd:KD}{F B G:Addr->Prop}{H:Hp}
theorem zaP{p:Addr}{u:HO}(hp:G p):Grow G H G (upd H p u):=⟨λb w h n=>by rw[zK (λe=>n (by subst e;exact hp))];exact h,λb z=>.inl z⟩
theorem zbX{L:Bool->V->D->Prop}{N:Addr->Prop}{v:V}{st':Bool}{d':D}(h:L st' v d'):∀(os:List O) {vs:List V}{fp:List Addr}{n:Nat}{st:Bool}{d:D},RoL L N H vs os fp->os[n]? = some (.lf st d)->RoL L N H (vs.set n v) (os.set n (.lf st' d')) fp
 | [],_,_,_,_,_,_,e=>by simp at e
 |o1::os,_,_,n,st,d,r,e=>by
  cases r with
  |cons a r=>
   cases n with
   |zero=>
    simp at e
    subst e
    cases a with
    |lf _=>exact .cons (.lf h) r
   |succ n=>exact .cons a (zbX h os (n:=n) (st:=st) (d:=d) r (by simpa using e))
end
section
variable{K:zC}{kd:KD}{F B:Addr->Prop}{ad:Ad}{as:AS}{σ:St}{H:Hp}{i:Nat}{o:O}
theorem Rel.slotU(R:Rel K kd F B [] ad as σ H)(k:as[i]? = some (some o)):
 ∃v,σ[i]? = some (some v)/\RoS K kd F B (Gw [] ad) H v o (ad i)/\(ad i).Nodup/\(∀a ∈ ad i,Gw [] ad a)/\
  ∀(p:Addr) (u:HO) (o':O),p ∈ ad i->RoS K kd F B (Gw [] ad) (upd H p u) v o' (ad i)->Rel K kd F B [] ad (as.set i (some o')) σ (upd H p u)/\Grow (Gw [] ad) H (Gw [] ad) (upd H p u):=by
 obtain⟨v,hv,ro⟩:=R.sl i _ k
 have hi:i<as.length:=(zzC.mp k).1
 refine⟨v,hv,ro,R.nd i,λa m=>.inr ⟨i,m⟩,λp u o' hp ro'=>?_⟩
 have g:Grow (Gw [] ad) H (Gw [] ad) (upd H p u):=zaP (.inr ⟨i,hp⟩)
 have kn:∀a,H a≠none->upd H p u a≠none:=λa z=>by
  by_cases e:a=p
  · subst e;rw[zZ];simp
  · rw[zK e];exact z
 refine⟨⟨by rw[zzQ];exact R.len,λj hj=>R.out j (by rw[zzQ]at hj;exact hj),R.nd,R.inj,R.tnd,R.dis,λa z=>kn a (R.ftr a z),λa z=>⟨kn a (R.btr a z).1,(R.btr a z).2⟩,λa z=>⟨kn a (R.gtr a z).1,(R.gtr a z).2⟩,λj s e=>?_⟩,g⟩
 by_cases q:j=i
 · subst q
   rw[zyG hi]at e
   cases e
   exact⟨v,hv,ro'⟩
 · rw[zzU (Ne.symm q)]at e
   exact(R.sl j s e).grow g λa m u h=>by rw[zK (λe=>q (R.inj j i a m (by rw[e];exact hp)))];exact h
end
abbrev IXF:=AS->Option Int
def tSt(K:zC)(kd:KD)(f:IXF):TE:=λσ H Q=>∃F B ad as k,Rel K kd F B [] ad as σ H/\f as=some k/\Q (.int k) H
@[irreducible] def AK(X:Cx)(kd:KD)(e:Expr)(f:IXF):Prop:=PE X e (tSt X.K kd f)
def ziY:O->Option (List O)
 | .nd .ls os=>some os
 |_=>none
def zem:O->Option D
 | .lf _ d=>some d
 |_=>none
def atO{α:Type}(f:O->Option α)(os:List O)(k:Nat):Option α:=os[k]?.bind f
def slO{α:Type}(f:O->Option α)(as:AS)(i:Nat):Option α:=as[i]?.bind λs=>s.bind f
theorem zkr{o:O}{os:List O}(h:ziY o=some os):o = .nd .ls os:=by
 cases o with
 |lf s d=>cases h
 |nd k os=>cases k<;>cases h;rfl
theorem zgk{o:O}{d:D}(h:zem o=some d):∃st,o = .lf st d:=by
 cases o with
 |lf s d=>cases h;exact⟨s,rfl⟩
 |nd k os=>cases h
theorem zmN{α:Type}{f:O->Option α}{os:List O}{k:Nat}{a:α}(h:atO f os k=some a):∃o,os[k]? = some o/\f o=some a:=bS_ h
theorem ziw{α:Type}{f:O->Option α}{as:AS}{k:Nat}{a:α}(h:slO f as k=some a):∃o,as[k]? = some (some o)/\f o=some a:=by
 obtain⟨s,h1,h⟩:=bS_ h
 obtain⟨o,rfl,h⟩:=bS_ h
 exact⟨o,h1,h⟩
theorem zpJ{os:List O}{d:D}{k:Nat}(h:atO zem os k=some d):∃st,os[k]? = some (.lf st d):=by
 obtain⟨o,h1,h⟩:=zmN h
 obtain⟨st,rfl⟩:=zgk h
 exact⟨st,h1⟩
theorem zpH{as:AS}{inner:List O}{k:Nat}(h:slO ziY as k=some inner):as[k]? = some (some (.nd .ls inner)):=by
 obtain⟨o,h1,h⟩:=ziw h
 cases zkr h
 exact h1
theorem zpf{as:AS}{d:D}{k:Nat}(h:slO zem as k=some d):∃st,as[k]? = some (some (.lf st d)):=by
 obtain⟨o,h1,h⟩:=ziw h
 obtain⟨st,rfl⟩:=zgk h
 exact⟨st,h1⟩
def xV(i:Nat):IXF:=λas=>(slO zem as i).bind asI
section
variable{X:Cx}{kd:KD}{f g:IXF}{a b:Expr}
theorem zmf{i:Nat}{x:Str}{p:Pos}(hv:PE X (.Name x p) (VH i)):AK X kd (.Name x p) (xV i):=by
 with_unfolding_all exact(yL hv λσ H Q h=>by
  obtain⟨F,B,ad,as,k,R,e,q⟩:=h
  obtain⟨d,e1,e⟩:=bS_ (show(slO zem as i).bind _=_ from e)
  cases zeK e
  obtain⟨st,k1⟩:=zpf e1
  obtain⟨v,hv,ro⟩:=R.sl i _ k1
  generalize ad i=fp at ro
  cases ro with
  |lf rp=>cases rp;exact⟨_,hv,q⟩)
end
theorem zky{n j:Nat}(h:j<n):ixN n (j:Int)=some j:=by
 unfold ixN
 rw[if_pos (by omega),if_pos (by omega)];simp
theorem zkh{n:Nat}{k:Int}(h0:0<=k)(h:k.toNat<n):ixN n k=some k.toNat:=by
 have:=zky h
 rw[show((k.toNat:Nat):Int)=k by omega]at this
 exact this
section
variable{X:Cx}{kd:KD}
theorem zmS:SlR X (λx lo hi H Q=>∃z,x = .str z/\z.length<=sizeLine/\Q (.str (Txt.slice z lo hi)) H):=by
 intro pins s σ H x v vl vu lo hi sl Q I rx hs pl pu h
 obtain⟨z,rfl,hz,q⟩:=h
 obtain⟨t,rfl⟩:=rx
 refine⟨"str",_,F.slot_str_getitem.lookup,typeIs_str _ _ _, ?_⟩
 cases pl with
 |none=>
  cases pu with
  |none=>exact wpAny_getItem_str_slice (l:=none) (u:=none) (st:=none) hs rfl (post_val_or_str ⟨zzK (Txt.slice_le z _ _) hz,λt' k=>⟨.str _,H,I.kept (λ_ _ e=>e),⟨_,rfl⟩,q⟩⟩)
  |int j uj=>exact wpAny_getItem_str_slice (l:=none) (u:=some (j,uj)) (st:=none) hs rfl (post_val_or_str ⟨zzK (Txt.slice_le z _ _) hz,λt' k=>⟨.str _,H,I.kept (λ_ _ e=>e),⟨_,rfl⟩,q⟩⟩)
 |int i ui=>
  cases pu with
  |none=>exact wpAny_getItem_str_slice (l:=some (i,ui)) (u:=none) (st:=none) hs rfl (post_val_or_str ⟨zzK (Txt.slice_le z _ _) hz,λt' k=>⟨.str _,H,I.kept (λ_ _ e=>e),⟨_,rfl⟩,q⟩⟩)
  |int j uj=>exact wpAny_getItem_str_slice (l:=some (i,ui)) (u:=some (j,uj)) (st:=none) hs rfl (post_val_or_str ⟨zzK (Txt.slice_le z _ _) hz,λt' k=>⟨.str _,H,I.kept (λ_ _ e=>e),⟨_,rfl⟩,q⟩⟩)
def slS:D->Option Int->Option Int->Option R0
 | .str z,lo,hi=>if z.length<=sizeLine then some (.im (.str (Txt.slice z lo hi)))else none
 |_,_,_=>none
theorem zoo:SlR X (λx lo hi H Q=>∃O d r,(∀a,O a->H a≠none)/\Vw X.K kd O H x d/\slS d lo hi=some r/\RQ X.K kd O H Q r):=by
 intro pins s σ H x v vl vu lo hi sl Q I rx hs pl pu h
 obtain⟨O,d,r,ht,vx,he,q⟩:=h
 unfold slS at he
 split at he
 · obtain⟨c,rfl⟩:=zR he
   cases vx
   exact zmS pins s σ H _ v vl vu lo hi sl Q I rx hs pl pu ⟨_,rfl,c,yj q (.str _)⟩
 · cases he
theorem zci{a:Expr}{lo hi:Option Expr}{fa:EF}{fl fh:OF}{pos p2:Pos}(ha:AE X kd a fa)(hl:AO X kd lo fl)(hh:AO X kd hi fh):AE X kd (.Subscript a (.Slice lo hi none p2) pos) (fSl fa fl fh slS):=by with_unfolding_all exact(yL (zea zoo ha hl hh) λσ H Q h=>by
 obtain⟨F,B,ad,as,r,as',R,e,q⟩:=h
 obtain⟨⟨p,as1⟩,h1,e⟩:=bS_ (show(fa as).bind _=_ from e)
 obtain⟨⟨l,as2⟩,h2,e⟩:=bS_ e
 obtain⟨⟨u,as3⟩,h3,e⟩:=bS_ e
 obtain⟨⟨d,lv⟩,h4,e⟩:=bS_ e
 obtain⟨r',h5,e⟩:=bS_ e
 obtain⟨z,h6,e⟩:=bS_ e
 cases e
 refine vI R h1 λv ad1 H1 R1 rv1 g1=>⟨F,B,ad1,as1,l,as2,R1,h2,λad2 H2 R2 g2=>⟨F,B,ad2,as2,u,_,R2,h3,λad3 H3 R3 g3=>?_⟩⟩
 exact⟨_,d,r',R3.tr _,wz.vw R3 ((rv1.grow g2).grow g3) h4,h5,Yp R3 h6 λw T' H' R' rv' g'=>q w T' ad3 H' R' rv' (((g1.trans g2).trans g3).trans g')⟩)
end
theorem l1_{α:Type}{P:List α->Prop}(h:∀a,P [a]):∀us:List α,us.length=1->P us
 | [a],_=>h a
theorem l2_{α:Type}{P:List α->Prop}(h:∀a b,P [a,b]):∀us:List α,us.length=2->P us
 | [a,b],_=>h a b
theorem l3_{α:Type}{P:List α->Prop}(h:∀a b c,P [a,b,c]):∀us:List α,us.length=3->P us
 | [a,b,c],_=>h a b c
section
variable{X:Cx}{kd:KD}
theorem aI{c:Int}{j pos}:AE X kd (.Constant (.int c) j pos) (fC (.int c)):=Wt zic λ_ _=>.int _
theorem aS{c:Str}{j pos}:AE X kd (.Constant (.str c) j pos) (fC (.str c)):=Wt zfy λ_ _=>.str _
theorem aZ{j pos}:AE X kd (.Constant .none j pos) (fC .non):=Wt zlX λ_ _=>.non
theorem aB{c:Bool}{j pos}:AE X kd (.Constant (.bool c) j pos) (fC (.bl c)):=Wt znV λ_ _=>.bl _
theorem ax{P:Program}{w:World}{K:zC}{a b:Expr}{fa fb:EF}{pos:Pos}(hkd:KD1 P w K kd)(ha:AE X kd a fa)(hb:AE X kd b fb)(h1:X.prog=P:=by rfl)(h2:X.w=w:=by rfl)(h3:X.K=K:=by rfl)(hm:zdf b:=by exact λ_ _=>rfl):AE X kd (.Subscript a b pos) (f2 fa fb ixP):=zoy (zoZ (hkd _ h1 h2 h3)) ha hb hm
theorem sv(z:Bool)(i:Nat){x:Str}{pos pos':Pos}{e:Expr}{fa:EF}(hN:X.N.Nodup)(he:AE X kd e fa)(hi:X.N[i]? = some x:=by rfl)(hx:Loc X.env.scope x:=by first|exact Or.inl rfl|exact Or.inr rfl)(hs:swapsWith e (some (.Name x pos')) pos.line X.env=pure false:=by rfl)(hf:X.fn x=true\/X.env.scope.names.lookup x=some .local:=by first|exact Or.inl rfl|exact Or.inr rfl):
 ASt X kd (.Assign [.Name x pos'] e pos) (zF z i fa):=zmM hN hi hx he hs hf
theorem an(i:Nat){x:Str}{pos:Pos}(hN:X.N.Nodup)(hi:X.N[i]? = some x:=by rfl)(hx:Loc X.env.scope x:=by first|exact Or.inl rfl|exact Or.inr rfl)(hf:X.fn x=true\/X.env.scope.names.lookup x=some .local:=by first|exact Or.inl rfl|exact Or.inr rfl):AG X kd (.Name x pos) [i] (gN i):=zkZ hN hi hx hf
theorem av(i:Nat){x:Str}{pos:Pos}(hN:X.N[i]? = some x:=by rfl)(hv:Vis X.env.scope x:=by first|exact Or.inl rfl|exact Or.inr (Or.inl rfl)|exact Or.inr (Or.inr rfl))(hd:(x==("__debug__":Str))=false:=by decide)
 (hcd:(x==("__classdict__":Str))=false:=by decide):AE X kd (.Name x pos) (fV i):=zmk (zjb hN hv hd hcd)
end
structure CI(K:zC)(kd:KD)(mg:Str->Option Value)(c:Str)(C:Addr):Prop where
 eq:kd.c c=C
 cl:Cls K C
 mks:PySem.W.makesIn K C=true
 kp:PySem.W.keepIn K (.ref C)=true
 mg:mg c=some (.ref C)
section
variable{K:zC}{kd:KD}{F B G:Addr->Prop}{H:Hp}
theorem zkD{v w:V}{inner:List O}{fp:List Addr}{n:Nat}{st st':Bool}{d d':D}(rp:Rp K kd (Lv F B G st') H w d')(r:RoS K kd F B G H v (.nd .ls inner) fp)(hn:fp.Nodup)(hG:∀a ∈ fp,G a)(e:inner[n]? = some (.lf st d)):
 ∃p ivs,v = .ref p/\p ∈ fp/\H p=some (.lst ivs)/\n<ivs.length/\RoS K kd F B G (upd H p (.lst (ivs.set n w))) v (.nd .ls (inner.set n (.lf st' d'))) fp:=by
 cases r with
 |ls hp ir=>
  rename_i p ivs ifp
  have hpfp:p ∉ ifp:=(zzS.mp hn).1
  have gp:G p:=hG p zzB
  exact⟨p,ivs,rfl,zzB ..,hp,by rw[zkO ir];exact(zzC.mp e).1,.ls zZ (zbX (Rp.grow (zaP gp) rp) inner (vK.grow (zaP gp) (λx m w h=>by rw[zK (λe=>hpfp (by subst e;exact m))];exact h) ir) e)⟩
end
def zdN(i:Nat)(f:IXF)(fv:EF):SF:=λas=>(fv as).bind λp=>(Vy p.2 p.1).bind λx=>(f x.2).bind λk=>if 0<=k then(slO ziY x.2 i).bind λos=>(atO zem os k.toNat).bind λ_=>some (.nx (x.2.set i (some (.nd .ls (os.set k.toNat (.lf x.1.1 x.1.2))))))else none
section
variable{X:Cx}{kd:KD}{f:IXF}{fv:EF}{e1 ev:Expr}{i:Nat}
theorem zke{x:Str}{p tpos pos:Pos}(ho:PE X (.Name x p) (VH i))(h1:AK X kd e1 f)(hv:AE X kd ev fv)
 (ha:∀v,assign (.Subscript (.Name x p) e1 tpos) X.env v=(do
  let ov <-holding [v] (eval (.Name x p) X.env)
  let iv <-holding [v,ov] (eval e1 X.env)
  standAt tpos
  holding [v,ov,iv] (setItem ov iv v)
  release [v,ov,iv] []))
 (hs:swapsWithSole [.Subscript (.Name x p) e1 tpos] ev pos.line X.env=pure false) (hw:swappedStores [.Subscript (.Name x p) e1 tpos] ev X.env=pure none)
 (hm:(assignEach [.Subscript (.Name x p) e1 tpos] X.env).map (·.2)=[assign (.Subscript (.Name x p) e1 tpos) X.env]):
 ASt X kd (.Assign [.Subscript (.Name x p) e1 tpos] ev pos) (zdN i f fv):=by
 with_unfolding_all exact(XX (zij hv (zno ho h1 set_list ha) hs hw hm) λD σ H h=>by
  obtain⟨F,B,ad,as,o,R,e,q⟩:=h
  obtain⟨⟨pr,as1⟩,j1,e⟩:=bS_ (show(fv as).bind _=_ from e)
  obtain⟨⟨⟨st',d'⟩,as2⟩,j2,e⟩:=bS_ e
  obtain⟨k,j3,e⟩:=bS_ e
  obtain⟨hk,e⟩:=ite_some' e
  obtain⟨os,e1,e⟩:=bS_ e
  obtain⟨d,e2,e⟩:=bS_ e
  have k1:=zpH e1
  obtain⟨st,k2⟩:=zpJ e2
  cases e
  refine⟨F,B,ad,as,pr,as1,R,j1,λv T1 ad1 H1 R1 rv1 g1=>?_⟩
  obtain⟨ad2,R2,rp,le⟩:=vV R1 rv1 j2
  obtain⟨u,sv,ro,hn,hG,up⟩:=R2.slotU k1
  obtain⟨p,ivs,rfl,hp,hH,hl,ro'⟩:=zkD rp ro hn hG k2
  obtain⟨R3,g3⟩:=up p _ _ hp ro'
  exact⟨_,sv,F,B,ad2,as2,k,R2,j3,p,ivs,k,k.toNat,rfl,rfl,hH,zkh hk hl,q σ ad2 _ R3 ((g1.trans (Grow.less le)).trans g3)⟩)
end
section
variable{as:AS}{f fo a b:EF}{fr:AF}{s t:Bool}{x y z d:D}{c m:Str}{ns cs:List Str}{ds:List D}{tbl:List (Str×Fn)}{g:Fn}{o:O}
inductive SqD:D->List D->Prop
 |l (ds:List D):SqD (.lst ds) ds
 |t (ds:List D):SqD (.tup ds) ds
end
open AutoSeq1 (wpAny_loadPart')
section
variable{X:Cx}{kd:KD}
def rvP(x:D)(lo hi:Option Int):Option R0:=(asL x).bind λxs=>if lo=none/\hi=some (-1)then some (.fl xs.reverse)else none
theorem zdD:∀r:List Value,(List.range r.length).filterMap (λk=>r[k]?)=r
 | []=>rfl
 |a::r=>by
  rw[zzP,List.range_succ_eq_map,List.filterMap_cons,List.filterMap_map]
  show a::(List.range r.length).filterMap (λk=>r[k]?)=_
  rw[zdD r]
theorem YG{α β:Type}{f g:α->Option β}:∀{l:List α},(∀a ∈ l,f a=g a)->l.filterMap f=l.filterMap g
 | [],_=>rfl
 |a::l,h=>by rw[List.filterMap_cons,List.filterMap_cons,h a zzB,YG λb hb=>h b (zS _ hb)]
theorem ziT(l:List Value):slicePick l.toArray none none (some (-1))=l.reverse.toArray:=by
 have e:sliceBounds none none (some (-1)) l.toArray.size=((l.length:Int)-1, -1, -1):=by
  rw[zzD]
  rfl
 unfold slicePick
 rw[e]
 have e2:(sliceRange ((l.length:Int)-1) (-1) (-1))=(List.range l.length).map λk=>l.length-1-k:=by
  unfold sliceRange
  rw[if_neg (by decide)]
  rcases Nat.eq_zero_or_pos l.length with h|h
  · rw[h];rfl
  · rw[if_pos (by omega),Int.neg_neg,Int.ediv_one]
    have:((l.length:Int)-1 - -1 - -1-1).toNat=l.length:=by omega
    show List.map _ (List.range ((l.length:Int)-1 - -1 - -1-1).toNat)=_
    rw[this]
    refine List.map_congr_left λk hk=>?_
    have:=List.mem_range.mp hk
    omega
 show((sliceRange ((l.length:Int)-1) (-1) (-1)).filterMap (l.toArray[·]?)).toArray=_
 rw[e2]
 congr 1
 rw[List.filterMap_map]
 have e3:(List.range l.length).filterMap (λk=>l.toArray[l.length-1-k]?)=(List.range l.reverse.length).filterMap (λk=>l.reverse[k]?):=by
  rw[List.length_reverse]
  refine YG λk hk=>?_
  rw[List.getElem?_reverse (List.mem_range.mp hk)]
  simp
 exact e3.trans (zdD _)
theorem zlj{K:zC}{O:Addr->Prop}{H:Hp}{vs:List V}{ds:List D}(r:RpL K kd O H vs ds):RpL K kd O H vs.reverse ds.reverse:=RpL.ind (P:=λvs ds=>RpL K kd O H vs.reverse ds.reverse) .nil (λa _ ih=>by
 rw[List.reverse_cons,List.reverse_cons]
 exact ih.append (.cons a .nil)) r
theorem zmR{e st:Expr}{te:TE}{th:TO}{p2 pos:Pos}(he:PE X e te)(hst:PO X (some st) th):PE X (.Subscript e (.Slice none none (some st) p2) pos)
 (tSl (λx lo u H Q=>∃a xs,x = .ref a/\SqL X.K H a xs/\u=some (-1)/\∀p,H p=none->Q (.ref p) (upd H p (.lst xs.reverse))) te zfS th):=by
 intro pins s σ H Q I h
 refine Subscript_ (thn (he pins s σ H _ I h) λv s1 ⟨x,H1,I1,r1,q1⟩=>?_)
 refine wpAny_Slice ?_
 rw[evalPart_none]
 refine zxD (zxD (thn (hst pins s1 σ H1 _ I1 q1) λvu s3 ⟨u,H3,I3,pu,q3⟩=>?_))
 have I4:Inv X pins σ H3 {s3 with heap:=s3.heap.push {cls:=.type "slice",data:=.fields #[.none,.none,vu]}}:=I3.kept (t':=s3.toks) λb ob q=>zxE _ q
 obtain⟨a,xs,rfl,hx,rfl,q⟩:=q3
 cases r1
 obtain⟨its,r',pl,hz⟩:=I4.list hx
 have hlen:=r'.length
 show wpAny (model X.prog X.w) X.A (subscriptTail e (.Slice none none (some st) p2) (.ref a) (.ref s3.heap.objs.size)) (EP X pins σ Q) X.xe {s3 with heap:=s3.heap.push {cls:=.type "slice",data:=.fields #[.none,.none,vu]}}
 refine tail_any (ops:=[.ref a,.ref s3.heap.objs.size]) pl.isList.typeIs slot_list_getitem.lookup (wpAny_getItem_list_slice pl.isList (Heap.IsSliceOf.new ..) .none .none pu (by decide) ?_ (by rw[zzD];omega)) (by with_unfolding_all rfl)
 rw[ziT]
 exact⟨.ref _,_,I4.lnew (t':=s3.toks) r'.reverse (by rw[List.length_reverse];exact hz),rfl,q _ I4.fresh⟩
theorem zig{a st:Expr}{fa fs:EF}{pos p2:Pos}(ha:AE X kd a fa)(hs:AE X kd st fs):AE X kd (.Subscript a (.Slice none none (some st) p2) pos) (fSl fa oN (oS fs) rvP):=by with_unfolding_all exact(yL (zmR ha (wK hs)) λσ H Q h=>by
 obtain⟨F,B,ad,as,r,as',R,e,q⟩:=h
 obtain⟨⟨p,as1⟩,h1,e⟩:=bS_ (show(fa as).bind _=_ from e)
 obtain⟨⟨l,as2⟩,h2,e⟩:=bS_ e
 cases h2
 obtain⟨⟨u,as3⟩,h3,e⟩:=bS_ e
 obtain⟨⟨d,lv⟩,h4,e⟩:=bS_ e
 obtain⟨r',h5,e⟩:=bS_ e
 obtain⟨z,h6,e⟩:=bS_ e
 cases e
 obtain⟨xs,h7,h5⟩:=bS_ (show(asL d).bind _=_ from h5)
 obtain⟨c,e5⟩:=zR h5
 cases e5
 refine vI R h1 λv ad1 H1 R1 rv1 g1=>⟨F,B,ad1,as1,u,_,R1,h3,λad3 H3 R3 g3=>?_⟩
 have vx:=wz.vw R3 (rv1.grow g3) h4
 have rq:=Yp R3 h6 (Q:=Q) λw T' H' R' rv' g'=>q w T' ad3 H' R' rv' ((g1.trans g3).trans g')
 cases zfm h7
 cases vx with
 |lst hr rl=>exact⟨_,_,rfl,hr.sq,c.2,zbq rq (zlj rl)⟩)
end
abbrev bmV:List Value:=[.type "ValueError",.type "Exception",.type "BaseException",.type "object"]
structure XC(K:zC)(C S f:Addr):Prop where
 cls:∃N nm q bs sn sub ab col dd k0 k1 k2 k3 k5,K.lookup C=some (excClassObj nm q C N bs (.ref S::bmV) true sn sub ab col dd k0 k1 k2 k3 k5 "ValueError.__new__")
 tl:PySem.W.tailIn K bmV (.ref S::bmV)=true
 ini:PySem.W.findIn K (.ref C) "__init__"=some (some (.ref f))
 ity:PySem.W.typeIn K (.ref f)=some (.type "function")
 sat:PySem.W.findIn K (.ref C) "__setattr__"=some (some (.builtin "object.__setattr__"))
 att:PySem.W.findIn K (.ref C) "at"=some none
section
variable{prog:Program}{w:World}{A:Around}{E:Value->Shared->Prop}{h:Heap}{g:Array GenState}{d:Drawn}{t:Nat}{os:OsState}{K:zC}{C S f:Addr}{rest:List Value}
def zdX(h:Heap)(C:Addr)(rest:List Value):Heap:=(h.push {cls:=.type "tuple",data:=.seq rest.toArray}).push {cls:=.ref C,data:=.fields #[.ref h.objs.size,.none,.none,.none,.bool false,.none]}
theorem Vh:∀b o,h.get? b=some o->(zdX h C rest).get? b=some o:=λb o e=>zxE _ (zxE _ e)
theorem zdj:(zdX h C rest).get? (h.objs.size+1)=some {cls:=.ref C,data:=.fields #[.ref h.objs.size,.none,.none,.none,.bool false,.none]}:=by unfold zdX;heap_get
theorem zfu(X:XC K C S f)(hK:K.In h){Q:Fin->Shared->Prop}(hrest:rest.length<=sizeLine)
 (hq:wpAny (model prog w) A (call (.ref f) (.ref (h.objs.size+1)::rest)) (λr s'=>r = .none/\Q (.done (.ret (.ref (h.objs.size+1)))) s') E ⟨zdX h C rest,g,d,t,os⟩):
 wpAny (model prog w) A (Builtin.«type.__call__» ⟨.ref C::rest,[]⟩) Q E ⟨h,g,d,t,os⟩:=by
 obtain⟨N,nm,q,bs,sn,sub,ab,col,dd,k0,k1,k2,k3,k5,lk⟩:=X.cls
 have hC:=hK _ _ lk
 have T:OwnTail h bmV (.ref S::bmV):=PySem.W.tail_of_in hK X.tl
 have F:=PySem.F.excBase_ValueError
 repeat (first|with_reducible refine wpAny_loadPart_at hC ?_|with_reducible refine wpAny_madeBy_exc hC ?_|wp_step)
 refine codeAny_call_builtin_code (Code.quiet_builtin _ F.quiet) (wpAny_check_new_subT F T hC ?_)
 refine codeAny_exc_new_subT F T hC ?_ hrest
 show wpAny _ _ _ _ _ _
 have hC₁:=Vh (C:=C) (rest:=rest) _ _ hC
 have hget:=zdj (h:=h) (C:=C) (rest:=rest)
 have hK1:K.In (zdX h C rest):=hK.keeps λb o e=>Vh b o e
 unfold zdX at hC₁ hget hK1
 have hcC:(Value.ref C :: .ref S::bmV).contains (.ref C)=true:=by simp
 unfold isInstance
 repeat (first|with_reducible refine wpAny_loadPart_at hget ?_|(with_reducible refine wpAny_isSubtype_exc hC₁ ?_;rw[hcC])|wp_step)
 show wpAny _ _ (typeLookup (.ref C) _) _ _ _
 refine(PySem.W.looks_findIn hK1 X.ini).here ?_
 refine zxJ (zxC ?_)
 unfold bindSpecial
 refine zxC ((PySem.W.looks_typeIn hK1 X.ity).here ?_)
 rw[if_pos (by decide)]
 refine zxD (zxC (zxP hq (λr s' hr=>?_) λ_ _ x=>x))
 obtain⟨rfl,hQ⟩:=hr
 wp_walk
 exact hQ
theorem zog(X:XC K C S f)(hK:K.In h){Q:Value->Shared->Prop}(hrest:rest.length<=sizeLine)
 (hq:wpAny (model prog w) (A.under (.builtin "type.__call__" ⟨.ref C::rest,[]⟩)) (call (.ref f) (.ref (h.objs.size+1)::rest)) (λr s'=>r = .none/\Q (.ref (h.objs.size+1)) s') E ⟨zdX h C rest,g,d,t,os⟩):
 wpAny (model prog w) A (call (.ref C) rest) Q E ⟨h,g,d,t,os⟩:=by
 obtain⟨N,nm,q,bs,sn,sub,ab,col,dd,k0,k1,k2,k3,k5,lk⟩:=X.cls
 have hC:=hK _ _ lk
 have f1:=tc_lookup
 have f2:=tc_bind (.ref C)
 have hT:(⟨h,g,d,t,os⟩:Shared).TypeIs (.ref C) "type":=⟨_,hC,rfl⟩
 refine wpAny_call (codeAny_of_tree ?_)
 show wpAny _ _ (callAny (.ref C) _) _ _ _
 repeat (any_goals (first|assumption|with_reducible refine wpAny_loadPart_at hC ?_|wp_step))
 refine⟨rfl, ?_⟩
 refine codeAny_call_builtin_at (Code.quiet_builtin _ (by decide +kernel)) entry_typeCall (wpAny_check_type_call_sub hC (zfu X hK hrest hq))
end
def XO(e C:Addr):Heap->Prop:=λh=>∃t,h.get? e=some {cls:=.ref C,data:=.fields #[.ref t,.none,.none,.none,.bool false,.none]}
theorem zhO{H:Hp}{a:Addr}{o:HO}(h:H a=some o):upd H a o=H:=by
 funext b
 by_cases e:b=a
 · subst e;rw[zZ,h]
 · rw[zK e]
theorem zlO{e C:Addr}:∀h1 h2:Heap,XO e C h1->(∀o,h1.get? e=some o->h2.get? e=some o)->XO e C h2:=λ_ _ ⟨t,q⟩ k=>⟨t,k _ q⟩
structure XS(K:zC)(S:Addr):Prop where
 ga:PySem.W.specialIn K (.ref S) "__getattribute__"=some (some (.builtin "type.__getattribute__"))
 rd:PySem.W.readsIn K S (.type "type")=true
 fi:PySem.W.findCls K (.ref S) (.type "type") "__init__"=some (.val (.builtin "ValueError.__init__"))
section
variable{X:Cx}{pins:List (Addr×Obj)}{σ:St}{H:Hp}{s:Shared}{e C S f:Addr}{A:Around}{E:Value->Shared->Prop}
theorem zhx(Y:XC X.K C S f)(I:Inv X pins σ H s)(he:H e=some (.ext (XO e C))){u:Value}{Q:Value->Shared->Prop}(hq:∀s',Inv X pins σ H s'->Q .none s'):
 wpAny (model X.prog X.w) A (call (.builtin "ValueError.__init__") [.ref e,u]) Q E s:=by
 obtain⟨N,nm,q,bs,sn,sub,ab,col,dd,k0,k1,k2,k3,k5,lk⟩:=Y.cls
 have hC:=I.kIn _ _ lk
 have T:OwnTail s.heap bmV (.ref S::bmV):=PySem.W.tail_of_in I.kIn Y.tl
 have F:=PySem.F.excBase_ValueError
 obtain⟨⟨t,hget⟩,_,_⟩:=I.hok e _ he
 have hlt:=zxF hget
 obtain⟨h,g,d,tk,os⟩:=s
 refine wpAny_call (codeAny_call_builtin F.init.plain F.initEntry (wpAny_check_init_subT F T hC hget rfl ?_))
 wp_walk
 refine hq _ ?_
 have hg2:=zxE (h:=h) {cls:=.type "tuple",data:=.seq [u].toArray} hget
 have W:=I.write (x:=e) (e:=e) (o:=.ext (XO e C)) (t':=tk) (h':=(h.push {cls:=.type "tuple",data:=.seq [u].toArray}).update e (Obj.mapFields (·.setIfInBounds 0 (.ref h.objs.size))))
  (by rw[he];exact True.intro) (.inl rfl) (λb o hb z=>(zxK _ _ (Ne.symm hb)).trans (zxE _ z)) ⟨_,zxO _ hg2 rfl⟩
  ⟨⟨_,zxO _ hg2 rfl⟩,⟨_,zxO _ hg2 rfl⟩,zlO⟩
 rw[zhO he]at W
 exact W
theorem zjd{x:Str}{p apos pos:Pos}{a:Expr}{es:List Expr}{t:TA}{pl:Sem Bool}(Y:XC X.K C S f)(Z:XS X.K S)(hg:Gl X x)(hm:X.mg x=some (.ref S))(ha:PA X (a::es) t)
 (hst:starEach (a::es) X.env=(false,eval a X.env)::starEach es X.env) (hpl:(backTo pos (starEach es X.env)).any (·.1)=false) (hdb:(x==("__debug__":Str))=false)
 (ht:eval (.Call (.Attribute (.Name x p) "__init__" apos) (a::es) [] pos) X.env=(do
  let ov <-eval (.Name x p) X.env
  standAt apos.atName
  let(f,first) <-holding [ov] (getMethod ov "__init__" pl)
  callWith pos f first (backTo pos (starEach (a::es) X.env)) (backToKw pos (keywordEach [] X.env)))):
 PE X (.Call (.Attribute (.Name x p) "__init__" apos) (a::es) [] pos) (λσ H Q=>t σ H λvs H1=>∃e y,vs=[.ref e,.str y]/\H1 e=some (.ext (XO e C))/\Q .non H1):=by
 intro pins s σ H Q I h
 refine PySem.W.methodCall_KW (pl:=pl) (Z5 I hg hm ?_ hdb) ht
 refine PySem.W.method_cls I.kIn Z.ga (PySem.W.cls_value I.kIn Z.rd Z.fi rfl ?_)
 have I1:=I.tok (s.toks+1)
 refine PyProof.Rows.callWith_builtin1 (thn (ha pos pins _ σ H _ I1 h) λus s1 ⟨vs,H1,I2,r,e,y,ev,he,q⟩=>?_) hst hpl
 subst ev
 cases r with
 |cons r1 r2=>
  cases r2 with
  |cons r2 r3=>
   cases r3
   cases(show _=Value.ref e from r1)
   exact zhx Y I2 he λs' I'=>⟨.non,H1,I',rfl,q⟩
theorem zli{x:Str}{e:Expr}{j:Nat}{p p1 p2:Pos}{te:TE}(he:PE X e te)(hx:x.length<=1000):
 PE X (.JoinedStr [.Constant (.str x) j p1,.FormattedValue e 114 none p2] p) (λσ H Q=>te σ H λv H1=>∃k:Int,v = .int k/\k.natAbs.log2<1920/\∀y,Q (.str y) H1):=by
 intro pins s σ H Q I h
 refine wpAny_JoinedStr ?_
 refine thn (zfy pins s σ H (λv H'=>v = .str x/\H'=H) I ⟨rfl,rfl⟩) λu s1 ⟨v,H1,I1,r1,ev,eH⟩=>?_
 subst ev;subst eH
 obtain⟨tk,rfl⟩:=(show ∃t,u=Value.str x t from r1)
 have hx0:(Str.empty++x).length<=1000:=by rw[strLen_append];show 0+x.length<=1000;omega
 refine⟨x,tk,rfl,zzK hx0 (by rw[sizeLine_eq];omega), ?_⟩
 refine wpAny_FormattedValue_repr (thn (he pins s1 σ H1 _ I1 h) λu s2 ⟨v,H2,I2,r2,k,ev,hk,q⟩=>?_)
 subst ev
 obtain⟨tk2,rfl⟩:=(show ∃t,u=Value.int k t from r2)
 have hl:(Str.ofString (toString k)).length<=2000:=by
  have e:=int_text_length_le (k:=1920) (by decide) hk
  rw[PySem.ofString_length];omega
 refine wpAny_pyReprObj_gives (typeIs_int s2 k tk2) PySem.F.slot_int_repr PySem.F.entry_int_repr (PySem.F.args_int_repr_1 _) (gives_int_repr k tk2 hk) ?_ (hx:=int_text_fits hk)
 have fin:∀t' (s3:Shared),Inv X pins σ H2 s3->∃y t,Value.str (Str.ofString (toString k)) t' = .str y t/\((Str.empty++x)++y).length<=sizeLine/\Joins (model X.prog X.w) X.A X.xe [] ((Str.empty++x)++y) (λout s₁=>out.length<=sizeLine/\EP X pins σ Q (.str out s₁.toks) {s₁ with toks:=s₁.toks+1}) s3:=λt' s3 I3=>by
  have hz:((Str.empty++x)++Str.ofString (toString k)).length<=sizeLine:=by rw[strLen_append,sizeLine_eq];omega
  exact⟨_,t',rfl,hz,hz,.str _,H2,I3.tok _,⟨_,rfl⟩,q _⟩
 exact PyProof.Rows.formatField_str (λt' tk3=>fin _ _ (I2.tok _)) (int_text_fits hk)
def XA(e C dx:Addr):Heap->Prop:=λh=>∃t,h.get? e=some {cls:=.ref C,dict:=some dx,data:=.fields #[.ref t,.none,.none,.none,.bool false,.none]}
theorem zoP{e C dx:Addr}:∀h1 h2:Heap,XA e C dx h1->(∀o,h1.get? e=some o->h2.get? e=some o)->XA e C dx h2:=λ_ _ ⟨t,q⟩ k=>⟨t,k _ q⟩
theorem zjn(Y:XC X.K C S f)(I:Inv X pins σ H s)(he:H e=some (.ext (XO e C))){v:V}{u:Value}(rv:RelV v u){Q:Unit->Shared->Prop}
 (hq:∀dx s',H dx=none->dx≠e->Inv X pins σ (upd (upd H e (.ext (XA e C dx))) dx (.xd [("at",v)])) s'->Q () s'):
 wpAny (model X.prog X.w) A (setAttr (.ref e) "at" u) Q E s:=by
 obtain⟨N,nm,q,bs,sn,sub,ab,col,dd,k0,k1,k2,k3,k5,lk⟩:=Y.cls
 obtain⟨⟨t,hget⟩,_,_⟩:=I.hok e _ he
 have SF:=PySem.F.store_ValueError
 obtain⟨h,g,d,tk,os⟩:=s
 have hK:=I.kIn
 dsimp only at hget hK
 have J:PySem.W.InstAt h e {cls:=.ref C,data:=.fields #[.ref t,.none,.none,.none,.bool false,.none]} C none:=⟨hget,rfl,rfl,True.intro⟩
 refine PySem.W.set_plain I.kIn J Y.sat ?_
 have hc:PySem.W.clsIn X.K C=some {name:=nm,bases:=bs,mro:=.ref C :: .ref S::bmV,ns:=N,qualname:=q,hasDict:=true,slotNames:=sn,subclasses:=sub,abstract:=ab,collection:=col,hasDel:=false}:=by
  unfold PySem.W.clsIn;rw[lk]
 have L0:=J.type (M:=model X.prog X.w)
 have sb:PySem.W.Looks (model X.prog X.w) h (isInstance (.ref e) (.type "object")) true:=L0.andThen (PySem.W.looks_mroIn hK (by unfold PySem.W.mroIn;rw[hc];rfl))
 refine codeAny_call_builtin SF.slot.plain SF.entry (@PySem.W.check_slot (model X.prog X.w) _ _ ⟨h,g,d,tk+1,os⟩ "object.__setattr__" "object" "__setattr__" (.ref e) [.str "at" tk,u] [] _ SF.kind SF.split sb (SF.args (.ref e) (.str "at" tk) u) ?_)
 have hm:PySem.W.Looks (model X.prog X.w) h (mroOf (.ref C)) (.ref C :: .ref S::bmV):=(PySem.W.looks_clsIn hK hc).andThen .now
 rw[PySem.W.osa_eq,refuse_eq]
 refine zxC (zxC (L0.at (zxC (hm.at ?_))))
 rw[refuseLoop_ref,refuseLoop_ref,SF.passes]
 refine zxD (zxC (L0.at (zxC ((PySem.W.looks_findIn hK Y.att).at (zxC (zxD ?_))))))
 have hxs:e≠h.objs.size:=zzM (zxF hget)
 have hx1:(h.push {cls:=.type "dict",data:=.dict #[]}).get? e=some _:=zxE _ hget
 refine zxC (zxD (zxC (zxC (wpAny_loadPart hget (zxC ((PySem.W.looks_clsIn hK hc).at ?_))))))
 refine zxC (wpAny_alloc' ?_)
 refine zxC (wpAny_update' hx1 ?_)
 refine zxD ?_
 have hgd:((h.push {cls:=.type "dict",data:=.dict #[]}).update e λo=>{cls:=o.cls,dict:=some h.objs.size,data:=o.data,slots:=o.slots}).get? h.objs.size=some {cls:=.type "dict",data:=.dict #[]}:=
  (Heap.get?_update_ne _ _ _ _ hxs.symm).trans (Heap.get?_push_at rfl rfl)
 have hnd:((h.push {cls:=.type "dict",data:=.dict #[]}).update e λo=>{cls:=o.cls,dict:=some h.objs.size,data:=o.data,slots:=o.slots}).Ns h.objs.size (λ_=>none):=
  ⟨_,#[],_,hgd,rfl,λe he=>absurd he (by simp),λ_=>rfl⟩
 show wpAny _ _ (Builtin.ObjectAttr.storeInDict h.objs.size (.str "at" tk) "at" u) _ _ _
 unfold Builtin.ObjectAttr.storeInDict Builtin.ObjectAttr.newKeyGuard
 refine zxC (zxD (zxC (wpAny_nsSet1 (Heap.Ns1.of_empty hnd) λh' hn' hs=>?_)))
 obtain⟨oD,esD,epD,hoD,hdD,hcD⟩:=hn'.count (Within.cons "at" u Within.nil)
 refine zxC (wpAny_lookBehind hoD (by rw[hdD];exact pastItsLine_dict (zzK hcD (by rw[zzP,List.length_nil,sizeLine_eq];omega))) ?_)
 refine zxD ?_
 have Wr:=I.write (x:=e) (e:=e) (o:=.ext (XA e C h.objs.size)) (t':=tk) (h':=h.update e λo=>{cls:=o.cls,dict:=some h.objs.size,data:=o.data,slots:=o.slots})
  (by rw[he];exact True.intro) (.inl rfl) (λb o hb z=>(zxK _ _ (Ne.symm hb)).trans z) ⟨_,zxO _ hget rfl⟩
  ⟨⟨_,zxO _ hget rfl⟩,⟨_,zxO _ hget rfl⟩,zoP⟩
 have hsz:(h.update e λo=>{cls:=o.cls,dict:=some h.objs.size,data:=o.data,slots:=o.slots}).objs.size=h.objs.size:=Heap.size_update _ _ _
 have hfree:H h.objs.size=none:=I.hok.fresh (zzJ _)
 refine hq h.objs.size _ hfree (Ne.symm hxs) ?_
 refine Wr.laid (a:=h.objs.size) (h':=h') (t':=_) (λb o z=>?_) (by dsimp only;rw[hsz];exact zzJ _) ⟨_,hn',λy=>?_⟩
 · have hb:b≠h.objs.size:=by
    intro z'
    have:=zxF z
    dsimp only at this
    rw[hsz,z']at this
    exact absurd this (Nat.lt_irrefl _)
   refine(hs.2 b hb).trans ?_
   dsimp only at z
   by_cases hbe:b=e
   · subst hbe
     rw[zxO _ hget rfl]at z
     rw[zxO _ hx1 rfl]
     exact z
   · rw[zxK _ _ (Ne.symm hbe)]at z
     rw[zxK _ _ (Ne.symm hbe)]
     exact zxE _ z
 · by_cases hy:y="at"
   · subst hy
     simpa[List.lookup,zab]using rv
   · have:(y==("at":Str))=false:=by simpa using hy
     simp[List.lookup,this,hy,zab]
theorem znt{o value:Expr}{to tv:TE}{pos pos':Pos}(Y:XC X.K C S f)(ho:PE X o to)(hv:PE X value tv)(hs:swapsWith value (some (.Attribute o "at" pos')) pos.line X.env=pure false):
 PS X (.Assign [.Attribute o "at" pos'] value pos) (λD σ H=>tv σ H λv H1=>to σ H1 λx H2=>∃e,x = .ref e/\H2 e=some (.ext (XO e C))/\∀dx,H2 dx=none->dx≠e->D.nx σ (upd (upd H2 e (.ext (XA e C dx))) dx (.xd [("at",v)]))):=by
 intro pins s σ H D I h
 refine plainObj_wpAny_Assign_Attribute (thn (hv pins s σ H _ I h) λu s1 ⟨v,H1,I1,rv,q⟩=>thn (ho pins s1 σ H1 _ I1 q) λov s2 ⟨x,H2,I2,rx,e,ex,he,q2⟩=>?_) hs
 subst ex
 cases(show ov=Value.ref e from rx)
 exact zjn Y I2 he rv λdx s' hd hn I'=>⟨σ,_,I',q2 dx hd hn⟩
end
def spN(C:Addr):Sp:=λvs H Q _=>∃e k,vs=[.ref e,.int k]/\H e=some (.ext (XO e C))/\k.natAbs.log2<1920/\∀dx,H dx=none->dx≠e->Q .non (upd (upd H e (.ext (XA e C dx))) dx (.xd [("at",.int k)]))
theorem zkb{C:Addr}:∀vs H Q E,spN C vs H Q E->vs.length=["self","at"].length:=λvs H Q E ⟨e,k,h,_⟩=>by rw[h];rfl
abbrev HX(H:Hp)(e C dx:Addr)(k:Int):Hp:=upd (upd H e (.ext (XA e C dx))) dx (.xd [("at",.int k)])
section
variable{X:Cx}{pins:List (Addr×Obj)}{σ:St}{H:Hp}{s:Shared}{e C S f:Addr}{n:Nat}{fd:FuncData}
theorem zoA(Y:XC X.K C S f)(F:FnOk X.prog X.w X.K X.mg X.base CX0 n f fd ["self","at"] (spN C))(hr:Room (n+1) X.A)(hb:Binds X.K fd ["self","at"] [])(I:Inv X pins σ H s){k:Int}{u:Value}(ru:RelV (.int k) u)(hk:k.natAbs.log2<1920)
 {Q:Value->Shared->Prop}{E:Value->Shared->Prop}(hq:∀e dx s',H e=none->H dx=none->dx≠e->X.s₀.heap.objs.size<=e->s.heap.get? dx=none->Inv X pins σ (HX H e C dx k) s'->Q (.ref e) s'):wpAny (model X.prog X.w) X.A (call (.ref C) [u]) Q E s:=by
 obtain⟨h,g,d,t,os⟩:=s
 have hsz:=I.sz
 refine zog Y I.kIn (by rw[sizeLine_eq];show 1<=16777216;decide) ?_
 have I1:Inv X pins σ H ⟨h.push {cls:=.type "tuple",data:=.seq [u].toArray},g,d,t,os⟩:=I.kept (t':=t) λb o z=>zxE _ z
 have I2:Inv X pins σ (upd H (h.objs.size+1) (.ext (XO (h.objs.size+1) C))) ⟨zdX h C [u],g,d,t,os⟩:=
  I1.laid (t':=t) (λb o z=>zxE _ z) (by rw[zxN];exact zzJ _) ⟨⟨_,zdj⟩,⟨_,zdj⟩,zlO⟩
 have hf:H (h.objs.size+1)=none:=I.hok.fresh (zyT _)
 have r2:Vals [V.ref (h.objs.size+1),V.int k] [Value.ref (h.objs.size+1),u]:=.cons rfl (.cons ru .nil)
 have sp:spN C [V.ref (h.objs.size+1),V.int k] (upd H (h.objs.size+1) (.ext (XO (h.objs.size+1) C))) (λv H2=>v = .non/\∃dx,H dx=none/\dx≠h.objs.size+1/\H2=HX H (h.objs.size+1) C dx k) E0:=
  ⟨_,_,rfl,zZ,hk,λdx h1 h2=>⟨rfl,dx,by rw[zK h2]at h1;exact h1,h2,by unfold HX;rw[zkN]⟩⟩
 refine wpAny_call (codeAny_mono (F.run _ X.stack _ _ ⟨[Value.ref (h.objs.size+1),u],[]⟩ [Value.ref (h.objs.size+1),u] _ _ E0 (hr.make C [u] []) (I2.env0.make C [u] []) (hb _ [Value.ref (h.objs.size+1),u] I2.kIn rfl) r2 sp) λr s' hq'=>?_)
 cases r with
 |error e=>exact False.elim hq'
 |ok fl=>
  cases fl with
  |ret u'=>
   obtain⟨v,H',I3,rv,ev,dx,h1,h2,e3⟩:=I2.after (Q:=λv H2=>v = .non/\∃dx,H dx=none/\dx≠h.objs.size+1/\h.get? dx=none/\H2=HX H (h.objs.size+1) C dx k) (by
    obtain⟨v,H2,a1,a2,un,a3,a4,a5,dx,a6,a7,a8⟩:=hq'
    refine⟨v,H2,a1,a2,un,a3,a4,a5,dx,a6,a7, ?_,a8⟩
    cases z:h.get? dx with
    |none=>rfl
    |some o=>
     have:=un.free dx o (Vh dx o z) (by rw[zK a7];exact a6) (by simp)
     rw[a8]at this
     unfold HX at this
     rw[zZ]at this
     cases this)
   obtain⟨h3,e3⟩:=e3
   subst ev;subst e3
   exact⟨rv,hq _ dx s' hf h1 h2 (zzK hsz (zyT _)) h3 I3⟩
  |next=>exact False.elim hq'
  |brk=>exact False.elim hq'
  |cont=>exact False.elim hq'
theorem zir{x:Str}{np cpos pos:Pos}{a:Expr}{te:TE}(Y:XC X.K C S f)(kp:PySem.W.keepIn X.K (.ref C)=true)(F:FnOk X.prog X.w X.K X.mg X.base CX0 n f fd ["self","at"] (spN C))(hr:Room (n+1) X.A)(hb:Binds X.K fd ["self","at"] [])
 (hg:Gl X x) (hm:X.mg x=some (.ref C)) (ha:PE X a te) (hdb:(x==("__debug__":Str))=false) (he:starEach [a] X.env=(false,eval a X.env)::starEach [] X.env) (hex:X.ex=[]):
 PS X (.Raise (some (.Call (.Name x np) [a] [] cpos)) none pos) (λD σ H=>te σ H λv H1=>∃k:Int,v = .int k/\k.natAbs.log2<1920/\
  ∀pins s' e dx,H1 e=none->H1 dx=none->dx≠e->X.s₀.heap.objs.size<=e->X.s₀.heap.get? dx=none->Inv X pins σ (HX H1 e C dx k) s'->X.xe (.ref e) s'):=by
 intro pins s σ H D I h
 rw[arm_exec_Raise]
 obtain⟨N,nm,q,bs,sn,sub,ab,col,dd,k0,k1,k2,k3,k5,lk⟩:=Y.cls
 have hcB:(Value.ref C :: .ref S::bmV).contains (.type "BaseException")=true:=by simp
 have fin:∀(x:Sem Value) (s:Shared),wpAny (model X.prog X.w) X.A x (λv s'=>∃e dx k H1,v = .ref e/\dx≠e/\Inv X pins σ (HX H1 e C dx k) s'/\X.xe (.ref e) s') X.xe s->
  wpAny (model X.prog X.w) X.A (raiseStmt X.env (some x) none) (SP X pins D) X.xe s:=λx s hx=>by
  unfold raiseStmt
  refine zxC (zxP hx (λv s' h1=>?_) λ_ _ z=>z)
  obtain⟨e,dx,k,H1,rfl,hne,I',hx⟩:=h1
  have he:HX H1 e C dx k e=some (.ext (XA e C dx)):=by unfold HX;rw[zK (Ne.symm hne),zZ]
  obtain⟨⟨t,hget⟩,_,_⟩:=I'.hok e _ he
  have hC:=I'.kIn _ _ lk
  have hh:=hr.hd
  obtain⟨hp,g,d,tk,os⟩:=s'
  repeat (first|with_reducible refine wpAny_loadPart_at hget ?_|with_reducible refine wpAny_loadPart_at hC ?_|(with_reducible refine wpAny_isSubtype_exc hC ?_;rw[hcB])|wp_step)
  exact wpAny_raiseNew_none hh hx
 have main:wpAny (model X.prog X.w) X.A (eval (.Call (.Name x np) [a] [] cpos) X.env) (λv s'=>∃e dx k H1,v = .ref e/\dx≠e/\Inv X pins σ (HX H1 e C dx k) s'/\X.xe (.ref e) s') X.xe s:=by
  refine wpAny_Call_Name_kw (Z5 I hg hm ?_ hdb)
  refine PySem.W.callWith_K (h₀:=X.base) I.ok.mod.kin kp (thn ((yQ ha Zo he) cpos pins s σ H (λvs H1=>match vs with
   | [v]=>∃k:Int,v = .int k/\k.natAbs.log2<1920/\∀pins s' e dx,H1 e=none->H1 dx=none->dx≠e->X.s₀.heap.objs.size<=e->X.s₀.heap.get? dx=none->Inv X pins σ (HX H1 e C dx k) s'->X.xe (.ref e) s'
   |_=>False) I h) λus s1 ⟨vs,H1,I1,r,z⟩=>⟨I1.kIn, ?_⟩) he rfl
  cases r with
  |nil=>exact z.elim
  |cons r1 r2=>
   cases r2 with
   |nil=>
    obtain⟨k,ev,hk,q⟩:=z
    subst ev
    exact zoA Y F hr hb I1 r1 hk λe dx s' h1 h2 h3 h4 h5 I'=>⟨e,dx,k,H1,rfl,h3,I',q pins s' e dx h1 h2 h3 h4 (by
     cases z:X.s₀.heap.get? dx with
     |none=>rfl
     |some o=>
      obtain⟨o',z'⟩:=I1.base.there dx o z (by rw[hex];simp)
      rw[h5]at z'
      cases z') I'⟩
   |cons _ _=>exact z.elim
 first
  |exact zxC (wpAny_standAt (fin _ _ (zxC (thn main λv s₁ h₁=>zxC (wpAny_standAt (zxD h₁))))))
  |(simp only[evalOpt,Option.map];exact zxC (wpAny_standAt (fin _ _ (zxC (thn main λv s₁ h₁=>zxC (wpAny_standAt (zxD h₁)))))))
end
structure Mv(fs ch:List Addr)(h h':Heap):Prop where
 keep:∀b o,b ∉ fs->b ∉ ch->h.get? b=some o->h'.get? b=some o
 slot:∀b o,b ∈ fs->b ∉ ch->h.get? b=some o->∃sl,h'.get? b=some {o with slots:=sl}
structure Fly(h:Heap)(e C dx T:Addr):Prop where
 ob:∃oe vs,h.get? e=some oe/\oe.cls = .ref C/\oe.dict=some dx/\oe.data = .fields vs/\vs[1]? = some (.ref T)
 tb:∃oT ts,h.get? T=some oT/\oT.data = .fields ts/\ts[3]? = some .none
 ne:T≠e
section
variable{M:Model}{A:Around}{E:Value->Shared->Prop}{s:Shared}{base:Heap}{env:Env}{outer:List Env}{L e C dx T:Addr}
theorem zjx{oe:Obj}{vs:Array Value}{head:Value}{hn:Bool}{Q:Unit->Shared->Prop}(hfr:A.frames=some (env::outer))(hl:s.heap.FunFrames base (env::outer))(hf:env.frame=some L)
 (he:s.heap.get? e=some oe) (hd:oe.data = .fields vs) (hsz:1<vs.size) (hc:oe.cls = .ref C) (hdx:oe.dict=some dx)
 (h:∀h' T,s.heap.objs.size<=T->Mv (frs (env::outer)) [e] s.heap h'->Fly h' e C dx T->Q () {s with heap:=h'}):
 wpAny M A (do let a <-frameOf env;let pl <-entryPlaceOf L hn;let b <-EntryCells.newEntry head a .none (rawInt L) .none pl;setField (.ref e) 1 b) (λ_ s'=>wpAny M A (setFlight (.ref e) none) Q E s') E s:=by
 have hene:e ∉ (env::outer).filterMap (·.frame):=λhm=>by
  obtain⟨_,o,ho,hnf⟩:=hl.mem hm
  rw[he]at ho;injection ho with ho;subst ho;exact hnf vs hd
 refine zxC (wpAny_frameOf_fun hfr hl hf λh1 hs1=>?_)
 refine zxC (wpAny_entryPlaceOf λpl hpl=>?_)
 unfold EntryCells.newEntry newFields
 refine zxC (zxH ?_ (hpl.sizeOk5 _ _ _ _ _))
 generalize hob:({cls:=.type "traceback",dict:=none,data:=.fields ([head,.ref L,.none,rawInt L,.none]++(if pl.isEmpty then List.replicate 6 Value.none else pl)).toArray}:Obj)=ob
 have hobd:ob.data = .fields ([head,.ref L,.none,rawInt L,.none]++(if pl.isEmpty then List.replicate 6 Value.none else pl)).toArray:=by rw[<-hob]
 have he1:h1.get? e=some oe:=(hs1.2.1 e hene).trans he
 have he2:=zxE (h:=h1) ob he1
 refine wpAny_setField he2 hd hsz ?_
 have hTe:h1.objs.size≠e:=Nat.ne_of_gt (zxF he1)
 have hd3:=Obj.data_mapFields hd (·.setIfInBounds 1 (Value.ref h1.objs.size))
 have he3:=zxO (Obj.mapFields (·.setIfInBounds 1 (Value.ref h1.objs.size))) he2 (Obj.isFreed_of_fields hd3)
 have hT3:=(zxK (h1.push ob) (Obj.mapFields (·.setIfInBounds 1 (Value.ref h1.objs.size))) (Ne.symm hTe)).trans (zxG h1 (Obj.isFreed_of_fields hobd))
 unfold setFlight
 refine zxC (wpAny_field he3 hd3 (x:=.ref h1.objs.size) (by simp[hsz]) ?_)
 rw[if_pos (show(Value.ref h1.objs.size != Value.none)=true from by simp)]
 refine wpAny_setField hT3 hobd (by simp only[zzD,zzF,zzP,List.length_nil]<;>omega) (h _ h1.objs.size (by rw[hs1.1];exact zzJ _) ⟨λb o hb1 hb2 hb=>?_,λb o hb1 hb2 hb=>?_⟩ ?_)
 · have hbe:b≠e:=λz=>hb2 (by rw[z];exact zzN.mpr rfl)
   have hb':h1.get? b=some o:=(hs1.2.1 b hb1).trans hb
   rw[zxK _ _ (Nat.ne_of_gt (zxF hb')),zxK _ _ (Ne.symm hbe)]
   exact zxE _ hb'
 · have hbe:b≠e:=λz=>hb2 (by rw[z];exact zzN.mpr rfl)
   obtain⟨sl,hb'⟩:=hs1.2.2 b o hb
   refine⟨sl, ?_⟩
   rw[zxK _ _ (Nat.ne_of_gt (zxF hb')),zxK _ _ (Ne.symm hbe)]
   exact zxE _ hb'
 · refine⟨⟨_,_, ?_, ?_, ?_,hd3,by simp[hsz]⟩,⟨_,_,zxO _ hT3 (Obj.isFreed_of_fields (Obj.data_mapFields hobd _)),Obj.data_mapFields hobd _,by first|(simp;done)|(rcases hpl with rfl|⟨_,_,_,_,_,_,_,rfl⟩<;>simp)⟩,hTe⟩
   · rw[zxK _ _ hTe];exact he3
   · rw[Obj.cls_mapFields];exact hc
   · obtain⟨c0,d0,dt,sl⟩:=oe
     dsimp only at hd hdx
     subst hd
     exact hdx
theorem leave1{oe:Obj}{vs:Array Value}{Q:Unit->Shared->Prop}(hfr:A.frames=some (env::outer))(hl:s.heap.FunFrames base (env::outer))(hf:env.frame=some L)
 (he:s.heap.get? e=some oe) (hd:oe.data = .fields vs) (h1:vs[1]? = some .none) (hc:oe.cls = .ref C) (hdx:oe.dict=some dx)
 (h:∀h' T,s.heap.objs.size<=T->Mv (frs (env::outer)) [e] s.heap h'->Fly h' e C dx T->Q () {s with heap:=h'}):wpAny M A (leaving env (.ref e)) Q E s:=by
 unfold leaving noteFrame
 simp only[hf]
 refine zxC (zxC (wpAny_field he hd h1 ?_))
 rw[if_neg (by decide)]
 exact zjx hfr hl hf he hd (Array.getElem?_eq_some_iff.mp h1).1 hc hdx h
theorem znw{Q:Unit->Shared->Prop}(hfr:A.frames=some (env::outer))(hl:s.heap.FunFrames base (env::outer))(hf:env.frame=some L)(F:Fly s.heap e C dx T)
 (h:∀h' T',s.heap.objs.size<=T'->Mv (frs (env::outer)) [e,T] s.heap h'->Fly h' e C dx T'->Q () {s with heap:=h'}):
 wpAny M A (noteFrame (.ref e) env) (λ_ s'=>wpAny M A (setFlight (.ref e) none) Q E s') E s:=by
 obtain⟨⟨oe,vs,he,hc,hdx,hd,h1⟩,⟨oT,ts,hT,hdT,h3⟩,hTe⟩:=F
 unfold noteFrame
 simp only[hf]
 refine zxC (wpAny_field he hd h1 ?_)
 rw[if_pos (show(Value.ref T != Value.none)=true from by simp)]
 refine zxC (wpAny_field hT hdT h3 ?_)
 rw[if_neg (show ¬((Value.none==rawInt L)=true)from by simp[rawInt])]
 refine zxC (wpAny_setField hT hdT (Array.getElem?_eq_some_iff.mp h3).1 ?_)
 have other:∀b,b≠T->(s.heap.update T (Obj.mapFields (·.setIfInBounds 3 Value.none))).get? b=s.heap.get? b:=λb hb=>zxK _ _ (Ne.symm hb)
 have noRec:∀b o,s.heap.get? b=some o->(∀vs,o.data ≠ .fields vs)->b≠T:=λb o hb hnf q=>by
  rw[q,hT]at hb;injection hb with hb;subst hb;exact hnf ts hdT
 refine zjx hfr (hl.of_keeps λb o hb hnf=>⟨o,(other b (noRec b o hb hnf)).trans hb,rfl⟩) hf ((other e (Ne.symm hTe)).trans he) hd (Array.getElem?_eq_some_iff.mp h1).1 hc hdx λh' T' hz m F=>h h' T' ?_ ⟨λb o h1 h2 h3=>?_,λb o h1 h2 h3=>?_⟩ F
 · dsimp only at hz;rw[Heap.size_update]at hz;exact hz
 · exact m.keep b o h1 (λz=>h2 (by rw[zzN.mp z];exact zzB)) ((other b λz=>h2 (by rw[z];simp)).trans h3)
 · exact m.slot b o h1 (λz=>h2 (by rw[zzN.mp z];exact zzB)) ((other b λz=>h2 (by rw[z];simp)).trans h3)
theorem land{Q:Unit->Shared->Prop}(F:Fly s.heap e C dx T)(h:∀h',Mv [] [T] s.heap h'->Fly h' e C dx T->s.heap.objs.size=h'.objs.size->Q () {s with heap:=h'}):wpAny M A (setFlight (.ref e) none) Q E s:=by
 obtain⟨⟨oe,vs,he,hc,hdx,hd,h1⟩,⟨oT,ts,hT,hdT,h3⟩,hTe⟩:=F
 refine wpAny_setFlight_none he hd h1 hT hdT (Array.getElem?_eq_some_iff.mp h3).1 (h _ ⟨λb o _ hb z=>?_,λb o hb=>nomatch hb⟩ ⟨⟨oe,vs, ?_,hc,hdx,hd,h1⟩,⟨_,_,zxO _ hT (Obj.isFreed_of_fields (Obj.data_mapFields hdT _)),Obj.data_mapFields hdT _, ?_⟩,hTe⟩ (Heap.size_update _ _ _).symm)
 · rw[zxK _ _ λq=>hb (by rw[q];simp)];exact z
 · rw[zxK _ _ hTe];exact he
 · have:=(Array.getElem?_eq_some_iff.mp h3).1
   simp[this]
end
theorem zlG{P:Program}{w:World}{fs ch:List Addr}{H:Hp}{h h':Heap}(m:Mv fs ch h h')(hok:HOk P w H h)(hfs:∀b ∈ fs,H b=none)(hch:∀b ∈ ch,H b=none):Un fs ch H H h h'/\HOk P w H h':=by
 refine⟨⟨λb o e _ h1 h2=>m.keep b o h1 h2 e,λb o e _ h1 h2=>m.slot b o h1 h2 e,λb o e n _=>n,λb o e h2=>?_,λ_ _ q=>q,λ_ _ _ q=>q,λb ps q=>⟨#[],by rw[q,Array.append_empty]⟩⟩,λa o e=>?_⟩
 · by_cases hb:b ∈ fs
   · obtain⟨sl,z⟩:=m.slot b o hb h2 e;exact⟨_,z⟩
   · exact⟨o,m.keep b o hb h2 e⟩
 · refine(hok a o e).stay (λb u hb z=>m.keep b u (λq=>?_) (λq=>?_) z) (λ_ q=>q) λ_ _ q=>q
   · have:=hfs b q
     rcases hb with rfl|hb
     · rw[e]at this;cases this
     · rw[hb]at this;cases this
   · have:=hch b q
     rcases hb with rfl|hb
     · rw[e]at this;cases this
     · rw[hb]at this;cases this
def CX1(P:Program)(w:World)(C:Addr):CXT:=λouter H s E v s'=>∃e dx T k H',v = .ref e/\s'.os=s.os/\AllBare s'.gens/\Un (frs outer) [] H H' s.heap s'.heap/\HOk P w H' s'.heap/\Fly s'.heap e C dx T/\
 s.heap.objs.size<=e/\s.heap.objs.size<=T/\s.heap.get? dx=none/\H' e=none/\H' T=none/\H' dx=none/\dx≠e/\dx≠T/\(∃mA t,s'.heap.Ns1 dx mA/\mA "at"=some (.int k t))/\E (.int k 0) none H'
section
variable{P:Program}{w:World}{K:zC}{mg:Str->Option Value}{base:Heap}{N:List Str}{qual:Str}{scope:Scope}{f:Addr}{cd:Value}{A:Around}{outer:List Env}{s:Shared}{H:Hp}{E:XK}{C:Addr}
theorem zhK{pins:List (Addr×Obj)}{σ:St}{H1:Hp}{s':Shared}{e dx:Addr}{k:Int}(h1:H1 e=none)(h2:H1 dx=none)(hne:dx≠e)
 (hs:s.heap.objs.size<=e) (hsd:s.heap.get? dx=none) (I:Inv (Xm (CX1 P w C) P w K mg base N qual scope f cd A outer s H E) pins σ (HX H1 e C dx k) s') (hE:E (.int k 0) none H1):
 (Xm (CX1 P w C) P w K mg base N qual scope f cd A outer s H E).xe (.ref e) s':=by
 have he:HX H1 e C dx k e=some (.ext (XA e C dx)):=by unfold HX;rw[zK (Ne.symm hne),zZ]
 have hd:HX H1 e C dx k dx=some (.xd [("at",.int k)]):=by unfold HX;rw[zZ]
 have ho:∀b,b≠e->b≠dx->HX H1 e C dx k b=H1 b:=λb hb hb'=>by unfold HX;rw[zK hb',zK hb]
 have ho':∀b u,HX H1 e C dx k b=some u->(∀φ,u ≠ .ext φ)->(∀fs,u ≠ .xd fs)->H1 b=some u:=λb u z n1 n2=>by
  rw[<-ho b (λq=>by rw[q,he]at z;cases z;exact n1 _ rfl) λq=>by rw[q,hd]at z;cases z;exact n2 _ rfl];exact z
 obtain⟨⟨t,hget⟩,_,_⟩:=I.hok e _ he
 obtain⟨mA,hNs,hrel⟩:=I.hok dx _ hd
 have frE:∀b ∈ frs (envOfC qual scope s.heap.objs.size f cd::outer),HX H1 e C dx k b=none:=I.stkFree
 refine leave1 (base:=base) (L:=s.heap.objs.size) I.ok.frames I.stack rfl hget rfl rfl rfl rfl λh' T hT m F=>?_
 have hTn:HX H1 e C dx k T=none:=I.hok.fresh hT
 have hTe:T≠e:=F.ne
 have hTd:dx≠T:=λq=>by rw[<-q,hd]at hTn;cases hTn
 have small:∀b o,s.heap.get? b=some o->b≠e:=λb o z q=>by have:=zxF z;rw[q]at this;exact absurd this (Nat.not_lt.mpr hs)
 have smalld:∀b o,s.heap.get? b=some o->b≠dx:=λb o z q=>by rw[q,hsd]at z;cases z
 have nloc:∀b o,s.heap.get? b=some o->b ∉ frs outer->b ∉ frs (envOfC qual scope s.heap.objs.size f cd::outer):=λb o z hb q=>by
  rcases zI.mp (show b ∈ s.heap.objs.size::frs outer from q)with q|q
  · have:=zxF z;rw[q]at this;exact absurd this (Nat.lt_irrefl _)
  · exact hb q
 have n1:∀b,b≠e->b ∉ [e]:=λb hb q=>hb (zzN.mp q)
 have ndx:dx ∉ frs (envOfC qual scope s.heap.objs.size f cd::outer):=λq=>by have:=frE dx q;rw[hd]at this;cases this
 have hNs':h'.Ns1 dx mA:=by
  obtain⟨o,es,ep,z,r⟩:=hNs
  exact⟨o,es,ep,m.keep dx o ndx (n1 dx hne) z,r⟩
 have hat:∃t,mA "at"=some (.int k t):=by
  have z:=hrel "at"
  cases q:mA "at" with
  |none=>rw[q]at z;exact z.elim
  |some u=>
   rw[q]at z
   obtain⟨t,rfl⟩:=(show ∃t,u=Value.int k t from z)
   exact⟨t,rfl⟩
 obtain⟨t',hat⟩:=hat
 refine⟨e,dx,T,k,H1,rfl,I.os,I.bare,⟨λb o z n hb hx=>?_,λb o z n hb hx=>?_,λb o z n hx=>?_,λb o z hx=>?_,λb xs z=>?_,λb o u z=>?_,λb ps z=>?_⟩,λa o z=>?_,F,hs,zzK I.sz hT,hsd,h1,by rw[<-ho T hTe (Ne.symm hTd)];exact hTn,h2,hne,hTd,⟨mA,t',hNs',hat⟩,hE⟩
 · exact m.keep b o (nloc b o z hb) (n1 b (small b o z)) (I.base.keep b o z n hb hx)
 · obtain⟨sl,q⟩:=I.base.slot b o z n hb hx
   obtain⟨sl',q'⟩:=m.slot b _ (zS _ hb) (n1 b (small b o z)) q
   exact⟨sl',q'⟩
 · rw[<-ho b (small b o z) (smalld b o z)];exact I.base.free b o z n hx
 · obtain⟨o',q⟩:=I.base.there b o z hx
   by_cases hb:b ∈ frs (envOfC qual scope s.heap.objs.size f cd::outer)
   · obtain⟨sl,q'⟩:=m.slot b _ hb (n1 b (small b o z)) q;exact⟨_,q'⟩
   · exact⟨o',m.keep b o' hb (n1 b (small b o z)) q⟩
 · exact ho' b _ (I.base.tups b xs z) (λ_ q=>nomatch q) λ_ q=>nomatch q
 · exact ho' b _ (I.base.frzs b o u z) (λ_ q=>nomatch q) λ_ q=>nomatch q
 · obtain⟨more,q⟩:=I.base.tbls b ps z
   exact⟨more,ho' b _ q (λ_ q=>nomatch q) λ_ q=>nomatch q⟩
 · have hae:a≠e:=λr=>by rw[r,h1]at z;cases z
   have had:a≠dx:=λr=>by rw[r,h2]at z;cases z
   have q:=I.hok a o (by rw[ho a hae had];exact z)
   refine q.stay (λb u hb r=>m.keep b u (λy=>?_) (n1 b λy=>?_) r) (λb r=>ho' b _ r (λ_ q=>nomatch q) λ_ q=>nomatch q) λb xs r=>ho' b _ r (λ_ q=>nomatch q) λ_ q=>nomatch q
   · have:=frE b y
     rcases hb with rfl|hb
     · rw[ho b hae had,z]at this;cases this
     · rw[hb]at this;cases this
   · rcases hb with hb|hb
     · exact hae (hb ▸ y)
     · rw[y,he]at hb;cases hb
end
def nxA:Out->Option AS
 | .nx as=>some as
 |_=>none
theorem zfG{o:Out}{as:AS}(h:nxA o=some as):o = .nx as:=by cases o<;>cases h;rfl
def slI(as:AS)(i:Nat):Option Int:=match as[i]? with
 |some (some (.lf _ (.int k)))=>some k
 |_=>none
theorem zlU{as:AS}{i:Nat}{k:Int}(h:slI as i=some k):∃st,as[i]? = some (some (.lf st (.int k))):=by
 unfold slI at h
 cases e:as[i]? with
 |none=>rw[e]at h;cases h
 |some x=>
  rw[e]at h
  cases x with
  |none=>cases h
  |some o=>
   cases o with
   |nd _ _=>cases h
   |lf st d=>cases d<;>first|(cases h;exact⟨_,rfl⟩)|cases h
theorem Rel.int{K:zC}{kd:KD}{F B:Addr->Prop}{T:List Addr}{ad:Ad}{as:AS}{σ:St}{H:Hp}{i:Nat}{k:Int}(R:Rel K kd F B T ad as σ H)(h:slI as i=some k):σ[i]? = some (some (.int k)):=by
 obtain⟨st,e⟩:=zlU h
 obtain⟨v,hv,ro⟩:=R.sl i _ e
 generalize ad i=fp at ro
 cases ro with
 |lf r=>cases(show Rp K kd _ H v (.int k)from r);exact hv
def gX(n m i:Nat)(c1 c2:SF)(tc:TF)(ds:List (Bool×D)):Option Int:=
 if ds.length=m then(c1 (xN n ds)).bind λo1=>(nxA o1).bind λas1=>(c2 as1).bind λo2=>(nxA o2).bind λas2=>(tc as2).bind λp=>if p.1=true then(slI p.2 i).bind λk=>if k.natAbs.log2<1920 then some k else none else none else none
def spX(K:zC)(kd:KD)(g:List (Bool×D)->Option Int):Sp:=λvs H _ E=>∃F ds k,(∀a,F a->H a≠none)/\RpA K kd F H vs ds/\g ds=some k/\∀H',(∀b u,H b=some u->H' b=some u)->E (.int k 0) none H'
section
variable{P:Program}{w:World}{K:zC}{mg:Str->Option Value}{base:Heap}
theorem zoc{kd:KD}{x qual:Str}{st:Stmt}{f C:Addr}{fd:FuncData}{N ps:List Str}{k i:Nat}{c1 c2:SF}{tc:TF}{a1 a2 rs:Stmt}{c:Expr}{rest:List Stmt}{pos:Pos}(Fn:Fun K x qual st f fd)(S:FnScope N ps (zG st))
 (hB:Xd st=a1::a2 :: .If c [rs] [] pos::rest)
 (hb:∀(cdv:Value) (A:Around) (outer:List Env) (s:Shared) (H:Hp) (E:XK),Room k (A.deeper (envOfC qual (zG st) s.heap.objs.size f cdv))->
  ASt (Xm (CX1 P w C) P w K mg base N qual (zG st) f cdv A outer s H E) kd a1 c1/\ASt (Xm (CX1 P w C) P w K mg base N qual (zG st) f cdv A outer s H E) kd a2 c2/\AT (Xm (CX1 P w C) P w K mg base N qual (zG st) f cdv A outer s H E) kd c tc/\
  PS (Xm (CX1 P w C) P w K mg base N qual (zG st) f cdv A outer s H E) rs (λD σ H'=>VH i σ H' λv H1=>∃k:Int,v = .int k/\k.natAbs.log2<1920/\
   ∀pins s' e dx,H1 e=none->H1 dx=none->dx≠e->s.heap.objs.size<=e->s.heap.get? dx=none->Inv (Xm (CX1 P w C) P w K mg base N qual (zG st) f cdv A outer s H E) pins σ (HX H1 e C dx k) s'->(Xm (CX1 P w C) P w K mg base N qual (zG st) f cdv A outer s H E).xe (.ref e) s')):
 FnOk P w K mg base (CX1 P w C) (k+1) f fd ps (spX K kd (gX N.length ps.length i c1 c2 tc)):=by
 with_unfolding_all (
 obtain⟨oc,od,kV,doc,pm,an,cdv,ct,osl,rfl,lk,hcd⟩:=Fn.ex
 refine zlR lk hcd S (λvs H Q E h=>?_) λA outer s H vs Q E hr hsp=>?_
 · obtain⟨F,ds,r,_,rp,e,_⟩:=h
   unfold gX at e
   by_cases hl:ds.length=ps.length
   · rw[rp.length,hl]
   · rw[if_neg hl]at e;cases e
 · obtain⟨F,ds,r,ht,rp,e,q⟩:=hsp
   unfold gX at e
   by_cases hl:ds.length=ps.length
   · rw[if_pos hl]at e
     obtain⟨o1,e1,e⟩:=bS_ e
     obtain⟨as1,y1,e⟩:=bS_ e
     obtain⟨o2,e2,e⟩:=bS_ e
     obtain⟨as2,y2,e⟩:=bS_ e
     obtain⟨⟨p,as3⟩,e3,e⟩:=bS_ e
     obtain⟨hp,e⟩:=ite_some' e
     obtain⟨k',e4,e⟩:=bS_ e
     obtain⟨hk,e⟩:=zR e
     subst e
     cases zfG y1
     cases zfG y2
     dsimp only at hp e4
     subst hp
     obtain⟨h1,h2,h3,h4⟩:=hb cdv A outer s H E hr
     have h5:PSs (Xm (CX1 P w C) P w K mg base N qual (zG st) f cdv A outer s H E) rest (λ_ _ _=>False):=λ_ _ _ _ _ _ z=>z.elim
     rw[hB]
     refine⟨_,Y6 h1 (Y6 h2 (Y6 (zlz h3 (zcO h4) zgn) h5)), ?_⟩
     refine⟨F,λ_=>False,λ_=>[],xN N.length ds,_,zco ht rp,e1,λσ1 ad1 H1 R1 g1=>?_⟩
     refine⟨F,λ_=>False,ad1,as1,_,R1,e2,λσ2 ad2 H2 R2 g2=>?_⟩
     refine⟨F,λ_=>False,ad2,as2,true,as3,R2,e3,λad3 H3 R3 g3=>?_⟩
     refine⟨.int k',R3.int e4,k',rfl,hk,λpins s' e dx z1 z2 z3 z4 z5 I=>?_⟩
     refine zhK z1 z2 z3 z4 z5 I (q _ λb u hb=>?_)
     have no:∀a,¬Gw [] (λ_=>[]) a:=λa z=>z.elim (λy=>nomatch y) λ⟨_,y⟩=>nomatch y
     exact((g1.trans g2).trans g3).keep b u hb (no b)
   · rw[if_neg hl]at e;cases e)
end
section
variable{X:Cx}{pins:List (Addr×Obj)}{σ:St}{H:Hp}{s:Shared}{M:Model}{A:Around}{E:Value->Shared->Prop}
theorem zgP{j:Nat}{n:Str}{pos:Pos}{Q:Unit->Shared->Prop}(I:Inv X pins σ H s)(hN:X.N.Nodup)(hj:X.N[j]? = some n)(hk:X.env.kindOf n=some .local)(h:∀s',Inv X pins (σ.set j none) H s'->Q () s'):
 wpAny M A (do bindName X.env n .none;unbindBehindTheSuite X.env n pos) Q E s:=by
 obtain⟨m,hn,hl⟩:=id I.loc
 have hcls:(X.env.scope.kind == .class||(X.env.scope.kind == .module&&X.env.locals != X.env.globals))=false:=by rw[I.ok.kind];rfl
 have cne:=I.cne
 refine wpAny_nameGoes_keeps hk hn hcls λh' v hn' hs=>?_
 obtain⟨oL,_,_,hoL,_⟩:=id hn
 have tracked:HOk X.prog X.w H h':=λb ob e=>by
  refine(I.hok b ob e).stay (λc w' hc q=>(hs.2 c ?_).trans q) (λ_ q=>q) λ_ _ q=>q
  rintro rfl
  rcases hc with z|hc
  · rw[<-z,I.free]at e;cases e
  · rw[I.free]at hc;cases hc
 have nl:∀b o,X.s₀.heap.get? b=some o->b≠X.env.locals:=λb o e=>zzM (zzG (zxF e) I.ok.above)
 refine h _ ⟨I.ok,I.os,I.bare,⟨λb o e n hb hx=>(hs.2 b (nl b o e)).trans (I.base.keep b o e n hb hx),λb o e n hb hx=>?_,I.base.free,λb o e hx=>?_,I.base.tups,I.base.frzs,I.base.tbls⟩,⟨_,hn',λi y v' e1 e2 e3=>?_⟩,λy c e=>?_,I.free,I.freeC,λp hp=>?_,tracked,by simpa using I.len⟩
 · obtain⟨sl,e1⟩:=I.base.slot b o e n hb hx
   exact⟨sl,(hs.2 b (nl b o e)).trans e1⟩
 · obtain⟨o',e1⟩:=I.base.there b o e hx
   exact⟨o',(hs.2 b (nl b o e)).trans e1⟩
 · by_cases hij:i=j
   · subst hij
     rw[List.getElem?_set]at e2
     simp at e2
   · rw[zzU (Ne.symm hij)]at e2
     obtain⟨u',r',q⟩:=hl i y v' e1 e2 e3
     refine⟨u',r', ?_⟩
     rcases q with⟨k,e⟩|⟨k,c,e,z⟩
     · refine .inl ⟨k, ?_⟩
       have:y≠n:=λe=>hij (zaI hN e1 (e ▸ hj))
       simp[this,e]
     · exact .inr ⟨k,c,e,z.sameBut hs (cne y c e)⟩
 · obtain⟨w',z⟩:=I.cell y c e
   exact⟨w',z.sameBut hs (cne y c e)⟩
 · obtain⟨e,n,ne,nf,d⟩:=I.pin p hp
   exact⟨(hs.2 p.1 ne).trans e,n,ne,nf,d⟩
abbrev inX(X:Cx)(e:Addr)(pl:List (Addr×Obj)):Cx:={X with A:=X.A.mark (some (.ref e)),calm:=false,pn:=pl++X.pn}
theorem znT{e:Addr}{pl:List (Addr×Obj)}(o:X.Ok):(inX X e pl).Ok:=⟨o.mod,o.kind,o.glob,o.blt,o.above,o.inj,o.has,o.cab,(λz=>nomatch z),o.frames,o.stk,o.exf,o.bs,o.bsz,o.noex,o.exfs,o.funs,o.frf⟩
theorem zhR{e:Addr}{pl:List (Addr×Obj)}(I:Inv X pins σ H s)(h:∀p ∈ pl,s.heap.get? p.1=some p.2/\H p.1=none/\p.1≠X.env.locals/\p.1 ∉ X.fs/\∀v,p.2.data ≠ .cell v):Inv (inX X e pl) pins σ H s:=
 ⟨znT I.ok,I.os,I.bare,I.base,I.loc,I.cell,I.free,I.freeC,λp hp=>by
  rw[zyZ]at hp
  rcases zzI.mp hp with z|z
  · exact h p z
  · exact I.pin p z,I.hok,I.len⟩
theorem zjX{e:Addr}{pl:List (Addr×Obj)}(o:X.Ok)(I:Inv (inX X e pl) pins σ H s):Inv X pins σ H s:=
 ⟨o,I.os,I.bare,I.base,I.loc,I.cell,I.free,I.freeC,λp hp=>I.pin p (by rw[zyZ];exact zzH _ hp),I.hok,I.len⟩
end
def kdE(kd:KD)(e:Addr):KD:=⟨kd.d,λn=>if n="!e" then e else kd.c n⟩
def asE(n j:Nat):AS:=(List.replicate n none).set j (some (.lf true (.cl "!e")))
def asK(n j:Nat)(k:Int):AS:=(List.replicate n none).set j (some (.lf true (.int k)))
def zjA(j jf:Nat)(fr:AF)(g:List (Bool×D)->Option Int)(c:Int->SF):SF:=λas=>(fr as).bind λp=>(Yj p.2 p.1).bind λx=>(g x).bind λk=>(c k (asE as.length j)).bind λo=>(nxA o).bind λas2=>(slI as2 jf).bind λk2=>some (.nx (asK as.length jf k2))
theorem zgD:∀a,¬Gw [] (λ_=>[]) a:=λa z=>z.elim (λy=>nomatch y) λ⟨_,y⟩=>nomatch y
theorem zgt{K:zC}{kd:KD}{F B:Addr->Prop}{H:Hp}{σ:St}{n j:Nat}{o:O}{v:V}(hn:n=σ.length)(hv:σ[j]? = some (some v))(ro:RoS K kd F B (Gw [] λ_=>[]) H v o [])(hF:∀a,F a->H a≠none)(hB:∀a,B a->H a≠none/\¬F a):
 Rel K kd F B [] (λ_=>[]) ((List.replicate n none).set j (some o)) σ H:=by
 refine⟨by simp[hn],λ_ _=>rfl,λ_=>zyF,(λ_ _ _ z=>nomatch z),zyF,(λ_ _ _ z=>nomatch z),hF,λa z=>⟨(hB a z).1,(hB a z).2,zgD a⟩,λa z=>(zgD a z).elim,λi s e=>?_⟩
 rw[List.getElem?_set]at e
 split at e
 · rename_i z
   subst z
   split at e
   · cases e
     exact⟨v,hv,ro⟩
   · cases e
 · have:=zzW e
   have ea:s=none:=(List.mem_replicate.mp this).2
   subst ea
   rfl
theorem zjm{a b:Addr}{n:Nat}(h:a<n)(h':n<=b):a≠b:=zzM (zzG h h')
structure Held(e C dx:Addr)(k:Int)(oe od:Obj):Prop where
 cls:oe.cls = .ref C
 dict:oe.dict=some dx
 fl:∃vs,oe.data = .fields vs
 dd:∃es ep,od.data = .dict es ep
 at_:∃t,PySem.W.lookIn "at" od=some (some (.int k t))
section
variable{X:Cx}{kd:KD}{f C S:Addr}{fd:FuncData}{ps:List Str}{g:List (Bool×D)->Option Int}{n j jf:Nat}{x sx en:Str}{p sp pos cp ep hp:Pos}{a:Expr}{es:List Expr}{fr:AF}{b0:Stmt}{suite:List Stmt}{c:Int->SF}
theorem zmW(F:FnOk X.prog X.w X.K X.mg X.base (CX1 X.prog X.w C) n f fd ps (spX X.K kd g))(hr:Room n X.A)(hg:Gl X x)(hm:X.mg x=some (.ref f))(hk:PySem.W.keepIn X.K (.ref f)=true)(hb:Binds X.K fd ps [])(ha:AA X kd (a::es) fr)
 (hdb:(x==("__debug__":Str))=false) (he:starEach (a::es) X.env=(false,eval a X.env)::starEach es X.env) (hpl:(backTo cp (starEach es X.env)).any (·.1)=false) (hsw:swapsWith (.Call (.Name x p) (a::es) [] cp) none ep.line X.env=pure false)
 (hgS:Gl X sx) (hmS:X.mg sx=some (.ref S)) (hdS:(sx==("__debug__":Str))=false) (hex:PySem.W.exmOne X.K (.ref C) (.ref S)=some true)
 (hnx:∀v s,¬X.xe v s) (hst:X.stack=X.env::X.outer) (hfm:X.env.frame=some X.env.locals)
 (hN:X.N.Nodup) (hjf:jf≠j) (hj:X.N[j]? = some en) (hjl:X.env.kindOf en=some .local) (hff:X.fn en=true\/X.env.scope.names.lookup en=some .local)
 (hs:∀e dx k oe od,Held e C dx k oe od->ASs (inX X e [(e,oe),(dx,od)]) (kdE kd e) (b0::suite) (c k)):
 ASt X kd (.Try [.Expr (.Call (.Name x p) (a::es) [] cp) ep] [.ExceptHandler (some (.Name sx sp)) (some en) (b0::suite) hp] [] [] pos) (zjA j jf fr g c):=by
 with_unfolding_all (
 intro pins s σ H D I h
 obtain⟨F0,B0,ad,as,o,R,e,q⟩:=h
 obtain⟨⟨rs,as1⟩,h1,e⟩:=bS_ (show(fr as).bind _=_ from e)
 obtain⟨ds,h2,e⟩:=bS_ e
 obtain⟨k,h3,e⟩:=bS_ e
 obtain⟨o1,h4,e⟩:=bS_ e
 obtain⟨as2,h5,e⟩:=bS_ e
 obtain⟨k2,h6,e⟩:=bS_ e
 cases e
 cases zfG h5
 refine wpAny_Try_except ?_
 refine wpAny_execs_cons (wpAny_Expr_any ?_ I.quiet hsw)
 refine wpAny_Call_Name_kw (Z5 I hg hm ?_ hdb)
 refine PySem.W.callWith_K (h₀:=X.base) I.ok.mod.kin hk (zxP (ha cp pins s σ H (λvs H1=>∃ad1,Rel X.K kd F0 B0 [] ad1 as1 σ H1/\RVs X.K kd F0 B0 ad1 σ H1 vs rs/\Grow (Gw [] ad) H (Gw [] ad1) H1) I ⟨F0,B0,ad,as,rs,as1,R,h1,λvs ad1 H1 R1 rv1 g1=>⟨ad1,R1,rv1,g1⟩⟩) (λus s1 z=>?_) λ_ _ z=>(hnx _ _ z).elim) he hpl
 obtain⟨vs,H1,I1,r,ad1,R1,rv1,g1⟩:=z
 refine⟨I1.kIn, ?_⟩
 have sp:spX X.K kd g vs H1 (λ_ _=>False) (λv _ H'=>v = .int k 0/\∀b u,H1 b=some u->H' b=some u):=⟨_,ds,k,R1.trk true,zgj R1 rv1 h2,h3,λH' z=>⟨rfl,z⟩⟩
 have hl:us.length=ps.length:=by rw[<-r.length];exact F.len _ _ _ _ sp
 have r2:Vals vs us:=r
 refine wpAny_call (codeAny_mono (F.run X.A X.stack s1 H1 ⟨us,[]⟩ us vs _ _ hr I1.env0 (by have z:=hb s1 us I1.kIn (by rw[zyA];exact hl);rw[zyA]at z;exact z) r2 sp) λr s' hq'=>?_)
 cases r with
 |ok fl=>
  cases fl with
  |ret u=>obtain⟨_,_,_,_,_,_,_,z⟩:=hq';exact z.elim
  |next=>exact False.elim hq'
  |brk=>exact False.elim hq'
  |cont=>exact False.elim hq'
 |error v=>
  obtain⟨ea,dx,T,k',H2,rfl,hos,hbare,un,hok,fly,l1,l2,l3,n1,n2,n3,n4,n5,⟨mA,t,hns,hat⟩,ek,keep⟩:=hq'
  cases ek
  have out1:∀b,s1.heap.objs.size<=b->(b ∈ X.ex\/X.s₀.heap.objs.size<=b)/\b≠X.env.locals/\(∀x c,X.env.cells.lookup x=some c->c≠b)/\∀p ∈ X.pn++pins,p.1≠b:=λb hb=>by
   refine⟨.inr (zzK I1.sz hb),λz=>absurd (zzG I1.lt hb) (by rw[z];exact Nat.lt_irrefl _),λy c z w=>?_,λp hp w=>?_⟩
   · obtain⟨v,o,z',_⟩:=I1.cell y c z
     exact zjm (zxF z') hb w
   · exact zjm (zxF (I1.pin p hp).1) hb w
  have exL:∃o,s1.heap.get? X.env.locals=some o:=by obtain⟨m,⟨o,_,_,z,_⟩,_⟩:=I1.loc;exact⟨o,z⟩
  have exC:∀y c,X.env.cells.lookup y=some c->∃o,s1.heap.get? c=some o:=λy c z=>by obtain⟨v,o,z',_⟩:=I1.cell y c z;exact⟨o,z'⟩
  have nodx:∀b,(∃o,s1.heap.get? b=some o)->dx≠b:=λb ⟨o,z⟩ w=>by rw[<-w,l3]at z;cases z
  have I2:Inv X pins σ H2 s':=I1.call' (ch:=[]) hos un hok hbare (λb z=>nomatch z)
  have hfs:∀b ∈ frs (X.env::X.outer),H2 b=none:=by rw[<-hst];exact I2.stkFree
  have frx:∀b ∈ frs (X.env::X.outer),∃o,s1.heap.get? b=some o:=λb hb=>by
   rw[<-hst]at hb
   obtain⟨_,o,z,_⟩:=I1.stack.mem hb
   exact⟨o,z⟩
  have szs:s1.heap.objs.size<=s'.heap.objs.size:=by
   obtain⟨⟨oe,vs,z,_⟩,_⟩:=fly
   exact zzK l1 (Nat.le_of_lt (zxF z))
  refine znw (base:=X.base) (L:=X.env.locals) (by rw[<-hst];exact I2.ok.frames) (by rw[<-hst];exact I2.stack) hfm fly λh' T' hT' m fly'=>?_
  have hch:∀b ∈ [ea,T],H2 b=none/\s1.heap.objs.size<=b:=λb hb=>by
   rcases zI.mp hb with rfl|hb
   · exact⟨n1,l1⟩
   · rw[zzN.mp hb];exact⟨n2,l2⟩
  obtain⟨un2,hok2⟩:=zlG m I2.hok hfs λb hb=>(hch b hb).1
  have I3:Inv X pins σ H2 {s' with heap:=h'}:=I2.call' (s':={s' with heap:=h'}) (ch:=[ea,T]) rfl (by rw[hst];exact un2) hok2 I2.bare λb hb=>out1 b (hch b hb).2
  have hT2:H2 T'=none:=I2.hok.fresh hT'
  refine wpAny_handleBy_cons (codeAny_handlers_test ?_) (by intro q;cases q)
  refine Z5 (X:=inX X ea []) (zhR I3 (λp z=>nomatch z)) hgS hmS ?_ hdS
  have LT:PySem.W.Looks (model X.prog X.w) h' (typeOf (.ref ea)) (.ref C):=by
   obtain⟨⟨oe,vs,z,zc,_⟩,_⟩:=fly'
   exact(PySem.W.Looks.ld z).andThen (by rw[zc];exact .now)
  refine(PySem.W.exm_one (K:=X.K) I3.kIn LT hex).here ?_
  refine codeAny_handlers_suite_as ?_
  refine land fly' λh2 m2 fly2 hsz=>?_
  obtain⟨un3,hok3⟩:=zlG m2 I3.hok (λb z=>nomatch z) (λb z=>by rw[zzN.mp z];exact hT2)
  have I4:Inv X pins σ H2 {s' with heap:=h2}:=I3.call' (s':={s' with heap:=h2}) (ch:=[T']) rfl (un3.mono (λb z=>nomatch z) λb z=>z) hok3 I2.bare λb hb=>out1 b (by rw[zzN.mp hb];exact zzK szs hT')
  refine zcl I4 hN hj (.inl hjl) (v:=.ref ea) rfl (λs5 I5 hsame=>?_) hff
  obtain⟨a5,sb5,ha5⟩:=hsame
  have ex5:∃o,s1.heap.get? a5=some o:=by
   rcases ha5 with z|z
   · rw[z];exact exL
   · exact exC en a5 z
  have nea:ea≠a5:=λz=>by obtain⟨o,z'⟩:=ex5;exact zjm (zxF z') l1 z.symm
  obtain⟨⟨oe,vs,ge,ce,de,fe,_⟩,_,_⟩:=fly2
  have ge5:s5.heap.get? ea=some oe:=(sb5.2 ea nea).trans ge
  obtain⟨od,es',ep',gd,dd,hkeys,_,hfind⟩:=hns
  have ndT:dx ∉ frs (X.env::X.outer):=λz=>nodx dx (frx dx z) rfl
  have gd1:h'.get? dx=some od:=m.keep dx od ndT (λz=>by
   rcases zI.mp z with z|z
   · exact n4 z
   · exact n5 (zzN.mp z)) gd
  have gd2:h2.get? dx=some od:=m2.keep dx od (λz=>nomatch z) (λz=>zjm (zxF gd) hT' (zzN.mp z)) gd1
  have gd5:s5.heap.get? dx=some od:=(sb5.2 dx (nodx a5 ex5)).trans gd2
  have hheld:Held ea C dx k oe od:=⟨ce,de,⟨vs,fe⟩,⟨es',ep',dd⟩,t,by
   have z:=hfind "at"
   rw[hat]at z
   unfold nsFind findBy at z
   unfold PySem.W.lookIn
   rw[dd]
   dsimp only
   rw[<-Array.find?_toList]at z
   cases y:es'.toList.find? (λe=>e.key.isStr "at")with
   |none=>rw[y]at z;cases z
   |some en=>
    rw[y]at z
    show some (some en.val)=_
    rw[show en.val=_ from zzV z]⟩
  have nfs:∀b,(∀o,s1.heap.get? b≠some o)->b≠X.env.locals/\b ∉ X.fs:=λb hb=>⟨λz=>by obtain⟨o,z'⟩:=exL;exact hb o (by rw[z];exact z'),λz=>by
   obtain⟨o,z'⟩:=frx b (by unfold frs;rw[List.filterMap_cons,hfm];exact zS _ z)
   exact hb o z'⟩
  have I6:Inv (inX X ea [(ea,oe),(dx,od)]) pins (σ.set j (some (.ref ea))) H2 s5:=zhR I5 λp hp=>by
   rcases zI.mp hp with rfl|hp
   · obtain⟨y1,y2⟩:=nfs ea λo z=>zjm (zxF z) l1 rfl
     exact⟨ge5,n1,y1,y2,λv z=>by dsimp only at z;rw[fe]at z;cases z⟩
   · rw[zzN.mp hp]
     obtain⟨y1,y2⟩:=nfs dx λo z=>by rw[l3]at z;cases z
     exact⟨gd5,n3,y1,y2,λv z=>by dsimp only at z;rw[dd]at z;cases z⟩
  have lenσ:as.length=σ.length:=R.len
  have hjσ:j<σ.length:=by rw[I.len];exact(zzC.mp hj).1
  have ke:(kdE kd ea).c "!e"=ea:=by
   show(if("!e":Str)="!e" then ea else kd.c "!e")=ea
   exact if_pos rfl
  have R6:Rel X.K (kdE kd ea) (λ_=>False) (λ_=>False) [] (λ_=>[]) (asE as.length j) (σ.set j (some (.ref ea))) H2:=
   zgt (by simpa using lenσ) (zyG hjσ) (.lf (by have z:=Rp.cl (K:=X.K) (kd:=kdE kd ea) (O:=Lv (λ_=>False) (λ_=>False) (Gw [] λ_=>[]) true) (H:=H2) "!e";rw[ke]at z;exact z)) (λ_ z=>z.elim) λ_ z=>z.elim
  refine zxP (hs ea dx k oe od hheld pins s5 _ H2 {nx:=λσ6 H6=>∃ad6,Rel X.K (kdE kd ea) (λ_=>False) (λ_=>False) [] ad6 as2 σ6 H6/\Grow (Gw [] λ_=>[]) H2 (Gw [] ad6) H6,rt:=λ_ _=>False} I6 ⟨_,_,_,_,_,R6,h4,λσ6 ad6 H6 R6' g6=>⟨ad6,R6',g6⟩⟩) (λfl s6 z=>?_) λ_ _ z=>(hnx _ _ z).elim
  cases fl with
  |ret u=>obtain⟨_,_,_,_,_,z⟩:=z;exact z.elim
  |brk=>obtain⟨_,_,_,z⟩:=z;exact z.elim
  |cont=>obtain⟨_,_,_,z⟩:=z;exact z.elim
  |next=>
   obtain⟨σ6,H6,I6',ad6,R6',g6⟩:=z
   refine zgP (zjX I.ok I6') hN hj hjl λs7 I7=>⟨σ6.set j none,H6,I7, ?_⟩
   have len6:as.length=(σ6.set j none).length:=by rw[lenσ,zzQ,I.len,I6'.len]
   have kp:∀b u,H b=some u->¬Gw [] ad b->H6 b=some u:=λb u z nz=>g6.keep b u (keep b u (g1.keep b u z nz)) (zgD b)
   have kn:∀b,H b≠none->¬Gw [] ad b->H6 b≠none:=λb z nz w=>by
    cases y:H b with
    |none=>exact z y
    |some u=>rw[kp b u y nz]at w;cases w
   refine q _ (λ_=>[]) H6 (zgt len6 (by rw[zzU (Ne.symm hjf)];exact R6'.int h6) (.lf (.int k2)) (λa z=>kn a (R.ftr a z) λy=>(R.gtr a y).2 z) λa z=>⟨kn a (R.btr a z).1 (R.btr a z).2.2,(R.btr a z).2.1⟩) ⟨kp,λb z=>(zgD b z).elim⟩)
end
def isE(as:AS)(i:Nat):Bool:=match as[i]? with
 |some (some (.lf _ (.cl c)))=>decide (c="!e")
 |_=>false
def fEB(i:Nat)(b:Bool):EF:=λas=>if isE as i=true then some (.ow (.lf true (.bl b)),as)else none
def fEK(i:Nat)(k:Int):EF:=λas=>if isE as i=true then some (.ow (.lf true (.int k)),as)else none
theorem zmI{as:AS}{i:Nat}(h:isE as i=true):∃st,as[i]? = some (some (.lf st (.cl "!e"))):=by
 unfold isE at h
 cases e:as[i]? with
 |none=>rw[e]at h;cases h
 |some x=>
  rw[e]at h
  cases x with
  |none=>cases h
  |some o=>
   cases o with
   |nd _ _=>cases h
   |lf st d=>
    cases d with
    |cl c=>rw[of_decide_eq_true (show decide (c="!e")=true from h)];exact⟨_,rfl⟩
    |_=>cases h
theorem Rel.err{K:zC}{kd:KD}{e:Addr}{F B:Addr->Prop}{T:List Addr}{ad:Ad}{as:AS}{σ:St}{H:Hp}{i:Nat}(R:Rel K (kdE kd e) F B T ad as σ H)(h:isE as i=true):σ[i]? = some (some (.ref e)):=by
 obtain⟨st,q⟩:=zmI h
 obtain⟨v,hv,ro⟩:=R.sl i _ q
 generalize ad i=fp at ro
 have ke:(kdE kd e).c "!e"=e:=by
  show(if("!e":Str)="!e" then e else kd.c "!e")=e
  exact if_pos rfl
 cases ro with
 |lf r=>
  have r:Rp K (kdE kd e) _ H v (.cl "!e"):=r
  cases r
  rw[ke]at hv
  exact hv
structure XI(K:zC)(C:Addr):Prop where
 ga:PySem.W.findIn K (.ref C) "__getattribute__"=some (some (.builtin "BaseException.__getattribute__"))
 gh:PySem.W.findIn K (.ref C) "__getattr__"=some none
 mb:PySem.W.mroIn K C (.type "BaseException")=some true
 hd:PySem.W.hasDictIn K C=true
 ha:PySem.W.findIn K (.ref C) "__class__"=some (some (.builtin "object.__class__"))
 hn:PySem.W.specialIn K (.builtin "object.__class__") "__get__"=some (some (.builtin "getset_descriptor.__get__"))
 ht:PySem.W.takesIn K (.builtin "object.__class__")=some true
 hm:PySem.W.mroIn K C (.type "object")=some true
 at_:PySem.W.findIn K (.ref C) "at"=some none
section
open PySem.W
variable{prog:Program}{w:World}{A:Around}{E:Value->Shared->Prop}{s:Shared}{K:Frag}{x C:Addr}{ox:Obj}{od:Obj}{name:Str}{tk:Tok}
theorem zfQ{fill expr:Bool}{Q:Value->Shared->Prop}(Z:XI K C)(X:K.In s.heap)(I:InstAt s.heap x ox C (some od))
 (h:wpAny (model prog w) A.in1 (Builtin.«object.__getattribute__» ⟨[.ref x,.str name tk],[]⟩) (λfin s'=>match fin with | .done (.ret v)=>wpAny (model prog w) A (handedOut v) Q E s'|_=>False) (λ_ _=>False) s):
 wpAny (model prog w) A (getAttrBy (.ref x) (.str name tk) fill expr) Q E s:=by
 have FX:=PySem.F.excAttr_ValueError
 have L0:=I.type (M:=model prog w)
 have L1:=looks_findIn (M:=model prog w) X Z.ga
 have L2:Looks (model prog w) s.heap (hookBefore (.ref C)) none:=by
  unfold hookBefore
  rw[if_pos (show onTheHeap (Value.ref C)=true from rfl)]
  exact looks_findIn X Z.gh
 have sb:Looks (model prog w) s.heap (isInstance (.ref x) (.type "BaseException")) true:=L0.andThen (looks_mroIn X Z.mb)
 unfold getAttrBy
 refine zxJ (zxC (L0.here (zxC (L1.here ?_))))
 dsimp only
 rw[show(onTheHeap (Value.ref C)&&Value.builtin "BaseException.__getattribute__"==Value.builtin "object.__getattribute__")=false from by rw[show(Value.builtin "BaseException.__getattribute__"==Value.builtin "object.__getattribute__")=false from by decide +kernel,Bool.and_false],if_neg (by decide)]
 unfold getAttrByItsOwn
 refine zxC (L2.here (zxC (wpAny_attempt (zxJ ?_))))
 unfold callGetattribute
 rw[show(expr&&onTheHeap (Value.builtin "BaseException.__getattribute__"))=false from Bool.and_false _,if_neg (by decide)]
 unfold boundAndCalled
 rw[FX.ga.bind]
 refine zxC (zxD ?_)
 show wpAny _ _ (call (.builtin "BaseException.__getattribute__") [.ref x,.str name tk]) _ _ _
 refine wpAny_call (codeAny_call_builtin FX.ga.plain PySem.F.entry_bexc_ga ?_)
 refine @check_slot (model prog w) _ _ s "BaseException.__getattribute__" "BaseException" "__getattribute__" (.ref x) [.str name tk] [] _ (by decide +kernel) (by decide +kernel) sb (PySem.F.args_bexc_ga (.ref x) (.str name tk)) ?_
 refine zxP h (λfin s' z=>?_) λ_ _ z=>z.elim
 rcases fin with(_|_|_|_)|_<;>first|exact z|exact z.elim
theorem zfq{v:Value}{expr:Bool}{Q:Value->Shared->Prop}(Z:XI K C)(X:K.In s.heap)(I:InstAt s.heap x ox C (some od))(hf:findObj K C (some od) name=some (.value v))(hh:handedIn v=true)(h:Q v {s with toks:=s.toks+1}):
 wpAny (model prog w) A (getAttr (.ref x) name expr) Q E s:=by
 unfold getAttr
 refine zxC (wpAny_mkText (zfQ (s:={s with toks:=s.toks+1}) Z X I ?_))
 obtain⟨h',g,d,t,os⟩:=s
 have L0:=I.type (M:=model prog w)
 have L1:=looks_find (M:=model prog w) X I hf
 refine zxC (zxD (zxC (zxD (zxC (L0.at (zxC (L1.at ?_)))))))
 refine zxD ?_
 show wpAny _ _ (handedOut v) _ _ _
 rw[handedOut_of hh];exact zxD h
theorem zft{Q:Option Value->Shared->Prop}(Z:XI K C)(X:K.In s.heap)(I:InstAt s.heap x ox C (some od))(h:Q (some (.ref C)) {s with toks:=s.toks+1}):wpAny (model prog w) A (getAttr? (.ref x) "__class__") Q E s:=by
 have hf:findObj K C (some od) "__class__"=some (.bind (.builtin "getset_descriptor.__get__") (.builtin "object.__class__")):=findObj_data (by obtain⟨cd,hc,_⟩:=any_some Z.hd;rw[hc];rfl) Z.ha Z.hn Z.ht
 unfold getAttr?
 refine zxC (wpAny_mkText ?_)
 unfold getAttrBy?
 refine zxC (wpAny_attempt (zfQ (s:={s with toks:=s.toks+1}) Z X I ?_))
 obtain⟨h',g,d,t,os⟩:=s
 have L0:=I.type (M:=model prog w)
 have L1:=looks_find (M:=model prog w) X I hf
 refine zxC (zxD (zxC (zxD (zxC (L0.at (zxC (L1.at ?_)))))))
 show wpAny _ _ (Builtin.ObjectAttr.bindTo _ _ _ _) _ _ _
 show wpAny _ _ (holding [.builtin "object.__class__"] (call (.builtin "getset_descriptor.__get__") [.builtin "object.__class__",.ref x,.ref C]) >>= ret) _ _ _
 refine zxC (zxJ (wpAny_call (class_get (s:=⟨h',g,d,t+1,os⟩) (ox:=ox) (od:=some od) X I Z.hm ?_)))
 refine zxD ?_
 show wpAny _ _ (handedOut (.ref C)) _ _ _
 rw[handedOut_of rfl]
 exact zxD (zxD h)
end
section
variable{X:Cx}{kd:KD}{pins:List (Addr×Obj)}{σ:St}{H:Hp}{s:Shared}{e C dx:Addr}{k:Int}{oe od:Obj}
theorem zdP{K:zC}{x C:Addr}{ox od:Obj}(Z:XI K C):PySem.W.KitX K (.ref x) (.ref C) (λh=>PySem.W.InstAt h x ox C (some od))where
 ty:=λ_ _ _ I=>I.type
 it:=λ_ _ X _=>by
  obtain⟨cdD,hcD,_⟩:=PySem.W.any_some Z.hd
  unfold PySem.W.clsIn at hcD
  split at hcD
  · rename_i c' d' cd' sl' ho
    intro A' Q' E' s' k q
    unfold isType loadHead
    exact zxC (wpAny_loadPart (k _ _ (X _ _ ho)) (zxD q))
  · cases hcD
 ne:=λh tp dd its n sl X htp=>by
  obtain⟨cdD,hcD,_⟩:=PySem.W.any_some Z.hd
  refine Bool.eq_false_iff.mpr λq=>?_
  have e:C=tp:=Value.ref.inj (beq_iff_eq.mp q)
  subst e
  unfold PySem.W.clsIn at hcD
  split at hcD
  · rename_i c' d' cd' sl' ho
    have z:=(X _ _ ho).symm.trans htp
    cases z
  · cases hcD
 ca:=λX I k=>zft Z X I k
theorem zdw(h:Held e C dx k oe od)(I:Inv (inX X e [(e,oe),(dx,od)]) pins σ H s):PySem.W.InstAt s.heap e oe C (some od):=by
 have h1:=(I.pin (e,oe) (by simp)).1
 have h2:=(I.pin (dx,od) (by simp)).1
 refine⟨h1,h.cls, ?_, ?_⟩
 · obtain⟨vs,z⟩:=h.fl
   unfold PySem.W.notCls
   rw[z]
 · rw[h.dict];exact h2
theorem zjh{b:Bool}{cv:Value}{c:V}(h:Held e C dx k oe od)(Z:XI X.K C)(hc:∀u,RelV c u->u=cv)(hk:PySem.W.kitOne X.K (.ref C) cv=some b):
 ZV (inX X e [(e,oe),(dx,od)]) (.builtin "isinstance") (λxs H Q=>xs=[.ref e,c]/\Q (.bl b) H):=by
 intro pins s σ H xs us Q I r ⟨ex,q⟩
 subst ex
 cases r with
 |cons r1 r2=>
  cases r2 with
  |cons r2 r3=>
   cases r3
   cases(show _=Value.ref e from r1)
   cases hc _ r2
   exact PySem.W.kia_one (zdP Z) I.kIn (zdw h I) hk (λz=>nomatch z) λtk=>⟨.bl b,H,I.tok tk,rfl,q⟩
theorem zgR{b:Bool}{cs:List Addr}(h:Held e C dx k oe od)(Z:XI X.K C)(hk:PySem.W.kitAny X.K (.ref C) (cs.map .ref)=some b):
 ZV (inX X e [(e,oe),(dx,od)]) (.builtin "isinstance") (λxs H Q=>∃t,xs=[.ref e,.ref t]/\H t=some (.tup (cs.map .ref))/\Q (.bl b) H):=by
 intro pins s σ H xs us Q I r ⟨t,ex,ht,q⟩
 subst ex
 cases r with
 |cons r1 r2=>
  cases r2 with
  |cons r2 r3=>
   cases r3
   cases(show _=Value.ref e from r1)
   cases(show _=Value.ref t from r2)
   obtain⟨_,its,rv,⟨o,g1,g2,n,g3⟩⟩:=I.hok t _ ht
   have ei:∀{l:List Addr}{us:List Value},Vals (l.map V.ref) us->us=l.map Value.ref:=by
    intro l
    induction l with
    |nil=>intro us r;cases r;rfl
    |cons a l ih=>
     intro us r
     cases r with
     |cons ra rb=>
      cases(show _=Value.ref a from ra)
      rw[ih rb];rfl
   cases ei rv
   obtain⟨oc,odd,odt,osl⟩:=o
   dsimp only at g2 g3
   subst g2;subst g3
   exact PySem.W.kia_tup (zdP Z) I.kIn (zdw h I) g1 hk (λz=>nomatch z) λtk=>⟨.bl b,H,I.tok tk,rfl,q⟩
theorem Yd{X:Cx}{x:Str}{p:Pos}{C:Addr}(hg:Gl X x)(hm:X.mg x=some (.ref C))(hd:(x==("__debug__":Str))=false:=by decide):PE X (.Name x p) (tC (.ref C)):=λ_ _ _ H _ I q=>Z5 I hg hm ⟨.ref C,H,I,rfl,q⟩ hd
theorem zfg{b:O}{v:V}{i:Nat}{K:zC}{Q:VK}{f:EF}(hf:∀as r,f as=some r->isE as i=true/\r=(.ow b,as))(hv:∀F B G H,RoS K (kdE kd e) F B G H v b [])(h:al K (kdE kd e) f σ H Q):σ[i]? = some (some (.ref e))/\∀H',(∀b u,H b=some u->H' b=some u)->Q v H':=by
 obtain⟨F,B,ad,as,r,as',R,z,q⟩:=h
 obtain⟨z1,z2⟩:=hf as _ z
 cases z2
 exact⟨R.err z1,λH' k=>by obtain⟨R',g'⟩:=R.more k;exact q v [] ad H' R' (hv _ _ _ _) g'⟩
theorem zin{i:Nat}{b:Bool}:∀as r,fEB i b as=some r->isE as i=true/\r=(.ow (.lf true (.bl b)),as):=λas r h=>by obtain⟨a,b⟩:=zR h;exact⟨a,b.symm⟩
theorem zmD{i:Nat}{k:Int}:∀as r,fEK i k as=some r->isE as i=true/\r=(.ow (.lf true (.int k)),as):=λas r h=>by obtain⟨a,b⟩:=zR h;exact⟨a,b.symm⟩
variable{x y en:Str}{p p1 p2 pos:Pos}{i:Nat}{b:Bool}
theorem zib{cv:Value}{c:V}{a:Expr}(h:Held e C dx k oe od)(Z:XI X.K C)(hc:∀u,RelV c u->u=cv)(hk:PySem.W.kitOne X.K (.ref C) cv=some b)
 (hg:Gl (inX X e [(e,oe),(dx,od)]) x) (hm:X.mg x=none) (hv:bootBuiltins x=some (.builtin "isinstance")) (hi:PE (inX X e [(e,oe),(dx,od)]) (.Name en p1) (VH i)) (ha:PE (inX X e [(e,oe),(dx,od)]) a (tC c))
 (hn:x≠"__name__") (hdb:(x==("__debug__":Str))=false) (he:starEach [.Name en p1,a] X.env=(false,eval (.Name en p1) X.env)::starEach [a] X.env) (he2:starEach [a] X.env=(false,eval a X.env)::starEach [] X.env) (hpl:(backTo pos (starEach [a] X.env)).any (·.1)=false):
 AE (inX X e [(e,oe),(dx,od)]) (kdE kd e) (.Call (.Name x p) [.Name en p1,a] [] pos) (fEB i b):=by
 with_unfolding_all exact(yL (WN (zjh (b:=b) h Z hc hk) hg hm hv (yQ hi (yQ ha Zo he2) he) hn hdb he hpl) λσ H Q z=>by
  obtain⟨z1,z2⟩:=zfg (v:=.bl b) zin (λ_ _ _ _=>.lf (.bl b)) z
  exact⟨.ref e,z1,rfl,z2 _ λ_ _ y=>y⟩)
theorem zkM{cs:List Addr}{es:List Expr}{ctx:Nat}{t:TA}(h:Held e C dx k oe od)(Z:XI X.K C)(hk:PySem.W.kitAny X.K (.ref C) (cs.map .ref)=some b)(hz:cs.length<=1000)
 (hg:Gl (inX X e [(e,oe),(dx,od)]) x) (hm:X.mg x=none) (hv:bootBuiltins x=some (.builtin "isinstance")) (hi:PE (inX X e [(e,oe),(dx,od)]) (.Name en p1) (VH i)) (ha:PA (inX X e [(e,oe),(dx,od)]) es t) (ht:∀σ H Q,Q (cs.map .ref) H->t σ H Q)
 (hn:x≠"__name__") (hdb:(x==("__debug__":Str))=false) (he:starEach [.Name en p1,.Tuple es ctx p2] X.env=(false,eval (.Name en p1) X.env)::starEach [.Tuple es ctx p2] X.env) (he2:starEach [.Tuple es ctx p2] X.env=(false,eval (.Tuple es ctx p2) X.env)::starEach [] X.env) (hpl:(backTo pos (starEach [.Tuple es ctx p2] X.env)).any (·.1)=false):
 AE (inX X e [(e,oe),(dx,od)]) (kdE kd e) (.Call (.Name x p) [.Name en p1,.Tuple es ctx p2] [] pos) (fEB i b):=by
 with_unfolding_all exact(yL (WN (zgR (b:=b) h Z hk) hg hm hv (yQ hi (yQ (zhM ha) Zo he2) he) hn hdb he hpl) λσ H Q z=>by
  obtain⟨z1,z2⟩:=zfg (v:=.bl b) zin (λ_ _ _ _=>.lf (.bl b)) z
  refine⟨.ref e,z1,ht σ H _ ⟨by rw[zD,sizeLine_eq];omega,λq hq=>⟨q,rfl,zZ,z2 _ λb u y=>by rw[zK (yu y hq)];exact y⟩⟩⟩)
theorem znu(h:Held e C dx k oe od)(Z:XI X.K C)(hi:PE (inX X e [(e,oe),(dx,od)]) (.Name en p1) (VH i))(hb:attributeBase (.Name en p1) "at" X.env (eval (.Name en p1) X.env)=eval (.Name en p1) X.env):
 AE (inX X e [(e,oe),(dx,od)]) (kdE kd e) (.Attribute (.Name en p1) "at" pos) (fEK i k):=by
 with_unfolding_all (
 intro pins s σ H Q I z
 obtain⟨z1,z2⟩:=zfg (v:=.int k) zmD (λ_ _ _ _=>.lf (.int k)) z
 refine zkw hb (thn (hi pins s σ H (λv H'=>v = .ref e/\H'=H) I ⟨_,z1,rfl,rfl⟩) λu s1 ⟨v,H1,I1,r1,ev,eH⟩=>?_)
 subst ev;subst eH
 cases(show u=Value.ref e from r1)
 obtain⟨t,hl⟩:=h.at_
 exact zfq Z I1.kIn (zdw h I1) (PySem.W.findObj_own Z.hd Z.at_ rfl hl) rfl ⟨.int k,H1,I1.tok _,⟨t,rfl⟩,z2 _ λ_ _ y=>y⟩)
end
theorem zmm{P:Program}{w:World}{K:zC}{kd:KD}{e:Addr}(h:KD1 P w K kd):KD1 P w K (kdE kd e):=λX a b c=>⟨(h X a b c).inj,(h X a b c).inK,(h X a b c).at_⟩
def slT(as:AS)(i:Nat):Option Str:=match as[i]? with
 |some (some (.lf _ (.str k)))=>some k
 |_=>none
theorem znE{as:AS}{i:Nat}{k:Str}(h:slT as i=some k):∃st,as[i]? = some (some (.lf st (.str k))):=by
 unfold slT at h
 cases e:as[i]? with
 |none=>rw[e]at h;cases h
 |some x=>
  rw[e]at h
  cases x with
  |none=>cases h
  |some o=>
   cases o with
   |nd _ _=>cases h
   |lf st d=>cases d<;>first|(cases h;exact⟨_,rfl⟩)|cases h
theorem Rel.txt{K:zC}{kd:KD}{F B:Addr->Prop}{T:List Addr}{ad:Ad}{as:AS}{σ:St}{H:Hp}{i:Nat}{k:Str}(R:Rel K kd F B T ad as σ H)(h:slT as i=some k):σ[i]? = some (some (.str k)):=by
 obtain⟨st,e⟩:=znE h
 obtain⟨v,hv,ro⟩:=R.sl i _ e
 generalize ad i=fp at ro
 cases ro with
 |lf r=>cases(show Rp K kd _ H v (.str k)from r);exact hv
def zha(i:Nat)(y z:Str):EF:=λas=>(slT as i).bind λx=>if x.length<=1048576 then some (.ow (.lf true (.str (Txt.replace x y z))),as)else none
def PE1(X:Cx)(e:Expr)(t:TE):Prop:=
 ∀(pins:List (Addr×Obj)) (s:Shared) (σ:St) (H:Hp) (Q:VK),1<=s.toks->Inv X pins σ H s->t σ H Q->wpAny (model X.prog X.w) X.A (eval e X.env) (EP X pins σ Q) X.xe s
def PA1(X:Cx)(es:List Expr)(t:TA):Prop:=
 ∀(pos:Pos) (pins:List (Addr×Obj)) (s:Shared) (σ:St) (H:Hp) (Q:List V->Hp->Prop),1<=s.toks->Inv X pins σ H s->t σ H Q->wpAny (model X.prog X.w) X.A (spliced (backTo pos (starEach es X.env))) (AP X pins σ Q) X.xe s
def Tk(X:Cx)(e:Expr):Prop:=∀(Q:Value->Shared->Prop) (s:Shared),wpAny (model X.prog X.w) X.A (eval e X.env) Q X.xe s->wpAny (model X.prog X.w) X.A (eval e X.env) (λv s'=>1<=s'.toks/\Q v s') X.xe s
section
variable{X:Cx}{kd:KD}{a:Expr}{es:List Expr}{fa:EF}{fd:DF}{pos:Pos}
theorem zdO{e:Expr}{te:TE}{t:TA}(ha:PE1 X e te)(hr:PA1 X es t)(hs:starEach (e::es) X.env=(false,eval e X.env)::starEach es X.env):PA1 X (e::es) (zgi te t):=by
 intro pos pins s σ H Q h1 I h
 rw[hs]
 show wpAny _ _ (spliced ((false,eval e X.env)::backTo pos (starEach es X.env))) _ _ s
 refine Calls.spliced_cons (zxP (wpAny_toks_of h1 (ha pins s σ H _ h1 I h)) (λu s1 ⟨k1,x,H1,I1,r1,q1⟩=>?_) λ_ _ z=>z.2)
 exact thn (hr pos pins s1 σ H1 _ k1 I1 q1) λus s2 ⟨xs,H2,I2,r2,q2⟩=>⟨x::xs,H2,I2,.cons r1 r2,q2⟩
theorem ziS{e:Expr}{te:TE}{t:TA}(ha:PE X e te)(hT:Tk X e)(hr:PA1 X es t)(hs:starEach (e::es) X.env=(false,eval e X.env)::starEach es X.env):PA X (e::es) (zgi te t):=by
 intro pos pins s σ H Q I h
 rw[hs]
 show wpAny _ _ (spliced ((false,eval e X.env)::backTo pos (starEach es X.env))) _ _ s
 refine Calls.spliced_cons (thn (hT _ s (ha pins s σ H _ I h)) λu s1 ⟨k1,x,H1,I1,r1,q1⟩=>?_)
 exact thn (hr pos pins s1 σ H1 _ k1 I1 q1) λus s2 ⟨xs,H2,I2,r2,q2⟩=>⟨x::xs,H2,I2,.cons r1 r2,q2⟩
theorem zmi{x:Str}{j:Nat}{p p2:Pos}{op:Operator}{b:Expr}:Tk X (.BinOp (.Constant (.str x) j p) op b p2):=by
 intro Q s h
 rw[arm_eval_BinOp]at h ⊢
 have h2:=λΓ p (hΓ:_)=>by
  have z:=h Γ p hΓ
  rw[Sem.wp_bind']at z
  exact z
 refine zxC (Calls.Constant_str ?_)
 exact zxP (wpAny_toks_of (n:=1) (show 1<=s.toks+1 by omega) (s:={s with toks:=s.toks+1}) h2) (λ_ _ z=>z) λ_ _ z=>z.2
theorem zln{i:Nat}{x y z:Str}{j k:Nat}{p p1 p2 ap cp:Pos}(hi:PE X (.Name x p) (VH i))(hyz:(y==z)=false)(hz:z.length<=14)
 (hbase:attributeBase (.Name x p) "replace" X.env (eval (.Name x p) X.env)=eval (.Name x p) X.env)
 (hfew:((backTo cp (starEach [.Constant (.str y) j p1,.Constant (.str z) k p2] X.env)).all (λx=>!x.1)&&(backToKw cp (keywordEach [] X.env)).all (λx=>x.1.isSome)
  && decide ([Expr.Constant (.str y) j p1,.Constant (.str z) k p2].length+([]:List Keyword).length+(if([]:List Keyword).isEmpty then 0 else 1)<30))=true)
 (hline:(ap.endLine==cp.line)=true)
 (hs:backTo cp (starEach [.Constant (.str y) j p1,.Constant (.str z) k p2] X.env)=(false,eval (.Constant (.str y) j p1) X.env)::(false,eval (.Constant (.str z) k p2) X.env)::[]):
 PE1 X (.Call (.Attribute (.Name x p) "replace" ap) [.Constant (.str y) j p1,.Constant (.str z) k p2] [] cp) (al X.K kd (zha i y z)):=by
 intro pins s σ H Q h1 I h
 obtain⟨F,B,ad,as,r,as',R,e,q⟩:=h
 obtain⟨t0,e1,e⟩:=bS_ (show(slT as i).bind _=_ from e)
 obtain⟨hx,e⟩:=zR e
 cases e
 have hv:=R.txt e1
 refine wpAny_Call_method_late hbase hfew hline rfl (zxP (wpAny_toks_of h1 (hi pins s σ H (λv H'=>v = .str t0/\H'=H) I ⟨_,hv,rfl,rfl⟩)) (λu s1 ⟨k1,v,H1,I1,r1,ev,eH⟩=>?_) λ_ _ z=>z.2)
 subst ev;subst eH
 obtain⟨tk,rfl⟩:=(show ∃t,u=Value.str t0 t from r1)
 refine⟨"str","str.replace",PySem.F.plainAttrs_str,PySem.F.slot_str_replace,PySem.F.type_str_replace,typeIs_str _ _ _,(λa z=>nomatch z), ?_⟩
 rw[hs]
 refine Calls.callWith_builtin rfl (Calls.evalArgs_plain (Calls.spliced_cons (Calls.Constant_str (Calls.spliced_cons (Calls.Constant_str (Calls.spliced_nil ?_))))))
 exact SC.replaceW (Nat.ne_of_gt k1) (Nat.succ_ne_zero _) (zzM (Nat.lt_succ_self _)) hyz hx hz λt' k'=>⟨.str _,H1,I1.tok _,⟨_,rfl⟩,q _ [] ad H1 R (.lf (.str _)) Grow.refl⟩
theorem zbl{σ:St}{H:Hp}{Q:List V->Hp->Prop}(h:alD X.K kd (dC fa fd) σ H Q):zgi (al X.K kd fa) (alD X.K kd fd) σ H Q:=by
 obtain⟨F,B,ad,as,rs,as',R,e,q⟩:=h
 obtain⟨⟨p,as1⟩,h1,e⟩:=bS_ (show(fa as).bind _=_ from e)
 obtain⟨⟨o,as2⟩,h2,e⟩:=bS_ e
 obtain⟨⟨os,as3⟩,h3,e⟩:=bS_ e
 cases e
 refine⟨F,B,ad,as,p,as1,R,h1,λv T1 ad1 H1 R1 rv1 g1=>?_⟩
 obtain⟨ad2,R2,ro2,le2⟩:=VN R1 rv1 h2
 refine⟨F,_,ad2,as2,os,_,R2.hide,h3,λvs T3 ad3 H3 R3 ro3 g3=>?_⟩
 have kT:∀a ∈ T1,∀u,H1 a=some u->H3 a=some u:=λa m u e=>g3.keep a u e λz=>z.elim (λy=>nomatch y) λ⟨i,y⟩=>R2.dis i a y m
 have r1:RoS X.K kd F B (Gw (T1++T3) ad3) H3 v o T1:=RoS.lv vW (RoS.grow g3 kT (RoS.lv zdp ro2))
 have r3:vK X.K kd F B (Gw (T1++T3) ad3) H3 vs os T3:=vK.lv vW ro3
 refine q _ (T1++T3) ad3 H3 (R3.unhide R2.tnd λa m z=>(R2.btr a z).2.2 (.inl m)) (.cons r1 r3) ((g1.trans (Grow.less le2)).trans ⟨λb u e n=>g3.keep b u e λz=>n (Gw.drop b z),λb z=>?_⟩)
 rcases z with z|z
 · rcases zzI.mp z with z|z
   · exact .inl (.inl z)
   · exact(g3.own b (.inl z)).elim (λy=>.inl (Gw.drop b y)) .inr
 · exact(g3.own b (.inr z)).elim (λy=>.inl (Gw.drop b y)) .inr
theorem znB{b c:Expr}{fb fc:EF}(ha:AE X kd a fa)(hT:Tk X a)(hb:AE X kd b fb)(hc:PE1 X c (al X.K kd fc))(hr:AD X kd es fd)(h1:starEach (a::b::c::es) X.env=(false,eval a X.env)::starEach (b::c::es) X.env)
 (h2:starEach (b::c::es) X.env=(false,eval b X.env)::starEach (c::es) X.env) (h3:starEach (c::es) X.env=(false,eval c X.env)::starEach es X.env):AD X kd (a::b::c::es) (dC fa (dC fb (dC fc fd))):=by
 with_unfolding_all (
 have r1:PA1 X es (alD X.K kd fd):=λpos pins s σ H Q _ I h=>hr pos pins s σ H Q I h
 have r2:PA1 X (c::es) (alD X.K kd (dC fc fd)):=λpos pins s σ H Q k I h=>zdO hc r1 h3 pos pins s σ H Q k I (zbl h)
 have r3:PA1 X (b::c::es) (alD X.K kd (dC fb (dC fc fd))):=λpos pins s σ H Q k I h=>zdO (λpins s σ H Q _ I h=>hb pins s σ H Q I h) r2 h2 pos pins s σ H Q k I (zbl h)
 exact λpos pins s σ H Q I h=>ziS ha hT r3 h1 pos pins s σ H Q I (zbl h))
theorem zgC{x y:Str}{n:Nat}{j:Nat}{j2:Nat}{p1 p2:Pos}(hn:2<=n/\n<=1000)(hx:1<=x.length/\x.length<=1000)(hy:(⟨(List.replicate n x.cps).foldl (· ++ ·) #[]⟩:Str)=y)(hz:y.length<=1000000):
 PE X (.BinOp (.Constant (.str x) j p1) .Mult (.Constant (.int n) j2 p2) pos) (tC (.str y)):=by
 refine yL (zlH (r:=λa b H Q=>a = .str x/\b = .int n/\Q (.str y) H) (λpins s σ H a b v u Q I rx ry h=>?_) zfy zic) λσ H Q h=>⟨rfl,rfl,h⟩
 obtain⟨rfl,rfl,q⟩:=h
 obtain⟨t,rfl⟩:=(show ∃t,v=Value.str x t from rx)
 obtain⟨t',rfl⟩:=(show ∃t',u=Value.int n t' from ry)
 have h1:¬((n:Int)<1):=by omega
 have h2:((n:Int)==1||x.length==0)=false:=by
  rw[Bool.or_eq_false_iff]
  exact⟨beq_eq_false_iff_ne.mpr (by omega),beq_eq_false_iff_ne.mpr (by omega)⟩
 refine P.mul_str ?_ (λ_ _=>?_) (λ_ _=>?_) ?_
 · rw[zyC (by omega),zyC (by omega)];rfl
 · intro z
   have h3:(n:Int)*1000<=2 ^ 63-1:=by omega
   have h4:(1000:Int)<=(2 ^ 63-1)/n:=(Int.le_ediv_iff_mul_le (by omega)).mpr (by omega)
   omega
 · unfold Builtin.Str.tooLong sizeLine
   rw[zyE]
   have:x.length*n<=1000*1000:=Nat.mul_le_mul hx.2 hn.2
   exact zyC (by omega)
 · rw[if_neg h1,h2]
   simp only[Bool.false_eq_true,if_false]
   rw[zyE,hy]
   exact⟨by rw[sizeLine_eq];omega,.str y,H,I.tok _,⟨_,rfl⟩,q⟩
end
end PF
end
section
namespace G04
open PySem PySem.Spec PyProof.Rows L2 PF
abbrev zeg:List Str:=["thing","names"]
theorem zhq:FnScope zeg ["thing","names"] (zG W4):=⟨rfl,rfl,rfl,by decide +kernel,rfl,by decide +kernel,by decide +kernel⟩
def zdI:SF:=
 (yF (zfv (zhA (fV 0) "str") (zfv (f2 (fV 0) (fC (.tup [(.str "a"),(.str "b"),(.str "c")])) (zH .In)) (f2 (fV 0) (fV 1) (zH .In)))))
def YC:Fn:=fnR 2 2 zdI
abbrev Xy:List Str:=["word"]
theorem zbr:FnScope Xy ["word"] (zG vf):=⟨rfl,rfl,rfl,by decide +kernel,rfl,by decide +kernel,by decide +kernel⟩
def XF:SF:=
 (yF (xu .dct (fC (.dct [(.inr "add",(.int 2)),(.inr "take",(.int 2)),(.inr "times",(.int 2)),(.inr "most",(.int 2)),(.inr "least",(.int 2)),(.inr "same",(.int 4))])) (aC (fV 0) (aC (fC (.int 0)) aN)) getP'))
def yr:Fn:=fnR 1 1 XF
abbrev Z3:List Str:=["word","most"]
theorem zbI:FnScope Z3 ["word","most"] (zG wO):=⟨rfl,rfl,rfl,by decide +kernel,rfl,by decide +kernel,by decide +kernel⟩
theorem zag:(["sign"]:List Str).Nodup:=by decide +kernel
def W6:SF:=
 (zM (sIf (Yw (fT (f2 (fV 0) (fC (.str "")) (zH .Eq))) (fT (f2 (fP (aC (fV 0) aN) yz) (fV 1) (zH .Gt)))) (yF (fC (.bl false))) sNx)
  (zM (sIf (vL (fT (f2 (f2 (fV 0) (fC (.int 0)) ixP) (fC (.str "0")) (zH .Eq))) (fT (f2 (fV 0) (fC (.str "0")) (zH .NotEq)))) (yF (fC (.bl false))) sNx)
  (yF (fP (aC (zcr (ziz (fV 0)) [none] (gN 0) zgO (f2 (fV 0) (fC (.str "0123456789")) (zH .In))) aN) zmn))))
def xQ:Fn:=fnR 2 2 W6
abbrev zit:List Str:=["word","within","names"]
theorem zkx:FnScope zit ["word","within","names"] (zG zdn):=⟨rfl,rfl,rfl,by decide +kernel,rfl,by decide +kernel,by decide +kernel⟩
def zie:SF:=
 (zM (sIf (fT (f2 (zV (aC (fV 0) aN) yr) (fC (.int 0)) (zH .Gt))) (yF (f2 (fV 1) (fC (.int 12)) (zH .Lt))) sNx)
  (yF (fOr (zV (aC (fV 0) (aC (fC (.int 60)) aN)) xQ) (zV (aC (fV 0) (aC (fV 2) aN)) YC))))
def Wm:Fn:=fnR 3 3 zie
abbrev Xo:List Str:=["words","names","wanted","at","word"]
theorem wg:FnScope Xo ["words","names"] (zG vA):=⟨rfl,rfl,rfl,by decide +kernel,rfl,by decide +kernel,by decide +kernel⟩
def Xq:SF:=
 (zM (zF true 2 (zP (dC (fC (.int 0)) dN)))
  (zM (WW (zkU (fV 0)) (gT 2 (gsC (gN 3) (gsC (gN 4) gsN))) (zM (sIf (Yw (fT (f2 (fP (aC (fV 2) aN) yz) (fC (.int 0)) (zH .Eq))) (Y8 (fT (zV (aC (fV 4) (aC (f2 (fV 2) (fC (.int 0)) ixP) (aC (fV 1) aN))) Wm)))) (yF (fV 3)) sNx)
  (zM (zF true 2 (f2 (f2 (zP (dC (f2 (f2 (fV 2) (fC (.int 0)) ixP) (fC (.int 1)) (zm .Add)) dN)) (zV (aC (fV 4) aN) yr) (zm .Mult)) (fSl (fV 2) (oS (fC (.int 1))) oN slP) (zm .Add)))
  (sIf (fT (f2 (f2 (f2 (fV 3) (fC (.int 1)) (zm .Add)) (fP (aC (fV 2) aN) yz) (zm .Add)) (fC (.int 40)) (zH .Gt))) (yF (fV 3)) sNx))))
  (yF (fIf (fT (f2 (fP (aC (fV 2) aN) yz) (fC (.int 0)) (zH .Gt))) (fP (aC (fV 0) aN) yz) (fC .non)))))
def yZ:Fn:=fnR 5 2 Xq
abbrev zcz:List Str:=["word"]
theorem zeW:FnScope zcz ["word"] (zG Xi):=⟨rfl,rfl,rfl,by decide +kernel,rfl,by decide +kernel,by decide +kernel⟩
def zcE:SF:=
 (zM (sIf (fT (zV (aC (fV 0) (aC (fC (.int 60)) aN)) xQ)) (yF (zaf (dC (fC (.str "number")) (dC (fP (aC (fV 0) aN) Y5) dN)))) sNx)
  (yF (zaf (dC (fC (.str "name")) (dC (fV 0) dN)))))
def vR:Fn:=fnR 1 1 zcE
abbrev zcj:List Str:=["words","ready","word","many","term"]
theorem w5:FnScope zcj ["words"] (zG Xc):=⟨rfl,rfl,rfl,by decide +kernel,rfl,by decide +kernel,by decide +kernel⟩
def zcD:SF:=
 (zM (zF true 1 (zP dN))
  (zM (WW (zkE (fV 0)) (gN 2) (zM (zF true 3 (zV (aC (fV 2) aN) yr))
  (zM (zF true 4 (fIf (fT (f2 (fV 3) (fC (.int 0)) (zH .Eq))) (zV (aC (fV 2) aN) vR) (fP (aC (f2 (zP (dC (fV 2) dN)) (fSl (fV 1) oN (oS (fV 3)) slP) (zm .Add)) aN) tupP)))
  (zF true 1 (f2 (zP (dC (fV 4) dN)) (fSl (fV 1) (oS (fV 3)) oN slP) (zm .Add))))))
  (yF (f2 (fV 1) (fC (.int 0)) ixP))))
def Z1:Fn:=fnR 5 1 zcD
abbrev Zj:List Str:=["self","at"]
theorem Wb:FnScope Zj ["self","at"] (zG xZ):=⟨rfl,rfl,rfl,by decide +kernel,rfl,by decide +kernel,by decide +kernel⟩
abbrev YH:List Str:=["text","names","words","fault"]
theorem wk:FnScope YH ["text","names"] (zG Zb):=⟨rfl,rfl,rfl,by decide +kernel,rfl,by decide +kernel,by decide +kernel⟩
def VP:SF:=
 (zM (zF true 2 (xu .str (fV 0) (aC (fC (.str " ")) aN) Yt))
  (zM (zF true 3 (zV (aC (fV 2) (aC (fV 1) aN)) yZ))
  (zM (sIf (fT (f2 (fV 3) (fC .non) (zH .IsNot))) sNo sNx)
  (yF (zV (aC (fV 2) aN) Z1)))))
def wH:Fn:=fnR 4 2 VP
def vB:List (Bool×D)->Option Int:=gX 4 2 3 (zF true 2 (xu .str (fV 0) (aC (fC (.str " ")) aN) Yt)) (zF true 3 (zV (aC (fV 2) (aC (fV 1) aN)) yZ)) (fT (f2 (fV 3) (fC .non) (zH .IsNot)))
abbrev zbi:List Str:=["_law_script","_law_k","_law_most","_law_x","_law_found","_law_j"]
theorem xO:FnScope zbi ["_law_script","_law_k"] (zG Z4):=⟨rfl,rfl,rfl,by decide +kernel,rfl,by decide +kernel,by decide +kernel⟩
def zbt:SF:=
 (zM (zF true 2 (f2 (fC (.int 1000)) (f2 (fC (.int 10)) (fC (.int 64)) (zm .Pow)) (zm .Mult)))
  (zM (sIf (fT (f2 (fV 1) (fP (aC (fV 0) aN) yz) (zH .Lt))) (yF (f2 (f2 (f2 (f2 (fV 0) (fV 1) ixP) (fV 2) (zm .Mod)) (f2 (fC (.int 7919)) (fC (.int 15)) (zm .Pow)) (zm .Mult)) (fV 2) (zm .Mod))) sNx)
  (zM (zF true 3 (f2 (f2 (f2 (fV 1) (fV 1) (zm .Mult)) (f2 (fC (.int 7)) (fV 1) (zm .Mult)) (zm .Add)) (fC (.int 11)) (zm .Add)))
  (zM (sIf (fT (f2 (fV 0) (zP dN) (zH .NotEq))) (zF true 3 (f2 (fV 3) (f2 (f2 (f2 (fV 0) (f2 (fV 1) (fP (aC (fV 0) aN) yz) (zm .Mod)) ixP) (fC (.int 1000003)) (zm .Mod)) (f2 (f2 (fC (.int 2)) (fV 1) (zm .Mult)) (fC (.int 1)) (zm .Add)) (zm .Mult)) (zm .Add))) sNx)
  (zM (zF true 4 (fC (.int 0)))
  (zM (WW (VL (aC (fC (.int 8)) aN) zdv) (gN 5) (zM (zF true 3 (f2 (f2 (f2 (f2 (f2 (fV 3) (fV 3) (zm .Mult)) (f2 (fC (.int 48271)) (fV 3) (zm .Mult)) (zm .Add)) (f2 (fC (.int 69621)) (fV 5) (zm .Mult)) (zm .Add)) (fV 1) (zm .Add)) (fC (.int 2147483629)) (zm .Mod)))
  (zF true 4 (f2 (f2 (fV 4) (fC (.int 998244353)) (zm .Mult)) (f2 (f2 (fV 3) (fC (.int 16807)) (zm .Mult)) (fC (.int 2147483587)) (zm .Mod)) (zm .Add)))))
  (yF (f2 (fV 4) (fV 2) (zm .Mod)))))))))
def yq:Fn:=fnR 6 2 zbt
abbrev WF:List Str:=["_law_x","_law_sizes","_law_found","_law_size"]
theorem vz:FnScope WF ["_law_x","_law_sizes"] (zG vO):=⟨rfl,rfl,rfl,by decide +kernel,rfl,by decide +kernel,by decide +kernel⟩
def WP:SF:=
 (zM (zF false 2 (zP dN))
  (zM (WW (zbP (fV 1)) (gN 3) (zM (xU (xx 2 (dC (f2 (fV 0) (fV 3) (zm .Mod)) dN) Vd))
  (zF true 0 (f2 (fV 0) (fV 3) (zm .FloorDiv)))))
  (yF (fV 2))))
def zL:Fn:=fnR 4 2 WP
abbrev zbj:List Str:=["_law_x","_law_names","_law_kind","_law_small","_law_at_here"]
theorem Zm:FnScope zbj ["_law_x","_law_names"] (zG Yb):=⟨rfl,rfl,rfl,by decide +kernel,rfl,by decide +kernel,by decide +kernel⟩
def zaQ:SF:=
 (zM (Vr (zV (aC (fV 0) (aC (zP (dC (fC (.int 4)) (dC (fC (.int 30)) (dC (fC (.int 12)) dN)))) aN)) zL) (gT 3 (gsC (gN 2) (gsC (gN 3) (gsC (gN 4) gsN)))))
  (zM (sIf (Yw (fT (f2 (fV 2) (fC (.int 0)) (zH .Eq))) (fT (f2 (fV 1) (zP dN) (zH .Eq)))) (yF (zaf (dC (fC (.str "number")) (dC (f2 (zP (dC (fV 3) (dC (f2 (f2 (fV 0) (fC (.int 1440)) (zm .FloorDiv)) (f2 (fC (.int 10)) (fC (.int 60)) (zm .Pow)) (zm .Mod)) dN))) (fP (aC (f2 (f2 (fV 3) (fC (.int 5)) (zm .Mod)) (fC (.int 1)) (zH .Eq)) aN) Y5) ixP) dN)))) sNx)
  (zM (sIf (fT (f2 (fV 2) (fC (.int 1)) (zH .Eq))) (yF (zaf (dC (fC (.str "number")) (dC (f2 (fV 3) (fC (.int 3)) (zm .Mod)) dN)))) sNx)
  (yF (zaf (dC (fC (.str "name")) (dC (f2 (fV 1) (f2 (fV 4) (fP (aC (fV 1) aN) yz) (zm .Mod)) ixP) dN)))))))
def wV:Fn:=fnR 5 2 zaQ
abbrev zbg:List Str:=["_law_script","_law_start","_law_names","_law_head","_law_shape","_law_many","_law_items","_law_k","_law_op","_law_here","_law_there","_law_one","_law_other","_law_parts","_law_word"]
theorem yo:FnScope zbg ["_law_script","_law_start","_law_names"] (zG Ye):=⟨rfl,rfl,rfl,by decide +kernel,rfl,by decide +kernel,by decide +kernel⟩
def zbv:SF:=
 (zM (zF true 3 (zV (aC (fV 0) (aC (fV 1) aN)) yq))
  (zM (Vr (zV (aC (fV 3) (aC (zP (dC (fC (.int 3)) (dC (fC (.int 13)) dN))) aN)) zL) (gT 2 (gsC (gN 4) (gsC (gN 5) gsN))))
  (zM (zF true 5 (f2 (zP (dC (f2 (fC (.int 1)) (fV 5) (zm .Add)) (dC (f2 (fC (.int 1)) (fV 5) (zm .Add)) (dC (fC (.int 13)) dN)))) (fV 4) ixP))
  (zM (zF false 6 (zP dN))
  (zM (WW (VL (aC (fV 5) aN) zdv) (gN 7) (xU (xx 6 (dC (zV (aC (zV (aC (fV 0) (aC (f2 (f2 (fV 1) (fC (.int 1)) (zm .Add)) (fV 7) (zm .Add)) aN)) yq) (aC (fV 2) aN)) wV) dN) Vd)))
  (zM (WW (VL (aC (fV 5) aN) zdv) (gN 7) (zM (sIf (fT (f2 (fP (aC (fV 6) aN) yz) (fC (.int 1)) (zH .Eq))) (yF (f2 (fV 6) (fC (.int 0)) ixP)) sNx)
  (zM (Vr (zV (aC (zV (aC (fV 0) (aC (f2 (f2 (fV 1) (fC (.int 14)) (zm .Add)) (fV 7) (zm .Add)) aN)) yq) (aC (zP (dC (fC (.int 12)) (dC (fC (.int 360360)) (dC (fC (.int 360360)) dN)))) aN)) zL) (gT 3 (gsC (gN 8) (gsC (gN 9) (gsC (gN 10) gsN)))))
  (zM (zF true 9 (f2 (f2 (fV 9) (fP (aC (fV 6) aN) yz) (zm .Mod)) (fP (aC (f2 (fV 4) (fC (.int 2)) (zH .Lt)) aN) Y5) (zm .Mult)))
  (zM (zF true 11 (xx 6 (dC (fV 9) dN) xR))
  (zM (zF true 12 (xx 6 (dC (f2 (fV 10) (fP (aC (fV 6) aN) yz) (zm .Mod)) dN) xR))
  (zM (zF true 13 (zP (dC (fV 11) (dC (fV 12) dN))))
  (sIf (vL (fT (f2 (fV 8) (fC (.int 9)) (zH .Gt))) (fT (f2 (fP (aC (fV 6) aN) yz) (fC (.int 1)) (zH .Gt)))) (zM (zF true 13 (f2 (fV 13) (zP (dC (xx 6 (dC (fC (.int 0)) dN) xR) (dC (xx 6 (dC (f2 (f2 (fV 10) (fC (.int 13)) (zm .FloorDiv)) (fP (aC (fV 6) aN) yz) (zm .Mod)) dN) xR) dN))) (zm .Add)))
  (xU (xx 6 (dC (fC (.int 0)) (dC (fP (aC (f2 (zP (dC (fC (.str "same")) dN)) (fV 13) (zm .Add)) aN) tupP) dN)) Xl))) (zM (zF true 14 (f2 (zP (dC (fC (.str "add")) (dC (fC (.str "take")) (dC (fC (.str "times")) (dC (fC (.str "most")) (dC (fC (.str "least")) dN)))))) (f2 (fV 8) (fC (.int 5)) (zm .Mod)) ixP))
  (xU (xx 6 (dC (fC (.int 0)) (dC (fP (aC (f2 (zP (dC (fV 14) dN)) (zP (dC (f2 (fV 13) (f2 (f2 (fV 8) (fC (.int 5)) (zm .FloorDiv)) (fC (.int 2)) (zm .Mod)) ixP) (dC (f2 (fV 13) (f2 (fC (.int 1)) (f2 (f2 (fV 8) (fC (.int 5)) (zm .FloorDiv)) (fC (.int 2)) (zm .Mod)) (zm .Sub)) ixP) dN))) (zm .Add)) aN) tupP) dN)) Xl)))))))))))
  (yF (f2 (fV 6) (fC (.int 0)) ixP))))))))
def wY:Fn:=fnR 15 3 zbv
abbrev V3:List Str:=["_law_term_here","_law_text","_law_part"]
theorem vP:FnScope V3 ["_law_term_here"] (zG Zg):=⟨rfl,rfl,rfl,by decide +kernel,rfl,by decide +kernel,by decide +kernel⟩
def VR(self:Fn):SF:=
 (zM (sIf (fT (f2 (fP (aC (fV 0) aN) yz) (fC (.int 2)) (zH .Eq))) (yF (fP (aC (f2 (fV 0) (fC (.int 1)) ixP) aN) ziA)) sNx)
  (zM (zF true 1 (f2 (fV 0) (fC (.int 0)) ixP))
  (zM (WW (zbP (fSl (fV 0) (oS (fC (.int 1))) oN slP)) (gN 2) (zF true 1 (f2 (f2 (fV 1) (fC (.str " ")) (zm .Add)) (zV (aC (fV 2) aN) self) (zm .Add))))
  (yF (fV 1)))))
def xF:Nat->Fn
 |0=>λ_=>none
 |n+1=>fnR 3 1 (VR (xF n))
abbrev ZP:List Str:=["_law_word","_law_names"]
theorem zaO:FnScope ZP ["_law_word","_law_names"] (zG wA):=⟨rfl,rfl,rfl,by decide +kernel,rfl,by decide +kernel,by decide +kernel⟩
theorem VD:(["_law_sign"]:List Str).Nodup:=by decide +kernel
def XJ:SF:=
 (zM (sIf (fT (f2 (fV 0) (fV 1) (zH .In))) (yF (fC (.bl true))) sNx)
  (zM (sIf (Yw (fT (f2 (fV 0) (fC (.str "")) (zH .Eq))) (Yw (fT (f2 (fP (aC (fV 0) aN) yz) (fC (.int 60)) (zH .Gt))) (vL (fT (f2 (f2 (fV 0) (fC (.int 0)) ixP) (fC (.str "0")) (zH .Eq))) (fT (f2 (fV 0) (fC (.str "0")) (zH .NotEq)))))) (yF (fC (.bl false))) sNx)
  (yF (f2 (zcr (ziz (fV 0)) [none] (gN 0) (fT (f2 (fV 0) (fC (.str "0123456789")) (zH .NotIn))) (fV 0)) (zP dN) (zH .Eq)))))
def xJ:Fn:=fnR 2 2 XJ
abbrev zdS:List Str:=["_law_words","_law_names","_law_wanted","_law_at_here","_law_within","_law_many"]
theorem vU:FnScope zdS ["_law_words","_law_names"] (zG W3):=⟨rfl,rfl,rfl,by decide +kernel,rfl,by decide +kernel,by decide +kernel⟩
def zdG:SF:=
 (zM (zF false 2 (zP (dC (fC (.int 0)) dN)))
  (zM (WW (VL (aC (fP (aC (fV 0) aN) yz) aN) zdv) (gN 3) (zM (sIf (fT (f2 (fV 2) (zP dN) (zH .Eq))) (yF (fV 3)) sNx)
  (zM (zF true 4 (xx 2 dN zdo))
  (zM (zF true 5 (xu .dct (zck [((fC (.str "add")),(fC (.int 2))),((fC (.str "take")),(fC (.int 2))),((fC (.str "times")),(fC (.int 2))),((fC (.str "most")),(fC (.int 2))),((fC (.str "least")),(fC (.int 2))),((fC (.str "same")),(fC (.int 4)))]) (aC (f2 (fV 0) (fV 3) ixP) (aC (fC (.int 0)) aN)) getP'))
  (zM (sIf (vL (fT (f2 (fV 5) (fC (.int 0)) (zH .Eq))) (Y8 (fT (zV (aC (f2 (fV 0) (fV 3) ixP) (aC (fV 1) aN)) xJ)))) (yF (fV 3)) sNx)
  (zM (sIf (vL (fT (f2 (fV 5) (fC (.int 0)) (zH .Gt))) (Yw (fT (f2 (fV 4) (fC (.int 11)) (zH .Gt))) (fT (f2 (f2 (f2 (f2 (fV 3) (fC (.int 1)) (zm .Add)) (fP (aC (fV 2) aN) yz) (zm .Add)) (fV 5) (zm .Add)) (fC (.int 40)) (zH .Gt))))) (yF (fV 3)) sNx)
  (zF false 2 (f2 (fV 2) (f2 (zP (dC (f2 (fV 4) (fC (.int 1)) (zm .Add)) dN)) (fV 5) (zm .Mult)) (zm .Add)))))))))
  (zM (sIf (fT (f2 (fV 2) (zP dN) (zH .NotEq))) (yF (fP (aC (fV 0) aN) yz)) sNx)
  (yF (f1 (fC (.int 1)) zac)))))
def ZS:Fn:=fnR 6 2 zdG
abbrev zbp:List Str:=["_law_words","_law_names","_law_row","_law_word","_law_many","_law_parts"]
theorem wG:FnScope zbp ["_law_words","_law_names"] (zG Yg):=⟨rfl,rfl,rfl,by decide +kernel,rfl,by decide +kernel,by decide +kernel⟩
def zbu:SF:=
 (zM (zF false 2 (zP dN))
  (zM (WW (zbP (fSl (fV 0) oN (oS (f1 (fC (.int 1)) zac)) rvP)) (gN 3) (zM (zF true 4 (xu .dct (zck [((fC (.str "add")),(fC (.int 2))),((fC (.str "take")),(fC (.int 2))),((fC (.str "times")),(fC (.int 2))),((fC (.str "most")),(fC (.int 2))),((fC (.str "least")),(fC (.int 2))),((fC (.str "same")),(fC (.int 4)))]) (aC (fV 3) (aC (fC (.int 0)) aN)) getP'))
  (sIf (fT (f2 (fV 4) (fC (.int 0)) (zH .Gt))) (zM (zF true 5 (fSl (fSl (fV 2) (oS (f2 (fP (aC (fV 2) aN) yz) (fV 4) (zm .Sub))) oN slP) oN (oS (f1 (fC (.int 1)) zac)) rvP))
  (zF false 2 (f2 (fSl (fV 2) oN (oS (f2 (fP (aC (fV 2) aN) yz) (fV 4) (zm .Sub))) slP) (zP (dC (fP (aC (f2 (zP (dC (fV 3) dN)) (fV 5) (zm .Add)) aN) tupP) dN)) (zm .Add)))) (sIf (fT (f2 (fV 3) (fV 1) (zH .In))) (xU (xx 2 (dC (zaf (dC (fC (.str "name")) (dC (fV 3) dN))) dN) Vd)) (xU (xx 2 (dC (zaf (dC (fC (.str "number")) (dC (fP (aC (fV 3) aN) Y5) dN))) dN) Vd))))))
  (yF (f2 (fV 2) (fC (.int 0)) ixP))))
def w6:Fn:=fnR 6 2 zbu
abbrev zaG:List Str:=["_law_x","_law_kind","_law_ends","_law_word","_law_cut","_law_words"]
theorem yX:FnScope zaG ["_law_x"] (zG Z9):=⟨rfl,rfl,rfl,by decide +kernel,rfl,by decide +kernel,by decide +kernel⟩
def zaA:SF:=
 (zM (Vr (zV (aC (fV 0) (aC (zP (dC (fC (.int 4)) (dC (fC (.int 2)) (dC (fC (.int 5)) (dC (fC (.int 60)) dN))))) aN)) zL) (gT 4 (gsC (gN 1) (gsC (gN 2) (gsC (gN 3) (gsC (gN 4) gsN))))))
  (zM (zF true 3 (f2 (zP (dC (fC (.str "add")) (dC (fC (.str "take")) (dC (fC (.str "times")) (dC (fC (.str "most")) (dC (fC (.str "least")) dN)))))) (fV 3) ixP))
  (zM (sIf (fT (f2 (fV 1) (fC (.int 0)) (zH .Eq))) (zF true 5 (f2 (f2 (zP (dC (fV 3) dN)) (f2 (zP (dC (fC (.int 12)) (dC (fC (.int 13)) (dC (f2 (fC (.int 14)) (fV 4) (zm .Mult)) dN)))) (f2 (fV 4) (fC (.int 3)) (zm .Mod)) ixP) (zm .Mult)) (f2 (zP (dC (fC (.str "1")) dN)) (f2 (fC (.int 13)) (fV 2) (zm .Add)) (zm .Mult)) (zm .Add))) (sIf (fT (f2 (fV 1) (fC (.int 1)) (zH .Eq))) (zF true 5 (f2 (f2 (zP (dC (fV 3) (dC (fC (.str "1")) dN))) (f2 (fC (.int 12)) (f2 (fV 4) (fC (.int 2)) (zm .Mod)) (zm .Add)) (zm .Mult)) (f2 (zP (dC (fC (.str "0")) dN)) (fV 2) (zm .Mult)) (zm .Add))) (sIf (fT (f2 (fV 1) (fC (.int 2)) (zH .Eq))) (zF true 5 (f2 (f2 (zP (dC (fC (.str "same")) dN)) (f2 (fC (.int 10)) (f2 (fV 4) (fC (.int 4)) (zm .Mod)) (zm .Add)) (zm .Mult)) (f2 (zP (dC (fC (.str "7")) dN)) (f2 (fC (.int 31)) (f2 (fC (.int 9)) (fV 2) (zm .Mult)) (zm .Add)) (zm .Mult)) (zm .Add))) (zF true 5 (f2 (f2 (zP (dC (fV 3) (dC (fV 3) dN))) (f2 (zP (dC (fC (.str "2")) (dC (fC (.str "3")) dN))) (fC (.int 2)) (zm .Mult)) (zm .Add)) (f2 (fC (.int 7)) (f2 (fV 4) (fC (.int 3)) (zm .Mod)) (zm .Add)) (zm .Mult))))))
  (yF (xu .str (fC (.str " ")) (aC (fV 5) aN) zcd)))))
def wX:Fn:=fnR 6 1 zaA
abbrev Xu:List Str:=["_law_text","_law_x","_law_kind","_law_at_here","_law_which","_law_words","_law_spot","_law_some","_law_word","_law_place"]
theorem yw:FnScope Xu ["_law_text","_law_x"] (zG vq):=⟨rfl,rfl,rfl,by decide +kernel,rfl,by decide +kernel,by decide +kernel⟩
def Xn:SF:=
 (zM (Vr (zV (aC (fV 1) (aC (zP (dC (fC (.int 10)) (dC (fC (.int 360360)) (dC (f2 (fC (.int 10)) (fC (.int 9)) (zm .Pow)) dN)))) aN)) zL) (gT 3 (gsC (gN 2) (gsC (gN 3) (gsC (gN 4) gsN)))))
  (zM (zF false 5 (xu .str (fV 0) (aC (fC (.str " ")) aN) Yt))
  (zM (zF true 6 (f2 (fV 3) (fP (aC (fV 5) aN) yz) (zm .Mod)))
  (zM (zF true 7 (f2 (fV 5) (zP (dC (fC (.str "add")) (dC (fC (.str "take")) (dC (fC (.str "times")) (dC (fC (.str "most")) (dC (fC (.str "least")) (dC (fC (.str "same")) (dC (fC (.str "0")) (dC (fC (.str "00")) (dC (fC (.str "07")) (dC (fC (.str "a")) (dC (fC (.str "b")) (dC (fC (.str "c")) (dC (fC (.str "d")) (dC (fC (.str "A")) (dC (fC (.str "number")) dN)))))))))))))))) (zm .Add)))
  (zM (zF true 7 (f2 (fV 7) (zP (dC (fC (.str "name")) (dC (fC (.str "-1")) (dC (fC (.str "+1")) (dC (fC (.str "1a")) (dC (fC (.str "999999999999999999999999999999999999999999999999999999999999")) (dC (fC (.str "8888888888888888888888888888888888888888888888888888888888888")) (dC (fC (.str "1_0")) (dC (fC (.str "rows")) (dC (fC (.str "Add")) (dC (fC (.str "sames")) (dC (fC (.str "ab")) (dC (fC (.str "max")) (dC (fC (.str "")) (dC (fC (.str "10")) dN))))))))))))))) (zm .Add)))
  (zM (zF true 8 (f2 (fV 7) (f2 (fV 4) (fP (aC (fV 7) aN) yz) (zm .Mod)) ixP))
  (zM (sIf (fT (f2 (fV 2) (fC (.int 4)) (zH .Lt))) (zdN 5 (xV 6) (fV 8)) (sIf (fT (f2 (fV 2) (fC (.int 4)) (zH .Eq))) (xU (xx 5 (dC (fV 6) dN) xR)) (sIf (fT (f2 (fV 2) (fC (.int 5)) (zH .Eq))) (xU (xx 5 (dC (fV 6) (dC (fV 8) dN)) Xl)) (sIf (fT (f2 (fV 2) (fC (.int 6)) (zH .Eq))) (zF false 5 (fSl (fV 5) oN (oS (fV 6)) slP)) (sIf (fT (f2 (fV 2) (fC (.int 7)) (zH .Eq))) (yF (f2 (zP (dC (f2 (fC (.str " ")) (fV 0) (zm .Add)) (dC (f2 (fV 0) (fC (.str " ")) (zm .Add)) (dC (zha 0 " " "  ") (dC (f2 (fV 0) (fC (.str "
")) (zm .Add)) (dC (fC (.str "")) (dC (fC (.str " ")) (dC (f2 (f2 (fV 0) (fC (.str " ")) (zm .Add)) (fV 0) (zm .Add)) dN)))))))) (f2 (fV 4) (fC (.int 7)) (zm .Mod)) ixP)) (sIf (fT (f2 (fV 2) (fC (.int 8)) (zH .Eq))) (yF (zV (aC (fV 4) aN) wX)) (zM (zF true 9 (f2 (fV 3) (f2 (fP (aC (fV 0) aN) yz) (fC (.int 1)) (zm .Add)) (zm .Mod)))
 (yF (f2 (f2 (fSl (fV 0) oN (oS (fV 9)) slS) (f2 (zP (dC (fC (.str "")) (dC (fC (.str " ")) (dC (fC (.str "0")) (dC (fC (.str "a")) (dC (fC (.str ".")) dN)))))) (f2 (fV 4) (fC (.int 5)) (zm .Mod)) ixP) (zm .Add)) (fSl (fV 0) (oS (f2 (fV 9) (f2 (f2 (fV 4) (fC (.int 5)) (zm .FloorDiv)) (fC (.int 2)) (zm .Mod)) (zm .Add))) oN slS) (zm .Add))))))))))
 (yF (xu .str (fC (.str " ")) (aC (fV 5) aN) zcd)))))))))
def xG:Fn:=fnR 10 2 Xn
abbrev XH:List Str:=["_law_text","_law_names","_law_found","error"]
theorem xM:FnScope XH ["_law_text","_law_names"] (zG vg):=⟨rfl,rfl,rfl,by decide +kernel,rfl,by decide +kernel,by decide +kernel⟩
def XM:SF:=
 (zM (zF true 2 (zP dN))
  (zM (zjA 3 2 (aC (fV 0) (aC (fV 1) aN)) vB λk=>
  (zM (zF true 2 (zP (dC (fEB 3 true) (dC (fEB 3 true) dN))))
  (zM (zF true 2 (f2 (fV 2) (zP (dC (zgT (fEB 3 false)) dN)) (zm .Add)))
  (sIf (fT (f2 (fV 2) (f2 (zP (dC (fC (.bl true)) dN)) (fC (.int 3)) (zm .Mult)) (zH .Eq))) (zF true 2 (fEK 3 k)) sNx))))
  (yF (fV 2))))
def wD:Fn:=fnR 4 2 XM
abbrev V0:List Str:=["_law_text","_law_names","_law_words","_law_at_here","_law_found"]
theorem vM:FnScope V0 ["_law_text","_law_names"] (zG Zd):=⟨rfl,rfl,rfl,by decide +kernel,rfl,by decide +kernel,by decide +kernel⟩
def V2:SF:=
 (zM (zF true 2 (xu .str (fV 0) (aC (fC (.str " ")) aN) Yt))
  (zM (zF true 3 (zV (aC (fV 2) (aC (fV 1) aN)) ZS))
  (zM (sIf (fT (f2 (fV 3) (f1 (fC (.int 1)) zac) (zH .Gt))) (zM (zF true 4 (zV (aC (fV 0) (aC (fV 1) aN)) wD))
  (yF (zfv (zgT (zhA (fV 4) "bool")) (f2 (fV 4) (fV 3) (zH .Eq))))) sNx)
  (yF (f2 (zV (aC (fV 0) (aC (fV 1) aN)) wH) (zV (aC (fV 2) (aC (fV 1) aN)) w6) (zH .Eq))))))
def yR:Fn:=fnR 5 2 V2
abbrev zlM:List Str:=["_law_script","_law_names","_law_text","_law_k"]
theorem zdC:FnScope zlM ["_law_script"] (zG zfV):=⟨rfl,rfl,rfl,by decide +kernel,rfl,by decide +kernel,by decide +kernel⟩
def zlx:SF:=
 (zM (zF true 1 (fSl (zP (dC (fC (.str "a")) (dC (fC (.str "b")) (dC (fC (.str "c")) dN)))) oN (oS (f2 (zV (aC (fV 0) (aC (fC (.int 0)) aN)) yq) (fC (.int 4)) (zm .Mod))) slP))
  (zM (zF true 2 (zV (aC (zV (aC (fV 0) (aC (fC (.int 1)) (aC (zP (dC (fC (.str "a")) (dC (fC (.str "b")) (dC (fC (.str "c")) dN)))) aN))) wY) aN) (xF 20)))
  (zM (WW (VL (aC (fC (.int 28)) (aC (fP (aC (fC (.int 40)) (aC (fP (aC (fP (aC (fV 0) aN) yz) (aC (fC (.int 58)) aN)) zhb) aN)) zjF) aN)) zja) (gN 3) (sIf (Y8 (fT (zV (aC (zV (aC (fV 2) (aC (zV (aC (fV 0) (aC (fV 3) aN)) yq) aN)) xG) (aC (fV 1) aN)) yR))) (yF (fC (.bl false))) sNx))
  (yF (zfv (zV (aC (fV 2) (aC (fV 1) aN)) yR) (zV (aC (fV 2) (aC (zP (dC (fC (.str "a")) (dC (fC (.str "b")) (dC (fC (.str "c")) dN)))) aN)) yR))))))
def zaR:Fn:=fnR 4 1 zlx
set_option genInjectivity false in
set_option genSizeOf false in
structure Adr where
 zbb:Addr
 zbw:FuncData
 ZK:Addr
 ZD:FuncData
 Yr:Addr
 Yk:FuncData
 zeY:Addr
 zfJ:FuncData
 Zu:Addr
 Zt:FuncData
 Vv:Addr
 Vs:FuncData
 Vo:Addr
 Vu:FuncData
 xY:Addr
 wJ:FuncData
 v8:Addr
 Zi:FuncData
 Wk:Addr
 Wq:FuncData
 Z2:Addr
 Z6:FuncData
 X3:Addr
 XR:FuncData
 Wu:Addr
 X4:FuncData
 YQ:Addr
 YS:FuncData
 ZM:Addr
 Zv:FuncData
 zaS:Addr
 zaH:FuncData
 X8:Addr
 Ws:FuncData
 Wa:Addr
 Wi:FuncData
 Zy:Addr
 Zw:FuncData
 ZJ:Addr
 Zq:FuncData
 Y0:Addr
 Xa:FuncData
 zjg:Addr
 ziO:FuncData
 xT:Addr
 zaB:Addr
 zaK:Addr
 zdd:Addr
 zaD:Addr
 YJ:Addr
 Vt:Addr
 X6:Addr
 wR:Addr
 Wg:Addr
structure Txt(K:zC)(kd:KD)(mg:Str->Option Value)(t:Adr):Prop where
 zef:Fun K "is_let" "is_let" W4 t.zbb t.zbw
 zhP:Binds K t.zbw ["thing","names"] []
 YC:mg "is_let"=some (.ref t.zbb)
 vp:Fun K "parts_after" "parts_after" vf t.ZK t.ZD
 Zx:Binds K t.ZD ["word"] []
 yr:mg "parts_after"=some (.ref t.ZK)
 Z7:Fun K "is_figures" "is_figures" wO t.Yr t.Yk
 W8:Binds K t.Yk ["word","most"] []
 xQ:mg "is_figures"=some (.ref t.Yr)
 zhY:Fun K "fits" "fits" zdn t.zeY t.zfJ
 znq:Binds K t.zfJ ["word","within","names"] []
 Wm:mg "fits"=some (.ref t.zeY)
 Zr:Fun K "first_fault" "first_fault" vA t.Zu t.Zt
 XD:Binds K t.Zt ["words","names"] []
 yZ:mg "first_fault"=some (.ref t.Zu)
 zcn:Fun K "leaf_of" "leaf_of" Xi t.Vv t.Vs
 zgW:Binds K t.Vs ["word"] []
 vR:mg "leaf_of"=some (.ref t.Vv)
 zcu:Fun K "term_of" "term_of" Xc t.Vo t.Vu
 zgY:Binds K t.Vu ["words"] []
 Z1:mg "term_of"=some (.ref t.Vo)
 WR:Fun K "__init__" "NoText.__init__" xZ t.xY t.wJ
 Wy:Binds K t.wJ ["self","at"] []
 Ze:Fun K "read_term" "read_term" Zb t.v8 t.Zi
 V1:Binds K t.Zi ["text","names"] []
 wH:mg "read_term"=some (.ref t.v8)
 wZ:Fun K "_law_draw" "_law_draw" Z4 t.Wk t.Wq
 v7:Binds K t.Wq ["_law_script","_law_k"] []
 yq:mg "_law_draw"=some (.ref t.Wk)
 wu:Fun K "_law_digits" "_law_digits" vO t.Z2 t.Z6
 wU:Binds K t.Z6 ["_law_x","_law_sizes"] []
 zL:mg "_law_digits"=some (.ref t.Z2)
 zaV:Fun K "_law_leaf" "_law_leaf" Yb t.X3 t.XR
 zfF:Binds K t.XR ["_law_x","_law_names"] []
 wV:mg "_law_leaf"=some (.ref t.X3)
 zaC:Fun K "_law_term" "_law_term" Ye t.Wu t.X4
 zeI:Binds K t.X4 ["_law_script","_law_start","_law_names"] []
 wY:mg "_law_term"=some (.ref t.Wu)
 Y9:Fun K "_law_shown" "_law_shown" Zg t.YQ t.YS
 V8:Binds K t.YS ["_law_term_here"] []
 xF:mg "_law_shown"=some (.ref t.YQ)
 XQ:Fun K "_law_is_leaf" "_law_is_leaf" wA t.ZM t.Zv
 zbO:Binds K t.Zv ["_law_word","_law_names"] []
 xJ:mg "_law_is_leaf"=some (.ref t.ZM)
 zen:Fun K "_law_at" "_law_at" W3 t.zaS t.zaH
 ziE:Binds K t.zaH ["_law_words","_law_names"] []
 ZS:mg "_law_at"=some (.ref t.zaS)
 zbA:Fun K "_law_told" "_law_told" Yg t.X8 t.Ws
 zeO:Binds K t.Ws ["_law_words","_law_names"] []
 w6:mg "_law_told"=some (.ref t.X8)
 zaz:Fun K "_law_long" "_law_long" Z9 t.Wa t.Wi
 zfB:Binds K t.Wi ["_law_x"] []
 wX:mg "_law_long"=some (.ref t.Wa)
 Xw:Fun K "_law_changed" "_law_changed" vq t.Zy t.Zw
 zbF:Binds K t.Zw ["_law_text","_law_x"] []
 xG:mg "_law_changed"=some (.ref t.Zy)
 Xv:Fun K "_law_refusal" "_law_refusal" vg t.ZJ t.Zq
 zbG:Binds K t.Zq ["_law_text","_law_names"] []
 wD:mg "_law_refusal"=some (.ref t.ZJ)
 Zk:Fun K "_law_right" "_law_right" Zd t.Y0 t.Xa
 YF:Binds K t.Xa ["_law_text","_law_names"] []
 yR:mg "_law_right"=some (.ref t.Y0)
 zob:Fun K "law" "law" zfV t.zjg t.ziO
 zpK:Binds K t.ziO ["_law_script"] []
 zaR:mg "law"=some (.ref t.zjg)
 zhy:GC K kd mg "FIGURES" (.str "0123456789")
 zhl:GC K kd mg "LETTERS" (.tup [(.str "a"),(.str "b"),(.str "c")])
 YX:GC K kd mg "MOST_FIGURES" (.int 60)
 zcY:GC K kd mg "MOST_TERMS" (.int 40)
 zbM:GC K kd mg "MOST_WITHIN" (.int 12)
 zjD:GC K kd mg "PARTS" (.dct [(.inr "add",(.int 2)),(.inr "take",(.int 2)),(.inr "times",(.int 2)),(.inr "most",(.int 2)),(.inr "least",(.int 2)),(.inr "same",(.int 4))])
 zdy:mg "ValueError"=none
 zoq:mg "all"=none
 zmO:mg "bool"=none
 zek:mg "enumerate"=none
 zgB:mg "int"=none
 wQ:mg "isinstance"=none
 xX:mg "len"=none
 znZ:mg "max"=none
 zoR:mg "min"=none
 Wz:mg "range"=none
 zfn:mg "reversed"=none
 zlA:mg "str"=none
 zan:mg "tuple"=none
 zey:mg "NoText"=some (.ref t.xT)
 zhJ:mg "NoDeed"=some (.ref t.zaB)
 zhI:mg "NoMake"=some (.ref t.zaK)
 zks:mg "NoRow"=some (.ref t.zdd)
 zjv:mg "NoSign"=some (.ref t.zaD)
 zei:mg "NoStretch"=some (.ref t.YJ)
 zgL:mg "NoValue"=some (.ref t.Vt)
 zfd:mg "NotLetBy"=some (.ref t.X6)
 YK:mg "StretchError"=some (.ref t.wR)
 zfI:mg "TooGreat"=some (.ref t.Wg)
 xf:PySem.W.findIn K (.ref t.xT) "__init__"=some (some (.ref t.xY))
 xc:XC K t.xT t.wR t.xY
 xs:XS K t.wR
 xi:XI K t.xT
 xk:PySem.W.keepIn K (.ref t.xT)=true
 xm:PySem.W.exmOne K (.ref t.xT) (.ref t.wR)=some true
 k1_NoText:PySem.W.kitOne K (.ref t.xT) (.ref t.xT)=some true
 k1_ValueError:PySem.W.kitOne K (.ref t.xT) (.type "ValueError")=some true
 ka:PySem.W.kitAny K (.ref t.xT) ([t.zaB,t.zaK,t.zdd,t.zaD,t.YJ,t.X6,t.Vt,t.Wg].map .ref)=some false
set_option maxHeartbeats 8000000
section
variable{P:Program}{w:World}{K:zC}{mg:Str->Option Value}{base:Heap}{kd:KD}{t:Adr}
theorem zio(T:Txt K kd mg t)(hkd:KD1 P w K kd):FnOk P w K mg base CX0 1 t.zbb t.zbw ["thing","names"] (spD K kd YC):=by
 refine wB (N:=zeg) (ps:=["thing","names"]) (k:=0) (c:=zdI) T.zef zhq λcdv A outer s H E hr=>?_
 exact(zy (yf (zda (ziB (hkd _ rfl rfl rfl) rfl rfl T.wQ Bt.isinstance rfl T.zlA Bt.str (av 0) (Bt.n _ rfl) (by decide) (Bt.n _ rfl) (by decide) rfl rfl rfl) (zda (Yc (zT (hkd _ rfl rfl rfl) (ym hr) .In) (av 0) (X5 T.zhl rfl (by decide)) rfl) (zcM (Yc (zT (hkd _ rfl rfl rfl) (ym hr) .In) (av 0) (av 1) rfl))))))
theorem ZF(T:Txt K kd mg t)(hkd:KD1 P w K kd):FnOk P w K mg base CX0 1 t.ZK t.ZD ["word"] (spD K kd yr):=by
 refine wB (N:=Xy) (ps:=["word"]) (k:=0) (c:=XF) T.vp zbr λcdv A outer s H E hr=>?_
 exact(zy (yf (vN (ty:=.dct) (hkd _ rfl rfl rfl) (zeH (hkd _ rfl rfl rfl)) PySem.F.plainAttrs_dict PySem.F.slot_dict_get PySem.F.type_dict_get (X5 T.zjD rfl (by decide)) (zj (av 0) (zj aI zA (za rfl)) (za rfl)) rfl rfl rfl rfl rfl)))
theorem WK(T:Txt K kd mg t)(hkd:KD1 P w K kd):FnOk P w K mg base CX0 1 t.Yr t.Yk ["word","most"] (spD K kd xQ):=by
 refine wB (N:=Z3) (ps:=["word","most"]) (k:=0) (c:=W6) T.Z7 zbI λcdv A outer s H E hr=>?_
 exact(by
  refine zq ?_ ?_;exact(yV (AW.at_ (zcc (yc (zT (hkd _ rfl rfl rfl) (ym hr) .Eq) (zO .Eq) (av 0) aS (zX _)) (Z0 (yc (zT (hkd _ rfl rfl rfl) (ym hr) .Gt) (zO .Gt) (yO (yg (hkd _ rfl rfl rfl)) rfl T.xX Bt.len (zj (av 0) zA (za rfl)) (Bt.n _ rfl) (by decide) rfl rfl) (av 1) (zX _))))) (zy (yf aB)) yN)
  refine zq ?_ ?_;exact(yV (AW.at_ (zbx (yc (zT (hkd _ rfl rfl rfl) (ym hr) .Eq) (zO .Eq) (ax hkd (av 0) aI) aS (zX _)) (vX (yc (zT (hkd _ rfl rfl rfl) (ym hr) .NotEq) (zO .NotEq) (av 0) aS (zX _))))) (zy (yf aB)) yN)
  exact zy (yf (yO (zgM rfl) rfl T.zoq Bt.all (zj (zgw (N:=["sign"]) (cap:=[none]) (S:=[0]) rfl (zil (av 0)) rfl (by change zcm _ Z3 _ (zG wO).names _=true;decide +kernel) (by decide) (λcl s H fp=>(an 0 zag)) (λcl s H fp=>zjz) (λcl s H fp=>(Yc (zT (hkd _ rfl rfl rfl) (ym hr) .In) (av 0) (X5 T.zhy rfl (by decide)) rfl)) (λ_=>rfl)) zA (za rfl)) (Bt.n _ rfl) (by decide) rfl rfl)))
theorem zmh(T:Txt K kd mg t)(hkd:KD1 P w K kd):FnOk P w K mg base CX0 2 t.zeY t.zfJ ["word","within","names"] (spD K kd Wm):=by
 refine wB (N:=zit) (ps:=["word","within","names"]) (k:=1) (c:=zie) T.zhY zkx λcdv A outer s H E hr=>?_
 exact(by
  refine zq ?_ ?_;exact(yV (yc (zT (hkd _ rfl rfl rfl) (ym hr) .Gt) (zO .Gt) (yd (ZF T hkd) (hr.mono (by omega)) rfl T.yr T.vp.kp T.Zx yS (zj (av 0) zA (za rfl)) (by decide) rfl rfl) aI (zX _)) (zy (yf (Yc (zT (hkd _ rfl rfl rfl) (ym hr) .Lt) (av 1) (X5 T.zbM rfl (by decide)) (zX _)))) yN)
  exact zy (yf (zoS (yd (WK T hkd) (hr.mono (by omega)) rfl T.xQ T.Z7.kp T.W8 yS (zj (av 0) (zj (X5 T.YX rfl (by decide)) zA (za rfl)) (za rfl)) (by decide) rfl rfl) (zcM (yd (zio T hkd) (hr.mono (by omega)) rfl T.YC T.zef.kp T.zhP yS (zj (av 0) (zj (av 2) zA (za rfl)) (za rfl)) (by decide) rfl rfl)))))
theorem Xp(T:Txt K kd mg t)(hkd:KD1 P w K kd):FnOk P w K mg base CX0 3 t.Zu t.Zt ["words","names"] (spD K kd yZ):=by
 refine wB (N:=Xo) (ps:=["words","names"]) (k:=2) (c:=Xq) T.Zr wg λcdv A outer s H E hr=>?_
 exact(by
  refine zq ?_ ?_;exact(by refine sv true 2 wg.nd ?_;exact(zW (zg aI zE (za rfl))))
  refine zq ?_ ?_;exact(ZL PassesOwn.never rfl (zkn rfl T.zek (av 0) rfl) (Vk rfl (yU (an 3 wg.nd) (yU (an 4 wg.nd) Xe rfl) rfl) rfl rfl) (by
  refine zq ?_ ?_;exact(yV (AW.at_ (zcc (yc (zT (hkd _ rfl rfl rfl) (ym hr) .Eq) (zO .Eq) (yO (yg (hkd _ rfl rfl rfl)) rfl T.xX Bt.len (zj (av 2) zA (za rfl)) (Bt.n _ rfl) (by decide) rfl rfl) aI (zX _)) (Z0 (zeT (zcJ (yd (zmh T hkd) (hr.mono (by omega)) rfl T.Wm T.zhY.kp T.znq yS (by refine zj ?_ ?_ ?_;exact(av 4);refine zj ?_ ?_ ?_;exact(ax hkd (av 2) aI);refine zj ?_ ?_ ?_;exact(av 1);exact zA;exact za rfl;exact za rfl;exact za rfl) (by decide) rfl rfl) (λ_=>rfl)))))) (zy (yf (av 3))) yN)
  refine zq ?_ ?_;exact(by refine sv true 2 wg.nd ?_;exact(zr (zu .Add) (zr (zu .Mult) (zW (zg (zr (zu .Add) (ax hkd (av 2) aI) aI) zE (za rfl))) (yd (ZF T hkd) (hr.mono (by omega)) rfl T.yr T.vp.kp T.Zx yS (zj (av 4) zA (za rfl)) (by decide) rfl rfl)) (vD (av 2) (wK aI) vm)))
  exact zy (yV (yc (zT (hkd _ rfl rfl rfl) (ym hr) .Gt) (zO .Gt) (zr (zu .Add) (zr (zu .Add) (av 3) aI) (yO (yg (hkd _ rfl rfl rfl)) rfl T.xX Bt.len (zj (av 2) zA (za rfl)) (Bt.n _ rfl) (by decide) rfl rfl)) (X5 T.zcY rfl (by decide)) (zX _)) (zy (yf (av 3))) yN)) (λ_=>rfl))
  exact zy (yf (zlB (yc (zT (hkd _ rfl rfl rfl) (ym hr) .Gt) (zO .Gt) (yO (yg (hkd _ rfl rfl rfl)) rfl T.xX Bt.len (zj (av 2) zA (za rfl)) (Bt.n _ rfl) (by decide) rfl rfl) aI (zX _)) (yO (yg (hkd _ rfl rfl rfl)) rfl T.xX Bt.len (zj (av 0) zA (za rfl)) (Bt.n _ rfl) (by decide) rfl rfl) aZ)))
theorem zhs(T:Txt K kd mg t)(hkd:KD1 P w K kd):FnOk P w K mg base CX0 2 t.Vv t.Vs ["word"] (spD K kd vR):=by
 refine wB (N:=zcz) (ps:=["word"]) (k:=1) (c:=zcE) T.zcn zeW λcdv A outer s H E hr=>?_
 exact(by
  refine zq ?_ ?_;exact(yV (zcJ (yd (WK T hkd) (hr.mono (by omega)) rfl T.xQ T.Z7.kp T.W8 yS (zj (av 0) (zj (X5 T.YX rfl (by decide)) zA (za rfl)) (za rfl)) (by decide) rfl rfl) (λ_=>rfl)) (zy (yf (We (zg aS (zg (Yo Yi rfl T.zgB Bt.int (zj (av 0) zA (za rfl)) (Bt.n _ rfl) (by decide) rfl rfl) zE (za rfl)) (za rfl))))) yN)
  exact zy (yf (We (zg aS (zg (av 0) zE (za rfl)) (za rfl)))))
theorem zhw(T:Txt K kd mg t)(hkd:KD1 P w K kd):FnOk P w K mg base CX0 3 t.Vo t.Vu ["words"] (spD K kd Z1):=by
 refine wB (N:=zcj) (ps:=["words"]) (k:=2) (c:=zcD) T.zcu w5 λcdv A outer s H E hr=>?_
 exact(by
  refine zq ?_ ?_;exact(by refine sv true 1 w5.nd ?_;exact(zW zE))
  refine zq ?_ ?_;exact(ZL PassesOwn.never rfl (zmu rfl T.zfn (av 0) rfl) (an 2 w5.nd) (by
  refine zq ?_ ?_;exact(by refine sv true 3 w5.nd ?_;exact(yd (ZF T hkd) (hr.mono (by omega)) rfl T.yr T.vp.kp T.Zx yS (zj (av 2) zA (za rfl)) (by decide) rfl rfl))
  refine zq ?_ ?_;exact(by refine sv true 4 w5.nd ?_;exact(zlB (yc (zT (hkd _ rfl rfl rfl) (ym hr) .Eq) (zO .Eq) (av 3) aI (zX _)) (yd (zhs T hkd) (hr.mono (by omega)) rfl T.vR T.zcn.kp T.zgW yS (zj (av 2) zA (za rfl)) (by decide) rfl rfl) (Yo Xf rfl T.zan Bt.tuple (zj (zr (zu .Add) (zW (zg (av 2) zE (za rfl))) (vD (av 1) vm (wK (av 3)))) zA (za rfl)) (Bt.n _ rfl) (by decide) rfl rfl)))
  exact zy (by refine sv true 1 w5.nd ?_;exact(zr (zu .Add) (zW (zg (av 4) zE (za rfl))) (vD (av 1) (wK (av 3)) vm)))) (λ_=>rfl))
  exact zy (yf (ax hkd (av 1) aI)))
theorem Va(T:Txt K kd mg t):FnOk P w K mg base CX0 1 t.xY t.wJ ["self","at"] (spN t.xT):=
 Fun.ok (N:=Zj) (ps:=["self","at"]) (k:=0) T.WR Wb zkb λcdv A outer s H vs Q E hr h=>by
  obtain⟨e,k,rfl,he,hk,q⟩:=h
  exact⟨_,Y6 (zge (zjd T.xc T.xs rfl T.YK (yQ (pv 0) (yQ (zli (pv 1) (by decide)) Zo)) rfl rfl (by decide) rfl) rfl) (zcO (znt T.xc (pv 0) (pv 1) rfl)),.ref e,rfl,.int k,rfl,k,rfl,hk,λy=>⟨e,y,rfl,he,.int k,rfl,.ref e,rfl,e,rfl,he,λdx h1 h2=>q dx h1 h2⟩⟩
theorem zeA(T:Txt K kd mg t)(hkd:KD1 P w K kd):FnOk P w K mg base CX0 4 t.v8 t.Zi ["text","names"] (spD K kd wH):=by
 refine wB (N:=YH) (ps:=["text","names"]) (k:=3) (c:=VP) T.Ze wk λcdv A outer s H E hr=>?_
 exact(by
  refine zq ?_ ?_;exact(by refine sv true 2 wk.nd ?_;exact(vN (ty:=.str) (hkd _ rfl rfl rfl) Ve PySem.F.plainAttrs_str PySem.F.slot_str_split PySem.F.type_str_split (av 0) (zj aS zA (za rfl)) rfl rfl rfl rfl rfl))
  refine zq ?_ ?_;exact(by refine sv true 3 wk.nd ?_;exact(yd (Xp T hkd) (hr.mono (by omega)) rfl T.yZ T.Zr.kp T.XD yS (zj (av 2) (zj (av 1) zA (za rfl)) (za rfl)) (by decide) rfl rfl))
  refine zq ?_ ?_;exact(yV (yc (zT (hkd _ rfl rfl rfl) (ym hr) .IsNot) (zO .IsNot) (av 3) aZ (zX _)) (zy zoC) yN)
  exact zy (yf (yd (zhw T hkd) (hr.mono (by omega)) rfl T.Z1 T.zcu.kp T.zgY yS (zj (av 2) zA (za rfl)) (by decide) rfl rfl)))
theorem zel(T:Txt K kd mg t)(hkd:KD1 P w K kd):FnOk P w K mg base (CX1 P w t.xT) 4 t.v8 t.Zi ["text","names"] (spX K kd vB):=by
 refine zoc (N:=YH) (ps:=["text","names"]) (k:=3) (i:=3) T.Ze wk rfl λcdv A outer s H E hr=>⟨?_, ?_, ?_, ?_⟩
 · exact(by refine sv true 2 wk.nd ?_;exact(vN (ty:=.str) (hkd _ rfl rfl rfl) Ve PySem.F.plainAttrs_str PySem.F.slot_str_split PySem.F.type_str_split (av 0) (zj aS zA (za rfl)) rfl rfl rfl rfl rfl))
 · exact(by refine sv true 3 wk.nd ?_;exact(yd (Xp T hkd) (hr.mono (by omega)) rfl T.yZ T.Zr.kp T.XD yS (zj (av 2) (zj (av 1) zA (za rfl)) (za rfl)) (by decide) rfl rfl))
 · exact(yc (zT (hkd _ rfl rfl rfl) (ym hr) .IsNot) (zO .IsNot) (av 3) aZ (zX _))
 · exact zir T.xc T.xk (Va T) (hr.mono (by omega)) T.Wy rfl T.zey (pv 3) (by decide) rfl rfl
theorem v5(T:Txt K kd mg t)(hkd:KD1 P w K kd):FnOk P w K mg base CX0 1 t.Wk t.Wq ["_law_script","_law_k"] (spD K kd yq):=by
 refine wB (N:=zbi) (ps:=["_law_script","_law_k"]) (k:=0) (c:=zbt) T.wZ xO λcdv A outer s H E hr=>?_
 exact(by
  refine zq ?_ ?_;exact(by refine sv true 2 xO.nd ?_;exact(zr (zu .Mult) aI (zr (zu .Pow) aI aI)))
  refine zq ?_ ?_;exact(yV (yc (zT (hkd _ rfl rfl rfl) (ym hr) .Lt) (zO .Lt) (av 1) (yO (yg (hkd _ rfl rfl rfl)) rfl T.xX Bt.len (zj (av 0) zA (za rfl)) (Bt.n _ rfl) (by decide) rfl rfl) (zX _)) (zy (yf (zr (zu .Mod) (zr (zu .Mult) (zr (zu .Mod) (ax hkd (av 0) (av 1)) (av 2)) (zr (zu .Pow) aI aI)) (av 2)))) yN)
  refine zq ?_ ?_;exact(by refine sv true 3 xO.nd ?_;exact(zr (zu .Add) (zr (zu .Add) (zr (zu .Mult) (av 1) (av 1)) (zr (zu .Mult) aI (av 1))) aI))
  refine zq ?_ ?_;exact(yV (yc (zT (hkd _ rfl rfl rfl) (ym hr) .NotEq) (zO .NotEq) (av 0) (zW zE) (zX _)) (zy (by refine sv true 3 xO.nd ?_;exact(zr (zu .Add) (av 3) (zr (zu .Mult) (zr (zu .Mod) (ax hkd (av 0) (zr (zu .Mod) (av 1) (yO (yg (hkd _ rfl rfl rfl)) rfl T.xX Bt.len (zj (av 0) zA (za rfl)) (Bt.n _ rfl) (by decide) rfl rfl))) aI) (zr (zu .Add) (zr (zu .Mult) aI (av 1)) aI))))) yN)
  refine zq ?_ ?_;exact(by refine sv true 4 xO.nd ?_;exact aI)
  refine zq ?_ ?_;exact(ZL PassesOwn.never rfl (Xg rfl T.Wz (zj aI zA (za rfl)) rfl) (an 5 xO.nd) (by
  refine zq ?_ ?_;exact(by refine sv true 3 xO.nd ?_;exact(zr (zu .Mod) (zr (zu .Add) (zr (zu .Add) (zr (zu .Add) (zr (zu .Mult) (av 3) (av 3)) (zr (zu .Mult) aI (av 3))) (zr (zu .Mult) aI (av 5))) (av 1)) aI))
  exact zy (by refine sv true 4 xO.nd ?_;exact(zr (zu .Add) (zr (zu .Mult) (av 4) aI) (zr (zu .Mod) (zr (zu .Mult) (av 3) aI) aI)))) (λ_=>rfl))
  exact zy (yf (zr (zu .Mod) (av 4) (av 2))))
theorem wM(T:Txt K kd mg t)(hkd:KD1 P w K kd):FnOk P w K mg base CX0 1 t.Z2 t.Z6 ["_law_x","_law_sizes"] (spD K kd zL):=by
 refine wB (N:=WF) (ps:=["_law_x","_law_sizes"]) (k:=0) (c:=WP) T.wu vz λcdv A outer s H E hr=>?_
 exact(by
  refine zq ?_ ?_;exact(by refine sv false 2 vz.nd ?_;exact(zW zE))
  refine zq ?_ ?_;exact(ZL PassesOwn.never rfl (zfb (av 1)) (an 3 vz.nd) (by
  refine zq ?_ ?_;exact(Zf (vG Xj zcI PySem.F.slot_list_append PySem.F.type_list_append (pv 2) (zg (zr (zu .Mod) (av 0) (av 3)) zE (za rfl)) rfl rfl rfl rfl rfl) rfl)
  exact zy (by refine sv true 0 vz.nd ?_;exact(zr (zu .FloorDiv) (av 0) (av 3)))) (λ_=>rfl))
  exact zy (yf (av 2)))
theorem zfe(T:Txt K kd mg t)(hkd:KD1 P w K kd):FnOk P w K mg base CX0 2 t.X3 t.XR ["_law_x","_law_names"] (spD K kd wV):=by
 refine wB (N:=zbj) (ps:=["_law_x","_law_names"]) (k:=1) (c:=zaQ) T.zaV Zm λcdv A outer s H E hr=>?_
 exact(by
  refine zq ?_ ?_;exact(zaY (yd (wM T hkd) (hr.mono (by omega)) rfl T.zL T.wu.kp T.wU yS (by refine zj ?_ ?_ ?_;exact(av 0);refine zj ?_ ?_ ?_;exact(zW (by refine zg ?_ ?_ ?_;exact aI;refine zg ?_ ?_ ?_;exact aI;refine zg ?_ ?_ ?_;exact aI;exact zE;exact za rfl;exact za rfl;exact za rfl));exact zA;exact za rfl;exact za rfl) (by decide) rfl rfl) (Vk rfl (yU (an 2 Zm.nd) (yU (an 3 Zm.nd) (yU (an 4 Zm.nd) Xe rfl) rfl) rfl) rfl rfl) rfl rfl rfl)
  refine zq ?_ ?_;exact(yV (AW.at_ (zcc (yc (zT (hkd _ rfl rfl rfl) (ym hr) .Eq) (zO .Eq) (av 2) aI (zX _)) (Z0 (yc (zT (hkd _ rfl rfl rfl) (ym hr) .Eq) (zO .Eq) (av 1) (zW zE) (zX _))))) (zy (yf (We (zg aS (zg (ax hkd (zW (zg (av 3) (zg (zr (zu .Mod) (zr (zu .FloorDiv) (av 0) aI) (zr (zu .Pow) aI aI)) zE (za rfl)) (za rfl))) (Yo Yi rfl T.zgB Bt.int (zj (Yc (zT (hkd _ rfl rfl rfl) (ym hr) .Eq) (zr (zu .Mod) (av 3) aI) aI (zX _)) zA (za rfl)) (Bt.n _ rfl) (by decide) rfl rfl)) zE (za rfl)) (za rfl))))) yN)
  refine zq ?_ ?_;exact(yV (yc (zT (hkd _ rfl rfl rfl) (ym hr) .Eq) (zO .Eq) (av 2) aI (zX _)) (zy (yf (We (zg aS (zg (zr (zu .Mod) (av 3) aI) zE (za rfl)) (za rfl))))) yN)
  exact zy (yf (We (zg aS (zg (ax hkd (av 1) (zr (zu .Mod) (av 4) (yO (yg (hkd _ rfl rfl rfl)) rfl T.xX Bt.len (zj (av 1) zA (za rfl)) (Bt.n _ rfl) (by decide) rfl rfl))) zE (za rfl)) (za rfl)))))
theorem zfD(T:Txt K kd mg t)(hkd:KD1 P w K kd):FnOk P w K mg base CX0 3 t.Wu t.X4 ["_law_script","_law_start","_law_names"] (spD K kd wY):=by
 refine wB (N:=zbg) (ps:=["_law_script","_law_start","_law_names"]) (k:=2) (c:=zbv) T.zaC yo λcdv A outer s H E hr=>?_
 exact(by
  refine zq ?_ ?_;exact(by refine sv true 3 yo.nd ?_;exact(yd (v5 T hkd) (hr.mono (by omega)) rfl T.yq T.wZ.kp T.v7 yS (zj (av 0) (zj (av 1) zA (za rfl)) (za rfl)) (by decide) rfl rfl))
  refine zq ?_ ?_;exact(zaY (yd (wM T hkd) (hr.mono (by omega)) rfl T.zL T.wu.kp T.wU yS (by refine zj ?_ ?_ ?_;exact(av 3);refine zj ?_ ?_ ?_;exact(zW (zg aI (zg aI zE (za rfl)) (za rfl)));exact zA;exact za rfl;exact za rfl) (by decide) rfl rfl) (Vk rfl (yU (an 4 yo.nd) (yU (an 5 yo.nd) Xe rfl) rfl) rfl rfl) rfl rfl rfl)
  refine zq ?_ ?_;exact(by refine sv true 5 yo.nd ?_;exact(ax hkd (zW (by refine zg ?_ ?_ ?_;exact(zr (zu .Add) aI (av 5));refine zg ?_ ?_ ?_;exact(zr (zu .Add) aI (av 5));refine zg ?_ ?_ ?_;exact aI;exact zE;exact za rfl;exact za rfl;exact za rfl)) (av 4)))
  refine zq ?_ ?_;exact(by refine sv false 6 yo.nd ?_;exact(zW zE))
  refine zq ?_ ?_;exact(ZL PassesOwn.never rfl (Xg rfl T.Wz (zj (av 5) zA (za rfl)) rfl) (an 7 yo.nd) (zy (Zf (vG Xj zcI PySem.F.slot_list_append PySem.F.type_list_append (pv 6) (zg (yd (zfe T hkd) (hr.mono (by omega)) rfl T.wV T.zaV.kp T.zfF yS (zj (yd (v5 T hkd) (hr.mono (by omega)) rfl T.yq T.wZ.kp T.v7 yS (zj (av 0) (zj (zr (zu .Add) (zr (zu .Add) (av 1) aI) (av 7)) zA (za rfl)) (za rfl)) (by decide) rfl rfl) (zj (av 2) zA (za rfl)) (za rfl)) (by decide) rfl rfl) zE (za rfl)) rfl rfl rfl rfl rfl) rfl)) (λ_=>rfl))
  refine zq ?_ ?_;exact(ZL PassesOwn.never rfl (Xg rfl T.Wz (zj (av 5) zA (za rfl)) rfl) (an 7 yo.nd) (by
  refine zq ?_ ?_;exact(yV (yc (zT (hkd _ rfl rfl rfl) (ym hr) .Eq) (zO .Eq) (yO (yg (hkd _ rfl rfl rfl)) rfl T.xX Bt.len (zj (av 6) zA (za rfl)) (Bt.n _ rfl) (by decide) rfl rfl) aI (zX _)) (zy (yf (ax hkd (av 6) aI))) yN)
  refine zq ?_ ?_;exact(zaY (yd (wM T hkd) (hr.mono (by omega)) rfl T.zL T.wu.kp T.wU yS (by refine zj ?_ ?_ ?_;exact(yd (v5 T hkd) (hr.mono (by omega)) rfl T.yq T.wZ.kp T.v7 yS (zj (av 0) (zj (zr (zu .Add) (zr (zu .Add) (av 1) aI) (av 7)) zA (za rfl)) (za rfl)) (by decide) rfl rfl);refine zj ?_ ?_ ?_;exact(zW (by refine zg ?_ ?_ ?_;exact aI;refine zg ?_ ?_ ?_;exact aI;refine zg ?_ ?_ ?_;exact aI;exact zE;exact za rfl;exact za rfl;exact za rfl));exact zA;exact za rfl;exact za rfl) (by decide) rfl rfl) (Vk rfl (yU (an 8 yo.nd) (yU (an 9 yo.nd) (yU (an 10 yo.nd) Xe rfl) rfl) rfl) rfl rfl) rfl rfl rfl)
  refine zq ?_ ?_;exact(by refine sv true 9 yo.nd ?_;exact(zr (zu .Mult) (zr (zu .Mod) (av 9) (yO (yg (hkd _ rfl rfl rfl)) rfl T.xX Bt.len (zj (av 6) zA (za rfl)) (Bt.n _ rfl) (by decide) rfl rfl)) (Yo Yi rfl T.zgB Bt.int (zj (Yc (zT (hkd _ rfl rfl rfl) (ym hr) .Lt) (av 4) aI (zX _)) zA (za rfl)) (Bt.n _ rfl) (by decide) rfl rfl)))
  refine zq ?_ ?_;exact(by refine sv true 11 yo.nd ?_;exact(vG YZ YM PySem.F.slot_list_pop PySem.F.type_list_pop (pv 6) (zg (av 9) zE (za rfl)) rfl rfl rfl rfl rfl))
  refine zq ?_ ?_;exact(by refine sv true 12 yo.nd ?_;exact(vG YZ YM PySem.F.slot_list_pop PySem.F.type_list_pop (pv 6) (zg (zr (zu .Mod) (av 10) (yO (yg (hkd _ rfl rfl rfl)) rfl T.xX Bt.len (zj (av 6) zA (za rfl)) (Bt.n _ rfl) (by decide) rfl rfl)) zE (za rfl)) rfl rfl rfl rfl rfl))
  refine zq ?_ ?_;exact(by refine sv true 13 yo.nd ?_;exact(zW (zg (av 11) (zg (av 12) zE (za rfl)) (za rfl))))
  exact zy (yV (AW.at_ (zbx (yc (zT (hkd _ rfl rfl rfl) (ym hr) .Gt) (zO .Gt) (av 8) aI (zX _)) (vX (yc (zT (hkd _ rfl rfl rfl) (ym hr) .Gt) (zO .Gt) (yO (yg (hkd _ rfl rfl rfl)) rfl T.xX Bt.len (zj (av 6) zA (za rfl)) (Bt.n _ rfl) (by decide) rfl rfl) aI (zX _))))) (by
  refine zq ?_ ?_;exact(by refine sv true 13 yo.nd ?_;exact(zr (zu .Add) (av 13) (zW (zg (vG YZ YM PySem.F.slot_list_pop PySem.F.type_list_pop (pv 6) (zg aI zE (za rfl)) rfl rfl rfl rfl rfl) (zg (vG YZ YM PySem.F.slot_list_pop PySem.F.type_list_pop (pv 6) (zg (zr (zu .Mod) (zr (zu .FloorDiv) (av 10) aI) (yO (yg (hkd _ rfl rfl rfl)) rfl T.xX Bt.len (zj (av 6) zA (za rfl)) (Bt.n _ rfl) (by decide) rfl rfl)) zE (za rfl)) rfl rfl rfl rfl rfl) zE (za rfl)) (za rfl)))))
  exact zy (Zf (vG zeN zfH PySem.F.slot_list_insert PySem.F.type_list_insert (pv 6) (zg aI (zg (Yo Xf rfl T.zan Bt.tuple (zj (zr (zu .Add) (zW (zg aS zE (za rfl))) (av 13)) zA (za rfl)) (Bt.n _ rfl) (by decide) rfl rfl) zE (za rfl)) (za rfl)) rfl rfl rfl rfl rfl) rfl)) (by
  refine zq ?_ ?_;exact(by refine sv true 14 yo.nd ?_;exact(ax hkd (zW (by refine zg ?_ ?_ ?_;exact aS;refine zg ?_ ?_ ?_;exact aS;refine zg ?_ ?_ ?_;exact aS;refine zg ?_ ?_ ?_;exact aS;refine zg ?_ ?_ ?_;exact aS;exact zE;exact za rfl;exact za rfl;exact za rfl;exact za rfl;exact za rfl)) (zr (zu .Mod) (av 8) aI)))
  exact zy (Zf (vG zeN zfH PySem.F.slot_list_insert PySem.F.type_list_insert (pv 6) (zg aI (zg (Yo Xf rfl T.zan Bt.tuple (zj (zr (zu .Add) (zW (zg (av 14) zE (za rfl))) (zW (zg (ax hkd (av 13) (zr (zu .Mod) (zr (zu .FloorDiv) (av 8) aI) aI)) (zg (ax hkd (av 13) (zr (zu .Sub) aI (zr (zu .Mod) (zr (zu .FloorDiv) (av 8) aI) aI))) zE (za rfl)) (za rfl)))) zA (za rfl)) (Bt.n _ rfl) (by decide) rfl rfl) zE (za rfl)) (za rfl)) rfl rfl rfl rfl rfl) rfl)))) (λ_=>rfl))
  exact zy (yf (ax hkd (av 6) aI)))
theorem V6(T:Txt K kd mg t)(hkd:KD1 P w K kd):∀n:Nat,FnOk P w K mg base CX0 (0+n) t.YQ t.YS ["_law_term_here"] (spD K kd (xF n))
 |0=>zki
 |n+1=>by
  have G:=V6 T hkd n
  refine wB (N:=V3) (ps:=["_law_term_here"]) (k:=0+n) (c:=VR (xF n)) T.Y9 vP λcdv A outer s H E hr=>?_
  exact(by
  refine zq ?_ ?_;exact(yV (yc (zT (hkd _ rfl rfl rfl) (ym hr) .Eq) (zO .Eq) (yO (yg (hkd _ rfl rfl rfl)) rfl T.xX Bt.len (zj (av 0) zA (za rfl)) (Bt.n _ rfl) (by decide) rfl rfl) aI (zX _)) (zy (yf (Yo zeG rfl T.zlA Bt.str (zj (ax hkd (av 0) aI) zA (za rfl)) (Bt.n _ rfl) (by decide) rfl rfl))) yN)
  refine zq ?_ ?_;exact(by refine sv true 1 vP.nd ?_;exact(ax hkd (av 0) aI))
  refine zq ?_ ?_;exact(ZL PassesOwn.never rfl (zfb (vD (av 0) (wK aI) vm)) (an 2 vP.nd) (zy (by refine sv true 1 vP.nd ?_;exact(zr (zu .Add) (zr (zu .Add) (av 1) aS) (yd G (hr.mono (by omega)) rfl T.xF T.Y9.kp T.V8 yS (zj (av 2) zA (za rfl)) (by decide) rfl rfl)))) (λ_=>rfl))
  exact zy (yf (av 1)))
theorem zbK(T:Txt K kd mg t)(hkd:KD1 P w K kd):FnOk P w K mg base CX0 1 t.ZM t.Zv ["_law_word","_law_names"] (spD K kd xJ):=by
 refine wB (N:=ZP) (ps:=["_law_word","_law_names"]) (k:=0) (c:=XJ) T.XQ zaO λcdv A outer s H E hr=>?_
 exact(by
  refine zq ?_ ?_;exact(yV (yc (zT (hkd _ rfl rfl rfl) (ym hr) .In) (zO .In) (av 0) (av 1) rfl) (zy (yf aB)) yN)
  refine zq ?_ ?_;exact(yV (AW.at_ (zcc (yc (zT (hkd _ rfl rfl rfl) (ym hr) .Eq) (zO .Eq) (av 0) aS (zX _)) (zcc (yc (zT (hkd _ rfl rfl rfl) (ym hr) .Gt) (zO .Gt) (yO (yg (hkd _ rfl rfl rfl)) rfl T.xX Bt.len (zj (av 0) zA (za rfl)) (Bt.n _ rfl) (by decide) rfl rfl) aI (zX _)) (Z0 (AW.at_ (zbx (yc (zT (hkd _ rfl rfl rfl) (ym hr) .Eq) (zO .Eq) (ax hkd (av 0) aI) aS (zX _)) (vX (yc (zT (hkd _ rfl rfl rfl) (ym hr) .NotEq) (zO .NotEq) (av 0) aS (zX _))))))))) (zy (yf aB)) yN)
  exact zy (yf (Yc (zT (hkd _ rfl rfl rfl) (ym hr) .Eq) (zgw (N:=["_law_sign"]) (cap:=[none]) (S:=[0]) rfl (zil (av 0)) rfl (by change zcm _ ZP _ (zG wA).names _=true;decide +kernel) (by decide) (λcl s H fp=>(an 0 VD)) (λcl s H fp=>(zjP (yc (zT (hkd _ rfl rfl rfl) (ym hr) .NotIn) (zO .NotIn) (av 0) aS rfl))) (λcl s H fp=>(av 0)) (λ_=>rfl)) (zW zE) (zX _))))
theorem ziH(T:Txt K kd mg t)(hkd:KD1 P w K kd):FnOk P w K mg base CX0 2 t.zaS t.zaH ["_law_words","_law_names"] (spD K kd ZS):=by
 refine wB (N:=zdS) (ps:=["_law_words","_law_names"]) (k:=1) (c:=zdG) T.zen vU λcdv A outer s H E hr=>?_
 exact(by
  refine zq ?_ ?_;exact(by refine sv false 2 vU.nd ?_;exact(zW (zg aI zE (za rfl))))
  refine zq ?_ ?_;exact(ZL PassesOwn.never rfl (Xg rfl T.Wz (zj (yO (yg (hkd _ rfl rfl rfl)) rfl T.xX Bt.len (zj (av 0) zA (za rfl)) (Bt.n _ rfl) (by decide) rfl rfl) zA (za rfl)) rfl) (an 3 vU.nd) (by
  refine zq ?_ ?_;exact(yV (yc (zT (hkd _ rfl rfl rfl) (ym hr) .Eq) (zO .Eq) (av 2) (zW zE) (zX _)) (zy (yf (av 3))) yN)
  refine zq ?_ ?_;exact(by refine sv true 4 vU.nd ?_;exact(zkY znM zmy PySem.F.slot_list_pop PySem.F.type_list_pop (pv 2) rfl rfl))
  refine zq ?_ ?_;exact(by refine sv true 5 vU.nd ?_;exact(vN (ty:=.dct) (hkd _ rfl rfl rfl) (zeH (hkd _ rfl rfl rfl)) PySem.F.plainAttrs_dict PySem.F.slot_dict_get PySem.F.type_dict_get (zgc (fs:=[((fC (.str "add")),(fC (.int 2))),((fC (.str "take")),(fC (.int 2))),((fC (.str "times")),(fC (.int 2))),((fC (.str "most")),(fC (.int 2))),((fC (.str "least")),(fC (.int 2))),((fC (.str "same")),(fC (.int 4)))]) (xg aS aI (xg aS aI (xg aS aI (xg aS aI (xg aS aI (xg aS aI zfY)))))) rfl rfl (by simp) (by decide)) (zj (ax hkd (av 0) (av 3)) (zj aI zA (za rfl)) (za rfl)) rfl rfl rfl rfl rfl))
  refine zq ?_ ?_;exact(yV (AW.at_ (zbx (yc (zT (hkd _ rfl rfl rfl) (ym hr) .Eq) (zO .Eq) (av 5) aI (zX _)) (vX (zeT (zcJ (yd (zbK T hkd) (hr.mono (by omega)) rfl T.xJ T.XQ.kp T.zbO yS (zj (ax hkd (av 0) (av 3)) (zj (av 1) zA (za rfl)) (za rfl)) (by decide) rfl rfl) (λ_=>rfl)))))) (zy (yf (av 3))) yN)
  refine zq ?_ ?_;exact(yV (AW.at_ (zbx (yc (zT (hkd _ rfl rfl rfl) (ym hr) .Gt) (zO .Gt) (av 5) aI (zX _)) (vX (AW.at_ (zcc (yc (zT (hkd _ rfl rfl rfl) (ym hr) .Gt) (zO .Gt) (av 4) aI (zX _)) (Z0 (yc (zT (hkd _ rfl rfl rfl) (ym hr) .Gt) (zO .Gt) (zr (zu .Add) (zr (zu .Add) (zr (zu .Add) (av 3) aI) (yO (yg (hkd _ rfl rfl rfl)) rfl T.xX Bt.len (zj (av 2) zA (za rfl)) (Bt.n _ rfl) (by decide) rfl rfl)) (av 5)) aI (zX _)))))))) (zy (yf (av 3))) yN)
  exact zy (by refine sv false 2 vU.nd ?_;exact(zr (zu .Add) (av 2) (zr (zu .Mult) (zW (zg (zr (zu .Add) (av 4) aI) zE (za rfl))) (av 5))))) (λ_=>rfl))
  refine zq ?_ ?_;exact(yV (yc (zT (hkd _ rfl rfl rfl) (ym hr) .NotEq) (zO .NotEq) (av 2) (zW zE) (zX _)) (zy (yf (yO (yg (hkd _ rfl rfl rfl)) rfl T.xX Bt.len (zj (av 0) zA (za rfl)) (Bt.n _ rfl) (by decide) rfl rfl))) yN)
  exact zy (yf (zgx zll aI)))
theorem zfl(T:Txt K kd mg t)(hkd:KD1 P w K kd):FnOk P w K mg base CX0 1 t.X8 t.Ws ["_law_words","_law_names"] (spD K kd w6):=by
 refine wB (N:=zbp) (ps:=["_law_words","_law_names"]) (k:=0) (c:=zbu) T.zbA wG λcdv A outer s H E hr=>?_
 exact(by
  refine zq ?_ ?_;exact(by refine sv false 2 wG.nd ?_;exact(zW zE))
  refine zq ?_ ?_;exact(ZL PassesOwn.never rfl (zfb (zig (av 0) (zgx zll aI))) (an 3 wG.nd) (by
  refine zq ?_ ?_;exact(by refine sv true 4 wG.nd ?_;exact(vN (ty:=.dct) (hkd _ rfl rfl rfl) (zeH (hkd _ rfl rfl rfl)) PySem.F.plainAttrs_dict PySem.F.slot_dict_get PySem.F.type_dict_get (zgc (fs:=[((fC (.str "add")),(fC (.int 2))),((fC (.str "take")),(fC (.int 2))),((fC (.str "times")),(fC (.int 2))),((fC (.str "most")),(fC (.int 2))),((fC (.str "least")),(fC (.int 2))),((fC (.str "same")),(fC (.int 4)))]) (xg aS aI (xg aS aI (xg aS aI (xg aS aI (xg aS aI (xg aS aI zfY)))))) rfl rfl (by simp) (by decide)) (zj (av 3) (zj aI zA (za rfl)) (za rfl)) rfl rfl rfl rfl rfl))
  exact zy (yV (yc (zT (hkd _ rfl rfl rfl) (ym hr) .Gt) (zO .Gt) (av 4) aI (zX _)) (by
  refine zq ?_ ?_;exact(by refine sv true 5 wG.nd ?_;exact(zig (vD (av 2) (wK (zr (zu .Sub) (yO (yg (hkd _ rfl rfl rfl)) rfl T.xX Bt.len (zj (av 2) zA (za rfl)) (Bt.n _ rfl) (by decide) rfl rfl) (av 4))) vm) (zgx zll aI)))
  exact zy (by refine sv false 2 wG.nd ?_;exact(zr (zu .Add) (vD (av 2) vm (wK (zr (zu .Sub) (yO (yg (hkd _ rfl rfl rfl)) rfl T.xX Bt.len (zj (av 2) zA (za rfl)) (Bt.n _ rfl) (by decide) rfl rfl) (av 4)))) (zW (zg (Yo Xf rfl T.zan Bt.tuple (zj (zr (zu .Add) (zW (zg (av 3) zE (za rfl))) (av 5)) zA (za rfl)) (Bt.n _ rfl) (by decide) rfl rfl) zE (za rfl)))))) (zy (yV (yc (zT (hkd _ rfl rfl rfl) (ym hr) .In) (zO .In) (av 3) (av 1) rfl) (zy (Zf (vG Xj zcI PySem.F.slot_list_append PySem.F.type_list_append (pv 2) (by refine zg ?_ ?_ ?_;exact(We (zg aS (zg (av 3) zE (za rfl)) (za rfl)));exact zE;exact za rfl) rfl rfl rfl rfl rfl) rfl)) (zy (Zf (vG Xj zcI PySem.F.slot_list_append PySem.F.type_list_append (pv 2) (by refine zg ?_ ?_ ?_;exact(We (zg aS (zg (Yo Yi rfl T.zgB Bt.int (zj (av 3) zA (za rfl)) (Bt.n _ rfl) (by decide) rfl rfl) zE (za rfl)) (za rfl)));exact zE;exact za rfl) rfl rfl rfl rfl rfl) rfl)))))) (λ_=>rfl))
  exact zy (yf (ax hkd (av 2) aI)))
theorem zfz(T:Txt K kd mg t)(hkd:KD1 P w K kd):FnOk P w K mg base CX0 2 t.Wa t.Wi ["_law_x"] (spD K kd wX):=by
 refine wB (N:=zaG) (ps:=["_law_x"]) (k:=1) (c:=zaA) T.zaz yX λcdv A outer s H E hr=>?_
 exact(by
  refine zq ?_ ?_;exact(zaY (yd (wM T hkd) (hr.mono (by omega)) rfl T.zL T.wu.kp T.wU yS (by refine zj ?_ ?_ ?_;exact(av 0);refine zj ?_ ?_ ?_;exact(zW (by refine zg ?_ ?_ ?_;exact aI;refine zg ?_ ?_ ?_;exact aI;refine zg ?_ ?_ ?_;exact aI;refine zg ?_ ?_ ?_;exact aI;exact zE;exact za rfl;exact za rfl;exact za rfl;exact za rfl));exact zA;exact za rfl;exact za rfl) (by decide) rfl rfl) (Vk rfl (yU (an 1 yX.nd) (yU (an 2 yX.nd) (yU (an 3 yX.nd) (yU (an 4 yX.nd) Xe rfl) rfl) rfl) rfl) rfl rfl) rfl rfl rfl)
  refine zq ?_ ?_;exact(by refine sv true 3 yX.nd ?_;exact(ax hkd (zW (by refine zg ?_ ?_ ?_;exact aS;refine zg ?_ ?_ ?_;exact aS;refine zg ?_ ?_ ?_;exact aS;refine zg ?_ ?_ ?_;exact aS;refine zg ?_ ?_ ?_;exact aS;exact zE;exact za rfl;exact za rfl;exact za rfl;exact za rfl;exact za rfl)) (av 3)))
  refine zq ?_ ?_;exact(yV (yc (zT (hkd _ rfl rfl rfl) (ym hr) .Eq) (zO .Eq) (av 1) aI (zX _)) (zy (by refine sv true 5 yX.nd ?_;exact(zr (zu .Add) (zr (zu .Mult) (zW (zg (av 3) zE (za rfl))) (ax hkd (zW (by refine zg ?_ ?_ ?_;exact aI;refine zg ?_ ?_ ?_;exact aI;refine zg ?_ ?_ ?_;exact(zr (zu .Mult) aI (av 4));exact zE;exact za rfl;exact za rfl;exact za rfl)) (zr (zu .Mod) (av 4) aI))) (zr (zu .Mult) (zW (zg aS zE (za rfl))) (zr (zu .Add) aI (av 2)))))) (zy (yV (yc (zT (hkd _ rfl rfl rfl) (ym hr) .Eq) (zO .Eq) (av 1) aI (zX _)) (zy (by refine sv true 5 yX.nd ?_;exact(zr (zu .Add) (zr (zu .Mult) (zW (zg (av 3) (zg aS zE (za rfl)) (za rfl))) (zr (zu .Add) aI (zr (zu .Mod) (av 4) aI))) (zr (zu .Mult) (zW (zg aS zE (za rfl))) (av 2))))) (zy (yV (yc (zT (hkd _ rfl rfl rfl) (ym hr) .Eq) (zO .Eq) (av 1) aI (zX _)) (zy (by refine sv true 5 yX.nd ?_;exact(zr (zu .Add) (zr (zu .Mult) (zW (zg aS zE (za rfl))) (zr (zu .Add) aI (zr (zu .Mod) (av 4) aI))) (zr (zu .Mult) (zW (zg aS zE (za rfl))) (zr (zu .Add) aI (zr (zu .Mult) aI (av 2))))))) (zy (by refine sv true 5 yX.nd ?_;exact(zr (zu .Mult) (zr (zu .Add) (zW (zg (av 3) (zg (av 3) zE (za rfl)) (za rfl))) (zr (zu .Mult) (zW (zg aS (zg aS zE (za rfl)) (za rfl))) aI)) (zr (zu .Add) aI (zr (zu .Mod) (av 4) aI))))))))))
  exact zy (yf (vN (ty:=.str) (hkd _ rfl rfl rfl) zgz PySem.F.plainAttrs_str PySem.F.slot_str_join PySem.F.type_str_join aS (zj (av 5) zA (za rfl)) rfl rfl rfl rfl rfl)))
theorem zbL(T:Txt K kd mg t)(hkd:KD1 P w K kd):FnOk P w K mg base CX0 3 t.Zy t.Zw ["_law_text","_law_x"] (spD K kd xG):=by
 refine wB (N:=Xu) (ps:=["_law_text","_law_x"]) (k:=2) (c:=Xn) T.Xw yw λcdv A outer s H E hr=>?_
 exact(by
  refine zq ?_ ?_;exact(zaY (yd (wM T hkd) (hr.mono (by omega)) rfl T.zL T.wu.kp T.wU yS (by refine zj ?_ ?_ ?_;exact(av 1);refine zj ?_ ?_ ?_;exact(zW (by refine zg ?_ ?_ ?_;exact aI;refine zg ?_ ?_ ?_;exact aI;refine zg ?_ ?_ ?_;exact(zr (zu .Pow) aI aI);exact zE;exact za rfl;exact za rfl;exact za rfl));exact zA;exact za rfl;exact za rfl) (by decide) rfl rfl) (Vk rfl (yU (an 2 yw.nd) (yU (an 3 yw.nd) (yU (an 4 yw.nd) Xe rfl) rfl) rfl) rfl rfl) rfl rfl rfl)
  refine zq ?_ ?_;exact(by refine sv false 5 yw.nd ?_;exact(vN (ty:=.str) (hkd _ rfl rfl rfl) Ve PySem.F.plainAttrs_str PySem.F.slot_str_split PySem.F.type_str_split (av 0) (zj aS zA (za rfl)) rfl rfl rfl rfl rfl))
  refine zq ?_ ?_;exact(by refine sv true 6 yw.nd ?_;exact(zr (zu .Mod) (av 3) (yO (yg (hkd _ rfl rfl rfl)) rfl T.xX Bt.len (zj (av 5) zA (za rfl)) (Bt.n _ rfl) (by decide) rfl rfl)))
  refine zq ?_ ?_;exact(by refine sv true 7 yw.nd ?_;exact(zr (zu .Add) (av 5) (zW (by refine zg ?_ ?_ ?_;exact aS;refine zg ?_ ?_ ?_;exact aS;refine zg ?_ ?_ ?_;exact aS;refine zg ?_ ?_ ?_;exact aS;refine zg ?_ ?_ ?_;exact aS;refine zg ?_ ?_ ?_;exact aS;refine zg ?_ ?_ ?_;exact aS;refine zg ?_ ?_ ?_;exact aS;refine zg ?_ ?_ ?_;exact aS;refine zg ?_ ?_ ?_;exact aS;refine zg ?_ ?_ ?_;exact aS;refine zg ?_ ?_ ?_;exact aS;refine zg ?_ ?_ ?_;exact aS;refine zg ?_ ?_ ?_;exact aS;refine zg ?_ ?_ ?_;exact aS;exact zE;exact za rfl;exact za rfl;exact za rfl;exact za rfl;exact za rfl;exact za rfl;exact za rfl;exact za rfl;exact za rfl;exact za rfl;exact za rfl;exact za rfl;exact za rfl;exact za rfl;exact za rfl))))
  refine zq ?_ ?_;exact(by refine sv true 7 yw.nd ?_;exact(zr (zu .Add) (av 7) (zW (by refine zg ?_ ?_ ?_;exact aS;refine zg ?_ ?_ ?_;exact aS;refine zg ?_ ?_ ?_;exact aS;refine zg ?_ ?_ ?_;exact aS;refine zg ?_ ?_ ?_;exact(Wt (zgC (n:=60) (by decide) (by decide) (by decide +kernel) (by decide)) λ_ _=>.str _);refine zg ?_ ?_ ?_;exact(Wt (zgC (n:=61) (by decide) (by decide) (by decide +kernel) (by decide)) λ_ _=>.str _);refine zg ?_ ?_ ?_;exact aS;refine zg ?_ ?_ ?_;exact aS;refine zg ?_ ?_ ?_;exact aS;refine zg ?_ ?_ ?_;exact aS;refine zg ?_ ?_ ?_;exact aS;refine zg ?_ ?_ ?_;exact aS;refine zg ?_ ?_ ?_;exact aS;refine zg ?_ ?_ ?_;exact aS;exact zE;exact za rfl;exact za rfl;exact za rfl;exact za rfl;exact za rfl;exact za rfl;exact za rfl;exact za rfl;exact za rfl;exact za rfl;exact za rfl;exact za rfl;exact za rfl;exact za rfl))))
  refine zq ?_ ?_;exact(by refine sv true 8 yw.nd ?_;exact(ax hkd (av 7) (zr (zu .Mod) (av 4) (yO (yg (hkd _ rfl rfl rfl)) rfl T.xX Bt.len (zj (av 7) zA (za rfl)) (Bt.n _ rfl) (by decide) rfl rfl))))
  refine zq ?_ ?_;exact(yV (yc (zT (hkd _ rfl rfl rfl) (ym hr) .Lt) (zO .Lt) (av 2) aI (zX _)) (zy (zke (pv 5) (zmf (pv 6)) (av 8) (λ_=>rfl) rfl rfl rfl)) (zy (yV (yc (zT (hkd _ rfl rfl rfl) (ym hr) .Eq) (zO .Eq) (av 2) aI (zX _)) (zy (Zf (vG YZ YM PySem.F.slot_list_pop PySem.F.type_list_pop (pv 5) (zg (av 6) zE (za rfl)) rfl rfl rfl rfl rfl) rfl)) (zy (yV (yc (zT (hkd _ rfl rfl rfl) (ym hr) .Eq) (zO .Eq) (av 2) aI (zX _)) (zy (Zf (vG zeN zfH PySem.F.slot_list_insert PySem.F.type_list_insert (pv 5) (zg (av 6) (zg (av 8) zE (za rfl)) (za rfl)) rfl rfl rfl rfl rfl) rfl)) (zy (yV (yc (zT (hkd _ rfl rfl rfl) (ym hr) .Eq) (zO .Eq) (av 2) aI (zX _)) (zy (by refine sv false 5 yw.nd ?_;exact(vD (av 5) vm (wK (av 6))))) (zy (yV (yc (zT (hkd _ rfl rfl rfl) (ym hr) .Eq) (zO .Eq) (av 2) aI (zX _)) (zy (yf (ax hkd (zW (znB (zr (zu .Add) aS (av 0)) zmi (zr (zu .Add) (av 0) aS) (zln (pv 0) (by decide) (by decide) rfl rfl rfl rfl) (by refine zg ?_ ?_ ?_;exact(zr (zu .Add) (av 0) aS);refine zg ?_ ?_ ?_;exact aS;refine zg ?_ ?_ ?_;exact aS;refine zg ?_ ?_ ?_;exact(zr (zu .Add) (zr (zu .Add) (av 0) aS) (av 0));exact zE;exact za rfl;exact za rfl;exact za rfl;exact za rfl) (za rfl) (za rfl) (za rfl))) (zr (zu .Mod) (av 4) aI)))) (zy (yV (yc (zT (hkd _ rfl rfl rfl) (ym hr) .Eq) (zO .Eq) (av 2) aI (zX _)) (zy (yf (yd (zfz T hkd) (hr.mono (by omega)) rfl T.wX T.zaz.kp T.zfB yS (zj (av 4) zA (za rfl)) (by decide) rfl rfl))) (by
  refine zq ?_ ?_;exact(by refine sv true 9 yw.nd ?_;exact(zr (zu .Mod) (av 3) (zr (zu .Add) (yO (yg (hkd _ rfl rfl rfl)) rfl T.xX Bt.len (zj (av 0) zA (za rfl)) (Bt.n _ rfl) (by decide) rfl rfl) aI)))
  exact zy (yf (zr (zu .Add) (zr (zu .Add) (zci (av 0) vm (wK (av 9))) (ax hkd (zW (by refine zg ?_ ?_ ?_;exact aS;refine zg ?_ ?_ ?_;exact aS;refine zg ?_ ?_ ?_;exact aS;refine zg ?_ ?_ ?_;exact aS;refine zg ?_ ?_ ?_;exact aS;exact zE;exact za rfl;exact za rfl;exact za rfl;exact za rfl;exact za rfl)) (zr (zu .Mod) (av 4) aI))) (zci (av 0) (wK (zr (zu .Add) (av 9) (zr (zu .Mod) (zr (zu .FloorDiv) (av 4) aI) aI))) vm)))))))))))))))
  exact zy (yf (vN (ty:=.str) (hkd _ rfl rfl rfl) zgz PySem.F.plainAttrs_str PySem.F.slot_str_join PySem.F.type_str_join aS (zj (av 5) zA (za rfl)) rfl rfl rfl rfl rfl)))
theorem zbN(T:Txt K kd mg t)(hkd:KD1 P w K kd):FnOk P w K mg base CX0 5 t.ZJ t.Zq ["_law_text","_law_names"] (spD K kd wD):=by
 refine wB (N:=XH) (ps:=["_law_text","_law_names"]) (k:=4) (c:=XM) T.Xv xM λcdv A outer s H E hr=>?_
 exact(by
  refine zq ?_ ?_;exact(by refine sv true 2 xM.nd ?_;exact(zW zE))
  refine zq ?_ ?_;exact(zmW (j:=3) (jf:=2) (zel T hkd) (hr.mono (by omega)) rfl T.wH T.Ze.kp T.V1 (zj (av 0) (zj (av 1) zA (za rfl)) (za rfl)) (by decide) rfl rfl rfl rfl T.YK (by decide) T.xm (λ_ _ z=>z) rfl rfl xM.nd (by decide) rfl rfl (by first|exact Or.inl rfl|exact Or.inr rfl) λe dx k oe od hh=>by
  have hkd:=zmm (e:=e) hkd
  exact(by
  refine zq ?_ ?_;exact(by refine sv true 2 xM.nd ?_;exact(zW (zg (zib (c:=.ref _) (cv:=.ref _) hh T.xi (λ_ z=>z) T.k1_NoText rfl T.wQ Bt.isinstance (pv 3) (Yd rfl T.zey) (Bt.n _ rfl) (by decide) rfl rfl rfl) (zg (zib (c:=.ty "ValueError") (cv:=.type "ValueError") hh T.xi (λ_ z=>z) T.k1_ValueError rfl T.wQ Bt.isinstance (pv 3) (zgH (v:=.ty "ValueError") rfl T.zdy PyProof.Rows.Boot.«ValueError» rfl (Bt.n _ rfl) (by decide)) (Bt.n _ rfl) (by decide) rfl rfl rfl) zE (za rfl)) (za rfl))))
  refine zq ?_ ?_;exact(by refine sv true 2 xM.nd ?_;exact(zr (zu .Add) (av 2) (zW (zg (zhV (zkM (cs:=[t.zaB,t.zaK,t.zdd,t.zaD,t.YJ,t.X6,t.Vt,t.Wg]) hh T.xi T.ka (show 8<=1000 by decide) rfl T.wQ Bt.isinstance (pv 3) (yQ (Yd rfl T.zhJ) (yQ (Yd rfl T.zhI) (yQ (Yd rfl T.zks) (yQ (Yd rfl T.zjv) (yQ (Yd rfl T.zei) (yQ (Yd rfl T.zfd) (yQ (Yd rfl T.zgL) (yQ (Yd rfl T.zfI) Zo (za rfl)) (za rfl)) (za rfl)) (za rfl)) (za rfl)) (za rfl)) (za rfl)) (za rfl)) (λ_ _ _ z=>z) (Bt.n _ rfl) (by decide) rfl rfl rfl)) zE (za rfl)))))
  exact zy (yV (yc (zT (hkd _ rfl rfl rfl) (by have z:=ym hr;exact z) .Eq) (zO .Eq) (av 2) (zr (zu .Mult) (zW (zg aB zE (za rfl))) aI) (zX _)) (zy (by refine sv true 2 xM.nd ?_;exact(znu hh T.xi (pv 3) rfl))) yN)))
  exact zy (yf (av 2)))
theorem YL(T:Txt K kd mg t)(hkd:KD1 P w K kd):FnOk P w K mg base CX0 6 t.Y0 t.Xa ["_law_text","_law_names"] (spD K kd yR):=by
 refine wB (N:=V0) (ps:=["_law_text","_law_names"]) (k:=5) (c:=V2) T.Zk vM λcdv A outer s H E hr=>?_
 exact(by
  refine zq ?_ ?_;exact(by refine sv true 2 vM.nd ?_;exact(vN (ty:=.str) (hkd _ rfl rfl rfl) Ve PySem.F.plainAttrs_str PySem.F.slot_str_split PySem.F.type_str_split (av 0) (zj aS zA (za rfl)) rfl rfl rfl rfl rfl))
  refine zq ?_ ?_;exact(by refine sv true 3 vM.nd ?_;exact(yd (ziH T hkd) (hr.mono (by omega)) rfl T.ZS T.zen.kp T.ziE yS (zj (av 2) (zj (av 1) zA (za rfl)) (za rfl)) (by decide) rfl rfl))
  refine zq ?_ ?_;exact(yV (yc (zT (hkd _ rfl rfl rfl) (ym hr) .Gt) (zO .Gt) (av 3) (zgx zll aI) (zX _)) (by
  refine zq ?_ ?_;exact(by refine sv true 4 vM.nd ?_;exact(yd (zbN T hkd) (hr.mono (by omega)) rfl T.wD T.Xv.kp T.zbG yS (zj (av 0) (zj (av 1) zA (za rfl)) (za rfl)) (by decide) rfl rfl))
  exact zy (yf (zda (zhV (ziB (hkd _ rfl rfl rfl) rfl rfl T.wQ Bt.isinstance rfl T.zmO Bt.bool (av 4) (Bt.n _ rfl) (by decide) (Bt.n _ rfl) (by decide) rfl rfl rfl)) (zcM (Yc (zT (hkd _ rfl rfl rfl) (ym hr) .Eq) (av 4) (av 3) (zX _)))))) yN)
  exact zy (yf (Yc (zT (hkd _ rfl rfl rfl) (ym hr) .Eq) (yd (zeA T hkd) (hr.mono (by omega)) rfl T.wH T.Ze.kp T.V1 yS (zj (av 0) (zj (av 1) zA (za rfl)) (za rfl)) (by decide) rfl rfl) (yd (zfl T hkd) (hr.mono (by omega)) rfl T.w6 T.zbA.kp T.zeO yS (zj (av 2) (zj (av 1) zA (za rfl)) (za rfl)) (by decide) rfl rfl) (zX _))))
theorem o_law(T:Txt K kd mg t)(hkd:KD1 P w K kd):FnOk P w K mg base CX0 21 t.zjg t.ziO ["_law_script"] (spD K kd zaR):=by
 refine wB (N:=zlM) (ps:=["_law_script"]) (k:=20) (c:=zlx) T.zob zdC λcdv A outer s H E hr=>?_
 exact(by
  refine zq ?_ ?_;exact(by refine sv true 1 zdC.nd ?_;exact(vD (zW (by refine zg ?_ ?_ ?_;exact aS;refine zg ?_ ?_ ?_;exact aS;refine zg ?_ ?_ ?_;exact aS;exact zE;exact za rfl;exact za rfl;exact za rfl)) vm (wK (zr (zu .Mod) (yd (v5 T hkd) (hr.mono (by omega)) rfl T.yq T.wZ.kp T.v7 yS (zj (av 0) (zj aI zA (za rfl)) (za rfl)) (by decide) rfl rfl) aI))))
  refine zq ?_ ?_;exact(by refine sv true 2 zdC.nd ?_;exact(yd (V6 T hkd 20) (hr.mono (by omega)) rfl T.xF T.Y9.kp T.V8 yS (zj (yd (zfD T hkd) (hr.mono (by omega)) rfl T.wY T.zaC.kp T.zeI yS (by refine zj ?_ ?_ ?_;exact(av 0);refine zj ?_ ?_ ?_;exact aI;refine zj ?_ ?_ ?_;exact(zW (by refine zg ?_ ?_ ?_;exact aS;refine zg ?_ ?_ ?_;exact aS;refine zg ?_ ?_ ?_;exact aS;exact zE;exact za rfl;exact za rfl;exact za rfl));exact zA;exact za rfl;exact za rfl;exact za rfl) (by decide) rfl rfl) zA (za rfl)) (by decide) rfl rfl))
  refine zq ?_ ?_;exact(ZL PassesOwn.never rfl (zgX rfl T.Wz (zj aI (zj (yO (zhB rfl) rfl T.znZ Bt.max (zj aI (zj (yO (zho rfl) rfl T.zoR Bt.min (zj (yO (yg (hkd _ rfl rfl rfl)) rfl T.xX Bt.len (zj (av 0) zA (za rfl)) (Bt.n _ rfl) (by decide) rfl rfl) (zj aI zA (za rfl)) (za rfl)) (Bt.n _ rfl) (by decide) rfl rfl) zA (za rfl)) (za rfl)) (Bt.n _ rfl) (by decide) rfl rfl) zA (za rfl)) (za rfl)) rfl rfl) (an 3 zdC.nd) (zy (yV (zeT (zcJ (yd (YL T hkd) (hr.mono (by omega)) rfl T.yR T.Zk.kp T.YF yS (zj (yd (zbL T hkd) (hr.mono (by omega)) rfl T.xG T.Xw.kp T.zbF yS (zj (av 2) (zj (yd (v5 T hkd) (hr.mono (by omega)) rfl T.yq T.wZ.kp T.v7 yS (zj (av 0) (zj (av 3) zA (za rfl)) (za rfl)) (by decide) rfl rfl) zA (za rfl)) (za rfl)) (by decide) rfl rfl) (zj (av 1) zA (za rfl)) (za rfl)) (by decide) rfl rfl) (λ_=>rfl))) (zy (yf aB)) yN)) (λ_=>rfl))
  exact zy (yf (zda (yd (YL T hkd) (hr.mono (by omega)) rfl T.yR T.Zk.kp T.YF yS (zj (av 2) (zj (av 1) zA (za rfl)) (za rfl)) (by decide) rfl rfl) (zcM (yd (YL T hkd) (hr.mono (by omega)) rfl T.yR T.Zk.kp T.YF yS (by refine zj ?_ ?_ ?_;exact(av 2);refine zj ?_ ?_ ?_;exact(zW (by refine zg ?_ ?_ ?_;exact aS;refine zg ?_ ?_ ?_;exact aS;refine zg ?_ ?_ ?_;exact aS;exact zE;exact za rfl;exact za rfl;exact za rfl));exact zA;exact za rfl;exact za rfl) (by decide) rfl rfl)))))
end
abbrev NsR(K:zC)(x:Str)(f:Addr):Prop:=PySem.W.nsIn K mainGlobals x=some (some (.ref f))
abbrev FnAt(K:zC)(x q:Str)(s:Stmt)(f:Addr):Prop:=∃d,Fun K x q s f d
theorem znG{l:PySem.W.OpenLaw}{w:World}{K:zC}{h:Heap}{mg:Str->Option Value}{fa:Addr}(X:K.In h)(G:h.Ns mainGlobals mg)(hfa:mg "law"=some (.ref fa))
 {f0 f1 f2 f3 f4 f5 f6 f7 f8 f9 f10 f11 f12 f13 f14 f15 f16 f17 f18 f19 f20 f21 C0 C1 C2 C3 C4 C5 C6 C7 C8 C9:Addr}
 {tk0_0:Tok}
 {q1:Addr}{go1:Option Addr}{gn1:Nat}{gs1:Array (Option Value)}{tk1_0:Tok}{tk1_1:Tok}{tk1_2:Tok}
 {tk2_0:Tok}
 {tk3_0:Tok}
 {tk4_0:Tok}
 {q5:Addr}{gn5:Nat}{tk5_0:Tok}{tx5_0:Tok}{tk5_1:Tok}{tx5_1:Tok}{tk5_2:Tok}{tx5_2:Tok}{tk5_3:Tok}{tx5_3:Tok}{tk5_4:Tok}{tx5_4:Tok}{tk5_5:Tok}{tx5_5:Tok}
 (aC0:PySem.W.nsIn K mainGlobals "NoText"=some (some (.ref C0)))
 (aC1:PySem.W.nsIn K mainGlobals "NoDeed"=some (some (.ref C1)))
 (aC2:PySem.W.nsIn K mainGlobals "NoMake"=some (some (.ref C2)))
 (aC3:PySem.W.nsIn K mainGlobals "NoRow"=some (some (.ref C3)))
 (aC4:PySem.W.nsIn K mainGlobals "NoSign"=some (some (.ref C4)))
 (aC5:PySem.W.nsIn K mainGlobals "NoStretch"=some (some (.ref C5)))
 (aC6:PySem.W.nsIn K mainGlobals "NoValue"=some (some (.ref C6)))
 (aC7:PySem.W.nsIn K mainGlobals "NotLetBy"=some (some (.ref C7)))
 (aC8:PySem.W.nsIn K mainGlobals "StretchError"=some (some (.ref C8)))
 (aC9:PySem.W.nsIn K mainGlobals "TooGreat"=some (some (.ref C9)))
 (xf:PySem.W.findIn K (.ref C0) "__init__"=some (some (.ref f7)))
 (xc:XC K C0 C8 f7)
 (xs:XS K C8)
 (xi:XI K C0)
 (xk:PySem.W.keepIn K (.ref C0)=true)
 (xm:PySem.W.exmOne K (.ref C0) (.ref C8)=some true)
 (k1_NoText:PySem.W.kitOne K (.ref C0) (.ref C0)=some true)
 (k1_ValueError:PySem.W.kitOne K (.ref C0) (.type "ValueError")=some true)
 (ka:PySem.W.kitAny K (.ref C0) ([C1,C2,C3,C4,C5,C7,C6,C9].map .ref)=some false)
 (a0:NsR K "is_let" f0) (l0:FnAt K "is_let" "is_let" W4 f0)
 (a1:NsR K "parts_after" f1) (l1:FnAt K "parts_after" "parts_after" vf f1)
 (a2:NsR K "is_figures" f2) (l2:FnAt K "is_figures" "is_figures" wO f2)
 (a3:NsR K "fits" f3) (l3:FnAt K "fits" "fits" zdn f3)
 (a4:NsR K "first_fault" f4) (l4:FnAt K "first_fault" "first_fault" vA f4)
 (a5:NsR K "leaf_of" f5) (l5:FnAt K "leaf_of" "leaf_of" Xi f5)
 (a6:NsR K "term_of" f6) (l6:FnAt K "term_of" "term_of" Xc f6)
 (l7:FnAt K "__init__" "NoText.__init__" xZ f7)
 (a8:NsR K "read_term" f8) (l8:FnAt K "read_term" "read_term" Zb f8)
 (a9:NsR K "_law_draw" f9) (l9:FnAt K "_law_draw" "_law_draw" Z4 f9)
 (a10:NsR K "_law_digits" f10) (l10:FnAt K "_law_digits" "_law_digits" vO f10)
 (a11:NsR K "_law_leaf" f11) (l11:FnAt K "_law_leaf" "_law_leaf" Yb f11)
 (a12:NsR K "_law_term" f12) (l12:FnAt K "_law_term" "_law_term" Ye f12)
 (a13:NsR K "_law_shown" f13) (l13:FnAt K "_law_shown" "_law_shown" Zg f13)
 (a14:NsR K "_law_is_leaf" f14) (l14:FnAt K "_law_is_leaf" "_law_is_leaf" wA f14)
 (a15:NsR K "_law_at" f15) (l15:FnAt K "_law_at" "_law_at" W3 f15)
 (a16:NsR K "_law_told" f16) (l16:FnAt K "_law_told" "_law_told" Yg f16)
 (a17:NsR K "_law_long" f17) (l17:FnAt K "_law_long" "_law_long" Z9 f17)
 (a18:NsR K "_law_changed" f18) (l18:FnAt K "_law_changed" "_law_changed" vq f18)
 (a19:NsR K "_law_refusal" f19) (l19:FnAt K "_law_refusal" "_law_refusal" vg f19)
 (a20:NsR K "_law_right" f20) (l20:FnAt K "_law_right" "_law_right" Zd f20)
 (a21:NsR K "law" f21) (l21:FnAt K "law" "law" zfV f21)
 (cg0:PySem.W.nsIn K mainGlobals "FIGURES"=some (some (.str "0123456789" tk0_0)))
 (cg1:PySem.W.nsIn K mainGlobals "LETTERS"=some (some (.ref q1))) (ch1:K.lookup q1=some ⟨.type "tuple",go1,.seq #[.str "a" tk1_0,.str "b" tk1_1,.str "c" tk1_2] gn1,gs1⟩)
 (cg2:PySem.W.nsIn K mainGlobals "MOST_FIGURES"=some (some (.int 60 tk2_0)))
 (cg3:PySem.W.nsIn K mainGlobals "MOST_TERMS"=some (some (.int 40 tk3_0)))
 (cg4:PySem.W.nsIn K mainGlobals "MOST_WITHIN"=some (some (.int 12 tk4_0)))
 (cg5:PySem.W.nsIn K mainGlobals "PARTS"=some (some (.ref q5))) (ch5:K.lookup q5=some {cls:=.type "dict",data:=.dict #[⟨PyData.keyHash w.params "add",.str "add" tx5_0,.int 2 tk5_0⟩,⟨PyData.keyHash w.params "take",.str "take" tx5_1,.int 2 tk5_1⟩,⟨PyData.keyHash w.params "times",.str "times" tx5_2,.int 2 tk5_2⟩,⟨PyData.keyHash w.params "most",.str "most" tx5_3,.int 2 tk5_3⟩,⟨PyData.keyHash w.params "least",.str "least" tx5_4,.int 2 tk5_4⟩,⟨PyData.keyHash w.params "same",.str "same" tx5_5,.int 4 tk5_5⟩] gn5})
 (s5:(q5==sysModules)=false)
 (z0:PySem.W.nsIn K mainGlobals "ValueError"=some none) (z1:PySem.W.nsIn K mainGlobals "all"=some none) (z2:PySem.W.nsIn K mainGlobals "bool"=some none) (z3:PySem.W.nsIn K mainGlobals "enumerate"=some none) (z4:PySem.W.nsIn K mainGlobals "int"=some none) (z5:PySem.W.nsIn K mainGlobals "isinstance"=some none) (z6:PySem.W.nsIn K mainGlobals "len"=some none) (z7:PySem.W.nsIn K mainGlobals "max"=some none) (z8:PySem.W.nsIn K mainGlobals "min"=some none) (z9:PySem.W.nsIn K mainGlobals "range"=some none) (z10:PySem.W.nsIn K mainGlobals "reversed"=some none) (z11:PySem.W.nsIn K mainGlobals "str"=some none) (z12:PySem.W.nsIn K mainGlobals "tuple"=some none):
 ∃fd:FuncData,(∀(s:Shared) (v:Value),BindsTo s fd ⟨[v],[]⟩ [("_law_script",v)])/\∀base:Heap,K.In base->base.Ns mainGlobals mg->FnOk l.prog w K mg base CX0 21 fa fd ["_law_script"] (spL K zaR):=by
 have e:=hfa.symm.trans (PySem.W.mg_of X G a21)
 cases e
 obtain⟨_,F0⟩:=l0
 have b0:=F0.binds (ps:=["thing","names"]) λ_ _ _ _ _ _=>l2_ λ_ _=>rfl
 obtain⟨_,F1⟩:=l1
 have b1:=F1.binds (ps:=["word"]) λ_ _ _ _ _ _=>l1_ λ_=>rfl
 obtain⟨_,F2⟩:=l2
 have b2:=F2.binds (ps:=["word","most"]) λ_ _ _ _ _ _=>l2_ λ_ _=>rfl
 obtain⟨_,F3⟩:=l3
 have b3:=F3.binds (ps:=["word","within","names"]) λ_ _ _ _ _ _=>l3_ λ_ _ _=>rfl
 obtain⟨_,F4⟩:=l4
 have b4:=F4.binds (ps:=["words","names"]) λ_ _ _ _ _ _=>l2_ λ_ _=>rfl
 obtain⟨_,F5⟩:=l5
 have b5:=F5.binds (ps:=["word"]) λ_ _ _ _ _ _=>l1_ λ_=>rfl
 obtain⟨_,F6⟩:=l6
 have b6:=F6.binds (ps:=["words"]) λ_ _ _ _ _ _=>l1_ λ_=>rfl
 obtain⟨_,F7⟩:=l7
 have b7:=F7.binds (ps:=["self","at"]) λ_ _ _ _ _ _=>l2_ λ_ _=>rfl
 obtain⟨_,F8⟩:=l8
 have b8:=F8.binds (ps:=["text","names"]) λ_ _ _ _ _ _=>l2_ λ_ _=>rfl
 obtain⟨_,F9⟩:=l9
 have b9:=F9.binds (ps:=["_law_script","_law_k"]) λ_ _ _ _ _ _=>l2_ λ_ _=>rfl
 obtain⟨_,F10⟩:=l10
 have b10:=F10.binds (ps:=["_law_x","_law_sizes"]) λ_ _ _ _ _ _=>l2_ λ_ _=>rfl
 obtain⟨_,F11⟩:=l11
 have b11:=F11.binds (ps:=["_law_x","_law_names"]) λ_ _ _ _ _ _=>l2_ λ_ _=>rfl
 obtain⟨_,F12⟩:=l12
 have b12:=F12.binds (ps:=["_law_script","_law_start","_law_names"]) λ_ _ _ _ _ _=>l3_ λ_ _ _=>rfl
 obtain⟨_,F13⟩:=l13
 have b13:=F13.binds (ps:=["_law_term_here"]) λ_ _ _ _ _ _=>l1_ λ_=>rfl
 obtain⟨_,F14⟩:=l14
 have b14:=F14.binds (ps:=["_law_word","_law_names"]) λ_ _ _ _ _ _=>l2_ λ_ _=>rfl
 obtain⟨_,F15⟩:=l15
 have b15:=F15.binds (ps:=["_law_words","_law_names"]) λ_ _ _ _ _ _=>l2_ λ_ _=>rfl
 obtain⟨_,F16⟩:=l16
 have b16:=F16.binds (ps:=["_law_words","_law_names"]) λ_ _ _ _ _ _=>l2_ λ_ _=>rfl
 obtain⟨_,F17⟩:=l17
 have b17:=F17.binds (ps:=["_law_x"]) λ_ _ _ _ _ _=>l1_ λ_=>rfl
 obtain⟨_,F18⟩:=l18
 have b18:=F18.binds (ps:=["_law_text","_law_x"]) λ_ _ _ _ _ _=>l2_ λ_ _=>rfl
 obtain⟨_,F19⟩:=l19
 have b19:=F19.binds (ps:=["_law_text","_law_names"]) λ_ _ _ _ _ _=>l2_ λ_ _=>rfl
 obtain⟨_,F20⟩:=l20
 have b20:=F20.binds (ps:=["_law_text","_law_names"]) λ_ _ _ _ _ _=>l2_ λ_ _=>rfl
 obtain⟨_,F21⟩:=l21
 obtain⟨_,_,_,_,_,_,_,_,_,rfl,_,_⟩:=F21.ex
 have b21:=F21.binds (ps:=["_law_script"]) λ_ _ _ _ _ _=>l1_ λ_=>rfl
 let KL:List (Addr×List (Key×V)):=[(q5,[(.inr "add",(.int 2)),(.inr "take",(.int 2)),(.inr "times",(.int 2)),(.inr "most",(.int 2)),(.inr "least",(.int 2)),(.inr "same",(.int 4))])]
 have hkd:KD1 l.prog w K (kdL KL):=zmz λp m=>by
  rw[zzN.mp m]
  exact⟨⟨_,_,ch5,(.str ⟨_,rfl⟩ (.str ⟨_,rfl⟩ (.str ⟨_,rfl⟩ (.str ⟨_,rfl⟩ (.str ⟨_,rfl⟩ (.str ⟨_,rfl⟩ .nil))))))⟩,show([.inr "add",.inr "take",.inr "times",.inr "most",.inr "least",.inr "same"]:List Key).Nodup by decide +kernel,show 6<=sizeLine by decide,s5⟩
 have LK5:KL.lookup q5=some ([(.inr "add",(.int 2)),(.inr "take",(.int 2)),(.inr "times",(.int 2)),(.inr "most",(.int 2)),(.inr "least",(.int 2)),(.inr "same",(.int 4))]:List (Key×V)):=by
  show List.lookup q5 ([(q5,[(.inr "add",(.int 2)),(.inr "take",(.int 2)),(.inr "times",(.int 2)),(.inr "most",(.int 2)),(.inr "least",(.int 2)),(.inr "same",(.int 4))])]:List (Addr×List (Key×V)))=_
  rw[List.lookup_cons,beq_self_eq_true]
 have T:Txt K (kdL KL) mg ⟨_,_,_,_,_,_,_,_,_,_,_,_,_,_,_,_,_,_,_,_,_,_,_,_,_,_,_,_,_,_,_,_,_,_,_,_,_,_,_,_,_,_,_,_,_,_,_,_,_,_,_,_,_,_⟩:=⟨F0,b0,PySem.W.mg_of X G a0,F1,b1,PySem.W.mg_of X G a1,F2,b2,PySem.W.mg_of X G a2,F3,b3,PySem.W.mg_of X G a3,F4,b4,PySem.W.mg_of X G a4,F5,b5,PySem.W.mg_of X G a5,F6,b6,PySem.W.mg_of X G a6,F7,b7,F8,b8,PySem.W.mg_of X G a8,F9,b9,PySem.W.mg_of X G a9,F10,b10,PySem.W.mg_of X G a10,F11,b11,PySem.W.mg_of X G a11,F12,b12,PySem.W.mg_of X G a12,F13,b13,PySem.W.mg_of X G a13,F14,b14,PySem.W.mg_of X G a14,F15,b15,PySem.W.mg_of X G a15,F16,b16,PySem.W.mg_of X G a16,F17,b17,PySem.W.mg_of X G a17,F18,b18,PySem.W.mg_of X G a18,F19,b19,PySem.W.mg_of X G a19,F20,b20,PySem.W.mg_of X G a20,F21,b21,PySem.W.mg_of X G a21,GC.str (PySem.W.mg_of X G cg0),GC.tup (vs:=[(.str "a"),(.str "b"),(.str "c")]) (PySem.W.mg_of X G cg1) ch1 (show 3<=sizeLine by decide) (.cons ⟨_,rfl⟩ (.cons ⟨_,rfl⟩ (.cons ⟨_,rfl⟩ .nil))) (λ_ _=>(.cons (.str _) (.cons (.str _) (.cons (.str _) .nil)))),GC.int (PySem.W.mg_of X G cg2),GC.int (PySem.W.mg_of X G cg3),GC.int (PySem.W.mg_of X G cg4),GC.dct (PySem.W.mg_of X G cg5) LK5 (λ_ _=>(.cons (.int _) (.cons (.int _) (.cons (.int _) (.cons (.int _) (.cons (.int _) (.cons (.int _) .nil))))))),PySem.W.mg_none_of X G z0,PySem.W.mg_none_of X G z1,PySem.W.mg_none_of X G z2,PySem.W.mg_none_of X G z3,PySem.W.mg_none_of X G z4,PySem.W.mg_none_of X G z5,PySem.W.mg_none_of X G z6,PySem.W.mg_none_of X G z7,PySem.W.mg_none_of X G z8,PySem.W.mg_none_of X G z9,PySem.W.mg_none_of X G z10,PySem.W.mg_none_of X G z11,PySem.W.mg_none_of X G z12,PySem.W.mg_of X G aC0,PySem.W.mg_of X G aC1,PySem.W.mg_of X G aC2,PySem.W.mg_of X G aC3,PySem.W.mg_of X G aC4,PySem.W.mg_of X G aC5,PySem.W.mg_of X G aC6,PySem.W.mg_of X G aC7,PySem.W.mg_of X G aC8,PySem.W.mg_of X G aC9,xf,xc,xs,xi,xk,xm,k1_NoText,k1_ValueError,ka⟩
 exact⟨_,λs v=>.of_eq rfl,λbase _ _=>(o_law T hkd).imp λvs H Q E h=>h _⟩
theorem walk{l:PySem.W.OpenLaw}{q:Program}{loose:List Str}{XP:(Str->Option Value)->Heap->Prop}{YP:World->Heap->Prop}{d:DefRec}{K:Params->zC}(hn:l.most=some 63)(hdf:d.params.defaults=[])
 (hY:∀(w:World) (h:Heap),YP w h->(K w.params).In h) (hm:∀ns:List Int,ns.length<=63->zaR [(true,.lst (ns.map D.int))]=some (.lf true (.bl true)))
 (F:∀(w:World) (mg:Str->Option Value) (fa:Addr) (h:Heap),(K w.params).In h->h.Ns mainGlobals mg->mg d.name=some (.ref fa)->
  ∃fd:FuncData,(∀(s:Shared) (u:Value),BindsTo s fd ⟨[u],[]⟩ [("_law_script",u)])/\∀base:Heap,(K w.params).In base->base.Ns mainGlobals mg->FnOk l.prog w (K w.params) mg base CX0 21 fa fd ["_law_script"] (spL (K w.params) zaR)):
 PySem.W.WalkO q loose XP YP l.row.toRowW d [] (λf vs=>PySem.call f vs):=
 L2.walk_of (n:=63) (k:=21) (x:="_law_script") (CX:=λ_=>CX0) (sp:=λw=>spL (K w.params) zaR) hn (by decide) hdf ⟨rfl,by decide,by decide,rfl⟩ hY F (λ_ _ a ns hl _ hS kd=>znC (hm ns hl) hS) λ_ _ _ _ _ z=>z
theorem W7{as:AS}{i:Nat}{s:Bool}{ds:List D}(h:as[i]? = some (some (.lf s (.lst ds)))):WD (fP (aC (fV i) aN) yz) as true (.int ds.length):=yp (zB (zb h) zN) rfl rfl
def most:Int:=1000*10 ^ (64:Int).toNat
theorem zat:most=10 ^ 67:=by decide +kernel
theorem zhT{ns:List Int}{k:Int}{s t:Bool}(h0:0<=k)(h1:k<=100):∃y,yq [(s,.lst (ns.map .int)),(t,.int k)]=some (.lf true (.int (y%most))):=by
 have hm:(0:Int)<most:=by rw[zat];decide
 have hm2:=zat
 have s1:∀as:AS,as.length=6->(zF true 2 (f2 (fC (.int 1000)) (f2 (fC (.int 10)) (fC (.int 64)) (zm .Pow)) (zm .Mult))) as=some (.nx (as.set 2 (some (.lf true (.int most))))):=λas hl=>
  yK (wN zf (zcW zf zf (by decide)) (by first|decide|exact yC (by omega) (by omega)|omega) (yC (by decide +kernel) (by decide +kernel))) (by omega)
 by_cases hk:k<ns.length
 · obtain⟨v,hv⟩:=zgr h0 hk
   apply Exists.intro
   refine yP rfl (zx (s1 _ rfl) (yI (yD (yh (zeB (zb rfl) (W7 rfl)) ?_) (ye (yJ (wN (yJ (yH (zb rfl) (zb rfl) hv rfl) (zb rfl) hm) (zcW zf zf (by decide)) ?_ ?_) (zb rfl) hm)))))
   · exact congrArg some (zyK (by rw[zD];exact hk))
   · exact yC (by have:=zyJ v (show most≠0 by omega);omega) (by have:=zyD v hm;omega)
   · exact yC (by decide +kernel) (by decide +kernel)
 · have hkk:0<=k*k/\k*k<=10000:=⟨Int.mul_nonneg h0 h0,by have:=Int.mul_le_mul h1 h1 h0 (by omega);omega⟩
   obtain⟨x1,hx1,e1⟩:∃x1,(0<=x1/\x1<2 ^ 40)/\(sIf (fT (f2 (fV 0) (zP dN) (zH .NotEq))) (zF true 3 (f2 (fV 3) (f2 (f2 (f2 (fV 0) (f2 (fV 1) (fP (aC (fV 0) aN) yz) (zm .Mod)) ixP) (fC (.int 1000003)) (zm .Mod)) (f2 (f2 (fC (.int 2)) (fV 1) (zm .Mult)) (fC (.int 1)) (zm .Add)) (zm .Mult)) (zm .Add))) sNx)
    [some (.lf s (.lst (ns.map .int))),some (.lf t (.int k)),some (.lf true (.int most)),some (.lf true (.int (k*k+7*k+11))),none,none]=some (.nx [some (.lf s (.lst (ns.map .int))),some (.lf t (.int k)),some (.lf true (.int most)),some (.lf true (.int x1)),none,none]):=by
    cases ns with
    |nil=>
     refine⟨k*k+7*k+11,⟨by omega,by omega⟩,zJ (yh (zfM (zb rfl) (xW zU (by decide)) rfl) rfl) rfl⟩
    |cons n r=>
     have hl:(0:Int)<((n::r).map D.int).length:=by rw[zD,zzP];omega
     obtain⟨v,hv⟩:=zgr (ns:=n::r) (k:=k%(((n::r).map D.int).length:Int)) (zyJ _ (by omega)) (by have:=zyD k hl;rw[zD]at this;rw[zD];exact this)
     have hb:0<=v%1000003*(2*k+1)/\v%1000003*(2*k+1)<=1000003*201:=⟨Int.mul_nonneg (by omega) (by omega),Int.mul_le_mul (by omega) (by omega) (by omega) (by omega)⟩
     refine⟨k*k+7*k+11+v%1000003*(2*k+1),⟨by omega,by omega⟩,yD (yh (zfM (zb rfl) (xW zU (by decide)) rfl) rfl) (yK (yM (zb rfl) (wN (yJ (yH (zb rfl) (yJ (zb rfl) (W7 rfl) hl) hv rfl) zf (by decide)) (yM (wN zf (zb rfl) (by first|decide|exact yC (by omega) (by omega)|omega) (by first|decide|exact yC (by omega) (by omega)|omega)) zf) (by first|decide|exact yC (by omega) (by omega)|omega) (by first|decide|exact yC (by omega) (by omega)|omega))) (zQ rfl))⟩
   have hL:∃x f e,(WW (VL (aC (fC (.int 8)) aN) zdv) (gN 5) (zM (zF true 3 (f2 (f2 (f2 (f2 (f2 (fV 3) (fV 3) (zm .Mult)) (f2 (fC (.int 48271)) (fV 3) (zm .Mult)) (zm .Add)) (f2 (fC (.int 69621)) (fV 5) (zm .Mult)) (zm .Add)) (fV 1) (zm .Add)) (fC (.int 2147483629)) (zm .Mod)))
   (zF true 4 (f2 (f2 (fV 4) (fC (.int 998244353)) (zm .Mult)) (f2 (f2 (fV 3) (fC (.int 16807)) (zm .Mult)) (fC (.int 2147483587)) (zm .Mod)) (zm .Add)))))
    [some (.lf s (.lst (ns.map .int))),some (.lf t (.int k)),some (.lf true (.int most)),some (.lf true (.int x1)),some (.lf true (.int 0)),none]=some (.nx [some (.lf s (.lst (ns.map .int))),some (.lf t (.int k)),some (.lf true (.int most)),some (.lf true (.int x)),some (.lf true (.int f)),e]):=by
    obtain⟨as',h1,x,f,e,rfl,_⟩:=Vg (g:=gN 5) (f:=(zM (zF true 3 (f2 (f2 (f2 (f2 (f2 (fV 3) (fV 3) (zm .Mult)) (f2 (fC (.int 48271)) (fV 3) (zm .Mult)) (zm .Add)) (f2 (fC (.int 69621)) (fV 5) (zm .Mult)) (zm .Add)) (fV 1) (zm .Add)) (fC (.int 2147483629)) (zm .Mod))) (zF true 4 (f2 (f2 (fV 4) (fC (.int 998244353)) (zm .Mult)) (f2 (f2 (fV 3) (fC (.int 16807)) (zm .Mult)) (fC (.int 2147483587)) (zm .Mod)) (zm .Add))))) (λi as=>∃x f e,as=[some (.lf s (.lst (ns.map .int))),some (.lf t (.int k)),some (.lf true (.int most)),some (.lf true (.int x)),some (.lf true (.int f)),e]/\0<=x/\x<2 ^ 40/\0<=f/\f<((2 ^ (32*(i+1)):Nat):Int)) (vH 0 8) 0 [some (.lf s (.lst (ns.map .int))),some (.lf t (.int k)),some (.lf true (.int most)),some (.lf true (.int x1)),some (.lf true (.int 0)),none] (λi y as hi h=>by
     obtain⟨x,f,e,rfl,a1,a2,a3,a4⟩:=h
     obtain⟨rfl,hi8⟩:=zbC hi
     refine⟨_,rfl, ?_⟩
     have p1:2 ^ (32*(0+i+1+1))=2 ^ (32*(0+i+1))*2 ^ 32:=by rw[<-Nat.pow_add];congr 1
     have p2:2 ^ (32*(0+i+1))<=2 ^ 256:=Nat.pow_le_pow_right (by decide) (by omega)
     have p3:0<2 ^ (32*(0+i+1)):=Nat.pow_pos (by decide)
     generalize 2 ^ (32*(0+i+1))=Pw at *
     refine⟨_,zx (yK (i:=3) (yJ (yM (yM (yM (wN (zb rfl) (zb rfl) (by first|decide|exact yC (by omega) (by omega)|omega) (by first|decide|exact yC (by omega) (by omega)|omega)) (wN zf (zb rfl) (by first|decide|exact yC (by omega) (by omega)|omega) (by first|decide|exact yC (by omega) (by omega)|omega))) (wN zf (zb rfl) (by first|decide|exact yC (by omega) (by omega)|omega) (by first|decide|exact yC (by omega) (by omega)|omega))) (zb rfl)) zf (by decide)) (zQ rfl)) (yK (i:=4) (yM (wN (zb rfl) zf (by first|decide|exact yC (by omega) (by omega)|omega) (by first|decide|exact yC (by omega) (by omega)|omega)) (yJ (wN (zb rfl) zf (by first|decide|exact yC (by omega) (by omega)|omega) (by first|decide|exact yC (by omega) (by omega)|omega)) zf (by decide))) (zQ rfl)),_,_,_,rfl, ?_⟩
     rw[p1]
     refine⟨by omega,by omega,by omega,by omega⟩)
     ⟨x1,0,none,rfl,hx1.1,hx1.2,by decide,by decide⟩
    exact⟨x,f,e,wW (zaj (zB zf zN) (by decide) (by decide)) h1⟩
   obtain⟨x,f,e,hL⟩:=hL
   apply Exists.intro
   refine yP rfl (zx (s1 _ rfl) (zx (zJ (yh (zeB (zb rfl) (W7 rfl)) ?_) rfl) (zx (yK (i:=3) (yM (yM (wN (zb rfl) (zb rfl) (by first|decide|exact yC (by omega) (by omega)|omega) (by first|decide|exact yC (by omega) (by omega)|omega)) (wN zf (zb rfl) (by first|decide|exact yC (by omega) (by omega)|omega) (by first|decide|exact yC (by omega) (by omega)|omega))) zf) (zQ rfl)) (zx e1 (zx (yK (i:=4) zf (zQ rfl)) (zx hL (ye (yJ (zb rfl) (zb rfl) hm))))))))
   exact congrArg some (zyC (by rw[zD];exact hk))
theorem WM{ns:List Int}{k:Int}{s t:Bool}(h0:0<=k)(h1:k<=100):∃x,0<=x/\x<10 ^ 67/\yq [(s,.lst (ns.map .int)),(t,.int k)]=some (.lf true (.int x)):=by
 have hm:(0:Int)<most:=by rw[zat];decide
 obtain⟨y,h⟩:=zhT (ns:=ns) (s:=s) (t:=t) h0 h1
 exact⟨_,zyJ _ (by omega),by rw[<-zat];exact zyD _ hm,h⟩
def zay:Int->List Int->List Int
 |_,[]=>[]
 |x,m::r=>x%m::zay (x/m) r
abbrev lfI(x:Int):O:=.lf true (.int x)
theorem zec{s:Bool}{A:Option O}:∀(ms:List Int) (x:Int) (os:List O) (e:Option O),(∀m ∈ ms,0<m/\m<10 ^ 50)->os.length+ms.length<=1000->∃x' e',
 forL (gN 3) (zM (xU (xx 2 (dC (f2 (fV 0) (fV 3) (zm .Mod)) dN) Vd)) (zF true 0 (f2 (fV 0) (fV 3) (zm .FloorDiv)))) (kids s (ms.map D.int)) [some (lfI x),A,some (.nd .ls os),e]=some (.nx [some (lfI x'),A,some (.nd .ls (os++(zay x ms).map lfI)),e'])
 | [],x,os,e,_,_=>⟨x,e,by show some _=some _;rw[show(zay x []).map lfI=[]from rfl,zyA]⟩
 |m::r,x,os,e,h,hl=>by
  have hm:=h m (zzB ..)
  rw[zzP]at hl
  obtain⟨x',e',ih⟩:=zec (s:=s) (A:=A) r (x/m) (os++[lfI (x%m)]) (some (lfI m)) (λy hy=>h y (zS _ hy)) (by rw[zzF];show os.length+1+_<=_;omega)
  refine⟨x',e', ?_⟩
  have e1:os++(zay x (m::r)).map lfI=(os++[lfI (x%m)])++(zay (x/m) r).map lfI:=by rw[zyZ];rfl
  rw[e1]
  have e2:kids s ((m::r).map D.int)=(true,.int m)::kids s (r.map D.int):=rfl
  rw[e2]
  refine xj (as1:=[some (lfI x),A,some (.nd .ls os),some (lfI m)]) rfl (zx (zds (i:=2) rfl (ZW (by omega)) (yJ (zb rfl) (zb rfl) hm.1)) (yK (i:=0) (VJ (zb rfl) (zb rfl) hm.1 (yC (by omega) (by omega))) (zQ rfl))) ih
theorem zeC:∀xs:List Int,O.strs (xs.map lfI)=true
 | []=>rfl
 |_::r=>zeC r
theorem ZX{x:Int}{s:Bool}{ms:List Int}(h:∀m ∈ ms,0<m/\m<10 ^ 50)(hl:ms.length<=1000):zL [(true,.int x),(s,.lst (ms.map .int))]=some (.nd .ls ((zay x ms).map lfI)):=by
 obtain⟨x',e',hf⟩:=zec (s:=s) (A:=some (.lf s (.lst (ms.map .int)))) ms x [] none h (by simpa using hl)
 refine yP rfl (zx (zga (i:=2) (xW zU (by decide)) (zQ rfl)) (zx (wW (zjp rfl) hf) (zjY (i:=2) rfl ?_)))
 exact zeC _
inductive Tm where
 |num (v:Int)|nam (x:Str)|op (w:Str) (x y:Tm)|sm (x y z u:Tm)|bad (d:D)
def Tm.toD:Tm->D
 | .num v=>.tup [.str "number",.int v]
 | .nam x=>.tup [.str "name",.str x]
 | .op w x y=>.tup [.str w,x.toD,y.toD]
 | .sm x y z u=>.tup [.str "same",x.toD,y.toD,z.toD,u.toD]
 | .bad d=>d
def Tm.ht:Tm->Nat
 | .num _=>1
 | .nam _=>1
 | .op _ x y=>max x.ht y.ht+1
 | .sm x y z u=>max (max x.ht y.ht) (max z.ht u.ht)+1
 | .bad _=>1
def Tm.lv:Tm->Nat
 | .num _=>1
 | .nam _=>1
 | .op _ x y=>x.lv+y.lv
 | .sm x y z u=>x.lv+y.lv+z.lv+u.lv
 | .bad _=>1
def Tm.cnt:Tm->Nat
 | .num _=>1
 | .nam _=>1
 | .op _ x y=>x.cnt+y.cnt+1
 | .sm x y z u=>x.cnt+y.cnt+z.cnt+u.cnt+1
 | .bad _=>1
def isNm(x:Str):Prop:=x="a"\/x="b"\/x="c"
def zmY(x:Str):Prop:=x="add"\/x="take"\/x="times"\/x="most"\/x="least"
def Tm.ok:Tm->Prop
 | .num v=>0<=v/\v<10 ^ 60
 | .nam x=>isNm x
 | .op w x y=>zmY w/\x.ok/\y.ok
 | .sm x y z u=>x.ok/\y.ok/\z.ok/\u.ok
 | .bad _=>False
theorem Tm.lv_pos:∀t:Tm,1<=t.lv/\t.ht<=t.lv/\t.cnt+1<=2*t.lv
 | .num _=>by simp[Tm.lv,Tm.ht,Tm.cnt]
 | .nam _=>by simp[Tm.lv,Tm.ht,Tm.cnt]
 | .op _ x y=>by
  have:=Tm.lv_pos x;have:=Tm.lv_pos y
  simp only[Tm.lv,Tm.ht,Tm.cnt];omega
 | .sm x y z u=>by
  have:=Tm.lv_pos x;have:=Tm.lv_pos y;have:=Tm.lv_pos z;have:=Tm.lv_pos u
  simp only[Tm.lv,Tm.ht,Tm.cnt];omega
 | .bad _=>by simp[Tm.lv,Tm.ht,Tm.cnt]
def lvL:List Tm->Nat
 | []=>0
 |t::r=>t.lv+lvL r
theorem zfZ:∀(a b:List Tm),lvL (a++b)=lvL a+lvL b
 | [],b=>by simp[lvL]
 |x::r,b=>by show x.lv+lvL (r++b)=x.lv+lvL r+lvL b;rw[zfZ r b];omega
theorem zcg:∀(ts:List Tm) (j:Nat) (h:j<ts.length),lvL ts=ts[j].lv+lvL (ts.eraseIdx j)
 |x::r,0,_=>rfl
 |x::r,j+1,h=>by
  have h':j<r.length:=Nat.lt_of_succ_lt_succ h
  have:=zcg r j h'
  show x.lv+lvL r=r[j].lv+(x.lv+lvL (r.eraseIdx j))
  omega
abbrev zer:D:=.lst [.str "a",.str "b",.str "c"]
theorem zlp{x:Int}(hx:0<=x):∃t:Tm,t.ok/\t.lv=1/\wV [(true,.int x),(true,zer)]=some (.lf true t.toD):=by
 have hd:zL [(true,.int x),(true,.lst (([4,30,12]:List Int).map .int))]=some (.nd .ls ((zay x [4,30,12]).map lfI)):=ZX (by decide) (by decide)
 have s1:Vr (zV (aC (fV 0) (aC (zP (dC (fC (.int 4)) (dC (fC (.int 30)) (dC (fC (.int 12)) dN)))) aN)) zL) (gT 3 (gsC (gN 2) (gsC (gN 3) (gsC (gN 4) gsN)))) [some (lfI x),some (.lf true zer),none,none,none]
  = some (.nx [some (lfI x),some (.lf true zer),some (lfI (x%4)),some (lfI (x/4%30)),some (lfI (x/4/30%12))]):=
  zaN (Za (zB (zb rfl) (vC (xW (zp zf (zp zf (zp zf zU))) (by decide)) zN)) hd) rfl
 have s2:∀as:AS,as=[some (lfI x),some (.lf true zer),some (lfI (x%4)),some (lfI (x/4%30)),some (lfI (x/4/30%12))]->WT (Yw (fT (f2 (fV 2) (fC (.int 0)) (zH .Eq))) (fT (f2 (fV 1) (zP dN) (zH .Eq)))) as (x%4==0):=λas e=>by
  subst e
  refine zbo (yh (wC (zb rfl) zf rfl) rfl) (λh=>?_) (λh=>h)
  rw[h]
  exact yh (zfM (zb rfl) (xW zU (by decide)) rfl) rfl
 by_cases h0:x%4=0
 · -- a number
   have hsm:∀k:Int,(k=0\/k=1)->∃v,(0<=v/\v<10 ^ 60)/\ixP (.lst (O.toDs [lfI (x/4%30),lfI (x/1440%10 ^ (60:Int).toNat)])) (.int k)=some (.im (.int v)):=λk hk=>by
    rcases hk with rfl|rfl
    · exact⟨_,⟨by omega,by omega⟩,rfl⟩
    · refine⟨_,⟨?_, ?_⟩,rfl⟩
      · exact zyJ _ (by decide)
      · have:=zyD (x/1440) (show(0:Int)<10 ^ (60:Int).toNat by decide)
        have e:(10:Int) ^ (60:Int).toNat=10 ^ 60:=rfl
        rw[e]at this ⊢
        omega
   obtain⟨v,hv,e⟩:=hsm (if(x/4%30%5==1)=true then 1 else 0) (by split<;>simp)
   refine⟨.num v,hv,rfl,yP rfl (zx s1 (yI (yD (by have:=s2 _ rfl;rw[show(x%4==0)=true by simp[h0]]at this;exact this) (ye ?_))))⟩
   refine Wf (zp zf (zp (zcL (zp (zb rfl) (zp (yJ (VJ (zb rfl) zf (by decide) (yC (by decide) (by decide))) (zcW zf zf (by decide)) (by decide)) zU)) (szl rfl) (yp (zB (wC (yJ (zb rfl) zf (by decide)) zf rfl) zN) rfl rfl) e) zU)) (szl rfl) rfl
 · have hF:WT (Yw (fT (f2 (fV 2) (fC (.int 0)) (zH .Eq))) (fT (f2 (fV 1) (zP dN) (zH .Eq)))) [some (lfI x),some (.lf true zer),some (lfI (x%4)),some (lfI (x/4%30)),some (lfI (x/4/30%12))] false:=by
    have:=s2 _ rfl
    rw[show(x%4==0)=false by simp[h0]]at this
    exact this
   by_cases h1:x%4=1
   · refine⟨.num (x/4%30%3),⟨by omega,by omega⟩,rfl,yP rfl (zx s1 (zx (zJ hF rfl) (yI (yD (yh (wC (zb rfl) zf rfl) ?_) (ye (Wf (zp zf (zp (yJ (zb rfl) zf (by decide)) zU)) (szl rfl) rfl))))))⟩
     show some (x%4==1)=some true
     simp[h1]
   · have hnm:∀k:Int,0<=k->k<3->∃n,isNm n/\ixP zer (.int k)=some (.im (.str n)):=λk a b=>by
      have:k=0\/k=1\/k=2:=by omega
      rcases this with rfl|rfl|rfl
      · exact⟨"a",.inl rfl,rfl⟩
      · exact⟨"b",.inr (.inl rfl),rfl⟩
      · exact⟨"c",.inr (.inr rfl),rfl⟩
     obtain⟨n,hn,e⟩:=hnm (x/4/30%12%(([.str "a",.str "b",.str "c"]:List D).length:Int)) (by show 0<=x/4/30%12%3;omega) (by show x/4/30%12%3<3;omega)
     refine⟨.nam n,hn,rfl,yP rfl (zx s1 (zx (zJ hF rfl) (zx (zJ (yh (wC (zb rfl) zf rfl) ?_) rfl) (ye (Wf (zp zf (zp (yH (zb rfl) (yJ (zb rfl) (W7 rfl) (by decide)) e rfl) zU)) (szl rfl) rfl)))))⟩
     show some (x%4==1)=some false
     simp[h1]
abbrev tO(t:Tm):O:=.lf true t.toD
theorem zdl{ts:List Tm}{j:Nat}(h:j<ts.length):∃(t:Tm) (ts':List Tm),t ∈ ts/\(∀x ∈ ts',x ∈ ts)/\ts'.length+1=ts.length/\(ts.map tO)[j]? = some (tO t)/\(ts.map tO).eraseIdx j=ts'.map tO/\lvL ts=t.lv+lvL ts':=by
 refine⟨ts[j],ts.eraseIdx j,zyW h,λx hx=>List.mem_of_mem_eraseIdx hx,by rw[List.length_eraseIdx_of_lt h];omega,by rw[zzE,zzA h];rfl, ?_,zcg ts j h⟩
 rw[List.eraseIdx_eq_take_drop_succ,List.eraseIdx_eq_take_drop_succ,zyI,List.map_take,List.map_drop]
abbrev zlu:SF:=(zM (sIf (fT (f2 (fP (aC (fV 6) aN) yz) (fC (.int 1)) (zH .Eq))) (yF (f2 (fV 6) (fC (.int 0)) ixP)) sNx)
 (zM (Vr (zV (aC (zV (aC (fV 0) (aC (f2 (f2 (fV 1) (fC (.int 14)) (zm .Add)) (fV 7) (zm .Add)) aN)) yq) (aC (zP (dC (fC (.int 12)) (dC (fC (.int 360360)) (dC (fC (.int 360360)) dN)))) aN)) zL) (gT 3 (gsC (gN 8) (gsC (gN 9) (gsC (gN 10) gsN)))))
 (zM (zF true 9 (f2 (f2 (fV 9) (fP (aC (fV 6) aN) yz) (zm .Mod)) (fP (aC (f2 (fV 4) (fC (.int 2)) (zH .Lt)) aN) Y5) (zm .Mult)))
 (zM (zF true 11 (xx 6 (dC (fV 9) dN) xR))
 (zM (zF true 12 (xx 6 (dC (f2 (fV 10) (fP (aC (fV 6) aN) yz) (zm .Mod)) dN) xR))
 (zM (zF true 13 (zP (dC (fV 11) (dC (fV 12) dN))))
 (sIf (vL (fT (f2 (fV 8) (fC (.int 9)) (zH .Gt))) (fT (f2 (fP (aC (fV 6) aN) yz) (fC (.int 1)) (zH .Gt)))) (zM (zF true 13 (f2 (fV 13) (zP (dC (xx 6 (dC (fC (.int 0)) dN) xR) (dC (xx 6 (dC (f2 (f2 (fV 10) (fC (.int 13)) (zm .FloorDiv)) (fP (aC (fV 6) aN) yz) (zm .Mod)) dN) xR) dN))) (zm .Add)))
 (xU (xx 6 (dC (fC (.int 0)) (dC (fP (aC (f2 (zP (dC (fC (.str "same")) dN)) (fV 13) (zm .Add)) aN) tupP) dN)) Xl))) (zM (zF true 14 (f2 (zP (dC (fC (.str "add")) (dC (fC (.str "take")) (dC (fC (.str "times")) (dC (fC (.str "most")) (dC (fC (.str "least")) dN)))))) (f2 (fV 8) (fC (.int 5)) (zm .Mod)) ixP))
 (xU (xx 6 (dC (fC (.int 0)) (dC (fP (aC (f2 (zP (dC (fV 14) dN)) (zP (dC (f2 (fV 13) (f2 (f2 (fV 8) (fC (.int 5)) (zm .FloorDiv)) (fC (.int 2)) (zm .Mod)) ixP) (dC (f2 (fV 13) (f2 (fC (.int 1)) (f2 (f2 (fV 8) (fC (.int 5)) (zm .FloorDiv)) (fC (.int 2)) (zm .Mod)) (zm .Sub)) ixP) dN))) (zm .Add)) aN) tupP) dN)) Xl))))))))))
abbrev Sl(ns:List Int)(st:Int)(b3:Option O)(sh:Int)(b5:Option O)(ts:List Tm)(e7 e8 e9 e10 e11 e12 e13 e14:Option O):AS:=
 [some (.lf true (.lst (ns.map .int))),some (lfI st),some (.lf true zer),b3,some (lfI sh),b5,some (.nd .ls (ts.map tO)),e7,e8,e9,e10,e11,e12,e13,e14]
theorem zku{ns:List Int}{st k sh:Int}{b3 b5 e8 e9 e10 e11 e12 e13 e14:Option O}{ts:List Tm}(hst:0<=st/\st<=40)(hk:0<=k/\k<=13)(hl:2<=ts.length)(hl2:ts.length<=13)(ht:∀t ∈ ts,t.ok):
 ∃(ts':List Tm) (f8 f9 f10 f11 f12 f13 f14:Option O),(1<=ts'.length/\ts'.length+1<=ts.length)/\(∀t ∈ ts',t.ok)/\lvL ts'=lvL ts/\
  zlu (Sl ns st b3 sh b5 ts (some (lfI k)) e8 e9 e10 e11 e12 e13 e14) =
   some (.nx (Sl ns st b3 sh b5 ts' (some (lfI k)) f8 f9 f10 f11 f12 f13 f14)):=by
 obtain⟨x,hx0,hx1,hdr⟩:=WM (ns:=ns) (k:=st+14+k) (s:=true) (t:=true) (by omega) (by omega)
 have hdg:zL [(true,.int x),(true,.lst (([12,360360,360360]:List Int).map .int))]=some (.nd .ls ((zay x [12,360360,360360]).map lfI)):=ZX (by decide) (by decide)
 have hn:((ts.map tO).length:Int)=(ts.length:Int):=by rw[zD]
 obtain⟨hr,hr0,hr1,ehr⟩:∃hr:Int,0<=hr/\hr<ts.length/\x/12%360360%((ts.map tO).length:Int)*(if decide (sh<2)=true then 1 else 0)=hr:=by
  rw[hn]
  have a:=zyJ (x/12%360360) (show(ts.length:Int)≠0 by omega)
  have b:=zyD (x/12%360360) (show(0:Int)<(ts.length:Int) by omega)
  by_cases c:sh<2
  · exact⟨_,a,b,by simp[c]⟩
  · exact⟨0,by omega,by omega,by simp[c]⟩
 obtain⟨t1,ts1,m1,s1,l1,g1,e1,v1⟩:=zdl (ts:=ts) (j:=hr.toNat) (by omega)
 have hn1:((ts1.map tO).length:Int)=(ts1.length:Int):=by rw[zD]
 have p0:(0:Int)<((ts1.map tO).length:Int):=by rw[hn1];omega
 obtain⟨t2,ts2,m2,s2,l2,g2,e2,v2⟩:=zdl (ts:=ts1) (j:=(x/12/360360%360360%((ts1.map tO).length:Int)).toNat) (by
  have:=zyD (x/12/360360%360360) p0
  have:=zyJ (x/12/360360%360360) (show((ts1.map tO).length:Int)≠0 by omega)
  omega)
 have o1:=ht t1 m1
 have o2:=ht t2 (s1 _ m2)
 have hn2:((ts2.map tO).length:Int)=(ts2.length:Int):=by rw[zD]
 have run:∀(C:SF) (o:Option Out),C (Sl ns st b3 sh b5 ts2 (some (lfI k)) (some (lfI (x%12))) (some (lfI hr)) (some (lfI (x/12/360360%360360))) (some (tO t1)) (some (tO t2)) (some (.lf true (.lst [t1.toD,t2.toD]))) e14)=o->
  (zM (sIf (fT (f2 (fP (aC (fV 6) aN) yz) (fC (.int 1)) (zH .Eq))) (yF (f2 (fV 6) (fC (.int 0)) ixP)) sNx)
  (zM (Vr (zV (aC (zV (aC (fV 0) (aC (f2 (f2 (fV 1) (fC (.int 14)) (zm .Add)) (fV 7) (zm .Add)) aN)) yq) (aC (zP (dC (fC (.int 12)) (dC (fC (.int 360360)) (dC (fC (.int 360360)) dN)))) aN)) zL) (gT 3 (gsC (gN 8) (gsC (gN 9) (gsC (gN 10) gsN)))))
  (zM (zF true 9 (f2 (f2 (fV 9) (fP (aC (fV 6) aN) yz) (zm .Mod)) (fP (aC (f2 (fV 4) (fC (.int 2)) (zH .Lt)) aN) Y5) (zm .Mult)))
  (zM (zF true 11 (xx 6 (dC (fV 9) dN) xR))
  (zM (zF true 12 (xx 6 (dC (f2 (fV 10) (fP (aC (fV 6) aN) yz) (zm .Mod)) dN) xR))
  (zM (zF true 13 (zP (dC (fV 11) (dC (fV 12) dN)))) C)))))) (Sl ns st b3 sh b5 ts (some (lfI k)) e8 e9 e10 e11 e12 e13 e14)=o:=λC o hC=>by
  refine zx (zJ (yh (wC (zdq rfl) zf rfl) ?_) rfl) ?_
  · show some (((ts.map tO).length:Int)==1)=some false
    rw[hn];simp;omega
  refine zx (as1:=Sl ns st b3 sh b5 ts (some (lfI k)) (some (lfI (x%12))) (some (lfI (x/12%360360))) (some (lfI (x/12/360360%360360))) e11 e12 e13 e14) (zaN (Za (zB (vh (zB (zb rfl) (zB (yM (yM (zb rfl) zf) (zb rfl)) zN)) hdr) (vC (xW (zp zf (zp zf (zp zf zU))) (szl rfl)) zN)) hdg) rfl) ?_
  have q3:zF true 9 (f2 (f2 (fV 9) (fP (aC (fV 6) aN) yz) (zm .Mod)) (fP (aC (f2 (fV 4) (fC (.int 2)) (zH .Lt)) aN) Y5) (zm .Mult)) (Sl ns st b3 sh b5 ts (some (lfI k)) (some (lfI (x%12))) (some (lfI (x/12%360360))) (some (lfI (x/12/360360%360360))) e11 e12 e13 e14)
   = some (.nx (Sl ns st b3 sh b5 ts (some (lfI k)) (some (lfI (x%12))) (some (lfI hr)) (some (lfI (x/12/360360%360360))) e11 e12 e13 e14)):=by
   have a:=zyJ (x/12%360360) (show((ts.map tO).length:Int)≠0 by omega)
   have b:=zyD (x/12%360360) (show(0:Int)<((ts.map tO).length:Int) by omega)
   have:=yK (st:=true) (i:=9) (as:=Sl ns st b3 sh b5 ts (some (lfI k)) (some (lfI (x%12))) (some (lfI (x/12%360360))) (some (lfI (x/12/360360%360360))) e11 e12 e13 e14) (wN (yJ (zb (i:=9) rfl) (zdq (i:=6) rfl) (by omega)) (yp (x:=.int (if decide (sh<2)=true then 1 else 0)) (zB (zeB (zb (i:=4) rfl) (zf (x:=.int 2))) zN) (g:=Y5) rfl rfl) (yC (by omega) (by omega)) (by split;exact yC (i:=1) (by decide) (by decide);exact yC (i:=0) (by decide) (by decide))) (zQ rfl)
   rw[ehr]at this
   exact this
  refine zx q3 ?_
  refine zx (as1:=Sl ns st b3 sh b5 ts1 (some (lfI k)) (some (lfI (x%12))) (some (lfI hr)) (some (lfI (x/12/360360%360360))) (some (tO t1)) e12 e13 e14) ?_ ?_
  · have:=zcF (i:=11) (Y7 (as:=Sl ns st b3 sh b5 ts (some (lfI k)) (some (lfI (x%12))) (some (lfI hr)) (some (lfI (x/12/360360%360360))) e11 e12 e13 e14) (i:=6) rfl (zb (i:=9) rfl) hr0 (by rw[hn];omega) (by rw[zD];omega) g1) (zQ rfl)
    rw[e1]at this
    exact this
  refine zx (as1:=Sl ns st b3 sh b5 ts2 (some (lfI k)) (some (lfI (x%12))) (some (lfI hr)) (some (lfI (x/12/360360%360360))) (some (tO t1)) (some (tO t2)) e13 e14) ?_ ?_
  · have:=zcF (i:=12) (Y7 (as:=Sl ns st b3 sh b5 ts1 (some (lfI k)) (some (lfI (x%12))) (some (lfI hr)) (some (lfI (x/12/360360%360360))) (some (tO t1)) e12 e13 e14) (i:=6) rfl (yJ (zb (i:=10) rfl) (zdq (i:=6) rfl) p0) (zyJ _ (by omega)) (zyD _ p0) (by rw[zD];omega) g2) (zQ rfl)
    rw[e2]at this
    exact this
  exact zx (zam (i:=13) (xW (zp (zb rfl) (zp (zb rfl) zU)) (szl rfl)) (zQ rfl)) hC
 have hop:0<=x%12/\x%12<12:=⟨by omega,by omega⟩
 have hcond:WT (vL (fT (f2 (fV 8) (fC (.int 9)) (zH .Gt))) (fT (f2 (fP (aC (fV 6) aN) yz) (fC (.int 1)) (zH .Gt)))) (Sl ns st b3 sh b5 ts2 (some (lfI k)) (some (lfI (x%12))) (some (lfI hr)) (some (lfI (x/12/360360%360360))) (some (tO t1)) (some (tO t2)) (some (.lf true (.lst [t1.toD,t2.toD]))) e14) (decide (9<x%12)&&decide (1<((ts2.map tO).length:Int))):=by
  refine zax (yh (Zh (zb rfl) zf) rfl) (λh=>?_) (λh=>by rw[h];rfl)
  rw[h]
  exact yh (Zh (zdq rfl) zf) rfl
 by_cases hc:(decide (9<x%12)&&decide (1<((ts2.map tO).length:Int)))=true
 · rw[hc]at hcond
   have hc2:1<ts2.length:=by
    have:=of_decide_eq_true (Bool.and_eq_true_iff.mp hc).2
    omega
   obtain⟨t3,ts3,m3,s3,l3,g3,e3,v3⟩:=zdl (ts:=ts2) (j:=(0:Int).toNat) (show 0<_ by omega)
   have hn3:((ts3.map tO).length:Int)=(ts3.length:Int):=by rw[zD]
   have p3:(0:Int)<((ts3.map tO).length:Int):=by rw[hn3];omega
   obtain⟨t4,ts4,m4,s4,l4,g4,e4,v4⟩:=zdl (ts:=ts3) (j:=(x/12/360360%360360/13%((ts3.map tO).length:Int)).toNat) (by
    have:=zyD (x/12/360360%360360/13) p3
    have:=zyJ (x/12/360360%360360/13) (show((ts3.map tO).length:Int)≠0 by omega)
    omega)
   have o3:=ht t3 (s1 _ (s2 _ m3))
   have o4:=ht t4 (s1 _ (s2 _ (s3 _ m4)))
   refine⟨.sm t1 t2 t3 t4::ts4,some (lfI (x%12)),some (lfI hr),some (lfI (x/12/360360%360360)),some (tO t1),some (tO t2),some (.lf true (.lst [t1.toD,t2.toD,t3.toD,t4.toD])),e14,⟨by rw[zzP];omega,by rw[zzP];omega⟩, ?_,by show t1.lv+t2.lv+t3.lv+t4.lv+lvL ts4=_;omega,run _ _ (yD hcond (zx (as1:=Sl ns st b3 sh b5 ts4 (some (lfI k)) (some (lfI (x%12))) (some (lfI hr)) (some (lfI (x/12/360360%360360))) (some (tO t1)) (some (tO t2)) (some (.lf true (.lst [t1.toD,t2.toD,t3.toD,t4.toD]))) e14) ?_ ?_))⟩
   · intro t m
     rcases zI.mp m with rfl|m
     · exact⟨o1,o2,o3,o4⟩
     · exact ht t (s1 _ (s2 _ (s3 _ (s4 _ m))))
   · have pp:=Y7 (as:=Sl ns st b3 sh b5 ts2 (some (lfI k)) (some (lfI (x%12))) (some (lfI hr)) (some (lfI (x/12/360360%360360))) (some (tO t1)) (some (tO t2)) (some (.lf true (.lst [t1.toD,t2.toD]))) e14) (i:=6) (a:=fC (.int 0)) rfl zf (by decide) (by omega) (by rw[zD];omega) g3
     rw[e3]at pp
     have pq:=Y7 (as:=Sl ns st b3 sh b5 ts3 (some (lfI k)) (some (lfI (x%12))) (some (lfI hr)) (some (lfI (x/12/360360%360360))) (some (tO t1)) (some (tO t2)) (some (.lf true (.lst [t1.toD,t2.toD]))) e14) (i:=6) rfl (yJ (VJ (zb (i:=10) rfl) (zf (x:=.int 13)) (by decide) (yC (by decide) (by decide))) (zdq (i:=6) rfl) p3) (zyJ _ (by omega)) (zyD _ p3) (by rw[zD];omega) g4
     rw[e4]at pq
     exact zcF (as1:=Sl ns st b3 sh b5 ts4 (some (lfI k)) (some (lfI (x%12))) (some (lfI hr)) (some (lfI (x/12/360360%360360))) (some (tO t1)) (some (tO t2)) (some (.lf true (.lst [t1.toD,t2.toD]))) e14) (i:=13) (zai (zb rfl) (zlk (zdL pp (zdL (os:=[]) pq rfl)) (szl rfl)) (add_lists (xs:=[t1.toD,t2.toD]) (szl rfl)) rfl rfl) (zQ rfl)
   · exact zfN (as1:=[]) (i:=6) rfl (by rw[zD];exact ZW (by omega)) (show WD (fP (aC (f2 (zP (dC (fC (.str "same")) dN)) (fV 13) (zm .Add)) aN) tupP) _ true (Tm.toD _)from zau (vC (zai (xW (zp zf zU) (szl rfl)) (zb rfl) (add_lists (szl rfl)) rfl rfl) zN) rfl rfl)
 · have hc':=Bool.eq_false_iff.mpr hc
   rw[hc']at hcond
   obtain⟨w,hw,ew⟩:∃w,zmY w/\ixP (.lst (O.toDs [.lf true (.str "add"),.lf true (.str "take"),.lf true (.str "times"),.lf true (.str "most"),.lf true (.str "least")])) (.int (x%12%5))=some (.im (.str w)):=by
    have:x%12%5=0\/x%12%5=1\/x%12%5=2\/x%12%5=3\/x%12%5=4:=by omega
    rcases this with e|e|e|e|e<;>rw[e]
    · exact⟨"add",.inl rfl,rfl⟩
    · exact⟨"take",.inr (.inl rfl),rfl⟩
    · exact⟨"times",.inr (.inr (.inl rfl)),rfl⟩
    · exact⟨"most",.inr (.inr (.inr (.inl rfl))),rfl⟩
    · exact⟨"least",.inr (.inr (.inr (.inr rfl))),rfl⟩
   obtain⟨ta,tb,oa,ob,vab,ea,eb⟩:∃ta tb:Tm,ta.ok/\tb.ok/\ta.lv+tb.lv=t1.lv+t2.lv/\ixP (.lst [t1.toD,t2.toD]) (.int (x%12/5%2))=some (.im ta.toD)/\ixP (.lst [t1.toD,t2.toD]) (.int (1-x%12/5%2))=some (.im tb.toD):=by
    have:x%12/5%2=0\/x%12/5%2=1:=by omega
    rcases this with e|e<;>rw[e]
    · exact⟨t1,t2,o1,o2,rfl,rfl,rfl⟩
    · exact⟨t2,t1,o2,o1,Nat.add_comm _ _,rfl,rfl⟩
   refine⟨.op w ta tb::ts2,some (lfI (x%12)),some (lfI hr),some (lfI (x/12/360360%360360)),some (tO t1),some (tO t2),some (.lf true (.lst [t1.toD,t2.toD])),some (.lf true (.str w)),⟨by rw[zzP];omega,by rw[zzP];omega⟩, ?_,by show ta.lv+tb.lv+lvL ts2=_;omega,run _ _ (zJ hcond (zx (as1:=Sl ns st b3 sh b5 ts2 (some (lfI k)) (some (lfI (x%12))) (some (lfI hr)) (some (lfI (x/12/360360%360360))) (some (tO t1)) (some (tO t2)) (some (.lf true (.lst [t1.toD,t2.toD]))) (some (.lf true (.str w)))) (yK (i:=14) (zcL (zp zf (zp zf (zp zf (zp zf (zp zf zU))))) (szl rfl) (yJ (zb rfl) zf (by decide)) ew) (zQ rfl)) ?_))⟩
   · intro t m
     rcases zI.mp m with rfl|m
     · exact⟨hw,oa,ob⟩
     · exact ht t (s1 _ (s2 _ m))
   · exact zfN (as1:=[]) (i:=6) rfl (by rw[zD];exact ZW (by omega)) (show WD _ _ true (Tm.toD _)from zau (vC (zai (xW (zp (zb rfl) zU) (szl rfl)) (xW (zp (Wj (zb rfl) (yJ (VJ (zb rfl) zf (by decide) (yC (by decide) (by decide))) zf (by decide)) ea) (zp (Wj (zb rfl) (zjf zf (yJ (VJ (zb rfl) zf (by decide) (yC (by decide) (by decide))) zf (by decide))) eb) zU)) (szl rfl)) (add_lists (szl rfl)) rfl rfl) zN) rfl rfl)
theorem zlJ{ns:List Int}{st sh:Int}{b3 b5:Option O}(hst:0<=st/\st<=40):∀(n:Nat) (k:Int) (ts:List Tm) (e7 e8 e9 e10 e11 e12 e13 e14:Option O),0<=k->k+n<=13->1<=ts.length->ts.length<=n->(∀t ∈ ts,t.ok)->
 ∃t:Tm,t.ok/\t.lv=lvL ts/\forL (gN 7) zlu (vH k n) (Sl ns st b3 sh b5 ts e7 e8 e9 e10 e11 e12 e13 e14)=some (.rt (tO t))
 |0,k,ts,e7,e8,e9,e10,e11,e12,e13,e14,_,_,h1,h2,_=>by omega
 |n+1,k,ts,e7,e8,e9,e10,e11,e12,e13,e14,hk,hkn,h1,h2,ht=>by
  rw[Vn]
  by_cases hl:ts.length=1
  · obtain⟨t,rfl⟩:=List.length_eq_one_iff.mp hl
    have:=ht t (zzB ..)
    refine⟨t,this,rfl,ZZ (as1:=Sl ns st b3 sh b5 [t] (some (lfI k)) e8 e9 e10 e11 e12 e13 e14) rfl (yI (yD (yh (wC (zdq rfl) zf rfl) rfl) (ye (zoV rfl rfl rfl zf rfl))))⟩
  · obtain⟨ts',f8,f9,f10,f11,f12,f13,f14,⟨q1,q2⟩,q3,qv,q4⟩:=zku (ns:=ns) (st:=st) (k:=k) (sh:=sh) (b3:=b3) (b5:=b5) (e8:=e8) (e9:=e9) (e10:=e10) (e11:=e11) (e12:=e12) (e13:=e13) (e14:=e14) hst ⟨hk,by omega⟩ (show 2<=ts.length by omega) (by omega) ht
    obtain⟨t,o,l,e⟩:=zlJ (ns:=ns) (st:=st) (sh:=sh) (b3:=b3) (b5:=b5) hst n (k+1) ts' (some (lfI k)) f8 f9 f10 f11 f12 f13 f14 (by omega) (by omega) q1 (by omega) q3
    exact⟨t,o,by omega,xj rfl q4 e⟩
theorem zjH{ns:List Int}{st:Int}(hst:0<=st/\st<=40):∃t:Tm,t.ok/\t.lv<=13/\wY [(true,.lst (ns.map .int)),(true,.int st),(true,zer)]=some (tO t):=by
 obtain⟨hd,hd0,hd1,hdr⟩:=WM (ns:=ns) (k:=st) (s:=true) (t:=true) hst.1 (by omega)
 have hdg:zL [(true,.int hd),(true,.lst (([3,13]:List Int).map .int))]=some (.nd .ls ((zay hd [3,13]).map lfI)):=ZX (by decide) (by decide)
 obtain⟨mn,hm1,hm2,em⟩:∃mn:Int,1<=mn/\mn<=13/\ixP (.lst (O.toDs [lfI (1+hd/3%13),lfI (1+hd/3%13),lfI 13])) (.int (hd%3))=some (.im (.int mn)):=by
  have:hd%3=0\/hd%3=1\/hd%3=2:=by omega
  rcases this with e|e|e<;>rw[e]
  · exact⟨_,by omega,by omega,rfl⟩
  · exact⟨_,by omega,by omega,rfl⟩
  · exact⟨_,by omega,by omega,rfl⟩
 obtain⟨as1,hf,ts,e7,rfl,hl,hlv,hall⟩:=Vg (g:=gN 7) (f:=xU (xx 6 (dC (zV (aC (zV (aC (fV 0) (aC (f2 (f2 (fV 1) (fC (.int 1)) (zm .Add)) (fV 7) (zm .Add)) aN)) yq) (aC (fV 2) aN)) wV) dN) Vd))
  (λi as=>∃(ts:List Tm) (e7:Option O),as=Sl ns st (some (lfI hd)) (hd%3) (some (lfI mn)) ts e7 none none none none none none none/\ts.length=i/\lvL ts=i/\∀t ∈ ts,t.ok)
  (vH 0 mn.toNat) 0 (Sl ns st (some (lfI hd)) (hd%3) (some (lfI mn)) [] none none none none none none none none)
  (λi y as hi h=>by
   obtain⟨ts,e7,rfl,l,lv,al⟩:=h
   obtain⟨rfl,hi2⟩:=zbC hi
   obtain⟨x,x0,x1,hx⟩:=WM (ns:=ns) (k:=st+1+(0+(i:Int))) (s:=true) (t:=true) (by omega) (by omega)
   obtain⟨t,ot,ht,hlf⟩:=zlp x0
   refine⟨Sl ns st (some (lfI hd)) (hd%3) (some (lfI mn)) ts (some (lfI (0+(i:Int)))) none none none none none none none,rfl,Sl ns st (some (lfI hd)) (hd%3) (some (lfI mn)) (ts++[t]) (some (lfI (0+(i:Int)))) none none none none none none none, ?_,ts++[t],_,rfl,by rw[zzF,l];rfl,by rw[zfZ,lv];show 0+i+(t.lv+0)=0+i+1;omega,λt' m=>?_⟩
   · have:=zds (as:=Sl ns st (some (lfI hd)) (hd%3) (some (lfI mn)) ts (some (lfI (0+(i:Int)))) none none none none none none none) (i:=6) rfl (by rw[zD];exact ZW (by omega)) (vh (zB (vh (zB (zb (i:=0) rfl) (zB (yM (yM (zb (i:=1) rfl) (zf (x:=.int 1))) (zb (i:=7) rfl)) zN)) hx) (zB (zb (i:=2) rfl) zN)) hlf)
     rw[show ts.map tO++[O.lf true t.toD]=(ts++[t]).map tO by rw[zyI];rfl]at this
     exact this
   · rcases zzI.mp m with m|m
     · exact al t' m
     · rw[zzN.mp m];exact ot)
  ⟨[],none,rfl,rfl,rfl,λ_ m=>nomatch m⟩
 have hlen:(vH 0 mn.toNat).length=mn.toNat:=by unfold vH;simp
 obtain⟨t,ok,ht,hr⟩:=zlJ (ns:=ns) (st:=st) (sh:=hd%3) (b3:=some (lfI hd)) (b5:=some (lfI mn)) hst mn.toNat 0 ts e7 none none none none none none none (by omega) (by omega) (by omega) (by omega) hall
 refine⟨t,ok,by omega,yP rfl (zx (yK (i:=3) (vh (zB (zb rfl) (zB (zb rfl) zN)) hdr) (zQ rfl)) (zx (zaN (Za (zB (zb rfl) (vC (xW (zp zf (zp zf zU)) (szl rfl)) zN)) hdg) rfl)
  (zx (yK (i:=5) (zcL (zp (yM zf (zb rfl)) (zp (yM zf (zb rfl)) (zp zf zU))) (szl rfl) (zb rfl) em) (zQ rfl))
  (zx (zga (i:=6) (xW zU (szl rfl)) (zQ rfl)) (zx (wW (zaj (zB (zb rfl) zN) (by omega) (by omega)) hf)
  (yI (wW (zaj (zB (zb rfl) zN) (by omega) (by omega)) hr)))))))⟩
abbrev nl(nm:List Str):D:=.lst (nm.map .str)
theorem znm:∀t:Tm,1<=t.ht
 | .num _=>by show 1<=1;decide
 | .nam _=>by show 1<=1;decide
 | .bad _=>by show 1<=1;decide
 | .op _ x y=>by show 1<=max _ _+1;omega
 | .sm x y z u=>by show 1<=max _ _+1;omega
def wds:Tm->List Str
 | .num v=>[tx v]
 | .nam x=>[x]
 | .op w x y=>w::(wds x++wds y)
 | .sm x y z u=>"same"::(wds x++(wds y++(wds z++wds u)))
 | .bad _=>["a"]
theorem ZC:∀t:Tm,wds t≠[]
 | .num _=>by simp[wds]
 | .nam _=>by simp[wds]
 | .op _ _ _=>by simp[wds]
 | .sm _ _ _ _=>by simp[wds]
 | .bad _=>by simp[wds]
theorem zap:∀t:Tm,(wds t).length=t.cnt
 | .num _=>rfl
 | .nam _=>rfl
 | .bad _=>rfl
 | .op _ x y=>by show(wds x++wds y).length+1=x.cnt+y.cnt+1;rw[zzF,zap x,zap y]
 | .sm x y z u=>by show(wds x++(wds y++(wds z++wds u))).length+1=x.cnt+y.cnt+z.cnt+u.cnt+1;simp only[zzF,zap];omega
theorem zgv{w:Str}(h:zmY w):NB w/\w.length<=60:=by
 rcases h with rfl|rfl|rfl|rfl|rfl<;>exact⟨by unfold NB;decide +kernel,by decide +kernel⟩
theorem zla{w:Str}(h:isNm w):NB w/\w.length<=60:=by
 rcases h with rfl|rfl|rfl<;>exact⟨by unfold NB;decide +kernel,by decide +kernel⟩
theorem zbT:NB ("same":Str)/\("same":Str).length<=60:=⟨by unfold NB;decide +kernel,by decide +kernel⟩
theorem Wl:∀{t:Tm},t.ok->∀w ∈ wds t,NB w/\w.length<=60
 | .num v,h,w,m=>by rw[zzN.mp m];exact⟨zoe,zmA h.1 h.2⟩
 | .nam x,h,w,m=>by rw[zzN.mp m];exact zla h
 | .op o x y,h,w,m=>by
  rcases zI.mp m with rfl|m
  · exact zgv h.1
  rcases zzI.mp m with m|m
  · exact Wl h.2.1 w m
  · exact Wl h.2.2 w m
 | .sm x y z u,h,w,m=>by
  rcases zI.mp m with rfl|m
  · exact zbT
  rcases zzI.mp m with m|m
  · exact Wl h.1 w m
  rcases zzI.mp m with m|m
  · exact Wl h.2.1 w m
  rcases zzI.mp m with m|m
  · exact Wl h.2.2.1 w m
  · exact Wl h.2.2.2 w m
def S(t:Tm):Str:=Str.join bl1 (wds t)
theorem zaE{t:Tm}(h:t.ok):(S t).length<=61*t.cnt:=by
 have:=zdU (wds t) 60 (λw m=>(Wl h w m).2)
 rw[zap]at this
 exact this
theorem zji(a:Str)(r:List Str)(h:r≠[]):Str.join bl1 (a::r)=a++bl1++Str.join bl1 r:=ZR [a] r (by simp) h
theorem zpi(w:Str)(x y:Tm):S (.op w x y)=w++bl1++S x++bl1++S y:=by
 show Str.join bl1 (w::(wds x++wds y))=_
 rw[zji _ _ (by simp[ZC]),ZR _ _ (ZC x) (ZC y)]
 refine zdi ?_
 simp only[app_list,zyZ];rfl
theorem zpq(x y z u:Tm):S (.sm x y z u)=("same":Str)++bl1++S x++bl1++S y++bl1++S z++bl1++S u:=by
 show Str.join bl1 ("same"::(wds x++(wds y++(wds z++wds u))))=_
 rw[zji _ _ (by simp[ZC]),ZR _ _ (ZC x) (by simp[ZC]),ZR _ _ (ZC y) (by simp[ZC]),ZR _ _ (ZC z) (ZC u)]
 refine zdi ?_
 simp only[app_list,zyZ];rfl
theorem szs{n:Nat}(h:n<=1000000):n<=sizeLine:=zzK h (by decide)
abbrev zoL(self:Fn):SF:=(zF true 1 (f2 (f2 (fV 1) (fC (.str " ")) (zm .Add)) (zV (aC (fV 2) aN) self) (zm .Add)))
theorem zaU{x y:Str}(h:x.length+y.length<=sizeLine):zm .Add (.str x) (.str y)=some (.im (.str (x++y))):=if_pos h
theorem yG(x y:Str):(x++y).length=x.length+y.length:=by rw[len_eq,app_list,zzF,<-len_eq,<-len_eq]
theorem Xh{self:Fn}{A:Option O}{a b:Str}{d:D}(hs:self [(true,d)]=some (.lf true (.str b)))(hl:a.length+1+b.length<=1000000):
 zoL self [A,some (.lf true (.str a)),some (.lf true d)]=some (.nx [A,some (.lf true (.str (a++bl1++b))),some (.lf true d)]):=by
 have e:(a++bl1).length=a.length+1:=yG a bl1
 exact yK (i:=1) (Wj (Wj (zb rfl) zf (by rw[blank_eq];exact zaU (szs (by show a.length+1<=_;omega)))) (X7 (WD.e (zb rfl)) hs) (zaU (szs (by rw[e];omega)))) (zQ rfl)
theorem v6:∀(h:Nat) (t:Tm),t.ok->t.ht<=h->t.cnt<=1000->xF h [(true,t.toD)]=some (.lf true (.str (S t)))
 |0,t,_,hh,_=>by have:=znm t;omega
 |h+1,.num v,ok,hh,hc=>yP rfl (yI (yD (yh (wC (yp (zB (zb rfl) zN) rfl rfl) zf rfl) rfl) (ye (yp (zB (yH (zb rfl) zf rfl rfl) zN) (by show zjR [.int v]=_;exact if_pos (zmw ok.1 ok.2)) rfl))))
 |h+1,.nam x,ok,hh,hc=>yP rfl (yI (yD (yh (wC (yp (zB (zb rfl) zN) rfl rfl) zf rfl) rfl) (ye (yp (zB (yH (zb rfl) zf rfl rfl) zN) rfl rfl))))
 |h+1,.op w x y,ok,hh,hc=>by
  have hx:x.ht<=h:=by unfold Tm.ht at hh;omega
  have hy:y.ht<=h:=by unfold Tm.ht at hh;omega
  have c1:x.cnt+y.cnt+1<=1000:=hc
  have lx:=zaE ok.2.1
  have ly:=zaE ok.2.2
  have lw:=(zgv ok.1).2
  rw[zpi]
  exact yP rfl (zx (zJ (yh (wC (yp (zB (zb rfl) zN) rfl rfl) zf rfl) rfl) rfl) (zx (yK (i:=1) (Wj (zb rfl) zf rfl) (zQ rfl)) (zx (wW (zls (Vz (zb rfl) (lo:=some 1) (hi:=none) rfl rfl rfl))
   (xj rfl (Xh (v6 h x ok.2.1 hx (by omega)) (by omega)) (xj rfl (Xh (v6 h y ok.2.2 hy (by omega)) (by simp only[yG];show w.length+1+_+1+_<=_;omega)) rfl))) (ye (zb rfl)))))
 |h+1,.sm x y z u,ok,hh,hc=>by
  have hx:x.ht<=h:=by unfold Tm.ht at hh;omega
  have hy:y.ht<=h:=by unfold Tm.ht at hh;omega
  have hz:z.ht<=h:=by unfold Tm.ht at hh;omega
  have hu:u.ht<=h:=by unfold Tm.ht at hh;omega
  have c1:x.cnt+y.cnt+z.cnt+u.cnt+1<=1000:=hc
  have lx:=zaE ok.1
  have ly:=zaE ok.2.1
  have lz:=zaE ok.2.2.1
  have lu:=zaE ok.2.2.2
  have lw:=zbT.2
  rw[zpq]
  exact yP rfl (zx (zJ (yh (wC (yp (zB (zb rfl) zN) rfl rfl) zf rfl) rfl) rfl) (zx (yK (i:=1) (Wj (zb rfl) zf rfl) (zQ rfl)) (zx (wW (zls (Vz (zb rfl) (lo:=some 1) (hi:=none) rfl rfl rfl))
   (xj rfl (Xh (v6 h x ok.1 hx (by omega)) (by omega)) (xj rfl (Xh (v6 h y ok.2.1 hy (by omega)) (by simp only[yG];show("same":Str).length+1+_+1+_<=_;omega))
   (xj rfl (Xh (v6 h z ok.2.2.1 hz (by omega)) (by simp only[yG];show("same":Str).length+1+_+1+_+1+_<=_;omega)) (xj rfl (Xh (v6 h u ok.2.2.2 hu (by omega)) (by simp only[yG];show("same":Str).length+1+_+1+_+1+_+1+_<=_;omega)) rfl))))) (ye (zb rfl)))))
abbrev PT:D:=.dct [(.inr "add",(.int 2)),(.inr "take",(.int 2)),(.inr "times",(.int 2)),(.inr "most",(.int 2)),(.inr "least",(.int 2)),(.inr "same",(.int 4))]
theorem zfw(d e:D):zH .In d e=(inP d e).bind λb=>some (blR b):=rfl
theorem key_ne{a b:Str}(h:a≠b):decide ((Sum.inr a:Key)=Sum.inr b)=false:=zyC λe=>h (Sum.inr.inj e)
theorem YD(x:Str):∀nm:List Str,anyF (λy=>eqF 50 y (.str x)) (nm.map .str)=some (nm.any (· == x))
 | []=>rfl
 |n::r=>by
  show(some (n==x)).bind (λb=>(anyF _ (r.map .str)).bind _)=_
  rw[zyH,YD x r];rfl
def pa(w:Str):Nat:=if w="add"\/w="take"\/w="times"\/w="most"\/w="least" then 2 else if w="same" then 4 else 0
abbrev PL:List (Key×D):=[(.inr "add",(.int 2)),(.inr "take",(.int 2)),(.inr "times",(.int 2)),(.inr "most",(.int 2)),(.inr "least",(.int 2)),(.inr "same",(.int 4))]
theorem zih(w:Str):(Wh PL (.inr w)).getD (.int 0) = .int (pa w):=by
 unfold Wh pa
 by_cases h1:w="add"
 · subst h1;rfl
 by_cases h2:w="take"
 · subst h2;rfl
 by_cases h3:w="times"
 · subst h3;rfl
 by_cases h4:w="most"
 · subst h4;rfl
 by_cases h5:w="least"
 · subst h5;rfl
 by_cases h6:w="same"
 · subst h6;rfl
 simp only[List.find?_cons,key_ne (Ne.symm h1),key_ne (Ne.symm h2),key_ne (Ne.symm h3),key_ne (Ne.symm h4),key_ne (Ne.symm h5),key_ne (Ne.symm h6),List.find?_nil,Option.map_none]
 simp[h1,h2,h3,h4,h5,h6]
theorem zlw(w:Str):pa w<=4:=by unfold pa;split<;>(try split)<;>decide
theorem zgE{s:Bool}(w:Str):yr [(s,.str w)]=some (.lf true (.int (pa w))):=by
 refine yP rfl (ye (zcX zf rfl (zB (zb rfl) (zB zf zN)) ?_ rfl))
 show some (R0.im ((Wh PL (.inr w)).getD (.int 0)))=_
 rw[zih]
def dig(c:Nat):Bool:=!(Builtin.Str.occurrences ("0123456789":Str) ⟨#[c]⟩ 0 ("0123456789":Str).length 1).isEmpty
theorem zia(c:Nat):inP (.str ⟨#[c]⟩) (.str "0123456789")=some (dig c):=rfl
def nought(w:Str):Bool:=match w.cps.toList with
 |c::_=>((⟨#[c]⟩:Str)=="0")
 | []=>false
def fig(w:Str):Bool:=!(w==""||decide ((60:Int)<(w.length:Int))) && !(nought w && !(w=="0"))&&w.cps.toList.all dig
theorem ziP{x:Str}:wF (gN 0) zgO (f2 (fV 0) (fC (.str "0123456789")) (zH .In)) [none] (vJ x)=some ((x.cps.toList.map λc=>D.bl (dig c)).map (O.lf true)):=by
 unfold vJ
 generalize x.cps.toList=l
 induction l with
 |nil=>rfl
 |cons c r ih=>exact zhj (as1:=[some (.lf true (.str ⟨#[c]⟩))]) rfl (yH (zb rfl) zf (by rw[zfw,zia];rfl) rfl) ih
theorem zbW:∀l:List Nat,Wc (l.map λc=>D.bl (dig c))=some (l.map dig)
 | []=>rfl
 |_::r=>by show(Wc (r.map _)).bind _=_;rw[zbW r];rfl
theorem zdK{w:Str}(hw:w.length<=1000000)(h:(w=="")=false):∃c r,w.cps.toList=c::r/\ixP (.str w) (.int 0)=some (.im (.str ⟨#[c]⟩))/\nought w=((⟨#[c]⟩:Str)=="0"):=by
 cases e:w.cps.toList with
 |nil=>
  have:w="":=by
   obtain⟨a⟩:=w
   have:a = #[]:=by simpa using e
   subst this;rfl
  rw[this]at h
  exact absurd h (by decide +kernel)
 |cons c r=>
  refine⟨c,r,rfl, ?_,by unfold nought;rw[e]⟩
  show(if w.length<=sizeLine then(atI w.cps.toList 0).bind _ else none)=_
  rw[if_pos (szs hw),show(0:Int)=((0:Nat):Int)from rfl,zal (v:=c) (by rw[e];rfl)];rfl
theorem zeL{s u:Bool}{w:Str}(hw:w.length<=1000000):xQ [(s,.str w),(u,.int 60)]=some (.lf true (.bl (fig w))):=by
 have hlen:yz [.str w]=some (.im (.int w.length)):=if_pos (szs hw)
 have c1:∀b,(w==""||decide ((60:Int)<(w.length:Int)))=b->WT (Yw (fT (f2 (fV 0) (fC (.str "")) (zH .Eq))) (fT (f2 (fP (aC (fV 0) aN) yz) (fV 1) (zH .Gt)))) (xN 2 [(s,.str w),(u,.int 60)]) b:=λb hb=>by
  refine zbo (yh (wC (zb rfl) zf rfl) rfl) (λh=>?_) λh=>by rw[<-hb,h];rfl
  have z:WT (fT (f2 (fP (aC (fV 0) aN) yz) (fV 1) (zH .Gt))) (xN 2 [(s,.str w),(u,.int 60)]) (decide ((60:Int)<(w.length:Int))):=yh (Zh (yp (zB (zb rfl) zN) hlen rfl) (zb rfl)) rfl
  rw[<-hb,h,Bool.false_or];exact z
 cases e1:(w==""||decide ((60:Int)<(w.length:Int)))with
 |true=>
  refine yP rfl (yI (yD (c1 _ e1) (ye ?_)))
  unfold fig;rw[e1];exact zf
 |false=>
  obtain⟨h1,h2⟩:=Bool.or_eq_false_iff.mp e1
  obtain⟨c,r,ec,hix,hn⟩:=zdK hw h1
  have c2:WT (vL (fT (f2 (f2 (fV 0) (fC (.int 0)) ixP) (fC (.str "0")) (zH .Eq))) (fT (f2 (fV 0) (fC (.str "0")) (zH .NotEq)))) (xN 2 [(s,.str w),(u,.int 60)]) (nought w && !(w=="0")):=by
   refine zax (k:=nought w) (yh (wC (yH (zb rfl) zf hix rfl) zf (by rw[hn];rfl)) rfl) (λh=>?_) λh=>by rw[h];rfl
   rw[h,Bool.true_and]
   exact yh (zlN (zb rfl) zf rfl) rfl
  cases e2:(nought w && !(w=="0"))with
  |true=>
   rw[e2]at c2
   refine yP rfl (zx (zJ (c1 _ e1) rfl) (yI (yD c2 (ye ?_))))
   unfold fig;rw[e1,e2];exact zf
  |false=>
   rw[e2]at c2
   refine yP rfl (zx (zJ (c1 _ e1) rfl) (zx (zJ c2 rfl) (ye (zfj (x:=.lst (w.cps.toList.map λc=>D.bl (dig c))) ⟨_,zgI (zlQ (zb rfl)) (by unfold vJ;rw[zD,<-len_eq];exact szs hw) ziP,Wx _,congrArg D.lst (W5 _)⟩ ?_))))
   show(Wc _).bind _=_
   rw[zbW]
   unfold fig
   rw[e1,e2]
   show some (R0.im (.bl ((w.cps.toList.map dig).all id)))=some (R0.im (.bl (w.cps.toList.all dig)))
   rw[List.all_map];rfl
theorem zkR(d e:D):zH .NotIn d e=(inP d e).bind λb=>some (blR !b):=rfl
abbrev inN(w:Str)(nm:List Str):Bool:=nm.any (· == w)
theorem zns{s u:Bool}{w:Str}{nm:List Str}(hn:∀x ∈ nm,isNm x):YC [(s,.str w),(u,nl nm)]=some (.lf true (.bl (inN w nm))):=by
 have e:WD (f2 (fV 0) (fC (.tup [(.str "a"),(.str "b"),(.str "c")])) (zH .In)) [some (.lf s (.str w)),some (.lf u (nl nm))] true (.bl (inN w ["a","b","c"])):=
  yH (zb rfl) zf (by rw[zfw,show inP (.str w) (.tup [(.str "a"),(.str "b"),(.str "c")])=anyF (λy=>eqF 50 y (.str w)) ((["a","b","c"]:List Str).map .str)from rfl,YD];rfl) rfl
 refine yP rfl (ye (zcV (k:=true) (zim (zb rfl) rfl) (λ_=>zcV (k:=inN w ["a","b","c"]) e (λ_=>yH (zb rfl) (zb rfl) (by show(anyF _ (nm.map .str)).bind _=_;rw[YD];rfl) rfl) (λh=>?_)) (λh=>nomatch h)))
 cases z:inN w nm with
 |false=>rfl
 |true=>
  obtain⟨x,hx,ex⟩:=List.any_eq_true.mp z
  have ex:x=w:=by simpa using ex
  subst ex
  rcases hn x hx with rfl|rfl|rfl<;>exact absurd h (by decide +kernel)
def Vf(w:Str)(d:Int)(nm:List Str):Bool:=if 0<pa w then decide (d<12)else fig w||inN w nm
theorem zjE{s u q:Bool}{w:Str}{d:Int}{nm:List Str}(hw:w.length<=1000000)(hn:∀x ∈ nm,isNm x):Wm [(s,.str w),(u,.int d),(q,nl nm)]=some (.lf true (.bl (Vf w d nm))):=by
 unfold Vf
 by_cases hk:0<pa w
 · rw[if_pos hk]
   exact yP rfl (yI (yD (yh (Zh (vh (zB (zb rfl) zN) (zgE w)) zf) (congrArg some (zyK (by omega)))) (ye (zeB (zb rfl) zf))))
 · rw[if_neg hk]
   refine yP rfl (zx (zJ (yh (Zh (vh (zB (zb rfl) zN) (zgE w)) zf) (congrArg some (zyC (by omega)))) rfl) (ye (zoQ (k:=fig w) (vh (zB (zb rfl) (zB zf zN)) (zeL hw)) (λh=>?_) (λh=>by rw[h];rfl))))
   rw[h,Bool.false_or]
   exact vh (zB (zb rfl) (zB (zb rfl) zN)) (zns hn)
theorem zmp{w:Str}(h:fig w=true):w.length<=60/\w.cps.toList≠[]/\∀c ∈ w.cps.toList,48<=c/\c<=57:=by
 unfold fig at h
 rw[zzY,zzY,Bool.not_eq_true',Bool.or_eq_false_iff]at h
 obtain⟨⟨⟨h1,h2⟩,_⟩,h3⟩:=h
 refine⟨by have:=of_decide_eq_false h2;omega,λe=>?_,λc hc=>?_⟩
 · have:w="":=by
    obtain⟨a⟩:=w
    have:a = #[]:=by simpa using e
    subst this;rfl
   rw[this]at h1
   exact absurd h1 (by decide +kernel)
 · have z:=List.all_eq_true.mp h3 c hc
   unfold dig at z
   rw[StrLaws.found_one]at z
   have z:=of_decide_eq_true z
   rw[show("0123456789":Str).cps.toList=[48,49,50,51,52,53,54,55,56,57] by decide +kernel]at z
   simp at z
   omega
def zaW(w:Str):D:=if fig w=true then .tup [.str "number",.int ((PySem.intText? w).getD 0)]else .tup [.str "name",.str w]
theorem zgo{w:Str}(h:fig w=true):Y5 [.str w]=some (.im (.int ((PySem.intText? w).getD 0))):=by
 obtain⟨h1,h2,h3⟩:=zmp h
 show zoi (.str w)=_
 show(if w.length<=640 then(PySem.intText? w).bind λn=>some (R0.im (.int n))else none)=_
 rw[if_pos (by omega)]
 have e:=intText_digits (x:=w) h3 h2 (by omega)
 rw[e];rfl
theorem zkt{s:Bool}{w:Str}(hw:w.length<=1000000)(hl:s=true):vR [(s,.str w)]=some (.lf true (zaW w)):=by
 subst hl
 unfold zaW
 cases h:fig w with
 |true=>
  rw[if_pos rfl]
  exact yP rfl (yI (yD (yh (vh (zB (zb rfl) (zB zf zN)) (by have:=zeL (s:=true) (u:=true) hw;rw[h]at this;exact this)) rfl) (ye (Wf (zp zf (zp (yp (zB (zb rfl) zN) (zgo h) rfl) zU)) (szl rfl) rfl))))
 |false=>
  rw[if_neg (by decide)]
  exact yP rfl (zx (zJ (yh (vh (zB (zb rfl) (zB zf zN)) (by have:=zeL (s:=true) (u:=true) hw;rw[h]at this;exact this)) rfl) rfl) (ye (Wf (os:=[.lf true (.str "name"),.lf true (.str w)]) (zp zf (zp (zb rfl) zU)) (szl rfl) rfl)))
theorem zgJ{x:Str}:wF (gN 0) (fT (f2 (fV 0) (fC (.str "0123456789")) (zH .NotIn))) (fV 0) [none] (vJ x)=some (((x.cps.toList.filter λc=>!dig c).map λc=>D.str ⟨#[c]⟩).map (O.lf true)):=by
 unfold vJ
 generalize x.cps.toList=l
 induction l with
 |nil=>rfl
 |cons c r ih=>
  have t:WT (fT (f2 (fV 0) (fC (.str "0123456789")) (zH .NotIn))) [some (.lf true (.str ⟨#[c]⟩))] (!dig c):=yh (yH (z:=.bl (!dig c)) (zb rfl) zf (by rw[zkR,zia];rfl) rfl) rfl
  cases z:dig c with
  |true=>
   rw[z]at t
   rw[List.filter_cons_of_neg (by simp[z])]
   exact zhC (as1:=[some (.lf true (.str ⟨#[c]⟩))]) rfl t ih
  |false=>
   rw[z]at t
   rw[List.filter_cons_of_pos (by simp[z])]
   exact zgS (as1:=[some (.lf true (.str ⟨#[c]⟩))]) rfl t (zb rfl) ih
theorem zgK{s u:Bool}{w:Str}{nm:List Str}(hw:w.length<=1000000):xJ [(s,.str w),(u,nl nm)]=some (.lf true (.bl (inN w nm||fig w))):=by
 have c0:WT (fT (f2 (fV 0) (fV 1) (zH .In))) (xN 2 [(s,.str w),(u,nl nm)]) (inN w nm):=yh (yH (z:=.bl (inN w nm)) (zb rfl) (zb rfl) (by show(anyF _ (nm.map .str)).bind _=_;rw[YD];rfl) rfl) rfl
 cases e0:inN w nm with
 |true=>rw[e0]at c0;exact yP rfl (yI (yD c0 (ye zf)))
 |false=>
  rw[e0]at c0
  rw[Bool.false_or]
  have hlen:yz [.str w]=some (.im (.int w.length)):=if_pos (szs hw)
  have c1:WT (Yw (fT (f2 (fV 0) (fC (.str "")) (zH .Eq))) (Yw (fT (f2 (fP (aC (fV 0) aN) yz) (fC (.int 60)) (zH .Gt))) (vL (fT (f2 (f2 (fV 0) (fC (.int 0)) ixP) (fC (.str "0")) (zH .Eq))) (fT (f2 (fV 0) (fC (.str "0")) (zH .NotEq)))))) (xN 2 [(s,.str w),(u,nl nm)]) ((w==""||decide ((60:Int)<(w.length:Int)))||(nought w && !(w=="0"))):=by
   refine zbo (k:=(w=="")) (yh (wC (zb rfl) zf rfl) rfl) (λh=>?_) λh=>by rw[h];rfl
   refine zbo (k:=decide ((60:Int)<(w.length:Int))) (yh (Zh (yp (zB (zb rfl) zN) hlen rfl) zf) rfl) (λh'=>?_) λh'=>by rw[h'];simp
   rw[h,h',Bool.false_or,Bool.false_or]
   obtain⟨c,r,ec,hix,hn⟩:=zdK hw h
   refine zax (k:=nought w) (yh (wC (yH (zb rfl) zf hix rfl) zf (by rw[hn];rfl)) rfl) (λh=>?_) λh=>by rw[h];rfl
   rw[h,Bool.true_and]
   exact yh (zlN (zb rfl) zf rfl) rfl
  have fe:fig w=(!((w==""||decide ((60:Int)<(w.length:Int)))||(nought w && !(w=="0")))&&w.cps.toList.all dig):=by
   unfold fig
   generalize (w==""||decide ((60:Int)<(w.length:Int)))=a
   generalize (nought w && !(w=="0"))=b
   cases a<;>cases b<;>rfl
  rw[fe]
  cases e1:((w==""||decide ((60:Int)<(w.length:Int)))||(nought w && !(w=="0")))with
  |true=>rw[e1]at c1;exact yP rfl (zx (zJ c0 rfl) (yI (yD c1 (ye zf))))
  |false=>
   rw[e1]at c1
   refine yP rfl (zx (zJ c0 rfl) (zx (zJ c1 rfl) (ye ?_)))
   have hl:eqF 60 (.lst ((w.cps.toList.filter λc=>!dig c).map λc=>D.str ⟨#[c]⟩)) (.lst [])=some (w.cps.toList.all dig):=by
    cases z:w.cps.toList.filter λc=>!dig c with
    |nil=>
     have:w.cps.toList.all dig=true:=List.all_eq_true.mpr λc hc=>by
      have:=List.filter_eq_nil_iff.mp z c hc
      simpa using this
     rw[this];rfl
    |cons c r=>
     have hc:c ∈ w.cps.toList.filter λc=>!dig c:=by rw[z];exact zzB
     obtain⟨h1,h2⟩:=List.mem_filter.mp hc
     have:w.cps.toList.all dig=false:=by
      cases q:w.cps.toList.all dig with
      |false=>rfl
      |true=>have:=List.all_eq_true.mp q c h1;rw[this]at h2;exact absurd h2 (by decide)
     rw[this];rfl
   exact zdk ⟨_,zgI (zlQ (zb rfl)) (by unfold vJ;rw[zD,<-len_eq];exact szs hw) zgJ,Wx _,congrArg D.lst (W5 _)⟩ (yE zU (by decide) rfl rfl) hl
abbrev fG:GF:=(gT 2 (gsC (gN 3) (gsC (gN 4) gsN)))
abbrev fB:SF:=(zM (sIf (Yw (fT (f2 (fP (aC (fV 2) aN) yz) (fC (.int 0)) (zH .Eq))) (Y8 (fT (zV (aC (fV 4) (aC (f2 (fV 2) (fC (.int 0)) ixP) (aC (fV 1) aN))) Wm)))) (yF (fV 3)) sNx)
 (zM (zF true 2 (f2 (f2 (zP (dC (f2 (f2 (fV 2) (fC (.int 0)) ixP) (fC (.int 1)) (zm .Add)) dN)) (zV (aC (fV 4) aN) yr) (zm .Mult)) (fSl (fV 2) (oS (fC (.int 1))) oN slP) (zm .Add)))
 (sIf (fT (f2 (f2 (f2 (fV 3) (fC (.int 1)) (zm .Add)) (fP (aC (fV 2) aN) yz) (zm .Add)) (fC (.int 40)) (zH .Gt))) (yF (fV 3)) sNx)))
abbrev FS(W N:D)(ws:List Int)(e3 e4:Option O):AS:=[some (.lf true W),some (.lf true N),some (.lf true (.lst (ws.map .int))),e3,e4]
theorem mul_list{xs:List D}{k:Int}(h : -(2 ^ 63)<=k/\k<2 ^ 63/\xs.length*k.toNat<=sizeLine):zm .Mult (.lst xs) (.int k)=some (.fl (List.replicate k.toNat xs).flatten):=by
 exact if_pos h
theorem zjK{x:D}{ds:List D}:ixP (.lst (x::ds)) (.int 0)=some (.im x):=by
 show imR (atI _ _)=_
 rw[show(0:Int)=((0:Nat):Int)from rfl,zal (v:=x) rfl];rfl
abbrev zpk:SF:=zF true 2 (f2 (f2 (zP (dC (f2 (f2 (fV 2) (fC (.int 0)) ixP) (fC (.int 1)) (zm .Add)) dN)) (zV (aC (fV 4) aN) yr) (zm .Mult)) (fSl (fV 2) (oS (fC (.int 1))) oN slP) (zm .Add))
theorem zmG{W N:D}{w:Str}{i:Nat}{d:Int}{r:List Int}{k:Nat}(hk:k<=4)(hi:r.length<=100)(hp:yr [(true,.str w)]=some (.lf true (.int k))):
 zpk (FS W N (d::r) (some (lfI i)) (some (.lf true (.str w))))=some (.nx (FS W N (List.replicate k (d+1)++r) (some (lfI i)) (some (.lf true (.str w))))):=by
 have hix:WD (f2 (fV 2) (fC (.int 0)) ixP) (FS W N (d::r) (some (lfI i)) (some (.lf true (.str w)))) true (.int d):=yH (zb rfl) zf zjK rfl
 have hm:zm .Mult (.lst [.int (d+1)]) (.int (k:Int))=some (.fl (List.replicate (k:Int).toNat [D.int (d+1)]).flatten):=by
  have c : -(2 ^ 63)<=(k:Int)/\(k:Int)<2 ^ 63/\([D.int (d+1)]:List D).length*(k:Int).toNat<=sizeLine:=⟨by omega,by omega,szs (by rw[zyE];show 1*k<=_;omega)⟩
  exact mul_list c
 have e1:(List.replicate (k:Int).toNat [D.int (d+1)]).flatten=(List.replicate k (d+1)).map D.int:=by
  rw[zyE]
  clear hm hp hi hk
  induction k with
  |zero=>rfl
  |succ k ih=>rw[List.replicate_succ,List.flatten_cons,ih];rfl
 rw[e1]at hm
 have hs:slP (.lst ((d::r).map D.int)) (some 1) none=some (.fl (r.map D.int)):=zaL (xs:=[.int d]) (ys:=r.map D.int)
 have:=Vl (p:=2) (as:=FS W N (d::r) (some (lfI i)) (some (.lf true (.str w)))) (zaF (zaF (yE (x:=.lst [.int (d+1)]) (zp (yM hix (zf (x:=.int 1))) zU) (szl rfl) rfl rfl) (WD.e (X7 (WD.e (zb (i:=4) rfl)) hp)) hm) (zak (fl:=oS (fC (.int 1))) (fh:=oN) (WD.e (zb (i:=2) rfl)) (lo:=some 1) (hi:=none) rfl rfl hs) (add_lists (szs (by simp only[zD,List.length_replicate];omega)))) (zQ rfl)
 rw[<-zyI]at this
 exact this
def ffL(nm:List Str):Nat->List Int->List Str->Sum Nat (List Int)
 |_,ws,[]=>.inr ws
 |i,[],_::_=>.inl i
 |i,d::r,w::more=>if Vf w d nm=true then(if 40<i+1+(pa w+r.length)then .inl i else ffL nm (i+1) (List.replicate (pa w) (d+1)++r) more)else .inl i
def ffO(W N:D)(e3 e4:Option O):Sum Nat (List Int)->Out
 | .inl k=>.rt (lfI k)
 | .inr ws=>.nx (FS W N ws e3 e4)
theorem zhN{W:D}{nm:List Str}(hn:∀x ∈ nm,isNm x):∀(more:List Str) (i:Nat) (ws:List Int) (e3 e4:Option O),(∀w ∈ more,w.length<=1000000)->ws.length<=100->
 ∃e3' e4',forL fG fB (Yv true i (more.map .str)) (FS W (nl nm) ws e3 e4)=some (ffO W (nl nm) e3' e4' (ffL nm i ws more))
 | [],i,ws,e3,e4,_,_=>⟨e3,e4,by unfold ffL ffO;rfl⟩
 |w::more,i,[],e3,e4,hw,hl=>by
  refine⟨e3,e4, ?_⟩
  show forL fG fB ((true,.tup [.int i,.str w])::Yv true (i+1) (more.map .str)) _=_
  refine ZZ (as1:=FS W (nl nm) [] (some (lfI i)) (some (.lf true (.str w)))) rfl (yI (yD (zbo (k:=true) (yh (wC (yp (zB (zb rfl) zN) rfl rfl) zf rfl) rfl) (λh=>nomatch h) (λ_=>rfl)) (ye (zb rfl))))
 |w::more,i,d::r,e3,e4,hw,hl=>by
  have hix:WD (f2 (fV 2) (fC (.int 0)) ixP) (FS W (nl nm) (d::r) (some (lfI i)) (some (.lf true (.str w)))) true (.int d):=yH (zb rfl) zf zjK rfl
  have hz:WT (Yw (fT (f2 (fP (aC (fV 2) aN) yz) (fC (.int 0)) (zH .Eq))) (Y8 (fT (zV (aC (fV 4) (aC (f2 (fV 2) (fC (.int 0)) ixP) (aC (fV 1) aN))) Wm)))) (FS W (nl nm) (d::r) (some (lfI i)) (some (.lf true (.str w)))) (!Vf w d nm):=by
   refine zbo (k:=false) (yh (wC (c:=false) (yp (zB (zb rfl) zN) rfl rfl) zf ?_) rfl) (λ_=>zfc (yh (zid (WD.e (zb rfl)) (WD.e hix) (WD.e (zb rfl)) (zjE (hw w zzB) hn)) rfl)) (λh=>nomatch h)
   show some ((((d::r).map D.int).length:Int)==0)=_
   refine congrArg some (beq_eq_false_iff_ne.mpr ?_)
   rw[zD,zzP];omega
  have hl':r.length<=99:=by rw[zzP]at hl;omega
  show ∃e3' e4',forL fG fB ((true,.tup [.int i,.str w])::Yv true (i+1) (more.map .str)) _=_
  unfold ffL
  cases hf:Vf w d nm with
  |false=>
   rw[hf]at hz
   rw[if_neg (by decide)]
   exact⟨e3,e4,ZZ (as1:=FS W (nl nm) (d::r) (some (lfI i)) (some (.lf true (.str w)))) rfl (yI (yD hz (ye (zb rfl))))⟩
  |true=>
   rw[hf]at hz
   rw[if_pos rfl]
   have hs:=zmG (W:=W) (N:=nl nm) (w:=w) (i:=i) (d:=d) (r:=r) (zlw w) (by omega) (zgE w)
   have ht:WT (fT (f2 (f2 (f2 (fV 3) (fC (.int 1)) (zm .Add)) (fP (aC (fV 2) aN) yz) (zm .Add)) (fC (.int 40)) (zH .Gt))) (FS W (nl nm) (List.replicate (pa w) (d+1)++r) (some (lfI i)) (some (.lf true (.str w)))) (decide (40<i+1+(pa w+r.length))):=by
    refine yh (Zh (yM (yM (zb rfl) zf) (yp (zB (zb rfl) zN) rfl rfl)) zf) ?_
    show some (decide ((40:Int)<(i:Int)+1+(((List.replicate (pa w) (d+1)++r).map D.int).length:Nat)))=_
    rw[zD,zzF,List.length_replicate]
    exact congrArg some (decide_eq_decide.mpr (by omega))
   by_cases ho:40<i+1+(pa w+r.length)
   · rw[zyK ho]at ht
     rw[if_pos ho]
     exact⟨e3,e4,ZZ (as1:=FS W (nl nm) (d::r) (some (lfI i)) (some (.lf true (.str w)))) rfl (zx (zJ hz rfl) (zx hs (yD ht (ye (zb rfl)))))⟩
   · rw[zyC ho]at ht
     rw[if_neg ho]
     obtain⟨e3',e4',q⟩:=zhN hn more (i+1) (List.replicate (pa w) (d+1)++r) (some (lfI i)) (some (.lf true (.str w))) (λw m=>hw w (zS _ m)) (by rw[zzF,List.length_replicate];omega)
     exact⟨e3',e4',xj (as1:=FS W (nl nm) (d::r) (some (lfI i)) (some (.lf true (.str w)))) rfl (zx (zJ hz rfl) (zx hs (zJ ht rfl))) q⟩
def ffD(ws:List Str):Sum Nat (List Int)->D
 | .inl k=>.int k
 | .inr []=>.non
 | .inr _=>.int ws.length
theorem zlv{ws nm:List Str}(hn:∀x ∈ nm,isNm x)(hw:∀w ∈ ws,w.length<=1000000)(hl:ws.length<=1000000):yZ [(true,nl ws),(true,nl nm)]=some (.lf true (ffD ws (ffL nm 0 [0] ws))):=by
 obtain⟨e3,e4,q⟩:=zhN (W:=nl ws) hn ws 0 [0] none none hw (by decide)
 have s1:=Vl (p:=2) (as:=xN 5 [(true,nl ws),(true,nl nm)]) (yE (fr:=dC (fC (.int 0)) dN) (x:=.lst [.int 0]) (zp zf zU) (szl rfl) rfl rfl) (zQ rfl)
 cases e:ffL nm 0 [0] ws with
 |inl k=>
  rw[e]at q
  exact yP rfl (zx s1 (yI (wW (zlK (zb rfl)) q)))
 |inr vs=>
  rw[e]at q
  refine yP rfl (zx s1 (zx (wW (zlK (zb rfl)) q) (ye ?_)))
  cases vs with
  |nil=>exact ziN (yh (Zh (yp (zB (zb rfl) zN) rfl rfl) zf) rfl) zf
  |cons v vs=>
   refine ziq (yh (Zh (yp (zB (zb rfl) zN) rfl rfl) zf) ?_) ?_
   · refine congrArg some (zyK ?_)
     show(0:Int)<(((v::vs).map D.int).length:Nat)
     rw[zD,zzP];omega
   · have hz:yz [nl ws]=some (.im (.int (ws.length:Nat))):=by
      show some (R0.im (.int ((ws.map D.str).length:Nat)))=_
      rw[zD]
     exact yp (zB (zb rfl) zN) hz rfl
def VT(f:EF)(as:AS)(d:D):Prop:=∃rv,f as=some (rv,as)/\rv.frz.view as=some (d,some true)
theorem zej{f:EF}{as:AS}{d:D}(h:WE f as d):VT f as d:=by
 obtain⟨o,h1,h2,h3⟩:=h
 refine⟨.ow o,h1, ?_⟩
 show some (o.frz.toD,some o.frz.str)=_
 rw[show o.frz.toD=o.toD from rfl,show o.frz.str=o.str from rfl,h3,h2]
theorem zom{f:EF}{as:AS}{d:D}(h:WD f as true d):VT f as d:=⟨.ow (.lf true d),h,rfl⟩
theorem ziV:∀ds:List D,(ds.map (O.lf true)).all O.isLf=true
 | []=>rfl
 |_::r=>ziV r
theorem Xr{as:AS}{i:Nat}{ds:List D}(h:as[i]? = some (some (.nd .ls (ds.map (O.lf true))))):VT (fV i) as (.lst ds):=by
 refine⟨.bo i,zfW h,(zcK h).trans ?_⟩
 have e:(O.nd .ls (ds.map (O.lf true))).kl=some true:=by
  show(if(ds.map (O.lf true)).all O.isLf=true then some (O.strs (ds.map (O.lf true)))else none)=_
  rw[if_pos (ziV ds),Wx]
 rw[e]
 show some (D.lst (O.toDs (ds.map (O.lf true))),_)=_
 rw[W5]
theorem vt2{a b:EF}{as:AS}{x y z:D}{g:D->D->Option R0}(ha:VT a as x)(hb:VT b as y)(hg:g x y=some (.im z)):WD (f2 a b g) as true z:=by
 obtain⟨ra,h1,h2⟩:=ha
 obtain⟨rb,h3,h4⟩:=hb
 unfold WD f2
 simp only[h1,h3,h2,h4,hg,zyH]
 show(if(zY z||true)=true then some (RV.ow (.lf (zY z||true) z))else none:Option RV).bind _=_
 rw[zzZ];rfl
theorem zmo{a b:EF}{as:AS}{x y:D}{zs:List D}{g:D->D->Option R0}(ha:VT a as x)(hb:VT b as y)(hg:g x y=some (.fl zs)):f2 a b g as=some (.ow (.nd .ls (zs.map (O.lf true))),as):=by
 obtain⟨ra,h1,h2⟩:=ha
 obtain⟨rb,h3,h4⟩:=hb
 unfold f2
 simp only[h1,h3,h2,h4,hg,zyH]
 show(if(zs.all zY||true)=true then some (RV.ow (.nd .ls (zs.map (lfs true))))else none:Option RV).bind _=_
 rw[zzZ,show zs.map (lfs true)=zs.map (O.lf true)from List.map_congr_left λz _=>by show O.lf (zY z||true) z=_;rw[zzZ]];rfl
theorem ziI{f:EF}{fl fh:OF}{as:AS}{y:D}{zs:List D}{lo hi:Option Int}{g:D->Option Int->Option Int->Option R0}(ha:VT f as y)(hl:fl as=some (lo,as))(hh:fh as=some (hi,as))(hg:g y lo hi=some (.fl zs)):fSl f fl fh g as=some (.ow (.nd .ls (zs.map (O.lf true))),as):=by
 obtain⟨ra,h1,h2⟩:=ha
 unfold fSl
 simp only[h1,hl,hh,h2,hg,zyH]
 show(if(zs.all zY||true)=true then some (RV.ow (.nd .ls (zs.map (lfs true))))else none:Option RV).bind _=_
 rw[zzZ,show zs.map (lfs true)=zs.map (O.lf true)from List.map_congr_left λz _=>by show O.lf (zY z||true) z=_;rw[zzZ]];rfl
theorem zdr{f:EF}{as:AS}{zs:List D}(h:f as=some (.ow (.nd .ls (zs.map (O.lf true))),as)):WE f as (.lst zs):=⟨_,h,Wx zs,congrArg D.lst (W5 zs)⟩
theorem Vi{f:EF}{as:AS}{o:O}{as1:AS}{i:Nat}(h:f as=some (.ow o,as1))(hi:i<as1.length):zF false i f as=some (.nx (as1.set i (some o))):=by
 unfold zF
 rw[h]
 simp only[zyH,Bool.false_eq_true,if_false,toO,if_pos hi]
abbrev zcA:EF:=zck [((fC (.str "add")),(fC (.int 2))),((fC (.str "take")),(fC (.int 2))),((fC (.str "times")),(fC (.int 2))),((fC (.str "most")),(fC (.int 2))),((fC (.str "least")),(fC (.int 2))),((fC (.str "same")),(fC (.int 4)))]
theorem zdJ{as:AS}{a:EF}{w:Str}(ha:WD a as true (.str w)):WD (xu .dct zcA (aC a (aC (fC (.int 0)) aN)) getP') as true (.int (pa w)):=by
 have hd:zcA as=some (.ow (.nd (.dc [.inr "add",.inr "take",.inr "times",.inr "most",.inr "least",.inr "same"]) [.lf true (.int 2),.lf true (.int 2),.lf true (.int 2),.lf true (.int 2),.lf true (.int 2),.lf true (.int 4)]),as):=
  zjU (kos:=[(.inr "add",.lf true (.int 2)),(.inr "take",.lf true (.int 2)),(.inr "times",.lf true (.int 2)),(.inr "most",.lf true (.int 2)),(.inr "least",.lf true (.int 2)),(.inr "same",.lf true (.int 4))]) rfl (by decide +kernel) (by decide)
 have hr:WA (aC a (aC (fC (.int 0)) aN)) as [(true,.str w),(true,.int 0)]:=zB ha (zB zf zN)
 have hg:getP' PT [.str w,.int 0]=some (.im (.int (pa w))):=by
  show some (R0.im ((Wh PL (.inr w)).getD (.int 0)))=_
  rw[zih]
 have hm:WD (xu .dct (fC PT) (aC a (aC (fC (.int 0)) aN)) getP') as true (.int (pa w)):=zcX zf rfl hr hg rfl
 unfold WD xu at hm ⊢
 rw[hd]
 exact hm
abbrev lB:SF:=(zM (sIf (fT (f2 (fV 2) (zP dN) (zH .Eq))) (yF (fV 3)) sNx)
 (zM (zF true 4 (xx 2 dN zdo))
 (zM (zF true 5 (xu .dct zcA (aC (f2 (fV 0) (fV 3) ixP) (aC (fC (.int 0)) aN)) getP'))
 (zM (sIf (vL (fT (f2 (fV 5) (fC (.int 0)) (zH .Eq))) (Y8 (fT (zV (aC (f2 (fV 0) (fV 3) ixP) (aC (fV 1) aN)) xJ)))) (yF (fV 3)) sNx)
 (zM (sIf (vL (fT (f2 (fV 5) (fC (.int 0)) (zH .Gt))) (Yw (fT (f2 (fV 4) (fC (.int 11)) (zH .Gt))) (fT (f2 (f2 (f2 (f2 (fV 3) (fC (.int 1)) (zm .Add)) (fP (aC (fV 2) aN) yz) (zm .Add)) (fV 5) (zm .Add)) (fC (.int 40)) (zH .Gt))))) (yF (fV 3)) sNx)
 (zF false 2 (f2 (fV 2) (f2 (zP (dC (f2 (fV 4) (fC (.int 1)) (zm .Add)) dN)) (fV 5) (zm .Mult)) (zm .Add))))))))
abbrev LS(W N:D)(ws:List Int)(e3 e4 e5:Option O):AS:=[some (.lf true W),some (.lf true N),some (.nd .ls ((ws.reverse.map D.int).map (O.lf true))),e3,e4,e5]
theorem znk{as:AS}{i:Nat}{os:List O}{o:O}(h:as[i]? = some (some (.nd .ls (os++[o])))):xx i dN zdo as=some (.ow o,as.set i (some (.nd .ls os))):=by
 unfold xx;rw[h]
 show((dN as).bind _)=_
 show(match as[i]? with|some (some (.nd .ls os))=>_|_=>none)=_
 rw[h];show((zdo (os++[o]) []).bind _)=_
 have e2:zdo (os++[o]) []=some (os,o):=by
  unfold zdo
  have h1:(os++[o]).length-1=os.length:=by rw[zzF];rfl
  rw[h1,zyN (zzJ _),Nat.sub_self]
  show some ((os++[o]).eraseIdx os.length,o)=_
  rw[List.eraseIdx_append_of_length_le (zzJ _),Nat.sub_self]
  show some (os++[],o)=_
  rw[zyA]
 rw[e2];rfl
theorem zam{f:EF}{as:AS}{s:Bool}{d:D}{as1:AS}{i:Nat}(h:f as=some (.ow (.lf s d),as1))(hi:i<as1.length):zF true i f as=some (.nx (as1.set i (some (.lf s d)))):=by
 unfold zF
 rw[h]
 simp only[zyH,if_true,RV.frz,toO,if_pos hi]
 rfl
theorem zaX{ws:List Str}{i:Nat}{w:Str}(hi:ws[i]? = some w):ixP (nl ws) (.int i)=some (.im (.str w)):=by
 show imR (atI _ _)=_
 rw[zal (v:=.str w) (by rw[zzE,hi];rfl)];rfl
theorem zhG(l:List D):eqF 60 (.lst l) (.lst [])=some l.isEmpty:=by cases l<;>rfl
theorem zjs(k:Nat)(x:Int):(List.replicate k [D.int x]).flatten=(List.replicate k x).map D.int:=by
 induction k with
 |zero=>rfl
 |succ k ih=>rw[List.replicate_succ,List.flatten_cons,ih];rfl
def lfB(nm:List Str)(i:Nat)(d:Int)(r:List Int)(w:Str):Bool:=if pa w=0 then inN w nm||fig w else !(decide ((11:Int)<d)||decide (40<i+1+r.length+pa w))
theorem znn{ws nm:List Str}{w:Str}{i:Nat}{d:Int}{r:List Int}{e4 e5:Option O}(hi:ws[i]? = some w)(hw:w.length<=1000000)(hr:r.length<=100):
 lB (LS (nl ws) (nl nm) (d::r) (some (lfI i)) e4 e5)=some (if lfB nm i d r w=true then .nx (LS (nl ws) (nl nm) (List.replicate (pa w) (d+1)++r) (some (lfI i)) (some (lfI d)) (some (lfI (pa w))))else .rt (lfI i)):=by
 have e0:((d::r).reverse.map D.int).map (O.lf true)=(r.reverse.map D.int).map (O.lf true)++[lfI d]:=by rw[List.reverse_cons,zyI,zyI];rfl
 have t1:WT (fT (f2 (fV 2) (zP dN) (zH .Eq))) (LS (nl ws) (nl nm) (d::r) (some (lfI i)) e4 e5) false:=by
  refine yh (vt2 (z:=.bl false) (Xr rfl) (zej (yE zU (by decide) rfl rfl)) ?_) rfl
  show(eqF 60 (.lst ((d::r).reverse.map D.int)) (.lst [])).bind _=_
  rw[zhG,List.reverse_cons,zyI]
  cases(r.reverse.map D.int)<;>rfl
 have s2:zF true 4 (xx 2 dN zdo) (LS (nl ws) (nl nm) (d::r) (some (lfI i)) e4 e5)=some (.nx (LS (nl ws) (nl nm) r (some (lfI i)) (some (lfI d)) e5)):=
  zam (s:=true) (d:=.int d) (as1:=LS (nl ws) (nl nm) r (some (lfI i)) e4 e5) (znk (os:=(r.reverse.map D.int).map (O.lf true)) (o:=lfI d) (by show some (some (O.nd .ls (((d::r).reverse.map D.int).map (O.lf true))))=_;rw[e0])) (zQ rfl)
 have hx:∀e4 e5,WD (f2 (fV 0) (fV 3) ixP) (LS (nl ws) (nl nm) r (some (lfI i)) e4 e5) true (.str w):=λe4 e5=>yH (zb rfl) (zb rfl) (zaX hi) rfl
 have s3:zF true 5 (xu .dct zcA (aC (f2 (fV 0) (fV 3) ixP) (aC (fC (.int 0)) aN)) getP') (LS (nl ws) (nl nm) r (some (lfI i)) (some (lfI d)) e5)=some (.nx (LS (nl ws) (nl nm) r (some (lfI i)) (some (lfI d)) (some (lfI (pa w))))):=yK (i:=5) (zdJ (hx _ _)) (zQ rfl)
 have t4:WT (vL (fT (f2 (fV 5) (fC (.int 0)) (zH .Eq))) (Y8 (fT (zV (aC (f2 (fV 0) (fV 3) ixP) (aC (fV 1) aN)) xJ)))) (LS (nl ws) (nl nm) r (some (lfI i)) (some (lfI d)) (some (lfI (pa w)))) (decide (pa w=0) && !(inN w nm||fig w)):=by
  refine zax (k:=decide (pa w=0)) (yh (wC (c:=decide (pa w=0)) (zb rfl) zf ?_) rfl) (λh=>?_) λh=>by rw[h];rfl
  · show some ((pa w:Int)==0)=_
    refine congrArg some ?_
    by_cases z:pa w=0
    · rw[z];rfl
    · rw[zyC z];exact beq_eq_false_iff_ne.mpr (by omega)
  · rw[h,Bool.true_and]
    exact zfc (yh (vd (WD.e (hx _ _)) (WD.e (zb rfl)) (zgK hw)) rfl)
 have t5:WT (vL (fT (f2 (fV 5) (fC (.int 0)) (zH .Gt))) (Yw (fT (f2 (fV 4) (fC (.int 11)) (zH .Gt))) (fT (f2 (f2 (f2 (f2 (fV 3) (fC (.int 1)) (zm .Add)) (fP (aC (fV 2) aN) yz) (zm .Add)) (fV 5) (zm .Add)) (fC (.int 40)) (zH .Gt))))) (LS (nl ws) (nl nm) r (some (lfI i)) (some (lfI d)) (some (lfI (pa w)))) (decide (0<pa w)&&(decide ((11:Int)<d)||decide (40<i+1+r.length+pa w))):=by
  refine zax (k:=decide (0<pa w)) (yh (Zh (zb rfl) zf) ?_) (λh=>?_) λh=>by rw[h];rfl
  · show some (decide ((0:Int)<(pa w:Int)))=_
    exact congrArg some (decide_eq_decide.mpr (by omega))
  · rw[h,Bool.true_and]
    refine zbo (k:=decide ((11:Int)<d)) (yh (Zh (zb rfl) zf) rfl) (λh=>?_) λh=>by rw[h];rfl
    rw[h,Bool.false_or]
    refine yh (Zh (yM (yM (yM (zb rfl) zf) (zdq rfl)) (zb rfl)) zf) ?_
    show some (decide ((40:Int)<(i:Int)+1+((((r.reverse.map D.int).map (O.lf true)).length:Nat):Int)+(pa w:Int)))=_
    rw[zD,zD,List.length_reverse]
    exact congrArg some (decide_eq_decide.mpr (by omega))
 have s6:zF false 2 (f2 (fV 2) (f2 (zP (dC (f2 (fV 4) (fC (.int 1)) (zm .Add)) dN)) (fV 5) (zm .Mult)) (zm .Add)) (LS (nl ws) (nl nm) r (some (lfI i)) (some (lfI d)) (some (lfI (pa w))))=some (.nx (LS (nl ws) (nl nm) (List.replicate (pa w) (d+1)++r) (some (lfI i)) (some (lfI d)) (some (lfI (pa w))))):=by
  have hp:=zlw w
  have hm:zm .Mult (.lst [.int (d+1)]) (.int (pa w:Int))=some (.fl ((List.replicate (pa w) (d+1)).map D.int)):=by
   have c : -(2 ^ 63)<=(pa w:Int)/\(pa w:Int)<2 ^ 63/\([D.int (d+1)]:List D).length*(pa w:Int).toNat<=sizeLine:=⟨by omega,by omega,szs (by rw[zyE];show 1*pa w<=_;omega)⟩
   rw[mul_list c,zyE,zjs]
  have e:=Vi (i:=2) (zmo (as:=LS (nl ws) (nl nm) r (some (lfI i)) (some (lfI d)) (some (lfI (pa w)))) (Xr (i:=2) rfl) (zej (zaF (yE (x:=.lst [.int (d+1)]) (zp (yM (zb (i:=4) rfl) (zf (x:=.int 1))) zU) (szl rfl) rfl rfl) (WD.e (zb (i:=5) rfl)) hm)) (add_lists (szs (by simp only[zD,List.length_replicate,List.length_reverse];omega)))) (zQ rfl)
  rw[e,<-zyI,show r.reverse++List.replicate (pa w) (d+1)=(List.replicate (pa w) (d+1)++r).reverse by rw[List.reverse_append,List.reverse_replicate]]
  rfl
 refine zx (zJ t1 rfl) (zx s2 (zx s3 ?_))
 unfold lfB
 by_cases h0:pa w=0
 · rw[if_pos h0]
   rw[zyK h0,Bool.true_and]at t4
   rw[zyC (show ¬0<pa w by omega),Bool.false_and]at t5
   cases z:(inN w nm||fig w)with
   |false=>rw[z]at t4;exact yI (yD t4 (ye (zb rfl)))
   |true=>
    rw[z]at t4
    refine zx (zJ t4 rfl) (zx (zJ t5 rfl) ?_)
    exact s6
 · rw[if_neg h0]
   rw[zyC h0,Bool.false_and]at t4
   rw[zyK (show 0<pa w by omega),Bool.true_and]at t5
   cases z:(decide ((11:Int)<d)||decide (40<i+1+r.length+pa w))with
   |true=>rw[z]at t5;exact zx (zJ t4 rfl) (yI (yD t5 (ye (zb rfl))))
   |false=>
    rw[z]at t5
    refine zx (zJ t4 rfl) (zx (zJ t5 rfl) ?_)
    exact s6
def atL(nm:List Str):Nat->List Int->List Str->Sum Nat (List Int)
 |_,ws,[]=>.inr ws
 |i,[],_::_=>.inl i
 |i,d::r,w::more=>if lfB nm i d r w=true then atL nm (i+1) (List.replicate (pa w) (d+1)++r) more else .inl i
def atO(W N:D)(e3 e4 e5:Option O):Sum Nat (List Int)->Out
 | .inl k=>.rt (lfI k)
 | .inr ws=>.nx (LS W N ws e3 e4 e5)
theorem zjj{ws nm:List Str}(hw:∀w ∈ ws,w.length<=1000000):∀(more:List Str) (i:Nat) (vs:List Int) (e3 e4 e5:Option O),ws.drop i=more->vs.length<=41->
 ∃e3' e4' e5',forL (gN 3) lB (vH (i:Int) more.length) (LS (nl ws) (nl nm) vs e3 e4 e5)=some (atO (nl ws) (nl nm) e3' e4' e5' (atL nm i vs more))
 | [],i,vs,e3,e4,e5,_,_=>⟨e3,e4,e5,by unfold atL atO;rfl⟩
 |w::more,i,[],e3,e4,e5,_,_=>by
  refine⟨e3,e4,e5, ?_⟩
  rw[zzP,Vn]
  refine ZZ (as1:=LS (nl ws) (nl nm) [] (some (lfI i)) e4 e5) rfl (yI (yD (yh (vt2 (z:=.bl true) (Xr rfl) (zej (yE zU (by decide) rfl rfl)) rfl) rfl) (ye (zb rfl))))
 |w::more,i,d::r,e3,e4,e5,hd,hv=>by
  have hi:ws[i]? = some w:=by
   have:=congrArg (λl=>l[0]?) hd
   simpa using this
  have hm:w ∈ ws:=zzW hi
  rw[zzP]at hv
  have b:=znn (ws:=ws) (nm:=nm) (i:=i) (d:=d) (r:=r) (e4:=e4) (e5:=e5) hi (hw w hm) (by omega)
  rw[zzP,Vn]
  unfold atL
  by_cases hf:lfB nm i d r w=true
  · rw[if_pos hf]at b ⊢
    have hd':ws.drop (i+1)=more:=by rw[<-List.drop_drop,hd];rfl
    have hlen:(List.replicate (pa w) (d+1)++r).length<=41:=by
     rw[zzF,List.length_replicate]
     unfold lfB at hf
     by_cases h0:pa w=0
     · omega
     · rw[if_neg h0,Bool.not_eq_true',Bool.or_eq_false_iff]at hf
       have:=of_decide_eq_false hf.2
       omega
    obtain⟨e3',e4',e5',q⟩:=zjj hw more (i+1) (List.replicate (pa w) (d+1)++r) (some (lfI i)) (some (lfI d)) (some (lfI (pa w))) hd' hlen
    exact⟨e3',e4',e5',xj (as1:=LS (nl ws) (nl nm) (d::r) (some (lfI i)) e4 e5) rfl b q⟩
  · rw[if_neg hf]at b ⊢
    exact⟨e3,e4,e5,ZZ (as1:=LS (nl ws) (nl nm) (d::r) (some (lfI i)) e4 e5) rfl b⟩
def atD(ws:List Str):Sum Nat (List Int)->Int
 | .inl k=>k
 | .inr []=>-1
 | .inr _=>ws.length
theorem zol{ws nm:List Str}(hw:∀w ∈ ws,w.length<=1000000)(hl:ws.length<1000000):ZS [(true,nl ws),(true,nl nm)]=some (lfI (atD ws (atL nm 0 [0] ws))):=by
 obtain⟨e3,e4,e5,q⟩:=zjj (nm:=nm) hw ws 0 [0] none none none rfl (by decide)
 have hz:yz [nl ws]=some (.im (.int (ws.length:Nat))):=by
  show some (R0.im (.int ((ws.map D.str).length:Nat)))=_
  rw[zD]
 have s1:zF false 2 (zP (dC (fC (.int 0)) dN)) (xN 6 [(true,nl ws),(true,nl nm)])=some (.nx (LS (nl ws) (nl nm) [0] none none none)):=Vi (o:=.nd .ls [lfI 0]) (xW (zp zf zU) (by decide)) (zQ rfl)
 have ir:VL (aC (fP (aC (fV 0) aN) yz) aN) zdv (LS (nl ws) (nl nm) [0] none none none)=some (vH 0 ws.length,LS (nl ws) (nl nm) [0] none none none):=by
  have:=zaj (as:=LS (nl ws) (nl nm) [0] none none none) (j:=(ws.length:Int)) (u:=true) (zB (yp (zB (zb (i:=0) rfl) zN) hz rfl) zN) (by omega) (by omega)
  rw[zyE]at this
  exact this
 cases e:atL nm 0 [0] ws with
 |inl k=>
  rw[e]at q
  exact yP rfl (zx s1 (yI (wW ir q)))
 |inr vs=>
  rw[e]at q
  have tt:WT (fT (f2 (fV 2) (zP dN) (zH .NotEq))) (LS (nl ws) (nl nm) vs e3 e4 e5) (!(vs.reverse.map D.int).isEmpty):=by
   refine yh (vt2 (z:=.bl (!(vs.reverse.map D.int).isEmpty)) (Xr rfl) (zej (yE zU (by decide) rfl rfl)) ?_) rfl
   show(eqF 60 (.lst (vs.reverse.map D.int)) (.lst [])).bind _=_
   rw[zhG];rfl
  refine yP rfl (zx s1 (zx (wW ir q) ?_))
  cases vs with
  |nil=>exact zx (zJ tt rfl) (ye (show WD (f1 (fC (.int 1)) zac) _ true (.int (-1))from rfl))
  |cons v vs=>
   rw[show(!((v::vs).reverse.map D.int).isEmpty)=true by simp]at tt
   exact yI (yD tt (ye (yp (zB (zb rfl) zN) hz rfl)))
theorem VM{nm:List Str}(hn:∀x ∈ nm,isNm x):∀(more:List Str) (i:Nat) (vs:List Int),i+vs.length<=40->ffL nm i vs more=atL nm i vs more
 | [],i,vs,_=>by unfold ffL atL;rfl
 |w::more,i,[],_=>by unfold ffL atL;rfl
 |w::more,i,d::r,h=>by
  rw[zzP]at h
  unfold ffL atL
  by_cases h0:pa w=0
  · have e1:Vf w d nm=lfB nm i d r w:=by
     unfold Vf lfB
     rw[if_neg (by omega),if_pos h0,Bool.or_comm]
    rw[e1]
    cases lfB nm i d r w with
    |false=>rfl
    |true=>
     rw[if_pos rfl,if_pos rfl,if_neg (by omega)]
     exact VM hn more (i+1) _ (by rw[zzF,List.length_replicate];omega)
  · have e2:lfB nm i d r w=(Vf w d nm && !decide (40<i+1+(pa w+r.length))):=by
     unfold Vf lfB
     rw[if_neg h0,if_pos (show 0<pa w by omega),Bool.not_or,show(!decide ((11:Int)<d))=decide (d<12) by rw[<-decide_not];exact decide_eq_decide.mpr (by omega),show decide (40<i+1+r.length+pa w)=decide (40<i+1+(pa w+r.length))from decide_eq_decide.mpr (by omega)]
    rw[e2]
    cases Vf w d nm with
    |false=>rfl
    |true=>
     rw[if_pos rfl]
     by_cases ho:40<i+1+(pa w+r.length)
     · rw[if_pos ho,zyK ho];rfl
     · rw[if_neg ho,zyC ho]
       show _=if true=true then _ else _
       rw[if_pos rfl]
       exact VM hn more (i+1) _ (by rw[zzF,List.length_replicate];omega)
def mkT(w:Str)(ps:List D):D:=if pa w=0 then zaW w else .tup (.str w::ps)
def rd:List Str->List D
 | []=>[]
 |w::more=>mkT w ((rd more).take (pa w))::(rd more).drop (pa w)
def okR:List Str->Prop
 | []=>True
 |w::more=>okR more/\pa w<=(rd more).length
theorem zlP{nm:List Str}:∀(ws:List Str) (i:Nat) (vs:List Int),ffL nm i vs ws = .inr []->okR ws/\(rd ws).length=vs.length/\∀w ∈ ws,pa w=0->(fig w||inN w nm)=true
 | [],i,vs,h=>by
  unfold ffL at h
  cases h
  exact⟨True.intro,rfl,λ_ z=>nomatch z⟩
 |w::more,i,[],h=>by unfold ffL at h;cases h
 |w::more,i,d::r,h=>by
  unfold ffL at h
  by_cases hf:Vf w d nm=true
  · rw[if_pos hf]at h
    by_cases ho:40<i+1+(pa w+r.length)
    · rw[if_pos ho]at h;cases h
    · rw[if_neg ho]at h
      obtain⟨h1,h2,h3⟩:=zlP more (i+1) _ h
      rw[zzF,List.length_replicate]at h2
      refine⟨⟨h1,by omega⟩, ?_,λx hx h0=>?_⟩
      · show((rd more).drop (pa w)).length+1=r.length+1
        rw[List.length_drop];omega
      · rcases zI.mp hx with rfl|hx
        · unfold Vf at hf
          rw[if_neg (by omega)]at hf
          exact hf
        · exact h3 x hx h0
  · rw[if_neg hf]at h;cases h
theorem zeZ:∀ws:List Str,(rd ws).length<=ws.length
 | []=>zzJ _
 |w::more=>by
  have:=zeZ more
  show((rd more).drop (pa w)).length+1<=more.length+1
  rw[List.length_drop];omega
abbrev oB:SF:=(zM (zF true 3 (zV (aC (fV 2) aN) yr))
 (zM (zF true 4 (fIf (fT (f2 (fV 3) (fC (.int 0)) (zH .Eq))) (zV (aC (fV 2) aN) vR) (fP (aC (f2 (zP (dC (fV 2) dN)) (fSl (fV 1) oN (oS (fV 3)) slP) (zm .Add)) aN) tupP)))
 (zF true 1 (f2 (zP (dC (fV 4) dN)) (fSl (fV 1) (oS (fV 3)) oN slP) (zm .Add)))))
abbrev OS(W:D)(rs:List D)(e2 e3 e4:Option O):AS:=[some (.lf true W),some (.lf true (.lst rs)),e2,e3,e4]
theorem zmC{W:D}{w:Str}{rs:List D}{e3 e4:Option O}(hw:w.length<=1000000)(hk:pa w<=rs.length)(hl:rs.length<=100000):
 oB (OS W rs (some (.lf true (.str w))) e3 e4)=some (.nx (OS W (mkT w (rs.take (pa w))::rs.drop (pa w)) (some (.lf true (.str w))) (some (lfI (pa w))) (some (.lf true (mkT w (rs.take (pa w))))))):=by
 have c1:=zeP (xs:=rs.take (pa w)) (ys:=rs.drop (pa w))
 have c2:=zaL (xs:=rs.take (pa w)) (ys:=rs.drop (pa w))
 rw[List.take_append_drop,zzO,Nat.min_eq_left hk]at c1 c2
 refine zx (yK (i:=3) (X7 (WD.e (zb rfl)) (zgE w)) (zQ rfl)) (zx (yK (i:=4) (x:=mkT w (rs.take (pa w))) (s:=true) ?_ (zQ rfl)) ?_)
 · unfold mkT
   by_cases h0:pa w=0
   · rw[if_pos h0]
     refine ziq (yh (wC (c:=true) (zb rfl) zf ?_) rfl) (X7 (WD.e (zb rfl)) (zkt hw rfl))
     show some ((pa w:Int)==0)=_
     rw[h0];rfl
   · rw[if_neg h0]
     refine ziN (yh (wC (c:=false) (zb rfl) zf ?_) rfl) ?_
     · show some ((pa w:Int)==0)=_
       exact congrArg some (beq_eq_false_iff_ne.mpr (by omega))
     · exact zfj (zaF (yE (x:=.lst [.str w]) (zp (zb (i:=2) rfl) zU) (szl rfl) rfl rfl) (zak (fl:=oN) (fh:=oS (fV 3)) (WD.e (zb (i:=1) rfl)) (lo:=none) (hi:=some (pa w:Int)) rfl rfl c1) (add_lists (xs:=[.str w]) (szs (by rw[zzO];show 1+_<=_;omega)))) rfl
 · have:=Vl (p:=1) (as:=OS W rs (some (.lf true (.str w))) (some (lfI (pa w))) (some (.lf true (mkT w (rs.take (pa w)))))) (zaF (yE (x:=.lst [mkT w (rs.take (pa w))]) (zp (zb (i:=4) rfl) zU) (szl rfl) rfl rfl) (zak (fl:=oS (fV 3)) (fh:=oN) (WD.e (zb (i:=1) rfl)) (lo:=some (pa w:Int)) (hi:=none) rfl rfl c2) (add_lists (xs:=[mkT w (rs.take (pa w))]) (szs (by rw[List.length_drop];show 1+_<=_;omega)))) (zQ rfl)
   exact this
abbrev its(ws:List Str):List It1:=(ws.map D.str).map λd=>(true,d)
theorem zfR(a b:List Str):its (a++b)=its a++its b:=by simp[its]
theorem ziZ{W:D}:∀(ws:List Str) (more:List It1) (e2 e3 e4:Option O),okR ws->(∀w ∈ ws,w.length<=1000000)->ws.length<=100000->∃e2' e3' e4',forL (gN 2) oB (its ws.reverse++more) (OS W [] e2 e3 e4)=forL (gN 2) oB more (OS W (rd ws) e2' e3' e4')
 | [],more,e2,e3,e4,_,_,_=>⟨e2,e3,e4,rfl⟩
 |w::tl,more,e2,e3,e4,ok,hw,hl=>by
  rw[zzP]at hl
  have e:its (w::tl).reverse++more=its tl.reverse++(its [w]++more):=by rw[List.reverse_cons,zfR,zyZ]
  obtain⟨e2',e3',e4',q⟩:=ziZ tl (its [w]++more) e2 e3 e4 ok.1 (λx hx=>hw x (zS _ hx)) (by omega)
  rw[e,q]
  have:=zeZ tl
  exact⟨_,_,_,xj (as1:=OS W (rd tl) (some (.lf true (.str w))) e3' e4') rfl (zmC (hw w zzB) ok.2 (by omega)) rfl⟩
theorem of_ok{ws:List Str}{t:D}(ok:okR ws)(ht:rd ws=[t])(hw:∀w ∈ ws,w.length<=1000000)(hl:ws.length<=100000):Z1 [(true,nl ws)]=some (.lf true t):=by
 obtain⟨e2,e3,e4,q⟩:=ziZ (W:=nl ws) ws [] none none none ok hw hl
 rw[zyA,ht]at q
 have hrev:its ws.reverse=(ws.map D.str).reverse.map λd=>(true,d):=by unfold its;rw[List.map_reverse]
 rw[hrev]at q
 exact yP rfl (zx (Vl (p:=1) (yE zU (szl rfl) rfl rfl) (zQ rfl)) (zx (wW (zoK (zb rfl)) (q.trans rfl)) (ye (Wj (zb rfl) zf zjK))))
theorem YW{f:EF}{as:AS}{k:Int}(h:WD f as true (.int k)):oS f as=some (some k,as):=by
 unfold oS;unfold WD at h
 rw[h];rfl
abbrev dB:SF:=(zM (zF true 4 (xu .dct zcA (aC (fV 3) (aC (fC (.int 0)) aN)) getP'))
 (sIf (fT (f2 (fV 4) (fC (.int 0)) (zH .Gt))) (zM (zF true 5 (fSl (fSl (fV 2) (oS (f2 (fP (aC (fV 2) aN) yz) (fV 4) (zm .Sub))) oN slP) oN (oS (f1 (fC (.int 1)) zac)) rvP))
 (zF false 2 (f2 (fSl (fV 2) oN (oS (f2 (fP (aC (fV 2) aN) yz) (fV 4) (zm .Sub))) slP) (zP (dC (fP (aC (f2 (zP (dC (fV 3) dN)) (fV 5) (zm .Add)) aN) tupP) dN)) (zm .Add)))) (sIf (fT (f2 (fV 3) (fV 1) (zH .In))) (xU (xx 2 (dC (zaf (dC (fC (.str "name")) (dC (fV 3) dN))) dN) Vd)) (xU (xx 2 (dC (zaf (dC (fC (.str "number")) (dC (fP (aC (fV 3) aN) Y5) dN))) dN) Vd)))))
abbrev TS(W N:D)(rs:List D)(e3 e4 e5:Option O):AS:=[some (.lf true W),some (.lf true N),some (.nd .ls (rs.reverse.map (O.lf true))),e3,e4,e5]
theorem znA{w:Str}{nm:List Str}(hn:∀x ∈ nm,isNm x)(h:inN w nm=true):fig w=false:=by
 obtain⟨x,hx,ex⟩:=List.any_eq_true.mp h
 have ex:x=w:=by simpa using ex
 subst ex
 rcases hn x hx with rfl|rfl|rfl<;>decide +kernel
theorem zng{W:D}{nm:List Str}{w:Str}{rs:List D}{e4 e5:Option O}(hn:∀x ∈ nm,isNm x)(hf:pa w=0->(fig w||inN w nm)=true)(hw:w.length<=1000000)(hk:pa w<=rs.length)(hl:rs.length<=100000):
 ∃e4' e5',dB (TS W (nl nm) rs (some (.lf true (.str w))) e4 e5)=some (.nx (TS W (nl nm) (mkT w (rs.take (pa w))::rs.drop (pa w)) (some (.lf true (.str w))) e4' e5')):=by
 have s1:zF true 4 (xu .dct zcA (aC (fV 3) (aC (fC (.int 0)) aN)) getP') (TS W (nl nm) rs (some (.lf true (.str w))) e4 e5)=some (.nx (TS W (nl nm) rs (some (.lf true (.str w))) (some (lfI (pa w))) e5)):=yK (i:=4) (zdJ (zb rfl)) (zQ rfl)
 have t1:WT (fT (f2 (fV 4) (fC (.int 0)) (zH .Gt))) (TS W (nl nm) rs (some (.lf true (.str w))) (some (lfI (pa w))) e5) (decide (0<pa w)):=by
  refine yh (Zh (zb rfl) zf) ?_
  show some (decide ((0:Int)<(pa w:Int)))=_
  exact congrArg some (decide_eq_decide.mpr (by omega))
 by_cases h0:pa w=0
 · rw[zyC (show ¬0<pa w by omega)]at t1
   have t2:WT (fT (f2 (fV 3) (fV 1) (zH .In))) (TS W (nl nm) rs (some (.lf true (.str w))) (some (lfI (pa w))) e5) (inN w nm):=yh (yH (z:=.bl (inN w nm)) (zb rfl) (zb rfl) (by rw[zfw,show inP (.str w) (nl nm)=anyF (λy=>eqF 50 y (.str w)) (nm.map .str)from rfl,YD];rfl) rfl) rfl
   have fin:∀t:D,mkT w (rs.take (pa w))=t->(TS W (nl nm) rs (some (.lf true (.str w))) (some (lfI (pa w))) e5).set 2 (some (.nd .ls (rs.reverse.map (O.lf true)++[.lf true t])))=TS W (nl nm) (mkT w (rs.take (pa w))::rs.drop (pa w)) (some (.lf true (.str w))) (some (lfI (pa w))) e5:=λt e=>by
    show[some (O.lf true W),some (O.lf true (nl nm)),some (O.nd .ls (rs.reverse.map (O.lf true)++[.lf true t])),some (.lf true (.str w)),some (lfI (pa w)),e5]=_
    rw[e,h0,List.drop_zero]
    show _=[some (O.lf true W),some (O.lf true (nl nm)),some (O.nd .ls ((t::rs).reverse.map (O.lf true))),some (.lf true (.str w)),some (lfI 0),e5]
    rw[List.reverse_cons,zyI];rfl
   have hsz:(rs.reverse.map (O.lf true)).length<sizeLine:=by rw[zD,List.length_reverse,sizeLine_eq];omega
   cases z:inN w nm with
   |true=>
    rw[z]at t2
    have e:mkT w (rs.take (pa w)) = .tup [.str "name",.str w]:=by unfold mkT zaW;rw[if_pos h0,znA hn z];rfl
    refine⟨some (lfI (pa w)),e5,zx s1 (zJ t1 (yD t2 ?_))⟩
    rw[zds (i:=2) (s:=true) (x:=.tup [.str "name",.str w]) rfl hsz (Wf (os:=[.lf true (.str "name"),.lf true (.str w)]) (zp zf (zp (zb rfl) zU)) (szl rfl) rfl),fin _ e]
   |false=>
    rw[z]at t2
    have hfg:fig w=true:=by have:=hf h0;rw[z,Bool.or_false]at this;exact this
    have e:mkT w (rs.take (pa w)) = .tup [.str "number",.int ((PySem.intText? w).getD 0)]:=by unfold mkT zaW;rw[if_pos h0,if_pos hfg]
    refine⟨some (lfI (pa w)),e5,zx s1 (zJ t1 (zJ t2 ?_))⟩
    rw[zds (i:=2) (s:=true) (x:=.tup [.str "number",.int ((PySem.intText? w).getD 0)]) rfl hsz (Wf (os:=[.lf true (.str "number"),lfI ((PySem.intText? w).getD 0)]) (zp zf (zp (yp (zB (zb rfl) zN) (zgo hfg) rfl) zU)) (szl rfl) rfl),fin _ e]
 · rw[zyK (show 0<pa w by omega)]at t1
   have e:mkT w (rs.take (pa w)) = .tup (.str w::rs.take (pa w)):=by unfold mkT;rw[if_neg h0]
   have er:rs.reverse=(rs.drop (pa w)).reverse++(rs.take (pa w)).reverse:=by rw[<-List.reverse_append,List.take_append_drop]
   have hlen:∀e5,WD (f2 (fP (aC (fV 2) aN) yz) (fV 4) (zm .Sub)) (TS W (nl nm) rs (some (.lf true (.str w))) (some (lfI (pa w))) e5) true (.int ((rs.drop (pa w)).reverse.length:Nat)):=λe5=>by
    have z:=zjf (as:=TS W (nl nm) rs (some (.lf true (.str w))) (some (lfI (pa w))) e5) (zdq (i:=2) rfl) (zb (i:=4) rfl)
    rw[zD,List.length_reverse]at z
    rw[List.length_reverse,List.length_drop,show((rs.length-pa w:Nat):Int)=(rs.length:Int)-(pa w:Int) by omega]
    exact z
   have c1:=zaL (xs:=(rs.drop (pa w)).reverse) (ys:=(rs.take (pa w)).reverse)
   have c2:=zeP (xs:=(rs.drop (pa w)).reverse) (ys:=(rs.take (pa w)).reverse)
   rw[<-er]at c1 c2
   have s2:zF true 5 (fSl (fSl (fV 2) (oS (f2 (fP (aC (fV 2) aN) yz) (fV 4) (zm .Sub))) oN slP) oN (oS (f1 (fC (.int 1)) zac)) rvP) (TS W (nl nm) rs (some (.lf true (.str w))) (some (lfI (pa w))) e5)=some (.nx (TS W (nl nm) rs (some (.lf true (.str w))) (some (lfI (pa w))) (some (.lf true (.lst (rs.take (pa w))))))):=by
    refine Vl (p:=5) (zdr (zs:=rs.take (pa w)) (ziI (lo:=none) (hi:=some (-1)) (zej (zdr (ziI (Xr rfl) (YW (hlen _)) rfl c1))) rfl (YW (zeF zf)) ?_)) (zQ rfl)
    show(if(none:Option Int)=none/\some (-1:Int)=some (-1)then some (R0.fl ((rs.take (pa w)).reverse).reverse)else none)=_
    rw[if_pos ⟨rfl,rfl⟩,List.reverse_reverse]
   have s3:zF false 2 (f2 (fSl (fV 2) oN (oS (f2 (fP (aC (fV 2) aN) yz) (fV 4) (zm .Sub))) slP) (zP (dC (fP (aC (f2 (zP (dC (fV 3) dN)) (fV 5) (zm .Add)) aN) tupP) dN)) (zm .Add)) (TS W (nl nm) rs (some (.lf true (.str w))) (some (lfI (pa w))) (some (.lf true (.lst (rs.take (pa w))))))
    = some (.nx (TS W (nl nm) (mkT w (rs.take (pa w))::rs.drop (pa w)) (some (.lf true (.str w))) (some (lfI (pa w))) (some (.lf true (.lst (rs.take (pa w))))))):=by
    have z:=Vi (i:=2) (zmo (as:=TS W (nl nm) rs (some (.lf true (.str w))) (some (lfI (pa w))) (some (.lf true (.lst (rs.take (pa w)))))) (zej (zdr (ziI (fl:=oN) (Xr (i:=2) rfl) rfl (YW (hlen _)) c2)))
     (zej (yE (x:=.lst [.tup (.str w::rs.take (pa w))]) (zp (s:=true) (x:=.tup (.str w::rs.take (pa w))) (zfj (g:=tupP) (zaF (yE (x:=.lst [.str w]) (zp (zb (i:=3) rfl) zU) (szl rfl) rfl rfl) (WD.e (zb (i:=5) rfl)) (add_lists (xs:=[.str w]) (szs (by rw[zzO];show 1+_<=_;omega)))) rfl) zU) (szl rfl) rfl rfl))
     (add_lists (szs (by rw[List.length_reverse,List.length_drop];show _+1<=_;omega)))) (zQ rfl)
    rw[z,e,<-List.reverse_cons]
    rfl
   exact⟨_,_,zx s1 (yD t1 (zx s2 s3))⟩
theorem zdY{W:D}{nm:List Str}(hn:∀x ∈ nm,isNm x):∀(ws:List Str) (more:List It1) (e3 e4 e5:Option O),okR ws->(∀w ∈ ws,pa w=0->(fig w||inN w nm)=true)->(∀w ∈ ws,w.length<=1000000)->ws.length<=100000->
 ∃e3' e4' e5',forL (gN 3) dB (its ws.reverse++more) (TS W (nl nm) [] e3 e4 e5)=forL (gN 3) dB more (TS W (nl nm) (rd ws) e3' e4' e5')
 | [],more,e3,e4,e5,_,_,_,_=>⟨e3,e4,e5,rfl⟩
 |w::tl,more,e3,e4,e5,ok,hf,hw,hl=>by
  rw[zzP]at hl
  have e:its (w::tl).reverse++more=its tl.reverse++(its [w]++more):=by rw[List.reverse_cons,zfR,zyZ]
  obtain⟨e3',e4',e5',q⟩:=zdY hn tl (its [w]++more) e3 e4 e5 ok.1 (λx hx=>hf x (zS _ hx)) (λx hx=>hw x (zS _ hx)) (by omega)
  rw[e,q]
  have:=zeZ tl
  obtain⟨e4'',e5'',q2⟩:=zng (W:=W) (e4:=e4') (e5:=e5') hn (hf w zzB) (hw w zzB) ok.2 (by omega)
  exact⟨_,_,_,xj (as1:=TS W (nl nm) (rd tl) (some (.lf true (.str w))) e4' e5') rfl q2 rfl⟩
theorem zkV{ws nm:List Str}{t:D}(hn:∀x ∈ nm,isNm x)(ok:okR ws)(ht:rd ws=[t])(hf:∀w ∈ ws,pa w=0->(fig w||inN w nm)=true)(hw:∀w ∈ ws,w.length<=1000000)(hl:ws.length<=100000):
 w6 [(true,nl ws),(true,nl nm)]=some (.lf true t):=by
 obtain⟨e3,e4,e5,q⟩:=zdY (W:=nl ws) hn ws [] none none none ok hf hw hl
 rw[zyA,ht]at q
 have s1:zF false 2 (zP dN) (xN 6 [(true,nl ws),(true,nl nm)])=some (.nx (TS (nl ws) (nl nm) [] none none none)):=Vi (o:=.nd .ls []) (xW zU (by decide)) (zQ rfl)
 have ir:zbP (fSl (fV 0) oN (oS (f1 (fC (.int 1)) zac)) rvP) (TS (nl ws) (nl nm) [] none none none)=some (its ws.reverse,TS (nl ws) (nl nm) [] none none none):=by
  have h:fSl (fV 0) oN (oS (f1 (fC (.int 1)) zac)) rvP (TS (nl ws) (nl nm) [] none none none)=some (.ow (.nd .ls ((ws.map D.str).reverse.map (O.lf true))),TS (nl ws) (nl nm) [] none none none):=by
   refine ziI (lo:=none) (hi:=some (-1)) (zom (zb rfl)) rfl (YW (zeF zf)) ?_
   show(if(none:Option Int)=none/\some (-1:Int)=some (-1)then some (R0.fl (ws.map D.str).reverse)else none)=_
   rw[if_pos ⟨rfl,rfl⟩]
  unfold zbP
  rw[h]
  show some (kids (O.strs ((ws.map D.str).reverse.map (O.lf true))) (O.toDs ((ws.map D.str).reverse.map (O.lf true))),_)=_
  rw[Wx,W5]
  have k:kids true (ws.map D.str).reverse=its ws.reverse:=by
   unfold kids its
   rw[<-List.map_reverse]
   exact List.map_congr_left λz _=>by rw[zzZ]
  rw[k]
 refine yP rfl (zx s1 (zx (wW ir (q.trans rfl)) (ye ?_)))
 exact vt2 (Xr rfl) (zom zf) zjK
def Gd(d:Int)(t:D):Prop:=∀n:Nat,16-d<=(n:Int)->eqF n t t=some true
theorem WL{f:D->D->Option Bool}:∀ts:List D,(∀t ∈ ts,f t t=some true)->eqL f ts ts=some true
 | [],_=>rfl
 |t::r,h=>by
  show(f t t).bind (λb=>(eqL f r r).bind λc=>some (b&&c))=_
  rw[h t zzB,WL r λx hx=>h x (zS _ hx)];rfl
theorem eq_str(n:Nat)(x:Str):eqF (n+1) (.str x) (.str x)=some true:=by
 show some (x==x)=_
 simp
theorem eq_int(n:Nat)(x:Int):eqF (n+1) (.int x) (.int x)=some true:=by
 show some (x==x)=_
 simp
theorem zkg{w:Str}{d:Int}(h:d<=12):Gd d (zaW w):=λn hn=>by
 obtain⟨m,rfl⟩:∃m,n=m+2:=⟨n-2,by omega⟩
 unfold zaW
 split
 · show eqL (eqF (m+1)) [.str "number",.int _] [.str "number",.int _]=_
   refine WL _ λt ht=>?_
   rcases zI.mp ht with rfl|ht
   · exact eq_str _ _
   · rw[zzN.mp ht];exact eq_int _ _
 · show eqL (eqF (m+1)) [.str "name",.str _] [.str "name",.str _]=_
   refine WL _ λt ht=>?_
   rcases zI.mp ht with rfl|ht
   · exact eq_str _ _
   · rw[zzN.mp ht];exact eq_str _ _
theorem znp{w:Str}{d:Int}{ts:List D}(h:d<12)(ht:∀t ∈ ts,Gd (d+1) t):Gd d (.tup (.str w::ts)):=λn hn=>by
 obtain⟨m,rfl⟩:∃m,n=m+2:=⟨n-2,by omega⟩
 show eqL (eqF (m+1)) (.str w::ts) (.str w::ts)=_
 refine WL _ λt hx=>?_
 rcases zI.mp hx with rfl|hx
 · exact eq_str _ _
 · exact ht t hx (m+1) (by omega)
theorem zlC{nm:List Str}:∀(ws:List Str) (i:Nat) (vs:List Int),(∀d ∈ vs,d<=12)->ffL nm i vs ws = .inr []->∀(j:Nat) (t:D) (d:Int),(rd ws)[j]? = some t->vs[j]? = some d->Gd d t
 | [],i,vs,_,h,j,t,d,h1,h2=>by unfold rd at h1;simp at h1
 |w::more,i,[],_,h,_,_,_,_,_=>by unfold ffL at h;cases h
 |w::more,i,e::r,hv,h,j,t,d,h1,h2=>by
  unfold ffL at h
  by_cases hf:Vf w e nm=true
  · rw[if_pos hf]at h
    by_cases ho:40<i+1+(pa w+r.length)
    · rw[if_pos ho]at h;cases h
    · rw[if_neg ho]at h
      have he:pa w=0\/e<12:=by
       by_cases h0:pa w=0
       · exact .inl h0
       · unfold Vf at hf
         rw[if_pos (by omega)]at hf
         exact .inr (of_decide_eq_true hf)
      have ih:=zlC more (i+1) _ (λx hx=>by
       rcases zzI.mp hx with hx|hx
       · obtain⟨z1,z2⟩:=List.mem_replicate.mp hx
         rcases he with q|q
         · omega
         · omega
       · exact hv x (zS _ hx)) h
      cases j with
      |zero=>
       have h2:some e=some d:=h2
       have h1:some (mkT w ((rd more).take (pa w)))=some t:=h1
       cases h1;cases h2
       unfold mkT
       by_cases h0:pa w=0
       · rw[if_pos h0];exact zkg (hv e zzB)
       · rw[if_neg h0]
         refine znp (he.resolve_left h0) λt ht=>?_
         obtain⟨k,hk,ek⟩:=List.getElem_of_mem ht
         have hk':k<pa w:=by rw[zzO]at hk;omega
         refine ih k t (e+1) ?_ ?_
         · rw[<-ek,List.getElem_take]
           exact zzA _
         · rw[zyL (by rw[List.length_replicate];exact hk'),List.getElem?_replicate,if_pos hk']
      |succ j=>
       have h2:r[j]? = some d:=h2
       have h1:((rd more).drop (pa w))[j]? = some t:=h1
       rw[List.getElem?_drop]at h1
       refine ih (pa w+j) t d h1 ?_
       rw[zyN (by rw[List.length_replicate];omega),List.length_replicate,Nat.add_sub_cancel_left]
       exact h2
  · rw[if_neg hf]at h;cases h
theorem zjo:∀{l:List Nat}{a:Nat},a ∈ l->a<=l.sum
 |b::r,a,h=>by
  rw[List.sum_cons]
  rcases zI.mp h with rfl|h
  · omega
  · have:=zjo h;omega
abbrev yW(x:Str):List Str:=Txt.split x " "
theorem V7(x:Str):yW x≠[]/\(yW x).length<=x.length+2/\∀w ∈ yW x,w.length<=x.length:=by
 unfold yW Txt.split
 split
 · exact⟨by simp,by simp,λw hw=>by rw[zzN.mp hw];exact zzJ _⟩
 · split
   · exact⟨by simp,by simp,λw hw=>by rw[zzN.mp hw];exact zzJ _⟩
   · have hl:=PyProof.Rows.len_partsBetween x (Builtin.Str.occurrences x (" ":Str) 0 x.length (x.length+1)) (" ":Str).length
     have ho:=StrLaws.occ_length_le x (" ":Str) 0 x.length (x.length+1)
     have hg:=StrLaws.glued_between_self x (" ":Str) (x.length+1)
     have hs:=size_glued (" ":Str) (Builtin.Str.partsBetween x (Builtin.Str.occurrences x (" ":Str) 0 x.length (x.length+1)) (" ":Str).length)
     rw[hg]at hs
     refine⟨(λe=>by rw[e]at hl;cases hl),by omega,λw hw=>?_⟩
     have:w.length<=((Builtin.Str.partsBetween x (Builtin.Str.occurrences x (" ":Str) 0 x.length (x.length+1)) (" ":Str).length).map (·.length)).sum:=zjo (List.mem_map_of_mem hw)
     omega
theorem zbQ{x:Str}(h:x.length<=90000):Yt (.str x) [.str " "]=some (.fl ((yW x).map .str)):=by
 show(if _ then some (R0.fl ((Txt.split x " ").map .str))else none)=_
 rw[if_pos]
 refine⟨by decide +kernel,szs (by omega), ?_⟩
 rw[PyProof.Rows.len_partsBetween]
 have:=StrLaws.occ_length_le x (" ":Str) 0 x.length (x.length+1)
 exact szs (by omega)
theorem zme{n m i:Nat}{c1 c2:SF}{tc:TF}{ds:List (Bool×D)}{as1 as2 as3:AS}{k:Int}(h:ds.length=m)(h1:c1 (xN n ds)=some (.nx as1))(h2:c2 as1=some (.nx as2))(h3:tc as2=some (true,as3))(h4:slI as3 i=some k)(h5:k.natAbs.log2<1920):gX n m i c1 c2 tc ds=some k:=by
 unfold gX
 simp only[h,h1,h2,h3,h4,h5,nxA,zyH,if_true]
theorem zif{j jf:Nat}{fr:AF}{g:List (Bool×D)->Option Int}{c:Int->SF}{as as1 as2:AS}{rs:List RV}{xs:List (Bool×D)}{k k2:Int}(h1:fr as=some (rs,as1))(h2:Yj as1 rs=some xs)(h3:g xs=some k)(h4:c k (asE as.length j)=some (.nx as2))(h5:slI as2 jf=some k2):zjA j jf fr g c as=some (.nx (asK as.length jf k2)):=by
 unfold zjA
 simp only[h1,h2,h3,h4,h5,nxA,zyH]
theorem zlL{nm:List Str}:∀(ws:List Str) (i:Nat) (vs:List Int) (k:Nat),ffL nm i vs ws = .inl k->k<i+ws.length
 | [],i,vs,k,h=>by unfold ffL at h;cases h
 |w::more,i,[],k,h=>by unfold ffL at h;cases h;rw[zzP];omega
 |w::more,i,d::r,k,h=>by
  unfold ffL at h
  rw[zzP]
  split at h
  · split at h
    · cases h;omega
    · have:=zlL more (i+1) _ k h;omega
  · cases h;omega
section
variable{x:Str}{nm:List Str}
theorem zeR(hx:x.length<=90000):(∀w ∈ yW x,w.length<=1000000)/\(yW x).length<=100000:=by
 obtain⟨_,h2,h3⟩:=V7 x
 exact⟨λw hw=>by have:=h3 w hw;omega,by omega⟩
theorem s_split{n:Nat}{more:AS}(hx:x.length<=90000)(hm:more.length=n):zF true 2 (xu .str (fV 0) (aC (fC (.str " ")) aN) Yt) ([some (.lf true (.str x)),some (.lf true (nl nm)),none]++more)=some (.nx ([some (.lf true (.str x)),some (.lf true (nl nm)),some (.lf true (nl (yW x)))]++more)):=
 Vl (p:=2) (znF (zb rfl) rfl (WD.e zf) (zbQ hx)) (by show 2<more.length+3;omega)
theorem zhr(hn:∀x ∈ nm,isNm x)(hx:x.length<=90000)(h:ffL nm 0 [0] (yW x) = .inr []):∃t,Gd 0 t/\wH [(true,.str x),(true,nl nm)]=some (.lf true t)/\w6 [(true,nl (yW x)),(true,nl nm)]=some (.lf true t):=by
 obtain⟨h1,h2⟩:=zeR hx
 obtain⟨ok,hl,hf⟩:=zlP _ _ _ h
 have hf1:=zlv hn h1 (by omega)
 rw[h]at hf1
 cases e:rd (yW x)with
 |nil=>rw[e]at hl;cases hl
 |cons t r=>
  cases r with
  |cons _ _=>rw[e]at hl;simp at hl
  |nil=>
   refine⟨t,zlC _ 0 [0] (by decide) h 0 t 0 (by rw[e];rfl) rfl, ?_,zkV hn ok e hf h1 h2⟩
   exact yP rfl (zx (s_split (more:=[none]) hx rfl) (zx (yK (i:=3) (vd (WD.e (zb rfl)) (WD.e (zb rfl)) hf1) (zQ rfl)) (zx (zJ (yh (yH (z:=.bl false) (zb rfl) zf rfl rfl) rfl) rfl) (ye (X7 (WD.e (zb rfl)) (of_ok ok e h1 h2))))))
theorem zhU(hn:∀x ∈ nm,isNm x)(hx:x.length<=90000){k:Nat}(hk:k<=200000)(h:ffD (yW x) (ffL nm 0 [0] (yW x)) = .int k):vB [(true,.str x),(true,nl nm)]=some (k:Int):=by
 obtain⟨h1,h2⟩:=zeR hx
 have hf1:=zlv hn h1 (by omega)
 rw[h]at hf1
 have s1:=s_split (x:=x) (nm:=nm) (more:=[none]) hx rfl
 have s2:zF true 3 (zV (aC (fV 2) (aC (fV 1) aN)) yZ) [some (.lf true (.str x)),some (.lf true (nl nm)),some (.lf true (nl (yW x))),none]=some (.nx [some (.lf true (.str x)),some (.lf true (nl nm)),some (.lf true (nl (yW x))),some (lfI k)]):=yK (i:=3) (vd (WD.e (zb rfl)) (WD.e (zb rfl)) hf1) (zQ rfl)
 have t3:WT (fT (f2 (fV 3) (fC .non) (zH .IsNot))) [some (.lf true (.str x)),some (.lf true (nl nm)),some (.lf true (nl (yW x))),some (lfI k)] true:=yh (yH (z:=.bl true) (zb rfl) zf rfl rfl) rfl
 have hb:((k:Int)).natAbs.log2<1920:=by
  rw[Int.natAbs_natCast]
  exact PF.log2_small (Nat.lt_of_le_of_lt hk (by decide))
 exact zme rfl s1 s2 t3 rfl hb
abbrev ES(a:Option O):AS:=[none,none,a,some (.lf true (.cl "!e"))]
theorem zeS{a:Option O}{b:Bool}:WD (fEB 3 b) (ES a) true (.bl b):=by
 unfold WD fEB
 rw[if_pos (show isE (ES a) 3=true from(show decide (("!e":Str)="!e")=true from zyK rfl))]
theorem zmB{a:Option O}{k:Int}:WD (fEK 3 k) (ES a) true (.int k):=by
 unfold WD fEK
 rw[if_pos (show isE (ES a) 3=true from(show decide (("!e":Str)="!e")=true from zyK rfl))]
abbrev zhH(k:Int):SF:=(zM (zF true 2 (zP (dC (fEB 3 true) (dC (fEB 3 true) dN))))
 (zM (zF true 2 (f2 (fV 2) (zP (dC (zgT (fEB 3 false)) dN)) (zm .Add)))
 (sIf (fT (f2 (fV 2) (f2 (zP (dC (fC (.bl true)) dN)) (fC (.int 3)) (zm .Mult)) (zH .Eq))) (zF true 2 (fEK 3 k)) sNx)))
theorem zhn(k:Int):zhH k (ES none)=some (.nx (ES (some (lfI k)))):=by
 refine zx (as1:=ES (some (.lf true (.lst [.bl true,.bl true])))) (Vl (p:=2) (yE (zp zeS (zp zeS zU)) (szl rfl) rfl rfl) (zQ rfl)) ?_
 refine zx (as1:=ES (some (.lf true (.lst [.bl true,.bl true,.bl true])))) ?_ ?_
 · exact Vl (p:=2) (zaF (zs:=[.bl true,.bl true,.bl true]) (WD.e (zb rfl)) (yE (x:=.lst [.bl true]) (zp (zhW zeS) zU) (szl rfl) rfl rfl) (add_lists (xs:=[.bl true,.bl true]) (ys:=[.bl true]) (by decide))) (zQ rfl)
 · refine yD (yh (zdk (q:=true) (WD.e (zb rfl)) (zaF (zs:=[.bl true,.bl true,.bl true]) (yE (x:=.lst [.bl true]) (zp zf zU) (szl rfl) rfl rfl) (WD.e zf) (mul_list (k:=3) ⟨by decide,by decide,by decide⟩)) rfl) rfl) (yK (i:=2) zmB (zQ rfl))
theorem zgV{k:Int}(h:vB [(true,.str x),(true,nl nm)]=some k):wD [(true,.str x),(true,nl nm)]=some (lfI k):=by
 have ha:(aC (fV 0) (aC (fV 1) aN)) [some (.lf true (.str x)),some (.lf true (nl nm)),some (.lf true (.lst [])),none]=some ([.ow (.lf true (.str x)),.ow (.lf true (nl nm))],[some (.lf true (.str x)),some (.lf true (nl nm)),some (.lf true (.lst [])),none]):=(zB (zb rfl) (zB (zb rfl) zN):WA _ _ [(true,.str x),(true,nl nm)])
 have ht:=zif (j:=3) (jf:=2) (g:=vB) (c:=zhH) (k2:=k) ha rfl h (zhn k) rfl
 exact yP rfl (zx (Vl (p:=2) (yE zU (szl rfl) rfl rfl) (zQ rfl)) (zx ht (ye (zb rfl))))
theorem zaT(hn:∀x ∈ nm,isNm x)(hx:x.length<=90000):yR [(true,.str x),(true,nl nm)]=some (.lf true (.bl true)):=by
 obtain⟨h1,h2⟩:=zeR hx
 have hat:=zol (nm:=nm) h1 (by omega)
 rw[<-VM hn (yW x) 0 [0] (by decide)]at hat
 have s1:=s_split (x:=x) (nm:=nm) (more:=[none,none]) hx rfl
 have s2:zF true 3 (zV (aC (fV 2) (aC (fV 1) aN)) ZS) [some (.lf true (.str x)),some (.lf true (nl nm)),some (.lf true (nl (yW x))),none,none]=some (.nx [some (.lf true (.str x)),some (.lf true (nl nm)),some (.lf true (nl (yW x))),some (lfI (atD (yW x) (ffL nm 0 [0] (yW x)))),none]):=yK (i:=3) (vd (WD.e (zb rfl)) (WD.e (zb rfl)) hat) (zQ rfl)
 have t3:WT (fT (f2 (fV 3) (f1 (fC (.int 1)) zac) (zH .Gt))) [some (.lf true (.str x)),some (.lf true (nl nm)),some (.lf true (nl (yW x))),some (lfI (atD (yW x) (ffL nm 0 [0] (yW x)))),none] (decide ((-1:Int)<atD (yW x) (ffL nm 0 [0] (yW x)))):=yh (Zh (zb rfl) (zeF zf)) rfl
 have bad:∀k:Nat,k<=200000->ffD (yW x) (ffL nm 0 [0] (yW x)) = .int k->atD (yW x) (ffL nm 0 [0] (yW x))=k->yR [(true,.str x),(true,nl nm)]=some (.lf true (.bl true)):=λk hk e1 e2=>by
  rw[e2]at s2 t3
  rw[zyK (show(-1:Int)<(k:Int) by omega)]at t3
  have hr:=zgV (zhU hn hx hk e1)
  refine yP rfl (zx s1 (zx s2 (yI (yD t3 (zx (yK (i:=4) (vd (WD.e (zb rfl)) (WD.e (zb rfl)) hr) (zQ rfl)) (ye (zcV (k:=true) (zhW (zim (x:=.int k) (q:=false) (zb rfl) rfl)) (λ_=>zdk (q:=true) (WD.e (zb rfl)) (WD.e (zb rfl)) ?_) (λh=>nomatch h))))))))
  exact eq_int _ _
 cases e:ffL nm 0 [0] (yW x)with
 |inl k=>
  rw[e]at bad
  exact bad k (by have:=zlL _ _ _ _ e;omega) rfl rfl
 |inr vs=>
  cases vs with
  |cons v vs=>rw[e]at bad;exact bad (yW x).length (by omega) rfl rfl
  |nil=>
   rw[e]at s2 t3
   obtain⟨t,hg,hr,ht⟩:=zhr hn hx e
   exact yP rfl (zx s1 (zx s2 (zx (zJ t3 rfl) (ye (zdk (q:=true) (WD.e (vd (WD.e (zb rfl)) (WD.e (zb rfl)) hr)) (WD.e (vd (WD.e (zb rfl)) (WD.e (zb rfl)) ht)) (hg 60 (by decide)))))))
end
def Ts(ws:List Str):Nat:=(ws.map (·.length)).sum+ws.length
theorem zcT(a b:List Str):Ts (a++b)=Ts a+Ts b:=by
 unfold Ts
 rw[zyI,List.sum_append,zzF];omega
theorem wj(w:Str)(r:List Str):Ts (w::r)=w.length+1+Ts r:=by
 unfold Ts
 rw[zyO,List.sum_cons,zzP];omega
theorem zjt(l:List Str):∀k:Nat,Ts (List.replicate k l).flatten=k*Ts l
 |0=>by rw[Nat.zero_mul];rfl
 |k+1=>by rw[List.replicate_succ,List.flatten_cons,zcT,zjt l k,Nat.succ_mul];omega
theorem zdz(ws:List Str):ws.length<=Ts ws:=by unfold Ts;omega
theorem zgp:∀ws:List Str,V4 (ws.map .str)=some ws
 | []=>rfl
 |w::r=>by show(V4 (r.map .str)).bind _=_;rw[zgp r];rfl
theorem zdZ{ws:List Str}(h:Ts ws<=1000000):zcd (.str " ") [nl ws]=some (.im (.str (Txt.join " " ws)))/\(Txt.join " " ws).length<=Ts ws:=by
 have e1:(" ":Str).length=1:=by decide +kernel
 constructor
 · show((V4 (ws.map .str)).bind _)=_
   rw[zgp]
   show(if(ws.map (·.length)).sum+ws.length*(" ":Str).length<=16777216 then some (R0.im (.str (Txt.join " " ws)))else none)=_
   rw[if_pos]
   rw[e1]
   unfold Ts at h
   omega
 · have:=size_glued (" ":Str) ws
   show(Builtin.Str.glued (" ":Str) ws).length<=_
   rw[this,e1]
   unfold Ts
   omega
def WB(f:EF)(as:AS)(B:Nat):Prop:=∃l:List Str,WE f as (nl l)/\Ts l<=B
theorem Yy{a b:EF}{as:AS}{A:Nat}{k:Int}{K:Nat}(ha:WB a as A)(hb:WD b as true (.int k))(h0:0<=k)(h1:k<=K)(hK:K<=1000)(hz:K*A<=1000000):WB (f2 a b (zm .Mult)) as (K*A):=by
 obtain⟨l,h,ht⟩:=ha
 have hk:k.toNat<=K:=by omega
 have hm:k.toNat*Ts l<=K*A:=Nat.mul_le_mul hk ht
 have e:(List.replicate k.toNat (l.map D.str)).flatten=(List.replicate k.toNat l).flatten.map D.str:=by
  rw[List.map_flatten,List.map_replicate]
 refine⟨(List.replicate k.toNat l).flatten,zaF h (WD.e hb) ?_,by rw[zjt];exact hm⟩
 rw[mul_list ⟨by omega,by omega,szs (by rw[zD];have:=Nat.mul_le_mul (zdz l) (zzJ k.toNat);rw[Nat.mul_comm (Ts l)]at this;omega)⟩,e]
theorem zcU{a b:EF}{as:AS}{A B:Nat}(ha:WB a as A)(hb:WB b as B)(hz:A+B<=1000000):WB (f2 a b (zm .Add)) as (A+B):=by
 obtain⟨l,h,ht⟩:=ha
 obtain⟨l',h',ht'⟩:=hb
 refine⟨l++l', ?_,by rw[zcT];omega⟩
 have:=zaF h h' (add_lists (xs:=l.map D.str) (ys:=l'.map D.str) (szs (by rw[zD,zD];have:=zdz l;have:=zdz l';omega)))
 rw[<-zyI]at this
 exact this
theorem zba{a:EF}{as:AS}{w:Str}{A:Nat}(h:WD a as true (.str w))(hA:w.length+1<=A):WB (zP (dC a dN)) as A:=⟨[w],yE (zp h zU) (szl rfl) rfl rfl,by rw[wj];show _+0<=_;omega⟩
theorem zfk{a b:EF}{as:AS}{w v:Str}{A:Nat}(h:WD a as true (.str w))(h':WD b as true (.str v))(hA:w.length+1+(v.length+1)<=A):WB (zP (dC a (dC b dN))) as A:=⟨[w,v],yE (zp h (zp h' zU)) (szl rfl) rfl rfl,by rw[wj,wj];show _+(_+0)<=_;omega⟩
abbrev lgI:SF:=(sIf (fT (f2 (fV 1) (fC (.int 0)) (zH .Eq))) (zF true 5 (f2 (f2 (zP (dC (fV 3) dN)) (f2 (zP (dC (fC (.int 12)) (dC (fC (.int 13)) (dC (f2 (fC (.int 14)) (fV 4) (zm .Mult)) dN)))) (f2 (fV 4) (fC (.int 3)) (zm .Mod)) ixP) (zm .Mult)) (f2 (zP (dC (fC (.str "1")) dN)) (f2 (fC (.int 13)) (fV 2) (zm .Add)) (zm .Mult)) (zm .Add))) (sIf (fT (f2 (fV 1) (fC (.int 1)) (zH .Eq))) (zF true 5 (f2 (f2 (zP (dC (fV 3) (dC (fC (.str "1")) dN))) (f2 (fC (.int 12)) (f2 (fV 4) (fC (.int 2)) (zm .Mod)) (zm .Add)) (zm .Mult)) (f2 (zP (dC (fC (.str "0")) dN)) (fV 2) (zm .Mult)) (zm .Add))) (sIf (fT (f2 (fV 1) (fC (.int 2)) (zH .Eq))) (zF true 5 (f2 (f2 (zP (dC (fC (.str "same")) dN)) (f2 (fC (.int 10)) (f2 (fV 4) (fC (.int 4)) (zm .Mod)) (zm .Add)) (zm .Mult)) (f2 (zP (dC (fC (.str "7")) dN)) (f2 (fC (.int 31)) (f2 (fC (.int 9)) (fV 2) (zm .Mult)) (zm .Add)) (zm .Mult)) (zm .Add))) (zF true 5 (f2 (f2 (zP (dC (fV 3) (dC (fV 3) dN))) (f2 (zP (dC (fC (.str "2")) (dC (fC (.str "3")) dN))) (fC (.int 2)) (zm .Mult)) (zm .Add)) (f2 (fC (.int 7)) (f2 (fV 4) (fC (.int 3)) (zm .Mod)) (zm .Add)) (zm .Mult))))))
abbrev lgS(x k e:Int)(w:Option O)(c:Int)(ws:Option O):AS:=[some (lfI x),some (lfI k),some (lfI e),w,some (lfI c),ws]
theorem zcN{f:EF}{as:AS}{B p:Nat}(h:WB f as B)(hp:p<as.length):∃l:List Str,Ts l<=B/\zF true p f as=some (.nx (as.set p (some (.lf true (nl l))))):=by
 obtain⟨l,h1,h2⟩:=h
 exact⟨l,h2,Vl h1 hp⟩
theorem zkC{x:Int}(hx:0<=x):∃y:Str,y.length<=80000/\wX [(true,.int x)]=some (.lf true (.str y)):=by
 have hd:zL [(true,.int x),(true,.lst (([4,2,5,60]:List Int).map .int))]=some (.nd .ls ((zay x [4,2,5,60]).map lfI)):=ZX (by decide) (by decide)
 have s1:Vr (zV (aC (fV 0) (aC (zP (dC (fC (.int 4)) (dC (fC (.int 2)) (dC (fC (.int 5)) (dC (fC (.int 60)) dN))))) aN)) zL) (gT 4 (gsC (gN 1) (gsC (gN 2) (gsC (gN 3) (gsC (gN 4) gsN))))) (xN 6 [(true,.int x)])
  = some (.nx (lgS x (x%4) (x/4%2) (some (lfI (x/4/2%5))) (x/4/2/5%60) none)):=
  zaN (Za (zB (zb rfl) (vC (xW (zp zf (zp zf (zp zf (zp zf zU)))) (by decide)) zN)) hd) rfl
 have hnm:∀k:Int,0<=k->k<5->∃n:Str,n.length<=5/\ixP (.lst [.str "add",.str "take",.str "times",.str "most",.str "least"]) (.int k)=some (.im (.str n)):=λk a b=>by
  have:k=0\/k=1\/k=2\/k=3\/k=4:=by omega
  rcases this with rfl|rfl|rfl|rfl|rfl
  · exact⟨"add",by decide +kernel,rfl⟩
  · exact⟨"take",by decide +kernel,rfl⟩
  · exact⟨"times",by decide +kernel,rfl⟩
  · exact⟨"most",by decide +kernel,rfl⟩
  · exact⟨"least",by decide +kernel,rfl⟩
 obtain⟨w,hw,ew⟩:=hnm (x/4/2%5) (by omega) (by omega)
 generalize hk:x%4=k at s1
 generalize he:x/4%2=e at s1
 generalize hc:x/4/2/5%60=c at s1
 have hc0:0<=c/\c<60:=by omega
 have he0:0<=e/\e<2:=by omega
 have s2:zF true 3 (f2 (zP (dC (fC (.str "add")) (dC (fC (.str "take")) (dC (fC (.str "times")) (dC (fC (.str "most")) (dC (fC (.str "least")) dN)))))) (fV 3) ixP) (lgS x k e (some (lfI (x/4/2%5))) c none)=some (.nx (lgS x k e (some (.lf true (.str w))) c none)):=
  yK (i:=3) (f2E (yE (zp zf (zp zf (zp zf (zp zf (zp zf zU))))) (szl rfl) rfl rfl) (WD.e (zb rfl)) ew) (zQ rfl)
 have main:∃l:List Str,Ts l<=80000/\lgI (lgS x k e (some (.lf true (.str w))) c none)=some (.nx (lgS x k e (some (.lf true (.str w))) c (some (.lf true (nl l))))):=by
  have e1:∀q:Int,WT (fT (f2 (fV 1) (fC (.int q)) (zH .Eq))) (lgS x k e (some (.lf true (.str w))) c none) (k==q):=λq=>yh (wC (zb rfl) zf rfl) rfl
  have w3:WD (fV 3) (lgS x k e (some (.lf true (.str w))) c none) true (.str w):=zb rfl
  have d2:WD (fV 2) (lgS x k e (some (.lf true (.str w))) c none) true (.int e):=zb rfl
  have d4:WD (fV 4) (lgS x k e (some (.lf true (.str w))) c none) true (.int c):=zb rfl
  have p0:WD (f2 (fC (.int 13)) (fV 2) (zm .Add)) (lgS x k e (some (.lf true (.str w))) c none) true (.int (13+e)):=yM zf d2
  have p1:WD (f2 (fC (.int 12)) (f2 (fV 4) (fC (.int 2)) (zm .Mod)) (zm .Add)) (lgS x k e (some (.lf true (.str w))) c none) true (.int (12+c%2)):=yM zf (yJ d4 zf (by decide))
  have p2:WD (f2 (fC (.int 10)) (f2 (fV 4) (fC (.int 4)) (zm .Mod)) (zm .Add)) (lgS x k e (some (.lf true (.str w))) c none) true (.int (10+c%4)):=yM zf (yJ d4 zf (by decide))
  have p2b:WD (f2 (fC (.int 31)) (f2 (fC (.int 9)) (fV 2) (zm .Mult)) (zm .Add)) (lgS x k e (some (.lf true (.str w))) c none) true (.int (31+9*e)):=yM zf (wN zf d2 (by decide) (yC (by omega) (by omega)))
  have p3:WD (f2 (fC (.int 7)) (f2 (fV 4) (fC (.int 3)) (zm .Mod)) (zm .Add)) (lgS x k e (some (.lf true (.str w))) c none) true (.int (7+c%3)):=yM zf (yJ d4 zf (by decide))
  by_cases k0:k=0
  · have t0:=e1 0
    rw[beq_iff_eq.mpr k0]at t0
    have hn:∃n:Int,(0<=n/\n<=840)/\WD (f2 (zP (dC (fC (.int 12)) (dC (fC (.int 13)) (dC (f2 (fC (.int 14)) (fV 4) (zm .Mult)) dN)))) (f2 (fV 4) (fC (.int 3)) (zm .Mod)) ixP) (lgS x k e (some (.lf true (.str w))) c none) true (.int n):=by
     have hq:∀q:Int,0<=q->q<3->∃n:Int,(0<=n/\n<=840)/\ixP (.lst [.int 12,.int 13,.int (14*c)]) (.int q)=some (.im (.int n)):=λq a b=>by
      have:q=0\/q=1\/q=2:=by omega
      rcases this with rfl|rfl|rfl
      · exact⟨12,by decide,rfl⟩
      · exact⟨13,by decide,rfl⟩
      · exact⟨14*c,by omega,rfl⟩
     obtain⟨n,h1,h2⟩:=hq (c%3) (by omega) (by omega)
     exact⟨n,h1,f2E (yE (zp zf (zp zf (zp (wN zf (zb rfl) (yC (by omega) (by omega)) (yC (by omega) (by omega))) zU))) (szl rfl) rfl rfl) (WD.e (yJ (zb rfl) zf (by decide))) h2⟩
    obtain⟨n,hn1,hn2⟩:=hn
    obtain⟨l,h1,h2⟩:=zcN (p:=5) (zcU (A:=840*6) (B:=14*2) (Yy (K:=840) (A:=6) (zba w3 (by omega)) hn2 hn1.1 hn1.2 (by decide) (by decide)) (Yy (K:=14) (A:=2) (zba (w:="1") zf (by decide +kernel)) p0 (by omega) (by omega) (by decide) (by decide)) (by decide)) (zQ rfl)
    exact⟨l,by omega,yD t0 h2⟩
  · have t0:=e1 0
    rw[beq_eq_false_iff_ne.mpr k0]at t0
    by_cases k1:k=1
    · have t1:=e1 1
      rw[beq_iff_eq.mpr k1]at t1
      obtain⟨l,h1,h2⟩:=zcN (p:=5) (zcU (A:=13*8) (B:=2*2) (Yy (K:=13) (A:=8) (zfk w3 (zf (x:=.str "1")) (by rw[show("1":Str).length=1 by decide +kernel];omega)) p1 (by omega) (by omega) (by decide) (by decide)) (Yy (K:=2) (A:=2) (zba (w:="0") zf (by decide +kernel)) d2 (by omega) (by omega) (by decide) (by decide)) (by decide)) (zQ rfl)
      exact⟨l,by omega,zJ t0 (yD t1 h2)⟩
    · have t1:=e1 1
      rw[beq_eq_false_iff_ne.mpr k1]at t1
      by_cases k2:k=2
      · have t2:=e1 2
        rw[beq_iff_eq.mpr k2]at t2
        obtain⟨l,h1,h2⟩:=zcN (p:=5) (zcU (A:=13*5) (B:=40*2) (Yy (K:=13) (A:=5) (zba (w:="same") zf (by decide +kernel)) p2 (by omega) (by omega) (by decide) (by decide)) (Yy (K:=40) (A:=2) (zba (w:="7") zf (by decide +kernel)) p2b (by omega) (by omega) (by decide) (by decide)) (by decide)) (zQ rfl)
        exact⟨l,by omega,zJ t0 (zJ t1 (yD t2 h2))⟩
      · have t2:=e1 2
        rw[beq_eq_false_iff_ne.mpr k2]at t2
        obtain⟨l,h1,h2⟩:=zcN (p:=5) (Yy (K:=9) (zcU (A:=12) (B:=2*4) (zfk w3 w3 (by omega)) (Yy (K:=2) (A:=4) (k:=2) (zfk (w:="2") (v:="3") zf zf (by decide +kernel)) zf (by decide) (by decide) (by decide) (by decide)) (by decide)) p3 (by omega) (by omega) (by decide) (by decide)) (zQ rfl)
        exact⟨l,by omega,zJ t0 (zJ t1 (zJ t2 h2))⟩
 obtain⟨l,h1,h2⟩:=main
 obtain⟨j1,j2⟩:=zdZ (ws:=l) (by omega)
 exact⟨_,by omega,yP rfl (zx s1 (zx s2 (zx h2 (ye (zcX zf rfl (zB (zb rfl) zN) j1 rfl)))))⟩
theorem znP{ty:Ty}{g:D->List D->Option R0}{zs:List D}{a b:EF}{as:AS}{x y:D}(ha:WD a as true y)(ht:zbH ty y=true)(hb:WD b as true x)(hg:g y [x]=some (.fl zs)):xu ty a (aC b aN) g as=some (.ow (.nd .ls (zs.map (O.lf true))),as):=by
 have hr:WA (aC b aN) as [(true,x)]:=zB hb zN
 unfold xu;unfold WD at ha;unfold WA at hr
 rw[ha]
 show(if zbH ty y=true then _ else _:Option (RV×AS))=_
 rw[if_pos ht,hr]
 simp only[zyH,vZ]
 show((g y [x]).bind _)=_
 rw[hg]
 show(if(zs.all zY||true)=true then some (RV.ow (.nd .ls (zs.map (lfs true))))else none:Option RV).bind _=_
 rw[if_pos (by simp),Vb];rfl
theorem vtM{ty:Ty}{g:D->List D->Option R0}{a b:EF}{as:AS}{x y z:D}(ha:WD a as true y)(ht:zbH ty y=true)(hb:VT b as x)(hg:g y [x]=some (.im z))(e:zY z=true):WD (xu ty a (aC b aN) g) as true z:=by
 obtain⟨rb,h1,h2⟩:=hb
 have ev:views as [rb.frz]=some ([x],some true):=by
  show(rb.frz.view as).bind _=_
  rw[h2];rfl
 unfold WD xu;unfold WD at ha
 rw[ha]
 show(if zbH ty y=true then((aC b aN) as).bind _ else _:Option (RV×AS))=_
 rw[if_pos ht]
 unfold aC
 simp only[h1,zyH,aN,ev]
 show((g y [x]).bind _)=_
 rw[hg]
 show(if(zY z||_)=true then _ else _:Option RV).bind _=_
 rw[if_pos (by rw[e];rfl)]
 show some (RV.ow (.lf (zY z||_) z),as)=_
 rw[e];rfl
theorem VF{α β:Type}(f:α->β):∀(l:List α) (k:Nat),(l.map f).eraseIdx k=(l.eraseIdx k).map f
 | [],_=>rfl
 |_::_,0=>rfl
 |a::r,k+1=>by
  show f a::(r.map f).eraseIdx k=f a::(r.eraseIdx k).map f
  rw[VF f r k]
abbrev oW(ws:List Str):Option O:=some (.nd .ls ((ws.map D.str).map (O.lf true)))
section
variable{as:AS}{ws:List Str}{i:Nat}
theorem zjQ{fv:EF}{f:IXF}{w:Str}{k:Nat}(h:as[i]? = some (oW ws))(hv:WD fv as true (.str w))(hf:f as=some (k:Int))(hk:k<ws.length):zdN i f fv as=some (.nx (as.set i (oW (ws.set k w)))):=by
 unfold zdN;unfold WD at hv
 have e1:slO ziY as i=some ((ws.map D.str).map (O.lf true)):=by unfold slO;rw[h];rfl
 have e2:PF.atO zem ((ws.map D.str).map (O.lf true)) ((k:Int)).toNat=some (.str ws[k]):=by
  unfold PF.atO
  rw[zyE,zzE,zzE,zzA hk];rfl
 rw[hv]
 show((f as).bind _)=_
 rw[hf]
 show(if 0<=(k:Int)then(slO ziY as i).bind _ else none)=_
 rw[if_pos (by omega),e1]
 show((PF.atO zem ((ws.map D.str).map (O.lf true)) ((k:Int)).toNat).bind _)=_
 rw[e2]
 show some (Out.nx (as.set i (some (.nd .ls (((ws.map D.str).map (O.lf true)).set ((k:Int)).toNat (.lf true (.str w)))))))=_
 rw[zyE,<-List.map_set,<-List.map_set]
theorem zle{a:EF}{k:Nat}(h:as[i]? = some (oW ws))(ha:WD a as true (.int k))(hk:k<ws.length)(hl:ws.length<=100000):xU (xx i (dC a dN) xR) as=some (.nx (as.set i (oW (ws.eraseIdx k)))):=by
 have z:=Y7 (o:=.lf true (.str ws[k])) h ha (by omega) (by rw[zD,zD];omega) (by rw[zD,zD];omega) (by rw[zyE,zzE,zzE,zzA hk];rfl)
 unfold xU
 rw[z,zyE,VF,VF]
 rfl
theorem zkj{a b:EF}{k:Nat}{w:Str}(h:as[i]? = some (oW ws))(ha:WD a as true (.int k))(hb:WD b as true (.str w))(hk:k<=ws.length)(hl:ws.length<=100000):xU (xx i (dC a (dC b dN)) Xl) as=some (.nx (as.set i (oW (ws.take k++w::ws.drop k)))):=by
 have e:dC a (dC b dN) as=some ([.lf true (.int k),.lf true (.str w)],as):=zp ha (zp hb zU)
 have hin:ZQ (k:Int) ((ws.map D.str).map (O.lf true)).length=k:=by
  unfold ZQ
  rw[if_neg (by omega),zD,zD,zyE]
  omega
 have e2:Xl ((ws.map D.str).map (O.lf true)) [.lf true (.int k),.lf true (.str w)]=some (((ws.take k++w::ws.drop k).map D.str).map (O.lf true),.lf true .non):=by
  unfold Xl
  show(if(-(2 ^ 63)<=(k:Int)/\(k:Int)<2 ^ 63)/\((ws.map D.str).map (O.lf true)).length<sizeLine then _ else _)=_
  rw[if_pos ⟨⟨by omega,by omega⟩,by rw[zD,zD,sizeLine_eq];omega⟩,hin]
  simp only[zyI,zyO,List.map_take,List.map_drop]
 unfold xU xx;rw[h]
 show((dC a (dC b dN) as).bind _).bind _=_
 rw[e];show(Option.bind (match as[i]? with|some (some (.nd .ls os))=>_|_=>none) _)=_
 rw[h];show((Xl ((ws.map D.str).map (O.lf true)) [.lf true (.int k),.lf true (.str w)]).bind _).bind _=_
 rw[e2];rfl
end
theorem ziL:∀(ws:List Str) (k:Nat) (w:Str),Ts (ws.set k w)<=Ts ws+w.length
 | [],_,_=>by simp[Ts]
 |v::r,0,w=>by rw[List.set_cons_zero,wj,wj];omega
 |v::r,k+1,w=>by rw[List.set_cons_succ,wj,wj];have:=ziL r k w;omega
theorem zdH:∀(ws:List Str) (k:Nat),Ts (ws.eraseIdx k)<=Ts ws
 | [],_=>by simp[Ts]
 |v::r,0=>by rw[List.eraseIdx_cons_zero,wj];omega
 |v::r,k+1=>by rw[List.eraseIdx_cons_succ,wj,wj];have:=zdH r k;omega
theorem zfT(ws:List Str)(k:Nat):Ts (ws.take k)+Ts (ws.drop k)=Ts ws:=by rw[<-zcT,List.take_append_drop]
theorem ziv(x:Str):Ts (yW x)<=x.length+1:=by
 unfold yW Txt.split
 split
 · rw[wj];show _+0<=_;omega
 · split
   · rw[wj];show _+0<=_;omega
   · have hl:=PyProof.Rows.len_partsBetween x (Builtin.Str.occurrences x (" ":Str) 0 x.length (x.length+1)) (" ":Str).length
     have hg:=StrLaws.glued_between_self x (" ":Str) (x.length+1)
     have hs:=size_glued (" ":Str) (Builtin.Str.partsBetween x (Builtin.Str.occurrences x (" ":Str) 0 x.length (x.length+1)) (" ":Str).length)
     rw[hg]at hs
     have e1:(" ":Str).length=1:=by decide +kernel
     rw[e1]at hs hl
     unfold Ts
     rw[e1]
     omega
theorem zkk(x:Str):(Txt.replace x " " "  ").length<=2*x.length:=by
 unfold Txt.replace
 split
 · omega
 · have hg:=StrLaws.glued_between_self x (" ":Str) (x.length+1)
   have hs:=size_glued (" ":Str) (Builtin.Str.partsBetween x (Builtin.Str.occurrences x (" ":Str) 0 x.length (x.length+1)) (" ":Str).length)
   rw[hg]at hs
   have e1:(" ":Str).length=1:=by decide +kernel
   have e2:("  ":Str).length=2:=by decide +kernel
   rw[size_glued,e2]
   rw[e1]at hs ⊢
   omega
abbrev l15:List Str:=["add","take","times","most","least","same","0","00","07","a","b","c","d","A","number"]
abbrev l14:List Str:=["name","-1","+1","1a","999999999999999999999999999999999999999999999999999999999999","8888888888888888888888888888888888888888888888888888888888888","1_0","rows","Add","sames","ab","max","","10"]
theorem zkp:∀w ∈ l15,w.length<=61:=by decide +kernel
theorem zlb:∀w ∈ l14,w.length<=61:=by decide +kernel
abbrev CS(t:Str)(n k a q:Int)(e5 e6 e7 e8 e9:Option O):AS:=[some (.lf true (.str t)),some (lfI n),some (lfI k),some (lfI a),some (lfI q),e5,e6,e7,e8,e9]
abbrev ch0:SF:=(Vr (zV (aC (fV 1) (aC (zP (dC (fC (.int 10)) (dC (fC (.int 360360)) (dC (f2 (fC (.int 10)) (fC (.int 9)) (zm .Pow)) dN)))) aN)) zL) (gT 3 (gsC (gN 2) (gsC (gN 3) (gsC (gN 4) gsN)))))
abbrev ch1:SF:=(zF false 5 (xu .str (fV 0) (aC (fC (.str " ")) aN) Yt))
abbrev ch2:SF:=(zF true 6 (f2 (fV 3) (fP (aC (fV 5) aN) yz) (zm .Mod)))
abbrev ch3:SF:=(zF true 7 (f2 (fV 5) (zP (dC (fC (.str "add")) (dC (fC (.str "take")) (dC (fC (.str "times")) (dC (fC (.str "most")) (dC (fC (.str "least")) (dC (fC (.str "same")) (dC (fC (.str "0")) (dC (fC (.str "00")) (dC (fC (.str "07")) (dC (fC (.str "a")) (dC (fC (.str "b")) (dC (fC (.str "c")) (dC (fC (.str "d")) (dC (fC (.str "A")) (dC (fC (.str "number")) dN)))))))))))))))) (zm .Add)))
abbrev ch4:SF:=(zF true 7 (f2 (fV 7) (zP (dC (fC (.str "name")) (dC (fC (.str "-1")) (dC (fC (.str "+1")) (dC (fC (.str "1a")) (dC (fC (.str "999999999999999999999999999999999999999999999999999999999999")) (dC (fC (.str "8888888888888888888888888888888888888888888888888888888888888")) (dC (fC (.str "1_0")) (dC (fC (.str "rows")) (dC (fC (.str "Add")) (dC (fC (.str "sames")) (dC (fC (.str "ab")) (dC (fC (.str "max")) (dC (fC (.str "")) (dC (fC (.str "10")) dN))))))))))))))) (zm .Add)))
abbrev ch5:SF:=(zF true 8 (f2 (fV 7) (f2 (fV 4) (fP (aC (fV 7) aN) yz) (zm .Mod)) ixP))
abbrev ch6:SF:=(sIf (fT (f2 (fV 2) (fC (.int 4)) (zH .Lt))) (zdN 5 (xV 6) (fV 8)) (sIf (fT (f2 (fV 2) (fC (.int 4)) (zH .Eq))) (xU (xx 5 (dC (fV 6) dN) xR)) (sIf (fT (f2 (fV 2) (fC (.int 5)) (zH .Eq))) (xU (xx 5 (dC (fV 6) (dC (fV 8) dN)) Xl)) (sIf (fT (f2 (fV 2) (fC (.int 6)) (zH .Eq))) (zF false 5 (fSl (fV 5) oN (oS (fV 6)) slP)) (sIf (fT (f2 (fV 2) (fC (.int 7)) (zH .Eq))) (yF (f2 (zP (dC (f2 (fC (.str " ")) (fV 0) (zm .Add)) (dC (f2 (fV 0) (fC (.str " ")) (zm .Add)) (dC (zha 0 " " "  ") (dC (f2 (fV 0) (fC (.str "
")) (zm .Add)) (dC (fC (.str "")) (dC (fC (.str " ")) (dC (f2 (f2 (fV 0) (fC (.str " ")) (zm .Add)) (fV 0) (zm .Add)) dN)))))))) (f2 (fV 4) (fC (.int 7)) (zm .Mod)) ixP)) (sIf (fT (f2 (fV 2) (fC (.int 8)) (zH .Eq))) (yF (zV (aC (fV 4) aN) wX)) (zM (zF true 9 (f2 (fV 3) (f2 (fP (aC (fV 0) aN) yz) (fC (.int 1)) (zm .Add)) (zm .Mod)))
 (yF (f2 (f2 (fSl (fV 0) oN (oS (fV 9)) slS) (f2 (zP (dC (fC (.str "")) (dC (fC (.str " ")) (dC (fC (.str "0")) (dC (fC (.str "a")) (dC (fC (.str ".")) dN)))))) (f2 (fV 4) (fC (.int 5)) (zm .Mod)) ixP) (zm .Add)) (fSl (fV 0) (oS (f2 (fV 9) (f2 (f2 (fV 4) (fC (.int 5)) (zm .FloorDiv)) (fC (.int 2)) (zm .Mod)) (zm .Add))) oN slS) (zm .Add))))))))))
abbrev ch7:SF:=(yF (xu .str (fC (.str " ")) (aC (fV 5) aN) zcd))
section
variable{t:Str}{n k a q:Int}{e6 e7 e8 e9:Option O}
theorem zjT:ch0 (xN 10 [(true,.str t),(true,.int n)])=some (.nx (CS t n (n%10) (n/10%360360) (n/10/360360%10 ^ (9:Int).toNat) none none none none none)):=by
 have hd:zL [(true,.int n),(true,.lst (([10,360360,10 ^ (9:Int).toNat]:List Int).map .int))]=some (.nd .ls ((zay n [10,360360,10 ^ (9:Int).toNat]).map lfI)):=ZX (by decide) (by decide)
 exact zaN (Za (zB (zb rfl) (vC (xW (zp zf (zp zf (zp (zcW zf zf (by decide)) zU))) (by decide)) zN)) hd) rfl
theorem zjV(ht:t.length<=90000):ch1 (CS t n k a q none e6 e7 e8 e9)=some (.nx (CS t n k a q (oW (yW t)) e6 e7 e8 e9)):=Vi (znP (zb rfl) rfl zf (zbQ ht)) (zQ rfl)
theorem zkz{ws:List Str}(h:ws≠[]):ch2 (CS t n k a q (oW ws) e6 e7 e8 e9)=some (.nx (CS t n k a q (oW ws) (some (lfI (a%(ws.length:Int)))) e7 e8 e9)):=by
 have hl:WD (fP (aC (fV 5) aN) yz) (CS t n k a q (oW ws) e6 e7 e8 e9) true (.int (ws.length:Int)):=by
  have z:=zdq (as:=CS t n k a q (oW ws) e6 e7 e8 e9) (i:=5) rfl
  rw[zD,zD]at z
  exact z
 have:0<ws.length:=List.length_pos_iff.mpr h
 exact yK (i:=6) (yJ (zb rfl) hl (by omega)) (zQ rfl)
theorem zkJ{ws:List Str}(h:ws.length<=100000):ch3 (CS t n k a q (oW ws) e6 e7 e8 e9)=some (.nx (CS t n k a q (oW ws) e6 (some (.lf true (nl (ws++l15)))) e8 e9)):=by
 have z:=Vl (p:=7) (zdr (zmo (as:=CS t n k a q (oW ws) e6 e7 e8 e9) (Xr (i:=5) rfl) (zej (yE (x:=nl l15) (zp zf (zp zf (zp zf (zp zf (zp zf (zp zf (zp zf (zp zf (zp zf (zp zf (zp zf (zp zf (zp zf (zp zf (zp zf zU))))))))))))))) (szl rfl) rfl rfl)) (add_lists (xs:=ws.map D.str) (ys:=l15.map D.str) (szs (by rw[zD,zD];show _+15<=_;omega))))) (zQ rfl)
 rw[<-zyI]at z
 exact z
theorem zlc{ws:List Str}{e5:Option O}(h:ws.length<=100100):ch4 (CS t n k a q e5 e6 (some (.lf true (nl ws))) e8 e9)=some (.nx (CS t n k a q e5 e6 (some (.lf true (nl (ws++l14)))) e8 e9)):=by
 have z:=Vl (p:=7) (zaF (as:=CS t n k a q e5 e6 (some (.lf true (nl ws))) e8 e9) (WD.e (zb (i:=7) rfl)) (yE (x:=nl l14) (zp zf (zp zf (zp zf (zp zf (zp zf (zp zf (zp zf (zp zf (zp zf (zp zf (zp zf (zp zf (zp zf (zp zf zU)))))))))))))) (szl rfl) rfl rfl) (add_lists (xs:=ws.map D.str) (ys:=l14.map D.str) (szs (by rw[zD,zD];show _+14<=_;omega)))) (zQ rfl)
 rw[<-zyI]at z
 exact z
theorem zjZ{ws:List Str}{e5:Option O}(h:ws≠[])(hq:0<=q):∃w ∈ ws,ch5 (CS t n k a q e5 e6 (some (.lf true (nl ws))) e8 e9)=some (.nx (CS t n k a q e5 e6 (some (.lf true (nl ws))) (some (.lf true (.str w))) e9)):=by
 have hp:0<ws.length:=List.length_pos_iff.mpr h
 have hz:yz [nl ws]=some (.im (.int (ws.length:Nat))):=by
  show some (R0.im (.int ((ws.map D.str).length:Nat)))=_
  rw[zD]
 have hm:(q%(ws.length:Int)).toNat<ws.length:=by
  have h1:=zyJ q (show(ws.length:Int)≠0 by omega)
  have h2:=zyD q (show(0:Int)<ws.length by omega)
  omega
 refine⟨ws[(q%(ws.length:Int)).toNat],zyW hm, ?_⟩
 refine yK (i:=8) (f2E (WD.e (zb rfl)) (WD.e (yJ (zb rfl) (yp (zB (zb rfl) zN) hz rfl) (by omega))) ?_) (zQ rfl)
 have:=zaX (ws:=ws) (zzA hm)
 rw[show(((q%(ws.length:Int)).toNat:Nat):Int)=q%(ws.length:Int)from zyV (zyJ q (by omega))]at this
 exact this
theorem zko{ws:List Str}(h:Ts ws<=80000):∃y:Str,y.length<=80000/\ch7 (CS t n k a q (oW ws) e6 e7 e8 e9)=some (.rt (.lf true (.str y))):=by
 obtain⟨j1,j2⟩:=zdZ (ws:=ws) (by omega)
 exact⟨_,by omega,ye (vtM zf rfl (Xr rfl) j1 rfl)⟩
end
theorem Wn{a b:EF}{as:AS}{x y:Str}(ha:WD a as true (.str x))(hb:WD b as true (.str y))(h:x.length+y.length<=1000000):WD (f2 a b (zm .Add)) as true (.str (x++y)):=yH ha hb (zaU (szs h)) rfl
theorem zfO{a b:EF}{as:AS}{ws:List Str}{q:Int}(ha:WE a as (nl ws))(hb:WD b as true (.int q))(h0:0<=q)(h1:q<ws.length):∃w ∈ ws,WD (f2 a b ixP) as true (.str w):=by
 have hm:q.toNat<ws.length:=by omega
 refine⟨ws[q.toNat],zyW hm,f2E ha (WD.e hb) ?_⟩
 have:=zaX (ws:=ws) (zzA hm)
 rw[show((q.toNat:Nat):Int)=q from zyV h0]at this
 exact this
theorem zfU{fl fh:OF}{as:AS}{x:Str}{lo hi:Option Int}{f:EF}(ha:WD f as true (.str x))(hl:fl as=some (lo,as))(hh:fh as=some (hi,as))(hx:x.length<=1000000):WD (fSl f fl fh slS) as true (.str (Txt.slice x lo hi)):=Vz ha hl hh (show slS (.str x) lo hi=some (.im (.str (Txt.slice x lo hi)))from if_pos (szs hx))
section
variable{t w:Str}{n k a q:Int}{e7:Option O}{ws:List Str}{sp:Nat}
theorem zkG(hk:0<=k/\k<10)(ha:0<=a)(hq:0<=q)(ht:t.length<=2000)(hw:w.length<=2000)(hs:sp<ws.length)(hT:Ts ws<=2001):
 (∃ws',Ts ws'<=80000/\ch6 (CS t n k a q (oW ws) (some (lfI sp)) e7 (some (.lf true (.str w))) none)=some (.nx (CS t n k a q (oW ws') (some (lfI sp)) e7 (some (.lf true (.str w))) none))) \/
 (∃y:Str,y.length<=80000/\ch6 (CS t n k a q (oW ws) (some (lfI sp)) e7 (some (.lf true (.str w))) none)=some (.rt (.lf true (.str y)))):=by
 have e1:∀c:Int,WT (fT (f2 (fV 2) (fC (.int c)) (zH .Eq))) (CS t n k a q (oW ws) (some (lfI sp)) e7 (some (.lf true (.str w))) none) (k==c):=λc=>yh (wC (zb rfl) zf rfl) rfl
 have e0:WT (fT (f2 (fV 2) (fC (.int 4)) (zH .Lt))) (CS t n k a q (oW ws) (some (lfI sp)) e7 (some (.lf true (.str w))) none) (decide (k<4)):=yh (zeB (zb rfl) zf) rfl
 have hl:=zdz ws
 by_cases k4:k<4
 · rw[zyK k4]at e0
   have:=ziL ws sp w
   exact .inl ⟨ws.set sp w,by omega,yD e0 (zjQ (i:=5) rfl (zb rfl) rfl hs)⟩
 rw[zyC k4]at e0
 by_cases k4':k=4
 · have t4:=e1 4
   rw[beq_iff_eq.mpr k4']at t4
   have:=zdH ws sp
   exact .inl ⟨ws.eraseIdx sp,by omega,zJ e0 (yD t4 (zle (i:=5) rfl (zb rfl) hs (by omega)))⟩
 have t4:=e1 4
 rw[beq_eq_false_iff_ne.mpr k4']at t4
 by_cases k5:k=5
 · have t5:=e1 5
   rw[beq_iff_eq.mpr k5]at t5
   have:=zfT ws sp
   exact .inl ⟨ws.take sp++w::ws.drop sp,by rw[zcT,wj];omega,zJ e0 (zJ t4 (yD t5 (zkj (i:=5) rfl (zb rfl) (zb rfl) (by omega) (by omega))))⟩
 have t5:=e1 5
 rw[beq_eq_false_iff_ne.mpr k5]at t5
 by_cases k6:k=6
 · have t6:=e1 6
   rw[beq_iff_eq.mpr k6]at t6
   have:=zfT ws sp
   have ct:=zeP (xs:=(ws.take sp).map D.str) (ys:=(ws.drop sp).map D.str)
   rw[<-zyI,List.take_append_drop,zD,zzO,Nat.min_eq_left (by omega)]at ct
   exact .inl ⟨ws.take sp,by omega,zJ e0 (zJ t4 (zJ t5 (yD t6 (Vi (i:=5) (ziI (fl:=oN) (Xr (i:=5) rfl) rfl (YW (zb (i:=6) rfl)) ct) (zQ rfl)))))⟩
 have t6:=e1 6
 rw[beq_eq_false_iff_ne.mpr k6]at t6
 have vt:WD (fV 0) (CS t n k a q (oW ws) (some (lfI sp)) e7 (some (.lf true (.str w))) none) true (.str t):=zb rfl
 have l1:(" ":Str).length=1:=by decide +kernel
 by_cases k7:k=7
 · have t7:=e1 7
   rw[beq_iff_eq.mpr k7]at t7
   have hr:WD (zha 0 " " "  ") (CS t n k a q (oW ws) (some (lfI sp)) e7 (some (.lf true (.str w))) none) true (.str (Txt.replace t " " "  ")):=by
    unfold WD zha
    show(if t.length<=1048576 then _ else _)=_
    rw[if_pos (by omega)]
   have ln:("\n":Str).length=1:=by decide +kernel
   have hL:WE (zP (dC (f2 (fC (.str " ")) (fV 0) (zm .Add)) (dC (f2 (fV 0) (fC (.str " ")) (zm .Add)) (dC (zha 0 " " "  ") (dC (f2 (fV 0) (fC (.str "\n")) (zm .Add)) (dC (fC (.str "")) (dC (fC (.str " ")) (dC (f2 (f2 (fV 0) (fC (.str " ")) (zm .Add)) (fV 0) (zm .Add)) dN)))))))) (CS t n k a q (oW ws) (some (lfI sp)) e7 (some (.lf true (.str w))) none) (nl [" "++t,t++" ",Txt.replace t " " "  ",t++"\n",""," ",(t++" ")++t]):=
    yE (zp (Wn zf vt (by rw[l1];omega)) (zp (Wn vt zf (by rw[l1];omega)) (zp hr (zp (Wn vt zf (by rw[ln];omega)) (zp zf (zp zf (zp (Wn (Wn vt zf (by rw[l1];omega)) vt (by rw[yG,l1];omega)) zU))))))) (szl rfl) rfl rfl
   obtain⟨y,hy,ey⟩:=zfO hL (yJ (zb (i:=4) rfl) (zf (x:=.int 7)) (by decide)) (by omega) (by show q%7<7;omega)
   refine .inr ⟨y, ?_,zJ e0 (zJ t4 (zJ t5 (zJ t6 (yD t7 (ye ey)))))⟩
   have hrl:=zkk t
   simp only[zI,List.not_mem_nil,or_false]at hy
   rcases hy with rfl|rfl|rfl|rfl|rfl|rfl|rfl
   · rw[yG,l1];omega
   · rw[yG,l1];omega
   · omega
   · rw[yG,ln];omega
   · decide +kernel
   · decide +kernel
   · rw[yG,yG,l1];omega
 have t7:=e1 7
 rw[beq_eq_false_iff_ne.mpr k7]at t7
 by_cases k8:k=8
 · have t8:=e1 8
   rw[beq_iff_eq.mpr k8]at t8
   obtain⟨y,hy,ey⟩:=zkC hq
   exact .inr ⟨y,by omega,zJ e0 (zJ t4 (zJ t5 (zJ t6 (zJ t7 (yD t8 (ye (X7 (WD.e (zb rfl)) ey)))))))⟩
 have t8:=e1 8
 rw[beq_eq_false_iff_ne.mpr k8]at t8
 have hz:yz [.str t]=some (.im (.int t.length)):=if_pos (szs (by omega))
 have s9:zF true 9 (f2 (fV 3) (f2 (fP (aC (fV 0) aN) yz) (fC (.int 1)) (zm .Add)) (zm .Mod)) (CS t n k a q (oW ws) (some (lfI sp)) e7 (some (.lf true (.str w))) none)=some (.nx (CS t n k a q (oW ws) (some (lfI sp)) e7 (some (.lf true (.str w))) (some (lfI (a%((t.length:Int)+1)))))):=
  yK (i:=9) (yJ (zb rfl) (yM (yp (zB (zb rfl) zN) hz rfl) zf) (by omega)) (zQ rfl)
 have v9:WD (fV 0) (CS t n k a q (oW ws) (some (lfI sp)) e7 (some (.lf true (.str w))) (some (lfI (a%((t.length:Int)+1))))) true (.str t):=zb rfl
 have hL:WE (zP (dC (fC (.str "")) (dC (fC (.str " ")) (dC (fC (.str "0")) (dC (fC (.str "a")) (dC (fC (.str ".")) dN)))))) (CS t n k a q (oW ws) (some (lfI sp)) e7 (some (.lf true (.str w))) (some (lfI (a%((t.length:Int)+1))))) (nl [""," ","0","a","."]):=yE (zp zf (zp zf (zp zf (zp zf (zp zf zU))))) (szl rfl) rfl rfl
 obtain⟨y,hy,ey⟩:=zfO hL (yJ (zb (i:=4) rfl) (zf (x:=.int 5)) (by decide)) (by omega) (by show q%5<5;omega)
 have hyl:y.length<=1:=by
  have:∀w ∈ ([""," ","0","a","."]:List Str),w.length<=1:=by decide +kernel
  exact this y hy
 have c1:=zfU (fl:=oN) (fh:=oS (fV 9)) v9 rfl (YW (zb (i:=9) rfl)) (by omega)
 have c2:=zfU (fl:=oS (f2 (fV 9) (f2 (f2 (fV 4) (fC (.int 5)) (zm .FloorDiv)) (fC (.int 2)) (zm .Mod)) (zm .Add))) (fh:=oN) v9 (YW (yM (zb (i:=9) rfl) (yJ (VJ (zb (i:=4) rfl) (zf (x:=.int 5)) (by decide) (yC (by decide) (by decide))) (zf (x:=.int 2)) (by decide)))) rfl (by omega)
 have q1:=Txt.slice_le t none (some (a%((t.length:Int)+1)))
 have q2:=Txt.slice_le t (some (a%((t.length:Int)+1)+q/5%2)) none
 refine .inr ⟨_, ?_,zJ e0 (zJ t4 (zJ t5 (zJ t6 (zJ t7 (zJ t8 (zx s9 (ye (Wn (Wn c1 ey (by omega)) c2 (by rw[yG];omega)))))))))⟩
 rw[yG,yG];omega
end
theorem zeU{t:Str}{n:Int}(ht:t.length<=2000)(hn:0<=n):∃y:Str,y.length<=80000/\xG [(true,.str t),(true,.int n)]=some (.lf true (.str y)):=by
 obtain⟨b1,b2,b3⟩:=V7 t
 have hT:=ziv t
 have hp:0<(yW t).length:=List.length_pos_iff.mpr b1
 have hq:0<=n/10/360360%10 ^ (9:Int).toNat:=zyJ _ (by decide)
 have ha:0<=n/10%360360:=by omega
 have hm:=zyJ (n/10%360360) (show((yW t).length:Int)≠0 by omega)
 have hm2:=zyD (n/10%360360) (show(0:Int)<((yW t).length:Int) by omega)
 obtain⟨sp,hsp⟩:∃sp:Nat,n/10%360360%((yW t).length:Int)=(sp:Int):=⟨(n/10%360360%((yW t).length:Int)).toNat,(zyV hm).symm⟩
 have s0:=zjT (t:=t) (n:=n)
 generalize n/10/360360%10 ^ (9:Int).toNat=q at hq s0
 generalize n/10%360360=a at ha hm hm2 hsp s0
 have hk:0<=n%10/\n%10<10:=by omega
 generalize n%10=k at hk s0
 have s1:=zjV (t:=t) (n:=n) (k:=k) (a:=a) (q:=q) (e6:=none) (e7:=none) (e8:=none) (e9:=none) (by omega)
 have s2:=zkz (t:=t) (n:=n) (k:=k) (a:=a) (q:=q) (e6:=none) (e7:=none) (e8:=none) (e9:=none) b1
 rw[hsp]at s2 hm2
 have s3:=zkJ (t:=t) (n:=n) (k:=k) (a:=a) (q:=q) (e6:=some (lfI sp)) (e7:=none) (e8:=none) (e9:=none) (ws:=yW t) (by omega)
 have s4:=zlc (t:=t) (n:=n) (k:=k) (a:=a) (q:=q) (e5:=oW (yW t)) (e6:=some (lfI sp)) (e8:=none) (e9:=none) (ws:=yW t++l15) (by rw[zzF];show _+15<=_;omega)
 obtain⟨w,hw,s5⟩:=zjZ (t:=t) (n:=n) (k:=k) (a:=a) (q:=q) (e5:=oW (yW t)) (e6:=some (lfI sp)) (e8:=none) (e9:=none) (ws:=(yW t++l15)++l14) (by simp) hq
 have hwl:w.length<=2000:=by
  rcases zzI.mp hw with hw|hw
  · rcases zzI.mp hw with hw|hw
    · have:=b3 w hw;omega
    · have:=zkp w hw;omega
  · have:=zlb w hw;omega
 have pre:∀{o:Out}{y:Str},zM ch6 ch7 (CS t n k a q (oW (yW t)) (some (lfI sp)) (some (.lf true (nl ((yW t++l15)++l14)))) (some (.lf true (.str w))) none)=some (.rt (.lf true (.str y)))->xG [(true,.str t),(true,.int n)]=some (.lf true (.str y)):=λh=>
  yP rfl (zx s0 (zx s1 (zx s2 (zx s3 (zx s4 (zx s5 h))))))
 rcases zkG (t:=t) (w:=w) (n:=n) (k:=k) (a:=a) (q:=q) (e7:=some (.lf true (nl ((yW t++l15)++l14)))) (ws:=yW t) (sp:=sp) hk ha hq ht hwl (by omega) (by omega)with⟨ws',h1,h2⟩|⟨y,h1,h2⟩
 · obtain⟨y,h3,h4⟩:=zko (t:=t) (n:=n) (k:=k) (a:=a) (q:=q) (e6:=some (lfI sp)) (e7:=some (.lf true (nl ((yW t++l15)++l14)))) (e8:=some (.lf true (.str w))) (e9:=none) h1
   exact⟨y,h3,pre (o:=.rt (lfI 0)) (zx h2 h4)⟩
 · exact⟨y,h1,pre (o:=.rt (lfI 0)) (yI h2)⟩
abbrev abc:List Str:=["a","b","c"]
theorem ziM:∀k:Nat,∀x ∈ abc.take k,isNm x:=λk x hx=>by
 have:x ∈ abc:=List.mem_of_mem_take hx
 simp only[zI,List.not_mem_nil,or_false]at this
 exact this
theorem zjL:∀x ∈ abc,isNm x:=ziM 3
theorem ziQ:∀ns:List Int,ns.length<=63->zaR [(true,.lst (ns.map .int))]=some (.lf true (.bl true)):=λns hns=>by
 obtain⟨t,ok,hlv,eT⟩:=zjH (ns:=ns) (st:=1) ⟨by decide,by decide⟩
 obtain⟨_,l2,l3⟩:=t.lv_pos
 obtain⟨x0,a0,_,d0⟩:=WM (ns:=ns) (k:=0) (s:=true) (t:=true) (by decide) (by decide)
 have hsh:=v6 20 t ok (by omega) (by omega)
 have hSl:=zaE ok
 have hS:(S t).length<=2000:=by omega
 have hc0:0<=x0%4/\x0%4<4:=by omega
 have lABC:∀as:AS,WE (zP (dC (fC (.str "a")) (dC (fC (.str "b")) (dC (fC (.str "c")) dN)))) as (nl abc):=λas=>yE (zp zf (zp zf (zp zf zU))) (szl rfl) rfl rfl
 have cut:∀k:Int,0<=k->k<4->slP (nl abc) none (some k)=some (.fl ((abc.take k.toNat).map .str)):=λk h0 h1=>by
  have:k=0\/k=1\/k=2\/k=3:=by omega
  rcases this with rfl|rfl|rfl|rfl<;>rfl
 have hn:=ziM (x0%4).toNat
 have s1:zF true 1 (fSl (zP (dC (fC (.str "a")) (dC (fC (.str "b")) (dC (fC (.str "c")) dN)))) oN (oS (f2 (zV (aC (fV 0) (aC (fC (.int 0)) aN)) yq) (fC (.int 4)) (zm .Mod))) slP) (xN 4 [(true,.lst (ns.map .int))])=some (.nx [some (.lf true (.lst (ns.map .int))),some (.lf true (nl (abc.take (x0%4).toNat))),none,none]):=
  Vl (p:=1) (zak (lABC _) rfl (YW (yJ (vd (WD.e (zb rfl)) (WD.e zf) d0) zf (by decide))) (cut _ hc0.1 hc0.2)) (zQ rfl)
 generalize abc.take (x0%4).toNat=nm at hn s1
 have s2:zF true 2 (zV (aC (zV (aC (fV 0) (aC (fC (.int 1)) (aC (zP (dC (fC (.str "a")) (dC (fC (.str "b")) (dC (fC (.str "c")) dN)))) aN))) wY) aN) (xF 20)) [some (.lf true (.lst (ns.map .int))),some (.lf true (nl nm)),none,none]=some (.nx [some (.lf true (.lst (ns.map .int))),some (.lf true (nl nm)),some (.lf true (.str (S t))),none]):=
  yK (i:=2) (X7 (WD.e (zid (WD.e (zb rfl)) (WD.e zf) (lABC _) eT)) hsh) (zQ rfl)
 have hz:yz [.lst (ns.map .int)]=some (.im (.int (ns.length:Nat))):=by
  show some (R0.im (.int ((ns.map D.int).length:Nat)))=_
  rw[zD]
 obtain⟨m,hm,ir⟩:∃m:Int,(40<=m/\m<=58)/\VL (aC (fC (.int 28)) (aC (fP (aC (fC (.int 40)) (aC (fP (aC (fP (aC (fV 0) aN) yz) (aC (fC (.int 58)) aN)) zhb) aN)) zjF) aN)) zja [some (.lf true (.lst (ns.map .int))),some (.lf true (nl nm)),some (.lf true (.str (S t))),none]=some (vH 28 (m-28).toNat,[some (.lf true (.lst (ns.map .int))),some (.lf true (nl nm)),some (.lf true (.str (S t))),none]):=by
  have w1:WD (fP (aC (fP (aC (fV 0) aN) yz) (aC (fC (.int 58)) aN)) zhb) [some (.lf true (.lst (ns.map .int))),some (.lf true (nl nm)),some (.lf true (.str (S t))),none] true (.int (if(58:Int)<(ns.length:Int)then 58 else(ns.length:Int))):=yp (zB (yp (zB (zb rfl) zN) hz rfl) (zB zf zN)) rfl rfl
  have hu:(if(58:Int)<(ns.length:Int)then 58 else(ns.length:Int))<=58:=by split<;>omega
  generalize (if(58:Int)<(ns.length:Int)then 58 else(ns.length:Int))=u at w1 hu
  have w2:WD (fP (aC (fC (.int 40)) (aC (fP (aC (fP (aC (fV 0) aN) yz) (aC (fC (.int 58)) aN)) zhb) aN)) zjF) [some (.lf true (.lst (ns.map .int))),some (.lf true (nl nm)),some (.lf true (.str (S t))),none] true (.int (if u > 40 then u else 40)):=yp (zB zf (zB w1 zN)) rfl rfl
  have hv:40<=(if u > 40 then u else 40)/\(if u > 40 then u else 40)<=58:=by split<;>omega
  generalize (if u > 40 then u else 40)=v at w2 hv
  refine⟨v,hv, ?_⟩
  have hr:=zB (zf (as:=[some (.lf true (.lst (ns.map .int))),some (.lf true (nl nm)),some (.lf true (.str (S t))),none]) (x:=.int 28)) (zB w2 zN)
  unfold VL;unfold WA at hr
  rw[hr]
  simp only[zyH,vZ]
  show((zja [.int 28,.int v]).bind _)=_
  have e:zja [.int 28,.int v]=some (vH 28 (v-28).toNat):=by
   show(if _ then _ else _)=_
   rw[if_pos ⟨by decide,by decide,by omega,by omega⟩]
  rw[e];rfl
 have hl:∃as',forL (gN 3) (sIf (Y8 (fT (zV (aC (zV (aC (fV 2) (aC (zV (aC (fV 0) (aC (fV 3) aN)) yq) aN)) xG) (aC (fV 1) aN)) yR))) (yF (fC (.bl false))) sNx) (vH 28 (m-28).toNat) [some (.lf true (.lst (ns.map .int))),some (.lf true (nl nm)),some (.lf true (.str (S t))),none]=some (.nx as')/\∃e,as'=[some (.lf true (.lst (ns.map .int))),some (.lf true (nl nm)),some (.lf true (.str (S t))),e]:=by
  refine Vg (λ_ as=>∃e,as=[some (.lf true (.lst (ns.map .int))),some (.lf true (nl nm)),some (.lf true (.str (S t))),e]) _ 0 _ (λi x as hx h=>?_) ⟨none,rfl⟩
  obtain⟨e,rfl⟩:=h
  obtain⟨rfl,hi⟩:=zbC hx
  obtain⟨y,a1,_,d1⟩:=WM (ns:=ns) (k:=28+(i:Int)) (s:=true) (t:=true) (by omega) (by omega)
  obtain⟨z,b1,b2⟩:=zeU hS a1
  have r:=zaT hn (show z.length<=90000 by omega)
  refine⟨_,rfl,_,zJ (zfc (k:=true) (yh (vd (WD.e (vd (WD.e (zb rfl)) (WD.e (vd (WD.e (zb rfl)) (WD.e (zb rfl)) d1)) b2)) (WD.e (zb rfl)) r) rfl)) rfl,_,rfl⟩
 obtain⟨as',hl,e,rfl⟩:=hl
 exact yP rfl (zx s1 (zx s2 (zx (wW ir hl) (ye (zcV (k:=true) (vd (WD.e (zb rfl)) (WD.e (zb rfl)) (zaT hn (by omega))) (λ_=>vd (WD.e (zb rfl)) (lABC _) (zaT zjL (by omega))) (λh=>nomatch h))))))
end G04
end
open PySem PySem.W PyProof.Rows
set_option maxRecDepth 100000 in
set_option maxHeartbeats 0 in
theorem PySem.Challenge.cw_stretchdeeds_k04_texts_of_no_term_holds : PySem.Challenge.rw_stretchdeeds_k04_texts_of_no_term.Holds := by
 w_on;refine holds_law G04.ws λsaid=>?_
 refine holds_open (q:=G04.qv) (loose:=["PARTS"]) (Xt:=G04.Xt) (XP:=XL G04.qv []) (Yf:=Hook.obs (kHook G04.K G04.kA G04.kAe)) (Ya:=Hook.val (kHook G04.K G04.kA G04.kAe)) (YP:=Hook.says (kHook G04.K G04.kA G04.kAe)) (N:=6188) G04.hl (Hook.of (kHook G04.K G04.kA G04.kAe)) (Hook.keeps (kHook G04.K G04.kA G04.kAe)) (λs e=>xl_of s (Bool.and_eq_true_iff.mp e).1) XL.keeps (by rfl) (by rfl) (by rfl) (λs e=>recFacts_of (Bool.and_eq_true_iff.mp e).2) (by rfl) (by first|assumption|decide +kernel) (by decide +kernel) ⟨rfl,rfl,rfl,rfl,rfl,by decide +kernel⟩ ?hw ?hc
 (case hw=>w_witness2)
 k_fill
 refine G04.walk (l:=PySem.Challenge.rw_stretchdeeds_k04_texts_of_no_term) rfl rfl (λw h Y=>PySem.W.kIn_of Y) G04.ziQ ?F
 case F=>
  intro w mg fa h KX G hmg
  refine' G04.znG KX G hmg ?_ ?_ ?_ ?_ ?_ ?_ ?_ ?_ ?_ ?_ ?_ ?_ ?_ ?_ ?_ ?_ ?_ ?_ ?_ ?_ ?_ ?_ ?_ ?_ ?_ ?_ ?_ ?_ ?_ ?_ ?_ ?_ ?_ ?_ ?_ ?_ ?_ ?_ ?_ ?_ ?_ ?_ ?_ ?_ ?_ ?_ ?_ ?_ ?_ ?_ ?_ ?_ ?_ ?_ ?_ ?_ ?_ ?_ ?_ ?_ ?_ ?_ ?_ ?_ ?_ ?_ ?_ ?_ ?_ ?_ ?_ ?_ ?_ ?_ ?_ ?_ ?_ ?_ ?_ ?_ ?_ ?_ ?_ ?_
  all_goals try first|k_is|(change _=_;k_is)|exact⟨_,⟨_,_,_,_,_,_,_,_,_,rfl,by k_is,by k_is⟩,by k_is⟩|exact⟨⟨_,_,_,_,_,_,_,_,_,_,_,_,_,_,rfl⟩,by first|k_is|kernel_rfl,by first|k_is|kernel_rfl,by first|k_is|kernel_rfl,by first|k_is|kernel_rfl,by first|k_is|kernel_rfl⟩|exact⟨by first|k_is|kernel_rfl,by first|k_is|kernel_rfl,by first|k_is|kernel_rfl⟩|exact⟨by first|k_is|kernel_rfl,by first|k_is|kernel_rfl,by first|k_is|kernel_rfl,by first|k_is|kernel_rfl,by first|k_is|kernel_rfl,by first|k_is|kernel_rfl,by first|k_is|kernel_rfl,by first|k_is|kernel_rfl,by first|k_is|kernel_rfl⟩|rfl
#print axioms PySem.Challenge.cw_stretchdeeds_k04_texts_of_no_term_holds
