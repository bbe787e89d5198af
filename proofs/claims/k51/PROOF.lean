import PyProof.Rows.All
import Wide.All
import OpenK.AllK
import Wide.FinOn
import PyProof.EqAt
import PyProof.EqKinds
import PyProof.TupleCall
import PyProof.NeKinds
import PyProof.AutoSeq1
import KE.LcSums
import PyProof.Rows.StrWeight2
import PyProof.StrBlockG
import KE.KIntText
import PyProof.CallStr
import PyProof.WalksEnum
import PyProof.Rows.EnumRows
import PyProof.Rows.FactsT2
import KE.KRevIter
import PyProof.StrWalks
import PyProof.ReprRoads
import PyProof.StrLawsTight
import PyProof.Rows.StrItems
import PyProof.Rows.ReprOcc
import PyProof.Rows.StrJoinMade
import PyProof.ReprLen
import PyProof.ZipIter
import PyProof.Rows.SortWalk
import PyProof.ListRange
import PyProof.AttrMissHeap
import PyProof.Rows.SumAny
import PyProof.Rows.TupDisplay
import Lean
import PySem.Challenge.RW_stretchdeeds_k51_told_apart
set_option Elab.async false
set_option linter.all false
set_option maxRecDepth 100000
abbrev zC:=PySem.W.Frag
abbrev zD:=@List.length_map
abbrev zI:=@List.mem_cons
abbrev zzA:=@List.mem_cons_of_mem
abbrev zzB:=@List.getElem?_eq_getElem
abbrev zzC:=@List.mem_cons_self
abbrev zzD:=@List.getElem?_eq_some_iff
abbrev zzE:=@List.size_toArray
abbrev zzF:=@List.getElem?_map
abbrev zzG:=@List.length_append
abbrev zzH:=@Nat.lt_of_lt_of_le
abbrev zzI:=@List.mem_append_right
abbrev zzJ:=@List.mem_append
abbrev zzK:=@Nat.le_refl
abbrev zzL:=@Nat.le_trans
abbrev zzM:=@List.mem_append_left
abbrev zzN:=@Nat.ne_of_lt
abbrev zzO:=@List.mem_singleton
abbrev zzP:=@List.length_take
abbrev zzQ:=@List.length_cons
abbrev zzR:=@List.length_set
abbrev zzS:=@Int.natCast_mul
abbrev zzT:=@List.nodup_cons
abbrev zzU:=@Option.map_eq_some_iff
abbrev zzV:=@List.getElem?_set_ne
abbrev zzW:=@Option.some.inj
abbrev zzX:=@List.mem_of_getElem?
abbrev zzY:=@List.map_map
abbrev zzZ:=@Bool.and_eq_true
abbrev zyA:=@Bool.or_true
abbrev zyB:=@List.append_nil
abbrev zyC:=@List.getD_eq_getElem?_getD
abbrev zyD:=@decide_eq_false
abbrev zyE:=@Int.emod_lt_of_pos
abbrev zyF:=@Int.toNat_natCast
abbrev zyG:=@List.nodup_nil
abbrev zyH:=@List.getElem?_set_self
abbrev zyI:=@Option.bind_some
abbrev zyJ:=@List.map_append
abbrev zyK:=@Int.emod_nonneg
abbrev zyL:=@decide_eq_true
abbrev zyM:=@List.getElem?_append_left
abbrev zyN:=@List.drop_eq_getElem_cons
abbrev zyO:=@List.getElem?_append_right
abbrev zyP:=@List.map_cons
abbrev zyQ:=@Array.length_toList
abbrev zyR:=@List.length_range
abbrev zyS:=@Bool.false_ne_true
abbrev zyT:=@Nat.le_succ
abbrev zyU:=@Nat.zero_add
abbrev zyV:=@List.getElem_mem
abbrev zyW:=@Nat.lt_succ_of_lt
abbrev zyX:=@List.not_mem_nil
abbrev zyY:=@List.append_assoc
abbrev zyZ:=@List.mem_map
abbrev zxA:=@List.nodup_append
abbrev zxB:=@PySem.wpAny_bind
abbrev zxC:=@PySem.wpAny_pure
abbrev zxD:=@PySem.Heap.get?_push_of_some
abbrev zxE:=@PySem.Heap.lt_size
abbrev zxF:=@PySem.Heap.get?_push_size
abbrev zxG:=@PySem.wpAny_newObj_type
abbrev zxH:=@PySem.wpAny_holding
abbrev zxI:=@PySem.Heap.size_push
abbrev zxJ:=@PySem.wpAny_mono
section
namespace L2
open PySem PySem.Spec PyProof.Rows
abbrev Key:=Sum Int Str
def zfT:Key->Value->Bool
 | .inl k,v=>Value.isInt k v
 | .inr x,v=>Value.isStrOf x v
def ztc(w:World):Key->Int
 | .inl k=>hashInt k
 | .inr x=>hashStr w x
theorem wG:∀{k:Key}{v:Value},zfT k v=true->(∃i t,k=Sum.inl i/\v=Value.int i t)\/(∃x t,k=Sum.inr x/\v=Value.str x t)
 | .inl i,v,h=>by
  obtain⟨t,e⟩:=Value.isInt_shape (k:=i) (v:=v) h
  exact .inl ⟨i,t,rfl,e⟩
 | .inr x,v,h=>by
  obtain⟨t,e⟩:=Value.isStrOf_shape (x:=x) (v:=v) h
  exact .inr ⟨x,t,rfl,e⟩
theorem zkI(i:Int)(t:Tok):zfT (.inl i) (.int i t)=true:=by simp[zfT,Value.isInt]
theorem zle(x:Str)(t:Tok):zfT (.inr x) (.str x t)=true:=by simp[zfT,Value.isStrOf]
theorem zpE(a b:Int):decide ((Sum.inl a:Key)=Sum.inl b)=(a==b):=by
 by_cases e:a=b
 · subst e;simp
 · have h:¬(Sum.inl a:Key)=Sum.inl b:=λq=>e (Sum.inl.inj q)
   rw[zyD h]
   exact(beq_eq_false_iff_ne.mpr e).symm
theorem zpZ(a b:Str):decide ((Sum.inr a:Key)=Sum.inr b)=decide (a=b):=by
 by_cases e:a=b
 · subst e;simp
 · have h:¬(Sum.inr a:Key)=Sum.inr b:=λq=>e (Sum.inr.inj q)
   rw[zyD h,zyD e]
theorem zqF(a:Int)(b:Str):decide ((Sum.inl a:Key)=Sum.inr b)=false:=zyD (λq=>nomatch q)
theorem zpY(a:Str)(b:Int):decide ((Sum.inr a:Key)=Sum.inl b)=false:=zyD (λq=>nomatch q)
def wz(prog:Program)(w:World):PySem.KeyKind prog w Key where
 is:=zfT
 hash:=ztc w
 inj:=λv a b ha hb=>by
  rcases wG ha with⟨i,t,rfl,rfl⟩|⟨x,t,rfl,rfl⟩
  · rcases wG hb with⟨j,u,rfl,e⟩|⟨y,u,rfl,e⟩
    · injection e with e1 _;rw[e1]
    · exact nomatch e
  · rcases wG hb with⟨j,u,rfl,e⟩|⟨y,u,rfl,e⟩
    · exact nomatch e
    · injection e with e1 _;rw[e1]
 byValue:=λk v h=>by
  rcases wG h with⟨i,t,rfl,rfl⟩|⟨x,t,rfl,rfl⟩<;>rfl
 pyHash:=λhv h=>by
  rcases wG hv with⟨i,t,rfl,rfl⟩|⟨x,t,rfl,rfl⟩
  · exact wpAny_pyHash_int h
  · exact wpAny_pyHash_str h
 eqBool:=λhu hv h=>by
  rcases wG hu with⟨i,t,rfl,rfl⟩|⟨x,t,rfl,rfl⟩
  · rcases wG hv with⟨j,u,rfl,rfl⟩|⟨y,u,rfl,rfl⟩
    · rw[zpE]at h;exact wpAny_eqBool_int h
    · rw[zqF]at h;exact SeqAt.EqAt.int_str i t y u _ _ _ _ h
  · rcases wG hv with⟨j,u,rfl,rfl⟩|⟨y,u,rfl,rfl⟩
    · rw[zpY]at h;exact SeqAt.EqAt.str_int x t j u _ _ _ _ h
    · rw[zpZ]at h;exact wpAny_eqBool_str h
 «strs» := λk x t v h=>by
  rcases wG h with⟨i,u,rfl,e⟩|⟨y,u,rfl,e⟩
  · exact nomatch e
  · injection e with e1 _
    subst e1
    cases v<;>rfl
theorem ziu(prog:Program)(w:World)(i:Int)(t:Tok):(wz prog w).is (.inl i) (.int i t)=true:=zkI i t
theorem Vo(prog:Program)(w:World)(x:Str)(t:Tok):(wz prog w).is (.inr x) (.str x t)=true:=zle x t
end L2
namespace L2
open PySem PySem.Spec PyProof.Rows
inductive V where
 |non|bl (b:Bool)|int (i:Int)|str (x:Str)|byt (b:Array UInt8)|flt (b:UInt64)|ref (a:Addr)|ty (n:String)
 deriving DecidableEq
def RelV:V->Value->Prop
 | .non,u=>u=Value.none
 | .bl b,u=>u=Value.bool b
 | .int i,u=>∃t,u=Value.int i t
 | .str x,u=>∃t,u=Value.str x t
 | .byt b,u=>∃t,u=Value.bytes b t
 | .flt b,u=>∃t,u=Value.float b t
 | .ref a,u=>u=Value.ref a
 | .ty n,u=>u=Value.type n
abbrev Vals:List V->List Value->Prop:=Paired RelV
theorem Vals.length(r:Vals xs us):xs.length=us.length:=Paired.length r
theorem Vals.get:∀{xs:List V}{us:List Value}{i:Nat}{x:V},Vals xs us->xs[i]? = some x->∃u,us[i]? = some u/\RelV x u
 |_,_,_,_,.nil,e=>by simp at e
 |_,_,0,_,.cons r _,e=>by simp at e;subst e;exact⟨_,rfl,r⟩
 |_,_,i+1,x,.cons _ t,e=>by
  obtain⟨u,h1,h2⟩:=Vals.get (i:=i) (x:=x) t (by simpa using e)
  exact⟨u,by simpa using h1,h2⟩
theorem Vals.set(r:RelV x u):∀{xs:List V}{us:List Value}(i:Nat),Vals xs us->Vals (xs.set i x) (us.set i u)
 |_,_,_,.nil=>.nil
 |_,_,0,.cons _ t=>.cons r t
 |_,_,i+1,.cons q t=>.cons q (Vals.set r i t)
theorem Vals.append:∀{xs ys:List V}{us ws:List Value},Vals xs us->Vals ys ws->Vals (xs++ys) (us++ws)
 |_,_,_,_,.nil,s=>s
 |_,_,_,_,.cons r t,s=>.cons r (Vals.append t s)
theorem Vals.take:∀{xs:List V}{us:List Value}(n:Nat),Vals xs us->Vals (xs.take n) (us.take n)
 |_,_,0,_=>.nil
 |_,_,_+1,.nil=>.nil
 |_,_,n+1,.cons r t=>.cons r (Vals.take n t)
theorem Vals.drop:∀{xs:List V}{us:List Value}(n:Nat),Vals xs us->Vals (xs.drop n) (us.drop n)
 |_,_,0,r=>r
 |_,_,_+1,.nil=>.nil
 |_,_,n+1,.cons _ t=>Vals.drop n t
def zfl:Option V->Option Value->Prop
 |some v,some u=>RelV v u
 |none,none=>True
 |_,_=>False
def KV{κ:Type}:List (κ×V)->List (κ×Value)->Prop:=Paired λ(p:κ×V) (q:κ×Value)=>p.1=q.1/\RelV p.2 q.2
def kV:Key->V
 | .inl i=>.int i
 | .inr x=>.str x
inductive HO where
 |lst (xs:List V)
 |tup (xs:List V)
 |dK (kvs:List (Key×V))|dT (kvs:List (List Key×V))
 |set (S:Int->Bool) (n:Nat)
 |ins (C dx:Addr) (fs:List (Str×V))
 |own (x:Addr)
 |xd (fs:List (Str×V))
 |met (f x:Addr)
 |rng (lo hi:Int)
 |frz (o:Obj) (u:HO)
 |tbl (ps:Array Value)
 |ext (φ:Heap->Prop)
abbrev Hp:=Addr->Option HO
def upd(H:Hp)(a:Addr)(o:HO):Hp:=λb=>if b=a then some o else H b
theorem yC:upd H a o a=some o:=by unfold upd;rw[if_pos rfl]
theorem zV(h:b≠a):upd H a o b=H b:=by unfold upd;rw[if_neg h]
theorem zph{H:Hp}{a b:Addr}{o u:HO}(h:H a=some o)(h':H b=some u)(d:o≠u):a≠b:=by
 intro e;subst e;rw[h]at h';exact d (zzW h')
theorem yM{H:Hp}{a b:Addr}{o:HO}(h:H a=some o)(h':H b=none):a≠b:=by
 intro e;subst e;rw[h]at h';cases h'
section
variable(P:Program)(w:World)
def vm(H:Hp)(h:Heap)(a:Addr):HO->Prop
 | .lst xs=>xs.length<=sizeLine/\∃(its:List Value) (n:Nat),Vals xs its/\h.get? a=some {cls:=.type "list",data:=.seq its.toArray n}
 | .tup xs=>xs.length<=sizeLine/\∃its:List Value,Vals xs its/\IsTup h a its.toArray
 | .dK kvs=>kvs.length<=sizeLine/\(a==sysModules)=false/\∃vs,KV kvs vs/\h.DictOf (wz P w) a vs
 | .dT kvs=>kvs.length<=sizeLine/\(a==sysModules)=false/\∃xs:List (List Key×Addr×Value),
  Paired (λ(p:List Key×V) (q:List Key×Addr×Value)=>p.1=q.1/\H q.2.1=some (.tup (p.1.map kV))/\RelV p.2 q.2.2) kvs xs/\
  ∃o es ep,h.get? a=some o/\o.ExactDict/\o.data = .dict es ep/\es.toList=xs.map (entryOfKey (tupleKind (wz P w)))/\(xs.map (·.1)).Nodup
 | .set S n=>h.SetOf (intKind P w) a S n
 | .ins C dx fs=>H dx=some (.own a)/\fs.length<=1000/\dx≠a/\h.get? a=some (PySem.W.instObj C dx)/\
  ∃mA,h.Ns1 dx mA/\(∀f,zfl (fs.lookup f) (mA f))/\PySem.Within mA (fs.map (·.1))
 | .own _=>∃o,h.get? a=some o
 | .xd fs=>∃mA,h.Ns1 a mA/\∀f,zfl (fs.lookup f) (mA f)
 | .rng lo hi=>∃t u v,h.get? a=some {cls:=.type "range",data:=.fields #[.int lo t,.int hi u,.int 1 v]}
 | .frz o u=>h.get? a=some o/\vm H h a u
 | .tbl ps=>h.get? a=some {cls:=.none,data:=.fields ps}
 | .met f x=>h.get? a=some (PySem.W.methodObj (.ref f) (.ref x))
 | .ext φ=>φ h/\(∃o,h.get? a=some o)/\∀h1 h2:Heap,φ h1->(∀o,h1.get? a=some o->h2.get? a=some o)->φ h2
def HOk(H:Hp)(h:Heap):Prop:=∀a o,H a=some o->vm P w H h a o
end
section
variable{P:Program}{w:World}{H H':Hp}{h h':Heap}{a:Addr}{o:HO}
theorem vm.lt(x:vm P w H h a o):a<h.objs.size:=by
 cases o with
 |lst xs=>obtain⟨_,_,_,_,e⟩:=x;exact zxE e
 |tup xs=>obtain⟨_,_,_,p⟩:=x;exact p.lt
 |dK kvs=>obtain⟨_,_,_,_,o,_,_,e,_⟩:=x;exact zxE e
 |dT kvs=>obtain⟨_,_,_,_,o,_,_,e,_⟩:=x;exact zxE e
 |set S n=>obtain⟨o,_,_,_,e,_⟩:=x;exact zxE e
 |ins C dx fs=>obtain⟨_,_,_,e,_⟩:=x;exact zxE e
 |own y=>obtain⟨_,e⟩:=x;exact zxE e
 |xd fs=>obtain⟨_,⟨_,_,_,e,_⟩,_⟩:=x;exact zxE e
 |rng lo hi=>obtain⟨_,_,_,e⟩:=x;exact zxE e
 |frz ob u=>obtain⟨e,_⟩:=x;exact zxE e
 |tbl ps=>exact zxE (show h.get? a=some _ from x)
 |met f y=>exact zxE (show h.get? a=some _ from x)
 |ext φ=>obtain⟨_,⟨_,e⟩,_⟩:=x;exact zxE e
theorem Paired.mapP:∀{l₁:List α}{l₂:List β},Paired F l₁ l₂->(∀a b,F a b->G a b)->Paired G l₁ l₂
 |_,_,.nil,_=>.nil
 |_,_,.cons r t,f=>.cons (f _ _ r) (Paired.mapP t f)
theorem vm.stay(x:vm P w H h a o)(k:∀b u,(b=a\/H b=some (.own a))->h.get? b=some u->h'.get? b=some u)
 (ho:∀b,H b=some (.own a)->H' b=some (.own a)) (ht:∀b xs,H b=some (.tup xs)->H' b=some (.tup xs)):vm P w H' h' a o:=by
 induction o with
 |lst xs=>obtain⟨z,its,n,r,e⟩:=x;exact⟨z,its,n,r,k _ _ (.inl rfl) e⟩
 |tup xs=>obtain⟨z,its,r,ob,e,c⟩:=x;exact⟨z,its,r,ob,k _ _ (.inl rfl) e,c⟩
 |dK kvs=>obtain⟨z,y,vs,r,ob,es,ep,e,c⟩:=x;exact⟨z,y,vs,r,ob,es,ep,k _ _ (.inl rfl) e,c⟩
 |dT kvs=>
  obtain⟨z,y,xs,r,ob,es,ep,e,c⟩:=x
  exact⟨z,y,xs,Paired.mapP r λp q z=>⟨z.1,ht _ _ z.2.1,z.2.2⟩,ob,es,ep,k _ _ (.inl rfl) e,c⟩
 |set S n=>obtain⟨ob,es,ep,t,e,c⟩:=x;exact⟨ob,es,ep,t,k _ _ (.inl rfl) e,c⟩
 |ins C dx fs=>
  obtain⟨d,z,ne,e,mA,⟨od,es,ep,e2,c⟩,r⟩:=x
  exact⟨ho _ d,z,ne,k _ _ (.inl rfl) e,mA,⟨od,es,ep,k _ _ (.inr d) e2,c⟩,r⟩
 |own y=>obtain⟨ob,e⟩:=x;exact⟨ob,k _ _ (.inl rfl) e⟩
 |xd fs=>obtain⟨mA,⟨od,es,ep,e,c⟩,r⟩:=x;exact⟨mA,⟨od,es,ep,k _ _ (.inl rfl) e,c⟩,r⟩
 |rng lo hi=>obtain⟨t,u,v,e⟩:=x;exact⟨t,u,v,k _ _ (.inl rfl) e⟩
 |frz ob u ih=>obtain⟨e,q⟩:=x;exact⟨k _ _ (.inl rfl) e,ih q⟩
 |tbl ps=>
  have e:h.get? a=some {cls:=.none,data:=.fields ps}:=x
  show h'.get? a=some {cls:=.none,data:=.fields ps}
  exact k a _ (.inl rfl) e
 |met f y=>
  have e:h.get? a=some (PySem.W.methodObj (.ref f) (.ref y)):=x
  show h'.get? a=some (PySem.W.methodObj (.ref f) (.ref y))
  exact k a _ (.inl rfl) e
 |ext φ=>obtain⟨p,⟨o,e⟩,st⟩:=x;exact⟨st _ _ p λo q=>k _ _ (.inl rfl) q,⟨o,k _ _ (.inl rfl) e⟩,st⟩
theorem HOk.lt(x:HOk P w H h)(e:H a=some o):a<h.objs.size:=(x a o e).lt
theorem HOk.fresh(x:HOk P w H h)(e:h.objs.size<=a):H a=none:=by
 cases q:H a with
 |none=>rfl
 |some u=>exact absurd (zzH (x.lt q) e) (Nat.lt_irrefl _)
theorem HOk.kept(x:HOk P w H h)(k:∀b u,h.get? b=some u->h'.get? b=some u):HOk P w H h':=λa o e=>
 (x a o e).stay (λb u _ q=>k b u q) (λ_ q=>q) λ_ _ q=>q
theorem HOk.laid(x:HOk P w H h)(k:∀b u,h.get? b=some u->h'.get? b=some u)(hp:h.objs.size<=a)(new:vm P w (upd H a o) h' a o):HOk P w (upd H a o) h':=λb u e=>by
 have hn:=x.fresh hp
 by_cases hb:b=a
 · subst hb;rw[yC]at e;cases e;exact new
 · rw[zV hb]at e
   exact(x b u e).stay (λc v _ q=>k c v q) (λc q=>by rw[zV (yM q hn)];exact q) λc xs q=>by rw[zV (yM q hn)];exact q
end
def Rd(H:Hp)(a:Addr)(u:HO):Prop:=H a=some u\/∃o,H a=some (.frz o u)
theorem Rd.ok(r:Rd H a u)(x:HOk P w H h):vm P w H h a u:=by
 rcases r with r|⟨o,r⟩
 · exact x a u r
 · obtain⟨_,q⟩:=x a _ r
   exact q
def Mut:Option HO->Prop
 |some (.lst _)=>True
 |some (.dK _)=>True
 |some (.dT _)=>True
 |some (.set _ _)=>True
 |some (.ins _ _ _)=>True
 |some (.ext _)=>True
 |_=>False
section
variable{P:Program}{w:World}{H:Hp}{h h':Heap}{x e:Addr}{o':HO}
theorem HOk.write(ok:HOk P w H h)(mu:Mut (H x))(he:e=x\/H e=some (.own x))(k:∀b u,b≠e->h.get? b=some u->h'.get? b=some u)(heo:∃u,h'.get? e=some u)
 (new:vm P w (upd H x o') h' x o'):HOk P w (upd H x o') h':=λb u q=>by
 have nown:∀c y,H c=some (.own y)->c≠x:=λc y r z=>by subst z;rw[r]at mu;exact mu
 have ntup:∀c xs,H c=some (.tup xs)->c≠x:=λc xs r z=>by subst z;rw[r]at mu;exact mu
 by_cases hb:b=x
 · subst hb;rw[yC]at q;cases q;exact new
 · rw[zV hb]at q
   by_cases hbe:b=e
   · have q':H b=some (.own x):=by
      rcases he with z|z
      · exact absurd (hbe.trans z) hb
      · rw[hbe];exact z
     rw[q]at q';cases q'
     obtain⟨v,hv⟩:=heo
     exact⟨v,by rw[hbe];exact hv⟩
   · refine(ok b u q).stay (λc v hc r=>k c v ?_ r) (λc r=>by rw[zV (nown c b r)];exact r) λc xs r=>by rw[zV (ntup c xs r)];exact r
     rcases hc with rfl|hc
     · exact hbe
     · rintro rfl
       rcases he with z|z
       · exact nown c b hc z
       · rw[hc]at z;cases z;exact hb rfl
end
structure Un(fs ex:List Addr)(H H':Hp)(h h':Heap):Prop where
 keep:∀b o,h.get? b=some o->H b=none->b ∉ fs->b ∉ ex->h'.get? b=some o
 slot:∀b o,h.get? b=some o->H b=none->b ∈ fs->b ∉ ex->∃sl,h'.get? b=some {o with slots:=sl}
 free:∀b o,h.get? b=some o->H b=none->b ∉ ex->H' b=none
 there:∀b o,h.get? b=some o->b ∉ ex->∃o',h'.get? b=some o'
 tups:∀b xs,H b=some (.tup xs)->H' b=some (.tup xs)
 frzs:∀b o u,H b=some (.frz o u)->H' b=some (.frz o u)
 tbls:∀b ps,H b=some (.tbl ps)->∃more,H' b=some (.tbl (ps++more))
section
variable{fs fs' ex ex':List Addr}{H H1 H2:Hp}{h h1 h2 h':Heap}{a x e:Addr}{o:HO}
theorem Un.any(u:Un fs ex H H1 h h1)(q:h.get? b=some ob)(n:H b=none)(hx:b ∉ ex):∃sl,h1.get? b=some {ob with slots:=sl}:=by
 by_cases hb:b ∈ fs
 · exact u.slot b ob q n hb hx
 · exact⟨ob.slots,u.keep b ob q n hb hx⟩
theorem Un.kept(k:∀b u,h.get? b=some u->h'.get? b=some u):Un fs ex H H h h':=
 ⟨λb ob q _ _ _=>k b ob q,λb ob q _ _ _=>⟨ob.slots,k b ob q⟩,λ_ _ _ n _=>n,λb ob q _=>⟨ob,k b ob q⟩,λ_ _ q=>q,λ_ _ _ q=>q,λ_ ps q=>⟨#[],by rw[q];simp⟩⟩
theorem Un.refl:Un fs ex H H h h:=Un.kept λ_ _ q=>q
theorem Un.laid(k:∀b u,h.get? b=some u->h'.get? b=some u)(hp:h.objs.size<=a)(hn:H a=none):Un fs ex H (upd H a o) h h' where
 keep:=λb u q _ _ _=>k b u q
 slot:=λb u q _ _ _=>⟨u.slots,k b u q⟩
 free:=λb u q n _=>by rw[zV (zzN (zzH (zxE q) hp))];exact n
 there:=λb u q _=>⟨u,k b u q⟩
 tups:=λb xs q=>by rw[zV (yM q hn)];exact q
 frzs:=λb u xs q=>by rw[zV (yM q hn)];exact q
 tbls:=λb ps q=>⟨#[],by rw[zV (yM q hn),q];simp⟩
theorem Un.write(mu:Mut (H x))(he:e=x\/H e=some (.own x))(k:∀b u,b≠e->h.get? b=some u->h'.get? b=some u)(heo:∃u,h'.get? e=some u):Un fs ex H (upd H x o) h h':=by
 have hx:∀b,H b=none->b≠x:=λb n z=>by subst z;rw[n]at mu;exact mu
 have hb:∀b,H b=none->b≠e:=λb n z=>by
  subst z
  rcases he with r|r
  · exact hx b n r
  · rw[n]at r;cases r
 have hm:∀b u,H b=some u->¬Mut (some u)->b≠x:=λb u q nm z=>by subst z;rw[q]at mu;exact nm mu
 refine⟨λb u q n _ _=>k b u (hb b n) q,λb u q n _ _=>⟨u.slots,k b u (hb b n) q⟩,λb u q n _=>by rw[zV (hx b n)];exact n,λb u q _=>?_,
  λb xs q=>by rw[zV (hm b _ q λz=>z)];exact q,λb u xs q=>by rw[zV (hm b _ q λz=>z)];exact q,λb ps q=>⟨#[],by rw[zV (hm b _ q λz=>z),q];simp⟩⟩
 by_cases hbe:b=e
 · subst hbe;exact heo
 · exact⟨u,k b u hbe q⟩
end
def trk(h:Heap)(H:Hp):List Addr:=(List.range h.objs.size).filter λa=>(H a).isSome
def zgJ(h:Heap)(H:Hp):Heap:=PySem.W.hideAll h (trk h H)
theorem zla(h:Heap)(H:Hp):(zgJ h H).objs.size=h.objs.size:=PySem.W.hideAll_size _ _
theorem zmd(e:h.get? b=some o)(n:H b=none):(zgJ h H).get? b=some o:=
 PySem.W.hideAll_get _ e λhm=>by
  have q:(H b).isSome=true:=(List.mem_filter.mp hm).2
  rw[n]at q;simp at q
theorem znS(e:(zgJ h H).get? b=some o):h.get? b=some o/\H b=none:=by
 have e':h.get? b=some o:=PySem.W.of_hideAll (trk h H) e
 refine⟨e', ?_⟩
 cases q:H b with
 |none=>rfl
 |some x=>
  have hm:b ∈ trk h H:=List.mem_filter.mpr ⟨List.mem_range.mpr (zxE e'),by simp[q]⟩
  have z:(zgJ h H).get? b=none:=PySem.W.hideAll_none (trk h H) hm
  rw[z]at e;cases e
end L2
namespace L2
open PySem PySem.Spec PyProof.Rows
structure Mod(K:zC)(mg:Str->Option Value)(base:Heap):Prop where
 kin:K.In base
 glob:base.Ns mainGlobals mg
 blt:∃mb,base.Ns builtinsNs mb/\∀x:Str,x≠"__name__"->mb x=bootBuiltins x
 nolimit:base.NoLimit
structure Cx where
 prog:Program
 w:World
 K:zC
 mg:Str->Option Value
 base:Heap
 A:Around
 N:List Str
 s₀:Shared
 H₀:Hp
 env:Env
 outer:List Env
 stack:List Env
 ex:List Addr
 fn:Str->Bool
 calm:Bool
 pn:List (Addr×Obj)
 xe:Value->Shared->Prop
def frs(l:List Env):List Addr:=l.filterMap (·.frame)
abbrev Cx.fs(X:Cx):List Addr:=frs X.outer
def Vis(sc:Scope)(x:Str):Prop:=sc.names.lookup x=some .local\/sc.names.lookup x=some .cell\/sc.names.lookup x=some .free
def Loc(sc:Scope)(x:Str):Prop:=sc.names.lookup x=some .local\/sc.names.lookup x=some .cell
def Look(env:Env)(h:Heap)(m:Str->Option Value)(x:Str)(u:Value):Prop:=
 (env.kindOf x=some .local/\m x=some u)\/((env.kindOf x=some .cell\/env.kindOf x=some .free)/\∃c,env.cells.lookup x=some c/\h.IsCell c (some u))
structure Cx.Ok(X:Cx):Prop where
 mod:Mod X.K X.mg X.base
 kind:X.env.scope.kind = .function
 glob:X.env.globals=mainGlobals
 blt:X.env.builtins=builtinsNs
 above:X.s₀.heap.objs.size<=X.env.locals
 inj:∀x y c,X.env.cells.lookup x=some c->X.env.cells.lookup y=some c->x=y
 has:∀x,(X.env.kindOf x=some .cell\/X.env.kindOf x=some .free)->∃c,X.env.cells.lookup x=some c
 cab:∀x c,X.fn x=true->X.env.cells.lookup x=some c->X.s₀.heap.objs.size<=c
 hd:X.calm=true->X.A.handled=none
 frames:X.A.frames=some X.stack
 stk:X.stack=X.outer\/(X.stack=X.env::X.outer/\X.env.frame=some X.env.locals)
 exf:∀b ∈ X.ex,b≠X.env.locals/\∀x c,X.env.cells.lookup x=some c->c≠b
 bs:∀b o,X.base.get? b=some o->X.s₀.heap.get? b=some o/\X.H₀ b=none
 bsz:X.base.objs.size<=X.s₀.heap.objs.size
 noex:∀b o,X.base.get? b=some o->b ∉ X.ex
 exfs:∀b ∈ X.ex,b ∉ X.fs
 funs:X.s₀.heap.FunFrames X.base X.outer
 frf:∀b ∈ X.fs,X.H₀ b=none
structure Inv(X:Cx)(pins:List (Addr×Obj))(σ:List (Option V))(H:Hp)(s:Shared):Prop where
 ok:X.Ok
 os:s.os=X.s₀.os
 bare:AllBare s.gens
 base:Un X.fs X.ex X.H₀ H X.s₀.heap s.heap
 loc:∃m,s.heap.Ns X.env.locals m/\∀(i:Nat) (x:Str) (v:V),X.N[i]? = some x->σ[i]? = some (some v)->Vis X.env.scope x->∃u,RelV v u/\Look X.env s.heap m x u
 cell:∀x c,X.env.cells.lookup x=some c->∃v,s.heap.IsCell c v
 free:H X.env.locals=none
 freeC:∀x c,X.env.cells.lookup x=some c->H c=none
 pin:∀p ∈ X.pn++pins,s.heap.get? p.1=some p.2/\H p.1=none/\p.1≠X.env.locals/\p.1 ∉ X.fs/\∀v,p.2.data ≠ .cell v
 hok:HOk X.prog X.w H s.heap
 len:σ.length=X.N.length
section
variable{X:Cx}{pins:List (Addr×Obj)}{σ:List (Option V)}{H H':Hp}{s:Shared}{h':Heap}
theorem Cx.Ok.nofr(ok:X.Ok)(e:X.base.get? b=some o):b ∉ X.fs:=λhb=>by
 have:=(ok.funs.mem hb).1
 rw[e]at this;cases this
theorem Inv.bs(I:Inv X pins σ H s):∀b o,X.base.get? b=some o->s.heap.get? b=some o/\H b=none:=λb o e=>
 ⟨I.base.keep b o (I.ok.bs b o e).1 (I.ok.bs b o e).2 (I.ok.nofr e) (I.ok.noex b o e),I.base.free b o (I.ok.bs b o e).1 (I.ok.bs b o e).2 (I.ok.noex b o e)⟩
theorem Inv.bk(I:Inv X pins σ H s):∀b o,X.base.get? b=some o->s.heap.get? b=some o:=λb o e=>(I.bs b o e).1
theorem Inv.mod(I:Inv X pins σ H s):Mod X.K X.mg X.base:=I.ok.mod
theorem Inv.kIn(I:Inv X pins σ H s):X.K.In s.heap:=I.ok.mod.kin.keeps I.bk
theorem Inv.lt(I:Inv X pins σ H s):X.env.locals<s.heap.objs.size:=let⟨_,hn,_⟩:=I.loc;hn.lt
theorem Inv.sz(I:Inv X pins σ H s):X.s₀.heap.objs.size<=s.heap.objs.size:=zzL I.ok.above (Nat.le_of_lt I.lt)
theorem Inv.nofs(I:Inv X pins σ H s)(h:s.heap.objs.size<=a):a ∉ X.fs:=λhb=>by
 obtain⟨_,o,ho,_⟩:=I.ok.funs.mem hb
 exact absurd (zzH (zxE ho) (zzL I.sz h)) (Nat.lt_irrefl _)
theorem Inv.cne(I:Inv X pins σ H s):∀x c,X.env.cells.lookup x=some c->c≠X.env.locals:=λx c e z=>by
 obtain⟨v,o,ho,hd⟩:=I.cell x c e
 obtain⟨m,⟨o',es,ep,ho',hd',_⟩,_⟩:=I.loc
 rw[z,ho']at ho;cases ho;rw[hd']at hd;cases hd
theorem Inv.funs(I:Inv X pins σ H s):s.heap.FunFrames X.base X.outer:=by
 have all:∀(l:List Env),(∀b ∈ frs l,b ∈ X.fs)->X.s₀.heap.FunFrames X.base l->s.heap.FunFrames X.base l:=by
  intro l
  induction l with
  |nil=>intro _ _;trivial
  |cons env r ih=>
   intro hs hl
   obtain⟨hk,⟨L,o,hf,hn,ho,hd⟩,hr⟩:=hl
   have hL:L ∈ X.fs:=hs L (by unfold frs;rw[List.filterMap_cons,hf];exact zzC)
   obtain⟨sl,e⟩:=I.base.slot L o ho (I.ok.frf L hL) hL λz=>I.ok.exfs L z hL
   exact⟨hk,⟨L,_,hf,hn,e,hd⟩,ih (λb hb=>hs b (by unfold frs;rw[List.filterMap_cons,hf];exact zzA _ hb)) hr⟩
 exact all X.outer (λ_ hb=>hb) I.ok.funs
theorem Inv.stack(I:Inv X pins σ H s):s.heap.FunFrames X.base X.stack:=by
 rcases I.ok.stk with e|⟨e,hf⟩
 · rw[e];exact I.funs
 · rw[e]
   obtain⟨m,hn,_⟩:=I.loc
   refine .cons (by rw[I.ok.kind];decide) hf hn ?_ I.funs
   exact Heap.get?_none_of_le (zzL I.ok.bsz I.ok.above)
theorem Inv.stkSub(I:Inv X pins σ H s):∀b ∈ frs X.stack,b ∈ X.env.locals::X.fs:=λb hb=>by
 rcases I.ok.stk with e|⟨e,hf⟩
 · rw[e]at hb;exact zzA _ hb
 · rw[e]at hb
   unfold frs at hb
   rw[List.filterMap_cons,hf]at hb
   exact hb
theorem Inv.stkFree(I:Inv X pins σ H s):∀b ∈ frs X.stack,H b=none:=λb hb=>by
 rcases zI.mp (I.stkSub b hb)with e|hb
 · rw[e];exact I.free
 · obtain⟨_,o,ho,_⟩:=I.ok.funs.mem hb
   exact I.base.free b o ho (I.ok.frf b hb) λz=>I.ok.exfs b z hb
theorem Inv.step{g':Array GenState}{t':Nat}{d':Drawn}{ch:List Addr}(I:Inv X pins σ H s)
 (hch:∀b ∈ ch,(b ∈ X.ex\/X.s₀.heap.objs.size<=b)/\b≠X.env.locals/\(∀x c,X.env.cells.lookup x=some c->c≠b)/\∀p ∈ X.pn++pins,p.1≠b)
 (keep:∀b o,b≠X.env.locals->b ∉ X.fs->b ∉ ch->s.heap.get? b=some o->H b=none->h'.get? b=some o)
 (slot:∀b o,b≠X.env.locals->b ∈ X.fs->b ∉ ch->s.heap.get? b=some o->H b=none->∃sl,h'.get? b=some {o with slots:=sl}) (free:∀b o,b ∉ ch->s.heap.get? b=some o->H b=none->H' b=none)
 (there:∀b o,b ∉ ch->s.heap.get? b=some o->∃o',h'.get? b=some o')
 (tups:∀b xs,H b=some (.tup xs)->H' b=some (.tup xs)) (frzs:∀b o u,H b=some (.frz o u)->H' b=some (.frz o u)) (tbls:∀b ps,H b=some (.tbl ps)->∃more,H' b=some (.tbl (ps++more)))
 (ns:∀m,s.heap.Ns X.env.locals m->h'.Ns X.env.locals m) (hok:HOk X.prog X.w H' h') (hg:AllBare g'):
 Inv X pins σ H' {s with heap:=h',gens:=g',drawn:=d',toks:=t'}:=by
 have neL:∀b o,X.s₀.heap.get? b=some o->b≠X.env.locals:=λb o e=>zzN (zzH (zxE e) I.ok.above)
 have neC:∀b o,X.s₀.heap.get? b=some o->b ∉ X.ex->b ∉ ch:=λb o e hx hb=>by
  rcases(hch b hb).1 with z|z
  · exact hx z
  · exact absurd (zzH (zxE e) z) (Nat.lt_irrefl _)
 have cellK:∀x c,X.env.cells.lookup x=some c->∀v,s.heap.IsCell c v->h'.IsCell c v:=λx c e v ⟨o,ho,hd⟩=>by
  have nch:c ∉ ch:=λz=>(hch c z).2.2.1 x c e rfl
  by_cases hc:c ∈ X.fs
  · obtain⟨sl,q⟩:=slot c o (I.cne x c e) hc nch ho (I.freeC x c e)
    exact⟨_,q,hd⟩
  · exact⟨o,keep c o (I.cne x c e) hc nch ho (I.freeC x c e),hd⟩
 refine⟨I.ok,I.os,hg,⟨λb o e n hb hx=>?_,λb o e n hb hx=>?_,λb o e n hx=>?_,λb o e hx=>?_,λb xs e=>tups b xs (I.base.tups b xs e),λb o xs e=>frzs b o xs (I.base.frzs b o xs e),λb ps e=>?_⟩, ?_,λx c e=>?_, ?_,λx c e=>?_,λp hp=>?_,hok,I.len⟩
 · exact keep b o (neL b o e) hb (neC b o e hx) (I.base.keep b o e n hb hx) (I.base.free b o e n hx)
 · obtain⟨sl,e1⟩:=I.base.slot b o e n hb hx
   obtain⟨sl',e2⟩:=slot b _ (neL b o e) hb (neC b o e hx) e1 (I.base.free b o e n hx)
   exact⟨sl',e2⟩
 · obtain⟨o',e1⟩:=I.base.there b o e hx
   exact free b o' (neC b o e hx) e1 (I.base.free b o e n hx)
 · obtain⟨o',e1⟩:=I.base.there b o e hx
   exact there b o' (neC b o e hx) e1
 · obtain⟨m1,e1⟩:=I.base.tbls b ps e
   obtain⟨m2,e2⟩:=tbls b _ e1
   exact⟨m1++m2,by rw[e2,Array.append_assoc]⟩
 · obtain⟨m,hn,hl⟩:=I.loc
   refine⟨m,ns m hn,λi x v e1 e2 e3=>?_⟩
   obtain⟨u,r,l⟩:=hl i x v e1 e2 e3
   refine⟨u,r, ?_⟩
   rcases l with l|⟨k,c,e,z⟩
   · exact .inl l
   · exact .inr ⟨k,c,e,cellK x c e _ z⟩
 · obtain⟨v,z⟩:=I.cell x c e
   exact⟨v,cellK x c e v z⟩
 · obtain⟨m,⟨o,_,_,ho,_⟩,_⟩:=I.loc
   exact free _ o (λz=>(hch _ z).2.1 rfl) ho I.free
 · obtain⟨v,o,ho,hd⟩:=I.cell x c e
   exact free c o (λz=>(hch c z).2.2.1 x c e rfl) ho (I.freeC x c e)
 · obtain⟨e,n,ne,nf,d⟩:=I.pin p hp
   have nch:p.1 ∉ ch:=λz=>(hch p.1 z).2.2.2 p hp rfl
   exact⟨keep p.1 p.2 ne nf nch e n,free p.1 p.2 nch e n,ne,nf,d⟩
theorem Inv.un{t':Nat}(I:Inv X pins σ H s)(u:Un X.fs [] H H' s.heap h')(hok:HOk X.prog X.w H' h'):Inv X pins σ H' {s with heap:=h',toks:=t'}:=by
 obtain⟨m,⟨o,es,ep,ho,r⟩,_⟩:=id I.loc
 obtain⟨sl,hL⟩:=u.any ho I.free (by simp)
 exact I.step (g':=s.gens) (d':=s.drawn) (ch:=[]) (λ_ z=>nomatch z) (λb o _ hb _ e n=>u.keep b o e n hb (by simp)) (λb o _ hb _ e n=>u.slot b o e n hb (by simp)) (λb o _ e n=>u.free b o e n (by simp)) (λb o _ e=>u.there b o e (by simp)) u.tups u.frzs u.tbls (λm' hm=>by
  obtain⟨o',es',ep',ho',r'⟩:=hm
  rw[ho]at ho';cases ho'
  exact⟨_,es',ep',hL,r'⟩) hok I.bare
theorem Inv.call{g':Array GenState}{t':Nat}{d':Drawn}{ch:List Addr}(I:Inv X pins σ H s)(u:Un (frs X.stack) ch H H' s.heap h')(hok:HOk X.prog X.w H' h')(hg:AllBare g')
 (hch:∀b ∈ ch,(b ∈ X.ex\/X.s₀.heap.objs.size<=b)/\b≠X.env.locals/\(∀x c,X.env.cells.lookup x=some c->c≠b)/\∀p ∈ X.pn++pins,p.1≠b):
 Inv X pins σ H' {s with heap:=h',gens:=g',drawn:=d',toks:=t'}:=by
 obtain⟨m,⟨o,es,ep,ho,r⟩,_⟩:=id I.loc
 obtain⟨sl,hL⟩:=u.any ho I.free λz=>(hch _ z).2.1 rfl
 exact I.step (ch:=ch) hch (λb o hL hb hc e n=>u.keep b o e n (λz=>(zI.mp (I.stkSub b z)).elim hL hb) hc) (λb o _ _ hc e n=>u.any e n hc) (λb o hc e n=>u.free b o e n hc) (λb o hc e=>u.there b o e hc) u.tups u.frzs u.tbls (λm' hm=>by
  obtain⟨o',es',ep',ho',r'⟩:=hm
  rw[ho]at ho';cases ho'
  exact⟨_,es',ep',hL,r'⟩) hok hg
theorem Inv.turned{t':Nat}{it:Addr}(I:Inv X pins σ H s)(k:∀b o,b≠it->s.heap.get? b=some o->h'.get? b=some o)(hn:H it=none)(hL:it≠X.env.locals)
 (h1:it ∈ X.ex\/X.s₀.heap.objs.size<=it) (h2:∀x c,X.env.cells.lookup x=some c->c≠it) (h3:∀p ∈ X.pn++pins,p.1≠it):Inv X pins σ H {s with heap:=h',toks:=t'}:=by
 have nit:∀b u,H b=some u->b≠it:=λb u e z=>by rw[z,hn]at e;cases e
 refine I.step (g':=s.gens) (d':=s.drawn) (ch:=[it]) (λb hb=>?_) (λb o _ _ hc e _=>k b o (λz=>hc (by simp[z])) e) (λb o _ _ hc e _=>⟨o.slots,k b o (λz=>hc (by simp[z])) e⟩) (λ_ _ _ _ n=>n)
  (λb o hc e=>⟨o,k b o (λz=>hc (by simp[z])) e⟩) (λ_ _ e=>e) (λ_ _ _ e=>e) (λb ps e=>⟨#[],by rw[e];simp⟩) (λm hm=>?_) (λb u e=>?_) I.bare
 · have e:b=it:=by simpa using hb
   subst e
   exact⟨h1,hL,h2,h3⟩
 · obtain⟨o,es,ep,ho,r⟩:=hm
   exact⟨o,es,ep,k _ o (Ne.symm hL) ho,r⟩
 · refine(I.hok b u e).stay (λc v hc q=>k c v ?_ q) (λ_ q=>q) λ_ _ q=>q
   rcases hc with z|z
   · rw[z];exact nit b u e
   · exact nit c _ z
theorem Inv.tok(I:Inv X pins σ H s)(t:Nat):Inv X pins σ H {s with toks:=t}:=I.un (h':=s.heap) (t':=t) Un.refl I.hok
theorem Inv.kept(I:Inv X pins σ H s)(k:∀b u,s.heap.get? b=some u->h'.get? b=some u):Inv X pins σ H {s with heap:=h',toks:=t'}:=I.un (Un.kept k) (I.hok.kept k)
theorem Inv.laid(I:Inv X pins σ H s)(k:∀b u,s.heap.get? b=some u->h'.get? b=some u)(hp:s.heap.objs.size<=a)(new:vm X.prog X.w (upd H a o) h' a o):
 Inv X pins σ (upd H a o) {s with heap:=h',toks:=t'}:=I.un (Un.laid k hp (I.hok.fresh hp)) (I.hok.laid k hp new)
theorem Inv.write(I:Inv X pins σ H s)(mu:Mut (H x))(he:e=x\/H e=some (.own x))(k:∀b u,b≠e->s.heap.get? b=some u->h'.get? b=some u)(heo:∃u,h'.get? e=some u)
 (new:vm X.prog X.w (upd H x o) h' x o):Inv X pins σ (upd H x o) {s with heap:=h',toks:=t'}:=I.un (Un.write mu he k heo) (I.hok.write mu he k heo new)
theorem Inv.weak(I:Inv X pins σ H s)(hl:σ'.length=σ.length)(w:∀(i:Nat) v,σ'[i]? = some (some v)->σ[i]? = some (some v)):Inv X pins σ' H s:=
 ⟨I.ok,I.os,I.bare,I.base,let⟨m,hn,hl'⟩:=I.loc;⟨m,hn,λi x v e1 e2 e3=>hl' i x v e1 (w i v e2) e3⟩,I.cell,I.free,I.freeC,I.pin,I.hok,hl.trans I.len⟩
theorem Inv.pins_of(I:Inv X pins σ H s)(h:∀p ∈ pins',s.heap.get? p.1=some p.2/\H p.1=none/\p.1≠X.env.locals/\p.1 ∉ X.fs/\∀v,p.2.data ≠ .cell v):Inv X pins' σ H s:=
 ⟨I.ok,I.os,I.bare,I.base,I.loc,I.cell,I.free,I.freeC,λp hp=>(zzJ.mp hp).elim (λz=>I.pin p (zzM _ z)) (h p),I.hok,I.len⟩
theorem zht{N:List Str}(hN:N.Nodup){i j:Nat}{x:Str}(a:N[i]? = some x)(b:N[j]? = some x):i=j:=by
 obtain⟨h1,e1⟩:=zzD.mp a
 obtain⟨h2,e2⟩:=zzD.mp b
 exact(List.getElem_inj hN).mp (e1.trans e2.symm)
theorem zfQ{M:Model}{A:Around}{E:Value->Shared->Prop}{i:Nat}{x:Str}{v:V}{u:Value}{Q:Unit->Shared->Prop}(I:Inv X pins σ H s)(hN:X.N.Nodup)(hi:X.N[i]? = some x)(hx:Loc X.env.scope x)(r:RelV v u)
 (h:∀s',Inv X pins (σ.set i (some v)) H s'->(∃a,Heap.SameBut a s.heap s'.heap/\(a=X.env.locals\/X.env.cells.lookup x=some a))->Q () s') (hf:X.fn x=true\/X.env.scope.names.lookup x=some .local:=by first|exact .inl rfl|exact .inr rfl|assumption):wpAny M A (storeName X.env x u) Q E s:=by
 obtain⟨m,hn,hl⟩:=id I.loc
 have hcls:(X.env.scope.kind == .class||(X.env.scope.kind == .module&&X.env.locals != X.env.globals))=false:=by rw[I.ok.kind];rfl
 have hiσ:i<σ.length:=by rw[I.len];exact(zzD.mp hi).1
 have cne:=I.cne
 have tracked:∀{a:Addr}{h':Heap},(∃o,s.heap.get? a=some o/\H a=none)->Heap.SameBut a s.heap h'->HOk X.prog X.w H h':=λ{a h'} ha hs b ob e=>by
  obtain⟨_,_,hfree⟩:=ha
  refine(I.hok b ob e).stay (λc w' hc q=>(hs.2 c ?_).trans q) (λ_ q=>q) λ_ _ q=>q
  rintro rfl
  rcases hc with rfl|hc
  · rw[hfree]at e;cases e
  · rw[hfree]at hc;cases hc
 rcases hx with hk|hk
 · refine wpAny_storeName_local hk hn (λh' hn' hs=>?_) hcls
   obtain⟨oL,_,_,hoL,_⟩:=id hn
   refine h _ ⟨I.ok,I.os,I.bare,⟨λb o e n hb hx=>?_,λb o e n hb hx=>?_,I.base.free,λb o e hx=>?_,I.base.tups,I.base.frzs,I.base.tbls⟩,⟨_,hn',λj y v' e1 e2 e3=>?_⟩,λy c e=>?_,I.free,I.freeC,λp hp=>?_,tracked ⟨oL,hoL,I.free⟩ hs,by simpa using I.len⟩ ⟨_,hs,.inl rfl⟩
   · exact(hs.2 b (zzN (zzH (zxE e) I.ok.above))).trans (I.base.keep b o e n hb hx)
   · obtain⟨sl,e1⟩:=I.base.slot b o e n hb hx
     exact⟨sl,(hs.2 b (zzN (zzH (zxE e) I.ok.above))).trans e1⟩
   · obtain⟨o',e1⟩:=I.base.there b o e hx
     exact⟨o',(hs.2 b (zzN (zzH (zxE e) I.ok.above))).trans e1⟩
   · by_cases hj:j=i
     · subst hj
       rw[hi]at e1;cases e1
       rw[zyH hiσ]at e2
       cases e2
       exact⟨u,r,.inl ⟨hk,by simp⟩⟩
     · rw[zzV (Ne.symm hj)]at e2
       obtain⟨u',r',q⟩:=hl j y v' e1 e2 e3
       refine⟨u',r', ?_⟩
       rcases q with⟨k,e⟩|⟨k,c,e,z⟩
       · refine .inl ⟨k, ?_⟩
         have:y≠x:=λe=>hj (zht hN e1 (e ▸ hi))
         simp[this,e]
       · exact .inr ⟨k,c,e,z.sameBut hs (cne y c e)⟩
   · obtain⟨w',z⟩:=I.cell y c e
     exact⟨w',z.sameBut hs (cne y c e)⟩
   · obtain⟨e,n,ne,nf,d⟩:=I.pin p hp
     exact⟨(hs.2 p.1 ne).trans e,n,ne,nf,d⟩
 · have hfn:X.fn x=true:=by
    rcases hf with z|z
    · exact z
    · rw[z]at hk;cases hk
   obtain⟨c,hc⟩:=I.ok.has x (.inl hk)
   obtain⟨w',z⟩:=I.cell x c hc
   refine wpAny_storeName_cell I.ok.kind hk hc z (λh' hc' hs=>?_)
   obtain⟨oc,hoc,hocd⟩:=id z
   refine h {s with heap:=h'} ⟨I.ok,I.os,I.bare,⟨λb o e n hb hx=>?_,λb o e n hb hx=>?_,I.base.free,λb o e hx=>?_,I.base.tups,I.base.frzs,I.base.tbls⟩,⟨m,hn.sameBut hs (Ne.symm (cne x c hc)),λj y v' e1 e2 e3=>?_⟩,λy c' e=>?_,I.free,I.freeC,λp hp=>?_,tracked ⟨oc,hoc,I.freeC x c hc⟩ hs,by simpa using I.len⟩ ⟨c,hs,.inr hc⟩
   · exact(hs.2 b (zzN (zzH (zxE e) (I.ok.cab x c hfn hc)))).trans (I.base.keep b o e n hb hx)
   · obtain⟨sl,e1⟩:=I.base.slot b o e n hb hx
     exact⟨sl,(hs.2 b (zzN (zzH (zxE e) (I.ok.cab x c hfn hc)))).trans e1⟩
   · obtain⟨o',e1⟩:=I.base.there b o e hx
     exact⟨o',(hs.2 b (zzN (zzH (zxE e) (I.ok.cab x c hfn hc)))).trans e1⟩
   · by_cases hj:j=i
     · subst hj
       rw[hi]at e1;cases e1
       rw[zyH hiσ]at e2
       cases e2
       exact⟨u,r,.inr ⟨.inl hk,c,hc,hc'⟩⟩
     · rw[zzV (Ne.symm hj)]at e2
       obtain⟨u',r',q⟩:=hl j y v' e1 e2 e3
       refine⟨u',r', ?_⟩
       rcases q with q|⟨k,c',e,z'⟩
       · exact .inl q
       · refine .inr ⟨k,c',e,z'.sameBut hs ?_⟩
         rintro rfl
         exact hj (zht hN e1 (I.ok.inj _ _ _ e hc ▸ hi))
   · by_cases hcc:c'=c
     · subst hcc;exact⟨_,hc'⟩
     · obtain⟨w2,z2⟩:=I.cell y c' e
       exact⟨w2,z2.sameBut hs hcc⟩
   · obtain⟨e,n,ne,nf,d⟩:=I.pin p hp
     refine⟨(hs.2 p.1 ?_).trans e,n,ne,nf,d⟩
     intro q
     rw[q,hoc]at e
     have q':oc=p.2:=zzW e
     exact d w' (by rw[<-q'];exact hocd)
theorem Vq(I:Inv X pins σ H s)(hN:X.N.Nodup)(hi:X.N[i]? = some x)(hx:Loc X.env.scope x)(r:RelV v u)
 (h:∀s',Inv X pins (σ.set i (some v)) H s'->Q () s') (hf:X.fn x=true\/X.env.scope.names.lookup x=some .local:=by first|exact .inl rfl|exact .inr rfl|assumption):wpAny M A (storeName X.env x u) Q E s:=
 zfQ I hN hi hx r (λs' I' _=>h s' I') hf
theorem Inv.call'(I:Inv X pins σ H s)(ho:s'.os=s.os)(u:Un (frs X.stack) ch H H' s.heap s'.heap)(hok:HOk X.prog X.w H' s'.heap)(hg:AllBare s'.gens)
 (hch:∀b ∈ ch,(b ∈ X.ex\/X.s₀.heap.objs.size<=b)/\b≠X.env.locals/\(∀x c,X.env.cells.lookup x=some c->c≠b)/\∀p ∈ X.pn++pins,p.1≠b):Inv X pins σ H' s':=by
 obtain⟨h',g',d',t',o'⟩:=s'
 have e:o'=s.os:=ho
 subst e
 exact I.call (g':=g') (t':=t') (d':=d') u hok hg hch
end
abbrev XK:=Value->Option Addr->Hp->Prop
abbrev St:=List (Option V)
abbrev VK:=V->Hp->Prop
abbrev TE:=St->Hp->VK->Prop
abbrev TT:=St->Hp->(Bool->Hp->Prop)->Prop
abbrev TA:=St->Hp->(List V->Hp->Prop)->Prop
structure Ends where
 nx:St->Hp->Prop
 rt:VK
 bk:St->Hp->Prop:=λ_ _=>False
 ct:St->Hp->Prop:=λ_ _=>False
abbrev TS:=Ends->St->Hp->Prop
def EP(X:Cx)(pins:List (Addr×Obj))(σ:St)(Q:VK)(u:Value)(s':Shared):Prop:=∃v H',Inv X pins σ H' s'/\RelV v u/\Q v H'
def TP(X:Cx)(pins:List (Addr×Obj))(σ:St)(Q:Bool->Hp->Prop)(b:Bool)(s':Shared):Prop:=∃H',Inv X pins σ H' s'/\Q b H'
def AP(X:Cx)(pins:List (Addr×Obj))(σ:St)(Q:List V->Hp->Prop)(us:List Value)(s':Shared):Prop:=∃vs H',Inv X pins σ H' s'/\Vals vs us/\Q vs H'
def SP(X:Cx)(pins:List (Addr×Obj))(D:Ends)(f:Flow)(s':Shared):Prop:=
 match f with
 | .next=>∃σ' H',Inv X pins σ' H' s'/\D.nx σ' H'
 | .brk=>∃σ' H',Inv X pins σ' H' s'/\D.bk σ' H'
 | .cont=>∃σ' H',Inv X pins σ' H' s'/\D.ct σ' H'
 | .ret u=>∃v σ' H',Inv X pins σ' H' s'/\RelV v u/\D.rt v H'
def PE(X:Cx)(e:Expr)(t:TE):Prop:=
 ∀(pins:List (Addr×Obj)) (s:Shared) (σ:St) (H:Hp) (Q:VK),Inv X pins σ H s->t σ H Q->wpAny (model X.prog X.w) X.A (eval e X.env) (EP X pins σ Q) X.xe s
def PT(X:Cx)(e:Expr)(t:TT):Prop:=
 ∀(pins:List (Addr×Obj)) (s:Shared) (σ:St) (H:Hp) (Q:Bool->Hp->Prop),Inv X pins σ H s->t σ H Q->wpAny (model X.prog X.w) X.A (isTrue e X.env (eval e X.env)) (TP X pins σ Q) X.xe s
def PW(X:Cx)(e:Expr)(t:TT):Prop:=
 ∀(whole:Sem Value) (pins:List (Addr×Obj)) (s:Shared) (σ:St) (H:Hp) (Q:Bool->Hp->Prop),Inv X pins σ H s->t σ H Q->wpAny (model X.prog X.w) X.A (isTrue e X.env whole) (TP X pins σ Q) X.xe s
theorem PW.pt(h:PW X e t):PT X e t:=h _
def PA(X:Cx)(es:List Expr)(t:TA):Prop:=
 ∀(pos:Pos) (pins:List (Addr×Obj)) (s:Shared) (σ:St) (H:Hp) (Q:List V->Hp->Prop),Inv X pins σ H s->t σ H Q->wpAny (model X.prog X.w) X.A (spliced (backTo pos (starEach es X.env))) (AP X pins σ Q) X.xe s
def PS(X:Cx)(st:Stmt)(t:TS):Prop:=
 ∀(pins:List (Addr×Obj)) (s:Shared) (σ:St) (H:Hp) (D:Ends),Inv X pins σ H s->t D σ H->wpAny (model X.prog X.w) X.A (exec st X.env) (SP X pins D) X.xe s
def PSs(X:Cx)(st:List Stmt)(t:TS):Prop:=
 ∀(pins:List (Addr×Obj)) (s:Shared) (σ:St) (H:Hp) (D:Ends),Inv X pins σ H s->t D σ H->wpAny (model X.prog X.w) X.A (execs st X.env) (SP X pins D) X.xe s
theorem thn(h:wpAny M A t Q E s)(hQ:∀a s,Q a s->Q' a s):wpAny M A t Q' E s:=zxJ h hQ λ_ _ x=>x
end L2
namespace L2
open PySem PySem.Spec PyProof.Rows
section
variable{X:Cx}
def Xy(i:Nat):TE:=λσ H Q=>∃v,σ[i]? = some (some v)/\Q v H
def tC(v:V):TE:=λ_ H Q=>Q v H
theorem zlQ(hN:X.N[i]? = some x)(hv:Vis X.env.scope x)(hd:(x==("__debug__":Str))=false:=by decide)(hcd:(x==("__classdict__":Str))=false:=by decide):PE X (.Name x pos) (Xy i):=by
 intro pins s σ H Q I h
 obtain⟨v,e,h⟩:=h
 obtain⟨m,hn,hl⟩:=I.loc
 obtain⟨u,r,l⟩:=hl i x v hN e hv
 have fin:EP X pins σ Q u s:=⟨v,H,I,r,h⟩
 rcases l with⟨hk,hm⟩|⟨hk,c,hc,hcell⟩
 · exact wpAny_Name (wpAny_loadName_local I.ok.kind hk hn hm fin) hd
 · rcases hk with hk|hk
   · exact wpAny_Name (wpAny_loadName_cell I.ok.kind hk hc hcell fin) hd
   · exact wpAny_Name (wpAny_loadName_free I.ok.kind hk hc hcell fin hcd) hd
theorem zfc:PE X (.Constant (.int i) j pos) (tC (.int i)):=λ_ _ _ H _ I h=>wpAny_Constant_int ⟨.int i,H,I.tok _,⟨_,rfl⟩,h⟩
theorem zrR:PE X (.Constant (.bool b) j pos) (tC (.bl b)):=λ_ _ _ H _ I h=>Constant_bool ⟨.bl b,H,I,rfl,h⟩
theorem zrk:PE X (.Constant .none j pos) (tC .non):=λ_ _ _ H _ I h=>Constant_none ⟨.non,H,I,rfl,h⟩
theorem zpQ:PE X (.Constant (.str x) j pos) (tC (.str x)):=λ_ _ _ H _ I h=>Calls.Constant_str ⟨.str x,H,I.tok _,⟨_,rfl⟩,h⟩
def Gl(X:Cx)(x:Str):Prop:=X.env.kindOf x=some .globalImplicit
theorem zoZ(I:Inv X pins σ H s)(hg:Gl X x)(hm:X.mg x=some u)(h:Q u s)
 (hd:(x==("__debug__":Str))=false:=by decide):wpAny (model X.prog X.w) X.A (eval (.Name x pos) X.env) Q E s:=
 Calls.Name_function_global I.ok.kind hg (Calls.loadGlobal_global (by rw[I.ok.glob];exact I.mod.glob.keeps I.bk) hm h) hd
theorem Vy(I:Inv X pins σ H s)(hg:Gl X x)(hm:X.mg x=none)(hv:bootBuiltins x=some u)(h:Q u s)
 (hn:x≠"__name__":=by decide) (hd:(x==("__debug__":Str))=false:=by decide):wpAny (model X.prog X.w) X.A (eval (.Name x pos) X.env) Q E s:=by
 obtain⟨mb,h1,h2⟩:=I.mod.blt
 exact Calls.Name_function_global I.ok.kind hg (Calls.loadGlobal_builtin (by rw[I.ok.glob];exact I.mod.glob.keeps I.bk) hm (by rw[I.ok.blt];exact h1.keeps I.bk) ((h2 x hn).trans hv) h) hd
theorem znW(hg:Gl X x)(hm:X.mg x=none)(hv:bootBuiltins x=some u)(r:RelV v u)(hn:x≠"__name__":=by decide)(hd:(x==("__debug__":Str))=false:=by decide):PE X (.Name x pos) (tC v):=
 λ_ _ _ H _ I h=>Vy I hg hm hv ⟨v,H,I,r,h⟩ hn hd
variable{a b:Expr}{ta tb:TE}{pos:Pos}
variable{tA tB':TT}{rest:List Expr}
def ztC(t u:TT):TT:=λσ H Q=>t σ H λc H1=>if c=true then u σ H1 Q else Q false H1
def tOr(t u:TT):TT:=λσ H Q=>t σ H λc H1=>if c=true then Q true H1 else u σ H1 Q
def zsP(t:TT):TT:=λσ H Q=>t σ H λc H1=>Q (!c) H1
theorem znQ(ha:PT X a tA):PW X (.BoolOp .And [a] pos) tA:=by
 intro wh pins s σ H Q I h
 refine isTrue_and (thn (ha pins s σ H Q I h) λc s1 e=>?_)
 cases c with
 |true=>exact isTrue_and_nil e
 |false=>exact e
theorem zqf(ha:PT X a tA):PW X (.BoolOp .Or [a] pos) tA:=by
 intro wh pins s σ H Q I h
 refine isTrue_or (thn (ha pins s σ H Q I h) λc s1 e=>?_)
 cases c with
 |false=>exact isTrue_or_nil e
 |true=>exact e
theorem zpH(ha:PT X a tA)(hb:PW X (.BoolOp .And (b::rest) pos) tB'):PW X (.BoolOp .And (a::b::rest) pos) (ztC tA tB'):=by
 intro wh pins s σ H Q I h
 refine isTrue_and (thn (ha pins s σ H _ I h) λc s1 ⟨H1,I1,q1⟩=>?_)
 cases c with
 |true=>exact hb wh pins s1 σ H1 Q I1 q1
 |false=>exact⟨H1,I1,q1⟩
theorem zrK(ha:PT X a tA)(hb:PW X (.BoolOp .Or (b::rest) pos) tB'):PW X (.BoolOp .Or (a::b::rest) pos) (tOr tA tB'):=by
 intro wh pins s σ H Q I h
 refine isTrue_or (thn (ha pins s σ H _ I h) λc s1 ⟨H1,I1,q1⟩=>?_)
 cases c with
 |true=>exact⟨H1,I1,q1⟩
 |false=>exact hb wh pins s1 σ H1 Q I1 q1
theorem zrl(ha:PT X a tA):PT X (.UnaryOp .Not a pos) (zsP tA):=by
 intro pins s σ H Q I h
 exact isTrue_not (ha pins s σ H (λc H1=>Q (!c) H1) I h)
end
end L2
namespace L2
open PySem PySem.Spec PyProof.Rows
def SqL(K:zC)(H:Hp)(a:Addr)(xs:List V):Prop:=
 Rd H a (.lst xs) \/
  ∃(o:Obj) (its:Array Value) (n:Nat),K.lookup a=some o/\o.cls = .type "list"/\o.dict=none/\o.data = .seq its n/\its.size<=sizeLine/\Vals xs its.toList
def RdL(K:zC)(H:Hp)(a:Addr)(xs:List V):Prop:=
 Rd H a (.lst xs)\/∃(its:Array Value) (n:Nat),K.lookup a=some {cls:=.type "list",data:=.seq its n}/\its.size<=sizeLine/\Vals xs its.toList
def SqT(K:zC)(H:Hp)(a:Addr)(xs:List V):Prop:=
 Rd H a (.tup xs) \/
  ∃(o:Obj) (its:Array Value) (n:Nat),K.lookup a=some o/\o.cls = .type "tuple"/\o.data = .seq its n/\its.size<=sizeLine/\Vals xs its.toList
def zth:Value->Option V
 | .none=>some .non
 | .bool b=>some (.bl b)
 | .int i _=>some (.int i)
 | .str x _=>some (.str x)
 | .bytes b _=>some (.byt b)
 | .float b _=>some (.flt b)
 | .ref a=>some (.ref a)
 | .type n=>some (.ty n)
 |_=>none
theorem RelV.abs(r:RelV x u):zth u=some x:=by
 cases x with
 |non=>cases r;rfl
 |bl _=>cases r;rfl
 |int _=>obtain⟨t,rfl⟩:=r;rfl
 |str _=>obtain⟨t,rfl⟩:=r;rfl
 |byt _=>obtain⟨t,rfl⟩:=r;rfl
 |flt _=>obtain⟨t,rfl⟩:=r;rfl
 |ref _=>cases r;rfl
 |ty _=>cases r;rfl
theorem RelV.inj(r:RelV x u)(q:RelV y u):x=y:=zzW (r.abs.symm.trans q.abs)
theorem Vals.inj:∀{xs ys:List V}{us:List Value},Vals xs us->Vals ys us->xs=ys
 |_,_,_,.nil,.nil=>rfl
 |_,_,_,.cons r t,.cons r' t'=>by rw[r.inj r',Vals.inj t t']
section
variable{X:Cx}{pins:List (Addr×Obj)}{σ:St}{H:Hp}{s:Shared}{a:Addr}{xs ys:List V}
theorem Inv.list(I:Inv X pins σ H s)(h:SqL X.K H a xs):∃its:List Value,Vals xs its/\PlainL s.heap a its.toArray/\xs.length<=sizeLine:=by
 rcases h with h|⟨o,its,n,hk,hc,hd,hs,hz,r⟩
 · obtain⟨z,its,n,r,e⟩:=h.ok I.hok
   exact⟨its,r,⟨_,n,e,rfl,rfl,rfl⟩,z⟩
 · refine⟨its.toList,r,⟨o,n,I.kIn a o hk,hc,hd,by simpa using hs⟩, ?_⟩
   have e:=r.length
   simp only[zyQ]at e
   omega
theorem Inv.tuple(I:Inv X pins σ H s)(h:SqT X.K H a xs):∃its:List Value,Vals xs its/\IsTup s.heap a its.toArray/\xs.length<=sizeLine:=by
 rcases h with h|⟨o,its,n,hk,hc,hs,hz,r⟩
 · obtain⟨z,its,r,p⟩:=h.ok I.hok
   exact⟨its,r,p,z⟩
 · refine⟨its.toList,r,⟨o,I.kIn a o hk,hc,n,by simpa using hs⟩, ?_⟩
   have e:=r.length
   simp only[zyQ]at e
   omega
theorem Inv.list_inj(I:Inv X pins σ H s)(h:SqL X.K H a xs)(h':SqL X.K H a ys):xs=ys:=by
 obtain⟨its,r,⟨o,n,e,_,_,d⟩,_⟩:=I.list h
 obtain⟨its',r',⟨o',n',e',_,_,d'⟩,_⟩:=I.list h'
 rw[e]at e';cases e'
 rw[d]at d'
 injection d' with d1 _
 have:its=its':=by simpa using congrArg Array.toList d1
 subst this
 exact r.inj r'
theorem Inv.tuple_inj(I:Inv X pins σ H s)(h:SqT X.K H a xs)(h':SqT X.K H a ys):xs=ys:=by
 obtain⟨its,r,⟨o,e,_,n,d⟩,_⟩:=I.tuple h
 obtain⟨its',r',⟨o',e',_,n',d'⟩,_⟩:=I.tuple h'
 rw[e]at e';cases e'
 rw[d]at d'
 injection d' with d1 _
 have:its=its':=by simpa using congrArg Array.toList d1
 subst this
 exact r.inj r'
end
abbrev Cx.wish(X:Cx)(E:Value->Shared->Prop):Cx:={X with xe:=E}
abbrev Cx.nox(X:Cx):Cx:=X.wish λ_ _=>False
theorem Cx.Ok.wish{X:Cx}(ok:X.Ok)(E:Value->Shared->Prop):(X.wish E).Ok:=
 ⟨ok.mod,ok.kind,ok.glob,ok.blt,ok.above,ok.inj,ok.has,ok.cab,ok.hd,ok.frames,ok.stk,ok.exf,ok.bs,ok.bsz,ok.noex,ok.exfs,ok.funs,ok.frf⟩
theorem Cx.Ok.unwish{X:Cx}{E:Value->Shared->Prop}(ok:(X.wish E).Ok):X.Ok:=
 ⟨ok.mod,ok.kind,ok.glob,ok.blt,ok.above,ok.inj,ok.has,ok.cab,ok.hd,ok.frames,ok.stk,ok.exf,ok.bs,ok.bsz,ok.noex,ok.exfs,ok.funs,ok.frf⟩
section
variable{X:Cx}{pins:List (Addr×Obj)}{σ:St}{H:Hp}{s:Shared}{E:Value->Shared->Prop}
theorem Inv.wish(I:Inv X pins σ H s)(E:Value->Shared->Prop):Inv (X.wish E) pins σ H s:=⟨I.ok.wish E,I.os,I.bare,I.base,I.loc,I.cell,I.free,I.freeC,I.pin,I.hok,I.len⟩
theorem Inv.unwish(I:Inv (X.wish E) pins σ H s):Inv X pins σ H s:=⟨I.ok.unwish,I.os,I.bare,I.base,I.loc,I.cell,I.free,I.freeC,I.pin,I.hok,I.len⟩
theorem SP.unwish(h:SP (X.wish E) pins D f s'):SP X pins D f s':=by
 cases f with
 |next=>obtain⟨σ',H',I,q⟩:=h;exact⟨σ',H',I.unwish,q⟩
 |brk=>obtain⟨σ',H',I,q⟩:=h;exact⟨σ',H',I.unwish,q⟩
 |cont=>obtain⟨σ',H',I,q⟩:=h;exact⟨σ',H',I.unwish,q⟩
 |ret u=>obtain⟨v,σ',H',I,r,q⟩:=h;exact⟨v,σ',H',I.unwish,r,q⟩
theorem PSs.nox{st:List Stmt}{t:TS}(h:PSs X.nox st t):PSs X st t:=λpins s σ H D I hw=>
 zxJ (h pins s σ H D (I.wish _) hw) (λ_ _ q=>q.unwish) λ_ _ z=>False.elim z
end
section
variable{X:Cx}{st:Stmt}{rest:List Stmt}{t u:TS}{e:Expr}{te:TE}{pos:Pos}
def zsB:TS:=λD σ H=>D.nx σ H
def ztl(t u:TS):TS:=λD σ H=>t {D with nx:=u D} σ H
theorem zow:PSs X [] zsB:=λ_ _ σ H _ I h=>wpAny_execs_nil ⟨σ,H,I,h⟩
theorem ziB(h1:PS X st t)(h2:PSs X rest u):PSs X (st::rest) (ztl t u):=by
 intro pins s σ H D I h
 refine wpAny_execs_cons (thn (h1 pins s σ H {D with nx:=u D} I h) λf s1 q=>?_)
 cases f with
 |next=>
  obtain⟨σ',H',I',q⟩:=q
  exact h2 pins s1 σ' H' D I' q
 |ret v=>exact q
 |brk=>exact q
 |cont=>exact q
theorem zkk(h1:PS X st t):PSs X [st] t:=by
 intro pins s σ H D I h
 refine wpAny_execs_cons (thn (h1 pins s σ H D I h) λf s1 q=>?_)
 cases f with
 |next=>exact wpAny_execs_nil q
 |ret v=>exact q
 |brk=>exact q
 |cont=>exact q
theorem Inv.quiet(I:Inv X pins σ H s):interactive X.env=false:=by simp[interactive,I.ok.kind]
def zsj(te:TE):TS:=λD σ H=>te σ H λ_ H1=>D.nx σ H1
theorem zjX(he:PE X e te)(hs:swapsWith e none pos.line X.env=pure false:=by rfl):PS X (.Expr e pos) (zsj te):=by
 intro pins s σ H D I h
 exact wpAny_Expr_any (thn (he pins s σ H _ I h) λv s1 ⟨x,H1,I1,r1,q1⟩=>⟨σ,H1,I1,q1⟩) I.quiet hs
def ztf(te:TE):TS:=λD σ H=>te σ H D.rt
theorem zqD(he:PE X e te):PS X (.Return (some e) pos) (ztf te):=by
 intro pins s σ H D I h
 exact wpAny_Return_some (thn (he pins s σ H _ I h) λv s1 ⟨x,H1,I1,r1,q1⟩=>⟨x,σ,H1,I1,r1,q1⟩)
def zsK(c:TT)(t u:TS):TS:=λD σ H=>c σ H λb H1=>if b=true then t D σ H1 else u D σ H1
theorem zrS(hc:PT X c tc)(ha:PSs X a t)(hb:PSs X b u):PS X (.If c a b pos) (zsK tc t u):=by
 intro pins s σ H D I h
 refine wpAny_If (thn (hc pins s σ H _ I h) λd s1 ⟨H1,I1,q1⟩=>?_)
 cases d with
 |true=>exact ha pins s1 σ H1 D I1 q1
 |false=>exact hb pins s1 σ H1 D I1 q1
end
abbrev TG:=V->St->Hp->(St->Hp->Prop)->Prop
abbrev TGs:=List V->St->Hp->(St->Hp->Prop)->Prop
def PG(X:Cx)(target:Expr)(t:TG):Prop:=
 ∀(pins:List (Addr×Obj)) (s:Shared) (σ:St) (H:Hp) (v:V) (u:Value) (Q:St->Hp->Prop),Inv X pins σ H s->RelV v u->t v σ H Q->
  wpAny (model X.prog X.w) X.A (assign target X.env u) (λ_ s'=>∃σ' H',Inv X pins σ' H' s'/\Q σ' H') X.xe s
def PGs(X:Cx)(ts:List Expr)(t:TGs):Prop:=
 ∀(pins:List (Addr×Obj)) (s:Shared) (σ:St) (H:Hp) (vs:List V) (us:List Value) (Q:St->Hp->Prop),Inv X pins σ H s->Vals vs us->t vs σ H Q->
  wpAny (model X.prog X.w) X.A (assignInOrder ((assignEach ts X.env).map (·.2)) us) (λ_ s'=>∃σ' H',Inv X pins σ' H' s'/\Q σ' H') X.xe s
abbrev zrC:=V->V->V->Hp->(Hp->Prop)->Prop
def zrT(X:Cx)(t:zrC):Prop:=
 ∀(pins:List (Addr×Obj)) (s:Shared) (σ:St) (H:Hp) (o i v:V) (ov iv u:Value) (Q:Hp->Prop),Inv X pins σ H s->RelV o ov->RelV i iv->RelV v u->t o i v H Q->
  wpAny (model X.prog X.w) X.A (setItem ov iv u) (λ_ s'=>∃H',Inv X pins σ H' s'/\Q H') X.xe s
abbrev TIp:=V->V->Hp->VK->Prop
def PIp(X:Cx)(op:Operator)(t:TIp):Prop:=
 ∀(pins:List (Addr×Obj)) (s:Shared) (σ:St) (H:Hp) (x y:V) (v u:Value) (Q:VK),Inv X pins σ H s->RelV x v->RelV y u->t x y H Q->
  wpAny (model X.prog X.w) X.A (inplaceOp op v u) (EP X pins σ Q) X.xe s
section
variable{X:Cx}{pos:Pos}
def zhT(i:Nat):TG:=λv σ H Q=>Q (σ.set i (some v)) H
theorem zoG(hN:X.N.Nodup)(hi:X.N[i]? = some x)(hx:Loc X.env.scope x)(hf:X.fn x=true\/X.env.scope.names.lookup x=some .local:=by first|exact .inl rfl|exact .inr rfl|assumption):PG X (.Name x pos) (zhT i):=by
 intro pins s σ H v u Q I r h
 exact wpAny_assign_Name (Vq I hN hi hx r (λs' I'=>⟨_,H,I',h⟩) hf)
def zts:TGs:=λvs σ H Q=>vs=[]/\Q σ H
def zsr(t:TG)(u:TGs):TGs:=λvs σ H Q=>∃v r,vs=v::r/\t v σ H λσ' H'=>u r σ' H' Q
theorem zoO:PGs X [] zts:=by
 intro pins s σ H vs us Q I r h
 obtain⟨e,h⟩:=h
 subst e
 cases r
 exact assignInOrder_nil ⟨σ,H,I,h⟩
theorem zmQ(h1:PG X e t)(h2:PGs X es u)
 (hs:(assignEach (e::es) X.env).map (·.2)=assign e X.env::(assignEach es X.env).map (·.2):=by rfl):PGs X (e::es) (zsr t u):=by
 intro pins s σ H vs us Q I r h
 obtain⟨v,vr,e1,h⟩:=h
 subst e1
 cases r with
 |cons r rr=>
  rw[hs]
  refine assignInOrder_cons (thn (h1 pins s σ H _ _ _ I r h) λ_ s1 ⟨σ1,H1,I1,q1⟩=>?_)
  exact h2 pins s1 σ1 H1 _ _ Q I1 rr q1
def ztb(K:zC)(n:Nat)(t:TGs):TG:=λv σ H Q=>∃a xs,v = .ref a/\SqT K H a xs/\xs.length=n/\t xs σ H Q
theorem zrs(hc:X.calm=true)(h:PGs X es t)
 (hn:(assignEach es X.env).length=n:=by rfl) (hst:(assignEach es X.env).findIdx? (·.1)=none:=by rfl):PG X (.Tuple es k pos) (ztb X.K n t):=by
 intro pins s σ H v u Q I r hw
 obtain⟨a,xs,e1,hq,hl,hw⟩:=hw
 subst e1
 cases r
 obtain⟨its,rv,ht,hz⟩:=I.tuple hq
 refine assign_Tuple_tuple (I.ok.hd hc) ht (by simp[hn,<-hl,rv.length]) hst λh' hx=>?_
 have I1:Inv X pins σ H {s with heap:=h'}:=I.kept (t':=s.toks) λb o e=>hx b o (zzN (zxE e)) e
 exact h pins _ σ H xs _ Q I1 (by simpa using rv) hw
def ztt(to ti:TE)(t:zrC):TG:=λv σ H Q=>to σ H λo H1=>ti σ H1 λi H2=>t o i v H2 λH3=>Q σ H3
theorem zjx(ho:PE X o to)(hi:PE X i ti)(hs:zrT X t)
 (ha:∀v,assign (.Subscript o i pos) X.env v=(do
  let ov <-holding [v] (eval o X.env)
  let iv <-holding [v,ov] (eval i X.env)
  standAt pos
  holding [v,ov,iv] (setItem ov iv v)
  release [v,ov,iv] []):=by intro _;rfl):PG X (.Subscript o i pos) (ztt to ti t):=by
 intro pins s σ H v u Q I r h
 rw[ha]
 refine zxB (zxH (thn (ho pins s σ H _ I h) λov s1 ⟨x,H1,I1,r1,q1⟩=>?_))
 refine zxB (zxH (thn (hi pins s1 σ H1 _ I1 q1) λiv s2 ⟨y,H2,I2,r2,q2⟩=>?_))
 refine zxB (wpAny_standAt (zxB (zxH (thn (hs pins s2 σ H2 x y v ov iv u _ I2 r1 r2 r q2) λ_ s3 ⟨H3,I3,q3⟩=>?_))))
 exact wpAny_release ⟨σ,H3,I3,q3⟩
def zrv(te:TE)(g:TG):TS:=λD σ H=>te σ H λx H1=>g x σ H1 D.nx
theorem zhn(he:PE X e te)(hg:PG X tg g)(hs:swapsWithSole [tg] e pos.line X.env=pure false:=by rfl)(hw:swappedStores [tg] e X.env=pure none:=by rfl)
 (h1:(assignEach [tg] X.env).map (·.2)=[assign tg X.env]:=by rfl):PS X (.Assign [tg] e pos) (zrv te g):=by
 intro pins s σ H D I h
 refine wpAny_Assign_stores (thn (he pins s σ H _ I h) λv s1 ⟨x,H1,I1,r1,q1⟩=>?_) hs hw
 rw[h1]
 exact thn (hg pins s1 σ H1 x v _ I1 r1 q1) λ_ s2 q=>q
theorem zlr(hN:X.N.Nodup)(hi:X.N[i]? = some x)(hx:Loc X.env.scope x)(he:PE X e te)(hs:swapsWith e (some (.Name x pos')) pos.line X.env=pure false:=by rfl)(hf:X.fn x=true\/X.env.scope.names.lookup x=some .local:=by first|exact .inl rfl|exact .inr rfl|assumption):
 PS X (.Assign [.Name x pos'] e pos) (zrv te (zhT i)):=by
 intro pins s σ H D I h
 refine wpAny_Assign_Name (thn (he pins s σ H _ I h) λv s1 ⟨y,H1,I1,r1,q1⟩=>?_) hs
 exact Vq I1 hN hi hx r1 (λs2 I2=>⟨_,H1,I2,q1⟩) hf
def ztn(i j:Nat)(ta:TA):TS:=λD σ H=>ta σ H λvs H1=>∃v w,vs=[v,w]/\D.nx ((σ.set i (some v)).set j (some w)) H1
theorem zpJ(hc:X.calm=true)(hN:X.N.Nodup)(hi:X.N[i]? = some x)(hj:X.N[j]? = some y)(hij:i≠j)
 (hx:X.env.scope.names.lookup x=some .local) (hy:X.env.scope.names.lookup y=some .local) (ha:PA X [a,b] ta)
 (hw:swappedStores [.Tuple [.Name x px,.Name y py] kt pt] (.Tuple [a,b] k2 pt2) X.env=pure (some [x,y]))
 (hs:swapsWithSole [.Tuple [.Name x px,.Name y py] kt pt] (.Tuple [a,b] k2 pt2) pos.line X.env=pure false:=by rfl):
 PS X (.Assign [.Tuple [.Name x px,.Name y py] kt pt] (.Tuple [a,b] k2 pt2) pos) (ztn i j ta):=by
 intro pins s σ H D I h
 rw[exec_Assign_arm]
 refine zxB (wpAny_standAt ?_)
 rw[hs]
 refine zxB (zxC ?_)
 rw[if_neg (by decide)]
 refine zxB (Tuple_ (thn (ha _ pins s σ H _ I h) λus s1 ⟨vs,H1,I1,r1,q1⟩=>?_))
 obtain⟨v,w,e1,q1⟩:=q1
 subst e1
 obtain⟨u1,u2,rfl,rv,rw'⟩:∃u1 u2,us=[u1,u2]/\RelV v u1/\RelV w u2:=by
  cases r1 with
  |cons p q=>
   cases q with
   |cons p' q'=>
    cases q'
    exact⟨_,_,rfl,p,p'⟩
 refine zxG ?_ (by show 2<=sizeLine;decide)
 have I2:Inv X pins σ H1 {s1 with heap:=s1.heap.push {cls:=.type "tuple",data:=.seq [u1,u2].toArray}}:=I1.kept (t':=s1.toks) λb o e=>zxD _ e
 rw[hw]
 refine zxB (zxC ?_)
 show wpAny (model X.prog X.w) X.A (do rule "assign.swapped-stores";let items <-unpackItems (.ref s1.heap.objs.size) 2 none;assignInOrder [λv=>bindName X.env y v,λv=>bindName X.env x v] items.reverse;pure Flow.next) _ _ _
 refine zxB (wpAny_rule (zxB (unpackItems_tuple (items:=#[u1,u2]) (I.ok.hd hc) (IsTup.new s1.heap _) λh' hx'=>?_)))
 have I3:=I2.kept (h':=h') (t':=s1.toks) λb o e=>hx' b o (zzN (zxE e)) e
 show wpAny _ _ (assignInOrder [λv=>bindName X.env y v,λv=>bindName X.env x v] [u2,u1] >>= λ_=>pure Flow.next) _ _ _
 refine zxB (assignInOrder_cons (wpAny_bindName (Vq I3 hN hj (.inl hy) rw' (λs2 I4=>?_) (.inr hy))))
 refine assignInOrder_cons (wpAny_bindName (Vq I4 hN hi (.inl hx) rv (λs3 I5=>assignInOrder_nil (zxC ?_)) (.inr hx)))
 rw[List.set_comm _ _ (Ne.symm hij)]at I5
 exact⟨_,H1,I5,q1⟩
def zsO(i:Nat)(te:TE)(ti:TIp):TS:=λD σ H=>∃x,σ[i]? = some (some x)/\te σ H λy H1=>ti x y H1 λz H2=>D.nx (σ.set i (some z)) H2
theorem zrt(hN:X.N.Nodup)(hi:X.N[i]? = some x)(hx:Loc X.env.scope x)(he:PE X e te)(ho:PIp X op ti)(hf:X.fn x=true\/X.env.scope.names.lookup x=some .local:=by first|exact .inl rfl|exact .inr rfl|assumption):
 PS X (.AugAssign (.Name x pos') op e pos) (zsO i te ti):=by
 intro pins s σ H D I h
 obtain⟨v,e1,h⟩:=h
 obtain⟨m,hn,hl⟩:=I.loc
 have vis:Vis X.env.scope x:=by rcases hx with k|k;exact .inl k;exact .inr (.inl k)
 obtain⟨u,r,l⟩:=hl i x v hi e1 vis
 refine wpAny_AugAssign_Name ?_
 have go:wpAny (model X.prog X.w) X.A (eval e X.env) (λw s₂=>wpAny (model X.prog X.w) X.A (inplaceOp op u w) (λr s₃=>wpAny (model X.prog X.w) X.A (storeName X.env x r) (λ_=>SP X pins D .next) X.xe s₃) X.xe s₂) X.xe s:=by
  refine thn (he pins s σ H _ I h) λw s1 ⟨y,H1,I1,r1,q1⟩=>?_
  refine thn (ho pins s1 σ H1 v y u w _ I1 r r1 q1) λz s2 ⟨zv,H2,I2,r2,q2⟩=>?_
  exact Vq I2 hN hi hx r2 (λs3 I3=>⟨_,H2,I3,q2⟩) hf
 rcases l with⟨hk,hm⟩|⟨hk,c,hc,hcell⟩
 · exact wpAny_loadName_local I.ok.kind hk hn hm go
 · rcases hk with hk|hk
   · exact wpAny_loadName_cell I.ok.kind hk hc hcell go
   · rcases hx with k|k
     · have:X.env.scope.names.lookup x=some .free:=hk
       rw[k]at this;cases this
     · have:X.env.scope.names.lookup x=some .free:=hk
       rw[k]at this;cases this
def ipI(f:Int->Int->Int):TIp:=λx y H Q=>∃i j,x = .int i/\y = .int j/\Q (.int (f i j)) H
theorem zrn:PIp X .Add (ipI λi j=>i+j):=by
 intro pins s σ H x y v u Q I r1 r2 h
 obtain⟨i,j,e1,e2,q⟩:=h
 subst e1;subst e2
 obtain⟨t,rfl⟩:=r1
 obtain⟨t',rfl⟩:=r2
 exact iadd_int ⟨.int _,H,I.tok _,⟨_,rfl⟩,q⟩
end
section
variable{X:Cx}{pos:Pos}
def zra(c:TT)(tb:TS):TS:=λD σ H=>∃W:Nat->St->Hp->Prop,(∃m,W m σ H)/\∀m σ H,W m σ H->
 c σ H λb H1=>if b=true then ∃N:St->Hp->Prop,(∀σ' H',N σ' H'->∃m',m'<m/\W m' σ' H')/\tb {D with nx:=N,ct:=N,bk:=D.nx} σ H1 else D.nx σ H1
theorem znf(hp:PassesOwn (model X.prog X.w) X.A X.env X.xe)(hc:PT X c tc)(hb:PSs X body tb):PS X (.While c body [] pos) (zra tc tb):=by
 intro pins s σ H D I h
 obtain⟨W,⟨m0,w0⟩,turn⟩:=h
 refine wpAny_While (codeAny_whileLoop (λn s'=>∃σ' H',Inv X pins σ' H' s'/\W n σ' H') ?_ m0 ⟨σ,H,I,w0⟩)
 rintro n s1 ⟨σ1,H1,I1,w1⟩
 refine wpAny_passesOwn hp (thn (hc pins s1 σ1 H1 _ I1 (turn n σ1 H1 w1)) λb s2 ⟨H2,I2,q2⟩=>?_)
 cases b with
 |true=>
  obtain⟨N,hN,q2⟩:=q2
  rw[if_pos rfl]
  refine wpAny_passesOwn hp (thn (hb pins s2 σ1 H2 _ I2 q2) λf s3 q3=>?_)
  cases f with
  |next=>
   obtain⟨σ3,H3,I3,n3⟩:=q3
   obtain⟨m',hm,w3⟩:=hN σ3 H3 n3
   exact⟨m',hm,σ3,H3,I3,w3⟩
  |cont=>
   obtain⟨σ3,H3,I3,n3⟩:=q3
   obtain⟨m',hm,w3⟩:=hN σ3 H3 n3
   exact⟨m',hm,σ3,H3,I3,w3⟩
  |brk=>exact q3
  |ret v=>exact q3
 |false=>
  rw[if_neg zyS]
  exact wpAny_execs_nil ⟨σ1,H2,I2,q2⟩
end
structure It where
 go:Nat->Hp->Prop
 yld:Nat->Hp->V->Hp->Prop
 stop:Nat->Hp->Prop
def zds(X:Cx)(pins:List (Addr×Obj))(H:Hp)(b:Addr):Prop:=
 H b=none/\b≠X.env.locals/\b ∉ X.fs/\(b ∈ X.ex\/X.s₀.heap.objs.size<=b)/\(∀x c,X.env.cells.lookup x=some c->c≠b)/\∀p ∈ X.pn++pins,p.1≠b
theorem Inv.fpOk(I:Inv X pins σ H s)(hb:s.heap.objs.size<=b)(hn:H' b=none):zds X pins H' b:=by
 refine⟨hn,Nat.ne_of_gt (zzH I.lt hb),I.nofs hb,.inr (zzL I.sz hb),λx c e z=>?_,λp hp z=>?_⟩
 · obtain⟨v,q⟩:=I.cell x c e
   exact absurd (zzH q.lt (by rw[z];exact hb)) (Nat.lt_irrefl _)
 · exact absurd (zzH (zxE (I.pin p hp).1) (by rw[z];exact hb)) (Nat.lt_irrefl _)
structure Turn(P:Program)(w:World)(K:zC)(tg:Expr)(J:It)(fp:List Addr)(it:Addr)(tn:Nat->Heap->Prop):Prop where
 mem:it ∈ fp
 obj:∀i h,tn i h->∀b ∈ fp,∃o,h.get? b=some o/\∀v,o.data ≠ .cell v
 keep:∀i h h',tn i h->(∀b ∈ fp,∀o,h.get? b=some o->h'.get? b=some o)->tn i h'
 item:∀(X:Cx),X.prog=P->X.w=w->X.K=K->X.calm=true->∀(i:Nat) (pins:List (Addr×Obj)) (s:Shared) (σ:St) (H:Hp) (E:Value->Shared->Prop),Inv X pins σ H s->(∀b ∈ fp,zds X pins H b)->tn i s.heap->J.go i H->
  wpAny (model P w) X.A (pyNext (.ref it)) (λr s1=>∃u,r=some u/\
   wpAny (model P w) X.A (letOwnedTupleGo tg (.ref it) u) (λ_ s2=>∃x H',Inv X pins σ H' s2/\RelV x u/\J.yld i H x H'/\tn (i+1) s2.heap/\∀b ∈ fp,H' b=none) E s1) E s
 done:∀(X:Cx),X.prog=P->X.w=w->X.K=K->X.calm=true->∀(i:Nat) (pins:List (Addr×Obj)) (s:Shared) (σ:St) (H:Hp) (E:Value->Shared->Prop),Inv X pins σ H s->(∀b ∈ fp,zds X pins H b)->tn i s.heap->J.stop i H->
  wpAny (model P w) X.A (pyNext (.ref it)) (λr s1=>r=none/\Inv X pins σ H s1) E s
 self:∀(A:Around) (i:Nat) (s:Shared) (Q:Value->Shared->Prop) (E:Value->Shared->Prop),tn i s.heap->Q (.ref it) s->wpAny (model P w) A (pyIter (.ref it)) Q E s
abbrev TI:=St->Hp->(It->Hp->Prop)->Prop
def PIE(X:Cx)(pins:List (Addr×Obj))(σ:St)(tg:Expr)(R:It->Hp->Prop)(itv:Value)(s2:Shared):Prop:=
 ∃(it:Addr) (fp:List Addr) (tn:Nat->Heap->Prop) (J:It) (H':Hp),itv = .ref it/\Inv X pins σ H' s2/\Turn X.prog X.w X.K tg J fp it tn/\tn 0 s2.heap/\(∀b ∈ fp,zds X pins H' b)/\R J H'
def PI(X:Cx)(tg iter:Expr)(wi:TI):Prop:=
 ∀(pins:List (Addr×Obj)) (s:Shared) (σ:St) (H:Hp) (R:It->Hp->Prop),Inv X pins σ H s->wi σ H R->
  wpAny (model X.prog X.w) X.A (eval iter X.env) (λv s1=>wpAny (model X.prog X.w) X.A (pyIter v) (PIE X pins σ tg R) X.xe s1) X.xe s
theorem zms(ho:s.heap.get? it=some o)(hc:o.cls = .type n)(hd:o.data = .fields vs)
 (hn : ["enumerate","zip","dict_itemiterator","dict_reverseitemiterator","odict_iterator","itertools.zip_longest","itertools.pairwise"].contains n=false) (hQ:Q () s):wpAny M A (letOwnedTupleGo tg (.ref it) u) Q E s:=by
 unfold letOwnedTupleGo
 cases tg<;>first
  |exact zxC hQ
  |(cases u<;>first
   |exact zxC hQ
   | (refine zxB (wpAny_load ho ?_)
      rw[hc,hd]
      show wpAny M A (if(["enumerate","zip","dict_itemiterator","dict_reverseitemiterator","odict_iterator","itertools.zip_longest","itertools.pairwise"].contains n&&vs[0]? == some (rawInt _))=true then _ else _) Q E s
      rw[if_neg (by intro h;rw[hn,Bool.false_and]at h;cases h)]
      exact zxC hQ))
def Itl(K:zC)(a:Addr):It:=
 ⟨λi H=>∃xs x,SqL K H a xs/\xs[i]? = some x,λi H x H'=>H'=H/\∀xs,SqL K H a xs->xs[i]? = some x,λi H=>∃xs,SqL K H a xs/\xs.length<=i⟩
def Itt(K:zC)(a:Addr):It:=
 ⟨λi H=>∃xs x,SqT K H a xs/\xs[i]? = some x,λi H x H'=>H'=H/\∀xs,SqT K H a xs->xs[i]? = some x,λi H=>∃xs,SqT K H a xs/\xs.length<=i⟩
def Itr(lo:Int)(n:Nat):It:=⟨λi _=>i<n,λi H x H'=>H'=H/\x = .int (lo+i),λi _=>n<=i⟩
theorem zkR{P:Program}{w:World}{K:zC}{tg:Expr}(a it:Addr):Turn P w K tg (Itl K a) [it] it (λi h=>h.IsListIter it a i)where
 mem:=by simp
 obj:=λi h st b hb=>by
  have e:b=it:=by simpa using hb
  subst e
  obtain⟨o,e,c,d⟩:=st
  exact⟨o,e,λv z=>by rw[d]at z;cases z⟩
 keep:=λi h h' st k=>st.at λo e=>k it (by simp) o e
 item:=by
  intro X hP hw hK hc i pins s σ H E I hf st hg
  subst hP hw hK
  obtain⟨xs,x,hq,hx⟩:=hg
  obtain⟨its,rv,p,hz⟩:=I.list hq
  obtain⟨u,hu,ru⟩:=rv.get hx
  obtain⟨f0,f1,f2,f3,f4,f5⟩:=hf it (by simp)
  refine wpAny_pyNext_list_item st p.isList (x:=u) (by simpa using hu) λh' st' sb=>?_
  have I1:Inv X pins σ H {s with heap:=h'}:=I.turned (t':=s.toks) (λb o hb e=>(sb.2 b hb).trans e) f0 f1 f3 f4 f5
  obtain⟨o,e,c,d⟩:=id st'
  exact⟨u,rfl,zms (s:={s with heap:=h'}) e c d (by decide) ⟨x,H,I1,ru,⟨rfl,λys hy=>by rw[I.list_inj hy hq];exact hx⟩,st',λb hb=>(hf b hb).1⟩⟩
 done:=by
  intro X hP hw hK hc i pins s σ H E I hf st hg
  subst hP hw hK
  obtain⟨xs,hq,hx⟩:=hg
  obtain⟨its,rv,p,hz⟩:=I.list hq
  obtain⟨f0,f1,f2,f3,f4,f5⟩:=hf it (by simp)
  have hl:=rv.length
  exact wpAny_pyNext_list_end (I.ok.hd hc) st p.isList (by simp;omega) λh' eb=>⟨rfl,I.turned (t':=s.toks) (λb o hb e=>eb b o hb e) f0 f1 f3 f4 f5⟩
 self:=λ_ _ _ _ _ st h=>wpAny_pyIter_listiter st h
theorem zjr{P:Program}{w:World}{K:zC}{tg:Expr}(a it:Addr):Turn P w K tg (Itt K a) [it] it (λi h=>h.IsTupleIter it a i)where
 mem:=by simp
 obj:=λi h st b hb=>by
  have e:b=it:=by simpa using hb
  subst e
  obtain⟨o,e,c,d⟩:=st
  exact⟨o,e,λv z=>by rw[d]at z;cases z⟩
 keep:=λi h h' st k=>st.at λo e=>k it (by simp) o e
 item:=by
  intro X hP hw hK hc i pins s σ H E I hf st hg
  subst hP hw hK
  obtain⟨xs,x,hq,hx⟩:=hg
  obtain⟨its,rv,p,hz⟩:=I.tuple hq
  obtain⟨u,hu,ru⟩:=rv.get hx
  obtain⟨f0,f1,f2,f3,f4,f5⟩:=hf it (by simp)
  refine wpAny_pyNext_tuple_item st (show s.heap.IsTuple a its.toArray from p) (x:=u) (by simpa using hu) λh' st' sb=>?_
  have I1:Inv X pins σ H {s with heap:=h'}:=I.turned (t':=s.toks) (λb o hb e=>(sb.2 b hb).trans e) f0 f1 f3 f4 f5
  obtain⟨o,e,c,d⟩:=id st'
  exact⟨u,rfl,zms (s:={s with heap:=h'}) e c d (by decide) ⟨x,H,I1,ru,⟨rfl,λys hy=>by rw[I.tuple_inj hy hq];exact hx⟩,st',λb hb=>(hf b hb).1⟩⟩
 done:=by
  intro X hP hw hK hc i pins s σ H E I hf st hg
  subst hP hw hK
  obtain⟨xs,hq,hx⟩:=hg
  obtain⟨its,rv,p,hz⟩:=I.tuple hq
  obtain⟨f0,f1,f2,f3,f4,f5⟩:=hf it (by simp)
  have hl:=rv.length
  exact wpAny_pyNext_tuple_end (I.ok.hd hc) st (show s.heap.IsTuple a its.toArray from p) (by simp;omega) λh' eb=>⟨rfl,I.turned (t':=s.toks) (λb o hb e=>eb b o hb e) f0 f1 f3 f4 f5⟩
 self:=λ_ _ _ _ _ st h=>wpAny_pyIter_tupleiter st h
theorem ziI{P:Program}{w:World}{K:zC}{tg:Expr}(it:Addr)(lo:Int)(n:Nat):Turn P w K tg (Itr lo n) [it] it (λi h=>IsRangeIter h it (lo+(i:Nat)*1) ((n:Int)-(i:Nat)) 1)where
 mem:=by simp
 obj:=λi h st b hb=>by
  have e:b=it:=by simpa using hb
  subst e
  exact⟨_,st,λv z=>by
   have z':Data.fields _=Data.cell v:=z
   cases z'⟩
 keep:=λi h h' st k=>k it (by simp) _ st
 item:=by
  intro X hP hw hK hc i pins s σ H E I hf st hg
  subst hP hw hK
  obtain⟨f0,f1,f2,f3,f4,f5⟩:=hf it (by simp)
  have W:=Walks.range (prog:=X.prog) (w:=X.w) (I.ok.hd hc) it lo 1 n
  refine W.item i s _ _ hg st λv h' tk hv st' kk=>?_
  obtain⟨t,rfl⟩:=hv
  have I1:Inv X pins σ H {s with heap:=h',toks:=tk}:=I.turned (λb o hb e=>kk b o (by simpa using hb) e) f0 f1 f3 f4 f5
  refine⟨_,rfl,zms (s:={s with heap:=h',toks:=tk}) (n:="range_iterator") st' rfl rfl (by decide) ⟨.int (lo+i),H,I1,⟨t, ?_⟩,⟨rfl,rfl⟩,st',λb hb=>(hf b hb).1⟩⟩
  rw[Int.mul_one]
 done:=by
  intro X hP hw hK hc i pins s σ H E I hf st hg
  subst hP hw hK
  obtain⟨f0,f1,f2,f3,f4,f5⟩:=hf it (by simp)
  exact wpAny_pyNext_range_end (I.ok.hd hc) st (by have:n<=i:=hg;omega) λh' eb=>⟨rfl,I.turned (t':=s.toks) (λb o hb e=>eb b o hb e) f0 f1 f3 f4 f5⟩
 self:=λ_ _ _ _ _ st h=>wpAny_pyIter_rangeiter st h
end L2
namespace L2
open PySem PySem.Spec PyProof.Rows
section
variable{X:Cx}{tg:Expr}
def zsz(K:zC)(tl:TE):TI:=λσ H R=>tl σ H λx H1=>∃a,x = .ref a/\(∃xs,SqL K H1 a xs)/\R (Itl K a) H1
def ztx(K:zC)(tl:TE):TI:=λσ H R=>tl σ H λx H1=>∃a,x = .ref a/\(∃xs,SqT K H1 a xs)/\R (Itt K a) H1
theorem zha{l:Expr}{tl:TE}(hl:PE X l tl):PI X tg l (zsz X.K tl):=by
 intro pins s σ H R I h
 refine thn (hl pins s σ H _ I h) λv s1 ⟨x,H1,I1,r1,q1⟩=>?_
 obtain⟨a,e,⟨xs,hq⟩,q⟩:=q1
 subst e
 cases r1
 obtain⟨its,rv,p,hz⟩:=I1.list hq
 refine wpAny_pyIter_list p.isList ?_
 refine⟨s1.heap.objs.size,[s1.heap.objs.size],_,_,H1,rfl,I1.kept (t':=s1.toks) λb o e=>zxD _ e,zkR a _,⟨_,zxF _ rfl,rfl,rfl⟩,λb hb=>?_,q⟩
 have e:b=s1.heap.objs.size:=by simpa using hb
 subst e
 exact I1.fpOk (zzK _) (I1.hok.fresh (zzK _))
theorem ziM{l:Expr}{tl:TE}(hl:PE X l tl):PI X tg l (ztx X.K tl):=by
 intro pins s σ H R I h
 refine thn (hl pins s σ H _ I h) λv s1 ⟨x,H1,I1,r1,q1⟩=>?_
 obtain⟨a,e,⟨xs,hq⟩,q⟩:=q1
 subst e
 cases r1
 obtain⟨its,rv,p,hz⟩:=I1.tuple hq
 refine wpAny_pyIter_tuple (show s1.heap.IsTuple a its.toArray from p) ?_
 refine⟨s1.heap.objs.size,[s1.heap.objs.size],_,_,H1,rfl,I1.kept (t':=s1.toks) λb o e=>zxD _ e,zjr a _,⟨_,zxF _ rfl,rfl,rfl⟩,λb hb=>?_,q⟩
 have e:b=s1.heap.objs.size:=by simpa using hb
 subst e
 exact I1.fpOk (zzK _) (I1.hok.fresh (zzK _))
theorem zmJ{pins:List (Addr×Obj)}{σ:St}{H:Hp}{s:Shared}{R:It->Hp->Prop}{E:Value->Shared->Prop}{lo hi:Int}{t u v:Tok}{tk:Nat}(I:Inv X pins σ H s)(h1 : -(2 ^ 62)<=lo)(h2:lo<2 ^ 62)(h3 : -(2 ^ 62)<=hi)(h4:hi<2 ^ 62)
 (q:R (Itr lo (hi-lo).toNat) H):wpAny (model X.prog X.w) X.A (pyIter (.ref s.heap.objs.size)) (PIE X pins σ tg R) E {s with heap:=s.heap.push {cls:=.type "range",data:=.fields #[.int lo t,.int hi u,.int 1 v]},toks:=tk}:=by
 refine wpAny_pyIter_range (IsRange.new ..) (small_one h1 h2 h3 h4) ?_
 have I1:Inv X pins σ H {s with heap:=s.heap.push {cls:=.type "range",data:=.fields #[.int lo t,.int hi u,.int 1 v]},toks:=tk}:=I.kept λb o e=>zxD _ e
 refine⟨(s.heap.push {cls:=.type "range",data:=.fields #[.int lo t,.int hi u,.int 1 v]}).objs.size,[(s.heap.push {cls:=.type "range",data:=.fields #[.int lo t,.int hi u,.int 1 v]}).objs.size],_,_,H,rfl,
  I1.kept (t':=tk) λb o e=>zxD _ e,ziI _ lo (hi-lo).toNat, ?_,λb hb=>?_,q⟩
 · have e1:lo+((0:Nat):Int)*1=lo:=by simp
   have e2:(((hi-lo).toNat:Nat):Int)-((0:Nat):Int)=Builtin.Range.rangeSize lo hi 1:=by rw[rangeSize_one];split<;>omega
   show IsRangeIter _ _ (lo+((0:Nat):Int)*1) ((((hi-lo).toNat:Nat):Int)-((0:Nat):Int)) 1
   rw[e1,e2]
   exact zxF _ rfl
 · have e:b=(s.heap.push {cls:=.type "range",data:=.fields #[.int lo t,.int hi u,.int 1 v]}).objs.size:=by simpa using hb
   subst e
   exact I1.fpOk (zzK _) (I1.hok.fresh (zzK _))
def zrG(ta:TA):TI:=λσ H R=>ta σ H λvs H1=>∃j:Int,vs=[.int j] /\ -(2 ^ 62)<=j/\j<2 ^ 62/\R (Itr 0 j.toNat) H1
theorem zfW{a:Expr}{ta:TA}{p pos:Pos}(hg:Gl X "range")(hm:X.mg "range"=none)(ha:PA X [a] ta)(hs:starEach [a] X.env=[(false,eval a X.env)]:=by rfl):PI X tg (.Call (.Name "range" p) [a] [] pos) (zrG ta):=by
 intro pins s σ H R I h
 refine Call_ (Vy I hg hm boot_range (PyProof.Rows.callWith_type1 (thn (ha pos pins s σ H _ I h) λus s1 ⟨vs,H1,I1,r1,q1⟩=>?_) hs rfl))
 obtain⟨j,e,q1,q2,q⟩:=q1
 subst e
 cases r1 with
 |cons r rr=>
  cases rr
  obtain⟨t,rfl⟩:=r
  exact call_range_1 (zmJ I1 (by omega) (by omega) q1 q2 (by simpa using q))
def zte(wi:TI)(g:TG)(tb:TS):TS:=λD σ H=>wi σ H λJ H1=>∃W:Nat->Nat->St->Hp->Prop,(∃m,W 0 m σ H1)/\∀i m σ H,W i m σ H->
 (J.stop i H/\D.nx σ H)\/(J.go i H/\∃N:St->Hp->Prop,(∀σ' H',N σ' H'->∃m',m'<m/\W (i+1) m' σ' H')/\∀x H',J.yld i H x H'->g x σ H' λσ2 H2=>tb {D with nx:=N,ct:=N,bk:=D.nx} σ2 H2)
def zeA(fp:List Addr)(h:Heap):List (Addr×Obj):=fp.filterMap λb=>(h.get? b).map λo=>(b,o)
theorem Wj(hb:b ∈ fp)(e:h.get? b=some o):(b,o) ∈ zeA fp h:=List.mem_filterMap.mpr ⟨b,hb,by rw[e];rfl⟩
theorem zkJ(hp:p ∈ zeA fp h):p.1 ∈ fp/\h.get? p.1=some p.2:=by
 obtain⟨b,hb,e⟩:=List.mem_filterMap.mp hp
 cases q:h.get? b with
 |none=>rw[q]at e;cases e
 |some o=>
  rw[q]at e
  have e':(b,o)=p:=zzW e
  subst e'
  exact⟨hb,q⟩
theorem Inv.pinned(I:Inv X pins σ H s)(hf:∀b ∈ fp,zds X pins H b)(ho:∀b ∈ fp,∃o,s.heap.get? b=some o/\∀v,o.data ≠ .cell v):Inv X (pins++zeA fp s.heap) σ H s:=
 I.pins_of λp hp=>(zzJ.mp hp).elim (λz=>I.pin p (zzI _ z)) λz=>by
  obtain⟨hb,e⟩:=zkJ z
  obtain⟨f0,f1,f2,_⟩:=hf p.1 hb
  obtain⟨o,e',d⟩:=ho p.1 hb
  rw[e]at e';cases e'
  exact⟨e,f0,f1,f2,d⟩
theorem Inv.unpinned(I:Inv X (pins++pl) σ H s):Inv X pins σ H s:=I.pins_of λp hp=>I.pin p (zzI _ (zzM _ hp))
theorem zqS(hp:PassesOwn (model X.prog X.w) X.A X.env X.xe)(hc:X.calm=true)(hi:PI X tg iter wi)(hg:PG X tg g)(hb:PSs X body tb)
 (hs:∀x,foldedSetIterable iter X.env x=pure x:=by intro _;rfl):PS X (.For tg iter body [] pos) (zte wi g tb):=by
 intro pins s σ H D I h
 refine wpAny_For (thn (hi pins s σ H _ I h) λv s1 h1=>thn h1 λitv s2 h2=>?_) hs
 obtain⟨it,fp,tn,J,H2,e,I2,T,st2,f2,W,⟨m0,w0⟩,turn⟩:=h2
 subst e
 have stat:∀{H':Hp},(∀b ∈ fp,H' b=none)->∀b ∈ fp,zds X pins H' b:=λhn b hb=>⟨hn b hb,(f2 b hb).2⟩
 refine codeAny_forLoop_any (λn s'=>∃i σ' H',Inv X pins σ' H' s'/\tn i s'.heap/\(∀b ∈ fp,H' b=none)/\W i n σ' H') ?_ m0 ⟨0,σ,H2,I2,st2,λb hb=>(f2 b hb).1,w0⟩
 rintro n s3 ⟨i,σ3,H3,I3,st3,fr3,w3⟩
 rcases turn i n σ3 H3 w3 with⟨stop,qn⟩|⟨go,N,hN,step⟩
 · refine wpAny_passesOwn hp (thn (T.done X rfl rfl rfl hc i pins s3 σ3 H3 X.xe I3 (stat fr3) st3 stop) λr s4 ⟨hr,I4⟩=>?_)
   subst hr
   exact wpAny_execs_nil ⟨σ3,H3,I4,qn⟩
 · refine wpAny_passesOwn hp (thn (T.item X rfl rfl rfl hc i pins s3 σ3 H3 X.xe I3 (stat fr3) st3 go) λr s4 ⟨u,hr,h4⟩=>?_)
   subst hr
   refine wpAny_passesOwn hp (thn h4 λ_ s5 ⟨x,H5,I5,r5,y5,st5,fr5⟩=>?_)
   have I5':=I5.pinned (stat fr5) (T.obj _ _ st5)
   refine wpAny_passesOwn hp (thn (hg _ s5 σ3 H5 x u _ I5' r5 (step x H5 y5)) λ_ s6 ⟨σ6,H6,I6,q6⟩=>?_)
   refine wpAny_passesOwn hp (thn (hb _ s6 σ6 H6 _ I6 q6) λf s7 q7=>?_)
   have again:∀{σ7:St}{H7:Hp},Inv X (pins++zeA fp s5.heap) σ7 H7 s7->N σ7 H7->∃m,m<n/\∃i σ' H',Inv X pins σ' H' s7/\tn i s7.heap/\(∀b ∈ fp,H' b=none)/\W i m σ' H':=λ{σ7 H7} I7 n7=>by
    obtain⟨m',hm,w7⟩:=hN σ7 H7 n7
    refine⟨m',hm,i+1,σ7,H7,I7.unpinned,T.keep _ _ _ st5 λb hb o e=>(I7.pin (b,o) (zzI _ (zzI _ (Wj hb e)))).1,λb hb=>?_,w7⟩
    obtain⟨o,e,d⟩:=T.obj _ _ st5 b hb
    exact(I7.pin (b,o) (zzI _ (zzI _ (Wj hb e)))).2.1
   cases f with
   |next=>obtain⟨σ7,H7,I7,n7⟩:=q7;exact again I7 n7
   |cont=>obtain⟨σ7,H7,I7,n7⟩:=q7;exact again I7 n7
   |brk=>obtain⟨σ7,H7,I7,q7⟩:=q7;exact⟨σ7,H7,I7.unpinned,q7⟩
   |ret v=>obtain⟨x7,σ7,H7,I7,r7,q7⟩:=q7;exact⟨x7,σ7,H7,I7.unpinned,r7,q7⟩
end
end L2
namespace L2
open PySem PySem.Spec PyProof.Rows
abbrev R2:=V->V->Hp->VK->Prop
def OpR(X:Cx)(f:Value->Value->Sem Value)(r:R2):Prop:=
 ∀(pins:List (Addr×Obj)) (s:Shared) (σ:St) (H:Hp) (x y:V) (v u:Value) (Q:VK),Inv X pins σ H s->RelV x v->RelV y u->r x y H Q->
  wpAny (model X.prog X.w) X.A (f v u) (EP X pins σ Q) X.xe s
def UnR(X:Cx)(f:Value->Sem Value)(r:V->Hp->VK->Prop):Prop:=
 ∀(pins:List (Addr×Obj)) (s:Shared) (σ:St) (H:Hp) (x:V) (v:Value) (Q:VK),Inv X pins σ H s->RelV x v->r x H Q->
  wpAny (model X.prog X.w) X.A (f v) (EP X pins σ Q) X.xe s
def zap(X:Cx)(f:Value)(r:List V->Hp->VK->Prop):Prop:=
 ∀(pins:List (Addr×Obj)) (s:Shared) (σ:St) (H:Hp) (xs:List V) (us:List Value) (Q:VK),Inv X pins σ H s->Vals xs us->r xs H Q->
  wpAny (model X.prog X.w) X.A (call f us) (EP X pins σ Q) X.xe s
def zsR(X:Cx)(r:V->Hp->(Bool->Hp->Prop)->Prop):Prop:=
 ∀(pins:List (Addr×Obj)) (s:Shared) (σ:St) (H:Hp) (x:V) (v:Value) (Q:Bool->Hp->Prop),Inv X pins σ H s->RelV x v->r x H Q->
  wpAny (model X.prog X.w) X.A (truthy v) (TP X pins σ Q) X.xe s
def tOp(r:R2)(ta tb:TE):TE:=λσ H Q=>ta σ H λx H1=>tb σ H1 λy H2=>r x y H2 Q
def tUn(r:V->Hp->VK->Prop)(ta:TE):TE:=λσ H Q=>ta σ H λx H1=>r x H1 Q
def rI(C:Int->Int->Prop)(g:Int->Int->V):R2:=λx y H Q=>∃i j,x = .int i/\y = .int j/\C i j/\Q (g i j) H
def rI0(g:Int->Int->V):R2:=λx y H Q=>∃i j,x = .int i/\y = .int j/\Q (g i j) H
def rU(g:Int->V):V->Hp->VK->Prop:=λx H Q=>∃i,x = .int i/\Q (g i) H
section
variable{X:Cx}{a b c:Expr}{ta tb tc:TE}{pos:Pos}
theorem zqV(ha:PE X a ta)(hb:PE X b tb){pins:List (Addr×Obj)}{s:Shared}{σ:St}{H:Hp}{R:V->V->Hp->Prop}(I:Inv X pins σ H s)
 (h:ta σ H λx H1=>tb σ H1 λy H2=>R x y H2) {Q:Value->Shared->Prop}{f:Value->Value->Sem Value}
 (hf:∀v u s2 x y H2,Inv X pins σ H2 s2->RelV x v->RelV y u->R x y H2->wpAny (model X.prog X.w) X.A (f v u) Q X.xe s2):
 wpAny (model X.prog X.w) X.A (eval a X.env) (λv s₁=>wpAny (model X.prog X.w) X.A (eval b X.env) (λu s₂=>wpAny (model X.prog X.w) X.A (f v u) Q X.xe s₂) X.xe s₁) X.xe s:=by
 refine thn (ha pins s σ H _ I h) λv s1 ⟨x,H1,I1,r1,q1⟩=>?_
 refine thn (hb pins s1 σ H1 _ I1 q1) λu s2 ⟨y,H2,I2,r2,q2⟩=>?_
 exact hf v u s2 x y H2 I2 r1 r2 q2
theorem zmk{op:Operator}{r:R2}(ho:OpR X (binaryOp op) r)(ha:PE X a ta)(hb:PE X b tb):PE X (.BinOp a op b pos) (tOp r ta tb):=by
 intro pins s σ H Q I h
 exact wpAny_BinOp (zqV ha hb I h λv u s2 x y H2 I2 rx ry q=>ho pins s2 σ H2 x y v u Q I2 rx ry q)
theorem zsa(ho:UnR X (unaryOp op) r)(ha:PE X a ta):PE X (.UnaryOp op a pos) (tUn r ta):=by
 intro pins s σ H Q I h
 exact UnaryOp_ (thn (ha pins s σ H _ I h) λv s1 ⟨x,H1,I1,r1,q1⟩=>ho pins s1 σ H1 x v Q I1 r1 q1)
theorem opI{f:Value->Value->Sem Value}{C:Int->Int->Prop}{g:Int->Int->Int}
 (rule:∀(i j:Int) (t u:Tok) (s:Shared) (Q:Value->Shared->Prop) (E:Value->Shared->Prop),C i j->Q (.int (g i j) s.toks) {s with toks:=s.toks+1}->wpAny (model X.prog X.w) X.A (f (.int i t) (.int j u)) Q E s):
 OpR X f (rI C λi j=>.int (g i j)):=by
 intro pins s σ H x y v u Q I rx ry h
 obtain⟨i,j,rfl,rfl,hc,q⟩:=h
 obtain⟨t,rfl⟩:=rx
 obtain⟨t',rfl⟩:=ry
 exact rule i j t t' s _ _ hc ⟨.int (g i j),H,I.tok _,⟨_,rfl⟩,q⟩
theorem zsb{f:Value->Value->Sem Value}{g:Int->Int->Int}
 (rule:∀(i j:Int) (t u:Tok) (s:Shared) (Q:Value->Shared->Prop) (E:Value->Shared->Prop),Q (.int (g i j) s.toks) {s with toks:=s.toks+1}->wpAny (model X.prog X.w) X.A (f (.int i t) (.int j u)) Q E s):
 OpR X f (rI0 λi j=>.int (g i j)):=by
 intro pins s σ H x y v u Q I rx ry h
 obtain⟨i,j,rfl,rfl,q⟩:=h
 obtain⟨t,rfl⟩:=rx
 obtain⟨t',rfl⟩:=ry
 exact rule i j t t' s _ _ ⟨.int (g i j),H,I.tok _,⟨_,rfl⟩,q⟩
theorem znZ{f:Value->Value->Sem Value}{g:Int->Int->Bool}
 (rule:∀(i j:Int) (t u:Tok) (s:Shared) (Q:Value->Shared->Prop) (E:Value->Shared->Prop),Q (.bool (g i j)) s->wpAny (model X.prog X.w) X.A (f (.int i t) (.int j u)) Q E s):
 OpR X f (rI0 λi j=>.bl (g i j)):=by
 intro pins s σ H x y v u Q I rx ry h
 obtain⟨i,j,rfl,rfl,q⟩:=h
 obtain⟨t,rfl⟩:=rx
 obtain⟨t',rfl⟩:=ry
 exact rule i j t t' s _ _ ⟨.bl (g i j),H,I,rfl,q⟩
def ztm(i j:Int):Prop:=0<=j/\j<=1000000/\i.natAbs<2 ^ 64
theorem zqe:OpR X (binaryOp .Add) (rI0 λi j=>.int (i+j)):=zsb λ_ _ _ _ _ _ _ q=>add_int q
theorem zrj:OpR X (binaryOp .Sub) (rI0 λi j=>.int (i-j)):=zsb λ_ _ _ _ _ _ _ q=>sub_int q
theorem zmP:OpR X (binaryOp .Mod) (rI (λ_ j=>0<j) λi j=>.int (i%j)):=opI λi j _ _ _ _ _ hc q=>by
 have h1:(0:Int)<j:=hc
 exact mod_int' (by omega) (by rw[Int.fmod_eq_emod_of_nonneg i (by omega)];exact q)
theorem zqp:OpR X (binaryOp .Pow) (rI ztm λi j=>.int (i ^ j.toNat)):=opI λ_ _ _ _ _ _ _ hc q=>pow_int_small hc.1 hc.2.1 hc.2.2 q
theorem unI{f:Value->Sem Value}{g:Int->Int}
 (rule:∀(i:Int) (t:Tok) (s:Shared) (Q:Value->Shared->Prop) (E:Value->Shared->Prop),Q (.int (g i) s.toks) {s with toks:=s.toks+1}->wpAny (model X.prog X.w) X.A (f (.int i t)) Q E s):
 UnR X f (rU λi=>.int (g i)):=by
 intro pins s σ H x v Q I rx h
 obtain⟨i,rfl,q⟩:=h
 obtain⟨t,rfl⟩:=rx
 exact rule i t s _ _ ⟨.int (g i),H,I.tok _,⟨_,rfl⟩,q⟩
theorem zpO:UnR X (unaryOp .USub) (rU λi=>.int (-i)):=unI λ_ _ _ _ _ q=>neg_int q
end
section
variable{X:Cx}{a b c:Expr}{ta tb tc:TE}{pos:Pos}
theorem wV(I:Inv X pins σ H s)(q:Q (.bl k) H)(e:k=k'):EP X pins σ Q (.bool k') s:=by
 subst e
 exact⟨.bl k,H,I,rfl,q⟩
theorem zsy:OpR X (compareOp .Lt) (rI0 λi j=>.bl (decide (i<j))):=znZ λ_ _ _ _ _ _ _ q=>lt_int q
theorem zsd:OpR X (compareOp .LtE) (rI0 λi j=>.bl (decide (i<=j))):=znZ λ_ _ _ _ _ _ _ q=>le_int q
theorem zrx:OpR X (compareOp .Gt) (rI0 λi j=>.bl (decide (j<i))):=znZ λ_ _ _ _ _ _ _ q=>gt_int q
theorem zrZ:OpR X (compareOp .GtE) (rI0 λi j=>.bl (decide (j<=i))):=znZ λ_ _ _ _ _ _ _ q=>ge_int q
theorem zkD:OpR X (compareOp .In) (λx y H Q=>∃i j,x = .str i/\y = .str j/\Q (.bl (!(Builtin.Str.occurrences j i 0 j.length 1).isEmpty)) H):=by
 intro pins s σ H x y v u Q I rx ry h
 obtain⟨i,j,rfl,rfl,q⟩:=h
 obtain⟨t,rfl⟩:=rx
 obtain⟨t',rfl⟩:=ry
 exact in_str (wV I q rfl)
theorem zrq:OpR X (compareOp .Is) (λx y H Q=>y = .non/\Q (.bl (decide (x = .non))) H):=by
 intro pins s σ H x y v u Q I rx ry h
 obtain⟨rfl,q⟩:=h
 cases ry
 refine is_none_gen (wV I q ?_)
 cases x<;>first
  |(cases rx;rfl)
  |(obtain⟨t,rfl⟩:=rx;rfl)
theorem zoD:OpR X (compareOp .IsNot) (λx y H Q=>y = .non/\Q (.bl (!decide (x = .non))) H):=by
 intro pins s σ H x y v u Q I rx ry h
 obtain⟨rfl,q⟩:=h
 cases ry
 refine isnot_none_gen (wV I q ?_)
 cases x<;>first
  |(cases rx;rfl)
  |(obtain⟨t,rfl⟩:=rx;rfl)
theorem zgO:OpR X (compareOp .NotIn) (λx y H Q=>∃i j,x = .str i/\y = .str j/\Q (.bl (!(!(Builtin.Str.occurrences j i 0 j.length 1).isEmpty))) H):=by
 intro pins s σ H x y v u Q I rx ry h
 obtain⟨i,j,rfl,rfl,q⟩:=h
 obtain⟨t,rfl⟩:=rx
 obtain⟨t',rfl⟩:=ry
 exact notIn_str (wV I q rfl)
theorem zmm(b:Expr)(h:op ≠ .In:=by decide)(h2:op ≠ .NotIn:=by decide):behindInMarks op b=false:=by
 have e1:(op==CmpOp.In)=false:=by cases op<;>first|rfl|exact absurd rfl h
 have e2:(op==CmpOp.NotIn)=false:=by cases op<;>first|rfl|exact absurd rfl h2
 cases b<;>simp[behindInMarks,e1,e2]
theorem znH{op:CmpOp}{r:R2}(ho:OpR X (compareOp op) r)(ha:PE X a ta)(hb:PE X b tb)(hm:behindInMarks op b=false):PE X (.Compare a [op] [b] pos) (tOp r ta tb):=by
 intro pins s σ H Q I h
 exact wpAny_Compare1 (zqV ha hb I h λv u s2 x y H2 I2 rx ry q=>ho pins s2 σ H2 x y v u Q I2 rx ry q) hm
def zsi(t:TE):TT:=λσ H Q=>t σ H λx H'=>∃k,x = .bl k/\Q k H'
theorem znJ(ho:OpR X (compareOp op) r)(ha:PE X a ta)(hb:PE X b tb)(hm:behindInMarks op b=false):PT X (.Compare a [op] [b] pos) (zsi (tOp r ta tb)):=by
 intro pins s σ H Q I h
 refine wpAny_isTrue_Compare1 (thn (ha pins s σ H _ I h) λv s1 ⟨x,H1,I1,r1,q1⟩=>thn (hb pins s1 σ H1 _ I1 q1) λu s2 ⟨y,H2,I2,r2,q2⟩=>
  thn (ho pins s2 σ H2 x y v u _ I2 r1 r2 q2) λc s3 ⟨z,H3,I3,r3,k,e,q3⟩=>?_) hm
 subst e
 cases r3
 exact wpAny_truthy_bool ⟨H3,I3,q3⟩
def zpW(K:zC)(x:V)(H:Hp)(k:Bool):Prop:=
 match x with
 | .non=>k=false
 | .bl b=>k=b
 | .int i=>k=(i != 0)
 | .str y=>y.length<=sizeLine/\k=((y.length:Int) != 0)
 | .byt y=>y.size<=sizeLine/\k=((y.size:Int) != 0)
 | .ref p=>(∃xs,SqL K H p xs/\k = !xs.isEmpty)\/(∃xs,SqT K H p xs/\k = !xs.isEmpty)\/∃kvs,H p=some (.dK kvs)/\k = !kvs.isEmpty
 |_=>False
theorem ziS(r:KV kvs vs):(!vs.isEmpty) = !kvs.isEmpty:=by
 cases r<;>rfl
theorem zed(r:Vals xs its):(!its.toArray.isEmpty) = !xs.isEmpty:=by
 cases r<;>simp
theorem zaG:(sizeLine:Nat)<2 ^ 63:=by rw[sizeLine_eq];decide
theorem zqv:zsR X (λx H Q=>∃k,zpW X.K x H k/\Q k H):=by
 intro pins s σ H x v Q I rx h
 obtain⟨k,e,q⟩:=h
 have hl:=zaG
 have hs:sizeLine=16777216:=sizeLine_eq
 cases x with
 |non=>
  cases rx
  have e':k=false:=e
  subst e'
  exact truthy_none ⟨H,I,q⟩
 |bl b=>
  cases rx
  have e':k=b:=e
  subst e'
  exact wpAny_truthy_bool ⟨H,I,q⟩
 |int i=>
  obtain⟨t,rfl⟩:=rx
  have e':k=(i != 0):=e
  subst e'
  exact PySem.P.truthy_int ⟨H,I,q⟩
 |str y=>
  obtain⟨t,rfl⟩:=rx
  obtain⟨hy,e'⟩:y.length<=sizeLine/\k=((y.length:Int) != 0):=e
  subst e'
  exact PySem.P.truthy_str (by omega) ⟨H,I.tok _,q⟩
 |byt y=>
  obtain⟨t,rfl⟩:=rx
  obtain⟨hy,e'⟩:y.size<=sizeLine/\k=((y.size:Int) != 0):=e
  subst e'
  exact PySem.W.truthy_bytes (by omega) ⟨H,I.tok _,q⟩
 |ref p=>
  cases rx
  have e':(∃xs,SqL X.K H p xs/\k = !xs.isEmpty)\/(∃xs,SqT X.K H p xs/\k = !xs.isEmpty)\/∃kvs,H p=some (.dK kvs)/\k = !kvs.isEmpty:=e
  rcases e' with⟨xs,hx,e'⟩|⟨xs,hx,e'⟩|⟨kvs,hx,e'⟩
  · subst e'
    obtain⟨its,r,pl,hz⟩:=I.list hx
    have hlen:=r.length
    exact wpAny_truthy_list pl.isList (by simp only[zzE];omega) ⟨H,I.tok _,by rw[zed r];exact q⟩
  · subst e'
    obtain⟨its,r,pl,hz⟩:=I.tuple hx
    have hlen:=r.length
    exact truthy_tuple pl (by simp only[zzE];omega) ⟨H,I.tok _,by rw[zed r];exact q⟩
  · subst e'
    obtain⟨hz,hS,vs,r,m⟩:kvs.length<=sizeLine/\(p==sysModules)=false/\∃vs,KV kvs vs/\s.heap.DictOf (wz X.prog X.w) p vs:=I.hok p _ hx
    have hlen:kvs.length=vs.length:=Paired.length r
    exact wpAny_truthy_dict hS m (by omega) ⟨H,I.tok _,by rw[ziS r];exact q⟩
 |_=>exact(show False from e).elim
theorem zlY(ha:PE X a ta)(he:∀whole,isTrue a X.env whole=(do let v <-whole;standAt a.pos;holding [v] (truthy v))):
 PT X a (λσ H Q=>ta σ H λx H'=>∃k,zpW X.K x H' k/\Q k H'):=by
 intro pins s σ H Q I h
 exact isTrue_plain (thn (ha pins s σ H _ I h) λv s1 ⟨x,H1,I1,r1,q1⟩=>zqv pins s1 σ H1 x v Q I1 r1 q1) (he _)
theorem ziX:OpR X (binaryOp .Add) (λx y H Q=>∃i j,x = .str i/\y = .str j/\i.length+j.length<=sizeLine/\Q (.str (i++j)) H):=by
 intro pins s σ H x y v u Q I rx ry h
 obtain⟨i,j,rfl,rfl,hz,q⟩:=h
 obtain⟨t,rfl⟩:=rx
 obtain⟨t',rfl⟩:=ry
 exact add_str (λt' tk=>⟨.str (i++j),H,I.tok _,⟨_,rfl⟩,q⟩) hz
theorem vals1(r:Vals [x] us):∃u,us=[u]/\RelV x u:=by
 cases r with
 |cons r1 r2=>cases r2;exact⟨_,rfl,r1⟩
theorem vals2(r:Vals [x,y] us):∃u w',us=[u,w']/\RelV x u/\RelV y w':=by
 cases r with
 |cons r1 r2=>
  cases r2 with
  |cons r3 r4=>cases r4;exact⟨_,_,rfl,r1,r3⟩
theorem zld(hc:X.calm=true):zap X (.builtin "max") (λxs H Q=>∃i j,xs=[.int i,.int j]/\Q (.int (if j > i then j else i)) H):=by
 intro pins s σ H xs us Q I r h
 obtain⟨i,j,rfl,q⟩:=h
 obtain⟨u,w',rfl,⟨t,rfl⟩,⟨t',rfl⟩⟩:=vals2 r
 refine max_two_ints (I.ok.hd hc) λh' tk k=>⟨_,H,I.kept k, ?_,q⟩
 by_cases hj:j > i
 · rw[if_pos hj,if_pos hj];exact⟨_,rfl⟩
 · rw[if_neg hj,if_neg hj];exact⟨_,rfl⟩
theorem zfS:zap X (.type "int") (λxs H Q=>(∃i,xs=[.int i]/\Q (.int i) H)\/∃k,xs=[.bl k]/\Q (.int (if k then 1 else 0)) H):=by
 intro pins s σ H xs us Q I r h
 rcases h with⟨i,rfl,q⟩|⟨k,rfl,q⟩
 · obtain⟨u,rfl,t,rfl⟩:=vals1 r
   exact call_int_int ⟨.int i,H,I,⟨_,rfl⟩,q⟩
 · obtain⟨u,rfl,r1⟩:=vals1 r
   cases r1
   exact call_int_bool ⟨.int (if k then 1 else 0),H,I.tok _,⟨_,rfl⟩,q⟩
end
end L2
namespace L2
open PySem PySem.Spec PyProof.Rows
structure ObjM(h:Heap)(x dx C:Addr)(mA:Str->Option Value):Prop where
 obj:h.get? x=some (PySem.W.instObj C dx)
 ns:h.Ns1 dx mA
 ne:dx≠x
theorem zfl.some_of(r:zfl (some v) o):∃u,o=some u/\RelV v u:=by
 cases o with
 |none=>exact(show False from r).elim
 |some u=>exact⟨u,rfl,r⟩
structure Cls(K:zC)(C:Addr):Prop where
 pg:PySem.W.plainGet K C Str.empty=true
 hd:PySem.W.hasDictIn K C=true
 po:PySem.W.plainOver K C=true
 sa:PySem.W.findIn K (.ref C) "__setattr__"=some (some (.builtin "object.__setattr__"))
structure Con(K:zC)(C:Addr)(f:Str)(v:V)(u:Value):Prop where
 at_:PySem.W.findIn K (.ref C) f=some (some u)
 rel:RelV v u
 get:PySem.W.specialIn K u "__get__"=some none
 cp:PySem.W.copiedNames.contains f=false
structure Meth(K:zC)(C:Addr)(m:Str)(f:Addr):Prop where
 at_:PySem.W.findIn K (.ref C) m=some (some (.ref f))
 fn:PySem.W.isFn K (.ref f)=true
 kp:PySem.W.keepIn K (.ref f)=true
section
variable{X:Cx}{pins:List (Addr×Obj)}{σ:St}{H:Hp}{s:Shared}{A:Around}{E:Value->Shared->Prop}{Q:Value->Shared->Prop}{c:Value}{b:Bool}
inductive TyOf(K:zC)(H:Hp):V->Value->Prop where
 |non:TyOf K H .non (.type "NoneType")
 |bl (x:Bool):TyOf K H (.bl x) (.type "bool")
 |int (i:Int):TyOf K H (.int i) (.type "int")
 |str (x:Str):TyOf K H (.str x) (.type "str")
 |flt (x:UInt64):TyOf K H (.flt x) (.type "float")
 |lst {a:Addr}{xs:List V}(e:H a=some (.lst xs)):TyOf K H (.ref a) (.type "list")
 |frz {a:Addr}{o:Obj}{xs:List V}(e:H a=some (.frz o (.lst xs))):TyOf K H (.ref a) (.type "list")
 |tup {a:Addr}{xs:List V}(e:H a=some (.tup xs)):TyOf K H (.ref a) (.type "tuple")
 |dK {a:Addr}{kvs:List (Key×V)}(e:H a=some (.dK kvs)):TyOf K H (.ref a) (.type "dict")
 |dT {a:Addr}{kvs:List (List Key×V)}(e:H a=some (.dT kvs)):TyOf K H (.ref a) (.type "dict")
 |ins {a C dx:Addr}{fs:List (Str×V)}(e:H a=some (.ins C dx fs)) (cl:Cls K C) (ha:PySem.W.findIn K (.ref C) "__class__"=some (some (.builtin "object.__class__")))
  (hn:PySem.W.specialIn K (.builtin "object.__class__") "__get__"=some (some (.builtin "getset_descriptor.__get__"))) (htk:PySem.W.takesIn K (.builtin "object.__class__")=some true)
  (hm:PySem.W.mroIn K C (.type "object")=some true):TyOf K H (.ref a) (.ref C)
end
end L2
namespace L2
open PySem PySem.Spec PyProof.Rows
structure Room(k:Nat)(A:Around):Prop where
 hd:A.handled=none
 dp:A.depth+3*k+5<recursionLimit
 un:A.units+16*k+200<cLine
 gd:A.guards=some []
theorem Room.mono(r:Room k A)(h:j<=k):Room j A:=⟨r.hd,by have:=r.dp;omega,by have:=r.un;omega,r.gd⟩
theorem Room.deeper(r:Room (k+1) A)(env:Env):Room k (A.deeper env):=
 ⟨r.hd,by have:=r.dp;show A.depth+1+3*k+5<_;omega,by have:=r.un;show A.units+3+16*k+200<_;omega,r.gd⟩
theorem Room.depth(r:Room k A):A.depth<recursionLimit:=by have:=r.dp;omega
theorem Room.units(r:Room k A):A.units+64<cLine:=by have:=r.un;omega
def zrB:TA:=λ_ H Q=>Q [] H
def zpA(ta:TE)(tr:TA):TA:=λσ H Q=>ta σ H λx H1=>tr σ H1 λxs H2=>Q (x::xs) H2
section
variable{X:Cx}{e:Expr}{es:List Expr}{te:TE}{t:TA}{pos:Pos}
theorem zaQ:PA X [] zrB:=λ_ _ _ _ H Q I h=>Calls.spliced_nil ⟨[],H,I,.nil,h⟩
theorem Xc(ha:PE X e te)(hr:PA X es t)(hs:starEach (e::es) X.env=(false,eval e X.env)::starEach es X.env:=by rfl):PA X (e::es) (zpA te t):=by
 intro pos pins s σ H Q I h
 rw[hs]
 show wpAny _ _ (spliced ((false,eval e X.env)::backTo pos (starEach es X.env))) _ _ s
 refine Calls.spliced_cons (thn (ha pins s σ H _ I h) λu s1 ⟨x,H1,I1,r1,q1⟩=>?_)
 exact thn (hr pos pins s1 σ H1 _ I1 q1) λus s2 ⟨xs,H2,I2,r2,q2⟩=>⟨x::xs,H2,I2,.cons r1 r2,q2⟩
def ztv(t:TA):TE:=λσ H Q=>t σ H λxs H1=>xs.length<=sizeLine/\∀p,H1 p=none->Q (.ref p) (upd H1 p (.tup xs))
def ztg(t:TA):TE:=λσ H Q=>t σ H λxs H1=>xs.length<=sizeLine/\∀p,H1 p=none->Q (.ref p) (upd H1 p (.lst xs))
theorem zpM(h:PA X es t):PE X (.Tuple es x1 pos) (ztv t):=by
 intro pins s σ H Q I hq
 refine wpAny_Tuple_spliced (thn (h pos pins s σ H _ I hq) λus s1 ⟨xs,H1,I1,r,z,q⟩=>⟨by rw[<-r.length];exact z, ?_⟩)
 have hf:H1 s1.heap.objs.size=none:=I1.hok.fresh (zzK _)
 refine⟨.ref s1.heap.objs.size,upd H1 s1.heap.objs.size (.tup xs),I1.laid (t':=s1.toks) (λb u e=>zxD _ e) (zzK _) ?_,rfl,q _ hf⟩
 exact⟨z,us,r,⟨_,zxF _ rfl,rfl,_,rfl⟩⟩
theorem zlw(h:PA X es t):PE X (.List es pos) (ztg t):=by
 intro pins s σ H Q I hq
 refine wpAny_List_spliced (thn (h pos pins s σ H _ I hq) λus s1 ⟨xs,H1,I1,r,z,q⟩=>⟨by rw[<-r.length];exact z, ?_⟩)
 have hf:H1 s1.heap.objs.size=none:=I1.hok.fresh (zzK _)
 refine⟨.ref s1.heap.objs.size,upd H1 s1.heap.objs.size (.lst xs),I1.laid (t':=s1.toks) (λb u e=>zxD _ e) (zzK _) ?_,rfl,q _ hf⟩
 exact⟨z,us,0,r,zxF _ rfl⟩
end
abbrev Sp:=List V->Hp->VK->XK->Prop
abbrev CXT:=List Env->Hp->Shared->XK->Value->Shared->Prop
structure Env0(P:Program)(w:World)(K:zC)(mg:Str->Option Value)(base:Heap)(A:Around)(outer:List Env)(s:Shared)(H:Hp):Prop where
 frames:A.frames=some outer
 mod:Mod K mg base
 bs:∀b o,base.get? b=some o->s.heap.get? b=some o/\H b=none
 bsz:base.objs.size<=s.heap.objs.size
 funs:s.heap.FunFrames base outer
 frf:∀b ∈ frs outer,H b=none
 hok:HOk P w H s.heap
 bare:AllBare s.gens
def CE(outer:List Env)(P:Program)(w:World)(H:Hp)(s:Shared)(Q:VK)(u:Value)(s':Shared):Prop:=
 ∃v H',s'.os=s.os/\AllBare s'.gens/\Un (frs outer) [] H H' s.heap s'.heap/\HOk P w H' s'.heap/\RelV v u/\Q v H'
def CR(CX:CXT)(outer:List Env)(P:Program)(w:World)(H:Hp)(s:Shared)(Q:VK)(E:XK)(r:Result)(s':Shared):Prop:=
 match r with
 | .ok (.ret u)=>CE outer P w H s Q u s'
 | .ok _=>False
 | .error e=>CX outer H s E e s'
structure FnOk(P:Program)(w:World)(K:zC)(mg:Str->Option Value)(base:Heap)(CX:CXT)(k:Nat)(f:Addr)(fd:FuncData)(ps:List Str)(sp:Sp):Prop where
 len:∀vs H Q E,sp vs H Q E->vs.length=ps.length
 run:∀(A:Around) (outer:List Env) (s:Shared) (H:Hp) (args:Args) (us:List Value) (vs:List V) (Q:VK) (E:XK),Room k A->Env0 P w K mg base A outer s H->BindsTo s fd args (ps.zip us)->Vals vs us->sp vs H Q E->
  codeAny (model P w) A (.call (.ref f) args) (CR CX outer P w H s Q E) s
theorem FnOk.imp{P:Program}{w:World}{K:zC}{mg:Str->Option Value}{base:Heap}{CX:CXT}{k:Nat}{f:Addr}{fd:FuncData}{ps:List Str}{sp sp':Sp}(F:FnOk P w K mg base CX k f fd ps sp)
 (h:∀vs H Q E,sp' vs H Q E->sp vs H Q E):FnOk P w K mg base CX k f fd ps sp':=
 ⟨λvs H Q E q=>F.len vs H Q E (h _ _ _ _ q),λA outer s H args us vs Q E hr he hb hv hs=>F.run A outer s H args us vs Q E hr he hb hv (h _ _ _ _ hs)⟩
section
variable{X:Cx}{pins:List (Addr×Obj)}{σ:St}{H:Hp}{s s':Shared}
theorem Inv.env0(I:Inv X pins σ H s):Env0 X.prog X.w X.K X.mg X.base X.A X.stack s H:=
 ⟨I.ok.frames,I.ok.mod,I.bs,zzL I.ok.bsz I.sz,I.stack,I.stkFree,I.hok,I.bare⟩
theorem Inv.after(I:Inv X pins σ H s)(h:CE X.stack X.prog X.w H s Q u s'):EP X pins σ Q u s':=by
 obtain⟨v,H',os,bare,un,hok,r,q⟩:=h
 obtain⟨hh,g,d,t,os'⟩:=s'
 obtain rfl:os'=s.os:=os
 exact⟨v,H',I.call (h':=hh) (g':=g) (d':=d) (t':=t) (ch:=[]) un hok bare (λb z=>absurd z (by simp)),r,q⟩
end
def zpf(sp:Sp)(dvs:List V)(E:XK)(t:TA):TE:=λσ H Q=>t σ H λvs H1=>sp (vs++dvs) H1 Q E
def Binds(K:zC)(fd:FuncData)(ps:List Str)(ds:List Value):Prop:=
 ∀(s:Shared) (us:List Value),K.In s.heap->(us++ds).length=ps.length->BindsTo s fd ⟨us,[]⟩ (ps.zip (us++ds))
theorem Binds.all{K:zC}{fd:FuncData}{ps:List Str}(h:∀us:List Value,us.length=ps.length->bindArgs fd ⟨us,[]⟩=pure (ps.zip us)):Binds K fd ps []:=λs us _ hl=>by
 rw[zyB]at hl ⊢
 exact .of_eq (h us hl)
def zgn(CX:CXT)(X:Cx)(E:XK):Prop:=∀(pins:List (Addr×Obj)) (σ:St) (H:Hp) (s:Shared) (e:Value) (s':Shared),Inv X pins σ H s->CX X.stack H s E e s'->X.xe e s'
section
variable{X:Cx}{CX:CXT}{k:Nat}{f C:Addr}{fd:FuncData}{ps:List Str}{sp:Sp}{dvs:List V}{ds:List Value}{E:XK}{x m:Str}{p pos apos:Pos}{e o:Expr}{es:List Expr}{ta:TE}{t:TA}
theorem zpC(F:FnOk X.prog X.w X.K X.mg X.base CX k f fd ps sp)(hr:Room k X.A)(hb:Binds X.K fd ps ds)(hd:Vals dvs ds)(hx:zgn CX X E)
 (I:Inv X pins σ H s) (r:Vals vs us) (h:sp (vs++dvs) H Q E):wpAny (model X.prog X.w) X.A (call (.ref f) us) (EP X pins σ Q) X.xe s:=by
 have r2:Vals (vs++dvs) (us++ds):=r.append hd
 have hl:(us++ds).length=ps.length:=by rw[<-r2.length];exact F.len _ _ _ _ h
 refine wpAny_call (codeAny_mono (F.run X.A X.stack s H ⟨us,[]⟩ (us++ds) (vs++dvs) Q E hr I.env0 (hb s us I.kIn hl) r2 h) λr s' hq=>?_)
 cases r with
 |error e=>exact hx pins σ H s e s' I hq
 |ok fl=>
  cases fl with
  |ret u=>exact I.after hq
  |next=>exact False.elim hq
  |brk=>exact False.elim hq
  |cont=>exact False.elim hq
theorem zor(F:FnOk X.prog X.w X.K X.mg X.base CX k f fd ps sp)(hr:Room k X.A)(hg:Gl X x)(hm:X.mg x=some (.ref f))(hk:PySem.W.keepIn X.K (.ref f)=true)(hb:Binds X.K fd ps ds)(hd:Vals dvs ds)(hx:zgn CX X E)
 (ha:PA X (e::es) t) (hdb:(x==("__debug__":Str))=false:=by decide) (he:starEach (e::es) X.env=(false,eval e X.env)::starEach es X.env:=by rfl) (hpl:(backTo pos (starEach es X.env)).any (·.1)=false:=by rfl):
 PE X (.Call (.Name x p) (e::es) [] pos) (zpf sp dvs E t):=by
 intro pins s σ H Q I h
 refine wpAny_Call_Name_kw (zoZ I hg hm ?_ hdb)
 refine PySem.W.callWith_K (h₀:=X.base) I.ok.mod.kin hk (thn (ha pos pins s σ H _ I h) λus s1 ⟨vs,H1,I1,r,q⟩=>⟨I1.kIn, ?_⟩) he hpl
 exact zpC F hr hb hd hx I1 r q
structure Mk(K:zC)(C f:Addr):Prop where
 makes:PySem.W.makesIn K C=true
 init:PySem.W.findIn K (.ref C) "__init__"=some (some (.ref f))
 fn:PySem.W.isFn K (.ref f)=true
 kp:PySem.W.keepIn K (.ref C)=true
end
section
variable{X:Cx}{CX:CXT}{k:Nat}{f C:Addr}{fd:FuncData}{ps ks:List Str}{sp:Sp}{E:XK}{x m:Str}{p pos apos kpos:Pos}{e o:Expr}{es:List Expr}{kws:List Keyword}{te ta:TE}{t tk:TA}{nm:Option Str}
structure KBinds(K:zC)(fd:FuncData)(ps ks:List Str)(g:List Value->List Value->List Value)(gV:List V->List V->List V):Prop where
 to:∀(s:Shared) (us ws:List Value),K.In s.heap->(g us ws).length=ps.length->BindsTo s fd ⟨us,ks.zip ws⟩ (ps.zip (g us ws))
 rel:∀{vs:List V}{us:List Value}{zs:List V}{ws:List Value},Vals vs us->Vals zs ws->Vals (gV vs zs) (g us ws)
variable{g:List Value->List Value->List Value}{gV:List V->List V->List V}
end
structure FnScope(N P:List Str)(sc:Scope):Prop where
 kind:sc.kind = .function
 co:sc.isCoroutine=false
 gen:sc.isGenerator=false
 nd:N.Nodup
 pre:N.take P.length=P
 par:∀x ∈ P,sc.names.lookup x=some .local\/sc.names.lookup x=some .cell
 nofree:∀y ∈ sc.names,y.2 ≠ .free
theorem zgb{kindOf:Str->Option NameKind}{x:Str}:∀{binds:List (Str×Value)}{m:Str->Option Value},(∀v,(x,v) ∉ binds)->bindL kindOf binds m x=m x
 | [],_,_=>rfl
 |(n,v)::r,m,h=>by
  unfold bindL
  rw[zgb λw hw=>h w (zzA _ hw)]
  split
  · have:x≠n:=by rintro rfl;exact h v zzC
    simp[this]
  · rfl
theorem zfA{kindOf:Str->Option NameKind}{x:Str}:∀{binds:List (Str×Value)}{m:Str->Option Value},(∀v,(x,v) ∉ binds)->bindC kindOf binds m x=m x
 | [],_,_=>rfl
 |(n,v)::r,m,h=>by
  unfold bindC
  rw[zfA λw hw=>h w (zzA _ hw)]
  split
  · rfl
  · have:x≠n:=by rintro rfl;exact h v zzC
    simp[this]
theorem zgg{kindOf:Str->Option NameKind}{x:Str}{v:Value}:∀{P:List Str}{vs:List Value}{i:Nat}{m:Str->Option Value},P.Nodup->P[i]? = some x->vs[i]? = some v->kindOf x=some .local->
 bindL kindOf (P.zip vs) m x=some v
 | [],_,_,_,_,h,_,_=>by simp at h
 |_::_,[],_,_,_,_,h,_=>by simp at h
 |p::P,w::vs,0,m,nd,h1,h2,hk=>by
  simp at h1 h2;subst h1;subst h2
  show bindL kindOf ((p,w)::P.zip vs) m p=_
  unfold bindL
  rw[zgb λv hv=>(zzT.mp nd).1 (List.of_mem_zip hv).1,if_pos hk]
  simp
 |p::P,w::vs,i+1,m,nd,h1,h2,hk=>by
  show bindL kindOf ((p,w)::P.zip vs) m x=_
  unfold bindL
  exact zgg (i:=i) (zzT.mp nd).2 (by simpa using h1) (by simpa using h2) hk
theorem zgj{kindOf:Str->Option NameKind}{x:Str}{v:Value}:∀{P:List Str}{vs:List Value}{i:Nat}{m:Str->Option Value},P.Nodup->P[i]? = some x->vs[i]? = some v->kindOf x≠some .local->
 bindC kindOf (P.zip vs) m x=some v
 | [],_,_,_,_,h,_,_=>by simp at h
 |_::_,[],_,_,_,_,h,_=>by simp at h
 |p::P,w::vs,0,m,nd,h1,h2,hk=>by
  simp at h1 h2;subst h1;subst h2
  show bindC kindOf ((p,w)::P.zip vs) m p=_
  unfold bindC
  rw[zfA λv hv=>(zzT.mp nd).1 (List.of_mem_zip hv).1,if_neg hk]
  simp
 |p::P,w::vs,i+1,m,nd,h1,h2,hk=>by
  show bindC kindOf ((p,w)::P.zip vs) m x=_
  unfold bindC
  exact zgj (i:=i) (zzT.mp nd).2 (by simpa using h1) (by simpa using h2) hk
def start(N:List Str)(vs:List V):St:=vs.map some++List.replicate (N.length-vs.length) none
def zjv(CX:CXT)(P:Program)(w:World)(K:zC)(mg:Str->Option Value)(base:Heap)(N:List Str)(qual:Str)(scope:Scope)(f:Addr)(cd:Value)(A:Around)(outer:List Env)(s:Shared)(H:Hp)(E:XK):Cx where
 prog:=P
 w:=w
 K:=K
 mg:=mg
 base:=base
 A:=A.deeper (envOfC qual scope s.heap.objs.size f cd)
 N:=N
 s₀:=s
 H₀:=H
 env:=envOfC qual scope s.heap.objs.size f cd
 outer:=outer
 stack:=envOfC qual scope s.heap.objs.size f cd::outer
 ex:=[]
 calm:=true
 fn:=λ_=>true
 pn:=[]
 xe:=λe s'=>wpAny (model P w) (A.deeper (envOfC qual scope s.heap.objs.size f cd)) (leaving (envOfC qual scope s.heap.objs.size f cd) e) (λ_ s''=>CX outer H s E e s'') (λe' s''=>CX outer H s E e' s'') s'
theorem zhq{sc:Scope}{n:Nat}{x:Str}(h:sc.names.lookup x=some .cell):∃c,(cellsFrom n sc.names []).lookup x=some c:=by
 have q:=PySem.W.cellsFrom_some sc.names n [] (.inl h)
 exact Option.isSome_iff_exists.mp q
theorem zkS{CX:CXT}{P:Program}{w:World}{K:zC}{mg:Str->Option Value}{base:Heap}{N ps:List Str}{qual:Str}{scope:Scope}{f:Addr}{cd:Value}{A:Around}{outer:List Env}{s s1:Shared}{H:Hp}{E:XK}{us:List Value}{vs:List V}
 (S:FnScope N ps scope) (hd:A.handled=none) (e0:Env0 P w K mg base A outer s H) (hl:vs.length=ps.length) (r:Vals vs us)
 (x:InCallC s s.heap.objs.size (bindL (envOfC qual scope s.heap.objs.size f cd).kindOf (ps.zip us) λ_=>none) (cellsFrom (s.heap.objs.size+1) scope.names []) (bindC (envOfC qual scope s.heap.objs.size f cd).kindOf (ps.zip us) λ_=>none) s1):
 Inv (zjv CX P w K mg base N qual scope f cd A outer s H E) [] (start N vs) H s1:=by
 have hpl:ps.length<=N.length:=by have:=congrArg List.length S.pre;rw[zzP]at this;omega
 obtain⟨h1,tk,rfl,hk⟩:=x.done
 have noA:∀b:Addr,b ∉ (zjv CX P w K mg base N qual scope f cd A outer s H E).ex:=λb z=>absurd (show b ∈ ([]:List Addr)from z) (by simp)
 refine⟨⟨e0.mod,S.kind,rfl,rfl,zzK _,λy z c h1 h2=>?_,λy hy=>?_,λy c _ h=>?_,λ_=>hd,Around.frames_deeper e0.frames,.inr ⟨rfl,rfl⟩,λb z=>absurd z (noA b),e0.bs,e0.bsz,λb _ _=>noA b,λb z=>absurd z (noA b),e0.funs,e0.frf⟩,
  rfl,e0.bare,Un.kept hk,⟨_,x.toInCall.ns,λi y v h1 h2 h3=>?_⟩,λy c h=>⟨_,x.cell y c h⟩,e0.hok.fresh (zzK _),λy c h=>?_,λp hp=>absurd (show p ∈ ([]:List (Addr×Obj))from hp) (by simp),e0.hok.kept hk, ?_⟩
 · exact name_of_addr x.apart (PySem.mem_of_lookup h1) (PySem.mem_of_lookup h2)
 · have hy:scope.names.lookup y=some .cell\/scope.names.lookup y=some .free:=hy
   rcases hy with hy|hy
   · exact zhq hy
   · exact absurd rfl (S.nofree _ (PySem.mem_of_lookup hy))
 · exact Nat.le_of_lt (x.above y c (PySem.mem_of_lookup h))
 · have hi:i<vs.length:=by
    unfold start at h2
    by_cases hi:i<vs.length
    · exact hi
    · rw[zyO (by simpa using hi)]at h2
      rw[List.getElem?_replicate]at h2
      split at h2<;>cases h2
   have ha:vs[i]? = some v:=by
    unfold start at h2
    rw[zyM (by simpa using hi),zzF]at h2
    cases e:vs[i]? with
    |none=>rw[e]at h2;cases h2
    |some a=>rw[e]at h2;cases h2;rfl
   obtain⟨u,hu,rv⟩:=r.get ha
   have hp:ps[i]? = some y:=by
    rw[<-S.pre,List.getElem?_take_of_lt (by omega)];exact h1
   have ndP:ps.Nodup:=by rw[<-S.pre];exact S.nd.sublist (List.take_sublist _ _)
   refine⟨u,rv, ?_⟩
   rcases S.par y (zzX hp)with k|k
   · exact .inl ⟨k,zgg ndP hp hu k⟩
   · obtain⟨c,e⟩:=zhq (n:=s.heap.objs.size+1) k
     refine .inr ⟨.inl k,c,e, ?_⟩
     have q:=x.cell y c e
     rw[zgj ndP hp hu (by show scope.names.lookup y≠_;rw[k];decide)]at q
     exact q
 · exact e0.hok.fresh (Nat.le_of_lt (x.above y c (PySem.mem_of_lookup h)))
 · unfold start
   show _=N.length
   rw[zzG,zD,List.length_replicate]
   omega
theorem zsp{CX:CXT}{P:Program}{w:World}{K:zC}{mg:Str->Option Value}{base:Heap}{k:Nat}{f:Addr}{name qual:Str}{params:Arguments}{body:List Stmt}{scope:Scope}{dV kV doc pm cdv ct oc:Value}{an od:Option Addr}
 {osl:Array (Option Value)}{N ps:List Str}{sp:Sp}(lk:K.lookup f=some ⟨oc,od,.func (PySem.W.fnOf name qual params body scope dV kV doc pm an cdv ct),osl⟩) (hcd:PySem.W.codeIn K cdv qual=true) (S:FnScope N ps scope)
 (len:∀vs H Q E,sp vs H Q E->vs.length=ps.length)
 (hbody:∀(A:Around) (outer:List Env) (s:Shared) (H:Hp) (vs:List V) (Q:VK) (E:XK),Room k (A.deeper (envOfC qual scope s.heap.objs.size f cdv))->sp vs H Q E->
  ∃t,PSs (zjv CX P w K mg base N qual scope f cdv A outer s H E) body t/\t {nx:=λ_ H'=>Q .non H',rt:=Q} (start N vs) H):
 FnOk P w K mg base CX (k+1) f (PySem.W.fnOf name qual params body scope dV kV doc pm an cdv ct) ps sp:=by
 refine⟨len,λA outer s H args us vs Q E hr e0 hb r hsp=>?_⟩
 have hl:=len _ _ _ _ hsp
 have KX:K.In s.heap:=e0.mod.kin.keeps λb o e=>(e0.bs b o e).1
 have lim:s.heap.NoLimit:=e0.mod.nolimit.keeps λb o e=>(e0.bs b o e).1
 have hkind:∀y ∈ ps.zip us,scope.names.lookup y.1=some .local\/(scope.names.lookup y.1=some .cell/\((cellsFrom (s.heap.objs.size+1) scope.names []).lookup y.1).isSome=true):=λ⟨n,v⟩ hy=>by
  rcases S.par n (List.of_mem_zip hy).1 with q|q
  · exact .inl q
  · exact .inr ⟨q,PySem.W.cellsFrom_some _ _ _ (.inl q)⟩
 refine codeAny_call_function hr.depth (KX _ _ lk) rfl S.co S.gen rfl (PySem.W.codeRec_of KX hcd) (hb _ _ _ _ ?_)
 refine wpAny_newFunctionEnv_cells S.kind hkind λenv he s1 x=>?_
 subst he
 refine⟨lim.keeps x.toInCall.keep,codeAny_func ?_⟩
 obtain⟨t,ht,hq⟩:=hbody A outer s H vs Q E (hr.deeper _) hsp
 have I:Inv (zjv CX P w K mg base N qual scope f cdv A outer s H E) [] (start N vs) H s1:=zkS S hr.hd e0 hl r x
 refine zxJ (ht [] s1 (start N vs) H _ I hq) (λfl s' hs=>?_) λe s' hs=>hs
 have fin:∀{σ':St}{H':Hp}{v:V}{u:Value},Inv (zjv CX P w K mg base N qual scope f cdv A outer s H E) [] σ' H' s'->RelV v u->Q v H'->CE outer P w H s Q u s':=
  λ{σ' H' v u} J rv q=>⟨v,H',J.os,J.bare,J.base,J.hok,rv,q⟩
 cases fl with
 |ret u=>
  obtain⟨v,σ',H',J,rv,q⟩:=hs
  exact fin J rv q
 |next=>
  obtain⟨σ',H',J,q⟩:=hs
  exact fin (v:=V.non) (u:=Value.none) J rfl q
 |brk=>
  obtain⟨_,_,_,q⟩:=hs
  exact False.elim q
 |cont=>
  obtain⟨_,_,_,q⟩:=hs
  exact False.elim q
end L2
namespace L2
open PySem PySem.Spec PyProof.Rows
section
variable{X:Cx}{x:Str}{p pos:Pos}{e:Expr}{es:List Expr}{t:TA}{id T:String}{r:List V->Hp->VK->Prop}
def tCB(r:List V->Hp->VK->Prop)(t:TA):TE:=λσ H Q=>t σ H λvs H1=>r vs H1 Q
theorem zec(hc:zap X (.builtin id) r)(hg:Gl X x)(hm:X.mg x=none)(hv:bootBuiltins x=some (.builtin id))(ha:PA X (e::es) t)(hn:x≠"__name__":=by decide)(hdb:(x==("__debug__":Str))=false:=by decide)
 (he:starEach (e::es) X.env=(false,eval e X.env)::starEach es X.env:=by rfl) (hpl:(backTo pos (starEach es X.env)).any (·.1)=false:=by rfl):PE X (.Call (.Name x p) (e::es) [] pos) (tCB r t):=by
 intro pins s σ H Q I h
 refine wpAny_Call_Name_kw (Vy I hg hm hv ?_ hn hdb)
 exact PyProof.Rows.callWith_builtin1 (thn (ha pos pins s σ H _ I h) λus s1 ⟨vs,H1,I1,r1,q1⟩=>hc pins s1 σ H1 vs us Q I1 r1 q1) he hpl
theorem zkH(hc:zap X (.type T) r)(hg:Gl X x)(hm:X.mg x=none)(hv:bootBuiltins x=some (.type T))(ha:PA X (e::es) t)(hn:x≠"__name__":=by decide)(hdb:(x==("__debug__":Str))=false:=by decide)
 (he:starEach (e::es) X.env=(false,eval e X.env)::starEach es X.env:=by rfl) (hpl:(backTo pos (starEach es X.env)).any (·.1)=false:=by rfl):PE X (.Call (.Name x p) (e::es) [] pos) (tCB r t):=by
 intro pins s σ H Q I h
 refine wpAny_Call_Name_kw (Vy I hg hm hv ?_ hn hdb)
 exact PyProof.Rows.callWith_type1 (thn (ha pos pins s σ H _ I h) λus s1 ⟨vs,H1,I1,r1,q1⟩=>hc pins s1 σ H1 vs us Q I1 r1 q1) he hpl
end
end L2
namespace L2
open PySem PySem.Spec PyProof.Rows
section
variable{κ:Type}[DecidableEq κ]
def Yd(kvs:List (κ×V))(k:κ):Option V:=(kvs.find? λkv=>decide (kv.1=k)).map (·.2)
def putK(kvs:List (κ×V))(k:κ)(v:V):List (κ×V):=
 if(kvs.any λkv=>decide (kv.1=k))=true then kvs.map (λkv=>if kv.1=k then(kv.1,v)else kv)else kvs++[(k,v)]
theorem zdV{p:κ×V}{r:List (κ×V)}{k:κ}(e:p.1=k):Yd (p::r) k=some p.2:=by simp[Yd,List.find?_cons,e]
theorem zdS{p:κ×V}{r:List (κ×V)}{k:κ}(e:¬p.1=k):Yd (p::r) k=Yd r k:=by simp[Yd,List.find?_cons,e]
theorem zie(k:κ):∀kvs:List (κ×V),(kvs.any λkv=>decide (kv.1=k))=(Yd kvs k).isSome
 | []=>rfl
 |p::r=>by
  rw[List.any_cons]
  by_cases e:p.1=k
  · simp only[zdV e,zyL e,Bool.true_or,Option.isSome_some]
  · rw[zdS e,zyD e,Bool.false_or];exact zie k r
theorem zcL(kvs:List (κ×V))(k:κ)(v:V):(putK kvs k v).length<=kvs.length+1:=by
 unfold putK
 split
 · rw[zD];omega
 · rw[zzG,zzQ,List.length_nil];omega
theorem zfl.isSome_eq(r:zfl o u):o.isSome=u.isSome:=by
 cases o with
 |none=>cases u with
  |none=>rfl
  |some _=>exact(show False from r).elim
 |some _=>cases u with
  |none=>exact(show False from r).elim
  |some _=>rfl
theorem KV.val{kvs:List (κ×V)}{vs:List (κ×Value)}(r:KV kvs vs)(k:κ):zfl (Yd kvs k) (valueAt vs k):=by
 unfold KV at r
 induction r with
 |nil=>exact True.intro
 | @cons p q ps qs h t ih=>
  obtain⟨h1,h2⟩:=h
  by_cases e:p.1=k
  · have e':q.1=k:=h1.symm.trans e
    have b:valueAt (q::qs) k=some q.2:=by simp[valueAt,List.find?_cons,e']
    rw[zdV e,b];exact h2
  · have e':¬q.1=k:=λz=>e (h1.trans z)
    have b:valueAt (q::qs) k=valueAt qs k:=by simp[valueAt,List.find?_cons,e']
    rw[zdS e,b];exact ih
theorem KV.any(r:KV kvs vs)(k:κ):(kvs.any λkv=>decide (kv.1=k))=vs.any λkv=>decide (kv.1=k):=by
 unfold KV at r
 induction r with
 |nil=>rfl
 |cons h t ih=>rw[List.any_cons,List.any_cons,ih,h.1]
theorem KV.repl(r:KV kvs vs)(k:κ)(ry:RelV y u):
 KV (kvs.map λkv=>if kv.1=k then(kv.1,y)else kv) (vs.map λkv=>if kv.1=k then(kv.1,u)else kv):=by
 unfold KV at r ⊢
 induction r with
 |nil=>exact .nil
 | @cons p q ps qs h t ih=>
  rw[zyP,zyP]
  refine .cons ?_ ih
  obtain⟨h1,h2⟩:=h
  by_cases e:p.1=k
  · rw[if_pos e,if_pos (h1.symm.trans e)];exact⟨h1,ry⟩
  · rw[if_neg e,if_neg (λz=>e (h1.trans z))];exact⟨h1,h2⟩
theorem KV.put(r:KV kvs vs)(k:κ)(ry:RelV y u):KV (putK kvs k y) (stored vs k u):=by
 unfold putK stored
 rw[r.any k]
 by_cases e:(vs.any λkv=>decide (kv.1=k))=true
 · rw[if_pos e,if_pos e];exact r.repl k ry
 · rw[if_neg e,if_neg e];exact Paired.snoc r ⟨rfl,ry⟩
theorem KV.length(r:KV kvs vs):kvs.length=vs.length:=Paired.length r
end
theorem zcW(r:RelV (kV k) u):(wz P w).is k u=true:=by
 cases k with
 |inl i=>obtain⟨t,e⟩:=(show ∃t,u=Value.int i t from r);subst e;exact ziu P w i t
 |inr x=>obtain⟨t,e⟩:=(show ∃t,u=Value.str x t from r);subst e;exact Vo P w x t
theorem zfM:∀{ks:List Key}{us:List Value},Vals (ks.map kV) us->ItemsAre (wz P w) ks us
 | [],_,r=>by rw[List.map_nil]at r;cases r;exact .nil
 |k::ks,_,r=>by
  rw[zyP]at r
  cases r with
  |cons h t=>exact .cons (zcW h) (zfM t)
abbrev KT(H:Hp):List (List Key×V)->List (List Key×Addr×Value)->Prop:=Paired λp q=>p.1=q.1/\H q.2.1=some (.tup (p.1.map kV))/\RelV p.2 q.2.2
theorem KT.val{H:Hp}{kvs:List (List Key×V)}{xs:List (List Key×Addr×Value)}(r:KT H kvs xs)(k:List Key):zfl (Yd kvs k) ((atKey xs k).map (·.2)):=by
 induction r with
 |nil=>exact True.intro
 | @cons p q ps qs h t ih=>
  obtain⟨h1,_,h2⟩:=h
  by_cases e:p.1=k
  · have e':q.1=k:=h1.symm.trans e
    have b:atKey (q::qs) k=some q.2:=by simp[atKey,List.find?_cons,e']
    rw[zdV e,b];exact h2
  · have e':¬q.1=k:=λz=>e (h1.trans z)
    have b:atKey (q::qs) k=atKey qs k:=by simp[atKey,List.find?_cons,e']
    rw[zdS e,b];exact ih
theorem KT.repl(r:KT H kvs xs)(k:List Key)(ry:RelV y u):
 KT H (kvs.map λkv=>if kv.1=k then(kv.1,y)else kv) (xs.map (putAt k u)):=by
 induction r with
 |nil=>exact .nil
 | @cons p q ps qs h t ih=>
  rw[zyP,zyP]
  refine .cons ?_ ih
  obtain⟨h1,h2,h3⟩:=h
  unfold putAt
  by_cases e:p.1=k
  · rw[if_pos e,if_pos (h1.symm.trans e)];exact⟨h1,h2,ry⟩
  · rw[if_neg e,if_neg (λz=>e (h1.trans z))];exact⟨h1,h2,h3⟩
theorem KT.put(r:KT H kvs xs)(k:List Key)(hb:H b=some (.tup (k.map kV)))(ry:RelV y u):
 KT H (putK kvs k y) (storedH xs k b u):=by
 have e:(kvs.any λkv=>decide (kv.1=k))=(atKey xs k).isSome:=by
  rw[zie,(r.val k).isSome_eq,Option.isSome_map]
 unfold putK storedH
 rw[e]
 by_cases q:(atKey xs k).isSome=true
 · rw[if_pos q,if_pos q];exact r.repl k ry
 · rw[if_neg q,if_neg q];exact Paired.snoc r ⟨rfl,hb,ry⟩
theorem KT.keeps(r:KT H kvs xs)(ht:∀b ys,H b=some (.tup ys)->H' b=some (.tup ys)):KT H' kvs xs:=
 Paired.mapP r λ_ _ z=>⟨z.1,ht _ _ z.2.1,z.2.2⟩
section
variable{P:Program}{w:World}{H:Hp}{h:Heap}{a:Addr}
theorem zpd(ok:HOk P w H h)(e:Rd H a u):vm P w H h a u:=e.ok ok
theorem zfX(ok:HOk P w H h)(e:Rd H a (.dK kvs)):kvs.length<=sizeLine/\(a==sysModules)=false/\∃vs,KV kvs vs/\h.DictOf (wz P w) a vs:=
 show vm P w H h a (.dK kvs)from zpd ok e
theorem zso(ok:HOk P w H h)(e:H a=some (.dK kvs)):kvs.length<=sizeLine/\(a==sysModules)=false/\∃vs,KV kvs vs/\h.DictOf (wz P w) a vs:=zfX ok (.inl e)
theorem zcw(ok:HOk P w H h)(e:H a=some (.tup (ks.map kV))):(tupleKind (wz P w)).is h ks a:=by
 obtain⟨_,its,r,o,h1,h2,n,h3⟩:=(show vm P w H h a (.tup (ks.map kV))from ok a _ e)
 exact⟨o,its.toArray,n,h1,h2,h3,by simpa using zfM r⟩
theorem zhM(ok:HOk P w H h)(e:Rd H a (.dT kvs)):kvs.length<=sizeLine/\(a==sysModules)=false/\
 ∃xs,KT H kvs xs/\h.DictOfH (tupleKind (wz P w)) a xs:=by
 obtain⟨z,y,xs,r,o,es,ep,h1,h2,h3,h4,h5⟩:=(show vm P w H h a (.dT kvs)from zpd ok e)
 refine⟨z,y,xs,r,o,es,ep,h1,h2,h3,h4,λx hx=>?_,h5⟩
 have all:∀{l:List (List Key×V)}{m:List (List Key×Addr×Value)},KT H l m->∀x ∈ m,(tupleKind (wz P w)).is h x.1 x.2.1:=by
  intro l m q
  induction q with
  |nil=>intro x hx;exact nomatch hx
  | @cons p q ps qs hq t ih=>
   intro x hx
   rcases zI.mp hx with e|hx
   · subst e
     exact zcw ok (by rw[<-hq.1];exact hq.2.1)
   · exact ih x hx
 exact all r x hx
theorem zpm(ok:HOk P w H h)(e:H a=some (.dT kvs)):kvs.length<=sizeLine/\(a==sysModules)=false/\
 ∃xs,KT H kvs xs/\h.DictOfH (tupleKind (wz P w)) a xs:=zhM ok (.inl e)
end
def zgw(H:Hp)(a:Addr)(y:V)(r:Option V):Prop:=
 (∃kvs k,Rd H a (.dK kvs)/\y=kV k/\r=Yd kvs k)\/∃kvs k b,Rd H a (.dT kvs)/\y = .ref b/\H b=some (.tup (k.map kV))/\r=Yd kvs k
def zrA(H:Hp)(a:Addr)(y v:V)(H':Hp):Prop:=
 (∃kvs k,H a=some (.dK kvs)/\y=kV k/\kvs.length<sizeLine/\H'=upd H a (.dK (putK kvs k v))) \/
 ∃kvs k b,H a=some (.dT kvs)/\y = .ref b/\H b=some (.tup (k.map kV))/\kvs.length<sizeLine/\H'=upd H a (.dT (putK kvs k v))
theorem zgw.t{H:Hp}{a b:Addr}{kvs:List (List Key×V)}{k:List Key}(e:H a=some (.dT kvs))(eb:H b=some (.tup (k.map kV))):zgw H a (.ref b) (Yd kvs k):=.inr ⟨kvs,k,b,.inl e,rfl,eb,rfl⟩
section
variable{X:Cx}{pins:List (Addr×Obj)}{σ:St}{H:Hp}{s:Shared}{a:Addr}{y v:V}{u r:Value}{o:Option V}{A:Around}{E:Value->Shared->Prop}
theorem Inv.big(I:Inv X pins σ H s):sysModules<s.heap.objs.size:=by
 have h:mainGlobals<s.heap.objs.size:=(I.mod.glob.keeps I.bk).lt
 exact Nat.lt_trans (by decide) h
theorem zkY(hu:A.units+1<cLine)(I:Inv X pins σ H s)(g:zgw H a y (some v))(ry:RelV y u)(h:∀w' s',Inv X pins σ H s'->RelV v w'->Q w' s'):
 wpAny (model X.prog X.w) A (getItem (.ref a) u) Q E s:=by
 rcases g with⟨kvs,k,e,ey,l⟩|⟨kvs,k,b,e,ey,eb,l⟩
 · subst ey
   obtain⟨z,hd,vs,rel,dd⟩:=zfX I.hok e
   obtain⟨w',hw,rw'⟩:=zfl.some_of (v:=v) (o:=valueAt vs k) (by rw[l];exact rel.val k)
   exact wpAny_getItem_of (zcW ry) dd.mapOf hw (h w' _ (I.tok _) rw')
 · subst ey
   cases(show u=Value.ref b from ry)
   obtain⟨z,hd,xs,rel,dd⟩:=zhM I.hok e
   obtain⟨w',hw,rw'⟩:=zfl.some_of (v:=v) (o:=(atKey xs k).map (·.2)) (by rw[l];exact rel.val k)
   obtain⟨p,hp,hp2⟩:=zzU.mp hw
   refine wpAny_getItem_heap (tupleKind_room_in1 hu) (zcw I.hok eb) dd hp ?_
   rw[hp2]
   exact h w' _ (I.tok _) rw'
theorem zsG(hu:A.units+1<cLine)(I:Inv X pins σ H s)(g:zgw H a y o)(ry:RelV y u)(h:∀s',Inv X pins σ H s'->Q (.bool o.isSome) s'):
 wpAny (model X.prog X.w) A (compareOp .In u (.ref a)) Q E s:=by
 rcases g with⟨kvs,k,e,ey,l⟩|⟨kvs,k,b,e,ey,eb,l⟩
 · subst ey
   obtain⟨z,hd,vs,rel,dd⟩:=zfX I.hok e
   refine wpAny_in_of (zcW ry) hd dd.mapOf ?_
   rw[<-(rel.val k).isSome_eq,<-l]
   exact h _ (I.tok _)
 · subst ey
   cases(show u=Value.ref b from ry)
   obtain⟨z,hd,xs,rel,dd⟩:=zhM I.hok e
   refine wpAny_in_heap (tupleKind_room_in1 hu) (zcw I.hok eb) hd dd ?_
   have q:=(rel.val k).isSome_eq
   rw[Option.isSome_map]at q
   rw[<-q,<-l]
   exact h _ (I.tok _)
theorem zoV(hu:A.units+1<cLine)(I:Inv X pins σ H s)(g:zgw H a y o)(ry:RelV y u)(h:∀s',Inv X pins σ H s'->Q (.bool (!o.isSome)) s'):
 wpAny (model X.prog X.w) A (compareOp .NotIn u (.ref a)) Q E s:=by
 rcases g with⟨kvs,k,e,ey,l⟩|⟨kvs,k,b,e,ey,eb,l⟩
 · subst ey
   obtain⟨z,hd,vs,rel,dd⟩:=zfX I.hok e
   refine wpAny_notIn_of (zcW ry) hd dd.mapOf ?_
   rw[<-(rel.val k).isSome_eq,<-l]
   exact h _ (I.tok _)
 · subst ey
   cases(show u=Value.ref b from ry)
   obtain⟨z,hd,xs,rel,dd⟩:=zhM I.hok e
   refine wpAny_notIn_heap (tupleKind_room_in1 hu) (zcw I.hok eb) hd dd ?_
   have q:=(rel.val k).isSome_eq
   rw[Option.isSome_map]at q
   rw[<-q,<-l]
   exact h _ (I.tok _)
theorem zgQ(I:Inv X pins σ H s)(mu:Mut (H a))(hs:Heap.SameBut a s.heap h')(he:∃q,h'.get? a=some q)(new:vm X.prog X.w (upd H a ob) h' a ob):
 Inv X pins σ (upd H a ob) {s with heap:=h',toks:=t'}:=
 I.write (x:=a) (e:=a) mu (.inl rfl) (λb q hb z=>(hs.2 b hb).trans z) he new
theorem zqz(z:kvs.length<=sizeLine)(hd:(a==sysModules)=false)(rel:KV kvs vs)(dd:h'.DictOf (wz P w) a vs):
 vm P w H' h' a (.dK kvs):=⟨z,hd,vs,rel,dd⟩
theorem zkX(hu:A.units+1<cLine)(I:Inv X pins σ H s)(g:zrA H a y v H')(ry:RelV y u)(rv:RelV v r)(h:∀s',Inv X pins σ H' s'->Q () s'):
 wpAny (model X.prog X.w) A (setItem (.ref a) u r) Q E s:=by
 rcases g with⟨kvs,k,e,ey,l,eH⟩|⟨kvs,k,b,e,ey,eb,l,eH⟩
 · subst ey eH
   obtain⟨z,hd,vs,rel,dd⟩:=zso I.hok e
   have hz:vs.length<=sizeLine:=by rw[<-rel.length];exact z
   have hl:(putK kvs k v).length<=sizeLine:=by have:=zcL kvs k v;omega
   refine wpAny_setItem_pairs (hsz:=hz) (zcW ry) dd λh' dd' hs=>h _ ?_
   have he:∃q,h'.get? a=some q:=let⟨q,_,_,hq,_⟩:=dd';⟨q,hq⟩
   exact zgQ I (by rw[e];exact True.intro) hs he (zqz hl hd (rel.put k rv) dd')
 · subst ey eH
   cases(show u=Value.ref b from ry)
   obtain⟨z,hd,xs,rel,dd⟩:=zpm I.hok e
   have hz:xs.length<=sizeLine:=by rw[<-Paired.length rel];exact z
   have hl:(putK kvs k v).length<=sizeLine:=by have:=zcL kvs k v;omega
   refine wpAny_setItem_heap (hsz:=hz) (tupleKind_room_in1 hu) (zcw I.hok eb) dd λh' dd' hs=>h _ ?_
   obtain⟨q,es,ep,hq,h2,h3,h4,_,h5⟩:=dd'
   refine zgQ I (by rw[e];exact True.intro) hs ⟨q,hq⟩ ⟨hl,hd,_,(rel.put k eb rv).keeps λc ys ec=>?_,q,es,ep,hq,h2,h3,h4,h5⟩
   rw[zV (zph ec e (λz=>nomatch z))]
   exact ec
end
def zoh(i:Expr):Prop:=∀ov iv,subscripted i false ov iv=operate [ov,iv] (getItem ov iv)
theorem znN{prog:Program}{w:World}{A:Around}{E:Value->Shared->Prop}{s:Shared}{env:Env}{value slice:Expr}{pos:Pos}{T id:String}{Q:Value->Shared->Prop}
 (hl:typeLookup (.type T) "__getitem__"=pure (some (.builtin id))) (hs:zoh slice)
 (h:wpAny (model prog w) A (eval value env) (λo s₁=>wpAny (model prog w) A (eval slice env) (λi s₂=>s₂.TypeIs o T/\wpAny (model prog w) A (getItem o i) Q E s₂) E s₁) E s):
 wpAny (model prog w) A (eval (.Subscript value slice pos) env) Q E s:=by
 refine Subscript_ (zxJ h (λo s₁ h₁=>zxJ h₁ (λi s₂ h₂=>?_) λ_ _ x=>x) λ_ _ x=>x)
 obtain⟨hT,h₂⟩:=h₂
 unfold subscriptTail
 refine zxB ?_
 rw[getitemInPython_of_ne hT.not_modules]
 refine zxB (wpAny_specialOf hT hl ?_)
 have fin:wpAny (model prog w) A (subscripted slice false o i) (λr s₃=>wpAny (model prog w) A (letTemporaryGo value o r >>= λ_=>pure r) Q E s₃) E s₂:=by
  rw[hs o i]
  exact wpAny_operating (zxJ h₂ (λr s₃ h₃=>zxB (wpAny_letTemporaryGo (zxC h₃))) λ_ _ x=>x)
 first
  |exact zxC (zxB fin)
  |exact zxB (zxC (zxB fin))
  |exact zxB fin
theorem zhr(I:Inv X pins σ H s)(g:zgw H a y o):s.TypeIs (.ref a) "dict":=by
 rcases g with⟨kvs,k,e,_,_⟩|⟨kvs,k,b,e,_,_,_⟩
 · obtain⟨_,_,vs,_,dd⟩:=zfX I.hok e
   exact dd.typeIs
 · obtain⟨_,_,xs,_,dd⟩:=zhM I.hok e
   exact dd.typeIs
def zrJ(td ty:TE):TE:=λσ H Q=>td σ H λx H1=>ty σ H1 λy H2=>∃a v,x = .ref a/\zgw H2 a y (some v)/\Q v H2
def zsx(td ty tv:TE):TS:=λD σ H=>tv σ H λv H1=>td σ H1 λx H2=>ty σ H2 λy H3=>∃a H4,x = .ref a/\zrA H3 a y v H4/\D.nx σ H4
section
variable{X:Cx}{o i e value:Expr}{pos pos' tpos:Pos}{td ty tv:TE}
theorem zjV(hu:X.A.units+1<cLine)(ho:PE X o td)(hi:PE X i ty)(hs:zoh i):PE X (.Subscript o i pos) (zrJ td ty):=by
 intro pins s σ H Q I h
 refine znN PySem.F.slot_dict_getitem.lookup hs (thn (ho pins s σ H _ I h) λu s1 ⟨x,H1,I1,rx,q1⟩=>thn (hi pins s1 σ H1 _ I1 q1) λiv s2 ⟨y,H2,I2,ry,a,v,ex,g,q2⟩=>?_)
 subst ex
 obtain rfl:u=Value.ref a:=rx
 exact⟨zhr I2 g,zkY hu I2 g ry λw' s3 I3 rw'=>⟨v,H2,I3,rw',q2⟩⟩
theorem zoz(hu:X.A.units+1<cLine)(ho:PE X o td)(hi:PE X i ty)(hv:PE X value tv)(hs:swapsWith value (some (.Subscript o i pos')) pos.line X.env=pure false):
 PS X (.Assign [.Subscript o i pos'] value pos) (zsx td ty tv):=by
 intro pins s σ H D I h
 refine wpAny_Assign_Subscript (thn (hv pins s σ H _ I h) λr s1 ⟨v,H1,I1,rv,q1⟩=>thn (ho pins s1 σ H1 _ I1 q1) λu s2 ⟨x,H2,I2,rx,q2⟩=>thn (hi pins s2 σ H2 _ I2 q2) λiv s3 ⟨y,H3,I3,ry,a,H4,ex,g,q3⟩=>?_) hs
 subst ex
 obtain rfl:u=Value.ref a:=rx
 exact zkX hu I3 g ry rv λs4 I4=>⟨σ,H4,I4,q3⟩
end
theorem zmD(h:Heap)(hb:sysModules<h.objs.size):vm P w H (h.push {cls:=.type "dict",data:=.dict #[]}) h.objs.size (.dT []):=
 ⟨Nat.zero_le _,beq_eq_false_iff_ne.mpr (Ne.symm (zzN hb)),[],.nil,_,#[],0,zxF _ rfl,⟨rfl,rfl,rfl⟩,rfl,rfl,zyG⟩
def zmq:List (TE×TE)->St->Hp->(List (V×V)->Hp->Prop)->Prop
 | [],_,H,Q=>Q [] H
 |(tk,tv)::r,σ,H,Q=>tk σ H λx H1=>tv σ H1 λy H2=>zmq r σ H2 λps H3=>Q ((x,y)::ps) H3
abbrev VV:List (V×V)->List (Value×Value)->Prop:=Paired λp q=>RelV p.1 q.1/\RelV p.2 q.2
def PPs(X:Cx)(pos:Pos)(keys:List (Option Expr))(values:List Expr)(trs:List (TE×TE)):Prop:=
 ∀(pins:List (Addr×Obj)) (s:Shared) (σ:St) (H:Hp) (Q:List (V×V)->Hp->Prop),Inv X pins σ H s->zmq trs σ H Q->
  wpAny (model X.prog X.w) X.A (evalPairs (pairTrees keys values X.env pos)) (λvs s'=>∃ps H',Inv X pins σ H' s'/\VV ps vs/\Q ps H') X.xe s
theorem znT:PPs X pos [] [] []:=λpins s σ H Q I h=>pairTrees_nil_walk ⟨[],H,I,.nil,h⟩
theorem znp(hk:PE X k tk)(hv:PE X v tv)(hr:PPs X pos ks vs trs):
 PPs X pos (some k::ks) (v::vs) ((tk,tv)::trs):=λpins s σ H Q I h=>
 pairTrees_cons_walk (thn (hk pins s σ H _ I h) λu s1 ⟨x,H1,I1,rx,q1⟩=>thn (hv pins s1 σ H1 _ I1 q1) λw2 s2 ⟨y,H2,I2,ry,q2⟩=>
  thn (hr pins s2 σ H2 _ I2 q2) λws s3 ⟨ps,H3,I3,rel,q3⟩=>⟨(x,y)::ps,H3,I3,.cons ⟨rx,ry⟩ rel,q3⟩)
structure M1(X:Cx)(o:Expr)(m:Str)(apos:Pos)(e:Expr)(cpos:Pos):Prop where
 base:attributeBase o m X.env (eval o X.env)=eval o X.env
 few:((backTo cpos (starEach [e] X.env)).all (λx=>!x.1)&&(backToKw cpos (keywordEach [] X.env)).all (λx=>x.1.isSome)
  && decide (([e]:List Expr).length+([]:List Keyword).length+(if([]:List Keyword).isEmpty then 0 else 1)<30))=true
 line:(apos.endLine==cpos.line)=true
 trees:backTo cpos (starEach [e] X.env)=[(false,eval e X.env)]
structure M2(X:Cx)(o:Expr)(m:Str)(apos:Pos)(e f:Expr)(cpos:Pos):Prop where
 base:attributeBase o m X.env (eval o X.env)=eval o X.env
 few:((backTo cpos (starEach [e,f] X.env)).all (λx=>!x.1)&&(backToKw cpos (keywordEach [] X.env)).all (λx=>x.1.isSome)
  && decide (([e,f]:List Expr).length+([]:List Keyword).length+(if([]:List Keyword).isEmpty then 0 else 1)<30))=true
 line:(apos.endLine==cpos.line)=true
 trees:backTo cpos (starEach [e,f] X.env)=[(false,eval e X.env),(false,eval f X.env)]
end L2
namespace HT
open PySem PyProof.Rows
section
variable{prog:Program}{w:World}{A:Around}{E:Value->Shared->Prop}{s:Shared}
theorem zoi(ht:IsTup s.heap t vs.toArray)(hb:IsTup s.heap b ws.toArray)(hv:vs≠[])
 (h1:ws=[]->Q (.ref t) s) (h2:ws≠[]->Q (.ref s.heap.objs.size) {s with heap:=s.heap.push {cls:=.type "tuple",data:=.seq (vs++ws).toArray}})
 (hsz:vs.length+ws.length<=sizeLine):wpAny (model prog w) A (binaryOp .Add (.ref t) (.ref b)) Q E s:=by
 obtain⟨⟨cls,dd,data,sl⟩,ho,hc,n,hd⟩:=id ht
 obtain⟨⟨cls2,dd2,data2,sl2⟩,ho2,hc2,n2,hd2⟩:=id hb
 simp only at hc hd hc2 hd2
 subst hc hd hc2 hd2
 have e:vs.toArray++ws.toArray=(vs++ws).toArray:=by simp
 by_cases hw:ws=[]
 · exact concat_meets ⟨_,ho,rfl⟩ ⟨_,ho2,rfl⟩ noFill_tuple_add seq_tuple_add PySem.F.slot_tuple_add PySem.F.entry_tuple_add (PySem.F.args_tuple_add_2 _ _)
    (tuple_addW1 t b vs.toArray ws.toArray n n2 dd dd2 sl sl2 (by simpa using hv) (by simp[hw])) ⟨ho,ho2,h1 hw⟩
 · refine concat_meets ⟨_,ho,rfl⟩ ⟨_,ho2,rfl⟩ noFill_tuple_add seq_tuple_add PySem.F.slot_tuple_add PySem.F.entry_tuple_add (PySem.F.args_tuple_add_2 _ _)
    (tuple_addW2 t b vs.toArray ws.toArray n n2 dd dd2 sl sl2 (by simpa using hv) (by simpa using hw) (by rw[zzE,zzE];exact hsz)) ⟨ho,ho2, ?_⟩
   rw[e]
   exact h2 hw
def sIx(n d:Nat):Option Int->Nat
 |none=>d
 |some v=>if v<0 then(v+(n:Int)).toNat else min v.toNat n
theorem zhv(n d:Nat):sIx n d none=d:=rfl
theorem zdN(n d k:Nat):sIx n d (some (k:Int))=min k n:=by
 show(if(k:Int)<0 then((k:Int)+(n:Int)).toNat else min (k:Int).toNat n)=min k n
 rw[if_neg (by omega),zyF]
theorem zpR(n d:Nat)(hd:d<=n)(o:Option Int):sIx n d o<=n:=by
 cases o with
 |none=>exact hd
 |some v=>
  show(if v<0 then(v+(n:Int)).toNat else min v.toNat n)<=n
  by_cases hv:v<0
  · rw[if_pos hv];omega
  · rw[if_neg hv];exact Nat.min_le_right _ _
theorem zjK(v:Int)(n d:Nat):(if v<0 then max (v+(n:Int)) 0 else min v (n:Int))=((sIx n d (some v):Nat):Int):=by
 show(if v<0 then max (v+(n:Int)) 0 else min v (n:Int))=(((if v<0 then(v+(n:Int)).toNat else min v.toNat n):Nat):Int)
 by_cases hv:v<0
 · simp only[if_pos hv];omega
 · simp only[if_neg hv];omega
theorem ziZ(lo hi:Option Int)(n:Nat):Builtin.Slice.sliceAdjust lo hi 1 (n:Int)=(((sIx n 0 lo:Nat):Int),((sIx n n hi:Nat):Int)):=by
 have h1:¬((1:Int)<0):=by omega
 unfold Builtin.Slice.sliceAdjust
 simp only[h1,if_false]
 refine Prod.ext ?_ ?_
 · cases lo with
   |none=>rfl
   |some v=>exact zjK v n 0
 · cases hi with
   |none=>rfl
   |some v=>exact zjK v n n
theorem ziK(i j:Nat):Builtin.Slice.slicePlaces (i:Int) (j:Int) 1=j-i:=by
 unfold Builtin.Slice.slicePlaces
 have h1:(1:Int) > 0:=by omega
 simp only[h1,if_true,Int.ediv_one]
 split<;>omega
theorem zeW(p:IsPart v o)(h:Q o s):wpAny (model prog w) A (Builtin.Slice.slicePartIndex v) Q E s:=by
 cases p with
 |none=>exact slicePart_none h
 |int i t=>exact slicePart_int h
theorem zcl{sl:Addr}{vl vu:Value}{lo hi:Option Int}{n:Nat}{Q:Int×Int×Nat->Shared->Prop}(hs:s.heap.IsSliceOf sl vl vu .none)(pl:IsPart vl lo)(pu:IsPart vu hi)
 (h:Q (((sIx n 0 lo:Nat):Int),1,sIx n n hi-sIx n 0 lo) s):wpAny (model prog w) A (Builtin.Slice.sliceApplied (.ref sl) (pure (n:Int))) Q E s:=by
 obtain⟨os,hos,hcs,hds⟩:=id hs
 unfold Builtin.Slice.sliceApplied Builtin.Slice.sliceFields
 refine zxB (zxB (wpAny_field hos hds (x:=vl) rfl (zxB (wpAny_field hos hds (x:=vu) rfl (zxB (wpAny_field hos hds (x:=.none) rfl (zxC ?_)))))))
 refine zxB (slicePart_none ?_)
 show wpAny _ _ (if((1:Int)==0)=true then _ else _) _ _ s
 rw[if_neg (by decide)]
 refine zxB (zeW pl (zxB (zeW pu (zxB (zxC ?_)))))
 show wpAny _ _ (match Builtin.Slice.sliceAdjust lo hi 1 (n:Int)with|(lo,hi)=>pure (lo,(1:Int),Builtin.Slice.slicePlaces lo hi 1)) _ _ s
 rw[ziZ lo hi n]
 show wpAny _ _ (pure (((sIx n 0 lo:Nat):Int),(1:Int),Builtin.Slice.slicePlaces ((sIx n 0 lo:Nat):Int) ((sIx n n hi:Nat):Int) 1)) _ _ s
 rw[ziK]
 exact zxC h
theorem zlI(xs:Array Value)(i k:Nat):((List.range k).filterMap λ(m:Nat)=>xs[((i:Int)+(m:Int)*1).toNat]?).toArray=((xs.toList.drop i).take k).toArray:=by
 have e:(λ(m:Nat)=>xs[((i:Int)+(m:Int)*1).toNat]?)=λm=>xs[i+m]? := by
  funext m
  have:((i:Int)+(m:Int)*1).toNat=i+m:=by omega
  rw[this]
 rw[e]
 have:=pick_run xs i k
 rw[List.filterMap_map]at this
 have e2:((λx=>xs[x]?)∘λx=>i+x)=λm=>xs[i+m]? := rfl
 rw[e2]at this
 rw[this]
theorem zbE{t sl:Addr}{items:Array Value}{vl vu:Value}{lo hi:Option Int}{Q:Value->Shared->Prop}(ht:IsTup s.heap t items)(hs:s.heap.IsSliceOf sl vl vu .none)(pl:IsPart vl lo)(pu:IsPart vu hi)
 (hw:¬(sIx items.size 0 lo=0/\sIx items.size items.size hi=items.size))
 (h:Q (.ref s.heap.objs.size) {s with heap:=s.heap.push {cls:=.type "tuple",data:=.seq ((items.toList.drop (sIx items.size 0 lo)).take (sIx items.size items.size hi-sIx items.size 0 lo)).toArray}})
 (hsz:items.size<=sizeLine):wpAny (model prog w) A (getItem (.ref t) (.ref sl)) Q E s:=by
 have htake:sizeOk (.seq ((items.toList.drop (sIx items.size 0 lo)).take (sIx items.size items.size hi-sIx items.size 0 lo)).toArray):=by
  show((items.toList.drop (sIx items.size 0 lo)).take (sIx items.size items.size hi-sIx items.size 0 lo)).toArray.size<=sizeLine
  rw[zzE,zzP,List.length_drop,zyQ]
  omega
 have hj:sIx items.size items.size hi<=items.size:=zpR _ _ (zzK _) hi
 obtain⟨os,hos,hcs,hds⟩:=id hs
 have hTs:s.TypeIs (.ref sl) "slice":=⟨os,hos,hcs⟩
 unfold getItem
 try with_reducible refine zxH ?_
 first|refine zxB (zxC ?_)|skip
 refine zxB (wpAny_sequenceKey ht.typeIs (by decide) ?_)
 refine zxB (wpAny_callSpecial?_slot (name:=Str.ofString "__getitem__") ht.typeIs PyProof.Rows.slot_tuple_getitem
  (wpAny_call_entry PyProof.Rows.slot_tuple_getitem ht.typeIs entry_tuple_getitem ?_ (args_tuple_getitem _ _)))
 show wpAny _ _ (Builtin.Tuple.tupleItemsOf (.ref t) >>= _) _ _ s
 refine zxB (tupleItemsOf_ ht ?_)
 refine zxB (wpAny_typeOf hTs ?_)
 rw[if_pos (by decide)]
 refine zxB (zcl hs pl pu ?_)
 have hno:¬((((sIx items.size 0 lo:Nat):Int)==0&&(1:Int)==1&&(sIx items.size items.size hi-sIx items.size 0 lo)==items.size)=true):=by
  intro q
  rw[zzZ,zzZ]at q
  have q1:((sIx items.size 0 lo:Nat):Int)=0:=eq_of_beq q.1.1
  have q2:sIx items.size items.size hi-sIx items.size 0 lo=items.size:=eq_of_beq q.2
  exact hw ⟨by omega,by omega⟩
 show wpAny _ _ (if(((sIx items.size 0 lo:Nat):Int)==0&&(1:Int)==1&&(sIx items.size items.size hi-sIx items.size 0 lo)==items.size)=true then _ else _) _ _ s
 rw[if_neg hno,zlI]
 first
  |exact zxB (m:=Builtin.Tuple.tupleExact _) (zxG (zxC ⟨_,rfl,zxC h⟩) htake)
  |exact zxB (m:=Builtin.Tuple.tupleExact _) (zxG (zxB (zxC (zxC ⟨_,rfl,zxC h⟩))) htake)
  |exact zxB (zxB (m:=Builtin.Tuple.tupleExact _) (zxG (zxC (zxC ⟨_,rfl,zxC h⟩)) htake))
  |exact zxB (zxB (m:=Builtin.Tuple.tupleExact _) (zxG (zxC ⟨_,rfl,zxC h⟩) htake))
end
end HT
namespace L2
open PySem PySem.Spec PyProof.Rows
abbrev TO:=St->Hp->(Option Int->Hp->Prop)->Prop
def PO(X:Cx)(e:Option Expr)(t:TO):Prop:=
 ∀(pins:List (Addr×Obj)) (s:Shared) (σ:St) (H:Hp) (Q:Option Int->Hp->Prop),Inv X pins σ H s->t σ H Q->
  wpAny (model X.prog X.w) X.A (evalPart e X.env) (λu s'=>∃o H',Inv X pins σ H' s'/\IsPart u o/\Q o H') X.xe s
def zoJ:TO:=λ_ H Q=>Q none H
def zsg(t:TE):TO:=λσ H Q=>t σ H λx H1=>∃i,x = .int i/\Q (some i) H1
theorem intsAre_of:∀{us:List Value},Vals (ns.map V.int) us->IntsAre us ns:=by
 induction ns with
 |nil=>intro us r;rw[List.map_nil]at r;cases r;exact .nil
 |cons n ns ih=>
  intro us r
  rw[zyP]at r
  cases r with
  |cons r1 r2=>
   obtain⟨t,e⟩:=r1
   subst e
   exact .cons n t (ih r2)
section
variable{X:Cx}{e:Expr}{te:TE}{lo hi:Option Expr}{tl th:TO}{pos p2:Pos}
theorem znD:PO X none zoJ:=by
 intro pins s σ H Q I h
 rw[evalPart_none]
 exact zxC ⟨none,H,I,.none,h⟩
theorem znM(h:PE X e te):PO X (some e) (zsg te):=by
 intro pins s σ H Q I hw
 rw[evalPart_some]
 refine thn (h pins s σ H _ I hw) λu s1 ⟨x,H1,I1,r1,q1⟩=>?_
 obtain⟨i,rfl,q⟩:=q1
 obtain⟨t,rfl⟩:=r1
 exact⟨some i,H1,I1,.int i t,q⟩
def SlR(X:Cx)(r:V->Option Int->Option Int->Hp->VK->Prop):Prop:=
 ∀(pins:List (Addr×Obj)) (s:Shared) (σ:St) (H:Hp) (x:V) (v vl vu:Value) (lo hi:Option Int) (sl:Addr) (Q:VK),Inv X pins σ H s->RelV x v->s.heap.IsSliceOf sl vl vu .none->IsPart vl lo->IsPart vu hi->r x lo hi H Q->
  ∃T id,typeLookup (.type T) "__getitem__"=pure (some (.builtin id))/\s.TypeIs v T/\wpAny (model X.prog X.w) X.A (getItem v (.ref sl)) (EP X pins σ Q) X.xe s
def tSl(r:V->Option Int->Option Int->Hp->VK->Prop)(te:TE)(tl th:TO):TE:=λσ H Q=>te σ H λx H1=>tl σ H1 λl H2=>th σ H2 λu H3=>r x l u H3 Q
theorem ziy(hr:SlR X r)(he:PE X e te)(hl:PO X lo tl)(hu:PO X hi th):PE X (.Subscript e (.Slice lo hi none p2) pos) (tSl r te tl th):=by
 intro pins s σ H Q I h
 refine Subscript_ (thn (he pins s σ H _ I h) λv s1 ⟨x,H1,I1,r1,q1⟩=>?_)
 refine wpAny_Slice (thn (hl pins s1 σ H1 _ I1 q1) λvl s2 ⟨l,H2,I2,pl,q2⟩=>thn (hu pins s2 σ H2 _ I2 q2) λvu s3 ⟨u,H3,I3,pu,q3⟩=>?_)
 rw[evalPart_none]
 refine zxC ?_
 have I4:Inv X pins σ H3 {s3 with heap:=s3.heap.push {cls:=.type "slice",data:=.fields #[vl,vu,.none]}}:=I3.kept (t':=s3.toks) λb ob q=>zxD _ q
 obtain⟨T,id,hT,ht,hg⟩:=hr pins {s3 with heap:=s3.heap.push {cls:=.type "slice",data:=.fields #[vl,vu,.none]}} σ H3 x v vl vu l u s3.heap.objs.size Q I4 r1 (Heap.IsSliceOf.new ..) pl pu q3
 show wpAny (model X.prog X.w) X.A (subscriptTail e (.Slice lo hi none p2) v (.ref s3.heap.objs.size)) (EP X pins σ Q) X.xe {s3 with heap:=s3.heap.push {cls:=.type "slice",data:=.fields #[vl,vu,.none]}}
 exact tail_any (ops:=[.ref s3.heap.objs.size,v]) ht hT hg (by with_unfolding_all rfl)
def zhA(xs:List V)(lo hi:Option Int):List V:=(xs.drop (HT.sIx xs.length 0 lo)).take (HT.sIx xs.length xs.length hi-HT.sIx xs.length 0 lo)
theorem zcI(xs:List V)(lo hi:Option Int):(zhA xs lo hi).length<=xs.length:=by
 unfold zhA
 rw[zzP,List.length_drop]
 omega
def zsY(K:zC):V->Option Int->Option Int->Hp->VK->Prop:=λx lo hi H Q=>∃a xs,x = .ref a/\SqT K H a xs/\
 ¬(HT.sIx xs.length 0 lo=0/\HT.sIx xs.length xs.length hi=xs.length)/\∀p,H p=none->Q (.ref p) (upd H p (.tup (zhA xs lo hi)))
theorem zpX:SlR X (zsY X.K):=by
 intro pins s σ H x v vl vu lo hi sl Q I rx hs pl pu h
 obtain⟨a,xs,rfl,hx,hw,q⟩:=h
 cases rx
 obtain⟨its,r,ht,hz⟩:=I.tuple hx
 have hlen:its.toArray.size=xs.length:=by rw[zzE];exact r.length.symm
 refine⟨"tuple",_,PyProof.Rows.slot_tuple_getitem.lookup,ht.typeIs, ?_⟩
 refine HT.zbE ht hs pl pu (by rw[hlen];exact hw) ?_ (by rw[hlen];exact hz)
 rw[hlen]
 refine⟨.ref s.heap.objs.size,_,I.laid (t':=s.toks) (o:=.tup (zhA xs lo hi)) (λb ob q=>zxD _ q) (zzK _) ?_,rfl,q _ (I.hok.fresh (zzK _))⟩
 exact⟨zzL (zcI xs lo hi) hz,_,(r.drop (HT.sIx xs.length 0 lo)).take (HT.sIx xs.length xs.length hi-HT.sIx xs.length 0 lo),IsTup.new _ _⟩
def zrL(K:zC):R2:=λx y H Q=>∃a b xs ys,x = .ref a/\y = .ref b/\SqT K H a xs/\SqT K H b ys/\xs≠[]/\xs.length+ys.length<=sizeLine/\
 (ys=[]->Q (.ref a) H)/\(ys≠[]->∀p,H p=none->Q (.ref p) (upd H p (.tup (xs++ys))))
theorem Vals.nil_iff(r:Vals xs us):us=[] ↔ xs=[]:=by
 cases r with
 |nil=>simp
 |cons _ _=>simp
theorem znY:OpR X (binaryOp .Add) (zrL X.K):=by
 intro pins s σ H x y v u Q I rx ry h
 obtain⟨a,b,xs,ys,rfl,rfl,ha,hb,hx,hz,q1,q2⟩:=h
 cases rx
 cases ry
 obtain⟨its,r1,p1,_⟩:=I.tuple ha
 obtain⟨its2,r2,p2,_⟩:=I.tuple hb
 refine HT.zoi p1 p2 (λz=>hx (r1.nil_iff.mp z)) (λz=>⟨.ref a,H,I,rfl,q1 (r2.nil_iff.mp z)⟩) (λz=>?_) (by rw[<-r1.length,<-r2.length];exact hz)
 refine⟨.ref s.heap.objs.size,_,I.laid (t':=s.toks) (o:=.tup (xs++ys)) (λb ob q=>zxD _ q) (zzK _) ?_,rfl,q2 (λw=>z (r2.nil_iff.mpr w)) _ (I.hok.fresh (zzK _))⟩
 exact⟨by rw[zzG];exact hz,_,r1.append r2,IsTup.new _ _⟩
end
end L2
namespace L2
open PySem PySem.Spec PyProof.Rows
def ixN(n:Nat)(i:Int):Option Nat:=if 0<=i then(if i<n then some i.toNat else none)else if -(n:Int)<=i then some (i+n).toNat else none
def atI{α:Type}(xs:List α)(i:Int):Option α:=(ixN xs.length i).bind λj=>xs[j]?
theorem zjN(h:ixN n i=some j):seqIndex? i n=some j/\j<n /\ -(n:Int)<=i/\i<n:=by
 unfold ixN at h
 by_cases h0:0<=i
 · rw[if_pos h0]at h
   by_cases h1:i<n
   · rw[if_pos h1]at h
     have e:i.toNat=j:=zzW h
     exact⟨by rw[seqIndex_of h0 h1,e],by omega,by omega,h1⟩
   · rw[if_neg h1]at h;cases h
 · rw[if_neg h0]at h
   by_cases h1 : -(n:Int)<=i
   · rw[if_pos h1]at h
     have e:(i+n).toNat=j:=zzW h
     exact⟨by rw[seqIndex_neg (by omega) h1,e],by omega,h1,by omega⟩
   · rw[if_neg h1]at h;cases h
theorem zgH(h:atI xs i=some v):∃j,seqIndex? i xs.length=some j/\xs[j]? = some v/\j<xs.length /\ -(xs.length:Int)<=i/\i<xs.length:=by
 unfold atI at h
 cases e:ixN xs.length i with
 |none=>rw[e]at h;cases h
 |some j=>
  rw[e]at h
  obtain⟨h1,h2,h3,h4⟩:=zjN e
  exact⟨j,h1,h,h2,h3,h4⟩
theorem Yu{α:Type}{xs:List α}{j:Nat}{v:α}(h:xs[j]? = some v):atI xs (j:Int)=some v:=by
 have hj:j<xs.length:=(zzD.mp h).1
 have e:ixN xs.length (j:Int)=some j:=by
  unfold ixN
  rw[if_pos (by omega),if_pos (by omega)];simp
 unfold atI;rw[e];exact h
def Yv(b:Expr):Prop:=∀o i,subscripted b false o i=operate [o,i] (getItem o i)
def IxR(X:Cx)(r:R2):Prop:=
 ∀(value slice:Expr) (pins:List (Addr×Obj)) (s:Shared) (σ:St) (H:Hp) (x y:V) (v u:Value) (Q:VK),Inv X pins σ H s->RelV x v->RelV y u->r x y H Q->
  subscripted slice false v u=operate [v,u] (getItem v u)->wpAny (model X.prog X.w) X.A (subscriptTail value slice v u) (EP X pins σ Q) X.xe s
def MtR(X:Cx)(id:String)(r:V->List V->Hp->VK->Prop):Prop:=
 ∀(pins:List (Addr×Obj)) (s:Shared) (σ:St) (H:Hp) (x:V) (xs:List V) (v:Value) (us:List Value) (Q:VK),Inv X pins σ H s->RelV x v->Vals xs us->r x xs H Q->
  wpAny (model X.prog X.w) X.A (call (.builtin id) (v::us)) (EP X pins σ Q) X.xe s
section
variable{X:Cx}{a b:Expr}{ta tb:TE}{pos:Pos}
theorem zer(hr:IxR X r)(ha:PE X a ta)(hb:PE X b tb)(hs:Yv b):PE X (.Subscript a b pos) (tOp r ta tb):=by
 intro pins s σ H Q I h
 exact Subscript_ (zqV ha hb I h λv u s2 x y H2 I2 rx ry q=>hr a b pins s2 σ H2 x y v u Q I2 rx ry q (hs _ _))
def zsS(K:zC):R2:=λx y H Q=>∃p xs i v,x = .ref p/\y = .int i/\SqL K H p xs/\atI xs i=some v/\Q v H
def zsJ(K:zC):R2:=λx y H Q=>∃p xs i v,x = .ref p/\y = .int i/\SqT K H p xs/\atI xs i=some v/\Q v H
def zsQ:R2:=λx y H Q=>∃z i c,x = .str z/\y = .int i/\z.length<=sizeLine/\atI z.cps.toList i=some c/\Q (.str ⟨#[c]⟩) H
theorem zbT:IxR X (zsS X.K):=by
 intro value slice pins s σ H x y v u Q I rx ry h hs
 obtain⟨p,xs,i,z,rfl,rfl,hq,he,q⟩:=h
 cases rx
 obtain⟨t,rfl⟩:=ry
 obtain⟨its,r,pl,hz⟩:=I.list hq
 obtain⟨j,h1,h2,h3,h4,h5⟩:=zgH he
 obtain⟨w,ew,rw'⟩:=r.get h2
 have hl:=r.length
 have hn:=zaG
 have fin:EP X pins σ Q w s:=⟨z,H,I,rw',q⟩
 by_cases h0:0<=i
 · have hj:i.toNat=j:=by
    rw[seqIndex_of h0 h5]at h1
    exact zzW h1
   exact item_listR pl.isList h0 (by omega) (by rw[hj];simpa using ew) fin hs
 · have hj:(i+(its.toArray.size:Int)).toNat=j:=by
    rw[seqIndex_neg (by omega) h4]at h1
    rw[zzE,<-hl]
    exact zzW h1
   exact subscriptTail_builtinR (x:=w) pl.isList.typeIs slot_list_getitem.lookup
    (wpAny_getItem_list_neg (Q:=λr s'=>r=w/\EP X pins σ Q r s') pl.isList (by omega) (by rw[zzE]<;>omega) (by omega) (by rw[hj];simpa using ew) ⟨rfl,fin⟩) hs
theorem zjo:IxR X (zsJ X.K):=by
 intro value slice pins s σ H x y v u Q I rx ry h hs
 obtain⟨p,xs,i,z,rfl,rfl,hq,he,q⟩:=h
 cases rx
 obtain⟨t,rfl⟩:=ry
 obtain⟨its,r,pl,hz⟩:=I.tuple hq
 obtain⟨j,h1,h2,h3,h4,h5⟩:=zgH he
 obtain⟨w,ew,rw'⟩:=r.get h2
 have hl:=r.length
 have hn:=zaG
 have fin:EP X pins σ Q w s:=⟨z,H,I,rw',q⟩
 exact subscriptTail_builtinR (x:=w) pl.typeIs slot_tuple_getitem.lookup
  (getItem_tuple (j:=j) (Q:=λr s'=>r=w/\EP X pins σ Q r s') pl (by omega) (by omega) (by rw[zzE,<-hl];exact h1) (by simpa using ew) ⟨rfl,fin⟩) hs
theorem zqA:IxR X zsQ:=by
 intro value slice pins s σ H x y v u Q I rx ry h hs
 obtain⟨z,i,c,rfl,rfl,hz,he,q⟩:=h
 obtain⟨t,rfl⟩:=rx
 obtain⟨t',rfl⟩:=ry
 obtain⟨j,h1,h2,h3,h4,h5⟩:=zgH he
 have hl:z.cps.toList.length=z.length:=by simp[Str.length]
 rw[hl]at h1 h4 h5
 have hn:=zaG
 exact tail_any (typeIs_str s z t) slot_str_getitem.lookup (getItem_str (c:=c) (by
  have e1:decide (i < -(2 ^ 63:Int))=false:=zyD (by omega)
  have e2:decide (i ≥ 2 ^ 63)=false:=zyD (by omega)
  rw[e1,e2,Bool.or_false]) (by rw[h1];simpa using h2) ⟨.str ⟨#[c]⟩,H,I.tok _,⟨_,rfl⟩,q⟩) hs
theorem zjy(its:List Value)(n j:Nat)(u:Value):Obj.mapSeq (·.setIfInBounds j u) {cls:=.type "list",data:=.seq its.toArray n}={cls:=.type "list",data:=.seq (its.set j u).toArray n}:=by
 simp[Obj.mapSeq]
theorem Inv.lst(I:Inv X pins σ H s)(h:H p=some (.lst xs)):
 ∃(its:List Value) (n:Nat),Vals xs its/\s.heap.get? p=some {cls:=.type "list",data:=.seq its.toArray n}/\xs.length<=sizeLine:=by
 obtain⟨z,its,n,r,e⟩:=I.hok p _ h
 exact⟨its,n,r,e,z⟩
theorem Inv.lstUpd{pins:List (Addr×Obj)}{σ:St}{H:Hp}{s:Shared}{p:Addr}{xs ys:List V}{its its':List Value}{n n':Nat}{f:Obj->Obj}(I:Inv X pins σ H s)(h:H p=some (.lst xs))
 (ho:s.heap.get? p=some {cls:=.type "list",data:=.seq its.toArray n}) (hf:f {cls:=.type "list",data:=.seq its.toArray n}={cls:=.type "list",data:=.seq its'.toArray n'}) (r:Vals ys its') (hz:ys.length<=sizeLine) (t:Nat):
 Inv X pins σ (upd H p (.lst ys)) {s with heap:=s.heap.update p f,toks:=t}:=by
 have e:(s.heap.update p f).get? p=some {cls:=.type "list",data:=.seq its'.toArray n'}:=by
  rw[Heap.get?_update_self f ho (by rw[hf]<;>rfl),hf]
 refine I.write (x:=p) (e:=p) (by rw[h];trivial) (.inl rfl) (λb u hb q=>(Heap.get?_update_other _ _ (Ne.symm hb)).trans q) ⟨_,e⟩ ?_
 exact⟨hz,its',n',r,e⟩
def zrV:V->V->V->Hp->(Hp->Prop)->Prop:=λo i v H Q=>∃p xs k j,o = .ref p/\i = .int k/\H p=some (.lst xs)/\ixN xs.length k=some j/\Q (upd H p (.lst (xs.set j v)))
theorem set_list:zrT X zrV:=by
 intro pins s σ H o i v ov iv u Q I ro ri rv h
 obtain⟨p,xs,k,j,rfl,rfl,hp,hj,q⟩:=h
 cases ro
 obtain⟨t,rfl⟩:=ri
 obtain⟨its,n,r,ho,hz⟩:=I.lst hp
 obtain⟨h1,h2,h3,h4⟩:=zjN hj
 have hl:=r.length
 have hn:=zaG
 have I':Inv X pins σ (upd H p (.lst (xs.set j v))) {s with heap:=s.heap.update p (Obj.mapSeq (·.setIfInBounds j u))}:=
  I.lstUpd hp ho (zjy its n j u) (r.set rv j) (by rw[zzR];exact hz) s.toks
 by_cases h0:0<=k
 · have hk:k.toNat=j:=by
    rw[seqIndex_of h0 h4]at h1
    exact zzW h1
   exact PySem.W.ki_setAt ho h0 (by omega) (by rw[zzE,<-hl];exact h4) (by rw[hk];exact⟨_,I',q⟩)
 · have hk:(k+(its.toArray.size:Int)).toNat=j:=by
    rw[seqIndex_neg (by omega) h3]at h1
    rw[zzE,<-hl]
    exact zzW h1
   exact PySem.W.ki_setBack ho (by omega) (by rw[zzE,<-hl];exact h3) (by omega) (by rw[hk];exact⟨_,I',q⟩)
theorem zgU(lo hi:Option Int)(n:Nat):(sliceBounds lo hi none n).1=((HT.sIx n 0 lo:Nat):Int)/\(sliceBounds lo hi none n).2.1=((HT.sIx n n hi:Nat):Int)/\(sliceBounds lo hi none n).2.2=1:=by
 refine⟨?_, ?_,rfl⟩
 · cases lo with
   |none=>simp[sliceBounds,HT.sIx]
   |some i=>
    simp only[sliceBounds,HT.sIx,Option.getD_none,show(1:Int) > 0 by decide,if_true]
    by_cases h:i<0
    · simp only[h,if_true]<;>omega
    · simp only[h,if_false]<;>omega
 · cases hi with
   |none=>simp[sliceBounds,HT.sIx]
   |some i=>
    simp only[sliceBounds,HT.sIx,Option.getD_none,show(1:Int) > 0 by decide,if_true]
    by_cases h:i<0
    · simp only[h,if_true]<;>omega
    · simp only[h,if_false]<;>omega
theorem zfp(its:List Value)(lo hi:Option Int):slicePick its.toArray lo hi none=((its.drop (HT.sIx its.length 0 lo)).take (HT.sIx its.length its.length hi-HT.sIx its.length 0 lo)).toArray:=by
 obtain⟨h1,h2,h3⟩:=zgU lo hi its.toArray.size
 unfold slicePick
 rw[h1,h2,h3]
 simp only[sliceRange_one,pick_run,zzE]<;>rfl
def zsW(K:zC):V->Option Int->Option Int->Hp->VK->Prop:=λx lo hi H Q=>∃a xs,x = .ref a/\SqL K H a xs/\∀p,H p=none->Q (.ref p) (upd H p (.lst (zhA xs lo hi)))
theorem zov:SlR X (zsW X.K):=by
 intro pins s σ H x v vl vu lo hi sl Q I rx hs pl pu h
 obtain⟨a,xs,rfl,hx,q⟩:=h
 cases rx
 obtain⟨its,r,ht,hz⟩:=I.list hx
 have hlen:=r.length
 refine⟨"list",_,slot_list_getitem.lookup,ht.isList.typeIs, ?_⟩
 refine wpAny_getItem_list_slice ht.isList hs pl pu .none (by simp) ?_ (by rw[zzE]<;>omega)
 rw[zfp,<-hlen]
 refine⟨.ref s.heap.objs.size,_,I.laid (t':=s.toks) (o:=.lst (zhA xs lo hi)) (λb ob q=>zxD _ q) (zzK _) ?_,rfl,q _ (I.hok.fresh (zzK _))⟩
 exact⟨zzL (zcI xs lo hi) hz,_,0,(r.drop (HT.sIx xs.length 0 lo)).take (HT.sIx xs.length xs.length hi-HT.sIx xs.length 0 lo),zxF _ rfl⟩
theorem WF:zap X (.builtin "len") (λxs H Q=>∃p ys,xs=[.ref p]/\(SqL X.K H p ys\/SqT X.K H p ys)/\Q (.int ys.length) H):=by
 intro pins s σ H xs us Q I r h
 obtain⟨p,ys,rfl,hq,q⟩:=h
 obtain⟨u,rfl,rx⟩:=vals1 r
 cases rx
 have hn:=zaG
 rcases hq with hq|hq
 · obtain⟨its,r',pl,hz⟩:=I.list hq
   have hlen:=r'.length
   exact Calls.call_len_list pl.isList (by simp only[zzE]<;>omega) ⟨.int ys.length,H,I.tok _,⟨s.toks+1,by rw[zzE,hlen]⟩,q⟩
 · obtain⟨its,r',pl,hz⟩:=I.tuple hq
   have hlen:=r'.length
   exact len_tuple pl (by simp only[zzE]<;>omega) ⟨.int ys.length,H,I.tok _,⟨s.toks+1,by rw[zzE,hlen]⟩,q⟩
theorem zgK:zap X (.builtin "len") (λxs H Q=>∃z,xs=[.str z]/\z.length<=sizeLine/\Q (.int z.length) H):=by
 intro pins s σ H xs us Q I r h
 obtain⟨z,rfl,hz,q⟩:=h
 obtain⟨u,rfl,t,rfl⟩:=vals1 r
 have hn:=zaG
 exact len_str (by omega) ⟨.int z.length,H,I.tok _,⟨_,rfl⟩,q⟩
theorem zbo:zap X (.type "list") (λxs H Q=>∃p ys,xs=[.ref p]/\(SqL X.K H p ys\/SqT X.K H p ys)/\∀l,H l=none->Q (.ref l) (upd H l (.lst ys))):=by
 intro pins s σ H xs us Q I r h
 obtain⟨p,ys,rfl,hq,q⟩:=h
 obtain⟨u,rfl,rx⟩:=vals1 r
 cases rx
 have fin:∀(its:List Value),Vals ys its->ys.length<=sizeLine->∀(h':Heap) (c':Nat),(∀b o',s.heap.get? b=some o'->h'.get? b=some o')->
  h'.get? s.heap.objs.size=some {cls:=.type "list",dict:=none,data:=.seq its.toArray c',slots:=#[]}->EP X pins σ Q (.ref s.heap.objs.size) {s with heap:=h'}:=λits r' hz h' c' kp e=>
  ⟨.ref s.heap.objs.size,_,I.laid (t':=s.toks) kp (zzK _) (show vm X.prog X.w _ h' _ (.lst ys)from⟨hz,its,c',r',e⟩),rfl,q _ (I.hok.fresh (zzK _))⟩
 rcases hq with hq|hq
 · obtain⟨its,r',pl,hz⟩:=I.list hq
   have hlen:=r'.length
   obtain⟨o,ho,hc,n,hd⟩:=pl.isList
   exact call_list_seq p (.inl rfl) ho hc hd (λh' c' kp e=>fin its r' hz h' c' kp e) (by simp only[zzE]<;>omega)
 · obtain⟨its,r',pl,hz⟩:=I.tuple hq
   have hlen:=r'.length
   obtain⟨o,ho,hc,n,hd⟩:=pl
   exact call_list_seq p (.inr rfl) ho hc hd (λh' c' kp e=>fin its r' hz h' c' kp e) (by simp only[zzE]<;>omega)
theorem zaB:zap X (.type "tuple") (λxs H Q=>∃p ys,xs=[.ref p]/\((SqL X.K H p ys/\∀l,H l=none->Q (.ref l) (upd H l (.tup ys)))\/(SqT X.K H p ys/\Q (.ref p) H))):=by
 intro pins s σ H xs us Q I r h
 obtain⟨p,ys,rfl,h⟩:=h
 obtain⟨u,rfl,rx⟩:=vals1 r
 cases rx
 rcases h with⟨hq,q⟩|⟨hq,q⟩
 · obtain⟨its,r',pl,hz⟩:=I.list hq
   have hlen:=r'.length
   refine call_tuple_list pl.isList (λh' kp=>?_) (by simp only[zzE]<;>omega)
   have I1:Inv X pins σ H {s with heap:=h'}:=I.kept (t':=s.toks) kp
   have I2:Inv X pins σ (upd H h'.objs.size (.tup ys)) {s with heap:=h'.push {cls:=.type "tuple",data:=.seq its.toArray}}:=
    I1.laid (t':=s.toks) (λb o e=>zxD _ e) (zzK _) (show vm X.prog X.w _ _ _ (.tup ys)from⟨hz,its,r',IsTup.new _ _⟩)
   exact⟨.ref h'.objs.size,_,I2,rfl,q _ (I1.hok.fresh (zzK _))⟩
 · obtain⟨its,r',pl,hz⟩:=I.tuple hq
   exact call_tuple_same pl ⟨.ref p,H,I,rfl,q⟩
def tyV(K:zC)(T:String)(x:V)(H:Hp):Prop:=match x with
 | .str _=>T="str"
 | .int _=>T="int"
 | .ref p=>(T="list"/\∃xs,SqL K H p xs)\/(T="tuple"/\∃o,K.lookup p=some o/\o.cls = .type "tuple"/\o.dict=none) \/
  (T="dict"/\((∃kvs,H p=some (.dK kvs))\/∃kvs,H p=some (.dT kvs)))\/(T="set"/\∃S n,H p=some (.set S n))
 |_=>False
theorem zqT(I:Inv X pins σ H s)(r:RelV x v)(ty:tyV X.K T x H):
 s.TypeIs v T/\∀a,v = .ref a->∃ob,s.heap.get? a=some ob/\ob.dict=none:=by
 cases x with
 |str z=>
  obtain⟨t,rfl⟩:=r
  cases(show T="str" from ty)
  exact⟨typeIs_str s z t,λ_ e=>nomatch e⟩
 |int i=>
  obtain⟨t,rfl⟩:=r
  cases(show T="int" from ty)
  exact⟨typeIs_int s i t,λ_ e=>nomatch e⟩
 |ref p=>
  cases r
  rcases ty with⟨rfl,xs,hq⟩|⟨rfl,o,hk,hc,hd⟩|⟨rfl,hk⟩|⟨rfl,S,n,hk⟩
  · obtain⟨its,_,pl,_⟩:=I.list hq
    refine⟨pl.isList.typeIs,λa e=>?_⟩
    cases e
    obtain⟨o,n,e,c,hd,_⟩:=pl
    exact⟨o,e,hd⟩
  · refine⟨⟨o,I.kIn p o hk,hc⟩,λa e=>?_⟩
    cases e
    exact⟨o,I.kIn _ o hk,hd⟩
  · have z:∃o,s.heap.get? p=some o/\o.ExactDict:=by
     rcases hk with⟨kvs,hk⟩|⟨kvs,hk⟩
     · obtain⟨_,_,_,_,o,_,_,e,ex,_⟩:=I.hok p _ hk
       exact⟨o,e,ex⟩
     · obtain⟨_,_,_,_,o,_,_,e,ex,_⟩:=I.hok p _ hk
       exact⟨o,e,ex⟩
    obtain⟨o,e,ex⟩:=z
    refine⟨⟨o,e,ex.1⟩,λa e2=>?_⟩
    cases e2
    exact⟨o,e,ex.2.1⟩
  · obtain⟨o,_,_,_,e,ex,_⟩:=I.hok p _ hk
    refine⟨⟨o,e,ex.1⟩,λa e2=>?_⟩
    cases e2
    exact⟨o,e,ex.2.1⟩
 |_=>exact False.elim ty
def tBM(K:zC)(T:String)(r:V->List V->Hp->VK->Prop)(to:TE)(t:TA):TE:=λσ H Q=>to σ H λx H1=>tyV K T x H1/\t σ H1 λxs H2=>r x xs H2 Q
variable{o e:Expr}{es:List Expr}{to:TE}{t:TA}{name:Str}{apos cpos:Pos}{T id:String}{r:V->List V->Hp->VK->Prop}
theorem zpw(pa:PlainAttrs T)(slot:Slot T name id)(hty:typeOf (.builtin id)=pure (.type "method_descriptor"))(hm:MtR X id r)(ho:PE X o to)(ha:PA X (e::es) t)
 (hbase:attributeBase o name X.env (eval o X.env)=eval o X.env:=by rfl)
 (hfew:((backTo cpos (starEach (e::es) X.env)).all (λx=>!x.1)&&(backToKw cpos (keywordEach [] X.env)).all (λx=>x.1.isSome)
  && decide ((e::es).length+([]:List Keyword).length+(if([]:List Keyword).isEmpty then 0 else 1)<30))=true:=by rfl)
 (hline:(apos.endLine==cpos.line)=true:=by rfl) (hs:starEach (e::es) X.env=(false,eval e X.env)::starEach es X.env:=by rfl) (hplain:(backTo cpos (starEach es X.env)).any (·.1)=false:=by rfl):
 PE X (.Call (.Attribute o name apos) (e::es) [] cpos) (tBM X.K T r to t):=by
 intro pins s σ H Q I h
 refine wpAny_Call_method_late hbase hfew hline rfl (thn (ho pins s σ H _ I h) λv s1 ⟨x,H1,I1,r1,ty,q1⟩=>?_)
 obtain⟨h1,h2⟩:=zqT I1 r1 ty
 refine⟨T,id,pa,slot,hty,h1,h2, ?_⟩
 have hA:=ha cpos pins s1 σ H1 _ I1 q1
 rw[hs]at hA ⊢
 refine Calls.callWith_builtin (by show(false||(backTo cpos (starEach es X.env)).any (·.1))=false;rw[hplain]<;>rfl) (Calls.evalArgs_plain ?_)
 exact thn hA λus s2 ⟨vs,H2,I2,r2,q2⟩=>hm pins s2 σ H2 x vs v us Q I2 r1 r2 q2
end
end L2
namespace L2
open PySem PySem.Spec PyProof.Rows
def MtM(X:Cx)(id:String)(r:V->List V->Hp->VK->Prop):Prop:=
 ∀(pins:List (Addr×Obj)) (s:Shared) (σ:St) (H:Hp) (x:V) (xs:List V) (v:Value) (us:List Value) (Q:VK),Inv X pins σ H s->RelV x v->Vals xs us->r x xs H Q->
  wpAny (model X.prog X.w) X.A (call (.builtin id) (v::us)) (EP X pins σ Q) X.xe s
theorem Vals.one:∀{x:V}{us:List Value},Vals [x] us->∃u,us=[u]/\RelV x u
 |_,_,.cons r .nil=>⟨_,rfl,r⟩
theorem Vals.eraseIdx:∀{xs:List V}{us:List Value}(i:Nat),Vals xs us->Vals (xs.eraseIdx i) (us.eraseIdx i)
 |_,_,_,.nil=>.nil
 |_,_,0,.cons _ t=>t
 |_,_,i+1,.cons r t=>.cons r (Vals.eraseIdx i t)
theorem Vals.rep(h:Vals xs us):∀k:Nat,Vals (List.replicate k xs).flatten (List.replicate k us).flatten
 |0=>.nil
 |k+1=>by
  rw[List.replicate_succ,List.replicate_succ,List.flatten_cons,List.flatten_cons]
  exact Vals.append h (Vals.rep h k)
theorem zfG:∀(l:List α) (i:Nat),(l.eraseIdx i).length<=l.length
 | [],_=>zzK _
 |_::_,0=>zyT _
 |_::r,i+1=>Nat.succ_le_succ (zfG r i)
theorem foldl_rep(its:List Value):∀(k:Nat) (acc:List Value),
 List.foldl (λx1 x2=>x1++x2) acc.toArray (List.replicate k its.toArray)=(acc++(List.replicate k its).flatten).toArray
 |0,acc=>by simp
 |k+1,acc=>by
  have e:acc.toArray++its.toArray=(acc++its).toArray:=by simp
  have e2:(acc++its)++(List.replicate k its).flatten=acc++(List.replicate (k+1) its).flatten:=by
   rw[List.replicate_succ,List.flatten_cons,zyY]
  rw[<-e2,<-foldl_rep its k (acc++its),<-e,List.replicate_succ,List.foldl_cons]
section
variable{X:Cx}{pins:List (Addr×Obj)}{σ:St}{H:Hp}{s:Shared}{l b:Addr}{xs ys zs:List V}
theorem Inv.lset{its its':List Value}{n:Nat}{f:Array Value->Array Value}{t':Nat}(I:Inv X pins σ H s)(hH:H l=some (.lst xs))
 (e:s.heap.get? l=some {cls:=.type "list",data:=.seq its.toArray n}) (hf:f its.toArray=its'.toArray) (hv:Vals ys its') (hz:ys.length<=sizeLine):
 Inv X pins σ (upd H l (.lst ys)) {s with heap:=s.heap.update l (Obj.mapSeq f),toks:=t'}:=by
 have q:=PySem.IsL.update e f
 rw[hf]at q
 refine I.write (x:=l) (e:=l) (by rw[hH];exact trivial) (.inl rfl) (λb' u hb hu=>(Heap.get?_update_other s.heap (Obj.mapSeq f) (Ne.symm hb)).trans hu) ⟨_,q⟩ ?_
 exact⟨hz,its',_,hv,q⟩
theorem Inv.lnew(I:Inv X pins σ H s)(hv:Vals ys its)(hz:ys.length<=sizeLine):
 Inv X pins σ (upd H s.heap.objs.size (.lst ys)) {s with heap:=s.heap.push {cls:=.type "list",data:=.seq its.toArray},toks:=t'}:=
 I.laid (λ_ _ q=>zxD _ q) (zzK _) ⟨hz,its,0,hv,zxF _ rfl⟩
theorem Inv.fresh(I:Inv X pins σ H s):H s.heap.objs.size=none:=I.hok.fresh (zzK _)
theorem Inv.lstM(I:Inv X pins σ H s)(hH:H l=some (.lst xs)):xs.length<=sizeLine/\∃(its:List Value) (n:Nat),Vals xs its/\xs.length=its.length/\s.heap.get? l=some {cls:=.type "list",data:=.seq its.toArray n}:=by
 obtain⟨z,its,n,r,e⟩:=I.hok l _ hH
 exact⟨z,its,n,r,r.length,e⟩
theorem zhx(h:n<=sizeLine):Builtin.List.listTooLong n=false:=by
 unfold Builtin.List.listTooLong
 exact zyD (by omega)
end
section
variable{X:Cx}
def zkB:V->List V->Hp->VK->Prop:=λx vs H Q=>∃l xs y,x = .ref l/\vs=[y]/\H l=some (.lst xs)/\xs.length<sizeLine/\Q .non (upd H l (.lst (xs++[y])))
theorem xm:MtM X "list.append" zkB:=by
 intro pins s σ H x vs v us Q I rx rv h
 obtain⟨l,xs,y,rfl,rfl,hH,hz,q⟩:=h
 cases rx
 obtain⟨u,rfl,ru⟩:=rv.one
 obtain⟨z,its,n,r,hl,e⟩:=I.lstM hH
 refine call_meets F.slot_list_append ⟨_,e,rfl⟩ F.entry_list_append (F.args_list_append_2 _ _) (PySem.list_append l its.toArray n u (by rw[zzE];omega)) ⟨e, ?_⟩
 refine⟨.non,_,I.lset (its':=its++[u]) hH e (by simp) (r.append (.cons ru .nil)) ?_,rfl,q⟩
 rw[zzG,List.length_singleton]
 omega
def zkb:V->List V->Hp->VK->Prop:=λx vs H Q=>∃l b xs zs,x = .ref l/\vs=[.ref b]/\H l=some (.lst xs)/\H b=some (.lst zs)/\xs.length+zs.length<=sizeLine/\Q .non (upd H l (.lst (xs++zs)))
theorem zkF:MtM X "list.extend" zkb:=by
 intro pins s σ H x vs v us Q I rx rv h
 obtain⟨l,b,xs,zs,rfl,rfl,hH,hB,hz,q⟩:=h
 cases rx
 obtain⟨u,rfl,ru⟩:=rv.one
 cases ru
 obtain⟨z,its,n,r,hl,e⟩:=I.lstM hH
 obtain⟨z2,its2,n2,r2,hl2,e2⟩:=I.lstM hB
 have hsz:its.toArray.size+its2.toArray.size<=sizeLine:=by rw[zzE,zzE];omega
 have hlong:¬(!its.toArray.isEmpty&&Builtin.List.listTooLong (its.toArray.size+its2.toArray.size))=true:=by
  rw[zhx hsz,Bool.and_false]
  exact zyS
 refine call_meets F.slot_list_extend ⟨_,e,rfl⟩ F.entry_list_extend (F.args_list_extend_2 _ _)
  (AutoSeq1.list_extend_list_list_0 l its.toArray n b its2.toArray n2 hlong (by rw[zzE];omega) (by omega)) ⟨e,e2, ?_⟩
 refine⟨.non,_,I.lset (its':=its++its2) hH e (by simp) (r.append r2) ?_,rfl,q⟩
 rw[zzG]
 omega
def znb:V->List V->Hp->VK->Prop:=λx vs H Q=>∃l xs i k y,x = .ref l/\vs=[.int i]/\H l=some (.lst xs) /\ -(2 ^ 63)<=i/\i<2 ^ 63/\seqIndex? i xs.length=some k/\xs[k]? = some y/\Q y (upd H l (.lst (xs.eraseIdx k)))
theorem znc:MtM X "list.pop" znb:=by
 intro pins s σ H x vs v us Q I rx rv h
 obtain⟨l,xs,i,k,y,rfl,rfl,hH,h1,h2,hk,hy,q⟩:=h
 cases rx
 obtain⟨u,rfl,ru⟩:=rv.one
 obtain⟨t,rfl⟩:=ru
 obtain⟨z,its,n,r,hl,e⟩:=I.lstM hH
 obtain⟨w,hw,rw'⟩:=r.get hy
 refine call_meets F.slot_list_pop ⟨_,e,rfl⟩ F.entry_list_pop (F.args_list_pop_2 _ _)
  (MeetsSeq.list_pop_at l its.toArray n i t k w (fitsIndex_both h1 h2) (by rw[zzE,<-hl];exact hk) (by rw[<-Array.getElem?_toList];exact hw) (by rw[zzE];omega)) ⟨e, ?_⟩
 refine⟨y,_,I.lset (its':=its.eraseIdx k) hH e ?_ (r.eraseIdx k) ?_,rw',q⟩
 · show its.toArray.eraseIdxIfInBounds k=(its.eraseIdx k).toArray
   rw[List.eraseIdxIfInBounds_toArray]
 · have:=zfG xs k
   omega
theorem len_rep(xs:List α)(k:Nat):(List.replicate k xs).flatten.length=k*xs.length:=by
 induction k with
 |zero=>simp
 |succ k ih=>rw[List.replicate_succ,List.flatten_cons,zzG,ih,Nat.succ_mul,Nat.add_comm]
end
end L2
namespace Att
open PySem PySem.W PySem.Calls PyProof.Rows
theorem zdy:∀(ns:List Int) (vs:List Value),WellAll P h vs (ns.map WData.int)->IntsAre vs ns:=by
 intro ns
 induction ns with
 |nil=>
  intro vs w
  rw[List.map_nil]at w
  cases w
  exact .nil
 |cons n ns ih=>
  intro vs w
  rw[zyP]at w
  cases w with
  |cons a b=>
   cases a
   exact .cons _ _ (ih _ b)
theorem zkG{l:OpenLaw}{n:Nat}(hn:l.most=some n){P:Params}{h:Heap}{args:List WData}{vals:List Value}
 (hpre:l.row.toRowW.claim.pre args=true) (hwl:WellAll P h vals args):
 ∃a vs ns,vals=[Value.ref a]/\args=[WData.list (ns.map WData.int)]/\h.get? a=some {cls:=.type "list",data:=.seq vs.toArray}/\IntsAre vs ns/\ns.length<=n:=by
 have hsh:WShape.hasAll [] args [.list .int]=true:=(pre_splitW hpre).1
 have hc:l.pre.holds [] {args:=args}=true:=(pre_splitW hpre).2
 obtain⟨d,r,rfl,h1,h2⟩:=hasAllW_cons hsh
 obtain rfl:=hasAllW_nil h2
 obtain⟨xs,rfl,h3⟩:=hasW_list h1
 obtain⟨ns,rfl⟩:=items_int h3
 have hlen:ns.length<=n:=by
  unfold OpenLaw.pre at hc
  have h4:(WTm.not (.lt (.lit (.int (n:Int))) (.len (.arg 0)))).holds [] {args:=[.list (ns.map .int)]}=true:=by
   have h4:=(holds_andW hc).1
   rw[hn]at h4
   exact h4
  have h5:=condW_of h4 (w_not (w_lt w_lit (w_len_list (w_arg rfl))))
  rw[zD]at h5
  refine Nat.le_of_not_lt λq=>?_
  have q':(n:Int)<((ns.length:Nat):Int):=by omega
  first
   |(rw[zyL q']at h5;exact absurd h5 (by decide))
   |(simp at h5;omega)
 cases hwl with
 |cons w1 w2=>
  cases w2
  cases w1 with
  |list ho hall=>exact⟨_,_,ns,rfl,rfl,ho,zdy ns _ hall,hlen⟩
theorem zlk(l:OpenLaw)(args:List WData):l.row.toRowW.claim.post args (.bool true) args=true:=
 postW_of (r:=l.row.toRowW) (X:=(true==true))
  (show WShape.has [] (.bool true) .bool=true by first|rfl|decide|simp[WShape.has,WShape.arms,WShape.armsAll])
  (show(WTm.eq .res (.lit (.bool true))).value [] {args:=args,res:=some (.bool true),after:=args}=some (.bool (true==true))from w_eq_bool (w_res rfl) w_lit) rfl
theorem zhY{l:OpenLaw}{n:Nat}{q:Program}{loose:List Str}{XP:(Str->Option Value)->Heap->Prop}{YP:World->Heap->Prop}{d:DefRec}
 (hn:l.most=some n) (hdf:d.params.defaults=[])
 (call:∀(w:World) (s₀ s₁:Shared) (mg mb:Str->Option Value) (fa:Addr) (o:Obj) (pm cd doc:Value) (a:Addr) (vs:List Value) (ns:List Int),
  Ground q loose [] XP w s₀ mg mb s₁.heap->YP w s₁.heap->
  s₁.heap.get? fa=some o->o.data = .func (docDef d.name d.params d.body d.scope pm cd doc)->s₁.heap.CodeRec cd d.name->mg d.name=some (.ref fa)->
  s₁.heap.get? a=some {cls:=.type "list",data:=.seq vs.toArray}->IntsAre vs ns->ns.length<=n->s₁.gens = #[]->
  codeAny (model l.prog w) callerA (.call (.ref fa) ⟨[.ref a],[]⟩) (λr s'=>r = .ok (.ret (.bool true))/\OldK s₁.heap s'.heap/\s'.os=s₁.os/\AllBare s'.gens) s₁):
 WalkO q loose XP YP l.row.toRowW d [] (λf vs=>PySem.call f vs):=by
 intro w s₀ s₁ mg mb G Y fa o pm cd doc dV kV ho hd hcd hD hmg hg args vals as hpre hlay hrd hwl hlo
 obtain rfl:dV = .none:=Dflts.none hD hdf
 obtain rfl:kV = .none:=Dflts.noKw hD
 obtain⟨a,vs,ns,rfl,rfl,hobj,hints,hlen⟩:=zkG hn hpre hwl
 refine enter_call (codeAny_mono (call w s₀ s₁ mg mb fa o pm cd doc a vs ns G Y ho (fd_plain hd) hcd hmg hobj hints hlen hg) λr s' hq=>?_)
 obtain⟨rfl,h2,h3,h4⟩:=hq
 exact⟨.inl ⟨.bool true,.bool true,[],rfl,λ_=>rfl,.bool true,zlk l _,λ_=>⟨List.Pairwise.nil,λ_ hm=>(nomatch hm)⟩⟩,h2,h3,h4⟩
end Att
namespace L2
open PySem PySem.Spec PyProof.Rows
theorem XH:∀{vs:List Value}{ns:List Int},IntsAre vs ns->Vals (ns.map V.int) vs
 |_,_,.nil=>.nil
 |_,_,.cons n t h=>.cons ⟨t,rfl⟩ (XH h)
def Only(H:Hp):Prop:=∀b,H b=none\/∃o xs,H b=some (.frz o (.lst xs))
theorem zlX{P:Program}{w:World}{K:zC}{mg mb:Str->Option Value}{CX:CXT}{k:Nat}{fa a:Addr}{fd:FuncData}{x:Str}{sp:Sp}{s₁:Shared}{vs:List Value}{ns:List Int}
 (KX:K.In s₁.heap) (hns:s₁.heap.Ns mainGlobals mg) (hb:s₁.heap.Ns builtinsNs mb) (hbb:∀x:Str,x≠"__name__"->mb x=bootBuiltins x) (hlim:s₁.heap.NoLimit) (hg:s₁.gens = #[])
 (ha:s₁.heap.get? a=some {cls:=.type "list",data:=.seq vs.toArray}) (hi:IntsAre vs ns) (hl:ns.length<=sizeLine) (hr:Room k callerA)
 (F:∀base:Heap,K.In base->base.Ns mainGlobals mg->FnOk P w K mg base CX k fa fd [x] sp) (hbind:∀(s:Shared) (u:Value),BindsTo s fd ⟨[u],[]⟩ [(x,u)])
 (hsp:∀H:Hp,Only H->RdL K H a (ns.map V.int)->sp [.ref a] H (λv _=>v = .bl true) λ_ _ _=>False)
 (hCX:∀H e s',CX [] H s₁ (λ_ _ _=>False) e s'->False):
 codeAny (model P w) callerA (.call (.ref fa) ⟨[.ref a],[]⟩) (λr s'=>r = .ok (.ret (.bool true))/\OldK s₁.heap s'.heap/\s'.os=s₁.os/\AllBare s'.gens) s₁:=by
 have rv:=XH hi
 have lenV:=hi.length
 have core:∀H:Hp,Only H->RdL K H a (ns.map V.int)->HOk P w H s₁.heap->(∀b,H b≠none->b=a)->(H a≠none->K.lookup a=none)->
  codeAny (model P w) callerA (.call (.ref fa) ⟨[.ref a],[]⟩) (λr s'=>r = .ok (.ret (.bool true))/\OldK s₁.heap s'.heap/\s'.os=s₁.os/\AllBare s'.gens) s₁:=by
  intro H hO hS hok hA hK
  have base_of:∀{b:Addr}{o:Obj},s₁.heap.get? b=some o->H b=none->(zgJ s₁.heap H).get? b=some o:=λe n=>zmd e n
  have noA:∀{b:Addr}{o:Obj}{es:Array DictEntry}{ep:Nat},s₁.heap.get? b=some o->o.data = .dict es ep->H b=none:=λ{b o es ep} e d=>by
   cases q:H b with
   |none=>rfl
   |some u=>
    have e':b=a:=hA b (by rw[q];simp)
    subst e'
    rw[ha]at e;cases e
    have d':Data.seq vs.toArray _=Data.dict es ep:=d
    cases d'
  have nsK:∀{b:Addr}{m:Str->Option Value},s₁.heap.Ns b m->(zgJ s₁.heap H).Ns b m:=λ{b m} ⟨o,es,ep,e,d,r⟩=>⟨o,es,ep,base_of e (noA e d),d,r⟩
  have hKb:K.In (zgJ s₁.heap H):=λb o e=>base_of (KX b o e) (by
   cases q:H b with
   |none=>rfl
   |some u=>
    have e':b=a:=hA b (by rw[q];simp)
    subst e'
    rw[hK (by rw[q];simp)]at e;cases e)
  have hM:Mod K mg (zgJ s₁.heap H):=⟨hKb,nsK hns,⟨mb,nsK hb,hbb⟩,let⟨mc,h1,h2⟩:=hlim;⟨mc,nsK h1,h2⟩⟩
  have e0:Env0 P w K mg (zgJ s₁.heap H) callerA [] s₁ H:=⟨rfl,hM,λb o e=>znS e,Nat.le_of_eq (zla _ _),trivial,λb hb=>absurd (show b ∈ ([]:List Addr)from hb) (by simp),hok,.of_eq hg⟩
  refine codeAny_mono ((F _ hKb (nsK hns)).run callerA [] s₁ H ⟨[.ref a],[]⟩ [.ref a] [.ref a] _ _ hr e0 (hbind s₁ (.ref a)) (.cons rfl .nil) (hsp H hO hS)) λr s' h=>?_
  cases r with
  |error e=>exact(hCX H e s' h).elim
  |ok fl=>
   cases fl with
   |next=>exact False.elim h
   |brk=>exact False.elim h
   |cont=>exact False.elim h
   |ret u=>
    obtain⟨v,H',os,bare,un,hok',r',q⟩:=h
    have q':v = .bl true:=q
    subst q'
    obtain rfl:u=Value.bool true:=r'
    refine⟨rfl,OldK.of_keep λb o e=>?_,os,bare⟩
    cases q:H b with
    |none=>exact un.keep b o e q (by intro z;exact absurd (show b ∈ ([]:List Addr)from z) (by simp)) (by simp)
    |some u=>
     rcases hO b with z|⟨ob,xs,z⟩
     · rw[q]at z;cases z
     · have z2:=un.frzs b ob _ z
       obtain⟨e1,_⟩:=hok b _ z
       obtain⟨e2,_⟩:=hok' b _ z2
       rw[e]at e1;cases e1
       exact e2
 cases hk:K.lookup a with
 |some o=>
  have e:=KX a o hk
  rw[ha]at e
  cases e
  refine core (λ_=>none) (λ_=>.inl rfl) (.inr ⟨vs.toArray,_,hk,by rw[zzE,lenV];exact hl,by simpa using rv⟩) (λb u z=>by have z':(none:Option HO)=some u:=z;cases z') (λb z=>absurd rfl z) λz=>absurd rfl z
 |none=>
  refine core (λb=>if b=a then some (.frz {cls:=.type "list",data:=.seq vs.toArray} (.lst (ns.map V.int)))else none) (λb=>?_) (.inl (.inr ⟨{cls:=.type "list",data:=.seq vs.toArray},if_pos rfl⟩)) (λb u z=>?_) (λb z=>?_) λ_=>hk
  · by_cases hb:b=a
    · exact .inr ⟨_,_,if_pos hb⟩
    · exact .inl (if_neg hb)
  · by_cases hb:b=a
    · have z':=(if_pos hb).symm.trans z
      cases z'
      subst hb
      exact⟨ha,by rw[zD];exact hl,vs,_,rv,ha⟩
    · have z':=(if_neg hb).symm.trans z
      cases z'
  · by_cases hb:b=a
    · exact hb
    · exact absurd (if_neg hb) z
end L2
namespace L2
open PySem PySem.Spec PyProof.Rows
theorem walk_of{l:PySem.W.OpenLaw}{n k:Nat}{q:Program}{loose:List Str}{XP:(Str->Option Value)->Heap->Prop}{YP:World->Heap->Prop}{d:DefRec}{K:Params->zC}{CX:World->CXT}{sp:World->Sp}{x:Str}
 (hn:l.most=some n) (hn2:n<=sizeLine) (hdf:d.params.defaults=[]) (hr:Room k callerA)
 (hY:∀(w:World) (h:Heap),YP w h->(K w.params).In h)
 (F:∀(w:World) (mg:Str->Option Value) (fa:Addr) (h:Heap),(K w.params).In h->h.Ns mainGlobals mg->mg d.name=some (.ref fa)->
  ∃fd:FuncData,(∀(s:Shared) (u:Value),BindsTo s fd ⟨[u],[]⟩ [(x,u)])/\
   ∀base:Heap,(K w.params).In base->base.Ns mainGlobals mg->FnOk l.prog w (K w.params) mg base (CX w) k fa fd [x] (sp w))
 (hsp:∀(w:World) (H:Hp) (a:Addr) (ns:List Int),ns.length<=n->Only H->RdL (K w.params) H a (ns.map V.int)->sp w [.ref a] H (λv _=>v = .bl true) λ_ _ _=>False)
 (hCX:∀(w:World) (H:Hp) (s:Shared) (e:Value) (s':Shared),CX w [] H s (λ_ _ _=>False) e s'->False):
 PySem.W.WalkO q loose XP YP l.row.toRowW d [] (λf vs=>PySem.call f vs):=by
 refine Att.zhY hn hdf λw s₀ s₁ mg mb fa o pm cd doc a vs ns G Y ho hd hcd hmg hobj hints hlen hg=>?_
 have KX:=hY w _ Y
 obtain⟨fd,hb,hF⟩:=F w mg fa _ KX G.T.g hmg
 exact zlX KX G.T.g G.T.b G.T.builtins G.T.nolimit hg hobj hints (zzL hlen hn2) hr hF hb (λH hO hS=>hsp w H a ns hlen hO hS) λH e s'=>hCX w H s₁ e s'
end L2
namespace L2
open PySem PySem.Spec PyProof.Rows
def zdK(s:Stmt):Arguments:=match s with
 | .FunctionDef _ a _ _ _ _ _ _ _ _=>a
 |_=>{posonlyargs:=[],args:=[],vararg:=none,kwonlyargs:=[],kw_defaults:=[],kwarg:=none,defaults:=[]}
def V6(s:Stmt):List Stmt:=match s with
 | .FunctionDef _ _ b _ _ _ _ _ _ _=>b
 |_=>[]
def zj(s:Stmt):Scope:=match s with
 | .FunctionDef _ _ _ _ _ _ sc _ _ _=>sc
 |_=>{kind:=.function,names:=[],isGenerator:=false,isCoroutine:=false}
abbrev CX0:CXT:=λ_ _ _ _ _ _=>False
abbrev E0:XK:=λ_ _ _=>False
theorem zss:zgn CX0 X E0:=λ_ _ _ _ _ _ _ h=>h.elim
structure Fun(K:zC)(x qual:Str)(st:Stmt)(f:Addr)(fd:FuncData):Prop where
 ex:∃(oc:Value) (od:Option Addr) (kV doc pm:Value) (an:Option Addr) (cdv ct:Value) (osl:Array (Option Value)),
  fd=PySem.W.fnOf x qual (zdK st) (V6 st) (zj st) .none kV doc pm an cdv ct/\K.lookup f=some ⟨oc,od,.func fd,osl⟩/\PySem.W.codeIn K cdv qual=true
 kp:PySem.W.keepIn K (.ref f)=true
section
variable{P:Program}{w:World}{K:zC}{mg:Str->Option Value}{base:Heap}
theorem Fun.ok{x qual:Str}{st:Stmt}{f:Addr}{fd:FuncData}{N ps:List Str}{k:Nat}{sp:Sp}(F:Fun K x qual st f fd)(S:FnScope N ps (zj st))(len:∀vs H Q E,sp vs H Q E->vs.length=ps.length)
 (hbody:∀(cdv:Value) (A:Around) (outer:List Env) (s:Shared) (H:Hp) (vs:List V) (Q:VK) (E:XK),Room k (A.deeper (envOfC qual (zj st) s.heap.objs.size f cdv))->sp vs H Q E->
  ∃t,PSs (zjv CX0 P w K mg base N qual (zj st) f cdv A outer s H E).nox (V6 st) t/\t {nx:=λ_ H'=>Q .non H',rt:=Q} (start N vs) H):FnOk P w K mg base CX0 (k+1) f fd ps sp:=by
 obtain⟨oc,od,kV,doc,pm,an,cdv,ct,osl,rfl,lk,hcd⟩:=F.ex
 refine zsp lk hcd S len λA outer s H vs Q E hr hsp=>?_
 obtain⟨t,h,q⟩:=hbody cdv A outer s H vs Q E hr hsp
 exact⟨t,h.nox,q⟩
theorem Fun.binds{x qual:Str}{st:Stmt}{f:Addr}{fd:FuncData}{ps:List Str}(F:Fun K x qual st f fd)
 (h:∀(kV doc pm:Value) (an:Option Addr) (cdv ct:Value) (us:List Value),us.length=ps.length->bindArgs (PySem.W.fnOf x qual (zdK st) (V6 st) (zj st) .none kV doc pm an cdv ct) ⟨us,[]⟩=pure (ps.zip us)):Binds K fd ps []:=by
 obtain⟨oc,od,kV,doc,pm,an,cdv,ct,osl,rfl,lk,hcd⟩:=F.ex
 exact .all (h kV doc pm an cdv ct)
end
theorem zlS(hr:Room k A):A.units+1<cLine:=Nat.lt_of_le_of_lt (Nat.add_le_add_left (by decide:1<=64) _) hr.units
theorem ZL(h:n<=1000):n<sizeLine:=Nat.lt_of_le_of_lt h (by decide)
section
variable{X:Cx}
theorem pv(i:Nat)(hN:X.N[i]? = some x:=by rfl)(hv:Vis X.env.scope x:=by first|exact Or.inl rfl|exact Or.inr (Or.inl rfl)|exact Or.inr (Or.inr rfl))(hd:(x==("__debug__":Str))=false:=by decide)
 (hcd:(x==("__classdict__":Str))=false:=by decide):PE X (.Name x pos) (Xy i):=zlQ hN hv hd hcd
end
end L2
end
section
namespace G51
open PySem PySem.W PyProof.Rows L2
def top(i:Nat):Stmt:=PySem.Challenge.pw_stretchdeeds_k51_told_apart.main.body.getD i (.Pass ⟨0,0,0,0⟩)
abbrev vG:Stmt:=top 1
abbrev Zn:Stmt:=top 2
abbrev Yx:Stmt:=top 3
abbrev Z3:Stmt:=top 5
abbrev Vz:Stmt:=top 6
abbrev Yw:Stmt:=top 7
abbrev Yh:Stmt:=top 8
abbrev Z0:Stmt:=top 9
abbrev YK:Stmt:=top 10
abbrev vP:Stmt:=top 11
abbrev ZX:Stmt:=top 12
abbrev wJ:Stmt:=top 13
abbrev YM:Stmt:=top 14
abbrev Z8:Stmt:=top 15
abbrev Zx:Stmt:=top 16
abbrev Wq:Stmt:=top 17
abbrev Y9:Stmt:=top 18
abbrev Z6:Stmt:=top 19
abbrev wM:Stmt:=top 20
abbrev ZP:Stmt:=top 21
abbrev Wn:Stmt:=top 22
abbrev Yg:Stmt:=top 23
abbrev YX:Stmt:=top 24
abbrev vD:Stmt:=top 25
abbrev vJ:Stmt:=top 26
abbrev Yt:Stmt:=top 27
abbrev wD:Stmt:=top 28
abbrev V8:Stmt:=top 29
abbrev Zf:Stmt:=top 30
abbrev vM:Stmt:=top 31
abbrev ziv:Stmt:=top 32
abbrev kF(n q:Str)(s:Stmt)(pm cd:Value):Obj:=⟨.type "function",none,.func (fnOf n q (zdK s) (V6 s) (zj s) .none .none .none pm none cd .none),#[]⟩
abbrev kC(n:Str)(a:Nat)(q:Str)(b c:Nat)(i3 i4 i5 i6 i7:Int)(r8:Addr)(b9:Bool)(i10:Int)(r11 r13 r14 r15:Addr)(i16 i17:Int)(d:Nat):Obj:=⟨.type "code",none,.fields #[.str n a,.str q b,.str "/claim/cut.py" c,.int i3 0,.int i4 0,.int i5 0,.int i6 0,.int i7 0,.ref r8,.bool b9,.int i10 0,.ref r11,.none,.ref r13,.ref r14,.ref r15,.int i16 0,.int i17 0,.str "/claim/cut.py" d],#[]⟩
abbrev kD(es:List DictEntry)(n:Nat):Obj:=⟨.type "dict",none,.dict es.toArray n,#[]⟩
abbrev kE(P:Params)(x:Str)(t:Nat)(v:Value):DictEntry:=⟨PyData.keyHash P x,.str x t,v⟩
abbrev kR(P:Params)(x:Str)(t:Nat)(a:Addr):DictEntry:=kE P x t (.ref a)
def K(P:Params):Frag:=
 (nat_lit 3,kD [kE P "__name__" 165 (.str "law_stretchdeeds_k51_told_apart" 224),kE P "__doc__" 166 .none,kE P "__package__" 167 .none,kE P "__loader__" 168 (.builtin "__main__.__loader__#opaque"),kE P "__spec__" 169 .none,kR P "__annotations__" 170 6,kR P "__builtins__" 171 4,kE P "__file__" 173 (.str "/claim/cut.py" 172),kE P "__cached__" 174 .none,kR P "all_steps" 194 19,kR P "telling_sign" 205 26,kR P "told_apart" 223 33,kR P "_law_cell_at" 233 40,kR P "_law_whole" 240 47,kR P "_law_stream" 251 54,kR P "_law_names" 257 59,kR P "_law_divisor" 265 66,kR P "_law_sums" 271 71,kR P "_law_rising" 277 76,kR P "_law_kept" 283 81,kR P "_law_joins" 289 86,kR P "_law_rows" 295 91,kR P "_law_plain" 301 96,kR P "_law_beside" 307 101,kR P "_law_made" 321 108,kR P "_law_order" 332 115,kR P "_law_signs" 338 120,kR P "_law_algebra" 344 125,kR P "_law_bent" 350 130,kR P "_law_step" 361 137,kR P "_law_steps" 367 142,kR P "_law_held" 373 147,kR P "_law_numbered" 379 152,kR P "_law_levels" 385 157,kR P "_law_digits" 396 164,kR P "_law_by_digits" 402 169,kR P "_law_any" 411 176,kR P "_law_pairs" 417 181,kR P "_law_frame_good" 432 188,kR P "law" 438 193] 40) ::
 (nat_lit 18,⟨.type "code",none,.fields #[(.str "all_steps" 189),(.str "all_steps" 190),(.str "/claim/cut.py" 191),(.int (2) 0),(.int (1) 0),(.int (0) 0),(.int (0) 0),(.int (3) 0),(.ref 15),(.bool true),(.int (181) 0),(.ref 16),.none,.none,.none,(.ref 17),(.int (192) 0),(.int (2) 0),(.str "/claim/cut.py" 193)],#[]⟩) ::
 (nat_lit 19,kF "all_steps" "all_steps" vG (.str "stretchdeeds.alikes" 187) (.ref 18)) ::
 (nat_lit 25,kC "telling_sign" 195 "telling_sign" 196 197 9 3 0 0 3 20 true 181 21 22 23 24 203 9 204) ::
 (nat_lit 26,kF "telling_sign" "telling_sign" Zn (.str "stretchdeeds.alikes" 187) (.ref 25)) ::
 (nat_lit 32,kC "told_apart" 206 "told_apart" 207 208 14 3 0 0 3 27 true 181 28 29 30 31 221 14 222) ::
 (nat_lit 33,kF "told_apart" "told_apart" Yx (.str "stretchdeeds.alikes" 187) (.ref 32)) ::
 (nat_lit 39,kC "_law_cell_at" 226 "_law_cell_at" 227 228 32 2 0 0 3 34 true 181 35 36 37 38 231 32 232) ::
 (nat_lit 40,kF "_law_cell_at" "_law_cell_at" Z3 (.str "law_stretchdeeds_k51_told_apart" 224) (.ref 39)) ::
 (nat_lit 46,kC "_law_whole" 234 "_law_whole" 235 236 36 1 0 0 3 41 true 181 42 43 44 45 238 36 239) ::
 (nat_lit 47,kF "_law_whole" "_law_whole" Vz (.str "law_stretchdeeds_k51_told_apart" 224) (.ref 46)) ::
 (nat_lit 53,kC "_law_stream" 241 "_law_stream" 242 243 38 2 0 0 3 48 true 181 49 50 51 52 249 38 250) ::
 (nat_lit 54,kF "_law_stream" "_law_stream" Yw (.str "law_stretchdeeds_k51_told_apart" 224) (.ref 53)) ::
 (nat_lit 58,⟨.type "code",none,.fields #[(.str "_law_names" 252),(.str "_law_names" 253),(.str "/claim/cut.py" 254),(.int (45) 0),(.int (2) 0),(.int (0) 0),(.int (0) 0),(.int (3) 0),(.ref 55),(.bool true),(.int (181) 0),(.ref 56),.none,.none,.none,(.ref 57),(.int (255) 0),(.int (45) 0),(.str "/claim/cut.py" 256)],#[]⟩) ::
 (nat_lit 59,kF "_law_names" "_law_names" Yh (.str "law_stretchdeeds_k51_told_apart" 224) (.ref 58)) ::
 (nat_lit 65,kC "_law_divisor" 258 "_law_divisor" 259 260 54 2 0 0 3 60 true 181 61 62 63 64 263 54 264) ::
 (nat_lit 66,kF "_law_divisor" "_law_divisor" Z0 (.str "law_stretchdeeds_k51_told_apart" 224) (.ref 65)) ::
 (nat_lit 70,⟨.type "code",none,.fields #[(.str "_law_sums" 266),(.str "_law_sums" 267),(.str "/claim/cut.py" 268),(.int (58) 0),(.int (3) 0),(.int (0) 0),(.int (0) 0),(.int (3) 0),(.ref 67),(.bool true),(.int (181) 0),(.ref 68),.none,.none,.none,(.ref 69),(.int (269) 0),(.int (58) 0),(.str "/claim/cut.py" 270)],#[]⟩) ::
 (nat_lit 71,kF "_law_sums" "_law_sums" YK (.str "law_stretchdeeds_k51_told_apart" 224) (.ref 70)) ::
 (nat_lit 75,⟨.type "code",none,.fields #[(.str "_law_rising" 272),(.str "_law_rising" 273),(.str "/claim/cut.py" 274),(.int (64) 0),(.int (3) 0),(.int (0) 0),(.int (0) 0),(.int (3) 0),(.ref 72),(.bool true),(.int (181) 0),(.ref 73),.none,.none,.none,(.ref 74),(.int (275) 0),(.int (64) 0),(.str "/claim/cut.py" 276)],#[]⟩) ::
 (nat_lit 76,kF "_law_rising" "_law_rising" vP (.str "law_stretchdeeds_k51_told_apart" 224) (.ref 75)) ::
 (nat_lit 80,⟨.type "code",none,.fields #[(.str "_law_kept" 278),(.str "_law_kept" 279),(.str "/claim/cut.py" 280),(.int (68) 0),(.int (3) 0),(.int (0) 0),(.int (0) 0),(.int (3) 0),(.ref 77),(.bool true),(.int (181) 0),(.ref 78),.none,.none,.none,(.ref 79),(.int (281) 0),(.int (68) 0),(.str "/claim/cut.py" 282)],#[]⟩) ::
 (nat_lit 81,kF "_law_kept" "_law_kept" ZX (.str "law_stretchdeeds_k51_told_apart" 224) (.ref 80)) ::
 (nat_lit 85,⟨.type "code",none,.fields #[(.str "_law_joins" 284),(.str "_law_joins" 285),(.str "/claim/cut.py" 286),(.int (71) 0),(.int (2) 0),(.int (0) 0),(.int (0) 0),(.int (3) 0),(.ref 82),(.bool true),(.int (181) 0),(.ref 83),.none,.none,.none,(.ref 84),(.int (287) 0),(.int (71) 0),(.str "/claim/cut.py" 288)],#[]⟩) ::
 (nat_lit 86,kF "_law_joins" "_law_joins" wJ (.str "law_stretchdeeds_k51_told_apart" 224) (.ref 85)) ::
 (nat_lit 90,⟨.type "code",none,.fields #[(.str "_law_rows" 290),(.str "_law_rows" 291),(.str "/claim/cut.py" 292),(.int (82) 0),(.int (4) 0),(.int (0) 0),(.int (0) 0),(.int (3) 0),(.ref 87),(.bool true),(.int (181) 0),(.ref 88),.none,.none,.none,(.ref 89),(.int (293) 0),(.int (82) 0),(.str "/claim/cut.py" 294)],#[]⟩) ::
 (nat_lit 91,kF "_law_rows" "_law_rows" YM (.str "law_stretchdeeds_k51_told_apart" 224) (.ref 90)) ::
 (nat_lit 95,⟨.type "code",none,.fields #[(.str "_law_plain" 296),(.str "_law_plain" 297),(.str "/claim/cut.py" 298),(.int (90) 0),(.int (5) 0),(.int (0) 0),(.int (0) 0),(.int (3) 0),(.ref 92),(.bool true),(.int (181) 0),(.ref 93),.none,.none,.none,(.ref 94),(.int (299) 0),(.int (90) 0),(.str "/claim/cut.py" 300)],#[]⟩) ::
 (nat_lit 96,kF "_law_plain" "_law_plain" Z8 (.str "law_stretchdeeds_k51_told_apart" 224) (.ref 95)) ::
 (nat_lit 100,⟨.type "code",none,.fields #[(.str "_law_beside" 302),(.str "_law_beside" 303),(.str "/claim/cut.py" 304),(.int (93) 0),(.int (3) 0),(.int (0) 0),(.int (0) 0),(.int (3) 0),(.ref 97),(.bool true),(.int (181) 0),(.ref 98),.none,.none,.none,(.ref 99),(.int (305) 0),(.int (93) 0),(.str "/claim/cut.py" 306)],#[]⟩) ::
 (nat_lit 101,kF "_law_beside" "_law_beside" Zx (.str "law_stretchdeeds_k51_told_apart" 224) (.ref 100)) ::
 (nat_lit 107,kC "_law_made" 308 "_law_made" 309 310 112 3 0 0 3 102 true 181 103 104 105 106 319 112 320) ::
 (nat_lit 108,kF "_law_made" "_law_made" Wq (.str "law_stretchdeeds_k51_told_apart" 224) (.ref 107)) ::
 (nat_lit 114,kC "_law_order" 322 "_law_order" 323 324 125 2 0 0 3 109 true 181 110 111 112 113 330 125 331) ::
 (nat_lit 115,kF "_law_order" "_law_order" Y9 (.str "law_stretchdeeds_k51_told_apart" 224) (.ref 114)) ::
 (nat_lit 119,⟨.type "code",none,.fields #[(.str "_law_signs" 333),(.str "_law_signs" 334),(.str "/claim/cut.py" 335),(.int (131) 0),(.int (3) 0),(.int (0) 0),(.int (0) 0),(.int (3) 0),(.ref 116),(.bool true),(.int (181) 0),(.ref 117),.none,.none,.none,(.ref 118),(.int (336) 0),(.int (131) 0),(.str "/claim/cut.py" 337)],#[]⟩) ::
 (nat_lit 120,kF "_law_signs" "_law_signs" Z6 (.str "law_stretchdeeds_k51_told_apart" 224) (.ref 119)) ::
 (nat_lit 124,⟨.type "code",none,.fields #[(.str "_law_algebra" 339),(.str "_law_algebra" 340),(.str "/claim/cut.py" 341),(.int (136) 0),(.int (2) 0),(.int (0) 0),(.int (0) 0),(.int (3) 0),(.ref 121),(.bool true),(.int (181) 0),(.ref 122),.none,.none,.none,(.ref 123),(.int (342) 0),(.int (136) 0),(.str "/claim/cut.py" 343)],#[]⟩) ::
 (nat_lit 125,kF "_law_algebra" "_law_algebra" wM (.str "law_stretchdeeds_k51_told_apart" 224) (.ref 124)) ::
 (nat_lit 129,⟨.type "code",none,.fields #[(.str "_law_bent" 345),(.str "_law_bent" 346),(.str "/claim/cut.py" 347),(.int (154) 0),(.int (2) 0),(.int (0) 0),(.int (0) 0),(.int (3) 0),(.ref 126),(.bool true),(.int (181) 0),(.ref 127),.none,.none,.none,(.ref 128),(.int (348) 0),(.int (154) 0),(.str "/claim/cut.py" 349)],#[]⟩) ::
 (nat_lit 130,kF "_law_bent" "_law_bent" ZP (.str "law_stretchdeeds_k51_told_apart" 224) (.ref 129)) ::
 (nat_lit 136,kC "_law_step" 351 "_law_step" 352 353 168 3 0 0 3 131 true 181 132 133 134 135 359 168 360) ::
 (nat_lit 137,kF "_law_step" "_law_step" Wn (.str "law_stretchdeeds_k51_told_apart" 224) (.ref 136)) ::
 (nat_lit 141,⟨.type "code",none,.fields #[(.str "_law_steps" 362),(.str "_law_steps" 363),(.str "/claim/cut.py" 364),(.int (177) 0),(.int (1) 0),(.int (0) 0),(.int (0) 0),(.int (3) 0),(.ref 138),(.bool true),(.int (181) 0),(.ref 139),.none,.none,.none,(.ref 140),(.int (365) 0),(.int (177) 0),(.str "/claim/cut.py" 366)],#[]⟩) ::
 (nat_lit 142,kF "_law_steps" "_law_steps" Yg (.str "law_stretchdeeds_k51_told_apart" 224) (.ref 141)) ::
 (nat_lit 146,⟨.type "code",none,.fields #[(.str "_law_held" 368),(.str "_law_held" 369),(.str "/claim/cut.py" 370),(.int (184) 0),(.int (2) 0),(.int (0) 0),(.int (0) 0),(.int (3) 0),(.ref 143),(.bool true),(.int (181) 0),(.ref 144),.none,.none,.none,(.ref 145),(.int (371) 0),(.int (184) 0),(.str "/claim/cut.py" 372)],#[]⟩) ::
 (nat_lit 147,kF "_law_held" "_law_held" YX (.str "law_stretchdeeds_k51_told_apart" 224) (.ref 146)) ::
 (nat_lit 151,⟨.type "code",none,.fields #[(.str "_law_numbered" 374),(.str "_law_numbered" 375),(.str "/claim/cut.py" 376),(.int (186) 0),(.int (1) 0),(.int (0) 0),(.int (0) 0),(.int (3) 0),(.ref 148),(.bool true),(.int (181) 0),(.ref 149),.none,.none,.none,(.ref 150),(.int (377) 0),(.int (186) 0),(.str "/claim/cut.py" 378)],#[]⟩) ::
 (nat_lit 152,kF "_law_numbered" "_law_numbered" vD (.str "law_stretchdeeds_k51_told_apart" 224) (.ref 151)) ::
 (nat_lit 156,⟨.type "code",none,.fields #[(.str "_law_levels" 380),(.str "_law_levels" 381),(.str "/claim/cut.py" 382),(.int (192) 0),(.int (1) 0),(.int (0) 0),(.int (0) 0),(.int (3) 0),(.ref 153),(.bool true),(.int (181) 0),(.ref 154),.none,.none,.none,(.ref 155),(.int (383) 0),(.int (192) 0),(.str "/claim/cut.py" 384)],#[]⟩) ::
 (nat_lit 157,kF "_law_levels" "_law_levels" vJ (.str "law_stretchdeeds_k51_told_apart" 224) (.ref 156)) ::
 (nat_lit 163,kC "_law_digits" 386 "_law_digits" 387 388 202 3 0 0 3 158 true 181 159 160 161 162 394 202 395) ::
 (nat_lit 164,kF "_law_digits" "_law_digits" Yt (.str "law_stretchdeeds_k51_told_apart" 224) (.ref 163)) ::
 (nat_lit 168,⟨.type "code",none,.fields #[(.str "_law_by_digits" 397),(.str "_law_by_digits" 398),(.str "/claim/cut.py" 399),(.int (208) 0),(.int (2) 0),(.int (0) 0),(.int (0) 0),(.int (3) 0),(.ref 165),(.bool true),(.int (181) 0),(.ref 166),.none,.none,.none,(.ref 167),(.int (400) 0),(.int (208) 0),(.str "/claim/cut.py" 401)],#[]⟩) ::
 (nat_lit 169,kF "_law_by_digits" "_law_by_digits" wD (.str "law_stretchdeeds_k51_told_apart" 224) (.ref 168)) ::
 (nat_lit 175,kC "_law_any" 403 "_law_any" 404 405 217 1 0 0 3 170 true 181 171 172 173 174 409 217 410) ::
 (nat_lit 176,kF "_law_any" "_law_any" V8 (.str "law_stretchdeeds_k51_told_apart" 224) (.ref 175)) ::
 (nat_lit 180,⟨.type "code",none,.fields #[(.str "_law_pairs" 412),(.str "_law_pairs" 413),(.str "/claim/cut.py" 414),(.int (223) 0),(.int (2) 0),(.int (0) 0),(.int (0) 0),(.int (3) 0),(.ref 177),(.bool true),(.int (181) 0),(.ref 178),.none,.none,.none,(.ref 179),(.int (415) 0),(.int (223) 0),(.str "/claim/cut.py" 416)],#[]⟩) ::
 (nat_lit 181,kF "_law_pairs" "_law_pairs" Zf (.str "law_stretchdeeds_k51_told_apart" 224) (.ref 180)) ::
 (nat_lit 187,kC "_law_frame_good" 418 "_law_frame_good" 419 420 227 5 0 0 3 182 true 181 183 184 185 186 430 227 431) ::
 (nat_lit 188,kF "_law_frame_good" "_law_frame_good" vM (.str "law_stretchdeeds_k51_told_apart" 224) (.ref 187)) ::
 (nat_lit 192,⟨.type "code",none,.fields #[(.str "law" 433),(.str "law" 434),(.str "/claim/cut.py" 435),(.int (240) 0),(.int (1) 0),(.int (0) 0),(.int (0) 0),(.int (3) 0),(.ref 189),(.bool true),(.int (181) 0),(.ref 190),.none,.none,.none,(.ref 191),(.int (436) 0),(.int (240) 0),(.str "/claim/cut.py" 437)],#[]⟩) ::
 (nat_lit 193,kF "law" "law" ziv (.str "law_stretchdeeds_k51_told_apart" 224) (.ref 192)) ::
 []
def kA:List Addr:=[3,18,19,25,26,32,33,39,40,46,47,53,54,58,59,65,66,70,71,75,76,80,81,85,86,90,91,95,96,100,101,107,108,114,115,119,120,124,125,129,130,136,137,141,142,146,147,151,152,156,157,163,164,168,169,175,176,180,181,187,188,192,193]
def qv:Program:={PySem.Challenge.pw_stretchdeeds_k51_told_apart with main:={PySem.Challenge.pw_stretchdeeds_k51_told_apart.main with body:=[1,2,3,5,6,7,8,9,10,11,12,13,14,15,16,17,18,19,20,21,22,23,24,25,26,27,28,29,30,31,32].map top}}
theorem kAe(P:Params):kA=(K P).map (·.1):=by kernel_rfl
set_option maxRecDepth 100000
theorem ws:PySem.Challenge.rw_stretchdeeds_k51_told_apart.wellSaid=true:=by kernel_rfl
abbrev Xt(s:Shared):Bool:=xlAt qv [] s&&recOk (RowW.records (OpenRow.toRowW PySem.Challenge.rw_stretchdeeds_k51_told_apart.row)) s
abbrev hk:Hook:=kHook K kA kAe
theorem hl:LeftO PySem.Challenge.pw_stretchdeeds_k51_told_apart qv [] Xt hk.obs hk.val 6000:=λw=>by kernel_rfl
end G51
end
section
namespace PF
open PySem PySem.Spec PyProof.Rows L2
abbrev St:=L2.St
structure KD where
 d:Addr->List (Key×V)->Prop
 c:Str->Addr
instance:CoeFun KD (λ_=>Addr->List (Key×V)->Prop):=⟨KD.d⟩
inductive D where
 |non|bl (b:Bool)|int (i:Int)|str (x:Str)|tup (ds:List D)|lst (ds:List D)|dct (kvs:List (Key×D))|cl (c:Str)|ob (c:Str) (ns:List Str) (ds:List D)|dt (ks:List (List Key)) (ds:List D)
mutual
inductive Rp(K:zC)(kd:KD)(O:Addr->Prop)(H:Hp):V->D->Prop
 |non:Rp K kd O H .non .non
 |bl (b:Bool):Rp K kd O H (.bl b) (.bl b)
 |int (i:Int):Rp K kd O H (.int i) (.int i)
 |str (x:Str):Rp K kd O H (.str x) (.str x)
 |tup {a:Addr}{vs:List V}{ds:List D}:¬O a->H a=some (.tup vs)->RpL K kd O H vs ds->Rp K kd O H (.ref a) (.tup ds)
 |lst {a:Addr}{vs:List V}{ds:List D}:¬O a->Rd H a (.lst vs)->RpL K kd O H vs ds->Rp K kd O H (.ref a) (.lst ds)
 |lstK {a:Addr}{its:Array Value}{n:Nat}{vs:List V}{ds:List D}:K.lookup a=some {cls:=.type "list",data:=.seq its n}->its.size<=sizeLine->Vals vs its.toList->RpL K kd O H vs ds->Rp K kd O H (.ref a) (.lst ds)
 |dct {a:Addr}{kvs:List (Key×V)}{ds:List (Key×D)}:¬O a->Rd H a (.dK kvs)->RpM K kd O H kvs ds->Rp K kd O H (.ref a) (.dct ds)
 |dctK {a:Addr}{kvs:List (Key×V)}{ds:List (Key×D)}:kd a kvs->RpM K kd O H kvs ds->Rp K kd O H (.ref a) (.dct ds)
 |cl (c:Str):Rp K kd O H (.ref (kd.c c)) (.cl c)
 |ob {a dx:Addr}{c:Str}{ns:List Str}{vs:List V}{ds:List D}:¬O a->H a=some (.ins (kd.c c) dx (ns.zip vs))->ns.length=vs.length->RpL K kd O H vs ds->Rp K kd O H (.ref a) (.ob c ns ds)
 |dt {a:Addr}{ks:List (List Key)}{vs:List V}{ds:List D}:¬O a->H a=some (.dT (ks.zip vs))->ks.length=vs.length->RpL K kd O H vs ds->Rp K kd O H (.ref a) (.dt ks ds)
inductive RpL(K:zC)(kd:KD)(O:Addr->Prop)(H:Hp):List V->List D->Prop
 |nil:RpL K kd O H [] []
 |cons {v:V}{d:D}{vs:List V}{ds:List D}:Rp K kd O H v d->RpL K kd O H vs ds->RpL K kd O H (v::vs) (d::ds)
inductive RpM(K:zC)(kd:KD)(O:Addr->Prop)(H:Hp):List (Key×V)->List (Key×D)->Prop
 |nil:RpM K kd O H [] []
 |cons {k:Key}{v:V}{d:D}{vs:List (Key×V)}{ds:List (Key×D)}:Rp K kd O H v d->RpM K kd O H vs ds->RpM K kd O H ((k,v)::vs) ((k,d)::ds)
end
structure Grow(W:Addr->Prop)(H:Hp)(W':Addr->Prop)(H':Hp):Prop where
 keep:∀b o,H b=some o->¬W b->H' b=some o
 own:∀b,W' b->W b\/H b=none
theorem Grow.refl{W:Addr->Prop}{H:Hp}:Grow W H W H:=⟨λ_ _ h _=>h,λ_ h=>.inl h⟩
theorem Grow.trans{W W1 W2:Addr->Prop}{H H1 H2:Hp}(a:Grow W H W1 H1)(b:Grow W1 H1 W2 H2):Grow W H W2 H2 where
 keep:=λx o h n=>b.keep x o (a.keep x o h n) λq=>(a.own x q).elim n λz=>by rw[z]at h;cases h
 own:=λx q=>by
  rcases b.own x q with h|h
  · exact a.own x h
  · cases e:H x with
    |none=>exact .inr rfl
    |some o=>
     refine .inl (Classical.byContradiction λn=>?_)
     rw[a.keep x o e n]at h
     cases h
theorem Grow.less{W W':Addr->Prop}{H:Hp}(h:∀a,W' a->W a):Grow W H W' H:=⟨λ_ _ q _=>q,λb q=>.inl (h b q)⟩
theorem Grow.wr{W:Addr->Prop}{H:Hp}{p:Addr}{o:HO}(h:W p):Grow W H W (upd H p o):=
 ⟨λb u q n=>by rw[zV (λe=>n (by rw[e];exact h))];exact q,λ_ q=>.inl q⟩
abbrev Un2(F W:Addr->Prop):Addr->Prop:=λa=>F a\/W a
section
variable{K:zC}{kd:KD}{F W W':Addr->Prop}{H H':Hp}
theorem zbu{a:Addr}{u:HO}(g:Grow W H W' H')(n:¬W a)(h:Rd H a u):Rd H' a u:=by
 rcases h with h|⟨o,h⟩
 · exact .inl (g.keep _ _ h n)
 · exact .inr ⟨o,g.keep _ _ h n⟩
theorem zod{a:Addr}{u:HO}(h:Rd H a u):H a≠none:=by
 rcases h with h|⟨o,h⟩<;>(rw[h];simp)
theorem VH{a:Addr}{u:HO}(g:Grow W H W' H')(n:¬Un2 F W a)(h:Rd H a u):¬Un2 F W' a:=λq=>
 q.elim (λz=>n (.inl z)) λz=>(g.own a z).elim (λy=>n (.inr y)) λy=>zod h y
theorem Rp.grow(g:Grow W H W' H'){v:V}{d:D}(h:Rp K kd (Un2 F W) H v d):Rp K kd (Un2 F W') H' v d:=
 Rp.rec (motive_1:=λv d _=>Rp K kd (Un2 F W') H' v d) (motive_2:=λvs ds _=>RpL K kd (Un2 F W') H' vs ds) (motive_3:=λvs ds _=>RpM K kd (Un2 F W') H' vs ds) .non .bl .int .str (λn h _ r=>.tup (VH g n (.inl h)) (g.keep _ _ h λz=>n (.inr z)) r) (λn h _ r=>.lst (VH g n h) (zbu g (λz=>n (.inr z)) h) r) (λa e f _ r=>.lstK a e f r) (λn h _ r=>.dct (VH g n h) (zbu g (λz=>n (.inr z)) h) r) (λh _ r=>.dctK h r) .cl (λn h l _ r=>.ob (VH g n (.inl h)) (g.keep _ _ h λz=>n (.inr z)) l r) (λn h l _ r=>.dt (VH g n (.inl h)) (g.keep _ _ h λz=>n (.inr z)) l r) .nil (λ_ _ h r=>.cons h r) .nil (λ_ _ h r=>.cons h r) h
theorem RpL.ind{O:Addr->Prop}{P:List V->List D->Prop}(h0:P [] [])(h1:∀{v d vs ds},Rp K kd O H v d->RpL K kd O H vs ds->P vs ds->P (v::vs) (d::ds)){vs:List V}{ds:List D}(h:RpL K kd O H vs ds):P vs ds:=
 RpL.rec (motive_1:=λ_ _ _=>True) (motive_2:=λvs ds _=>P vs ds) (motive_3:=λ_ _ _=>True) ⟨⟩ (λ_=>⟨⟩) (λ_=>⟨⟩) (λ_=>⟨⟩) (λ_ _ _ _=>⟨⟩) (λ_ _ _ _=>⟨⟩) (λ_ _ _ _ _=>⟨⟩) (λ_ _ _ _=>⟨⟩) (λ_ _ _=>⟨⟩) (λ_=>⟨⟩) (λ_ _ _ _ _=>⟨⟩) (λ_ _ _ _ _=>⟨⟩) h0 (λa r _ ih=>h1 a r ih) ⟨⟩ (λ_ _ _ _=>⟨⟩) h
theorem RpM.ind{O:Addr->Prop}{P:List (Key×V)->List (Key×D)->Prop}(h0:P [] [])(h1:∀{k v d vs ds},Rp K kd O H v d->RpM K kd O H vs ds->P vs ds->P ((k,v)::vs) ((k,d)::ds)){vs:List (Key×V)}{ds:List (Key×D)}(h:RpM K kd O H vs ds):P vs ds:=
 RpM.rec (motive_1:=λ_ _ _=>True) (motive_2:=λ_ _ _=>True) (motive_3:=λvs ds _=>P vs ds) ⟨⟩ (λ_=>⟨⟩) (λ_=>⟨⟩) (λ_=>⟨⟩) (λ_ _ _ _=>⟨⟩) (λ_ _ _ _=>⟨⟩) (λ_ _ _ _ _=>⟨⟩) (λ_ _ _ _=>⟨⟩) (λ_ _ _=>⟨⟩) (λ_=>⟨⟩) (λ_ _ _ _ _=>⟨⟩) (λ_ _ _ _ _=>⟨⟩) ⟨⟩ (λ_ _ _ _=>⟨⟩) h0 (λa r _ ih=>h1 a r ih) h
theorem RpL.grow(g:Grow W H W' H'){vs:List V}{ds:List D}(h:RpL K kd (Un2 F W) H vs ds):RpL K kd (Un2 F W') H' vs ds:=RpL.ind .nil (λa _ r=>.cons (Rp.grow g a) r) h
theorem Rp.less{O O':Addr->Prop}(g:∀a,O' a->O a){v:V}{d:D}(h:Rp K kd O H v d):Rp K kd O' H v d:=
 Rp.rec (motive_1:=λv d _=>Rp K kd O' H v d) (motive_2:=λvs ds _=>RpL K kd O' H vs ds) (motive_3:=λvs ds _=>RpM K kd O' H vs ds) .non .bl .int .str (λn h _ r=>.tup (λz=>n (g _ z)) h r) (λn h _ r=>.lst (λz=>n (g _ z)) h r) (λa e f _ r=>.lstK a e f r) (λn h _ r=>.dct (λz=>n (g _ z)) h r) (λh _ r=>.dctK h r) .cl (λn h l _ r=>.ob (λz=>n (g _ z)) h l r) (λn h l _ r=>.dt (λz=>n (g _ z)) h l r) .nil (λ_ _ h r=>.cons h r) .nil (λ_ _ h r=>.cons h r) h
theorem RpL.less{O O':Addr->Prop}(g:∀a,O' a->O a){vs:List V}{ds:List D}(h:RpL K kd O H vs ds):RpL K kd O' H vs ds:=RpL.ind .nil (λa _ r=>.cons (Rp.less g a) r) h
theorem RpM.less{O O':Addr->Prop}(g:∀a,O' a->O a){vs:List (Key×V)}{ds:List (Key×D)}(h:RpM K kd O H vs ds):RpM K kd O' H vs ds:=RpM.ind .nil (λa _ r=>.cons (Rp.less g a) r) h
theorem RpL.length{O:Addr->Prop}{vs:List V}{ds:List D}(h:RpL K kd O H vs ds):vs.length=ds.length:=RpL.ind (P:=λvs ds=>vs.length=ds.length) rfl (λ_ _ r=>congrArg (· + 1) r) h
theorem RpM.length{O:Addr->Prop}{vs:List (Key×V)}{ds:List (Key×D)}(h:RpM K kd O H vs ds):vs.length=ds.length:=RpM.ind (P:=λvs ds=>vs.length=ds.length) rfl (λ_ _ r=>congrArg (· + 1) r) h
theorem RpL.get{O:Addr->Prop}{vs:List V}{ds:List D}{i:Nat}{d:D}(h:RpL K kd O H vs ds)(e:ds[i]? = some d):∃v,vs[i]? = some v/\Rp K kd O H v d:=
 RpL.ind (P:=λvs ds=>∀i,ds[i]? = some d->∃v,vs[i]? = some v/\Rp K kd O H v d) (λi e=>by rw[List.getElem?_nil]at e;cases e) (λa _ ih i e=>by
  cases i with
  |zero=>cases e;exact⟨_,rfl,a⟩
  |succ i=>exact ih i e) h i e
theorem RpL.append{O:Addr->Prop}{vs ws:List V}{ds es:List D}(h:RpL K kd O H vs ds)(r:RpL K kd O H ws es):RpL K kd O H (vs++ws) (ds++es):=RpL.ind (P:=λvs ds=>RpL K kd O H (vs++ws) (ds++es)) r (λa _ t=>.cons a t) h
theorem RpL.take{O:Addr->Prop}{vs:List V}{ds:List D}(n:Nat)(h:RpL K kd O H vs ds):RpL K kd O H (vs.take n) (ds.take n):=
 RpL.ind (P:=λvs ds=>∀n,RpL K kd O H (vs.take n) (ds.take n)) (λn=>by rw[List.take_nil,List.take_nil];exact .nil) (λa _ ih n=>by
  cases n with
  |zero=>exact .nil
  |succ n=>exact .cons a (ih n)) h n
theorem RpL.drop{O:Addr->Prop}{vs:List V}{ds:List D}(n:Nat)(h:RpL K kd O H vs ds):RpL K kd O H (vs.drop n) (ds.drop n):=
 RpL.ind (P:=λvs ds=>∀n,RpL K kd O H (vs.drop n) (ds.drop n)) (λn=>by rw[List.drop_nil,List.drop_nil];exact .nil) (λa b ih n=>by
  cases n with
  |zero=>exact .cons a b
  |succ n=>exact ih n) h n
theorem RpL.rep{O:Addr->Prop}{vs:List V}{ds:List D}(h:RpL K kd O H vs ds):∀k:Nat,RpL K kd O H (List.replicate k vs).flatten (List.replicate k ds).flatten
 |0=>.nil
 |k+1=>by
  rw[List.replicate_succ,List.replicate_succ,List.flatten_cons,List.flatten_cons]
  exact h.append (RpL.rep h k)
end
inductive Vw(K:zC)(kd:KD)(O:Addr->Prop)(H:Hp):V->D->Prop
 |non:Vw K kd O H .non .non
 |bl (b:Bool):Vw K kd O H (.bl b) (.bl b)
 |int (i:Int):Vw K kd O H (.int i) (.int i)
 |str (x:Str):Vw K kd O H (.str x) (.str x)
 |tup {a:Addr}{vs:List V}{ds:List D}:Rp K kd O H (.ref a) (.tup ds)->SqT K H a vs->RpL K kd O H vs ds->Vw K kd O H (.ref a) (.tup ds)
 |lst {a:Addr}{vs:List V}{ds:List D}:RdL K H a vs->RpL K kd O H vs ds->Vw K kd O H (.ref a) (.lst ds)
 |dct {a:Addr}{kvs:List (Key×V)}{ds:List (Key×D)}:(Rd H a (.dK kvs)\/kd a kvs)->RpM K kd O H kvs ds->Vw K kd O H (.ref a) (.dct ds)
 |cl (c:Str):Vw K kd O H (.ref (kd.c c)) (.cl c)
 |ob {a dx:Addr}{c:Str}{ns:List Str}{vs:List V}{ds:List D}:H a=some (.ins (kd.c c) dx (ns.zip vs))->ns.length=vs.length->RpL K kd O H vs ds->Vw K kd O H (.ref a) (.ob c ns ds)
 |dt {a:Addr}{ks:List (List Key)}{vs:List V}{ds:List D}:H a=some (.dT (ks.zip vs))->ks.length=vs.length->RpL K kd O H vs ds->Vw K kd O H (.ref a) (.dt ks ds)
theorem Rp.vw{K:zC}{kd:KD}{O:Addr->Prop}{H:Hp}{v:V}{d:D}(h:Rp K kd O H v d):Vw K kd O H v d:=by
 cases h with
 |non=>exact .non
 |bl b=>exact .bl b
 |int i=>exact .int i
 |str x=>exact .str x
 |tup n h r=>exact .tup (.tup n h r) (.inl (.inl h)) r
 |lst n h r=>exact .lst (.inl h) r
 |lstK a e f r=>exact .lst (.inr ⟨_,_,a,e,f⟩) r
 |dct n h r=>exact .dct (.inl h) r
 |dctK h r=>exact .dct (.inr h) r
 |cl c=>exact .cl c
 |ob n h l r=>exact .ob h l r
 |dt n h l r=>exact .dt h l r
theorem _root_.L2.RdL.sq{K:zC}{H:Hp}{a:Addr}{xs:List V}(h:RdL K H a xs):SqL K H a xs:=by
 rcases h with h|⟨its,n,k,z,r⟩
 · exact .inl h
 · exact .inr ⟨_,its,n,k,rfl,rfl,rfl,z,r⟩
theorem ziJ{X:Cx}{pins:List (Addr×Obj)}{σ:St}{H:Hp}{s:Shared}{a:Addr}{xs:List V}(I:Inv X pins σ H s)(h:RdL X.K H a xs):
 xs.length<=sizeLine/\∃(its:List Value) (n:Nat),Vals xs its/\s.heap.get? a=some {cls:=.type "list",data:=.seq its.toArray n}:=by
 rcases h with h|⟨its,n,k,z,r⟩
 · exact h.ok I.hok
 · refine⟨by rw[r.length];simpa using z,its.toList,n,r,by simpa using I.kIn _ _ k⟩
theorem Rp.cl_eq{K:zC}{kd:KD}{O:Addr->Prop}{H:Hp}{C:Addr}{c:Str}(h:Rp K kd O H (.ref C) (.cl c)):C=kd.c c:=by
 cases h;rfl
def yc:D->Bool
 | .non=>true | .bl _=>true | .int _=>true | .str _=>true|_=>false
theorem Rp.flat{K:zC}{kd:KD}{O O':Addr->Prop}{H H':Hp}{v:V}{d:D}(h:Rp K kd O H v d)(e:yc d=true):Rp K kd O' H' v d:=by
 cases h with
 |non=>exact .non
 |bl b=>exact .bl b
 |int i=>exact .int i
 |str x=>exact .str x
 |_=>cases e
inductive Kind where
 |ls|tp|dc (ks:List Key)|ob (c:Str) (ns:List Str)|dt (ks:List (List Key))
inductive O where
 |lf (st:Bool) (d:D)|nd (k:Kind) (os:List O)
abbrev lfs(st:Bool)(d:D):O:=.lf (yc d||st) d
mutual
inductive Ro(L:Bool->V->D->Prop)(N:Addr->Prop)(H:Hp):V->O->List Addr->Prop
 |lf {st:Bool}{v:V}{d:D}:L st v d->Ro L N H v (.lf st d) []
 |ls {a:Addr}{vs:List V}{os:List O}{fp:List Addr}:H a=some (.lst vs)->RoL L N H vs os fp->Ro L N H (.ref a) (.nd .ls os) (a::fp)
 |dc {a:Addr}{ks:List Key}{vs:List V}{os:List O}{fp:List Addr}:H a=some (.dK (ks.zip vs))->ks.length=vs.length->RoL L N H vs os fp->Ro L N H (.ref a) (.nd (.dc ks) os) (a::fp)
 |ob {a dx C:Addr}{c:Str}{ns:List Str}{vs:List V}{os:List O}{fp:List Addr}:L true (.ref C) (.cl c)->H a=some (.ins C dx (ns.zip vs))->ns.length=vs.length->RoL L N H vs os fp->Ro L N H (.ref a) (.nd (.ob c ns) os) (a::fp)
 |dt {a:Addr}{ks:List (List Key)}{vs:List V}{os:List O}{fp:List Addr}:H a=some (.dT (ks.zip vs))->ks.length=vs.length->RoL L N H vs os fp->Ro L N H (.ref a) (.nd (.dt ks) os) (a::fp)
 |tp {a:Addr}{vs:List V}{os:List O}{fp:List Addr}:N a->H a=some (.tup vs)->RoL L N H vs os fp->Ro L N H (.ref a) (.nd .tp os) fp
inductive RoL(L:Bool->V->D->Prop)(N:Addr->Prop)(H:Hp):List V->List O->List Addr->Prop
 |nil:RoL L N H [] [] []
 |cons {v:V}{o:O}{vs:List V}{os:List O}{fp fq:List Addr}:Ro L N H v o fp->RoL L N H vs os fq->RoL L N H (v::vs) (o::os) (fp++fq)
end
mutual
def O.toD:O->D
 | .lf _ d=>d
 | .nd .ls os=>.lst (O.toDs os)
 | .nd .tp os=>.tup (O.toDs os)
 | .nd (.dc ks) os=>.dct (ks.zip (O.toDs os))
 | .nd (.ob c ns) os=>.ob c ns (O.toDs os)
 | .nd (.dt ks) os=>.dt ks (O.toDs os)
def O.toDs:List O->List D
 | []=>[]
 |o::r=>o.toD::O.toDs r
end
mutual
def O.str:O->Bool
 | .lf st _=>st
 | .nd _ os=>O.strs os
def O.strs:List O->Bool
 | []=>true
 |o::r=>o.str&&O.strs r
end
section
variable{L L':Bool->V->D->Prop}{N N':Addr->Prop}{H H':Hp}{K:zC}{kd:KD}{Ob:Addr->Prop}
theorem Ro.mono(hL:∀st v d,L st v d->L' st v d)(hN:∀a vs,N a->H a=some (.tup vs)->N' a/\H' a=some (.tup vs)){v:V}{o:O}{fp:List Addr}(k:∀a ∈ fp,∀u,H a=some u->H' a=some u)(h:Ro L N H v o fp):Ro L' N' H' v o fp:=
 Ro.rec (motive_1:=λv o fp _=>(∀a ∈ fp,∀u,H a=some u->H' a=some u)->Ro L' N' H' v o fp) (motive_2:=λvs os fp _=>(∀a ∈ fp,∀u,H a=some u->H' a=some u)->RoL L' N' H' vs os fp)
  (λh _=>.lf (hL _ _ _ h)) (λh _ r k=>.ls (k _ zzC _ h) (r λa m=>k a (zzA _ m))) (λh l _ r k=>.dc (k _ zzC _ h) l (r λa m=>k a (zzA _ m))) (λc h l _ r k=>.ob (hL _ _ _ c) (k _ zzC _ h) l (r λa m=>k a (zzA _ m))) (λh l _ r k=>.dt (k _ zzC _ h) l (r λa m=>k a (zzA _ m))) (λn h _ r k=>.tp (hN _ _ n h).1 (hN _ _ n h).2 (r k))
  (λ_=>.nil) (λ_ _ h r k=>.cons (h λa m=>k a (zzM _ m)) (r λa m=>k a (zzI _ m))) h k
theorem RoL.ind{P:List V->List O->List Addr->Prop}(h0:P [] [] [])(h1:∀{v o vs os fp fq},Ro L N H v o fp->RoL L N H vs os fq->P vs os fq->P (v::vs) (o::os) (fp++fq)){vs:List V}{os:List O}{fp:List Addr}(h:RoL L N H vs os fp):P vs os fp:=
 RoL.rec (motive_1:=λ_ _ _ _=>True) (motive_2:=λvs os fp _=>P vs os fp) (λ_=>⟨⟩) (λ_ _ _=>⟨⟩) (λ_ _ _ _=>⟨⟩) (λ_ _ _ _ _=>⟨⟩) (λ_ _ _ _=>⟨⟩) (λ_ _ _ _=>⟨⟩) h0 (λa r _ ih=>h1 a r ih) h
theorem RoL.mono(hL:∀st v d,L st v d->L' st v d)(hN:∀a vs,N a->H a=some (.tup vs)->N' a/\H' a=some (.tup vs)){vs:List V}{os:List O}{fp:List Addr}(k:∀a ∈ fp,∀u,H a=some u->H' a=some u)(h:RoL L N H vs os fp):RoL L' N' H' vs os fp:=
 RoL.ind (P:=λvs os fp=>(∀a ∈ fp,∀u,H a=some u->H' a=some u)->RoL L' N' H' vs os fp) (λ_=>.nil) (λh _ r k=>.cons (Ro.mono hL hN (λa m=>k a (zzM _ m)) h) (r λa m=>k a (zzI _ m))) h k
theorem zdG:∀{ks:List Key}{vs:List V}{ds:List D},RpL K kd Ob H vs ds->ks.length=vs.length->RpM K kd Ob H (ks.zip vs) (ks.zip ds)
 | [],_,_,_,_=>.nil
 |_::_,_,_,.nil,e=>by simp at e
 |_::_,_,_,.cons h r,e=>.cons h (zdG r (by simpa using e))
theorem Ro.rp(b:Bool)(hL:∀st v d,(b=true->st=true)->L st v d->Rp K kd Ob H v d)(hN:∀a,N a->¬Ob a){v:V}{o:O}{fp:List Addr}(s:b=true->o.str=true)(k:∀a ∈ fp,¬Ob a)(h:Ro L N H v o fp):Rp K kd Ob H v o.toD:=
 Ro.rec (motive_1:=λv o fp _=>(b=true->o.str=true)->(∀a ∈ fp,¬Ob a)->Rp K kd Ob H v o.toD) (motive_2:=λvs os fp _=>(b=true->O.strs os=true)->(∀a ∈ fp,¬Ob a)->RpL K kd Ob H vs (O.toDs os))
  (λh s _=>hL _ _ _ s h) (λh _ r s k=>.lst (k _ zzC) (.inl h) (r s λa m=>k a (zzA _ m))) (λh l _ r s k=>.dct (k _ zzC) (.inl h) (zdG (r s λa m=>k a (zzA _ m)) l)) (λc h l _ r s k=>by
   have e:=(hL _ _ _ (λ_=>rfl) c).cl_eq
   subst e
   exact .ob (k _ zzC) h l (r s λa m=>k a (zzA _ m))) (λh l _ r s k=>.dt (k _ zzC) h l (r s λa m=>k a (zzA _ m))) (λn h _ r s k=>.tup (hN _ n) h (r s k))
  (λ_ _=>.nil) (λ_ _ h r s k=>.cons (h (λz=>((zzZ _ _).mp (s z)).1) λa m=>k a (zzM _ m)) (r (λz=>((zzZ _ _).mp (s z)).2) λa m=>k a (zzI _ m))) h s k
theorem RoL.rp(b:Bool)(hL:∀st v d,(b=true->st=true)->L st v d->Rp K kd Ob H v d)(hN:∀a,N a->¬Ob a){vs:List V}{os:List O}{fp:List Addr}(s:b=true->O.strs os=true)(k:∀a ∈ fp,¬Ob a)(h:RoL L N H vs os fp):RpL K kd Ob H vs (O.toDs os):=
 RoL.ind (P:=λvs os fp=>(b=true->O.strs os=true)->(∀a ∈ fp,¬Ob a)->RpL K kd Ob H vs (O.toDs os)) (λ_ _=>.nil) (λh _ r s k=>.cons (Ro.rp b hL hN (λz=>((zzZ _ _).mp (s z)).1) (λa m=>k a (zzM _ m)) h) (r (λz=>((zzZ _ _).mp (s z)).2) λa m=>k a (zzI _ m))) h s k
theorem RoL.length{vs:List V}{os:List O}{fp:List Addr}(h:RoL L N H vs os fp):vs.length=os.length:=RoL.ind (P:=λvs os _=>vs.length=os.length) rfl (λ_ _ r=>congrArg (· + 1) r) h
theorem W0:∀os:List O,(O.toDs os).length=os.length
 | []=>rfl
 |_::r=>congrArg (· + 1) (W0 r)
theorem RoL.append{vs ws:List V}{os ps:List O}{f g:List Addr}(h:RoL L N H vs os f)(r:RoL L N H ws ps g):RoL L N H (vs++ws) (os++ps) (f++g):=RoL.ind (P:=λvs os f=>RoL L N H (vs++ws) (os++ps) (f++g)) r (λh _ t=>by rw[zyY];exact .cons h t) h
theorem RoL.one{v:V}{o:O}{f:List Addr}(h:Ro L N H v o f):RoL L N H [v] [o] f:=by
 have:=RoL.cons h (RoL.nil (L:=L) (N:=N) (H:=H))
 rw[zyB]at this
 exact this
theorem RoL.at_{k:Nat}{o:O}:∀{vs:List V}{os:List O}{fp:List Addr},RoL L N H vs os fp->os[k]? = some o->∃v f fo g,vs[k]? = some v/\fp=f++(fo++g)/\Ro L N H v o fo/\RoL L N H (vs.take k) (os.take k) f/\RoL L N H (vs.drop (k+1)) (os.drop (k+1)) g:=by
 induction k with
 |zero=>
  intro vs os fp h e
  cases h with
  |nil=>cases e
  |cons h r=>
   rw[List.getElem?_cons_zero]at e
   cases e
   exact⟨_,[],_,_,rfl,rfl,h,.nil,r⟩
 |succ k ih=>
  intro vs os fp h e
  cases h with
  |nil=>cases e
  |cons h r=>
   rw[List.getElem?_cons_succ]at e
   obtain⟨v,f,fo,g,e1,e2,h1,h2,h3⟩:=ih r e
   subst e2
   exact⟨v,_,fo,g,by rw[List.getElem?_cons_succ];exact e1,(zyY _ _ _).symm,h1,.cons h h2,h3⟩
theorem zdf{α:Type}(l:List α)(k:Nat):l.eraseIdx k=l.take k++l.drop (k+1):=List.eraseIdx_eq_take_drop_succ l k
end
abbrev AS:=List (Option O)
abbrev Ad:=Nat->List Addr
def Gw(T:List Addr)(ad:Ad):Addr->Prop:=λa=>a ∈ T\/∃i,a ∈ ad i
abbrev Lv(F B G:Addr->Prop)(st:Bool):Addr->Prop:=Un2 (λa=>(st=true/\F a)\/B a) G
abbrev Lf(K:zC)(kd:KD)(F B G:Addr->Prop)(H:Hp):Bool->V->D->Prop:=λst v d=>Rp K kd (Lv F B G st) H v d
abbrev Nf(F B G:Addr->Prop):Addr->Prop:=λa=>¬Lv F B G true a
abbrev RoS(K:zC)(kd:KD)(F B G:Addr->Prop)(H:Hp):V->O->List Addr->Prop:=Ro (Lf K kd F B G H) (Nf F B G) H
abbrev vU(K:zC)(kd:KD)(F B G:Addr->Prop)(H:Hp):List V->List O->List Addr->Prop:=RoL (Lf K kd F B G H) (Nf F B G) H
def zeZ(K:zC)(kd:KD)(F B G:Addr->Prop)(H:Hp):Option O->Option (Option V)->List Addr->Prop
 |none,_,fp=>fp=[]
 |some o,s,fp=>∃v,s=some (some v)/\RoS K kd F B G H v o fp
structure Rel(K:zC)(kd:KD)(F B:Addr->Prop)(T:List Addr)(ad:Ad)(as:AS)(σ:St)(H:Hp):Prop where
 len:as.length=σ.length
 out:∀i,as.length<=i->ad i=[]
 nd:∀i,(ad i).Nodup
 inj:∀i j a,a ∈ ad i->a ∈ ad j->i=j
 tnd:T.Nodup
 dis:∀i a,a ∈ ad i->a ∉ T
 ftr:∀a,F a->H a≠none
 btr:∀a,B a->H a≠none/\¬F a/\¬Gw T ad a
 gtr:∀a,Gw T ad a->H a≠none/\¬F a
 sl:∀i s,as[i]? = some s->zeZ K kd F B (Gw T ad) H s σ[i]? (ad i)
inductive RV where
 |ow (o:O)|bo (i:Nat)
def v7(K:zC)(kd:KD)(F B:Addr->Prop)(T:List Addr)(ad:Ad)(σ:St)(H:Hp)(v:V):RV->Prop
 | .ow o=>RoS K kd F B (Gw T ad) H v o T
 | .bo i=>T=[]/\σ[i]? = some (some v)
def O.frz(o:O):O:=.lf o.str o.toD
def RV.frz:RV->RV
 | .ow o=>.ow o.frz
 | .bo i=>.bo i
def O.isLf:O->Bool
 | .lf _ _=>true
 |_=>false
def O.kl:O->Option Bool
 | .lf st _=>some st
 | .nd _ os=>if os.all O.isLf=true then some (O.strs os)else none
def RV.view(as:AS):RV->Option (D×Option Bool)
 | .ow o=>some (o.toD,some o.str)
 | .bo i=>match as[i]? with
  |some (some o)=>some (o.toD,o.kl)
  |_=>none
def Obl(F B G:Addr->Prop):Option Bool->Addr->Prop
 |some st=>Lv F B G st
 |none=>λ_=>False
section
variable{K:zC}{kd:KD}{F B F' B':Addr->Prop}{G G':Addr->Prop}{T T':List Addr}{ad ad1:Ad}{as as1:AS}{σ:St}{H H1 H':Hp}{v:V}{r:RV}{o:O}{fp:List Addr}{vs:List V}{os:List O}
theorem RoS.grow(g:Grow G H G' H')(k:∀a ∈ fp,∀u,H a=some u->H' a=some u)(h:RoS K kd F B G H v o fp):RoS K kd F B G' H' v o fp:=
 Ro.mono (λst v d r=>Rp.grow g r) (λa vs n e=>⟨λz=>z.elim (λy=>n (.inl y)) λy=>(g.own a y).elim (λw=>n (.inr w)) λw=>(by rw[w]at e;cases e),g.keep a _ e (λw=>n (.inr w))⟩) k h
theorem vU.grow(g:Grow G H G' H')(k:∀a ∈ fp,∀u,H a=some u->H' a=some u)(h:vU K kd F B G H vs os fp):vU K kd F B G' H' vs os fp:=
 RoL.mono (λst v d r=>Rp.grow g r) (λa vs n e=>⟨λz=>z.elim (λy=>n (.inl y)) λy=>(g.own a y).elim (λw=>n (.inr w)) λw=>(by rw[w]at e;cases e),g.keep a _ e (λw=>n (.inr w))⟩) k h
theorem RoS.lv(g:∀st a,Lv F' B' G' st a->Lv F B G st a)(h:RoS K kd F B G H v o fp):RoS K kd F' B' G' H v o fp:=
 Ro.mono (λst v d r=>r.less (g st)) (λa vs n e=>⟨λz=>n (g true a z),e⟩) (λ_ _ _ e=>e) h
theorem vU.lv(g:∀st a,Lv F' B' G' st a->Lv F B G st a)(h:vU K kd F B G H vs os fp):vU K kd F' B' G' H vs os fp:=
 RoL.mono (λst v d r=>r.less (g st)) (λa vs n e=>⟨λz=>n (g true a z),e⟩) (λ_ _ _ e=>e) h
theorem RoS.less(g:∀a,G' a->G a)(h:RoS K kd F B G H v o fp):RoS K kd F B G' H v o fp:=RoS.lv (λ_ a z=>z.elim .inl λy=>.inr (g a y)) h
theorem Gw.drop:∀a,Gw [] ad a->Gw T ad a:=λ_ h=>h.elim (λz=>nomatch z) .inr
theorem Rel.trk(R:Rel K kd F B T ad as σ H)(st:Bool):∀a,Lv F B (Gw T ad) st a->H a≠none:=λa h=>by
 rcases h with(h|h)|h
 · exact R.ftr a h.2
 · exact(R.btr a h).1
 · exact(R.gtr a h).1
theorem Rel.tr(R:Rel K kd F B T ad as σ H)(lv:Option Bool):∀a,Obl F B (Gw T ad) lv a->H a≠none:=λa h=>by
 cases lv with
 |none=>exact h.elim
 |some st=>exact R.trk st a h
theorem zeZ.lv{s:Option O}{x:Option (Option V)}(g:∀st a,Lv F' B' G' st a->Lv F B G st a)(h:zeZ K kd F B G H s x fp):zeZ K kd F' B' G' H s x fp:=by
 cases s with
 |none=>exact h
 |some o=>obtain⟨v,e,r⟩:=h;exact⟨v,e,RoS.lv g r⟩
theorem zeZ.less{s:Option O}{x:Option (Option V)}(g:∀a,G' a->G a)(h:zeZ K kd F B G H s x fp):zeZ K kd F B G' H s x fp:=h.lv (λ_ a z=>z.elim .inl λy=>.inr (g a y))
theorem zeZ.grow{s:Option O}{x:Option (Option V)}(g:Grow G H G' H')(k:∀a ∈ fp,∀u,H a=some u->H' a=some u)(h:zeZ K kd F B G H s x fp):zeZ K kd F B G' H' s x fp:=by
 cases s with
 |none=>exact h
 |some o=>obtain⟨v,e,r⟩:=h;exact⟨v,e,RoS.grow g k r⟩
theorem Rel.drop(R:Rel K kd F B T ad as σ H):Rel K kd F B [] ad as σ H where
 len:=R.len
 out:=R.out
 nd:=R.nd
 inj:=R.inj
 tnd:=zyG
 dis:=λ_ _ _ z=>nomatch z
 ftr:=R.ftr
 btr:=λa h=>let⟨h1,h2,h3⟩:=R.btr a h;⟨h1,h2,λz=>h3 (Gw.drop a z)⟩
 gtr:=λa h=>R.gtr a (Gw.drop a h)
 sl:=λi s e=>(R.sl i s e).less Gw.drop
theorem zjm(R:Rel K kd F B T ad as σ H)(h:RoS K kd F B (Gw T ad) H v o T):Rp K kd (Lv F B (Gw [] ad) o.str) H v o.toD:=
 Ro.rp o.str (λst v d hs r=>r.less λa z=>z.elim (λy=>.inl (y.elim (λx=>.inl ⟨hs x.1,x.2⟩) .inr)) λy=>.inr (Gw.drop a y))
  (λa n z=>n (z.elim (λy=>.inl (y.elim (λx=>.inl ⟨rfl,x.2⟩) .inr)) λy=>.inr (Gw.drop a y))) id
  (λa m z=>by
   rcases z with(z|z)|z|⟨i,z⟩
   · exact(R.gtr a (.inl m)).2 z.2
   · exact(R.btr a z).2.2 (.inl m)
   · cases z
   · exact R.dis i a z m) h
theorem v7.drop(R:Rel K kd F B T ad as σ H)(h:v7 K kd F B T ad σ H v r):v7 K kd F B [] ad σ H v r.frz:=by
 cases r with
 |ow o=>exact .lf (zjm R h)
 |bo i=>exact⟨rfl,h.2⟩
theorem v7.grow(g:Grow (Gw [] ad) H (Gw [] ad1) H1)(h:v7 K kd F B [] ad σ H v r):v7 K kd F B [] ad1 σ H1 v r:=by
 cases r with
 |ow o=>exact RoS.grow g (λ_ m=>nomatch m) h
 |bo i=>exact h
theorem ziO{vs:List V}{os:List O}{fp:List Addr}(h:vU K kd F B G H vs os fp):os.all O.isLf=true->fp=[]:=
 RoL.ind (P:=λ_ os fp=>os.all O.isLf=true->fp=[]) (λ_=>rfl) (λh _ ih e=>by
  rw[List.all_cons,zzZ]at e
  rw[ih e.2,zyB]
  cases h with
  |lf=>rfl
  |ls=>cases e.1
  |dc=>cases e.1
  |ob=>cases e.1
  |dt=>cases e.1
  |tp=>cases e.1) h
theorem zdW{st:Bool}{b:Bool}(hs:b=true->st=true):∀a,Lv F B G b a->Lv F B G st a:=λa z=>z.elim (λy=>.inl (y.elim (λx=>.inl ⟨hs x.1,x.2⟩) .inr)) .inr
theorem zcy(h:vU K kd F B G H vs os fp)(e:os.all O.isLf=true):RpL K kd (Lv F B G (O.strs os)) H vs (O.toDs os):=by
 have:=ziO h e
 subst this
 exact RoL.rp (O.strs os) (λst v d hs r=>r.less (zdW hs)) (λa n z=>n (zdW (λ_=>rfl) a z)) id (by intro a m;cases m) h
theorem zak(h:vU K kd F B G H vs os fp):RpL K kd (λ_=>False) H vs (O.toDs os):=RoL.rp false (λst v d _ r=>r.less λ_ z=>z.elim) (λ_ _ z=>z) (λz=>Bool.noConfusion z) (λ_ _ z=>z) h
theorem zgB(h:RoS K kd F B G H v o fp):Rp K kd (λ_=>False) H v o.toD:=Ro.rp false (λst v d _ r=>r.less λ_ z=>z.elim) (λ_ _ z=>z) (λz=>Bool.noConfusion z) (λ_ _ z=>z) h
theorem zeE(h:RoS K kd F B G H v o []):Rp K kd (Lv F B G o.str) H v o.toD:=
 Ro.rp o.str (λst v d hs r=>r.less (zdW hs)) (λa n z=>n (zdW (λ_=>rfl) a z)) id (by intro a m;cases m) h
theorem RoS.vw(h:RoS K kd F B G H v o fp):Vw K kd (Obl F B G o.kl) H v o.toD:=by
 cases h with
 |lf h=>exact h.vw
 |ls hH r=>
  rename_i a vs' os' fp'
  show Vw K kd (Obl F B G (if os'.all O.isLf=true then some (O.strs os')else none)) H _ (.lst (O.toDs os'))
  by_cases e:os'.all O.isLf=true
  · rw[if_pos e];exact .lst (.inl (.inl hH)) (zcy r e)
  · rw[if_neg e];exact .lst (.inl (.inl hH)) (zak r)
 |dc hH l r=>
  rename_i a ks vs' os' fp'
  show Vw K kd (Obl F B G (if os'.all O.isLf=true then some (O.strs os')else none)) H _ (.dct (ks.zip (O.toDs os')))
  by_cases e:os'.all O.isLf=true
  · rw[if_pos e];exact .dct (.inl (.inl hH)) (zdG (zcy r e) l)
  · rw[if_neg e];exact .dct (.inl (.inl hH)) (zdG (zak r) l)
 |ob hc hH l r=>
  rename_i a dx C c ns vs' os' fp'
  have ec:C=kd.c c:=hc.cl_eq
  subst ec
  show Vw K kd (Obl F B G (if os'.all O.isLf=true then some (O.strs os')else none)) H _ (.ob c ns (O.toDs os'))
  by_cases e:os'.all O.isLf=true
  · rw[if_pos e];exact .ob hH l (zcy r e)
  · rw[if_neg e];exact .ob hH l (zak r)
 |dt hH l r=>
  rename_i a ks vs' os' fp'
  show Vw K kd (Obl F B G (if os'.all O.isLf=true then some (O.strs os')else none)) H _ (.dt ks (O.toDs os'))
  by_cases e:os'.all O.isLf=true
  · rw[if_pos e];exact .dt hH l (zcy r e)
  · rw[if_neg e];exact .dt hH l (zak r)
 |tp n hH r=>
  rename_i a vs' os'
  show Vw K kd (Obl F B G (if os'.all O.isLf=true then some (O.strs os')else none)) H _ (.tup (O.toDs os'))
  by_cases e:os'.all O.isLf=true
  · rw[if_pos e]
    have rl:=zcy r e
    exact .tup (.tup (λz=>n (zdW (λ_=>rfl) _ z)) hH rl) (.inl (.inl hH)) rl
  · rw[if_neg e];exact .tup (.tup (λz=>z) hH (zak r)) (.inl (.inl hH)) (zak r)
theorem v7.vw(R:Rel K kd F B [] ad as σ H)(h:v7 K kd F B [] ad σ H v r){d:D}{lv:Option Bool}(e:r.view as=some (d,lv)):Vw K kd (Obl F B (Gw [] ad) lv) H v d:=by
 cases r with
 |ow o=>
  cases e
  exact(zeE h).vw
 |bo i=>
  have e:(match as[i]? with|some (some o)=>some (o.toD,o.kl)|_=>none)=some (d,lv):=e
  cases k:as[i]? with
  |none=>rw[k]at e;cases e
  |some s=>
   cases s with
   |none=>rw[k]at e;cases e
   |some o=>
    rw[k]at e
    cases e
    obtain⟨w,hw,ro⟩:=R.sl i _ k
    rw[h.2]at hw
    cases hw
    exact ro.vw
theorem Rel.add{N:List Addr}(R:Rel K kd F B T ad as σ H)(hn:N.Nodup)(hl:∀a ∈ N,H a=none)(k:∀b u,H b=some u->H' b=some u)(h1:∀a ∈ N,H' a≠none):Rel K kd F B (N++T) ad as σ H'/\Grow (Gw T ad) H (Gw (N++T) ad) H':=by
 have g:Grow (Gw T ad) H (Gw (N++T) ad) H':=⟨λb u h _=>k b u h,λb h=>by
  rcases h with h|h
  · rcases zzJ.mp h with h|h
    · exact .inr (hl b h)
    · exact .inl (.inl h)
  · exact .inl (.inr h)⟩
 have kn:∀a,H a≠none->H' a≠none:=λa z=>by
  cases e:H a with
  |none=>exact absurd e z
  |some u=>rw[k a u e];simp
 refine⟨⟨R.len,R.out,R.nd,R.inj, ?_,λi a m z=>?_,λa z=>kn a (R.ftr a z),λa z=>?_,λa z=>?_,λi s e=>(R.sl i s e).grow g λa _ u h=>k a u h⟩,g⟩
 · refine zxA.mpr ⟨hn,R.tnd,λa m b m' e=>?_⟩
   subst e
   exact(R.gtr a (.inl m')).1 (hl a m)
 · rcases zzJ.mp z with z|z
   · exact(R.gtr a (.inr ⟨i,m⟩)).1 (hl a z)
   · exact R.dis i a m z
 · obtain⟨b1,b2,b3⟩:=R.btr a z
   refine⟨kn a b1,b2,λy=>?_⟩
   rcases y with y|y
   · rcases zzJ.mp y with y|y
     · exact b1 (hl a y)
     · exact b3 (.inl y)
   · exact b3 (.inr y)
 · rcases z with z|z
   · rcases zzJ.mp z with z|z
     · exact⟨h1 a z,λf=>R.ftr a f (hl a z)⟩
     · exact⟨kn a (R.gtr a (.inl z)).1,(R.gtr a (.inl z)).2⟩
   · exact⟨kn a (R.gtr a (.inr z)).1,(R.gtr a (.inr z)).2⟩
theorem Rel.more(R:Rel K kd F B T ad as σ H)(k:∀b u,H b=some u->H' b=some u):Rel K kd F B T ad as σ H'/\Grow (Gw T ad) H (Gw T ad) H':=
 R.add (N:=[]) zyG (λ_ m=>nomatch m) k (λ_ m=>nomatch m)
theorem Rel.news(R:Rel K kd F B [] ad as σ H)(hn:T'.Nodup)(hl:∀a ∈ T',H a=none)(k:∀b u,H b=some u->H' b=some u)(h1:∀a ∈ T',H' a≠none):Rel K kd F B T' ad as σ H'/\Grow (Gw [] ad) H (Gw T' ad) H':=by
 have:=R.add hn hl k h1
 rw[zyB]at this
 exact this
end
inductive R0 where
 |im (d:D)|fl (ds:List D)|fd (kvs:List (Key×D))
def RQ(K:zC)(kd:KD)(O:Addr->Prop)(H:Hp)(Q:VK):R0->Prop
 | .im d=>∀v H',(∀b o,H b=some o->H' b=some o)->Rp K kd O H' v d->Q v H'
 | .fl ds=>∀l vs H',H l=none->(∀b o,H b=some o->H' b=some o)->H' l=some (.lst vs)->RpL K kd (Un2 O (· = l)) H' vs ds->Q (.ref l) H'
 | .fd ds=>∀l vs H',H l=none->(∀b o,H b=some o->H' b=some o)->H' l=some (.dK vs)->RpM K kd (Un2 O (· = l)) H' vs ds->Q (.ref l) H'
def wrap(lv:Option Bool):R0->Option RV
 | .im d=>if(yc d||lv.isSome)=true then some (.ow (lfs (lv.getD false) d))else none
 | .fl ds=>if(ds.all yc||lv.isSome)=true then some (.ow (.nd .ls (ds.map (lfs (lv.getD false)))))else none
 | .fd kvs=>if((kvs.map (·.2)).all yc||lv.isSome)=true then some (.ow (.nd (.dc (kvs.map (·.1))) ((kvs.map (·.2)).map (lfs (lv.getD false)))))else none
theorem bS_{α β:Type}{o:Option α}{f:α->Option β}{b:β}(h:o.bind f=some b):∃a,o=some a/\f a=some b:=by
 cases o with
 |none=>cases h
 |some a=>exact⟨a,rfl,h⟩
theorem ite_some'{α:Type}{c:Prop}[Decidable c]{a:Option α}{b:α}(h:(if c then a else none)=some b):c/\a=some b:=by
 by_cases hc:c
 · rw[if_pos hc]at h;exact⟨hc,h⟩
 · rw[if_neg hc]at h;cases h
theorem yg{α:Type}{c:Prop}[Decidable c]{a b:α}(h:(if c then some a else none)=some b):c/\a=b:=by
 by_cases hc:c
 · rw[if_pos hc]at h;cases h;exact⟨hc,rfl⟩
 · rw[if_neg hc]at h;cases h
section
variable{K:zC}{kd:KD}{F B:Addr->Prop}{G:Addr->Prop}{ad:Ad}{as:AS}{σ:St}{H H':Hp}{v:V}{r:R0}{rv:RV}{Q:VK}{lv:Option Bool}
theorem zpp{Ob:Addr->Prop}{d:D}(h:yc d=true\/lv.isSome=true)(hO:∀st,lv=some st->∀a,Lv F B G st a->Ob a)(rp:Rp K kd Ob H v d):Lf K kd F B G H (yc d||lv.getD false) v d:=by
 cases e:yc d with
 |true=>exact rp.flat e
 |false=>
  rw[e]at h
  cases lv with
  |none=>rcases h with h|h<;>cases h
  |some st=>exact rp.less (hO st rfl)
theorem zly{Ob:Addr->Prop}{N:Addr->Prop}(hO:∀st,lv=some st->∀a,Lv F B G st a->Ob a){vs:List V}{ds:List D}(e:(ds.all yc||lv.isSome)=true)(h:RpL K kd Ob H vs ds):RoL (Lf K kd F B G H) N H vs (ds.map (lfs (lv.getD false))) []:=
 RpL.ind (P:=λvs ds=>(ds.all yc||lv.isSome)=true->RoL (Lf K kd F B G H) N H vs (ds.map (lfs (lv.getD false))) []) (λ_=>.nil) (λ{v d vs ds} h _ ih e=>by
  rw[List.all_cons]at e
  have e1:yc d=true\/lv.isSome=true:=by
   cases h1:lv.isSome<;>cases h2:yc d<;>simp[h1,h2]at e ⊢
  have e2:(ds.all yc||lv.isSome)=true:=by
   cases h1:lv.isSome with
   |true=>simp
   |false=>
    rw[h1,Bool.or_false,zzZ]at e
    rw[Bool.or_false];exact e.2
  exact RoL.cons (.lf (zpp e1 hO h)) (ih e2)) h e
theorem zkW{O:Addr->Prop}{vs:List (Key×V)}{ds:List (Key×D)}(h:RpM K kd O H vs ds):vs=(ds.map (·.1)).zip (vs.map (·.2))/\RpL K kd O H (vs.map (·.2)) (ds.map (·.2)):=
 RpM.ind (P:=λvs ds=>vs=(ds.map (·.1)).zip (vs.map (·.2))/\RpL K kd O H (vs.map (·.2)) (ds.map (·.2))) ⟨rfl,.nil⟩ (λh _ ih=>by
  obtain⟨h1,h2⟩:=ih
  refine⟨?_,.cons h h2⟩
  conv=>lhs;rw[h1]
  rfl) h
theorem Wa(R:Rel K kd F B [] ad as σ H)(e:wrap lv r=some rv)(q:∀v T' H',Rel K kd F B T' ad as σ H'->v7 K kd F B T' ad σ H' v rv->Grow (Gw [] ad) H (Gw T' ad) H'->Q v H'):RQ K kd (Obl F B (Gw [] ad) lv) H Q r:=by
 have hO:∀(l:List Addr) st,lv=some st->∀a,Lv F B (Gw l ad) st a->Un2 (Obl F B (Gw [] ad) lv) (· ∈ l) a:=by
  intro l st e a z
  subst e
  rcases z with z|z|z
  · exact .inl (.inl z)
  · exact .inr z
  · exact .inl (.inr (.inr z))
 cases r with
 |im d=>
  obtain⟨c,rfl⟩:=yg e
  intro v H' k rp
  obtain⟨R',g⟩:=R.more k
  refine q v [] H' R' (.lf (zpp ((Bool.or_eq_true _ _).mp c) (λst e a z=>?_) rp)) g
  exact(hO [] st e a z).elim id λm=>nomatch m
 |fl ds=>
  obtain⟨c,rfl⟩:=yg e
  intro l vs H' hl k hl' rp
  obtain⟨R',g⟩:=R.news (T':=[l]) (by simp) (λa m=>by rw[zzO.mp m];exact hl) k (λa m=>by rw[zzO.mp m,hl'];simp)
  exact q _ [l] H' R' (.ls hl' (zly (λst e a z=>(hO [l] st e a z).elim .inl λm=>.inr (zzO.mp m)) c rp)) g
 |fd ds=>
  obtain⟨c,rfl⟩:=yg e
  intro l vs H' hl k hl' rp
  obtain⟨R',g⟩:=R.news (T':=[l]) (by simp) (λa m=>by rw[zzO.mp m];exact hl) k (λa m=>by rw[zzO.mp m,hl'];simp)
  obtain⟨e1,r1⟩:=zkW rp
  refine q _ [l] H' R' (.dc (vs:=vs.map (·.2)) (by rw[hl',<-e1]) (by rw[zD,zD,rp.length]) (zly (λst e a z=>(hO [l] st e a z).elim .inl λm=>.inr (zzO.mp m)) c r1)) g
end
abbrev EF:=AS->Option (RV×AS)
def al(K:zC)(kd:KD)(f:EF):TE:=λσ H Q=>∃F B ad as r as',Rel K kd F B [] ad as σ H/\f as=some (r,as')/\
 ∀v T' ad' H',Rel K kd F B T' ad' as' σ H'->v7 K kd F B T' ad' σ H' v r->Grow (Gw [] ad) H (Gw T' ad') H'->Q v H'
@[irreducible] def AE(X:Cx)(kd:KD)(e:Expr)(f:EF):Prop:=PE X e (al X.K kd f)
theorem xU{X:Cx}{e:Expr}{t t':TE}(h:PE X e t)(k:∀σ H Q,t' σ H Q->t σ H Q):PE X e t':=λpins s σ H Q I q=>h pins s σ H Q I (k σ H Q q)
section
variable{K:zC}{kd:KD}{F B:Addr->Prop}{ad:Ad}{as as1:AS}{σ:St}{H:Hp}{r:RV}{f:EF}{P:VK}
theorem Xn(R:Rel K kd F B [] ad as σ H)(e:f as=some (r,as1))(k:∀v ad1 H1,Rel K kd F B [] ad1 as1 σ H1->v7 K kd F B [] ad1 σ H1 v r.frz->Grow (Gw [] ad) H (Gw [] ad1) H1->P v H1):al K kd f σ H P:=
 ⟨F,B,ad,as,r,as1,R,e,λv T' ad' H' R' rv g=>k v ad' H' R'.drop (v7.drop R' rv) (g.trans (Grow.less Gw.drop))⟩
end
def OpD(X:Cx)(kd:KD)(f:Value->Value->Sem Value)(g:D->D->Option R0):Prop:=
 OpR X f (λx y H Q=>∃O d e r,(∀a,O a->H a≠none)/\Vw X.K kd O H x d/\Vw X.K kd O H y e/\g d e=some r/\RQ X.K kd O H Q r)
def UnD(X:Cx)(kd:KD)(f:Value->Sem Value)(g:D->Option R0):Prop:=
 UnR X f (λx H Q=>∃O d r,(∀a,O a->H a≠none)/\Vw X.K kd O H x d/\g d=some r/\RQ X.K kd O H Q r)
inductive VwL(K:zC)(kd:KD)(O:Addr->Prop)(H:Hp):List V->List D->Prop
 |nil:VwL K kd O H [] []
 |cons {v:V}{d:D}{vs:List V}{ds:List D}:Vw K kd O H v d->VwL K kd O H vs ds->VwL K kd O H (v::vs) (d::ds)
def CallD(X:Cx)(kd:KD)(f:Value)(g:List D->Option R0):Prop:=
 zap X f (λxs H Q=>∃O ds r,(∀a,O a->H a≠none)/\VwL X.K kd O H xs ds/\g ds=some r/\RQ X.K kd O H Q r)
def IxD(X:Cx)(kd:KD)(g:D->D->Option R0):Prop:=
 IxR X (λx y H Q=>∃O d e r,(∀a,O a->H a≠none)/\Vw X.K kd O H x d/\Vw X.K kd O H y e/\g d e=some r/\RQ X.K kd O H Q r)
def meet:Option Bool->Option Bool->Option Bool
 |some a,some b=>some (a&&b)
 |_,_=>none
theorem Obl.meet1{F B G:Addr->Prop}{a b:Option Bool}:∀x,Obl F B G (meet a b) x->Obl F B G a x:=λx h=>by
 cases a with
 |none=>cases b<;>exact h.elim
 |some p=>
  cases b with
  |none=>exact h.elim
  |some q=>exact zdW (λz=>((zzZ _ _).mp z).1) x h
theorem Obl.meet2{F B G:Addr->Prop}{a b:Option Bool}:∀x,Obl F B G (meet a b) x->Obl F B G b x:=λx h=>by
 cases a with
 |none=>cases b<;>exact h.elim
 |some p=>
  cases b with
  |none=>exact h.elim
  |some q=>exact zdW (λz=>((zzZ _ _).mp z).2) x h
theorem Vw.less{K:zC}{kd:KD}{O O':Addr->Prop}{H:Hp}{v:V}{d:D}(g:∀a,O' a->O a)(h:Vw K kd O H v d):Vw K kd O' H v d:=by
 cases h with
 |non=>exact .non
 |bl b=>exact .bl b
 |int i=>exact .int i
 |str x=>exact .str x
 |tup r s l=>exact .tup (r.less g) s (l.less g)
 |lst h l=>exact .lst h (l.less g)
 |dct h l=>exact .dct h (l.less g)
 |cl c=>exact .cl c
 |ob h k l=>exact .ob h k (l.less g)
 |dt h k l=>exact .dt h k (l.less g)
def f2(fa fb:EF)(g:D->D->Option R0):EF:=λas=>(fa as).bind λp=>(fb p.2).bind λq=>(p.1.frz.view q.2).bind λx=>(q.1.frz.view q.2).bind λy=>(g x.1 y.1).bind λr=>(wrap (meet x.2 y.2) r).bind λz=>some (z,q.2)
theorem zjQ{fa fb:EF}{g:D->D->Option R0}{as as':AS}{rv:RV}(h:f2 fa fb g as=some (rv,as')):
 ∃p as1 q x y lx ly r,fa as=some (p,as1)/\fb as1=some (q,as')/\p.frz.view as'=some (x,lx)/\q.frz.view as'=some (y,ly)/\g x y=some r/\wrap (meet lx ly) r=some rv:=by
 unfold f2 at h
 obtain⟨⟨p,as1⟩,h1,h⟩:=bS_ h
 obtain⟨⟨q,as2⟩,h2,h⟩:=bS_ h
 obtain⟨⟨x,lx⟩,h3,h⟩:=bS_ h
 obtain⟨⟨y,ly⟩,h4,h⟩:=bS_ h
 obtain⟨r,h5,h⟩:=bS_ h
 obtain⟨z,h6,h⟩:=bS_ h
 cases h
 exact⟨p,as1,q,x,y,lx,ly,r,h1,h2,h3,h4,h5,h6⟩
section
variable{X:Cx}{kd:KD}{a b c:Expr}{fa fb fc:EF}{pos:Pos}
theorem al2{g:D->D->Option R0}{R2':R2}(hr:∀x y H Q,(∃O d e r,(∀a,O a->H a≠none)/\Vw X.K kd O H x d/\Vw X.K kd O H y e/\g d e=some r/\RQ X.K kd O H Q r)->R2' x y H Q)
 {σ:St}{H:Hp}{Q:VK}(h:al X.K kd (f2 fa fb g) σ H Q):tOp R2' (al X.K kd fa) (al X.K kd fb) σ H Q:=by
 obtain⟨F,B,ad,as,r,as',R,e,q⟩:=h
 obtain⟨p,as1,z,x,y,lx,ly,r0,h1,h2,h3,h4,h5,h6⟩:=zjQ e
 refine Xn R h1 λv ad1 H1 R1 rv1 g1=>Xn R1 h2 λu ad2 H2 R2 rv2 g2=>hr _ _ _ _ ?_
 exact⟨_,x,y,r0,R2.tr _,(v7.vw R2 (rv1.grow g2) h3).less Obl.meet1,(v7.vw R2 rv2 h4).less Obl.meet2,h5,Wa R2 h6 λw T' H' R' rv' g'=>q w T' ad2 H' R' rv' ((g1.trans g2).trans g')⟩
theorem zqj{op:Operator}{g:D->D->Option R0}(ho:OpD X kd (binaryOp op) g)(ha:AE X kd a fa)(hb':AE X kd b fb):AE X kd (.BinOp a op b pos) (f2 fa fb g):=by with_unfolding_all exact(xU (zmk ho ha hb') λσ H Q h=>al2 (λ_ _ _ _ z=>z) h)
theorem zct{op:CmpOp}{g:D->D->Option R0}(ho:OpD X kd (compareOp op) g)(ha:AE X kd a fa)(hb':AE X kd b fb)(hm:behindInMarks op b=false):AE X kd (.Compare a [op] [b] pos) (f2 fa fb g):=by with_unfolding_all exact(xU (znH ho ha hb' hm) λσ H Q h=>al2 (λ_ _ _ _ z=>z) h)
theorem zrQ{g:D->D->Option R0}(ho:IxD X kd g)(ha:AE X kd a fa)(hb':AE X kd b fb)(hm:Yv b):AE X kd (.Subscript a b pos) (f2 fa fb g):=by with_unfolding_all exact(xU (zer ho ha hb' hm) λσ H Q h=>al2 (λ_ _ _ _ z=>z) h)
def fC(d:D):EF:=λas=>some (.ow (.lf true d),as)
def fV(i:Nat):EF:=λas=>match as[i]? with
 |some (some (.lf st d))=>some (.ow (.lf st d),as)
 |some (some (.nd _ _))=>some (.bo i,as)
 |_=>none
theorem zgl{v:V}{d:D}(h:PE X a (tC v))(hr:∀O H,Rp X.K kd O H v d):AE X kd a (fC d):=by with_unfolding_all exact(xU h λσ H Q h=>by
 obtain⟨F,B,ad,as,r,as',R,e,q⟩:=h
 cases e
 exact q v [] ad H R (.lf (hr _ _)) Grow.refl)
theorem zqR{i:Nat}(h:PE X a (Xy i)):AE X kd a (fV i):=by with_unfolding_all exact(xU h λσ H Q h=>by
 obtain⟨F,B,ad,as,r,as',R,e,q⟩:=h
 unfold fV at e
 cases k:as[i]? with
 |none=>rw[k]at e;cases e
 |some s=>
  rw[k]at e
  cases s with
  |none=>cases e
  |some o=>
   obtain⟨v,h1,h2⟩:=R.sl i _ k
   cases o with
   |lf st d=>
    cases e
    have e0:ad i=[]:=by
     generalize hfp:ad i=fp at h2
     cases h2
     rfl
    rw[e0]at h2
    exact⟨v,h1,q v [] ad H R h2 Grow.refl⟩
   |nd kk os=>
    cases e
    exact⟨_,h1,q _ [] ad H R ⟨rfl,h1⟩ Grow.refl⟩)
end
def Yc(ad:Ad)(i:Nat)(x:List Addr):Ad:=λj=>if j=i then x else ad j
section
variable{K:zC}{kd:KD}{F B:Addr->Prop}{T T1 T2:List Addr}{ad ad1:Ad}{as as1:AS}{σ:St}{H H1:Hp}{v:V}{r:RV}{o:O}{i:Nat}
theorem yj{x:List Addr}:Yc ad i x i=x:=if_pos rfl
theorem yp{j:Nat}{x:List Addr}(h:j≠i):Yc ad i x j=ad j:=if_neg h
theorem vL:∀a,Gw T (Yc ad i []) a->Gw T ad a:=λa h=>by
 rcases h with h|⟨j,h⟩
 · exact .inl h
 · by_cases e:j=i
   · subst e;rw[yj]at h;cases h
   · rw[yp e]at h;exact .inr ⟨j,h⟩
theorem Ws:∀a,Gw [] (Yc ad i T) a->Gw T ad a:=λa h=>by
 rcases h with h|⟨j,h⟩
 · cases h
 · by_cases e:j=i
   · subst e;rw[yj]at h;exact .inl h
   · rw[yp e]at h;exact .inr ⟨j,h⟩
theorem zkq:∀st a,Lv F (λa=>B a\/a ∈ T) (Gw [] ad) st a->Lv F B (Gw T ad) st a:=λst a z=>by
 rcases z with(z|z|z)|z
 · exact .inl (.inl z)
 · exact .inl (.inr z)
 · exact .inr (.inl z)
 · exact .inr (Gw.drop a z)
theorem zae:∀st a,Lv F B (Gw (T1++T2) ad) st a->Lv F (λa=>B a\/a ∈ T1) (Gw T2 ad) st a:=λst a z=>by
 rcases z with(z|z)|z|z
 · exact .inl (.inl z)
 · exact .inl (.inr (.inl z))
 · rcases zzJ.mp z with z|z
   · exact .inl (.inr (.inr z))
   · exact .inr (.inl z)
 · exact .inr (.inr z)
theorem Rel.hide(R:Rel K kd F B T ad as σ H):Rel K kd F (λa=>B a\/a ∈ T) [] ad as σ H where
 len:=R.len
 out:=R.out
 nd:=R.nd
 inj:=R.inj
 tnd:=zyG
 dis:=λ_ _ _ z=>nomatch z
 ftr:=R.ftr
 btr:=λa h=>by
  rcases h with h|h
  · obtain⟨h1,h2,h3⟩:=R.btr a h
    exact⟨h1,h2,λz=>h3 (Gw.drop a z)⟩
  · exact⟨(R.gtr a (.inl h)).1,(R.gtr a (.inl h)).2,λz=>z.elim (λm=>nomatch m) λ⟨j,y⟩=>R.dis j a y h⟩
 gtr:=λa h=>R.gtr a (Gw.drop a h)
 sl:=λi s e=>(R.sl i s e).lv zkq
theorem Rel.unhide(hn:T1.Nodup)(hb:∀a ∈ T1,¬B a)(R:Rel K kd F (λa=>B a\/a ∈ T1) T2 ad as σ H):Rel K kd F B (T1++T2) ad as σ H where
 len:=R.len
 out:=R.out
 nd:=R.nd
 inj:=R.inj
 tnd:=zxA.mpr ⟨hn,R.tnd,λa m b m' e=>by subst e;exact(R.btr a (.inr m)).2.2 (.inl m')⟩
 dis:=λi a m z=>by
  rcases zzJ.mp z with z|z
  · exact(R.btr a (.inr z)).2.2 (.inr ⟨i,m⟩)
  · exact R.dis i a m z
 ftr:=R.ftr
 btr:=λa h=>by
  obtain⟨h1,h2,h3⟩:=R.btr a (.inl h)
  refine⟨h1,h2,λz=>?_⟩
  rcases z with z|z
  · rcases zzJ.mp z with z|z
    · exact hb a z h
    · exact h3 (.inl z)
  · exact h3 (.inr z)
 gtr:=λa h=>by
  rcases h with h|h
  · rcases zzJ.mp h with h|h
    · exact⟨(R.btr a (.inr h)).1,(R.btr a (.inr h)).2.1⟩
    · exact R.gtr a (.inl h)
  · exact R.gtr a (.inr h)
 sl:=λi s e=>(R.sl i s e).lv zae
theorem Rel.frz(R:Rel K kd F B T ad as σ H)(h:as[i]? = some (some o)):
 Rel K kd F B T (Yc ad i []) (as.set i (some o.frz)) σ H/\∃v,σ[i]? = some (some v)/\Rp K kd (Lv F B (Gw T (Yc ad i [])) o.str) H v o.toD:=by
 obtain⟨v,hv,ro⟩:=R.sl i _ h
 have rp:Rp K kd (Lv F B (Gw T (Yc ad i [])) o.str) H v o.toD:=
  Ro.rp o.str (λst v d hs r=>r.less λa z=>z.elim (λy=>.inl (y.elim (λx=>.inl ⟨hs x.1,x.2⟩) .inr)) λy=>.inr (vL a y))
   (λa n z=>n (z.elim (λy=>.inl (y.elim (λx=>.inl ⟨rfl,x.2⟩) .inr)) λy=>.inr (vL a y))) id
   (λa m z=>by
    rcases z with(z|z)|z|⟨j,z⟩
    · exact(R.gtr a (.inr ⟨i,m⟩)).2 z.2
    · exact(R.btr a z).2.2 (.inr ⟨i,m⟩)
    · exact R.dis i a m z
    · by_cases e:j=i
      · subst e;rw[yj]at z;cases z
      · rw[yp e]at z;exact e (R.inj j i a z m)) ro
 have hi:i<as.length:=(zzD.mp h).1
 refine⟨⟨by rw[zzR];exact R.len,λj hj=>?_,λj=>?_,λj k a h1 h2=>?_,R.tnd,λj a h1=>?_,R.ftr,λa h1=>?_,λa h1=>R.gtr a (vL a h1),λj s e=>?_⟩,v,hv,rp⟩
 · rw[zzR]at hj
   rw[yp (by omega)];exact R.out j hj
 · by_cases e:j=i
   · subst e;rw[yj];exact zyG
   · rw[yp e];exact R.nd j
 · by_cases e:j=i
   · subst e;rw[yj]at h1;cases h1
   · by_cases e':k=i
     · subst e';rw[yj]at h2;cases h2
     · rw[yp e]at h1;rw[yp e']at h2;exact R.inj j k a h1 h2
 · by_cases e:j=i
   · subst e;rw[yj]at h1;cases h1
   · rw[yp e]at h1;exact R.dis j a h1
 · obtain⟨b1,b2,b3⟩:=R.btr a h1
   exact⟨b1,b2,λz=>b3 (vL a z)⟩
 · by_cases q:j=i
   · subst q
     rw[zyH hi]at e
     cases e
     rw[yj]
     exact⟨v,hv,.lf rp⟩
   · rw[zzV (Ne.symm q)]at e
     rw[yp q]
     exact(R.sl j s e).less vL
theorem Rel.put(R:Rel K kd F B T ad as σ H)(hi:i<as.length)(h:RoS K kd F B (Gw T ad) H v o T):Rel K kd F B [] (Yc ad i T) (as.set i (some o)) (σ.set i (some v)) H:=by
 have hi':i<σ.length:=by rw[<-R.len];exact hi
 refine⟨by rw[zzR,zzR];exact R.len,λj hj=>?_,λj=>?_,λj k a h1 h2=>?_,zyG,(λ_ _ _ z=>nomatch z),R.ftr,λa h1=>?_,λa h1=>R.gtr a (Ws a h1),λj s e=>?_⟩
 · rw[zzR]at hj
   rw[yp (by omega)];exact R.out j hj
 · by_cases e:j=i
   · subst e;rw[yj];exact R.tnd
   · rw[yp e];exact R.nd j
 · by_cases e:j=i
   · subst e
     rw[yj]at h1
     by_cases e':k=j
     · exact e'.symm
     · rw[yp e']at h2
       exact(R.dis k a h2 h1).elim
   · rw[yp e]at h1
     by_cases e':k=i
     · subst e'
       rw[yj]at h2
       exact(R.dis j a h1 h2).elim
     · rw[yp e']at h2
       exact R.inj j k a h1 h2
 · obtain⟨b1,b2,b3⟩:=R.btr a h1
   exact⟨b1,b2,λz=>b3 (Ws a z)⟩
 · by_cases q:j=i
   · subst q
     rw[zyH hi]at e
     cases e
     rw[yj,zyH hi']
     exact⟨v,rfl,h.less Ws⟩
   · rw[zzV (Ne.symm q)]at e
     rw[yp q,zzV (Ne.symm q)]
     exact(R.sl j s e).less Ws
def toO(as:AS):RV->Option (O×AS)
 | .ow o=>some (o,as)
 | .bo i=>match as[i]? with
  |some (some o)=>some (o.frz,as.set i (some o.frz))
  |_=>none
theorem zeC{as':AS}(R:Rel K kd F B T ad as σ H)(h:v7 K kd F B T ad σ H v r)(e:toO as r=some (o,as')):∃ad',Rel K kd F B T ad' as' σ H/\RoS K kd F B (Gw T ad') H v o T/\∀a,Gw T ad' a->Gw T ad a:=by
 cases r with
 |ow o'=>cases e;exact⟨ad,R,h,λ_ z=>z⟩
 |bo i=>
  have e:(match as[i]? with|some (some o)=>some (o.frz,as.set i (some o.frz))|_=>none)=some (o,as'):=e
  cases k:as[i]? with
  |none=>rw[k]at e;cases e
  |some s=>
   cases s with
   |none=>rw[k]at e;cases e
   |some o1=>
    rw[k]at e
    cases e
    obtain⟨hT,hs⟩:=h
    subst hT
    obtain⟨R',w,hw,rp⟩:=R.frz k
    rw[hs]at hw
    cases hw
    exact⟨_,R',.lf rp,vL⟩
end
abbrev TF:=AS->Option (Bool×AS)
def alT(K:zC)(kd:KD)(f:TF):TT:=λσ H Q=>∃F B ad as b as',Rel K kd F B [] ad as σ H/\f as=some (b,as')/\
 ∀ad' H',Rel K kd F B [] ad' as' σ H'->Grow (Gw [] ad) H (Gw [] ad') H'->Q b H'
@[irreducible] def AT(X:Cx)(kd:KD)(e:Expr)(f:TF):Prop:=PT X e (alT X.K kd f)
@[irreducible] def AW(X:Cx)(kd:KD)(e:Expr)(f:TF):Prop:=PW X e (alT X.K kd f)
def truth:D->Option Bool
 | .non=>some false
 | .bl b=>some b
 | .int i=>some (i != 0)
 | .str x=>if x.length<=sizeLine then some ((x.length:Int) != 0)else none
 | .tup ds=>some (!ds.isEmpty)
 | .lst ds=>some (!ds.isEmpty)
 |_=>none
def fT(f:EF):TF:=λas=>(f as).bind λp=>(p.1.frz.view p.2).bind λx=>(truth x.1).bind λb=>some (b,p.2)
def W9(f g:TF):TF:=λas=>(f as).bind λp=>if p.1=true then g p.2 else some (false,p.2)
def zaZ(f g:TF):TF:=λas=>(f as).bind λp=>if p.1=true then some (true,p.2)else g p.2
def Yo(f:TF):TF:=λas=>(f as).bind λp=>some (!p.1,p.2)
def asI:D->Option Int
 | .int i=>some i
 |_=>none
def asS:D->Option Str
 | .str i=>some i
 |_=>none
def asL:D->Option (List D)
 | .lst i=>some i
 |_=>none
def asT:D->Option (List D)
 | .tup i=>some i
 |_=>none
theorem zcn{d:D}{i:List D}(e:asL d=some i):d = .lst i:=by
 cases d with
 |lst j=>cases e;rfl
 |_=>cases e
theorem zqb{d:D}{i:List D}(e:asT d=some i):d = .tup i:=by
 cases d with
 |tup j=>cases e;rfl
 |_=>cases e
theorem zhk{d:D}{c:Int}(h:asI d=some c):d = .int c:=by
 cases d with
 |int i=>cases h;rfl
 |_=>cases h
def rvD:RV->Option D
 | .ow (.lf _ d)=>some d
 |_=>none
theorem zqo{r:RV}{d:D}(h:rvD r=some d):∃st,r = .ow (.lf st d):=by
 cases r with
 |bo i=>cases h
 |ow o=>
  cases o with
  |nd k os=>cases h
  |lf st d=>cases h;exact⟨st,rfl⟩
def rvI(r:RV):Option Int:=(rvD r).bind asI
theorem zqw{r:RV}{c:Int}(h:rvI r=some c):∃st,r = .ow (.lf st (.int c)):=by
 obtain⟨d,h1,h⟩:=bS_ h
 cases zhk h
 exact zqo h1
def zqq{α:Type}:List α->Option (α×α)
 | [a,b]=>some (a,b)
 |_=>none
theorem zjJ{α:Type}{os:List α}{p:α×α}(h:zqq os=some p):os=[p.1,p.2]:=by
 cases os with
 |nil=>cases h
 |cons x r=>
  cases r with
  |nil=>cases h
  |cons y r=>
   cases r with
   |nil=>cases h;rfl
   |cons _ _=>cases h
def rvL(r:RV):Option (Bool×List D):=match r with
 | .ow (.lf s d)=>(asL d).bind λl=>some (s,l)
 |_=>none
theorem zny{r:RV}{p:Bool×List D}(h:rvL r=some p):r = .ow (.lf p.1 (.lst p.2)):=by
 cases r with
 |bo i=>cases h
 |ow o=>
  cases o with
  |nd k os=>cases h
  |lf st d=>
   obtain⟨l,h1,h⟩:=bS_ (show(asL d).bind _=_ from h)
   cases h
   cases zcn h1
   rfl
def f1(fa:EF)(g:D->Option R0):EF:=λas=>(fa as).bind λp=>(p.1.frz.view p.2).bind λx=>(g x.1).bind λr=>(wrap x.2 r).bind λz=>some (z,p.2)
section
variable{X:Cx}{kd:KD}{a b c:Expr}{fa fb:EF}{ta tb:TF}{pos:Pos}{es rest:List Expr}
theorem zjh{e:Expr}{t t':TT}(h:PT X e t)(k:∀σ H Q,t' σ H Q->t σ H Q):PT X e t':=λpins s σ H Q I q=>h pins s σ H Q I (k σ H Q q)
theorem zna{e:Expr}{t t':TT}(h:PW X e t)(k:∀σ H Q,t' σ H Q->t σ H Q):PW X e t':=λw pins s σ H Q I q=>h w pins s σ H Q I (k σ H Q q)
theorem zqJ{O:Addr->Prop}{H:Hp}{v:V}{d:D}{k:Bool}(h:Vw X.K kd O H v d)(e:truth d=some k):zpW X.K v H k:=by
 cases h with
 |non=>cases e;rfl
 |bl b=>cases e;rfl
 |int i=>cases e;rfl
 |str x=>
  have e:(if x.length<=sizeLine then some ((x.length:Int) != 0)else none)=some k:=e
  by_cases hl:x.length<=sizeLine
  · rw[if_pos hl]at e;cases e;exact⟨hl,rfl⟩
  · rw[if_neg hl]at e;cases e
 |tup r hs hr=>
  cases e
  refine .inr (.inl ⟨_,hs, ?_⟩)
  cases hr<;>rfl
 |lst hs hr=>
  cases e
  refine .inl ⟨_,hs.sq, ?_⟩
  cases hr<;>rfl
 |dct=>cases e
 |cl=>cases e
 |ob=>cases e
 |dt=>cases e
theorem zci(ha:AE X kd a fa)(he:∀whole,isTrue a X.env whole=(do let v <-whole;standAt a.pos;holding [v] (truthy v))):AT X kd a (fT fa):=by with_unfolding_all exact(zjh (zlY ha he) λσ H Q h=>by
 obtain⟨F,B,ad,as,bb,as',R,e,q⟩:=h
 obtain⟨⟨p,as1⟩,h1,e⟩:=bS_ (show(fa as).bind _=_ from e)
 obtain⟨⟨d,lv⟩,h2,e⟩:=bS_ e
 obtain⟨k,h3,e⟩:=bS_ e
 cases e
 exact Xn R h1 λv ad1 H1 R1 rv1 g1=>⟨_,zqJ (v7.vw R1 rv1 h2) h3,q ad1 H1 R1 g1⟩)
theorem zhp{op:CmpOp}{g:D->D->Option R0}(ho:OpD X kd (compareOp op) g)(hg:∀x y r,g x y=some r->∃k,r = .im (.bl k))(ha:AE X kd a fa)(hb:AE X kd b fb)(hm:behindInMarks op b=false):
 AT X kd (.Compare a [op] [b] pos) (fT (f2 fa fb g)):=by with_unfolding_all exact(zjh (znJ ho ha hb hm) λσ H Q h=>by
 obtain⟨F,B,ad,as,bb,as',R,e,q⟩:=h
 obtain⟨⟨p,as1⟩,h1,e⟩:=bS_ (show(f2 fa fb g as).bind _=_ from e)
 obtain⟨⟨d,lv⟩,h2,e⟩:=bS_ e
 obtain⟨k,h3,e⟩:=bS_ e
 cases e
 obtain⟨_,_,_,x,y,_,_,r0,_,_,_,_,hp,hw⟩:=zjQ h1
 obtain⟨k',rfl⟩:=hg _ _ _ hp
 cases hw
 cases h2
 cases h3
 refine al2 (λ_ _ _ _ z=>z) ⟨F,B,ad,as,_,_,R,h1,λv T' ad' H' R' rv g'=>?_⟩
 generalize hT:T'=T2 at rv R' g'
 cases rv with
 |lf rp=>
  cases rp
  exact⟨_,rfl,q ad' H' R' g'⟩)
theorem zeX(ha:AT X kd a ta):AT X kd (.UnaryOp .Not a pos) (Yo ta):=by with_unfolding_all exact(zjh (zrl ha) λσ H Q h=>by
 obtain⟨F,B,ad,as,bb,as',R,e,q⟩:=h
 obtain⟨⟨p,as1⟩,h1,e⟩:=bS_ (show(ta as).bind _=_ from e)
 cases e
 exact⟨F,B,ad,as,p,_,R,h1,λad' H' R' g=>q ad' H' R' g⟩)
theorem X5(ha:AT X kd a ta):AW X kd (.BoolOp .And [a] pos) ta:=by with_unfolding_all exact(znQ ha)
theorem zag(ha:AT X kd a ta):AW X kd (.BoolOp .Or [a] pos) ta:=by with_unfolding_all exact(zqf ha)
theorem zgy(ha:AT X kd a ta)(hb:AW X kd (.BoolOp .And (b::rest) pos) tb):AW X kd (.BoolOp .And (a::b::rest) pos) (W9 ta tb):=by with_unfolding_all exact(zna (zpH ha hb) λσ H Q h=>by
 obtain⟨F,B,ad,as,bb,as',R,e,q⟩:=h
 obtain⟨⟨p,as1⟩,h1,e⟩:=bS_ (show(ta as).bind _=_ from e)
 refine⟨F,B,ad,as,p,as1,R,h1,λad' H' R' g=>?_⟩
 cases p with
 |true=>exact⟨F,B,ad',as1,bb,as',R',e,λad2 H2 R2 g2=>q ad2 H2 R2 (g.trans g2)⟩
 |false=>cases e;exact q ad' H' R' g)
theorem zdZ(ha:AT X kd a ta)(hb:AW X kd (.BoolOp .Or (b::rest) pos) tb):AW X kd (.BoolOp .Or (a::b::rest) pos) (zaZ ta tb):=by with_unfolding_all exact(zna (zrK ha hb) λσ H Q h=>by
 obtain⟨F,B,ad,as,bb,as',R,e,q⟩:=h
 obtain⟨⟨p,as1⟩,h1,e⟩:=bS_ (show(ta as).bind _=_ from e)
 refine⟨F,B,ad,as,p,as1,R,h1,λad' H' R' g=>?_⟩
 cases p with
 |false=>exact⟨F,B,ad',as1,bb,as',R',e,λad2 H2 R2 g2=>q ad2 H2 R2 (g.trans g2)⟩
 |true=>cases e;exact q ad' H' R' g)
theorem AW.at_{e:Expr}(h:AW X kd e ta):AT X kd e ta:=by with_unfolding_all exact(PW.pt h)
theorem zpo{op:UnaryOp}{g:D->Option R0}(ho:UnD X kd (unaryOp op) g)(ha:AE X kd a fa):AE X kd (.UnaryOp op a pos) (f1 fa g):=by with_unfolding_all exact(xU (zsa ho ha) λσ H Q h=>by
 obtain⟨F,B,ad,as,r,as',R,e,q⟩:=h
 obtain⟨⟨p,as1⟩,h1,e⟩:=bS_ (show(fa as).bind _=_ from e)
 obtain⟨⟨x,lv⟩,h2,e⟩:=bS_ e
 obtain⟨z,h3,e⟩:=bS_ e
 obtain⟨y,h4,e⟩:=bS_ e
 cases e
 refine Xn R h1 λv ad1 H1 R1 rv1 g1=>⟨_,x,z,R1.tr _,v7.vw R1 rv1 h2,h3,Wa R1 h4 λw T' H' R' rv' g'=>q w T' ad1 H' R' rv' (g1.trans g')⟩)
end
abbrev AF:=AS->Option (List RV×AS)
inductive RVs(K:zC)(kd:KD)(F B:Addr->Prop)(ad:Ad)(σ:St)(H:Hp):List V->List RV->Prop
 |nil:RVs K kd F B ad σ H [] []
 |cons {v:V}{r:RV}{vs:List V}{rs:List RV}:v7 K kd F B [] ad σ H v r->RVs K kd F B ad σ H vs rs->RVs K kd F B ad σ H (v::vs) (r::rs)
def alA(K:zC)(kd:KD)(f:AF):TA:=λσ H Q=>∃F B ad as rs as',Rel K kd F B [] ad as σ H/\f as=some (rs,as')/\
 ∀vs ad' H',Rel K kd F B [] ad' as' σ H'->RVs K kd F B ad' σ H' vs rs->Grow (Gw [] ad) H (Gw [] ad') H'->Q vs H'
@[irreducible] def AA(X:Cx)(kd:KD)(es:List Expr)(f:AF):Prop:=PA X es (alA X.K kd f)
def aN:AF:=λas=>some ([],as)
def aC(fa:EF)(fr:AF):AF:=λas=>(fa as).bind λp=>(fr p.2).bind λq=>some (p.1.frz::q.1,q.2)
theorem zgV{X:Cx}{e:List Expr}{t t':TA}(h:PA X e t)(k:∀σ H Q,t' σ H Q->t σ H Q):PA X e t':=λpos pins s σ H Q I q=>h pos pins s σ H Q I (k σ H Q q)
abbrev DF:=AS->Option (List O×AS)
def alD(K:zC)(kd:KD)(f:DF):TA:=λσ H Q=>∃F B ad as os as',Rel K kd F B [] ad as σ H/\f as=some (os,as')/\
 ∀vs T' ad' H',Rel K kd F B T' ad' as' σ H'->vU K kd F B (Gw T' ad') H' vs os T'->Grow (Gw [] ad) H (Gw T' ad') H'->Q vs H'
@[irreducible] def AD(X:Cx)(kd:KD)(es:List Expr)(f:DF):Prop:=PA X es (alD X.K kd f)
def dN:DF:=λas=>some ([],as)
def dC(fa:EF)(fr:DF):DF:=λas=>(fa as).bind λp=>(toO p.2 p.1).bind λx=>(fr x.2).bind λq=>some (x.1::q.1,q.2)
def views(as:AS):List RV->Option (List D×Option Bool)
 | []=>some ([],some true)
 |r::rs=>(r.view as).bind λx=>(views as rs).bind λy=>some (x.1::y.1,meet x.2 y.2)
def fP(fr:AF)(g:List D->Option R0):EF:=λas=>(fr as).bind λp=>(views p.2 p.1).bind λx=>(g x.1).bind λr=>(wrap x.2 r).bind λz=>some (z,p.2)
def zlp(as:AS):RV->Option (Bool×D)
 | .ow o=>some (yc o.toD||o.str,o.toD)
 | .bo i=>match as[i]? with
  |some (some o)=>some (false,o.toD)
  |_=>none
def XR(as:AS):List RV->Option (List (Bool×D))
 | []=>some []
 |r::rs=>(zlp as r).bind λx=>(XR as rs).bind λy=>some (x::y)
def zK(fr:AF)(g:List (Bool×D)->Option O):EF:=λas=>(fr as).bind λp=>(XR p.2 p.1).bind λx=>(g x).bind λo=>some (.ow o,p.2)
def RQO(K:zC)(kd:KD)(F:Addr->Prop)(H:Hp)(Q:VK)(o:O):Prop:=
 ∀v T H',T.Nodup->(∀a ∈ T,H a=none)->(∀b u,H b=some u->H' b=some u)->(∀a ∈ T,H' a≠none)->Ro (λ_ v d=>Rp K kd (Un2 F (· ∈ T)) H' v d) (λa=>¬Un2 F (· ∈ T) a) H' v o T->Q v H'
inductive RpA(K:zC)(kd:KD)(F:Addr->Prop)(H:Hp):List V->List (Bool×D)->Prop
 |nil:RpA K kd F H [] []
 |cons {v:V}{st:Bool}{d:D}{vs:List V}{ds:List (Bool×D)}:Rp K kd (λa=>st=true/\F a) H v d->RpA K kd F H vs ds->RpA K kd F H (v::vs) ((st,d)::ds)
def spD(K:zC)(kd:KD)(g:List (Bool×D)->Option O):Sp:=λvs H Q _=>∃F ds o,(∀a,F a->H a≠none)/\RpA K kd F H vs ds/\g ds=some o/\RQO K kd F H Q o
def Y4(os:List O):O:=if os.all O.isLf=true then .lf (O.strs os) (.tup (O.toDs os))else .nd .tp os
def yw(fr:DF):EF:=λas=>(fr as).bind λp=>if p.1.length<=sizeLine then some (.ow (Y4 p.1),p.2)else none
def yW(fr:DF):EF:=λas=>(fr as).bind λp=>if p.1.length<=sizeLine then some (.ow (.nd .ls p.1),p.2)else none
section
variable{X:Cx}{kd:KD}{a b c:Expr}{fa fb:EF}{ta tb:TF}{pos:Pos}{es rest:List Expr}{fr:AF}{fd:DF}
theorem RpA.length{K:zC}{F:Addr->Prop}{H:Hp}{vs:List V}{ds:List (Bool×D)}(h:RpA K kd F H vs ds):vs.length=ds.length:=by
 induction h with
 |nil=>rfl
 |cons _ _ ih=>exact congrArg (· + 1) ih
theorem zf:AA X kd [] aN:=by with_unfolding_all exact(zgV zaQ λσ H Q h=>by
 obtain⟨F,B,ad,as,rs,as',R,e,q⟩:=h
 cases e
 exact q [] ad H R .nil Grow.refl)
theorem zoS(ha:AE X kd a fa)(hr:AA X kd es fr)(hs:starEach (a::es) X.env=(false,eval a X.env)::starEach es X.env):AA X kd (a::es) (aC fa fr):=by with_unfolding_all exact(zgV (Xc ha hr hs) λσ H Q h=>by
 obtain⟨F,B,ad,as,rs,as',R,e,q⟩:=h
 obtain⟨⟨p,as1⟩,h1,e⟩:=bS_ (show(fa as).bind _=_ from e)
 obtain⟨⟨z,as2⟩,h2,e⟩:=bS_ e
 cases e
 refine Xn R h1 λv ad1 H1 R1 rv1 g1=>⟨F,B,ad1,as1,z,_,R1,h2,λvs ad2 H2 R2 rv2 g2=>?_⟩
 exact q _ ad2 H2 R2 (.cons (rv1.grow g2) rv2) (g1.trans g2))
theorem zy:AD X kd [] dN:=by with_unfolding_all exact(zgV zaQ λσ H Q h=>by
 obtain⟨F,B,ad,as,rs,as',R,e,q⟩:=h
 cases e
 exact q [] [] ad H R .nil Grow.refl)
theorem zop(ha:AE X kd a fa)(hr:AD X kd es fd)(hs:starEach (a::es) X.env=(false,eval a X.env)::starEach es X.env):AD X kd (a::es) (dC fa fd):=by with_unfolding_all exact(zgV (Xc ha hr hs) λσ H Q h=>by
 obtain⟨F,B,ad,as,rs,as',R,e,q⟩:=h
 obtain⟨⟨p,as1⟩,h1,e⟩:=bS_ (show(fa as).bind _=_ from e)
 obtain⟨⟨o,as2⟩,h2,e⟩:=bS_ e
 obtain⟨⟨os,as3⟩,h3,e⟩:=bS_ e
 cases e
 refine⟨F,B,ad,as,p,as1,R,h1,λv T1 ad1 H1 R1 rv1 g1=>?_⟩
 obtain⟨ad2,R2,ro2,le2⟩:=zeC R1 rv1 h2
 refine⟨F,_,ad2,as2,os,_,R2.hide,h3,λvs T3 ad3 H3 R3 ro3 g3=>?_⟩
 have kT:∀a ∈ T1,∀u,H1 a=some u->H3 a=some u:=λa m u e=>g3.keep a u e λz=>z.elim (λy=>nomatch y) λ⟨i,y⟩=>R2.dis i a y m
 have r1:RoS X.K kd F B (Gw (T1++T3) ad3) H3 v o T1:=RoS.lv zae (RoS.grow g3 kT (RoS.lv zkq ro2))
 have r3:vU X.K kd F B (Gw (T1++T3) ad3) H3 vs os T3:=vU.lv zae ro3
 refine q _ (T1++T3) ad3 H3 (R3.unhide R2.tnd λa m z=>(R2.btr a z).2.2 (.inl m)) (.cons r1 r3) ((g1.trans (Grow.less le2)).trans ⟨λb u e n=>g3.keep b u e λz=>n (Gw.drop b z),λb z=>?_⟩)
 rcases z with z|z
 · rcases zzJ.mp z with z|z
   · exact .inl (.inl z)
   · exact(g3.own b (.inl z)).elim (λy=>.inl (Gw.drop b y)) .inr
 · exact(g3.own b (.inr z)).elim (λy=>.inl (Gw.drop b y)) .inr)
theorem yL{x1}(h:AD X kd es fd):AE X kd (.Tuple es x1 pos) (yw fd):=by with_unfolding_all exact(xU (zpM h) λσ H Q h=>by
 obtain⟨F,B,ad,as,r,as',R,e,q⟩:=h
 obtain⟨⟨os,as1⟩,h1,e⟩:=bS_ (show(fd as).bind _=_ from e)
 obtain⟨hz,e⟩:=yg e
 cases e
 refine⟨F,B,ad,as,os,_,R,h1,λvs T1 ad1 H1 R1 ro1 g1=>⟨by rw[ro1.length];exact hz,λp hp=>?_⟩⟩
 have k:∀b o,H1 b=some o->upd H1 p (.tup vs) b=some o:=λb o hb=>by rw[zV (yM hb hp)];exact hb
 obtain⟨R2,g2⟩:=R1.more k
 have ro2:=vU.grow g2 (λa _ u h=>k a u h) ro1
 have np:∀st,¬Lv F B (Gw T1 ad1) st p:=λst z=>R1.trk st p z hp
 refine q _ T1 ad1 _ R2 ?_ (g1.trans g2)
 show RoS X.K kd F B (Gw T1 ad1) _ _ (Y4 os) T1
 unfold Y4
 by_cases hl:os.all O.isLf=true
 · rw[if_pos hl]
   have:=ziO ro2 hl
   subst this
   exact .lf (.tup (np _) yC (zcy ro2 hl))
 · rw[if_neg hl]
   exact .tp (np _) yC ro2)
theorem yS(h:AD X kd es fd):AE X kd (.List es pos) (yW fd):=by with_unfolding_all exact(xU (zlw h) λσ H Q h=>by
 obtain⟨F,B,ad,as,r,as',R,e,q⟩:=h
 obtain⟨⟨os,as1⟩,h1,e⟩:=bS_ (show(fd as).bind _=_ from e)
 obtain⟨hz,e⟩:=yg e
 cases e
 refine⟨F,B,ad,as,os,_,R,h1,λvs T1 ad1 H1 R1 ro1 g1=>⟨by rw[ro1.length];exact hz,λp hp=>?_⟩⟩
 have k:∀b o,H1 b=some o->upd H1 p (.lst vs) b=some o:=λb o hb=>by rw[zV (yM hb hp)];exact hb
 obtain⟨R2,g2⟩:=R1.add (N:=[p]) (by simp) (λa m=>by rw[zzO.mp m];exact hp) k (λa m=>by rw[zzO.mp m,yC];simp)
 exact q _ _ ad1 _ R2 (.ls yC (vU.grow g2 (λa _ u h=>k a u h) ro1)) (g1.trans g2))
theorem VwL.less{K:zC}{O O':Addr->Prop}{H:Hp}(g:∀a,O' a->O a){vs:List V}{ds:List D}(h:VwL K kd O H vs ds):VwL K kd O' H vs ds:=by
 induction h with
 |nil=>exact .nil
 |cons h _ ih=>exact .cons (h.less g) ih
theorem zbX{K:zC}{F B:Addr->Prop}{ad:Ad}{as:AS}{σ:St}{H:Hp}(R:Rel K kd F B [] ad as σ H){vs:List V}{rs:List RV}{ds:List D}{lv:Option Bool}(h:RVs K kd F B ad σ H vs rs)(e:views as rs=some (ds,lv)):VwL K kd (Obl F B (Gw [] ad) lv) H vs ds:=by
 induction h generalizing ds lv with
 |nil=>cases e;exact .nil
 |cons h t ih=>
  obtain⟨⟨d,l⟩,h1,e⟩:=bS_ (show(RV.view as _).bind _=_ from e)
  obtain⟨⟨ds,l2⟩,h2,e⟩:=bS_ e
  cases e
  exact .cons ((v7.vw R h h1).less Obl.meet1) ((ih h2).less Obl.meet2)
theorem alP{g:List D->Option R0}{σ:St}{H:Hp}{Q:VK}{R':List V->Hp->VK->Prop}(hr:∀vs H Q,(∃O ds r,(∀a,O a->H a≠none)/\VwL X.K kd O H vs ds/\g ds=some r/\RQ X.K kd O H Q r)->R' vs H Q)
 (h:al X.K kd (fP fr g) σ H Q):alA X.K kd fr σ H λvs H1=>R' vs H1 Q:=by
 obtain⟨F,B,ad,as,r,as',R,e,q⟩:=h
 obtain⟨⟨p,as1⟩,h1,e⟩:=bS_ (show(fr as).bind _=_ from e)
 obtain⟨⟨ds,lv⟩,h2,e⟩:=bS_ e
 obtain⟨z,h3,e⟩:=bS_ e
 obtain⟨y,h4,e⟩:=bS_ e
 cases e
 exact⟨F,B,ad,as,p,_,R,h1,λvs ad1 H1 R1 rv1 g1=>hr _ _ _ ⟨_,ds,z,R1.tr _,zbX R1 rv1 h2,h3,Wa R1 h4 λw T' H' R' rv' g'=>q w T' ad1 H' R' rv' (g1.trans g')⟩⟩
theorem znC{K:zC}{F B:Addr->Prop}{ad:Ad}{as:AS}{σ:St}{H:Hp}(R:Rel K kd F B [] ad as σ H){vs:List V}{rs:List RV}{ds:List (Bool×D)}(h:RVs K kd F B ad σ H vs rs)(e:XR as rs=some ds):RpA K kd (Lv F B (Gw [] ad) true) H vs ds:=by
 induction h generalizing ds with
 |nil=>cases e;exact .nil
 |cons h t ih=>
  rename_i v r vs rs
  obtain⟨⟨st,d⟩,h1,e⟩:=bS_ (show(zlp as r).bind _=_ from e)
  obtain⟨ds,h2,e⟩:=bS_ e
  cases e
  refine .cons ?_ (ih h2)
  cases r with
  |ow o=>
   cases h1
   cases hf:yc o.toD with
   |true=>exact(zgB h).flat hf
   |false=>
    refine(zeE h).less λa z=>?_
    have zs:o.str=true:=z.1
    rw[zs]
    exact z.2
  |bo i=>
   have e:(match as[i]? with|some (some o)=>some (false,o.toD)|_=>none)=some (st,d):=h1
   cases k:as[i]? with
   |none=>rw[k]at e;cases e
   |some s=>
    cases s with
    |none=>rw[k]at e;cases e
    |some o=>
     rw[k]at e
     cases e
     obtain⟨w,hw,ro⟩:=R.sl i _ k
     rw[h.2]at hw
     cases hw
     exact(zgB ro).less λa z=>nomatch z.1
theorem zqG{K:zC}{F B:Addr->Prop}{ad:Ad}{as:AS}{σ:St}{H:Hp}{Q:VK}{o:O}(R:Rel K kd F B [] ad as σ H)(q:∀v T' H',Rel K kd F B T' ad as σ H'->v7 K kd F B T' ad σ H' v (.ow o)->Grow (Gw [] ad) H (Gw T' ad) H'->Q v H'):
 RQO K kd (Lv F B (Gw [] ad) true) H Q o:=λv T H' hn hl k h1 ro=>by
 obtain⟨R',g⟩:=R.news hn hl k h1
 have le:∀st a,Lv F B (Gw T ad) st a->Un2 (Lv F B (Gw [] ad) true) (· ∈ T) a:=λst a z=>by
  rcases z with(z|z)|z|z
  · exact .inl (.inl (.inl ⟨rfl,z.2⟩))
  · exact .inl (.inl (.inr z))
  · exact .inr z
  · exact .inl (.inr (.inr z))
 exact q v T H' R' (Ro.mono (λst v d r=>r.less (le st)) (λa vs n e=>⟨λz=>n (le true a z),e⟩) (λ_ _ _ e=>e) ro) g
theorem zpK{g:List (Bool×D)->Option O}{σ:St}{H:Hp}{Q:VK}{E:XK}(h:al X.K kd (zK fr g) σ H Q):zpf (spD X.K kd g) [] E (alA X.K kd fr) σ H Q:=by
 obtain⟨F,B,ad,as,r,as',R,e,q⟩:=h
 obtain⟨⟨p,as1⟩,h1,e⟩:=bS_ (show(fr as).bind _=_ from e)
 obtain⟨ds,h2,e⟩:=bS_ e
 obtain⟨o,h3,e⟩:=bS_ e
 cases e
 refine⟨F,B,ad,as,p,_,R,h1,λvs ad1 H1 R1 rv1 g1=>?_⟩
 show spD X.K kd g (vs++[]) H1 Q E
 rw[zyB]
 exact⟨_,ds,o,R1.trk true,znC R1 rv1 h2,h3,zqG R1 λw T' H' R' rv' g'=>q w T' ad1 H' R' rv' (g1.trans g')⟩
end
inductive Out where
 |nx (as:AS)|rt (o:O)|bk (as:AS)|ct (as:AS)
abbrev SF:=AS->Option Out
structure RetOk(K:zC)(kd:KD)(F:Addr->Prop)(T:List Addr)(H:Hp)(v:V)(o:O):Prop where
 nd:T.Nodup
 tr:∀a ∈ T,H a≠none
 ro:Ro (λ_ v d=>Rp K kd (Un2 F (· ∈ T)) H v d) (λa=>¬Un2 F (· ∈ T) a) H v o T
def zkA(K:zC)(kd:KD)(F B:Addr->Prop)(ad:Ad)(H:Hp)(D:Ends):Out->Prop
 | .nx as'=>∀σ' ad' H',Rel K kd F B [] ad' as' σ' H'->Grow (Gw [] ad) H (Gw [] ad') H'->D.nx σ' H'
 | .bk as'=>∀σ' ad' H',Rel K kd F B [] ad' as' σ' H'->Grow (Gw [] ad) H (Gw [] ad') H'->D.bk σ' H'
 | .ct as'=>∀σ' ad' H',Rel K kd F B [] ad' as' σ' H'->Grow (Gw [] ad) H (Gw [] ad') H'->D.ct σ' H'
 | .rt o=>∀v T H',RetOk K kd F T H' v o->Grow (Gw [] ad) H (· ∈ T) H'->D.rt v H'
def be(K:zC)(kd:KD)(f:SF):TS:=λD σ H=>∃F B ad as o,Rel K kd F B [] ad as σ H/\f as=some o/\zkA K kd F B ad H D o
@[irreducible] def ASt(X:Cx)(kd:KD)(st:Stmt)(f:SF):Prop:=PS X st (be X.K kd f)
@[irreducible] def ASs(X:Cx)(kd:KD)(st:List Stmt)(f:SF):Prop:=PSs X st (be X.K kd f)
theorem Zi{X:Cx}{e:Stmt}{t t':TS}(h:PS X e t)(k:∀D σ H,t' D σ H->t D σ H):PS X e t':=λpins s σ H D I q=>h pins s σ H D I (k D σ H q)
theorem zgX{X:Cx}{e:List Stmt}{t t':TS}(h:PSs X e t)(k:∀D σ H,t' D σ H->t D σ H):PSs X e t':=λpins s σ H D I q=>h pins s σ H D I (k D σ H q)
theorem zkA.pre{K:zC}{kd:KD}{F B:Addr->Prop}{ad ad1:Ad}{H H1:Hp}{D:Ends}{o:Out}(g:Grow (Gw [] ad) H (Gw [] ad1) H1)(h:zkA K kd F B ad H D o):zkA K kd F B ad1 H1 D o:=by
 cases o with
 |nx as=>exact λσ' ad' H' R g'=>h σ' ad' H' R (g.trans g')
 |bk as=>exact λσ' ad' H' R g'=>h σ' ad' H' R (g.trans g')
 |ct as=>exact λσ' ad' H' R g'=>h σ' ad' H' R (g.trans g')
 |rt r=>exact λv T H' R g'=>h v T H' R (g.trans g')
def sNx:SF:=λas=>some (.nx as)
def zE(f g:SF):SF:=λas=>(f as).bind λo=>match o with | .nx as'=>g as'|o=>some o
def sIf(c:TF)(f g:SF):SF:=λas=>(c as).bind λp=>if p.1=true then f p.2 else g p.2
def yQ(f:EF):SF:=λas=>(f as).bind λp=>some (.nx p.2)
def zmz(as:AS):RV->Option O
 | .ow o=>if o.str=true then some o else none
 | .bo i=>match as[i]? with
  |some (some o)=>if o.str=true then some o else none
  |_=>none
def yP(f:EF):SF:=λas=>(f as).bind λp=>(zmz p.2 p.1).bind λo=>some (.rt o)
def zO(z:Bool)(i:Nat)(f:EF):SF:=λas=>(f as).bind λp=>(toO p.2 (if z=true then p.1.frz else p.1)).bind λx=>if i<x.2.length then some (.nx (x.2.set i (some x.1)))else none
theorem Ro.strong{L:Bool->V->D->Prop}{N:Addr->Prop}{H:Hp}{v:V}{o:O}{fp:List Addr}(h:Ro L N H v o fp)(e:o.str=true):Ro (λst v d=>st=true/\L st v d) N H v o fp:=
 Ro.rec (motive_1:=λv o fp _=>o.str=true->Ro (λst v d=>st=true/\L st v d) N H v o fp) (motive_2:=λvs os fp _=>O.strs os=true->RoL (λst v d=>st=true/\L st v d) N H vs os fp)
  (λh e=>.lf ⟨e,h⟩) (λh _ r e=>.ls h (r e)) (λh l _ r e=>.dc h l (r e)) (λc h l _ r e=>.ob ⟨rfl,c⟩ h l (r e)) (λh l _ r e=>.dt h l (r e)) (λn h _ r e=>.tp n h (r e)) (λ_=>.nil) (λ_ _ h r e=>.cons (h ((zzZ _ _).mp e).1) (r ((zzZ _ _).mp e).2)) h e
section
variable{K:zC}{kd:KD}{F B:Addr->Prop}{T:List Addr}{ad ad1:Ad}{as as1:AS}{σ:St}{H H1:Hp}{v:V}{r:RV}{o:O}
theorem ziG{T':List Addr}(R:Rel K kd F B T ad as σ H)(hn:T'.Nodup)(hs:∀a ∈ T',Gw T ad a)(h:RoS K kd F B (Gw T ad) H v o T')(e:o.str=true):RetOk K kd F T' H v o:=by
 have le:∀a,Un2 F (· ∈ T') a->Lv F B (Gw T ad) true a:=λa z=>z.elim (λy=>.inl (.inl ⟨rfl,y⟩)) λy=>.inr (hs a y)
 exact⟨hn,λa m=>(R.gtr a (hs a m)).1,Ro.mono (λst v d r=>by obtain⟨rfl,r⟩:=r;exact r.less le) (λa vs n e=>⟨λz=>n (le a z),e⟩) (λ_ _ _ e=>e) (Ro.strong h e)⟩
theorem Rel.ret(R:Rel K kd F B T ad as σ H)(hr:v7 K kd F B T ad σ H v r)(e:zmz as r=some o):∃T',RetOk K kd F T' H v o/\∀b ∈ T',Gw T ad b:=by
 cases r with
 |ow o'=>
  obtain⟨hs,rfl⟩:=yg e
  exact⟨T,ziG R R.tnd (λa m=>.inl m) hr hs,λa m=>.inl m⟩
 |bo i=>
  have e:(match as[i]? with|some (some o)=>if o.str=true then some o else none|_=>none)=some o:=e
  cases k:as[i]? with
  |none=>rw[k]at e;cases e
  |some s=>
   cases s with
   |none=>rw[k]at e;cases e
   |some o1=>
    rw[k]at e
    obtain⟨hs,rfl⟩:=yg e
    obtain⟨w,hw,ro⟩:=R.sl i _ k
    rw[hr.2]at hw
    cases hw
    exact⟨ad i,ziG R (R.nd i) (λa m=>.inr ⟨i,m⟩) ro hs,λa m=>.inr ⟨i,m⟩⟩
end
section
variable{X:Cx}{kd:KD}{st:Stmt}{sts rest:List Stmt}{a b c e:Expr}{fa fb:EF}{ta:TF}{pos:Pos}{f g:SF}
theorem yF:ASs X kd [] sNx:=by with_unfolding_all exact(zgX zow λD σ H h=>by
 obtain⟨F,B,ad,as,o,R,e,q⟩:=h
 cases e
 exact q σ ad H R Grow.refl)
theorem zu(h1:ASt X kd st f)(h2:ASs X kd rest g):ASs X kd (st::rest) (zE f g):=by with_unfolding_all exact(zgX (ziB h1 h2) λD σ H h=>by
 obtain⟨F,B,ad,as,o,R,e,q⟩:=h
 obtain⟨o1,e1,e⟩:=bS_ (show(f as).bind _=_ from e)
 refine⟨F,B,ad,as,o1,R,e1, ?_⟩
 cases o1 with
 |nx as1=>exact λσ' ad' H' R' g'=>⟨F,B,ad',as1,o,R',e,q.pre g'⟩
 |bk as1=>cases e;exact q
 |ct as1=>cases e;exact q
 |rt r=>cases e;exact q)
theorem zg(h1:ASt X kd st f):ASs X kd [st] f:=by with_unfolding_all exact(zkk h1)
theorem xZ(hc:AT X kd c ta)(ha:ASs X kd sts f)(hb:ASs X kd rest g):ASt X kd (.If c sts rest pos) (sIf ta f g):=by with_unfolding_all exact(Zi (zrS hc ha hb) λD σ H h=>by
 obtain⟨F,B,ad,as,o,R,e,q⟩:=h
 obtain⟨⟨p,as1⟩,h1,e⟩:=bS_ (show(ta as).bind _=_ from e)
 refine⟨F,B,ad,as,p,as1,R,h1,λad' H' R' g=>?_⟩
 cases p with
 |true=>exact⟨F,B,ad',as1,o,R',e,q.pre g⟩
 |false=>exact⟨F,B,ad',as1,o,R',e,q.pre g⟩)
theorem wH(he:AE X kd e fa)(hs:swapsWith e none pos.line X.env=pure false):ASt X kd (.Expr e pos) (yQ fa):=by with_unfolding_all exact(Zi (zjX he hs) λD σ H h=>by
 obtain⟨F,B,ad,as,o,R,e,q⟩:=h
 obtain⟨⟨p,as1⟩,h1,e⟩:=bS_ (show(fa as).bind _=_ from e)
 cases e
 exact⟨F,B,ad,as,p,as1,R,h1,λv T' ad' H' R' rv g=>q σ ad' H' R'.drop (g.trans (Grow.less Gw.drop))⟩)
theorem ye(he:AE X kd e fa):ASt X kd (.Return (some e) pos) (yP fa):=by with_unfolding_all exact(Zi (zqD he) λD σ H h=>by
 obtain⟨F,B,ad,as,o,R,e,q⟩:=h
 obtain⟨⟨p,as1⟩,h1,e⟩:=bS_ (show(fa as).bind _=_ from e)
 obtain⟨r,h2,e⟩:=bS_ e
 cases e
 refine⟨F,B,ad,as,p,as1,R,h1,λv T' ad' H' R' rv g=>?_⟩
 obtain⟨T2,ro,le⟩:=R'.ret rv h2
 exact q v T2 H' ro (g.trans (Grow.less le)))
theorem zjk{K:zC}{F B:Addr->Prop}{T:List Addr}{ad:Ad}{as as2:AS}{σ:St}{H:Hp}{v:V}{r:RV}{z:Bool}{o:O}{i:Nat}(R:Rel K kd F B T ad as σ H)(rv:v7 K kd F B T ad σ H v r)
 (h2:toO as (if z=true then r.frz else r)=some (o,as2)) (hl:i<as2.length):∃ad',Rel K kd F B [] ad' (as2.set i (some o)) (σ.set i (some v)) H/\∀a,Gw [] ad' a->Gw T ad a:=by
 cases z with
 |true=>
  obtain⟨ad1,R1,ro,le⟩:=zeC R.drop (v7.drop R rv) h2
  exact⟨_,R1.put hl ro,λa y=>Gw.drop a (le a (Ws a y))⟩
 |false=>
  obtain⟨ad1,R1,ro,le⟩:=zeC R rv h2
  exact⟨_,R1.put hl ro,λa y=>le a (Ws a y)⟩
theorem zne{z:Bool}{i:Nat}{x:Str}{pos':Pos}(hN:X.N.Nodup)(hi:X.N[i]? = some x)(hx:Loc X.env.scope x)(he:AE X kd e fa)(hs:swapsWith e (some (.Name x pos')) pos.line X.env=pure false)(hf:X.fn x=true\/X.env.scope.names.lookup x=some .local):
 ASt X kd (.Assign [.Name x pos'] e pos) (zO z i fa):=by with_unfolding_all exact(Zi (zlr hN hi hx he hs hf) λD σ H h=>by
 obtain⟨F,B,ad,as,o,R,e,q⟩:=h
 obtain⟨⟨p,as1⟩,h1,e⟩:=bS_ (show(fa as).bind _=_ from e)
 obtain⟨⟨y,as2⟩,h2,e⟩:=bS_ e
 obtain⟨hl,e⟩:=yg e
 cases e
 refine⟨F,B,ad,as,p,as1,R,h1,λv T' ad' H' R' rv g=>?_⟩
 obtain⟨ad2,R2,le⟩:=zjk R' rv h2 hl
 exact q _ ad2 H' R2 (g.trans (Grow.less le)))
end
def zaY(n:Nat)(ds:List (Bool×D)):AS:=ds.map (λx=>some (.lf x.1 x.2))++List.replicate (n-ds.length) none
def ztd:Out->Option O
 | .nx _=>some (.lf true .non)
 | .rt o=>some o
 |_=>none
def fnR(n m:Nat)(f:SF)(ds:List (Bool×D)):Option O:=if ds.length=m then(f (zaY n ds)).bind ztd else none
theorem RpA.get{K:zC}{kd:KD}{F:Addr->Prop}{H:Hp}:∀{vs:List V}{ds:List (Bool×D)}{i:Nat}{x:Bool×D},RpA K kd F H vs ds->ds[i]? = some x->∃v,vs[i]? = some v/\Rp K kd (λa=>x.1=true/\F a) H v x.2
 |_,_,_,_,.nil,e=>by simp at e
 |_,_,0,_,.cons h _,e=>by simp at e;subst e;exact⟨_,rfl,h⟩
 |_,_,i+1,_,.cons _ r,e=>by
  obtain⟨v,h1,h2⟩:=RpA.get (i:=i) r (by simpa using e)
  exact⟨v,by simpa using h1,h2⟩
theorem zln{K:zC}{kd:KD}{F:Addr->Prop}{H:Hp}{N:List Str}{vs:List V}{ds:List (Bool×D)}(ht:∀a,F a->H a≠none)(rp:RpA K kd F H vs ds):
 Rel K kd F (λ_=>False) [] (λ_=>[]) (zaY N.length ds) (L2.start N vs) H:=by
 have hl:=rp.length
 have no:∀a,¬Gw [] (λ_=>[]) a:=λa z=>z.elim (λy=>nomatch y) λ⟨_,y⟩=>nomatch y
 refine⟨by unfold zaY L2.start;simp[hl],λ_ _=>rfl,λ_=>zyG,(λ_ _ _ z=>nomatch z),zyG,(λ_ _ _ z=>nomatch z),ht,(λ_ z=>z.elim),λa z=>(no a z).elim,λi s e=>?_⟩
 unfold zaY at e
 unfold L2.start
 by_cases hi:i<ds.length
 · rw[zyM (by rw[zD];exact hi),zzF]at e
   obtain⟨d,hd,ea⟩:=zzU.mp e
   subst ea
   obtain⟨v,hv,rv⟩:=rp.get hd
   rw[zyM (by rw[zD,hl];exact hi),zzF,hv]
   refine⟨v,rfl,.lf (rv.less λa z=>?_)⟩
   rcases z with(z|z)|z
   · exact z
   · exact z.elim
   · exact(no a z).elim
 · rw[zyO (by rw[zD];omega)]at e
   have:=zzX e
   have ea:s=none:=(List.mem_replicate.mp this).2
   subst ea
   rfl
section
variable{P:Program}{w:World}{K:zC}{mg:Str->Option Value}{base:Heap}
theorem zmG{kd:KD}{F:Addr->Prop}{H H':Hp}{Q:VK}{o:O}{v:V}{T:List Addr}(q:RQO K kd F H Q o)(ro:RetOk K kd F T H' v o)(g:Grow (Gw [] λ_=>[]) H (· ∈ T) H'):Q v H':=by
 have no:∀a,¬Gw [] (λ_=>[]) a:=λa z=>z.elim (λy=>nomatch y) λ⟨_,y⟩=>nomatch y
 exact q v T H' ro.nd (λa m=>(g.own a m).resolve_left (no a)) (λb u h=>g.keep b u h (no b)) ro.tr ro.ro
theorem wA{kd:KD}{x qual:Str}{st:Stmt}{f:Addr}{fd:FuncData}{N ps:List Str}{k:Nat}{c:SF}(Fn:Fun K x qual st f fd)(S:FnScope N ps (zj st))
 (hb:∀(cdv:Value) (A:Around) (outer:List Env) (s:Shared) (H:Hp) (E:XK),Room k (A.deeper (envOfC qual (zj st) s.heap.objs.size f cdv))->ASs (zjv CX0 P w K mg base N qual (zj st) f cdv A outer s H E).nox kd (V6 st) c):
 FnOk P w K mg base CX0 (k+1) f fd ps (spD K kd (fnR N.length ps.length c)):=by
 with_unfolding_all (
 refine Fn.ok S (λvs H Q E h=>?_) (λcdv A outer s H vs Q E hr h=>⟨_,hb cdv A outer s H E hr, ?_⟩)
 · obtain⟨F,ds,r,_,rp,e,_⟩:=h
   unfold fnR at e
   by_cases hl:ds.length=ps.length
   · rw[rp.length,hl]
   · rw[if_neg hl]at e;cases e
 · obtain⟨F,ds,r,ht,rp,e,q⟩:=h
   unfold fnR at e
   by_cases hl:ds.length=ps.length
   · rw[if_pos hl]at e
     obtain⟨o,e1,e⟩:=bS_ e
     refine⟨F,λ_=>False,λ_=>[],zaY N.length ds,o,zln ht rp,e1, ?_⟩
     cases o with
     |nx as=>cases e;exact λσ' ad' H' R g=>zmG q (T:=[]) ⟨zyG,(λ_ m=>nomatch m),.lf .non⟩ (g.trans (Grow.less (λ_ z=>nomatch z)))
     |rt o=>cases e;exact λv T H' ro g=>zmG q ro g
     |bk=>cases e
     |ct=>cases e
   · rw[if_neg hl]at e;cases e)
end
abbrev It1:=Bool×D
abbrev GF:=It1->AS->Option AS
abbrev GFs:=List It1->AS->Option AS
def kids(st:Bool)(ds:List D):List It1:=ds.map λd=>(yc d||st,d)
inductive RpI(K:zC)(kd:KD)(F B G:Addr->Prop)(H:Hp):List V->List It1->Prop
 |nil:RpI K kd F B G H [] []
 |cons {v:V}{x:It1}{vs:List V}{ds:List It1}:Rp K kd (Lv F B G x.1) H v x.2->RpI K kd F B G H vs ds->RpI K kd F B G H (v::vs) (x::ds)
def alG(K:zC)(kd:KD)(S:List Nat)(g:GF):TG:=λv σ H Q=>∃F B ad as x as',Rel K kd F B [] ad as σ H/\Rp K kd (Lv F B (Gw [] ad) x.1) H v x.2/\g x as=some as'/\
 ∀σ' ad' H',Rel K kd F B [] ad' as' σ' H'->Grow (Gw [] ad) H (Gw [] ad') H'->(∀j,j ∉ S->σ'[j]? = σ[j]?)->Q σ' H'
def ztz(K:zC)(kd:KD)(S:List Nat)(g:GFs):TGs:=λvs σ H Q=>∃F B ad as ds as',Rel K kd F B [] ad as σ H/\RpI K kd F B (Gw [] ad) H vs ds/\g ds as=some as'/\
 ∀σ' ad' H',Rel K kd F B [] ad' as' σ' H'->Grow (Gw [] ad) H (Gw [] ad') H'->(∀j,j ∉ S->σ'[j]? = σ[j]?)->Q σ' H'
@[irreducible] def AG(X:Cx)(kd:KD)(tg:Expr)(S:List Nat)(g:GF):Prop:=PG X tg (alG X.K kd S g)
@[irreducible] def AGs(X:Cx)(kd:KD)(tg:List Expr)(S:List Nat)(g:GFs):Prop:=PGs X tg (ztz X.K kd S g)
theorem zrf{X:Cx}{e:Expr}{t t':TG}(h:PG X e t)(k:∀v σ H Q,t' v σ H Q->t v σ H Q):PG X e t':=λpins s σ H v u Q I r q=>h pins s σ H v u Q I r (k v σ H Q q)
theorem zjZ{X:Cx}{e:List Expr}{t t':TGs}(h:PGs X e t)(k:∀v σ H Q,t' v σ H Q->t v σ H Q):PGs X e t':=λpins s σ H v u Q I r q=>h pins s σ H v u Q I r (k v σ H Q q)
def gN(i:Nat):GF:=λx as=>if i<as.length then some (as.set i (some (.lf x.1 x.2)))else none
def gsN:GFs:=λds as=>match ds with | []=>some as|_::_=>none
def gsC(g:GF)(gs:GFs):GFs:=λds as=>match ds with | []=>none|d::r=>(g d as).bind λas1=>gs r as1
def gT(n:Nat)(gs:GFs):GF:=λx as=>match x.2 with
 | .tup ds=>if ds.length=n then gs (kids x.1 ds) as else none
 | .lst ds=>if ds.length=n then gs (kids x.1 ds) as else none
 |_=>none
section
variable{K:zC}{kd:KD}{F B G G':Addr->Prop}{H H':Hp}
theorem RpI.length{vs:List V}{ds:List It1}(h:RpI K kd F B G H vs ds):vs.length=ds.length:=by
 induction h with
 |nil=>rfl
 |cons _ _ ih=>exact congrArg (· + 1) ih
theorem RpI.grow(g:Grow G H G' H'){vs:List V}{ds:List It1}(h:RpI K kd F B G H vs ds):RpI K kd F B G' H' vs ds:=by
 induction h with
 |nil=>exact .nil
 |cons h _ ih=>exact .cons (Rp.grow g h) ih
theorem RpI.get{vs:List V}{ds:List It1}{i:Nat}{x:It1}(h:RpI K kd F B G H vs ds)(e:ds[i]? = some x):∃v,vs[i]? = some v/\Rp K kd (Lv F B G x.1) H v x.2:=by
 induction h generalizing i with
 |nil=>simp at e
 |cons h r ih=>
  cases i with
  |zero=>simp at e;subst e;exact⟨_,rfl,h⟩
  |succ i=>
   obtain⟨v,h1,h2⟩:=ih (i:=i) (by simpa using e)
   exact⟨v,by simpa using h1,h2⟩
theorem zad{st:Bool}{vs:List V}{ds:List D}(h:RpL K kd (Lv F B G st) H vs ds):RpI K kd F B G H vs (kids st ds):=
 RpL.ind (P:=λvs ds=>RpI K kd F B G H vs (kids st ds)) .nil (λ{v d vs ds} h _ ih=>by
  refine .cons (x:=(yc d||st,d)) ?_ ih
  cases e:yc d with
  |true=>exact h.flat e
  |false=>exact h) h
end
section
variable{prog:Program}{w:World}{A:Around}{E:Value->Shared->Prop}{s:Shared}
theorem zfO{it l:Addr}{items:Array Value}(hne:l≠it):∀(n i:Nat) (s:Shared) (Q:List Value->Shared->Prop),s.heap.IsListIter it l i->s.heap.IsList l items->i+n<=items.size->
 (∀h',h'.IsListIter it l (i+n)->Heap.SameBut it s.heap h'->Q ((items.toList.drop i).take n) {s with heap:=h'})->wpAny (model prog w) A (draw (.ref it) n) Q E s
 |0,i,s,Q,hit,_,_,hQ=>by
  show wpAny _ _ (pure []) Q E s
  exact zxC (by simpa using hQ s.heap hit (Heap.SameBut.refl ..))
 |n+1,i,s,Q,hit,ht,hle,hQ=>by
  have hlt:i<items.size:=by omega
  show wpAny _ _ (pyNext (.ref it) >>= _) Q E s
  refine zxB (wpAny_pyNext_list_item hit ht (x:=items[i]) (by simp[hlt]) λh₁ hit₁ hs₁=>?_)
  refine zxB (zxH (zfO hne n (i+1) _ _ hit₁ (ht.extBut hs₁.extBut hne) (by omega) λh₂ hit₂ hs₂=>zxC ?_))
  have hd:items.toList.drop i=items[i]::items.toList.drop (i+1):=by simp[zyN,hlt]
  have:=hQ h₂ (by rw[show i+(n+1)=i+1+n by omega];exact hit₂) (hs₁.trans hs₂)
  rw[hd,List.take_succ_cons]at this
  exact this
theorem zhK{l:Addr}{items:Array Value}{targets:List (Bool×(Value->Sem Unit))}{Q:Unit->Shared->Prop}(hh:A.handled=none)(ht:s.heap.IsList l items)
 (hn:targets.length=items.size) (hstar:targets.findIdx? (·.1)=none)
 (h:∀h',Heap.ExtBut s.heap.objs.size s.heap h'->wpAny (model prog w) A (assignInOrder (targets.map (·.2)) items.toList) Q E {s with heap:=h'}):
 wpAny (model prog w) A (unpack (.ref l) targets) Q E s:=by
 unfold unpack
 rw[hn,hstar]
 refine zxB (zxH ?_)
 have hlt:l≠s.heap.objs.size:=by obtain⟨o,ho,_⟩:=ht;exact zzN (zxE ho)
 unfold unpackItems
 refine zxB ?_
 unfold notIterableAtAll
 refine zxB (wpAny_specialOf ht.typeIs PySem.F.slot_list_iter.lookup ?_)
 refine zxC ?_
 simp only[Bool.false_eq_true,if_false]
 refine zxB (zxH (wpAny_pyIter_list ht ?_))
 refine zxB (zxH (zfO hlt items.size 0 _ _ ⟨_,zxF _ rfl,rfl,rfl⟩ (ht.push _) (by omega) λh₁ hit₁ hs₁=>?_))
 have hall:List.take items.size (List.drop 0 items.toList)=items.toList:=by
  rw[List.drop_zero];exact List.take_of_length_le (by simp)
 rw[hall]
 rw[if_neg (by simp)]
 have ht₁:h₁.IsList l items:=(ht.push _).extBut hs₁.extBut hlt
 refine zxB (zxH (wpAny_pyNext_list_end hh hit₁ ht₁ (by simp) λh₂ he₂=>?_))
 simp only[Option.isSome_none,Bool.false_eq_true,if_false]
 exact zxC (h h₂ λb o hb e=>he₂ b o hb (hs₁.extBut b o hb (zxD _ e)))
end
section
variable{X:Cx}{kd:KD}{a b c e tg iter:Expr}{es:List Expr}{body:List Stmt}{fa fb:EF}{pos:Pos}{g:GF}{gs:GFs}{f:SF}{ta:TF}{S S1 S2:List Nat}
def zta(K:zC)(n:Nat)(t:TGs):TG:=λv σ H Q=>∃a xs,v = .ref a/\SqL K H a xs/\xs.length=n/\t xs σ H Q
theorem zmS{es:List Expr}{k:Nat}{t:TGs}{n:Nat}(hc:X.calm=true)(h:PGs X es t)(hn:(assignEach es X.env).length=n)(hst:(assignEach es X.env).findIdx? (·.1)=none):PG X (.Tuple es k pos) (zta X.K n t):=by
 intro pins s σ H v u Q I r hw
 obtain⟨a,xs,e1,hq,hl,hw⟩:=hw
 subst e1
 cases r
 obtain⟨its,rv,ht,hz⟩:=I.list hq
 rw[assign_Tuple]
 refine zxB (wpAny_standAt (zhK (I.ok.hd hc) ht.isList (by simp[hn,<-hl,rv.length]) hst λh' hx=>?_))
 have I1:Inv X pins σ H {s with heap:=h'}:=I.kept (t':=s.toks) λb o e=>hx b o (zzN (zxE e)) e
 exact h pins _ σ H xs _ Q I1 (by simpa using rv) hw
theorem zoK{i:Nat}{x:Str}(hN:X.N.Nodup)(hi:X.N[i]? = some x)(hx:Loc X.env.scope x)(hf:X.fn x=true\/X.env.scope.names.lookup x=some .local):AG X kd (.Name x pos) [i] (gN i):=by with_unfolding_all exact(zrf (zoG hN hi hx hf) λv σ H Q h=>by
 obtain⟨F,B,ad,as,y,as',R,rp,e,q⟩:=h
 obtain⟨hl,e⟩:=yg e
 cases e
 exact q _ _ H (R.put hl (o:=.lf y.1 y.2) (.lf rp)) (Grow.less Ws) λj hj=>zzV (λz=>hj (by rw[z];simp)))
theorem wO:AGs X kd [] [] gsN:=by with_unfolding_all exact(zjZ zoO λvs σ H Q h=>by
 obtain⟨F,B,ad,as,ds,as',R,rp,e,q⟩:=h
 cases rp with
 |nil=>cases e;exact⟨rfl,q σ ad H R Grow.refl λ_ _=>rfl⟩
 |cons=>cases e)
theorem zU(h1:AG X kd a S1 g)(h2:AGs X kd es S2 gs)(hs:(assignEach (a::es) X.env).map (·.2)=assign a X.env::(assignEach es X.env).map (·.2)):AGs X kd (a::es) (S1++S2) (gsC g gs):=by with_unfolding_all exact(zjZ (zmQ h1 h2 hs) λvs σ H Q h=>by
 obtain⟨F,B,ad,as,ds,as',R,rp,e,q⟩:=h
 cases rp with
 |nil=>cases e
 |cons r rr=>
  obtain⟨as1,e1,e⟩:=bS_ (show(g _ as).bind _=_ from e)
  refine⟨_,_,rfl,F,B,ad,as,_,as1,R,r,e1,λσ' ad' H' R' g' k'=>?_⟩
  exact⟨F,B,ad',as1,_,as',R',rr.grow g',e,λσ2 ad2 H2 R2 g2 k2=>q σ2 ad2 H2 R2 (g'.trans g2) λj hj=>(k2 j λz=>hj (zzI _ z)).trans (k' j λz=>hj (zzM _ z))⟩)
theorem vW{k n:Nat}(hc:X.calm=true)(h:AGs X kd es S gs)(hn:(assignEach es X.env).length=n)(hst:(assignEach es X.env).findIdx? (·.1)=none):AG X kd (.Tuple es k pos) S (gT n gs):=by
 with_unfolding_all (
 intro pins s σ H v u Q I r hw
 obtain⟨F,B,ad,as,⟨st,d⟩,as',R,rp,e,q⟩:=hw
 cases d with
 |tup ds=>
  have e:(if ds.length=n then gs (kids st ds) as else none)=some as':=e
  by_cases hl:ds.length=n
  · rw[if_pos hl]at e
    have go:∃a xs,v = .ref a/\SqT X.K H a xs/\RpL X.K kd (Lv F B (Gw [] ad) st) H xs ds:=by
     cases rp with
     |tup n h r=>exact⟨_,_,rfl,.inl (.inl h),r⟩
    obtain⟨a,xs,rfl,hs,rl⟩:=go
    exact zrs hc h hn hst pins s σ H _ u Q I r ⟨a,xs,rfl,hs,by rw[rl.length,hl],F,B,ad,as,_,as',R,zad rl,e,q⟩
  · rw[if_neg hl]at e;cases e
 |lst ds=>
  have e:(if ds.length=n then gs (kids st ds) as else none)=some as':=e
  by_cases hl:ds.length=n
  · rw[if_pos hl]at e
    cases rp with
    |lstK a b c r'=>exact zmS hc h hn hst pins s σ H _ u Q I r ⟨_,_,rfl,.inr ⟨_,_,_,a,rfl,rfl,rfl,b,c⟩,by rw[r'.length,hl],F,B,ad,as,_,as',R,zad r',e,q⟩
    |lst n h' r'=>exact zmS hc h hn hst pins s σ H _ u Q I r ⟨_,_,rfl,.inl h',by rw[r'.length,hl],F,B,ad,as,_,as',R,zad r',e,q⟩
  · rw[if_neg hl]at e;cases e
 |_=>cases e)
def zcu(as:AS)(r:RV):Option (It1×AS):=(toO as r.frz).bind λx=>match x.1 with | .lf st d=>some ((st,d),x.2)|_=>none
theorem zaj{K:zC}{F B:Addr->Prop}{T:List Addr}{ad:Ad}{as as':AS}{σ:St}{H:Hp}{v:V}{r:RV}{x:It1}(R:Rel K kd F B T ad as σ H)(h:v7 K kd F B T ad σ H v r)(e:zcu as r=some (x,as')):
 ∃ad',Rel K kd F B [] ad' as' σ H/\Rp K kd (Lv F B (Gw [] ad') x.1) H v x.2/\∀a,Gw [] ad' a->Gw T ad a:=by
 obtain⟨⟨o,as1⟩,h1,e⟩:=bS_ e
 obtain⟨ad1,R1,ro,le⟩:=zeC R.drop (v7.drop R h) h1
 cases o with
 |lf st d=>
  cases e
  refine⟨ad1,R1, ?_,λa y=>Gw.drop a (le a y)⟩
  have:=zeE ro
  exact this
 |nd k os=>cases e
def zjn(f:EF)(g:GF):SF:=λas=>(f as).bind λp=>(zcu p.2 p.1).bind λq=>(g q.1 q.2).bind λas'=>some (.nx as')
theorem zjt(he:AE X kd e fa)(hg:AG X kd tg S g)(hs:swapsWithSole [tg] e pos.line X.env=pure false)(hw:swappedStores [tg] e X.env=pure none)(h1:(assignEach [tg] X.env).map (·.2)=[assign tg X.env]):
 ASt X kd (.Assign [tg] e pos) (zjn fa g):=by with_unfolding_all exact(Zi (zhn he hg hs hw h1) λD σ H h=>by
 obtain⟨F,B,ad,as,o,R,e,q⟩:=h
 obtain⟨⟨p,as1⟩,h1,e⟩:=bS_ (show(fa as).bind _=_ from e)
 obtain⟨⟨x,as2⟩,h2,e⟩:=bS_ e
 obtain⟨as3,h3,e⟩:=bS_ e
 cases e
 refine⟨F,B,ad,as,p,as1,R,h1,λv T' ad' H' R' rv g1=>?_⟩
 obtain⟨ad2,R2,rp,le⟩:=zaj R' rv h2
 exact⟨F,B,ad2,as2,_,as3,R2,rp,h3,λσ' ad' H' R' g' _=>q σ' ad' H' R' ((g1.trans (Grow.less le)).trans g')⟩)
structure ItOk(K:zC)(kd:KD)(F B:Addr->Prop)(ad:Ad)(H:Hp)(J:It)(ds:List It1):Prop where
 all:∀(ad2:Ad) (H2:Hp),Grow (Gw [] ad) H (Gw [] ad2) H2->(∀st a,Lv F B (Gw [] ad2) st a->H2 a≠none)->∀i,(i<ds.length->J.go i H2)/\(ds.length<=i->J.stop i H2)/\
  ∀v H3,J.yld i H2 v H3->(∀b o,H2 b=some o->H3 b=some o)/\∀x,ds[i]? = some x->Rp K kd (Lv F B (Gw [] ad2) x.1) H3 v x.2
abbrev IF:=AS->Option (List It1×AS)
def alI(K:zC)(kd:KD)(f:IF):TI:=λσ H R=>∃F B ad as ds as',Rel K kd F B [] ad as σ H/\f as=some (ds,as')/\
 ∀J ad' H',Rel K kd F B [] ad' as' σ H'->Grow (Gw [] ad) H (Gw [] ad') H'->ItOk K kd F B ad' H' J ds->R J H'
@[irreducible] def AI(X:Cx)(kd:KD)(tg iter:Expr)(f:IF):Prop:=PI X tg iter (alI X.K kd f)
def forL(g:GF)(f:SF):List It1->AS->Option Out
 | [],as=>some (.nx as)
 |d::r,as=>(g d as).bind λas1=>(f as1).bind λo=>match o with
  | .nx as'=>forL g f r as'
  | .ct as'=>forL g f r as'
  | .bk as'=>some (.nx as')
  | .rt r=>some (.rt r)
def v4(fi:IF)(g:GF)(f:SF):SF:=λas=>(fi as).bind λp=>forL g f p.1 p.2
theorem wg{fi:IF}(hp:PassesOwn (model X.prog X.w) X.A X.env X.xe)(hc:X.calm=true)(hi:AI X kd tg iter fi)(hg:AG X kd tg S g)(hb:ASs X kd body f)(hs:∀x,foldedSetIterable iter X.env x=pure x):
 ASt X kd (.For tg iter body [] pos) (v4 fi g f):=by with_unfolding_all exact(Zi (zqS hp hc hi hg hb hs) λD σ H h=>by
 obtain⟨F,B,ad,as,o,R,e,q⟩:=h
 obtain⟨⟨ds,as1⟩,h1,e⟩:=bS_ (show(fi as).bind _=_ from e)
 refine⟨F,B,ad,as,ds,as1,R,h1,λJ ad1 H1 R1 g1 it=>?_⟩
 refine⟨λi m σ2 H2=>m+i=ds.length/\∃ad2 as2,Rel X.K kd F B [] ad2 as2 σ2 H2/\Grow (Gw [] ad1) H1 (Gw [] ad2) H2/\forL g f (ds.drop i) as2=some o,⟨ds.length,rfl,ad1,as1,R1,Grow.refl,e⟩, ?_⟩
 rintro i m σ2 H2 ⟨hm,ad2,as2,R2,g2,e2⟩
 obtain⟨k1,k2,k3⟩:=it.all ad2 H2 g2 R2.trk i
 by_cases hi:i<ds.length
 · refine .inr ⟨k1 hi,λσ3 H3=>∃ad3 as3,Rel X.K kd F B [] ad3 as3 σ3 H3/\Grow (Gw [] ad1) H1 (Gw [] ad3) H3/\forL g f (ds.drop (i+1)) as3=some o,λσ3 H3 ⟨ad3,as3,R3,g3,e3⟩=>⟨m-1,by omega,by omega,ad3,as3,R3,g3,e3⟩,λv H3 hy=>?_⟩
   obtain⟨kp,rp⟩:=k3 v H3 hy
   rw[zyN hi]at e2
   obtain⟨as3,e3,e2⟩:=bS_ (show(g _ as2).bind _=_ from e2)
   obtain⟨o3,e4,e2⟩:=bS_ e2
   obtain⟨R3,g3⟩:=R2.more kp
   refine⟨F,B,ad2,as2,_,as3,R3,rp _ (zzB hi),e3,λσ4 ad4 H4 R4 g4 _=>?_⟩
   refine⟨F,B,ad4,as3,o3,R4,e4, ?_⟩
   have gg:=(g2.trans g3).trans g4
   cases o3 with
   |nx as5=>exact λσ5 ad5 H5 R5 g5=>⟨ad5,as5,R5,gg.trans g5,e2⟩
   |ct as5=>exact λσ5 ad5 H5 R5 g5=>⟨ad5,as5,R5,gg.trans g5,e2⟩
   |bk as5=>
    cases e2
    exact λσ5 ad5 H5 R5 g5=>q σ5 ad5 H5 R5 (g1.trans (gg.trans g5))
   |rt r=>
    cases e2
    exact λv T H5 ro g5=>q v T H5 ro (g1.trans (gg.trans g5))
 · refine .inl ⟨k2 (by omega), ?_⟩
   rw[List.drop_eq_nil_of_le (by omega)]at e2
   cases e2
   exact q σ2 ad2 H2 R2 (g1.trans g2))
def whL(c:TF)(f:SF):Nat->AS->Option Out
 |0,_=>none
 |n+1,as=>(c as).bind λp=>if p.1=true then(f p.2).bind λo=>match o with
  | .nx as'=>whL c f n as'
  | .ct as'=>whL c f n as'
  | .bk as'=>some (.nx as')
  | .rt r=>some (.rt r)else some (.nx p.2)
theorem zhs{n:Nat}(hp:PassesOwn (model X.prog X.w) X.A X.env X.xe)(hc:AT X kd c ta)(hb:ASs X kd body f):ASt X kd (.While c body [] pos) (whL ta f n):=by with_unfolding_all exact(Zi (znf hp hc hb) λD σ H h=>by
 obtain⟨F,B,ad,as,o,R,e,q⟩:=h
 refine⟨λm σ2 H2=>∃ad2 as2,Rel X.K kd F B [] ad2 as2 σ2 H2/\Grow (Gw [] ad) H (Gw [] ad2) H2/\whL ta f m as2=some o,⟨n,ad,as,R,Grow.refl,e⟩, ?_⟩
 rintro m σ2 H2 ⟨ad2,as2,R2,g2,e2⟩
 cases m with
 |zero=>cases e2
 |succ m=>
  obtain⟨⟨p,as3⟩,e3,e2⟩:=bS_ (show(ta as2).bind _=_ from e2)
  refine⟨F,B,ad2,as2,p,as3,R2,e3,λad3 H3 R3 g3=>?_⟩
  cases p with
  |true=>
   rw[if_pos rfl]at e2 ⊢
   obtain⟨o3,e4,e2⟩:=bS_ e2
   refine⟨λσ3 H3=>∃ad3 as3,Rel X.K kd F B [] ad3 as3 σ3 H3/\Grow (Gw [] ad) H (Gw [] ad3) H3/\whL ta f m as3=some o,λσ3 H3 h=>⟨m,by omega,h⟩,F,B,ad3,as3,o3,R3,e4, ?_⟩
   have gg:=g2.trans g3
   cases o3 with
   |nx as5=>exact λσ5 ad5 H5 R5 g5=>⟨ad5,as5,R5,gg.trans g5,e2⟩
   |ct as5=>exact λσ5 ad5 H5 R5 g5=>⟨ad5,as5,R5,gg.trans g5,e2⟩
   |bk as5=>
    cases e2
    exact λσ5 ad5 H5 R5 g5=>q σ5 ad5 H5 R5 (gg.trans g5)
   |rt r=>
    cases e2
    exact λv T H5 ro g5=>q v T H5 ro (gg.trans g5)
  |false=>
   rw[if_neg zyS]at e2 ⊢
   cases e2
   exact q σ2 ad3 H3 R3 (g2.trans g3))
def zhR:It1->Option (List It1)
 |(st,.lst ds)=>some (kids st ds)
 |(st,.tup ds)=>some (kids st ds)
 |_=>none
def Wo(f:EF):IF:=λas=>(f as).bind λp=>(zcu p.2 p.1).bind λq=>(zhR q.1).bind λds=>some (ds,q.2)
theorem zjF{K:zC}{F B:Addr->Prop}{ad:Ad}{H:Hp}{a:Addr}{vs:List V}{ds:List It1}(hs:∀(ad3:Ad) (H3:Hp),Grow (Gw [] ad) H (Gw [] ad3) H3->SqL K H3 a vs)(r:RpI K kd F B (Gw [] ad) H vs ds):ItOk K kd F B ad H (Itl K a) ds:=⟨λad3 H3 g3 _ i=>by
 have hr3:=hs ad3 H3 g3
 have rl3:=r.grow g3
 refine⟨λhi=>?_,λhi=>⟨_,hr3,by rw[r.length];exact hi⟩,λv H4 hy=>?_⟩
 · obtain⟨u,hu,_⟩:=r.get (zzB hi)
   exact⟨_,u,hr3,hu⟩
 · obtain⟨rfl,hv⟩:=hy
   refine⟨λ_ _ z=>z,λd hd=>?_⟩
   obtain⟨u,hu,ru⟩:=rl3.get hd
   have:=hv _ hr3
   rw[hu]at this
   cases this
   exact ru⟩
theorem zqU{K:zC}{F B:Addr->Prop}{ad:Ad}{H:Hp}{a:Addr}{vs:List V}{ds:List It1}(hs:∀(ad3:Ad) (H3:Hp),Grow (Gw [] ad) H (Gw [] ad3) H3->SqT K H3 a vs)(r:RpI K kd F B (Gw [] ad) H vs ds):ItOk K kd F B ad H (Itt K a) ds:=⟨λad3 H3 g3 _ i=>by
 have hr3:=hs ad3 H3 g3
 have rl3:=r.grow g3
 refine⟨λhi=>?_,λhi=>⟨_,hr3,by rw[r.length];exact hi⟩,λv H4 hy=>?_⟩
 · obtain⟨u,hu,_⟩:=r.get (zzB hi)
   exact⟨_,u,hr3,hu⟩
 · obtain⟨rfl,hv⟩:=hy
   refine⟨λ_ _ z=>z,λd hd=>?_⟩
   obtain⟨u,hu,ru⟩:=rl3.get hd
   have:=hv _ hr3
   rw[hu]at this
   cases this
   exact ru⟩
theorem Xp(he:AE X kd e fa):AI X kd tg e (Wo fa):=by
 with_unfolding_all (
 intro pins s σ H R I h
 obtain⟨F,B,ad,as,ds,as',Rl,e,q⟩:=h
 obtain⟨⟨p,as1⟩,h1,e⟩:=bS_ (show(fa as).bind _=_ from e)
 obtain⟨⟨⟨st,x⟩,as2⟩,h2,e⟩:=bS_ e
 obtain⟨ys,h3,e⟩:=bS_ e
 cases e
 cases x with
 |lst xs=>
  cases h3
  refine zha he pins s σ H R I ⟨F,B,ad,as,p,as1,Rl,h1,λv T1 ad1 H1 R1 rv1 g1=>?_⟩
  obtain⟨ad2,R2,rp,le⟩:=zaj R1 rv1 h2
  cases rp with
  |lst hn hr rl=>exact⟨_,rfl,⟨_,.inl hr⟩,q _ ad2 H1 R2 (g1.trans (Grow.less le)) (zjF (λad3 H3 g3=>.inl (zbu g3 (λz=>hn (.inr z)) hr)) (zad rl))⟩
  |lstK a b c rl=>exact⟨_,rfl,⟨_,.inr ⟨_,_,_,a,rfl,rfl,rfl,b,c⟩⟩,q _ ad2 H1 R2 (g1.trans (Grow.less le)) (zjF (λad3 H3 g3=>.inr ⟨_,_,_,a,rfl,rfl,rfl,b,c⟩) (zad rl))⟩
 |tup xs=>
  cases h3
  refine ziM he pins s σ H R I ⟨F,B,ad,as,p,as1,Rl,h1,λv T1 ad1 H1 R1 rv1 g1=>?_⟩
  obtain⟨ad2,R2,rp,le⟩:=zaj R1 rv1 h2
  have go:∃a ys,v = .ref a/\(∀(ad3:Ad) (H3:Hp),Grow (Gw [] ad2) H1 (Gw [] ad3) H3->SqT X.K H3 a ys)/\RpL X.K kd (Lv F B (Gw [] ad2) st) H1 ys xs:=by
   cases rp with
   |tup n h r=>exact⟨_,_,rfl,λad3 H3 g3=>.inl (zbu g3 (λz=>n (.inr z)) (.inl h)),r⟩
  obtain⟨a,ys,rfl,hs,rl⟩:=go
  exact⟨_,rfl,⟨_,hs ad2 H1 Grow.refl⟩,q _ ad2 H1 R2 (g1.trans (Grow.less le)) (zqU hs (zad rl))⟩
 |_=>cases h3)
def vg(lo:Int)(n:Nat):List It1:=(List.range n).map λ(i:Nat)=>(true,D.int (lo+(i:Int)))
theorem zrg{K:zC}{F B:Addr->Prop}{ad:Ad}{H:Hp}(lo:Int)(n:Nat):ItOk K kd F B ad H (Itr lo n) (vg lo n):=⟨λad2 H2 g _ i=>by
 have hl:(vg lo n).length=n:=by unfold vg;simp
 refine⟨λhi=>by rw[hl]at hi;exact hi,λhi=>by rw[hl]at hi;exact hi,λv H3 hy=>?_⟩
 obtain⟨rfl,rfl⟩:=hy
 refine⟨λ_ _ z=>z,λd hd=>?_⟩
 have hi:i<n:=by rw[<-hl];exact(zzD.mp hd).1
 unfold vg at hd
 rw[zzF,List.getElem?_range hi]at hd
 cases hd
 exact .int _⟩
def zrY:List D->Option D
 | [x]=>some x
 |_=>none
theorem zot{ds:List D}{d:D}(h:zrY ds=some d):ds=[d]:=by
 cases ds with
 |nil=>cases h
 |cons x r=>
  cases r with
  |nil=>cases h;rfl
  |cons _ _=>cases h
def yV(ds:List D):Option (List It1):=((zrY ds).bind asI).bind λj=>if -(2 ^ 62)<=j/\j<2 ^ 62 then some (vg 0 j.toNat)else none
theorem zkx{ds:List D}{xs:List It1}(h:yV ds=some xs):∃j,ds=[.int j]/\(if -(2 ^ 62)<=j/\j<2 ^ 62 then some (vg 0 j.toNat)else none)=some xs:=by
 obtain⟨j,h1,h⟩:=bS_ h
 obtain⟨d,h2,h1⟩:=bS_ h1
 cases zhk h1
 exact⟨j,zot h2,h⟩
def yU(fr:AF)(h:List D->Option (List It1)):IF:=λas=>(fr as).bind λp=>(views p.2 p.1).bind λds=>(h ds.1).bind λxs=>some (xs,p.2)
theorem wR{fr:AF}{p:Pos}(hg:Gl X "range")(hm:X.mg "range"=none)(ha:AA X kd [a] fr)(hs:starEach [a] X.env=[(false,eval a X.env)]):AI X kd tg (.Call (.Name "range" p) [a] [] pos) (yU fr yV):=by
 with_unfolding_all (
 intro pins s σ H R I h
 obtain⟨F,B,ad,as,ds,as',Rl,e,q⟩:=h
 obtain⟨⟨ps,as1⟩,h1,e⟩:=bS_ (show(fr as).bind _=_ from e)
 obtain⟨⟨xs,lv⟩,h2,e⟩:=bS_ e
 obtain⟨ys,h3,e⟩:=bS_ e
 cases e
 obtain⟨j,rfl,h3⟩:=zkx h3
 · obtain⟨hj,e3⟩:=yg h3
   cases e3
   refine zfW hg hm ha hs pins s σ H R I ⟨F,B,ad,as,ps,_,Rl,h1,λvs ad1 H1 R1 rv1 g1=>?_⟩
   have vl:=zbX R1 rv1 h2
   cases vl with
   |cons v1 v2=>
    cases v2
    cases v1
    exact⟨j,rfl,hj.1,hj.2,q _ ad1 H1 R1 g1 (zrg 0 _)⟩)
theorem Rel.mut{K:zC}{F B:Addr->Prop}{T fo:List Addr}{ad:Ad}{as:AS}{σ:St}{H:Hp}{i:Nat}{l:Addr}{fp fp':List Addr}{n:O}{u:HO}(R:Rel K kd F B T ad as σ H)(hi:i<as.length)(hl:ad i=l::fp)(hs:σ[i]? = some (some (.ref l)))
 (hsub:∀a ∈ fp'++fo,a ∈ fp++T) (hnd:(fp'++fo).Nodup) (hu:H l≠none)
 (ro:∀(H':Hp) (G':Addr->Prop),H' l=some u->Grow (Gw T ad) H G' H'->(∀a ∈ fp',∀w,H a=some w->H' a=some w)->RoS K kd F B G' H' (.ref l) n (l::fp')):
 Rel K kd F B fo (Yc ad i (l::fp')) (as.set i (some n)) σ (upd H l u)/\Grow (Gw T ad) H (Gw fo (Yc ad i (l::fp'))) (upd H l u):=by
 have hli:l ∈ ad i:=by rw[hl];exact zzC
 have lT:l ∉ T:=R.dis i l hli
 have lfp:l ∉ fp:=by have:=R.nd i;rw[hl]at this;exact(zzT.mp this).1
 have lsub:∀a ∈ fp'++fo,a≠l:=λa m e=>by
  subst e
  rcases zzJ.mp (hsub _ m)with z|z
  · exact lfp z
  · exact lT z
 have sub:∀a ∈ fp'++fo,Gw T ad a:=λa m=>by
  rcases zzJ.mp (hsub a m)with z|z
  · exact .inr ⟨i,by rw[hl];exact zzA _ z⟩
  · exact .inl z
 have gsub:∀a,Gw fo (Yc ad i (l::fp')) a->Gw T ad a:=λa z=>by
  rcases z with z|⟨j,z⟩
  · exact sub a (zzI _ z)
  · by_cases e:j=i
    · subst e
      rw[yj]at z
      rcases zI.mp z with z|z
      · subst z;exact .inr ⟨j,hli⟩
      · exact sub a (zzM _ z)
    · rw[yp e]at z;exact .inr ⟨j,z⟩
 have g:Grow (Gw T ad) H (Gw fo (Yc ad i (l::fp'))) (upd H l u):=⟨λb w h n=>by rw[zV (λe=>n (by subst e;exact .inr ⟨i,hli⟩))];exact h,λb z=>.inl (gsub b z)⟩
 have kn:∀a,H a≠none->upd H l u a≠none:=λa z=>by
  by_cases e:a=l
  · subst e;rw[yC];simp
  · rw[zV e];exact z
 obtain⟨hnd1,hnd2,hnd3⟩:=zxA.mp hnd
 have inT:∀j a,j≠i->a ∈ ad j->a ∈ fp'++fo->False:=λj a hj m m'=>by
  rcases zzJ.mp (hsub a m')with z|z
  · exact hj (R.inj j i a m (by rw[hl];exact zzA _ z))
  · exact R.dis j a m z
 refine⟨⟨by rw[zzR];exact R.len,λj hj=>?_,λj=>?_,λj k a h1 h2=>?_,hnd2,λj a h1 h2=>?_,λa z=>kn a (R.ftr a z),λa z=>?_,λa z=>⟨kn a (R.gtr a (gsub a z)).1,(R.gtr a (gsub a z)).2⟩,λj s e=>?_⟩,g⟩
 · rw[zzR]at hj
   rw[yp (by omega)];exact R.out j hj
 · by_cases e:j=i
   · subst e;rw[yj]
     exact zzT.mpr ⟨λm=>lsub l (zzM _ m) rfl,hnd1⟩
   · rw[yp e];exact R.nd j
 · by_cases e:j=i
   · subst e
     by_cases e':k=j
     · exact e'.symm
     · rw[yj]at h1
       rw[yp e']at h2
       rcases zI.mp h1 with z|z
       · subst z;exact R.inj j k a hli h2
       · exact(inT k a e' h2 (zzM _ z)).elim
   · rw[yp e]at h1
     by_cases e':k=i
     · subst e'
       rw[yj]at h2
       rcases zI.mp h2 with z|z
       · subst z;exact R.inj j k a h1 hli
       · exact(inT j a e h1 (zzM _ z)).elim
     · rw[yp e']at h2
       exact R.inj j k a h1 h2
 · by_cases e:j=i
   · subst e
     rw[yj]at h1
     rcases zI.mp h1 with z|z
     · subst z;exact lsub a (zzI _ h2) rfl
     · exact hnd3 a z a h2 rfl
   · rw[yp e]at h1
     exact inT j a e h1 (zzI _ h2)
 · obtain⟨b1,b2,b3⟩:=R.btr a z
   exact⟨kn a b1,b2,λy=>b3 (gsub a y)⟩
 · by_cases q:j=i
   · subst q
     rw[zyH hi]at e
     cases e
     rw[yj]
     refine⟨_,hs,ro _ _ yC g λa m w h=>?_⟩
     rw[zV (lsub a (zzM _ m))];exact h
   · rw[zzV (Ne.symm q)]at e
     rw[yp q]
     refine(R.sl j s e).grow g λa m w h=>?_
     rw[zV (λz=>q (R.inj j i l (by rw[<-z];exact m) hli))];exact h
abbrev MG:=List O->List O->Option (List O×O)
def xQ(i:Nat)(fr:DF)(g:MG):EF:=λas=>match as[i]? with
 |some (some (.nd .ls _))=>(fr as).bind λp=>match p.2[i]? with
  |some (some (.nd .ls os))=>(g os p.1).bind λz=>some (.ow z.2,p.2.set i (some (.nd .ls z.1)))
  |_=>none
 |_=>none
def MuD(X:Cx)(kd:KD)(r:V->List V->Hp->VK->Prop)(g:MG):Prop:=
 ∀(F B G:Addr->Prop) (l:Addr) (vs ws:List V) (os es os':List O) (o:O) (fp fq:List Addr) (H:Hp) (Q:VK),H l=some (.lst vs)->vU X.K kd F B G H vs os fp->vU X.K kd F B G H ws es fq->(fp++fq).Nodup->g os es=some (os',o)->
  (∀v vs' fp' fo,vU X.K kd F B G H vs' os' fp'->RoS X.K kd F B G H v o fo->(∀a ∈ fp'++fo,a ∈ fp++fq)->(fp'++fo).Nodup->Q v (upd H l (.lst vs')))->r (.ref l) ws H Q
theorem zsf{i:Nat}{fr:DF}{g:MG}{r:V->List V->Hp->VK->Prop}(hr:MuD X kd r g)
 {σ:St}{H:Hp}{Q:VK}(h:al X.K kd (xQ i fr g) σ H Q):tBM X.K "list" r (Xy i) (alD X.K kd fr) σ H Q:=by
 obtain⟨F,B,ad,as,z,as',R,e,q⟩:=h
 unfold xQ at e
 cases k:as[i]? with
 |none=>rw[k]at e;cases e
 |some a0=>
  rw[k]at e
  match a0,e,k with
  |some (.nd .ls os0),e,k=>
   obtain⟨⟨es,as1⟩,h1,e⟩:=bS_ (show(fr as).bind _=_ from e)
   obtain⟨v0,hs0,ro0⟩:=R.sl i _ k
   generalize hfp0:ad i=fp0 at ro0
   cases ro0 with
   |ls hH0 rl0=>
   rename_i l vs0 fp00
   refine⟨_,hs0,.inl ⟨rfl,_,.inl (.inl hH0)⟩,F,B,ad,as,es,as1,R,h1,λws T1 ad1 H1 R1 ro1 g1=>?_⟩
   cases k2:as1[i]? with
   |none=>rw[k2]at e;cases e
   |some a2=>
    rw[k2]at e
    match a2,e,k2 with
    |some (.nd .ls os),e,k2=>
     obtain⟨⟨os',o⟩,h3,e⟩:=bS_ (show(g os es).bind _=_ from e)
     cases e
     obtain⟨v1,hs1,ro2⟩:=R1.sl i _ k2
     rw[hs0]at hs1
     cases hs1
     generalize hfp:ad1 i=fp1 at ro2
     cases ro2 with
     |ls hH rl=>
     rename_i vs fp
     have hnd:(fp++T1).Nodup:=zxA.mpr ⟨by have:=R1.nd i;rw[hfp]at this;exact(zzT.mp this).2,R1.tnd,λa m b m' e=>by
          subst e;exact R1.dis i a (by rw[hfp];exact zzA _ m) m'⟩
     refine hr F B (Gw T1 ad1) _ vs ws os es os' o fp T1 H1 Q hH rl ro1 hnd h3 λv vs' fp' fo rl' ro' hsub hnd'=>?_
     obtain⟨R3,g3⟩:=R1.mut (n:=.nd .ls os') (u:=.lst vs') (zzD.mp k2).1 hfp hs0 hsub hnd' (by rw[hH];simp) λH' G' hl' gr kp=>.ls hl' (vU.grow gr kp rl')
     have lno:∀a ∈ fo,∀w,H1 a=some w->upd H1 l (.lst vs') a=some w:=λa m w h=>by
          rw[zV (λe=>?_)]
          · exact h
          · subst e
            rcases zzJ.mp (hsub _ (zzI _ m))with z|z
            · have:=R1.nd i;rw[hfp]at this;exact(zzT.mp this).1 z
            · exact R1.dis i _ (by rw[hfp];exact zzC) z
     exact q v fo _ _ R3 (RoS.grow g3 lno ro') (g1.trans g3)
end
end PF
end
section
set_option exponentiation.threshold 5000
namespace PF
open PySem PySem.Spec PyProof.Rows L2
section
variable{K:zC}{kd:KD}{O:Addr->Prop}{H:Hp}{Q:VK}
theorem yN{d:D}{v:V}(q:RQ K kd O H Q (.im d))(r:Rp K kd O H v d):Q v H:=q v H (λ_ _ z=>z) r
theorem zkf{vs:List V}{ds:List D}{p:Addr}{o:HO}(hp:H p=none)(r:RpL K kd O H vs ds):RpL K kd (Un2 O (· = p)) (upd H p o) vs ds:=
 RpL.grow (F:=O) (W:=λ_=>False) ⟨λb u q _=>by rw[zV (yM q hp)];exact q,λb z=>.inr (by rw[z];exact hp)⟩ (r.less λa z=>z.elim id False.elim)
theorem Zo{p:Addr}{o:HO}(hp:H p=none):∀b u,H b=some u->upd H p o b=some u:=λb u q=>by rw[zV (yM q hp)];exact q
theorem zca{vs:List V}{ds:List D}(q:RQ K kd O H Q (.fl ds))(r:RpL K kd O H vs ds):∀p,H p=none->Q (.ref p) (upd H p (.lst vs)):=λp hp=>
 q p vs _ hp (Zo hp) yC (zkf hp r)
theorem zgm{vs:List V}{ds:List D}(ht:∀a,O a->H a≠none)(q:RQ K kd O H Q (.im (.tup ds)))(r:RpL K kd O H vs ds):∀p,H p=none->Q (.ref p) (upd H p (.tup vs)):=λp hp=>
 q _ _ (Zo hp) (.tup (λz=>ht p z hp) yC ((zkf hp r).less λa z=>.inl z))
end
def big:Nat:=2 ^ 4000
theorem zhD{i:Int}(h:i.natAbs<big):Builtin.Int.intBits i<=2 ^ 20:=by
 unfold Builtin.Int.intBits
 split
 · exact Nat.zero_le _
 · have:i.natAbs.log2<4000:=by
    rcases Nat.eq_zero_or_pos i.natAbs with h0|hp
    · rw[h0];decide
    · exact(Nat.log2_lt (Nat.ne_of_gt hp)).mpr h
   have e:(2:Nat) ^ 20=1048576:=by decide
   omega
def onI(f:Int->Int->Option R0)(x y:D):Option R0:=(asI x).bind λi=>(asI y).bind λj=>f i j
def ztu(x y:D):Option R0:=match x with
 | .int i=>(asI y).bind λj=>some (.im (.int (i+j)))
 | .str x=>(asS y).bind λy=>if x.length+y.length<=sizeLine then some (.im (.str (x++y)))else none
 | .lst xs=>(asL y).bind λys=>if xs.length+ys.length<=sizeLine then some (.fl (xs++ys))else none
 | .tup xs=>(asT y).bind λys=>if xs.length+ys.length<=sizeLine then some (.im (.tup (xs++ys)))else none
 |_=>none
def zsL(x y:D):Option R0:=match x with
 | .int i=>(asI y).bind λj=>if i.natAbs<big/\j.natAbs<big then some (.im (.int (i*j)))else none
 | .lst xs=>(asI y).bind λk=>if -(2 ^ 63)<=k/\k<2 ^ 63/\xs.length*k.toNat<=sizeLine then some (.fl (List.replicate k.toNat xs).flatten)else none
 | .tup xs=>(asI y).bind λk=>if 1<=k/\k<2 ^ 63/\xs.length≠0/\xs.length*k.toNat<=sizeLine then some (.im (.tup (List.replicate k.toNat xs).flatten))else none
 |_=>none
def zam(o:Operator)(x y:D):Option R0:=match o with
 | .Add=>ztu x y
 | .Sub=>onI (λi j=>some (.im (.int (i-j)))) x y
 | .Mult=>zsL x y
 | .FloorDiv=>onI (λi j=>if 0<j/\j.natAbs<big then some (.im (.int (i/j)))else none) x y
 | .Mod=>onI (λi j=>if 0<j then some (.im (.int (i%j)))else none) x y
 | .Pow=>onI (λi j=>if 0<=j/\j<=1000000/\i.natAbs<2 ^ 64 then some (.im (.int (i ^ j.toNat)))else none) x y
 |_=>none
theorem X8{K:zC}{kd:KD}{O:Addr->Prop}{H:Hp}{v:V}{d:D}{i:Int}(h:Vw K kd O H v d)(e:asI d=some i):d = .int i/\v = .int i:=by
 cases h with
 |int j=>cases e;exact⟨rfl,rfl⟩
 |_=>cases e
theorem zpD{K:zC}{kd:KD}{O:Addr->Prop}{H:Hp}{v:V}{d:D}{i:Str}(h:Vw K kd O H v d)(e:asS d=some i):d = .str i/\v = .str i:=by
 cases h with
 |str j=>cases e;exact⟨rfl,rfl⟩
 |_=>cases e
theorem X7{K:zC}{kd:KD}{O:Addr->Prop}{H:Hp}{v w:V}{d e:D}{f:Int->Int->Option R0}{r:R0}(vx:Vw K kd O H v d)(vy:Vw K kd O H w e)(h:onI f d e=some r):∃i j,v = .int i/\w = .int j/\f i j=some r:=by
 obtain⟨i,h1,h⟩:=bS_ (show(asI d).bind _=_ from h)
 obtain⟨j,h2,h⟩:=bS_ h
 exact⟨i,j,(X8 vx h1).2,(X8 vy h2).2,h⟩
section
variable{X:Cx}{kd:KD}
theorem zkw:OpR X (binaryOp .Add) (λx y H Q=>∃l b xs zs,x = .ref l/\y = .ref b/\RdL X.K H l xs/\RdL X.K H b zs/\xs.length+zs.length<=sizeLine/\∀p,H p=none->Q (.ref p) (upd H p (.lst (xs++zs)))):=by
 intro pins s σ H x y v u Q I rx ry h
 obtain⟨l,b,xs,zs,rfl,rfl,hH,hB,hz,q⟩:=h
 cases rx
 cases ry
 obtain⟨z,its,n,r,e⟩:=ziJ I hH
 obtain⟨z2,its2,n2,r2,e2⟩:=ziJ I hB
 have hl:=r.length
 have hl2:=r2.length
 refine PySem.P.add_list e e2 ?_ (by rw[zzE,zzE];omega)
 have ea:its.toArray++its2.toArray=(its++its2).toArray:=by simp
 rw[ea]
 exact⟨.ref _,_,I.lnew (t':=s.toks) (r.append r2) (by rw[zzG];omega),rfl,q _ I.fresh⟩
theorem zob:OpR X (binaryOp .Mult) (λx y H Q=>∃l k xs,x = .ref l/\y = .int k/\RdL X.K H l xs /\ -(2 ^ 63)<=k/\k<2 ^ 63/\xs.length*k.toNat<=sizeLine/\
 ∀p,H p=none->Q (.ref p) (upd H p (.lst (List.replicate k.toNat xs).flatten))):=by
 intro pins s σ H x y v u Q I rx ry h
 obtain⟨l,k,xs,rfl,rfl,hH,h1,h2,hz,q⟩:=h
 cases rx
 obtain⟨t,rfl⟩:=ry
 obtain⟨z,its,n,r,e⟩:=ziJ I hH
 have hl:=r.length
 have hlen:its.toArray.size*k.toNat<=sizeLine:=by rw[zzE,<-hl];exact hz
 have hcap:¬its.toArray.size*k.toNat > (2 ^ 63-1)/8:=by
  have:(sizeLine:Nat)<=(2 ^ 63-1)/8:=by decide
  omega
 have hfit:¬(!Builtin.List.listFitsIndex k)=true:=by
  rw[fitsIndex_both h1 h2]
  exact zyS
 have hlong:¬Builtin.List.listTooLong (its.toArray.size*k.toNat)=true:=by
  rw[zhx hlen]
  exact zyS
 have hnew:List.foldl (λx1 x2=>x1++x2) #[] (List.replicate (if its.toArray.isEmpty=true then 0 else k.toNat) its.toArray)=(List.replicate k.toNat its).flatten.toArray:=by
  have f0:∀m:Nat,List.foldl (λx1 x2=>x1++x2) #[] (List.replicate m its.toArray)=(List.replicate m its).flatten.toArray:=λm=>by
   have:=foldl_rep its m []
   rw[List.nil_append]at this
   exact this
  rw[f0]
  cases its with
  |nil=>simp
  |cons a r'=>rw[if_neg (by simp)]
 refine wpAny_binaryOp_repeat_ref (T:="list") (U:="int") (by decide) ⟨_,e,rfl⟩ (λs'=>typeIs_int s' k t) noFill_list_mul F.fills_int_mul F.slot_int_rmul repeat_list F.slot_int_index.lookup
  (call_meets F.slot_int_rmul (typeIs_int s k t) F.entry_int_rmul (F.args_int_rmul_2 _ _) (int___rmul___int_list k t l its.toArray n)
   ⟨e,rfl,⟨_,e,rfl⟩,call_meets F.slot_list_mul ⟨_,e,rfl⟩ F.entry_list_mul (F.args_list_mul_2 _ _) (AutoListH.list___mul___list_int_3 l its.toArray n k t hfit hcap hlong) ⟨e, ?_⟩⟩)
 rw[hnew]
 refine⟨.ref _,_,I.lnew (t':=s.toks) (r.rep k.toNat) ?_,rfl,q _ I.fresh⟩
 rw[len_rep,Nat.mul_comm]
 exact hz
theorem tuple_addW0(l b:Addr)(items items2:Array Value)(n n2:Nat)(dd dd2:Option Addr)(sl sl2:Array (Option Value))(h0:items.isEmpty=true):
 Meets (Builtin.«tuple.__add__» {pos:=[.ref l,.ref b]}) (λ_ R s=>s.heap.get? l=some {cls:=.type "tuple",dict:=dd,data:=.seq items n,slots:=sl}/\s.heap.get? b=some {cls:=.type "tuple",dict:=dd2,data:=.seq items2 n2,slots:=sl2}/\R (.ok (.ret (.ref b))) s):=
 .of_wp λprog w A R s h=>by
  obtain⟨hp,g,d,tk,os⟩:=s;obtain⟨hl,hb,h⟩:=h
  have f2:=AutoSeq1.sub_tuple_tuple
  wp_walk using wpAny_loadPart' hl,wpAny_loadPart' hb
  exact⟨_,rfl,h⟩
theorem zhJ(l:Addr)(items:Array Value)(n:Nat)(dd:Option Addr)(sl:Array (Option Value))(u:Tok):
 Meets (Builtin.«tuple.__mul__» {pos:=[.ref l,.int 1 u]}) (λ_ R s=>s.heap.get? l=some {cls:=.type "tuple",dict:=dd,data:=.seq items n,slots:=sl}/\R (.ok (.ret (.ref l))) s):=
 .of_wp λprog w A R s h=>by
  obtain⟨hp,g,d,tk,os⟩:=s;obtain⟨hl,h⟩:=h
  have f2:=AutoSeq1.sub_tuple_tuple
  wp_walk using wpAny_loadPart' hl
  exact⟨_,rfl,h⟩
theorem zhQ(l:Addr)(items its2:Array Value)(n:Nat)(dd:Option Addr)(sl:Array (Option Value))(x:Int)(u:Tok)(c1:¬(decide (x < -2 ^ 63)||decide (x ≥ 2 ^ 63))=true)(c2:¬(items.isEmpty||x==1)=true)(c3:¬(decide (x<=0)||items.isEmpty)=true)
 (hcap:¬(items.size:Int)*x > (2 ^ 63-1)/8) (ht:¬Builtin.Tuple.tupleTooMany (items.size*x)=true) (hz:¬(List.foldl (λx1 x2=>x1++x2) #[] (List.replicate x.toNat items)).size > sizeLine):
 Meets (Builtin.«tuple.__mul__» {pos:=[.ref l,.int x u]}) (λ_ R s=>s.heap.get? l=some {cls:=.type "tuple",dict:=dd,data:=.seq items n,slots:=sl}/\R (.ok (.ret (.ref s.heap.objs.size))) {s with heap:=s.heap.push {cls:=.type "tuple",data:=.seq (List.foldl (λx1 x2=>x1++x2) #[] (List.replicate x.toNat items))}}):=
 .of_wp λprog w A R s h=>by
  obtain⟨hp,g,d,tk,os⟩:=s;obtain⟨hl,h⟩:=h
  have f2:=AutoSeq1.sub_tuple_tuple
  wp_walk using wpAny_loadPart' hl
  rw[if_neg c1]
  wp_walk using wpAny_loadPart' hl
  rw[if_neg hcap]
  wp_walk
  exact⟨_,rfl,h⟩
theorem zcp:fillsNumberSlot (Value.type "tuple") "mul"=pure false:=PySem.fillsNumberSlot_seq rfl rfl rfl rfl
theorem zhl:seqRepeat? (Value.type "tuple")=pure (some (Value.builtin "tuple.__mul__")):=W.of_pureOf rfl
theorem zfb(a:Int)(t:Tok)(l:Addr)(items:Array Value)(n:Nat)(dd:Option Addr)(sl:Array (Option Value)):
 Meets (Builtin.«int.__rmul__» {pos:=[.int a t,.ref l]}) (λ_ R s=>s.heap.get? l=some {cls:=.type "tuple",dict:=dd,data:=.seq items n,slots:=sl}/\R (.ok (.ret .notImplemented)) s):=
 .of_wp λprog w A R s h=>by
  obtain⟨hp,g,d,tk,os⟩:=s;obtain⟨hl,h⟩:=h
  wp_walk using wpAny_load' hl,wpAny_loadPart' hl
  exact⟨_,rfl,h⟩
theorem zoW:OpR X (binaryOp .Add) (λx y H Q=>∃a b ys,x = .ref a/\y = .ref b/\SqT X.K H a []/\SqT X.K H b ys/\Q (.ref b) H):=by
 intro pins s σ H x y v u Q I rx ry h
 obtain⟨a,b,ys,rfl,rfl,ha,hb,q⟩:=h
 cases rx
 cases ry
 obtain⟨its,r1,p1,_⟩:=I.tuple ha
 obtain⟨its2,r2,p2,_⟩:=I.tuple hb
 cases r1
 obtain⟨⟨cls,dd,data,sl⟩,ho,hc,n,hd⟩:=id p1
 obtain⟨⟨cls2,dd2,data2,sl2⟩,ho2,hc2,n2,hd2⟩:=id p2
 simp only at hc hd hc2 hd2
 subst hc hd hc2 hd2
 exact concat_meets ⟨_,ho,rfl⟩ ⟨_,ho2,rfl⟩ noFill_tuple_add seq_tuple_add PySem.F.slot_tuple_add PySem.F.entry_tuple_add (PySem.F.args_tuple_add_2 _ _) (tuple_addW0 a b _ _ n n2 dd dd2 sl sl2 rfl) ⟨ho,ho2,⟨.ref b,H,I,rfl,q⟩⟩
theorem zoP:OpR X (binaryOp .Mult) (λx y H Q=>∃l k xs,x = .ref l/\y = .int k/\SqT X.K H l xs/\xs≠[]/\1<=k/\k<2 ^ 63/\xs.length*k.toNat<=sizeLine/\(k=1->Q (.ref l) H)/\
 (2<=k->∀p,H p=none->Q (.ref p) (upd H p (.tup (List.replicate k.toNat xs).flatten)))):=by
 intro pins s σ H x y v u Q I rx ry h
 obtain⟨l,k,xs,rfl,rfl,hH,hne,h1,h2,hz,q1,q2⟩:=h
 cases rx
 obtain⟨t,rfl⟩:=ry
 obtain⟨its,r,p,_⟩:=I.tuple hH
 have hl:=r.length
 have hlen:its.toArray.size*k.toNat<=sizeLine:=by rw[zzE,<-hl];exact hz
 have hki:((its.toArray.size:Int)*k)=((its.toArray.size*k.toNat:Nat):Int):=by
  rw[zzS,Int.toNat_of_nonneg (by omega)]
 have he:its.toArray.isEmpty=false:=by
  cases its with
  |nil=>rw[List.length_nil]at hl;exact absurd (List.length_eq_zero_iff.mp hl) hne
  |cons a r'=>rfl
 have hnew:List.foldl (λx1 x2=>x1++x2) #[] (List.replicate k.toNat its.toArray)=(List.replicate k.toNat its).flatten.toArray:=by
  have:=foldl_rep its k.toNat []
  rw[List.nil_append]at this
  exact this
 obtain⟨⟨cls,dd,data,sl⟩,ho,hc,n,hd⟩:=id p
 simp only at hc hd
 subst hc hd
 refine wpAny_binaryOp_repeat_ref (T:="tuple") (U:="int") (by decide) ⟨_,ho,rfl⟩ (λs'=>typeIs_int s' k t) zcp F.fills_int_mul F.slot_int_rmul zhl F.slot_int_index.lookup
  (call_meets F.slot_int_rmul (typeIs_int s k t) F.entry_int_rmul (F.args_int_rmul_2 _ _) (zfb k t l its.toArray n dd sl) ⟨ho,rfl,⟨_,ho,rfl⟩, ?_⟩)
 by_cases hk:k=1
 · subst hk
   exact call_meets F.slot_tuple_mul ⟨_,ho,rfl⟩ F.entry_tuple_mul (F.args_tuple_mul_2 _ _) (zhJ l its.toArray n dd sl t) ⟨ho,⟨.ref l,H,I,rfl,q1 rfl⟩⟩
 · have hfl:(List.replicate k.toNat xs).flatten.length<=sizeLine:=by rw[len_rep,Nat.mul_comm];exact hz
   refine call_meets F.slot_tuple_mul ⟨_,ho,rfl⟩ F.entry_tuple_mul (F.args_tuple_mul_2 _ _) (zhQ l its.toArray #[] n dd sl k t (by simp;omega) (by rw[he];simpa using hk) (by rw[he];simp;omega) ?_ ?_ ?_) ⟨ho, ?_⟩
   · rw[hki]
     have:((sizeLine:Nat):Int)<=(2 ^ 63-1)/8:=by decide
     omega
   · unfold Builtin.Tuple.tupleTooMany
     rw[hki]
     simp only[gt_iff_lt,decide_eq_true_eq]
     omega
   · rw[hnew,zzE,len_rep,Nat.mul_comm]
     rw[zzE]at hlen
     omega
   · rw[hnew]
     refine⟨.ref s.heap.objs.size,_,I.laid (t':=s.toks) (o:=.tup (List.replicate k.toNat xs).flatten) (λb ob q=>zxD _ q) (zzK _) ?_,rfl,q2 (by omega) _ (I.hok.fresh (zzK _))⟩
     exact⟨hfl,_,r.rep k.toNat,IsTup.new _ _⟩
theorem zqZ(op:Operator):OpD X kd (binaryOp op) (zam op):=by
 intro pins s σ H x y v u Q I rx ry h
 obtain⟨O,d,e,r,ht,vx,vy,he,q⟩:=h
 cases op with
 |Add=>
  cases vx with
  |int i=>
   obtain⟨j,h1,he⟩:=bS_ (show(asI e).bind _=_ from he)
   obtain⟨rfl,rfl⟩:=X8 vy h1
   cases he
   exact zqe pins s σ H _ _ v u Q I rx ry ⟨_,_,rfl,rfl,yN q (.int _)⟩
  |str i=>
   obtain⟨j,h1,he⟩:=bS_ (show(asS e).bind _=_ from he)
   obtain⟨rfl,rfl⟩:=zpD vy h1
   obtain⟨c,rfl⟩:=yg he
   exact ziX pins s σ H _ _ v u Q I rx ry ⟨_,_,rfl,rfl,c,yN q (.str _)⟩
  |lst hx rx'=>
   obtain⟨j,h1,he⟩:=bS_ (show(asL e).bind _=_ from he)
   cases zcn h1
   obtain⟨c,rfl⟩:=yg he
   cases vy with
   |lst hy ry'=>exact zkw pins s σ H _ _ v u Q I rx ry ⟨_,_,_,_,rfl,rfl,hx,hy,by rw[rx'.length,ry'.length];exact c,zca q (rx'.append ry')⟩
  | @tup a1 vs1 ds1 r1 hx rx'=>
   obtain⟨j,h1,he⟩:=bS_ (show(asT e).bind _=_ from he)
   cases zqb h1
   obtain⟨c,rfl⟩:=yg he
   cases vy with
   |tup r2 hy ry'=>
    by_cases h0:vs1=([]:List V)
    · subst h0
      cases rx'
      exact zoW pins s σ H _ _ v u Q I rx ry ⟨_,_,_,rfl,rfl,hx,hy,yN q r2⟩
    refine znY pins s σ H _ _ v u Q I rx ry ⟨_,_,_,_,rfl,rfl,hx,hy,h0,by rw[rx'.length,ry'.length];exact c,λhn=>?_,λhn=>zgm ht q (rx'.append ry')⟩
    · subst hn
      cases ry'
      rw[zyB]at q
      exact yN q r1
  |_=>cases he
 |Sub=>
  obtain⟨i,j,rfl,rfl,he⟩:=X7 vx vy he
  cases he
  exact zrj pins s σ H _ _ v u Q I rx ry ⟨_,_,rfl,rfl,yN q (.int _)⟩
 |Mult=>
  cases vx with
  |int i=>
   obtain⟨j,h1,he⟩:=bS_ (show(asI e).bind _=_ from he)
   obtain⟨rfl,rfl⟩:=X8 vy h1
   obtain⟨c,rfl⟩:=yg he
   obtain⟨t,rfl⟩:=rx
   obtain⟨t',rfl⟩:=ry
   exact mul_int ⟨.int _,H,I.tok _,⟨_,rfl⟩,yN q (.int _)⟩ (IntMulOk.of_bits (zhD c.1) (zhD c.2))
  |lst hx rx'=>
   obtain⟨j,h1,he⟩:=bS_ (show(asI e).bind _=_ from he)
   obtain⟨rfl,rfl⟩:=X8 vy h1
   obtain⟨c,rfl⟩:=yg he
   exact zob pins s σ H _ _ v u Q I rx ry ⟨_,_,_,rfl,rfl,hx,c.1,c.2.1,by rw[rx'.length];exact c.2.2,zca q (rx'.rep _)⟩
  |tup r1 hx rx'=>
   obtain⟨j,h1,he⟩:=bS_ (show(asI e).bind _=_ from he)
   obtain⟨rfl,rfl⟩:=X8 vy h1
   obtain⟨c,rfl⟩:=yg he
   refine zoP pins s σ H _ _ v u Q I rx ry ⟨_,_,_,rfl,rfl,hx,λe=>?_,c.1,c.2.1,by rw[rx'.length];exact c.2.2.2,λe=>?_,λ_=>zgm ht q (rx'.rep _)⟩
   · have:=rx'.length
     rw[e]at this
     exact c.2.2.1 this.symm
   · subst e
     refine yN q ?_
     rw[show(1:Int).toNat=1 from rfl,List.replicate_one,List.flatten_cons,List.flatten_nil,zyB]
     exact r1
  |_=>cases he
 |FloorDiv=>
  obtain⟨i,j,rfl,rfl,he⟩:=X7 vx vy he
  obtain⟨c,rfl⟩:=yg he
  obtain⟨t,rfl⟩:=rx
  obtain⟨t',rfl⟩:=ry
  refine floordiv_int (by omega) ?_ (.inl (PyProof.noPylong_of_log2 ?_))
  · rw[Int.fdiv_eq_ediv_of_nonneg _ (by omega)]
    exact⟨.int _,H,I.tok _,⟨_,rfl⟩,yN q (.int _)⟩
  · exact zzH ((Nat.log2_lt (by have:=c.1;omega)).mpr (show _<2 ^ 4000 from c.2)) (by decide)
 |Mod=>
  obtain⟨i,j,rfl,rfl,he⟩:=X7 vx vy he
  obtain⟨c,rfl⟩:=yg he
  exact zmP pins s σ H _ _ v u Q I rx ry ⟨_,_,rfl,rfl,c,yN q (.int _)⟩
 |Pow=>
  obtain⟨i,j,rfl,rfl,he⟩:=X7 vx vy he
  obtain⟨c,rfl⟩:=yg he
  exact zqp pins s σ H _ _ v u Q I rx ry ⟨_,_,rfl,rfl,c,yN q (.int _)⟩
 |_=>cases he
end
def eqL(f:D->D->Option Bool):List D->List D->Option Bool
 | [],[]=>some true
 |x::r,y::t=>(f x y).bind λb=>(eqL f r t).bind λc=>some (b&&c)
 |_,_=>some false
def eqF:Nat->D->D->Option Bool
 |0,_,_=>none
 |_+1,.non,.non=>some true
 |_+1,.bl a,.bl b=>some (a==b)
 |_+1,.int a,.int b=>some (a==b)
 |_+1,.str a,.str b=>some (a==b)
 |_+1,.bl a,.int b=>some ((if a then 1 else 0)==b)
 |_+1,.int a,.bl b=>some (a==(if b then 1 else 0))
 |n+1,.lst xs,.lst ys=>eqL (eqF n) xs ys
 |n+1,.tup xs,.tup ys=>eqL (eqF n) xs ys
 |_+1,.dct _,_=>none
 |_+1,.cl _,_=>none
 |_+1,.ob _ _ _,_=>none
 |_+1,.dt _ _,_=>none
 |_+1,_,.dct _=>none
 |_+1,_,.cl _=>none
 |_+1,_,.ob _ _ _=>none
 |_+1,_,.dt _ _=>none
 |_+1,_,_=>some false
def eqJ(f:D->D->Option Bool)(xs ys:List D)(j:Nat):Bool:=match xs[j]?,ys[j]? with
 |some d,some e=>(f d e).getD false
 |_,_=>false
theorem zez{f:D->D->Option Bool}:∀{xs ys:List D}{b:Bool},eqL f xs ys=some b->(∀(j:Nat) d e,xs[j]? = some d->ys[j]? = some e->∃c,f d e=some c)/\
 b=((List.range (min xs.length ys.length)).all (eqJ f xs ys)&&xs.length==ys.length)
 | [],[],b,h=>by cases h;exact⟨λj d e h=>by simp at h,by simp⟩
 | [],y::t,b,h=>by cases h;exact⟨λj d e h=>by simp at h,by simp⟩
 |x::r,[],b,h=>by cases h;exact⟨λj d e _ h=>by simp at h,by simp⟩
 |x::r,y::t,b,h=>by
  obtain⟨b1,h1,h⟩:=bS_ (show(f x y).bind _=_ from h)
  obtain⟨c1,h2,h⟩:=bS_ h
  cases h
  obtain⟨k1,k2⟩:=zez h2
  refine⟨λj d e hd he=>?_, ?_⟩
  · cases j with
    |zero=>simp at hd he;subst hd he;exact⟨b1,h1⟩
    |succ j=>exact k1 j d e (by simpa using hd) (by simpa using he)
  · have e0:min (x::r).length (y::t).length=min r.length t.length+1:=by simp only[zzQ];omega
    rw[e0,List.range_succ_eq_map,List.all_cons,List.all_map,k2]
    have e1:eqJ f (x::r) (y::t) 0=b1:=by show(f x y).getD false=b1;rw[h1];rfl
    have e2:(eqJ f (x::r) (y::t)∘Nat.succ)=eqJ f r t:=by
     funext j
     show eqJ f (x::r) (y::t) (j+1)=_
     unfold eqJ
     simp
    have e3:((x::r).length==(y::t).length)=(r.length==t.length):=by
     by_cases hh:r.length=t.length<;>simp[hh]
    rw[e1,e2,e3,Bool.and_assoc]
structure EqAll(A:Around)(s:Shared)(u v:Value)(b:Bool):Prop where
 rc:SeqAt.RcAt A s u v b
 ne:SeqAt.RcNeAt A s u v (!b)
 eq:SeqAt.EqAt A s u v b
section
variable{X:Cx}{kd:KD}{pins:List (Addr×Obj)}{σ:St}{H:Hp}{s:Shared}{O:Addr->Prop}
theorem zkg(I:Inv X pins σ H s){a:Addr}{xs ys:List V}(h:SqT X.K H a xs)(h':SqL X.K H a ys):False:=by
 obtain⟨_,_,⟨o,e,c,_⟩,_⟩:=I.tuple h
 obtain⟨_,_,⟨o',n,e',c',_⟩,_⟩:=I.list h'
 rw[e]at e'
 cases e'
 rw[c]at c'
 exact absurd c' (by decide)
theorem zky(I:Inv X pins σ H s):∀(n:Nat) (v:V) (d e:D) (b:Bool),Vw X.K kd O H v d->Vw X.K kd O H v e->eqF n d e=some b->b=true
 |0,_,_,_,_,_,_,h=>by cases h
 |n+1,v,d,e,b,h1,h2,h=>by
  have lst:∀(vs:List V) (ds es:List D) (b:Bool),RpL X.K kd O H vs ds->RpL X.K kd O H vs es->eqL (eqF n) ds es=some b->b=true:=by
   intro vs
   induction vs with
   |nil=>intro ds es b r1 r2 h;cases r1;cases r2;cases h;rfl
   |cons v vs ih=>
    intro ds es b r1 r2 h
    cases r1 with
    |cons a1 r1=>
     cases r2 with
     |cons a2 r2=>
      obtain⟨b1,k1,h⟩:=bS_ (show(eqF n _ _).bind _=_ from h)
      obtain⟨c1,k2,h⟩:=bS_ h
      cases h
      rw[zky I n _ _ _ _ a1.vw a2.vw k1,ih _ _ _ r1 r2 k2]
      rfl
  cases h1 with
  |non=>cases h2;cases h;rfl
  |bl x=>cases h2;cases h;simp
  |int x=>cases h2;cases h;simp
  |str x=>cases h2;cases h;simp
  |tup r1 s1 l1=>
   cases h2 with
   |tup r2 s2 l2=>
    have:=I.tuple_inj s1 s2
    subst this
    exact lst _ _ _ _ l1 l2 h
   |lst s2 l2=>exact(zkg I s1 s2.sq).elim
   |_=>cases h
  |lst s1 l1=>
   cases h2 with
   |tup r2 s2 l2=>exact(zkg I s2 s1.sq).elim
   |lst s2 l2=>
    have:=I.list_inj s1.sq s2.sq
    subst this
    exact lst _ _ _ _ l1 l2 h
   |_=>cases h
  |_=>cases h
theorem zhf(I:Inv X pins σ H s):∀(n:Nat) (A:Around) (x y:V) (d e:D) (u v:Value) (b:Bool),A.units+n<cLine->Vw X.K kd O H x d->Vw X.K kd O H y e->RelV x u->RelV y v->eqF n d e=some b->EqAll A s u v b
 |0,_,_,_,_,_,_,_,_,_,_,_,_,_,h=>by cases h
 |n+1,A,x,y,d,e,u,v,b,hu,h1,h2,r1,r2,h=>by
  have hu0:A.units<cLine:=by omega
  have itm:∀{vs ws:List V}{its its2:List Value}{ds es:List D},RpL X.K kd O H vs ds->RpL X.K kd O H ws es->Vals vs its->Vals ws its2->(∀(j:Nat) d e,ds[j]? = some d->es[j]? = some e->∃c,eqF n d e=some c)->
   ∀j (h1:j<its.toArray.size) (h2:j<its2.toArray.size),SeqAt.EqAt A.in1 s its.toArray[j] its2.toArray[j] (eqJ (eqF n) ds es j):=by
   intro vs ws its its2 ds es l1 l2 v1 v2 hd j j1 j2
   have q1:j<ds.length:=by rw[<-l1.length,v1.length];simpa using j1
   have q2:j<es.length:=by rw[<-l2.length,v2.length];simpa using j2
   obtain⟨a1,ha1,ra1⟩:=l1.get (zzB q1)
   obtain⟨a2,ha2,ra2⟩:=l2.get (zzB q2)
   obtain⟨u1,hu1,ru1⟩:=v1.get ha1
   obtain⟨u2,hu2,ru2⟩:=v2.get ha2
   obtain⟨c,hc⟩:=hd j _ _ (zzB q1) (zzB q2)
   have e1:its.toArray[j]=u1:=by
    have:=(zzD.mp hu1).2
    simpa using this
   have e2:its2.toArray[j]=u2:=by
    have:=(zzD.mp hu2).2
    simpa using this
   rw[e1,e2]
   have e3:eqJ (eqF n) ds es j=c:=by
    unfold eqJ
    rw[zzB q1,zzB q2]
    show(eqF n _ _).getD false=c
    rw[hc];rfl
   rw[e3]
   exact(zhf I n A.in1 a1 a2 _ _ u1 u2 c (by show A.units+1+n<cLine;omega) ra1.vw ra2.vw ru1 ru2 hc).eq
  have same:∀{a a':Addr},x = .ref a->y = .ref a'->a=a'->b=true:=by
   intro a a' e1 e2 e3
   subst e1 e2 e3
   exact zky I (n+1) _ _ _ _ h1 h2 h
  cases h1 with
  |non=>
   cases r1
   cases h2 with
   |non=>cases r2;cases h;exact⟨SeqAt.RcAt.none_none,SeqAt.RcNeAt.none_none,SeqAt.EqAt.same _⟩
   |bl=>cases r2;cases h;exact⟨SeqAt.RcAt.none_bool _,SeqAt.RcNeAt.none_bool _,SeqAt.EqAt.none_bool _⟩
   |int=>obtain⟨t,rfl⟩:=r2;cases h;exact⟨SeqAt.RcAt.none_int _ _,SeqAt.RcNeAt.none_int _ _,SeqAt.EqAt.none_int _ _⟩
   |str=>obtain⟨t,rfl⟩:=r2;cases h;exact⟨SeqAt.RcAt.none_str _ _,SeqAt.RcNeAt.none_str _ _,SeqAt.EqAt.none_str _ _⟩
   |tup r s2 l2=>
    cases r2;cases h
    obtain⟨its,rv,p,_⟩:=I.tuple s2
    exact⟨SeqAt.RcAt.none_tuple p hu0,SeqAt.RcNeAt.none_tuple p hu0,SeqAt.EqAt.none_tuple p hu0⟩
   |lst s2 l2=>
    cases r2;cases h
    obtain⟨its,rv,p,_⟩:=I.list s2.sq
    exact⟨SeqAt.RcAt.none_list p.isList hu0,SeqAt.RcNeAt.none_list p.isList hu0,SeqAt.EqAt.none_list p.isList hu0⟩
   |_=>cases h
  |bl c=>
   cases r1
   cases h2 with
   |non=>cases r2;cases h;exact⟨SeqAt.RcAt.bool_none _,SeqAt.RcNeAt.bool_none _,SeqAt.EqAt.bool_none _⟩
   |bl=>cases r2;cases h;exact⟨SeqAt.RcAt.bool_bool _ _,SeqAt.RcNeAt.bool_bool _ _,SeqAt.EqAt.bool_bool _ _⟩
   |int=>obtain⟨t,rfl⟩:=r2;cases h;exact⟨SeqAt.RcAt.bool_int _ _ _,SeqAt.RcNeAt.bool_int _ _ _,SeqAt.EqAt.bool_int _ _ _⟩
   |str=>obtain⟨t,rfl⟩:=r2;cases h;exact⟨SeqAt.RcAt.bool_str _ _ _,SeqAt.RcNeAt.bool_str _ _ _,SeqAt.EqAt.bool_str _ _ _⟩
   |tup r s2 l2=>
    cases r2;cases h
    obtain⟨its,rv,p,_⟩:=I.tuple s2
    exact⟨SeqAt.RcAt.bool_tuple _ p hu0,SeqAt.RcNeAt.bool_tuple _ p hu0,SeqAt.EqAt.bool_tuple _ p hu0⟩
   |lst s2 l2=>
    cases r2;cases h
    obtain⟨its,rv,p,_⟩:=I.list s2.sq
    exact⟨SeqAt.RcAt.bool_list _ p.isList hu0,SeqAt.RcNeAt.bool_list _ p.isList hu0,SeqAt.EqAt.bool_list _ p.isList hu0⟩
   |_=>cases h
  |int c=>
   obtain⟨t0,rfl⟩:=r1
   cases h2 with
   |non=>cases r2;cases h;exact⟨SeqAt.RcAt.int_none _ _,SeqAt.RcNeAt.int_none _ _,SeqAt.EqAt.int_none _ _⟩
   |bl=>cases r2;cases h;exact⟨SeqAt.RcAt.int_bool _ _ _,SeqAt.RcNeAt.int_bool _ _ _,SeqAt.EqAt.int_bool _ _ _⟩
   |int=>obtain⟨t,rfl⟩:=r2;cases h;exact⟨SeqAt.RcAt.int_int _ _ _ _,SeqAt.RcNeAt.int_int _ _ _ _,SeqAt.EqAt.int_int _ _ _ _⟩
   |str=>obtain⟨t,rfl⟩:=r2;cases h;exact⟨SeqAt.RcAt.int_str _ _ _ _,SeqAt.RcNeAt.int_str _ _ _ _,SeqAt.EqAt.int_str _ _ _ _⟩
   |tup r s2 l2=>
    cases r2;cases h
    obtain⟨its,rv,p,_⟩:=I.tuple s2
    exact⟨SeqAt.RcAt.int_tuple _ _ p hu0,SeqAt.RcNeAt.int_tuple _ _ p hu0,SeqAt.EqAt.int_tuple _ _ p hu0⟩
   |lst s2 l2=>
    cases r2;cases h
    obtain⟨its,rv,p,_⟩:=I.list s2.sq
    exact⟨SeqAt.RcAt.int_list _ _ p.isList hu0,SeqAt.RcNeAt.int_list _ _ p.isList hu0,SeqAt.EqAt.int_list _ _ p.isList hu0⟩
   |_=>cases h
  |str c=>
   obtain⟨t0,rfl⟩:=r1
   cases h2 with
   |non=>cases r2;cases h;exact⟨SeqAt.RcAt.str_none _ _,SeqAt.RcNeAt.str_none _ _,SeqAt.EqAt.str_none _ _⟩
   |bl=>cases r2;cases h;exact⟨SeqAt.RcAt.str_bool _ _ _,SeqAt.RcNeAt.str_bool _ _ _,SeqAt.EqAt.str_bool _ _ _⟩
   |int=>obtain⟨t,rfl⟩:=r2;cases h;exact⟨SeqAt.RcAt.str_int _ _ _ _,SeqAt.RcNeAt.str_int _ _ _ _,SeqAt.EqAt.str_int _ _ _ _⟩
   |str=>obtain⟨t,rfl⟩:=r2;cases h;exact⟨SeqAt.RcAt.str_str _ _ _ _,SeqAt.RcNeAt.str_str _ _ _ _,SeqAt.EqAt.str_str _ _ _ _⟩
   |tup r s2 l2=>
    cases r2;cases h
    obtain⟨its,rv,p,_⟩:=I.tuple s2
    exact⟨SeqAt.RcAt.str_tuple _ _ p hu0,SeqAt.RcNeAt.str_tuple _ _ p hu0,SeqAt.EqAt.str_tuple _ _ p hu0⟩
   |lst s2 l2=>
    cases r2;cases h
    obtain⟨its,rv,p,_⟩:=I.list s2.sq
    exact⟨SeqAt.RcAt.str_list _ _ p.isList hu0,SeqAt.RcNeAt.str_list _ _ p.isList hu0,SeqAt.EqAt.str_list _ _ p.isList hu0⟩
   |_=>cases h
  | @tup a1 vs1 ds1 r s1 l1=>
   cases r1
   obtain⟨its1,rv1,p1,_⟩:=I.tuple s1
   cases h2 with
   |non=>cases r2;cases h;exact⟨SeqAt.RcAt.tuple_none p1 hu0,SeqAt.RcNeAt.tuple_none p1 hu0,SeqAt.EqAt.tuple_none p1 hu0⟩
   |bl=>cases r2;cases h;exact⟨SeqAt.RcAt.tuple_bool _ p1 hu0,SeqAt.RcNeAt.tuple_bool _ p1 hu0,SeqAt.EqAt.tuple_bool _ p1 hu0⟩
   |int=>obtain⟨t,rfl⟩:=r2;cases h;exact⟨SeqAt.RcAt.tuple_int _ _ p1 hu0,SeqAt.RcNeAt.tuple_int _ _ p1 hu0,SeqAt.EqAt.tuple_int _ _ p1 hu0⟩
   |str=>obtain⟨t,rfl⟩:=r2;cases h;exact⟨SeqAt.RcAt.tuple_str _ _ p1 hu0,SeqAt.RcNeAt.tuple_str _ _ p1 hu0,SeqAt.EqAt.tuple_str _ _ p1 hu0⟩
   | @tup a2 vs2 ds2 r' s2 l2=>
    cases r2
    obtain⟨its2,rv2,p2,_⟩:=I.tuple s2
    obtain⟨k1,k2⟩:=zez h
    have he:=itm l1 l2 rv1 rv2 k1
    have eb:((List.range (min its1.toArray.size its2.toArray.size)).all (eqJ (eqF n) ds1 ds2)&&its1.toArray.size==its2.toArray.size)=b:=by
     rw[k2,zzE,zzE,<-rv1.length,<-rv2.length,l1.length,l2.length]
    have b1:=SeqAt.RcAt.tuples p1 p2 hu0 he
    have b2:=SeqAt.RcNeAt.tuples p1 p2 hu0 he
    rw[eb]at b1 b2
    refine⟨b1,b2, ?_⟩
    by_cases ha:a1=a2
    · have hb:=same rfl rfl ha
      subst ha
      rw[hb]
      exact SeqAt.EqAt.same _
    · exact SeqAt.EqAt.of_refs ha b1
   |lst s2 l2=>
    cases r2;cases h
    obtain⟨its,rv,p,_⟩:=I.list s2.sq
    exact⟨SeqAt.RcAt.tuple_list p1 p.isList hu0,SeqAt.RcNeAt.tuple_list p1 p.isList hu0,SeqAt.EqAt.tuple_list p1 p.isList hu0⟩
   |_=>cases h
  | @lst a1 vs1 ds1 s1 l1=>
   cases r1
   obtain⟨its1,rv1,p1,_⟩:=I.list s1.sq
   cases h2 with
   |non=>cases r2;cases h;exact⟨SeqAt.RcAt.list_none p1.isList hu0,SeqAt.RcNeAt.list_none p1.isList hu0,SeqAt.EqAt.list_none p1.isList hu0⟩
   |bl=>cases r2;cases h;exact⟨SeqAt.RcAt.list_bool _ p1.isList hu0,SeqAt.RcNeAt.list_bool _ p1.isList hu0,SeqAt.EqAt.list_bool _ p1.isList hu0⟩
   |int=>obtain⟨t,rfl⟩:=r2;cases h;exact⟨SeqAt.RcAt.list_int _ _ p1.isList hu0,SeqAt.RcNeAt.list_int _ _ p1.isList hu0,SeqAt.EqAt.list_int _ _ p1.isList hu0⟩
   |str=>obtain⟨t,rfl⟩:=r2;cases h;exact⟨SeqAt.RcAt.list_str _ _ p1.isList hu0,SeqAt.RcNeAt.list_str _ _ p1.isList hu0,SeqAt.EqAt.list_str _ _ p1.isList hu0⟩
   |tup r' s2 l2=>
    cases r2;cases h
    obtain⟨its2,rv2,p2,_⟩:=I.tuple s2
    exact⟨SeqAt.RcAt.list_tuple p1.isList p2 hu0,SeqAt.RcNeAt.list_tuple p1.isList p2 hu0,SeqAt.EqAt.list_tuple p1.isList p2 hu0⟩
   | @lst a2 vs2 ds2 s2 l2=>
    cases r2
    obtain⟨its2,rv2,p2,_⟩:=I.list s2.sq
    obtain⟨k1,k2⟩:=zez h
    have he:=itm l1 l2 rv1 rv2 k1
    have ez1:its1.toArray.size=_:=zzE.trans (rv1.length.symm.trans l1.length)
    have ez2:its2.toArray.size=_:=zzE.trans (rv2.length.symm.trans l2.length)
    have both:SeqAt.RcAt A s (.ref a1) (.ref a2) b/\SeqAt.RcNeAt A s (.ref a1) (.ref a2) (!b):=by
     by_cases hz:its1.toArray.size=its2.toArray.size
     · have b1:=SeqAt.RcAt.lists p1.isList p2.isList hz hu0 he
       have b2:=SeqAt.RcNeAt.lists p1.isList p2.isList hz hu0 he
       have eb:(List.range its1.toArray.size).all (eqJ (eqF n) ds1 ds2)=b:=by
        rw[k2,<-ez1,<-ez2,<-hz,Nat.min_self]
        simp
       rw[eb]at b1 b2
       exact⟨b1,b2⟩
     · have hz':(its1.toArray.size != its2.toArray.size)=true:=by simpa using hz
       have eb:b=false:=by
        rw[k2,<-ez1,<-ez2]
        have:(its1.toArray.size==its2.toArray.size)=false:=by simpa using hz
        rw[this,Bool.and_false]
       rw[eb]
       exact⟨SeqAt.RcAt.lists_lengths p1.isList p2.isList hz' hu0,SeqAt.RcNeAt.lists_lengths p1.isList p2.isList hz' hu0⟩
    refine⟨both.1,both.2, ?_⟩
    by_cases ha:a1=a2
    · have hb:=same rfl rfl ha
      subst ha
      rw[hb]
      exact SeqAt.EqAt.same _
    · exact SeqAt.EqAt.of_refs ha both.1
   |_=>cases h
  |_=>cases h
end
structure DkAt(P:Program)(w:World)(h:Heap)(a:Addr)(kvs:List (Key×V)):Prop where
 le:kvs.length<=sizeLine
 ns:(a==sysModules)=false
 ex:∃vs,KV kvs vs/\h.DictOf (wz P w) a vs
structure KdOk(X:Cx)(kd:KD):Prop where
 inj:∀a k k',kd a k->kd a k'->k=k'
 inK:∀a k,kd a k->∃o,X.K.lookup a=some o
 at_:∀a k h,kd a k->X.K.In h->DkAt X.prog X.w h a k
section
variable{X:Cx}{kd:KD}{pins:List (Addr×Obj)}{σ:St}{H:Hp}{s:Shared}{O:Addr->Prop}
theorem zgc(I:Inv X pins σ H s)(hk:KdOk X kd){a:Addr}{kvs:List (Key×V)}(h:Rd H a (.dK kvs)\/kd a kvs):DkAt X.prog X.w s.heap a kvs:=by
 rcases h with h|h
 · obtain⟨z,hd,vs,rel,dd⟩:=zfX I.hok h
   exact⟨z,hd,vs,rel,dd⟩
 · exact hk.at_ _ _ _ h I.kIn
theorem zmx(I:Inv X pins σ H s):∀(n:Nat) (v:V) (d e x:D) (b c:Bool),Vw X.K kd O H v d->Vw X.K kd O H v e->eqF n d x=some b->eqF n e x=some c->b=c
 |0,_,_,_,_,_,_,_,_,h,_=>by cases h
 |n+1,v,d,e,x,b,c,h1,h2,h,h'=>by
  have lst:∀(vs:List V) (ds es xs:List D) (b c:Bool),RpL X.K kd O H vs ds->RpL X.K kd O H vs es->eqL (eqF n) ds xs=some b->eqL (eqF n) es xs=some c->b=c:=by
   intro vs
   induction vs with
   |nil=>intro ds es xs b c r1 r2 h h';cases r1;cases r2;exact zzW (h.symm.trans h')
   |cons v vs ih=>
    intro ds es xs b c r1 r2 h h'
    cases r1 with
    |cons a1 r1=>
     cases r2 with
     |cons a2 r2=>
      cases xs with
      |nil=>cases h;cases h';rfl
      |cons x xs=>
       obtain⟨b1,k1,h⟩:=bS_ (show(eqF n _ _).bind _=_ from h)
       obtain⟨c1,k2,h⟩:=bS_ h
       obtain⟨b2,k3,h'⟩:=bS_ (show(eqF n _ _).bind _=_ from h')
       obtain⟨c2,k4,h'⟩:=bS_ h'
       cases h;cases h'
       rw[zmx I n _ _ _ _ _ _ a1.vw a2.vw k1 k3,ih _ _ _ _ _ r1 r2 k2 k4]
  cases h1 with
  |tup r1 s1 l1=>
   cases h2 with
   |tup r2 s2 l2=>
    have:=I.tuple_inj s1 s2
    subst this
    cases x with
    |tup xs=>exact lst _ _ _ _ _ _ l1 l2 h h'
    |_=>exact zzW (h.symm.trans h')
   |lst s2 l2=>exact(zkg I s1 s2.sq).elim
   |_=>cases h'
  |lst s1 l1=>
   cases h2 with
   |tup r2 s2 l2=>exact(zkg I s2 s1.sq).elim
   |lst s2 l2=>
    have:=I.list_inj s1.sq s2.sq
    subst this
    cases x with
    |lst xs=>exact lst _ _ _ _ _ _ l1 l2 h h'
    |_=>exact zzW (h.symm.trans h')
   |_=>cases h'
  |dct s1 l1=>cases h
  |cl=>cases h
  |ob=>cases h
  |dt=>cases h
  |_=>cases h2;exact zzW (h.symm.trans h')
end
def zlf:D->Option Key
 | .int i=>some (.inl i)
 | .str x=>some (.inr x)
 |_=>none
def zgz(kvs:List (Key×D))(k:Key):Option D:=(kvs.find? λkv=>decide (kv.1=k)).map (·.2)
theorem zgL{K:zC}{kd:KD}{O:Addr->Prop}{H:Hp}(k:Key){vs:List (Key×V)}{ds:List (Key×D)}(h:RpM K kd O H vs ds):(∃v d,Yd vs k=some v/\zgz ds k=some d/\Rp K kd O H v d)\/(Yd vs k=none/\zgz ds k=none):=
 RpM.ind (P:=λvs ds=>(∃v d,Yd vs k=some v/\zgz ds k=some d/\Rp K kd O H v d)\/(Yd vs k=none/\zgz ds k=none)) (.inr ⟨rfl,rfl⟩) (λ{k' v d vs ds} a _ ih=>by
  by_cases e:k'=k
  · left
    refine⟨_,_, ?_, ?_,a⟩
    · unfold Yd;simp[e]
    · unfold zgz;simp[e]
  · rcases ih with⟨v,d,h1,h2,h3⟩|⟨h1,h2⟩
    · left
      refine⟨v,d, ?_, ?_,h3⟩
      · unfold Yd at h1 ⊢;simpa[e]using h1
      · unfold zgz at h2 ⊢;simpa[e]using h2
    · right
      refine⟨?_, ?_⟩
      · unfold Yd at h1 ⊢;simpa[e]using h1
      · unfold zgz at h2 ⊢;simpa[e]using h2) h
def zkt:List D->Option (List Key)
 | []=>some []
 |d::r=>(zlf d).bind λk=>(zkt r).bind λks=>some (k::ks)
def zdx:D->Option (List Key)
 | .tup ds=>zkt ds
 |_=>none
def zeL(ks:List (List Key))(ds:List D)(k:List Key):Option D:=((ks.zip ds).find? λkv=>decide (kv.1=k)).map (·.2)
theorem zmC{K:zC}{kd:KD}{O:Addr->Prop}{H:Hp}{vs:List V}{ds:List D}(h:RpL K kd O H vs ds):∀{k:List Key},zkt ds=some k->vs=k.map kV:=
 RpL.ind (P:=λvs ds=>∀{k:List Key},zkt ds=some k->vs=k.map kV) (λe=>by cases e;rfl) (λ{v d vs ds} a _ ih k e=>by
  obtain⟨k1,h1,e⟩:=bS_ (show(zlf d).bind _=_ from e)
  obtain⟨k2,h2,e⟩:=bS_ e
  cases e
  have hv:v=kV k1:=by
   cases a with
   |int i=>cases h1;rfl
   |str i=>cases h1;rfl
   |_=>cases h1
  rw[hv,ih h2];rfl) h
theorem zal{K:zC}{kd:KD}{O:Addr->Prop}{H:Hp}{v:V}{d:D}{k:List Key}(h:Vw K kd O H v d)(e:zdx d=some k):∃b,v = .ref b/\H b=some (.tup (k.map kV)):=by
 cases h with
 |tup rp hs rl=>
  cases rp with
  |tup n h r=>exact⟨_,rfl,by rw[h,zmC r e]⟩
 |_=>cases e
theorem ziA{K:zC}{kd:KD}{O:Addr->Prop}{H:Hp}(k:List Key){vs:List V}{ds:List D}(h:RpL K kd O H vs ds):∀{ks:List (List Key)},ks.length=vs.length->(∃v d,Yd (ks.zip vs) k=some v/\zeL ks ds k=some d/\Rp K kd O H v d)\/(Yd (ks.zip vs) k=none/\zeL ks ds k=none):=
 RpL.ind (P:=λvs ds=>∀{ks:List (List Key)},ks.length=vs.length->(∃v d,Yd (ks.zip vs) k=some v/\zeL ks ds k=some d/\Rp K kd O H v d)\/(Yd (ks.zip vs) k=none/\zeL ks ds k=none)) (λ{ks} e=>by
  cases ks with
  |nil=>exact .inr ⟨rfl,rfl⟩
  |cons=>simp at e) (λ{v d vs ds} a _ ih ks e=>by
  cases ks with
  |nil=>simp at e
  |cons k1 ks=>
   have e':ks.length=vs.length:=by simpa using e
   unfold Yd zeL
   rw[List.zip_cons_cons,List.zip_cons_cons]
   by_cases hk:k1=k
   · rw[List.find?_cons_of_pos (by simpa using hk),List.find?_cons_of_pos (by simpa using hk)]
     exact .inl ⟨_,_,rfl,rfl,a⟩
   · rw[List.find?_cons_of_neg (by simpa using hk),List.find?_cons_of_neg (by simpa using hk)]
     exact ih e') h
def anyF(f:D->Option Bool):List D->Option Bool
 | []=>some false
 |x::r=>(f x).bind λb=>(anyF f r).bind λc=>some (b||c)
def blR(b:Bool):R0:=.im (.bl b)
def inP(x:D):D->Option Bool
 | .lst ys=>anyF (λy=>eqF 50 y x) ys
 | .tup ys=>anyF (λy=>eqF 50 y x) ys
 | .str y=>match x with | .str i=>some (!(Builtin.Str.occurrences y i 0 y.length 1).isEmpty)|_=>none
 | .dct kvs=>(zlf x).bind λk=>some (zgz kvs k).isSome
 | .dt ks ds=>(zdx x).bind λk=>some (zeL ks ds k).isSome
 |_=>none
def isP:D->D->Option Bool
 |d,.non=>some (match d with | .non=>true|_=>false)
 |d,.bl b=>match d with | .bl c=>some (c==b)|_=>some false
 |_,_=>none
def zmp(f:Int->Int->Bool):D->D->Option R0:=onI λi j=>some (blR (f i j))
def zQ(o:CmpOp)(d e:D):Option R0:=match o with
 | .Eq=>(eqF 60 d e).bind λb=>some (blR b)
 | .NotEq=>(eqF 60 d e).bind λb=>some (blR !b)
 | .Lt=>zmp (λi j=>decide (i<j)) d e
 | .LtE=>zmp (λi j=>decide (i<=j)) d e
 | .Gt=>zmp (λi j=>decide (j<i)) d e
 | .GtE=>zmp (λi j=>decide (j<=i)) d e
 | .In=>(inP d e).bind λb=>some (blR b)
 | .NotIn=>(inP d e).bind λb=>some (blR !b)
 | .Is=>(isP d e).bind λb=>some (blR b)
 | .IsNot=>(isP d e).bind λb=>some (blR !b)
theorem V9{o:Option Bool}{f:Bool->Bool}{r:R0}(h:(o.bind λb=>some (blR (f b)))=some r):∃k,r = .im (.bl k):=by
 obtain⟨b,_,h⟩:=bS_ h
 cases h
 exact⟨_,rfl⟩
theorem zdD{x y:D}{f:Int->Int->Bool}{r:R0}(h:zmp f x y=some r):∃k,r = .im (.bl k):=by
 obtain⟨i,_,h⟩:=bS_ (show(asI x).bind _=_ from h)
 obtain⟨j,_,h⟩:=bS_ h
 cases h
 exact⟨_,rfl⟩
theorem zdB(op:CmpOp)(x y:D)(r:R0)(h:zQ op x y=some r):∃k,r = .im (.bl k):=by
 cases op with
 |Eq=>exact V9 (f:=id) h
 |NotEq=>exact V9 (f:=not) h
 |Lt=>exact zdD h
 |LtE=>exact zdD h
 |Gt=>exact zdD h
 |GtE=>exact zdD h
 |In=>exact V9 (f:=id) h
 |NotIn=>exact V9 (f:=not) h
 |Is=>exact V9 (f:=id) h
 |IsNot=>exact V9 (f:=not) h
section
variable{X:Cx}{kd:KD}{pins:List (Addr×Obj)}{σ:St}{H:Hp}{s:Shared}{O:Addr->Prop}
noncomputable def eqW(K:zC)(kd:KD)(O:Addr->Prop)(H:Hp)(n:Nat)(x:D)(u:Value):Bool:=@decide (∃v d,RelV v u/\Rp K kd O H v d/\eqF n d x=some true) (Classical.propDecidable _)
theorem zgI(I:Inv X pins σ H s)(hk:KdOk X kd){n:Nat}{x d:D}{v:V}{u:Value}{b:Bool}(r:RelV v u)(p:Rp X.K kd O H v d)(e:eqF n d x=some b):eqW X.K kd O H n x u=b:=by
 unfold eqW
 cases b with
 |true=>exact @zyL _ (Classical.propDecidable _) ⟨v,d,r,p,e⟩
 |false=>
  refine @zyD _ (Classical.propDecidable _) λ⟨v',d',r',p',e'⟩=>?_
  have:=r.inj r'
  subst this
  exact Bool.noConfusion (zmx I n _ _ _ _ _ _ p.vw p'.vw e e')
theorem zdI(I:Inv X pins σ H s)(hk:KdOk X kd){n:Nat}{x:D}{vs:List V}{us:List Value}{ds:List D}{b:Bool}(hv:Vals vs us)(h:RpL X.K kd O H vs ds)(e:anyF (λy=>eqF n y x) ds=some b):us.any (eqW X.K kd O H n x)=b:=
 RpL.ind (P:=λvs ds=>∀us b,Vals vs us->anyF (λy=>eqF n y x) ds=some b->us.any (eqW X.K kd O H n x)=b) (λus b hv e=>by cases e;cases hv;rfl) (λ{v d vs ds} a _ ih us b hv h=>by
  cases hv with
  |cons r t=>
   obtain⟨b1,h1,h⟩:=bS_ (show(eqF n _ x).bind _=_ from h)
   obtain⟨c1,h2,h⟩:=bS_ h
   cases h
   rw[List.any_cons,zgI I hk r a h1,ih _ _ t h2]) h us b hv e
theorem XC{f:D->Option Bool}:∀{ds:List D}{b:Bool},anyF f ds=some b->∀d ∈ ds,∃c,f d=some c
 | [],_,_,d,hd=>by simp at hd
 |x::r,b,h,d,hd=>by
  obtain⟨b1,h1,h⟩:=bS_ (show(f x).bind _=_ from h)
  obtain⟨c1,h2,h⟩:=bS_ h
  rcases zI.mp hd with e|e
  · subst e;exact⟨b1,h1⟩
  · exact XC h2 d e
theorem zbJ(I:Inv X pins σ H s)(hk:KdOk X kd){n:Nat}{A:Around}(hu:A.units+n<cLine){x:V}{v:Value}{d:D}(vx:Vw X.K kd O H x d)(rx:RelV x v){vs:List V}{us:List Value}{ds:List D}(hv:Vals vs us)(h:RpL X.K kd O H vs ds)(k:∀e ∈ ds,∃c,eqF n e d=some c):∀u ∈ us,SeqAt.EqAt A s u v (eqW X.K kd O H n d u):=
 RpL.ind (P:=λvs ds=>∀us,Vals vs us->(∀e ∈ ds,∃c,eqF n e d=some c)->∀u ∈ us,SeqAt.EqAt A s u v (eqW X.K kd O H n d u)) (λus hv _ u hu=>by cases hv;simp at hu) (λa q ih us hv h u hm=>by
  cases hv with
  |cons r t=>
   rcases zI.mp hm with e|e
   · subst e
     obtain⟨c,hc⟩:=h _ zzC
     rw[zgI I hk r a hc]
     exact(zhf I n A _ _ _ _ _ _ _ hu a.vw vx r rx hc).eq
   · exact ih _ t (λe he=>h e (zzA _ he)) u e) h us hv k
theorem zfg{A:Around}{E:Value->Shared->Prop}{x:V}{v:Value}{b c:Bool}{d:D}{Q:Bool->Shared->Prop}(vx:Vw X.K kd O H x d)(rx:RelV x v)(e:isP d (.bl b)=some c)(h:Q c s):wpAny (model X.prog X.w) A (isSame v (.bool b)) Q E s:=by
 cases vx with
 |non=>cases rx;cases e;exact zxC h
 |bl k=>
  cases rx
  have e:some (k==b)=some c:=e
  cases e
  refine zxC ?_
  cases k<;>cases b<;>exact h
 |int=>obtain⟨t,rfl⟩:=rx;cases e;exact zxC h
 |str=>obtain⟨t,rfl⟩:=rx;cases e;exact zxC h
 |tup=>cases rx;cases e;exact zxC h
 |lst=>cases rx;cases e;exact zxC h
 |dct=>cases rx;cases e;exact zxC h
 |cl=>cases rx;cases e;exact zxC h
 |ob=>cases rx;cases e;exact zxC h
 |dt=>cases rx;cases e;exact zxC h
theorem Xo(hk:KdOk X kd)(hu:X.A.units+100<cLine)(op:CmpOp):OpD X kd (compareOp op) (zQ op):=by
 intro pins s σ H x y v u Q I rx ry h
 obtain⟨O,d,e,r,ht,vx,vy,he,q⟩:=h
 cases op with
 |Eq=>
  obtain⟨b,h1,he⟩:=bS_ (show(eqF 60 d e).bind _=_ from he)
  cases he
  exact(zhf I 60 X.A x y d e v u b (by omega) vx vy rx ry h1).rc _ _ _ _ (wV I (yN q (.bl _)) rfl)
 |NotEq=>
  obtain⟨b,h1,he⟩:=bS_ (show(eqF 60 d e).bind _=_ from he)
  cases he
  exact(zhf I 60 X.A x y d e v u b (by omega) vx vy rx ry h1).ne _ _ _ _ (wV I (yN q (.bl _)) rfl)
 |Lt=>
  obtain⟨i,j,rfl,rfl,he⟩:=X7 vx vy he
  cases he
  exact zsy pins s σ H _ _ v u Q I rx ry ⟨_,_,rfl,rfl,yN q (.bl _)⟩
 |LtE=>
  obtain⟨i,j,rfl,rfl,he⟩:=X7 vx vy he
  cases he
  exact zsd pins s σ H _ _ v u Q I rx ry ⟨_,_,rfl,rfl,yN q (.bl _)⟩
 |Gt=>
  obtain⟨i,j,rfl,rfl,he⟩:=X7 vx vy he
  cases he
  exact zrx pins s σ H _ _ v u Q I rx ry ⟨_,_,rfl,rfl,yN q (.bl _)⟩
 |GtE=>
  obtain⟨i,j,rfl,rfl,he⟩:=X7 vx vy he
  cases he
  exact zrZ pins s σ H _ _ v u Q I rx ry ⟨_,_,rfl,rfl,yN q (.bl _)⟩
 |In=>
  obtain⟨b,h1,he⟩:=bS_ (show(inP d e).bind _=_ from he)
  cases he
  cases vy with
  |lst hs rl=>
   cases ry
   obtain⟨its,rv,p,_⟩:=I.list hs.sq
   refine SeqAt.in_listAt (eqW X.K kd O H 50 d) p.isList (λw hw=>zbJ I hk (by show X.A.units+1+50<cLine;omega) vx rx rv rl (XC h1) w (by simpa using hw)) ?_
   have:=zdI I hk rv rl h1
   rw[show its.toArray.any (eqW X.K kd O H 50 d)=b by rw[<-this];simp]
   exact wV (I) (yN q (.bl _)) rfl
  |tup rp hs rl=>
   cases ry
   obtain⟨its,rv,p,_⟩:=I.tuple hs
   refine SeqAt.in_tupleAt (eqW X.K kd O H 50 d) p (λw hw=>zbJ I hk (by show X.A.units+1+50<cLine;omega) vx rx rv rl (XC h1) w (by simpa using hw)) ?_
   have:=zdI I hk rv rl h1
   rw[show its.toArray.any (eqW X.K kd O H 50 d)=b by rw[<-this];simp]
   exact wV (I) (yN q (.bl _)) rfl
  |str z=>
   cases vx with
   |str i=>cases h1;exact zkD pins s σ H _ _ v u Q I rx ry ⟨_,_,rfl,rfl,yN q (.bl _)⟩
   |_=>cases h1
  |dct hs rm=>
   cases ry
   obtain⟨k,k1,h1⟩:=bS_ h1
   cases h1
   obtain⟨z,hd,vs,rel,dd⟩:=zgc I hk hs
   have ek:x=kV k:=by
    cases vx with
    |int i=>cases k1;rfl
    |str i=>cases k1;rfl
    |_=>cases k1
   subst ek
   refine wpAny_in_of (zcW rx) hd dd.mapOf ?_
   rw[<-(rel.val k).isSome_eq]
   rcases zgL k rm with⟨v1,d1,e1,e2,_⟩|⟨e1,e2⟩
   · rw[e1];rw[e2]at q;exact wV (I.tok _) (yN q (.bl _)) rfl
   · rw[e1];rw[e2]at q;exact wV (I.tok _) (yN q (.bl _)) rfl
  |dt hH l rl=>
   cases ry
   obtain⟨k,k1,h1⟩:=bS_ h1
   cases h1
   obtain⟨b,rfl,hb⟩:=zal vx k1
   refine zsG (by show X.A.units+1<cLine;omega) I (zgw.t hH hb) rx λs' I'=>?_
   rcases ziA k rl l with⟨v1,d1,e1,e2,_⟩|⟨e1,e2⟩
   · rw[e1];rw[e2]at q;exact wV I' (yN q (.bl _)) rfl
   · rw[e1];rw[e2]at q;exact wV I' (yN q (.bl _)) rfl
  |_=>cases h1
 |NotIn=>
  obtain⟨b,h1,he⟩:=bS_ (show(inP d e).bind _=_ from he)
  cases he
  cases vy with
  |lst hs rl=>
   cases ry
   obtain⟨its,rv,p,_⟩:=I.list hs.sq
   refine SeqAt.notIn_listAt (eqW X.K kd O H 50 d) p.isList (λw hw=>zbJ I hk (by show X.A.units+1+50<cLine;omega) vx rx rv rl (XC h1) w (by simpa using hw)) ?_
   have:=zdI I hk rv rl h1
   rw[show its.toArray.any (eqW X.K kd O H 50 d)=b by rw[<-this];simp]
   exact wV (I) (yN q (.bl _)) rfl
  |tup rp hs rl=>
   cases ry
   obtain⟨its,rv,p,_⟩:=I.tuple hs
   refine SeqAt.notIn_tupleAt (eqW X.K kd O H 50 d) p (λw hw=>zbJ I hk (by show X.A.units+1+50<cLine;omega) vx rx rv rl (XC h1) w (by simpa using hw)) ?_
   have:=zdI I hk rv rl h1
   rw[show its.toArray.any (eqW X.K kd O H 50 d)=b by rw[<-this];simp]
   exact wV (I) (yN q (.bl _)) rfl
  |str z=>
   cases vx with
   |str i=>cases h1;exact zgO pins s σ H _ _ v u Q I rx ry ⟨_,_,rfl,rfl,yN q (.bl _)⟩
   |_=>cases h1
  |dct hs rm=>
   cases ry
   obtain⟨k,k1,h1⟩:=bS_ h1
   cases h1
   obtain⟨z,hd,vs,rel,dd⟩:=zgc I hk hs
   have ek:x=kV k:=by
    cases vx with
    |int i=>cases k1;rfl
    |str i=>cases k1;rfl
    |_=>cases k1
   subst ek
   refine wpAny_notIn_of (zcW rx) hd dd.mapOf ?_
   rw[<-(rel.val k).isSome_eq]
   rcases zgL k rm with⟨v1,d1,e1,e2,_⟩|⟨e1,e2⟩
   · rw[e1];rw[e2]at q;exact wV (I.tok _) (yN q (.bl _)) rfl
   · rw[e1];rw[e2]at q;exact wV (I.tok _) (yN q (.bl _)) rfl
  |dt hH l rl=>
   cases ry
   obtain⟨k,k1,h1⟩:=bS_ h1
   cases h1
   obtain⟨b,rfl,hb⟩:=zal vx k1
   refine zoV (by show X.A.units+1<cLine;omega) I (zgw.t hH hb) rx λs' I'=>?_
   rcases ziA k rl l with⟨v1,d1,e1,e2,_⟩|⟨e1,e2⟩
   · rw[e1];rw[e2]at q;exact wV I' (yN q (.bl _)) rfl
   · rw[e1];rw[e2]at q;exact wV I' (yN q (.bl _)) rfl
  |_=>cases h1
 |Is=>
  obtain⟨b,h1,he⟩:=bS_ (show(isP d e).bind _=_ from he)
  cases he
  cases vy with
  |non=>
   refine zrq pins s σ H _ _ v u Q I rx ry ⟨rfl, ?_⟩
   have:decide (x=V.non)=b:=by cases vx<;>(cases h1;rfl)
   rw[this]
   exact yN q (.bl b)
  |bl c=>
   cases ry
   exact zxB (zfg vx rx h1 (zxC (wV I (yN q (.bl _)) rfl)))
  |_=>cases h1
 |IsNot=>
  obtain⟨b,h1,he⟩:=bS_ (show(isP d e).bind _=_ from he)
  cases he
  cases vy with
  |non=>
   refine zoD pins s σ H _ _ v u Q I rx ry ⟨rfl, ?_⟩
   have:decide (x=V.non)=b:=by cases vx<;>(cases h1;rfl)
   rw[this]
   exact yN q (.bl _)
  |bl c=>
   cases ry
   exact zxB (zfg vx rx h1 (zxC (wV I (yN q (.bl _)) rfl)))
  |_=>cases h1
end
theorem zjG{K:zC}{kd:KD}{O:Addr->Prop}{H:Hp}{vs:List V}{ds:List D}{i:Int}{d:D}(r:RpL K kd O H vs ds)(h:atI ds i=some d):∃v,atI vs i=some v/\Rp K kd O H v d:=by
 unfold atI at h ⊢
 obtain⟨j,h1,h2⟩:=bS_ h
 rw[r.length,h1]
 exact r.get h2
def imR(o:Option D):Option R0:=o.bind λd=>some (.im d)
def ixP(x y:D):Option R0:=match x with
 | .lst xs=>(asI y).bind λi=>imR (atI xs i)
 | .tup xs=>(asI y).bind λi=>imR (atI xs i)
 | .str x=>(asI y).bind λi=>if x.length<=sizeLine then(atI x.cps.toList i).bind λc=>some (.im (.str ⟨#[c]⟩))else none
 | .dct kvs=>(zlf y).bind λk=>imR (zgz kvs k)
 |_=>none
theorem zfj{o:Option D}{r:R0}(h:imR o=some r):∃d,o=some d/\r = .im d:=by
 obtain⟨d,h1,h2⟩:=bS_ (show o.bind _=_ from h)
 cases h2
 exact⟨d,h1,rfl⟩
section
variable{X:Cx}{kd:KD}
theorem zrp{K:zC}{O:Addr->Prop}{H:Hp}{x:V}{d:D}{k:Key}(vx:Vw K kd O H x d)(e:zlf d=some k):x=kV k:=by
 cases vx with
 |int i=>cases e;rfl
 |str i=>cases e;rfl
 |_=>cases e
theorem zty(hk:KdOk X kd):IxD X kd ixP:=by
 intro value slice pins s σ H x y v u Q I rx ry h hs
 obtain⟨O,d,e,r,ht,vx,vy,he,q⟩:=h
 cases vx with
 |lst hr rl=>
  obtain⟨i,h0,he⟩:=bS_ (show(asI e).bind _=_ from he)
  obtain⟨rfl,rfl⟩:=X8 vy h0
  obtain⟨d,h1,rfl⟩:=zfj he
  obtain⟨w,hw,rw'⟩:=zjG rl h1
  exact zbT value slice pins s σ H _ _ v u Q I rx ry ⟨_,_,_,w,rfl,rfl,hr.sq,hw,yN q rw'⟩ hs
 |tup rp hr rl=>
  obtain⟨i,h0,he⟩:=bS_ (show(asI e).bind _=_ from he)
  obtain⟨rfl,rfl⟩:=X8 vy h0
  obtain⟨d,h1,rfl⟩:=zfj he
  obtain⟨w,hw,rw'⟩:=zjG rl h1
  exact zjo value slice pins s σ H _ _ v u Q I rx ry ⟨_,_,_,w,rfl,rfl,hr,hw,yN q rw'⟩ hs
 |str z=>
  obtain⟨i,h0,he⟩:=bS_ (show(asI e).bind _=_ from he)
  obtain⟨rfl,rfl⟩:=X8 vy h0
  obtain⟨hz,he⟩:=ite_some' he
  obtain⟨c,h1,he⟩:=bS_ he
  cases he
  exact zqA value slice pins s σ H _ _ v u Q I rx ry ⟨_,_,c,rfl,rfl,hz,h1,yN q (.str _)⟩ hs
 |dct hr rm=>
  obtain⟨k,h1,he⟩:=bS_ (show(zlf e).bind _=_ from he)
  obtain⟨d,h2,rfl⟩:=zfj he
  cases rx
  obtain⟨z,hd,vs,rel,dd⟩:=zgc I hk hr
  have:=zrp vy h1
  subst this
  rcases zgL k rm with⟨v1,d1,e1,e2,rp⟩|⟨e1,e2⟩
  · rw[h2]at e2
    cases e2
    obtain⟨w',hw,rw'⟩:=zfl.some_of (v:=v1) (o:=valueAt vs k) (by rw[<-e1];exact rel.val k)
    exact tail_any dd.typeIs PySem.F.slot_dict_getitem.lookup (wpAny_getItem_of (zcW ry) dd.mapOf hw ⟨v1,H,I.tok _,rw',yN q rp⟩) hs
  · rw[h2]at e2;cases e2
 |_=>cases he
def cutD(xs:List D)(lo hi:Option Int):List D:=(xs.drop (HT.sIx xs.length 0 lo)).take (HT.sIx xs.length xs.length hi-HT.sIx xs.length 0 lo)
theorem zjC{K:zC}{O:Addr->Prop}{H:Hp}{vs:List V}{ds:List D}(r:RpL K kd O H vs ds)(lo hi:Option Int):RpL K kd O H (zhA vs lo hi) (cutD ds lo hi):=by
 unfold zhA cutD
 rw[r.length]
 exact(r.drop _).take _
def slP(x:D)(lo hi:Option Int):Option R0:=match x with
 | .lst xs=>some (.fl (cutD xs lo hi))
 | .tup xs=>if HT.sIx xs.length 0 lo=0/\HT.sIx xs.length xs.length hi=xs.length then none else some (.im (.tup (cutD xs lo hi)))
 |_=>none
abbrev OF:=AS->Option (Option Int×AS)
def oN:OF:=λas=>some (none,as)
def oS(f:EF):OF:=λas=>(f as).bind λp=>(rvI p.1).bind λi=>some (some i,p.2)
def fSl(fa:EF)(fl fh:OF)(g:D->Option Int->Option Int->Option R0):EF:=λas=>(fa as).bind λp=>(fl p.2).bind λl=>(fh l.2).bind λh=>(p.1.frz.view h.2).bind λx=>(g x.1 l.1 h.1).bind λr=>(wrap x.2 r).bind λz=>some (z,h.2)
def alO(K:zC)(kd:KD)(f:OF):TO:=λσ H Q=>∃F B ad as o as',Rel K kd F B [] ad as σ H/\f as=some (o,as')/\
 ∀ad' H',Rel K kd F B [] ad' as' σ H'->Grow (Gw [] ad) H (Gw [] ad') H'->Q o H'
@[irreducible] def AO(X:Cx)(kd:KD)(e:Option Expr)(f:OF):Prop:=PO X e (alO X.K kd f)
theorem zma{e:Option Expr}{t t':TO}(h:PO X e t)(k:∀σ H Q,t' σ H Q->t σ H Q):PO X e t':=λpins s σ H Q I q=>h pins s σ H Q I (k σ H Q q)
theorem zbw:AO X kd none oN:=by with_unfolding_all exact(zma znD λσ H Q h=>by
 obtain⟨F,B,ad,as,o,as',R,e,q⟩:=h
 cases e
 exact q ad H R Grow.refl)
theorem zre{K:zC}{F B:Addr->Prop}{T:List Addr}{ad:Ad}{σ:St}{H:Hp}{v:V}{st:Bool}{c:Int}(h:v7 K kd F B T ad σ H v (.ow (.lf st (.int c)))):T=[]/\v = .int c:=by
 have h:RoS K kd F B (Gw T ad) H v (.lf st (.int c)) T:=h
 generalize hT:Gw T ad=G at h
 cases h with
 |lf rp=>cases rp;exact⟨rfl,rfl⟩
theorem Zt{a:Expr}{fa:EF}(ha:AE X kd a fa):AO X kd (some a) (oS fa):=by with_unfolding_all exact(zma (znM ha) λσ H Q h=>by
 obtain⟨F,B,ad,as,o,as',R,e,q⟩:=h
 obtain⟨⟨p,as1⟩,h1,e⟩:=bS_ (show(fa as).bind _=_ from e)
 obtain⟨i,e1,e⟩:=bS_ e
 obtain⟨st,rfl⟩:=zqw e1
 cases e
 refine⟨F,B,ad,as,_,_,R,h1,λv T' ad1 H1 R1 rv1 g1=>?_⟩
 obtain⟨rfl,rfl⟩:=zre rv1
 exact⟨i,rfl,q ad1 H1 R1 g1⟩)
theorem ztw:SlR X (λx lo hi H Q=>∃O d r,(∀a,O a->H a≠none)/\Vw X.K kd O H x d/\slP d lo hi=some r/\RQ X.K kd O H Q r):=by
 intro pins s σ H x v vl vu lo hi sl Q I rx hs pl pu h
 obtain⟨O,d,r,ht,vx,he,q⟩:=h
 cases vx with
 |lst hr rl=>cases he;exact zov pins s σ H _ v vl vu lo hi sl Q I rx hs pl pu ⟨_,_,rfl,hr.sq,zca q (zjC rl lo hi)⟩
 |tup rp hr rl=>
  have he:(if _ then none else some _:Option R0)=_:=he
  split at he
  · cases he
  · rename_i hw
    cases he
    exact zpX pins s σ H _ v vl vu lo hi sl Q I rx hs pl pu ⟨_,_,rfl,hr,by rw[rl.length];exact hw,zgm ht q (zjC rl lo hi)⟩
 |_=>cases he
theorem XD{a:Expr}{lo hi:Option Expr}{fa:EF}{fl fh:OF}{pos p2:Pos}(ha:AE X kd a fa)(hl:AO X kd lo fl)(hh:AO X kd hi fh):AE X kd (.Subscript a (.Slice lo hi none p2) pos) (fSl fa fl fh slP):=by with_unfolding_all exact(xU (ziy ztw ha hl hh) λσ H Q h=>by
 obtain⟨F,B,ad,as,r,as',R,e,q⟩:=h
 obtain⟨⟨p,as1⟩,h1,e⟩:=bS_ (show(fa as).bind _=_ from e)
 obtain⟨⟨l,as2⟩,h2,e⟩:=bS_ e
 obtain⟨⟨u,as3⟩,h3,e⟩:=bS_ e
 obtain⟨⟨d,lv⟩,h4,e⟩:=bS_ e
 obtain⟨r',h5,e⟩:=bS_ e
 obtain⟨z,h6,e⟩:=bS_ e
 cases e
 refine Xn R h1 λv ad1 H1 R1 rv1 g1=>⟨F,B,ad1,as1,l,as2,R1,h2,λad2 H2 R2 g2=>⟨F,B,ad2,as2,u,_,R2,h3,λad3 H3 R3 g3=>?_⟩⟩
 exact⟨_,d,r',R3.tr _,v7.vw R3 ((rv1.grow g2).grow g3) h4,h5,Wa R3 h6 λw T' H' R' rv' g'=>q w T' ad3 H' R' rv' (((g1.trans g2).trans g3).trans g')⟩)
def zgv:D->Option R0
 | .int i=>some (.im (.int (-i)))
 |_=>none
theorem zrO:UnD X kd (unaryOp .USub) zgv:=by
 intro pins s σ H x v Q I rx h
 obtain⟨O,d,r,ht,vx,he,q⟩:=h
 cases vx with
 |int i=>cases he;exact zpO pins s σ H _ v Q I rx ⟨i,rfl,yN q (.int _)⟩
 |_=>cases he
def tyD:D->String
 | .non=>"NoneType" | .bl _=>"bool" | .int _=>"int" | .str _=>"str" | .tup _=>"tuple" | .lst _=>"list" | .dct _=>"dict"|_=>""
def ziR:D->Bool
 | .cl _=>false | .ob _ _ _=>false | .dt _ _=>false|_=>true
def zeJ(t c:String):Bool:=t==c||(t=="bool"&&c=="int")
def zbV(c:String):Bool:=c=="int"||c=="bool"||c=="str"||c=="list"||c=="tuple"||c=="dict"
theorem zqL(K:zC)(d:D)(c:String)(h:zbV c=true)(ho:ziR d=true):PySem.W.kitOne K (.type (tyD d)) (.type c)=some (zeJ (tyD d) c):=by
 have:c="int"\/c="bool"\/c="str"\/c="list"\/c="tuple"\/c="dict":=by
  unfold zbV at h
  simp only[Bool.or_eq_true,beq_iff_eq]at h
  rcases h with((((h|h)|h)|h)|h)|h<;>simp[h]
 rcases this with rfl|rfl|rfl|rfl|rfl|rfl<;>cases d<;>first|rfl|cases ho
theorem zql(hk:KdOk X kd){pins:List (Addr×Obj)}{σ:St}{H:Hp}{s:Shared}{O:Addr->Prop}{A:Around}{E:Value->Shared->Prop}{Q:Value->Shared->Prop}{c:String}{x:V}{u:Value}{d:D}(I:Inv X pins σ H s)(rx:RelV x u)(vx:Vw X.K kd O H x d)(hc:zbV c=true)(ho:ziR d=true)
 (h:∀tk,Q (.bool (zeJ (tyD d) c)) {s with toks:=tk}):wpAny (model X.prog X.w) A (call (.builtin "isinstance") [u,.type c]) Q E s:=by
 have e:=zqL X.K d c hc ho
 cases vx with
 |non=>cases rx;exact PySem.W.kia_one PySem.W.kitx_none I.kIn True.intro e (λz=>nomatch z) h
 |bl y=>cases rx;exact PySem.W.kia_one PySem.W.kitx_bool I.kIn True.intro e (λz=>nomatch z) h
 |int i=>obtain⟨t,rfl⟩:=rx;exact PySem.W.kia_one PySem.W.kitx_int I.kIn True.intro e (λz=>nomatch z) h
 |str y=>obtain⟨t,rfl⟩:=rx;exact PySem.W.kia_one PySem.W.kitx_str I.kIn True.intro e (λz=>nomatch z) h
 |lst hr rl=>
  cases rx
  obtain⟨its,rv,⟨o,n,h1,h2,_⟩,_⟩:=I.list hr.sq
  exact PySem.W.kia_one PySem.W.kitx_list I.kIn ⟨o,h1,h2⟩ e (λz=>nomatch z) h
 |tup rp hr rl=>
  cases rx
  obtain⟨its,rv,⟨o,h1,h2,_⟩,_⟩:=I.tuple hr
  exact PySem.W.kia_one PySem.W.kitx_tuple I.kIn ⟨o,h1,h2⟩ e (λz=>nomatch z) h
 |dct hr rm=>
  cases rx
  obtain⟨z,hd,vs,rel,⟨o,es,ep,h1,h2,_⟩⟩:=zgc I hk hr
  exact PySem.W.kia_one PySem.W.kitx_dict I.kIn ⟨o,h1,h2.1⟩ e (λz=>nomatch z) h
 |cl=>cases ho
 |ob=>cases ho
 |dt=>cases ho
end
def WL:List D->Option (List Int)
 | []=>some []
 | .int i::r=>(WL r).bind λs=>some (i::s)
 |_::_=>none
def zpP:List Int->Int
 | []=>0
 |x::r=>r.foldl (λa b=>if a<b then b else a) x
theorem zfY:∀(r:List Int) (x:Int),r.foldl (λa b=>if a<b then b else a) x ∈ x::r/\∀a ∈ x::r,a<=r.foldl (λa b=>if a<b then b else a) x
 | [],x=>⟨by simp,by simp⟩
 |y::r,x=>by
  rw[List.foldl_cons]
  obtain⟨h1,h2⟩:=zfY r (if x<y then y else x)
  refine⟨?_,λa ha=>?_⟩
  · rcases zI.mp h1 with e|e
    · rw[e];split<;>simp
    · exact zzA _ (zzA _ e)
  · have h3:=h2 _ zzC
    rcases zI.mp ha with e|e
    · subst e;exact Int.le_trans (by split<;>omega) h3
    · rcases zI.mp e with e|e
      · subst e;exact Int.le_trans (by split<;>omega) h3
      · exact h2 a (zzA _ e)
theorem zoj{ns:List Int}{M:Int}(h1:M ∈ ns)(h2:∀a ∈ ns,a<=M):zpP ns=M:=by
 cases ns with
 |nil=>simp at h1
 |cons x r=>
  obtain⟨k1,k2⟩:=zfY r x
  have a1:=k2 M h1
  have a2:=h2 _ k1
  show r.foldl _ x=M
  omega
def on1(f:D->Option R0)(ds:List D):Option R0:=match ds with
 | [x]=>f x
 |_=>none
theorem zfn{K:zC}{kd:KD}{O:Addr->Prop}{H:Hp}{f:D->Option R0}{xs:List V}{ds:List D}{r:R0}(vl:VwL K kd O H xs ds)(h:on1 f ds=some r):∃x d,xs=[x]/\Vw K kd O H x d/\f d=some r:=by
 cases vl with
 |nil=>cases h
 |cons a b=>
  cases b with
  |nil=>exact⟨_,_,rfl,a,h⟩
  |cons _ _=>cases h
def zsI:D->Option R0
 | .lst ds=>some (.im (.int ds.length))
 | .tup ds=>some (.im (.int ds.length))
 | .str x=>if x.length<=sizeLine then some (.im (.int x.length))else none
 | .dct kvs=>some (.im (.int kvs.length))
 |_=>none
def Yk:List D->Option R0:=on1 zsI
def ztr:D->Option R0
 | .int i=>some (.im (.int i))
 | .bl b=>some (.im (.int (if b then 1 else 0)))
 |_=>none
def tupP:List D->Option R0
 | [.lst ds]=>some (.im (.tup ds))
 | [.tup ds]=>some (.im (.tup ds))
 |_=>none
def zsT:D->Option R0
 | .lst ds=>some (.fl ds)
 | .tup ds=>some (.fl ds)
 |_=>none
def lstP:List D->Option R0:=on1 zsT
def zru(ds:List D):Option R0:=match ds with
 | [x,y]=>onI (λi j=>some (.im (.int (if j > i then j else i)))) x y
 | [x]=>(asL x).bind λds=>(WL ds).bind λns=>if 0<ns.length then some (.im (.int (zpP ns)))else none
 |_=>none
theorem zgD{K:zC}{kd:KD}{O:Addr->Prop}{H:Hp}{xs:List V}{d:D}(h:VwL K kd O H xs [d]):∃x,xs=[x]/\Vw K kd O H x d:=by
 cases h with
 |cons a b=>cases b;exact⟨_,rfl,a⟩
theorem zls{K:zC}{kd:KD}{O:Addr->Prop}{H:Hp}{vs:List V}{ds:List D}{ns:List Int}(h:RpL K kd O H vs ds)(e:WL ds=some ns):vs=ns.map V.int:=
 RpL.ind (P:=λvs ds=>∀ns,WL ds=some ns->vs=ns.map V.int) (λns e=>by cases e;rfl) (λ{v d vs ds} a _ ih ns e=>by
  cases d with
  |int i=>
   obtain⟨s,h1,h2⟩:=bS_ (show(WL _).bind _=_ from e)
   cases h2
   cases a
   rw[ih _ h1]
   rfl
  |_=>cases e) h ns e
section
variable{X:Cx}{kd:KD}
theorem vq(hk:KdOk X kd):CallD X kd (.builtin "len") Yk:=by
 intro pins s σ H xs us Q I r h
 obtain⟨O,ds,z,ht,vl,he,q⟩:=h
 obtain⟨x,d,rfl,vx,he⟩:=zfn vl he
 cases vx with
 |lst hr rl=>cases he;exact WF pins s σ H _ us Q I r ⟨_,_,rfl,.inl hr.sq,by rw[rl.length];exact yN q (.int _)⟩
 |tup rp hr rl=>cases he;exact WF pins s σ H _ us Q I r ⟨_,_,rfl,.inr hr,by rw[rl.length];exact yN q (.int _)⟩
 |str y=>
  obtain⟨c,rfl⟩:=yg he
  exact zgK pins s σ H _ us Q I r ⟨_,rfl,c,yN q (.int _)⟩
 |dct hr rm=>
  cases he
  obtain⟨u,rfl,ru⟩:=vals1 r
  cases ru
  obtain⟨z,hd,vs,rel,dd⟩:=zgc I hk hr
  refine call_len_dict hd dd (by rw[<-rel.length];rw[sizeLine_eq]at z;omega) ?_
  rw[<-rel.length,rm.length]
  exact⟨.int _,H,I.tok _,⟨_,rfl⟩,yN q (.int _)⟩
 |_=>cases he
theorem zfD:CallD X kd (.type "tuple") tupP:=by
 intro pins s σ H xs us Q I r h
 obtain⟨O,ds,z,ht,vl,he,q⟩:=h
 unfold tupP at he
 split at he
 · cases he
   obtain⟨x,rfl,vx⟩:=zgD vl
   cases vx with
   |lst hr rl=>exact zaB pins s σ H _ us Q I r ⟨_,_,rfl,.inl ⟨hr.sq,zgm ht q rl⟩⟩
 · cases he
   obtain⟨x,rfl,vx⟩:=zgD vl
   cases vx with
   |tup rp hr rl=>exact zaB pins s σ H _ us Q I r ⟨_,_,rfl,.inr ⟨hr,yN q rp⟩⟩
 · cases he
theorem zaf:CallD X kd (.type "list") lstP:=by
 intro pins s σ H xs us Q I r h
 obtain⟨O,ds,z,ht,vl,he,q⟩:=h
 obtain⟨x,d,rfl,vx,he⟩:=zfn vl he
 cases vx with
 |lst hr rl=>cases he;exact zbo pins s σ H _ us Q I r ⟨_,_,rfl,.inl hr.sq,zca q rl⟩
 |tup rp hr rl=>cases he;exact zbo pins s σ H _ us Q I r ⟨_,_,rfl,.inr hr,zca q rl⟩
 |_=>cases he
theorem zlm(hc:X.calm=true):CallD X kd (.builtin "max") zru:=by
 intro pins s σ H xs us Q I r h
 obtain⟨O,ds,z,ht,vl,he,q⟩:=h
 cases vl with
 |nil=>cases he
 |cons vx vl=>
  cases vl with
  |nil=>
   obtain⟨ds,h0,he⟩:=bS_ (show(asL _).bind _=_ from he)
   cases zcn h0
   obtain⟨ns,h1,he⟩:=bS_ he
   obtain⟨c,rfl⟩:=yg he
   cases vx with
   |lst hr rl=>
    obtain⟨u,rfl,ru⟩:=vals1 r
    cases ru
    obtain⟨its,rv,p,_⟩:=I.list hr.sq
    rw[zls rl h1]at rv
    have hi:=intsAre_of rv
    obtain⟨ys,e⟩:=hi.allInts.items
    have hns:ns=ys.toList.map (·.1):=by rw[<-hi.numsOf,<-nums_intItems,<-e]
    have hsz:0<ys.size:=by
     have h3:=c;rw[hns,zD,zyQ]at h3;exact h3
    have hl:=p.isList
    rw[e]at hl
    refine max_intList (I.ok.hd hc) hl hsz λv h' tk hv kp=>?_
    obtain⟨t,rfl⟩:=intItems_at hv
    obtain⟨k1,k2⟩:=argBest_gt (numAt ys) (ys.size-1)
    refine⟨.int (zpP ns),H,I.kept kp,⟨t, ?_⟩,yN q (.int _)⟩
    congr 1
    refine(zoj ?_ λa ha=>?_).symm
    · rw[hns,numAt_eq]
      have hlt:argBest (λi j=>decide (numAt ys i > numAt ys j)) (ys.size-1)<(ys.toList.map (·.1)).length:=by rw[zD,zyQ];omega
      rw[zyC,zzB hlt]
      exact zyV hlt
    · rw[hns]at ha
      obtain⟨j,hj,rfl⟩:=List.getElem_of_mem ha
      have hj':=hj
      rw[zD,zyQ]at hj
      have:=k2 j (by omega)
      rw[numAt_eq ys j,zyC,zzB hj']at this
      exact this
  |cons vy vl=>
   cases vl with
   |nil=>
    obtain⟨i,j,rfl,rfl,he⟩:=X7 vx vy he
    cases he
    exact zld hc pins s σ H _ us Q I r ⟨_,_,rfl,yN q (.int _)⟩
   |cons _ _=>cases he
end
def vQ(env:Env):List (Str×NameKind)->List (Str×Addr)->List (Str×Addr)
 | [],cs=>cs
 |(n,k)::r,cs=>vQ env r (if k == .free then((n,(env.cells.lookup n).getD 0)::cs)else cs)
theorem zan{scope:Scope}{env:Env}(h:∀x ∈ scope.names,x.2 = .free->∃c,env.cells.lookup x.1=some c):closureFor scope env=pure (vQ env scope.names []):=by
 have go:∀(names:List (Str×NameKind)) (cs:List (Str×Addr)) (f:Str×NameKind->List (Str×Addr)->Sem (ForInStep (List (Str×Addr)))),
  (∀name kind cs,f (name,kind) cs=if kind == .free then(do let a <-cellOf env name;pure (.yield ((name,a)::cs)))else pure (.yield cs))->
  (∀x ∈ names,x.2 = .free->∃c,env.cells.lookup x.1=some c)->(forIn names cs f:Sem (List (Str×Addr)))=pure (vQ env names cs):=by
  intro names
  induction names with
  |nil=>intro cs f _ _;rfl
  |cons x r ih=>
   intro cs f hf hx
   obtain⟨n,k⟩:=x
   rw[List.forIn_cons,hf]
   unfold vQ
   by_cases hk:(k == .free)=true
   · obtain⟨c,hc⟩:=hx (n,k) zzC (by simpa using hk)
     rw[if_pos hk,if_pos hk]
     have e:cellOf env n=pure c:=by unfold cellOf;rw[hc]
     rw[e,hc]
     exact ih _ f hf λy hy=>hx y (zzA _ hy)
   · rw[if_neg hk,if_neg hk]
     exact ih _ f hf λy hy=>hx y (zzA _ hy)
 simp only[closureFor]
 rw[go scope.names [] _ (λname kind cs=>?_) h]
 · rfl
 · rfl
theorem zfR{env:Env}:∀(names:List (Str×NameKind)) (cs:List (Str×Addr)) (p:Str×Addr),p ∈ vQ env names cs->p ∈ cs\/((p.1,NameKind.free) ∈ names/\p.2=(env.cells.lookup p.1).getD 0)
 | [],_,_,h=>.inl h
 |(n,k)::r,cs,p,h=>by
  unfold vQ at h
  rcases zfR r _ p h with h|h
  · by_cases hk:(k == .free)=true
    · rw[if_pos hk]at h
      rcases zI.mp h with e|h
      · subst e
        have:k = .free:=by simpa using hk
        subst this
        exact .inr ⟨zzC,rfl⟩
      · exact .inl h
    · rw[if_neg hk]at h;exact .inl h
  · exact .inr ⟨zzA _ h.1,h.2⟩
theorem zfd{env:Env}:∀(names:List (Str×NameKind)) (cs:List (Str×Addr)) (p:Str×Addr),p ∈ cs->p ∈ vQ env names cs
 | [],_,_,h=>h
 |(n,k)::r,cs,p,h=>by
  unfold vQ
  refine zfd r _ p ?_
  split
  · exact zzA _ h
  · exact h
theorem zgh{env:Env}:∀(names:List (Str×NameKind)) (cs:List (Str×Addr)) (x:Str),(x,NameKind.free) ∈ names->(x,(env.cells.lookup x).getD 0) ∈ vQ env names cs
 |(n,k)::r,cs,x,h=>by
  unfold vQ
  rcases zI.mp h with e|h
  · cases e
    exact zfd r _ _ (by simp)
  · exact zgh r _ x h
theorem Xm{α:Type}{x:Str}{a:α}:∀{l:List (Str×α)},(∀p ∈ l,p.1=x->p.2=a)->(∃b,(x,b) ∈ l)->l.lookup x=some a
 | [],_,h=>by obtain⟨_,h⟩:=h;cases h
 |(k,v)::r,u,h=>by
  rw[List.lookup_cons]
  cases hb:x==k with
  |true=>
   have:=u (k,v) zzC (beq_iff_eq.mp hb).symm
   exact congrArg some this
  |false=>
   refine Xm (λp hp=>u p (zzA _ hp)) ?_
   obtain⟨b,h⟩:=h
   rcases zI.mp h with e|h
   · cases e;simp at hb
   · exact⟨b,h⟩
theorem zco:∀(names:List (Str×NameKind)) (h:Heap) (acc:List (Str×Addr)) (p:Str×Addr),p ∈ cellsFrom h.objs.size names acc->
 p ∈ acc\/((p.1,NameKind.cell) ∈ names/\(pushCells h names).IsCell p.2 none/\h.objs.size<=p.2)
 | [],_,_,_,m=>.inl m
 |(n,k)::r,h,acc,p,m=>by
  unfold cellsFrom at m
  unfold pushCells
  split at m
  · rename_i hk
    rw[if_pos hk]
    have e:(h.push {cls:=.type "cell",data:=.cell none}).objs.size=h.objs.size+1:=zxI ..
    rw[<-e]at m
    rcases zco r _ _ p m with m|⟨m1,m2,m3⟩
    · rcases zI.mp m with e2|m
      · subst e2
        have:k = .cell:=by simpa using hk
        subst this
        refine .inr ⟨zzC, ?_,zzK _⟩
        have z:(h.push {cls:=.type "cell",data:=.cell none}).IsCell h.objs.size none:=⟨_,zxF _ rfl,rfl⟩
        exact z.keeps (pushCells_keeps r _)
      · exact .inl m
    · exact .inr ⟨zzA _ m1,m2,by rw[e]at m3;omega⟩
  · rename_i hk
    rw[if_neg hk]
    rcases zco r h acc p m with m|⟨m1,m2,m3⟩
    · exact .inl m
    · exact .inr ⟨zzA _ m1,m2,m3⟩
theorem Wd:∀(names:List (Str×NameKind)) (n:Nat) (acc:List (Str×Addr)) (p:Str×Addr),p ∈ acc->p ∈ cellsFrom n names acc
 | [],_,_,_,m=>m
 |(_,k)::r,n,acc,p,m=>by
  unfold cellsFrom
  split
  · exact Wd r _ _ p (zzA _ m)
  · exact Wd r _ _ p m
theorem zcz:∀(names:List (Str×NameKind)) (n:Nat) (acc:List (Str×Addr)) (x:Str),(x,NameKind.cell) ∈ names->∃c,(x,c) ∈ cellsFrom n names acc
 |(y,k)::r,n,acc,x,m=>by
  unfold cellsFrom
  rcases zI.mp m with e|m
  · cases e
    rw[if_pos (by decide)]
    exact⟨n,Wd r _ _ _ zzC⟩
  · split
    · exact zcz r _ _ x m
    · exact zcz r _ _ x m
theorem zcF:∀(names:List (Str×NameKind)) (n:Nat) (acc:List (Str×Addr)),(∀p ∈ acc,p.2<n)->(∀p ∈ acc,∀q ∈ acc,p.2=q.2->p.1=q.1)->∀p ∈ cellsFrom n names acc,∀q ∈ cellsFrom n names acc,p.2=q.2->p.1=q.1
 | [],_,_,_,h=>h
 |(y,k)::r,n,acc,lt,h=>by
  unfold cellsFrom
  split
  · refine zcF r (n+1) _ (λp m=>?_) (λp m q m' e=>?_)
    · rcases zI.mp m with z|m
      · subst z;exact Nat.lt_succ_self _
      · exact zyW (lt p m)
    · rcases zI.mp m with z|m
      · rcases zI.mp m' with z'|m'
        · rw[z,z']
        · subst z;have:=lt q m';rw[<-e]at this;exact absurd this (Nat.lt_irrefl _)
      · rcases zI.mp m' with z'|m'
        · subst z';have:=lt p m;rw[e]at this;exact absurd this (Nat.lt_irrefl _)
        · exact h p m q m' e
  · exact zcF r n acc lt h
section
variable{M:Model}{A:Around}{E:Value->Shared->Prop}{s:Shared}
def Vc(scope:Scope)(env:Env)(cl:List (Str×Addr))(L:Addr):Env:=
 {scope:=relabel scope env,locals:=L,globals:=env.globals,cells:=cellsFrom (L+1) scope.names cl,qual:=env.qual,func:=none,code:=env.code,frame:=env.frame,builtins:=env.builtins}
theorem zgq{scope:Scope}{env:Env}{cl:List (Str×Addr)}{Q:Env->Shared->Prop}
 (h:∀h' env',{env' with scope:=relabel scope env}=Vc scope env cl s.heap.objs.size->env'.locals=s.heap.objs.size->(∀b o,s.heap.get? b=some o->h'.get? b=some o)->h'.Ns s.heap.objs.size (λ_=>none)->
  (∀p ∈ cellsFrom (s.heap.objs.size+1) scope.names cl,p ∈ cl\/((p.1,NameKind.cell) ∈ scope.names/\h'.IsCell p.2 none/\s.heap.objs.size+1<=p.2))->Q env' {s with heap:=h'}):
 wpAny M A (newFunctionEnv scope env.globals cl [] env.qual none .none (some env)) Q E s:=by
 simp only[newFunctionEnv,Option.isSome_some,if_true]
 refine zxB (wpAny_alloc ?_)
 refine zxB (wpAny_layCells _ (λname kind cells=>by cases hkc:kind==NameKind.cell<;>simp[hkc]) _ _ _ _ ?_)
 have e:(s.heap.push {cls:=.type "dict",data:=.dict #[]}).objs.size=s.heap.objs.size+1:=zxI ..
 refine zxB (zxC (zxC (h _ _ ?_ rfl (λb o q=>pushCells_keeps _ _ b o (zxD _ q)) ((Heap.Ns.new s.heap (.type "dict")).keeps (pushCells_keeps _ _)) λp m=>?_)))
 · unfold Vc
   rw[<-e]
 · rw[<-e]at m
   rcases zco _ _ _ p m with m|⟨m1,m2,m3⟩
   · exact .inl m
   · exact .inr ⟨m1,m2,by rw[e]at m3;exact m3⟩
end
abbrev vH(X:Cx)(N:List Str)(scope:Scope)(cl:List (Str×Addr))(s:Shared)(H:Hp)(fp:List Addr):Cx:=
 {X with N:=N,s₀:=s,H₀:=H,env:=Vc scope X.env cl (s.heap.objs.size+1),outer:=X.stack,ex:=fp,fn:=λx=>scope.names.lookup x==some .cell,pn:=[],xe:=λ_ _=>False}
def zsh(σ:St):Option Nat->Option V
 |none=>none
 |some j=>(σ[j]?).getD none
def Zv(cap:List (Option Nat))(σ:St):St:=cap.map (zsh σ)
def xG(N XN:List Str)(names:List (Str×NameKind))(envNames:List (Str×NameKind))(cap:List (Option Nat)):Bool:=
 N.length==cap.length&&(N.zip cap).all (λp=>match p.2 with|none=>true|some j=>XN[j]? == some p.1&&names.contains (p.1,NameKind.free)) &&
 names.all (λp=>p.2 != .free||envNames.lookup p.1==some .cell||envNames.lookup p.1==some .free)&&decide (names.map (·.1)).Nodup
def PTs(X:Cx)(ifs:List Expr)(t:TT):Prop:=
 ∀(pins:List (Addr×Obj)) (s:Shared) (σ:St) (H:Hp) (Q:Bool->Hp->Prop),Inv X pins σ H s->t σ H Q->
  wpAny (model X.prog X.w) X.A (forIn ifs true λc r=>if r=true then do let ok <-isTrue c X.env (eval c X.env);pure (ForInStep.yield ok)else pure (ForInStep.yield r)) (TP X pins σ Q) X.xe s
theorem znX{X:Cx}:PTs X [] (λ_ H Q=>Q true H):=λpins s σ H Q I h=>wpAny_tests_nil ⟨H,I,h⟩
theorem zol{X:Cx}{c:Expr}{t:TT}(h:PT X c t):PTs X [c] t:=λpins s σ H Q I q=>wpAny_tests_one (h pins s σ H Q I q)
def zlx(wi:TI)(cap:List (Option Nat))(g:TG)(tt:TT)(te:TE):TE:=λσ H Q=>wi σ H λJ H1=>∃W:Nat->Nat->List V->Hp->Prop,(∃m,W 0 m [] H1)/\∀i m ys H,W i m ys H->ys.length<=sizeLine/\
 ((J.stop i H/\∀p,H p=none->Q (.ref p) (upd H p (.lst ys)))\/(J.go i H/\∀x H',J.yld i H x H'->g x (Zv cap σ) H' λσ2 H2=>(∀(j:Nat) v,(Zv cap σ)[j]? = some (some v)->σ2[j]? = some (some v))/\
   tt σ2 H2 λb H3=>if b=true then ys.length<sizeLine/\te σ2 H3 λy H4=>∃m',m'<m/\W (i+1) m' (ys++[y]) H4 else ∃m',m'<m/\W (i+1) m' ys H3))
section
variable{prog:Program}{w:World}{A:Around}{E:Value->Shared->Prop}{R:Result->Shared->Prop}{s:Shared}
theorem zhm{elt target iter:Expr}{ifs:List Expr}{scope:Scope}{pos:Pos}{it acc:Value}{env:Env}(I:Nat->Shared->Prop)
 (turn:∀n s (E:Value->Shared->Prop),I n s->wpAny (model prog w) A (pyNext it) (λr s₁=>match r with
  |none=>R (.ok .next) s₁
  |some v=>wpAny (model prog w) A (letOwnedTupleGo target it v) (λ_ s₁=>wpAny (model prog w) A (assign target env v) (λ_ s₂=>
   wpAny (model prog w) A (forIn ifs true λc r=>if r=true then do let ok <-isTrue c env (eval c env);pure (ForInStep.yield ok)else pure (ForInStep.yield r)) (λok s₃=>
    if ok=true then wpAny (model prog w) A (eval elt env) (λx s₄=>
     wpAny (model prog w) A (call (.builtin "list.append") [acc,x]) (λ_ s₅=>∃m,m<n/\I m s₅) E s₄) E s₃
    else ∃m,m<n/\I m s₃) E s₂) E s₁) E s₁) E s)
 (n:Nat) (h:I n s):
 codeAny (model prog w) A (.compLoop (.ListComp elt [⟨target,iter,ifs,0⟩] scope pos) 0 it acc env) R s:=by
 refine codeAny_loop rfl I (λn s hI=>?_) n h
 show wpAny _ A ((compTurn (.ListComp elt [⟨target,iter,ifs,0⟩] scope pos) 0 it acc env).onRaise (λx=>do noteFrame x env;theTreesLotGoes x)) _ _ s
 refine wpAny_noted ?_
 rw[compTurn_list]
 refine zxB (wpAny_standAt (zxB (zxJ (turn n s _ hI) (λr s₁ h₁=>?_) λ_ _ h'=>h')))
 cases r with
 |none=>exact zxC h₁
 |some v=>
  refine zxB (zxJ h₁ (λ_ s₁ h₁=>?_) λ_ _ h'=>h')
  refine zxB (zxJ h₁ (λ_ s₂ h₂=>zxB (zxJ h₂ (λok s₃ h₃=>?_) λ_ _ h'=>h')) λ_ _ h'=>h')
  cases ok with
  |false=>exact zxC ⟨rfl,h₃⟩
  |true=>
   exact zxB (zxB (zxJ h₃ (λx s₄ h₄=>zxB (zxJ h₄ (λ_ s₅ h₅=>zxC (zxC ⟨rfl,h₅⟩)) λ_ _ h'=>h')) λ_ _ h'=>h'))
end
structure CapOk(N XN:List Str)(names:List (Str×NameKind))(envNames:List (Str×NameKind))(cap:List (Option Nat)):Prop where
 len:N.length=cap.length
 at_:∀(i:Nat) x (j:Nat),N[i]? = some x->cap[i]? = some (some j)->XN[j]? = some x/\(x,NameKind.free) ∈ names
 fr:∀p ∈ names,p.2 = .free->envNames.lookup p.1=some .cell\/envNames.lookup p.1=some .free
 nd:(names.map (·.1)).Nodup
theorem zhG{N XN:List Str}{names envNames:List (Str×NameKind)}{cap:List (Option Nat)}(h:xG N XN names envNames cap=true):CapOk N XN names envNames cap:=by
 unfold xG at h
 simp only[zzZ,beq_iff_eq,List.all_eq_true,decide_eq_true_eq]at h
 obtain⟨⟨⟨h1,h2⟩,h3⟩,h4⟩:=h
 refine⟨h1,λi x j e1 e2=>?_,λp hp e=>?_,h4⟩
 · have m:(x,some j) ∈ N.zip cap:=zzX (i:=i) (by rw[List.getElem?_zip_eq_some];exact⟨e1,e2⟩)
   have:=h2 _ m
   simp only[zzZ,beq_iff_eq]at this
   exact⟨this.1,by simpa using this.2⟩
 · have:=h3 p hp
   rw[e]at this
   simpa using this
theorem zgG{names:List (Str×NameKind)}(h:(names.map (·.1)).Nodup){x:Str}{k k':NameKind}(m:(x,k) ∈ names)(m':(x,k') ∈ names):k=k':=by
 induction names with
 |nil=>cases m
 |cons p r ih=>
  obtain⟨h1,h2⟩:=zzT.mp (show(p.1::r.map (·.1)).Nodup from h)
  rcases zI.mp m with e|m
  · rcases zI.mp m' with e'|m'
    · rw[<-e]at e';cases e';rfl
    · exact absurd (zyZ.mpr ⟨_,m',by rw[<-e]⟩) h1
  · rcases zI.mp m' with e'|m'
    · exact absurd (zyZ.mpr ⟨_,m,by rw[<-e']⟩) h1
    · exact ih h2 m m'
theorem zcE{names:List (Str×NameKind)}(h:(names.map (·.1)).Nodup){x:Str}{k:NameKind}(m:(x,k) ∈ names):names.lookup x=some k:=
 Xm (λp hp e=>by obtain⟨y,k'⟩:=p;cases(show y=x from e);exact zgG h hp m) ⟨k,m⟩
theorem VN{env:Env}{scope:Scope}(x:Str):(relabel scope env).names.lookup x=(scope.names.lookup x).map λk=>if(k == .free&&env.scope.kind == .function&&env.kindOf x==some .cell)=true then NameKind.cell else k:=by
 unfold relabel
 show(scope.names.map _).lookup x=_
 generalize scope.names=names
 induction names with
 |nil=>rfl
 |cons p r ih=>
  obtain⟨n,k⟩:=p
  rw[zyP,List.lookup_cons (k:=n) (as:=r)]
  cases hb:x==n with
  |true=>
   have e:x=n:=beq_iff_eq.mp hb
   subst e
   show List.lookup x ((if(k==NameKind.free&&env.scope.kind == .function&&env.kindOf x==some .cell)=true then(x,NameKind.cell)else(x,k))::_)=_
   show _=some (if(k==NameKind.free&&env.scope.kind == .function&&env.kindOf x==some .cell)=true then NameKind.cell else k)
   split
   · rw[List.lookup_cons,hb]
   · rw[List.lookup_cons,hb]
  |false=>
   show List.lookup x ((if(k==NameKind.free&&env.scope.kind == .function&&env.kindOf n==some .cell)=true then(n,NameKind.cell)else(n,k))::_)=_
   split
   · rw[List.lookup_cons,hb];exact ih
   · rw[List.lookup_cons,hb];exact ih
theorem ziQ{X:Cx}{pins:List (Addr×Obj)}{σ:St}{H:Hp}{s:Shared}{N:List Str}{scope:Scope}{cap:List (Option Nat)}{fp:List Addr}{h':Heap}(I:Inv X pins σ H s)(C:CapOk N X.N scope.names X.env.scope.names cap)(hk:scope.kind = .function)
 (hf:∀b ∈ fp,zds X pins H b) (ho:∀b ∈ fp,∃o,s.heap.get? b=some o)
 (old:∀b o,s.heap.get? b=some o->h'.get? b=some o) (ns:h'.Ns (s.heap.objs.size+1) (λ_=>none))
 (hc:∀p ∈ cellsFrom (s.heap.objs.size+1+1) scope.names (vQ X.env scope.names []),p ∈ vQ X.env scope.names []\/((p.1,NameKind.cell) ∈ scope.names/\h'.IsCell p.2 none/\s.heap.objs.size+1+1<=p.2)):
 Inv (vH X N scope (vQ X.env scope.names []) s H fp) [] (Zv cap σ) H {s with heap:=h'}:=by
 have has:∀x,(x,NameKind.free) ∈ scope.names->∃c,X.env.cells.lookup x=some c:=λx m=>I.ok.has x (C.fr _ m rfl)
 have clo:∀p ∈ vQ X.env scope.names [],X.env.cells.lookup p.1=some p.2/\(p.1,NameKind.free) ∈ scope.names:=λp m=>by
  rcases zfR _ _ p m with z|⟨z1,z2⟩
  · cases z
  · obtain⟨c,e⟩:=has _ z1
    rw[e]at z2
    exact⟨by rw[e];exact congrArg some z2.symm,z1⟩
 have look:∀x c,(cellsFrom (s.heap.objs.size+1+1) scope.names (vQ X.env scope.names [])).lookup x=some c->(X.env.cells.lookup x=some c/\(x,NameKind.free) ∈ scope.names)\/((x,NameKind.cell) ∈ scope.names/\h'.IsCell c none/\s.heap.objs.size+1+1<=c):=λx c e=>by
  rcases hc _ (mem_of_lookup e)with m|m
  · exact .inl (clo _ m)
  · exact .inr m
 have lt:∀x c,X.env.cells.lookup x=some c->c<s.heap.objs.size:=λx c e=>by obtain⟨v,z⟩:=I.cell x c e;exact z.lt
 have lookF:∀x,(x,NameKind.free) ∈ scope.names->∃c,(cellsFrom (s.heap.objs.size+1+1) scope.names (vQ X.env scope.names [])).lookup x=some c/\X.env.cells.lookup x=some c:=λx m=>by
  obtain⟨c,e⟩:=has x m
  have m1:=Wd scope.names (s.heap.objs.size+1+1) _ _ (zgh (env:=X.env) scope.names [] x m)
  refine⟨c,Xm (λp hp ep=>?_) ⟨_,m1⟩,e⟩
  rcases hc p hp with z|z
  · have:=(clo p z).1
    rw[ep,e]at this
    exact(zzW this).symm
  · rw[ep]at z
    exact absurd (zgG C.nd z.1 m) (by decide)
 have kinds:∀x,((relabel scope X.env).names.lookup x=some .cell\/(relabel scope X.env).names.lookup x=some .free)->(x,NameKind.free) ∈ scope.names\/(x,NameKind.cell) ∈ scope.names:=λx h=>by
  rw[VN]at h
  cases e:scope.names.lookup x with
  |none=>rw[e]at h;rcases h with h|h<;>cases h
  |some k=>
   have m:=mem_of_lookup e
   cases k with
   |free=>exact .inl m
   |cell=>exact .inr m
   |_=>rw[e]at h;rcases h with h|h<;>(simp at h)
 have lsz:s.heap.objs.size+1<h'.objs.size:=ns.lt
 refine⟨⟨I.ok.mod,hk,I.ok.glob,I.ok.blt,zyT _, ?_, ?_, ?_,I.ok.hd,I.ok.frames,.inl rfl, ?_,I.bs,zzL I.ok.bsz I.sz, ?_, ?_,I.stack,I.stkFree⟩,rfl,I.bare,(Un.kept old),⟨_,ns, ?_⟩, ?_,I.hok.fresh (zyT _), ?_,(λ_ z=>nomatch z),I.hok.kept old, ?_⟩
 · intro x y c e1 e2
   refine zcF scope.names (s.heap.objs.size+1+1) _ (λp m=>?_) (λp m q m' e=>?_) (x,c) (mem_of_lookup e1) (y,c) (mem_of_lookup e2) rfl
   · exact zyW (zyW (lt _ _ (clo p m).1))
   · refine I.ok.inj _ _ _ (clo p m).1 ?_
     rw[e];exact(clo q m').1
 · intro x h
   rcases kinds x h with m|m
   · obtain⟨c,e,_⟩:=lookF x m;exact⟨c,e⟩
   · obtain⟨c,e⟩:=zcz scope.names (s.heap.objs.size+1+1) (vQ X.env scope.names []) x m
     cases q:(cellsFrom (s.heap.objs.size+1+1) scope.names (vQ X.env scope.names [])).lookup x with
     |some c'=>exact⟨c',q⟩
     |none=>
      exfalso
      have:=List.lookup_eq_none_iff.mp q (x,c) e
      simp at this
 · intro x c hx e
   have hx:(scope.names.lookup x==some .cell)=true:=hx
   have m:=mem_of_lookup (beq_iff_eq.mp hx)
   rcases look x c e with z|z
   · exact absurd (zgG C.nd z.2 m) (by decide)
   · exact zzL (zzL (zyT _) (zyT _)) z.2.2
 · intro b hb
   obtain⟨o,e⟩:=ho b hb
   refine⟨zzN (zyW (zxE e)),λx c ec=>?_⟩
   rcases look x c ec with z|z
   · exact(hf b hb).2.2.2.2.1 x c z.1
   · have:=zxE e
     intro q;subst q
     exact absurd (zzH this (zzL (zzL (zyT _) (zyT _)) z.2.2)) (Nat.lt_irrefl _)
 · intro b o e hb
   rcases(hf b hb).2.2.2.1 with z|z
   · exact I.ok.noex b o e z
   · exact absurd (zzH (zxE e) (zzL I.ok.bsz z)) (Nat.lt_irrefl _)
 · intro b hb hm
   rcases zI.mp (I.stkSub b hm)with z|z
   · exact(hf b hb).2.1 z
   · exact(hf b hb).2.2.1 z
 · intro i x v e1 e2 e3
   have e2:(Zv cap σ)[i]? = some (some v):=e2
   unfold Zv at e2
   rw[zzF]at e2
   cases ec:cap[i]? with
   |none=>rw[ec]at e2;cases e2
   |some c=>
    cases c with
    |none=>rw[ec]at e2;cases e2
    |some j=>
     rw[ec]at e2
     have e2:(σ[j]?).getD none=some v:=zzW e2
     obtain⟨xn,m⟩:=C.at_ i x j e1 ec
     have es:σ[j]? = some (some v):=by
      cases q:σ[j]? with
      |none=>rw[q]at e2;cases e2
      |some y=>rw[q]at e2;exact congrArg some e2
     have kf:=C.fr _ m rfl
     obtain⟨mm,hn,hl⟩:=I.loc
     obtain⟨u,r,l⟩:=hl j x v xn es (by rcases kf with k|k;exact .inr (.inl k);exact .inr (.inr k))
     refine⟨u,r,.inr ⟨?_, ?_⟩⟩
     · show(relabel scope X.env).names.lookup x=some .cell\/(relabel scope X.env).names.lookup x=some .free
       rw[VN,zcE C.nd m]
       show some (if _ then _ else _)=_\/some (if _ then _ else _)=_
       split
       · exact .inl rfl
       · exact .inr rfl
     · obtain⟨c,ec,eo⟩:=lookF x m
       refine⟨c,ec, ?_⟩
       rcases l with⟨k1,_⟩|⟨_,c2,e4,z⟩
       · have k1:X.env.scope.names.lookup x=some .local:=k1
         rcases kf with k|k<;>(rw[k1]at k;cases k)
       · rw[eo]at e4;cases e4
         exact z.keeps old
 · intro x c e
   rcases look x c e with z|z
   · obtain⟨v,q⟩:=I.cell x c z.1;exact⟨v,q.keeps old⟩
   · exact⟨none,z.2.1⟩
 · intro x c e
   rcases look x c e with z|z
   · exact I.freeC x c z.1
   · exact I.hok.fresh (zzL (zzL (zyT _) (zyT _)) z.2.2)
 · show(Zv cap σ).length=N.length
   unfold Zv
   rw[zD,C.len]
abbrev lobj(its:List Value):Obj:={cls:=.type "list",data:=.seq its.toArray its.length}
section
variable{X:Cx}{pins:List (Addr×Obj)}{σ:St}{H2:Hp}{s2:Shared}{elt tg iter:Expr}{ifs:List Expr}{scope:Scope}{pos:Pos}{N:List Str}{cap:List (Option Nat)}{g:TG}{tt:TT}{te:TE}{wi:TI}
set_option maxHeartbeats 1000000
theorem zdO{J:It}{it:Addr}{fp:List Addr}{tn:Nat->Heap->Prop}{Q:VK}{R:Value->Addr->Result->Shared->Prop}{E:Value->Shared->Prop}
 (hc:X.calm=true) (C:CapOk N X.N scope.names X.env.scope.names cap) (hk:scope.kind = .function)
 (hg:∀cl s H fp,PG (vH X N scope cl s H fp) tg g) (ht:∀cl s H fp,PTs (vH X N scope cl s H fp) ifs tt) (he:∀cl s H fp,PE (vH X N scope cl s H fp) elt te)
 (I2:Inv X pins σ H2 s2) (T:Turn X.prog X.w X.K tg J fp it tn) (st2:tn 0 s2.heap) (f2:∀b ∈ fp,zds X pins H2 b)
 (W:Nat->Nat->List V->Hp->Prop) (m0:Nat) (w0:W 0 m0 [] H2)
 (turn:∀i m ys H,W i m ys H->ys.length<=sizeLine/\((J.stop i H/\∀p,H p=none->Q (.ref p) (upd H p (.lst ys)))\/(J.go i H/\∀x H',J.yld i H x H'->g x (Zv cap σ) H' λσ2 H2=>(∀(j:Nat) v,(Zv cap σ)[j]? = some (some v)->σ2[j]? = some (some v))/\
  tt σ2 H2 λb H3=>if b=true then ys.length<sizeLine/\te σ2 H3 λy H4=>∃m',m'<m/\W (i+1) m' (ys++[y]) H4 else ∃m',m'<m/\W (i+1) m' ys H3)))
 (fin:∀ys H3 s1 m,Inv X pins σ (upd H3 s2.heap.objs.size (.lst ys)) s1->s1.heap.Ns (s2.heap.objs.size+1) m->zds X pins (upd H3 s2.heap.objs.size (.lst ys)) (s2.heap.objs.size+1)->
  Q (.ref s2.heap.objs.size) (upd H3 s2.heap.objs.size (.lst ys))->R (.ref s2.heap.objs.size) (s2.heap.objs.size+1) (.ok .next) s1):
 wpAny (model X.prog X.w) X.A (newList []) (λacc s₃=>wpAny (model X.prog X.w) X.A (newFunctionEnv scope X.env.globals (vQ X.env scope.names []) [] X.env.qual none .none (some X.env)) (λcenv s₄=>
  codeAny (model X.prog X.w) X.A (.compStart (.ListComp elt [⟨tg,iter,ifs,0⟩] scope pos) 0 (.ref it) acc {cenv with scope:=relabel scope X.env}) (R acc cenv.locals) s₄) E s₃) E s2:=by
 refine zxG (zgq λh' env' eE eL old hns hcells=>?_)
 have e1:(s2.heap.push {cls:=.type "list",dict:=none,data:=.seq ([]:List Value).toArray}).objs.size=s2.heap.objs.size+1:=zxI ..
 dsimp only at eE eL old hns hcells
 rw[e1]at eE eL hns hcells
 have hD0:(s2.heap.push {cls:=.type "list",dict:=none,data:=.seq ([]:List Value).toArray}).get? s2.heap.objs.size=some (lobj []):=zxF _ rfl
 have hD:h'.get? s2.heap.objs.size=some (lobj []):=old _ _ hD0
 have old':∀b o,s2.heap.get? b=some o->h'.get? b=some o:=λb o q=>old b o (zxD _ q)
 have fex:∀b ∈ fp,∃o,s2.heap.get? b=some o:=λb hb=>by obtain⟨o,e,_⟩:=T.obj _ _ st2 b hb;exact⟨o,e⟩
 have flt:∀b ∈ fp,b<s2.heap.objs.size:=λb hb=>by obtain⟨o,e⟩:=fex b hb;exact zxE e
 have I':=ziQ I2 C hk f2 fex old' hns hcells
 rw[eE,eL]
 generalize hX:vH X N scope (vQ X.env scope.names []) s2 H2 fp=X' at I'
 have xP:X'.prog=X.prog:=by rw[<-hX]
 have xw:X'.w=X.w:=by rw[<-hX]
 have xK:X'.K=X.K:=by rw[<-hX]
 have xA:X'.A=X.A:=by rw[<-hX]
 have xe:X'.env=Vc scope X.env (vQ X.env scope.names []) (s2.heap.objs.size+1):=by rw[<-hX]
 have xL:X'.env.locals=s2.heap.objs.size+1:=by rw[xe];rfl
 have xfs:X'.fs=frs X.stack:=by rw[<-hX]
 have xex:X'.ex=fp:=by rw[<-hX]
 have xs:X'.s₀=s2:=by rw[<-hX]
 have xH:X'.H₀=H2:=by rw[<-hX]
 have xpn:X'.pn=[]:=by rw[<-hX]
 have xc:X'.calm=true:=by rw[<-hX];exact hc
 have xE:X'.xe=λ_ _=>False:=by rw[<-hX]
 have hg':PG X' tg g:=by rw[<-hX];exact hg _ _ _ _
 have ht':PTs X' ifs tt:=by rw[<-hX];exact ht _ _ _ _
 have he':PE X' elt te:=by rw[<-hX];exact he _ _ _ _
 have H2D:H2 s2.heap.objs.size=none:=I2.hok.fresh (zzK _)
 have Dfs:s2.heap.objs.size ∉ X'.fs:=by
  rw[xfs]
  intro hm
  rcases zI.mp (I2.stkSub _ hm)with z|z
  · exact absurd I2.lt (by rw[<-z];exact Nat.lt_irrefl _)
  · exact I2.nofs (zzK _) z
 have DL:s2.heap.objs.size≠X'.env.locals:=by rw[xL];exact zzN (Nat.lt_succ_self _)
 have pinD:∀{σ':St}{H':Hp}{s':Shared}{its:List Value}{ps:List (Addr×Obj)},Inv X' ps σ' H' s'->s'.heap.get? s2.heap.objs.size=some (lobj its)->H' s2.heap.objs.size=none->Inv X' [(s2.heap.objs.size,lobj its)] σ' H' s':=λI e n=>
  I.pins_of λp hp=>by
   cases zzO.mp hp
   exact⟨e,n,DL,Dfs,λv z=>by cases z⟩
 have stat:∀{H':Hp}{its:List Value},(∀b ∈ fp,H' b=none)->∀b ∈ fp,zds X' [(s2.heap.objs.size,lobj its)] H' b:=λhn b hb=>by
  refine⟨hn b hb, ?_, ?_,.inl (by rw[xex];exact hb),(I'.ok.exf b (by rw[xex];exact hb)).2,λp hp=>?_⟩
  · exact(I'.ok.exf b (by rw[xex];exact hb)).1
  · exact I'.ok.exfs b (by rw[xex];exact hb)
  · rw[xpn,List.nil_append]at hp
    cases zzO.mp hp
    exact Nat.ne_of_gt (flt b hb)
 have loop:∀(n:Nat) (s':Shared),(∃i ys its H3,Inv X' [(s2.heap.objs.size,lobj its)] (Zv cap σ) H3 s'/\tn i s'.heap/\(∀b ∈ fp,H3 b=none)/\Vals ys its/\W i n ys H3)->
  codeAny (model X.prog X.w) X.A (.compLoop (.ListComp elt [⟨tg,iter,ifs,0⟩] scope pos) 0 (.ref it) (.ref s2.heap.objs.size) (Vc scope X.env (vQ X.env scope.names []) (s2.heap.objs.size+1)))
   (R (.ref s2.heap.objs.size) (s2.heap.objs.size+1)) s':=by
  intro n s' h0
  refine zhm (λn s'=>∃i ys its H3,Inv X' [(s2.heap.objs.size,lobj its)] (Zv cap σ) H3 s'/\tn i s'.heap/\(∀b ∈ fp,H3 b=none)/\Vals ys its/\W i n ys H3) ?_ n h0
  clear h0 n s'
  rintro n s3 E' ⟨i,ys,its,H3,I3,st3,fr3,rv3,w3⟩
  obtain⟨hz,hstep⟩:=turn i n ys H3 w3
  rcases hstep with⟨stop,qn⟩|⟨go,step⟩
  · have:=T.done X' xP xw xK xc i _ s3 _ H3 E' I3 (stat fr3) st3 stop
    rw[xA]at this
    refine zxJ this (λr s4 ⟨hr,I4⟩=>?_) λ_ _ z=>z
    subst hr
    obtain⟨gD,nD,_⟩:=I4.pin (s2.heap.objs.size,lobj its) (by rw[xpn];simp)
    obtain⟨m,hn,_⟩:=I4.loc
    rw[xL]at hn
    have b4:=I4.base
    rw[xfs,xex,xH,xs]at b4
    have nL:H3 (s2.heap.objs.size+1)=none:=by have:=I4.free;rw[xL]at this;exact this
    have neD:∀b o,s2.heap.get? b=some o->b≠s2.heap.objs.size:=λb o e=>zzN (zxE e)
    have neH:∀b u,H2 b=some u->b≠s2.heap.objs.size:=λb u e z=>by rw[z,H2D]at e;cases e
    have ne3:∀b u,H3 b=some u->b≠s2.heap.objs.size:=λb u e z=>by rw[z,nD]at e;cases e
    have hok4:=I4.hok
    rw[xP,xw]at hok4
    refine fin ys H3 s4 m (I2.call' (ch:=fp) ?_ ⟨b4.keep,b4.slot,λb o e n hx=>?_,b4.there,λb xs e=>?_,λb o u e=>?_,λb ps e=>?_⟩ ?_ I4.bare λb hb=>?_) hn (I2.fpOk (zyT _) (by rw[zV (Nat.ne_of_gt (Nat.lt_succ_self _))];exact nL)) (qn _ nD)
    · have:=I4.os;rw[xs]at this;exact this
    · rw[zV (neD b o e)];exact b4.free b o e n hx
    · rw[zV (neH b _ e)];exact b4.tups b xs e
    · rw[zV (neH b _ e)];exact b4.frzs b o u e
    · rw[zV (neH b _ e)];exact b4.tbls b ps e
    · intro b u e
      by_cases hb:b=s2.heap.objs.size
      · subst hb
        rw[yC]at e
        cases e
        exact⟨hz,its,its.length,rv3,gD⟩
      · rw[zV hb]at e
        exact(hok4 b u e).stay (λc v _ q=>q) (λc q=>by rw[zV (ne3 c _ q)];exact q) λc xs q=>by rw[zV (ne3 c _ q)];exact q
    · obtain⟨f0,f1,f3,f4,f5,f6⟩:=f2 b hb
      exact⟨f4,f1,f5,f6⟩
  · have:=T.item X' xP xw xK xc i _ s3 _ H3 E' I3 (stat fr3) st3 go
    rw[xA]at this
    refine zxJ this (λr s4 ⟨u,hr,h4⟩=>?_) λ_ _ z=>z
    subst hr
    refine zxJ h4 (λ_ s5 ⟨x,H5,I5,r5,y5,st5,fr5⟩=>?_) λ_ _ z=>z
    have I5':=I5.pinned (stat fr5) (T.obj _ _ st5)
    have h6:=hg' _ s5 _ H5 x u _ I5' r5 (step x H5 y5)
    rw[xP,xw,xA,xe,xE]at h6
    refine zxJ h6 (λ_ s6 ⟨σ6,H6,I6,cap6,q6⟩=>?_) λ_ _ z=>z.elim
    have h7:=ht' _ s6 σ6 H6 _ I6 q6
    rw[xP,xw,xA,xe,xE]at h7
    refine zxJ h7 (λb s7 ⟨H7,I7,q7⟩=>?_) λ_ _ z=>z.elim
    have keep:∀{H8:Hp}{s8:Shared},Inv X' ([(s2.heap.objs.size,lobj its)]++zeA fp s5.heap) σ6 H8 s8->Inv X' [(s2.heap.objs.size,lobj its)] (Zv cap σ) H8 s8/\tn (i+1) s8.heap/\∀b ∈ fp,H8 b=none:=λ{H8 s8} I8=>by
     refine⟨I8.unpinned.weak ?_ cap6,T.keep _ _ _ st5 λb hb o e=>(I8.pin (b,o) (zzI _ (zzI _ (Wj hb e)))).1,λb hb=>?_⟩
     · rw[I3.len];exact I8.len.symm
     · obtain⟨o,e,d⟩:=T.obj _ _ st5 b hb
       exact(I8.pin (b,o) (zzI _ (zzI _ (Wj hb e)))).2.1
    cases b with
    |false=>
     obtain⟨m',hm,w7⟩:=q7
     obtain⟨k1,k2,k3⟩:=keep I7
     exact⟨m',hm,i+1,ys,its,H7,k1,k2,k3,rv3,w7⟩
    |true=>
     obtain⟨hz2,q7⟩:=q7
     have h8:=he' _ s7 σ6 H7 _ I7 q7
     rw[xP,xw,xA,xe,xE]at h8
     show wpAny _ _ _ _ _ _
     refine zxJ h8 (λyv s8 ⟨y,H8,I8,ry,m',hm,w8⟩=>?_) λ_ _ z=>z.elim
     obtain⟨k1,k2,k3⟩:=keep I8
     obtain⟨gD,nD,_⟩:=k1.pin (s2.heap.objs.size,lobj its) (by rw[xpn];simp)
     have hl:=rv3.length
     refine append_at gD (λh9 sb gD9=>?_) (by rw[zzE];omega)
     have I9:Inv X' [] (Zv cap σ) H8 {s8 with heap:=h9}:=(k1.pins_of (pins':=[]) (λ_ z=>nomatch z)).turned (t':=s8.toks) (it:=s2.heap.objs.size) (λb o hb e=>(sb.2 b hb).trans e) nD DL (.inr (by rw[xs];exact zzK _)) (λx c ec z=>by
      obtain⟨v,o,ho,hd⟩:=k1.cell x c ec
      rw[z,gD]at ho
      cases ho
      cases hd) (λp hp=>by rw[xpn]at hp;cases hp)
     have gD9':h9.get? s2.heap.objs.size=some (lobj (its++[yv])):=by
      rw[gD9]
      congr 1
      show({cls:=.type "list",data:=.seq (its.toArray.push yv) (its.length+1)}:Obj)={cls:=.type "list",data:=.seq (its++[yv]).toArray (its++[yv]).length}
      rw[zzG,List.length_singleton,List.push_toArray]
     refine⟨m',hm,i+1,ys++[y],its++[yv],H8,pinD I9 gD9' nD,T.keep _ _ _ k2 λb hb o e=>(sb.2 b (zzN (flt b hb))).trans e,k3,rv3.append (.cons ry .nil),w8⟩
 have start:∃i ys its H3,Inv X' [(s2.heap.objs.size,lobj its)] (Zv cap σ) H3 {s2 with heap:=h'}/\tn i h'/\(∀b ∈ fp,H3 b=none)/\Vals ys its/\W i m0 ys H3:=
  ⟨0,[],[],H2,pinD I' hD H2D,T.keep _ _ _ st2 λb hb o e=>old' b o e,λb hb=>(f2 b hb).1,.nil,w0⟩
 exact codeAny_compStart_list (loop m0 _ start) (T.self _ 0 _ _ _ (T.keep _ _ _ st2 λb hb o e=>old' b o e) (loop m0 _ start))
theorem znE(hc:X.calm=true)(hi:PI X tg iter wi)(hk:scope.kind = .function)(hcap:xG N X.N scope.names X.env.scope.names cap=true)
 (hg:∀cl s H fp,PG (vH X N scope cl s H fp) tg g) (ht:∀cl s H fp,PTs (vH X N scope cl s H fp) ifs tt) (he:∀cl s H fp,PE (vH X N scope cl s H fp) elt te)
 (hs:∀x,foldedSetIterable iter X.env x=pure x):PE X (.ListComp elt [⟨tg,iter,ifs,0⟩] scope pos) (zlx wi cap g tt te):=by
 intro pins s σ H Q I h
 have C:=zhG hcap
 rw[eval_ListComp]
 refine wpAny_comprehension_free (use:=none) rfl hs (zan λx m e=>I.ok.has x.1 (C.fr x m e)) hk (λy m e=>zcE C.nd (by rw[<-e];exact m)) ?_
 refine thn (hi pins s σ H _ I h) λv s1 h1=>thn h1 λitv s2 h2=>?_
 obtain⟨it,fp,tn,J,H2,e,I2,T,st2,f2,W,⟨m0,w0⟩,turn⟩:=h2
 subst e
 refine zdO (R:=λacc C r s'=>compPost (model X.prog X.w) X.A X.xe none (EP X pins σ Q) acc C r s') hc C hk hg ht he I2 T st2 f2 W m0 w0 turn λys H3 s3 m I3 hn fl q=>?_
 refine⟨m,hn,λh' sb=>?_⟩
 obtain⟨f0,f1,f3,f4,f5,f6⟩:=fl
 exact⟨.ref s2.heap.objs.size,_,I3.turned (t':=s3.toks) (λb o hb e=>(sb.2 b hb).trans e) f0 f1 f4 f5 f6,rfl,q⟩
theorem znB{i:Nat}{y:Str}{py spos:Pos}(hN:X.N.Nodup)(hiy:X.N[i]? = some y)(hy:Loc X.env.scope y)(hf:X.fn y=true\/X.env.scope.names.lookup y=some .local)
 (hsw:swapsWith (.ListComp elt [⟨tg,iter,ifs,0⟩] scope pos) (some (.Name y py)) spos.line X.env=pure true)
 (hc:X.calm=true) (hi:PI X tg iter wi) (hk:scope.kind = .function) (hcap:xG N X.N scope.names X.env.scope.names cap=true)
 (hg:∀cl s H fp,PG (vH X N scope cl s H fp) tg g) (ht:∀cl s H fp,PTs (vH X N scope cl s H fp) ifs tt) (he:∀cl s H fp,PE (vH X N scope cl s H fp) elt te)
 (hs:∀x,foldedSetIterable iter X.env x=pure x):PS X (.Assign [.Name y py] (.ListComp elt [⟨tg,iter,ifs,0⟩] scope pos) spos) (zrv (zlx wi cap g tt te) (zhT i)):=by
 intro pins s σ H D I h
 have C:=zhG hcap
 rw[exec_Assign_Name_used _ _ _ _ hsw]
 refine zxB (wpAny_standAt (zxB ?_))
 show wpAny _ X.A (do let _ <-comprehension (.ListComp elt [⟨tg,iter,ifs,0⟩] scope pos) scope X.env _ (newList []) false (eval iter X.env) (some (assign (.Name y py) X.env))) _ _ s
 refine zxB (zxJ (wpAny_comprehension_free (use:=some (assign (.Name y py) X.env)) (Q:=λ_ s'=>SP X pins D .next s') rfl hs (zan λx m e=>I.ok.has x.1 (C.fr x m e)) hk (λy m e=>zcE C.nd (by rw[<-e];exact m)) ?_) (λ_ s' hq=>zxC (zxC hq)) λ_ _ e=>e)
 refine thn (hi pins s σ H _ I h) λv s1 h1=>thn h1 λitv s2 h2=>?_
 obtain⟨it,fp,tn,J,H2,e,I2,T,st2,f2,W,⟨m0,w0⟩,turn⟩:=h2
 subst e
 refine zdO (Q:=λx H1=>zhT i x σ H1 D.nx) (R:=λacc C r s'=>compPost (model X.prog X.w) X.A X.xe (some (assign (.Name y py) X.env)) (λ_ s'=>SP X pins D .next s') acc C r s') hc C hk hg ht he I2 T st2 f2 W m0 w0 turn λys H3 s3 m I3 hn fl q=>?_
 obtain⟨f0,f1,f3,f4,f5,f6⟩:=fl
 refine wpAny_assign_Name (zfQ I3 hN hiy hy (v:=.ref s2.heap.objs.size) rfl (λs4 I4 ⟨a,sb,ha⟩=>?_) hf)
 refine⟨m,hn.sameBut sb (λz=>?_),λh' sb'=>?_⟩
 · rcases ha with ha|ha
   · exact f1 (z.trans ha)
   · exact f5 y a ha z.symm
 · exact⟨_,_,I4.turned (t':=s4.toks) (λb o hb e=>(sb'.2 b hb).trans e) f0 f1 f4 f5 f6,q⟩
end
structure ItC(K:zC)(kd:KD)(F:Addr->Prop)(H:Hp)(J:It)(ds:List It1):Prop where
 all:∀(H2:Hp) (T:Addr->Prop),(∀b u,H b=some u->H2 b=some u)->(∀a,T a->H a=none/\H2 a≠none)->∀i,(i<ds.length->J.go i H2)/\(ds.length<=i->J.stop i H2)/\
  ∀v H3,J.yld i H2 v H3->(∀b o,H2 b=some o->H3 b=some o)/\∀x,ds[i]? = some x->Rp K kd (λa=>x.1=true/\(F a\/T a)) H3 v x.2
def alC(K:zC)(kd:KD)(f:IF):TI:=λσ H R=>∃F B ad as ds as',Rel K kd F B [] ad as σ H/\f as=some (ds,as')/\
 ∀J ad' H',Rel K kd F B [] ad' as' σ H'->Grow (Gw [] ad) H (Gw [] ad') H'->ItC K kd (Lv F B (Gw [] ad') true) H' J ds->R J H'
@[irreducible] def AIc(X:Cx)(kd:KD)(tg iter:Expr)(f:IF):Prop:=PI X tg iter (alC X.K kd f)
def zbZ(os:List O):List It1:=os.map λo=>match o with | .lf st d=>(st,d)|o=>(false,o.toD)
def ztD(as:AS):RV->Option (List It1)
 | .ow o=>zhR (o.str,o.toD)
 | .bo i=>match as[i]? with
  |some (some (.nd .ls os))=>some (zbZ os)
  |some (some (.nd .tp os))=>some (zbZ os)
  |_=>none
def Zh(f:EF):IF:=λas=>(f as).bind λp=>(ztD p.2 p.1).bind λds=>some (ds,p.2)
section
variable{K:zC}{kd:KD}{F B:Addr->Prop}{G:Addr->Prop}{T:List Addr}{ad:Ad}{as:AS}{σ:St}{H H':Hp}
inductive RpC(K:zC)(kd:KD)(F:Addr->Prop)(H:Hp):List V->List It1->Prop
 |nil:RpC K kd F H [] []
 |cons {v:V}{x:It1}{vs:List V}{ds:List It1}:Rp K kd (λa=>x.1=true/\F a) H v x.2->RpC K kd F H vs ds->RpC K kd F H (v::vs) (x::ds)
theorem RpC.length{vs:List V}{ds:List It1}(h:RpC K kd F H vs ds):vs.length=ds.length:=by
 induction h with
 |nil=>rfl
 |cons _ _ ih=>exact congrArg (· + 1) ih
theorem RpC.get{vs:List V}{ds:List It1}{i:Nat}{x:It1}(h:RpC K kd F H vs ds)(e:ds[i]? = some x):∃v,vs[i]? = some v/\Rp K kd (λa=>x.1=true/\F a) H v x.2:=by
 induction h generalizing i with
 |nil=>simp at e
 |cons h r ih=>
  cases i with
  |zero=>simp at e;subst e;exact⟨_,rfl,h⟩
  |succ i=>
   obtain⟨v,h1,h2⟩:=ih (i:=i) (by simpa using e)
   exact⟨v,by simpa using h1,h2⟩
theorem Rp.since{Ob:Addr->Prop}{v:V}{d:D}{T:Addr->Prop}(k:∀b u,H b=some u->H' b=some u)(hT:∀a,T a->H a=none)(h:Rp K kd Ob H v d):Rp K kd (Un2 Ob T) H' v d:=
 Rp.grow (F:=Ob) (W:=λ_=>False) (W':=T) (H':=H') ⟨λb u q _=>k b u q,λb z=>.inr (hT b z)⟩ (h.less λa z=>z.elim id False.elim)
theorem zea{st:Bool}{vs:List V}{ds:List D}(h:RpL K kd (Lv F B G st) H vs ds):RpC K kd (Lv F B G true) H vs (kids st ds):=
 RpL.ind (P:=λvs ds=>RpC K kd (Lv F B G true) H vs (kids st ds)) .nil (λ{v d vs ds} h _ ih=>by
  refine .cons (x:=(yc d||st,d)) ?_ ih
  cases e:yc d with
  |true=>exact h.flat e
  |false=>
   refine h.less λa z=>?_
   have zs:st=true:=z.1
   rw[zs];exact z.2) h
theorem zpc{vs:List V}{os:List O}{fp:List Addr}(h:vU K kd F B G H vs os fp):RpC K kd (Lv F B G true) H vs (zbZ os):=
 RoL.ind (P:=λvs os _=>RpC K kd (Lv F B G true) H vs (zbZ os)) .nil (λ{v o vs os fp fq} h _ ih=>by
  have ha:=zgB h
  refine .cons ?_ ih
  cases h with
  |lf rp=>exact rp.less λa z=>(by have zs:=z.1;dsimp only at zs;rw[zs];exact z.2)
  |ls=>exact ha.less λa z=>nomatch z.1
  |dc=>exact ha.less λa z=>nomatch z.1
  |ob=>exact ha.less λa z=>nomatch z.1
  |dt=>exact ha.less λa z=>nomatch z.1
  |tp=>exact ha.less λa z=>nomatch z.1) h
theorem zdT{a:Addr}{vs:List V}{ds:List It1}(h:SqL K H a vs)(r:RpC K kd F H vs ds):ItC K kd F H (Itl K a) ds:=⟨λH3 T k hT i=>by
 have hr3:SqL K H3 a vs:=by
  rcases h with(h|⟨o,h⟩)|h
  · exact .inl (.inl (k _ _ h))
  · exact .inl (.inr ⟨o,k _ _ h⟩)
  · exact .inr h
 refine⟨λhi=>?_,λhi=>⟨_,hr3,by rw[r.length];exact hi⟩,λv H4 hy=>?_⟩
 · obtain⟨u,hu,_⟩:=r.get (zzB hi)
   exact⟨_,u,hr3,hu⟩
 · obtain⟨rfl,hv⟩:=hy
   refine⟨λ_ _ z=>z,λd hd=>?_⟩
   obtain⟨u,hu,ru⟩:=r.get hd
   have:=hv _ hr3
   rw[hu]at this
   cases this
   exact(ru.since k λa z=>(hT a z).1).less λa z=>z.2.elim (λy=>.inl ⟨z.1,y⟩) .inr⟩
theorem zjR{a:Addr}{vs:List V}{ds:List It1}(h:SqT K H a vs)(r:RpC K kd F H vs ds):ItC K kd F H (Itt K a) ds:=⟨λH3 T k hT i=>by
 have hr3:SqT K H3 a vs:=by
  rcases h with(h|⟨o,h⟩)|h
  · exact .inl (.inl (k _ _ h))
  · exact .inl (.inr ⟨o,k _ _ h⟩)
  · exact .inr h
 refine⟨λhi=>?_,λhi=>⟨_,hr3,by rw[r.length];exact hi⟩,λv H4 hy=>?_⟩
 · obtain⟨u,hu,_⟩:=r.get (zzB hi)
   exact⟨_,u,hr3,hu⟩
 · obtain⟨rfl,hv⟩:=hy
   refine⟨λ_ _ z=>z,λd hd=>?_⟩
   obtain⟨u,hu,ru⟩:=r.get hd
   have:=hv _ hr3
   rw[hu]at this
   cases this
   exact(ru.since k λa z=>(hT a z).1).less λa z=>z.2.elim (λy=>.inl ⟨z.1,y⟩) .inr⟩
theorem zpb(lo:Int)(n:Nat):ItC K kd F H (Itr lo n) (vg lo n):=⟨λH2 T k hT i=>by
 have hl:(vg lo n).length=n:=by unfold vg;simp
 refine⟨λhi=>by rw[hl]at hi;exact hi,λhi=>by rw[hl]at hi;exact hi,λv H3 hy=>?_⟩
 obtain⟨rfl,rfl⟩:=hy
 refine⟨λ_ _ z=>z,λd hd=>?_⟩
 have hi:i<n:=by rw[<-hl];exact(zzD.mp hd).1
 unfold vg at hd
 rw[zzF,List.getElem?_range hi]at hd
 cases hd
 exact .int _⟩
end
theorem Zr{X:Cx}{kd:KD}{tg e:Expr}{fa:EF}(he:AE X kd e fa):AIc X kd tg e (Zh fa):=by
 with_unfolding_all (
 intro pins s σ H R I h
 obtain⟨F,B,ad,as,ds,as',Rl,e,q⟩:=h
 obtain⟨⟨p,as1⟩,h1,e⟩:=bS_ (show(fa as).bind _=_ from e)
 obtain⟨ys,h2,e⟩:=bS_ e
 cases e
 cases p with
 |ow o=>
  have h2:zhR (o.str,o.toD)=some ds:=h2
  generalize hd:o.toD=d at h2
  cases d with
  |lst xs=>
   cases h2
   refine zha he pins s σ H R I ⟨F,B,ad,as,_,as1,Rl,h1,λv T1 ad1 H1 R1 rv1 g1=>?_⟩
   have rp:=zjm R1 rv1
   rw[hd]at rp
   cases rp with
   |lst hn hr rl=>exact⟨_,rfl,⟨_,.inl hr⟩,q _ ad1 H1 R1.drop (g1.trans (Grow.less Gw.drop)) (zdT (.inl hr) (zea rl))⟩
   |lstK a b c rl=>exact⟨_,rfl,⟨_,.inr ⟨_,_,_,a,rfl,rfl,rfl,b,c⟩⟩,q _ ad1 H1 R1.drop (g1.trans (Grow.less Gw.drop)) (zdT (.inr ⟨_,_,_,a,rfl,rfl,rfl,b,c⟩) (zea rl))⟩
  |tup xs=>
   cases h2
   refine ziM he pins s σ H R I ⟨F,B,ad,as,_,as1,Rl,h1,λv T1 ad1 H1 R1 rv1 g1=>?_⟩
   have rp:=zjm R1 rv1
   rw[hd]at rp
   have go:∃a ys,v = .ref a/\SqT X.K H1 a ys/\RpL X.K kd (Lv F B (Gw [] ad1) o.str) H1 ys xs:=by
    cases rp with
    |tup n h r=>exact⟨_,_,rfl,.inl (.inl h),r⟩
   obtain⟨a,ys,rfl,hs,rl⟩:=go
   exact⟨_,rfl,⟨_,hs⟩,q _ ad1 H1 R1.drop (g1.trans (Grow.less Gw.drop)) (zjR hs (zea rl))⟩
  |_=>cases h2
 |bo i=>
  have h2:(match as1[i]? with|some (some (.nd .ls os))=>some (zbZ os)|some (some (.nd .tp os))=>some (zbZ os)|_=>none)=some ds:=h2
  cases k:as1[i]? with
  |none=>rw[k]at h2;cases h2
  |some s0=>
   rw[k]at h2
   match s0,h2,k with
   |some (.nd .ls os),h2,k=>
    cases h2
    refine zha he pins s σ H R I ⟨F,B,ad,as,_,as1,Rl,h1,λv T1 ad1 H1 R1 rv1 g1=>?_⟩
    obtain⟨rfl,hs⟩:=rv1
    obtain⟨w,hw,ro⟩:=R1.sl i _ k
    rw[hs]at hw
    cases hw
    generalize hfp:ad1 i=fp at ro
    cases ro with
    |ls hH rl=>exact⟨_,rfl,⟨_,.inl (.inl hH)⟩,q _ ad1 H1 R1 g1 (zdT (.inl (.inl hH)) (zpc rl))⟩
   |some (.nd .tp os),h2,k=>
    cases h2
    refine ziM he pins s σ H R I ⟨F,B,ad,as,_,as1,Rl,h1,λv T1 ad1 H1 R1 rv1 g1=>?_⟩
    obtain⟨rfl,hs⟩:=rv1
    obtain⟨w,hw,ro⟩:=R1.sl i _ k
    rw[hs]at hw
    cases hw
    generalize hfp:ad1 i=fp at ro
    cases ro with
    |tp n hH rl=>exact⟨_,rfl,⟨_,.inl (.inl hH)⟩,q _ ad1 H1 R1 g1 (zjR (.inl (.inl hH)) (zpc rl))⟩)
theorem yq{X:Cx}{kd:KD}{tg a:Expr}{pos:Pos}{fr:AF}{p:Pos}(hg:Gl X "range")(hm:X.mg "range"=none)(ha:AA X kd [a] fr)(hs:starEach [a] X.env=[(false,eval a X.env)]):AIc X kd tg (.Call (.Name "range" p) [a] [] pos) (yU fr yV):=by
 with_unfolding_all (
 intro pins s σ H R I h
 obtain⟨F,B,ad,as,ds,as',Rl,e,q⟩:=h
 obtain⟨⟨ps,as1⟩,h1,e⟩:=bS_ (show(fr as).bind _=_ from e)
 obtain⟨⟨xs,lv⟩,h2,e⟩:=bS_ e
 obtain⟨ys,h3,e⟩:=bS_ e
 cases e
 obtain⟨j,rfl,h3⟩:=zkx h3
 · obtain⟨hj,e3⟩:=yg h3
   cases e3
   refine zfW hg hm ha hs pins s σ H R I ⟨F,B,ad,as,ps,_,Rl,h1,λvs ad1 H1 R1 rv1 g1=>?_⟩
   have vl:=zbX R1 rv1 h2
   cases vl with
   |cons v1 v2=>
    cases v2
    cases v1
    exact⟨j,rfl,hj.1,hj.2,q _ ad1 H1 R1 g1 (zpb 0 _)⟩)
def zsH(as:AS):Option Nat->Option O
 |none=>none
 |some j=>match as[j]? with
  |some (some (.lf st d))=>some (.lf st d)
  |some (some o)=>some (.lf false o.toD)
  |_=>none
def Yz(cap:List (Option Nat))(as:AS):AS:=cap.map (zsH as)
def wB(g:GF)(tt:TF)(fe:EF)(as0:AS):List It1->Option (List O)
 | []=>some []
 |x::r=>(g x as0).bind λas1=>(tt as1).bind λb=>if b.1=true then(fe b.2).bind λp=>(toO p.2 p.1).bind λq=>if q.1.str=true then(wB g tt fe as0 r).bind λos=>some (q.1::os)else none
  else wB g tt fe as0 r
def zR(fi:IF)(cap:List (Option Nat))(g:GF)(tt:TF)(fe:EF):EF:=λas=>(fi as).bind λp=>if p.1.length<=sizeLine then(wB g tt fe (Yz cap p.2) p.1).bind λos=>some (.ow (.nd .ls os),p.2)else none
def yI:TF:=λas=>some (true,as)
section
variable{K:zC}{kd:KD}{F B:Addr->Prop}{T:List Addr}{ad:Ad}{as:AS}{σ:St}{H H':Hp}{cap:List (Option Nat)}
theorem znO(R:Rel K kd F B [] ad as σ H)(k:∀b u,H b=some u->H' b=some u)(hT:∀a ∈ T,H a=none)(hT':∀a ∈ T,H' a≠none):
 Rel K kd (Un2 (Lv F B (Gw [] ad) true) (· ∈ T)) (λ_=>False) [] (λ_=>[]) (Yz cap as) (Zv cap σ) H':=by
 have no:∀a,¬Gw [] (λ_=>[]) a:=λa z=>z.elim (λy=>nomatch y) λ⟨_,y⟩=>nomatch y
 have kn:∀a,H a≠none->H' a≠none:=λa z=>by
  cases e:H a with
  |none=>exact absurd e z
  |some u=>rw[k a u e];simp
 have up:∀{st:Bool}{v:V}{d:D},Rp K kd (λa=>st=true/\Lv F B (Gw [] ad) true a) H v d->Rp K kd (Lv (Un2 (Lv F B (Gw [] ad) true) (· ∈ T)) (λ_=>False) (Gw [] λ_=>[]) st) H' v d:=λ{st v d} h=>by
  have:=Rp.grow (F:=λa=>st=true/\Lv F B (Gw [] ad) true a) (W:=λ_=>False) (W':=(· ∈ T)) (H':=H') ⟨λb u q _=>k b u q,λb z=>.inr (hT b z)⟩ (h.less λa z=>z.elim id False.elim)
  refine this.less λa z=>?_
  rcases z with(⟨z1,z2⟩|z)|z
  · rcases z2 with z2|z2
    · exact .inl ⟨z1,z2⟩
    · exact .inr z2
  · exact z.elim
  · exact(no a z).elim
 refine⟨by unfold Yz Zv;rw[zD,zD],λ_ _=>rfl,λ_=>zyG,(λ_ _ _ z=>nomatch z),zyG,(λ_ _ _ z=>nomatch z),λa z=>z.elim (λy=>kn a (R.trk true a y)) (hT' a),(λ_ z=>z.elim),λa z=>(no a z).elim,λi s e=>?_⟩
 unfold Yz at e
 rw[zzF]at e
 obtain⟨c,hc,rfl⟩:=zzU.mp e
 have es:(Zv cap σ)[i]? = some (zsh σ c):=by
  unfold Zv
  rw[zzF,hc]
  rfl
 rw[es]
 cases c with
 |none=>rfl
 |some j=>
  show zeZ _ _ _ _ _ _ (match as[j]? with|some (some (.lf st d))=>some (.lf st d)|some (some o)=>some (.lf false o.toD)|_=>none) _ _
  cases k2:as[j]? with
  |none=>rfl
  |some s0=>
   cases s0 with
   |none=>rfl
   |some o=>
    obtain⟨v,hv,ro⟩:=R.sl j _ k2
    cases o with
    |lf st d=>
     have e0:ad j=[]:=by
      generalize hfp:ad j=fp at ro
      cases ro
      rfl
     rw[e0]at ro
     refine⟨v,by show some ((σ[j]?).getD none)=_;rw[hv];rfl,.lf (up ?_)⟩
     exact(zeE ro).less λa z=>by have zs:st=true:=z.1;show Lv F B (Gw [] ad) st a;rw[zs];exact z.2
    |nd kk os=>exact⟨v,by show some ((σ[j]?).getD none)=_;rw[hv];rfl,.lf (up ((zgB ro).less λa z=>nomatch z.1))⟩
theorem zlJ{S:List Nat}{fi:IF}{g:GF}{tt:TF}{fe:EF}{Q:VK}(hS:∀i ∈ S,cap[i]? = some none)(h:al K kd (zR fi cap g tt fe) σ H Q):
 zlx (alC K kd fi) cap (alG K kd S g) (alT K kd tt) (al K kd fe) σ H Q:=by
 obtain⟨F,B,ad,as,r,as',R,e,q⟩:=h
 obtain⟨⟨ds,as1⟩,h1,e⟩:=bS_ (show(fi as).bind _=_ from e)
 by_cases hz:ds.length<=sizeLine
 · have e:(if ds.length<=sizeLine then(wB g tt fe (Yz cap as1) ds).bind λos=>some (RV.ow (.nd .ls os),as1)else none)=some (r,as'):=e
   rw[if_pos hz]at e
   obtain⟨os,h2,e⟩:=bS_ e
   cases e
   refine⟨F,B,ad,as,ds,as',R,h1,λJ ad1 H1 R1 g1 it=>?_⟩
   refine⟨λi m ys H3=>m+i=ds.length/\∃T os1 os2,os=os1++os2/\wB g tt fe (Yz cap as') (ds.drop i)=some os2/\os1.length<=i/\T.Nodup/\(∀a ∈ T,H1 a=none/\H3 a≠none)/\(∀b u,H1 b=some u->H3 b=some u)/\
    RoL (λ_ v d=>Rp K kd (Un2 (Lv F B (Gw [] ad1) true) (· ∈ T)) H3 v d) (λa=>¬Un2 (Lv F B (Gw [] ad1) true) (· ∈ T) a) H3 ys os1 T,⟨ds.length,rfl,[],[],os,rfl,h2,zzK _,zyG,(λ_ m=>nomatch m),(λ_ _ z=>z),.nil⟩, ?_⟩
   rintro i m ys H3 ⟨hm,T,os1,os2,eo,ec,hl,tnd,tf,k3,rl⟩
   obtain⟨i1,i2,i3⟩:=it.all H3 (· ∈ T) k3 tf i
   have yl:=rl.length
   refine⟨by omega, ?_⟩
   by_cases hi:i<ds.length
   · refine .inr ⟨i1 hi,λv H4 hy=>?_⟩
     obtain⟨k4,rp⟩:=i3 v H4 hy
     rw[zyN hi]at ec
     obtain⟨as2,e2,ec⟩:=bS_ (show(g _ _).bind _=_ from ec)
     obtain⟨⟨b,as3⟩,e3,ec⟩:=bS_ ec
     have k14:∀b u,H1 b=some u->H4 b=some u:=λb u h=>k4 b u (k3 b u h)
     have kn4:∀a,H3 a≠none->H4 a≠none:=λa z=>by
      cases e:H3 a with
      |none=>exact absurd e z
      |some u=>rw[k4 a u e];simp
     have R4:=znO (cap:=cap) (T:=T) R1 k14 (λa z=>(tf a z).1) (λa z=>kn4 a (tf a z).2)
     have no:∀a,¬Gw [] (λ_=>[]) a:=λa z=>z.elim (λy=>nomatch y) λ⟨_,y⟩=>nomatch y
     refine⟨_,_,_,_,ds[i],as2,R4,(rp _ (zzB hi)).less λa z=>?_,e2,λσ5 ad5 H5 R5 g5 keep5=>⟨λj w hw=>?_,_,_,ad5,as2,b,as3,R5,e3,λad6 H6 R6 g6=>?_⟩⟩
     · rcases z with(z|z)|z
       · exact z
       · exact z.elim
       · exact(no a z).elim
     · rw[keep5 j λz=>?_]
       · exact hw
       · have:=hS j z
         unfold Zv at hw
         rw[zzF,this]at hw
         cases hw
     · -- what stood is kept
       have g46:=g5.trans g6
       have k46:∀b u,H4 b=some u->H6 b=some u:=λb u h=>g46.keep b u h (no b)
       have k36:∀b u,H3 b=some u->H6 b=some u:=λb u h=>k46 b u (k4 b u h)
       have kn6:∀a,H3 a≠none->H6 a≠none:=λa z=>by
        cases e:H3 a with
        |none=>exact absurd e z
        |some u=>rw[k36 a u e];simp
       have up:∀{H7:Hp}{T2:List Addr},(∀b u,H3 b=some u->H7 b=some u)->(∀a ∈ T2,H3 a=none)->RoL (λ_ v d=>Rp K kd (Un2 (Lv F B (Gw [] ad1) true) (· ∈ T++T2)) H7 v d) (λa=>¬Un2 (Lv F B (Gw [] ad1) true) (· ∈ T++T2) a) H7 ys os1 T:=λ{H7 T2} k7 f7=>
        RoL.mono (λst v d r=>(r.since k7 f7).less λa z=>z.elim (λy=>.inl (.inl y)) λy=>(zzJ.mp y).elim (λx=>.inl (.inr x)) .inr)
         (λa vs n e=>⟨λz=>z.elim (λy=>n (.inl y)) λy=>(zzJ.mp y).elim (λx=>n (.inr x)) λx=>(by have:=f7 a x;rw[this]at e;cases e),k7 _ _ e⟩) (λa _ u h=>k7 a u h) rl
       cases b with
       |false=>
        have:=up (T2:=[]) k36 (λ_ m=>nomatch m)
        rw[zyB]at this
        exact⟨m-1,by omega,by omega,T,os1,os2,eo,ec,Nat.le_succ_of_le hl,tnd,λa z=>⟨(tf a z).1,kn6 a (tf a z).2⟩,λb u h=>k36 b u (k3 b u h),this⟩
       |true=>
        rw[if_pos rfl]at ec
        obtain⟨⟨p,as7⟩,e7,ec⟩:=bS_ ec
        obtain⟨⟨o,as8⟩,e8,ec⟩:=bS_ ec
        by_cases hs:o.str=true
        · have ec:(if o.str=true then(wB g tt fe (Yz cap as') (ds.drop (i+1))).bind λos=>some (o::os)else none)=some os2:=ec
          rw[if_pos hs]at ec
          obtain⟨os3,e9,ec⟩:=bS_ ec
          cases ec
          refine⟨by omega,_,_,ad6,as3,p,as7,R6,e7,λy T2 ad7 H7 R7 rv7 g7=>?_⟩
          obtain⟨ad8,R8,ro8,le8⟩:=zeC R7 rv7 e8
          have g47:=g46.trans g7
          have k47:∀b u,H4 b=some u->H7 b=some u:=λb u h=>g47.keep b u h (no b)
          have k37:∀b u,H3 b=some u->H7 b=some u:=λb u h=>k47 b u (k4 b u h)
          have f42:∀a ∈ T2,H4 a=none:=λa z=>(g47.own a (.inl z)).resolve_left (no a)
          have f32:∀a ∈ T2,H3 a=none:=λa z=>by
             cases e:H3 a with
             |none=>rfl
             |some u=>have:=k4 a u e;rw[f42 a z]at this;cases this
          have rt:=ziG R8 R8.tnd (λa z=>.inl z) ro8 hs
          have ro9:Ro (λ_ v d=>Rp K kd (Un2 (Lv F B (Gw [] ad1) true) (· ∈ T++T2)) H7 v d) (λa=>¬Un2 (Lv F B (Gw [] ad1) true) (· ∈ T++T2) a) H7 y o T2:=
             Ro.mono (λst v d r=>r.less λa z=>z.elim (λy=>.inl (.inl y)) λy=>(zzJ.mp y).elim (λx=>.inl (.inr x)) .inr)
              (λa vs n e=>⟨λz=>n (z.elim (λy=>.inl (.inl y)) λy=>(zzJ.mp y).elim (λx=>.inl (.inr x)) .inr),e⟩) (λ_ _ _ h=>h) rt.ro
          refine⟨m-1,by omega,by omega,T++T2,os1++[o],os3,by rw[eo,zyY];rfl,e9,by rw[zzG,List.length_singleton];omega,zxA.mpr ⟨tnd,rt.nd,λa z b z' e=>?_⟩,λa z=>?_,λb u h=>k37 b u (k3 b u h),(up k37 f32).append (RoL.one ro9)⟩
          · subst e
            exact(tf a z).2 (f32 a z')
          · rcases zzJ.mp z with z|z
            · refine⟨(tf a z).1, ?_⟩
              cases e:H3 a with
              |none=>exact absurd e (tf a z).2
              |some u=>rw[k37 a u e];simp
            · refine⟨?_,rt.tr a z⟩
              cases e:H1 a with
              |none=>rfl
              |some u=>have:=k3 a u e;rw[f32 a z]at this;cases this
        · have ec:(if o.str=true then(wB g tt fe (Yz cap as') (ds.drop (i+1))).bind λos=>some (o::os)else none)=some os2:=ec
          rw[if_neg hs]at ec
          cases ec
   · refine .inl ⟨i2 (by omega),λp hp=>?_⟩
     rw[List.drop_eq_nil_of_le (by omega)]at ec
     cases ec
     rw[zyB]at eo
     subst eo
     have pT:p ∉ T:=λz=>(tf p z).2 hp
     have H1p:H1 p=none:=by
      cases e:H1 p with
      |none=>rfl
      |some u=>have:=k3 p u e;rw[hp]at this;cases this
     have kp:∀b u,H3 b=some u->upd H3 p (.lst ys) b=some u:=λb u h=>by rw[zV (yM h hp)];exact h
     obtain⟨R9,g9⟩:=R1.news (T':=p::T) (H':=upd H3 p (.lst ys)) (zzT.mpr ⟨pT,tnd⟩) (λa z=>(zI.mp z).elim (λe=>by rw[e];exact H1p) λz=>(tf a z).1) (λb u h=>kp b u (k3 b u h)) (λa z=>by
      rcases zI.mp z with e|z
      · rw[e,yC];simp
      · cases e:H3 a with
        |none=>exact absurd e (tf a z).2
        |some u=>rw[kp a u e];simp)
     refine q _ (p::T) ad1 _ R9 (.ls yC ?_) (g1.trans g9)
     have le:∀st a,Lv F B (Gw (p::T) ad1) st a->Un2 (Un2 (Lv F B (Gw [] ad1) true) (· ∈ T)) (· = p) a:=λst a z=>by
      rcases z with(z|z)|z|z
      · exact .inl (.inl (.inl (.inl ⟨rfl,z.2⟩)))
      · exact .inl (.inl (.inl (.inr z)))
      · exact(zI.mp z).elim .inr λy=>.inl (.inr y)
      · exact .inl (.inl (.inr (.inr z)))
     exact RoL.mono (λst v d r=>(r.since kp (T:=(· = p)) λa z=>by rw[z];exact hp).less (le st)) (λa vs n e=>⟨λz=>(le true a z).elim n λy=>(by rw[y,hp]at e;cases e),kp _ _ e⟩) (λa _ u h=>kp a u h) rl
 · have e:(if ds.length<=sizeLine then(wB g tt fe (Yz cap as1) ds).bind λos=>some (RV.ow (.nd .ls os),as1)else none)=some (r,as'):=e
   rw[if_neg hz]at e
   cases e
end
section
variable{X:Cx}{kd:KD}{elt tg iter e a b c:Expr}{es ifs:List Expr}{scope:Scope}{pos:Pos}{N:List Str}{cap:List (Option Nat)}{g:GF}{tt:TF}{fe fa fb:EF}{fi:IF}{S:List Nat}{fr:AF}{fd:DF}
theorem yo:PTs X [] (alT X.K kd yI):=λpins s σ H Q I h=>by
 obtain⟨F,B,ad,as,b,as',R,e,q⟩:=h
 cases e
 exact znX pins s σ H Q I (q ad H R Grow.refl)
theorem zku(h:AT X kd c tt):PTs X [c] (alT X.K kd tt):=by with_unfolding_all exact(zol h)
theorem yu(hc:X.calm=true)(hi:AIc X kd tg iter fi)(hk:scope.kind = .function)(hcap:xG N X.N scope.names X.env.scope.names cap=true)(hS:S.all (λi=>cap[i]? == some none)=true)
 (hg:∀cl s H fp,AG (vH X N scope cl s H fp) kd tg S g) (ht:∀cl s H fp,PTs (vH X N scope cl s H fp) ifs (alT X.K kd tt)) (he:∀cl s H fp,AE (vH X N scope cl s H fp) kd elt fe)
 (hs:∀x,foldedSetIterable iter X.env x=pure x):AE X kd (.ListComp elt [⟨tg,iter,ifs,0⟩] scope pos) (zR fi cap g tt fe):=by with_unfolding_all exact(xU (znE (g:=alG X.K kd S g) (te:=al X.K kd fe) hc hi hk hcap hg ht he hs) λσ H Q h=>zlJ (λi m=>by simpa using List.all_eq_true.mp hS i m) h)
theorem zai{z:Bool}{i:Nat}{y:Str}{py spos:Pos}(hN:X.N.Nodup)(hiy:X.N[i]? = some y)(hy:Loc X.env.scope y)(hf:X.fn y=true\/X.env.scope.names.lookup y=some .local)
 (hsw:swapsWith (.ListComp elt [⟨tg,iter,ifs,0⟩] scope pos) (some (.Name y py)) spos.line X.env=pure true)
 (hc:X.calm=true) (hi:AIc X kd tg iter fi) (hk:scope.kind = .function) (hcap:xG N X.N scope.names X.env.scope.names cap=true) (hS:S.all (λi=>cap[i]? == some none)=true)
 (hg:∀cl s H fp,AG (vH X N scope cl s H fp) kd tg S g) (ht:∀cl s H fp,PTs (vH X N scope cl s H fp) ifs (alT X.K kd tt)) (he:∀cl s H fp,AE (vH X N scope cl s H fp) kd elt fe)
 (hs:∀x,foldedSetIterable iter X.env x=pure x):ASt X kd (.Assign [.Name y py] (.ListComp elt [⟨tg,iter,ifs,0⟩] scope pos) spos) (zO z i (zR fi cap g tt fe)):=by with_unfolding_all exact(Zi (znB (g:=alG X.K kd S g) (te:=al X.K kd fe) hN hiy hy hf hsw hc hi hk hcap hg ht he hs) λD σ H h=>by
 obtain⟨F,B,ad,as,o,R,e,q⟩:=h
 obtain⟨⟨p,as1⟩,h1,e⟩:=bS_ (show(zR fi cap g tt fe as).bind _=_ from e)
 obtain⟨⟨y,as2⟩,h2,e⟩:=bS_ e
 obtain⟨hl,e⟩:=yg e
 cases e
 refine zlJ (Q:=λx H1=>zhT i x σ H1 D.nx) (λi m=>by simpa using List.all_eq_true.mp hS i m) ⟨F,B,ad,as,p,as1,R,h1,λv T' ad' H' R' rv g=>?_⟩
 obtain⟨ad2,R2,le⟩:=zjk R' rv h2 hl
 exact q _ ad2 H' R2 (g.trans (Grow.less le)))
theorem zoA{k:Nat}{f:Addr}{fdt:FuncData}{ps:List Str}{gg:List (Bool×D)->Option O}{x:Str}{p:Pos}(F:FnOk X.prog X.w X.K X.mg X.base CX0 k f fdt ps (spD X.K kd gg))(hr:Room k X.A)(hg:Gl X x)(hm:X.mg x=some (.ref f))(hk:PySem.W.keepIn X.K (.ref f)=true)
 (hb:Binds X.K fdt ps []) (hx:zgn CX0 X (λ_ _ _=>False)) (ha:AA X kd (e::es) fr) (hdb:(x==("__debug__":Str))=false) (he:starEach (e::es) X.env=(false,eval e X.env)::starEach es X.env) (hpl:(backTo pos (starEach es X.env)).any (·.1)=false):
 AE X kd (.Call (.Name x p) (e::es) [] pos) (zK fr gg):=by with_unfolding_all exact(xU (zor F hr hg hm hk hb .nil hx ha hdb he hpl) λσ H Q h=>zpK h)
theorem zqu{id:String}{gg:List D->Option R0}{x:Str}{p:Pos}(hc:CallD X kd (.builtin id) gg)(hg:Gl X x)(hm:X.mg x=none)(hv:bootBuiltins x=some (.builtin id))(ha:AA X kd (e::es) fr)(hn:x≠"__name__")(hdb:(x==("__debug__":Str))=false)
 (he:starEach (e::es) X.env=(false,eval e X.env)::starEach es X.env) (hpl:(backTo pos (starEach es X.env)).any (·.1)=false):AE X kd (.Call (.Name x p) (e::es) [] pos) (fP fr gg):=by with_unfolding_all exact(xU (zec hc hg hm hv ha hn hdb he hpl) λσ H Q h=>alP (λ_ _ _ z=>z) h)
theorem zrr{T:String}{gg:List D->Option R0}{x:Str}{p:Pos}(hc:CallD X kd (.type T) gg)(hg:Gl X x)(hm:X.mg x=none)(hv:bootBuiltins x=some (.type T))(ha:AA X kd (e::es) fr)(hn:x≠"__name__")(hdb:(x==("__debug__":Str))=false)
 (he:starEach (e::es) X.env=(false,eval e X.env)::starEach es X.env) (hpl:(backTo pos (starEach es X.env)).any (·.1)=false):AE X kd (.Call (.Name x p) (e::es) [] pos) (fP fr gg):=by with_unfolding_all exact(xU (zkH hc hg hm hv ha hn hdb he hpl) λσ H Q h=>alP (λ_ _ _ z=>z) h)
def zbc(fa:EF)(c:String):EF:=λas=>(fa as).bind λp=>(p.1.frz.view p.2).bind λx=>if ziR x.1=true then some (.ow (.lf true (.bl (zeJ (tyD x.1) c))),p.2)else none
theorem znv(hk:KdOk X kd):zap X (.builtin "isinstance") (λxs H Q=>∃x c O d,xs=[x,.ty c]/\zbV c=true/\Vw X.K kd O H x d/\ziR d=true/\Q (.bl (zeJ (tyD d) c)) H):=by
 intro pins s σ H xs us Q I r h
 obtain⟨x,c,O,d,rfl,hc,vx,ho,q⟩:=h
 cases r with
 |cons r1 r2=>
  cases r2 with
  |cons r2 r3=>
   cases r3
   cases(show _=Value.type c from r2)
   exact zql hk I r1 vx hc ho λtk=>⟨.bl _,H,I.tok tk,rfl,q⟩
theorem zho{c:String}{x y:Str}{p p2:Pos}(hkd:KdOk X kd)(hc:zbV c=true)(hg:Gl X x)(hm:X.mg x=none)(hv:bootBuiltins x=some (.builtin "isinstance"))(hg2:Gl X y)(hm2:X.mg y=none)(hv2:bootBuiltins y=some (.type c))(ha:AE X kd a fa)
 (hn:x≠"__name__") (hdb:(x==("__debug__":Str))=false) (hn2:y≠"__name__") (hdb2:(y==("__debug__":Str))=false)
 (he:starEach [a,.Name y p2] X.env=(false,eval a X.env)::starEach [.Name y p2] X.env) (he2:starEach [.Name y p2] X.env=(false,eval (.Name y p2) X.env)::starEach [] X.env) (hpl:(backTo pos (starEach [.Name y p2] X.env)).any (·.1)=false):
 AE X kd (.Call (.Name x p) [a,.Name y p2] [] pos) (zbc fa c):=by with_unfolding_all exact(xU (zec (znv hkd) hg hm hv (Xc ha (Xc (znW (v:=.ty c) hg2 hm2 hv2 rfl hn2 hdb2) zaQ he2) he) hn hdb he hpl) λσ H Q h=>by
 obtain⟨F,B,ad,as,r,as',R,e,q⟩:=h
 obtain⟨⟨p,as1⟩,h1,e⟩:=bS_ (show(fa as).bind _=_ from e)
 obtain⟨⟨d,lv⟩,h2,e⟩:=bS_ e
 obtain⟨ho,e⟩:=yg e
 cases e
 exact Xn R h1 λv ad1 H1 R1 rv1 g1=>⟨v,c,_,d,rfl,hc,v7.vw R1 rv1 h2,ho,q _ [] ad1 H1 R1 (.lf (.bl _)) g1⟩)
def xY:MG:=λos es=>match es with | [o]=>if os.length<sizeLine then some (os++[o],.lf true .non)else none|_=>none
def Va:MG:=λos es=>match es with | [.lf _ (.int i)]=>if -(2 ^ 63)<=i/\i<2 ^ 63 then(seqIndex? i os.length).bind λk=>(os[k]?).bind λo=>some (os.eraseIdx k,o)else none|_=>none
def zlj:MG:=λos es=>match es with | [.nd .ls ps]=>if os.length+ps.length<=sizeLine then some (os++ps,.lf true .non)else none|_=>none
theorem zoT{l f fo g:List Addr}(h:l.Nodup)(e:l=f++(fo++g)):((f++g)++fo).Nodup/\∀a ∈ (f++g)++fo,a ∈ l:=by
 subst e
 have p:(f++(fo++g)).Perm ((f++g)++fo):=by
  rw[zyY]
  exact(List.perm_append_comm).append_left f
 exact⟨p.nodup_iff.mp h,λa m=>p.mem_iff.mpr m⟩
theorem vV:MuD X kd zkB xY:=by
 intro F B G l vs ws os es os' o fp fq H Q hH rl rw' hn e k
 unfold xY at e
 split at e
 · obtain⟨hz,e⟩:=yg e
   cases e
   cases rw' with
   |cons h1 h2=>
    cases h2
    rw[zyB]at hn k
    exact⟨l,vs,_,rfl,rfl,hH,by rw[rl.length];exact hz,k _ _ _ [] (rl.append (RoL.one h1)) (.lf .non) (λa m=>by rwa [zyB]at m) (by rw[zyB];exact hn)⟩
 · cases e
theorem zmX:MuD X kd znb Va:=by
 intro F B G l vs ws os es os' o fp fq H Q hH rl rw' hn e k
 unfold Va at e
 split at e
 · rename_i st i
   split at e
   · rename_i hi
     obtain⟨j,hj,e⟩:=bS_ e
     obtain⟨o1,ho,e⟩:=bS_ e
     cases e
     obtain⟨v,f,fo,gg,hv,hf,ro,r1,r2⟩:=rl.at_ ho
     cases rw' with
     |cons h1 h2=>
      cases h2
      cases h1 with
      |lf rp=>
       cases rp
       rw[zyB,zyB]at hn k
       obtain⟨n1,n2⟩:=zoT hn hf
       refine⟨l,vs,i,j,v,rfl,rfl,hH,hi.1,hi.2,by rw[rl.length];exact hj,hv,k v _ (f++gg) fo ?_ ro n2 n1⟩
       rw[zdf,zdf]
       exact r1.append r2
   · cases e
 · cases e
theorem zqg:MuD X kd zkb zlj:=by
 intro F B G l vs ws os es os' o fp fq H Q hH rl rw' hn e k
 unfold zlj at e
 split at e
 · rename_i ps
   obtain⟨hz,e⟩:=yg e
   cases e
   cases rw' with
   |cons h1 h2=>
    cases h2
    cases h1 with
    |ls hb rb=>
     rename_i b zs fz
     rw[zyB]at hn k
     obtain⟨n1,n2,n3⟩:=zxA.mp hn
     obtain⟨n4,n5⟩:=zzT.mp n2
     refine⟨l,b,vs,zs,rfl,rfl,hH,hb,by rw[rl.length,rb.length];exact hz,k .non _ _ [] (rl.append rb) (.lf .non) (λa m=>?_) ?_⟩
     · rw[zyB]at m
       rcases zzJ.mp m with m|m
       · exact zzM _ m
       · exact zzI _ (zzA _ m)
     · rw[zyB]
       exact zxA.mpr ⟨n1,n5,λa m b m'=>n3 a m b (zzA _ m')⟩
 · cases e
theorem vA{i:Nat}{x:Str}{gg:MG}{r:V->List V->Hp->VK->Prop}{name:Str}{id:String}{apos cpos p:Pos}(hm:MtM X id r)(hr:MuD X kd r gg)(slot:Slot "list" name id)(hty:typeOf (.builtin id)=pure (.type "method_descriptor"))(ho:PE X (.Name x p) (Xy i))(ha:AD X kd (e::es) fd)
 (hbase:attributeBase (.Name x p) name X.env (eval (.Name x p) X.env)=eval (.Name x p) X.env)
 (hfew:((backTo cpos (starEach (e::es) X.env)).all (λx=>!x.1)&&(backToKw cpos (keywordEach [] X.env)).all (λx=>x.1.isSome)
  && decide ((e::es).length+([]:List Keyword).length+(if([]:List Keyword).isEmpty then 0 else 1)<30))=true)
 (hline:(apos.endLine==cpos.line)=true) (hs:starEach (e::es) X.env=(false,eval e X.env)::starEach es X.env) (hplain:(backTo cpos (starEach es X.env)).any (·.1)=false):
 AE X kd (.Call (.Attribute (.Name x p) name apos) (e::es) [] cpos) (xQ i fd gg):=by with_unfolding_all exact(xU (zpw PySem.F.plainAttrs_list slot hty hm ho ha hbase hfew hline hs hplain) λσ H Q h=>zsf hr h)
end
inductive Ty where
 |str|lst|dct|int
def Ty.nm:Ty->String
 | .str=>"str" | .lst=>"list" | .dct=>"dict" | .int=>"int"
def zof:Ty->D->Bool
 | .str,.str _=>true
 | .lst,.lst _=>true
 | .dct,.dct _=>true
 | .int,.int _=>true
 |_,_=>false
def tyS(X:Cx)(T:String)(x:V)(H:Hp):Prop:=∀(pins:List (Addr×Obj)) (σ:St) (s:Shared) (v:Value),Inv X pins σ H s->RelV x v->s.TypeIs v T/\∀a,v = .ref a->∃ob,s.heap.get? a=some ob/\ob.dict=none
def tMD(X:Cx)(T:String)(r:V->List V->Hp->VK->Prop)(to:TE)(t:TA):TE:=λσ H Q=>to σ H λx H1=>tyS X T x H1/\t σ H1 λxs H2=>r x xs H2 Q
section
variable{X:Cx}{kd:KD}{o e:Expr}{es:List Expr}{to:TE}{t:TA}{name:Str}{apos cpos:Pos}{T id:String}{r:V->List V->Hp->VK->Prop}
theorem zsn(pa:PlainAttrs T)(slot:Slot T name id)(hty:typeOf (.builtin id)=pure (.type "method_descriptor"))(hm:MtR X id r)(ho:PE X o to)(ha:PA X (e::es) t)
 (hbase:attributeBase o name X.env (eval o X.env)=eval o X.env)
 (hfew:((backTo cpos (starEach (e::es) X.env)).all (λx=>!x.1)&&(backToKw cpos (keywordEach [] X.env)).all (λx=>x.1.isSome)
  && decide ((e::es).length+([]:List Keyword).length+(if([]:List Keyword).isEmpty then 0 else 1)<30))=true)
 (hline:(apos.endLine==cpos.line)=true) (hs:starEach (e::es) X.env=(false,eval e X.env)::starEach es X.env) (hplain:(backTo cpos (starEach es X.env)).any (·.1)=false):
 PE X (.Call (.Attribute o name apos) (e::es) [] cpos) (tMD X T r to t):=by
 intro pins s σ H Q I h
 refine wpAny_Call_method_late hbase hfew hline rfl (thn (ho pins s σ H _ I h) λv s1 ⟨x,H1,I1,r1,ty,q1⟩=>?_)
 obtain⟨h1,h2⟩:=ty _ _ _ _ I1 r1
 refine⟨T,id,pa,slot,hty,h1,h2, ?_⟩
 have hA:=ha cpos pins s1 σ H1 _ I1 q1
 rw[hs]at hA ⊢
 refine Calls.callWith_builtin (by show(false||(backTo cpos (starEach es X.env)).any (·.1))=false;rw[hplain]<;>rfl) (Calls.evalArgs_plain ?_)
 exact thn hA λus s2 ⟨vs,H2,I2,r2,q2⟩=>hm pins s2 σ H2 x vs v us Q I2 r1 r2 q2
def MtD(X:Cx)(kd:KD)(id:String)(g:D->List D->Option R0):Prop:=
 MtR X id (λx xs H Q=>∃O d ds r,(∀a,O a->H a≠none)/\Vw X.K kd O H x d/\VwL X.K kd O H xs ds/\g d ds=some r/\RQ X.K kd O H Q r)
theorem zsc(hk:KdOk X kd){O:Addr->Prop}{H:Hp}{x:V}{d:D}{ty:Ty}(h:Vw X.K kd O H x d)(e:zof ty d=true):tyS X ty.nm x H:=by
 intro pins σ s v I rx
 cases h with
 |str z=>
  obtain⟨t,rfl⟩:=rx
  cases ty<;>first|(cases e;done)|exact⟨typeIs_str s z t,λ_ e=>nomatch e⟩
 |int z=>
  obtain⟨t,rfl⟩:=rx
  cases ty<;>first|(cases e;done)|exact⟨typeIs_int s z t,λ_ e=>nomatch e⟩
 |lst hr rl=>
  cases rx
  obtain⟨its,_,pl,_⟩:=I.list hr.sq
  cases ty<;>first|(cases e;done)|skip
  refine⟨pl.isList.typeIs,λa e=>?_⟩
  cases e
  obtain⟨o,n,e,c,hd,_⟩:=pl
  exact⟨o,e,hd⟩
 |dct hr rm=>
  cases rx
  obtain⟨z,hd,vs,rel,dd⟩:=zgc I hk hr
  cases ty<;>first|(cases e;done)|skip
  refine⟨dd.typeIs,λb q=>?_⟩
  cases q
  obtain⟨ob,_,_,h1,h2,_⟩:=dd
  exact⟨ob,h1,h2.2.1⟩
 |non=>cases ty<;>cases e
 |bl=>cases ty<;>cases e
 |tup=>cases ty<;>cases e
 |cl=>cases ty<;>cases e
 |ob=>cases ty<;>cases e
 |dt=>cases ty<;>cases e
def Y6(ty:Ty)(fa:EF)(fr:AF)(g:D->List D->Option R0):EF:=λas=>(fa as).bind λp=>(p.1.frz.view p.2).bind λw=>if zof ty w.1=true then(fr p.2).bind λq=>(p.1.frz.view q.2).bind λx=>(views q.2 q.1).bind λy=>(g x.1 y.1).bind λr=>(wrap (meet x.2 y.2) r).bind λz=>some (z,q.2)else none
theorem zro(hk:KdOk X kd){ty:Ty}{fa:EF}{fr:AF}{g:D->List D->Option R0}{σ:St}{H:Hp}{Q:VK}(h:al X.K kd (Y6 ty fa fr g) σ H Q):
 tMD X ty.nm (λx xs H Q=>∃O d ds r,(∀a,O a->H a≠none)/\Vw X.K kd O H x d/\VwL X.K kd O H xs ds/\g d ds=some r/\RQ X.K kd O H Q r) (al X.K kd fa) (alA X.K kd fr) σ H Q:=by
 obtain⟨F,B,ad,as,r,as',R,e,q⟩:=h
 obtain⟨⟨p,as1⟩,h1,e⟩:=bS_ (show(fa as).bind _=_ from e)
 obtain⟨⟨d0,l0⟩,h0,e⟩:=bS_ e
 obtain⟨hty,e⟩:=ite_some' e
 obtain⟨⟨ps,as2⟩,h2,e⟩:=bS_ e
 obtain⟨⟨d,lv⟩,h3,e⟩:=bS_ e
 obtain⟨⟨ds,lv2⟩,h4,e⟩:=bS_ e
 obtain⟨r0,h5,e⟩:=bS_ e
 obtain⟨z,h6,e⟩:=bS_ e
 cases e
 refine Xn R h1 λv ad1 H1 R1 rv1 g1=>⟨zsc hk (v7.vw R1 rv1 h0) hty,F,B,ad1,as1,ps,_,R1,h2,λvs ad2 H2 R2 rv2 g2=>?_⟩
 exact⟨_,d,ds,r0,R2.tr _,(v7.vw R2 (rv1.grow g2) h3).less Obl.meet1,(zbX R2 rv2 h4).less Obl.meet2,h5,Wa R2 h6 λw T' H' R' rv' g'=>q w T' ad2 H' R' rv' ((g1.trans g2).trans g')⟩
theorem zdE{ty:Ty}{a:Expr}{fa:EF}{fr:AF}{g:D->List D->Option R0}(hk:KdOk X kd)(hm:MtD X kd id g)(pa:PlainAttrs ty.nm)(slot:Slot ty.nm name id)(hty:typeOf (.builtin id)=pure (.type "method_descriptor"))(ho:AE X kd a fa)(ha:AA X kd (e::es) fr)
 (hbase:attributeBase a name X.env (eval a X.env)=eval a X.env)
 (hfew:((backTo cpos (starEach (e::es) X.env)).all (λx=>!x.1)&&(backToKw cpos (keywordEach [] X.env)).all (λx=>x.1.isSome)
  && decide ((e::es).length+([]:List Keyword).length+(if([]:List Keyword).isEmpty then 0 else 1)<30))=true)
 (hline:(apos.endLine==cpos.line)=true) (hs:starEach (e::es) X.env=(false,eval e X.env)::starEach es X.env) (hplain:(backTo cpos (starEach es X.env)).any (·.1)=false):
 AE X kd (.Call (.Attribute a name apos) (e::es) [] cpos) (Y6 ty fa fr g):=by with_unfolding_all exact(xU (zsn pa slot hty hm ho ha hbase hfew hline hs hplain) λσ H Q h=>zro hk h)
end
section
variable{K:zC}{kd:KD}{F B G:Addr->Prop}{T:List Addr}{ad:Ad}{as:AS}{σ:St}{H H':Hp}
theorem Rel.wrT{p:Addr}{u:HO}(R:Rel K kd F B T ad as σ H)(hp:p ∈ T):Rel K kd F B T ad as σ (upd H p u)/\Grow (Gw T ad) H (Gw T ad) (upd H p u):=by
 have g:Grow (Gw T ad) H (Gw T ad) (upd H p u):=Grow.wr (.inl hp)
 have kn:∀a,H a≠none->upd H p u a≠none:=λa z=>by
  by_cases e:a=p
  · subst e;rw[yC];simp
  · rw[zV e];exact z
 exact⟨⟨R.len,R.out,R.nd,R.inj,R.tnd,R.dis,λa z=>kn a (R.ftr a z),λa z=>⟨kn a (R.btr a z).1,(R.btr a z).2⟩,λa z=>⟨kn a (R.gtr a z).1,(R.gtr a z).2⟩,λi s e=>(R.sl i s e).grow g λa m w h=>by
  rw[zV (λz=>R.dis i a m (by rw[z];exact hp))];exact h⟩,g⟩
inductive RPs(K:zC)(kd:KD)(F B G:Addr->Prop)(H:Hp):List (V×V)->List (Key×O)->Prop
 |nil:RPs K kd F B G H [] []
 |cons {k:Key}{v:V}{o:O}{ps:List (V×V)}{kos:List (Key×O)}:RoS K kd F B G H v o []->RPs K kd F B G H ps kos->RPs K kd F B G H ((kV k,v)::ps) ((k,o)::kos)
end
section
variable{X:Cx}{kd:KD}{e a b c o i:Expr}{pos pos':Pos}{fa fb fk fv:EF}
def zhh{κ:Type}[DecidableEq κ](ks:List κ)(k:κ):Bool:=ks.any λx=>decide (x=k)
def zkv{κ:Type}[DecidableEq κ](ks:List κ)(k:κ):List κ:=if zhh ks k=true then ks else ks++[k]
def zkl{κ α:Type}[DecidableEq κ](ks:List κ)(os:List α)(k:κ)(o:α):List α:=if zhh ks k=true then(ks.zip os).map (λp=>if p.1=k then o else p.2)else os++[o]
theorem zjW{κ α:Type}[DecidableEq κ](k:κ):∀(ks:List κ) (vs:List α),ks.length=vs.length->((ks.zip vs).any λkv=>decide (kv.1=k))=zhh ks k
 | [],_,_=>rfl
 |x::r,[],h=>by simp at h
 |x::r,v::vs,h=>by
  show(decide (x=k)||(r.zip vs).any _)=(decide (x=k)||_)
  rw[zjW k r vs (by simpa using h)]
  rfl
theorem zki{κ:Type}[DecidableEq κ]{v:V}{k:κ}:∀(ks:List κ) (vs:List V),ks.length=vs.length->(ks.zip vs).map (λkv=>if kv.1=k then(kv.1,v)else kv)=ks.zip ((ks.zip vs).map λp=>if p.1=k then v else p.2)
 | [],_,_=>rfl
 |x::r,[],h=>by simp at h
 |x::r,w::vs,h=>by
  show _::(r.zip vs).map _=(x,_)::r.zip ((r.zip vs).map _)
  rw[zki r vs (by simpa using h)]
  congr 1
  by_cases e:x=k
  · simp[e]
  · simp[e]
theorem zmK{κ:Type}[DecidableEq κ]{ks:List κ}{vs:List V}{k:κ}{v:V}(h:ks.length=vs.length):putK (ks.zip vs) k v=(zkv ks k).zip (zkl ks vs k v):=by
 unfold putK zkv zkl
 rw[zjW k ks vs h]
 split
 · exact zki ks vs h
 · rw[List.zip_append h]
   rfl
end
abbrev Fn:=List (Bool×D)->Option O
section
variable{P:Program}{w:World}{K:zC}{mg:Str->Option Value}{base:Heap}{kd:KD}
theorem Xv{A:Around}{k:Nat}(hr:Room k A):A.units+100<cLine:=by have:=hr.un;omega
def KD1(P:Program)(w:World)(K:zC)(kd:KD):Prop:=∀X:Cx,X.prog=P->X.w=w->X.K=K->KdOk X kd
theorem Vh{O:Addr->Prop}{H:Hp}:∀ns:List Int,RpL K kd O H (ns.map V.int) (ns.map D.int)
 | []=>.nil
 |_::r=>.cons (.int _) (Vh r)
theorem zqN{H:Hp}{a:Addr}{ns:List Int}{g:Fn}{E:XK}(hg:g [(true,.lst (ns.map D.int))]=some (.lf true (.bl true)))(hS:RdL K H a (ns.map V.int)):spD K kd g [.ref a] H (λv _=>v = .bl true) E:=by
 refine⟨λ_=>False,[(true,.lst (ns.map D.int))],.lf true (.bl true),(λ_ z=>z.elim),.cons ?_ .nil,hg,λv T H' _ _ _ _ ro=>?_⟩
 · rcases hS with h|⟨its,n,k,z,r⟩
   · exact .lst (λz=>z.2) h (Vh ns)
   · exact .lstK k z r (Vh ns)
 · cases ro with
   |lf rp=>cases rp;rfl
end
namespace Bt
theorem len:bootBuiltins "len"=some (.builtin "len"):=by decide +kernel
theorem max:bootBuiltins "max"=some (.builtin "max"):=by decide +kernel
theorem sorted:bootBuiltins "sorted"=some (.builtin "sorted"):=by decide +kernel
theorem isinstance:bootBuiltins "isinstance"=some (.builtin "isinstance"):=by decide +kernel
theorem int:bootBuiltins "int"=some (.type "int"):=by decide +kernel
theorem bool:bootBuiltins "bool"=some (.type "bool"):=by decide +kernel
theorem list:bootBuiltins "list"=some (.type "list"):=by decide +kernel
theorem tuple:bootBuiltins "tuple"=some (.type "tuple"):=by decide +kernel
theorem n(x:Str)(h:(x==("__name__":Str))=false):x≠"__name__":=λe=>by subst e;simp at h
end Bt
def WD(f:EF)(as:AS)(st:Bool)(d:D):Prop:=f as=some (.ow (.lf st d),as)
def WT(f:TF)(as:AS)(b:Bool):Prop:=f as=some (b,as)
def WA(f:AF)(as:AS)(rs:List (Bool×D)):Prop:=f as=some (rs.map (λx=>.ow (.lf x.1 x.2)),as)
def WO(f:DF)(as:AS)(os:List O):Prop:=f as=some (os,as)
section
variable{as:AS}{f a b:EF}{s t:Bool}{x y z:D}{i j:Int}
theorem zb:WD (fC x) as true x:=rfl
theorem za{i:Nat}(h:as[i]? = some (some (.lf s x))):WD (fV i) as s x:=by unfold WD fV;rw[h]
theorem zmV{g:D->D->Option R0}(ha:WD a as s x)(hb:WD b as t y)(hg:g x y=some (.im z)):WD (f2 a b g) as (yc z||(s&&t)) z:=by
 unfold WD f2 at *
 rw[ha];show((b as).bind _)=_
 rw[hb];show((g x y).bind _)=_
 rw[hg]
 show(if(yc z||(meet (some s) (some t)).isSome)=true then _ else _:Option RV).bind _=_
 rw[if_pos (by unfold meet;simp)]
 rfl
theorem zrX{g:D->D->Option R0}{oa ob:O}(ha:a as=some (.ow oa,as))(hb:b as=some (.ow ob,as))(hg:g oa.toD ob.toD=some (.im z)):WD (f2 a b g) as (yc z||(oa.str&&ob.str)) z:=by
 unfold WD f2 at *
 rw[ha];show((b as).bind _)=_
 rw[hb];show((g oa.toD ob.toD).bind _)=_
 rw[hg]
 show(if(yc z||(meet (some oa.str) (some ob.str)).isSome)=true then _ else _:Option RV).bind _=_
 rw[if_pos (by unfold meet;simp)]
 rfl
theorem zr{g:D->D->Option R0}(ha:WD a as s x)(hb:WD b as t y)(hg:g x y=some (.im z))(e:yc z=true):WD (f2 a b g) as true z:=by
 have:=zmV ha hb hg;rw[e]at this;exact this
theorem xR(ha:WD a as s (.int i))(hb:WD b as t (.int j)):WD (f2 a b (zam .Add)) as true (.int (i+j)):=zr ha hb rfl rfl
theorem ziD(ha:WD a as s (.int i))(hb:WD b as t (.int j)):WD (f2 a b (zam .Sub)) as true (.int (i-j)):=zr ha hb rfl rfl
theorem wL(ha:WD a as s (.int i))(hb:WD b as t (.int j))(h1:i.natAbs<big)(h2:j.natAbs<big):WD (f2 a b (zam .Mult)) as true (.int (i*j)):=zr ha hb (by show(if _ then _ else _)=_;rw[if_pos ⟨h1,h2⟩]) rfl
theorem Zq(ha:WD a as s (.int i))(hb:WD b as t (.int j))(h1:0<j)(h2:j.natAbs<big):WD (f2 a b (zam .FloorDiv)) as true (.int (i/j)):=zr ha hb (by show(if _ then _ else _)=_;rw[if_pos ⟨h1,h2⟩]) rfl
theorem yJ(ha:WD a as s (.int i))(hb:WD b as t (.int j))(h1:0<j):WD (f2 a b (zam .Mod)) as true (.int (i%j)):=zr ha hb (by show(if _ then _ else _)=_;rw[if_pos h1]) rfl
theorem yG{c:Bool}(ha:WD a as s x)(hb:WD b as t y)(h:eqF 60 x y=some c):WD (f2 a b (zQ .Eq)) as true (.bl c):=zr ha hb (by show(eqF 60 x y).bind _=_;rw[h];rfl) rfl
theorem zei{c:Bool}(ha:WD a as s x)(hb:WD b as t y)(h:eqF 60 x y=some c):WD (f2 a b (zQ .NotEq)) as true (.bl (!c)):=zr ha hb (by show(eqF 60 x y).bind _=_;rw[h];rfl) rfl
theorem zdl(ha:WD a as s (.int i))(hb:WD b as t (.int j)):WD (f2 a b (zQ .Lt)) as true (.bl (decide (i<j))):=zr ha hb rfl rfl
theorem zbs(ha:WD a as s (.int i))(hb:WD b as t (.int j)):WD (f2 a b (zQ .Gt)) as true (.bl (decide (j<i))):=zr ha hb rfl rfl
theorem zlR(ha:WD a as s (.int i)):WD (f1 a zgv) as true (.int (-i)):=by
 unfold WD f1 at *
 rw[ha]
 rfl
theorem zM{c:Bool}(h:WD f as s x)(e:truth x=some c):WT (fT f) as c:=by
 unfold WT fT;unfold WD at h
 rw[h];show((truth x).bind _)=_
 rw[e];rfl
theorem zeg{c:TF}{k:Bool}(h:WT c as k):WT (Yo c) as (!k):=by unfold WT Yo at *;rw[h];rfl
theorem Vx{c e:TF}{k l:Bool}(h:WT c as k)(h2:k=true->WT e as l)(h3:k=false->l=false):WT (W9 c e) as l:=by
 unfold WT W9 at *;rw[h]
 cases k with
 |true=>exact h2 rfl
 |false=>rw[h3 rfl];rfl
theorem zcV{c e:TF}{k l:Bool}(h:WT c as k)(h2:k=false->WT e as l)(h3:k=true->l=true):WT (zaZ c e) as l:=by
 unfold WT zaZ at *;rw[h]
 cases k with
 |false=>exact h2 rfl
 |true=>rw[h3 rfl];rfl
theorem zJ:WA aN as []:=rfl
theorem zq{fr:AF}{rs:List (Bool×D)}(ha:WD a as s x)(hr:WA fr as rs):WA (aC a fr) as ((s,x)::rs):=by
 unfold WA aC at *;unfold WD at ha
 rw[ha];show((fr as).bind _)=_
 rw[hr];rfl
theorem zcD:∀rs:List (Bool×D),XR as (rs.map (λx=>.ow (.lf x.1 x.2)))=some (rs.map λx=>(yc x.2||x.1,x.2))
 | []=>rfl
 |r::rs=>by
  show(zlp as (.ow (.lf r.1 r.2))).bind _=_
  show(XR as (rs.map _)).bind _=_
  rw[zcD rs];rfl
theorem W5:∀rs:List (Bool×D),views as (rs.map (λx=>.ow (.lf x.1 x.2)))=some (rs.map (·.2),some (rs.all (·.1)))
 | []=>rfl
 |r::rs=>by
  show(views as (rs.map _)).bind _=_
  rw[W5 rs];rfl
theorem zbA{fr:AF}{rs:List (Bool×D)}{g:List (Bool×D)->Option O}(ha:WA fr as rs)(hg:g (rs.map λx=>(yc x.2||x.1,x.2))=some (.lf s x)):WD (zK fr g) as s x:=by
 unfold WD zK;unfold WA at ha
 rw[ha];show(XR as _).bind _=_
 rw[zcD];show(g _).bind _=_
 rw[hg];rfl
theorem ZF{fr:AF}{rs:List (Bool×D)}{o:O}{g:List (Bool×D)->Option O}(ha:WA fr as rs)(hg:g (rs.map λx=>(yc x.2||x.1,x.2))=some o):zK fr g as=some (.ow o,as):=by
 unfold zK;unfold WA at ha
 rw[ha];show(XR as _).bind _=_
 rw[zcD];show(g _).bind _=_
 rw[hg];rfl
theorem zjE{fr:AF}{rs:List (Bool×D)}{g:List D->Option R0}(ha:WA fr as rs)(hg:g (rs.map (·.2))=some (.im x)):WD (fP fr g) as (yc x||rs.all (·.1)) x:=by
 unfold WD fP;unfold WA at ha
 rw[ha];show(views as _).bind _=_
 rw[W5];show(g _).bind _=_
 rw[hg]
 show(if(yc x||(some (rs.all (·.1))).isSome)=true then _ else _:Option RV).bind _=_
 rw[if_pos (by simp)];rfl
theorem vd{fr:AF}{rs:List (Bool×D)}{g:List D->Option R0}(ha:WA fr as rs)(hg:g (rs.map (·.2))=some (.im x))(e:yc x=true):WD (fP fr g) as true x:=by
 have:=zjE ha hg;rw[e]at this;exact this
theorem yd:WO dN as []:=rfl
theorem zm{fr:DF}{os:List O}(ha:WD a as s x)(hr:WO fr as os):WO (dC a fr) as (.lf s x::os):=by
 unfold WO dC at *;unfold WD at ha
 rw[ha];show((fr as).bind _)=_
 rw[hr];rfl
theorem wQ{fr:DF}{os:List O}(h:WO fr as os)(hl:os.length<=sizeLine):yW fr as=some (.ow (.nd .ls os),as):=by
 unfold yW;unfold WO at h
 rw[h];show(if os.length<=sizeLine then _ else _)=_
 rw[if_pos hl]
theorem zT{f g:SF}{as1:AS}{o:Option Out}(h1:f as=some (.nx as1))(h2:g as1=o):zE f g as=o:=by unfold zE;rw[h1];exact h2
theorem v9{f g:SF}{o:O}(h1:f as=some (.rt o)):zE f g as=some (.rt o):=by unfold zE;rw[h1];rfl
theorem wU{c:TF}{f g:SF}{o:Option Out}(h:WT c as true)(h1:f as=o):sIf c f g as=o:=by unfold sIf;unfold WT at h;rw[h];exact h1
theorem zY{c:TF}{f g:SF}{o:Option Out}(h:WT c as false)(h1:g as=o):sIf c f g as=o:=by unfold sIf;unfold WT at h;rw[h];exact h1
theorem xF{i:Nat}{st:Bool}(h:WD f as s x)(hi:i<as.length):zO st i f as=some (.nx (as.set i (some (.lf s x)))):=by
 unfold zO;unfold WD at h
 rw[h]
 cases st<;>exact if_pos hi
theorem xx{i:Nat}{o:O}(h:f as=some (.ow o,as))(hi:i<as.length):zO false i f as=some (.nx (as.set i (some o))):=by
 unfold zO
 rw[h]
 exact if_pos hi
theorem zoM{i:Nat}{o:O}(h:f as=some (.ow o,as))(hi:i<as.length):zO true i f as=some (.nx (as.set i (some o.frz))):=by
 unfold zO
 rw[h]
 exact if_pos hi
theorem ZM(h:WD f as true x):yP f as=some (.rt (.lf true x)):=by unfold yP;unfold WD at h;rw[h];rfl
theorem Z7{n m:Nat}{c:SF}{ds:List (Bool×D)}{o:O}(hl:ds.length=m)(h:c (zaY n ds)=some (.rt o)):fnR n m c ds=some o:=by unfold fnR;rw[if_pos hl,h];rfl
theorem xO{g:GF}{f:SF}(I:Nat->AS->Prop):∀(xs:List It1) (k:Nat) (as:AS),(∀i x as,xs[i]? = some x->I (k+i) as->∃as1,g x as=some as1/\∃as2,f as1=some (.nx as2)/\I (k+i+1) as2)->I k as->∃as',forL g f xs as=some (.nx as')/\I (k+xs.length) as'
 | [],k,as,_,h=>⟨as,rfl,h⟩
 |x::r,k,as,st,h=>by
  obtain⟨as1,h1,as2,h2,h3⟩:=st 0 x as rfl h
  obtain⟨as',h4,h5⟩:=xO I r (k+1) as2 (λi y as e q=>by
   obtain⟨u,k1,v,k2,k3⟩:=st (i+1) y as e (by rw[show k+(i+1)=k+1+i by omega];exact q)
   exact⟨u,k1,v,k2,by rw[show k+1+i+1=k+(i+1)+1 by omega];exact k3⟩) h3
  refine⟨as', ?_,by rw[zzQ,show k+(r.length+1)=k+1+r.length by omega];exact h5⟩
  show(g x as).bind _=_
  rw[h1];show(f as1).bind _=_
  rw[h2];exact h4
theorem xX{fi:IF}{g:GF}{f:SF}{xs:List It1}{as':AS}{o:Option Out}(h:fi as=some (xs,as'))(h2:forL g f xs as'=o):v4 fi g f as=o:=by unfold v4;rw[h];exact h2
theorem vY{lo:Int}{n i:Nat}{x:It1}(h:(vg lo n)[i]? = some x):x=(true,.int (lo+i))/\i<n:=by
 unfold vg at h
 rw[zzF]at h
 cases e:(List.range n)[i]? with
 |none=>rw[e]at h;cases h
 |some k=>
  rw[e]at h
  obtain⟨h1,h2⟩:=zzD.mp e
  rw[zyR]at h1
  rw[List.getElem_range]at h2
  subst h2
  exact⟨(zzW h).symm,h1⟩
theorem vB{fr:AF}{j:Int}{u:Bool}(h:WA fr as [(u,.int j)])(h0:0<=j)(h1:j<1000000):yU fr yV as=some (vg 0 j.toNat,as):=by
 unfold yU;unfold WA at h
 rw[h]
 simp only[zyI,W5]
 show((if -(2 ^ 62)<=j/\j<2 ^ 62 then some (vg 0 j.toNat)else none).bind _)=_
 rw[if_pos ⟨by omega,by omega⟩];rfl
theorem zmA{fr:AF}{rs:List (Bool×D)}{o:O}(ha:a as=some (.ow o,as))(hr:WA fr as rs):WA (aC a fr) as ((o.str,o.toD)::rs):=by
 unfold WA aC at *
 rw[ha];show((fr as).bind _)=_
 rw[hr];rfl
theorem V7{i:Nat}{o:O}(h:as[i]? = some (some o)):RV.view as (.bo i)=some (o.toD,o.kl):=by simp only[RV.view,h]
theorem zml{i:Nat}{o:O}(h:as[i]? = some (some o)):toO as (.bo i)=some (o.frz,as.set i (some o.frz)):=by simp only[toO,h]
theorem znL{i:Nat}{o:O}(h:as[i]? = some (some o))(hs:o.str=true):zmz as (.bo i)=some o:=by simp only[zmz,h,hs,if_true]
theorem zas{i:Nat}{k:Kind}{os:List O}(h:as[i]? = some (some (.nd k os))):fV i as=some (.bo i,as):=by unfold fV;rw[h]
theorem zqc{i:Nat}{os:List O}(h:as[i]? = some (some (.nd .ls os))):WD (fP (aC (fV i) aN) Yk) as true (.int os.length):=by
 have e:views as [.bo i]=some ([.lst (O.toDs os)],meet (O.nd .ls os).kl (some true)):=by
  show(RV.view as (.bo i)).bind _=_
  rw[V7 h];rfl
 unfold WD fP aC
 rw[zas h]
 simp only[zyI,aN,RV.frz,e]
 rw[show Yk [.lst (O.toDs os)]=some (.im (.int os.length)) by show some (R0.im (.int ((O.toDs os).length:Nat)))=_;rw[W0]]
 rfl
theorem vN{g:GF}{f:SF}{d:It1}{r:List It1}{as1 as2:AS}{o:Option Out}(h1:g d as=some as1)(h2:f as1=some (.nx as2))(h3:forL g f r as2=o):forL g f (d::r) as=o:=by
 show(g d as).bind _=_
 rw[h1];show(f as1).bind _=_
 rw[h2];exact h3
theorem zfa{g:GF}{f:SF}{d:It1}{r:List It1}{as1:AS}{o:O}(h1:g d as=some as1)(h2:f as1=some (.rt o)):forL g f (d::r) as=some (.rt o):=by
 show(g d as).bind _=_
 rw[h1];show(f as1).bind _=_
 rw[h2];rfl
theorem zeQ{i:Nat}{os:List O}(h:as[i]? = some (some (.nd .ls os)))(hl:os.length<sizeLine)(ha:WD a as s x):yQ (xQ i (dC a dN) xY) as=some (.nx (as.set i (some (.nd .ls (os++[.lf s x]))))):=by
 unfold yQ xQ;rw[h]
 have e:dC a dN as=some ([.lf s x],as):=zm ha yd
 show((dC a dN as).bind _).bind _=_
 rw[e];show(Option.bind (match as[i]? with|some (some (.nd .ls os))=>_|_=>none) _)=_
 rw[h];show((xY os [.lf s x]).bind _).bind _=_
 have e2:xY os [.lf s x]=some (os++[.lf s x],.lf true .non):=by unfold xY;exact if_pos hl
 rw[e2];rfl
theorem zlD{i:Nat}{os:List O}{k:Int}{o:O}(h:as[i]? = some (some (.nd .ls os)))(ha:WD a as s (.int k))(h0:0<=k)(h1:k<os.length)(hs:os.length<2 ^ 60)(ho:os[k.toNat]? = some o):xQ i (dC a dN) Va as=some (.ow o,as.set i (some (.nd .ls (os.eraseIdx k.toNat)))):=by
 unfold xQ;rw[h]
 have e:dC a dN as=some ([.lf s (.int k)],as):=zm ha yd
 show((dC a dN as).bind _)=_
 rw[e];show(match as[i]? with|some (some (.nd .ls os))=>_|_=>none)=_
 rw[h];show((Va os [.lf s (.int k)]).bind _)=_
 have e2:Va os [.lf s (.int k)]=some (os.eraseIdx k.toNat,o):=by
  unfold Va
  show(if -(2 ^ 63)<=k/\k<2 ^ 63 then _ else _)=_
  rw[if_pos ⟨by omega,by omega⟩]
  have e3:seqIndex? k os.length=some k.toNat:=by unfold seqIndex?;simp;omega
  rw[e3];show((os[k.toNat]?).bind _)=_
  rw[ho];rfl
 rw[e2];rfl
theorem zqE{g:GF}{o:O}{as':AS}(h:f as=some (.ow o,as))(hg:g (o.str,o.toD) as=some as'):zjn f g as=some (.nx as'):=by
 unfold zjn;rw[h]
 show(g (o.str,o.toD) as).bind _=_
 rw[hg];rfl
theorem zjY{i:Nat}{o:O}(h:as[i]? = some (some o))(hs:o.str=true):yP (fV i) as=some (.rt o):=by
 cases o with
 |lf st d=>unfold yP fV;rw[h];have:st=true:=hs;subst this;rfl
 |nd k os=>
  unfold yP;rw[zas h];show(zmz as (.bo i)).bind _=_
  rw[znL h hs];rfl
theorem W3{fr:DF}{os:List O}(h:WO fr as os)(hl:os.length<=sizeLine)(ha:os.all O.isLf=true):WD (yw fr) as (O.strs os) (.tup (O.toDs os)):=by
 unfold WD yw;unfold WO at h
 rw[h];show(if os.length<=sizeLine then some (RV.ow (Y4 os),as)else _)=_
 rw[if_pos hl];unfold Y4;rw[if_pos ha]
theorem zqd{g:D->D->Option R0}{oa ob:O}{zs:List D}{as1 as2:AS}(ha:a as=some (.ow oa,as1))(hb:b as1=some (.ow ob,as2))(hg:g oa.toD ob.toD=some (.fl zs)):f2 a b g as=some (.ow (.nd .ls (zs.map (lfs (oa.str&&ob.str)))),as2):=by
 unfold f2
 rw[ha];show((b as1).bind _)=_
 rw[hb];show((g oa.toD ob.toD).bind _)=_
 rw[hg]
 show(if(zs.all yc||(meet (some oa.str) (some ob.str)).isSome)=true then _ else _:Option RV).bind _=_
 rw[if_pos (by unfold meet;simp)]
 rfl
theorem yR{g:D->D->Option R0}(ha:WD a as true x)(hb:WD b as true y)(hg:g x y=some (.im z)):WD (f2 a b g) as true z:=by
 have:=zmV ha hb hg
 rw[show(yc z||(true&&true))=true by simp]at this
 exact this
theorem zac:∀zs:List D,zs.map (lfs true)=zs.map (O.lf true)
 | []=>rfl
 |z::r=>by
  show lfs true z::r.map (lfs true)=_
  rw[zac r];unfold lfs;rw[zyA];rfl
theorem zoQ{g:D->D->Option R0}{oa ob:O}{zs:List D}{as1 as2:AS}(ha:a as=some (.ow oa,as1))(hb:b as1=some (.ow ob,as2))(hg:g oa.toD ob.toD=some (.fl zs))(h1:oa.str=true)(h2:ob.str=true):f2 a b g as=some (.ow (.nd .ls (zs.map (O.lf true))),as2):=by
 have:=zqd ha hb hg
 rw[h1,h2,show(true&&true)=true from rfl,zac]at this
 exact this
theorem xr{fr:DF}{o:O}{os:List O}{as1 as2:AS}(ha:a as=some (.ow o,as1))(hr:fr as1=some (os,as2)):dC a fr as=some (o::os,as2):=by
 unfold dC
 rw[ha];show((fr as1).bind _)=_
 rw[hr];rfl
theorem add_lists{xs ys:List D}(h:xs.length+ys.length<=sizeLine):zam .Add (.lst xs) (.lst ys)=some (.fl (xs++ys)):=if_pos h
theorem zcc(lo:Int)(n:Nat):vg lo (n+1)=(true,.int lo)::vg (lo+1) n:=by
 unfold vg
 rw[List.range_succ_eq_map,zyP,zzY]
 congr 1
 · simp
 · apply List.map_congr_left
   intro i _
   show(true,D.int _)=(true,D.int _)
   congr 2
   show lo+((i+1:Nat):Int)=_
   omega
theorem zmr{fr:AF}{rs:List (Bool×D)}{g:List D->Option R0}(ha:WA fr as rs)(hg:g (rs.map (·.2))=some (.im x))(e:rs.all (·.1)=true):WD (fP fr g) as true x:=by
 have:=zjE ha hg;rw[e,zyA]at this;exact this
theorem zdH{ty:Ty}{fr:AF}{rs:List (Bool×D)}{g:D->List D->Option R0}(ha:WD a as s y)(ht:zof ty y=true)(hr:WA fr as rs)(hg:g y (rs.map (·.2))=some (.im x))(e:yc x=true):WD (Y6 ty a fr g) as true x:=by
 unfold WD Y6;unfold WD at ha;unfold WA at hr
 rw[ha]
 show(if zof ty y=true then _ else _:Option (RV×AS))=_
 rw[if_pos ht,hr]
 simp only[zyI,W5]
 show((g y (rs.map (·.2))).bind _)=_
 rw[hg]
 show(if(yc x||_)=true then _ else _:Option RV).bind _=_
 rw[if_pos (by rw[e];rfl)]
 show some (RV.ow (.lf (yc x||_) x),as)=_
 rw[e];rfl
theorem zmo{fl fh:OF}{lo hi:Option Int}{g:D->Option Int->Option Int->Option R0}(ha:WD a as s y)(hl:fl as=some (lo,as))(hh:fh as=some (hi,as))(hg:g y lo hi=some (.im x)):WD (fSl a fl fh g) as (yc x||s) x:=by
 unfold WD fSl;unfold WD at ha
 rw[ha];show((fl as).bind _)=_
 rw[hl];show((fh as).bind _)=_
 rw[hh];show((g y lo hi).bind _)=_
 rw[hg]
 show(if(yc x||(some s).isSome)=true then _ else _:Option RV).bind _=_
 rw[if_pos (by simp)];rfl
theorem zbP{fi:IF}{cap:List (Option Nat)}{g:GF}{tt:TF}{fe:EF}{xs:List It1}{os:List O}(h1:fi as=some (xs,as))(hl:xs.length<=sizeLine)(h2:wB g tt fe (Yz cap as) xs=some os):zR fi cap g tt fe as=some (.ow (.nd .ls os),as):=by
 unfold zR
 rw[h1];show(if xs.length<=sizeLine then _ else _)=_
 rw[if_pos hl];show(wB g tt fe (Yz cap as) xs).bind _=_
 rw[h2];rfl
theorem zhP{fr:AF}{rs:List RV}{xs:List (Bool×D)}{o:O}{g:List (Bool×D)->Option O}(ha:fr as=some (rs,as))(hx:XR as rs=some xs)(hg:g xs=some o):zK fr g as=some (.ow o,as):=by
 unfold zK
 rw[ha];show(XR as rs).bind _=_
 rw[hx];show(g xs).bind _=_
 rw[hg];rfl
end
theorem szl{n:Nat}(h:Nat.ble n 1000=true):n<=sizeLine:=Nat.le_of_lt (ZL (Nat.le_of_ble_eq_true h))
theorem zB{a b:Nat}(h:Nat.ble (a+1) b=true):a<b:=Nat.le_of_ble_eq_true h
theorem yh{i:Int}(h0 : -(10 ^ 200)<i)(h1:i<10 ^ 200):i.natAbs<big:=by
 have:(10:Nat) ^ 200<big:=by unfold big;decide +kernel
 have e:((10 ^ 200:Nat):Int)=(10:Int) ^ 200:=by norm_cast
 have:(i.natAbs:Int)<((10 ^ 200:Nat):Int):=by rw[e];omega
 omega
theorem zoc{ns:List Int}{k:Int}(h0:0<=k)(h1:k<ns.length):∃x,ixP (.lst (ns.map D.int)) (.int k)=some (.im (.int x)):=by
 have hk:k.toNat<ns.length:=by omega
 refine⟨ns[k.toNat], ?_⟩
 have h:=Yu (xs:=ns.map D.int) (j:=k.toNat) (v:=D.int ns[k.toNat]) (by rw[zzF,zzB hk];rfl)
 rw[show((k.toNat:Nat):Int)=k by omega]at h
 show imR (atI _ _)=_
 rw[h];rfl
section
variable{X:Cx}{kd:KD}{K:zC}{mg:Str->Option Value}
def spL(K:zC)(g:Fn):Sp:=λvs H Q E=>∀kd:KD,spD K kd g vs H Q E
end
def lfO:O->Option (Bool×D)
 | .lf s d=>some (s,d)
 |_=>none
theorem zmf{o:O}{p:Bool×D}(h:lfO o=some p):o = .lf p.1 p.2:=by
 cases o with
 |lf s d=>cases h;rfl
 |nd k os=>cases h
def zlv(i j:Nat)(fd:DF):SF:=λas=>(fd as).bind λp=>(zqq p.1).bind λo=>(lfO o.1).bind λa=>(lfO o.2).bind λb=>if i<p.2.length/\j<p.2.length then some (.nx ((p.2.set i (some (.lf a.1 a.2))).set j (some (.lf b.1 b.2))))else none
section
variable{X:Cx}{kd:KD}{a b:Expr}{fd:DF}{pos:Pos}
theorem zqY{i j:Nat}{x y:Str}{px py pt:Pos}{kt k2 pt2}(hc:X.calm=true)(hN:X.N.Nodup)(hi:X.N[i]? = some x)(hj:X.N[j]? = some y)(hij:i≠j)
 (hx:X.env.scope.names.lookup x=some .local) (hy:X.env.scope.names.lookup y=some .local) (ha:AD X kd [a,b] fd)
 (hw:swappedStores [.Tuple [.Name x px,.Name y py] kt pt] (.Tuple [a,b] k2 pt2) X.env=pure (some [x,y]))
 (hs:swapsWithSole [.Tuple [.Name x px,.Name y py] kt pt] (.Tuple [a,b] k2 pt2) pos.line X.env=pure false):
 ASt X kd (.Assign [.Tuple [.Name x px,.Name y py] kt pt] (.Tuple [a,b] k2 pt2) pos) (zlv i j fd):=by with_unfolding_all exact(Zi (zpJ hc hN hi hj hij hx hy ha hw hs) λD σ H h=>by
 obtain⟨F,B,ad,as,o,R,e,q⟩:=h
 obtain⟨⟨os,as1⟩,h1,e⟩:=bS_ (show(fd as).bind _=_ from e)
 obtain⟨⟨o1,o2⟩,e1,e⟩:=bS_ e
 obtain⟨⟨s1,d1⟩,e2,e⟩:=bS_ e
 obtain⟨⟨s2,d2⟩,e3,e⟩:=bS_ e
 cases zjJ e1
 cases zmf e2
 cases zmf e3
 · obtain⟨⟨l1,l2⟩,e⟩:=yg e
   cases e
   refine⟨F,B,ad,as,_,as1,R,h1,λvs T' ad' H' R' rl g=>?_⟩
   cases rl with
   |cons ra rb=>
    cases rb with
    |cons rb rn=>
     cases rn
     cases ra with
     |lf ra=>
      cases rb with
      |lf rb=>
       refine⟨_,_,rfl, ?_⟩
       have R2:=R'.put (T:=[]) (i:=i) (o:=.lf s1 d1) l1 (.lf ra)
       have R3:=R2.put (T:=[]) (i:=j) (o:=.lf s2 d2) (by rw[zzR];exact l2) (RoS.less vL (.lf rb))
       exact q _ _ _ R3 (g.trans (Grow.less λa z=>vL a (vL a z))))
end
inductive Ents(w:World):List DictEntry->List (Key×V)->Prop
 |nil:Ents w [] []
 |str {x:Str}{t:Tok}{v:V}{u:Value}{r:List DictEntry}{s:List (Key×V)}:RelV v u->Ents w r s->Ents w (⟨PyData.keyHash w.params x,.str x t,u⟩::r) ((.inr x,v)::s)
theorem Ents.keys{P:Program}{w:World}:∀{es:List DictEntry}{kvs:List (Key×V)},Ents w es kvs->∀e ∈ es,∃k,(wz P w).is k e.key=true/\e.hash=(wz P w).hash k
 |_,_,.nil,_,m=>nomatch m
 |_,_,.str (x:=x) (t:=t) _ r,e,m=>by
  rcases zI.mp m with rfl|m
  · exact⟨.inr x,Vo P w x t,rfl⟩
  · exact r.keys e m
theorem Ents.pairs{P:Program}{w:World}:∀{es:List DictEntry}{kvs:List (Key×V)},Ents w es kvs->∃vs,KV kvs vs/\Pairs (wz P w) es vs/\vs.map (·.1)=kvs.map (·.1)
 |_,_,.nil=>⟨[],.nil,.nil,rfl⟩
 |_,_,.str (x:=x) (t:=t) (u:=u) h r=>by
  obtain⟨vs,h1,h2,h3⟩:=r.pairs (P:=P)
  exact⟨(.inr x,u)::vs,.cons ⟨rfl,h⟩ h1,.cons (Vo P w x t) rfl h2,by rw[zyP,zyP,h3]⟩
structure DctAt(w:World)(K:zC)(a:Addr)(kvs:List (Key×V)):Prop where
 ex:∃es ep,K.lookup a=some {cls:=.type "dict",data:=.dict es ep}/\Ents w es.toList kvs
 nd:(kvs.map (·.1)).Nodup
 le:kvs.length<=sizeLine
 ns:(a==sysModules)=false
def kdL(l:List (Addr×List (Key×V)))(c:Str->Addr:=λ_=>0):KD:=⟨λa k=>l.lookup a=some k,c⟩
theorem lookup_mem{l:List (Addr×List (Key×V))}{a:Addr}{k:List (Key×V)}(h:l.lookup a=some k):(a,k) ∈ l:=by
 induction l with
 |nil=>cases h
 |cons p r ih=>
  rw[List.lookup_cons]at h
  by_cases e:a=p.1
  · subst e
    rw[beq_self_eq_true]at h
    cases h
    exact zzC
  · rw[show(a==p.1)=false from beq_eq_false_iff_ne.mpr e]at h
    exact zzA _ (ih h)
theorem zqO{P:Program}{w:World}{K:zC}{l:List (Addr×List (Key×V))}{c:Str->Addr}(h:∀p ∈ l,DctAt w K p.1 p.2):KD1 P w K (kdL l c):=λX e1 e2 e3=>by
 subst e1;subst e2;subst e3
 refine⟨λa k k' h1 h2=>zzW (h1.symm.trans h2),λa k h1=>?_,λa k hp h1 hin=>?_⟩
 · obtain⟨es,ep,e,_⟩:=(h _ (lookup_mem h1)).ex
   exact⟨_,e⟩
 · have q:=h _ (lookup_mem h1)
   obtain⟨es,ep,e,en⟩:=q.ex
   obtain⟨vs,h2,h3,h4⟩:=en.pairs (P:=X.prog)
   refine⟨q.le,q.ns,vs,h2,_,es,ep,hin _ _ e,⟨rfl,rfl,rfl⟩,rfl,λx m=>en.keys x (by simpa using m),h3,by rw[h4];exact q.nd⟩
def isStar:Expr->Bool
 | .Starred .. => true
 |_=>false
theorem zcd{a:Expr}{es:List Expr}{env:Env}(h:isStar a=false):starEach (a::es) env=(false,eval a env)::starEach es env:=by
 cases a<;>first|rfl|cases h
section
variable{as:AS}{f a b c:EF}{s t u:Bool}{x y z:D}{i j k:Int}
theorem zhi{cl:String}(h:WD f as s x)(ho:ziR x=true:=by rfl):WD (zbc f cl) as true (.bl (zeJ (tyD x) cl)):=by
 unfold WD zbc at *;rw[h];show(if ziR x=true then _ else _)=_;rw[if_pos ho];rfl
theorem zfU{fl fh:OF}{lo hi:Option Int}{g:D->Option Int->Option Int->Option R0}(ha:WD a as true y)(hl:fl as=some (lo,as))(hh:fh as=some (hi,as))(hg:g y lo hi=some (.im x)):WD (fSl a fl fh g) as true x:=by
 have:=zmo ha hl hh hg;rw[zyA]at this;exact this
theorem ziY{cc:TF}{g:SF}{n:Nat}{as1:AS}{o:Option Out}(h:WT cc as true)(h1:g as=some (.nx as1))(h2:whL cc g n as1=o):whL cc g (n+1) as=o:=by
 unfold WT at h
 show(cc as).bind _=_
 rw[h];show(g as).bind _=_
 rw[h1];exact h2
theorem zlA{cc:TF}{g:SF}{n:Nat}(h:WT cc as false):whL cc g (n+1) as=some (.nx as):=by
 unfold WT at h
 show(cc as).bind _=_
 rw[h];rfl
theorem zqa{cc:TF}{g:SF}{n:Nat}{o:O}(h:WT cc as true)(h1:g as=some (.rt o)):whL cc g (n+1) as=some (.rt o):=by
 unfold WT at h
 show(cc as).bind _=_
 rw[h];show(g as).bind _=_
 rw[h1];rfl
theorem zrw{p q:Nat}{fd:DF}(h:WO fd as [.lf s x,.lf t y])(hi:p<as.length)(hj:q<as.length):zlv p q fd as=some (.nx ((as.set p (some (.lf s x))).set q (some (.lf t y)))):=by
 unfold zlv;unfold WO at h
 rw[h];show(if _ then _ else _)=_
 rw[if_pos ⟨hi,hj⟩]
theorem zfJ{g:GF}{tt:TF}{fe:EF}{as0 as1:AS}{w:It1}{r:List It1}{o:Option (List O)}(h1:g w as0=some as1)(h2:WT tt as1 false)(h3:wB g tt fe as0 r=o):wB g tt fe as0 (w::r)=o:=by
 unfold WT at h2
 show(g w as0).bind _=_
 rw[h1];show(tt as1).bind _=_
 rw[h2];exact h3
theorem zkC{g:GF}{tt:TF}{fe:EF}{as0 as1:AS}{w:It1}{r:List It1}{os:List O}(h1:g w as0=some as1)(h2:WT tt as1 true)(h3:WD fe as1 true x)(h4:wB g tt fe as0 r=some os):wB g tt fe as0 (w::r)=some (.lf true x::os):=by
 unfold WT at h2;unfold WD at h3
 show(g w as0).bind _=_
 rw[h1];show(tt as1).bind _=_
 rw[h2];show(fe as1).bind _=_
 rw[h3];show(wB g tt fe as0 r).bind _=_
 rw[h4];rfl
def WE(f:EF)(as:AS)(x:D):Prop:=∃o,f as=some (.ow o,as)/\o.str=true/\o.toD=x
def RE(r:Option O)(x:D):Prop:=∃o,r=some o/\o.str=true/\o.toD=x
theorem WD.e(h:WD f as true x):WE f as x:=⟨_,h,rfl,rfl⟩
theorem vO{fr:DF}{os:List O}(h:WO fr as os)(hl:os.length<=sizeLine)(hs:O.strs os=true)(e:D.lst (O.toDs os)=x):WE (yW fr) as x:=⟨_,wQ h hl,hs,e⟩
theorem Yp{fr:AF}{rs:List (Bool×D)}(h:WE a as x)(hr:WA fr as rs):WA (aC a fr) as ((true,x)::rs):=by
 obtain⟨o,h1,h2,rfl⟩:=h
 have:=zmA h1 hr
 rw[h2]at this
 exact this
theorem zaF{g:List (Bool×D)->Option O}(ha:WE a as x)(hg:RE (g [(true,x)]) z):WE (zK (aC a aN) g) as z:=by
 obtain⟨o,h1,h2,h3⟩:=hg
 exact⟨o,ZF (Yp ha zJ) (by show g [(yc x||true,x)]=_;rw[zyA];exact h1),h2,h3⟩
theorem Vj{g:List (Bool×D)->Option O}(ha:WE a as x)(hb:WE b as y)(hg:RE (g [(true,x),(true,y)]) z):WE (zK (aC a (aC b aN)) g) as z:=by
 obtain⟨o,h1,h2,h3⟩:=hg
 exact⟨o,ZF (Yp ha (Yp hb zJ)) (by show g [(yc x||true,x),(yc y||true,y)]=_;rw[zyA,zyA];exact h1),h2,h3⟩
theorem VJ{w:D}{g:List (Bool×D)->Option O}(ha:WE a as x)(hb:WE b as y)(hc:WE c as w)(hg:RE (g [(true,x),(true,y),(true,w)]) z):WE (zK (aC a (aC b (aC c aN))) g) as z:=by
 obtain⟨o,h1,h2,h3⟩:=hg
 exact⟨o,ZF (Yp ha (Yp hb (Yp hc zJ))) (by show g [(yc x||true,x),(yc y||true,y),(yc w||true,w)]=_;rw[zyA,zyA,zyA];exact h1),h2,h3⟩
theorem zjf{w:D}{g:List (Bool×D)->Option O}(ha:WE a as x)(hb:WE b as y)(hc:WE c as w)(hg:g [(true,x),(true,y),(true,w)]=some (.lf s z)):WD (zK (aC a (aC b (aC c aN))) g) as s z:=ZF (Yp ha (Yp hb (Yp hc zJ))) (by show g [(yc x||true,x),(yc y||true,y),(yc w||true,w)]=_;rw[zyA,zyA,zyA];exact hg)
theorem f2E{g:D->D->Option R0}(ha:WE a as x)(hb:WE b as y)(hg:g x y=some (.im z)):WD (f2 a b g) as true z:=by
 obtain⟨o,h1,h2,rfl⟩:=ha
 obtain⟨p,h3,h4,rfl⟩:=hb
 have:=zrX h1 h3 hg
 rw[h2,h4,Bool.and_true,zyA]at this
 exact this
theorem f2L{g:D->D->Option R0}{zs:List D}(ha:WE a as x)(hb:WE b as y)(hg:g x y=some (.fl zs)):f2 a b g as=some (.ow (.nd .ls (zs.map (O.lf true))),as):=by
 obtain⟨o,h1,h2,rfl⟩:=ha
 obtain⟨p,h3,h4,rfl⟩:=hb
 exact zoQ h1 h3 hg h2 h4
theorem zbt:∀zs:List D,O.strs (zs.map (O.lf true))=true
 | []=>rfl
 |_::r=>zbt r
theorem zbz:∀zs:List D,O.toDs (zs.map (O.lf true))=zs
 | []=>rfl
 |z::r=>congrArg (z :: ·) (zbz r)
theorem zoo{g:D->D->Option R0}{zs:List D}(ha:WE a as x)(hb:WE b as y)(hg:g x y=some (.fl zs)):WE (f2 a b g) as (.lst zs):=⟨_,f2L ha hb hg,zbt zs,congrArg D.lst (zbz zs)⟩
theorem Zg{p:Nat}(h:WE f as x)(hi:p<as.length):zO true p f as=some (.nx (as.set p (some (.lf true x)))):=by
 obtain⟨o,h1,h2,rfl⟩:=h
 have:=zoM h1 hi
 rw[show o.frz = .lf true o.toD by unfold O.frz;rw[h2]]at this
 exact this
theorem zmh{q:Bool}(ha:WE a as x)(hb:WE b as y)(h:eqF 60 x y=some q):WD (f2 a b (zQ .Eq)) as true (.bl q):=f2E ha hb (by show(eqF 60 x y).bind _=_;rw[h];rfl)
theorem zjq{q:Bool}(ha:WE a as x)(hb:WE b as y)(h:eqF 60 x y=some q):WD (f2 a b (zQ .NotEq)) as true (.bl (!q)):=f2E ha hb (by show(eqF 60 x y).bind _=_;rw[h];rfl)
theorem zqk{g:List D->Option R0}(ha:WE a as x)(hg:g [x]=some (.im z)):WD (fP (aC a aN) g) as true z:=zmr (Yp ha zJ) hg rfl
theorem Xi{fr:DF}{o:O}{os:List O}(ha:a as=some (.ow o,as))(hr:WO fr as os):WO (dC a fr) as (o::os):=xr ha hr
theorem zes{fr:DF}{os:List O}(h:WO fr as os)(hl:os.length<=sizeLine):yw fr as=some (.ow (Y4 os),as):=by
 unfold yw;unfold WO at h
 rw[h];show(if os.length<=sizeLine then some (RV.ow (Y4 os),as)else _)=_
 rw[if_pos hl]
theorem zdJ{fl fh:OF}{lo hi:Option Int}{g:D->Option Int->Option Int->Option R0}{zs:List D}(ha:WE a as y)(hl:fl as=some (lo,as))(hh:fh as=some (hi,as))(hg:g y lo hi=some (.fl zs)):WE (fSl a fl fh g) as (.lst zs):=by
 obtain⟨o,h1,h2,rfl⟩:=ha
 refine⟨.nd .ls (zs.map (O.lf true)), ?_,zbt zs,congrArg D.lst (zbz zs)⟩
 unfold fSl
 rw[h1];show((fl as).bind _)=_
 rw[hl];show((fh as).bind _)=_
 rw[hh];show((g o.toD lo hi).bind _)=_
 rw[hg]
 show(if(zs.all yc||(some o.str).isSome)=true then some (RV.ow (.nd .ls (zs.map (lfs ((some o.str).getD false)))))else none:Option RV).bind _=_
 rw[if_pos (by simp),h2]
 show some (RV.ow (.nd .ls (zs.map (lfs true))),as)=_
 rw[zac]
theorem zmc{xs ys:List D}:slP (.lst (xs++ys)) (some (xs.length:Int)) none=some (.fl ys):=by
 show some (R0.fl (cutD (xs++ys) (some (xs.length:Int)) none))=_
 congr 2
 unfold cutD
 rw[HT.zdN,HT.zhv,zzG,Nat.min_eq_left (by omega),List.drop_left,List.take_of_length_le (by omega)]
theorem zgx:∀ds:List D,kids true ds=ds.map λd=>(true,d)
 | []=>rfl
 |d::r=>by show(yc d||true,d)::kids true r=_;rw[zgx r,zyA];rfl
theorem zcQ{ds:List D}(h:WE f as (.lst ds)):Zh f as=some (ds.map λd=>(true,d),as):=by
 obtain⟨o,h1,h2,h3⟩:=h
 unfold Zh
 rw[h1];show(zhR (o.str,o.toD)).bind _=_
 rw[h2,h3];show some (kids true ds,as)=_
 rw[zgx]
theorem zde{ds:List D}(h:WD f as true (.lst ds)):Wo f as=some (ds.map λd=>(true,d),as):=by
 unfold Wo;unfold WD at h
 rw[h];show some (kids true ds,as)=_
 rw[zgx]
end
def zcP:List D->Option (List Str)
 | []=>some []
 | .str x::r=>(zcP r).bind λs=>some (x::s)
 |_::_=>none
theorem zoB{K:zC}{kd:KD}{O:Addr->Prop}{H:Hp}{vs:List V}{us:List Value}{ds:List D}{ns:List Str}(h:RpL K kd O H vs ds)(hv:Vals vs us)(e:zcP ds=some ns):StrsAre us ns:=
 RpL.ind (P:=λvs ds=>∀us ns,Vals vs us->zcP ds=some ns->StrsAre us ns) (λus ns hv e=>by cases e;cases hv;exact .nil) (λ{v d vs ds} a _ ih us ns hv e=>by
  cases hv with
  |cons b t=>
   cases a with
   |str x=>
    obtain⟨ys,h1,h2⟩:=bS_ (show(zcP _).bind _=_ from e)
    cases h2
    obtain⟨tk,rfl⟩:=b
    exact .cons _ _ (ih _ _ t h1)
   |_=>cases e) h us ns hv e
def zjU:D->List D->Option R0
 | .str sep,[.lst ds]=>(zcP ds).bind λys=>if(ys.map (·.length)).sum+ys.length*sep.length<=16777216 then some (.im (.str (Txt.join sep ys)))else none
 |_,_=>none
section
variable{X:Cx}{kd:KD}
theorem zoF:MtD X kd "str.join" zjU:=by
 intro pins s σ H x xs v us Q I rx r h
 obtain⟨O,d,ds,r0,ht,vx,vl,he,q⟩:=h
 unfold zjU at he
 split at he
 · rename_i sep es
   obtain⟨ys,h1,he⟩:=bS_ he
   obtain⟨hz,he⟩:=yg he
   cases he
   cases vx
   obtain⟨t,rfl⟩:=rx
   obtain⟨y,rfl,vy⟩:=zgD vl
   cases vy with
   |lst hr rl=>
    obtain⟨u,rfl,ru⟩:=vals1 r
    cases ru
    obtain⟨its,rv,pl,_⟩:=I.list hr.sq
    exact join_list pl.isList (zoB rl (by simpa using rv) h1) hz λt' k=>⟨.str _,H,I.tok _,⟨t',rfl⟩,yN q (.str _)⟩
 · cases he
def zsV:D->Option R0
 | .str x=>if x.length<=640 then(PySem.intText? x).bind λn=>some (.im (.int n))else none
 |d=>ztr d
def zin:List D->Option R0:=on1 zsV
theorem zep:CallD X kd (.type "int") zin:=by
 intro pins s σ H xs us Q I r h
 obtain⟨O,ds,z,ht,vl,he,q⟩:=h
 obtain⟨x,d,rfl,vx,he⟩:=zfn vl he
 cases vx with
 |str y=>
  obtain⟨hl,he⟩:=ite_some' he
  obtain⟨n,hn,he⟩:=bS_ he
  cases he
  obtain⟨u,rfl,ru⟩:=vals1 r
  obtain⟨t,rfl⟩:=ru
  exact PySem.W.KIN.call_text hn hl ⟨.int _,H,I.tok _,⟨_,rfl⟩,yN q (.int _)⟩
 |int i=>cases he;exact zfS pins s σ H _ us Q I r (.inl ⟨_,rfl,yN q (.int _)⟩)
 |bl b=>cases he;exact zfS pins s σ H _ us Q I r (.inr ⟨_,rfl,yN q (.int _)⟩)
 |_=>cases he
end
section
variable{X:Cx}{pins:List (Addr×Obj)}{σ:List (Option V)}{H:Hp}{s:Shared}{h':Heap}
theorem zbl{t':Nat}{ch:List Addr}{T:Addr}{o:HO}(I:Inv X pins σ H s)(hf:∀b ∈ ch,zds X pins H b)(k:∀b u,b ∉ ch->s.heap.get? b=some u->h'.get? b=some u)(hp:s.heap.objs.size<=T)
 (new:vm X.prog X.w (upd H T o) h' T o):Inv X pins σ (upd H T o) {s with heap:=h',toks:=t'}:=by
 have hn:H T=none:=I.hok.fresh hp
 have nT:∀b u,s.heap.get? b=some u->b≠T:=λb u e z=>absurd (zzH (zxE e) (by rw[z];exact hp)) (Nat.lt_irrefl _)
 have nc:∀b u,H b=some u->b ∉ ch:=λb u e z=>by have:=(hf b z).1;rw[e]at this;cases this
 refine I.step (g':=s.gens) (d':=s.drawn) (ch:=ch) (λb hb=>?_) (λb o _ _ hc e _=>k b o hc e) (λb o _ _ hc e _=>⟨o.slots,k b o hc e⟩) (λb o _ e n=>by rw[zV (nT b o e)];exact n)
  (λb o hc e=>⟨o,k b o hc e⟩) (λb xs e=>by rw[zV (yM e hn)];exact e) (λb o u e=>by rw[zV (yM e hn)];exact e) (λb ps e=>⟨#[],by rw[zV (yM e hn),e];simp⟩) (λm hm=>?_) (λb u e=>?_) I.bare
 · obtain⟨f0,f1,f2,f3,f4,f5⟩:=hf b hb
   exact⟨f3,f1,f4,f5⟩
 · obtain⟨o,es,ep,ho,r⟩:=hm
   exact⟨o,es,ep,k _ o (λz=>(hf _ z).2.1 rfl) ho,r⟩
 · by_cases hb:b=T
   · subst hb;rw[yC]at e;cases e;exact new
   · rw[zV hb]at e
     refine(I.hok b u e).stay (λc v hc q=>k c v ?_ q) (λc q=>by rw[zV (yM q hn)];exact q) λc xs q=>by rw[zV (yM q hn)];exact q
     rcases hc with z|z
     · rw[z];exact nc b u e
     · exact nc c _ z
end
def Ite(K:zC)(a:Addr):It:=
 ⟨λi H=>∃xs x,SqL K H a xs/\xs[i]? = some x,λi H v H'=>∃T x,H T=none/\v = .ref T/\H'=upd H T (.tup [.int i,x])/\∀xs,SqL K H a xs->xs[i]? = some x,λi H=>∃xs,SqL K H a xs/\xs.length<=i⟩
theorem zkZ{P:Program}{w:World}{K:zC}{elts:List Expr}{k:Nat}{pos:Pos}(a e it:Addr)(hei:e≠it):Turn P w K (.Tuple elts k pos) (Ite K a) [e,it] e (λi h=>(∃old,IsEnum h e it i old)/\h.IsListIter it a i)where
 mem:=by simp
 obj:=λi h st b hb=>by
  obtain⟨⟨old,he⟩,⟨o,e1,c,d⟩⟩:=st
  rcases zI.mp hb with rfl|hb
  · exact⟨_,he,λv z=>by cases z⟩
  · rw[zzO.mp hb]
    exact⟨o,e1,λv z=>by rw[d]at z;cases z⟩
 keep:=λi h h' st kk=>⟨st.1.imp λold he=>kk e (by simp) _ he,st.2.at λo q=>kk it (by simp) o q⟩
 item:=by
  intro X hP hw hK hc i pins s σ H E I hf st hg
  subst hP hw hK
  obtain⟨xs,x,hq,hx⟩:=hg
  obtain⟨its,rv,p,hz⟩:=I.list hq
  obtain⟨u,hu,ru⟩:=rv.get hx
  have hil:i<its.toArray.size:=by have:=(zzD.mp hu).1;simpa using this
  obtain⟨ol,hol,hcl,_⟩:=p.isList
  have hae:a≠e:=λz=>by
   obtain⟨⟨old,he⟩,_⟩:=st
   rw[z]at hol;rw[show s.heap.get? e=_ from he]at hol;cases hol
   injection hcl with q;exact absurd q (by decide)
  have hai:a≠it:=λz=>by
   obtain⟨_,⟨o,e1,c,d⟩⟩:=st
   rw[z,e1]at hol;cases hol;rw[c]at hcl
   injection hcl with q;exact absurd q (by decide)
  have W:=WalksT.enumerate (prog:=X.prog) (w:=X.w) (A:=X.A) (I.ok.hd hc) e it a hei hae hai its.toArray
  refine W.item i s _ _ hil ⟨st.1,st.2,p.isList⟩ λT vals h1 tk hP hT hTup hMid kk=>?_
  obtain⟨t,v,hv,rfl⟩:=hP
  have:v=u:=by rw[show its.toArray[i]? = its[i]? by simp,hu]at hv;cases hv;rfl
  subst this
  refine⟨_,rfl,W.go elts k pos i T {s with heap:=h1,toks:=tk} _ _ hMid λh2 hSt kk2=>?_⟩
  have hn:H T=none:=I.hok.fresh hT
  have hTw:=W.apart i T h1 hMid
  have k2:∀b o,b ∉ [e,it]->s.heap.get? b=some o->h2.get? b=some o:=λb o hb q=>kk2 b o hb (kk b o hb q)
  have hT2:IsTup h2 T #[.int i t,v]:=by
   obtain⟨o,q1,q2⟩:=hTup
   exact⟨o,kk2 T o hTw q1,q2⟩
  refine⟨.ref T,upd H T (.tup [.int i,x]),zbl (s:=s) (t':=tk) (ch:=[e,it]) I hf k2 hT ⟨by show 2<=sizeLine;decide,[.int i t,v],.cons ⟨t,rfl⟩ (.cons ru .nil),hT2⟩,rfl,⟨T,x,hn,rfl,rfl,λys hy=>by rw[I.list_inj hy hq];exact hx⟩,⟨hSt.1,hSt.2.1⟩,λb hb=>?_⟩
  have hbT:b≠T:=λz=>hTw (by rw[<-z];exact hb)
  rw[zV hbT]
  exact(hf b hb).1
 done:=by
  intro X hP hw hK hc i pins s σ H E I hf st hg
  subst hP hw hK
  obtain⟨xs,hq,hx⟩:=hg
  obtain⟨its,rv,p,hz⟩:=I.list hq
  have hl:=rv.length
  obtain⟨⟨old,he⟩,hit⟩:=st
  obtain⟨f0,f1,f2,f3,f4,f5⟩:=hf it (by simp)
  exact wpAny_pyNext_enum_end (I.ok.hd hc) he hit p.isList (by simp;omega) λh' eb=>⟨rfl,I.turned (t':=s.toks) (λb o hb e=>eb b o hb e) f0 f1 f3 f4 f5⟩
 self:=λ_ _ _ _ _ st h=>by
  obtain⟨⟨old,he⟩,_⟩:=st
  exact wpAny_pyIter_enum he h
section
variable{X:Cx}{tg:Expr}
def zpI(K:zC)(ta:TA):TI:=λσ H R=>ta σ H λvs H1=>∃a,vs=[.ref a]/\(∃xs,SqL K H1 a xs)/\R (Ite K a) H1
theorem znU{l:Expr}{ta:TA}{p pos pos':Pos}{elts:List Expr}{k:Nat}(hg:Gl X "enumerate")(hm:X.mg "enumerate"=none)(ha:PA X [l] ta)(hs:starEach [l] X.env=[(false,eval l X.env)]):
 PI X (.Tuple elts k pos') (.Call (.Name "enumerate" p) [l] [] pos) (zpI X.K ta):=by
 intro pins s σ H R I h
 refine Call_ (Vy I hg hm boot_enumerate (PyProof.Rows.callWith_type1 (thn (ha pos pins s σ H _ I h) λus s1 ⟨vs,H1,I1,r1,q1⟩=>?_) hs rfl))
 obtain⟨a,rfl,⟨xs,hq⟩,q⟩:=q1
 cases r1 with
 |cons r rr=>
  cases rr
  cases r
  obtain⟨its,rv,pl,hz⟩:=I1.list hq
  refine call_enumerate_list pl.isList λh' he hit hsz hk=>?_
  refine wpAny_pyIter_enum he ⟨s1.heap.objs.size+1,[s1.heap.objs.size+1,s1.heap.objs.size],_,_,H1,rfl,I1.kept (t':=s1.toks) hk,zkZ a _ _ (Nat.succ_ne_self _),⟨⟨_,he⟩,hit⟩,λb hb=>?_,q⟩
  have hb':s1.heap.objs.size<=b:=by
   rcases zI.mp hb with rfl|hb
   · exact zyT _
   · rw[zzO.mp hb];exact zzK _
  exact I1.fpOk hb' (I1.hok.fresh hb')
end
section
variable{X:Cx}{kd:KD}{tg e:Expr}{fa:EF}
def zav(st:Bool):Nat->List D->List It1
 |_,[]=>[]
 |i,d::r=>(st,.tup [.int i,d])::zav st (i+1) r
theorem zfV(st:Bool):∀(i:Nat) (ds:List D),(zav st i ds).length=ds.length
 |_,[]=>rfl
 |i,_::r=>congrArg (· + 1) (zfV st (i+1) r)
theorem zfE{st:Bool}:∀{j:Nat}{ds:List D}{i:Nat}{y:It1},(zav st j ds)[i]? = some y->∃d,ds[i]? = some d/\y=(st,.tup [.int ((j+i:Nat):Int),d])
 |_,[],_,_,h=>by simp[zav]at h
 |j,d::r,0,y,h=>by
  simp only[zav,List.getElem?_cons_zero]at h
  cases h
  exact⟨d,rfl,rfl⟩
 |j,d::r,i+1,y,h=>by
  simp only[zav,List.getElem?_cons_succ]at h
  obtain⟨d',h1,h2⟩:=zfE h
  exact⟨d',by simpa using h1,by rw[h2,show j+1+i=j+(i+1) by omega]⟩
def znA(f:EF):IF:=λas=>(f as).bind λp=>(zcu p.2 p.1).bind λq=>match q.1 with
 |(st,.lst ds)=>some (zav st 0 ds,q.2)
 |_=>none
end
theorem zlK(sep:Str)(ys:List Str):Txt.join sep ys=Str.join sep ys:=StrLaws.glued_eq_join sep ys
section
variable{as:AS}{f a b:EF}{s t:Bool}{x y z:D}
theorem zmt{xs ys:List D}:slP (.lst (xs++ys)) none (some (xs.length:Int))=some (.fl xs):=by
 show some (R0.fl (cutD (xs++ys) none (some (xs.length:Int))))=_
 congr 2
 unfold cutD
 rw[HT.zdN,HT.zhv,zzG,Nat.min_eq_left (by omega),List.drop_zero,Nat.sub_zero,List.take_left]
end
def Itz(K:zC)(a b:Addr):It:=
 ⟨λi H=>∃xs ys x y,SqL K H a xs/\SqL K H b ys/\xs[i]? = some x/\ys[i]? = some y,
  λi H v H'=>∃T x y,H T=none/\v = .ref T/\H'=upd H T (.tup [x,y])/\(∀xs,SqL K H a xs->xs[i]? = some x)/\∀ys,SqL K H b ys->ys[i]? = some y,
  λi H=>∃xs ys,SqL K H a xs/\SqL K H b ys/\(xs.length<=i\/ys.length<=i)⟩
theorem zje{X:Cx}{pins:List (Addr×Obj)}{σ:List (Option V)}{H:Hp}{s:Shared}{h':Heap}{t':Nat}{ch:List Addr}(I:Inv X pins σ H s)(hf:∀b ∈ ch,zds X pins H b)(k:∀b u,b ∉ ch->s.heap.get? b=some u->h'.get? b=some u):Inv X pins σ H {s with heap:=h',toks:=t'}:=by
 have nc:∀b u,H b=some u->b ∉ ch:=λb u e z=>by have:=(hf b z).1;rw[e]at this;cases this
 refine I.step (g':=s.gens) (d':=s.drawn) (ch:=ch) (λb hb=>?_) (λb o _ _ hc e _=>k b o hc e) (λb o _ _ hc e _=>⟨o.slots,k b o hc e⟩) (λb o _ e n=>n)
  (λb o hc e=>⟨o,k b o hc e⟩) (λb xs e=>e) (λb o u e=>e) (λb ps e=>⟨#[],by rw[e];simp⟩) (λm hm=>?_) (λb u e=>?_) I.bare
 · obtain⟨f0,f1,f2,f3,f4,f5⟩:=hf b hb
   exact⟨f3,f1,f4,f5⟩
 · obtain⟨o,es,ep,ho,r⟩:=hm
   exact⟨o,es,ep,k _ o (λz=>(hf _ z).2.1 rfl) ho,r⟩
 · refine(I.hok b u e).stay (λc v hc q=>k c v ?_ q) (λc q=>q) λc xs q=>q
   rcases hc with z|z
   · rw[z];exact nc b u e
   · exact nc c _ z
theorem zmL{P:Program}{w:World}{K:zC}{elts:List Expr}{k:Nat}{pos:Pos}(a b z TI TO i1 i2:Addr)(D:ZipApart z TI TO i1 i2 a b):Turn P w K (.Tuple elts k pos) (Itz K a b) [z,TI,TO,i1,i2] z
 (λi h=>IsZip h z TI TO .none/\IsPair h TI (.ref i1) (.ref i2)/\(∃p q,IsPair h TO p q)/\h.IsListIter i1 a i/\h.IsListIter i2 b i)where
 mem:=by simp
 obj:=λi h st c hc=>by
  obtain⟨hz,hTI,⟨p,q,hTO⟩,⟨o1,e1,c1,d1⟩,⟨o2,e2,c2,d2⟩⟩:=st
  simp only[zI,zyX,or_false]at hc
  rcases hc with rfl|rfl|rfl|rfl|rfl
  · exact⟨_,hz,λv z=>by cases z⟩
  · exact⟨_,hTI,λv z=>by cases z⟩
  · exact⟨_,hTO,λv z=>by cases z⟩
  · exact⟨o1,e1,λv z=>by rw[d1]at z;cases z⟩
  · exact⟨o2,e2,λv z=>by rw[d2]at z;cases z⟩
 keep:=λi h h' st kk=>by
  obtain⟨hz,hTI,⟨p,q,hTO⟩,h1,h2⟩:=st
  exact⟨kk z (by simp) _ hz,kk TI (by simp) _ hTI,⟨p,q,kk TO (by simp) _ hTO⟩,h1.at λo e=>kk i1 (by simp) o e,h2.at λo e=>kk i2 (by simp) o e⟩
 item:=by
  intro X hP hw hK hc i pins s σ H E I hf st hg
  subst hP hw hK
  obtain⟨xs,ys,x,y,hq,hr,hx,hy⟩:=hg
  obtain⟨its,rv,p,hz⟩:=I.list hq
  obtain⟨jts,rw',p',hz'⟩:=I.list hr
  obtain⟨u,hu,ru⟩:=rv.get hx
  obtain⟨u',hu',ru'⟩:=rw'.get hy
  have W:=WalksT.zip2 (prog:=X.prog) (w:=X.w) (A:=X.A) (I.ok.hd hc) z TI TO i1 i2 a b D its.toArray jts.toArray
  obtain⟨s1,s2,s3,s4,s5⟩:=st
  have hil:i<min its.toArray.size jts.toArray.size:=by
   have:=(zzD.mp hu).1
   have:=(zzD.mp hu').1
   simp only[zzE];omega
  refine W.item i s _ _ hil ⟨s1,s2,s3,s4,s5,p.isList,p'.isList⟩ λT vals h1 tk hP hT hTup hMid kk=>?_
  obtain⟨v,v',hv,hv',rfl⟩:=hP
  have e1:v=u:=by rw[show its.toArray[i]? = its[i]? by simp,hu]at hv;cases hv;rfl
  have e2:v'=u':=by rw[show jts.toArray[i]? = jts[i]? by simp,hu']at hv';cases hv';rfl
  subst e1 e2
  refine⟨_,rfl,W.go elts k pos i T {s with heap:=h1,toks:=tk} _ _ hMid λh2 hSt kk2=>?_⟩
  have hn:H T=none:=I.hok.fresh hT
  have hTw:=W.apart i T h1 hMid
  have sub:∀c,c ∉ [z,TI,TO,i1,i2]->c ∉ [z,TO,i1,i2]:=λc hc m=>hc (by simp only[zI,zyX,or_false]at m ⊢;rcases m with rfl|rfl|rfl|rfl<;>simp)
  have k2:∀c o,c ∉ [z,TI,TO,i1,i2]->s.heap.get? c=some o->h2.get? c=some o:=λc o hb q=>kk2 c o (sub c hb) (kk c o (sub c hb) q)
  have hT2:IsTup h2 T #[v,v']:=by
   obtain⟨o,q1,q2⟩:=hTup
   exact⟨o,kk2 T o hTw q1,q2⟩
  obtain⟨t1,t2,t3,t4,t5,_,_⟩:=hSt
  refine⟨.ref T,upd H T (.tup [x,y]),zbl (s:=s) (t':=tk) (ch:=[z,TI,TO,i1,i2]) I hf k2 hT ⟨by show 2<=sizeLine;decide,[v,v'],.cons ru (.cons ru' .nil),hT2⟩,rfl,⟨T,x,y,hn,rfl,rfl,λq hq'=>by rw[I.list_inj hq' hq];exact hx,λq hq'=>by rw[I.list_inj hq' hr];exact hy⟩,⟨t1,t2,t3,t4,t5⟩,λc hc=>?_⟩
  have hcT:c≠T:=λe=>by
   have:c<s.heap.objs.size:=by
    have hob:∀d ∈ [z,TI,TO,i1,i2],∃o,s.heap.get? d=some o:=λd hd=>by
     obtain⟨pp,qq,hTO⟩:=s3
     obtain⟨o1,e1,_⟩:=s4
     obtain⟨o2,e2,_⟩:=s5
     simp only[zI,zyX,or_false]at hd
     rcases hd with rfl|rfl|rfl|rfl|rfl
     · exact⟨_,s1⟩
     · exact⟨_,s2⟩
     · exact⟨_,hTO⟩
     · exact⟨_,e1⟩
     · exact⟨_,e2⟩
    obtain⟨o,ho⟩:=hob c hc
    exact zxE ho
   rw[e]at this
   exact absurd (zzH this hT) (Nat.lt_irrefl _)
  rw[zV hcT]
  exact(hf c hc).1
 done:=by
  intro X hP hw hK hc i pins s σ H E I hf st hg
  subst hP hw hK
  obtain⟨xs,ys,hq,hr,hx⟩:=hg
  obtain⟨its,rv,p,hz⟩:=I.list hq
  obtain⟨jts,rw',p',hz'⟩:=I.list hr
  have hl:=rv.length
  have hl':=rw'.length
  obtain⟨s1,s2,⟨pp,qq,s3⟩,s4,s5⟩:=st
  refine wpAny_pyNext_zip_end (I.ok.hd hc) D s1 s2 s3 s4 s5 p.isList p'.isList (hx.imp (λh=>by simp;omega) (λh=>by simp;omega)) λh' eb=>⟨rfl,zje (t':=s.toks) (ch:=[z,TI,TO,i1,i2]) I hf λc o hc q=>eb c o ?_ ?_ ?_ ?_ q⟩<;>(intro e;exact hc (by simp[e]))
 self:=λ_ _ _ _ _ st h=>wpAny_pyIter_zip st.1 h
section
variable{X:Cx}{tg:Expr}
def zsq(K:zC)(ta:TA):TI:=λσ H R=>ta σ H λvs H1=>∃a b,vs=[.ref a,.ref b]/\(∃xs,SqL K H1 a xs)/\(∃ys,SqL K H1 b ys)/\R (Itz K a b) H1
theorem zlh(I l1 l2:Nat)(h1:l1<I)(h2:l2<I):ZipApart (I+4) (I+2) (I+3) I (I+1) l1 l2:=by
 constructor<;>(show(_:Nat)≠_;omega)
theorem zqn{l l':Expr}{ta:TA}{p pos pos':Pos}{elts:List Expr}{k:Nat}(hg:Gl X "zip")(hm:X.mg "zip"=none)(ha:PA X [l,l'] ta)(hs:starEach [l,l'] X.env=[(false,eval l X.env),(false,eval l' X.env)])(hs2:starEach [l'] X.env=[(false,eval l' X.env)]):
 PI X (.Tuple elts k pos') (.Call (.Name "zip" p) [l,l'] [] pos) (zsq X.K ta):=by
 intro pins s σ H R I h
 refine Call_ (Vy I hg hm boot_zip (PyProof.Rows.callWith_type1 (thn (ha pos pins s σ H _ I h) λus s1 ⟨vs,H1,I1,r1,q1⟩=>?_) (by rw[hs,hs2]) (by rw[hs2];rfl)))
 obtain⟨a,b,rfl,⟨xs,hq⟩,⟨ys,hr⟩,q⟩:=q1
 cases r1 with
 |cons r rr=>
  cases rr with
  |cons r' rr=>
   cases rr
   cases r
   cases r'
   obtain⟨its,rv,pl,hz⟩:=I1.list hq
   obtain⟨jts,rw',pl',hz'⟩:=I1.list hr
   obtain⟨o1,ho1,_⟩:=pl.isList
   obtain⟨o2,ho2,_⟩:=pl'.isList
   refine call_zip_2 pl.isList pl'.isList λh' hZ hTI hTO hi1 hi2 hsz hk=>?_
   refine wpAny_pyIter_zip hZ ⟨s1.heap.objs.size+4,[s1.heap.objs.size+4,s1.heap.objs.size+2,s1.heap.objs.size+3,s1.heap.objs.size,s1.heap.objs.size+1],_,_,H1,rfl,I1.kept (t':=s1.toks) hk,zmL a b _ _ _ _ _ (zlh _ _ _ (zxE ho1) (zxE ho2)),⟨hZ,hTI,⟨_,_,hTO⟩,hi1,hi2⟩,λc hc=>?_,q⟩
   have hb':s1.heap.objs.size<=c:=by
    simp only[zI,zyX,or_false]at hc
    rcases hc with rfl|rfl|rfl|rfl|rfl<;>first|exact zzK _|exact Nat.le_add_right _ _
   exact I1.fpOk hb' (I1.hok.fresh hb')
end
section
variable{X:Cx}{kd:KD}{tg e:Expr}{fa:EF}
def Wu(st:Bool):List D->List D->List It1
 |x::r,y::t=>(st,.tup [x,y])::Wu st r t
 |_,_=>[]
theorem zbv(st:Bool):∀(xs ys:List D),(Wu st xs ys).length=min xs.length ys.length
 | [],_=>by simp[Wu]
 |_::_,[]=>by simp[Wu]
 |_::r,_::t=>by simp only[Wu,zzQ,zbv st r t];omega
theorem VP{st:Bool}:∀{xs ys:List D}{i:Nat}{y:It1},(Wu st xs ys)[i]? = some y->∃d e,xs[i]? = some d/\ys[i]? = some e/\y=(st,.tup [d,e])
 | [],_,_,_,h=>by simp[Wu]at h
 |_::_,[],_,_,h=>by simp[Wu]at h
 |x::r,y::t,0,z,h=>by
  simp only[Wu,List.getElem?_cons_zero]at h
  cases h
  exact⟨x,y,rfl,rfl,rfl⟩
 |x::r,y::t,i+1,z,h=>by
  simp only[Wu,List.getElem?_cons_succ]at h
  obtain⟨d,e,h1,h2,h3⟩:=VP h
  exact⟨d,e,by simpa using h1,by simpa using h2,h3⟩
theorem zpS{K:zC}{F B:Addr->Prop}{ad:Ad}{H:Hp}{a b:Addr}{vs ws:List V}{st:Bool}{ds es:List D}(hs:∀(ad3:Ad) (H3:Hp),Grow (Gw [] ad) H (Gw [] ad3) H3->SqL K H3 a vs)(hs':∀(ad3:Ad) (H3:Hp),Grow (Gw [] ad) H (Gw [] ad3) H3->SqL K H3 b ws)
 (r:RpL K kd (Lv F B (Gw [] ad) st) H vs ds) (r':RpL K kd (Lv F B (Gw [] ad) st) H ws es):ItOk K kd F B ad H (Itz K a b) (Wu st ds es):=⟨λad3 H3 g3 tr i=>by
 have hr3:=hs ad3 H3 g3
 have hr4:=hs' ad3 H3 g3
 have rl3:RpL K kd (Lv F B (Gw [] ad3) st) H3 vs ds:=RpL.grow g3 r
 have rl4:RpL K kd (Lv F B (Gw [] ad3) st) H3 ws es:=RpL.grow g3 r'
 have hlen:=zbv st ds es
 have l1:vs.length=ds.length:=r.length
 have l2:ws.length=es.length:=r'.length
 refine⟨λhi=>?_,λhi=>⟨_,_,hr3,hr4,by omega⟩,λv H4 hy=>?_⟩
 · obtain⟨u,hu,_⟩:=r.get (zzB (show i<ds.length by omega))
   obtain⟨u',hu',_⟩:=r'.get (zzB (show i<es.length by omega))
   exact⟨_,_,u,u',hr3,hr4,hu,hu'⟩
 · obtain⟨T,x,y,hn,rfl,rfl,hv,hv'⟩:=hy
   refine⟨Zo hn,λq hq=>?_⟩
   obtain⟨d,e,hd,he,rfl⟩:=VP hq
   obtain⟨u,hu,ru⟩:=rl3.get hd
   obtain⟨u',hu',ru'⟩:=rl4.get he
   have:=hv _ hr3
   rw[hu]at this
   cases this
   have:=hv' _ hr4
   rw[hu']at this
   cases this
   exact .tup (λz=>tr _ _ z hn) yC (.cons (Rp.grow ⟨λb o q _=>Zo hn b o q,λb z=>.inl z⟩ ru) (.cons (Rp.grow ⟨λb o q _=>Zo hn b o q,λb z=>.inl z⟩ ru') .nil))⟩
def zkT(fr:AF):IF:=λas=>(fr as).bind λp=>(zqq p.1).bind λo=>(rvL o.1).bind λa=>(rvL o.2).bind λb=>some (Wu (a.1&&b.1) a.2 b.2,p.2)
theorem zgY{K:zC}{F B:Addr->Prop}{ad:Ad}{H:Hp}{v:V}{st q:Bool}{ds:List D}(rp:Rp K kd (Lv F B (Gw [] ad) st) H v (.lst ds))(hq:q=true->st=true):∃a vs,v = .ref a/\(∀(ad3:Ad) (H3:Hp),Grow (Gw [] ad) H (Gw [] ad3) H3->SqL K H3 a vs)/\RpL K kd (Lv F B (Gw [] ad) q) H vs ds:=by
 have le:∀a,Lv F B (Gw [] ad) q a->Lv F B (Gw [] ad) st a:=λa z=>z.imp (λy=>y.imp (λx=>⟨hq x.1,x.2⟩) id) id
 cases rp with
 |lst hn hr rl=>exact⟨_,_,rfl,λad3 H3 g3=>.inl (zbu g3 (λz=>hn (.inr z)) hr),rl.less le⟩
 |lstK a b c rl=>exact⟨_,_,rfl,λad3 H3 g3=>.inr ⟨_,_,_,a,rfl,rfl,rfl,b,c⟩,rl.less le⟩
theorem ziT{l l':Expr}{fr:AF}{p pos pos':Pos}{elts:List Expr}{k:Nat}(hg:Gl X "zip")(hm:X.mg "zip"=none)(ha:AA X kd [l,l'] fr)(hs:starEach [l,l'] X.env=[(false,eval l X.env),(false,eval l' X.env)])(hs2:starEach [l'] X.env=[(false,eval l' X.env)]):
 AI X kd (.Tuple elts k pos') (.Call (.Name "zip" p) [l,l'] [] pos) (zkT fr):=by
 with_unfolding_all (
 intro pins s σ H R I h
 obtain⟨F,B,ad,as,ds,as',Rl,e',q⟩:=h
 obtain⟨⟨rs,as1⟩,h1,e'⟩:=bS_ (show(fr as).bind _=_ from e')
 obtain⟨⟨o1,o2⟩,e1,e'⟩:=bS_ e'
 obtain⟨⟨s1,d1⟩,e2,e'⟩:=bS_ e'
 obtain⟨⟨s2,d2⟩,e3,e'⟩:=bS_ e'
 cases zjJ e1
 cases zny e2
 cases zny e3
 · cases e'
   refine zqn hg hm ha hs hs2 pins s σ H R I ⟨F,B,ad,as,_,as1,Rl,h1,λvs ad1 H1 R1 rv1 g1=>?_⟩
   cases rv1 with
   |cons r1 rr=>
    cases rr with
    |cons r2 rr=>
     cases rr
     cases r1 with
     |lf rp1=>
      cases r2 with
      |lf rp2=>
       obtain⟨a,vs,rfl,ha,ra⟩:=zgY (q:=s1&&s2) rp1 (λz=>(Bool.and_eq_true_iff.mp z).1)
       obtain⟨b,ws,rfl,hb,rb⟩:=zgY (q:=s1&&s2) rp2 (λz=>(Bool.and_eq_true_iff.mp z).2)
       exact⟨a,b,rfl,⟨_,ha _ _ Grow.refl⟩,⟨_,hb _ _ Grow.refl⟩,q _ ad1 H1 R1 g1 (zpS ha hb ra rb)⟩)
end
def insI(x:Int):List Int->List Int
 | []=>[x]
 |y::r=>if x<=y then x::y::r else y::insI x r
def sortI:List Int->List Int
 | []=>[]
 |x::r=>insI x (sortI r)
theorem insI_perm(x:Int):∀l:List Int,(insI x l).Perm (x::l)
 | []=>List.Perm.refl _
 |y::r=>by
  unfold insI
  split
  · exact List.Perm.refl _
  · exact((insI_perm x r).cons y).trans (List.Perm.swap x y r)
theorem sortI_perm:∀l:List Int,(sortI l).Perm l
 | []=>List.Perm.refl _
 |x::r=>(insI_perm x (sortI r)).trans ((sortI_perm r).cons x)
theorem zcG(x:Int):∀l:List Int,l.Pairwise (· <= ·)->(insI x l).Pairwise (· <= ·)
 | [],_=>by simp[insI]
 |y::r,h=>by
  unfold insI
  rw[List.pairwise_cons]at h
  split
  · rename_i hxy
    rw[List.pairwise_cons,List.pairwise_cons]
    refine⟨λz hz=>?_,h⟩
    rcases zI.mp hz with rfl|hz
    · exact hxy
    · exact Int.le_trans hxy (h.1 z hz)
  · rename_i hxy
    rw[List.pairwise_cons]
    refine⟨λz hz=>?_,zcG x r h.2⟩
    rcases zI.mp ((insI_perm x r).mem_iff.mp hz)with rfl|hz
    · omega
    · exact h.1 z hz
theorem zbK:∀l:List Int,(sortI l).Pairwise (· <= ·)
 | []=>List.Pairwise.nil
 |x::r=>zcG x _ (zbK r)
theorem zfF:∀(a b:List Int),a.Perm b->a.Pairwise (· <= ·)->b.Pairwise (· <= ·)->a=b
 | [],b,p,_,_=>by rw[List.nil_perm]at p;exact p.symm
 |x::r,[],p,_,_=>by rw[List.perm_nil]at p;cases p
 |x::r,y::t,p,ha,hb=>by
  rw[List.pairwise_cons]at ha hb
  have hxy:x=y:=by
   have h1:x ∈ y::t:=p.mem_iff.mp (zzC ..)
   have h2:y ∈ x::r:=p.mem_iff.mpr (zzC ..)
   rcases zI.mp h1 with e|e
   · exact e
   · rcases zI.mp h2 with e'|e'
     · exact e'.symm
     · have:=hb.1 x e
       have:=ha.1 y e'
       omega
  subst hxy
  rw[zfF r t (List.Perm.cons_inv p) ha.2 hb.2]
theorem ints_of{K:zC}{kd:KD}{O:Addr->Prop}{H:Hp}{vs:List V}{us:List Value}{ds:List D}{ns:List Int}(h:RpL K kd O H vs ds)(hv:Vals vs us)(e:WL ds=some ns):IntsAre us ns:=
 RpL.ind (P:=λvs ds=>∀us ns,Vals vs us->WL ds=some ns->IntsAre us ns) (λus ns hv e=>by cases e;cases hv;exact .nil) (λ{v d vs ds} a _ ih us ns hv e=>by
  cases hv with
  |cons b t=>
   cases a with
   |int x=>
    obtain⟨ys,h1,h2⟩:=bS_ (show(WL _).bind _=_ from e)
    cases h2
    obtain⟨tk,rfl⟩:=b
    exact .cons _ _ (ih _ _ t h1)
   |_=>cases e) h us ns hv e
theorem XH:∀{us:List Value}{ns:List Int},IntsAre us ns->Vals (ns.map V.int) us
 |_,_,.nil=>.nil
 |_,_,.cons n t r=>.cons ⟨t,rfl⟩ (XH r)
theorem zif{K:zC}{kd:KD}{O:Addr->Prop}{H:Hp}:∀ns:List Int,RpL K kd O H (ns.map V.int) (ns.map D.int)
 | []=>.nil
 |y::r=>.cons (.int y) (zif r)
def zmB:List D->Option R0:=on1 λx=>(asL x).bind λds=>(WL ds).bind λns=>if ns.length<64 then some (.fl ((sortI ns).map .int))else none
section
variable{X:Cx}{kd:KD}
theorem zjj:CallD X kd (.builtin "sorted") zmB:=by
 intro pins s σ H xs us Q I r h
 obtain⟨O,ds,z,ht,vl,he,q⟩:=h
 obtain⟨x,d,rfl,vx,he⟩:=zfn vl he
 obtain⟨ds,h0,he2⟩:=bS_ (show(asL d).bind _=_ from he)
 cases zcn h0
 · obtain⟨ns,h1,he⟩:=bS_ he2
   obtain⟨hz,he⟩:=yg he
   cases he
   cases vx with
   |lst hr rl=>
    obtain⟨u,rfl,ru⟩:=vals1 r
    cases ru
    obtain⟨its,rv,pl,_⟩:=I.list hr.sq
    have hI:=ints_of rl rv h1
    have hl:=hI.length
    refine sorted_ints pl.isList hI (by omega) λout ns' a1 a2 a3=>?_
    have e:ns'=sortI ns:=zfF _ _ (a2.trans (sortI_perm ns).symm) a3 (zbK ns)
    subst e
    obtain⟨ee,hob⟩:=sortedAll_at s.heap its out
    have hn:H (s.heap.objs.size+1)=none:=I.hok.fresh (zyT _)
    refine⟨.ref (s.heap.objs.size+1),_,I.laid (t':=s.toks) (λb o e=>sortedAll_old e) (zyT _) (show vm X.prog X.w _ _ _ (.lst ((sortI ns).map V.int))from⟨?_,out.toList,ee,XH a1,by simpa[seqObj]using hob⟩),rfl,zca q (zif _) _ hn⟩
    rw[zD,(sortI_perm ns).length_eq]
    exact Nat.le_of_lt (ZL (by omega))
end
def zcb(f:D->Option Bool):List D->Option Nat
 | []=>none
 |x::r=>(f x).bind λb=>if b=true then(anyF f r).bind λ_=>some 0 else(zcb f r).bind λj=>some (j+1)
def Xq(d:D):List D->Option R0:=on1 λx=>(asL d).bind λds=>(zcb (λy=>eqF 50 y x) ds).bind λj=>if ds.length<=1000 then some (.im (.int j))else none
theorem zil{f:D->Option Bool}:∀{ds:List D}{j:Nat},zcb f ds=some j->∀d ∈ ds,∃c,f d=some c
 | [],_,h,_,m=>nomatch m
 |x::r,j,h,d,m=>by
  obtain⟨b,h1,h⟩:=bS_ (show(f x).bind _=_ from h)
  rcases zI.mp m with rfl|m
  · exact⟨b,h1⟩
  · cases b with
    |true=>
     obtain⟨c,h2,_⟩:=bS_ (show(anyF f r).bind _=_ from h)
     exact XC h2 d m
    |false=>
     obtain⟨k,h2,_⟩:=bS_ (show(zcb f r).bind _=_ from h)
     exact zil h2 d m
section
variable{X:Cx}{kd:KD}{pins:List (Addr×Obj)}{σ:St}{H:Hp}{s:Shared}{O:Addr->Prop}
theorem zos(I:Inv X pins σ H s)(hk:KdOk X kd){n:Nat}{x:D}{vs:List V}{us:List Value}{ds:List D}{j:Nat}(hv:Vals vs us)(h:RpL X.K kd O H vs ds)(e:zcb (λy=>eqF n y x) ds=some j):∃h:j<us.length,eqW X.K kd O H n x us[j]=true/\∀m (hm:m<us.length),m<j->eqW X.K kd O H n x us[m]=false:=
 RpL.ind (P:=λvs ds=>∀us j,Vals vs us->zcb (λy=>eqF n y x) ds=some j->∃h:j<us.length,eqW X.K kd O H n x us[j]=true/\∀m (hm:m<us.length),m<j->eqW X.K kd O H n x us[m]=false) (λus j hv e=>by cases e) (λ{v d vs ds} a _ ih us j hv h=>by
  cases hv with
  |cons r t=>
   obtain⟨b,h1,h⟩:=bS_ (show(eqF n _ x).bind _=_ from h)
   cases b with
   |true=>
    obtain⟨c,h2,h3⟩:=bS_ (show(anyF _ _).bind _=_ from h)
    cases h3
    exact⟨by simp,zgI I hk r a h1,λm hm hlt=>by omega⟩
   |false=>
    obtain⟨k,h2,h3⟩:=bS_ (show(zcb _ _).bind _=_ from h)
    cases h3
    obtain⟨hk',e1,e2⟩:=ih _ _ t h2
    refine⟨by simpa using hk',by simpa using e1,λm hm hlt=>?_⟩
    cases m with
    |zero=>exact zgI I hk r a h1
    |succ m=>simpa using e2 m (by simpa using hm) (by omega)) h us j hv e
theorem zeH(hk:KdOk X kd)(hu:X.A.units+100<cLine):MtD X kd "list.index" Xq:=by
 intro pins s σ H x xs v us Q I rx r h
 obtain⟨O,d,ds,r0,ht,vx,vl,he,q⟩:=h
 obtain⟨y',y,rfl,vy,he⟩:=zfn vl he
 obtain⟨es,h0,he2⟩:=bS_ (show(asL d).bind _=_ from he)
 cases zcn h0
 · obtain⟨j,h1,he⟩:=bS_ he2
   obtain⟨hz,he⟩:=yg he
   cases he
   obtain⟨u,rfl,ru⟩:=vals1 r
   cases vx with
   |lst hr rl=>
    cases rx
    obtain⟨its,rv,pl,_⟩:=I.list hr.sq
    obtain⟨⟨cls,dd,data,sl⟩,ho,hc,n,hd⟩:=pl.isList
    simp only at hc hd
    subst hc hd
    obtain⟨hj,e1,e2⟩:=zos I hk rv rl h1
    have hlen:=rv.length
    have hlen2:=rl.length
    refine call_meets PySem.F.slot_list_index ⟨_,ho,rfl⟩ PySem.F.entry_list_index (PySem.F.args_list_index_2 _ _)
     (SeqAt.list_indexAt _ its.toArray n dd sl _ (eqW X.K kd O H 50 y) j (by simpa using hj) (by omega) (by simpa using e1) (λm hm hlt=>by simpa using e2 m (by simpa using hm) hlt))
     ⟨ho,λw hw=>zbJ I hk (by show X.A.units+1+50<cLine;omega) vy ru rv rl (zil h1) w (by simpa using hw),⟨.int j,H,I.tok _,⟨_,rfl⟩,yN q (.int _)⟩⟩
end
theorem zcO:∀{vs:List V}{us:List Value},vs.length=us.length->(∀(i:Nat) v u,vs[i]? = some v->us[i]? = some u->RelV v u)->Vals vs us
 | [],[],_,_=>.nil
 | [],_::_,h,_=>by simp at h
 |_::_,[],h,_=>by simp at h
 |v::vs,u::us,h,k=>.cons (k 0 v u rfl rfl) (zcO (by simpa using h) λi a b x y=>k (i+1) a b (by simpa using x) (by simpa using y))
section
variable{X:Cx}{tg:Expr}
def zrU(ta:TA):TE:=λσ H Q=>ta σ H λvs H1=>∃j:Int,vs=[.int j] /\ -(2 ^ 62)<=j/\j<2 ^ 62/\∀r,H1 r=none->Q (.ref r) (upd H1 r (.rng 0 j))
theorem znx{a:Expr}{ta:TA}{p pos:Pos}(hg:Gl X "range")(hm:X.mg "range"=none)(ha:PA X [a] ta)(hs:starEach [a] X.env=[(false,eval a X.env)]):PE X (.Call (.Name "range" p) [a] [] pos) (zrU ta):=by
 intro pins s σ H Q I h
 refine Call_ (Vy I hg hm boot_range (PyProof.Rows.callWith_type1 (thn (ha pos pins s σ H _ I h) λus s1 ⟨vs,H1,I1,r1,q1⟩=>?_) hs rfl))
 obtain⟨j,e,b1,b2,q⟩:=q1
 subst e
 cases r1 with
 |cons r rr=>
  cases rr
  obtain⟨t,rfl⟩:=r
  exact call_range_1 ⟨.ref s1.heap.objs.size,_,I1.laid (λb o e=>zxD _ e) (zzK _) (show vm X.prog X.w _ _ _ (.rng 0 j)from⟨_,_,_,zxF _ rfl⟩),rfl,q _ (I1.hok.fresh (zzK _))⟩
def tLR(ta:TA):TE:=λσ H Q=>zpA (zrU ta) zrB σ H λvs H2=>∃r H1,∃j:Int,vs=[.ref r]/\H1 r=none/\H2=upd H1 r (.rng 0 j)/\0<=j/\j<=100000/\∀l,H2 l=none->Q (.ref l) (upd H2 l (.lst ((List.range j.toNat).map λ(i:Nat)=>V.int i)))
theorem zlc{a:Expr}{ta:TA}{p p' pos pos':Pos}(hc:X.calm=true)(hg:Gl X "range")(hm:X.mg "range"=none)(hgl:Gl X "list")(hml:X.mg "list"=none)(ha:PA X [a] ta)(hs:starEach [a] X.env=[(false,eval a X.env)])
 (hs':starEach [.Call (.Name "range" p) [a] [] pos] X.env=[(false,eval (.Call (.Name "range" p) [a] [] pos) X.env)]):PE X (.Call (.Name "list" p') [.Call (.Name "range" p) [a] [] pos] [] pos') (tLR ta):=by
 intro pins s σ H Q I h
 refine Call_ (Vy I hgl hml Bt.list (PyProof.Rows.callWith_type1 (thn ((Xc (znx hg hm ha hs) zaQ hs') pos' pins s σ H (λvs H2=>∃r H1,∃j:Int,vs=[.ref r]/\H1 r=none/\H2=upd H1 r (.rng 0 j)/\0<=j/\j<=100000/\∀l,H2 l=none->Q (.ref l) (upd H2 l (.lst ((List.range j.toNat).map λ(i:Nat)=>V.int i)))) I ?_) λus s1 ⟨vs,H2,I2,r1,q1⟩=>?_) hs' rfl))
 · exact h
 obtain⟨r,H1,j,rfl,hn,rfl,h0,h1,q⟩:=q1
 cases r1 with
 |cons rr rs=>
  cases rs
  cases rr
  obtain⟨t,u,v,ho⟩:=I2.hok r _ (yC ..)
  have hsz:Builtin.Range.rangeSize 0 j 1=(j.toNat:Nat):=by rw[rangeSize_one];split<;>omega
  refine call_list_range (I2.ok.hd hc) ho (small_one (by omega) (by omega) (by omega) (by omega)) (n:=j.toNat) (by exact_mod_cast hsz) (by omega) λh' tk acc c' hk hob hit=>?_
  refine⟨.ref s1.heap.objs.size,_,I2.laid hk (zzK _) (show vm X.prog X.w _ _ _ (.lst ((List.range j.toNat).map λ(i:Nat)=>V.int i))from⟨?_,acc.toList,c', ?_,by simpa using hob⟩),rfl,q _ (I2.hok.fresh (zzK _))⟩
  · rw[zD,zyR];exact zzL (show j.toNat<=100000 by omega) (by decide)
  · refine zcO (by rw[zD,zyR];simpa using hit.1.symm) λi x y hx hy=>?_
    rw[zzF]at hx
    obtain⟨tk',e⟩:=hit.2 i y (by simpa using hy)
    cases hr:(List.range j.toNat)[i]? with
    |none=>rw[hr]at hx;cases hx
    |some k=>
     rw[hr]at hx
     obtain⟨_,hk'⟩:=zzD.mp hr
     rw[List.getElem_range]at hk'
     subst hk'
     cases hx
     exact⟨tk',by rw[e];simp⟩
end
section
variable{X:Cx}{kd:KD}
def lrP:List D->Option R0
 | [.int j]=>if 0<=j/\j<=100000 then some (.fl ((List.range j.toNat).map λ(i:Nat)=>.int i))else none
 |_=>none
theorem zjM{K:zC}{O:Addr->Prop}{H:Hp}:∀l:List Nat,RpL K kd O H (l.map λ(i:Nat)=>V.int i) (l.map λ(i:Nat)=>D.int i)
 | []=>.nil
 |y::r=>.cons (.int y) (zjM r)
theorem zfB{a:Expr}{fr:AF}{p p' pos pos':Pos}(hc:X.calm=true)(hg:Gl X "range")(hm:X.mg "range"=none)(hgl:Gl X "list")(hml:X.mg "list"=none)(ha:AA X kd [a] fr)(hs:starEach [a] X.env=[(false,eval a X.env)])
 (hs':starEach [.Call (.Name "range" p) [a] [] pos] X.env=[(false,eval (.Call (.Name "range" p) [a] [] pos) X.env)]):AE X kd (.Call (.Name "list" p') [.Call (.Name "range" p) [a] [] pos] [] pos') (fP fr lrP):=by
 with_unfolding_all exact(xU (zlc hc hg hm hgl hml ha hs hs') λσ H Q h=>by
  obtain⟨F,B,ad,as,r,as',R,e,q⟩:=h
  obtain⟨⟨rs,as1⟩,h1,e⟩:=bS_ (show(fr as).bind _=_ from e)
  obtain⟨⟨ds,lv⟩,h2,e⟩:=bS_ e
  obtain⟨r0,h3,e⟩:=bS_ e
  obtain⟨z,h4,e⟩:=bS_ e
  cases e
  match ds,h3,h2 with
  | [.int j],h3,h2=>
   obtain⟨⟨b1,b2⟩,e3⟩:=yg (show(if 0<=j/\j<=100000 then some (R0.fl ((List.range j.toNat).map λ(i:Nat)=>.int i))else none)=some r0 from h3)
   cases e3
   refine(show alA X.K kd fr σ H _ from⟨F,B,ad,as,rs,as1,R,h1,λvs ad1 H1 R1 rv1 g1=>?_⟩)
   have vl:=zbX R1 rv1 h2
   have rq:=Wa R1 h4 (Q:=Q) λw T' H' R' rv' g'=>q w T' ad1 H' R' rv' (g1.trans g')
   cases vl with
   |cons v1 v2=>
    cases v2
    cases v1
    refine⟨j,rfl,by omega,by omega,λr hr=>⟨r,H1,j,rfl,hr,rfl,b1,b2,λl hl=>?_⟩⟩
    have hlr:l≠r:=λe=>by rw[e,yC]at hl;cases hl
    have hl1:H1 l=none:=by rw[zV hlr]at hl;exact hl
    exact rq l _ _ hl1 (λb o q=>Zo hl b o (Zo hr b o q)) yC (zjM _))
end
section
variable{K:zC}{kd:KD}{F B:Addr->Prop}{T:List Addr}{ad:Ad}{as:AS}{σ:St}{H H':Hp}
theorem Rel.eat(R:Rel K kd F B T ad as σ H)(k:∀c u,H c=some u->c ∉ T->H' c=some u):Rel K kd F B [] ad as σ H'/\Grow (Gw T ad) H (Gw [] ad) H':=by
 have g:Grow (Gw T ad) H (Gw [] ad) H':=⟨λb o e n=>k b o e λm=>n (.inl m),λb z=>.inl (Gw.drop b z)⟩
 have kn:∀a,H a≠none->a ∉ T->H' a≠none:=λa h n=>by
  cases e:H a with
  |none=>exact absurd e h
  |some u=>rw[k a u e n];simp
 refine⟨⟨R.len,R.out,R.nd,R.inj,zyG,(λ_ _ _ z=>nomatch z),λa z=>kn a (R.ftr a z) λm=>(R.gtr a (.inl m)).2 z,λa z=>?_,λa z=>?_,λi s e=>(R.sl i s e).grow g λa m u h=>k a u h (R.dis i a m)⟩,g⟩
 · obtain⟨h1,h2,h3⟩:=R.btr a z
   exact⟨kn a h1 λm=>h3 (.inl m),h2,λy=>h3 (Gw.drop a y)⟩
 · rcases z with z|⟨i,z⟩
   · exact nomatch z
   · exact⟨kn a (R.gtr a (.inr ⟨i,z⟩)).1 (R.dis i a z),(R.gtr a (.inr ⟨i,z⟩)).2⟩
end
theorem zbG{L:Bool->V->D->Prop}{N:Addr->Prop}{H:Hp}{vs:List V}{ls:List O}{fp:List Addr}(h:RoL L N H vs ls fp):vs.length=ls.length:=RoL.length h
section
variable{K:zC}{kd:KD}{F B G:Addr->Prop}{H:Hp}
theorem zbp{p:Addr}{u:HO}(hp:G p):Grow G H G (upd H p u):=⟨λb w h n=>by rw[zV (λe=>n (by subst e;exact hp))];exact h,λb z=>.inl z⟩
theorem zhd:∀(os:List O) {vs:List V}{fp:List Addr}{n:Nat}{o:O},vU K kd F B G H vs os fp->fp.Nodup->(∀a ∈ fp,G a)->os[n]? = some o->
 ∃v f,vs[n]? = some v/\RoS K kd F B G H v o f/\f.Nodup/\(∀a ∈ f,a ∈ fp)/\∀(p:Addr) (u:HO) (o':O),p ∈ f->RoS K kd F B G (upd H p u) v o' f->vU K kd F B G (upd H p u) vs (os.set n o') fp
 | [],_,_,_,_,_,_,_,e=>by simp at e
 |o1::os,_,_,n,o,r,hn,hG,e=>by
  cases r with
  |cons a r=>
   rename_i v vs fp fq
   obtain⟨n1,n2,n3⟩:=zxA.mp hn
   cases n with
   |zero=>
    simp at e
    subst e
    exact⟨v,fp,rfl,a,n1,λx m=>zzM _ m,λp u o' hp ro=>.cons ro (vU.grow (zbp (hG p (zzM _ hp))) (λx m w h=>by rw[zV (λe=>n3 p hp x m e.symm)];exact h) r)⟩
   |succ n=>
    obtain⟨v',f,h1,h2,h3,h4,h5⟩:=zhd os (n:=n) (o:=o) r n2 (λx m=>hG x (zzI _ m)) (by simpa using e)
    exact⟨v',f,by simpa using h1,h2,h3,λx m=>zzI _ (h4 x m),λp u o' hp ro=>.cons (RoS.grow (zbp (hG p (zzI _ (h4 p hp)))) (λx m w h=>by rw[zV (λe=>n3 x m p (h4 p hp) e)];exact h) a) (h5 p u o' hp ro)⟩
theorem zfI{L:Bool->V->D->Prop}{N:Addr->Prop}{v:V}{st':Bool}{d':D}(h:L st' v d'):∀(os:List O) {vs:List V}{fp:List Addr}{n:Nat}{st:Bool}{d:D},RoL L N H vs os fp->os[n]? = some (.lf st d)->RoL L N H (vs.set n v) (os.set n (.lf st' d')) fp
 | [],_,_,_,_,_,_,e=>by simp at e
 |o1::os,_,_,n,st,d,r,e=>by
  cases r with
  |cons a r=>
   cases n with
   |zero=>
    simp at e
    subst e
    cases a with
    |lf _=>exact .cons (.lf h) r
   |succ n=>exact .cons a (zfI h os (n:=n) (st:=st) (d:=d) r (by simpa using e))
theorem zgA{v:V}{inner:List O}{fp:List Addr}{n:Nat}{st:Bool}{d:D}(c:Int)(r:RoS K kd F B G H v (.nd .ls inner) fp)(hn:fp.Nodup)(hG:∀a ∈ fp,G a)(e:inner[n]? = some (.lf st d)):
 ∃p ivs,v = .ref p/\p ∈ fp/\H p=some (.lst ivs)/\n<ivs.length/\RoS K kd F B G (upd H p (.lst (ivs.set n (.int c)))) v (.nd .ls (inner.set n (.lf true (.int c)))) fp:=by
 cases r with
 |ls hp ir=>
  rename_i p ivs ifp
  have hpfp:p ∉ ifp:=(zzT.mp hn).1
  refine⟨p,ivs,rfl,zzC ..,hp,by rw[zbG ir];exact(zzD.mp e).1,.ls yC (zfI (.int c) inner (vU.grow (zbp (hG p (zzC ..))) (λx m w h=>by rw[zV (λe=>hpfp (by subst e;exact m))];exact h) ir) e)⟩
theorem zjB{v:V}{os:List O}{fp:List Addr}{n:Nat}{o:O}(r:RoS K kd F B G H v (.nd .ls os) fp)(hn:fp.Nodup)(hG:∀a ∈ fp,G a)(e:os[n]? = some o):
 ∃l vs w f,v = .ref l/\H l=some (.lst vs)/\vs[n]? = some w/\RoS K kd F B G H w o f/\f.Nodup/\(∀a ∈ f,a ∈ fp)/\∀(p:Addr) (u:HO) (o':O),p ∈ f->RoS K kd F B G (upd H p u) w o' f->RoS K kd F B G (upd H p u) v (.nd .ls (os.set n o')) fp:=by
 cases r with
 |ls hp ir=>
  rename_i l vs ifp
  obtain⟨w,f,h1,h2,h3,h4,h5⟩:=zhd os ir (zzT.mp hn).2 (λa m=>hG a (zzA _ m)) e
  exact⟨l,vs,w,f,rfl,hp,h1,h2,h3,λa m=>zzA _ (h4 a m),λp u o' hpf ro=>.ls (by rw[zV (λe=>(zzT.mp hn).1 (by rw[e];exact h4 p hpf))];exact hp) (h5 p u o' hpf ro)⟩
theorem zqx{v:V}{os:List O}{fp:List Addr}{n:Nat}{o:O}(r:RoS K kd F B G H v (.nd .tp os) fp)(hn:fp.Nodup)(hG:∀a ∈ fp,G a)(e:os[n]? = some o):
 ∃l vs w f,v = .ref l/\H l=some (.tup vs)/\vs[n]? = some w/\RoS K kd F B G H w o f/\f.Nodup/\(∀a ∈ f,a ∈ fp)/\∀(p:Addr) (u:HO) (o':O),p ∈ f->RoS K kd F B G (upd H p u) w o' f->RoS K kd F B G (upd H p u) v (.nd .tp (os.set n o')) fp:=by
 cases r with
 |tp hN hp ir=>
  rename_i l vs
  obtain⟨w,f,h1,h2,h3,h4,h5⟩:=zhd os ir hn hG e
  exact⟨l,vs,w,f,rfl,hp,h1,h2,h3,h4,λp u o' hpf ro=>.tp hN (by rw[zV (λe=>hN (.inr (by rw[e];exact hG p (h4 p hpf))))];exact hp) (h5 p u o' hpf ro)⟩
end
section
variable{K:zC}{kd:KD}{F B:Addr->Prop}{ad:Ad}{as:AS}{σ:St}{H:Hp}{i:Nat}{o:O}
theorem Rel.slotU(R:Rel K kd F B [] ad as σ H)(k:as[i]? = some (some o)):
 ∃v,σ[i]? = some (some v)/\RoS K kd F B (Gw [] ad) H v o (ad i)/\(ad i).Nodup/\(∀a ∈ ad i,Gw [] ad a)/\
  ∀(p:Addr) (u:HO) (o':O),p ∈ ad i->RoS K kd F B (Gw [] ad) (upd H p u) v o' (ad i)->Rel K kd F B [] ad (as.set i (some o')) σ (upd H p u)/\Grow (Gw [] ad) H (Gw [] ad) (upd H p u):=by
 obtain⟨v,hv,ro⟩:=R.sl i _ k
 have hi:i<as.length:=(zzD.mp k).1
 refine⟨v,hv,ro,R.nd i,λa m=>.inr ⟨i,m⟩,λp u o' hp ro'=>?_⟩
 have g:Grow (Gw [] ad) H (Gw [] ad) (upd H p u):=zbp (.inr ⟨i,hp⟩)
 have kn:∀a,H a≠none->upd H p u a≠none:=λa z=>by
  by_cases e:a=p
  · subst e;rw[yC];simp
  · rw[zV e];exact z
 refine⟨⟨by rw[zzR];exact R.len,λj hj=>R.out j (by rw[zzR]at hj;exact hj),R.nd,R.inj,R.tnd,R.dis,λa z=>kn a (R.ftr a z),λa z=>⟨kn a (R.btr a z).1,(R.btr a z).2⟩,λa z=>⟨kn a (R.gtr a z).1,(R.gtr a z).2⟩,λj s e=>?_⟩,g⟩
 by_cases q:j=i
 · subst q
   rw[zyH hi]at e
   cases e
   exact⟨v,hv,ro'⟩
 · rw[zzV (Ne.symm q)]at e
   exact(R.sl j s e).grow g λa m u h=>by rw[zV (λe=>q (R.inj j i a m (by rw[e];exact hp)))];exact h
theorem Rel.any{y:Nat}{v:Option V}(R:Rel K kd F B [] ad as σ H)(hy:as[y]? = some none):Rel K kd F B [] ad as (σ.set y v) H:=by
 refine⟨by rw[zzR];exact R.len,R.out,R.nd,R.inj,R.tnd,R.dis,R.ftr,R.btr,R.gtr,λj s e=>?_⟩
 by_cases q:j=y
 · subst q
   rw[hy]at e
   cases e
   exact R.sl j none hy
 · rw[zzV (Ne.symm q)]
   exact R.sl j s e
end
abbrev IXF:=AS->Option Int
def tSt(K:zC)(kd:KD)(f:IXF):TE:=λσ H Q=>∃F B ad as k,Rel K kd F B [] ad as σ H/\f as=some k/\Q (.int k) H
@[irreducible] def AK(X:Cx)(kd:KD)(e:Expr)(f:IXF):Prop:=PE X e (tSt X.K kd f)
def xC(c:Int):IXF:=λ_=>some c
def Vr:O->Option (List O)
 | .nd .ls os=>some os
 |_=>none
def zoL:O->Option (List O)
 | .nd .tp os=>some os
 |_=>none
def zcx:O->Option D
 | .lf _ d=>some d
 |_=>none
def atO{α:Type}(f:O->Option α)(os:List O)(k:Nat):Option α:=os[k]?.bind f
def slO{α:Type}(f:O->Option α)(as:AS)(i:Nat):Option α:=as[i]?.bind λs=>s.bind f
theorem zjP{o:O}{os:List O}(h:Vr o=some os):o = .nd .ls os:=by
 cases o with
 |lf s d=>cases h
 |nd k os=>cases k<;>cases h;rfl
theorem zoq{o:O}{os:List O}(h:zoL o=some os):o = .nd .tp os:=by
 cases o with
 |lf s d=>cases h
 |nd k os=>cases k<;>cases h;rfl
theorem zko{o:O}{d:D}(h:zcx o=some d):∃st,o = .lf st d:=by
 cases o with
 |lf s d=>cases h;exact⟨s,rfl⟩
 |nd k os=>cases h
theorem ziP{α:Type}{f:O->Option α}{os:List O}{k:Nat}{a:α}(h:atO f os k=some a):∃o,os[k]? = some o/\f o=some a:=bS_ h
theorem zmw{α:Type}{f:O->Option α}{as:AS}{k:Nat}{a:α}(h:slO f as k=some a):∃o,as[k]? = some (some o)/\f o=some a:=by
 obtain⟨s,h1,h⟩:=bS_ h
 obtain⟨o,rfl,h⟩:=bS_ h
 exact⟨o,h1,h⟩
theorem zpU{os inner:List O}{k:Nat}(h:atO Vr os k=some inner):os[k]? = some (.nd .ls inner):=by
 obtain⟨o,h1,h⟩:=ziP h
 cases zjP h
 exact h1
theorem zsX{os inner:List O}{k:Nat}(h:atO zoL os k=some inner):os[k]? = some (.nd .tp inner):=by
 obtain⟨o,h1,h⟩:=ziP h
 cases zoq h
 exact h1
theorem zqQ{os:List O}{d:D}{k:Nat}(h:atO zcx os k=some d):∃st,os[k]? = some (.lf st d):=by
 obtain⟨o,h1,h⟩:=ziP h
 obtain⟨st,rfl⟩:=zko h
 exact⟨st,h1⟩
theorem zoC{as:AS}{inner:List O}{k:Nat}(h:slO Vr as k=some inner):as[k]? = some (some (.nd .ls inner)):=by
 obtain⟨o,h1,h⟩:=zmw h
 cases zjP h
 exact h1
theorem zrM{as:AS}{d:D}{k:Nat}(h:slO zcx as k=some d):∃st,as[k]? = some (some (.lf st d)):=by
 obtain⟨o,h1,h⟩:=zmw h
 obtain⟨st,rfl⟩:=zko h
 exact⟨st,h1⟩
theorem zah{α:Type}{f:O->Option α}{os:List O}{k:Nat}{o:O}{a:α}(h:os[k]? = some o)(e:f o=some a):atO f os k=some a:=by unfold atO;rw[h];exact e
theorem zbN{α:Type}{f:O->Option α}{as:AS}{k:Nat}{o:O}{a:α}(h:as[k]? = some (some o))(e:f o=some a):slO f as k=some a:=by unfold slO;rw[h];exact e
def xV(i:Nat):IXF:=λas=>(slO zcx as i).bind asI
def xAt(i:Nat)(f:IXF):IXF:=λas=>(f as).bind λk=>if 0<=k then(slO zcx as i).bind λd=>(asL d).bind λds=>ds[k.toNat]?.bind asI else none
def Vd(f g:IXF):IXF:=λas=>(f as).bind λa=>(g as).bind λb=>if 0<b then some (a%b)else none
def zlu(i:Nat):IXF:=λas=>(slO Vr as i).bind λos=>some (os.length:Int)
section
variable{X:Cx}{kd:KD}{f g:IXF}{a b:Expr}
theorem Wv{c:Int}{j pos}:AK X kd (.Constant (.int c) j pos) (xC c):=by
 with_unfolding_all exact(xU zfc λσ H Q h=>by
  obtain⟨F,B,ad,as,k,R,e,q⟩:=h
  cases e
  exact q)
theorem zcj{i:Nat}{x:Str}{p:Pos}(hv:PE X (.Name x p) (Xy i)):AK X kd (.Name x p) (xV i):=by
 with_unfolding_all exact(xU hv λσ H Q h=>by
  obtain⟨F,B,ad,as,k,R,e,q⟩:=h
  obtain⟨d,e1,e⟩:=bS_ (show(slO zcx as i).bind _=_ from e)
  cases zhk e
  obtain⟨st,k1⟩:=zrM e1
  obtain⟨v,hv,ro⟩:=R.sl i _ k1
  generalize ad i=fp at ro
  cases ro with
  |lf rp=>cases rp;exact⟨_,hv,q⟩)
theorem zeR{i:Nat}{x:Str}{p pos:Pos}(hv:PE X (.Name x p) (Xy i))(hb:AK X kd b f)(hs:Yv b):AK X kd (.Subscript (.Name x p) b pos) (xAt i f):=by
 with_unfolding_all exact(xU (zer zbT hv hb hs) λσ H Q h=>by
  obtain⟨F,B,ad,as,c,R,e,q⟩:=h
  obtain⟨k,h1,e⟩:=bS_ (show(f as).bind _=_ from e)
  obtain⟨hk,e⟩:=ite_some' e
  obtain⟨d0,e1,e3⟩:=bS_ e
  obtain⟨ds,e2,e4⟩:=bS_ e3
  obtain⟨d,k2,e5⟩:=bS_ e4
  cases zcn e2
  cases zhk e5
  obtain⟨st,k1⟩:=zrM e1
  obtain⟨v,hv,ro⟩:=R.sl i _ k1
  generalize ad i=fp at ro
  cases ro with
  |lf rp=>
   obtain⟨l,vs,rfl,hq,rl⟩:=zgY (ad:=ad) (q:=st) rp (λz=>z)
   obtain⟨w,hw,rw'⟩:=rl.get k2
   cases rw'
   refine⟨_,hv,F,B,ad,as,k,R,h1,l,vs,k,_,rfl,rfl,hq ad H Grow.refl, ?_,q⟩
   have:=Yu hw
   rw[Int.toNat_of_nonneg hk]at this
   exact this)
theorem zbb{pos:Pos}(ha:AK X kd a f)(hb:AK X kd b g):AK X kd (.BinOp a .Mod b pos) (Vd f g):=by
 with_unfolding_all exact(xU (zmk zmP ha hb) λσ H Q h=>by
  obtain⟨F,B,ad,as,c,R,e,q⟩:=h
  obtain⟨m,h1,e⟩:=bS_ (show(f as).bind _=_ from e)
  obtain⟨n,h2,e⟩:=bS_ e
  obtain⟨hn,e⟩:=yg e
  cases e
  exact⟨F,B,ad,as,m,R,h1,F,B,ad,as,n,R,h2,m,n,rfl,rfl,hn,q⟩)
theorem zqP{i:Nat}{x:Str}{p p0 pos:Pos}(hg:Gl X "len")(hm:X.mg "len"=none)(hb:bootBuiltins "len"=some (.builtin "len"))(hv:PE X (.Name x p) (Xy i))(hst:starEach [.Name x p] X.env=(false,eval (.Name x p) X.env)::starEach [] X.env)(hpl:(backTo pos (starEach [] X.env)).any (·.1)=false):AK X kd (.Call (.Name "len" p0) [.Name x p] [] pos) (zlu i):=by
 with_unfolding_all exact(xU (zec WF hg hm hb (Xc hv zaQ hst) (by decide) (by decide) hst hpl) λσ H Q h=>by
  obtain⟨F,B,ad,as,c,R,e,q⟩:=h
  obtain⟨os,e1,e⟩:=bS_ (show(slO Vr as i).bind _=_ from e)
  cases e
  obtain⟨v,hv,ro⟩:=R.sl i _ (zoC e1)
  generalize ad i=fp at ro
  cases ro with
  |ls hH rl=>
   rename_i l vs fp
   refine⟨_,hv,l,vs,rfl,.inl (.inl (.inl hH)), ?_⟩
   rw[zbG rl]
   exact q)
end
def zme(i:Nat)(f fv:IXF):SF:=λas=>(f as).bind λk=>(fv as).bind λc=>if 0<=k then(slO Vr as i).bind λos=>(atO zcx os k.toNat).bind λ_=>some (.nx (as.set i (some (.nd .ls (os.set k.toNat (.lf true (.int c)))))))else none
def zhW(i:Nat)(f1 f2 fv:IXF):SF:=λas=>(f1 as).bind λk1=>(f2 as).bind λk2=>(fv as).bind λc=>if 0<=k1/\0<=k2 then(slO Vr as i).bind λos=>(atO Vr os k1.toNat).bind λinner=>(atO zcx inner k2.toNat).bind λ_=>some (.nx (as.set i (some (.nd .ls (os.set k1.toNat (.nd .ls (inner.set k2.toNat (.lf true (.int c)))))))))else none
def noS(as:AS)(y:Nat):Bool:=match as[y]? with
 |some none=>true
 |_=>false
theorem zqh{as:AS}{y:Nat}(h:noS as y=true):as[y]? = some none:=by
 unfold noS at h
 cases k:as[y]? with
 |none=>rw[k]at h;cases h
 |some s=>
  cases s with
  |none=>rfl
  |some _=>rw[k]at h;cases h
def znd(y i:Nat)(f1:IXF)(n:Nat)(f2 f3 fv:IXF):SF:=λas=>(f1 as).bind λk1=>(f2 as).bind λk2=>(f3 as).bind λk3=>(fv as).bind λc=>if 0<=k1/\0<=k2/\0<=k3/\noS as y=true then
 (slO Vr as i).bind λos=>(atO zoL os k1.toNat).bind λps=>(atO Vr ps n).bind λrows=>(atO Vr rows k2.toNat).bind λinner=>(atO zcx inner k3.toNat).bind λ_=>some (.nx (as.set i (some (.nd .ls (os.set k1.toNat (.nd .tp (ps.set n (.nd .ls (rows.set k2.toNat (.nd .ls (inner.set k3.toNat (.lf true (.int c)))))))))))))else none
theorem zoY{n j:Nat}(h:j<n):ixN n (j:Int)=some j:=by
 unfold ixN
 rw[if_pos (by omega),if_pos (by omega)];simp
theorem zgS{n:Nat}{k:Int}(h0:0<=k)(h:k.toNat<n):ixN n k=some k.toNat:=by
 have:=zoY h
 rw[show((k.toNat:Nat):Int)=k by omega]at this
 exact this
theorem zgT{α:Type}{xs:List α}{k:Int}{v:α}(h0:0<=k)(h:xs[k.toNat]? = some v):atI xs k=some v:=by
 have:=Yu h
 rw[show((k.toNat:Nat):Int)=k by omega]at this
 exact this
section
variable{X:Cx}{kd:KD}{f f1 f2 f3 fv:IXF}{e1 e2 e3 ev:Expr}{i y:Nat}
theorem zog{x:Str}{p tpos pos:Pos}(ho:PE X (.Name x p) (Xy i))(h1:AK X kd e1 f)(hv:AK X kd ev fv)
 (ha:∀v,assign (.Subscript (.Name x p) e1 tpos) X.env v=(do
  let ov <-holding [v] (eval (.Name x p) X.env)
  let iv <-holding [v,ov] (eval e1 X.env)
  standAt tpos
  holding [v,ov,iv] (setItem ov iv v)
  release [v,ov,iv] []))
 (hs:swapsWithSole [.Subscript (.Name x p) e1 tpos] ev pos.line X.env=pure false) (hw:swappedStores [.Subscript (.Name x p) e1 tpos] ev X.env=pure none)
 (hm:(assignEach [.Subscript (.Name x p) e1 tpos] X.env).map (·.2)=[assign (.Subscript (.Name x p) e1 tpos) X.env]):
 ASt X kd (.Assign [.Subscript (.Name x p) e1 tpos] ev pos) (zme i f fv):=by
 with_unfolding_all exact(Zi (zhn hv (zjx ho h1 set_list ha) hs hw hm) λD σ H h=>by
  obtain⟨F,B,ad,as,o,R,e,q⟩:=h
  obtain⟨k,j1,e⟩:=bS_ (show(f as).bind _=_ from e)
  obtain⟨c,j2,e⟩:=bS_ e
  obtain⟨hk,e⟩:=ite_some' e
  obtain⟨os,e1,e⟩:=bS_ e
  obtain⟨d,e2,e⟩:=bS_ e
  have k1:=zoC e1
  obtain⟨st,k2⟩:=zqQ e2
  cases e
  obtain⟨v,sv,ro,hn,hG,up⟩:=R.slotU k1
  obtain⟨p,ivs,rfl,hp,hH,hl,ro'⟩:=zgA c ro hn hG k2
  obtain⟨R2,g2⟩:=up p _ _ hp ro'
  exact⟨F,B,ad,as,c,R,j2,_,sv,F,B,ad,as,k,R,j1,p,ivs,k,k.toNat,rfl,rfl,hH,zgS hk hl,q σ ad _ R2 g2⟩)
theorem zoy{x:Str}{p p1 tpos pos:Pos}(ho:PE X (.Name x p) (Xy i))(h1:AK X kd e1 f1)(hp1:Yv e1)(h2:AK X kd e2 f2)(hv:AK X kd ev fv)
 (ha:∀v,assign (.Subscript (.Subscript (.Name x p) e1 p1) e2 tpos) X.env v=(do
  let ov <-holding [v] (eval (.Subscript (.Name x p) e1 p1) X.env)
  let iv <-holding [v,ov] (eval e2 X.env)
  standAt tpos
  holding [v,ov,iv] (setItem ov iv v)
  release [v,ov,iv] []))
 (hs:swapsWithSole [.Subscript (.Subscript (.Name x p) e1 p1) e2 tpos] ev pos.line X.env=pure false) (hw:swappedStores [.Subscript (.Subscript (.Name x p) e1 p1) e2 tpos] ev X.env=pure none)
 (hm:(assignEach [.Subscript (.Subscript (.Name x p) e1 p1) e2 tpos] X.env).map (·.2)=[assign (.Subscript (.Subscript (.Name x p) e1 p1) e2 tpos) X.env]):
 ASt X kd (.Assign [.Subscript (.Subscript (.Name x p) e1 p1) e2 tpos] ev pos) (zhW i f1 f2 fv):=by
 with_unfolding_all exact(Zi (zhn hv (zjx (zer zbT ho h1 hp1) h2 set_list ha) hs hw hm) λD σ H h=>by
  obtain⟨F,B,ad,as,o,R,e,q⟩:=h
  obtain⟨n1,j1,e⟩:=bS_ (show(f1 as).bind _=_ from e)
  obtain⟨n2,j2,e⟩:=bS_ e
  obtain⟨c,j3,e⟩:=bS_ e
  obtain⟨⟨hk1,hk2⟩,e⟩:=ite_some' e
  obtain⟨os,e1,e⟩:=bS_ e
  obtain⟨inner,e2,e⟩:=bS_ e
  obtain⟨d,e3,e⟩:=bS_ e
  have k1:=zoC e1
  have k2:=zpU e2
  obtain⟨st,k3⟩:=zqQ e3
  cases e
  obtain⟨v,sv,ro,hn,hG,up⟩:=R.slotU k1
  obtain⟨l,vs,w,fw,rfl,hH,hvs,rw1,fn,fs,up1⟩:=zjB ro hn hG k2
  obtain⟨p,ivs,rfl,hp,hHp,hl,ro'⟩:=zgA c rw1 fn (λa m=>hG a (fs a m)) k3
  obtain⟨R2,g2⟩:=up p _ _ (fs p hp) (up1 p _ _ hp ro')
  exact⟨F,B,ad,as,c,R,j3,_,sv,F,B,ad,as,n1,R,j1,l,vs,n1,_,rfl,rfl,.inl (.inl hH),zgT hk1 hvs,F,B,ad,as,n2,R,j2,p,ivs,n2,n2.toNat,rfl,rfl,hHp,zgS hk2 hl,q σ ad _ R2 g2⟩)
theorem zoI{x z:Str}{n:Nat}{ec:Expr}{p p1 p2 py pos0 q0 q1 tpos pos:Pos}(hN:X.N.Nodup)(hyi:X.N[y]? = some z)(hyl:Loc X.env.scope z)(hyf:X.fn z=true\/X.env.scope.names.lookup z=some .local)
 (ho:PE X (.Name x p) (Xy i)) (h1:AK X kd e1 f1) (hp1:Yv e1) (hc:PE X ec (tC (.int n))) (hpc:Yv ec) (hsw:swapsWith (.Subscript (.Subscript (.Name x p) e1 p1) ec p2) (some (.Name z py)) pos0.line X.env=pure false)
 (ho2:PE X (.Name z q0) (Xy y)) (h2:AK X kd e2 f2) (hp2:Yv e2) (h3:AK X kd e3 f3) (hv:AK X kd ev fv)
 (ha:∀v,assign (.Subscript (.Subscript (.Name z q0) e2 q1) e3 tpos) X.env v=(do
  let ov <-holding [v] (eval (.Subscript (.Name z q0) e2 q1) X.env)
  let iv <-holding [v,ov] (eval e3 X.env)
  standAt tpos
  holding [v,ov,iv] (setItem ov iv v)
  release [v,ov,iv] []))
 (hs:swapsWithSole [.Subscript (.Subscript (.Name z q0) e2 q1) e3 tpos] ev pos.line X.env=pure false) (hw:swappedStores [.Subscript (.Subscript (.Name z q0) e2 q1) e3 tpos] ev X.env=pure none)
 (hm:(assignEach [.Subscript (.Subscript (.Name z q0) e2 q1) e3 tpos] X.env).map (·.2)=[assign (.Subscript (.Subscript (.Name z q0) e2 q1) e3 tpos) X.env]):
 ASs X kd [.Assign [.Name z py] (.Subscript (.Subscript (.Name x p) e1 p1) ec p2) pos0,.Assign [.Subscript (.Subscript (.Name z q0) e2 q1) e3 tpos] ev pos] (znd y i f1 n f2 f3 fv):=by
 with_unfolding_all exact(zgX (ziB (zlr hN hyi hyl (zer zjo (zer zbT ho h1 hp1) hc hpc) hsw hyf) (zkk (zhn hv (zjx (zer zbT ho2 h2 hp2) h3 set_list ha) hs hw hm))) λD σ H h=>by
  obtain⟨F,B,ad,as,o,R,e,q⟩:=h
  obtain⟨n1,j1,e⟩:=bS_ (show(f1 as).bind _=_ from e)
  obtain⟨n2,j2,e⟩:=bS_ e
  obtain⟨n3,j3,e⟩:=bS_ e
  obtain⟨c,j4,e⟩:=bS_ e
  obtain⟨⟨hk1,hk2,hk3,hy⟩,e⟩:=ite_some' e
  have hy:=zqh hy
  obtain⟨os,e1,e⟩:=bS_ e
  obtain⟨ps,e2,e⟩:=bS_ e
  obtain⟨rows,e3,e⟩:=bS_ e
  obtain⟨inner,e4,e⟩:=bS_ e
  obtain⟨d,e5,e⟩:=bS_ e
  have k1:=zoC e1
  have k2:=zsX e2
  have k3:=zpU e3
  have k4:=zpU e4
  obtain⟨st,k5⟩:=zqQ e5
  cases e
  obtain⟨v,sv,ro,hn,hG,up⟩:=R.slotU k1
  obtain⟨l,vs,w,fw,rfl,hH,hvs,rw1,fn,fs,up1⟩:=zjB ro hn hG k2
  obtain⟨l2,vs2,w2,fw2,rfl,hH2,hvs2,rw2,fn2,fs2,up2⟩:=zqx rw1 fn (λa m=>hG a (fs a m)) k3
  obtain⟨l3,vs3,w3,fw3,rfl,hH3,hvs3,rw3,fn3,fs3,up3⟩:=zjB rw2 fn2 (λa m=>hG a (fs a (fs2 a m))) k4
  obtain⟨p,ivs,rfl,hp,hHp,hl,ro'⟩:=zgA c rw3 fn3 (λa m=>hG a (fs a (fs2 a (fs3 a m)))) k5
  have m3:=fs3 p hp
  have m2:=fs2 p m3
  have m1:=fs p m2
  obtain⟨R2,g2⟩:=up p _ _ m1 (up1 p _ _ m2 (up2 p _ _ m3 (up3 p _ _ hp ro')))
  have yl:y<σ.length:=by rw[<-R.len];exact(zzD.mp hy).1
  have R':=R.any (y:=y) (v:=some (.ref l3)) hy
  have niy:i≠y:=λe=>by subst e;rw[hy]at k1;cases k1
  have R2':=R2.any (y:=y) (v:=some (.ref l3)) (by rw[zzV niy];exact hy)
  refine⟨_,sv,F,B,ad,as,n1,R,j1,l,vs,n1,_,rfl,rfl,.inl (.inl hH),zgT hk1 hvs,l2,vs2,(n:Int),_,rfl,rfl,.inl (.inl hH2),Yu hvs2, ?_⟩
  exact⟨F,B,ad,as,c,R',j4,_,zyH yl,F,B,ad,as,n2,R',j2,l3,vs3,n2,_,rfl,rfl,.inl (.inl hH3),zgT hk2 hvs3,F,B,ad,as,n3,R',j3,p,ivs,n3,n3.toNat,rfl,rfl,hHp,zgS hk3 hl,q _ ad _ R2' g2⟩)
end
section
variable{X:Cx}{kd:KD}
theorem zqB:SlR X (λx lo hi H Q=>∃z,x = .str z/\z.length<=sizeLine/\Q (.str (Txt.slice z lo hi)) H):=by
 intro pins s σ H x v vl vu lo hi sl Q I rx hs pl pu h
 obtain⟨z,rfl,hz,q⟩:=h
 obtain⟨t,rfl⟩:=rx
 refine⟨"str",_,F.slot_str_getitem.lookup,typeIs_str _ _ _, ?_⟩
 cases pl with
 |none=>
  cases pu with
  |none=>exact wpAny_getItem_str_slice (l:=none) (u:=none) (st:=none) hs rfl (post_val_or_str ⟨zzL (Txt.slice_le z _ _) hz,λt' k=>⟨.str _,H,I.kept (λ_ _ e=>e),⟨_,rfl⟩,q⟩⟩)
  |int j uj=>exact wpAny_getItem_str_slice (l:=none) (u:=some (j,uj)) (st:=none) hs rfl (post_val_or_str ⟨zzL (Txt.slice_le z _ _) hz,λt' k=>⟨.str _,H,I.kept (λ_ _ e=>e),⟨_,rfl⟩,q⟩⟩)
 |int i ui=>
  cases pu with
  |none=>exact wpAny_getItem_str_slice (l:=some (i,ui)) (u:=none) (st:=none) hs rfl (post_val_or_str ⟨zzL (Txt.slice_le z _ _) hz,λt' k=>⟨.str _,H,I.kept (λ_ _ e=>e),⟨_,rfl⟩,q⟩⟩)
  |int j uj=>exact wpAny_getItem_str_slice (l:=some (i,ui)) (u:=some (j,uj)) (st:=none) hs rfl (post_val_or_str ⟨zzL (Txt.slice_le z _ _) hz,λt' k=>⟨.str _,H,I.kept (λ_ _ e=>e),⟨_,rfl⟩,q⟩⟩)
def slS:D->Option Int->Option Int->Option R0
 | .str z,lo,hi=>if z.length<=sizeLine then some (.im (.str (Txt.slice z lo hi)))else none
 |_,_,_=>none
theorem zse:SlR X (λx lo hi H Q=>∃O d r,(∀a,O a->H a≠none)/\Vw X.K kd O H x d/\slS d lo hi=some r/\RQ X.K kd O H Q r):=by
 intro pins s σ H x v vl vu lo hi sl Q I rx hs pl pu h
 obtain⟨O,d,r,ht,vx,he,q⟩:=h
 unfold slS at he
 split at he
 · obtain⟨c,rfl⟩:=yg he
   cases vx
   exact zqB pins s σ H _ v vl vu lo hi sl Q I rx hs pl pu ⟨_,rfl,c,yN q (.str _)⟩
 · cases he
theorem zfH{a:Expr}{lo hi:Option Expr}{fa:EF}{fl fh:OF}{pos p2:Pos}(ha:AE X kd a fa)(hl:AO X kd lo fl)(hh:AO X kd hi fh):AE X kd (.Subscript a (.Slice lo hi none p2) pos) (fSl fa fl fh slS):=by with_unfolding_all exact(xU (ziy zse ha hl hh) λσ H Q h=>by
 obtain⟨F,B,ad,as,r,as',R,e,q⟩:=h
 obtain⟨⟨p,as1⟩,h1,e⟩:=bS_ (show(fa as).bind _=_ from e)
 obtain⟨⟨l,as2⟩,h2,e⟩:=bS_ e
 obtain⟨⟨u,as3⟩,h3,e⟩:=bS_ e
 obtain⟨⟨d,lv⟩,h4,e⟩:=bS_ e
 obtain⟨r',h5,e⟩:=bS_ e
 obtain⟨z,h6,e⟩:=bS_ e
 cases e
 refine Xn R h1 λv ad1 H1 R1 rv1 g1=>⟨F,B,ad1,as1,l,as2,R1,h2,λad2 H2 R2 g2=>⟨F,B,ad2,as2,u,_,R2,h3,λad3 H3 R3 g3=>?_⟩⟩
 exact⟨_,d,r',R3.tr _,v7.vw R3 ((rv1.grow g2).grow g3) h4,h5,Wa R3 h6 λw T' H' R' rv' g'=>q w T' ad3 H' R' rv' (((g1.trans g2).trans g3).trans g')⟩)
end
theorem l1_{α:Type}{P:List α->Prop}(h:∀a,P [a]):∀us:List α,us.length=1->P us
 | [a],_=>h a
theorem l2_{α:Type}{P:List α->Prop}(h:∀a b,P [a,b]):∀us:List α,us.length=2->P us
 | [a,b],_=>h a b
theorem l3_{α:Type}{P:List α->Prop}(h:∀a b c,P [a,b,c]):∀us:List α,us.length=3->P us
 | [a,b,c],_=>h a b c
theorem l4_{α:Type}{P:List α->Prop}(h:∀a b c d,P [a,b,c,d]):∀us:List α,us.length=4->P us
 | [a,b,c,d],_=>h a b c d
theorem l5_{α:Type}{P:List α->Prop}(h:∀a b c d e,P [a,b,c,d,e]):∀us:List α,us.length=5->P us
 | [a,b,c,d,e],_=>h a b c d e
section
variable{X:Cx}{kd:KD}
theorem aI{c:Int}{j pos}:AE X kd (.Constant (.int c) j pos) (fC (.int c)):=zgl zfc λ_ _=>.int _
theorem aS{c:Str}{j pos}:AE X kd (.Constant (.str c) j pos) (fC (.str c)):=zgl zpQ λ_ _=>.str _
theorem aZ{j pos}:AE X kd (.Constant .none j pos) (fC .non):=zgl zrk λ_ _=>.non
theorem aB{c:Bool}{j pos}:AE X kd (.Constant (.bool c) j pos) (fC (.bl c)):=zgl zrR λ_ _=>.bl _
theorem ax{P:Program}{w:World}{K:zC}{a b:Expr}{fa fb:EF}{pos:Pos}(hkd:KD1 P w K kd)(ha:AE X kd a fa)(hb:AE X kd b fb)(h1:X.prog=P:=by rfl)(h2:X.w=w:=by rfl)(h3:X.K=K:=by rfl)(hm:Yv b:=by exact λ_ _=>rfl):AE X kd (.Subscript a b pos) (f2 fa fb ixP):=zrQ (zty (hkd _ h1 h2 h3)) ha hb hm
theorem sv(z:Bool)(i:Nat){x:Str}{pos pos':Pos}{e:Expr}{fa:EF}(hN:X.N.Nodup)(he:AE X kd e fa)(hi:X.N[i]? = some x:=by rfl)(hx:Loc X.env.scope x:=by first|exact Or.inl rfl|exact Or.inr rfl)(hs:swapsWith e (some (.Name x pos')) pos.line X.env=pure false:=by rfl)(hf:X.fn x=true\/X.env.scope.names.lookup x=some .local:=by first|exact Or.inl rfl|exact Or.inr rfl):
 ASt X kd (.Assign [.Name x pos'] e pos) (zO z i fa):=zne hN hi hx he hs hf
theorem an(i:Nat){x:Str}{pos:Pos}(hN:X.N.Nodup)(hi:X.N[i]? = some x:=by rfl)(hx:Loc X.env.scope x:=by first|exact Or.inl rfl|exact Or.inr rfl)(hf:X.fn x=true\/X.env.scope.names.lookup x=some .local:=by first|exact Or.inl rfl|exact Or.inr rfl):AG X kd (.Name x pos) [i] (gN i):=zoK hN hi hx hf
theorem av(i:Nat){x:Str}{pos:Pos}(hN:X.N[i]? = some x:=by rfl)(hv:Vis X.env.scope x:=by first|exact Or.inl rfl|exact Or.inr (Or.inl rfl)|exact Or.inr (Or.inr rfl))(hd:(x==("__debug__":Str))=false:=by decide)
 (hcd:(x==("__classdict__":Str))=false:=by decide):AE X kd (.Name x pos) (fV i):=zqR (zlQ hN hv hd hcd)
end
structure CI(K:zC)(kd:KD)(mg:Str->Option Value)(c:Str)(C:Addr):Prop where
 eq:kd.c c=C
 cl:Cls K C
 mks:PySem.W.makesIn K C=true
 kp:PySem.W.keepIn K (.ref C)=true
 mg:mg c=some (.ref C)
theorem szs{n:Nat}(h:n<=1000000):n<=sizeLine:=zzL h (by decide)
section
variable{as:AS}{f fo a b:EF}{fr:AF}{s t:Bool}{x y z d:D}{c m:Str}{ns cs:List Str}{ds:List D}{tbl:List (Str×Fn)}{g:Fn}{o:O}
inductive SqD:D->List D->Prop
 |l (ds:List D):SqD (.lst ds) ds
 |t (ds:List D):SqD (.tup ds) ds
theorem zcm{α:Type}{h:α->D}{it:α->It1}{gg:GF}{fe:EF}{as0:AS}:∀(l:List α),(∀q ∈ l,∃as1,gg (it q) as0=some as1/\WE fe as1 (h q))->∃os,wB gg yI fe as0 (l.map it)=some os/\O.strs os=true/\O.toDs os=l.map h
 | [],_=>⟨[],rfl,rfl,rfl⟩
 |q::l,H=>by
  obtain⟨os,e1,e2,e3⟩:=zcm l λp m=>H p (zzA _ m)
  obtain⟨as1,h1,o,h2,h3,h4⟩:=H q zzC
  refine⟨o::os, ?_,by show(o.str&&O.strs os)=true;rw[h3,e2];rfl,by show o.toD::O.toDs os=_;rw[h4,e3];rfl⟩
  show wB gg yI fe as0 (it q::l.map it)=_
  unfold wB
  rw[h1];show((fe as1).bind _)=_
  rw[h2];show(if o.str=true then _ else _)=_
  rw[if_pos h3,e1];rfl
theorem zgi{α:Type}{h:α->D}{p:α->Bool}{it:α->It1}{gg:GF}{tt:TF}{fe:EF}{as0:AS}:∀(l:List α),(∀q ∈ l,∃as1,gg (it q) as0=some as1/\WT tt as1 (p q)/\(p q=true->WE fe as1 (h q)))->∃os,wB gg tt fe as0 (l.map it)=some os/\O.strs os=true/\O.toDs os=(l.filter p).map h
 | [],_=>⟨[],rfl,rfl,rfl⟩
 |q::l,H=>by
  obtain⟨os,e1,e2,e3⟩:=zgi l λp m=>H p (zzA _ m)
  obtain⟨as1,h1,h2,h3⟩:=H q zzC
  cases hp:p q with
  |false=>
   rw[hp]at h2
   refine⟨os,zfJ h1 h2 e1,e2, ?_⟩
   rw[List.filter_cons_of_neg (by simp[hp])];exact e3
  |true=>
   rw[hp]at h2
   obtain⟨o,k1,k2,k3⟩:=h3 hp
   refine⟨o::os, ?_,by show(o.str&&O.strs os)=true;rw[k2,e2];rfl, ?_⟩
   · unfold WT at h2
     show wB gg tt fe as0 (it q::l.map it)=_
     unfold wB
     rw[h1];show(tt as1).bind _=_
     rw[h2];show((fe as1).bind _)=_
     rw[k1];show(if o.str=true then _ else _)=_
     rw[if_pos k2,e1];rfl
   · rw[List.filter_cons_of_pos hp]
     show o.toD::O.toDs os=_
     rw[k3,e3];rfl
theorem zhX{fi:IF}{cap:List (Option Nat)}{gg:GF}{tt:TF}{fe:EF}{xs:List It1}{os:List O}{zs:List D}(h1:fi as=some (xs,as))(hl:xs.length<=1000000)(h2:wB gg tt fe (Yz cap as) xs=some os)(hs:O.strs os=true)(e:O.toDs os=zs):WE (zR fi cap gg tt fe) as (.lst zs):=by
 refine⟨.nd .ls os, ?_,hs,congrArg D.lst e⟩
 unfold zR
 rw[h1];show(if xs.length<=sizeLine then _ else _)=_
 rw[if_pos (szs hl),h2];rfl
theorem Xd{α:Type}{h:α->D}{it:α->It1}{fi:IF}{cap:List (Option Nat)}{gg:GF}{fe:EF}(l:List α)(h1:fi as=some (l.map it,as))(hl:l.length<=1000000)(H:∀q ∈ l,∃as1,gg (it q) (Yz cap as)=some as1/\WE fe as1 (h q)):WE (zR fi cap gg yI fe) as (.lst (l.map h)):=by
 obtain⟨os,e1,e2,e3⟩:=zcm l H
 exact zhX h1 (by rw[zD];exact hl) e1 e2 e3
theorem zqW{α:Type}{h:α->D}{p:α->Bool}{it:α->It1}{fi:IF}{cap:List (Option Nat)}{gg:GF}{tt:TF}{fe:EF}(l:List α)(h1:fi as=some (l.map it,as))(hl:l.length<=1000000)(H:∀q ∈ l,∃as1,gg (it q) (Yz cap as)=some as1/\WT tt as1 (p q)/\(p q=true->WE fe as1 (h q))):WE (zR fi cap gg tt fe) as (.lst ((l.filter p).map h)):=by
 obtain⟨os,e1,e2,e3⟩:=zgi l H
 exact zhX h1 (by rw[zD];exact hl) e1 e2 e3
theorem zjI{g:List D->Option R0}(ha:WE a as x)(hg:g [x]=some (.im z)):WE (fP (aC a aN) g) as z:=WD.e (zqk ha hg)
theorem znu{fd:DF}{os:List O}{zs:List D}(h:WO fd as os)(hl:os.length<=1000000)(hs:O.strs os=true)(e:O.toDs os=zs):WE (yw fd) as (.tup zs):=by
 refine⟨Y4 os,zes h (szs hl), ?_, ?_⟩
 · unfold Y4;split
   · exact hs
   · exact hs
 · subst e
   unfold Y4;split
   · rfl
   · rfl
theorem zpT{fd:DF}{os:List O}(h:WE a as x)(hr:WO fd as os):∃o,o.str=true/\o.toD=x/\WO (dC a fd) as (o::os):=by
 obtain⟨o,h1,h2,h3⟩:=h
 exact⟨o,h2,h3,Xi h1 hr⟩
theorem zkn(ha:WE a as x):WE (yw (dC a dN)) as (.tup [x]):=by
 obtain⟨o,h1,rfl,h3⟩:=zpT ha yd
 exact znu h3 (by show 1<=_;omega) (by show(o.str&&true)=true;rw[h1];rfl) rfl
theorem Y8(ha:WE a as x)(hb:WE b as y):WE (yw (dC a (dC b dN))) as (.tup [x,y]):=by
 obtain⟨p,k1,rfl,k3⟩:=zpT hb yd
 obtain⟨o,h1,rfl,h3⟩:=zpT ha k3
 exact znu h3 (by show 2<=_;omega) (by show(o.str&&(p.str&&true))=true;rw[h1,k1];rfl) rfl
end
open AutoSeq1 (wpAny_loadPart')
def znP(tk tv:TE):TE:=λσ H Q=>∀p,H p=none->tk σ (upd H p (.dT [])) λx H1=>tv σ H1 λy H2=>H2 p=some (.dT [])/\∃(k:List Key) (b:Addr),x = .ref b/\H2 b=some (.tup (k.map kV))/\Q (.ref p) (upd H2 p (.dT [(k,y)]))
theorem zkL{X:Cx}{pos:Pos}{k v:Expr}{tk tv:TE}(hu:X.A.units+1<cLine)(hk:PE X k tk)(hv:PE X v tv):PE X (.Dict [some k] [v] pos) (znP tk tv):=by
 intro pins s σ H Q I q
 have hn:=I.hok.fresh (zzK s.heap.objs.size)
 have I1:=I.laid (a:=s.heap.objs.size) (o:=.dT []) (h':=s.heap.push {cls:=.type "dict",data:=.dict #[]}) (t':=s.toks) (λ_ _ q=>zxD _ q) (zzK _) (zmD s.heap I.big)
 refine wpAny_Dict_any rfl rfl (by simp) (by show 1<=15;decide) (thn (znp (pos:=pos) hk hv znT pins _ σ _ (λps H2=>match ps with
  | [(x,y)]=>H2 s.heap.objs.size=some (.dT [])/\∃(k:List Key) (b:Addr),x = .ref b/\H2 b=some (.tup (k.map kV))/\Q (.ref s.heap.objs.size) (upd H2 s.heap.objs.size (.dT [(k,y)]))
  |_=>False) I1 (q _ hn)) λws s2 ⟨ps,H2,I2,rel,q3⟩=>?_)
 match ps,rel,q3 with
 | [(x,y)],rel,⟨e,k,b,ex,eb,q2⟩=>
  subst ex
  cases rel with
  | @cons p1 q1 _ _ h t=>
     cases t
     obtain⟨w1,w2⟩:=q1
     cases(show w1=Value.ref b from h.1)
     obtain⟨z,hd,xs,r0,dd⟩:=zpm I2.hok e
     cases r0
     unfold storeAll
     rw[List.forIn_cons]
     refine zxB (zxB (wpAny_dictSet_heap (hsz:=Nat.zero_le _) (show X.A.units<cLine by omega) (zcw I2.hok eb) dd λh' dd' hs=>zxC ?_))
     show wpAny _ _ (forIn ([]:List (Value×Value)) PUnit.unit _) _ _ _
     rw[List.forIn_nil]
     refine zxC ⟨.ref s.heap.objs.size,_, ?_,rfl,q2⟩
     obtain⟨q,es,ep,hq,h2,h3,h4,_,h5⟩:=dd'
     have r0:KT H2 ([]:List (List Key×V)) []:=.nil
     refine zgQ I2 (by rw[e];exact True.intro) hs ⟨q,hq⟩ ⟨by show 1<=_;rw[sizeLine_eq];decide,hd,_,(r0.put k eb h.2).keeps λc ys ec=>?_,q,es,ep,hq,h2,h3,h4,h5⟩
     rw[zV (zph ec e (λz=>nomatch z))]
     exact ec
theorem zhE{K:zC}{kd:KD}{F:Addr->Prop}{H:Hp}{a:Addr}{vs:List V}{st:Bool}{ds:List D}(ft:∀a,F a->H a≠none)(hs:∀H3:Hp,(∀b u,H b=some u->H3 b=some u)->SqL K H3 a vs)(r:RpL K kd (λa=>st=true/\F a) H vs ds):ItC K kd F H (Ite K a) (zav st 0 ds):=⟨λH3 T k hT i=>by
 have hr3:=hs H3 k
 have hlen:=zfV st 0 ds
 refine⟨λhi=>?_,λhi=>⟨_,hr3,by rw[r.length];omega⟩,λv H4 hy=>?_⟩
 · obtain⟨u,hu,_⟩:=r.get (zzB (by rw[<-hlen];exact hi))
   exact⟨_,u,hr3,hu⟩
 · obtain⟨A,x,hn,rfl,rfl,hv⟩:=hy
   have hnH:H A=none:=by
    cases e:H A with
    |none=>rfl
    |some u=>rw[k A u e]at hn;cases hn
   refine⟨Zo hn,λy hy=>?_⟩
   obtain⟨d,hd,rfl⟩:=zfE hy
   obtain⟨u,hu,ru⟩:=r.get hd
   have:=hv _ hr3
   rw[hu]at this
   cases this
   rw[zyU]
   exact .tup (λz=>z.2.elim (λy=>ft A y hnH) λy=>(hT A y).2 hn) yC (.cons (.int _) (.cons ((ru.since (λb o q=>Zo hn b o (k b o q)) λa z=>(hT a z).1).less λa z=>z.2.elim (λy=>.inl ⟨z.1,y⟩) .inr) .nil))⟩
def zlo(i:Nat)(k:Int):SF:=λas=>match as[i]? with
 |some (some (.lf _ (.int n)))=>some (.nx (as.set i (some (.lf true (.int (n+k))))))
 |_=>none
section
variable{X:Cx}{kd:KD}{e:Expr}{fa:EF}{pos pos':Pos}
theorem zoE{p:Pos}{elts:List Expr}{k:Nat}(hg:Gl X "enumerate")(hm:X.mg "enumerate"=none)(he:AE X kd e fa)(hs:starEach [e] X.env=[(false,eval e X.env)]):
 AIc X kd (.Tuple elts k pos') (.Call (.Name "enumerate" p) [e] [] pos) (znA fa):=by
 with_unfolding_all (
 intro pins s σ H R I h
 obtain⟨F,B,ad,as,ds,as',Rl,e',q⟩:=h
 obtain⟨⟨p,as1⟩,h1,e'⟩:=bS_ (show(fa as).bind _=_ from e')
 obtain⟨⟨⟨st,x⟩,as2⟩,h2,e'⟩:=bS_ e'
 match x,e',h2 with
 | .lst xs,e',h2=>
  cases e'
  refine znU hg hm (Xc he zaQ hs) hs pins s σ H R I (show al X.K kd fa σ H _ from⟨F,B,ad,as,p,as1,Rl,h1,λv T1 ad1 H1 R1 rv1 g1=>?_⟩)
  obtain⟨ad2,R2,rp,le⟩:=zaj R1 rv1 h2
  cases rp with
  |lst hn hr rl=>exact⟨_,rfl,⟨_,.inl hr⟩,q _ ad2 H1 R2 (g1.trans (Grow.less le)) (zhE (R2.trk true) (λH3 k=>.inl (hr.elim (λh=>.inl (k _ _ h)) λ⟨o,h⟩=>.inr ⟨o,k _ _ h⟩)) (rl.less λa z=>by have z1:=z.1;rw[z1];exact z.2))⟩
  |lstK a b c rl=>exact⟨_,rfl,⟨_,.inr ⟨_,_,_,a,rfl,rfl,rfl,b,c⟩⟩,q _ ad2 H1 R2 (g1.trans (Grow.less le)) (zhE (R2.trk true) (λH3 k=>.inr ⟨_,_,_,a,rfl,rfl,rfl,b,c⟩) (rl.less λa z=>by have z1:=z.1;rw[z1];exact z.2))⟩)
theorem zqK{i:Nat}{x:Str}{k:Int}{z:Nat}{p2:Pos}(hN:X.N.Nodup)(hi:X.N[i]? = some x)(hx:Loc X.env.scope x)(hf:X.fn x=true\/X.env.scope.names.lookup x=some .local):
 ASt X kd (.AugAssign (.Name x pos') .Add (.Constant (.int k) z p2) pos) (zlo i k):=by with_unfolding_all exact(Zi (zrt hN hi hx zfc zrn hf) λD σ H h=>by
 obtain⟨F,B,ad,as,o,R,e,q⟩:=h
 cases k1:as[i]? with
 |none=>unfold zlo at e;rw[k1]at e;cases e
 |some a0=>
  unfold zlo at e
  rw[k1]at e
  match a0,e,k1 with
  |some (.lf st (.int n)),e,k1=>
   cases e
   obtain⟨v,hs,ro⟩:=R.sl i _ k1
   generalize ad i=fp1 at ro
   cases ro with
   |lf rp=>
    cases rp
    obtain⟨ad2,R2,le⟩:=zjk (v:=.int (n+k)) (z:=true) (r:=.ow (.lf true (.int (n+k)))) (o:=.lf true (.int (n+k))) (i:=i) R (show RoS _ _ _ _ _ _ _ _ _ from .lf (.int _)) rfl (zzD.mp k1).1
    exact⟨_,hs,_,_,rfl,rfl,q _ ad2 H R2 (Grow.less le)⟩)
end
section
variable{X:Cx}{kd:KD}{P:Program}{w:World}{K:zC}{a b e o:Expr}{es:List Expr}{fa fb fo:EF}{fr:AF}{fd_:DF}{pos p apos:Pos}{k n:Nat}
theorem fsc{N Ps:List Str}{sc:Scope}(h1:sc.kind = .function:=by rfl)(h2:sc.isCoroutine=false:=by rfl)(h3:sc.isGenerator=false:=by rfl)(h4:N.Nodup:=by decide +kernel)(h5:N.take Ps.length=Ps:=by rfl)(h6:∀x ∈ Ps,sc.names.lookup x=some .local\/sc.names.lookup x=some .cell:=by decide +kernel)(h7:∀y ∈ sc.names,y.2 ≠ .free:=by decide +kernel):FnScope N Ps sc:=⟨h1,h2,h3,h4,h5,h6,h7⟩
theorem bs{x qual:Str}{st:Stmt}{f:Addr}{fd:FuncData}{ps:List Str}(F:Fun K x qual st f fd)
 (h:∀(kV doc pm:Value) (an:Option Addr) (cdv ct:Value) (us:List Value),us.length=ps.length->bindArgs (PySem.W.fnOf x qual (zdK st) (V6 st) (zj st) .none kV doc pm an cdv ct) ⟨us,[]⟩=pure (ps.zip us):=by first|exact λ_ _ _ _ _ _=>l1_ λ_=>rfl|exact λ_ _ _ _ _ _=>l2_ λ_ _=>rfl|exact λ_ _ _ _ _ _=>l3_ λ_ _ _=>rfl|exact λ_ _ _ _ _ _=>l4_ λ_ _ _ _=>rfl|exact λ_ _ _ _ _ _=>l5_ λ_ _ _ _ _=>rfl|exact λ_ _ _ _ _ _=>l6_ λ_ _ _ _ _ _=>rfl):Binds K fd ps []:=F.binds h
theorem bc(ha:AE X kd a fa)(hr:AA X kd es fr)(hs:isStar a=false:=by rfl):AA X kd (a::es) (aC fa fr):=zoS ha hr (zcd hs)
theorem bd(ha:AE X kd a fa)(hr:AD X kd es fd_)(hs:isStar a=false:=by rfl):AD X kd (a::es) (dC fa fd_):=zop ha hr (zcd hs)
theorem bn{op:Operator}(ha:AE X kd a fa)(hb:AE X kd b fb):AE X kd (.BinOp a op b pos) (f2 fa fb (zam op)):=zqj (zqZ op) ha hb
theorem tc{op:CmpOp}(hkd:KD1 P w K kd)(hr:Room k X.A)(ha:AE X kd a fa)(hb:AE X kd b fb)(h1:X.prog=P:=by rfl)(h2:X.w=w:=by rfl)(h3:X.K=K:=by rfl)(hm:behindInMarks op b=false:=by exact zmm _):AT X kd (.Compare a [op] [b] pos) (fT (f2 fa fb (zQ op))):=zhp (Xo (hkd _ h1 h2 h3) (Xv hr) op) (zdB op) ha hb hm
theorem ec{op:CmpOp}(hkd:KD1 P w K kd)(hr:Room k X.A)(ha:AE X kd a fa)(hb:AE X kd b fb)(h1:X.prog=P:=by rfl)(h2:X.w=w:=by rfl)(h3:X.K=K:=by rfl)(hm:behindInMarks op b=false:=by exact zmm _):AE X kd (.Compare a [op] [b] pos) (f2 fa fb (zQ op)):=zct (Xo (hkd _ h1 h2 h3) (Xv hr) op) ha hb hm
theorem ck{f:Addr}{fdt:FuncData}{ps:List Str}{gg:List (Bool×D)->Option O}{x:Str}(F:FnOk X.prog X.w X.K X.mg X.base CX0 k f fdt ps (spD X.K kd gg))(hr:Room n X.A)(hm:X.mg x=some (.ref f))(hk:PySem.W.keepIn X.K (.ref f)=true)
 (hb:Binds X.K fdt ps []) (ha:AA X kd (e::es) fr) (hn:k<=n:=by omega) (hg:Gl X x:=by rfl) (hdb:(x==("__debug__":Str))=false:=by decide) (he:starEach (e::es) X.env=(false,eval e X.env)::starEach es X.env:=by rfl) (hpl:(backTo pos (starEach es X.env)).any (·.1)=false:=by rfl):
 AE X kd (.Call (.Name x p) (e::es) [] pos) (zK fr gg):=zoA F (hr.mono hn) hg hm hk hb zss ha hdb he hpl
theorem bi{id:String}{gg:List D->Option R0}{x:Str}(hc:CallD X kd (.builtin id) gg)(hm:X.mg x=none)(hv:bootBuiltins x=some (.builtin id))(ha:AA X kd (e::es) fr)(hg:Gl X x:=by rfl)(hn:x≠"__name__":=by exact Bt.n _ rfl)(hdb:(x==("__debug__":Str))=false:=by decide)
 (he:starEach (e::es) X.env=(false,eval e X.env)::starEach es X.env:=by rfl) (hpl:(backTo pos (starEach es X.env)).any (·.1)=false:=by rfl):AE X kd (.Call (.Name x p) (e::es) [] pos) (fP fr gg):=zqu hc hg hm hv ha hn hdb he hpl
theorem by_{T:String}{gg:List D->Option R0}{x:Str}(hc:CallD X kd (.type T) gg)(hm:X.mg x=none)(hv:bootBuiltins x=some (.type T))(ha:AA X kd (e::es) fr)(hg:Gl X x:=by rfl)(hn:x≠"__name__":=by exact Bt.n _ rfl)(hdb:(x==("__debug__":Str))=false:=by decide)
 (he:starEach (e::es) X.env=(false,eval e X.env)::starEach es X.env:=by rfl) (hpl:(backTo pos (starEach es X.env)).any (·.1)=false:=by rfl):AE X kd (.Call (.Name x p) (e::es) [] pos) (fP fr gg):=zrr hc hg hm hv ha hn hdb he hpl
theorem sj(i:Nat){z:Bool}{x:Str}{pos':Pos}{rest:List Stmt}{g:SF}(hN:X.N.Nodup)(he:AE X kd e fa)(h2:ASs X kd rest g)(hi:X.N[i]? = some x:=by rfl)(hx:Loc X.env.scope x:=by first|exact Or.inl rfl|exact Or.inr rfl)(hs:swapsWith e (some (.Name x pos')) pos.line X.env=pure false:=by rfl)(hf:X.fn x=true\/X.env.scope.names.lookup x=some .local:=by first|exact Or.inl rfl|exact Or.inr rfl):
 ASs X kd (.Assign [.Name x pos'] e pos::rest) (zE (zO z i fa) g):=zu (zne hN hi hx he hs hf) h2
end
def dtO:Option (Option O)->Option (List (List Key)×List O)
 |some (some (.nd (.dt ks) os))=>some (ks,os)
 |_=>none
def lfS:Option (Option O)->Option (Bool×D)
 |some (some (.lf st d))=>some (st,d)
 |_=>none
def lsO:O->Option (List O)
 | .nd .ls os=>some os
 |_=>none
theorem zmN{a:Option (Option O)}{z:List (List Key)×List O}(h:dtO a=some z):a=some (some (.nd (.dt z.1) z.2)):=by
 match a,h with
 |some (some (.nd (.dt ks) os)),h=>cases h;rfl
theorem zgE{a:Option (Option O)}{z:Bool×D}(h:lfS a=some z):a=some (some (.lf z.1 z.2)):=by
 match a,h with
 |some (some (.lf st d)),h=>cases h;rfl
theorem zqH{o:O}{os:List O}(h:lsO o=some os):o = .nd .ls os:=by
 match o,h with
 | .nd .ls os',h=>cases h;rfl
def zaR(ks:List (List Key))(os:List O)(k:List Key):Option O:=((ks.zip os).find? λkv=>decide (kv.1=k)).map (·.2)
theorem zjH{L:Bool->V->D->Prop}{N:Addr->Prop}{H:Hp}{k:List Key}{o:O}:∀{ks:List (List Key)}{vs:List V}{os:List O}{fp:List Addr},ks.length=vs.length->RoL L N H vs os fp->zaR ks os k=some o->∃v fq,Yd (ks.zip vs) k=some v/\Ro L N H v o fq/\fq.Sublist fp:=λ{ks}=>by
 induction ks with
 |nil=>intro vs os fp _ _ h;cases h
 |cons x ks ih=>
  intro vs os fp hl r h
  cases r with
  |nil=>cases hl
  |cons a r=>
   rename_i v o' vs os f g
   by_cases e:x=k
   · have h1:zaR (x::ks) (o'::os) k=some o':=by unfold zaR;simp[e]
     rw[h1]at h
     cases h
     exact⟨v,f,by unfold Yd;simp[e],a,List.sublist_append_left _ _⟩
   · have h1:zaR (x::ks) (o'::os) k=zaR ks os k:=by unfold zaR;simp[e]
     rw[h1]at h
     obtain⟨u,fq,h2,h3,h4⟩:=ih (Nat.succ.inj hl) r h
     exact⟨u,fq,by unfold Yd at h2 ⊢;simpa[e]using h2,h3,h4.trans (List.sublist_append_right _ _)⟩
def zih(i j l k:Nat):SF:=λas=>(dtO as[i]?).bind λa=>(lfS as[j]?).bind λb=>(lfS as[l]?).bind λc=>(lfS as[k]?).bind λe=>(zdx b.2).bind λkc=>(zdx c.2).bind λkp=>(zaR a.1 a.2 kp).bind λo=>(lsO o).bind λes=>
 if a.1.length<sizeLine/\zhh a.1 kc=false/\es.length<sizeLine/\es.all O.isLf=true then some (.nx (as.set i (some (.nd (.dt (a.1++[kc])) (a.2++[.nd .ls (es++[.lf e.1 e.2])])))))else none
section
variable{X:Cx}{kd:KD}
theorem znI{i j l k:Nat}{xi xj xl xk:Str}{p1 p2 p3 p4 p5 p6 p7 p8 pos pos':Pos}(hu:X.A.units+1<cLine)(h1:PE X (.Name xi p1) (Xy i))(h2:PE X (.Name xj p2) (Xy j))(h3:PE X (.Name xi p3) (Xy i))(h4:PE X (.Name xl p4) (Xy l))(h5:PE X (.Name xk p5) (Xy k))
 (hs:swapsWith (.BinOp (.Subscript (.Name xi p3) (.Name xl p4) p6) .Add (.List [.Name xk p5] p7) p8) (some (.Subscript (.Name xi p1) (.Name xj p2) pos')) pos.line X.env=pure false) (hn:zoh (.Name xl p4)):
 ASt X kd (.Assign [.Subscript (.Name xi p1) (.Name xj p2) pos'] (.BinOp (.Subscript (.Name xi p3) (.Name xl p4) p6) .Add (.List [.Name xk p5] p7) p8) pos) (zih i j l k):=by
 with_unfolding_all exact(Zi (zoz hu h1 h2 (zmk zkw (zjV hu h3 h4 hn) (zlw (Xc h5 zaQ (zcd rfl)))) hs) λD σ H h=>by
  obtain⟨F,B,ad,as,o,R,e,q⟩:=h
  obtain⟨⟨ks,os⟩,g1,e⟩:=bS_ (show(dtO as[i]?).bind _=_ from e)
  obtain⟨⟨sj,dj⟩,g2,e⟩:=bS_ e
  obtain⟨⟨sl,dl⟩,g3,e⟩:=bS_ e
  obtain⟨⟨sk,dk⟩,g4,e⟩:=bS_ e
  obtain⟨kc,g5,e⟩:=bS_ e
  obtain⟨kp,g6,e⟩:=bS_ e
  obtain⟨oo,g7,e⟩:=bS_ e
  obtain⟨es,g8,e⟩:=bS_ e
  obtain⟨⟨z1,z2,z3,z4⟩,e⟩:=yg e
  cases e
  have g1:=zmN g1
  have g2:=zgE g2
  have g3:=zgE g3
  have g4:=zgE g4
  cases zqH g8
  obtain⟨vi,si,ri⟩:=R.sl i _ g1
  obtain⟨vj,tj,rj⟩:=R.sl j _ g2
  obtain⟨vl,tl,rl⟩:=R.sl l _ g3
  obtain⟨vk,tk,rk⟩:=R.sl k _ g4
  generalize hfp:ad i=fp0 at ri
  generalize ad j=fj at rj
  generalize ad l=fl at rl
  generalize ad k=fk at rk
  cases rj with
  |lf pj=>
  cases rl with
  |lf pl=>
  cases rk with
  |lf pk=>
  cases ri with
  |dt hH hl ro=>
   rename_i p vs fp
   obtain⟨bc,rfl,hbc⟩:=zal pj.vw g5
   obtain⟨bp,rfl,hbp⟩:=zal pl.vw g6
   obtain⟨v,fq,hv,rv,hsub⟩:=zjH hl ro g7
   cases rv with
   |ls hL rw'=>
    rename_i L ws fe
    have wl:ws.length=es.length:=zbG rw'
    refine⟨_,si,_,tl,p,_,rfl,.inr ⟨_,kp,bp,.inl hH,rfl,hbp,hv.symm⟩,_,tk,by show 1<=_;rw[sizeLine_eq];decide,λq1 hq1=>⟨L,q1,ws,[vk],rfl,rfl,.inl (.inl (by rw[zV (yM hL hq1)];exact hL)),.inl (.inl yC),by show ws.length+1<=_;omega,λq2 hq2=>?_⟩⟩
    have n1:q2≠q1:=λe=>by rw[e,yC]at hq2;cases hq2
    have hq2':H q2=none:=by rw[zV n1]at hq2;exact hq2
    have kp':∀b u,H b=some u->upd (upd H q1 (.lst [vk])) q2 (.lst (ws++[vk])) b=some u:=λb u hb=>by
     rw[zV (yM hb hq2'),zV (yM hb hq1)];exact hb
    obtain⟨R2,gr2⟩:=R.news (T':=[q2]) (by simp) (λa m=>by rw[zzO.mp m];exact hq2') kp' (λa m=>by rw[zzO.mp m,yC];simp)
    refine⟨_,si,_,tj,p,_,rfl,.inr ⟨_,kc,bc,kp' _ _ hH,rfl,kp' _ _ hbc,by rw[List.length_zip,hl,Nat.min_self,<-hl];exact z1,rfl⟩, ?_⟩
    have pin:p ∈ ad i:=by rw[hfp];exact zzC
    have nd:=R.nd i
    rw[hfp]at nd
    have fpH:∀a ∈ fp,H a≠none:=λa m=>(R.gtr a (.inr ⟨i,by rw[hfp];exact zzA _ m⟩)).1
    rw[zmK hl,show zkv ks kc=ks++[kc] by unfold zkv;rw[z2];rfl,show zkl ks vs kc (V.ref q2)=vs++[V.ref q2] by unfold zkl;rw[z2];rfl]
    obtain⟨R4,g4'⟩:=R2.mut (fo:=[]) (n:=.nd (.dt (ks++[kc])) (os++[.nd .ls (es++[.lf sk dk])])) (u:=.dT ((ks++[kc]).zip (vs++[V.ref q2]))) (zzD.mp g1).1 hfp si (fp':=fp++[q2]) (λa m=>by rw[zyB]at m;exact m) (by
     rw[zyB]
     refine zxA.mpr ⟨(zzT.mp nd).2,by simp,λa ma b mb e=>?_⟩
     rw[zzO.mp mb]at e
     subst e
     exact fpH a ma hq2') (by rw[kp' _ _ hH];simp) λH' G' hl' gr kk=>by
     have g0:=gr2.trans gr
     have e1:∀a ∈ fp,∀w,H a=some w->H' a=some w:=λa m w hw=>kk a (zzM _ m) w (kp' a w hw)
     have r1:vU X.K kd F B G' H' vs os fp:=vU.grow g0 e1 ro
     have r2:vU X.K kd F B G' H' ws es fe:=vU.grow g0 (λa m=>e1 a (hsub.mem (zzA _ m))) rw'
     have fe0:fe=[]:=ziO rw' z4
     subst fe0
     have e3:H' q2=some (.lst (ws++[vk])):=kk q2 (zzI _ (by simp)) _ yC
     have r3:vU X.K kd F B G' H' (ws++[vk]) (es++[.lf sk dk]) []:=by
      have:=r2.append (RoL.one (RoS.grow (fp:=[]) g0 (λ_ m=>nomatch m) (show RoS X.K kd F B (Gw [] ad) H vk (.lf sk dk) []from .lf pk)))
      rw[zyB]at this;exact this
     have r4:vU X.K kd F B G' H' (vs++[V.ref q2]) (os++[.nd .ls (es++[.lf sk dk])]) (fp++[q2]):=by
      have:=r1.append (RoL.one (show RoS X.K kd F B G' H' (V.ref q2) (.nd .ls (es++[.lf sk dk])) [q2]from .ls e3 r3))
      exact this
     exact .dt hl' (by rw[zzG,zzG,hl];rfl) r4
    exact q σ _ _ R4 (gr2.trans g4'))
end
section
variable{K:zC}{kd:KD}{F B:Addr->Prop}{T:List Addr}{ad:Ad}{as:AS}{σ:St}{H:Hp}{i:Nat}{o:O}{v:V}
theorem zfZ{a:Addr}:Gw (ad i) (Yc ad i []) a ↔ Gw [] ad a:=by
 constructor
 · rintro(z|⟨j,z⟩)
   · exact .inr ⟨i,z⟩
   · by_cases e:j=i
     · subst e;rw[yj]at z;cases z
     · rw[yp e]at z;exact .inr ⟨j,z⟩
 · rintro(z|⟨j,z⟩)
   · cases z
   · by_cases e:j=i
     · subst e;exact .inl z
     · exact .inr ⟨j,by rw[yp e];exact z⟩
theorem Rel.mv(R:Rel K kd F B [] ad as σ H)(h:as[i]? = some (some o)):
 Rel K kd F B (ad i) (Yc ad i []) (as.set i none) σ H/\∃v,σ[i]? = some (some v)/\RoS K kd F B (Gw (ad i) (Yc ad i [])) H v o (ad i):=by
 have hi:i<as.length:=(zzD.mp h).1
 obtain⟨v,hv,ro⟩:=R.sl i _ h
 refine⟨⟨by rw[zzR];exact R.len,λj hj=>?_,λj=>?_,λj k a h1 h2=>?_,R.nd i,λj a h1 h2=>?_,R.ftr,λa h1=>?_,λa h1=>R.gtr a (zfZ.mp h1),λj s e=>?_⟩,v,hv,ro.less λa z=>zfZ.mp z⟩
 · rw[zzR]at hj
   rw[yp (by omega)];exact R.out j hj
 · by_cases e:j=i
   · subst e;rw[yj];exact zyG
   · rw[yp e];exact R.nd j
 · by_cases e:j=i
   · subst e;rw[yj]at h1;cases h1
   · rw[yp e]at h1
     by_cases e':k=i
     · subst e';rw[yj]at h2;cases h2
     · rw[yp e']at h2;exact R.inj j k a h1 h2
 · by_cases e:j=i
   · subst e;rw[yj]at h1;cases h1
   · rw[yp e]at h1
     exact e (R.inj j i a h1 h2)
 · obtain⟨b1,b2,b3⟩:=R.btr a h1
   exact⟨b1,b2,λz=>b3 (zfZ.mp z)⟩
 · by_cases q:j=i
   · subst q
     rw[zyH hi]at e
     cases e
     rw[yj];exact(rfl:([]:List Addr)=[])
   · rw[zzV (Ne.symm q)]at e
     rw[yp q]
     have:=R.sl j s e
     cases s with
     |none=>exact this
     |some o'=>
      obtain⟨w,hw,rw'⟩:=this
      exact⟨w,hw,rw'.less λa z=>zfZ.mp z⟩
theorem Rel.subT{T':List Addr}(R:Rel K kd F B T ad as σ H)(hn:T'.Nodup)(hs:∀a ∈ T',a ∈ T):Rel K kd F B T' ad as σ H:=
 have g:∀a,Gw T' ad a->Gw T ad a:=λa z=>z.imp (hs a) id
 ⟨R.len,R.out,R.nd,R.inj,hn,λi a m z=>R.dis i a m (hs a z),R.ftr,λa z=>let⟨h1,h2,h3⟩:=R.btr a z;⟨h1,h2,λy=>h3 (g a y)⟩,λa z=>R.gtr a (g a z),λi s e=>(R.sl i s e).less g⟩
end
section
variable{X:Cx}{kd:KD}{a b:Expr}{fk fv:EF}{pos:Pos}
def owO:RV->Option O
 | .ow o=>some o
 | .bo _=>none
theorem zns{r:RV}{o:O}(h:owO r=some o):r = .ow o:=by
 cases r with
 |ow o'=>cases h;rfl
 |bo i=>cases h
def zdL(fk fv:EF):EF:=λas=>(fk as).bind λp=>(fv p.2).bind λq=>(owO p.1).bind λko=>(owO q.1).bind λvo=>(zdx ko.toD).bind λk=>some (.ow (.nd (.dt [k]) [vo]),q.2)
theorem zkM(hu:X.A.units+1<cLine)(ha:AE X kd a fk)(hb:AE X kd b fv):AE X kd (.Dict [some a] [b] pos) (zdL fk fv):=by with_unfolding_all exact(xU (zkL hu ha hb) λσ H Q h=>by
 obtain⟨F,B,ad,as,r,as',R,e,q⟩:=h
 obtain⟨⟨p1,as1⟩,h1,e⟩:=bS_ (show(fk as).bind _=_ from e)
 obtain⟨⟨p2,as2⟩,h2,e⟩:=bS_ e
 obtain⟨ko,e1,e⟩:=bS_ e
 obtain⟨vo,e2,e⟩:=bS_ e
 obtain⟨k,hk,e⟩:=bS_ e
 cases e
 cases zns e1
 cases zns e2
 intro p hp
 have kp:∀b o,H b=some o->upd H p (.dT []) b=some o:=λb o hb=>by rw[zV (yM hb hp)];exact hb
 obtain⟨R2,g2⟩:=R.news (T':=[p]) (by simp) (λa m=>by rw[zzO.mp m];exact hp) kp (λa m=>by rw[zzO.mp m,yC];simp)
 refine Xn R2.hide h1 λv ad1 H1 R1 rv1 g1=>⟨F,_,ad1,as1,_,_,R1,h2,λu T3 ad3 H3 R3 rv2 g3'=>?_⟩
 have g3:=g1.trans g3'
 have np:¬Gw [] ad p:=λz=>(R.gtr p z).1 hp
 have hp3:H3 p=some (.dT []):=g3.keep p _ yC np
 have rk:=zeE (show RoS X.K kd F _ (Gw [] ad1) H1 v ko.frz []from rv1)
 obtain⟨bk,rfl,hbk⟩:=zal (Rp.grow g3' rk).vw hk
 have rl:vU X.K kd F _ (Gw T3 ad3) H3 [u] [vo] T3:=RoL.one rv2
 have Ru:=R3.unhide (T1:=[p]) (T2:=T3) (by simp) (λa m z=>by rw[zzO.mp m]at z;exact(R.btr p z).1 hp)
 have rlu:vU X.K kd F B (Gw ([p]++T3) ad3) H3 [u] [vo] T3:=vU.lv (zae (T1:=[p]) (T2:=T3)) rl
 refine⟨hp3,k,bk,rfl,hbk, ?_⟩
 have nd:p ∉ T3:=(zzT.mp Ru.tnd).1
 obtain⟨R4,g4⟩:=Ru.wrT (u:=.dT [(k,u)]) (show p ∈ [p]++T3 by simp)
 refine q _ ([p]++T3) ad3 _ R4 (.dt (ks:=[k]) (vs:=[u]) yC rfl (vU.grow g4 (λa m w hw=>by rw[zV (λe=>nd (by rw[<-e];exact m))];exact hw) rlu)) ((g2.trans ⟨λb u e n=>g3.keep b u e λz=>n (Gw.drop b z),λb z=>?_⟩).trans g4)
 rcases z with z|z
 · rcases zzJ.mp z with z|z
   · exact .inl (.inl z)
   · exact(g3.own b (.inl z)).elim (λy=>.inl (Gw.drop b y)) .inr
 · exact(g3.own b (.inr z)).elim (λy=>.inl (Gw.drop b y)) .inr)
def zkP(i l:Nat):EF:=λas=>(dtO as[i]?).bind λa=>(lfS as[l]?).bind λc=>(zdx c.2).bind λk=>(zaR a.1 a.2 k).bind λo=>some (.ow o,as.set i none)
theorem zqt{i l:Nat}{xi xl:Str}{p1 p2:Pos}(hu:X.A.units+1<cLine)(h1:PE X (.Name xi p1) (Xy i))(h2:PE X (.Name xl p2) (Xy l))(hn:zoh (.Name xl p2)):AE X kd (.Subscript (.Name xi p1) (.Name xl p2) pos) (zkP i l):=by
 with_unfolding_all exact(xU (zjV hu h1 h2 hn) λσ H Q h=>by
  obtain⟨F,B,ad,as,r,as',R,e,q⟩:=h
  obtain⟨⟨ks,os⟩,g1,e⟩:=bS_ (show(dtO as[i]?).bind _=_ from e)
  obtain⟨⟨sl,dl⟩,g3,e⟩:=bS_ e
  obtain⟨kp,g6,e⟩:=bS_ e
  obtain⟨oo,g7,e⟩:=bS_ e
  cases e
  have g1:=zmN g1
  have g3:=zgE g3
  obtain⟨vi,si,ri⟩:=R.sl i _ g1
  obtain⟨vl,tl,rl⟩:=R.sl l _ g3
  obtain⟨R2,_⟩:=R.mv g1
  have nd:=R.nd i
  generalize hfp:ad i=fp0 at ri
  generalize ad l=fl at rl
  cases rl with
  |lf pl=>
  cases ri with
  |dt hH hl ro=>
   rename_i p vs fp
   obtain⟨bp,rfl,hbp⟩:=zal pl.vw g6
   obtain⟨v,fq,hv,rv,hsub⟩:=zjH hl ro g7
   rw[hfp]at R2 nd
   have hin:∀a ∈ fq,a ∈ p::fp:=λa m=>zzA _ (hsub.mem m)
   have gs:∀a,Gw fq (Yc ad i []) a->Gw [] ad a:=λa z=>by
    rcases z with z|⟨j,z⟩
    · exact .inr ⟨i,by rw[hfp];exact hin a z⟩
    · by_cases e:j=i
      · subst e;rw[yj]at z;cases z
      · rw[yp e]at z;exact .inr ⟨j,z⟩
   refine⟨_,si,_,tl,p,v,rfl,.inr ⟨_,kp,bp,.inl hH,rfl,hbp,hv.symm⟩,q v fq (Yc ad i []) H (R2.subT ((zzT.mp nd).2.sublist hsub) hin) ?_ (Grow.less gs)⟩
   exact(show RoS X.K kd F B (Gw [] ad) H v oo fq from rv).less gs)
def tpO:Option (Option O)->Option (List O)
 |some (some (.nd .tp [_,.nd .ls es,_]))=>some es
 |_=>none
theorem zlP{a:Option (Option O)}{es:List O}(h:tpO a=some es):∃x y,a=some (some (.nd .tp [x,.nd .ls es,y])):=by
 match a,h with
 |some (some (.nd .tp [x,.nd .ls es',y])),h=>cases h;exact⟨x,y,rfl⟩
def zjS(i:Nat)(fr:DF):SF:=λas=>(tpO as[i]?).bind λ_=>(fr as).bind λp=>(tpO p.2[i]?).bind λes=>if es.length<sizeLine/\p.1.length=1 then some (.nx (p.2.set i none))else none
theorem ziq{K:zC}{F B G:Addr->Prop}{H:Hp}{v:V}{x y:O}{es:List O}{fp:List Addr}(h:RoS K kd F B G H v (.nd .tp [x,.nd .ls es,y]) fp):∃p vs L ws,v = .ref p/\¬Lv F B G true p/\H p=some (.tup vs)/\vs[1]? = some (.ref L)/\vs.length=3/\H L=some (.lst ws)/\L ∈ fp/\ws.length=es.length:=by
 cases h with
 |tp n hc rl=>
  rename_i p vs
  cases rl with
  |cons a1 r1=>
   cases r1 with
   |cons a2 r2=>
    cases r2 with
    |cons a3 r3=>
     cases r3
     cases a2 with
     |ls hL rw'=>exact⟨p,_,_,_,rfl,n,hc,rfl,rfl,hL,by simp,zbG rw'⟩
theorem zou{i:Nat}{xi:Str}{j:Nat}{p1 p2 p3 apos cpos pos':Pos}{e:Expr}{fr:DF}(h1:PE X (.Name xi p1) (Xy i))(h2:PE X (.Constant (.int 1) j p2) (tC (.int 1)))(hp:Yv (.Constant (.int 1) j p2))(ha:AD X kd [e] fr)
 (hbase:attributeBase (.Subscript (.Name xi p1) (.Constant (.int 1) j p2) p3) "append" X.env (eval (.Subscript (.Name xi p1) (.Constant (.int 1) j p2) p3) X.env)=eval (.Subscript (.Name xi p1) (.Constant (.int 1) j p2) p3) X.env)
 (hfew:((backTo cpos (starEach [e] X.env)).all (λx=>!x.1)&&(backToKw cpos (keywordEach [] X.env)).all (λx=>x.1.isSome)
  && decide (([e]:List Expr).length+([]:List Keyword).length+(if([]:List Keyword).isEmpty then 0 else 1)<30))=true)
 (hline:(apos.endLine==cpos.line)=true) (hs:starEach [e] X.env=(false,eval e X.env)::starEach [] X.env) (hplain:(backTo cpos (starEach [] X.env)).any (·.1)=false)
 (hsw:swapsWith (.Call (.Attribute (.Subscript (.Name xi p1) (.Constant (.int 1) j p2) p3) "append" apos) [e] [] cpos) none pos'.line X.env=pure false):
 ASt X kd (.Expr (.Call (.Attribute (.Subscript (.Name xi p1) (.Constant (.int 1) j p2) p3) "append" apos) [e] [] cpos) pos') (zjS i fr):=by
 with_unfolding_all exact(Zi (zjX (zpw PySem.F.plainAttrs_list PySem.F.slot_list_append PySem.F.type_list_append xm (zer zjo h1 h2 hp) ha hbase hfew hline hs hplain) hsw) λD σ H h=>by
  obtain⟨F,B,ad,as,o,R,e,q⟩:=h
  obtain⟨es0,g0,e⟩:=bS_ (show(tpO as[i]?).bind _=_ from e)
  obtain⟨⟨os1,as1⟩,g1,e⟩:=bS_ e
  obtain⟨es1,g2,e⟩:=bS_ e
  obtain⟨⟨z1,z2⟩,e⟩:=yg e
  cases e
  obtain⟨x0,y0,g0⟩:=zlP g0
  obtain⟨x1,y1,g2⟩:=zlP g2
  obtain⟨v0,s0,r0⟩:=R.sl i _ g0
  obtain⟨p,vs,L,ws,rfl,nlv,hc,hv1,_,hL,hLm,_⟩:=ziq r0
  refine⟨_,s0,p,vs,1,.ref L,rfl,rfl,.inl (.inl hc),Yu (j:=1) hv1,.inl ⟨rfl,ws,.inl (.inl hL)⟩,F,B,ad,as,os1,as1,R,g1,λws1 T1 ad1 H1 R1 ro1 gr1=>?_⟩
  have R2:=R1.drop
  obtain⟨v2,s2,r2⟩:=R2.sl i _ g2
  rw[s0]at s2
  cases s2
  obtain⟨p',vs',L',ws',ep,_,hc',hv1',_,hL',hLm',hlen⟩:=ziq r2
  cases ep
  have hc1:H1 p=some (.tup vs):=gr1.keep p _ hc λz=>nlv (.inr z)
  rw[hc1]at hc'
  cases hc'
  rw[hv1]at hv1'
  cases hv1'
  have l1:ws1.length=1:=by rw[zbG ro1];exact z2
  obtain⟨w1,rfl⟩:∃w,ws1=[w]:=by
   match ws1,l1 with
   | [w],_=>exact⟨w,rfl⟩
  refine⟨L,ws',w1,rfl,rfl,hL',by rw[hlen];exact z1, ?_⟩
  obtain⟨R3,_⟩:=R2.mv g2
  obtain⟨R4,g4⟩:=R3.eat (H':=upd H1 L (.lst (ws'++[w1]))) λc u hcu hn=>by rw[zV (λe=>hn (by rw[e];exact hLm'))];exact hcu
  refine q σ _ _ R4 ((gr1.trans (Grow.less Gw.drop)).trans ⟨λb u hb n=>g4.keep b u hb λz=>n (zfZ.mp z),λb z=>?_⟩)
  exact(g4.own b z).imp (λy=>zfZ.mp y) id)
end
def fFz(f:EF):EF:=λas=>(f as).bind λp=>some (p.1.frz,p.2)
theorem zlZ{X:Cx}{kd:KD}{e:Expr}{fa:EF}(h:AE X kd e fa):AE X kd e (fFz fa):=by with_unfolding_all exact(xU h λσ H Q q=>by
 obtain⟨F,B,ad,as,r,as',R,e,k⟩:=q
 obtain⟨⟨p,as1⟩,h1,e⟩:=bS_ (show(fa as).bind _=_ from e)
 cases e
 exact⟨F,B,ad,as,p,as1,R,h1,λv T' ad' H' R' rv g=>k v [] ad' H' R'.drop (v7.drop R' rv) (g.trans (Grow.less Gw.drop))⟩)
theorem fzW{f:EF}{as:AS}{x:D}(h:WE f as x):WD (fFz f) as true x:=by
 obtain⟨o,h,h1,h2⟩:=h
 unfold WD fFz
 rw[h,<-h1,<-h2];rfl
end PF
end
section
namespace G51
open PySem PySem.Spec PyProof.Rows L2 PF
abbrev zA:EF:=fV 1
abbrev yt:EF:=fC (.int 0)
abbrev zx:EF:=fV 0
abbrev yX:EF:=fC (.int 2)
abbrev zZ:EF:=fC (.int 1)
abbrev zL:EF:=fV 2
abbrev ZS:EF:=fC (.int 4)
abbrev Xz:GF:=gN 4
abbrev yK:EF:=fV 4
abbrev yD:EF:=fV 3
abbrev yO:GF:=gN 0
abbrev zF:=zam .Add
abbrev vC:EF:=fV 5
abbrev zbm:EF:=fC (.int 5)
abbrev xu:EF:=fV 6
abbrev vh:EF:=fV 7
abbrev wu:EF:=fV 11
abbrev zG:=zam .Mod
abbrev zN:=zam .Mult
abbrev WN:EF:=fC (.int 8)
abbrev zW:=zam .FloorDiv
abbrev Zb:EF:=fC (.int 3)
abbrev Wf:=zam .Sub
abbrev zbj:EF:=fC (.int 6)
abbrev Y5:AF:=aC (fV 3) aN
abbrev Y0:AF:=aC (fV 0) aN
abbrev ZG:AF:=aC (fV 1) aN
abbrev Xw:AF:=aC (fV 2) aN
abbrev zdv:AF:=aC (fV 5) aN
abbrev zto:AF:=aC (fV 7) aN
abbrev Z9:List Str:=["algebra","join","places","found","name","rows"]
theorem vK:FnScope Z9 ["algebra"] (zj vG):=fsc
theorem zel:(["x","join"]:List Str).Nodup:=by decide +kernel
theorem zeM:(["x","join"]:List Str).Nodup:=by decide +kernel
theorem zee:(["row","x"]:List Str).Nodup:=by decide +kernel
theorem VR:(["c","row","name"]:List Str).Nodup:=by decide +kernel
def zdi:SF:=
 (zE (zO true 1 (f2 zx yX ixP))
  (zE (zO true 2 (fP (aC (f2 zx yt ixP) aN) lrP))
  (zE (zO false 3 (f2 (zR (Zh zL) [none,some 1] yO yI (yw (dC (yw (dC (fC (.str "left")) (dC zx dN))) (dC (f2 zA zx ixP) dN)))) (zR (Zh zL) [none,some 1] yO yI (yw (dC (yw (dC (fC (.str "right")) (dC zx dN))) (dC (zR (Zh zA) [none,some 0] yO yI (f2 zx zA ixP)) dN)))) zF))
  (zE (v4 (Wo (f2 zx ZS ixP)) (gT 2 (gsC Xz (gsC (gN 5) gsN))) (yQ (xQ 3 (dC (zR (znA vC) [none,none,some 4] (gT 2 (gsC yO (gsC (gN 1) gsN))) yI (yw (dC (yw (dC (fC (.str "deed")) (dC zL (dC zx dN)))) (dC zA dN)))) dN) zlj)))
  (yP yD)))))
def Ze:Fn:=fnR 6 1 zdi
abbrev VD:List Str:=["algebra","one","other","name","values"]
theorem Yj:FnScope VD ["algebra","one","other"] (zj Zn):=fsc
def V1:SF:=
 (zE (v4 (Wo (f2 zx zbm ixP)) (gT 2 (gsC (gN 3) (gsC Xz gsN))) (sIf (fT (f2 (f2 zA yK (zQ .In)) (f2 zL yK (zQ .In)) (zQ .NotEq))) (yP yD) sNx))
  (yP (fC .non)))
def xN:Fn:=fnR 5 3 V1
abbrev zbx:List Str:=["algebra","one","other","steps","pairs","frames","at","pair","name","step","row","came"]
theorem xf:FnScope zbx ["algebra","one","other"] (zj Yx):=fsc
def zbI:SF:=
 (zE (zO true 3 (zK Y0 Ze))
  (zE (zO false 4 (yW (dC (yw (dC zA (dC zL dN))) dN)))
  (zE (zO false 5 (zdL (yw (dC zA (dC zL dN))) (yW dN)))
  (zE (zO true 6 yt)
  (zE (whL (fT (f2 xu (fP (aC yK aN) Yk) (zQ .Lt))) (zE (zO true 7 (f2 yK xu ixP))
  (zE (zO true 8 (zK (aC zx (aC (f2 vh yt ixP) (aC (f2 vh zZ ixP) aN))) xN))
  (zE (sIf (fT (f2 (fV 8) (fC .non) (zQ .IsNot))) (yP (yw (dC (fC (.str "frame")) (dC (zkP 5 7) (dC (fV 8) dN))))) sNx)
  (zE (v4 (Wo yD) (gT 2 (gsC (gN 9) (gsC (gN 10) gsN))) (zE (zO true 11 (yw (dC (f2 (fV 10) (f2 vh yt ixP) ixP) (dC (f2 (fV 10) (f2 vh zZ ixP) ixP) dN))))
  (sIf (fT (f2 wu vC (zQ .NotIn))) (zE (zih 5 11 7 9)
  (yQ (xQ 4 (dC wu dN) xY))) sNx)))
  (zlo 6 1))))) 10000)
  (yP (yw (dC (fC (.str "alike")) dN))))))))
def xg:Fn:=fnR 12 3 zbI
abbrev zaC:List Str:=["_law_script","_law_k"]
theorem zeN:FnScope zaC ["_law_script","_law_k"] (zj Z3):=fsc
def zaw:SF:=
 (zE (sIf (fT (f2 zA (fP Y0 Yk) (zQ .Lt))) (yP (f2 zx zA ixP)) sNx)
  (yP yt))
def yH:Fn:=fnR 2 2 zaw
abbrev zbM:List Str:=["_law_cell","_law_many","_law_found","_law_number","_law_k"]
theorem vZ:FnScope zbM ["_law_cell","_law_many"] (zj Yw):=fsc
def zby:SF:=
 (zE (zO false 2 (yW dN))
  (zE (zO true 3 (f2 (f2 zx (fC (.int 2147483647)) zG) (fC (.int 48271)) zF))
  (zE (v4 (yU (aC (f2 zA zZ zF) aN) yV) Xz (zE (zO true 3 (f2 (f2 (f2 (f2 yD yD zN) (f2 (fC (.int 48271)) yD zN) zF) yK zF) (fC (.int 2147483647)) zG))
  (yQ (xQ 2 (dC (f2 (f2 (f2 yD (fC (.int 40692)) zN) (f2 (fC (.int 7)) yK zN) zF) (fC (.int 2147483399)) zG) dN) xY))))
  (yP (fSl zL (oS zZ) oN slP)))))
def zX:Fn:=fnR 5 2 zby
abbrev Vp:List Str:=["_law_cell","_law_many","_law_letters","_law_xs","_law_base","_law_at","_law_found","_law_k"]
theorem w5:FnScope Vp ["_law_cell","_law_many"] (zj Yh):=fsc
theorem zeF:(["_law_x","_law_letters"]:List Str).Nodup:=by decide +kernel
def zdj:SF:=
 (zE (zO true 2 (fC (.str "abcdefghijklmnopqrstuvwxyz")))
  (zE (zO true 3 (zK (aC zx (aC (fC (.int 9)) aN)) zX))
  (zE (zO true 4 (Y6 .str (fC (.str "")) (aC (zR (Zh (fSl yD oN (oS (f2 zZ (f2 zx WN zG) zF)) slP)) [none,some 2] yO yI (f2 zA (f2 zx (fC (.int 26)) zG) ixP)) aN) zjU))
  (zE (zO true 5 (f2 (f2 zx WN zW) (fP (aC yK aN) Yk) zG))
  (zE (zO false 6 (yW dN))
  (zE (v4 (yU ZG yV) (gN 7) (yQ (xQ 6 (dC (f2 (f2 (fSl yK oN (oS vC) slS) (f2 zL (f2 (f2 (f2 yD WN ixP) (f2 Zb vh zN) zF) (fC (.int 26)) zG) ixP) zF) (fSl yK (oS (f2 vC zZ zF)) oN slS) zF) dN) xY)))
  (yP xu)))))))
def Z4:Fn:=fnR 8 2 zdj
abbrev zat:List Str:=["_law_one","_law_other"]
theorem WP:FnScope zat ["_law_one","_law_other"] (zj Z0):=fsc
def zao:SF:=
 (zE (whL (fT (f2 zA yt (zQ .Gt))) (zlv 0 1 (dC zA (dC (f2 zx zA zG) dN))) 10000)
  (yP zx))
def v6:Fn:=fnR 2 2 zao
abbrev zaS:List Str:=["_law_n","_law_m","_law_xs","_law_step_here","_law_rows_here","_law_c"]
theorem Xb:FnScope zaS ["_law_n","_law_m","_law_xs"] (zj YK):=fsc
theorem zft:(["_law_a","_law_n","_law_xs","_law_c","_law_step_here"]:List Str).Nodup:=by decide +kernel
def zeb:SF:=
 (zE (zO true 3 (f2 zx (zK (aC zx ZG) v6) zW))
  (zE (zO false 4 (yW dN))
  (zE (v4 (yU ZG yV) (gN 5) (yQ (xQ 4 (dC (zR (yU Y0 yV) [none,some 0,some 2,some 5,some 3] yO yI (f2 (f2 (f2 zx (f2 zL yt ixP) zN) (f2 (f2 yD yK zN) (f2 zL zZ ixP) zN) zF) zA zG)) dN) xY)))
  (yP yK))))
def YJ:Fn:=fnR 6 3 zeb
abbrev YB:List Str:=["_law_n","_law_m","_law_xs","_law_row"]
theorem zaA:FnScope YB ["_law_n","_law_m","_law_xs"] (zj vP):=fsc
theorem zdu:(["_law_k","_law_n","_law_xs"]:List Str).Nodup:=by decide +kernel
theorem zdw:(["_law_c","_law_row"]:List Str).Nodup:=by decide +kernel
def zbS:SF:=
 (zE (zO false 3 (fP (aC (f2 (yW (dC yt dN)) (zR (yU (aC (f2 zx zZ Wf) aN) yV) [none,some 0,some 2] yO yI (f2 (f2 zL zx ixP) zA zG)) zF) aN) zmB))
  (zE (zme 3 (xC 0) (xC 0))
  (yP (zR (yU ZG yV) [none,some 3] yO yI (fP ZG lstP)))))
def ZD:Fn:=fnR 4 3 zbS
abbrev X3:List Str:=["_law_n","_law_m","_law_xs","_law_row"]
theorem zdn:FnScope X3 ["_law_n","_law_m","_law_xs"] (zj ZX):=fsc
theorem zfv:(["_law_k","_law_xs","_law_n"]:List Str).Nodup:=by decide +kernel
theorem zfy:(["_law_c","_law_row"]:List Str).Nodup:=by decide +kernel
def zdP:SF:=
 (zE (zO true 3 (f2 (yW (dC yt dN)) (zR (yU (aC (f2 zx zZ Wf) aN) yV) [none,some 2,some 0] yO yI (f2 zZ (f2 (f2 zA zx ixP) (f2 zL zZ Wf) zG) zF)) zF))
  (yP (zR (yU ZG yV) [none,some 3] yO yI (fP ZG lstP))))
def YF:Fn:=fnR 4 3 zdP
abbrev vI:List Str:=["_law_kind","_law_n","_law_maps"]
theorem zbC:FnScope vI ["_law_kind","_law_n"] (zj wJ):=fsc
theorem zeS:(["_law_a","_law_n"]:List Str).Nodup:=by decide +kernel
theorem zeD:(["_law_b","_law_n","_law_a"]:List Str).Nodup:=by decide +kernel
theorem zdQ:(["_law_a","_law_n"]:List Str).Nodup:=by decide +kernel
theorem zdX:(["_law_b","_law_a"]:List Str).Nodup:=by decide +kernel
theorem zen:(["_law_a","_law_n"]:List Str).Nodup:=by decide +kernel
theorem zfh:(["_law_b","_law_a"]:List Str).Nodup:=by decide +kernel
theorem zet:(["_law_a","_law_n"]:List Str).Nodup:=by decide +kernel
theorem zfm:(["_law_b","_law_a"]:List Str).Nodup:=by decide +kernel
theorem zeU:(["_law_one","_law_maps"]:List Str).Nodup:=by decide +kernel
theorem zdz:(["_law_two","_law_maps","_law_one"]:List Str).Nodup:=by decide +kernel
def zcH:SF:=
 (zE (sIf (fT (f2 zx yt (zQ .Eq))) (yP (zR (yU ZG yV) [none,some 1] yO yI (zR (yU ZG yV) [none,some 1,some 0] yO yI (f2 (f2 zL zx zF) zA zG)))) sNx)
  (zE (sIf (fT (f2 zx zZ (zQ .Eq))) (yP (zR (yU ZG yV) [none,some 1] yO yI (zR (yU ZG yV) [none,some 0] yO yI (fP (aC zA Y0) zru)))) sNx)
  (zE (sIf (fT (f2 zx yX (zQ .Eq))) (yP (zR (yU ZG yV) [none,some 1] yO yI (zR (yU ZG yV) [none,some 0] yO yI (f2 (yW (dC zx (dC zA dN))) (fP (aC (f2 zx yt (zQ .Eq)) aN) zin) ixP)))) sNx)
  (zE (sIf (fT (f2 zx Zb (zQ .Eq))) (yP (zR (yU ZG yV) [none,some 1] yO yI (zR (yU ZG yV) [none,some 0] yO yI (f2 (yW (dC zA (dC zx dN))) (fP (aC (f2 zA yt (zQ .Eq)) aN) zin) ixP)))) sNx)
  (zE (zO true 2 (yW (dC (yw (dC yt (dC zZ dN))) (dC (yw (dC zZ (dC yt dN))) (dC (yw (dC yt (dC yt dN))) (dC (yw (dC zZ (dC zZ dN))) dN))))))
  (yP (zR (Zh zL) [none,some 2] yO yI (zR (Zh zA) [none,some 1,some 0] yO yI (Y6 .lst zA (aC (yw (dC (f2 zx (f2 zL yt ixP) ixP) (dC (f2 zx (f2 zL zZ ixP) ixP) dN))) aN) Xq)))))))))
def Zc:Fn:=fnR 3 2 zcH
abbrev zaH:List Str:=["_law_kind","_law_n","_law_m","_law_xs"]
theorem zii:FnScope zaH ["_law_kind","_law_n","_law_m","_law_xs"] (zj YM):=fsc
theorem zfs:(["_law_c","_law_xs"]:List Str).Nodup:=by decide +kernel
def zeB:SF:=
 (zE (sIf (fT (f2 zx yt (zQ .Eq))) (yP (zK (aC zA (aC zL Y5)) YJ)) sNx)
  (zE (sIf (fT (f2 zx zZ (zQ .Eq))) (yP (zK (aC zA (aC zL Y5)) ZD)) sNx)
  (zE (sIf (fT (f2 zx ZS (zQ .Lt))) (yP (zK (aC zA (aC zL Y5)) YF)) sNx)
  (yP (zR (yU Xw yV) [none,some 3] yO yI (f2 (yW (dC (yW (dC yt (dC zZ (dC yX (dC Zb dN))))) (dC (yW (dC yt (dC zZ (dC Zb (dC yX dN))))) dN))) (f2 (f2 zA yt ixP) yX zG) ixP))))))
def ZW:Fn:=fnR 4 4 zeB
abbrev Ve:List Str:=["_law_kind","_law_n","_law_m","_law_many","_law_cell","_law_rows_here"]
theorem zbF:FnScope Ve ["_law_kind","_law_n","_law_m","_law_many","_law_cell"] (zj Z8):=fsc
theorem zeY:(["_law_k","_law_kind","_law_n","_law_m","_law_cell"]:List Str).Nodup:=by decide +kernel
def zcS:SF:=
 (zE (zO true 5 (zR (yU Y5 yV) [none,some 0,some 1,some 2,some 4] yO yI (zK (aC zA (aC zL (aC yD (aC (zK (aC (f2 yK (f2 (fC (.int 31)) zx zN) zF) (aC (fC (.int 9)) aN)) zX) aN)))) ZW)))
  (yP (yw (dC zA (dC (zK (aC zx ZG) Zc) (dC vC dN))))))
def ww:Fn:=fnR 6 5 zcS
abbrev Wk:List Str:=["_law_one","_law_other","_law_m","_law_n","_law_by","_law_join","_law_p","_law_here","_law_there","_law_deeds","_law_rows_here","_law_c","_law_made_here","_law_ahead"]
theorem yE:FnScope Wk ["_law_one","_law_other","_law_m"] (zj Zx):=fsc
theorem zdq:(["_law_q","_law_by","_law_there","_law_here"]:List Str).Nodup:=by decide +kernel
def zbq:SF:=
 (zE (zO true 3 (f2 (f2 zx yt ixP) (f2 zA yt ixP) zN))
  (zE (zO true 4 (f2 zA yt ixP))
  (zE (zO false 5 (yW dN))
  (zE (v4 (yU Y5 yV) (gN 6) (zE (zO true 7 (f2 (f2 zx zZ ixP) (f2 xu yK zW) ixP))
  (zE (zO true 8 (f2 (f2 zA zZ ixP) (f2 xu yK zG) ixP))
  (yQ (xQ 5 (dC (zR (yU Y5 yV) [none,some 4,some 8,some 7] yO yI (f2 (f2 (f2 yD (f2 zx zA zW) ixP) zA zN) (f2 zL (f2 zx zA zG) ixP) zF)) dN) xY)))))
  (zE (zO false 9 (yW dN))
  (zE (v4 (zkT (aC (f2 zx yX ixP) (aC (f2 zA yX ixP) aN))) (gT 2 (gsC (gN 7) (gsC (gN 8) gsN))) (zE (zO false 10 (yW dN))
  (zE (v4 (yU Xw yV) (gN 11) (zE (zO false 12 (yW dN))
  (zE (v4 (yU Y5 yV) (gN 6) (zE (zO true 13 (f2 (f2 (f2 vh wu ixP) (f2 xu yK zW) ixP) yK zN))
  (yQ (xQ 12 (dC (f2 (fV 13) (f2 (f2 (fV 8) wu ixP) (f2 xu yK zG) ixP) zF) dN) xY))))
  (yQ (xQ 10 (dC (fV 12) dN) xY)))))
  (yQ (xQ 9 (dC (fV 10) dN) xY)))))
  (yP (yw (dC yD (dC vC (dC (fV 9) dN)))))))))))
def Zj:Fn:=fnR 14 3 zbq
abbrev zeu:List Str:=["_law_cell","_law_m","_law_many","_law_xs","_law_kind","_law_sizes","_law_one","_law_n"]
theorem wX:FnScope zeu ["_law_cell","_law_m","_law_many"] (zj Wq):=fsc
def zef:SF:=
 (zE (zO true 3 (zK (aC zx (aC zbm aN)) zX))
  (zE (zO true 4 (f2 (f2 yD yt ixP) (fC (.int 7)) zG))
  (zE (sIf (fT (f2 yK ZS (zQ .Gt))) (zE (zO true 5 (f2 (yW (dC (yw (dC yX (dC yX dN))) (dC (yw (dC Zb (dC yX dN))) (dC (yw (dC yX (dC Zb dN))) (dC (yw (dC ZS (dC yX dN))) (dC (yw (dC yX (dC ZS dN))) (dC (yw (dC yX (dC yX dN))) dN))))))) (f2 (f2 yD zZ ixP) zbj zG) ixP))
  (zE (zO true 6 (zK (aC (f2 (f2 yD yX ixP) ZS zG) (aC (f2 vC yt ixP) (aC zA (aC zL (aC (f2 yD Zb ixP) aN))))) ww))
  (yP (zK (aC xu (aC (zK (aC (f2 (f2 yD ZS ixP) ZS zG) (aC (f2 vC zZ ixP) (aC zA (aC zL (aC (f2 (f2 yD Zb ixP) (fC (.int 7)) zF) aN))))) ww) ZG)) Zj)))) sNx)
  (zE (zO true 7 (f2 (yW (dC yX (dC Zb (dC ZS (dC zbm (dC Zb (dC ZS (dC zbj (dC WN dN))))))))) (f2 (f2 yD zZ ixP) WN zG) ixP))
  (zE (sIf (W9 (fT (f2 yK yt (zQ .Eq))) (fT (f2 (f2 (f2 yD yX ixP) (fC (.int 9)) zG) yt (zQ .Eq)))) (zO true 7 zZ) sNx)
  (zE (sIf (fT (f2 yK ZS (zQ .Eq))) (zO true 7 ZS) sNx)
  (yP (zK (aC yK (aC vh (aC zA (aC zL (aC (f2 yD Zb ixP) aN))))) ww))))))))
def YG:Fn:=fnR 8 3 zef
abbrev zcT:List Str:=["_law_cell","_law_n","_law_left","_law_found","_law_x"]
theorem Yy:FnScope zcT ["_law_cell","_law_n"] (zj Y9):=fsc
def zdm:SF:=
 (zE (zO false 2 (fP ZG lrP))
  (zE (zO false 3 (yW dN))
  (zE (v4 (Wo (zK (aC zx ZG) zX)) Xz (yQ (xQ 3 (dC (xQ 2 (dC (f2 yK (fP Xw Yk) zG) dN) Va) dN) xY)))
  (yP yD))))
def Yb:Fn:=fnR 5 2 zdm
abbrev WY:List Str:=["_law_cell","_law_n","_law_names_here","_law_signs_here","_law_x","_law_name"]
theorem Yq:FnScope WY ["_law_cell","_law_n","_law_names_here"] (zj Z6):=fsc
theorem zeV:(["_law_v","_law_x"]:List Str).Nodup:=by decide +kernel
def zdk:SF:=
 (zE (zO false 3 (yW dN))
  (zE (v4 (zkT (aC (zK (aC zx (aC (fP Xw Yk) aN)) zX) Xw)) (gT 2 (gsC Xz (gsC (gN 5) gsN))) (yQ (xQ 3 (dC (yw (dC vC (dC (zR (yU ZG yV) [none,some 4] yO (fT (f2 (f2 (f2 zA (f2 (yW (dC zZ (dC yX (dC ZS (dC WN (dC (fC (.int 16)) (dC (fC (.int 32)) (dC (fC (.int 64)) (dC (fC (.int 128)) dN))))))))) zx ixP) zW) yX zG) zZ (zQ .Eq))) zx) dN))) dN) xY)))
  (yP yD)))
def Zd:Fn:=fnR 6 3 zdk
abbrev vX:List Str:=["_law_cell","_law_other","_law_ys","_law_m","_law_many","_law_n","_law_join","_law_deeds","_law_order_here","_law_back","_law_joins_here","_law_names_here","_law_told","_law_name","_law_rows_here","_law_signs_here"]
theorem yf:FnScope vX ["_law_cell","_law_other"] (zj wM):=fsc
theorem zch:(["_law_v","_law_order_here"]:List Str).Nodup:=by decide +kernel
theorem zcr:(["_law_a","_law_order_here","_law_n","_law_join","_law_back"]:List Str).Nodup:=by decide +kernel
theorem zcC:(["_law_b","_law_order_here","_law_join","_law_back","_law_a"]:List Str).Nodup:=by decide +kernel
theorem zcg:(["_law_row","_law_order_here","_law_n","_law_back"]:List Str).Nodup:=by decide +kernel
theorem zcA:(["_law_a","_law_order_here","_law_row","_law_back"]:List Str).Nodup:=by decide +kernel
def zar:SF:=
 (zE (zO true 2 (zK (aC zA (aC zbj aN)) zX))
  (zE (zO true 3 (f2 zZ (f2 (f2 zL yt ixP) zbj zG) zF))
  (zE (sIf (fT (f2 (f2 (f2 (f2 zL yt ixP) zbj zW) yX zG) yt (zQ .Eq))) (zO true 3 (f2 zZ (f2 (f2 (f2 zL yt ixP) (fC (.int 12)) zW) Zb zG) zF)) sNx)
  (zE (zO true 4 (f2 (yW (dC zZ (dC yX (dC yt (dC ZS (dC Zb (dC yX (dC zbj (dC zbm dN))))))))) (f2 (f2 zL zZ ixP) WN zG) ixP))
  (zE (sIf (fT (f2 yK Zb (zQ .Gt))) (zO true 3 (f2 zZ (f2 yD yX zG) zF)) sNx)
  (zE (zjn (zK (aC zx (aC yD (aC yK aN))) YG) (gT 3 (gsC (gN 5) (gsC (gN 6) (gsC (gN 7) gsN)))))
  (zE (zO true 8 (zK (aC (f2 zL yX ixP) zdv) Yb))
  (zE (zO true 9 (zR (yU zdv yV) [none,some 8] yO yI (Y6 .lst zA Y0 Xq)))
  (zE (zO true 10 (zR (yU zdv yV) [none,some 8,some 5,some 6,some 9] yO yI (zR (yU Xw yV) [none,some 1,some 3,some 4,some 0] yO yI (f2 zA (f2 (f2 zL (f2 yD yK ixP) ixP) (f2 yD zx ixP) ixP) ixP))))
  (zE (zO true 11 (zK (aC (f2 zL Zb ixP) (aC (fC (.int 10)) aN)) Z4))
  (zE (zO false 12 (yW dN))
  (zE (v4 (zkT (aC (fSl wu oN (oS zbj) slP) zto)) (gT 2 (gsC (gN 13) (gsC (gN 14) gsN))) (yQ (xQ 12 (dC (yw (dC (fV 13) (dC (zR (Zh (fV 14)) [none,some 8,some 5,some 9] yO yI (zR (yU Xw yV) [none,some 1,some 0,some 3] yO yI (f2 zA (f2 zL (f2 yD zx ixP) ixP) ixP))) dN))) dN) xY)))
  (zE (zO true 15 (zK (aC (f2 zL ZS ixP) (aC vC (aC (fSl wu (oS zbj) (oS (f2 zbj (f2 (yW (dC zZ (dC yX (dC zZ (dC ZS (dC yt (dC yX (dC Zb (dC zZ dN))))))))) (f2 (f2 zL zbm ixP) WN zG) ixP) zF)) slP) aN))) Zd))
  (yP (yw (dC vC (dC yD (dC (fV 10) (dC (f2 (fV 8) yt ixP) (dC (fV 12) (dC (fV 15) dN)))))))))))))))))))))
def vz:Fn:=fnR 16 2 zar
abbrev XX:List Str:=["_law_algebra_here","_law_cell","_law_n","_law_m","_law_join","_law_nothing","_law_deeds","_law_signs_here","_law_xs","_law_joins_here","_law_told","_law_way","_law_rows_here"]
theorem xq:FnScope XX ["_law_algebra_here","_law_cell"] (zj ZP):=fsc
theorem zfz:(["_law_row"]:List Str).Nodup:=by decide +kernel
theorem zau:(["_law_name","_law_rows_here"]:List Str).Nodup:=by decide +kernel
theorem zfw:(["_law_row"]:List Str).Nodup:=by decide +kernel
def zej:SF:=
 (zE (zjn zx (gT 6 (gsC (gN 2) (gsC (gN 3) (gsC Xz (gsC (gN 5) (gsC (gN 6) (gsC (gN 7) gsN))))))))
  (zE (zO true 8 (zK (aC zA (aC WN aN)) zX))
  (zE (zO false 9 (zR (Zh yK) [none] yO yI (fP Y0 lstP)))
  (zE (zO false 10 (zR (Zh xu) [none,none] (gT 2 (gsC yO (gsC (gN 1) gsN))) yI (yw (dC zx (dC (zR (Zh zA) [none] yO yI (fP Y0 lstP)) dN)))))
  (zE (zO true 11 (f2 (f2 (fV 8) yt ixP) zbj zG))
  (zE (sIf (fT (f2 wu yt (zQ .Eq))) (zO true 5 (f2 (f2 (fV 8) zZ ixP) zL zG)) sNx)
  (zE (sIf (zaZ (fT (f2 wu zZ (zQ .Eq))) (fT (f2 wu yX (zQ .Eq)))) (zhW 9 (Vd (xAt 8 (xC 2)) (xV 2)) (Vd (xAt 8 (xC 3)) (xV 2)) (Vd (xAt 8 (xC 4)) (xV 2))) sNx)
  (zE (sIf (W9 (fT (f2 wu yX (zQ .Gt))) (fT (f2 (fV 10) (yW dN) (zQ .NotEq)))) (znd 12 10 (Vd (xAt 8 (xC 5)) (zlu 10)) 1 (Vd (xAt 8 (xC 6)) (xV 3)) (Vd (xAt 8 (xC 7)) (xV 2)) (Vd (xAt 8 (xC 4)) (xV 2))) sNx)
  (yP (yw (dC zL (dC yD (dC (fV 9) (dC vC (dC (fV 10) (dC vh dN))))))))))))))))
def YL:Fn:=fnR 13 2 zej
abbrev zdR:List Str:=["_law_algebra_here","_law_step_here","_law_value","_law_name","_law_rows_here"]
theorem Vu:FnScope zdR ["_law_algebra_here","_law_step_here","_law_value"] (zj Wn):=fsc
def zeh:SF:=
 (zE (sIf (fT (f2 (f2 zA yt ixP) (fC (.str "left")) (zQ .Eq))) (yP (f2 (f2 (f2 zx yX ixP) (f2 zA zZ ixP) ixP) zL ixP)) sNx)
  (zE (sIf (fT (f2 (f2 zA yt ixP) (fC (.str "right")) (zQ .Eq))) (yP (f2 (f2 (f2 zx yX ixP) zL ixP) (f2 zA zZ ixP) ixP)) sNx)
  (zE (v4 (Wo (f2 zx ZS ixP)) (gT 2 (gsC (gN 3) (gsC Xz gsN))) (sIf (fT (f2 yD (f2 zA zZ ixP) (zQ .Eq))) (yP (f2 (f2 yK (f2 zA yX ixP) ixP) zL ixP)) sNx))
  (yP (fC .non)))))
def yr:Fn:=fnR 5 3 zeh
abbrev Vv:List Str:=["_law_algebra_here","_law_found","_law_x","_law_name","_law_rows_here"]
theorem wZ:FnScope Vv ["_law_algebra_here"] (zj Yg):=fsc
theorem zeq:(["_law_c","_law_name"]:List Str).Nodup:=by decide +kernel
def zdh:SF:=
 (zE (zO true 1 (yW dN))
  (zE (v4 (yU (aC (f2 zx yt ixP) aN) yV) (gN 2) (zO true 1 (f2 zA (yW (dC (yw (dC (fC (.str "left")) (dC zL dN))) (dC (yw (dC (fC (.str "right")) (dC zL dN))) dN))) zF)))
  (zE (v4 (Wo (f2 zx ZS ixP)) (gT 2 (gsC (gN 3) (gsC Xz gsN))) (zO true 1 (f2 zA (zR (yU (aC (f2 zx zZ ixP) aN) yV) [none,some 3] yO yI (yw (dC (fC (.str "deed")) (dC zA (dC zx dN))))) zF)))
  (yP zA))))
def wW:Fn:=fnR 5 1 zdh
abbrev zaD:List Str:=["_law_algebra_here","_law_value"]
theorem zij:FnScope zaD ["_law_algebra_here","_law_value"] (zj YX):=fsc
theorem zay:(["_law_name","_law_values","_law_value"]:List Str).Nodup:=by decide +kernel
def zeo:SF:=
 (yP (fP (aC (zR (Zh (f2 zx zbm ixP)) [none,none,some 1] (gT 2 (gsC yO (gsC (gN 1) gsN))) yI (f2 zL zA (zQ .In))) aN) tupP))
def ZQ:Fn:=fnR 2 2 zeo
abbrev YT:List Str:=["_law_keys","_law_known","_law_key"]
theorem Yn:FnScope YT ["_law_keys"] (zj vD):=fsc
theorem zbO:(["_law_key","_law_known"]:List Str).Nodup:=by decide +kernel
def VM:SF:=
 (zE (zO false 1 (yW dN))
  (zE (v4 (Wo zx) (gN 2) (sIf (fT (f2 zL zA (zQ .NotIn))) (yQ (xQ 1 (dC zL dN) xY)) sNx))
  (yP (zR (Zh zx) [none,some 1] yO yI (Y6 .lst zA Y0 Xq)))))
def xJ:Fn:=fnR 3 1 VM
abbrev Ys:List Str:=["_law_algebra_here","_law_steps_here","_law_levels_here","_law_k","_law_last","_law_keys","_law_v"]
theorem wN:FnScope Ys ["_law_algebra_here"] (zj vJ):=fsc
theorem zdr:(["_law_v","_law_algebra_here"]:List Str).Nodup:=by decide +kernel
theorem zdo:(["_law_step_here","_law_last","_law_algebra_here","_law_v"]:List Str).Nodup:=by decide +kernel
def zbk:SF:=
 (zE (zO true 1 (zK Y0 wW))
  (zE (zO false 2 (yW (dC (fFz (zK (aC (zR (yU (aC (f2 zx yt ixP) aN) yV) [none,some 0] yO yI (zK (aC zA Y0) ZQ)) aN) xJ)) dN)))
  (zE (v4 (yU (aC (f2 zx yt ixP) aN) yV) (gN 3) (zE (zO true 4 (f2 zL (f1 zZ zgv) ixP))
  (zE (zO false 5 (yW dN))
  (zE (v4 (yU (aC (f2 zx yt ixP) aN) yV) (gN 6) (yQ (xQ 5 (dC (fFz (f2 (yw (dC (f2 yK xu ixP) dN)) (fP (aC (zR (Zh zA) [none,some 4,some 0,some 6] yO yI (f2 zA (zK (aC zL (aC zx Y5)) yr) ixP)) aN) tupP) zF)) dN) xY)))
  (yQ (xQ 2 (dC (fFz (zK zdv xJ)) dN) xY))))))
  (yP zL))))
def Zw:Fn:=fnR 7 1 zbk
abbrev zbB:List Str:=["_law_cell","_law_base","_law_many","_law_found","_law_k"]
theorem Z2:FnScope zbB ["_law_cell","_law_base","_law_many"] (zj Yt):=fsc
def zbD:SF:=
 (zE (zO false 3 (yW dN))
  (zE (v4 (yU Xw yV) Xz (zE (yQ (xQ 3 (dC (f2 zx zA zG) dN) xY))
  (zO true 0 (f2 zx zA zW))))
  (yP yD)))
def Zu:Fn:=fnR 5 3 zbD
abbrev v8:List Str:=["_law_algebra_here","_law_cell","_law_n","_law_m","_law_join","_law_nothing","_law_deeds","_law_signs_here","_law_digits_here","_law_joins_here","_law_told","_law_k","_law_at"]
theorem yz:FnScope v8 ["_law_algebra_here","_law_cell"] (zj wD):=fsc
theorem zaN:(["_law_a","_law_digits_here","_law_n"]:List Str).Nodup:=by decide +kernel
theorem zaO:(["_law_c","_law_digits_here","_law_at","_law_n"]:List Str).Nodup:=by decide +kernel
def WM:SF:=
 (zE (zjn zx (gT 6 (gsC (gN 2) (gsC (gN 3) (gsC Xz (gsC (gN 5) (gsC (gN 6) (gsC (gN 7) gsN))))))))
  (zE (zO true 8 (zK (aC zA (aC zL (aC (f2 (f2 zZ (f2 zL zL zN) zF) (f2 (f2 zL yD zN) (fP (aC xu aN) Yk) zN) zF) aN))) Zu))
  (zE (zO true 9 (zR (yU Xw yV) [none,some 8,some 2] yO yI (fSl zA (oS (f2 zZ (f2 zL zx zN) zF)) (oS (f2 (f2 zZ (f2 zL zx zN) zF) zL zF)) slP)))
  (zE (zO false 10 (yW dN))
  (zE (v4 (yU (aC (fP (aC xu aN) Yk) aN) yV) (gN 11) (zE (zO true 12 (f2 (f2 zZ (f2 zL zL zN) zF) (f2 (f2 zL yD zN) wu zN) zF))
  (yQ (xQ 10 (dC (yw (dC (f2 (f2 xu wu ixP) yt ixP) (dC (zR (yU Y5 yV) [none,some 8,some 12,some 2] yO yI (fSl zA (oS (f2 zL (f2 yD zx zN) zF)) (oS (f2 (f2 zL (f2 yD zx zN) zF) yD zF)) slP)) dN))) dN) xY))))
  (yP (yw (dC zL (dC yD (dC (fV 9) (dC (f2 (fV 8) yt ixP) (dC (fV 10) (dC vh dN)))))))))))))
def vf:Fn:=fnR 13 2 WM
abbrev zfL:List Str:=["_law_script","_law_cell","_law_algebra_here"]
theorem zaU:FnScope zfL ["_law_script"] (zj V8):=fsc
def zga:SF:=
 (zE (zO true 1 (zK (aC zx (aC yX aN)) yH))
  (zE (zO true 2 (zK (aC (zK (aC zx (aC yt aN)) yH) (aC (zK (aC zx (aC zZ aN)) yH) aN)) vz))
  (zE (sIf (fT (f2 (f2 zA yX zG) zZ (zQ .Eq))) (yP (zK (aC zL (aC (f2 zA yX zW) aN)) vf)) sNx)
  (yP (zK (aC zL (aC (f2 zA yX zW) aN)) YL)))))
def ZR:Fn:=fnR 3 1 zga
abbrev Xa:List Str:=["_law_n","_law_cell"]
theorem zgr:FnScope Xa ["_law_n","_law_cell"] (zj Zf):=fsc
theorem zfe:(["_law_k","_law_n"]:List Str).Nodup:=by decide +kernel
theorem zeO:(["_law_x","_law_n"]:List Str).Nodup:=by decide +kernel
def zcJ:SF:=
 (zE (sIf (fT (f2 zx zbm (zQ .Lt))) (yP (zR (yU (aC (f2 zx zx zN) aN) yV) [none,some 0] yO yI (yw (dC (f2 zx zA zW) (dC (f2 zx zA zG) dN))))) sNx)
  (yP (zR (Zh (zK (aC zA (aC (fC (.int 10)) aN)) zX)) [none,some 0] yO yI (yw (dC (f2 zx zA zG) (dC (f2 (f2 zx zA zW) zA zG) dN))))))
def Z5:Fn:=fnR 2 2 zcJ
abbrev Xx:List Str:=["_law_algebra_here","_law_found","_law_one","_law_other","_law_least","_law_some","_law_step_here","_law_name","_law_values"]
theorem xM:FnScope Xx ["_law_algebra_here","_law_found","_law_one","_law_other","_law_least"] (zj vM):=fsc
def XJ:SF:=
 (zE (sIf (zaZ (fT (f2 (fP ZG Yk) Zb (zQ .NotEq))) (zaZ (fT (f2 (f2 zA yt ixP) (fC (.str "frame")) (zQ .NotEq))) (zaZ (Yo (fT (zbc (f2 zA zZ ixP) "list"))) (fT (f2 (fP (aC (f2 zA zZ ixP) aN) Yk) yK (zQ .NotEq)))))) (yP (fC (.bl false))) sNx)
  (zE (zO true 5 (zK Y0 wW))
  (zE (v4 (Wo (f2 zA zZ ixP)) (gN 6) (zE (sIf (zaZ (Yo (fT (zbc xu "tuple"))) (zaZ (fT (f2 xu vC (zQ .NotIn))) (fT (zbc (f2 xu (f1 zZ zgv) ixP) "bool")))) (yP (fC (.bl false))) sNx)
  (zE (zO true 2 (zK (aC zx (aC xu Xw)) yr))
  (zO true 3 (zK (aC zx (aC xu Y5)) yr)))))
  (zE (v4 (Wo (f2 zx zbm ixP)) (gT 2 (gsC (gN 7) (gsC (gN 8) gsN))) (sIf (fT (f2 vh (f2 zA yX ixP) (zQ .Eq))) (yP (f2 (f2 zL (fV 8) (zQ .In)) (f2 yD (fV 8) (zQ .In)) (zQ .NotEq))) sNx))
  (yP (fC (.bl false)))))))
def yx:Fn:=fnR 9 5 XJ
abbrev zlU:List Str:=["_law_script","_law_algebra_here","_law_kept_here","_law_levels_here","_law_one","_law_other","_law_due","_law_found"]
theorem VG:FnScope zlU ["_law_script"] (zj ziv):=fsc
theorem zlM:(["_law_k","_law_one","_law_other","_law_levels_here"]:List Str).Nodup:=by decide +kernel
def zpz:SF:=
 (zE (zO true 1 (zK Y0 ZR))
  (zE (zO true 2 (zK Y0 ZR))
  (zE (zO true 3 (zK Xw Zw))
  (zE (v4 (Wo (zK (aC (f2 zA yt ixP) (aC (zK (aC zx (aC Zb aN)) yH) aN)) Z5)) (gT 2 (gsC Xz (gsC (gN 5) gsN))) (zE (zO true 6 (zR (yU (aC (fP Y5 Yk) aN) yV) [none,some 4,some 5,some 3] yO (fT (f2 (f2 (f2 yD zx ixP) zA ixP) (f2 (f2 yD zx ixP) zL ixP) (zQ .NotEq))) zx))
  (zE (zO false 7 (zK (aC zA (aC yK zdv)) xg))
  (zE (sIf (zaZ (Yo (fT (zbc vh "tuple"))) (fT (f2 zA zL (zQ .NotEq)))) (yP (fC (.bl false))) sNx)
  (zE (sIf (W9 (fT (f2 xu (yW dN) (zQ .Eq))) (fT (f2 vh (yw (dC (fC (.str "alike")) dN)) (zQ .NotEq)))) (yP (fC (.bl false))) sNx)
  (zE (sIf (W9 (fT (f2 xu (yW dN) (zQ .NotEq))) (Yo (fT (zK (aC zL (aC vh (aC yK (aC vC (aC (f2 xu yt ixP) aN))))) yx)))) (yP (fC (.bl false))) sNx)
  (sIf (fT (f2 xu (yW dN) (zQ .NotEq))) (zE (zjS 7 (dC (yw (dC (fC (.str "left")) (dC yt dN))) dN))
  (sIf (Yo (fT (zK (aC zL (aC (zK (aC zA (aC yK zdv)) xg) (aC yK (aC vC (aC (f2 xu yt ixP) aN))))) yx))) (yP (fC (.bl false))) sNx)) sNx)))))))
  (yP (fC (.bl true)))))))
def zew:Fn:=fnR 8 1 zpz
set_option genInjectivity false in
set_option genSizeOf false in
structure Adr where
 WW:Addr
 V2:FuncData
 YZ:Addr
 YQ:FuncData
 XM:Addr
 Wz:FuncData
 Xj:Addr
 Xk:FuncData
 zcY:Addr
 zcX:FuncData
 XS:Addr
 Wt:FuncData
 WX:Addr
 VF:FuncData
 Xf:Addr
 Xl:FuncData
 zaI:Addr
 zaW:FuncData
 Wh:Addr
 We:FuncData
 zbe:Addr
 zbi:FuncData
 Vt:Addr
 V0:FuncData
 zaM:Addr
 zaJ:FuncData
 W4:Addr
 VL:FuncData
 X4:Addr
 Wx:FuncData
 zbg:Addr
 zaE:FuncData
 V4:Addr
 Vg:FuncData
 W8:Addr
 V3:FuncData
 Xh:Addr
 Xe:FuncData
 zaV:Addr
 zbf:FuncData
 zaT:Addr
 zbh:FuncData
 W7:Addr
 Vf:FuncData
 zaX:Addr
 zaP:FuncData
 YH:Addr
 YW:FuncData
 X6:Addr
 Wl:FuncData
 Wr:Addr
 Ww:FuncData
 Yl:Addr
 Yi:FuncData
 zck:Addr
 zcv:FuncData
 Vi:Addr
 Vm:FuncData
 ZJ:Addr
 ZV:FuncData
 zmT:Addr
 znn:FuncData
structure Txt(K:zC)(kd:KD)(mg:Str->Option Value)(t:Adr):Prop where
 zdd:Fun K "all_steps" "all_steps" vG t.WW t.V2
 zhC:Binds K t.V2 ["algebra"] []
 Ze:mg "all_steps"=some (.ref t.WW)
 Vs:Fun K "telling_sign" "telling_sign" Zn t.YZ t.YQ
 zdY:Binds K t.YQ ["algebra","one","other"] []
 xN:mg "telling_sign"=some (.ref t.YZ)
 Wc:Fun K "told_apart" "told_apart" Yx t.XM t.Wz
 zbW:Binds K t.Wz ["algebra","one","other"] []
 xg:mg "told_apart"=some (.ref t.XM)
 v5:Fun K "_law_cell_at" "_law_cell_at" Z3 t.Xj t.Xk
 Z1:Binds K t.Xk ["_law_script","_law_k"] []
 yH:mg "_law_cell_at"=some (.ref t.Xj)
 zpl:Fun K "_law_whole" "_law_whole" Vz t.zcY t.zcX
 zpr:Binds K t.zcX ["_law_found"] []
 zpg:mg "_law_whole"=some (.ref t.zcY)
 wj:Fun K "_law_stream" "_law_stream" Yw t.XS t.Wt
 wF:Binds K t.Wt ["_law_cell","_law_many"] []
 zX:mg "_law_stream"=some (.ref t.XS)
 zcR:Fun K "_law_names" "_law_names" Yh t.WX t.VF
 zik:Binds K t.VF ["_law_cell","_law_many"] []
 Z4:mg "_law_names"=some (.ref t.WX)
 zaq:Fun K "_law_divisor" "_law_divisor" Z0 t.Xf t.Xl
 zfr:Binds K t.Xl ["_law_one","_law_other"] []
 v6:mg "_law_divisor"=some (.ref t.Xf)
 zfi:Fun K "_law_sums" "_law_sums" YK t.zaI t.zaW
 zjA:Binds K t.zaW ["_law_n","_law_m","_law_xs"] []
 YJ:mg "_law_sums"=some (.ref t.zaI)
 zbQ:Fun K "_law_rising" "_law_rising" vP t.Wh t.We
 zhe:Binds K t.We ["_law_n","_law_m","_law_xs"] []
 ZD:mg "_law_rising"=some (.ref t.Wh)
 zeP:Fun K "_law_kept" "_law_kept" ZX t.zbe t.zbi
 zjb:Binds K t.zbi ["_law_n","_law_m","_law_xs"] []
 YF:mg "_law_kept"=some (.ref t.zbe)
 zdg:Fun K "_law_joins" "_law_joins" wJ t.Vt t.V0
 zhL:Binds K t.V0 ["_law_kind","_law_n"] []
 Zc:mg "_law_joins"=some (.ref t.Vt)
 zeI:Fun K "_law_rows" "_law_rows" YM t.zaM t.zaJ
 ziH:Binds K t.zaJ ["_law_kind","_law_n","_law_m","_law_xs"] []
 ZW:mg "_law_rows"=some (.ref t.zaM)
 Y7:Fun K "_law_plain" "_law_plain" Z8 t.W4 t.VL
 Vn:Binds K t.VL ["_law_kind","_law_n","_law_m","_law_many","_law_cell"] []
 ww:mg "_law_plain"=some (.ref t.W4)
 zbn:Fun K "_law_beside" "_law_beside" Zx t.X4 t.Wx
 zhb:Binds K t.Wx ["_law_one","_law_other","_law_m"] []
 Zj:mg "_law_beside"=some (.ref t.X4)
 zeK:Fun K "_law_made" "_law_made" Wq t.zbg t.zaE
 ziF:Binds K t.zaE ["_law_cell","_law_m","_law_many"] []
 YG:mg "_law_made"=some (.ref t.zbg)
 zdc:Fun K "_law_order" "_law_order" Y9 t.V4 t.Vg
 zia:Binds K t.Vg ["_law_cell","_law_n"] []
 Yb:mg "_law_order"=some (.ref t.V4)
 zda:Fun K "_law_signs" "_law_signs" Z6 t.W8 t.V3
 zhZ:Binds K t.V3 ["_law_cell","_law_n","_law_names_here"] []
 Zd:mg "_law_signs"=some (.ref t.W8)
 zaz:Fun K "_law_algebra" "_law_algebra" wM t.Xh t.Xe
 zfq:Binds K t.Xe ["_law_cell","_law_other"] []
 vz:mg "_law_algebra"=some (.ref t.Xh)
 zeG:Fun K "_law_bent" "_law_bent" ZP t.zaV t.zbf
 zjc:Binds K t.zbf ["_law_algebra_here","_law_cell"] []
 YL:mg "_law_bent"=some (.ref t.zaV)
 Wb:Fun K "_law_step" "_law_step" Wn t.zaT t.zbh
 zaK:Binds K t.zbh ["_law_algebra_here","_law_step_here","_law_value"] []
 yr:mg "_law_step"=some (.ref t.zaT)
 WQ:Fun K "_law_steps" "_law_steps" Yg t.W7 t.Vf
 zcM:Binds K t.Vf ["_law_algebra_here"] []
 wW:mg "_law_steps"=some (.ref t.W7)
 zdU:Fun K "_law_held" "_law_held" YX t.zaX t.zaP
 ziU:Binds K t.zaP ["_law_algebra_here","_law_value"] []
 ZQ:mg "_law_held"=some (.ref t.zaX)
 YS:Fun K "_law_numbered" "_law_numbered" vD t.YH t.YW
 VB:Binds K t.YW ["_law_keys"] []
 xJ:mg "_law_numbered"=some (.ref t.YH)
 zbU:Fun K "_law_levels" "_law_levels" vJ t.X6 t.Wl
 zgs:Binds K t.Wl ["_law_algebra_here"] []
 Zw:mg "_law_levels"=some (.ref t.X6)
 zbL:Fun K "_law_digits" "_law_digits" Yt t.Wr t.Ww
 zgW:Binds K t.Ww ["_law_cell","_law_base","_law_many"] []
 Zu:mg "_law_digits"=some (.ref t.Wr)
 WK:Fun K "_law_by_digits" "_law_by_digits" wD t.Yl t.Yi
 zdt:Binds K t.Yi ["_law_algebra_here","_law_cell"] []
 vf:mg "_law_by_digits"=some (.ref t.Yl)
 zcf:Fun K "_law_any" "_law_any" V8 t.zck t.zcv
 zfK:Binds K t.zcv ["_law_script"] []
 ZR:mg "_law_any"=some (.ref t.zck)
 zcZ:Fun K "_law_pairs" "_law_pairs" Zf t.Vi t.Vm
 zhy:Binds K t.Vm ["_law_n","_law_cell"] []
 Z5:mg "_law_pairs"=some (.ref t.Vi)
 ZK:Fun K "_law_frame_good" "_law_frame_good" vM t.ZJ t.ZV
 XF:Binds K t.ZV ["_law_algebra_here","_law_found","_law_one","_law_other","_law_least"] []
 yx:mg "_law_frame_good"=some (.ref t.ZJ)
 zrE:Fun K "law" "law" ziv t.zmT t.znn
 ztE:Binds K t.znn ["_law_script"] []
 zew:mg "law"=some (.ref t.zmT)
 zpN:mg "bool"=none
 zhz:mg "enumerate"=none
 zpe:mg "int"=none
 Yr:mg "isinstance"=none
 WR:mg "len"=none
 zbd:mg "list"=none
 zry:mg "max"=none
 ym:mg "range"=none
 zmv:mg "sorted"=none
 zdA:mg "tuple"=none
 zlB:mg "zip"=none
set_option maxHeartbeats 8000000
section
variable{P:Program}{w:World}{K:zC}{mg:Str->Option Value}{base:Heap}{kd:KD}{t:Adr}
theorem zir(T:Txt K kd mg t)(hkd:KD1 P w K kd):FnOk P w K mg base CX0 1 t.WW t.V2 ["algebra"] (spD K kd Ze):=by
 refine wA (N:=Z9) (k:=0) (c:=zdi) T.zdd vK λcdv A outer s H E hr=>?_
 exact(by
  refine sj 1 vK.nd ?_ ?_;exact(ax hkd (av 0) aI)
  refine sj 2 vK.nd ?_ ?_;exact(zfB rfl rfl T.ym rfl T.zbd (bc (ax hkd (av 0) aI) zf) rfl rfl)
  refine sj 3 vK.nd ?_ ?_;exact(bn (yu (N:=["x","join"]) (cap:=[none,some 1]) (S:=[0]) rfl (Zr (av 2)) rfl (by change xG _ Z9 _ (zj vG).names _=true;decide +kernel) (by decide) (λcl s H fp=>(an 0 zel)) (λcl s H fp=>yo) (λcl s H fp=>(yL (bd (yL (bd aS (bd (av 0) zy))) (bd (ax hkd (av 1) (av 0)) zy)))) (λ_=>rfl)) (yu (N:=["x","join"]) (cap:=[none,some 1]) (S:=[0]) rfl (Zr (av 2)) rfl (by change xG _ Z9 _ (zj vG).names _=true;decide +kernel) (by decide) (λcl s H fp=>(an 0 zeM)) (λcl s H fp=>yo) (λcl s H fp=>(yL (bd (yL (bd aS (bd (av 0) zy))) (bd (yu (N:=["row","x"]) (cap:=[none,some 0]) (S:=[0]) rfl (Zr (av 1)) rfl (by with_unfolding_all rfl) (by decide) (λcl s H fp=>(an 0 zee)) (λcl s H fp=>yo) (λcl s H fp=>(ax hkd (av 0) (av 1))) (λ_=>rfl)) zy)))) (λ_=>rfl)))
  refine zu ?_ ?_;exact(wg PassesOwn.never rfl (Xp (ax hkd (av 0) aI)) (vW rfl (zU (an 4 vK.nd) (zU (an 5 vK.nd) wO rfl) rfl) rfl rfl) (zg (wH (vA zkF zqg PySem.F.slot_list_extend PySem.F.type_list_extend (pv 3) (bd (yu (N:=["c","row","name"]) (cap:=[none,none,some 4]) (S:=[0,1]) rfl (zoE rfl T.zhz (av 5) rfl) rfl (by change xG _ Z9 _ (zj vG).names _=true;decide +kernel) (by decide) (λcl s H fp=>(vW rfl (zU (an 0 VR) (zU (an 1 VR) wO rfl) rfl) rfl rfl)) (λcl s H fp=>yo) (λcl s H fp=>(yL (bd (yL (bd aS (bd (av 2) (bd (av 0) zy)))) (bd (av 1) zy)))) (λ_=>rfl)) zy) rfl rfl rfl rfl rfl) rfl)) (λ_=>rfl))
  exact zg (ye (av 3)))
theorem zem(T:Txt K kd mg t)(hkd:KD1 P w K kd):FnOk P w K mg base CX0 1 t.YZ t.YQ ["algebra","one","other"] (spD K kd xN):=by
 refine wA (N:=VD) (k:=0) (c:=V1) T.Vs Yj λcdv A outer s H E hr=>?_
 exact(by
  refine zu ?_ ?_;exact(wg PassesOwn.never rfl (Xp (ax hkd (av 0) aI)) (vW rfl (zU (an 3 Yj.nd) (zU (an 4 Yj.nd) wO rfl) rfl) rfl rfl) (zg (xZ (tc hkd hr (zct (Xo (hkd _ rfl rfl rfl) (Xv hr) .In) (av 1) (av 4) rfl) (zct (Xo (hkd _ rfl rfl rfl) (Xv hr) .In) (av 2) (av 4) rfl)) (zg (ye (av 3))) yF)) (λ_=>rfl))
  exact zg (ye aZ))
theorem zbH(T:Txt K kd mg t)(hkd:KD1 P w K kd):FnOk P w K mg base CX0 2 t.XM t.Wz ["algebra","one","other"] (spD K kd xg):=by
 refine wA (N:=zbx) (k:=1) (c:=zbI) T.Wc xf λcdv A outer s H E hr=>?_
 exact(by
  refine sj 3 xf.nd ?_ ?_;exact(ck (zir T hkd) hr T.Ze T.zdd.kp T.zhC (bc (av 0) zf))
  refine sj 4 xf.nd ?_ ?_;exact(yS (bd (yL (bd (av 1) (bd (av 2) zy))) zy))
  refine sj 5 xf.nd ?_ ?_;exact(zkM (zlS hr) (yL (bd (av 1) (bd (av 2) zy))) (yS zy))
  refine sj 6 xf.nd ?_ ?_;exact aI
  refine zu ?_ ?_;exact(zhs (n:=10000) PassesOwn.never (tc hkd hr (av 6) (bi (vq (hkd _ rfl rfl rfl)) T.WR Bt.len (bc (av 4) zf))) (by
  refine sj 7 xf.nd ?_ ?_;exact(ax hkd (av 4) (av 6))
  refine sj 8 xf.nd ?_ ?_;exact(ck (zem T hkd) hr T.xN T.Vs.kp T.zdY (bc (av 0) (bc (ax hkd (av 7) aI) (bc (ax hkd (av 7) aI) zf))))
  refine zu ?_ ?_;exact(xZ (tc hkd hr (av 8) aZ) (zg (ye (yL (bd aS (bd (zqt (zlS hr) (pv 5) (pv 7) (λ_ _=>rfl)) (bd (av 8) zy)))))) yF)
  refine zu ?_ ?_;exact(wg PassesOwn.never rfl (Xp (av 3)) (vW rfl (zU (an 9 xf.nd) (zU (an 10 xf.nd) wO rfl) rfl) rfl rfl) (by
  refine sj 11 xf.nd ?_ ?_;exact(yL (bd (ax hkd (av 10) (ax hkd (av 7) aI)) (bd (ax hkd (av 10) (ax hkd (av 7) aI)) zy)))
  exact zg (xZ (zhp (Xo (hkd _ rfl rfl rfl) (Xv hr) .NotIn) (zdB .NotIn) (av 11) (av 5) rfl) (by
  refine zu ?_ ?_;exact(znI (zlS hr) (pv 5) (pv 11) (pv 5) (pv 7) (pv 9) rfl (λ_ _=>rfl))
  exact zg (wH (vA xm vV PySem.F.slot_list_append PySem.F.type_list_append (pv 4) (bd (av 11) zy) rfl rfl rfl rfl rfl) rfl)) yF)) (λ_=>rfl))
  exact zg (zqK (i:=6) xf.nd rfl (.inl rfl) (by first|exact Or.inl rfl|exact Or.inr rfl))))
  exact zg (ye (yL (bd aS zy))))
theorem ZZ(T:Txt K kd mg t)(hkd:KD1 P w K kd):FnOk P w K mg base CX0 1 t.Xj t.Xk ["_law_script","_law_k"] (spD K kd yH):=by
 refine wA (N:=zaC) (k:=0) (c:=zaw) T.v5 zeN λcdv A outer s H E hr=>?_
 exact(by
  refine zu ?_ ?_;exact(xZ (tc hkd hr (av 1) (bi (vq (hkd _ rfl rfl rfl)) T.WR Bt.len (bc (av 0) zf))) (zg (ye (ax hkd (av 0) (av 1)))) yF)
  exact zg (ye aI))
theorem wK(T:Txt K kd mg t)(hkd:KD1 P w K kd):FnOk P w K mg base CX0 1 t.XS t.Wt ["_law_cell","_law_many"] (spD K kd zX):=by
 refine wA (N:=zbM) (k:=0) (c:=zby) T.wj vZ λcdv A outer s H E hr=>?_
 exact(by
  refine sj 2 vZ.nd ?_ ?_;exact(yS zy)
  refine sj 3 vZ.nd ?_ ?_;exact(bn (bn (av 0) aI) aI)
  refine zu ?_ ?_;exact(wg PassesOwn.never rfl (wR rfl T.ym (bc (bn (av 1) aI) zf) rfl) (an 4 vZ.nd) (by
  refine sj 3 vZ.nd ?_ ?_;exact(bn (bn (bn (bn (av 3) (av 3)) (bn aI (av 3))) (av 4)) aI)
  exact zg (wH (vA xm vV PySem.F.slot_list_append PySem.F.type_list_append (pv 2) (bd (bn (bn (bn (av 3) aI) (bn aI (av 4))) aI) zy) rfl rfl rfl rfl rfl) rfl)) (λ_=>rfl))
  exact zg (ye (XD (av 2) (Zt aI) zbw)))
theorem zit(T:Txt K kd mg t)(hkd:KD1 P w K kd):FnOk P w K mg base CX0 2 t.WX t.VF ["_law_cell","_law_many"] (spD K kd Z4):=by
 refine wA (N:=Vp) (k:=1) (c:=zdj) T.zcR w5 λcdv A outer s H E hr=>?_
 exact(by
  refine sj 2 w5.nd ?_ ?_;exact aS
  refine sj 3 w5.nd ?_ ?_;exact(ck (wK T hkd) hr T.zX T.wj.kp T.wF (bc (av 0) (bc aI zf)))
  refine sj 4 w5.nd ?_ ?_;exact(zdE (ty:=.str) (hkd _ rfl rfl rfl) zoF PySem.F.plainAttrs_str PySem.F.slot_str_join PySem.F.type_str_join aS (bc (yu (N:=["_law_x","_law_letters"]) (cap:=[none,some 2]) (S:=[0]) rfl (Zr (XD (av 3) zbw (Zt (bn aI (bn (av 0) aI))))) rfl (by change xG _ Vp _ (zj Yh).names _=true;decide +kernel) (by decide) (λcl s H fp=>(an 0 zeF)) (λcl s H fp=>yo) (λcl s H fp=>(ax hkd (av 1) (bn (av 0) aI))) (λ_=>rfl)) zf) rfl rfl rfl rfl rfl)
  refine sj 5 w5.nd ?_ ?_;exact(bn (bn (av 0) aI) (bi (vq (hkd _ rfl rfl rfl)) T.WR Bt.len (bc (av 4) zf)))
  refine sj 6 w5.nd ?_ ?_;exact(yS zy)
  refine zu ?_ ?_;exact(wg PassesOwn.never rfl (wR rfl T.ym (bc (av 1) zf) rfl) (an 7 w5.nd) (zg (wH (vA xm vV PySem.F.slot_list_append PySem.F.type_list_append (pv 6) (bd (bn (bn (zfH (av 4) zbw (Zt (av 5))) (ax hkd (av 2) (bn (bn (ax hkd (av 3) aI) (bn aI (av 7))) aI))) (zfH (av 4) (Zt (bn (av 5) aI)) zbw)) zy) rfl rfl rfl rfl rfl) rfl)) (λ_=>rfl))
  exact zg (ye (av 6)))
theorem zfu(T:Txt K kd mg t)(hkd:KD1 P w K kd):FnOk P w K mg base CX0 1 t.Xf t.Xl ["_law_one","_law_other"] (spD K kd v6):=by
 refine wA (N:=zat) (k:=0) (c:=zao) T.zaq WP λcdv A outer s H E hr=>?_
 exact(by
  refine zu ?_ ?_;exact(zhs (n:=10000) PassesOwn.never (tc hkd hr (av 1) aI) (zg (zqY (i:=0) (j:=1) rfl WP.nd rfl rfl (by decide) rfl rfl (bd (av 1) (bd (bn (av 0) (av 1)) zy)) rfl rfl)))
  exact zg (ye (av 0)))
theorem ziV(T:Txt K kd mg t)(hkd:KD1 P w K kd):FnOk P w K mg base CX0 2 t.zaI t.zaW ["_law_n","_law_m","_law_xs"] (spD K kd YJ):=by
 refine wA (N:=zaS) (k:=1) (c:=zeb) T.zfi Xb λcdv A outer s H E hr=>?_
 exact(by
  refine sj 3 Xb.nd ?_ ?_;exact(bn (av 0) (ck (zfu T hkd) hr T.v6 T.zaq.kp T.zfr (bc (av 0) (bc (av 1) zf))))
  refine sj 4 Xb.nd ?_ ?_;exact(yS zy)
  refine zu ?_ ?_;exact(wg PassesOwn.never rfl (wR rfl T.ym (bc (av 1) zf) rfl) (an 5 Xb.nd) (zg (wH (vA xm vV PySem.F.slot_list_append PySem.F.type_list_append (pv 4) (bd (yu (N:=["_law_a","_law_n","_law_xs","_law_c","_law_step_here"]) (cap:=[none,some 0,some 2,some 5,some 3]) (S:=[0]) rfl (yq rfl T.ym (bc (av 0) zf) rfl) rfl (by change xG _ zaS _ (zj YK).names _=true;decide +kernel) (by decide) (λcl s H fp=>(an 0 zft)) (λcl s H fp=>yo) (λcl s H fp=>(bn (bn (bn (av 0) (ax hkd (av 2) aI)) (bn (bn (av 3) (av 4)) (ax hkd (av 2) aI))) (av 1))) (λ_=>rfl)) zy) rfl rfl rfl rfl rfl) rfl)) (λ_=>rfl))
  exact zg (ye (av 4)))
theorem zgo(T:Txt K kd mg t)(hkd:KD1 P w K kd):FnOk P w K mg base CX0 1 t.Wh t.We ["_law_n","_law_m","_law_xs"] (spD K kd ZD):=by
 refine wA (N:=YB) (k:=0) (c:=zbS) T.zbQ zaA λcdv A outer s H E hr=>?_
 exact(by
  refine sj 3 zaA.nd ?_ ?_;exact(bi zjj T.zmv Bt.sorted (bc (bn (yS (bd aI zy)) (yu (N:=["_law_k","_law_n","_law_xs"]) (cap:=[none,some 0,some 2]) (S:=[0]) rfl (yq rfl T.ym (bc (bn (av 0) aI) zf) rfl) rfl (by change xG _ YB _ (zj vP).names _=true;decide +kernel) (by decide) (λcl s H fp=>(an 0 zdu)) (λcl s H fp=>yo) (λcl s H fp=>(bn (ax hkd (av 2) (av 0)) (av 1))) (λ_=>rfl))) zf))
  refine zu ?_ ?_;exact(zog (pv 3) Wv Wv (λ_=>rfl) rfl rfl rfl)
  exact zg (ye (yu (N:=["_law_c","_law_row"]) (cap:=[none,some 3]) (S:=[0]) rfl (yq rfl T.ym (bc (av 1) zf) rfl) rfl (by change xG _ YB _ (zj vP).names _=true;decide +kernel) (by decide) (λcl s H fp=>(an 0 zdw)) (λcl s H fp=>yo) (λcl s H fp=>(by_ zaf T.zbd Bt.list (bc (av 1) zf))) (λ_=>rfl))))
theorem zjw(T:Txt K kd mg t)(hkd:KD1 P w K kd):FnOk P w K mg base CX0 1 t.zbe t.zbi ["_law_n","_law_m","_law_xs"] (spD K kd YF):=by
 refine wA (N:=X3) (k:=0) (c:=zdP) T.zeP zdn λcdv A outer s H E hr=>?_
 exact(by
  refine sj 3 zdn.nd ?_ ?_;exact(bn (yS (bd aI zy)) (yu (N:=["_law_k","_law_xs","_law_n"]) (cap:=[none,some 2,some 0]) (S:=[0]) rfl (yq rfl T.ym (bc (bn (av 0) aI) zf) rfl) rfl (by change xG _ X3 _ (zj ZX).names _=true;decide +kernel) (by decide) (λcl s H fp=>(an 0 zfv)) (λcl s H fp=>yo) (λcl s H fp=>(bn aI (bn (ax hkd (av 1) (av 0)) (bn (av 2) aI)))) (λ_=>rfl)))
  exact zg (ye (yu (N:=["_law_c","_law_row"]) (cap:=[none,some 3]) (S:=[0]) rfl (yq rfl T.ym (bc (av 1) zf) rfl) rfl (by change xG _ X3 _ (zj ZX).names _=true;decide +kernel) (by decide) (λcl s H fp=>(an 0 zfy)) (λcl s H fp=>yo) (λcl s H fp=>(by_ zaf T.zbd Bt.list (bc (av 1) zf))) (λ_=>rfl))))
theorem zid(T:Txt K kd mg t)(hkd:KD1 P w K kd):FnOk P w K mg base CX0 1 t.Vt t.V0 ["_law_kind","_law_n"] (spD K kd Zc):=by
 refine wA (N:=vI) (k:=0) (c:=zcH) T.zdg zbC λcdv A outer s H E hr=>?_
 exact(by
  refine zu ?_ ?_;exact(xZ (tc hkd hr (av 0) aI) (zg (ye (yu (N:=["_law_a","_law_n"]) (cap:=[none,some 1]) (S:=[0]) rfl (yq rfl T.ym (bc (av 1) zf) rfl) rfl (by change xG _ vI _ (zj wJ).names _=true;decide +kernel) (by decide) (λcl s H fp=>(an 0 zeS)) (λcl s H fp=>yo) (λcl s H fp=>(yu (N:=["_law_b","_law_n","_law_a"]) (cap:=[none,some 1,some 0]) (S:=[0]) rfl (yq rfl T.ym (bc (av 1) zf) rfl) rfl (by with_unfolding_all rfl) (by decide) (λcl s H fp=>(an 0 zeD)) (λcl s H fp=>yo) (λcl s H fp=>(bn (bn (av 2) (av 0)) (av 1))) (λ_=>rfl))) (λ_=>rfl)))) yF)
  refine zu ?_ ?_;exact(xZ (tc hkd hr (av 0) aI) (zg (ye (yu (N:=["_law_a","_law_n"]) (cap:=[none,some 1]) (S:=[0]) rfl (yq rfl T.ym (bc (av 1) zf) rfl) rfl (by change xG _ vI _ (zj wJ).names _=true;decide +kernel) (by decide) (λcl s H fp=>(an 0 zdQ)) (λcl s H fp=>yo) (λcl s H fp=>(yu (N:=["_law_b","_law_a"]) (cap:=[none,some 0]) (S:=[0]) rfl (yq rfl T.ym (bc (av 1) zf) rfl) rfl (by with_unfolding_all rfl) (by decide) (λcl s H fp=>(an 0 zdX)) (λcl s H fp=>yo) (λcl s H fp=>(bi (zlm rfl) T.zry Bt.max (bc (av 1) (bc (av 0) zf)))) (λ_=>rfl))) (λ_=>rfl)))) yF)
  refine zu ?_ ?_;exact(xZ (tc hkd hr (av 0) aI) (zg (ye (yu (N:=["_law_a","_law_n"]) (cap:=[none,some 1]) (S:=[0]) rfl (yq rfl T.ym (bc (av 1) zf) rfl) rfl (by change xG _ vI _ (zj wJ).names _=true;decide +kernel) (by decide) (λcl s H fp=>(an 0 zen)) (λcl s H fp=>yo) (λcl s H fp=>(yu (N:=["_law_b","_law_a"]) (cap:=[none,some 0]) (S:=[0]) rfl (yq rfl T.ym (bc (av 1) zf) rfl) rfl (by with_unfolding_all rfl) (by decide) (λcl s H fp=>(an 0 zfh)) (λcl s H fp=>yo) (λcl s H fp=>(ax hkd (yS (bd (av 0) (bd (av 1) zy))) (by_ zep T.zpe Bt.int (bc (ec hkd hr (av 0) aI) zf)))) (λ_=>rfl))) (λ_=>rfl)))) yF)
  refine zu ?_ ?_;exact(xZ (tc hkd hr (av 0) aI) (zg (ye (yu (N:=["_law_a","_law_n"]) (cap:=[none,some 1]) (S:=[0]) rfl (yq rfl T.ym (bc (av 1) zf) rfl) rfl (by change xG _ vI _ (zj wJ).names _=true;decide +kernel) (by decide) (λcl s H fp=>(an 0 zet)) (λcl s H fp=>yo) (λcl s H fp=>(yu (N:=["_law_b","_law_a"]) (cap:=[none,some 0]) (S:=[0]) rfl (yq rfl T.ym (bc (av 1) zf) rfl) rfl (by with_unfolding_all rfl) (by decide) (λcl s H fp=>(an 0 zfm)) (λcl s H fp=>yo) (λcl s H fp=>(ax hkd (yS (bd (av 1) (bd (av 0) zy))) (by_ zep T.zpe Bt.int (bc (ec hkd hr (av 1) aI) zf)))) (λ_=>rfl))) (λ_=>rfl)))) yF)
  refine sj 2 zbC.nd ?_ ?_;exact(yS (bd (yL (bd aI (bd aI zy))) (bd (yL (bd aI (bd aI zy))) (bd (yL (bd aI (bd aI zy))) (bd (yL (bd aI (bd aI zy))) zy)))))
  exact zg (ye (yu (N:=["_law_one","_law_maps"]) (cap:=[none,some 2]) (S:=[0]) rfl (Zr (av 2)) rfl (by change xG _ vI _ (zj wJ).names _=true;decide +kernel) (by decide) (λcl s H fp=>(an 0 zeU)) (λcl s H fp=>yo) (λcl s H fp=>(yu (N:=["_law_two","_law_maps","_law_one"]) (cap:=[none,some 1,some 0]) (S:=[0]) rfl (Zr (av 1)) rfl (by with_unfolding_all rfl) (by decide) (λcl s H fp=>(an 0 zdz)) (λcl s H fp=>yo) (λcl s H fp=>(zdE (ty:=.lst) (hkd _ rfl rfl rfl) (zeH (hkd _ rfl rfl rfl) (Xv hr)) PySem.F.plainAttrs_list PySem.F.slot_list_index PySem.F.type_list_index (av 1) (bc (yL (bd (ax hkd (av 0) (ax hkd (av 2) aI)) (bd (ax hkd (av 0) (ax hkd (av 2) aI)) zy))) zf) rfl rfl rfl rfl rfl)) (λ_=>rfl))) (λ_=>rfl))))
theorem ziC(T:Txt K kd mg t)(hkd:KD1 P w K kd):FnOk P w K mg base CX0 3 t.zaM t.zaJ ["_law_kind","_law_n","_law_m","_law_xs"] (spD K kd ZW):=by
 refine wA (N:=zaH) (k:=2) (c:=zeB) T.zeI zii λcdv A outer s H E hr=>?_
 exact(by
  refine zu ?_ ?_;exact(xZ (tc hkd hr (av 0) aI) (zg (ye (ck (ziV T hkd) hr T.YJ T.zfi.kp T.zjA (bc (av 1) (bc (av 2) (bc (av 3) zf)))))) yF)
  refine zu ?_ ?_;exact(xZ (tc hkd hr (av 0) aI) (zg (ye (ck (zgo T hkd) hr T.ZD T.zbQ.kp T.zhe (bc (av 1) (bc (av 2) (bc (av 3) zf)))))) yF)
  refine zu ?_ ?_;exact(xZ (tc hkd hr (av 0) aI) (zg (ye (ck (zjw T hkd) hr T.YF T.zeP.kp T.zjb (bc (av 1) (bc (av 2) (bc (av 3) zf)))))) yF)
  exact zg (ye (yu (N:=["_law_c","_law_xs"]) (cap:=[none,some 3]) (S:=[0]) rfl (yq rfl T.ym (bc (av 2) zf) rfl) rfl (by change xG _ zaH _ (zj YM).names _=true;decide +kernel) (by decide) (λcl s H fp=>(an 0 zfs)) (λcl s H fp=>yo) (λcl s H fp=>(ax hkd (yS (bd (yS (bd aI (bd aI (bd aI (bd aI zy))))) (bd (yS (bd aI (bd aI (bd aI (bd aI zy))))) zy))) (bn (ax hkd (av 1) aI) aI))) (λ_=>rfl))))
theorem Vl(T:Txt K kd mg t)(hkd:KD1 P w K kd):FnOk P w K mg base CX0 4 t.W4 t.VL ["_law_kind","_law_n","_law_m","_law_many","_law_cell"] (spD K kd ww):=by
 refine wA (N:=Ve) (k:=3) (c:=zcS) T.Y7 zbF λcdv A outer s H E hr=>?_
 exact(by
  refine zu ?_ ?_;exact(zai (z:=true) (i:=5) (N:=["_law_k","_law_kind","_law_n","_law_m","_law_cell"]) (cap:=[none,some 0,some 1,some 2,some 4]) (S:=[0]) zbF.nd rfl (by exact Or.inl rfl) (by exact Or.inr rfl) rfl rfl (yq rfl T.ym (bc (av 3) zf) rfl) rfl (by change xG _ Ve _ (zj Z8).names _=true;decide +kernel) (by decide) (λcl s H fp=>(an 0 zeY)) (λcl s H fp=>yo) (λcl s H fp=>(ck (ziC T hkd) hr T.ZW T.zeI.kp T.ziH (bc (av 1) (bc (av 2) (bc (av 3) (bc (ck (wK T hkd) hr T.zX T.wj.kp T.wF (bc (bn (av 4) (bn aI (av 0))) (bc aI zf))) zf)))))) (λ_=>rfl))
  exact zg (ye (yL (bd (av 1) (bd (ck (zid T hkd) hr T.Zc T.zdg.kp T.zhL (bc (av 0) (bc (av 1) zf))) (bd (av 5) zy))))))
theorem zhg(T:Txt K kd mg t)(hkd:KD1 P w K kd):FnOk P w K mg base CX0 1 t.X4 t.Wx ["_law_one","_law_other","_law_m"] (spD K kd Zj):=by
 refine wA (N:=Wk) (k:=0) (c:=zbq) T.zbn yE λcdv A outer s H E hr=>?_
 exact(by
  refine sj 3 yE.nd ?_ ?_;exact(bn (ax hkd (av 0) aI) (ax hkd (av 1) aI))
  refine sj 4 yE.nd ?_ ?_;exact(ax hkd (av 1) aI)
  refine sj 5 yE.nd ?_ ?_;exact(yS zy)
  refine zu ?_ ?_;exact(wg PassesOwn.never rfl (wR rfl T.ym (bc (av 3) zf) rfl) (an 6 yE.nd) (by
  refine sj 7 yE.nd ?_ ?_;exact(ax hkd (ax hkd (av 0) aI) (bn (av 6) (av 4)))
  refine sj 8 yE.nd ?_ ?_;exact(ax hkd (ax hkd (av 1) aI) (bn (av 6) (av 4)))
  exact zg (wH (vA xm vV PySem.F.slot_list_append PySem.F.type_list_append (pv 5) (bd (yu (N:=["_law_q","_law_by","_law_there","_law_here"]) (cap:=[none,some 4,some 8,some 7]) (S:=[0]) rfl (yq rfl T.ym (bc (av 3) zf) rfl) rfl (by change xG _ Wk _ (zj Zx).names _=true;decide +kernel) (by decide) (λcl s H fp=>(an 0 zdq)) (λcl s H fp=>yo) (λcl s H fp=>(bn (bn (ax hkd (av 3) (bn (av 0) (av 1))) (av 1)) (ax hkd (av 2) (bn (av 0) (av 1))))) (λ_=>rfl)) zy) rfl rfl rfl rfl rfl) rfl)) (λ_=>rfl))
  refine sj 9 yE.nd ?_ ?_;exact(yS zy)
  refine zu ?_ ?_;exact(wg PassesOwn.never rfl (ziT rfl T.zlB (bc (ax hkd (av 0) aI) (bc (ax hkd (av 1) aI) zf)) rfl rfl) (vW rfl (zU (an 7 yE.nd) (zU (an 8 yE.nd) wO rfl) rfl) rfl rfl) (by
  refine sj 10 yE.nd ?_ ?_;exact(yS zy)
  refine zu ?_ ?_;exact(wg PassesOwn.never rfl (wR rfl T.ym (bc (av 2) zf) rfl) (an 11 yE.nd) (by
  refine sj 12 yE.nd ?_ ?_;exact(yS zy)
  refine zu ?_ ?_;exact(wg PassesOwn.never rfl (wR rfl T.ym (bc (av 3) zf) rfl) (an 6 yE.nd) (by
  refine sj 13 yE.nd ?_ ?_;exact(bn (ax hkd (ax hkd (av 7) (av 11)) (bn (av 6) (av 4))) (av 4))
  exact zg (wH (vA xm vV PySem.F.slot_list_append PySem.F.type_list_append (pv 12) (bd (bn (av 13) (ax hkd (ax hkd (av 8) (av 11)) (bn (av 6) (av 4)))) zy) rfl rfl rfl rfl rfl) rfl)) (λ_=>rfl))
  exact zg (wH (vA xm vV PySem.F.slot_list_append PySem.F.type_list_append (pv 10) (bd (av 12) zy) rfl rfl rfl rfl rfl) rfl)) (λ_=>rfl))
  exact zg (wH (vA xm vV PySem.F.slot_list_append PySem.F.type_list_append (pv 9) (bd (av 10) zy) rfl rfl rfl rfl rfl) rfl)) (λ_=>rfl))
  exact zg (ye (yL (bd (av 3) (bd (av 5) (bd (av 9) zy))))))
theorem ziE(T:Txt K kd mg t)(hkd:KD1 P w K kd):FnOk P w K mg base CX0 5 t.zbg t.zaE ["_law_cell","_law_m","_law_many"] (spD K kd YG):=by
 refine wA (N:=zeu) (k:=4) (c:=zef) T.zeK wX λcdv A outer s H E hr=>?_
 exact(by
  refine sj 3 wX.nd ?_ ?_;exact(ck (wK T hkd) hr T.zX T.wj.kp T.wF (bc (av 0) (bc aI zf)))
  refine sj 4 wX.nd ?_ ?_;exact(bn (ax hkd (av 3) aI) aI)
  refine zu ?_ ?_;exact(xZ (tc hkd hr (av 4) aI) (by
  refine sj 5 wX.nd ?_ ?_;exact(ax hkd (yS (bd (yL (bd aI (bd aI zy))) (bd (yL (bd aI (bd aI zy))) (bd (yL (bd aI (bd aI zy))) (bd (yL (bd aI (bd aI zy))) (bd (yL (bd aI (bd aI zy))) (bd (yL (bd aI (bd aI zy))) zy))))))) (bn (ax hkd (av 3) aI) aI))
  refine sj 6 wX.nd ?_ ?_;exact(ck (Vl T hkd) hr T.ww T.Y7.kp T.Vn (bc (bn (ax hkd (av 3) aI) aI) (bc (ax hkd (av 5) aI) (bc (av 1) (bc (av 2) (bc (ax hkd (av 3) aI) zf))))))
  exact zg (ye (ck (zhg T hkd) hr T.Zj T.zbn.kp T.zhb (bc (av 6) (bc (ck (Vl T hkd) hr T.ww T.Y7.kp T.Vn (bc (bn (ax hkd (av 3) aI) aI) (bc (ax hkd (av 5) aI) (bc (av 1) (bc (av 2) (bc (bn (ax hkd (av 3) aI) aI) zf)))))) (bc (av 1) zf)))))) yF)
  refine sj 7 wX.nd ?_ ?_;exact(ax hkd (yS (bd aI (bd aI (bd aI (bd aI (bd aI (bd aI (bd aI (bd aI zy))))))))) (bn (ax hkd (av 3) aI) aI))
  refine zu ?_ ?_;exact(xZ (AW.at_ (zgy (tc hkd hr (av 4) aI) (X5 (tc hkd hr (bn (ax hkd (av 3) aI) aI) aI)))) (zg (by refine sv true 7 wX.nd ?_;exact aI)) yF)
  refine zu ?_ ?_;exact(xZ (tc hkd hr (av 4) aI) (zg (by refine sv true 7 wX.nd ?_;exact aI)) yF)
  exact zg (ye (ck (Vl T hkd) hr T.ww T.Y7.kp T.Vn (bc (av 4) (bc (av 7) (bc (av 1) (bc (av 2) (bc (ax hkd (av 3) aI) zf))))))))
theorem zhH(T:Txt K kd mg t)(hkd:KD1 P w K kd):FnOk P w K mg base CX0 2 t.V4 t.Vg ["_law_cell","_law_n"] (spD K kd Yb):=by
 refine wA (N:=zcT) (k:=1) (c:=zdm) T.zdc Yy λcdv A outer s H E hr=>?_
 exact(by
  refine sj 2 Yy.nd ?_ ?_;exact(zfB rfl rfl T.ym rfl T.zbd (bc (av 1) zf) rfl rfl)
  refine sj 3 Yy.nd ?_ ?_;exact(yS zy)
  refine zu ?_ ?_;exact(wg PassesOwn.never rfl (Xp (ck (wK T hkd) hr T.zX T.wj.kp T.wF (bc (av 0) (bc (av 1) zf)))) (an 4 Yy.nd) (zg (wH (vA xm vV PySem.F.slot_list_append PySem.F.type_list_append (pv 3) (bd (vA znc zmX PySem.F.slot_list_pop PySem.F.type_list_pop (pv 2) (bd (bn (av 4) (bi (vq (hkd _ rfl rfl rfl)) T.WR Bt.len (bc (av 2) zf))) zy) rfl rfl rfl rfl rfl) zy) rfl rfl rfl rfl rfl) rfl)) (λ_=>rfl))
  exact zg (ye (av 3)))
theorem zio(T:Txt K kd mg t)(hkd:KD1 P w K kd):FnOk P w K mg base CX0 2 t.W8 t.V3 ["_law_cell","_law_n","_law_names_here"] (spD K kd Zd):=by
 refine wA (N:=WY) (k:=1) (c:=zdk) T.zda Yq λcdv A outer s H E hr=>?_
 exact(by
  refine sj 3 Yq.nd ?_ ?_;exact(yS zy)
  refine zu ?_ ?_;exact(wg PassesOwn.never rfl (ziT rfl T.zlB (bc (ck (wK T hkd) hr T.zX T.wj.kp T.wF (bc (av 0) (bc (bi (vq (hkd _ rfl rfl rfl)) T.WR Bt.len (bc (av 2) zf)) zf))) (bc (av 2) zf)) rfl rfl) (vW rfl (zU (an 4 Yq.nd) (zU (an 5 Yq.nd) wO rfl) rfl) rfl rfl) (zg (wH (vA xm vV PySem.F.slot_list_append PySem.F.type_list_append (pv 3) (bd (yL (bd (av 5) (bd (yu (N:=["_law_v","_law_x"]) (cap:=[none,some 4]) (S:=[0]) rfl (yq rfl T.ym (bc (av 1) zf) rfl) rfl (by change xG _ WY _ (zj Z6).names _=true;decide +kernel) (by decide) (λcl s H fp=>(an 0 zeV)) (λcl s H fp=>(zku (tc hkd hr (bn (bn (av 1) (ax hkd (yS (bd aI (bd aI (bd aI (bd aI (bd aI (bd aI (bd aI (bd aI zy))))))))) (av 0))) aI) aI))) (λcl s H fp=>(av 0)) (λ_=>rfl)) zy))) zy) rfl rfl rfl rfl rfl) rfl)) (λ_=>rfl))
  exact zg (ye (av 3)))
theorem zfx(T:Txt K kd mg t)(hkd:KD1 P w K kd):FnOk P w K mg base CX0 6 t.Xh t.Xe ["_law_cell","_law_other"] (spD K kd vz):=by
 refine wA (N:=vX) (k:=5) (c:=zar) T.zaz yf λcdv A outer s H E hr=>?_
 exact(by
  refine sj 2 yf.nd ?_ ?_;exact(ck (wK T hkd) hr T.zX T.wj.kp T.wF (bc (av 1) (bc aI zf)))
  refine sj 3 yf.nd ?_ ?_;exact(bn aI (bn (ax hkd (av 2) aI) aI))
  refine zu ?_ ?_;exact(xZ (tc hkd hr (bn (bn (ax hkd (av 2) aI) aI) aI) aI) (zg (by refine sv true 3 yf.nd ?_;exact(bn aI (bn (bn (ax hkd (av 2) aI) aI) aI)))) yF)
  refine sj 4 yf.nd ?_ ?_;exact(ax hkd (yS (bd aI (bd aI (bd aI (bd aI (bd aI (bd aI (bd aI (bd aI zy))))))))) (bn (ax hkd (av 2) aI) aI))
  refine zu ?_ ?_;exact(xZ (tc hkd hr (av 4) aI) (zg (by refine sv true 3 yf.nd ?_;exact(bn aI (bn (av 3) aI)))) yF)
  refine zu ?_ ?_;exact(zjt (ck (ziE T hkd) hr T.YG T.zeK.kp T.ziF (bc (av 0) (bc (av 3) (bc (av 4) zf)))) (vW rfl (zU (an 5 yf.nd) (zU (an 6 yf.nd) (zU (an 7 yf.nd) wO rfl) rfl) rfl) rfl rfl) rfl rfl rfl)
  refine sj 8 yf.nd ?_ ?_;exact(ck (zhH T hkd) hr T.Yb T.zdc.kp T.zia (bc (ax hkd (av 2) aI) (bc (av 5) zf)))
  refine sj 9 yf.nd ?_ ?_;exact(yu (N:=["_law_v","_law_order_here"]) (cap:=[none,some 8]) (S:=[0]) rfl (yq rfl T.ym (bc (av 5) zf) rfl) rfl (by change xG _ vX _ (zj wM).names _=true;decide +kernel) (by decide) (λcl s H fp=>(an 0 zch)) (λcl s H fp=>yo) (λcl s H fp=>(zdE (ty:=.lst) (hkd _ rfl rfl rfl) (zeH (hkd _ rfl rfl rfl) (Xv hr)) PySem.F.plainAttrs_list PySem.F.slot_list_index PySem.F.type_list_index (av 1) (bc (av 0) zf) rfl rfl rfl rfl rfl)) (λ_=>rfl))
  refine zu ?_ ?_;exact(zai (z:=true) (i:=10) (N:=["_law_a","_law_order_here","_law_n","_law_join","_law_back"]) (cap:=[none,some 8,some 5,some 6,some 9]) (S:=[0]) yf.nd rfl (by exact Or.inl rfl) (by exact Or.inr rfl) rfl rfl (yq rfl T.ym (bc (av 5) zf) rfl) rfl (by change xG _ vX _ (zj wM).names _=true;decide +kernel) (by decide) (λcl s H fp=>(an 0 zcr)) (λcl s H fp=>yo) (λcl s H fp=>(yu (N:=["_law_b","_law_order_here","_law_join","_law_back","_law_a"]) (cap:=[none,some 1,some 3,some 4,some 0]) (S:=[0]) rfl (yq rfl T.ym (bc (av 2) zf) rfl) rfl (by with_unfolding_all rfl) (by decide) (λcl s H fp=>(an 0 zcC)) (λcl s H fp=>yo) (λcl s H fp=>(ax hkd (av 1) (ax hkd (ax hkd (av 2) (ax hkd (av 3) (av 4))) (ax hkd (av 3) (av 0))))) (λ_=>rfl))) (λ_=>rfl))
  refine sj 11 yf.nd ?_ ?_;exact(ck (zit T hkd) hr T.Z4 T.zcR.kp T.zik (bc (ax hkd (av 2) aI) (bc aI zf)))
  refine sj 12 yf.nd ?_ ?_;exact(yS zy)
  refine zu ?_ ?_;exact(wg PassesOwn.never rfl (ziT rfl T.zlB (bc (XD (av 11) zbw (Zt aI)) (bc (av 7) zf)) rfl rfl) (vW rfl (zU (an 13 yf.nd) (zU (an 14 yf.nd) wO rfl) rfl) rfl rfl) (zg (wH (vA xm vV PySem.F.slot_list_append PySem.F.type_list_append (pv 12) (bd (yL (bd (av 13) (bd (yu (N:=["_law_row","_law_order_here","_law_n","_law_back"]) (cap:=[none,some 8,some 5,some 9]) (S:=[0]) rfl (Zr (av 14)) rfl (by change xG _ vX _ (zj wM).names _=true;decide +kernel) (by decide) (λcl s H fp=>(an 0 zcg)) (λcl s H fp=>yo) (λcl s H fp=>(yu (N:=["_law_a","_law_order_here","_law_row","_law_back"]) (cap:=[none,some 1,some 0,some 3]) (S:=[0]) rfl (yq rfl T.ym (bc (av 2) zf) rfl) rfl (by with_unfolding_all rfl) (by decide) (λcl s H fp=>(an 0 zcA)) (λcl s H fp=>yo) (λcl s H fp=>(ax hkd (av 1) (ax hkd (av 2) (ax hkd (av 3) (av 0))))) (λ_=>rfl))) (λ_=>rfl)) zy))) zy) rfl rfl rfl rfl rfl) rfl)) (λ_=>rfl))
  refine sj 15 yf.nd ?_ ?_;exact(ck (zio T hkd) hr T.Zd T.zda.kp T.zhZ (bc (ax hkd (av 2) aI) (bc (av 5) (bc (XD (av 11) (Zt aI) (Zt (bn aI (ax hkd (yS (bd aI (bd aI (bd aI (bd aI (bd aI (bd aI (bd aI (bd aI zy))))))))) (bn (ax hkd (av 2) aI) aI))))) zf))))
  exact zg (ye (yL (bd (av 5) (bd (av 3) (bd (av 10) (bd (ax hkd (av 8) aI) (bd (av 12) (bd (av 15) zy)))))))))
theorem zjg(T:Txt K kd mg t)(hkd:KD1 P w K kd):FnOk P w K mg base CX0 2 t.zaV t.zbf ["_law_algebra_here","_law_cell"] (spD K kd YL):=by
 refine wA (N:=XX) (k:=1) (c:=zej) T.zeG xq λcdv A outer s H E hr=>?_
 exact(by
  refine zu ?_ ?_;exact(zjt (av 0) (vW rfl (zU (an 2 xq.nd) (zU (an 3 xq.nd) (zU (an 4 xq.nd) (zU (an 5 xq.nd) (zU (an 6 xq.nd) (zU (an 7 xq.nd) wO rfl) rfl) rfl) rfl) rfl) rfl) rfl rfl) rfl rfl rfl)
  refine sj 8 xq.nd ?_ ?_;exact(ck (wK T hkd) hr T.zX T.wj.kp T.wF (bc (av 1) (bc aI zf)))
  refine zu ?_ ?_;exact(zai (z:=false) (i:=9) (N:=["_law_row"]) (cap:=[none]) (S:=[0]) xq.nd rfl (by exact Or.inl rfl) (by exact Or.inr rfl) rfl rfl (Zr (av 4)) rfl (by change xG _ XX _ (zj ZP).names _=true;decide +kernel) (by decide) (λcl s H fp=>(an 0 zfz)) (λcl s H fp=>yo) (λcl s H fp=>(by_ zaf T.zbd Bt.list (bc (av 0) zf))) (λ_=>rfl))
  refine zu ?_ ?_;exact(zai (z:=false) (i:=10) (N:=["_law_name","_law_rows_here"]) (cap:=[none,none]) (S:=[0,1]) xq.nd rfl (by exact Or.inl rfl) (by exact Or.inr rfl) rfl rfl (Zr (av 6)) rfl (by change xG _ XX _ (zj ZP).names _=true;decide +kernel) (by decide) (λcl s H fp=>(vW rfl (zU (an 0 zau) (zU (an 1 zau) wO rfl) rfl) rfl rfl)) (λcl s H fp=>yo) (λcl s H fp=>(yL (bd (av 0) (bd (yu (N:=["_law_row"]) (cap:=[none]) (S:=[0]) rfl (Zr (av 1)) rfl (by with_unfolding_all rfl) (by decide) (λcl s H fp=>(an 0 zfw)) (λcl s H fp=>yo) (λcl s H fp=>(by_ zaf T.zbd Bt.list (bc (av 0) zf))) (λ_=>rfl)) zy)))) (λ_=>rfl))
  refine sj 11 xq.nd ?_ ?_;exact(bn (ax hkd (av 8) aI) aI)
  refine zu ?_ ?_;exact(xZ (tc hkd hr (av 11) aI) (zg (by refine sv true 5 xq.nd ?_;exact(bn (ax hkd (av 8) aI) (av 2)))) yF)
  refine zu ?_ ?_;exact(xZ (AW.at_ (zdZ (tc hkd hr (av 11) aI) (zag (tc hkd hr (av 11) aI)))) (zg (zoy (pv 9) (zbb (zeR (pv 8) Wv (λ_ _=>rfl)) (zcj (pv 2))) (λ_ _=>rfl) (zbb (zeR (pv 8) Wv (λ_ _=>rfl)) (zcj (pv 2))) (zbb (zeR (pv 8) Wv (λ_ _=>rfl)) (zcj (pv 2))) (λ_=>rfl) rfl rfl rfl)) yF)
  refine zu ?_ ?_;exact(xZ (AW.at_ (zgy (tc hkd hr (av 11) aI) (X5 (tc hkd hr (av 10) (yS zy))))) (zoI (y:=12) (n:=1) xq.nd rfl (by exact Or.inl rfl) (by exact Or.inr rfl) (pv 10) (zbb (zeR (pv 8) Wv (λ_ _=>rfl)) (zqP rfl T.WR Bt.len (pv 10) rfl rfl)) (λ_ _=>rfl) zfc (λ_ _=>rfl) rfl (pv 12) (zbb (zeR (pv 8) Wv (λ_ _=>rfl)) (zcj (pv 3))) (λ_ _=>rfl) (zbb (zeR (pv 8) Wv (λ_ _=>rfl)) (zcj (pv 2))) (zbb (zeR (pv 8) Wv (λ_ _=>rfl)) (zcj (pv 2))) (λ_=>rfl) rfl rfl rfl) yF)
  exact zg (ye (yL (bd (av 2) (bd (av 3) (bd (av 9) (bd (av 5) (bd (av 10) (bd (av 7) zy)))))))))
theorem zaL(T:Txt K kd mg t)(hkd:KD1 P w K kd):FnOk P w K mg base CX0 1 t.zaT t.zbh ["_law_algebra_here","_law_step_here","_law_value"] (spD K kd yr):=by
 refine wA (N:=zdR) (k:=0) (c:=zeh) T.Wb Vu λcdv A outer s H E hr=>?_
 exact(by
  refine zu ?_ ?_;exact(xZ (tc hkd hr (ax hkd (av 1) aI) aS) (zg (ye (ax hkd (ax hkd (ax hkd (av 0) aI) (ax hkd (av 1) aI)) (av 2)))) yF)
  refine zu ?_ ?_;exact(xZ (tc hkd hr (ax hkd (av 1) aI) aS) (zg (ye (ax hkd (ax hkd (ax hkd (av 0) aI) (av 2)) (ax hkd (av 1) aI)))) yF)
  refine zu ?_ ?_;exact(wg PassesOwn.never rfl (Xp (ax hkd (av 0) aI)) (vW rfl (zU (an 3 Vu.nd) (zU (an 4 Vu.nd) wO rfl) rfl) rfl rfl) (zg (xZ (tc hkd hr (av 3) (ax hkd (av 1) aI)) (zg (ye (ax hkd (ax hkd (av 4) (ax hkd (av 1) aI)) (av 2)))) yF)) (λ_=>rfl))
  exact zg (ye aZ))
theorem zcU(T:Txt K kd mg t)(hkd:KD1 P w K kd):FnOk P w K mg base CX0 1 t.W7 t.Vf ["_law_algebra_here"] (spD K kd wW):=by
 refine wA (N:=Vv) (k:=0) (c:=zdh) T.WQ wZ λcdv A outer s H E hr=>?_
 exact(by
  refine sj 1 wZ.nd ?_ ?_;exact(yS zy)
  refine zu ?_ ?_;exact(wg PassesOwn.never rfl (wR rfl T.ym (bc (ax hkd (av 0) aI) zf) rfl) (an 2 wZ.nd) (zg (by refine sv true 1 wZ.nd ?_;exact(bn (av 1) (yS (bd (yL (bd aS (bd (av 2) zy))) (bd (yL (bd aS (bd (av 2) zy))) zy)))))) (λ_=>rfl))
  refine zu ?_ ?_;exact(wg PassesOwn.never rfl (Xp (ax hkd (av 0) aI)) (vW rfl (zU (an 3 wZ.nd) (zU (an 4 wZ.nd) wO rfl) rfl) rfl rfl) (zg (by refine sv true 1 wZ.nd ?_;exact(bn (av 1) (yu (N:=["_law_c","_law_name"]) (cap:=[none,some 3]) (S:=[0]) rfl (yq rfl T.ym (bc (ax hkd (av 0) aI) zf) rfl) rfl (by change xG _ Vv _ (zj Yg).names _=true;decide +kernel) (by decide) (λcl s H fp=>(an 0 zeq)) (λcl s H fp=>yo) (λcl s H fp=>(yL (bd aS (bd (av 1) (bd (av 0) zy))))) (λ_=>rfl))))) (λ_=>rfl))
  exact zg (ye (av 1)))
theorem zjd(T:Txt K kd mg t)(hkd:KD1 P w K kd):FnOk P w K mg base CX0 1 t.zaX t.zaP ["_law_algebra_here","_law_value"] (spD K kd ZQ):=by
 refine wA (N:=zaD) (k:=0) (c:=zeo) T.zdU zij λcdv A outer s H E hr=>?_
 exact(zg (ye (by_ zfD T.zdA Bt.tuple (bc (yu (N:=["_law_name","_law_values","_law_value"]) (cap:=[none,none,some 1]) (S:=[0,1]) rfl (Zr (ax hkd (av 0) aI)) rfl (by change xG _ zaD _ (zj YX).names _=true;decide +kernel) (by decide) (λcl s H fp=>(vW rfl (zU (an 0 zay) (zU (an 1 zay) wO rfl) rfl) rfl rfl)) (λcl s H fp=>yo) (λcl s H fp=>(zct (Xo (hkd _ rfl rfl rfl) (Xv hr) .In) (av 2) (av 1) rfl)) (λ_=>rfl)) zf))))
theorem Vb(T:Txt K kd mg t)(hkd:KD1 P w K kd):FnOk P w K mg base CX0 1 t.YH t.YW ["_law_keys"] (spD K kd xJ):=by
 refine wA (N:=YT) (k:=0) (c:=VM) T.YS Yn λcdv A outer s H E hr=>?_
 exact(by
  refine sj 1 Yn.nd ?_ ?_;exact(yS zy)
  refine zu ?_ ?_;exact(wg PassesOwn.never rfl (Xp (av 0)) (an 2 Yn.nd) (zg (xZ (zhp (Xo (hkd _ rfl rfl rfl) (Xv hr) .NotIn) (zdB .NotIn) (av 2) (av 1) rfl) (zg (wH (vA xm vV PySem.F.slot_list_append PySem.F.type_list_append (pv 1) (bd (av 2) zy) rfl rfl rfl rfl rfl) rfl)) yF)) (λ_=>rfl))
  exact zg (ye (yu (N:=["_law_key","_law_known"]) (cap:=[none,some 1]) (S:=[0]) rfl (Zr (av 0)) rfl (by change xG _ YT _ (zj vD).names _=true;decide +kernel) (by decide) (λcl s H fp=>(an 0 zbO)) (λcl s H fp=>yo) (λcl s H fp=>(zdE (ty:=.lst) (hkd _ rfl rfl rfl) (zeH (hkd _ rfl rfl rfl) (Xv hr)) PySem.F.plainAttrs_list PySem.F.slot_list_index PySem.F.type_list_index (av 1) (bc (av 0) zf) rfl rfl rfl rfl rfl)) (λ_=>rfl))))
theorem zhc(T:Txt K kd mg t)(hkd:KD1 P w K kd):FnOk P w K mg base CX0 2 t.X6 t.Wl ["_law_algebra_here"] (spD K kd Zw):=by
 refine wA (N:=Ys) (k:=1) (c:=zbk) T.zbU wN λcdv A outer s H E hr=>?_
 exact(by
  refine sj 1 wN.nd ?_ ?_;exact(ck (zcU T hkd) hr T.wW T.WQ.kp T.zcM (bc (av 0) zf))
  refine sj 2 wN.nd ?_ ?_;exact(yS (bd (zlZ (ck (Vb T hkd) hr T.xJ T.YS.kp T.VB (bc (yu (N:=["_law_v","_law_algebra_here"]) (cap:=[none,some 0]) (S:=[0]) rfl (yq rfl T.ym (bc (ax hkd (av 0) aI) zf) rfl) rfl (by change xG _ Ys _ (zj vJ).names _=true;decide +kernel) (by decide) (λcl s H fp=>(an 0 zdr)) (λcl s H fp=>yo) (λcl s H fp=>(ck (zjd T hkd) hr T.ZQ T.zdU.kp T.ziU (bc (av 1) (bc (av 0) zf)))) (λ_=>rfl)) zf))) zy))
  refine zu ?_ ?_;exact(wg PassesOwn.never rfl (wR rfl T.ym (bc (ax hkd (av 0) aI) zf) rfl) (an 3 wN.nd) (by
  refine sj 4 wN.nd ?_ ?_;exact(ax hkd (av 2) (zpo zrO aI))
  refine sj 5 wN.nd ?_ ?_;exact(yS zy)
  refine zu ?_ ?_;exact(wg PassesOwn.never rfl (wR rfl T.ym (bc (ax hkd (av 0) aI) zf) rfl) (an 6 wN.nd) (zg (wH (vA xm vV PySem.F.slot_list_append PySem.F.type_list_append (pv 5) (bd (zlZ (bn (yL (bd (ax hkd (av 4) (av 6)) zy)) (by_ zfD T.zdA Bt.tuple (bc (yu (N:=["_law_step_here","_law_last","_law_algebra_here","_law_v"]) (cap:=[none,some 4,some 0,some 6]) (S:=[0]) rfl (Zr (av 1)) rfl (by change xG _ Ys _ (zj vJ).names _=true;decide +kernel) (by decide) (λcl s H fp=>(an 0 zdo)) (λcl s H fp=>yo) (λcl s H fp=>(ax hkd (av 1) (ck (zaL T hkd) hr T.yr T.Wb.kp T.zaK (bc (av 2) (bc (av 0) (bc (av 3) zf)))))) (λ_=>rfl)) zf)))) zy) rfl rfl rfl rfl rfl) rfl)) (λ_=>rfl))
  exact zg (wH (vA xm vV PySem.F.slot_list_append PySem.F.type_list_append (pv 2) (bd (zlZ (ck (Vb T hkd) hr T.xJ T.YS.kp T.VB (bc (av 5) zf))) zy) rfl rfl rfl rfl rfl) rfl)) (λ_=>rfl))
  exact zg (ye (av 2)))
theorem zhj(T:Txt K kd mg t)(hkd:KD1 P w K kd):FnOk P w K mg base CX0 1 t.Wr t.Ww ["_law_cell","_law_base","_law_many"] (spD K kd Zu):=by
 refine wA (N:=zbB) (k:=0) (c:=zbD) T.zbL Z2 λcdv A outer s H E hr=>?_
 exact(by
  refine sj 3 Z2.nd ?_ ?_;exact(yS zy)
  refine zu ?_ ?_;exact(wg PassesOwn.never rfl (wR rfl T.ym (bc (av 2) zf) rfl) (an 4 Z2.nd) (by
  refine zu ?_ ?_;exact(wH (vA xm vV PySem.F.slot_list_append PySem.F.type_list_append (pv 3) (bd (bn (av 0) (av 1)) zy) rfl rfl rfl rfl rfl) rfl)
  exact zg (by refine sv true 0 Z2.nd ?_;exact(bn (av 0) (av 1)))) (λ_=>rfl))
  exact zg (ye (av 3)))
theorem zdp(T:Txt K kd mg t)(hkd:KD1 P w K kd):FnOk P w K mg base CX0 2 t.Yl t.Yi ["_law_algebra_here","_law_cell"] (spD K kd vf):=by
 refine wA (N:=v8) (k:=1) (c:=WM) T.WK yz λcdv A outer s H E hr=>?_
 exact(by
  refine zu ?_ ?_;exact(zjt (av 0) (vW rfl (zU (an 2 yz.nd) (zU (an 3 yz.nd) (zU (an 4 yz.nd) (zU (an 5 yz.nd) (zU (an 6 yz.nd) (zU (an 7 yz.nd) wO rfl) rfl) rfl) rfl) rfl) rfl) rfl rfl) rfl rfl rfl)
  refine sj 8 yz.nd ?_ ?_;exact(ck (zhj T hkd) hr T.Zu T.zbL.kp T.zgW (bc (av 1) (bc (av 2) (bc (bn (bn aI (bn (av 2) (av 2))) (bn (bn (av 2) (av 3)) (bi (vq (hkd _ rfl rfl rfl)) T.WR Bt.len (bc (av 6) zf)))) zf))))
  refine zu ?_ ?_;exact(zai (z:=true) (i:=9) (N:=["_law_a","_law_digits_here","_law_n"]) (cap:=[none,some 8,some 2]) (S:=[0]) yz.nd rfl (by exact Or.inl rfl) (by exact Or.inr rfl) rfl rfl (yq rfl T.ym (bc (av 2) zf) rfl) rfl (by change xG _ v8 _ (zj wD).names _=true;decide +kernel) (by decide) (λcl s H fp=>(an 0 zaN)) (λcl s H fp=>yo) (λcl s H fp=>(XD (av 1) (Zt (bn aI (bn (av 2) (av 0)))) (Zt (bn (bn aI (bn (av 2) (av 0))) (av 2))))) (λ_=>rfl))
  refine sj 10 yz.nd ?_ ?_;exact(yS zy)
  refine zu ?_ ?_;exact(wg PassesOwn.never rfl (wR rfl T.ym (bc (bi (vq (hkd _ rfl rfl rfl)) T.WR Bt.len (bc (av 6) zf)) zf) rfl) (an 11 yz.nd) (by
  refine sj 12 yz.nd ?_ ?_;exact(bn (bn aI (bn (av 2) (av 2))) (bn (bn (av 2) (av 3)) (av 11)))
  exact zg (wH (vA xm vV PySem.F.slot_list_append PySem.F.type_list_append (pv 10) (bd (yL (bd (ax hkd (ax hkd (av 6) (av 11)) aI) (bd (yu (N:=["_law_c","_law_digits_here","_law_at","_law_n"]) (cap:=[none,some 8,some 12,some 2]) (S:=[0]) rfl (yq rfl T.ym (bc (av 3) zf) rfl) rfl (by change xG _ v8 _ (zj wD).names _=true;decide +kernel) (by decide) (λcl s H fp=>(an 0 zaO)) (λcl s H fp=>yo) (λcl s H fp=>(XD (av 1) (Zt (bn (av 2) (bn (av 3) (av 0)))) (Zt (bn (bn (av 2) (bn (av 3) (av 0))) (av 3))))) (λ_=>rfl)) zy))) zy) rfl rfl rfl rfl rfl) rfl)) (λ_=>rfl))
  exact zg (ye (yL (bd (av 2) (bd (av 3) (bd (av 9) (bd (ax hkd (av 8) aI) (bd (av 10) (bd (av 7) zy)))))))))
theorem zgk(T:Txt K kd mg t)(hkd:KD1 P w K kd):FnOk P w K mg base CX0 7 t.zck t.zcv ["_law_script"] (spD K kd ZR):=by
 refine wA (N:=zfL) (k:=6) (c:=zga) T.zcf zaU λcdv A outer s H E hr=>?_
 exact(by
  refine sj 1 zaU.nd ?_ ?_;exact(ck (ZZ T hkd) hr T.yH T.v5.kp T.Z1 (bc (av 0) (bc aI zf)))
  refine sj 2 zaU.nd ?_ ?_;exact(ck (zfx T hkd) hr T.vz T.zaz.kp T.zfq (bc (ck (ZZ T hkd) hr T.yH T.v5.kp T.Z1 (bc (av 0) (bc aI zf))) (bc (ck (ZZ T hkd) hr T.yH T.v5.kp T.Z1 (bc (av 0) (bc aI zf))) zf)))
  refine zu ?_ ?_;exact(xZ (tc hkd hr (bn (av 1) aI) aI) (zg (ye (ck (zdp T hkd) hr T.vf T.WK.kp T.zdt (bc (av 2) (bc (bn (av 1) aI) zf))))) yF)
  exact zg (ye (ck (zjg T hkd) hr T.YL T.zeG.kp T.zjc (bc (av 2) (bc (bn (av 1) aI) zf)))))
theorem zix(T:Txt K kd mg t)(hkd:KD1 P w K kd):FnOk P w K mg base CX0 2 t.Vi t.Vm ["_law_n","_law_cell"] (spD K kd Z5):=by
 refine wA (N:=Xa) (k:=1) (c:=zcJ) T.zcZ zgr λcdv A outer s H E hr=>?_
 exact(by
  refine zu ?_ ?_;exact(xZ (tc hkd hr (av 0) aI) (zg (ye (yu (N:=["_law_k","_law_n"]) (cap:=[none,some 0]) (S:=[0]) rfl (yq rfl T.ym (bc (bn (av 0) (av 0)) zf) rfl) rfl (by change xG _ Xa _ (zj Zf).names _=true;decide +kernel) (by decide) (λcl s H fp=>(an 0 zfe)) (λcl s H fp=>yo) (λcl s H fp=>(yL (bd (bn (av 0) (av 1)) (bd (bn (av 0) (av 1)) zy)))) (λ_=>rfl)))) yF)
  exact zg (ye (yu (N:=["_law_x","_law_n"]) (cap:=[none,some 0]) (S:=[0]) rfl (Zr (ck (wK T hkd) hr T.zX T.wj.kp T.wF (bc (av 1) (bc aI zf)))) rfl (by change xG _ Xa _ (zj Zf).names _=true;decide +kernel) (by decide) (λcl s H fp=>(an 0 zeO)) (λcl s H fp=>yo) (λcl s H fp=>(yL (bd (bn (av 0) (av 1)) (bd (bn (bn (av 0) (av 1)) (av 1)) zy)))) (λ_=>rfl))))
theorem Xu(T:Txt K kd mg t)(hkd:KD1 P w K kd):FnOk P w K mg base CX0 2 t.ZJ t.ZV ["_law_algebra_here","_law_found","_law_one","_law_other","_law_least"] (spD K kd yx):=by
 refine wA (N:=Xx) (k:=1) (c:=XJ) T.ZK xM λcdv A outer s H E hr=>?_
 exact(by
  refine zu ?_ ?_;exact(xZ (AW.at_ (zdZ (tc hkd hr (bi (vq (hkd _ rfl rfl rfl)) T.WR Bt.len (bc (av 1) zf)) aI) (zdZ (tc hkd hr (ax hkd (av 1) aI) aS) (zdZ (zeX (zci (zho (hkd _ rfl rfl rfl) rfl rfl T.Yr Bt.isinstance rfl T.zbd Bt.list (ax hkd (av 1) aI) (Bt.n _ rfl) (by decide) (Bt.n _ rfl) (by decide) rfl rfl rfl) (λ_=>rfl))) (zag (tc hkd hr (bi (vq (hkd _ rfl rfl rfl)) T.WR Bt.len (bc (ax hkd (av 1) aI) zf)) (av 4))))))) (zg (ye aB)) yF)
  refine sj 5 xM.nd ?_ ?_;exact(ck (zcU T hkd) hr T.wW T.WQ.kp T.zcM (bc (av 0) zf))
  refine zu ?_ ?_;exact(wg PassesOwn.never rfl (Xp (ax hkd (av 1) aI)) (an 6 xM.nd) (by
  refine zu ?_ ?_;exact(xZ (AW.at_ (zdZ (zeX (zci (zho (hkd _ rfl rfl rfl) rfl rfl T.Yr Bt.isinstance rfl T.zdA Bt.tuple (av 6) (Bt.n _ rfl) (by decide) (Bt.n _ rfl) (by decide) rfl rfl rfl) (λ_=>rfl))) (zdZ (zhp (Xo (hkd _ rfl rfl rfl) (Xv hr) .NotIn) (zdB .NotIn) (av 6) (av 5) rfl) (zag (zci (zho (hkd _ rfl rfl rfl) rfl rfl T.Yr Bt.isinstance rfl T.zpN Bt.bool (ax hkd (av 6) (zpo zrO aI)) (Bt.n _ rfl) (by decide) (Bt.n _ rfl) (by decide) rfl rfl rfl) (λ_=>rfl)))))) (zg (ye aB)) yF)
  refine sj 2 xM.nd ?_ ?_;exact(ck (zaL T hkd) hr T.yr T.Wb.kp T.zaK (bc (av 0) (bc (av 6) (bc (av 2) zf))))
  exact zg (by refine sv true 3 xM.nd ?_;exact(ck (zaL T hkd) hr T.yr T.Wb.kp T.zaK (bc (av 0) (bc (av 6) (bc (av 3) zf)))))) (λ_=>rfl))
  refine zu ?_ ?_;exact(wg PassesOwn.never rfl (Xp (ax hkd (av 0) aI)) (vW rfl (zU (an 7 xM.nd) (zU (an 8 xM.nd) wO rfl) rfl) rfl rfl) (zg (xZ (tc hkd hr (av 7) (ax hkd (av 1) aI)) (zg (ye (ec hkd hr (zct (Xo (hkd _ rfl rfl rfl) (Xv hr) .In) (av 2) (av 8) rfl) (zct (Xo (hkd _ rfl rfl rfl) (Xv hr) .In) (av 3) (av 8) rfl)))) yF)) (λ_=>rfl))
  exact zg (ye aB))
theorem o_law(T:Txt K kd mg t)(hkd:KD1 P w K kd):FnOk P w K mg base CX0 8 t.zmT t.znn ["_law_script"] (spD K kd zew):=by
 refine wA (N:=zlU) (k:=7) (c:=zpz) T.zrE VG λcdv A outer s H E hr=>?_
 exact(by
  refine sj 1 VG.nd ?_ ?_;exact(ck (zgk T hkd) hr T.ZR T.zcf.kp T.zfK (bc (av 0) zf))
  refine sj 2 VG.nd ?_ ?_;exact(ck (zgk T hkd) hr T.ZR T.zcf.kp T.zfK (bc (av 0) zf))
  refine sj 3 VG.nd ?_ ?_;exact(ck (zhc T hkd) hr T.Zw T.zbU.kp T.zgs (bc (av 2) zf))
  refine zu ?_ ?_;exact(wg PassesOwn.never rfl (Xp (ck (zix T hkd) hr T.Z5 T.zcZ.kp T.zhy (bc (ax hkd (av 1) aI) (bc (ck (ZZ T hkd) hr T.yH T.v5.kp T.Z1 (bc (av 0) (bc aI zf))) zf)))) (vW rfl (zU (an 4 VG.nd) (zU (an 5 VG.nd) wO rfl) rfl) rfl rfl) (by
  refine zu ?_ ?_;exact(zai (z:=true) (i:=6) (N:=["_law_k","_law_one","_law_other","_law_levels_here"]) (cap:=[none,some 4,some 5,some 3]) (S:=[0]) VG.nd rfl (by exact Or.inl rfl) (by exact Or.inr rfl) rfl rfl (yq rfl T.ym (bc (bi (vq (hkd _ rfl rfl rfl)) T.WR Bt.len (bc (av 3) zf)) zf) rfl) rfl (by change xG _ zlU _ (zj ziv).names _=true;decide +kernel) (by decide) (λcl s H fp=>(an 0 zlM)) (λcl s H fp=>(zku (tc hkd hr (ax hkd (ax hkd (av 3) (av 0)) (av 1)) (ax hkd (ax hkd (av 3) (av 0)) (av 2))))) (λcl s H fp=>(av 0)) (λ_=>rfl))
  refine sj 7 VG.nd ?_ ?_;exact(ck (zbH T hkd) hr T.xg T.Wc.kp T.zbW (bc (av 1) (bc (av 4) (bc (av 5) zf))))
  refine zu ?_ ?_;exact(xZ (AW.at_ (zdZ (zeX (zci (zho (hkd _ rfl rfl rfl) rfl rfl T.Yr Bt.isinstance rfl T.zdA Bt.tuple (av 7) (Bt.n _ rfl) (by decide) (Bt.n _ rfl) (by decide) rfl rfl rfl) (λ_=>rfl))) (zag (tc hkd hr (av 1) (av 2))))) (zg (ye aB)) yF)
  refine zu ?_ ?_;exact(xZ (AW.at_ (zgy (tc hkd hr (av 6) (yS zy)) (X5 (tc hkd hr (av 7) (yL (bd aS zy)))))) (zg (ye aB)) yF)
  refine zu ?_ ?_;exact(xZ (AW.at_ (zgy (tc hkd hr (av 6) (yS zy)) (X5 (zeX (zci (ck (Xu T hkd) hr T.yx T.ZK.kp T.XF (bc (av 2) (bc (av 7) (bc (av 4) (bc (av 5) (bc (ax hkd (av 6) aI) zf)))))) (λ_=>rfl)))))) (zg (ye aB)) yF)
  exact zg (xZ (tc hkd hr (av 6) (yS zy)) (by
  refine zu ?_ ?_;exact(zou (pv 7) zfc (λ_ _=>rfl) (bd (yL (bd aS (bd aI zy))) zy) rfl rfl rfl rfl rfl rfl)
  exact zg (xZ (zeX (zci (ck (Xu T hkd) hr T.yx T.ZK.kp T.XF (bc (av 2) (bc (ck (zbH T hkd) hr T.xg T.Wc.kp T.zbW (bc (av 1) (bc (av 4) (bc (av 5) zf)))) (bc (av 4) (bc (av 5) (bc (ax hkd (av 6) aI) zf)))))) (λ_=>rfl))) (zg (ye aB)) yF)) yF)) (λ_=>rfl))
  exact zg (ye aB))
end
abbrev NsR(K:zC)(x:Str)(f:Addr):Prop:=PySem.W.nsIn K mainGlobals x=some (some (.ref f))
abbrev FnAt(K:zC)(x q:Str)(s:Stmt)(f:Addr):Prop:=∃d,Fun K x q s f d
theorem zpL{l:PySem.W.OpenLaw}{w:World}{K:zC}{h:Heap}{mg:Str->Option Value}{fa:Addr}(X:K.In h)(G:h.Ns mainGlobals mg)(hfa:mg "law"=some (.ref fa))
 {f0 f1 f2 f3 f4 f5 f6 f7 f8 f9 f10 f11 f12 f13 f14 f15 f16 f17 f18 f19 f20 f21 f22 f23 f24 f25 f26 f27 f28 f29 f30:Addr}
 (a0:NsR K "all_steps" f0) (l0:FnAt K "all_steps" "all_steps" vG f0)
 (a1:NsR K "telling_sign" f1) (l1:FnAt K "telling_sign" "telling_sign" Zn f1)
 (a2:NsR K "told_apart" f2) (l2:FnAt K "told_apart" "told_apart" Yx f2)
 (a3:NsR K "_law_cell_at" f3) (l3:FnAt K "_law_cell_at" "_law_cell_at" Z3 f3)
 (a4:NsR K "_law_whole" f4) (l4:FnAt K "_law_whole" "_law_whole" Vz f4)
 (a5:NsR K "_law_stream" f5) (l5:FnAt K "_law_stream" "_law_stream" Yw f5)
 (a6:NsR K "_law_names" f6) (l6:FnAt K "_law_names" "_law_names" Yh f6)
 (a7:NsR K "_law_divisor" f7) (l7:FnAt K "_law_divisor" "_law_divisor" Z0 f7)
 (a8:NsR K "_law_sums" f8) (l8:FnAt K "_law_sums" "_law_sums" YK f8)
 (a9:NsR K "_law_rising" f9) (l9:FnAt K "_law_rising" "_law_rising" vP f9)
 (a10:NsR K "_law_kept" f10) (l10:FnAt K "_law_kept" "_law_kept" ZX f10)
 (a11:NsR K "_law_joins" f11) (l11:FnAt K "_law_joins" "_law_joins" wJ f11)
 (a12:NsR K "_law_rows" f12) (l12:FnAt K "_law_rows" "_law_rows" YM f12)
 (a13:NsR K "_law_plain" f13) (l13:FnAt K "_law_plain" "_law_plain" Z8 f13)
 (a14:NsR K "_law_beside" f14) (l14:FnAt K "_law_beside" "_law_beside" Zx f14)
 (a15:NsR K "_law_made" f15) (l15:FnAt K "_law_made" "_law_made" Wq f15)
 (a16:NsR K "_law_order" f16) (l16:FnAt K "_law_order" "_law_order" Y9 f16)
 (a17:NsR K "_law_signs" f17) (l17:FnAt K "_law_signs" "_law_signs" Z6 f17)
 (a18:NsR K "_law_algebra" f18) (l18:FnAt K "_law_algebra" "_law_algebra" wM f18)
 (a19:NsR K "_law_bent" f19) (l19:FnAt K "_law_bent" "_law_bent" ZP f19)
 (a20:NsR K "_law_step" f20) (l20:FnAt K "_law_step" "_law_step" Wn f20)
 (a21:NsR K "_law_steps" f21) (l21:FnAt K "_law_steps" "_law_steps" Yg f21)
 (a22:NsR K "_law_held" f22) (l22:FnAt K "_law_held" "_law_held" YX f22)
 (a23:NsR K "_law_numbered" f23) (l23:FnAt K "_law_numbered" "_law_numbered" vD f23)
 (a24:NsR K "_law_levels" f24) (l24:FnAt K "_law_levels" "_law_levels" vJ f24)
 (a25:NsR K "_law_digits" f25) (l25:FnAt K "_law_digits" "_law_digits" Yt f25)
 (a26:NsR K "_law_by_digits" f26) (l26:FnAt K "_law_by_digits" "_law_by_digits" wD f26)
 (a27:NsR K "_law_any" f27) (l27:FnAt K "_law_any" "_law_any" V8 f27)
 (a28:NsR K "_law_pairs" f28) (l28:FnAt K "_law_pairs" "_law_pairs" Zf f28)
 (a29:NsR K "_law_frame_good" f29) (l29:FnAt K "_law_frame_good" "_law_frame_good" vM f29)
 (a30:NsR K "law" f30) (l30:FnAt K "law" "law" ziv f30)
 (z0:PySem.W.nsIn K mainGlobals "bool"=some none) (z1:PySem.W.nsIn K mainGlobals "enumerate"=some none) (z2:PySem.W.nsIn K mainGlobals "int"=some none) (z3:PySem.W.nsIn K mainGlobals "isinstance"=some none) (z4:PySem.W.nsIn K mainGlobals "len"=some none) (z5:PySem.W.nsIn K mainGlobals "list"=some none) (z6:PySem.W.nsIn K mainGlobals "max"=some none) (z7:PySem.W.nsIn K mainGlobals "range"=some none) (z8:PySem.W.nsIn K mainGlobals "sorted"=some none) (z9:PySem.W.nsIn K mainGlobals "tuple"=some none) (z10:PySem.W.nsIn K mainGlobals "zip"=some none):
 ∃fd:FuncData,(∀(s:Shared) (v:Value),BindsTo s fd ⟨[v],[]⟩ [("_law_script",v)])/\∀base:Heap,K.In base->base.Ns mainGlobals mg->FnOk l.prog w K mg base CX0 8 fa fd ["_law_script"] (spL K zew):=by
 have e:=hfa.symm.trans (PySem.W.mg_of X G a30)
 cases e
 obtain⟨_,F0⟩:=l0
 obtain⟨_,F1⟩:=l1
 obtain⟨_,F2⟩:=l2
 obtain⟨_,F3⟩:=l3
 obtain⟨_,F4⟩:=l4
 obtain⟨_,F5⟩:=l5
 obtain⟨_,F6⟩:=l6
 obtain⟨_,F7⟩:=l7
 obtain⟨_,F8⟩:=l8
 obtain⟨_,F9⟩:=l9
 obtain⟨_,F10⟩:=l10
 obtain⟨_,F11⟩:=l11
 obtain⟨_,F12⟩:=l12
 obtain⟨_,F13⟩:=l13
 obtain⟨_,F14⟩:=l14
 obtain⟨_,F15⟩:=l15
 obtain⟨_,F16⟩:=l16
 obtain⟨_,F17⟩:=l17
 obtain⟨_,F18⟩:=l18
 obtain⟨_,F19⟩:=l19
 obtain⟨_,F20⟩:=l20
 obtain⟨_,F21⟩:=l21
 obtain⟨_,F22⟩:=l22
 obtain⟨_,F23⟩:=l23
 obtain⟨_,F24⟩:=l24
 obtain⟨_,F25⟩:=l25
 obtain⟨_,F26⟩:=l26
 obtain⟨_,F27⟩:=l27
 obtain⟨_,F28⟩:=l28
 obtain⟨_,F29⟩:=l29
 obtain⟨_,F30⟩:=l30
 obtain⟨_,_,_,_,_,_,_,_,_,rfl,_,_⟩:=F30.ex
 let KL:List (Addr×List (Key×V)):=[]
 have hkd:KD1 l.prog w K (kdL KL):=zqO λp m=>by
  exact absurd (show p ∈ ([]:List (Addr×List (Key×V)))from m) zyX
 have T:Txt K (kdL KL) mg ⟨_,_,_,_,_,_,_,_,_,_,_,_,_,_,_,_,_,_,_,_,_,_,_,_,_,_,_,_,_,_,_,_,_,_,_,_,_,_,_,_,_,_,_,_,_,_,_,_,_,_,_,_,_,_,_,_,_,_,_,_,_,_⟩:=⟨F0,bs F0,PySem.W.mg_of X G a0,F1,bs F1,PySem.W.mg_of X G a1,F2,bs F2,PySem.W.mg_of X G a2,F3,bs F3,PySem.W.mg_of X G a3,F4,bs F4,PySem.W.mg_of X G a4,F5,bs F5,PySem.W.mg_of X G a5,F6,bs F6,PySem.W.mg_of X G a6,F7,bs F7,PySem.W.mg_of X G a7,F8,bs F8,PySem.W.mg_of X G a8,F9,bs F9,PySem.W.mg_of X G a9,F10,bs F10,PySem.W.mg_of X G a10,F11,bs F11,PySem.W.mg_of X G a11,F12,bs F12,PySem.W.mg_of X G a12,F13,bs F13,PySem.W.mg_of X G a13,F14,bs F14,PySem.W.mg_of X G a14,F15,bs F15,PySem.W.mg_of X G a15,F16,bs F16,PySem.W.mg_of X G a16,F17,bs F17,PySem.W.mg_of X G a17,F18,bs F18,PySem.W.mg_of X G a18,F19,bs F19,PySem.W.mg_of X G a19,F20,bs F20,PySem.W.mg_of X G a20,F21,bs F21,PySem.W.mg_of X G a21,F22,bs F22,PySem.W.mg_of X G a22,F23,bs F23,PySem.W.mg_of X G a23,F24,bs F24,PySem.W.mg_of X G a24,F25,bs F25,PySem.W.mg_of X G a25,F26,bs F26,PySem.W.mg_of X G a26,F27,bs F27,PySem.W.mg_of X G a27,F28,bs F28,PySem.W.mg_of X G a28,F29,bs F29,PySem.W.mg_of X G a29,F30,bs F30,PySem.W.mg_of X G a30,PySem.W.mg_none_of X G z0,PySem.W.mg_none_of X G z1,PySem.W.mg_none_of X G z2,PySem.W.mg_none_of X G z3,PySem.W.mg_none_of X G z4,PySem.W.mg_none_of X G z5,PySem.W.mg_none_of X G z6,PySem.W.mg_none_of X G z7,PySem.W.mg_none_of X G z8,PySem.W.mg_none_of X G z9,PySem.W.mg_none_of X G z10⟩
 exact⟨_,λs v=>.of_eq rfl,λbase _ _=>(o_law T hkd).imp λvs H Q E h=>h _⟩
theorem walk{l:PySem.W.OpenLaw}{q:Program}{loose:List Str}{XP:(Str->Option Value)->Heap->Prop}{YP:World->Heap->Prop}{d:DefRec}{K:Params->zC}(hn:l.most=some 63)(hdf:d.params.defaults=[])
 (hY:∀(w:World) (h:Heap),YP w h->(K w.params).In h) (hm:∀ns:List Int,ns.length<=63->zew [(true,.lst (ns.map D.int))]=some (.lf true (.bl true)))
 (F:∀(w:World) (mg:Str->Option Value) (fa:Addr) (h:Heap),(K w.params).In h->h.Ns mainGlobals mg->mg d.name=some (.ref fa)->
  ∃fd:FuncData,(∀(s:Shared) (u:Value),BindsTo s fd ⟨[u],[]⟩ [("_law_script",u)])/\∀base:Heap,(K w.params).In base->base.Ns mainGlobals mg->FnOk l.prog w (K w.params) mg base CX0 8 fa fd ["_law_script"] (spL (K w.params) zew)):
 PySem.W.WalkO q loose XP YP l.row.toRowW d [] (λf vs=>PySem.call f vs):=
 L2.walk_of (n:=63) (k:=8) (x:="_law_script") (CX:=λ_=>CX0) (sp:=λw=>spL (K w.params) zew) hn (by decide) hdf ⟨rfl,by decide,by decide,rfl⟩ hY F (λ_ _ a ns hl _ hS kd=>zqN (hm ns hl) hS) λ_ _ _ _ _ z=>z
end G51
end
section
namespace PP
abbrev InR(n:Nat)(x:Int):Prop:=0<=x/\x<(n:Int)
theorem least{P:Nat->Prop}:∀(x:Nat),P x->∃y,P y/\y<=x/\∀z,z<y->¬P z:=λx=>by
 induction x using Nat.strongRecOn with
 |_ x ih=>
  intro h
  by_cases e:∃z,z<x/\P z
  · obtain⟨z,hz,pz⟩:=e
    obtain⟨y,h1,h2,h3⟩:=ih z hz pz
    exact⟨y,h1,by omega,h3⟩
  · exact⟨x,h,zzK _,λz hz pz=>e ⟨z,hz,pz⟩⟩
noncomputable def cnt(P:Nat->Prop):Nat->Nat
 |0=>0
 |n+1=>cnt P n + @ite Nat (P n) (Classical.propDecidable _) 1 0
theorem zpx(P:Nat->Prop):∀n,cnt P n<=n
 |0=>zzK _
 |n+1=>by
  have:=zpx P n
  unfold cnt
  split<;>omega
theorem zja{P Q:Nat->Prop}:∀n,(∀v,v<n->P v->Q v)->cnt P n<=cnt Q n
 |0,_=>zzK _
 |n+1,h=>by
  have ih:=zja n λv hv=>h v (by omega)
  unfold cnt
  by_cases p:P n
  · rw[if_pos p,if_pos (h n (by omega) p)];omega
  · rw[if_neg p];omega
theorem zmM{P Q:Nat->Prop}{v:Nat}:∀n,(∀v,v<n->P v->Q v)->v<n->Q v->¬P v->cnt P n<cnt Q n
 |0,_,hv,_,_=>absurd hv (Nat.not_lt_zero _)
 |n+1,h,hv,q,np=>by
  unfold cnt
  by_cases e:v=n
  · subst e
    have ih:=zja v λw hw=>h w (by omega)
    rw[if_neg np,if_pos q];omega
  · have ih:=zmM n (λw hw=>h w (by omega)) (by omega) q np
    by_cases p:P n
    · rw[if_pos p,if_pos (h n (by omega) p)];omega
    · rw[if_neg p];omega
section
variable{β δ:Type}{H:Int->β}{f:δ->Int->Int}{P:δ->Prop}{n:Nat}
def fr(f:δ->Int->Int)(r:List δ)(v:Int):Int:=r.foldl (λw d=>f d w) v
def Ek(H:Int->β)(f:δ->Int->Int)(P:δ->Prop)(k:Nat)(u v:Int):Prop:=∀r:List δ,(∀d ∈ r,P d)->r.length<=k->H (fr f r u)=H (fr f r v)
theorem Ek.symm{k:Nat}{u v:Int}(h:Ek H f P k u v):Ek H f P k v u:=λr hr hl=>(h r hr hl).symm
theorem Ek.trans{k:Nat}{u v w:Int}(h:Ek H f P k u v)(g:Ek H f P k v w):Ek H f P k u w:=λr hr hl=>(h r hr hl).trans (g r hr hl)
theorem Ek.refl{k:Nat}{u:Int}:Ek H f P k u u:=λ_ _ _=>rfl
theorem Ek.mono{j k:Nat}{u v:Int}(h:Ek H f P k u v)(g:j<=k):Ek H f P j u v:=λr hr hl=>h r hr (zzL hl g)
theorem Ek.succ{k:Nat}{u v:Int}:Ek H f P (k+1) u v ↔ Ek H f P k u v/\∀d,P d->Ek H f P k (f d u) (f d v):=
 ⟨λh=>⟨h.mono (zyT _),λd hd r hr hl=>h (d::r) (λx mx=>(zI.mp mx).elim (λz=>z ▸ hd) (hr x)) (Nat.succ_le_succ hl)⟩,λ⟨h,g⟩ r hr hl=>by
  cases r with
  |nil=>exact h [] hr (Nat.zero_le _)
  |cons d r=>exact g d (hr d (zzC ..)) r (λx mx=>hr x (zzA _ mx)) (Nat.le_of_succ_le_succ hl)⟩
theorem Ek.zero{u v:Int}:Ek H f P 0 u v ↔ H u=H v:=⟨λh=>h [] (λ_ m=>nomatch m) (zzK _),λh r _ hl=>by
 cases r with
 |nil=>exact h
 |cons=>exact absurd hl (Nat.not_succ_le_zero _)⟩
abbrev St(H:Int->β)(f:δ->Int->Int)(P:δ->Prop)(n k:Nat):Prop:=∀u v:Nat,u<n->v<n->Ek H f P k u v->Ek H f P (k+1) u v
abbrev Rep(H:Int->β)(f:δ->Int->Int)(P:δ->Prop)(k v:Nat):Prop:=∀u:Nat,u<v->¬Ek H f P k (u:Int) (v:Int)
theorem zmb{k:Nat}(h:¬St H f P n k):cnt (Rep H f P k) n<cnt (Rep H f P (k+1)) n:=by
 have mo:∀v,v<n->Rep H f P k v->Rep H f P (k+1) v:=λv _ hv u hu z=>hv u hu (z.mono (zyT _))
 have⟨u,v,hu,hv,e,ne⟩:∃u v:Nat,u<n/\v<n/\Ek H f P k u v/\¬Ek H f P (k+1) u v:=Classical.byContradiction λz=>h λu v hu hv e=>Classical.byContradiction λne=>z ⟨u,v,hu,hv,e,ne⟩
 obtain⟨m0,h1,h2,h3⟩:=least (P:=λw=>Ek H f P k (u:Int) (w:Int)) u .refl
 have⟨x,hx,ex,nx⟩:∃x:Nat,x<n/\Ek H f P k (u:Int) (x:Int)/\¬Ek H f P (k+1) (x:Int) (m0:Int):=by
  by_cases z:Ek H f P (k+1) (u:Int) (m0:Int)
  · exact⟨v,hv,e,λy=>ne (z.trans y.symm)⟩
  · exact⟨u,hu,.refl,z⟩
 obtain⟨w,g1,g2,g3⟩:=least (P:=λw=>Ek H f P (k+1) (x:Int) (w:Int)) x .refl
 have kw:Ek H f P k (u:Int) (w:Int):=ex.trans (g1.mono (zyT _))
 have mw:m0<w:=by
  have:m0<=w:=Nat.le_of_not_lt λz=>h3 w z kw
  rcases Nat.lt_or_eq_of_le this with z|z
  · exact z
  · exact absurd (z ▸ g1) nx
 exact zmM (v:=w) n mo (by omega) (λy hy z=>g3 y hy (g1.trans z.symm)) λz=>z m0 mw (h1.symm.trans kw)
theorem stable(n1:1<=n):∃k,k<n/\St H f P n k:=Classical.byContradiction λz=>by
 have gr:∀k,k<=n->k+1<=cnt (Rep H f P k) n:=λk=>by
  induction k with
  |zero=>
   intro _
   obtain⟨m,rfl⟩:∃m,n=m+1:=⟨n-1,by omega⟩
   have h0:cnt (λv=>v=0) (m+1)<=cnt (Rep H f P 0) (m+1):=zja _ λv _ hv u hu=>by subst hv;exact absurd hu (Nat.not_lt_zero _)
   have h1:∀j,1<=cnt (λv=>v=0) (j+1):=λj=>by
    induction j with
    |zero=>unfold cnt;rw[if_pos rfl];omega
    |succ j ih=>unfold cnt;omega
   have:=h1 m
   omega
  |succ k ih=>
   intro hk
   have:=ih (by omega)
   have:=zmb (n:=n) λh=>z ⟨k,by omega,h⟩
   omega
 have:=gr n (zzK _)
 have:=zpx (Rep H f P n) n
 omega
theorem St.more(hf:∀d v,P d->InR n v->InR n (f d v)){k:Nat}(h:St H f P n k):∀j (u v:Int),InR n u->InR n v->Ek H f P k u v->Ek H f P (k+j) u v
 |0,_,_,_,_,e=>e
 |j+1,u,v,hu,hv,e=>by
  have s:∀a b:Int,InR n a->InR n b->Ek H f P k a b->Ek H f P (k+1) a b:=λa b ha hb he=>by
   have:=h a.toNat b.toNat (by omega) (by omega)
   rw[show((a.toNat:Nat):Int)=a by omega,show((b.toNat:Nat):Int)=b by omega]at this
   exact this he
  refine Ek.succ.mpr ⟨St.more hf h j u v hu hv e,λd hd=>?_⟩
  exact St.more hf h j _ _ (hf d u hd hu) (hf d v hd hv) ((Ek.succ.mp (s u v hu hv e)).2 d hd)
theorem zpF(hf:∀d v,P d->InR n v->InR n (f d v))(n1:1<=n){u v:Int}(hu:InR n u)(hv:InR n v)(e:Ek H f P n u v)(j:Nat):Ek H f P j u v:=by
 obtain⟨k,hk,h⟩:=stable (H:=H) (f:=f) (P:=P) n1
 exact(h.more hf j u v hu hv (e.mono (by omega))).mono (by omega)
end
end PP
end
section
namespace G51
open PySem PySem.Spec PyProof.Rows L2 PF
abbrev lfI(x:Int):O:=.lf true (.int x)
abbrev sI(x:Int):Option O:=some (lfI x)
abbrev sT(d:D):Option O:=some (.lf true d)
abbrev sN(os:List O):Option O:=some (.nd .ls os)
abbrev TZ:Type:=List (List Int)
abbrev DZ:Type:=List (Str×TZ)
abbrev SS:Type:=List (Str×List Int)
theorem Wg{f:EF}{as as1:AS}{o:O}(h:f as=some (.ow o,as1))(hs:o.str=true):yP f as=some (.rt o):=by
 unfold yP;rw[h]
 show((if o.str=true then some o else none).bind _)=_
 rw[if_pos hs];rfl
theorem szs{n:Nat}(h:n<=1000000):n<=sizeLine:=zzL h (by decide)
theorem vp:∀xs:List Int,(xs.map lfI).all O.isLf=true/\O.strs (xs.map lfI)=true/\O.toDs (xs.map lfI)=xs.map D.int
 | []=>⟨rfl,rfl,rfl⟩
 |x::r=>⟨(vp r).1,(vp r).2.1,congrArg (D.int x :: ·) (vp r).2.2⟩
theorem zgZ(xs:List Int):(xs.map D.int).map (O.lf true)=xs.map lfI:=by rw[zzY];rfl
theorem zrh{as:AS}{i:Nat}{os:List O}{fl fh:OF}{lo hi:Option Int}(h:as[i]? = some (sN os))(hl:os.all O.isLf=true)(hs:O.strs os=true)(h1:fl as=some (lo,as))(h2:fh as=some (hi,as)):
 fSl (fV i) fl fh slP as=some (.ow (.nd .ls ((cutD (O.toDs os) lo hi).map (O.lf true))),as):=by
 unfold fSl
 rw[zas h];show((fl as).bind _)=_
 rw[h1];show((fh as).bind _)=_
 rw[h2];show((RV.view as (.bo i)).bind _)=_
 rw[V7 h]
 have e:(O.nd .ls os).kl=some true:=by simp only[O.kl,hl,if_true,hs]
 rw[e]
 show(wrap (some true) (.fl (cutD (O.toDs os) lo hi))).bind _=_
 show(if((cutD (O.toDs os) lo hi).all yc||true)=true then some (RV.ow (.nd .ls ((cutD (O.toDs os) lo hi).map (lfs true))))else none:Option RV).bind _=_
 rw[if_pos (by simp),zac];rfl
theorem zlg{x:D}{xs:List D}:cutD (x::xs) (some 1) none=xs:=by
 have:=zmc (xs:=[x]) (ys:=xs)
 have e:slP (.lst ([x]++xs)) (some (([x]:List D).length:Int)) none=some (.fl (cutD (x::xs) (some 1) none)):=rfl
 rw[e]at this
 injection this with this
 injection this
abbrev stB:SF:=(zE (zO true 3 (f2 (f2 (f2 (f2 yD yD zN) (f2 (fC (.int 48271)) yD zN) zF) yK zF) (fC (.int 2147483647)) zG))
 (yQ (xQ 2 (dC (f2 (f2 (f2 yD (fC (.int 40692)) zN) (f2 (fC (.int 7)) yK zN) zF) (fC (.int 2147483399)) zG) dN) xY)))
theorem ziw(ys:List Int)(w:Int):(ys++[w]).map lfI=ys.map lfI++[O.lf true (.int w)]:=by rw[zyJ];rfl
theorem zey{A B:Option O}:∀(n:Nat) (k x:Int) (ys:List Int) (e4:Option O),0<=k->k+n<=1000->0<=x->x<2 ^ 40->ys.length+n<=1000->(∀y ∈ ys,0<=y/\y<2147483399)->∃(x':Int) (zs:List Int) (e4':Option O),zs.length=ys.length+n/\(∀z ∈ zs,0<=z/\z<2147483399)/\
 forL Xz stB (vg k n) [A,B,sN (ys.map lfI),sI x,e4]=some (.nx [A,B,sN (zs.map lfI),sI x',e4'])
 |0,k,x,ys,e4,_,_,_,_,_,h=>⟨x,ys,e4,rfl,h,rfl⟩
 |n+1,k,x,ys,e4,hk,hkn,hx0,hx1,hl,h=>by
  have y0:=zyK (x*x+48271*x+k) (show(2147483647:Int)≠0 by decide)
  have y1:=zyE (x*x+48271*x+k) (show(0:Int)<2147483647 by decide)
  have w0:=zyK ((x*x+48271*x+k)%2147483647*40692+7*k) (show(2147483399:Int)≠0 by decide)
  have w1:=zyE ((x*x+48271*x+k)%2147483647*40692+7*k) (show(0:Int)<2147483399 by decide)
  obtain⟨x',zs,e4',h1,h2,h3⟩:=zey (A:=A) (B:=B) n (k+1) ((x*x+48271*x+k)%2147483647) (ys++[((x*x+48271*x+k)%2147483647*40692+7*k)%2147483399]) (sI k) (by omega) (by omega) y0 (Int.lt_trans y1 (by decide)) (by rw[zzG];show ys.length+1+n<=_;omega) (λz m=>by
   rcases zzJ.mp m with m|m
   · exact h z m
   · rw[zzO.mp m];exact⟨w0,w1⟩)
  refine⟨x',zs,e4',by rw[h1,zzG];show ys.length+1+n=_;omega,h2, ?_⟩
  rw[ziw]at h3
  rw[zcc]
  have bx:x.natAbs<big:=yh (Int.lt_of_lt_of_le (by decide) hx0) (Int.lt_trans hx1 (by decide))
  have bk:k.natAbs<big:=yh (by omega) (by omega)
  exact vN (as1:=[A,B,sN (ys.map lfI),sI x,sI k]) rfl (zT (xF (i:=3) (yJ (xR (xR (wL (za rfl) (za rfl) bx bx) (wL zb (za rfl) (yh (by decide) (by decide)) bx)) (za rfl)) zb (by decide)) (zB rfl))
   (zeQ (i:=2) rfl (by rw[zD];exact ZL (by omega)) (yJ (xR (wL (za rfl) zb (yh (Int.lt_of_lt_of_le (by decide) y0) (Int.lt_trans y1 (by decide))) (yh (by decide) (by decide))) (wL zb (za rfl) (yh (by decide) (by decide)) bk)) zb (by decide)))) h3
theorem zkV{s:Bool}{c m:Int}(h0:0<=m)(h1:m<=900):∃xs:List Int,(xs.length:Int)=m/\(∀x ∈ xs,0<=x/\x<2147483399)/\zX [(true,.int c),(true,.int m)]=sN (xs.map lfI):=by
 have y0:=zyK c (show(2147483647:Int)≠0 by decide)
 have y1:=zyE c (show(0:Int)<2147483647 by decide)
 obtain⟨x',zs,e4,z1,z2,hf⟩:=zey (A:=sI c) (B:=sI m) (m+1).toNat 0 (c%2147483647+48271) [] none (by omega) (by omega) (by omega) (by omega) (by show 0+_<=_;omega) (λ_ m=>nomatch m)
 cases zs with
 |nil=>rw[List.length_nil]at z1;simp at z1;omega
 |cons z r=>
  refine⟨r,by rw[zzQ]at z1;simp at z1;omega,λx hx=>z2 x (zzA _ hx), ?_⟩
  obtain⟨i1,i2,i3⟩:=vp (z::r)
  have hs:=zrh (as:=[sI c,sI m,sN ((z::r).map lfI),sI x',e4]) (i:=2) (fl:=oS zZ) (fh:=oN) (lo:=some 1) (hi:=none) rfl i1 i2 rfl rfl
  rw[i3]at hs
  have hc:cutD ((z::r).map D.int) (some 1) none=r.map D.int:=zlg
  rw[hc,zgZ]at hs
  refine Z7 rfl (zT (xx (i:=2) (wQ yd (szl rfl)) (zB rfl)) (zT (xF (i:=3) (xR (yJ (za rfl) zb (by decide)) zb) (zB rfl)) (zT (xX (vB (zq (xR (za rfl) zb) zJ) (by omega) (by omega)) hf) ?_)))
  exact Wg hs (vp r).2.1
theorem zcK(xs:List Int):(O.nd .ls (xs.map lfI)).str=true/\(O.nd .ls (xs.map lfI)).toD = .lst (xs.map D.int):=⟨(vp xs).2.1,congrArg D.lst (vp xs).2.2⟩
abbrev Ym(r:List Int):O:=.nd .ls (r.map lfI)
abbrev zH(r:List Int):D:=.lst (r.map D.int)
theorem zaa:∀T:TZ,O.strs (T.map Ym)=true/\O.toDs (T.map Ym)=T.map zH
 | []=>⟨rfl,rfl⟩
 |r::T=>⟨by show(O.strs (r.map lfI)&&O.strs (T.map Ym))=true;rw[(vp r).2.1,(zaa T).1];rfl,by
  show D.lst (O.toDs (r.map lfI))::O.toDs (T.map Ym)=_
  rw[(vp r).2.2,(zaa T).2];rfl⟩
theorem zeT{g:GF}{fe:EF}{as0 as1:AS}{y:It1}{r:List It1}{o:O}{os:List O}(h1:g y as0=some as1)(h2:fe as1=some (.ow o,as1))(hs:o.str=true)(h3:wB g yI fe as0 r=some os):wB g yI fe as0 (y::r)=some (o::os):=by
 unfold wB
 rw[h1];show((fe as1).bind _)=_
 rw[h2];show(if o.str=true then _ else _)=_
 rw[if_pos hs,h3];rfl
theorem wI:∀(n:Nat) (k:Int),(vg k n).length=n
 |0,_=>rfl
 |n+1,k=>by rw[zcc];exact congrArg (· + 1) (wI n (k+1))
theorem Zy{f:D->D->Option Bool}:∀{xs:List D},(∀x ∈ xs,f x x=some true)->eqL f xs xs=some true
 | [],_=>rfl
 |x::r,h=>by
  show(f x x).bind _=_
  rw[h x (zzC),zyI,Zy (xs:=r) λy m=>h y (zzA _ m)];rfl
theorem zgp:∀{n:Nat}{k:Int}{y:It1},y ∈ vg k n->∃b:Int,y=(true,.int b)/\k<=b/\b<k+n
 |0,_,_,h=>nomatch h
 |n+1,k,y,h=>by
  rw[zcc]at h
  rcases zI.mp h with rfl|h
  · exact⟨k,rfl,by omega,by omega⟩
  · obtain⟨b,e,h1,h2⟩:=zgp h
    exact⟨b,e,by omega,by omega⟩
theorem zfP{α:Type}(toD:α->D){Q:α->Prop}{g:GF}{fe:EF}{as0:AS}:∀{xs:List It1},(∀y ∈ xs,∃as1 a,g y as0=some as1/\WE fe as1 (toD a)/\Q a)->∃(os:List O) (l:List α),wB g yI fe as0 xs=some os/\O.strs os=true/\O.toDs os=l.map toD/\l.length=xs.length/\∀a ∈ l,Q a
 | [],_=>⟨[],[],rfl,rfl,rfl,rfl,λ_ m=>nomatch m⟩
 |y::xs,H=>by
  obtain⟨as1,a,h1,⟨o,h2,h3,h4⟩,h5⟩:=H y (zzC ..)
  obtain⟨os,l,a1,a2,a3,a4,a5⟩:=zfP toD (Q:=Q) (g:=g) (fe:=fe) (as0:=as0) (xs:=xs) λz m=>H z (zzA _ m)
  refine⟨o::os,a::l,zeT h1 h2 h3 a1,by show(o.str&&O.strs os)=true;rw[h3,a2];rfl,by show o.toD::O.toDs os=_;rw[h4,a3];rfl,congrArg (· + 1) a4,λb m=>?_⟩
  rcases zI.mp m with rfl|m
  · exact h5
  · exact a5 b m
theorem zbr{α:Type}(toD:α->D){Q:α->Prop}{fi:IF}{cap:List (Option Nat)}{g:GF}{fe:EF}{as:AS}{xs:List It1}(h1:fi as=some (xs,as))(hl:xs.length<=1000)(H:∀y ∈ xs,∃as1 a,g y (Yz cap as)=some as1/\WE fe as1 (toD a)/\Q a):
 ∃l:List α,l.length=xs.length/\(∀a ∈ l,Q a)/\WE (zR fi cap g yI fe) as (.lst (l.map toD)):=by
 obtain⟨os,l,a1,a2,a3,a4,a5⟩:=zfP toD H
 exact⟨l,a4,a5,_,zbP h1 (szs (by omega)) a1,a2,congrArg D.lst a3⟩
theorem Za{α:Type}(toD:α->D){Q:α->Prop}{fr:AF}{cap:List (Option Nat)}{fe:EF}{as:AS}{n:Nat}{u:Bool}(h1:WA fr as [(u,.int n)])(hl:n<=1000)(H:∀b:Int,0<=b->b<n->∃as1 a,gN 0 (true,.int b) (Yz cap as)=some as1/\WE fe as1 (toD a)/\Q a):
 ∃l:List α,l.length=n/\(∀a ∈ l,Q a)/\WE (zR (yU fr yV) cap yO yI fe) as (.lst (l.map toD)):=by
 obtain⟨l,a1,a2,a3⟩:=zbr toD (Q:=Q) (cap:=cap) (g:=gN 0) (fe:=fe) (vB h1 (by omega) (by omega)) (by rw[wI];omega) (λy m=>by
  obtain⟨b,rfl,h0,h2⟩:=zgp m
  exact H b h0 (by omega))
 rw[wI]at a1
 exact⟨l,by omega,a2,a3⟩
theorem zmR{f:EF}{as:AS}{x:D}(h:WE f as x):∃o,yP f as=some (.rt o)/\o.str=true/\o.toD=x:=by
 obtain⟨o,h1,h2,h3⟩:=h
 exact⟨o,Wg h1 h2,h2,h3⟩
theorem xW{n m:Nat}{c:SF}{ds:List (Bool×D)}{x:D}(hl:ds.length=m)(h:∃o,c (zaY n ds)=some (.rt o)/\o.str=true/\o.toD=x):RE (fnR n m c ds) x:=by
 obtain⟨o,h1,h2,h3⟩:=h
 exact⟨o,Z7 hl h1,h2,h3⟩
abbrev Rt(r:Option Out)(x:D):Prop:=∃o,r=some (.rt o)/\o.str=true/\o.toD=x
theorem zp{f g:SF}{as as1:AS}{x:D}(h1:f as=some (.nx as1))(h2:Rt (g as1) x):Rt (zE f g as) x:=by
 obtain⟨o,a,b,c⟩:=h2
 exact⟨o,zT h1 a,b,c⟩
theorem Zk{f g:SF}{as:AS}{x:D}(h1:Rt (f as) x):Rt (zE f g as) x:=by
 obtain⟨o,a,b,c⟩:=h1
 exact⟨o,v9 a,b,c⟩
theorem YC{c:TF}{f g:SF}{as:AS}{x:D}(h:WT c as true)(h1:Rt (f as) x):Rt (sIf c f g as) x:=by
 obtain⟨o,a,b,d⟩:=h1
 exact⟨o,wU h a,b,d⟩
theorem wC{f:EF}{as:AS}{x:D}(h:WE f as x):Rt (yP f as) x:=zmR h
def Row(n:Nat)(r:List Int):Prop:=r.length=n/\∀x ∈ r,0<=x/\x<(n:Int)
def Tab(k n:Nat)(T:TZ):Prop:=T.length=k/\∀r ∈ T,Row n r
abbrev zP(T:TZ):D:=.lst (T.map zH)
theorem Xr{r:List Int}{P:Int->Prop}{k:Int}(h0:0<=k)(h1:k<r.length)(hp:∀x ∈ r,P x):∃x,ixP (.lst (r.map D.int)) (.int k)=some (.im (.int x))/\P x:=by
 have hk:k.toNat<r.length:=by omega
 refine⟨r[k.toNat], ?_,hp _ (zyV hk)⟩
 have h:=Yu (xs:=r.map D.int) (j:=k.toNat) (v:=D.int r[k.toNat]) (by rw[zzF,zzB hk];rfl)
 rw[show((k.toNat:Nat):Int)=k by omega]at h
 show imR (atI _ _)=_
 rw[h];rfl
theorem zfo{α:Type}(toD:α->D){T:List α}{P:α->Prop}{k:Int}(h0:0<=k)(h1:k<T.length)(hp:∀r ∈ T,P r):∃r,ixP (.lst (T.map toD)) (.int k)=some (.im (toD r))/\P r:=by
 have hk:k.toNat<T.length:=by omega
 refine⟨T[k.toNat], ?_,hp _ (zyV hk)⟩
 have h:=Yu (xs:=T.map toD) (j:=k.toNat) (v:=toD T[k.toNat]) (by rw[zzF,zzB hk];rfl)
 rw[show((k.toNat:Nat):Int)=k by omega]at h
 show imR (atI _ _)=_
 rw[h];rfl
abbrev St(x:Int):Prop:=0<=x/\x<2147483399
theorem stE{a b:EF}{as:AS}{c:Int}{m:Nat}(hm:m<=900)(ha:WE a as (.int c))(hb:WE b as (.int m)):∃xs:List Int,xs.length=m/\(∀x ∈ xs,St x)/\WE (zK (aC a (aC b aN)) zX) as (.lst (xs.map D.int)):=by
 obtain⟨xs,h1,h2,h3⟩:=zkV (s:=true) (c:=c) (m:=m) (by omega) (by omega)
 exact⟨xs,by omega,h2,Vj ha hb ⟨_,h3,(zcK xs).1,(zcK xs).2⟩⟩
theorem ziL:∀(b:Nat) (a:Int) (f:Nat),b<f->0<a->a<1000->b<1000->∃g e,0<g/\g<1000/\whL (fT (f2 zA yt (zQ .Gt))) (zlv 0 1 (dC zA (dC (f2 zx zA zG) dN))) f [sI a,sI b]=some (.nx [sI g,e]):=by
 intro b
 induction b using Nat.strongRecOn with
 |ind b ih=>
  intro a f hf ha ha2 hb2
  cases f with
  |zero=>omega
  |succ f=>
   by_cases hb:b=0
   · subst hb
     exact⟨a,_,ha,ha2,zlA (zM (zbs (za rfl) zb) rfl)⟩
   · have m0:=zyK a (show(b:Int)≠0 by omega)
     have m1:=zyE a (show(0:Int)<b by omega)
     obtain⟨g,e,g0,g1,hg⟩:=ih (a%b).toNat (by omega) b f (by omega) (by omega) (by omega) (by omega)
     rw[show(((a%b).toNat:Nat):Int)=a%b by omega]at hg
     exact⟨g,e,g0,g1,ziY (zM (zbs (za rfl) zb) (congrArg some (zyL (show(0:Int)<b by omega)))) (zrw (zm (za rfl) (zm (yJ (za rfl) (za rfl) (by omega)) yd)) (zB rfl) (zB rfl)) hg⟩
theorem ziN{n m:Nat}{s t:Bool}(hn:0<n)(hn2:n<=8)(hm:m<=8):∃g:Int,0<g/\g<1000/\v6 [(true,.int n),(true,.int m)]=sI g:=by
 obtain⟨g,e,g0,g1,hg⟩:=ziL m n 10000 (by omega) (by omega) (by omega) (by omega)
 exact⟨g,g0,g1,Z7 rfl (zT hg (ZM (za rfl)))⟩
theorem strs_snoc:∀(os:List O) (o:O),O.strs os=true->o.str=true->O.strs (os++[o])=true
 | [],o,_,h=>by show(o.str&&true)=true;rw[h];rfl
 |p::r,o,h,h'=>by
  have h:=(zzZ _ _).mp (show(p.str&&O.strs r)=true from h)
  show(p.str&&O.strs (r++[o]))=true
  rw[h.1,strs_snoc r o h.2 h'];rfl
theorem zfN:∀(os:List O) (o:O),O.toDs (os++[o])=O.toDs os++[o.toD]
 | [],o=>rfl
 |p::r,o=>congrArg (p.toD :: ·) (zfN r o)
structure Ows{α:Type}(toD:α->D)(Q:α->Prop)(os:List O)(l:List α):Prop where
 st:O.strs os=true
 ds:O.toDs os=l.map toD
 al:∀a ∈ l,Q a
 ln:os.length=l.length
theorem Ows.nil{α:Type}{toD:α->D}{Q:α->Prop}:Ows toD Q [] []:=⟨rfl,rfl,(λ_ m=>nomatch m),rfl⟩
theorem Ows.snoc{α:Type}{toD:α->D}{Q:α->Prop}{os:List O}{l:List α}{o:O}{a:α}(h:Ows toD Q os l)(h1:o.str=true)(h2:o.toD=toD a)(h3:Q a):Ows toD Q (os++[o]) (l++[a]):=
 ⟨strs_snoc os o h.st h1,(by rw[zfN,h.ds,h2,zyJ];rfl),(λb m=>(zzJ.mp m).elim (h.al b) λm=>(by rw[zzO.mp m];exact h3)),(by rw[zzG,zzG,h.ln];rfl)⟩
theorem zks{as as1:AS}{a:EF}{i:Nat}{os0 os:List O}{o:O}(h:as[i]? = some (sN os0))(ha:a as=some (.ow o,as1))(h1:as1[i]? = some (sN os))(hl:os.length<sizeLine):yQ (xQ i (dC a dN) xY) as=some (.nx (as1.set i (sN (os++[o])))):=by
 unfold yQ xQ;rw[h]
 have e:dC a dN as=some ([o],as1):=xr ha rfl
 show((dC a dN as).bind _).bind _=_
 rw[e];show(Option.bind (match as1[i]? with|some (some (.nd .ls os))=>_|_=>none) _)=_
 rw[h1];show((xY os [o]).bind _).bind _=_
 have e2:xY os [o]=some (os++[o],.lf true .non):=by unfold xY;exact if_pos hl
 rw[e2];rfl
theorem zhF{α:Type}{toD:α->D}{Q:α->Prop}{as:AS}{a:EF}{i:Nat}{os:List O}{l:List α}{x:α}(h:as[i]? = some (sN os))(ho:Ows toD Q os l)(hl:l.length<1000)(ha:WE a as (toD x))(hx:Q x):
 ∃os',Ows toD Q os' (l++[x])/\yQ (xQ i (dC a dN) xY) as=some (.nx (as.set i (sN os'))):=by
 obtain⟨o,h1,h2,h3⟩:=ha
 exact⟨os++[o],ho.snoc h2 h3 hx,zks h h1 h (by rw[ho.ln];exact ZL (by omega))⟩
theorem Ows.retB{α:Type}{toD:α->D}{Q:α->Prop}{as:AS}{i:Nat}{os:List O}{l:List α}(h:as[i]? = some (sN os))(ho:Ows toD Q os l):Rt (yP (fV i) as) (.lst (l.map toD)):=
 ⟨_,zjY h ho.st,ho.st,congrArg D.lst ho.ds⟩
theorem at2{xs:List Int}(h:∀x ∈ xs,St x){k:Int}(h0:0<=k)(h1:k<xs.length):∃x,ixP (.lst (xs.map D.int)) (.int k)=some (.im (.int x))/\St x:=Xr h0 h1 h
theorem wY{x:Int}{n:Nat}(hn:0<n):0<=x%n/\x%n<(n:Int):=⟨zyK _ (by omega),zyE _ (by omega)⟩
theorem zok{n m:Nat}{xs:List Int}(hn:0<n)(hn2:n<=8)(hm:m<=8)(hl:xs.length=9)(hx:∀x ∈ xs,St x):∃T,Tab m n T/\RE (YJ [(true,.int n),(true,.int m),(true,.lst (xs.map D.int))]) (zP T):=by
 obtain⟨g,g0,g1,hg⟩:=ziN (s:=true) (t:=true) (n:=n) (m:=m) hn hn2 hm
 obtain⟨x0,a0,b0⟩:=at2 hx (k:=0) (by omega) (by omega)
 obtain⟨x1,a1,b1⟩:=at2 hx (k:=1) (by omega) (by omega)
 have q0:0<=(n:Int)/g:=Int.ediv_nonneg (by omega) (by omega)
 have q1:(n:Int)/g<=n:=Int.ediv_le_self _ (by omega)
 generalize hst:(n:Int)/g=st at q0 q1
 have st4:∀(os:List O) (c:Int),0<=c->c<8->∃l:List Int,l.length=n/\(∀x ∈ l,0<=x/\x<(n:Int))/\WE (zR (yU Y0 yV) [none,some 0,some 2,some 5,some 3] yO yI (f2 (f2 (f2 zx (f2 zL yt ixP) zN) (f2 (f2 yD yK zN) (f2 zL zZ ixP) zN) zF) zA zG))
  [sI n,sI m,sT (.lst (xs.map D.int)),sI st,sN os,sI c] (.lst (l.map D.int)):=λos c c0 c1=>
  Za D.int (n:=n) (zq (za rfl) zJ) (by omega) λb h0 h1=>by
   have cs:0<=c*st/\c*st<=64:=⟨Int.mul_nonneg c0 q0,by have:=Int.mul_le_mul (show c<=8 by omega) (show st<=8 by omega) q0 (by omega);omega⟩
   exact⟨[sI b,sI n,sT (.lst (xs.map D.int)),sI c,sI st],_,rfl,WD.e (yJ (xR (wL (za rfl) (zr (za rfl) zb a0 rfl) (yh (by omega) (by omega)) (yh (by omega) (by omega))) (wL (wL (za rfl) (za rfl) (yh (by omega) (by omega)) (yh (by omega) (by omega))) (zr (za rfl) zb a1 rfl) (yh (by omega) (by omega)) (yh (by omega) (by omega)))) (za rfl) (by omega)),wY hn⟩
 obtain⟨as',hf,os,l,e5,rfl,ho,hlen⟩:=xO (g:=gN 5) (f:=yQ (xQ 4 (dC (zR (yU Y0 yV) [none,some 0,some 2,some 5,some 3] yO yI (f2 (f2 (f2 zx (f2 zL yt ixP) zN) (f2 (f2 yD yK zN) (f2 zL zZ ixP) zN) zF) zA zG)) dN) xY))
  (λi as=>∃(os:List O) (l:TZ) (e5:Option O),as=[sI n,sI m,sT (.lst (xs.map D.int)),sI st,sN os,e5]/\Ows zH (Row n) os l/\l.length=i)
  (vg 0 m) 0 [sI n,sI m,sT (.lst (xs.map D.int)),sI st,sN [],none] (λi x as hx' hI=>by
   obtain⟨os,l,e5,rfl,ho,hlen⟩:=hI
   obtain⟨rfl,hi⟩:=vY hx'
   obtain⟨r,r1,r2,r3⟩:=st4 os (0+i) (by omega) (by omega)
   obtain⟨os',o1,o2⟩:=zhF (x:=r) (i:=4) (toD:=zH) (Q:=Row n) rfl ho (by omega) r3 ⟨r1,r2⟩
   exact⟨[sI n,sI m,sT (.lst (xs.map D.int)),sI st,sN os,sI (0+i)],rfl,_,o2,os',l++[r],_,rfl,o1,by rw[zzG,hlen];show 0+i+1=_;omega⟩)
  ⟨[],[],none,rfl,Ows.nil,rfl⟩
 rw[wI]at hlen
 refine⟨l,⟨by omega,ho.al⟩,xW rfl (zp (as1:=[sI n,sI m,sT (.lst (xs.map D.int)),sI st,none,none]) ?_ (zp (xx (i:=4) (wQ yd (szl rfl)) (zB rfl)) (zp (xX (vB (zq (za rfl) zJ) (by omega) (by omega)) hf) (Ows.retB (i:=4) rfl ho))))⟩
 have:=xF (st:=true) (i:=3) (as:=[sI n,sI m,sT (.lst (xs.map D.int)),none,none,none]) (Zq (za (i:=0) rfl) (zbA (zq (za (i:=0) rfl) (zq (za (i:=1) rfl) zJ)) hg) g0 (yh (by omega) (by omega))) (zB rfl)
 rw[hst]at this
 exact this
theorem zpv{fr:AF}{as:AS}{rs:List (Bool×D)}{g:List D->Option R0}{zs:List D}(ha:WA fr as rs)(hg:g (rs.map (·.2))=some (.fl zs)):fP fr g as=some (.ow (.nd .ls (zs.map (lfs (rs.all (·.1))))),as):=by
 unfold fP;unfold WA at ha
 rw[ha];show(views as _).bind _=_
 rw[W5];show(g _).bind _=_
 rw[hg]
 show(if(zs.all yc||(some (rs.all (·.1))).isSome)=true then _ else _:Option RV).bind _=_
 rw[if_pos (by simp)];rfl
theorem zjs{a:EF}{as:AS}{x:D}{g:List D->Option R0}{zs:List D}(ha:WE a as x)(hg:g [x]=some (.fl zs)):fP (aC a aN) g as=some (.ow (.nd .ls (zs.map (O.lf true))),as):=by
 have:=zpv (g:=g) (Yp ha (zJ (as:=as))) hg
 rw[show([(true,x)].all (·.1))=true from rfl,zac]at this
 exact this
theorem zpu{a:EF}{as:AS}{s:Bool}{r:List Int}(h:WD a as s (.lst (r.map D.int))):fP (aC a aN) lstP as=some (.ow (Ym r),as):=by
 have:=zpv (g:=lstP) (zq h (zJ (as:=as))) rfl
 rw[zzY]at this
 exact this
theorem zri{a:EF}{as:AS}{s:Bool}{r:List Int}(h:WD a as s (.lst (r.map D.int))):WE (fP (aC a aN) lstP) as (zH r):=⟨_,zpu h,(zcK r).1,(zcK r).2⟩
theorem zrb{a b c d:EF}{as:AS}{x y z u w:D}{g:List (Bool×D)->Option O}(ha:WE a as x)(hb:WE b as y)(hc:WE c as z)(hd:WE d as u)(hg:RE (g [(true,x),(true,y),(true,z),(true,u)]) w):WE (zK (aC a (aC b (aC c (aC d aN)))) g) as w:=by
 obtain⟨o,h1,h2⟩:=hg
 exact⟨o,ZF (Yp ha (Yp hb (Yp hc (Yp hd zJ)))) (by show g [(yc x||true,x),(yc y||true,y),(yc z||true,z),(yc u||true,u)]=_;rw[zyA,zyA,zyA,zyA];exact h1),h2⟩
theorem zjl{a b c d e:EF}{as:AS}{x y z u v w:D}{g:List (Bool×D)->Option O}(ha:WE a as x)(hb:WE b as y)(hc:WE c as z)(hd:WE d as u)(he:WE e as v)(hg:RE (g [(true,x),(true,y),(true,z),(true,u),(true,v)]) w):WE (zK (aC a (aC b (aC c (aC d (aC e aN))))) g) as w:=by
 obtain⟨o,h1,h2⟩:=hg
 exact⟨o,ZF (Yp ha (Yp hb (Yp hc (Yp hd (Yp he zJ))))) (by show g [(yc x||true,x),(yc y||true,y),(yc z||true,z),(yc u||true,u),(yc v||true,v)]=_;rw[zyA,zyA,zyA,zyA,zyA];exact h1),h2⟩
theorem zkO{fr:DF}{as:AS}{os:List O}{x:D}(h:WO fr as os)(hl:os.length<=sizeLine)(hs:O.strs os=true)(e:D.tup (O.toDs os)=x):WE (yw fr) as x:=by
 refine⟨_,zes h hl, ?_, ?_⟩
 · unfold Y4
   split
   · exact hs
   · exact hs
 · unfold Y4
   split
   · exact e
   · exact e
theorem ints_of:∀l:List Int,WL (l.map D.int)=some l
 | []=>rfl
 |x::r=>by
  show(WL (r.map D.int)).bind _=_
  rw[ints_of r];rfl
theorem copies{n m:Nat}{fr:AF}{cap:List (Option Nat)}{as:AS}{u s:Bool}{r:List Int}(hr:Row n r)(hm:m<=8)(h1:WA fr as [(u,.int m)])(h2:∀b:Int,∃as1,gN 0 (true,.int b) (Yz cap as)=some as1/\WD zA as1 s (.lst (r.map D.int))):
 ∃T,Tab m n T/\WE (zR (yU fr yV) cap yO yI (fP ZG lstP)) as (zP T):=by
 obtain⟨l,a1,a2,a3⟩:=Za zH (Q:=Row n) (n:=m) (cap:=cap) (fe:=fP ZG lstP) h1 (by omega) λb _ _=>by
  obtain⟨as1,g1,g2⟩:=h2 b
  exact⟨as1,r,g1,zri g2,hr⟩
 exact⟨l,⟨a1,a2⟩,a3⟩
theorem zlb{n m:Nat}{xs:List Int}(hn:0<n)(hn2:n<=8)(hm:m<=8)(hl:xs.length=9)(hx:∀x ∈ xs,St x):∃T,Tab m n T/\RE (ZD [(true,.int n),(true,.int m),(true,.lst (xs.map D.int))]) (zP T):=by
 obtain⟨l,l1,l2,l3⟩:=Za (as:=[sI n,sI m,sT (.lst (xs.map D.int)),none]) (u:=true) D.int (Q:=λx=>0<=x/\x<(n:Int)) (n:=n-1) (cap:=[none,some 0,some 2]) (fr:=aC (f2 zx zZ Wf) aN) (fe:=f2 (f2 zL zx ixP) zA zG)
  (by rw[show(((n-1:Nat):Nat):Int)=(n:Int)-1 by omega];exact zq (ziD (za rfl) zb) zJ) (by omega) (λb h0 h1=>by
   obtain⟨x,hx1,hx2⟩:=at2 hx (k:=b) h0 (by omega)
   exact⟨[sI b,sI n,sT (.lst (xs.map D.int))],_,rfl,WD.e (yJ (zr (za rfl) (za rfl) hx1 rfl) (za rfl) (by omega)),wY hn⟩)
 have w0:WE (f2 (yW (dC yt dN)) (zR (yU (aC (f2 zx zZ Wf) aN) yV) [none,some 0,some 2] yO yI (f2 (f2 zL zx ixP) zA zG)) zF) [sI n,sI m,sT (.lst (xs.map D.int)),none] (.lst ((0::l).map D.int)):=
  zoo (vO (os:=[lfI 0]) (zm zb yd) (szl rfl) rfl rfl) l3 (add_lists (by rw[zD];exact szs (by show 1+_<=_;omega)))
 have hp:=sortI_perm (0::l)
 have hlen:(sortI (0::l)).length=n:=by rw[hp.length_eq,zzQ];omega
 have hr:Row n ((sortI (0::l)).set 0 0):=by
  refine⟨by rw[zzR];exact hlen,λx m=>?_⟩
  rcases List.mem_or_eq_of_mem_set m with m|rfl
  · rcases zI.mp (hp.mem_iff.mp m)with rfl|m
    · omega
    · exact l2 x m
  · omega
 have s3:=xx (i:=3) (zjs (g:=zmB) w0 (by
  show(WL ((0::l).map D.int)).bind _=_
  rw[ints_of]
  show(if(0::l).length<64 then _ else _)=_
  rw[if_pos (by rw[zzQ];omega)])) (zB rfl)
 rw[zgZ]at s3
 have s4:zme 3 (xC 0) (xC 0) [sI n,sI m,sT (.lst (xs.map D.int)),sN ((sortI (0::l)).map lfI)]=some (.nx [sI n,sI m,sT (.lst (xs.map D.int)),sN (((sortI (0::l)).set 0 0).map lfI)]):=by
  cases hs:sortI (0::l)with
  |nil=>rw[hs]at hlen;simp at hlen;omega
  |cons y t=>rfl
 obtain⟨T,t1,t2⟩:=copies (n:=n) (m:=m) (s:=false) (u:=true) (cap:=[none,some 3]) (as:=[sI n,sI m,sT (.lst (xs.map D.int)),sN (((sortI (0::l)).set 0 0).map lfI)]) (fr:=aC zA aN) hr hm (zq (za rfl) zJ) (λb=>⟨[sI b,some (.lf false (.lst (O.toDs (((sortI (0::l)).set 0 0).map lfI))))],rfl,by rw[(vp _).2.2];exact za rfl⟩)
 exact⟨T,t1,xW rfl (zp s3 (zp s4 (wC t2)))⟩
theorem zjT{n m:Nat}{xs:List Int}(hn:2<=n)(hn2:n<=8)(hm:m<=8)(hl:xs.length=9)(hx:∀x ∈ xs,St x):∃T,Tab m n T/\RE (YF [(true,.int n),(true,.int m),(true,.lst (xs.map D.int))]) (zP T):=by
 obtain⟨l,l1,l2,l3⟩:=Za (as:=[sI n,sI m,sT (.lst (xs.map D.int)),none]) (u:=true) D.int (Q:=λx=>0<=x/\x<(n:Int)) (n:=n-1) (cap:=[none,some 2,some 0]) (fr:=aC (f2 zx zZ Wf) aN) (fe:=f2 zZ (f2 (f2 zA zx ixP) (f2 zL zZ Wf) zG) zF)
  (by rw[show(((n-1:Nat):Nat):Int)=(n:Int)-1 by omega];exact zq (ziD (za rfl) zb) zJ) (by omega) (λb h0 h1=>by
   obtain⟨x,hx1,hx2⟩:=at2 hx (k:=b) h0 (by omega)
   have m0:=zyK x (show(n:Int)-1≠0 by omega)
   have m1:=zyE x (show(0:Int)<(n:Int)-1 by omega)
   exact⟨[sI b,sT (.lst (xs.map D.int)),sI n],_,rfl,WD.e (xR zb (yJ (zr (za rfl) (za rfl) hx1 rfl) (ziD (za rfl) zb) (by omega))),by omega,by omega⟩)
 have w0:WE (f2 (yW (dC yt dN)) (zR (yU (aC (f2 zx zZ Wf) aN) yV) [none,some 2,some 0] yO yI (f2 zZ (f2 (f2 zA zx ixP) (f2 zL zZ Wf) zG) zF)) zF) [sI n,sI m,sT (.lst (xs.map D.int)),none] (.lst ((0::l).map D.int)):=
  zoo (vO (os:=[lfI 0]) (zm zb yd) (szl rfl) rfl rfl) l3 (add_lists (by rw[zD];exact szs (by show 1+_<=_;omega)))
 have hr:Row n (0::l):=⟨by rw[zzQ];omega,λx m=>by
  rcases zI.mp m with rfl|m
  · omega
  · exact l2 x m⟩
 obtain⟨T,t1,t2⟩:=copies (n:=n) (m:=m) (s:=true) (u:=true) (cap:=[none,some 3]) (as:=[sI n,sI m,sT (.lst (xs.map D.int)),sT (.lst ((0::l).map D.int))]) (fr:=aC zA aN) hr hm (zq (za rfl) zJ) (λb=>⟨[sI b,sT (.lst ((0::l).map D.int))],rfl,za rfl⟩)
 exact⟨T,t1,xW rfl (zp (Zg (p:=3) w0 (zB rfl)) (wC t2))⟩
def KN(k:Int)(n:Nat):Prop:=(k=0/\1<=n)\/(k=1/\1<=n)\/(k=2/\2<=n)\/(k=3/\2<=n)\/(k=4/\n=4)
theorem zpt{x y:Int}{c:Bool}:ixP (.lst [.int x,.int y]) (.int (if c=true then 1 else 0))=some (.im (.int (if c=true then y else x))):=by cases c<;>rfl
theorem zpa{as:AS}{n:Nat}{cap cap2:List (Option Nat)}{fr:AF}{u:Bool}{fe:EF}(hn2:n<=8)(h1:WA fr as [(true,.int n)])(H:∀a:Int,0<=a->a<n->∃as1,gN 0 (true,.int a) (Yz cap as)=some as1/\WA ZG as1 [(true,.int n)]/\∀b:Int,0<=b->b<n->∃as2 x,gN 0 (true,.int b) (Yz cap2 as1)=some as2/\WD fe as2 true (.int x)/\0<=x/\x<(n:Int)):
 ∃T,Tab n n T/\WE (zR (yU fr yV) cap yO yI (zR (yU ZG yV) cap2 yO yI fe)) as (zP T):=by
 obtain⟨T,a1,a2,a3⟩:=Za zH (Q:=Row n) (n:=n) (cap:=cap) (fe:=zR (yU ZG yV) cap2 yO yI fe) h1 (by omega) λa h0 h1=>by
  obtain⟨as1,g1,g2,g3⟩:=H a h0 h1
  obtain⟨r,b1,b2,b3⟩:=Za D.int (Q:=λx=>0<=x/\x<(n:Int)) (n:=n) (cap:=cap2) (fe:=fe) g2 (by omega) λb h0 h1=>by
   obtain⟨as2,x,c1,c2,c3⟩:=g3 b h0 h1
   exact⟨as2,x,c1,WD.e c2,c3⟩
  exact⟨as1,r,g1,b3,b1,b2⟩
 exact⟨T,⟨a1,a2⟩,a3⟩
abbrev zcN:List D:=[.tup [.int 0,.int 1],.tup [.int 1,.int 0],.tup [.int 0,.int 0],.tup [.int 1,.int 1]]
theorem zim{y:It1}(m:y ∈ zcN.map λd=>(true,d)):∃p q:Int,y=(true,.tup [.int p,.int q])/\(p=0\/p=1)/\(q=0\/q=1):=by
 simp only[zyP,List.map_nil,zI,zyX,or_false]at m
 rcases m with rfl|rfl|rfl|rfl
 · exact⟨0,1,rfl,.inl rfl,.inr rfl⟩
 · exact⟨1,0,rfl,.inr rfl,.inl rfl⟩
 · exact⟨0,0,rfl,.inl rfl,.inl rfl⟩
 · exact⟨1,1,rfl,.inr rfl,.inr rfl⟩
theorem znq{u v:Int}(hu:u=0\/u=1)(hv:v=0\/v=1):∃j:Int,0<=j/\j<4/\Xq (.lst zcN) [.tup [.int u,.int v]]=some (.im (.int j)):=by
 rcases hu with rfl|rfl<;>rcases hv with rfl|rfl
 · exact⟨2,by decide,by decide,rfl⟩
 · exact⟨0,by decide,by decide,rfl⟩
 · exact⟨1,by decide,by decide,rfl⟩
 · exact⟨3,by decide,by decide,rfl⟩
theorem zkh{p q k:Int}(hp:p=0\/p=1)(hq:q=0\/q=1)(hk:k=0\/k=1):∃u:Int,(u=0\/u=1)/\ixP (.tup [.int p,.int q]) (.int k)=some (.im (.int u)):=by
 rcases hk with rfl|rfl
 · exact⟨p,hp,rfl⟩
 · exact⟨q,hq,rfl⟩
theorem zqy:∃T,Tab 4 4 T/\RE (Zc [(true,.int 4),(true,.int (4:Nat))]) (zP T):=by
 obtain⟨T,t1,t2,t3⟩:=zbr (as:=[sI 4,sI (4:Nat),sT (.lst zcN)]) zH (Q:=Row 4) (cap:=[none,some 2]) (g:=gN 0) (fe:=zR (Zh zA) [none,some 1,some 0] yO yI (Y6 .lst zA (aC (yw (dC (f2 zx (f2 zL yt ixP) ixP) (dC (f2 zx (f2 zL zZ ixP) ixP) dN))) aN) Xq)) (zcQ (f:=fV 2) (WD.e (za rfl))) (by rw[zD];show 4<=1000;decide) λy m=>by
  obtain⟨p,q,rfl,hp,hq⟩:=zim m
  obtain⟨r,r1,r2,r3⟩:=zbr (as:=[sT (.tup [.int p,.int q]),sT (.lst zcN)]) D.int (Q:=λx=>0<=x/\x<((4:Nat):Int)) (cap:=[none,some 1,some 0]) (g:=gN 0) (fe:=Y6 .lst zA (aC (yw (dC (f2 zx (f2 zL yt ixP) ixP) (dC (f2 zx (f2 zL zZ ixP) ixP) dN))) aN) Xq) (zcQ (f:=fV 1) (WD.e (za rfl))) (by rw[zD];show 4<=1000;decide) λy m=>by
   obtain⟨p',q',rfl,hp',hq'⟩:=zim m
   obtain⟨u,hu,eu⟩:=zkh hp' hq' hp
   obtain⟨v,hv,ev⟩:=zkh hp' hq' hq
   obtain⟨j,j0,j1,ej⟩:=znq hu hv
   exact⟨[sT (.tup [.int p',.int q']),sT (.lst zcN),sT (.tup [.int p,.int q])],j,rfl,WD.e (zdH (za rfl) rfl (zq (W3 (os:=[lfI u,lfI v]) (zm (zr (za rfl) (zr (za rfl) zb rfl rfl) eu rfl) (zm (zr (za rfl) (zr (za rfl) zb rfl rfl) ev rfl) yd)) (szl rfl) rfl) zJ) ej rfl),j0,j1⟩
  rw[zD]at r1
  exact⟨[sT (.tup [.int p,.int q]),sT (.lst zcN)],r,rfl,r3,r1,r2⟩
 rw[zD]at t1
 refine⟨T,⟨t1,t2⟩,xW rfl (zp (zY (zM (yG (za rfl) zb rfl) rfl) rfl) (zp (zY (zM (yG (za rfl) zb rfl) rfl) rfl) (zp (zY (zM (yG (za rfl) zb rfl) rfl) rfl) (zp (zY (zM (yG (za rfl) zb rfl) rfl) rfl) (zp (Zg (p:=2) (x:=.lst zcN) (vO (os:=zcN.map (O.lf true)) ?_ (szl rfl) rfl rfl) (zB rfl)) (wC t3))))))⟩
 exact zm (W3 (os:=[lfI 0,lfI 1]) (zm zb (zm zb yd)) (szl rfl) rfl) (zm (W3 (os:=[lfI 1,lfI 0]) (zm zb (zm zb yd)) (szl rfl) rfl) (zm (W3 (os:=[lfI 0,lfI 0]) (zm zb (zm zb yd)) (szl rfl) rfl) (zm (W3 (os:=[lfI 1,lfI 1]) (zm zb (zm zb yd)) (szl rfl) rfl) yd)))
theorem zlT{k:Int}{n:Nat}(h:KN k n)(hn2:n<=8):∃T,Tab n n T/\RE (Zc [(true,.int k),(true,.int n)]) (zP T):=by
 rcases h with⟨rfl,hn⟩|⟨rfl,hn⟩|⟨rfl,hn⟩|⟨rfl,hn⟩|⟨rfl,rfl⟩
 · obtain⟨T,t1,t2⟩:=zpa (as:=[sI 0,sI n,none]) (n:=n) (u:=true) (cap:=[none,some 1]) (cap2:=[none,some 1,some 0]) (fr:=aC zA aN) (fe:=f2 (f2 zL zx zF) zA zG) hn2 (zq (za rfl) zJ) λa _ _=>⟨[sI a,sI n],rfl,zq (za rfl) zJ,λb _ _=>⟨[sI b,sI n,sI a],_,rfl,yJ (xR (za rfl) (za rfl)) (za rfl) (by omega),wY hn⟩⟩
   exact⟨T,t1,xW rfl (Zk (YC (zM (yG (za rfl) zb rfl) rfl) (wC t2)))⟩
 · obtain⟨T,t1,t2⟩:=zpa (as:=[sI 1,sI n,none]) (n:=n) (u:=true) (cap:=[none,some 1]) (cap2:=[none,some 0]) (fr:=aC zA aN) (fe:=fP (aC zA Y0) zru) hn2 (zq (za rfl) zJ) λa a0 a1=>⟨[sI a,sI n],rfl,zq (za rfl) zJ,λb b0 b1=>⟨[sI b,sI a],if b > a then b else a,rfl,vd (zq (za rfl) (zq (za rfl) zJ)) rfl rfl,by split<;>omega,by split<;>omega⟩⟩
   exact⟨T,t1,xW rfl (zp (zY (zM (yG (za rfl) zb rfl) rfl) rfl) (Zk (YC (zM (yG (za rfl) zb rfl) rfl) (wC t2))))⟩
 · obtain⟨T,t1,t2⟩:=zpa (as:=[sI 2,sI n,none]) (n:=n) (u:=true) (cap:=[none,some 1]) (cap2:=[none,some 0]) (fr:=aC zA aN) (fe:=f2 (yW (dC zx (dC zA dN))) (fP (aC (f2 zx yt (zQ .Eq)) aN) zin) ixP) hn2 (zq (za rfl) zJ) λa a0 a1=>⟨[sI a,sI n],rfl,zq (za rfl) zJ,λb b0 b1=>⟨[sI b,sI a],_,rfl,f2E (vO (os:=[lfI b,lfI a]) (zm (za rfl) (zm (za rfl) yd)) (szl rfl) rfl rfl) (WD.e (vd (zq (yG (za rfl) zb rfl) zJ) rfl rfl)) zpt,by split<;>omega,by split<;>omega⟩⟩
   exact⟨T,t1,xW rfl (zp (zY (zM (yG (za rfl) zb rfl) rfl) rfl) (zp (zY (zM (yG (za rfl) zb rfl) rfl) rfl) (Zk (YC (zM (yG (za rfl) zb rfl) rfl) (wC t2)))))⟩
 · obtain⟨T,t1,t2⟩:=zpa (as:=[sI 3,sI n,none]) (n:=n) (u:=true) (cap:=[none,some 1]) (cap2:=[none,some 0]) (fr:=aC zA aN) (fe:=f2 (yW (dC zA (dC zx dN))) (fP (aC (f2 zA yt (zQ .Eq)) aN) zin) ixP) hn2 (zq (za rfl) zJ) λa a0 a1=>⟨[sI a,sI n],rfl,zq (za rfl) zJ,λb b0 b1=>⟨[sI b,sI a],_,rfl,f2E (vO (os:=[lfI a,lfI b]) (zm (za rfl) (zm (za rfl) yd)) (szl rfl) rfl rfl) (WD.e (vd (zq (yG (za rfl) zb rfl) zJ) rfl rfl)) zpt,by split<;>omega,by split<;>omega⟩⟩
   exact⟨T,t1,xW rfl (zp (zY (zM (yG (za rfl) zb rfl) rfl) rfl) (zp (zY (zM (yG (za rfl) zb rfl) rfl) rfl) (zp (zY (zM (yG (za rfl) zb rfl) rfl) rfl) (Zk (YC (zM (yG (za rfl) zb rfl) rfl) (wC t2))))))⟩
 · exact zqy
theorem zoR{k:Int}{n m:Nat}{xs:List Int}(h:KN k n)(hn2:n<=8)(hm:m<=8)(hl:xs.length=9)(hx:∀x ∈ xs,St x):∃T,Tab m n T/\RE (ZW [(true,.int k),(true,.int n),(true,.int m),(true,.lst (xs.map D.int))]) (zP T):=by
 rcases h with⟨rfl,hn⟩|⟨rfl,hn⟩|⟨rfl,hn⟩|⟨rfl,hn⟩|⟨rfl,rfl⟩
 · obtain⟨T,t1,t2⟩:=zok (m:=m) (xs:=xs) hn hn2 hm hl hx
   exact⟨T,t1,xW rfl (Zk (YC (zM (yG (za rfl) zb rfl) rfl) (wC (VJ (WD.e (za rfl)) (WD.e (za rfl)) (WD.e (za rfl)) t2))))⟩
 · obtain⟨T,t1,t2⟩:=zlb (m:=m) (xs:=xs) hn hn2 hm hl hx
   exact⟨T,t1,xW rfl (zp (zY (zM (yG (za rfl) zb rfl) rfl) rfl) (Zk (YC (zM (yG (za rfl) zb rfl) rfl) (wC (VJ (WD.e (za rfl)) (WD.e (za rfl)) (WD.e (za rfl)) t2)))))⟩
 · obtain⟨T,t1,t2⟩:=zjT (m:=m) (xs:=xs) hn hn2 hm hl hx
   exact⟨T,t1,xW rfl (zp (zY (zM (yG (za rfl) zb rfl) rfl) rfl) (zp (zY (zM (yG (za rfl) zb rfl) rfl) rfl) (Zk (YC (zM (zdl (za rfl) zb) rfl) (wC (VJ (WD.e (za rfl)) (WD.e (za rfl)) (WD.e (za rfl)) t2))))))⟩
 · obtain⟨T,t1,t2⟩:=zjT (m:=m) (xs:=xs) hn hn2 hm hl hx
   exact⟨T,t1,xW rfl (zp (zY (zM (yG (za rfl) zb rfl) rfl) rfl) (zp (zY (zM (yG (za rfl) zb rfl) rfl) rfl) (Zk (YC (zM (zdl (za rfl) zb) rfl) (wC (VJ (WD.e (za rfl)) (WD.e (za rfl)) (WD.e (za rfl)) t2))))))⟩
 · obtain⟨x0,a0,b0⟩:=at2 hx (k:=0) (by omega) (by omega)
   have hp:∃r:List Int,Row 4 r/\ixP (.lst [zH [0,1,2,3],zH [0,1,3,2]]) (.int (x0%2))=some (.im (zH r)):=by
    rcases(show x0%2=0\/x0%2=1 by omega)with e|e<;>rw[e]
    · exact⟨[0,1,2,3],⟨rfl,by decide⟩,rfl⟩
    · exact⟨[0,1,3,2],⟨rfl,by decide⟩,rfl⟩
   obtain⟨r,r1,r2⟩:=hp
   obtain⟨T,c1,c2,c3⟩:=Za (as:=[sI 4,sI (4:Nat),sI m,sT (.lst (xs.map D.int))]) (u:=true) zH (Q:=Row 4) (n:=m) (cap:=[none,some 3]) (fr:=aC zL aN) (fe:=f2 (yW (dC (yW (dC yt (dC zZ (dC yX (dC Zb dN))))) (dC (yW (dC yt (dC zZ (dC Zb (dC yX dN))))) dN))) (f2 (f2 zA yt ixP) yX zG) ixP) (zq (za rfl) zJ) (by omega) λb _ _=>
    ⟨[sI b,sT (.lst (xs.map D.int))],r,rfl,WD.e (f2E (vO (Xi (wQ (zm zb (zm zb (zm zb (zm zb yd)))) (szl rfl)) (Xi (wQ (zm zb (zm zb (zm zb (zm zb yd)))) (szl rfl)) yd)) (szl rfl) rfl rfl) (WD.e (yJ (zr (za rfl) zb a0 rfl) zb (by decide))) r2),r1⟩
   exact⟨T,⟨c1,c2⟩,xW rfl (zp (zY (zM (yG (za rfl) zb rfl) rfl) rfl) (zp (zY (zM (yG (za rfl) zb rfl) rfl) rfl) (zp (zY (zM (zdl (za rfl) zb) rfl) rfl) (wC c3))))⟩
abbrev plD(n:Nat)(J:TZ)(Ds:List TZ):D:=.tup [.int n,zP J,.lst (Ds.map zP)]
theorem zex{k c:Int}{n m w:Nat}(h:KN k n)(hn2:n<=8)(hm:m<=8)(hw:w<=8):∃J Ds,Tab n n J/\Ds.length=w/\(∀T ∈ Ds,Tab m n T)/\RE (ww [(true,.int k),(true,.int n),(true,.int m),(true,.int w),(true,.int c)]) (plD n J Ds):=by
 obtain⟨J,j1,oj,j2,j3,j4⟩:=zlT h hn2
 obtain⟨Ds,d1,d2,d3⟩:=Za (as:=[sI k,sI n,sI m,sI w,sI c,none]) (u:=true) zP (Q:=Tab m n) (n:=w) (cap:=[none,some 0,some 1,some 2,some 4]) (fr:=aC yD aN) (fe:=zK (aC zA (aC zL (aC yD (aC (zK (aC (f2 yK (f2 (fC (.int 31)) zx zN) zF) (aC (fC (.int 9)) aN)) zX) aN)))) ZW) (zq (za rfl) zJ) (by omega) λb b0 b1=>by
  obtain⟨xs,x1,x2,x3⟩:=stE (as:=[sI b,sI k,sI n,sI m,sI c]) (a:=f2 yK (f2 (fC (.int 31)) zx zN) zF) (b:=fC (.int 9)) (m:=9) (by omega) (WD.e (xR (za rfl) (wL zb (za rfl) (yh (by decide) (by decide)) (yh (by omega) (by omega))))) (WD.e zb)
  obtain⟨T,t1,t2⟩:=zoR h hn2 hm x1 x2
  exact⟨[sI b,sI k,sI n,sI m,sI c],T,rfl,zrb (WD.e (za rfl)) (WD.e (za rfl)) (WD.e (za rfl)) x3 t2,t1⟩
 refine⟨J,Ds,j1,d1,d2,xW rfl (zp (Zg (p:=5) d3 (zB rfl)) (wC (zkO (os:=[lfI n,oj,.lf true (.lst (Ds.map zP))]) (zm (za rfl) (Xi (ZF (zq (za rfl) (zq (za rfl) zJ)) j2) (zm (za rfl) yd))) (szl rfl) ?_ ?_)))⟩
 · show(true&&(oj.str&&(true&&true)))=true
   rw[j3];rfl
 · show D.tup [.int n,oj.toD,.lst (Ds.map zP)]=_
   rw[j4]
theorem mix{x y a b:Int}(hx:0<=x/\x<a)(hy:0<=y/\y<b):0<=x*b+y/\x*b+y<a*b:=by
 have h1:0<=x*b:=Int.mul_nonneg hx.1 (by omega)
 have h2:x*b<=(a-1)*b:=Int.mul_le_mul_of_nonneg_right (by omega) (by omega)
 rw[Int.sub_mul,Int.one_mul]at h2
 omega
theorem zlN{p a b:Int}(hp:0<=p)(h:p<a*b)(hb:0<b):(0<=p/b/\p/b<a)/\0<=p%b/\p%b<b:=
 ⟨⟨Int.ediv_nonneg hp (by omega),Int.ediv_lt_of_lt_mul hb h⟩,zyK _ (by omega),zyE _ hb⟩
theorem zkz{as:AS}{i j:Nat}{os ps:List O}(hij:i≠j)(h:as[i]? = some (sN os))(hj:as[j]? = some (sN ps))(hl:os.length<sizeLine):
 yQ (xQ i (dC (fV j) dN) xY) as=some (.nx ((as.set j (some (O.nd .ls ps).frz)).set i (sN (os++[(O.nd .ls ps).frz])))):=by
 have e:dC (fV j) dN as=some ([(O.nd .ls ps).frz],as.set j (some (O.nd .ls ps).frz)):=by
  unfold dC
  rw[zas hj]
  show((toO as (.bo j)).bind _)=_
  rw[zml hj];rfl
 unfold yQ xQ;rw[h]
 show((dC (fV j) dN as).bind _).bind _=_
 rw[e];show(Option.bind (match(as.set j (some (O.nd .ls ps).frz))[i]? with|some (some (.nd .ls os))=>_|_=>none) _)=_
 rw[zzV (Ne.symm hij),h];show((xY os [(O.nd .ls ps).frz]).bind _).bind _=_
 have e2:xY os [(O.nd .ls ps).frz]=some (os++[(O.nd .ls ps).frz],.lf true .non):=by unfold xY;exact if_pos hl
 rw[e2];rfl
theorem Ows.frz{α:Type}{toD:α->D}{Q:α->Prop}{os:List O}{l:List α}(h:Ows toD Q os l):(O.nd .ls os).frz = .lf true (.lst (l.map toD)):=by
 show O.lf (O.strs os) (.lst (O.toDs os))=_
 rw[h.st,h.ds]
section
variable{n1 n2 m:Nat}{J1 J2:TZ}{D1 D2:List TZ}
theorem zlV(h1:0<n1)(h2:0<n2)(hn:n1*n2<=8)(j1:Tab n1 n1 J1)(j2:Tab n2 n2 J2):
 ∃os l e6 e7 e8,Ows zH (Row (n1*n2)) os l/\l.length=n1*n2/\forL (gN 6) (zE (zO true 7 (f2 (f2 zx zZ ixP) (f2 xu yK zW) ixP))
 (zE (zO true 8 (f2 (f2 zA zZ ixP) (f2 xu yK zG) ixP))
 (yQ (xQ 5 (dC (zR (yU Y5 yV) [none,some 4,some 8,some 7] yO yI (f2 (f2 (f2 yD (f2 zx zA zW) ixP) zA zN) (f2 zL (f2 zx zA zG) ixP) zF)) dN) xY))))
  (vg 0 (n1*n2)) [sT (plD n1 J1 D1),sT (plD n2 J2 D2),sI m,sI ((n1*n2:Nat):Int),sI n2,sN [],none,none,none,none,none,none,none,none]
  = some (.nx [sT (plD n1 J1 D1),sT (plD n2 J2 D2),sI m,sI ((n1*n2:Nat):Int),sI n2,sN os,e6,e7,e8,none,none,none,none,none]):=by
 have hn2:n2<=8:=zzL (Nat.le_mul_of_pos_left n2 h1) hn
 obtain⟨as',hf,os,l,e6,e7,e8,rfl,ho,hlen⟩:=xO (g:=gN 6) (f:=(zE (zO true 7 (f2 (f2 zx zZ ixP) (f2 xu yK zW) ixP))
  (zE (zO true 8 (f2 (f2 zA zZ ixP) (f2 xu yK zG) ixP))
  (yQ (xQ 5 (dC (zR (yU Y5 yV) [none,some 4,some 8,some 7] yO yI (f2 (f2 (f2 yD (f2 zx zA zW) ixP) zA zN) (f2 zL (f2 zx zA zG) ixP) zF)) dN) xY)))))
  (λi as=>∃(os:List O) (l:TZ) (e6 e7 e8:Option O),as=[sT (plD n1 J1 D1),sT (plD n2 J2 D2),sI m,sI ((n1*n2:Nat):Int),sI n2,sN os,e6,e7,e8,none,none,none,none,none]/\Ows zH (Row (n1*n2)) os l/\l.length=i)
  (vg 0 (n1*n2)) 0 [sT (plD n1 J1 D1),sT (plD n2 J2 D2),sI m,sI ((n1*n2:Nat):Int),sI n2,sN [],none,none,none,none,none,none,none,none] (λi x as hx' hI=>by
   obtain⟨os,l,e6,e7,e8,rfl,ho,hlen⟩:=hI
   obtain⟨rfl,hi⟩:=vY hx'
   have hp:((0:Int)+i)<(n1:Int)*n2:=by rw[<-zzS];omega
   obtain⟨u1,u2⟩:=zlN (by omega) hp (show(0:Int)<n2 by omega)
   obtain⟨r1,a1,b1⟩:=zfo zH (T:=J1) (P:=Row n1) u1.1 (by rw[j1.1];exact u1.2) j1.2
   obtain⟨r2,a2,b2⟩:=zfo zH (T:=J2) (P:=Row n2) u2.1 (by rw[j2.1];exact u2.2) j2.2
   obtain⟨r,c1,c2,c3⟩:=Za (as:=[sT (plD n1 J1 D1),sT (plD n2 J2 D2),sI m,sI ((n1*n2:Nat):Int),sI n2,sN os,sI (0+i),sT (zH r1),sT (zH r2),none,none,none,none,none]) (u:=true) D.int (Q:=λx=>0<=x/\x<((n1*n2:Nat):Int)) (n:=n1*n2) (cap:=[none,some 4,some 8,some 7]) (fr:=aC yD aN) (fe:=f2 (f2 (f2 yD (f2 zx zA zW) ixP) zA zN) (f2 zL (f2 zx zA zG) ixP) zF) (zq (za rfl) zJ) (by omega) λb h0 h3=>by
    obtain⟨v1,v2⟩:=zlN h0 (show b<(n1:Int)*n2 by rw[<-zzS];exact h3) (show(0:Int)<n2 by omega)
    obtain⟨x,x1,x2⟩:=Xr (r:=r1) (P:=λx=>0<=x/\x<(n1:Int)) v1.1 (by rw[b1.1];exact v1.2) b1.2
    obtain⟨y,y1,y2⟩:=Xr (r:=r2) (P:=λx=>0<=x/\x<(n2:Int)) v2.1 (by rw[b2.1];exact v2.2) b2.2
    have n18:n1<=8:=zzL (Nat.le_mul_of_pos_right n1 h2) hn
    refine⟨[sI b,sI n2,sT (zH r2),sT (zH r1)],x*n2+y,rfl,WD.e (xR (wL (zr (za rfl) (Zq (za rfl) (za rfl) (by omega) (yh (by omega) (by omega))) x1 rfl) (za rfl) (yh (by omega) (by omega)) (yh (by omega) (by omega))) (zr (za rfl) (yJ (za rfl) (za rfl) (by omega)) y1 rfl)), ?_⟩
    rw[zzS]
    exact mix x2 y2
   obtain⟨os',o1,o2⟩:=zhF (x:=r) (i:=5) (toD:=zH) (Q:=Row (n1*n2)) rfl ho (by omega) c3 ⟨c1,c2⟩
   refine⟨[sT (plD n1 J1 D1),sT (plD n2 J2 D2),sI m,sI ((n1*n2:Nat):Int),sI n2,sN os,sI (0+i),e7,e8,none,none,none,none,none],rfl,_,zT (xF (i:=7) (yR (yR (za (i:=0) rfl) zb rfl) (Zq (za (i:=6) rfl) (za (i:=4) rfl) (by omega) (yh (by omega) (by omega))) a1) (zB rfl)) (zT (xF (i:=8) (yR (yR (za (i:=1) rfl) zb rfl) (yJ (za (i:=6) rfl) (za (i:=4) rfl) (by omega)) a2) (zB rfl)) o2),os',l++[r],_,_,_,rfl,o1,by rw[zzG,hlen];show 0+i+1=_;omega⟩)
  ⟨[],[],none,none,none,rfl,Ows.nil,rfl⟩
 rw[wI]at hlen
 exact⟨os,l,e6,e7,e8,ho,by omega,hf⟩
end
abbrev B14(n1 n2 m:Nat)(J1 J2:TZ)(D1 D2:List TZ)(os5:List O)(e6 e7 e8 e9 e10 e11 e12 e13:Option O):AS:=
 [sT (plD n1 J1 D1),sT (plD n2 J2 D2),sI m,sI ((n1*n2:Nat):Int),sI n2,sN os5,e6,e7,e8,e9,e10,e11,e12,e13]
abbrev bs1:SF:=(zE (zO true 13 (f2 (f2 (f2 vh wu ixP) (f2 xu yK zW) ixP) yK zN))
 (yQ (xQ 12 (dC (f2 (fV 13) (f2 (f2 (fV 8) wu ixP) (f2 xu yK zG) ixP) zF) dN) xY)))
abbrev bs2:SF:=(zE (zO false 12 (yW dN))
 (zE (v4 (yU Y5 yV) (gN 6) bs1)
 (yQ (xQ 10 (dC (fV 12) dN) xY))))
abbrev bs3:SF:=(zE (zO false 10 (yW dN))
 (zE (v4 (yU Xw yV) (gN 11) bs2)
 (yQ (xQ 9 (dC (fV 10) dN) xY))))
section
variable{n1 n2 m:Nat}{J1 J2:TZ}{D1 D2:List TZ}{os5:List O}
theorem ztB{T1 T2:TZ}{c:Int}{e6 e9 e10 e13:Option O}(h1:0<n1)(h2:0<n2)(hn:n1*n2<=8)(t1:Tab m n1 T1)(t2:Tab m n2 T2)(c0:0<=c)(c1:c<m):
 ∃os r f6 f13,Ows D.int (λx=>0<=x/\x<((n1*n2:Nat):Int)) os r/\r.length=n1*n2/\forL (gN 6) bs1 (vg 0 (n1*n2)) (B14 n1 n2 m J1 J2 D1 D2 os5 e6 (sT (zP T1)) (sT (zP T2)) e9 e10 (sI c) (sN []) e13)
  = some (.nx (B14 n1 n2 m J1 J2 D1 D2 os5 f6 (sT (zP T1)) (sT (zP T2)) e9 e10 (sI c) (sN os) f13)):=by
 have n28:n2<=8:=zzL (Nat.le_mul_of_pos_left n2 h1) hn
 have n18:n1<=8:=zzL (Nat.le_mul_of_pos_right n1 h2) hn
 obtain⟨r1,a1,b1⟩:=zfo zH (T:=T1) (P:=Row n1) c0 (by rw[t1.1];exact c1) t1.2
 obtain⟨r2,a2,b2⟩:=zfo zH (T:=T2) (P:=Row n2) c0 (by rw[t2.1];exact c1) t2.2
 obtain⟨as',hf,os,l,f6,f13,rfl,ho,hlen⟩:=xO (g:=gN 6) (f:=bs1)
  (λi as=>∃(os:List O) (l:List Int) (f6 f13:Option O),as=B14 n1 n2 m J1 J2 D1 D2 os5 f6 (sT (zP T1)) (sT (zP T2)) e9 e10 (sI c) (sN os) f13/\Ows D.int (λx=>0<=x/\x<((n1*n2:Nat):Int)) os l/\l.length=i)
  (vg 0 (n1*n2)) 0 (B14 n1 n2 m J1 J2 D1 D2 os5 e6 (sT (zP T1)) (sT (zP T2)) e9 e10 (sI c) (sN []) e13) (λi x as hx' hI=>by
   obtain⟨os,l,f6,f13,rfl,ho,hlen⟩:=hI
   obtain⟨rfl,hi⟩:=vY hx'
   have hp:((0:Int)+i)<(n1:Int)*n2:=by rw[<-zzS];omega
   obtain⟨u1,u2⟩:=zlN (by omega) hp (show(0:Int)<n2 by omega)
   obtain⟨x,x1,x2⟩:=Xr (r:=r1) (P:=λx=>0<=x/\x<(n1:Int)) u1.1 (by rw[b1.1];exact u1.2) b1.2
   obtain⟨y,y1,y2⟩:=Xr (r:=r2) (P:=λx=>0<=x/\x<(n2:Int)) u2.1 (by rw[b2.1];exact u2.2) b2.2
   have q:0<=x*n2+y/\x*n2+y<((n1*n2:Nat):Int):=by rw[zzS];exact mix x2 y2
   obtain⟨os',o1,o2⟩:=zhF (as:=B14 n1 n2 m J1 J2 D1 D2 os5 (sI (0+i)) (sT (zP T1)) (sT (zP T2)) e9 e10 (sI c) (sN os) (sI (x*n2))) (x:=x*n2+y) (i:=12) (toD:=D.int) (Q:=λx=>0<=x/\x<((n1*n2:Nat):Int)) (a:=f2 (fV 13) (f2 (f2 (fV 8) wu ixP) (f2 xu yK zG) ixP) zF) rfl ho (by omega)
    (WD.e (xR (za rfl) (zr (yR (za rfl) (za rfl) a2) (yJ (za rfl) (za rfl) (by omega)) y1 rfl))) q
   exact⟨B14 n1 n2 m J1 J2 D1 D2 os5 (sI (0+i)) (sT (zP T1)) (sT (zP T2)) e9 e10 (sI c) (sN os) f13,rfl,_,zT (xF (i:=13) (wL (zr (yR (za (i:=7) rfl) (za (i:=11) rfl) a1) (Zq (za (i:=6) rfl) (za (i:=4) rfl) (by omega) (yh (by omega) (by omega))) x1 rfl) (za (i:=4) rfl) (yh (by omega) (by omega)) (yh (by omega) (by omega))) (zB rfl)) o2,os',l++[x*n2+y],_,_,rfl,o1,by rw[zzG,hlen];show 0+i+1=_;omega⟩)
  ⟨[],[],_,_,rfl,Ows.nil,rfl⟩
 rw[wI]at hlen
 exact⟨os,l,f6,f13,ho,by omega,hf⟩
theorem zsZ{T1 T2:TZ}{e6 e9 e11 e12 e13:Option O}(h1:0<n1)(h2:0<n2)(hn:n1*n2<=8)(hm:m<=8)(t1:Tab m n1 T1)(t2:Tab m n2 T2):
 ∃os T f6 f11 f12 f13,Ows zH (Row (n1*n2)) os T/\T.length=m/\forL (gN 11) bs2 (vg 0 m) (B14 n1 n2 m J1 J2 D1 D2 os5 e6 (sT (zP T1)) (sT (zP T2)) e9 (sN []) e11 e12 e13)
  = some (.nx (B14 n1 n2 m J1 J2 D1 D2 os5 f6 (sT (zP T1)) (sT (zP T2)) e9 (sN os) f11 f12 f13)):=by
 obtain⟨as',hf,os,l,f6,f11,f12,f13,rfl,ho,hlen⟩:=xO (g:=gN 11) (f:=bs2)
  (λi as=>∃(os:List O) (l:TZ) (f6 f11 f12 f13:Option O),as=B14 n1 n2 m J1 J2 D1 D2 os5 f6 (sT (zP T1)) (sT (zP T2)) e9 (sN os) f11 f12 f13/\Ows zH (Row (n1*n2)) os l/\l.length=i)
  (vg 0 m) 0 (B14 n1 n2 m J1 J2 D1 D2 os5 e6 (sT (zP T1)) (sT (zP T2)) e9 (sN []) e11 e12 e13) (λi x as hx' hI=>by
   obtain⟨os,l,f6,f11,f12,f13,rfl,ho,hlen⟩:=hI
   obtain⟨rfl,hi⟩:=vY hx'
   obtain⟨ps,r,g6,g13,p1,p2,p3⟩:=ztB (J1:=J1) (J2:=J2) (D1:=D1) (D2:=D2) (os5:=os5) (e6:=f6) (e9:=e9) (e10:=sN os) (e13:=f13) h1 h2 hn t1 t2 (c:=0+i) (by omega) (by omega)
   have ap:=zkz (as:=B14 n1 n2 m J1 J2 D1 D2 os5 g6 (sT (zP T1)) (sT (zP T2)) e9 (sN os) (sI (0+i)) (sN ps) g13) (i:=10) (j:=12) (by decide) rfl rfl (by rw[ho.ln];exact ZL (by omega))
   rw[p1.frz]at ap
   exact⟨B14 n1 n2 m J1 J2 D1 D2 os5 f6 (sT (zP T1)) (sT (zP T2)) e9 (sN os) (sI (0+i)) f12 f13,rfl,_,zT (xx (i:=12) (wQ yd (szl rfl)) (zB rfl)) (zT (xX (vB (zq (za (i:=3) rfl) zJ) (by omega) (by omega)) p3) ap),_,l++[r],_,_,_,_,rfl,ho.snoc (o:=.lf true (zH r)) (a:=r) rfl rfl ⟨p2,p1.al⟩,by rw[zzG,hlen];show 0+i+1=_;omega⟩)
  ⟨[],[],_,_,_,_,rfl,Ows.nil,rfl⟩
 rw[wI]at hlen
 exact⟨os,l,f6,f11,f12,f13,ho,by omega,hf⟩
theorem zdC{α:Type}{f:α->D}{l:List α}{i:Nat}{d:D}(h:(l.map f)[i]? = some d):∃a ∈ l,d=f a:=by
 rw[zzF]at h
 obtain⟨a,h1,h2⟩:=zzU.mp h
 exact⟨a,zzX h1,h2.symm⟩
theorem zsN{w:Nat}{e6 e7 e8 e10 e11 e12 e13:Option O}(h1:0<n1)(h2:0<n2)(hn:n1*n2<=8)(hm:m<=8)(hw:w<=8)(l1:D1.length=w)(l2:D2.length=w)(t1:∀T ∈ D1,Tab m n1 T)(t2:∀T ∈ D2,Tab m n2 T):
 ∃os Ds f6 f7 f8 f10 f11 f12 f13,Ows zP (Tab m (n1*n2)) os Ds/\Ds.length=w/\forL (gT 2 (gsC (gN 7) (gsC (gN 8) gsN))) bs3 (Wu true (D1.map zP) (D2.map zP)) (B14 n1 n2 m J1 J2 D1 D2 os5 e6 e7 e8 (sN []) e10 e11 e12 e13)
  = some (.nx (B14 n1 n2 m J1 J2 D1 D2 os5 f6 f7 f8 (sN os) f10 f11 f12 f13)):=by
 obtain⟨as',hf,os,l,f6,f7,f8,f10,f11,f12,f13,rfl,ho,hlen⟩:=xO (g:=gT 2 (gsC (gN 7) (gsC (gN 8) gsN))) (f:=bs3)
  (λi as=>∃(os:List O) (l:List TZ) (f6 f7 f8 f10 f11 f12 f13:Option O),as=B14 n1 n2 m J1 J2 D1 D2 os5 f6 f7 f8 (sN os) f10 f11 f12 f13/\Ows zP (Tab m (n1*n2)) os l/\l.length=i)
  (Wu true (D1.map zP) (D2.map zP)) 0 (B14 n1 n2 m J1 J2 D1 D2 os5 e6 e7 e8 (sN []) e10 e11 e12 e13) (λi x as hx' hI=>by
   obtain⟨os,l,f6,f7,f8,f10,f11,f12,f13,rfl,ho,hlen⟩:=hI
   obtain⟨d,e,z1,z2,rfl⟩:=VP hx'
   have hil:i<D1.length:=by have:=(zzD.mp z1).1;rw[zD]at this;exact this
   obtain⟨T1,m1,rfl⟩:=zdC z1
   obtain⟨T2,m2,rfl⟩:=zdC z2
   obtain⟨ps,T,g6,g11,g12,g13,p1,p2,p3⟩:=zsZ (J1:=J1) (J2:=J2) (D1:=D1) (D2:=D2) (os5:=os5) (e6:=f6) (e9:=sN os) (e11:=f11) (e12:=f12) (e13:=f13) h1 h2 hn hm (t1 T1 m1) (t2 T2 m2)
   have ap:=zkz (as:=B14 n1 n2 m J1 J2 D1 D2 os5 g6 (sT (zP T1)) (sT (zP T2)) (sN os) (sN ps) g11 g12 g13) (i:=9) (j:=10) (by decide) rfl rfl (by rw[ho.ln];exact ZL (by omega))
   rw[p1.frz]at ap
   exact⟨B14 n1 n2 m J1 J2 D1 D2 os5 f6 (sT (zP T1)) (sT (zP T2)) (sN os) f10 f11 f12 f13,rfl,_,zT (xx (i:=10) (wQ yd (szl rfl)) (zB rfl)) (zT (xX (vB (zq (za (i:=2) rfl) zJ) (by omega) (by omega)) p3) ap),_,l++[T],_,_,_,_,_,_,_,rfl,ho.snoc (o:=.lf true (zP T)) (a:=T) rfl rfl ⟨p2,p1.al⟩,by rw[zzG,hlen];show 0+i+1=_;omega⟩)
  ⟨[],[],_,_,_,_,_,_,_,rfl,Ows.nil,rfl⟩
 rw[zbv,zD,zD,l1,l2,Nat.min_self]at hlen
 exact⟨os,l,f6,f7,f8,f10,f11,f12,f13,ho,by omega,hf⟩
theorem zce{as as2:AS}{j:Nat}{ps:List O}{fr:DF}{os:List O}(hj:as[j]? = some (sN ps))(hr:fr (as.set j (some (O.nd .ls ps).frz))=some (os,as2)):dC (fV j) fr as=some ((O.nd .ls ps).frz::os,as2):=by
 unfold dC
 rw[zas hj]
 show((toO as (.bo j)).bind _)=_
 rw[zml hj]
 show(fr (as.set j (some (O.nd .ls ps).frz))).bind _=_
 rw[hr];rfl
theorem zbR{as as1:AS}{fr:DF}{os:List O}(h:fr as=some (os,as1))(hl:os.length<=sizeLine):yw fr as=some (.ow (Y4 os),as1):=by
 unfold yw
 rw[h];show(if os.length<=sizeLine then _ else _)=_
 rw[if_pos hl]
theorem zkU{w:Nat}(h1:0<n1)(h2:0<n2)(hn:n1*n2<=8)(hm:m<=8)(hw:w<=8)(j1:Tab n1 n1 J1)(j2:Tab n2 n2 J2)(l1:D1.length=w)(l2:D2.length=w)(t1:∀T ∈ D1,Tab m n1 T)(t2:∀T ∈ D2,Tab m n2 T):
 ∃J Ds,Tab (n1*n2) (n1*n2) J/\Ds.length=w/\(∀T ∈ Ds,Tab m (n1*n2) T)/\RE (Zj [(true,plD n1 J1 D1),(true,plD n2 J2 D2),(true,.int m)]) (plD (n1*n2) J Ds):=by
 have n28:n2<=8:=zzL (Nat.le_mul_of_pos_left n2 h1) hn
 have n18:n1<=8:=zzL (Nat.le_mul_of_pos_right n1 h2) hn
 obtain⟨os,J,e6,e7,e8,ho,hl,hf⟩:=zlV (m:=m) (D1:=D1) (D2:=D2) h1 h2 hn j1 j2
 obtain⟨ps,Ds,f6,f7,f8,f10,f11,f12,f13,po,pl,pf⟩:=zsN (J1:=J1) (J2:=J2) (os5:=os) (e6:=e6) (e7:=e7) (e8:=e8) (e10:=none) (e11:=none) (e12:=none) (e13:=none) h1 h2 hn hm hw l1 l2 t1 t2
 refine⟨J,Ds,⟨hl,ho.al⟩,pl,po.al,xW rfl (zp (as1:=[sT (plD n1 J1 D1),sT (plD n2 J2 D2),sI m,sI ((n1*n2:Nat):Int),none,none,none,none,none,none,none,none,none,none]) ?_ (zp (xF (i:=4) (zr (za rfl) zb rfl rfl) (zB rfl)) (zp (xx (i:=5) (wQ yd (szl rfl)) (zB rfl)) (zp (xX (vB (zq (za rfl) zJ) (by omega) (by omega)) hf) (zp (xx (i:=9) (wQ yd (szl rfl)) (zB rfl)) (zp (xX ?_ pf) ?_))))))⟩
 · have:=xF (st:=true) (i:=3) (as:=[sT (plD n1 J1 D1),sT (plD n2 J2 D2),sI m,none,none,none,none,none,none,none,none,none,none,none]) (wL (zr (g:=ixP) (za (i:=0) rfl) (zb (x:=.int 0)) rfl rfl) (zr (g:=ixP) (za (i:=1) rfl) (zb (x:=.int 0)) rfl rfl) (yh (i:=(n1:Int)) (by omega) (by omega)) (yh (i:=(n2:Int)) (by omega) (by omega))) (zB rfl)
   rw[zzS]
   exact this
 · rfl
 · have e:=xr (as:=B14 n1 n2 m J1 J2 D1 D2 os f6 f7 f8 (sN ps) f10 f11 f12 f13) (a:=fV 3) (za rfl) (zce (j:=5) (fr:=dC (fV 9) dN) rfl (zce (j:=9) (fr:=dN) rfl rfl))
   rw[ho.frz,po.frz]at e
   exact⟨_,Wg (zbR e (szl rfl)) rfl,rfl,rfl⟩
end
abbrev zjp:List D:=[.tup [.int 2,.int 2],.tup [.int 3,.int 2],.tup [.int 2,.int 3],.tup [.int 4,.int 2],.tup [.int 2,.int 4],.tup [.int 2,.int 2]]
theorem znl(x:Int):∃a b:Nat,2<=a/\2<=b/\a*b<=8/\ixP (.lst zjp) (.int (x%6))=some (.im (.tup [.int a,.int b])):=by
 rcases(show x%6=0\/x%6=1\/x%6=2\/x%6=3\/x%6=4\/x%6=5 by omega)with e|e|e|e|e|e<;>rw[e]
 · exact⟨2,2,by decide,by decide,by decide,rfl⟩
 · exact⟨3,2,by decide,by decide,by decide,rfl⟩
 · exact⟨2,3,by decide,by decide,by decide,rfl⟩
 · exact⟨4,2,by decide,by decide,by decide,rfl⟩
 · exact⟨2,4,by decide,by decide,by decide,rfl⟩
 · exact⟨2,2,by decide,by decide,by decide,rfl⟩
theorem zrD(x:Int):∃n:Nat,2<=n/\n<=8/\ixP (.lst [.int 2,.int 3,.int 4,.int 5,.int 3,.int 4,.int 6,.int 8]) (.int (x%8))=some (.im (.int n)):=by
 rcases(show x%8=0\/x%8=1\/x%8=2\/x%8=3\/x%8=4\/x%8=5\/x%8=6\/x%8=7 by omega)with e|e|e|e|e|e|e|e<;>rw[e]
 · exact⟨2,by decide,by decide,rfl⟩
 · exact⟨3,by decide,by decide,rfl⟩
 · exact⟨4,by decide,by decide,rfl⟩
 · exact⟨5,by decide,by decide,rfl⟩
 · exact⟨3,by decide,by decide,rfl⟩
 · exact⟨4,by decide,by decide,rfl⟩
 · exact⟨6,by decide,by decide,rfl⟩
 · exact⟨8,by decide,by decide,rfl⟩
theorem KN4{x:Int}{n:Nat}(h:2<=n):KN (x%4) n:=by
 rcases(show x%4=0\/x%4=1\/x%4=2\/x%4=3 by omega)with e|e|e|e<;>rw[e]
 · exact .inl ⟨rfl,by omega⟩
 · exact .inr (.inl ⟨rfl,by omega⟩)
 · exact .inr (.inr (.inl ⟨rfl,h⟩))
 · exact .inr (.inr (.inr (.inl ⟨rfl,h⟩)))
theorem zqM{as:AS}:WE (yW (dC (yw (dC yX (dC yX dN))) (dC (yw (dC Zb (dC yX dN))) (dC (yw (dC yX (dC Zb dN))) (dC (yw (dC ZS (dC yX dN))) (dC (yw (dC yX (dC ZS dN))) (dC (yw (dC yX (dC yX dN))) dN))))))) as (.lst zjp):=by
 have t:∀a b:Int,WD (yw (dC (fC (.int a)) (dC (fC (.int b)) dN))) as true (.tup [.int a,.int b]):=λa b=>W3 (os:=[lfI a,lfI b]) (zm zb (zm zb yd)) (szl rfl) rfl
 exact vO (os:=zjp.map (O.lf true)) (zm (t 2 2) (zm (t 3 2) (zm (t 2 3) (zm (t 4 2) (zm (t 2 4) (zm (t 2 2) yd)))))) (szl rfl) rfl rfl
theorem znG{c:Int}{m w:Nat}(hm:m<=8)(hw:w<=8):∃(n:Nat) (J:TZ) (Ds:List TZ),1<=n/\n<=8/\Tab n n J/\Ds.length=w/\(∀T ∈ Ds,Tab m n T)/\RE (YG [(true,.int c),(true,.int m),(true,.int w)]) (plD n J Ds):=by
 obtain⟨xs,hl,hx,ws⟩:=stE (as:=[sI c,sI m,sI w,none,none,none,none,none]) (a:=fV 0) (b:=fC (.int 5)) (c:=c) (m:=5) (by omega) (WD.e (za rfl)) (WD.e zb)
 obtain⟨x0,a0,_⟩:=at2 hx (k:=0) (by omega) (by omega)
 obtain⟨x1,a1,_⟩:=at2 hx (k:=1) (by omega) (by omega)
 obtain⟨x2,a2,_⟩:=at2 hx (k:=2) (by omega) (by omega)
 obtain⟨x3,a3,_⟩:=at2 hx (k:=3) (by omega) (by omega)
 obtain⟨x4,a4,_⟩:=at2 hx (k:=4) (by omega) (by omega)
 have y0:0<=x0%7/\x0%7<7:=⟨by omega,by omega⟩
 have start:∀(C:SF) (x:D),Rt (C [sI c,sI m,sI w,sT (.lst (xs.map D.int)),sI (x0%7),none,none,none]) x->Rt (zE (zO true 3 (zK (aC zx (aC zbm aN)) zX)) (zE (zO true 4 (f2 (f2 yD yt ixP) (fC (.int 7)) zG)) C) [sI c,sI m,sI w,none,none,none,none,none]) x:=λC x h=>
  zp (Zg (p:=3) ws (zB rfl)) (zp (xF (i:=4) (yJ (zr (za rfl) zb a0 rfl) zb (by decide)) (zB rfl)) h)
 generalize x0%7=k at y0 start
 by_cases hk:4<k
 · obtain⟨a,b,ha,hb,hab,es⟩:=znl x1
   obtain⟨J1,D1,j1,l1,t1,p1⟩:=zex (k:=x2%4) (c:=x3) (m:=m) (w:=w) (KN4 ha) (zzL (Nat.le_mul_of_pos_right a (by omega)) hab) hm hw
   obtain⟨J2,D2,j2,l2,t2,p2⟩:=zex (k:=x4%4) (c:=x3+7) (m:=m) (w:=w) (KN4 hb) (zzL (Nat.le_mul_of_pos_left b (by omega)) hab) hm hw
   obtain⟨J,Ds,q1,q2,q3,q4⟩:=zkU (n1:=a) (n2:=b) (m:=m) (w:=w) (by omega) (by omega) hab hm hw j1 j2 l1 l2 t1 t2
   refine⟨a*b,J,Ds,Nat.mul_pos (by omega) (by omega),hab,q1,q2,q3,xW rfl (start _ _ (Zk (YC (zM (zbs (za rfl) zb) (congrArg some (zyL hk))) (zp (xF (i:=5) (f2E zqM (WD.e (yJ (zr (za rfl) zb a1 rfl) zb (by decide))) es) (zB rfl)) (zp (Zg (p:=6) (zjl (WD.e (yJ (zr (za rfl) zb a2 rfl) zb (by decide))) (WD.e (zr (za rfl) zb rfl rfl)) (WD.e (za rfl)) (WD.e (za rfl)) (WD.e (zr (za rfl) zb a3 rfl)) p1) (zB rfl)) (wC (VJ (WD.e (za rfl)) (zjl (WD.e (yJ (zr (za rfl) zb a4 rfl) zb (by decide))) (WD.e (zr (za rfl) zb rfl rfl)) (WD.e (za rfl)) (WD.e (za rfl)) (WD.e (xR (zr (za rfl) zb a3 rfl) zb)) p2) (WD.e (za rfl)) q4)))))))⟩
 · obtain⟨n,n2,n8,en⟩:=zrD x1
   have fin:∀n':Nat,KN k n'->n'<=8->∃(n:Nat) (J:TZ) (Ds:List TZ),1<=n/\n<=8/\Tab n n J/\Ds.length=w/\(∀T ∈ Ds,Tab m n T)/\Rt (yP (zK (aC yK (aC vh (aC zA (aC zL (aC (f2 yD Zb ixP) aN))))) ww) [sI c,sI m,sI w,sT (.lst (xs.map D.int)),sI k,none,none,sI n']) (plD n J Ds):=λn' hK h8=>by
    obtain⟨J,Ds,j1,l1,t1,p1⟩:=zex (k:=k) (c:=x3) (m:=m) (w:=w) hK h8 hm hw
    refine⟨n',J,Ds, ?_,h8,j1,l1,t1,wC (zjl (WD.e (za rfl)) (WD.e (za rfl)) (WD.e (za rfl)) (WD.e (za rfl)) (WD.e (zr (za rfl) zb a3 rfl)) p1)⟩
    unfold KN at hK
    omega
   have hk':=congrArg some (zyD hk)
   have set7:zO true 7 (f2 (yW (dC yX (dC Zb (dC ZS (dC zbm (dC Zb (dC ZS (dC zbj (dC WN dN))))))))) (f2 (f2 yD zZ ixP) WN zG) ixP) [sI c,sI m,sI w,sT (.lst (xs.map D.int)),sI k,none,none,none]=some (.nx [sI c,sI m,sI w,sT (.lst (xs.map D.int)),sI k,none,none,sI n]):=
    xF (i:=7) (f2E (vO (os:=([2,3,4,5,3,4,6,8]:List Int).map lfI) (zm zb (zm zb (zm zb (zm zb (zm zb (zm zb (zm zb (zm zb yd)))))))) (szl rfl) rfl rfl) (WD.e (yJ (zr (za rfl) zb a1 rfl) zb (by decide))) en) (zB rfl)
   by_cases h4:k=4
   · subst h4
     obtain⟨n',J,Ds,r1,r2,r3,r4,r5,r6⟩:=fin 4 (.inr (.inr (.inr (.inr ⟨rfl,rfl⟩)))) (by decide)
     exact⟨n',J,Ds,r1,r2,r3,r4,r5,xW rfl (start _ _ (zp (zY (zM (zbs (za rfl) zb) hk') rfl) (zp set7 (zp (zY (Vx (k:=false) (zM (yG (za rfl) zb rfl) rfl) (λh=>nomatch h) (λ_=>rfl)) rfl) (zp (wU (zM (yG (za rfl) zb rfl) rfl) (xF (i:=7) zb (zB rfl))) r6)))))⟩
   · have f4:∀e:Option O,WT (fT (f2 yK ZS (zQ .Eq))) [sI c,sI m,sI w,sT (.lst (xs.map D.int)),sI k,none,none,e] false:=λe=>zM (yG (za rfl) zb rfl) (by show some (k==4)=_;simp[h4])
     by_cases h0:k=0/\x2%9=0
     · obtain⟨rfl,h9⟩:=h0
       obtain⟨n',J,Ds,r1,r2,r3,r4,r5,r6⟩:=fin 1 (.inl ⟨rfl,zzK _⟩) (by decide)
       exact⟨n',J,Ds,r1,r2,r3,r4,r5,xW rfl (start _ _ (zp (zY (zM (zbs (za rfl) zb) hk') rfl) (zp set7 (zp (wU (Vx (k:=true) (zM (yG (za rfl) zb rfl) rfl) (λ_=>zM (yG (yJ (zr (za rfl) zb a2 rfl) zb (by decide)) zb rfl) (by show some (x2%9==0)=_;simp[h9])) (λh=>nomatch h)) (xF (i:=7) zb (zB rfl))) (zp (zY (f4 _) rfl) r6)))))⟩
     · have hK:KN k n:=by unfold KN;omega
       obtain⟨n',J,Ds,r1,r2,r3,r4,r5,r6⟩:=fin n hK n8
       refine⟨n',J,Ds,r1,r2,r3,r4,r5,xW rfl (start _ _ (zp (zY (zM (zbs (za rfl) zb) hk') rfl) (zp set7 (zp (zY (Vx (k:=k==0) (zM (yG (za rfl) zb rfl) rfl) (λh=>zM (yG (yJ (zr (za rfl) zb a2 rfl) zb (by decide)) zb rfl) ?_) (λ_=>rfl)) rfl) (zp (zY (f4 _) rfl) r6)))))⟩
       have hk0:k=0:=by simpa using h
       show some (x2%9==0)=some false
       have:¬x2%9=0:=λz=>h0 ⟨hk0,z⟩
       simp[this]
theorem zni{f:EF}{as:AS}{ds:List D}(h:WE f as (.lst ds)):Wo f as=some (ds.map λd=>(true,d),as):=by
 obtain⟨o,h1,h2,h3⟩:=h
 unfold Wo
 rw[h1]
 have e:zcu as (.ow o)=some ((o.str,o.toD),as):=rfl
 show(zcu as (RV.ow o)).bind (λq=>(zhR q.1).bind λds=>some (ds,q.2))=_
 rw[e,h2,h3]
 show some (kids true ds,as)=_
 rw[zgx]
theorem zek:∀(l:List Int) (k:Nat) (h:k<l.length),(l[k]::l.eraseIdx k).Perm l
 |x::r,0,_=>List.Perm.refl _
 |x::r,k+1,h=>(List.Perm.swap _ _ _).trans ((zek r k (by simpa using h)).cons x)
abbrev yZ(n:Nat):List Int:=(List.range n).map λ(i:Nat)=>(i:Int)
theorem zlL{c:Int}{n:Nat}(hn:0<n)(hn8:n<=8):∃F:List Int,F.Perm (yZ n)/\RE (Yb [(true,.int c),(true,.int n)]) (.lst (F.map D.int)):=by
 obtain⟨xs,hl,hx,ws⟩:=stE (as:=[sI c,sI n,sN ((yZ n).map lfI),sN [],none]) (a:=fV 0) (b:=fV 1) (c:=c) (m:=n) (by omega) (WD.e (za rfl)) (WD.e (za rfl))
 obtain⟨as',hf,L,F,e4,rfl,hp,hlen⟩:=xO (g:=gN 4) (f:=yQ (xQ 3 (dC (xQ 2 (dC (f2 yK (fP Xw Yk) zG) dN) Va) dN) xY))
  (λi as=>∃(L F:List Int) (e4:Option O),as=[sI c,sI n,sN (L.map lfI),sN (F.map lfI),e4]/\(L++F).Perm (yZ n)/\L.length+i=n)
  ((xs.map D.int).map λd=>(true,d)) 0 [sI c,sI n,sN ((yZ n).map lfI),sN [],none] (λi x as hx' hI=>by
    obtain⟨L,F,e4,rfl,hp,hlen⟩:=hI
    have hi:i<n:=by
     have:=(zzD.mp hx').1
     rw[zD,zD,hl]at this
     exact this
    obtain⟨y,rfl⟩:∃y:Int,x=(true,.int y):=by
     rw[zzY,zzF]at hx'
     obtain⟨a,_,h2⟩:=zzU.mp hx'
     exact⟨a,h2.symm⟩
    have l0:(0:Int)<((L.map lfI).length:Int):=by rw[zD];omega
    have z0:=zyK y (show((L.map lfI).length:Int)≠0 by omega)
    have z1:=zyE y l0
    have hk:(y%((L.map lfI).length:Int)).toNat<L.length:=by rw[zD]at z0 z1 ⊢;omega
    generalize hkk:(y%((L.map lfI).length:Int)).toNat=k at hk
    have pop:=zlD (as:=[sI c,sI n,sN (L.map lfI),sN (F.map lfI),sI y]) (i:=2) (os:=L.map lfI) (o:=lfI L[k]) rfl (yJ (za (i:=4) rfl) (zqc (i:=2) rfl) l0) z0 z1 (by rw[zD];omega) (by rw[hkk,zzF,zzB hk];rfl)
    rw[hkk,show(L.map lfI).eraseIdx k=(L.eraseIdx k).map lfI by rw[List.eraseIdx_eq_take_drop_succ,List.eraseIdx_eq_take_drop_succ,zyJ,List.map_take,List.map_drop]]at pop
    have ap:=zks (i:=3) (os:=F.map lfI) (as:=[sI c,sI n,sN (L.map lfI),sN (F.map lfI),sI y]) rfl pop rfl (by rw[zD];have:=hp.length_eq;rw[zzG,zD,zyR]at this;exact ZL (by omega))
    rw[<-ziw]at ap
    refine⟨[sI c,sI n,sN (L.map lfI),sN (F.map lfI),sI y],rfl,_,ap,L.eraseIdx k,F++[L[k]],_,rfl, ?_,by rw[List.length_eraseIdx_of_lt hk];omega⟩
    rw[<-zyY]
    refine(List.perm_append_singleton _ _).trans ?_
    rw[<-List.cons_append]
    exact((zek L k hk).append_right F).trans hp)
  ⟨yZ n,[],none,rfl,by rw[zyB],by rw[zD,zyR];rfl⟩
 rw[zD,zD,hl]at hlen
 have hL:L=[]:=List.eq_nil_of_length_eq_zero (by omega)
 subst hL
 have s2:=xx (i:=2) (as:=[sI c,sI n,none,none,none]) (zjs (a:=fV 1) (x:=.int n) (g:=lrP) (zs:=(yZ n).map D.int) (WD.e (za rfl)) (by
  show(if(0:Int)<=n/\(n:Int)<=100000 then _ else _)=_
  rw[if_pos ⟨by omega,by omega⟩,zzY];rfl)) (zB rfl)
 rw[zgZ]at s2
 exact⟨F,hp,xW rfl (zp s2 (zp (xx (i:=3) (wQ yd (szl rfl)) (zB rfl)) (zp (xX (zni ws) hf) ⟨_,zjY (i:=3) rfl (vp F).2.1,(zcK F).1,(zcK F).2⟩)))⟩
abbrev abc:Str:="abcdefghijklmnopqrstuvwxyz"
theorem zoa:∀k,k<26->abc.cps.toList[k]? = some (97+k):=by decide +kernel
theorem znk{i:Int}(h0:0<=i)(h1:i<26):ixP (.str abc) (.int i)=some (.im (.str ⟨#[97+i.toNat]⟩)):=by
 show(if abc.length<=sizeLine then(atI abc.cps.toList i).bind (λc=>some (R0.im (.str ⟨#[c]⟩)))else none)=_
 rw[if_pos (show abc.length<=sizeLine by decide +kernel)]
 have:=Yu (zoa i.toNat (by omega))
 rw[show((i.toNat:Nat):Int)=i by omega]at this
 rw[this];rfl
theorem zib:∀l:List Str,zcP (l.map D.str)=some l
 | []=>rfl
 |x::r=>by
  show(zcP (r.map D.str)).bind _=_
  rw[zib r];rfl
theorem zsC:∀l:List Str,(∀s ∈ l,s.length=1)->(l.map (·.length)).sum=l.length
 | [],_=>rfl
 |x::r,h=>by
  show x.length+(r.map (·.length)).sum=r.length+1
  rw[h x (zzC ..),zsC r λs m=>h s (zzA _ m)];omega
theorem len_app(a b:Str):(a++b).length=a.length+b.length:=by
 show(a++b).cps.size=a.cps.size+b.cps.size
 rw[Str.cps_append,Array.size_append]
theorem zhB:∀l:List Str,(∀s ∈ l,s.length=1)->(Str.join "" l).length=l.length
 | [],_=>rfl
 | [x],h=>h x (zzC ..)
 |x::y::r,h=>by
  show(x++""++Str.join "" (y::r)).length=_
  rw[len_app,len_app,h x (zzC ..),zhB (y::r) λs m=>h s (zzA _ m)]
  show 1+0+(r.length+1)=r.length+1+1
  omega
theorem add_str{a b:Str}(h:a.length+b.length<=1000):zam .Add (.str a) (.str b)=some (.im (.str (a++b))):=if_pos (szs (by omega))
abbrev nm(A B:Str)(x:Int)(k:Nat):Str:=A++⟨#[97+((x+3*(k:Int))%26).toNat]⟩++B
theorem zpG{A B:Str}{x:Int}{k j:Nat}(hk:k<10)(hj:j<10)(h:nm A B x k=nm A B x j):k=j:=by
 have h:=congrArg (λs:Str=>s.cps.toList) h
 simp only[Str.cps_append,Array.toList_append,zyY,List.append_cancel_left_eq]at h
 have h:=(List.append_cancel_right h)
 injection h with h
 omega
theorem zmE{c:Int}:∃ss:List Str,ss.length=10/\ss.Nodup/\RE (Z4 [(true,.int c),(true,.int (10:Nat))]) (.lst (ss.map D.str)):=by
 obtain⟨xs,hl,hx,ws⟩:=stE (as:=[sI c,sI (10:Nat),sT (.str abc),none,none,none,none,none]) (a:=fV 0) (b:=fC (.int 9)) (c:=c) (m:=9) (by omega) (WD.e (za rfl)) (WD.e zb)
 obtain⟨x8,a8,_⟩:=at2 hx (k:=8) (by omega) (by omega)
 have hk:(1+c%8).toNat<=9:=by omega
 have sl:WE (fSl yD oN (oS (f2 zZ (f2 zx WN zG) zF)) slP) [sI c,sI (10:Nat),sT (.str abc),sT (.lst (xs.map D.int)),none,none,none,none] (.lst ((xs.take (1+c%8).toNat).map D.int)):=by
  refine zdJ (lo:=none) (hi:=some (1+c%8)) (WD.e (za rfl)) rfl ?_ ?_
  · have:=xR (as:=[sI c,sI (10:Nat),sT (.str abc),sT (.lst (xs.map D.int)),none,none,none,none]) (zb (x:=.int 1)) (yJ (za (i:=0) rfl) (zb (x:=.int 8)) (by decide))
    unfold oS
    unfold WD at this
    rw[this];rfl
  · have:=zmt (xs:=(xs.take (1+c%8).toNat).map D.int) (ys:=(xs.drop (1+c%8).toNat).map D.int)
    rw[<-zyJ,List.take_append_drop,zD,zzP,Nat.min_eq_left (by omega),show(((1+c%8).toNat:Nat):Int)=1+c%8 by omega]at this
    exact this
 obtain⟨l,l1,l2,l3⟩:=zbr D.str (Q:=λs=>s.length=1) (cap:=[none,some 2]) (g:=gN 0) (fe:=f2 zA (f2 zx (fC (.int 26)) zG) ixP) (zcQ sl) (by rw[zD,zD,zzP];omega) λy m=>by
  rw[zzY]at m
  obtain⟨z,_,rfl⟩:=zyZ.mp m
  exact⟨[sI z,sT (.str abc)],⟨#[97+(z%26).toNat]⟩,rfl,WD.e (zr (za rfl) (yJ (za rfl) zb (by decide)) (znk (by omega) (by omega)) rfl),rfl⟩
 rw[zD,zD,zzP]at l1
 have hb:(Str.join "" l).length=l.length:=zhB l l2
 have hm:WD (Y6 .str (fC (.str "")) (aC (zR (Zh (fSl yD oN (oS (f2 zZ (f2 zx WN zG) zF)) slP)) [none,some 2] yO yI (f2 zA (f2 zx (fC (.int 26)) zG) ixP)) aN) zjU) [sI c,sI (10:Nat),sT (.str abc),sT (.lst (xs.map D.int)),none,none,none,none] true (.str (Str.join "" l)):=
  zdH zb rfl (Yp l3 zJ) (by
   show(zcP (l.map D.str)).bind _=_
   rw[zib]
   show(if(l.map (·.length)).sum+l.length*0<=16777216 then some (R0.im (.str (Txt.join "" l)))else none)=_
   rw[if_pos (by rw[zsC l l2];omega),zlK]) rfl
 generalize Str.join "" l=base at hb hm
 have lb:(0:Int)<(base.length:Int):=by omega
 have lz:base.length<=sizeLine:=szs (by omega)
 have z0:=zyK (c/8) (show(base.length:Int)≠0 by omega)
 have z1:=zyE (c/8) lb
 generalize hat:c/8%(base.length:Int)=at_ at z0 z1
 have lA:=Txt.slice_le base none (some at_)
 have lB:=Txt.slice_le base (some (at_+1)) none
 have eA:slS (.str base) none (some at_)=some (.im (.str (Txt.slice base none (some at_)))):=if_pos lz
 have eB:slS (.str base) (some (at_+1)) none=some (.im (.str (Txt.slice base (some (at_+1)) none))):=if_pos lz
 generalize Txt.slice base none (some at_)=A at lA eA
 generalize Txt.slice base (some (at_+1)) none=B at lB eB
 have lo1:∀(f:EF) (as:AS) (k:Int),WD f as true (.int k)->oS f as=some (some k,as):=λf as k h=>by
  unfold oS
  unfold WD at h
  rw[h];rfl
 obtain⟨as',hf,os,e7,rfl,ho⟩:=xO (g:=gN 7) (f:=yQ (xQ 6 (dC (f2 (f2 (fSl yK oN (oS vC) slS) (f2 zL (f2 (f2 (f2 yD WN ixP) (f2 Zb vh zN) zF) (fC (.int 26)) zG) ixP) zF) (fSl yK (oS (f2 vC zZ zF)) oN slS) zF) dN) xY))
  (λi as=>∃(os:List O) (e7:Option O),as=[sI c,sI (10:Nat),sT (.str abc),sT (.lst (xs.map D.int)),sT (.str base),sI at_,sN os,e7]/\Ows D.str (λ_=>True) os ((List.range i).map (nm A B x8)))
  (vg 0 10) 0 [sI c,sI (10:Nat),sT (.str abc),sT (.lst (xs.map D.int)),sT (.str base),sI at_,sN [],none] (λi x as hx' hI=>by
   obtain⟨os,e7,rfl,ho⟩:=hI
   obtain⟨rfl,hi⟩:=vY hx'
   rw[zyU]at ho
   have d1:=znk (i:=(x8+3*((0:Int)+i))%26) (by omega) (by omega)
   have e0:(x8+3*((0:Int)+i))%26=(x8+3*(i:Int))%26:=by rw[Int.zero_add]
   obtain⟨os',o1,o2⟩:=zhF (as:=[sI c,sI (10:Nat),sT (.str abc),sT (.lst (xs.map D.int)),sT (.str base),sI at_,sN os,sI (0+i)]) (x:=nm A B x8 i) (i:=6) (toD:=D.str) (Q:=λ_=>True) (a:=f2 (f2 (fSl yK oN (oS vC) slS) (f2 zL (f2 (f2 (f2 yD WN ixP) (f2 Zb vh zN) zF) (fC (.int 26)) zG) ixP) zF) (fSl yK (oS (f2 vC zZ zF)) oN slS) zF) rfl ho (by rw[zD,zyR];omega)
    (WD.e (yR (yR (zfU (za (i:=4) rfl) rfl (lo1 _ _ _ (za (i:=5) rfl)) eA) (zr (za (i:=2) rfl) (yJ (xR (zr (za (i:=3) rfl) zb a8 rfl) (wL zb (za (i:=7) rfl) (yh (by decide) (by decide)) (yh (by omega) (by omega)))) zb (by decide)) d1 rfl) (add_str (by show A.length+1<=_;omega))) (zfU (za (i:=4) rfl) (lo1 _ _ _ (xR (za (i:=5) rfl) zb)) rfl eB) (by
     rw[e0]
     exact add_str (by rw[len_app];show A.length+1+B.length<=_;omega)))) trivial
   refine⟨[sI c,sI (10:Nat),sT (.str abc),sT (.lst (xs.map D.int)),sT (.str base),sI at_,sN os,sI (0+i)],rfl,_,o2,os',_,rfl, ?_⟩
   rw[show 0+i+1=i+1 by omega,List.range_succ,zyJ]
   exact o1)
  ⟨[],none,rfl,Ows.nil⟩
 rw[wI,zyU]at ho
 have s5:=xF (st:=true) (i:=5) (as:=[sI c,sI (10:Nat),sT (.str abc),sT (.lst (xs.map D.int)),sT (.str base),none,none,none]) (yJ (Zq (za (i:=0) rfl) (zb (x:=.int 8)) (by decide) (yh (by decide) (by decide))) (vd (g:=Yk) (x:=.int base.length) (zq (za (i:=4) rfl) zJ) (if_pos lz) rfl) lb) (zB rfl)
 rw[hat]at s5
 refine⟨(List.range 10).map (nm A B x8),by rw[zD,zyR], ?_,xW rfl (zp (xF (i:=2) zb (zB rfl)) (zp (Zg (p:=3) ws (zB rfl)) (zp (xF (i:=4) hm (zB rfl)) (zp s5 (zp (xx (i:=6) (wQ yd (szl rfl)) (zB rfl)) (zp (xX (vB (zq (za rfl) zJ) (by decide) (by decide)) hf) (Ows.retB (i:=6) rfl ho)))))))⟩
 exact List.pairwise_map.mpr ((List.nodup_range (n:=10)).imp_of_mem λha hb hne he=>hne (zpG (List.mem_range.mp ha) (List.mem_range.mp hb) he))
theorem zsk{a b:EF}{as:AS}{d1 d2:List D}(ha:WE a as (.lst d1))(hb:WE b as (.lst d2)):zkT (aC a (aC b aN)) as=some (Wu true d1 d2,as):=by
 have h:=Yp ha (Yp hb (zJ (as:=as)))
 unfold WA at h
 unfold zkT
 rw[h];rfl
theorem zgf{g:GF}{tt:TF}{fe:EF}{as0:AS}:∀{xs:List It1},(∀y ∈ xs,∃as1 b x,g y as0=some as1/\WT tt as1 b/\WD fe as1 true (.int x))->∃l:List Int,wB g tt fe as0 xs=some (l.map lfI)
 | [],_=>⟨[],rfl⟩
 |y::xs,H=>by
  obtain⟨as1,b,x,h1,h2,h3⟩:=H y (zzC ..)
  obtain⟨l,hl⟩:=zgf (g:=g) (tt:=tt) (fe:=fe) (as0:=as0) (xs:=xs) λz m=>H z (zzA _ m)
  cases b with
  |true=>exact⟨x::l,zkC h1 h2 h3 hl⟩
  |false=>exact⟨l,zfJ h1 h2 hl⟩
abbrev wy(p:Str×List Int):D:=.tup [.str p.1,zH p.2]
abbrev Sg(S:SS):Prop:=S.length<=10/\(S.map (·.1)).Nodup
abbrev zpi:List Int:=[1,2,4,8,16,32,64,128]
theorem zkp(st:Bool):∀(a b:List D),(Wu st a b).length<=b.length
 | [],b=>Nat.zero_le _
 |_::_,[]=>zzK _
 |_::a,_::b=>Nat.succ_le_succ (zkp st a b)
theorem zlH{c:Int}{n:Nat}{ns:List Str}(hn:n<=8)(hl:ns.length<=10)(nd:ns.Nodup):∃ss:SS,Sg ss/\RE (Zd [(true,.int c),(true,.int n),(true,.lst (ns.map D.str))]) (.lst (ss.map wy)):=by
 obtain⟨xs,xl,hx,ws⟩:=stE (as:=[sI c,sI n,sT (.lst (ns.map D.str)),sN [],none,none]) (a:=fV 0) (b:=fP Xw Yk) (c:=c) (m:=ns.length) (by omega) (WD.e (za rfl)) (WD.e (vd (zq (za rfl) zJ) (by show some (R0.im (.int ((ns.map D.str).length:Int)))=_;rw[zD]) rfl))
 obtain⟨as',hf,os,l,e4,e5,rfl,ho,hll,hnm⟩:=xO (g:=gT 2 (gsC Xz (gsC (gN 5) gsN))) (f:=yQ (xQ 3 (dC (yw (dC vC (dC (zR (yU ZG yV) [none,some 4] yO (fT (f2 (f2 (f2 zA (f2 (yW (dC zZ (dC yX (dC ZS (dC WN (dC (fC (.int 16)) (dC (fC (.int 32)) (dC (fC (.int 64)) (dC (fC (.int 128)) dN))))))))) zx ixP) zW) yX zG) zZ (zQ .Eq))) zx) dN))) dN) xY))
  (λi as=>∃(os:List O) (l:SS) (e4 e5:Option O),as=[sI c,sI n,sT (.lst (ns.map D.str)),sN os,e4,e5]/\Ows wy (λ_=>True) os l/\l.length=i/\l.map (·.1)=ns.take i)
  (Wu true (xs.map D.int) (ns.map D.str)) 0 [sI c,sI n,sT (.lst (ns.map D.str)),sN [],none,none] (λi x as hx' hI=>by
   obtain⟨os,l,e4,e5,rfl,ho,hlen,hnm⟩:=hI
   obtain⟨d,e,z1,z2,rfl⟩:=VP hx'
   have hil:i<ns.length:=by have:=(zzD.mp z2).1;rw[zD]at this;exact this
   obtain⟨y,m1,rfl⟩:=zdC z1
   rw[zzF]at z2
   obtain⟨s,m2,rfl⟩:=zzU.mp z2
   obtain⟨r,hr⟩:=zgf (g:=gN 0) (as0:=[none,sI y]) (tt:=fT (f2 (f2 (f2 zA (f2 (yW (dC zZ (dC yX (dC ZS (dC WN (dC (fC (.int 16)) (dC (fC (.int 32)) (dC (fC (.int 64)) (dC (fC (.int 128)) dN))))))))) zx ixP) zW) yX zG) zZ (zQ .Eq))) (fe:=fV 0) (xs:=vg 0 n) λw m=>by
    obtain⟨b,rfl,b0,b1⟩:=zgp m
    obtain⟨q,q1,q2⟩:=Xr (r:=zpi) (P:=λx=>0<x/\x<1000) (k:=b) b0 (by show b<8;omega) (by decide)
    exact⟨[sI b,sI y],_,b,rfl,zM (yG (yJ (Zq (za rfl) (f2E (vO (os:=zpi.map lfI) (zm zb (zm zb (zm zb (zm zb (zm zb (zm zb (zm zb (zm zb yd)))))))) (szl rfl) rfl rfl) (WD.e (za rfl)) q1) q2.1 (yh (by omega) (by omega))) zb (by decide)) zb rfl) rfl,za rfl⟩
   have hc:=zbP (as:=[sI c,sI n,sT (.lst (ns.map D.str)),sN os,sI y,sT (.str s)]) (cap:=[none,some 4]) (vB (zq (za (i:=1) rfl) zJ) (by omega) (by omega)) (by rw[wI];exact szs (by omega)) hr
   obtain⟨os',o1,o2⟩:=zhF (as:=[sI c,sI n,sT (.lst (ns.map D.str)),sN os,sI y,sT (.str s)]) (x:=(s,r)) (i:=3) (toD:=wy) (Q:=λ_=>True) rfl ho (by omega) (zkO (zm (za (i:=5) rfl) (Xi hc yd)) (szl rfl) (by show(true&&((O.nd .ls (r.map lfI)).str&&true))=true;rw[(zcK r).1];rfl) (by show D.tup [.str s,(O.nd .ls (r.map lfI)).toD]=_;rw[(zcK r).2])) trivial
   exact⟨[sI c,sI n,sT (.lst (ns.map D.str)),sN os,sI y,sT (.str s)],rfl,_,o2,os',l++[(s,r)],_,_,rfl,o1,by rw[zzG,hlen];show 0+i+1=_;omega,by rw[zyJ,hnm,zyU,List.take_succ,m2];rfl⟩)
  ⟨[],[],none,none,rfl,Ows.nil,rfl,rfl⟩
 have hz:l.length<=10:=zzL (Nat.le_of_eq (hll.trans (zyU _))) (zzL (zkp _ _ _) (zzL (Nat.le_of_eq (zD ..)) hl))
 exact⟨l,⟨hz,by rw[hnm];exact nd.sublist (List.take_sublist _ _)⟩,xW rfl (zp (xx (i:=3) (wQ yd (szl rfl)) (zB rfl)) (zp (xX (zsk ws (WD.e (za rfl))) hf) (Ows.retB (i:=3) rfl ho)))⟩
theorem any_ints(b:Int):∀r:List Int,∃t,anyF (λy=>eqF 50 y (.int b)) (r.map D.int)=some t
 | []=>⟨_,rfl⟩
 |x::r=>by
  obtain⟨t,h⟩:=any_ints b r
  refine⟨(x==b)||t, ?_⟩
  show(some (x==b)).bind _=_
  rw[zyI,h];rfl
theorem zhO{b:Int}:∀{r:List Int},b ∈ r->∃j:Nat,j<r.length/\zcb (λy=>eqF 50 y (.int b)) (r.map D.int)=some j
 |x::r,m=>by
  by_cases e:x=b
  · obtain⟨t,h⟩:=any_ints b r
    refine⟨0,Nat.succ_pos _, ?_⟩
    show(some (x==b)).bind _=_
    rw[zyI,show(x==b)=true by simp[e]]
    show(anyF _ (r.map D.int)).bind _=_
    rw[h];rfl
  · obtain⟨j,h1,h2⟩:=zhO (r:=r) ((zI.mp m).resolve_left λz=>e z.symm)
    refine⟨j+1,Nat.succ_lt_succ h1, ?_⟩
    show(some (x==b)).bind _=_
    rw[zyI,show(x==b)=false by simp[e]]
    show(zcb _ (r.map D.int)).bind _=_
    rw[h2];rfl
theorem zhw{F:List Int}{n:Nat}(h:F.Perm (yZ n)):Row n F/\∀b:Int,0<=b->b<n->b ∈ F:=by
 refine⟨⟨by rw[h.length_eq,zD,zyR],λx m=>?_⟩,λb b0 b1=>h.mem_iff.mpr ?_⟩
 · obtain⟨i,hi,rfl⟩:=zyZ.mp (h.mem_iff.mp m)
   have:=List.mem_range.mp hi
   omega
 · exact zyZ.mpr ⟨b.toNat,List.mem_range.mpr (by omega),by omega⟩
theorem zrI{as:AS}{F:List Int}{n:Nat}{cap:List (Option Nat)}{fr:AF}(hF:F.Perm (yZ n))(hn:n<=8)(h1:WA fr as [(true,.int n)])(h2:∀b:Int,gN 0 (true,.int b) (Yz cap as)=some [sI b,sT (.lst (F.map D.int))]):
 ∃B,Row n B/\WE (zR (yU fr yV) cap yO yI (Y6 .lst zA Y0 Xq)) as (.lst (B.map D.int)):=by
 obtain⟨r1,r2⟩:=zhw hF
 obtain⟨B,b1,b2,b3⟩:=Za D.int (Q:=λx=>0<=x/\x<(n:Int)) (n:=n) (cap:=cap) (fe:=Y6 .lst zA Y0 Xq) h1 (by omega) λb b0 b1=>by
  obtain⟨j,j1,j2⟩:=zhO (r2 b b0 b1)
  refine⟨_,(j:Int),h2 b,WD.e (zdH (za rfl) rfl (zq (za rfl) zJ) ?_ rfl),by omega,by rw[r1.1]at j1;omega⟩
  show(zcb _ (F.map D.int)).bind _=_
  rw[j2]
  show(if(F.map D.int).length<=1000 then some (R0.im (.int j))else none)=_
  rw[if_pos (by rw[zD,r1.1];omega)]
 exact⟨B,⟨b1,b2⟩,b3⟩
theorem zqi{f:EF}{g:GF}{as as':AS}{x:D}(h:WE f as x)(hg:g (true,x) as=some as'):zjn f g as=some (.nx as'):=by
 obtain⟨o,h1,h2,h3⟩:=h
 exact zqE h1 (by rw[h2,h3];exact hg)
theorem Ye{n:Nat}{r:List Int}(hr:Row n r){k:Int}(h0:0<=k)(h1:k<n):∃x,ixP (.lst (r.map D.int)) (.int k)=some (.im (.int x))/\0<=x/\x<(n:Int):=Xr h0 (by rw[hr.1];exact h1) hr.2
theorem zlO{k n:Nat}{T:TZ}(hT:Tab k n T){i:Int}(h0:0<=i)(h1:i<k):∃r,ixP (.lst (T.map zH)) (.int i)=some (.im (zH r))/\Row n r:=zfo zH h0 (by rw[hT.1];exact h1) hT.2
theorem zsl{as:AS}{F B:List Int}{J:TZ}{n:Nat}{fr:AF}{cap:List (Option Nat)}(hn:n<=8)(hF:Row n F)(hB:Row n B)(hJ:Tab n n J)(h1:WA fr as [(true,.int n)])(h2:∀a:Int,gN 0 (true,.int a) (Yz cap as)=some [sI a,sT (.lst (F.map D.int)),sI n,sT (zP J),sT (.lst (B.map D.int))]):
 ∃T,Tab n n T/\WE (zR (yU fr yV) cap yO yI (zR (yU Xw yV) [none,some 1,some 3,some 4,some 0] yO yI (f2 zA (f2 (f2 zL (f2 yD yK ixP) ixP) (f2 yD zx ixP) ixP) ixP))) as (zP T):=by
 obtain⟨T,t1,t2,t3⟩:=Za zH (Q:=Row n) (n:=n) (cap:=cap) (fe:=zR (yU Xw yV) [none,some 1,some 3,some 4,some 0] yO yI (f2 zA (f2 (f2 zL (f2 yD yK ixP) ixP) (f2 yD zx ixP) ixP) ixP)) h1 (by omega) λa a0 a1=>by
  obtain⟨r,r1,r2,r3⟩:=Za (as:=[sI a,sT (.lst (F.map D.int)),sI n,sT (zP J),sT (.lst (B.map D.int))]) (u:=true) D.int (Q:=λx=>0<=x/\x<(n:Int)) (n:=n) (fr:=aC zL aN) (cap:=[none,some 1,some 3,some 4,some 0]) (fe:=f2 zA (f2 (f2 zL (f2 yD yK ixP) ixP) (f2 yD zx ixP) ixP) ixP) (zq (za rfl) zJ) (by omega) λb b0 b1=>by
   obtain⟨p,p1,p2⟩:=Ye hB a0 a1
   obtain⟨q,q1,q2⟩:=Ye hB b0 b1
   obtain⟨t,t1,t2⟩:=zlO hJ p2.1 p2.2
   obtain⟨v,v1,v2⟩:=Ye t2 q2.1 q2.2
   obtain⟨w,w1,w2⟩:=Ye hF v2.1 v2.2
   exact⟨[sI b,sT (.lst (F.map D.int)),sT (zP J),sT (.lst (B.map D.int)),sI a],w,rfl,WD.e (zr (za rfl) (zr (yR (za rfl) (zr (za rfl) (za rfl) p1 rfl) t1) (zr (za rfl) (za rfl) q1 rfl) v1 rfl) w1 rfl),w2⟩
  exact⟨_,r,h2 a,r3,r1,r2⟩
 exact⟨T,⟨t1,t2⟩,t3⟩
abbrev xT(p:Str×TZ):D:=.tup [.str p.1,zP p.2]
abbrev zmy:EF:=zR (Zh (fV 14)) [none,some 8,some 5,some 9] yO yI (zR (yU Xw yV) [none,some 1,some 0,some 3] yO yI (f2 zA (f2 zL (f2 yD zx ixP) ixP) ixP))
theorem zsA{as:AS}{F B:List Int}{T:TZ}{m n:Nat}(hn:n<=8)(hm:m<=8)(hF:Row n F)(hB:Row n B)(hT:Tab m n T)(h1:as[14]? = some (sT (zP T)))(h2:∀d:D,gN 0 (true,d) (Yz [none,some 8,some 5,some 9] as)=some [sT d,sT (.lst (F.map D.int)),sI n,sT (.lst (B.map D.int))]):
 ∃T',Tab m n T'/\WE zmy as (zP T'):=by
 obtain⟨T',t1,t2,t3⟩:=zbr zH (Q:=Row n) (cap:=[none,some 8,some 5,some 9]) (g:=gN 0) (fe:=zR (yU Xw yV) [none,some 1,some 0,some 3] yO yI (f2 zA (f2 zL (f2 yD zx ixP) ixP) ixP)) (zcQ (f:=fV 14) (as:=as) (WD.e (za h1))) (by rw[zD,zD,hT.1];omega) λy my=>by
  rw[zzY]at my
  obtain⟨r,mr,rfl⟩:=zyZ.mp my
  have hr:=hT.2 r mr
  obtain⟨l,l1,l2,l3⟩:=Za (as:=[sT (zH r),sT (.lst (F.map D.int)),sI n,sT (.lst (B.map D.int))]) (u:=true) D.int (Q:=λx=>0<=x/\x<(n:Int)) (n:=n) (fr:=aC zL aN) (cap:=[none,some 1,some 0,some 3]) (fe:=f2 zA (f2 zL (f2 yD zx ixP) ixP) ixP) (zq (za rfl) zJ) (by omega) λa a0 a1=>by
   obtain⟨p,p1,p2⟩:=Ye hB a0 a1
   obtain⟨v,v1,v2⟩:=Ye hr p2.1 p2.2
   obtain⟨w,w1,w2⟩:=Ye hF v2.1 v2.2
   exact⟨[sI a,sT (.lst (F.map D.int)),sT (zH r),sT (.lst (B.map D.int))],w,rfl,WD.e (zr (za rfl) (zr (za rfl) (zr (za rfl) (za rfl) p1 rfl) v1 rfl) w1 rfl),w2⟩
  exact⟨_,l,h2 _,l3,l1,l2⟩
 rw[zD,zD]at t1
 exact⟨T',⟨by rw[t1,hT.1],t2⟩,t3⟩
structure Alg(n m:Nat)(J:TZ)(e:Int)(Ds:DZ):Prop where
 n1:1<=n
 n8:n<=8
 m1:1<=m
 m6:m<=6
 j:Tab n n J
 e0:0<=e
 en:e<n
 dl:Ds.length<=6
 ds:∀p ∈ Ds,Tab m n p.2
 nd:(Ds.map (·.1)).Nodup
abbrev zc(n m:Nat)(J:TZ)(e:Int)(Ds:DZ)(S:SS):D:=.tup [.int n,.int m,zP J,.int e,.lst (Ds.map xT),.lst (S.map wy)]
theorem zmu{A0 A1 A2 A3 A4 A6 A7 A10 A11 A15:Option O}{F B:List Int}{Ds:List TZ}{ns:List Str}{m n:Nat}(hn:n<=8)(hm:m<=8)(hF:Row n F)(hB:Row n B)(hD:∀T ∈ Ds,Tab m n T)(hl:Ds.length<=ns.length)(hl8:Ds.length<=8):
 ∃os l e13 e14,Ows xT (λp=>Tab m n p.2) os l/\l.map (·.1)=ns.take Ds.length/\l.length=Ds.length/\forL (gT 2 (gsC (gN 13) (gsC (gN 14) gsN))) (yQ (xQ 12 (dC (yw (dC (fV 13) (dC zmy dN))) dN) xY)) (Wu true (ns.map D.str) (Ds.map zP))
  [A0,A1,A2,A3,A4,sI n,A6,A7,sT (.lst (F.map D.int)),sT (.lst (B.map D.int)),A10,A11,sN [],none,none,A15]
  = some (.nx [A0,A1,A2,A3,A4,sI n,A6,A7,sT (.lst (F.map D.int)),sT (.lst (B.map D.int)),A10,A11,sN os,e13,e14,A15]):=by
 obtain⟨as',hf,os,l,e13,e14,rfl,ho,hlm,hlen⟩:=xO (g:=gT 2 (gsC (gN 13) (gsC (gN 14) gsN))) (f:=yQ (xQ 12 (dC (yw (dC (fV 13) (dC zmy dN))) dN) xY))
  (λi as=>∃(os:List O) (l:DZ) (e13 e14:Option O),as=[A0,A1,A2,A3,A4,sI n,A6,A7,sT (.lst (F.map D.int)),sT (.lst (B.map D.int)),A10,A11,sN os,e13,e14,A15]/\Ows xT (λp=>Tab m n p.2) os l/\l.map (·.1)=ns.take i/\l.length=i)
  (Wu true (ns.map D.str) (Ds.map zP)) 0 [A0,A1,A2,A3,A4,sI n,A6,A7,sT (.lst (F.map D.int)),sT (.lst (B.map D.int)),A10,A11,sN [],none,none,A15] (λi x as hx' hI=>by
   obtain⟨os,l,e13,e14,rfl,ho,hlm,hlen⟩:=hI
   obtain⟨d,e,z1,z2,rfl⟩:=VP hx'
   have hil:i<Ds.length:=by have:=(zzD.mp z2).1;rw[zD]at this;exact this
   obtain⟨T,mT,rfl⟩:=zdC z2
   rw[zzF]at z1
   obtain⟨s,s1,rfl⟩:=zzU.mp z1
   obtain⟨T',t1,o,t2,t3,t4⟩:=zsA (as:=[A0,A1,A2,A3,A4,sI n,A6,A7,sT (.lst (F.map D.int)),sT (.lst (B.map D.int)),A10,A11,sN os,sT (.str s),sT (zP T),A15]) hn hm hF hB (hD T mT) rfl (λ_=>rfl)
   obtain⟨os',o1,o2⟩:=zhF (as:=[A0,A1,A2,A3,A4,sI n,A6,A7,sT (.lst (F.map D.int)),sT (.lst (B.map D.int)),A10,A11,sN os,sT (.str s),sT (zP T),A15]) (x:=(s,T')) (i:=12) (toD:=xT) (Q:=λp=>Tab m n p.2) rfl ho (by omega) (zkO (zm (za (i:=13) rfl) (Xi t2 yd)) (szl rfl) (by show(true&&(o.str&&true))=true;rw[t3];rfl) (by show D.tup [.str s,o.toD]=_;rw[t4])) t1
   refine⟨[A0,A1,A2,A3,A4,sI n,A6,A7,sT (.lst (F.map D.int)),sT (.lst (B.map D.int)),A10,A11,sN os,sT (.str s),sT (zP T),A15],rfl,_,o2,os',l++[(s,T')],_,_,rfl,o1, ?_,by rw[zzG,hlen];show 0+i+1=_;omega⟩
   rw[zyJ,hlm,show 0+i+1=i+1 by omega,zyU,List.take_succ,s1];rfl)
  ⟨[],[],none,none,rfl,Ows.nil,rfl,rfl⟩
 rw[zbv,zD,zD,Nat.min_eq_right hl,zyU]at hlm hlen
 exact⟨os,l,e13,e14,ho,hlm,hlen,hf⟩
theorem zoH(x:Int):∃n:Nat,n<=6/\ixP (.lst (([1,2,0,4,3,2,6,5]:List Int).map D.int)) (.int (x%8))=some (.im (.int n)):=by
 obtain⟨v,h1,h2⟩:=Xr (r:=[1,2,0,4,3,2,6,5]) (P:=λx=>0<=x/\x<=6) (k:=x%8) (by omega) (by show x%8<8;omega) (by decide)
 exact⟨v.toNat,by omega,by rw[show((v.toNat:Nat):Int)=v by omega];exact h1⟩
theorem zqI(x:Int):∃n:Nat,n<=4/\ixP (.lst (([1,2,1,4,0,2,3,1]:List Int).map D.int)) (.int (x%8))=some (.im (.int n)):=by
 obtain⟨v,h1,h2⟩:=Xr (r:=[1,2,1,4,0,2,3,1]) (P:=λx=>0<=x/\x<=4) (k:=x%8) (by omega) (by show x%8<8;omega) (by decide)
 exact⟨v.toNat,by omega,by rw[show((v.toNat:Nat):Int)=v by omega];exact h1⟩
theorem zfk{f:EF}{as:AS}{k:Int}(h:WD f as true (.int k)):oS f as=some (some k,as):=by
 unfold oS
 unfold WD at h
 rw[h];rfl
theorem znV{α:Type}(f:α->D)(l:List α)(lo hi:Option Int):∃l':List α,l'.Sublist l/\PF.cutD (l.map f) lo hi=l'.map f:=by
 unfold PF.cutD
 rw[zD,<-List.map_drop,<-List.map_take]
 exact⟨_,(List.take_sublist _ _).trans (List.drop_sublist _ _),rfl⟩
theorem zpj{as:AS}{a b c d e f g h:Int}:WE (yW (dC (fC (.int a)) (dC (fC (.int b)) (dC (fC (.int c)) (dC (fC (.int d)) (dC (fC (.int e)) (dC (fC (.int f)) (dC (fC (.int g)) (dC (fC (.int h)) dN))))))))) as (.lst (([a,b,c,d,e,f,g,h]:List Int).map D.int)):=
 vO (os:=([a,b,c,d,e,f,g,h]:List Int).map lfI) (zm zb (zm zb (zm zb (zm zb (zm zb (zm zb (zm zb (zm zb yd)))))))) (szl rfl) rfl rfl
theorem zjz{c c':Int}:∃n m J e Ds S,Alg n m J e Ds/\Sg S/\RE (vz [(true,.int c),(true,.int c')]) (zc n m J e Ds S):=by
 obtain⟨ys,hl,hy,ws⟩:=stE (as:=[sI c,sI c',none,none,none,none,none,none,none,none,none,none,none,none,none,none]) (a:=fV 1) (b:=fC (.int 6)) (c:=c') (m:=6) (by omega) (WD.e (za rfl)) (WD.e zb)
 obtain⟨y0,a0,_⟩:=at2 hy (k:=0) (by omega) (by omega)
 obtain⟨y1,a1,_⟩:=at2 hy (k:=1) (by omega) (by omega)
 obtain⟨y2,a2,_⟩:=at2 hy (k:=2) (by omega) (by omega)
 obtain⟨y3,a3,_⟩:=at2 hy (k:=3) (by omega) (by omega)
 obtain⟨y4,a4,_⟩:=at2 hy (k:=4) (by omega) (by omega)
 obtain⟨y5,a5,_⟩:=at2 hy (k:=5) (by omega) (by omega)
 obtain⟨w,w6,ew⟩:=zoH y1
 obtain⟨k,k4,ek⟩:=zqI y5
 have b3:(2:Int).natAbs<big:=yh (by decide) (by decide)
 obtain⟨m1,m11,m16,hC⟩:∃m1:Int,1<=m1/\m1<=6/\sIf (fT (f2 (f2 (f2 (f2 zL yt ixP) zbj zW) yX zG) yt (zQ .Eq))) (zO true 3 (f2 zZ (f2 (f2 (f2 zL yt ixP) (fC (.int 12)) zW) Zb zG) zF)) sNx
  [sI c,sI c',sT (.lst (ys.map D.int)),sI (1+y0%6),none,none,none,none,none,none,none,none,none,none,none,none]=some (.nx [sI c,sI c',sT (.lst (ys.map D.int)),sI m1,none,none,none,none,none,none,none,none,none,none,none,none]):=by
  by_cases h:y0/6%2=0
  · exact⟨1+y0/12%3,by omega,by omega,wU (zM (yG (yJ (Zq (zr (za rfl) zb a0 rfl) zb (by decide) (yh (by decide) (by decide))) zb (by decide)) zb rfl) (by show some (y0/6%2==0)=_;simp[h])) (xF (i:=3) (xR zb (yJ (Zq (zr (za rfl) zb a0 rfl) zb (by decide) (yh (by decide) (by decide))) zb (by decide))) (zB rfl))⟩
  · exact⟨1+y0%6,by omega,by omega,zY (zM (yG (yJ (Zq (zr (za rfl) zb a0 rfl) zb (by decide) (yh (by decide) (by decide))) zb (by decide)) zb rfl) (by show some (y0/6%2==0)=_;simp[h])) rfl⟩
 obtain⟨m,mm1,mm6,hE⟩:∃m:Nat,1<=m/\m<=6/\sIf (fT (f2 yK Zb (zQ .Gt))) (zO true 3 (f2 zZ (f2 yD yX zG) zF)) sNx
  [sI c,sI c',sT (.lst (ys.map D.int)),sI m1,sI w,none,none,none,none,none,none,none,none,none,none,none]=some (.nx [sI c,sI c',sT (.lst (ys.map D.int)),sI m,sI w,none,none,none,none,none,none,none,none,none,none,none]):=by
  by_cases h:(3:Int)<w
  · refine⟨(1+m1%2).toNat,by omega,by omega, ?_⟩
    rw[show(((1+m1%2).toNat:Nat):Int)=1+m1%2 by omega]
    exact wU (zM (zbs (za rfl) zb) (congrArg some (zyL h))) (xF (i:=3) (xR zb (yJ (za rfl) zb (by decide))) (zB rfl))
  · refine⟨m1.toNat,by omega,by omega, ?_⟩
    rw[show((m1.toNat:Nat):Int)=m1 by omega]
    exact zY (zM (zbs (za rfl) zb) (congrArg some (zyD h))) rfl
 obtain⟨n,J,Ds,n1,n8,hJ,dl,hD,hmade⟩:=znG (c:=c) (m:=m) (w:=w) (by omega) (by omega)
 obtain⟨F,hF,hord⟩:=zlL (c:=y2) n1 n8
 obtain⟨rF,_⟩:=zhw hF
 obtain⟨B,rB,hback⟩:=zrI (as:=[sI c,sI c',sT (.lst (ys.map D.int)),sI m,sI w,sI n,sT (zP J),sT (.lst (Ds.map zP)),sT (.lst (F.map D.int)),none,none,none,none,none,none,none]) (cap:=[none,some 8]) (fr:=aC vC aN) hF n8 (zq (za rfl) zJ) (λb=>rfl)
 obtain⟨J',hJ',hjoin⟩:=zsl (as:=[sI c,sI c',sT (.lst (ys.map D.int)),sI m,sI w,sI n,sT (zP J),sT (.lst (Ds.map zP)),sT (.lst (F.map D.int)),sT (.lst (B.map D.int)),none,none,none,none,none,none]) (cap:=[none,some 8,some 5,some 6,some 9]) (fr:=aC vC aN) n8 rF rB hJ (zq (za rfl) zJ) (λa=>rfl)
 obtain⟨ns,nl,nnd,hnames⟩:=zmE (c:=y3)
 obtain⟨os,l,e13,e14,ho,hlm,hlen,hf⟩:=zmu (A0:=sI c) (A1:=sI c') (A2:=sT (.lst (ys.map D.int))) (A3:=sI m) (A4:=sI w) (A6:=sT (zP J)) (A7:=sT (.lst (Ds.map zP))) (A10:=sT (zP J')) (A11:=sT (.lst (ns.map D.str))) (A15:=none) (ns:=ns.take 6) n8 (by omega) rF rB hD (by rw[zzP,nl];omega) (by omega)
 obtain⟨f0,ef,ff⟩:=Ye rF (k:=0) (by omega) (by omega)
 obtain⟨ks,kl,ck⟩:=znV D.str ns (some 6) (some (6+(k:Int)))
 obtain⟨S,hSl,hS⟩:=zlH (c:=y4) (n:=n) (ns:=ks) n8 (by have:=kl.length_le;omega) (nnd.sublist kl)
 refine⟨n,m,J',f0,l,S,⟨n1,n8,mm1,mm6,hJ',ff.1,ff.2,by omega,ho.al, ?_⟩,hSl, ?_⟩
 · rw[hlm]
   exact(nnd.sublist (List.take_sublist _ _)).sublist (List.take_sublist _ _)
 have z6:WE (fSl wu oN (oS zbj) slP) [sI c,sI c',sT (.lst (ys.map D.int)),sI m,sI w,sI n,sT (zP J),sT (.lst (Ds.map zP)),sT (.lst (F.map D.int)),sT (.lst (B.map D.int)),sT (zP J'),sT (.lst (ns.map D.str)),sN [],none,none,none] (.lst ((ns.take 6).map D.str)):=by
  refine zdJ (lo:=none) (hi:=some 6) (WD.e (za rfl)) rfl (zfk zb) ?_
  have:=zmt (xs:=(ns.take 6).map D.str) (ys:=(ns.drop 6).map D.str)
  rw[<-zyJ,List.take_append_drop,zD,zzP,nl]at this
  exact this
 have zS:WE (zK (aC (f2 zL ZS ixP) (aC vC (aC (fSl wu (oS zbj) (oS (f2 zbj (f2 (yW (dC zZ (dC yX (dC zZ (dC ZS (dC yt (dC yX (dC Zb (dC zZ dN))))))))) (f2 (f2 zL zbm ixP) WN zG) ixP) zF)) slP) aN))) Zd) [sI c,sI c',sT (.lst (ys.map D.int)),sI m,sI w,sI n,sT (zP J),sT (.lst (Ds.map zP)),sT (.lst (F.map D.int)),sT (.lst (B.map D.int)),sT (zP J'),sT (.lst (ns.map D.str)),sN os,e13,e14,none] (.lst (S.map wy)):=
  VJ (WD.e (zr (za rfl) zb a4 rfl)) (WD.e (za rfl)) (zdJ (lo:=some 6) (hi:=some (6+(k:Int))) (WD.e (za rfl)) (zfk zb) (zfk (xR zb (f2E zpj (WD.e (yJ (zr (za rfl) zb a5 rfl) zb (by decide))) ek))) (by show some (R0.fl (PF.cutD (ns.map D.str) (some 6) (some (6+(k:Int)))))=_;rw[ck])) hS
 refine xW rfl (zp (Zg (p:=2) ws (zB rfl)) (zp (xF (i:=3) (xR zb (yJ (zr (za rfl) zb a0 rfl) zb (by decide))) (zB rfl)) (zp hC (zp (xF (i:=4) (f2E zpj (WD.e (yJ (zr (za rfl) zb a1 rfl) zb (by decide))) ew) (zB rfl)) (zp hE
  (zp (as1:=[sI c,sI c',sT (.lst (ys.map D.int)),sI m,sI w,sI n,sT (zP J),sT (.lst (Ds.map zP)),none,none,none,none,none,none,none,none]) (zqi (VJ (WD.e (za rfl)) (WD.e (za rfl)) (WD.e (za rfl)) hmade) rfl)
  (zp (Zg (p:=8) (Vj (WD.e (zr (za rfl) zb a2 rfl)) (WD.e (za rfl)) hord) (zB rfl)) (zp (Zg (p:=9) hback (zB rfl)) (zp (Zg (p:=10) hjoin (zB rfl)) (zp (Zg (p:=11) (Vj (WD.e (zr (za rfl) zb a3 rfl)) (WD.e zb) hnames) (zB rfl)) (zp (xx (i:=12) (wQ yd (szl rfl)) (zB rfl)) (zp (xX (zsk z6 (WD.e (za rfl))) hf) (zp (Zg (p:=15) zS (zB rfl)) ?_)))))))))))))
 have e:=xr (as:=[sI c,sI c',sT (.lst (ys.map D.int)),sI m,sI w,sI n,sT (zP J),sT (.lst (Ds.map zP)),sT (.lst (F.map D.int)),sT (.lst (B.map D.int)),sT (zP J'),sT (.lst (ns.map D.str)),sN os,e13,e14,sT (.lst (S.map wy))]) (a:=fV 5) (za rfl) (xr (a:=fV 3) (za rfl) (xr (a:=fV 10) (za rfl) (xr (a:=f2 (fV 8) yt ixP) (zr (za rfl) zb ef rfl) (zce (j:=12) (fr:=dC (fV 15) dN) rfl (xr (a:=fV 15) (za rfl) rfl)))))
 rw[ho.frz]at e
 exact⟨_,Wg (zbR e (szl rfl)) rfl,rfl,rfl⟩
abbrev InR(n:Nat)(x:Int):Prop:=0<=x/\x<(n:Int)
theorem zll{c:Int}{n k:Nat}(hn:0<n)(hn8:n<=800)(hk:k<=900):∃ds:List Int,ds.length=k/\(∀x ∈ ds,InR n x)/\RE (Zu [(true,.int c),(true,.int n),(true,.int k)]) (.lst (ds.map D.int)):=by
 obtain⟨as',hf,x,os,l,e4,rfl,ho,hlen⟩:=xO (g:=gN 4) (f:=zE (yQ (xQ 3 (dC (f2 zx zA zG) dN) xY)) (zO true 0 (f2 zx zA zW)))
  (λi as=>∃(x:Int) (os:List O) (l:List Int) (e4:Option O),as=[sI x,sI n,sI k,sN os,e4]/\Ows D.int (InR n) os l/\l.length=i)
  (vg 0 k) 0 [sI c,sI n,sI k,sN [],none] (λi y as hx' hI=>by
   obtain⟨x,os,l,e4,rfl,ho,hlen⟩:=hI
   obtain⟨rfl,hi⟩:=vY hx'
   obtain⟨os',o1,o2⟩:=zhF (as:=[sI x,sI n,sI k,sN os,sI (0+i)]) (x:=x%n) (i:=3) (toD:=D.int) (Q:=InR n) (a:=f2 zx zA zG) rfl ho (by omega) (WD.e (yJ (za rfl) (za rfl) (by omega))) (wY hn)
   exact⟨[sI x,sI n,sI k,sN os,sI (0+i)],rfl,_,zT o2 (xF (i:=0) (Zq (za rfl) (za rfl) (by omega) (yh (by omega) (by omega))) (zB rfl)),x/n,os',l++[x%n],_,rfl,o1,by rw[zzG,hlen];show 0+i+1=_;omega⟩)
  ⟨c,[],[],none,rfl,Ows.nil,rfl⟩
 rw[wI]at hlen
 exact⟨l,by omega,ho.al,xW rfl (zp (xx (i:=3) (wQ yd (szl rfl)) (zB rfl)) (zp (xX (vB (zq (za rfl) zJ) (by omega) (by omega)) hf) (Ows.retB (i:=3) rfl ho)))⟩
theorem zdF{ns:List Int}{k:Int}{s t:Bool}(hk:0<=k):∃x,yH [(s,.lst (ns.map .int)),(t,.int k)]=sT (.int x):=by
 by_cases h:k<((ns.map D.int).length:Int)
 · obtain⟨x,hx⟩:=zoc (ns:=ns) hk (by rw[zD]at h;exact h)
   exact⟨x,Z7 rfl (v9 (wU (zM (zdl (za rfl) (vd (zq (za rfl) zJ) rfl rfl)) (congrArg some (zyL h))) (ZM (zr (za rfl) (za rfl) hx rfl))))⟩
 · exact⟨0,Z7 rfl (zT (zY (zM (zdl (za rfl) (vd (zq (za rfl) zJ) rfl rfl)) (congrArg some (zyD h))) rfl) (ZM zb))⟩
theorem znR{ds:List Int}{a n:Nat}(h:a+n<=ds.length):slP (.lst (ds.map D.int)) (some (a:Int)) (some ((a+n:Nat):Int))=some (.fl (((ds.drop a).take n).map D.int)):=by
 show some (R0.fl (PF.cutD (ds.map D.int) (some (a:Int)) (some ((a+n:Nat):Int))))=_
 congr 2
 unfold PF.cutD
 rw[HT.zdN,HT.zdN,zD,Nat.min_eq_left h,Nat.min_eq_left (show a<=ds.length by omega),<-List.map_drop,<-List.map_take,Nat.add_sub_cancel_left]
theorem zkj{ds:List Int}{a n N:Nat}(h:a+n<=ds.length)(hd:∀x ∈ ds,InR N x)(e:n=N):Row N ((ds.drop a).take n):=by
 refine⟨by rw[zzP,List.length_drop];omega,λx m=>hd x (List.mem_of_mem_drop (List.mem_of_mem_take m))⟩
theorem cutE{f fl fh:EF}{as:AS}{ds:List Int}{a n:Nat}{lo hi:Int}(h:a+n<=ds.length)(hf:WD f as true (.lst (ds.map D.int)))(h1:WD fl as true (.int lo))(h2:WD fh as true (.int hi))(e1:lo=(a:Int))(e2:hi=((a+n:Nat):Int)):WE (fSl f (oS fl) (oS fh) slP) as (zH ((ds.drop a).take n)):=by
 subst e1 e2
 exact zdJ (lo:=some (a:Int)) (hi:=some ((a+n:Nat):Int)) (WD.e hf) (zfk h1) (zfk h2) (znR h)
theorem V5{α:Type}{f:α->D}{l:List α}{i:Nat}{p:α}(h:l[i]? = some p):ixP (.lst (l.map f)) (.int (i:Int))=some (.im (f p)):=by
 have h:=Yu (xs:=l.map f) (j:=i) (v:=f p) (by rw[zzF,h];rfl)
 show imR (atI _ _)=_
 rw[h];rfl
abbrev bdC:EF:=zR (yU Y5 yV) [none,some 8,some 12,some 2] yO yI (fSl zA (oS (f2 zL (f2 yD zx zN) zF)) (oS (f2 (f2 zL (f2 yD zx zN) zF) yD zF)) slP)
abbrev bdB:SF:=(zE (zO true 12 (f2 (f2 zZ (f2 zL zL zN) zF) (f2 (f2 zL yD zN) wu zN) zF))
 (yQ (xQ 10 (dC (yw (dC (f2 (f2 xu wu ixP) yt ixP) (dC bdC dN))) dN) xY)))
abbrev Y13(n m:Nat)(a0 a1 a4 a5 a7 a9:Option O)(Ds:DZ)(ds:List Int)(e10 e11 e12:Option O):AS:=
 [a0,a1,sI n,sI m,a4,a5,sT (.lst (Ds.map xT)),a7,sT (.lst (ds.map D.int)),a9,e10,e11,e12]
theorem zrc{n m:Nat}{a0 a1 a4 a5 a7 a9:Option O}{Ds:DZ}{ds:List Int}(n1:1<=n)(n8:n<=8)(m6:m<=6)(dl:Ds.length<=6)(d1:ds.length=1+n*n+n*m*Ds.length)(d2:∀x ∈ ds,InR n x):
 ∃os l e11 e12,Ows xT (λp=>Tab m n p.2) os l/\l.map (·.1)=Ds.map (·.1)/\l.length=Ds.length/\forL (gN 11) bdB (vg 0 Ds.length) (Y13 n m a0 a1 a4 a5 a7 a9 Ds ds (sN []) none none)=some (.nx (Y13 n m a0 a1 a4 a5 a7 a9 Ds ds (sN os) e11 e12)):=by
 have nn:n*n<=64:=Nat.mul_le_mul n8 n8
 have nm:n*m<=48:=Nat.mul_le_mul n8 m6
 obtain⟨as',hf,os,l,e11,e12,rfl,ho,hlm,hlen⟩:=xO (g:=gN 11) (f:=bdB)
  (λi as=>∃(os:List O) (l:DZ) (e11 e12:Option O),as=Y13 n m a0 a1 a4 a5 a7 a9 Ds ds (sN os) e11 e12/\Ows xT (λp=>Tab m n p.2) os l/\l.map (·.1)=(Ds.map (·.1)).take i/\l.length=i)
  (vg 0 Ds.length) 0 (Y13 n m a0 a1 a4 a5 a7 a9 Ds ds (sN []) none none) (λi x as hx' hI=>by
   obtain⟨os,l,e11,e12,rfl,ho,hlm,hlen⟩:=hI
   obtain⟨rfl,hi⟩:=vY hx'
   rw[Int.zero_add]at hx' ⊢
   have g0:=zzB hi
   generalize Ds[i]=p at g0
   have hk:n*m*i+n*m<=n*m*Ds.length:=by rw[<-Nat.mul_succ];exact Nat.mul_le_mul_left _ hi
   have hk2:n*m*i<=288:=zzL (zzL (Nat.le_add_right _ _) hk) (Nat.mul_le_mul nm dl)
   have eat:((1+n*n+n*m*i:Nat):Int)=1+n*n+n*m*i:=by rw[Int.natCast_add,Int.natCast_add,zzS,zzS,zzS];rfl
   have enm:((n*m:Nat):Int)=n*m:=zzS n m
   obtain⟨T,t1,t2,o,t3,t4,t5⟩:=Za (as:=Y13 n m a0 a1 a4 a5 a7 a9 Ds ds (sN os) (sI i) (sI ((1+n*n+n*m*i:Nat):Int))) (u:=true) zH (Q:=Row n) (n:=m) (fr:=aC yD aN) (cap:=[none,some 8,some 12,some 2]) (fe:=fSl zA (oS (f2 zL (f2 yD zx zN) zF)) (oS (f2 (f2 zL (f2 yD zx zN) zF) yD zF)) slP) (zq (za rfl) zJ) (by omega) λc c0 c1=>by
    have ha:n*c.toNat+n<=n*m:=by rw[<-Nat.mul_succ];exact Nat.mul_le_mul_left n (by omega)
    have ec:(c.toNat:Int)=c:=by omega
    have w:WD (f2 zL (f2 yD zx zN) zF) [sI c,sT (.lst (ds.map D.int)),sI ((1+n*n+n*m*i:Nat):Int),sI n] true (.int (((1+n*n+n*m*i:Nat):Int)+n*c)):=xR (za rfl) (wL (za rfl) (za rfl) (yh (by omega) (by omega)) (yh (by omega) (by omega)))
    exact⟨[sI c,sT (.lst (ds.map D.int)),sI ((1+n*n+n*m*i:Nat):Int),sI n],_,rfl,cutE (a:=(1+n*n+n*m*i)+n*c.toNat) (n:=n) (by omega) (za rfl) w (xR w (za rfl)) (by rw[Int.natCast_add (1+n*n+n*m*i),zzS n c.toNat,ec]) (by rw[Int.natCast_add (1+n*n+n*m*i+n*c.toNat),Int.natCast_add (1+n*n+n*m*i),zzS n c.toNat,ec]),zkj (by omega) d2 rfl⟩
   obtain⟨os',o1,o2⟩:=zhF (as:=Y13 n m a0 a1 a4 a5 a7 a9 Ds ds (sN os) (sI i) (sI ((1+n*n+n*m*i:Nat):Int))) (a:=yw (dC (f2 (f2 xu wu ixP) yt ixP) (dC bdC dN))) (x:=(p.1,T)) (i:=10) (toD:=xT) (Q:=λp=>Tab m n p.2) rfl ho (by omega) (zkO (zm (zr (yR (za (i:=6) rfl) (za (i:=11) rfl) (V5 g0)) zb rfl rfl) (Xi t3 yd)) (szl rfl) (by show(true&&(o.str&&true))=true;rw[t4];rfl) (by show D.tup [.str p.1,o.toD]=_;rw[t5])) ⟨t1,t2⟩
   refine⟨Y13 n m a0 a1 a4 a5 a7 a9 Ds ds (sN os) (sI i) e12,rfl,_,zT (as1:=Y13 n m a0 a1 a4 a5 a7 a9 Ds ds (sN os) (sI i) (sI ((1+n*n+n*m*i:Nat):Int))) ?_ o2,os',l++[(p.1,T)],_,_,rfl,o1, ?_,by rw[zzG,hlen];show 0+i+1=_;omega⟩
   · rw[eat]
     exact xF (i:=12) (xR (xR zb (wL (za (i:=2) rfl) (za (i:=2) rfl) (yh (by omega) (by omega)) (yh (by omega) (by omega)))) (wL (wL (za (i:=2) rfl) (za (i:=3) rfl) (yh (by omega) (by omega)) (yh (by omega) (by omega))) (za (i:=11) rfl) (by rw[<-enm];exact yh (by omega) (by omega)) (yh (by omega) (by omega)))) (zB rfl)
   · rw[zyJ,hlm,show 0+i+1=i+1 by omega,zyU,List.take_succ,zzF,g0];rfl)
  ⟨[],[],none,none,rfl,Ows.nil,rfl,rfl⟩
 rw[wI,zyU]at hlm hlen
 exact⟨os,l,e11,e12,ho,by rw[hlm,<-zD (f:=λp:Str×TZ=>p.1),List.take_length],hlen,hf⟩
theorem zgt{n m:Nat}{J:TZ}{e c:Int}{Ds:DZ}{S:SS}(A:Alg n m J e Ds):∃J' e' Ds',Alg n m J' e' Ds'/\RE (vf [(true,zc n m J e Ds S),(true,.int c)]) (zc n m J' e' Ds' S):=by
 have n1:=A.n1
 have n8:=A.n8
 have m6:=A.m6
 have dl:=A.dl
 have nn:n*n<=64:=Nat.mul_le_mul n8 n8
 have nm:n*m<=48:=Nat.mul_le_mul n8 m6
 have nmd:n*m*Ds.length<=288:=Nat.mul_le_mul nm dl
 obtain⟨ds,d1,d2,d3⟩:=zll (c:=c) (n:=n) (k:=1+n*n+n*m*Ds.length) n1 (zzL n8 (by decide)) (by omega)
 obtain⟨e',e1,e2⟩:=Xr (r:=ds) (P:=InR n) (k:=0) (by omega) (by omega) d2
 obtain⟨J',j1,j2,j3⟩:=Za (as:=[sT (zc n m J e Ds S),sI c,sI n,sI m,sT (zP J),sI e,sT (.lst (Ds.map xT)),sT (.lst (S.map wy)),sT (.lst (ds.map D.int)),none,none,none,none]) (u:=true) zH (Q:=Row n) (n:=n) (fr:=aC zL aN) (cap:=[none,some 8,some 2]) (fe:=fSl zA (oS (f2 zZ (f2 zL zx zN) zF)) (oS (f2 (f2 zZ (f2 zL zx zN) zF) zL zF)) slP) (zq (za rfl) zJ) (by omega) λa a0 a1=>by
  have ha:n*a.toNat+n<=n*n:=by rw[<-Nat.mul_succ];exact Nat.mul_le_mul_left n (by omega)
  have ea:(a.toNat:Int)=a:=by omega
  have w:WD (f2 zZ (f2 zL zx zN) zF) [sI a,sT (.lst (ds.map D.int)),sI n] true (.int (1+n*a)):=xR zb (wL (za rfl) (za rfl) (yh (by omega) (by omega)) (yh (by omega) (by omega)))
  exact⟨[sI a,sT (.lst (ds.map D.int)),sI n],_,rfl,cutE (a:=1+n*a.toNat) (n:=n) (by omega) (za rfl) w (xR w (za rfl)) (by rw[Int.natCast_add,zzS,ea];rfl) (by rw[Int.natCast_add,Int.natCast_add,zzS,ea];rfl),zkj (by omega) d2 rfl⟩
 obtain⟨os,l,e11,e12,ho,hlm,hlen,hf⟩:=zrc (a0:=sT (zc n m J e Ds S)) (a1:=sI c) (a4:=sT (zP J)) (a5:=sI e) (a7:=sT (.lst (S.map wy))) (a9:=sT (zP J')) n1 n8 m6 dl d1 d2
 refine⟨J',e',l,⟨n1,n8,A.m1,m6,⟨j1,j2⟩,e2.1,e2.2,by omega,ho.al,by rw[hlm];exact A.nd⟩, ?_⟩
 have ek:((1+n*n+n*m*Ds.length:Nat):Int)=1+n*n+n*m*((Ds.map xT).length:Int):=by rw[Int.natCast_add,Int.natCast_add,zzS,zzS,zzS,zD];rfl
 have enm:((n*m:Nat):Int)=n*m:=zzS n m
 rw[ek]at d3
 refine xW rfl (zp (as1:=[sT (zc n m J e Ds S),sI c,sI n,sI m,sT (zP J),sI e,sT (.lst (Ds.map xT)),sT (.lst (S.map wy)),none,none,none,none,none]) (zqi (WD.e (za rfl)) rfl) (zp (Zg (p:=8) (VJ (WD.e (za rfl)) (WD.e (za rfl)) (WD.e (xR (xR zb (wL (za rfl) (za rfl) (yh (by omega) (by omega)) (yh (by omega) (by omega)))) (wL (wL (za rfl) (za rfl) (yh (by omega) (by omega)) (yh (by omega) (by omega))) (vd (zq (za rfl) zJ) rfl rfl) (by rw[<-enm];exact yh (by omega) (by omega)) (yh (by rw[zD];omega) (by rw[zD];omega))))) d3) (zB rfl)) (zp (Zg (p:=9) j3 (zB rfl)) (zp (xx (i:=10) (wQ yd (szl rfl)) (zB rfl)) (zp (xX (vB (j:=((Ds.map xT).length:Int)) (zq (vd (zq (za rfl) zJ) rfl rfl) zJ) (by omega) (by rw[zD];omega)) (by rw[zD];exact hf)) ?_)))))
 have q:=xr (as:=Y13 n m (sT (zc n m J e Ds S)) (sI c) (sT (zP J)) (sI e) (sT (.lst (S.map wy))) (sT (zP J')) Ds ds (sN os) e11 e12) (a:=fV 2) (za rfl) (xr (a:=fV 3) (za rfl) (xr (a:=fV 9) (za rfl) (xr (a:=f2 (fV 8) yt ixP) (zr (za rfl) zb e1 rfl) (zce (j:=10) (fr:=dC vh dN) rfl (xr (a:=fV 7) (za rfl) rfl)))))
 rw[ho.frz]at q
 exact⟨_,Wg (zbR q (szl rfl)) rfl,rfl,rfl⟩
abbrev ziz(T:TZ):O:=.nd .ls (T.map Ym)
abbrev vR(p:Str×TZ):O:=.nd .tp [.lf true (.str p.1),ziz p.2]
abbrev zqr:EF:=fP Y0 lstP
theorem zgd:∀T:TZ,wB yO yI zqr [none] ((T.map zH).map λd=>(true,d))=some (T.map Ym)
 | []=>rfl
 |r::T=>zeT (as1:=[sT (zH r)]) rfl (zpu (za rfl)) (vp r).2.1 (zgd T)
theorem znt{f:EF}{as:AS}{T:TZ}(hl:T.length<=1000)(h:WE f as (zP T)):zR (Zh f) [none] yO yI zqr as=some (.ow (ziz T),as):=
 zbP (zcQ h) (by rw[zD,zD];exact szs (by omega)) (zgd T)
theorem zcq(p:Str×TZ):(vR p).str=true/\(vR p).toD=xT p:=by
 constructor
 · show(true&&(O.strs (p.2.map Ym)&&true))=true
   rw[(zaa p.2).1];rfl
 · show D.tup [.str p.1,.lst (O.toDs (p.2.map Ym))]=_
   rw[(zaa p.2).2]
theorem zab:∀Ds:DZ,O.strs (Ds.map vR)=true/\O.toDs (Ds.map vR)=Ds.map xT
 | []=>⟨rfl,rfl⟩
 |p::Ds=>⟨by show((vR p).str&&O.strs (Ds.map vR))=true;rw[(zcq p).1,(zab Ds).1];rfl,by
  show(vR p).toD::O.toDs (Ds.map vR)=_
  rw[(zcq p).2,(zab Ds).2];rfl⟩
abbrev zst:EF:=yw (dC zx (dC (zR (Zh zA) [none] yO yI zqr) dN))
theorem zmi{p:Str×TZ}(hl:p.2.length<=1000):zst [sT (.str p.1),sT (zP p.2)]=some (.ow (vR p),[sT (.str p.1),sT (zP p.2)]):=
 zes (os:=[.lf true (.str p.1),ziz p.2]) (zm (za (i:=0) rfl) (Xi (znt hl (WD.e (za (i:=1) rfl))) yd)) (szl rfl)
theorem zff:∀Ds:DZ,(∀p ∈ Ds,p.2.length<=1000)->wB (gT 2 (gsC yO (gsC (gN 1) gsN))) yI zst [none,none] ((Ds.map xT).map λd=>(true,d))=some (Ds.map vR)
 | [],_=>rfl
 |p::Ds,h=>zeT (as1:=[sT (.str p.1),sT (zP p.2)]) rfl (zmi (h p (zzC ..))) (zcq p).1 (zff Ds λq m=>h q (zzA _ m))
theorem Wm{as:AS}{i:Nat}{xs:List Int}{k x:Int}{s:Bool}(h:as[i]? = some (some (.lf s (.lst (xs.map D.int)))))(hk:0<=k)(hx:xs[k.toNat]? = some x):xAt i (xC k) as=some x:=by
 have e:(xs.map D.int)[k.toNat]? = some (.int x):=by rw[zzF,hx];rfl
 unfold xAt xC
 show(if 0<=k then _ else none:Option Int)=_
 rw[if_pos hk,zbN (f:=zcx) h rfl]
 show((xs.map D.int)[k.toNat]?).bind asI=_
 rw[e];rfl
theorem zcs{as:AS}{i:Nat}{k:Int}{s:Bool}(h:as[i]? = some (some (.lf s (.int k)))):xV i as=some k:=by
 unfold xV;rw[zbN (f:=zcx) h rfl];rfl
theorem zno{as:AS}{i:Nat}{os:List O}(h:as[i]? = some (sN os)):zlu i as=some (os.length:Int):=by
 unfold zlu;rw[zbN (f:=Vr) h rfl];rfl
theorem YD{as:AS}{f g:IXF}{a b:Int}(h1:f as=some a)(h2:g as=some b)(hb:0<b):Vd f g as=some (a%b):=by
 unfold Vd;simp only[h1,h2,zyI,if_pos hb]
theorem zmI{r:List Int}{k:Int}(h:k.toNat<r.length):(r.map lfI)[k.toNat]? = sT (.int r[k.toNat]):=by
 rw[zzF,zzB h];rfl
theorem zkN{as:AS}{i:Nat}{f1 f2 fv:IXF}{k1 k2 c:Int}{T:TZ}{r:List Int}(h1:f1 as=some k1)(h2:f2 as=some k2)(hv:fv as=some c)(p1:0<=k1)(p2:0<=k2)(hi:as[i]? = some (some (ziz T)))(hr:T[k1.toNat]? = some r)(hk:k2.toNat<r.length):
 zhW i f1 f2 fv as=some (.nx (as.set i (some (ziz (T.set k1.toNat (r.set k2.toNat c)))))):=by
 have e1:(T.map Ym)[k1.toNat]? = sN (r.map lfI):=by rw[zzF,hr];rfl
 have e2:=zmI hk
 have e3:(T.map Ym).set k1.toNat (.nd .ls ((r.map lfI).set k2.toNat (.lf true (.int c))))=(T.set k1.toNat (r.set k2.toNat c)).map Ym:=by
  rw[List.map_set]
  show _=(T.map Ym).set k1.toNat (.nd .ls ((r.set k2.toNat c).map lfI))
  rw[List.map_set]
 unfold zhW
 simp only[h1,h2,hv,zyI,if_pos (show 0<=k1/\0<=k2 from⟨p1,p2⟩),(zbN hi rfl:slO Vr as i=some (T.map Ym)),(zah e1 rfl:atO Vr _ _=some (r.map lfI)),(zah e2 rfl:atO zcx _ _=some (.int r[k2.toNat])),e3]
theorem zmH{as:AS}{y i:Nat}{f1 f2 f3 fv:IXF}{k1 k2 k3 c:Int}{Ds:DZ}{p:Str×TZ}{r:List Int}(h1:f1 as=some k1)(h2:f2 as=some k2)(h3:f3 as=some k3)(hv:fv as=some c)(p1:0<=k1)(p2:0<=k2)(p3:0<=k3)(hy:noS as y=true)(hi:as[i]? = some (sN (Ds.map vR)))(hp:Ds[k1.toNat]? = some p)(hr:p.2[k2.toNat]? = some r)(hk:k3.toNat<r.length):
 znd y i f1 1 f2 f3 fv as=some (.nx (as.set i (sN ((Ds.set k1.toNat (p.1,p.2.set k2.toNat (r.set k3.toNat c))).map vR)))):=by
 have e1:(Ds.map vR)[k1.toNat]? = some (.nd .tp [.lf true (.str p.1),.nd .ls (p.2.map Ym)]):=by rw[zzF,hp];rfl
 have e2:([.lf true (.str p.1),.nd .ls (p.2.map Ym)]:List O)[1]? = sN (p.2.map Ym):=rfl
 have e3:(p.2.map Ym)[k2.toNat]? = sN (r.map lfI):=by rw[zzF,hr];rfl
 have e4:=zmI hk
 have e6:(p.2.map Ym).set k2.toNat (.nd .ls ((r.map lfI).set k3.toNat (.lf true (.int c))))=(p.2.set k2.toNat (r.set k3.toNat c)).map Ym:=by
  rw[List.map_set]
  show _=(p.2.map Ym).set k2.toNat (.nd .ls ((r.set k3.toNat c).map lfI))
  rw[List.map_set]
 have e5:(Ds.map vR).set k1.toNat (.nd .tp ([.lf true (.str p.1),.nd .ls (p.2.map Ym)].set 1 (.nd .ls ((p.2.set k2.toNat (r.set k3.toNat c)).map Ym))))=(Ds.set k1.toNat (p.1,p.2.set k2.toNat (r.set k3.toNat c))).map vR:=by
  symm;rw[List.map_set];rfl
 unfold znd
 simp only[h1,h2,h3,hv,zyI,if_pos (show 0<=k1/\0<=k2/\0<=k3/\noS as y=true from⟨p1,p2,p3,hy⟩),(zbN hi rfl:slO Vr as i=some (Ds.map vR)),(zah e1 rfl:atO zoL _ _=some [.lf true (.str p.1),.nd .ls (p.2.map Ym)]),(zah e2 rfl:atO Vr _ _=some (p.2.map Ym)),(zah e3 rfl:atO Vr _ _=some (r.map lfI)),(zah e4 rfl:atO zcx _ _=some (.int r[k3.toNat])),e6,e5]
theorem zti{as:AS}{i:Nat}{os:List O}{b:EF}(h:as[i]? = some (sN os))(hb:b as=some (.ow (.nd .ls []),as)):WD (f2 (fV i) b (zQ .NotEq)) as true (.bl (!os.isEmpty)):=by
 have hc:zQ .NotEq (O.nd .ls os).toD (.lst [])=some (.im (.bl (!os.isEmpty))):=by
  cases os with
  |nil=>rfl
  |cons o r=>rfl
 have hv:RV.view as (RV.ow (O.nd .ls [])).frz=some (.lst [],some true):=rfl
 have hi:RV.view as (RV.bo i).frz=some ((O.nd .ls os).toD,(O.nd .ls os).kl):=V7 h
 have hw:wrap (meet (O.nd .ls os).kl (some true)) (.im (.bl (!os.isEmpty)))=some (.ow (.lf true (.bl (!os.isEmpty)))):=by
  simp[wrap,yc,lfs]
 unfold WD f2
 rw[zas h]
 simp only[zyI,hb,hi,hv,hc,hw]
theorem neB{as:AS}{i:Nat}{os:List O}(h:as[i]? = some (sN os)):WD (f2 (fV i) (yW dN) (zQ .NotEq)) as true (.bl (!os.isEmpty)):=zti h (wQ yd (szl rfl))
theorem zkd{n i:Nat}{r:List Int}{c:Int}(hr:Row n r)(hc:InR n c):Row n (r.set i c):=by
 refine⟨by rw[zzR];exact hr.1,λx m=>?_⟩
 rcases List.mem_or_eq_of_mem_set m with m|rfl
 · exact hr.2 x m
 · exact hc
theorem zjL{k n i:Nat}{T:TZ}{r:List Int}(hT:Tab k n T)(hr:Row n r):Tab k n (T.set i r):=by
 refine⟨by rw[zzR];exact hT.1,λx m=>?_⟩
 rcases List.mem_or_eq_of_mem_set m with m|rfl
 · exact hT.2 x m
 · exact hr
theorem set_same{α:Type}:∀{l:List α}{i:Nat}{a:α},l[i]? = some a->l.set i a=l
 | [],_,_,h=>by simp at h
 |x::l,0,a,h=>by
  simp at h
  rw[h];rfl
 |x::l,i+1,a,h=>congrArg (x :: ·) (set_same (l:=l) (i:=i) (by simpa using h))
abbrev B13(n m:Nat)(a0 a1 a4 a6 a7:Option O)(xs:List Int)(w:Int)(e:Int)(J:TZ)(Ds:DZ):AS:=
 [a0,a1,sI n,sI m,a4,sI e,a6,a7,sT (.lst (xs.map D.int)),some (ziz J),sN (Ds.map vR),sI w,none]
section
variable{n m:Nat}{a0 a1 a4 a6 a7:Option O}{xs:List Int}{w e:Int}{J:TZ}{Ds:DZ}
theorem XQ(hl:xs.length=8)(k:Nat)(hk:k<8):∃x,xs[k]? = some x/\ixP (.lst (xs.map D.int)) (.int (k:Int))=some (.im (.int x)):=by
 have g:=zzB (l:=xs) (i:=k) (by omega)
 exact⟨_,g,V5 g⟩
theorem zsw(hl:xs.length=8)(n1:1<=n)(he:InR n e):∃e',InR n e'/\sIf (fT (f2 wu yt (zQ .Eq))) (zO true 5 (f2 (f2 (fV 8) zZ ixP) zL zG)) sNx (B13 n m a0 a1 a4 a6 a7 xs w e J Ds)=some (.nx (B13 n m a0 a1 a4 a6 a7 xs w e' J Ds)):=by
 obtain⟨x,_,hx⟩:=XQ hl 1 (by omega)
 by_cases h:w=0
 · exact⟨x%n,wY n1,wU (zM (yG (za (i:=11) rfl) zb rfl) (by show some (w==0)=_;simp[h])) (xF (i:=5) (yJ (zr (za (i:=8) rfl) zb hx rfl) (za (i:=2) rfl) (by omega)) (zB rfl))⟩
 · exact⟨e,he,zY (zM (yG (za (i:=11) rfl) zb rfl) (by show some (w==0)=_;simp[h])) rfl⟩
theorem zsm(hl:xs.length=8)(n1:1<=n)(hJ:Tab n n J):∃J',Tab n n J'/\sIf (zaZ (fT (f2 wu zZ (zQ .Eq))) (fT (f2 wu yX (zQ .Eq)))) (zhW 9 (Vd (xAt 8 (xC 2)) (xV 2)) (Vd (xAt 8 (xC 3)) (xV 2)) (Vd (xAt 8 (xC 4)) (xV 2))) sNx (B13 n m a0 a1 a4 a6 a7 xs w e J Ds)=some (.nx (B13 n m a0 a1 a4 a6 a7 xs w e J' Ds)):=by
 obtain⟨x2,g2,_⟩:=XQ hl 2 (by omega)
 obtain⟨x3,g3,_⟩:=XQ hl 3 (by omega)
 obtain⟨x4,g4,_⟩:=XQ hl 4 (by omega)
 have t1:WT (fT (f2 wu zZ (zQ .Eq))) (B13 n m a0 a1 a4 a6 a7 xs w e J Ds) (w==1):=zM (yG (za (i:=11) rfl) zb rfl) rfl
 have t2:WT (fT (f2 wu yX (zQ .Eq))) (B13 n m a0 a1 a4 a6 a7 xs w e J Ds) (w==2):=zM (yG (za (i:=11) rfl) zb rfl) rfl
 have t:WT (zaZ (fT (f2 wu zZ (zQ .Eq))) (fT (f2 wu yX (zQ .Eq)))) (B13 n m a0 a1 a4 a6 a7 xs w e J Ds) (w==1||w==2):=zcV t1 (λh=>by rw[h,Bool.false_or];exact t2) (λh=>by rw[h];rfl)
 cases hw:(w==1||w==2)with
 |false=>rw[hw]at t;exact⟨J,hJ,zY t rfl⟩
 |true=>
  rw[hw]at t
  have m2:=wY (x:=x2) n1
  have m3:=wY (x:=x3) n1
  have m4:=wY (x:=x4) n1
  have hk:(x2%(n:Int)).toNat<J.length:=by rw[hJ.1];omega
  have hr:=zzB hk
  have hR:=hJ.2 _ (zyV hk)
  generalize J[(x2%(n:Int)).toNat]=r at hr hR
  have hn:(0:Int)<n:=by omega
  exact⟨_,zjL hJ (zkd hR m4),wU t (zkN (YD (Wm (i:=8) rfl (by decide) g2) (zcs (i:=2) rfl) hn) (YD (Wm (i:=8) rfl (by decide) g3) (zcs (i:=2) rfl) hn) (YD (Wm (i:=8) rfl (by decide) g4) (zcs (i:=2) rfl) hn) m2.1 m3.1 rfl hr (by rw[hR.1];omega))⟩
theorem zrN(hl:xs.length=8)(n1:1<=n)(m1:1<=m)(hD:∀p ∈ Ds,Tab m n p.2):∃Ds',Ds'.map (·.1)=Ds.map (·.1)/\(∀p ∈ Ds',Tab m n p.2)/\sIf (W9 (fT (f2 wu yX (zQ .Gt))) (fT (f2 (fV 10) (yW dN) (zQ .NotEq)))) (znd 12 10 (Vd (xAt 8 (xC 5)) (zlu 10)) 1 (Vd (xAt 8 (xC 6)) (xV 3)) (Vd (xAt 8 (xC 7)) (xV 2)) (Vd (xAt 8 (xC 4)) (xV 2))) sNx (B13 n m a0 a1 a4 a6 a7 xs w e J Ds)=some (.nx (B13 n m a0 a1 a4 a6 a7 xs w e J Ds')):=by
 obtain⟨x4,g4,_⟩:=XQ hl 4 (by omega)
 obtain⟨x5,g5,_⟩:=XQ hl 5 (by omega)
 obtain⟨x6,g6,_⟩:=XQ hl 6 (by omega)
 obtain⟨x7,g7,_⟩:=XQ hl 7 (by omega)
 have t1:WT (fT (f2 wu yX (zQ .Gt))) (B13 n m a0 a1 a4 a6 a7 xs w e J Ds) (decide (2<w)):=zM (zbs (za (i:=11) rfl) zb) rfl
 have t2:WT (fT (f2 (fV 10) (yW dN) (zQ .NotEq))) (B13 n m a0 a1 a4 a6 a7 xs w e J Ds) (!(Ds.map vR).isEmpty):=zM (neB (i:=10) rfl) rfl
 have t:WT (W9 (fT (f2 wu yX (zQ .Gt))) (fT (f2 (fV 10) (yW dN) (zQ .NotEq)))) (B13 n m a0 a1 a4 a6 a7 xs w e J Ds) (decide (2<w) && !(Ds.map vR).isEmpty):=Vx t1 (λh=>by rw[h,Bool.true_and];exact t2) (λh=>by rw[h];rfl)
 cases hw:(decide (2<w) && !(Ds.map vR).isEmpty)with
 |false=>rw[hw]at t;exact⟨Ds,rfl,hD,zY t rfl⟩
 |true=>
  rw[hw]at t
  have hne:0<Ds.length:=by
   cases Ds with
   |nil=>simp at hw
   |cons p r=>exact Nat.zero_lt_succ _
  have hlen:((Ds.map vR).length:Int)=Ds.length:=by rw[zD]
  have m4:=wY (x:=x4) n1
  have m5:=wY (x:=x5) hne
  have m6:=wY (x:=x6) m1
  have m7:=wY (x:=x7) n1
  have hk:(x5%(Ds.length:Int)).toNat<Ds.length:=by omega
  have hp:=zzB hk
  have hP:=hD _ (zyV hk)
  generalize Ds[(x5%(Ds.length:Int)).toNat]=p at hp hP
  have hk2:(x6%(m:Int)).toNat<p.2.length:=by rw[hP.1];omega
  have hr:=zzB hk2
  have hR:=hP.2 _ (zyV hk2)
  generalize p.2[(x6%(m:Int)).toNat]=r at hr hR
  have hn:(0:Int)<n:=by omega
  have hm:(0:Int)<m:=by omega
  refine⟨Ds.set (x5%(Ds.length:Int)).toNat (p.1,p.2.set (x6%(m:Int)).toNat (r.set (x7%(n:Int)).toNat (x4%n))), ?_,λq mq=>?_,wU t (zmH (YD (Wm (i:=8) rfl (by decide) g5) (by rw[<-hlen];exact zno (i:=10) rfl) (by omega)) (YD (Wm (i:=8) rfl (by decide) g6) (zcs (i:=3) rfl) hm) (YD (Wm (i:=8) rfl (by decide) g7) (zcs (i:=2) rfl) hn) (YD (Wm (i:=8) rfl (by decide) g4) (zcs (i:=2) rfl) hn) m5.1 m6.1 m7.1 rfl rfl hp hr (by rw[hR.1];omega))⟩
  · rw[List.map_set]
    exact set_same (by rw[zzF,hp];rfl)
  · rcases List.mem_or_eq_of_mem_set mq with mq|rfl
    · exact hD q mq
    · exact zjL hP (zkd hR m4)
end
theorem zon(T:TZ):(ziz T).frz = .lf true (zP T):=by
 show O.lf (O.strs _) (.lst (O.toDs _))=_
 rw[(zaa T).1,(zaa T).2]
theorem zkE(Ds:DZ):(O.nd .ls (Ds.map vR)).frz = .lf true (.lst (Ds.map xT)):=by
 show O.lf (O.strs _) (.lst (O.toDs _))=_
 rw[(zab Ds).1,(zab Ds).2]
theorem zoN{n m:Nat}{J:TZ}{e c:Int}{Ds:DZ}{S:SS}(A:Alg n m J e Ds):∃J' e' Ds',Alg n m J' e' Ds'/\RE (YL [(true,zc n m J e Ds S),(true,.int c)]) (zc n m J' e' Ds' S):=by
 have n8:=A.n8
 have m6:=A.m6
 have dl:=A.dl
 obtain⟨xs,xl,hx,ws⟩:=stE (as:=[sT (zc n m J e Ds S),sI c,sI n,sI m,sT (zP J),sI e,sT (.lst (Ds.map xT)),sT (.lst (S.map wy)),none,none,none,none,none]) (a:=fV 1) (b:=fC (.int 8)) (c:=c) (m:=8) (by omega) (WD.e (za rfl)) (WD.e zb)
 obtain⟨x0,_,a0⟩:=XQ xl 0 (by omega)
 obtain⟨e',he,s1⟩:=zsw (m:=m) (a0:=sT (zc n m J e Ds S)) (a1:=sI c) (a4:=sT (zP J)) (a6:=sT (.lst (Ds.map xT))) (a7:=sT (.lst (S.map wy))) (w:=x0%6) (J:=J) (Ds:=Ds) xl A.n1 ⟨A.e0,A.en⟩
 obtain⟨J',hJ,s2⟩:=zsm (m:=m) (a0:=sT (zc n m J e Ds S)) (a1:=sI c) (a4:=sT (zP J)) (a6:=sT (.lst (Ds.map xT))) (a7:=sT (.lst (S.map wy))) (w:=x0%6) (e:=e') (Ds:=Ds) xl A.n1 A.j
 obtain⟨Ds',hn,hD,s3⟩:=zrN (a0:=sT (zc n m J e Ds S)) (a1:=sI c) (a4:=sT (zP J)) (a6:=sT (.lst (Ds.map xT))) (a7:=sT (.lst (S.map wy))) (w:=x0%6) (e:=e') (J:=J') xl A.n1 A.m1 A.ds
 have hlen:Ds'.length=Ds.length:=by rw[<-zD (f:=λp:Str×TZ=>p.1),hn,zD]
 refine⟨J',e',Ds',⟨A.n1,n8,A.m1,m6,hJ,he.1,he.2,by omega,hD,by rw[hn];exact A.nd⟩, ?_⟩
 have c9:=xx (i:=9) (znt (T:=J) (f:=fV 4) (as:=[sT (zc n m J e Ds S),sI c,sI n,sI m,sT (zP J),sI e,sT (.lst (Ds.map xT)),sT (.lst (S.map wy)),sT (.lst (xs.map D.int)),none,none,none,none]) (by rw[A.j.1];omega) (WD.e (za rfl))) (zB rfl)
 have c10:=xx (i:=10) (zbP (cap:=[none,none]) (zcQ (f:=fV 6) (as:=[sT (zc n m J e Ds S),sI c,sI n,sI m,sT (zP J),sI e,sT (.lst (Ds.map xT)),sT (.lst (S.map wy)),sT (.lst (xs.map D.int)),some (ziz J),none,none,none]) (WD.e (za rfl))) (by rw[zD,zD];exact szs (by omega)) (zff Ds λp mp=>by rw[(A.ds p mp).1];omega)) (zB rfl)
 refine xW rfl (zp (as1:=[sT (zc n m J e Ds S),sI c,sI n,sI m,sT (zP J),sI e,sT (.lst (Ds.map xT)),sT (.lst (S.map wy)),none,none,none,none,none]) (zqi (WD.e (za rfl)) rfl) (zp (Zg (p:=8) ws (zB rfl)) (zp c9 (zp c10 (zp (xF (i:=11) (yJ (zr (za rfl) zb a0 rfl) zb (by decide)) (zB rfl)) (zp s1 (zp s2 (zp s3 ?_))))))))
 have q:=xr (as:=B13 n m (sT (zc n m J e Ds S)) (sI c) (sT (zP J)) (sT (.lst (Ds.map xT))) (sT (.lst (S.map wy))) xs (x0%6) e' J' Ds') (a:=fV 2) (za rfl) (xr (a:=fV 3) (za rfl) (zce (j:=9) (fr:=dC vC (dC (fV 10) (dC vh dN))) rfl (xr (a:=fV 5) (za rfl) (zce (j:=10) (fr:=dC vh dN) rfl (xr (a:=fV 7) (za rfl) rfl)))))
 rw[zon,zkE]at q
 exact⟨_,Wg (zbR q (szl rfl)) rfl,rfl,rfl⟩
theorem zrm{ns:List Int}:∃n m J e Ds S,Alg n m J e Ds/\Sg S/\RE (ZR [(true,.lst (ns.map .int))]) (zc n m J e Ds S):=by
 obtain⟨c,hc⟩:=zdF (ns:=ns) (k:=2) (s:=true) (t:=true) (by omega)
 obtain⟨c0,hc0⟩:=zdF (ns:=ns) (k:=0) (s:=true) (t:=true) (by omega)
 obtain⟨c1,hc1⟩:=zdF (ns:=ns) (k:=1) (s:=true) (t:=true) (by omega)
 obtain⟨n,m,J,e,Ds,S,A,hSl,hA⟩:=zjz (c:=c0) (c':=c1)
 have s1:zO true 1 (zK (aC zx (aC yX aN)) yH) [sT (.lst (ns.map .int)),none,none]=some (.nx [sT (.lst (ns.map .int)),sI c,none]):=xF (i:=1) (zbA (zq (za rfl) (zq zb zJ)) hc) (zB rfl)
 have s2:zO true 2 (zK (aC (zK (aC zx (aC yt aN)) yH) (aC (zK (aC zx (aC zZ aN)) yH) aN)) vz) [sT (.lst (ns.map .int)),sI c,none]=some (.nx [sT (.lst (ns.map .int)),sI c,sT (zc n m J e Ds S)]):=
  Zg (p:=2) (Vj (WD.e (zbA (zq (za rfl) (zq zb zJ)) hc0)) (WD.e (zbA (zq (za rfl) (zq zb zJ)) hc1)) hA) (zB rfl)
 by_cases h:c%2=1
 · obtain⟨J',e',Ds',A',h'⟩:=zgt (c:=c/2) (S:=S) A
   exact⟨n,m,J',e',Ds',S,A',hSl,xW rfl (zp s1 (zp s2 (Zk (YC (zM (yG (yJ (za rfl) zb (by decide)) zb rfl) (by show some (c%2==1)=_;simp[h])) (wC (Vj (WD.e (za rfl)) (WD.e (Zq (za rfl) zb (by decide) (yh (by decide) (by decide)))) h'))))))⟩
 · obtain⟨J',e',Ds',A',h'⟩:=zoN (c:=c/2) (S:=S) A
   exact⟨n,m,J',e',Ds',S,A',hSl,xW rfl (zp s1 (zp s2 (zp (zY (zM (yG (yJ (za rfl) zb (by decide)) zb rfl) (by show some (c%2==1)=_;simp[h])) rfl) (wC (Vj (WD.e (za rfl)) (WD.e (Zq (za rfl) zb (by decide) (yh (by decide) (by decide)))) h')))))⟩
def rAt(r:List Int)(v:Int):Int:=(r[v.toNat]?).getD 0
def jAt(J:TZ)(w v:Int):Int:=rAt ((J[w.toNat]?).getD []) v
theorem Vk{n:Nat}{r:List Int}{v:Int}(hr:Row n r)(hv:InR n v):ixP (zH r) (.int v)=some (.im (.int (rAt r v)))/\InR n (rAt r v):=by
 have hk:v.toNat<r.length:=by rw[hr.1];omega
 have g:=zzB hk
 have e:rAt r v=r[v.toNat]:=by unfold rAt;rw[g];rfl
 rw[e]
 refine⟨?_,hr.2 _ (zyV hk)⟩
 have:=V5 (f:=D.int) g
 rw[show((v.toNat:Nat):Int)=v by omega]at this
 exact this
theorem Wy{k n:Nat}{T:TZ}{w:Int}(hT:Tab k n T)(hw:InR k w):ixP (zP T) (.int w)=some (.im (zH ((T[w.toNat]?).getD [])))/\Row n ((T[w.toNat]?).getD []):=by
 have hk:w.toNat<T.length:=by rw[hT.1];omega
 have g:=zzB hk
 rw[g]
 refine⟨?_,hT.2 _ (zyV hk)⟩
 have:=V5 (f:=zH) g
 rw[show((w.toNat:Nat):Int)=w by omega]at this
 exact this
theorem zlz{n:Nat}{J:TZ}{w v:Int}(hJ:Tab n n J)(hw:InR n w)(hv:InR n v):InR n (jAt J w v):=(Vk (Wy hJ hw).2 hv).2
theorem zgN{a b c:EF}{as:AS}{n:Nat}{J:TZ}{w v:Int}(hJ:Tab n n J)(hw:InR n w)(hv:InR n v)(ha:WD a as true (zP J))(hb:WD b as true (.int w))(hc:WD c as true (.int v)):WD (f2 (f2 a b ixP) c ixP) as true (.int (jAt J w v)):=
 zr (yR ha hb (Wy hJ hw).1) hc (Vk (Wy hJ hw).2 hv).1 rfl
theorem eqI{k:Nat}{a:Int}:eqF (k+1) (.int a) (.int a)=some true:=by show some (a==a)=_;simp
theorem eqS{k:Nat}{a:Str}:eqF (k+1) (.str a) (.str a)=some true:=by show some (a==a)=_;simp
theorem eqR{k:Nat}{r:List Int}:eqF (k+2) (zH r) (zH r)=some true:=by
 show eqL (eqF (k+1)) (r.map D.int) (r.map D.int)=_
 refine Zy λx m=>?_
 obtain⟨i,_,rfl⟩:=zyZ.mp m
 exact eqI
theorem eqT{k:Nat}{T:TZ}:eqF (k+3) (zP T) (zP T)=some true:=by
 show eqL (eqF (k+2)) (T.map zH) (T.map zH)=_
 refine Zy λx m=>?_
 obtain⟨i,_,rfl⟩:=zyZ.mp m
 exact eqR
theorem zsF{k:Nat}{p:Str×TZ}:eqF (k+4) (xT p) (xT p)=some true:=by
 show eqL (eqF (k+3)) [.str p.1,zP p.2] [.str p.1,zP p.2]=_
 refine Zy λx m=>?_
 rcases zI.mp m with rfl|m
 · exact eqS
 rcases zI.mp m with rfl|m
 · exact eqT
 · exact nomatch m
theorem ztA{k:Nat}{p:Str×List Int}:eqF (k+3) (wy p) (wy p)=some true:=by
 show eqL (eqF (k+2)) [.str p.1,zH p.2] [.str p.1,zH p.2]=_
 refine Zy λx m=>?_
 rcases zI.mp m with rfl|m
 · exact eqS
 rcases zI.mp m with rfl|m
 · exact eqR
 · exact nomatch m
theorem ztp{k:Nat}{Ds:DZ}:eqF (k+5) (.lst (Ds.map xT)) (.lst (Ds.map xT))=some true:=by
 show eqL (eqF (k+4)) (Ds.map xT) (Ds.map xT)=_
 refine Zy λx m=>?_
 obtain⟨i,_,rfl⟩:=zyZ.mp m
 exact zsF
theorem ztq{k:Nat}{S:SS}:eqF (k+4) (.lst (S.map wy)) (.lst (S.map wy))=some true:=by
 show eqL (eqF (k+3)) (S.map wy) (S.map wy)=_
 refine Zy λx m=>?_
 obtain⟨i,_,rfl⟩:=zyZ.mp m
 exact ztA
theorem eqA{n m:Nat}{J:TZ}{e:Int}{Ds:DZ}{S:SS}:eqF 60 (zc n m J e Ds S) (zc n m J e Ds S)=some true:=by
 show eqL (eqF 59) [.int n,.int m,zP J,.int e,.lst (Ds.map xT),.lst (S.map wy)] [.int n,.int m,zP J,.int e,.lst (Ds.map xT),.lst (S.map wy)]=_
 refine Zy λx m=>?_
 rcases zI.mp m with rfl|m
 · exact eqI
 rcases zI.mp m with rfl|m
 · exact eqI
 rcases zI.mp m with rfl|m
 · exact eqT
 rcases zI.mp m with rfl|m
 · exact eqI
 rcases zI.mp m with rfl|m
 · exact ztp
 rcases zI.mp m with rfl|m
 · exact ztq
 · exact nomatch m
abbrev sL(x:Int):D:=.tup [.str "left",.int x]
abbrev sR(x:Int):D:=.tup [.str "right",.int x]
abbrev sD(s:Str)(c:Int):D:=.tup [.str "deed",.str s,.int c]
inductive Stp(n m:Nat)(Ds:DZ):D->Prop
 |l {x:Int}(h:InR n x):Stp n m Ds (sL x)
 |r {x:Int}(h:InR n x):Stp n m Ds (sR x)
 |d {p:Str×TZ}{c:Int}(hp:p ∈ Ds) (h:InR m c):Stp n m Ds (sD p.1 c)
abbrev dAt(p:Str×TZ)(c v:Int):Int:=rAt ((p.2[c.toNat]?).getD []) v
abbrev lsB:SF:=(sIf (fT (f2 yD (f2 zA zZ ixP) (zQ .Eq))) (yP (f2 (f2 yK (f2 zA yX ixP) ixP) zL ixP)) sNx)
section
variable{n m:Nat}{J:TZ}{e:Int}{Ds:DZ}{S:SS}{d:D}{v:Int}
theorem zcB{u:Bool}{p:Str×TZ}{c:Int}{B:Option O}(hT:Tab m n p.2)(h:InR m c)(hv:InR n v):∀(Es:DZ) (e3 e4:Option O),p ∈ Es->(Es.map (·.1)).Nodup->forL (gT 2 (gsC (gN 3) (gsC Xz gsN))) lsB ((Es.map xT).map λd=>(true,d)) [B,some (.lf u (sD p.1 c)),sI v,e3,e4]=some (.rt (lfI (dAt p c v)))
 | [],_,_,h,_=>nomatch h
 |q::Es,e3,e4,hm,nd=>by
  have nd':=zzT.mp (show(q.1::Es.map (·.1)).Nodup from nd)
  by_cases eq:q.1=p.1
  · have:p=q:=by
     rcases zI.mp hm with h|h
     · exact h
     · exact absurd (List.mem_map_of_mem (f:=λp:Str×TZ=>p.1) h) (by rw[<-eq];exact nd'.1)
    subst this
    exact zfa (as1:=[B,some (.lf u (sD p.1 c)),sI v,sT (.str p.1),sT (zP p.2)]) rfl (wU (zM (yG (c:=true) (za (i:=3) rfl) (zr (za (i:=1) rfl) zb rfl rfl) eqS) rfl) (ZM (zr (yR (za (i:=4) rfl) (zr (za (i:=1) rfl) zb rfl rfl) (Wy hT h).1) (za (i:=2) rfl) (Vk (Wy hT h).2 hv).1 rfl)))
  · have hp:p ∈ Es:=by
     rcases zI.mp hm with h|h
     · exact absurd (by rw[h]) eq
     · exact h
    exact vN (as1:=[B,some (.lf u (sD p.1 c)),sI v,sT (.str q.1),sT (zP q.2)]) rfl (zY (zM (yG (c:=false) (za (i:=3) rfl) (zr (za (i:=1) rfl) zb rfl rfl) (by show some (q.1==p.1)=some false;simp[eq])) rfl) rfl) (zcB hT h hv Es _ _ hp nd'.2)
theorem zis(A:Alg n m J e Ds)(hd:Stp n m Ds d)(hv:InR n v):∃w,InR n w/\∀u,yr [(true,zc n m J e Ds S),(u,d),(true,.int v)]=sI w:=by
 cases hd with
 | @l x h=>
  exact⟨jAt J x v,zlz A.j h hv,λu=>
   Z7 rfl (v9 (wU (zM (yG (c:=true) (zr (za (i:=1) rfl) zb rfl rfl) zb eqS) rfl) (ZM (zgN A.j h hv (yR (za (i:=0) rfl) zb rfl) (zr (za (i:=1) rfl) zb rfl rfl) (za (i:=2) rfl)))))⟩
 | @r x h=>
  exact⟨jAt J v x,zlz A.j hv h,λu=>
   Z7 rfl (zT (zY (zM (yG (c:=false) (zr (za (i:=1) rfl) zb rfl rfl) zb rfl) rfl) rfl) (v9 (wU (zM (yG (c:=true) (zr (za (i:=1) rfl) zb rfl rfl) zb eqS) rfl) (ZM (zgN A.j hv h (yR (za (i:=0) rfl) zb rfl) (za (i:=2) rfl) (zr (za (i:=1) rfl) zb rfl rfl))))))⟩
 | @d p c hp h=>
  obtain⟨t1,t2⟩:=Wy (A.ds p hp) h
  exact⟨dAt p c v,(Vk t2 hv).2,λu=>Z7 rfl (zT (zY (zM (yG (c:=false) (zr (za (i:=1) rfl) zb rfl rfl) zb rfl) rfl) rfl) (zT (zY (zM (yG (c:=false) (zr (za (i:=1) rfl) zb rfl rfl) zb rfl) rfl) rfl) (v9 (xX (zde (yR (za (i:=0) rfl) zb rfl)) (zcB (A.ds p hp) h hv Ds none none hp A.nd)))))⟩
@[irreducible] def stp(A d:D)(v:Int):Int:=match yr [(true,A),(true,d),(true,.int v)]with
 |some (.lf _ (.int w))=>w
 |_=>0
theorem Xg(A:Alg n m J e Ds)(hd:Stp n m Ds d)(hv:InR n v):InR n (stp (zc n m J e Ds S) d v)/\yr [(true,zc n m J e Ds S),(true,d),(true,.int v)]=sI (stp (zc n m J e Ds S) d v):=by
 obtain⟨w,h1,h2⟩:=zis (S:=S) A hd hv
 have:stp (zc n m J e Ds S) d v=w:=by unfold stp;rw[h2 true]
 rw[this];exact⟨h1,h2 true⟩
theorem zpk(A:Alg n m J e Ds)(hd:Stp n m Ds d)(hv:InR n v)(u:Bool):yr [(true,zc n m J e Ds S),(u,d),(true,.int v)]=sI (stp (zc n m J e Ds S) d v):=by
 obtain⟨w,h1,h2⟩:=zis (S:=S) A hd hv
 have:stp (zc n m J e Ds S) d v=w:=by unfold stp;rw[h2 true]
 rw[this];exact h2 u
abbrev frm(A:D)(r:List D)(v:Int):Int:=r.foldl (λw d=>stp A d w) v
theorem ziW(A:Alg n m J e Ds):∀(r:List D) (v:Int),(∀d ∈ r,Stp n m Ds d)->InR n v->InR n (frm (zc n m J e Ds S) r v)
 | [],v,_,h=>h
 |d::r,v,hr,h=>ziW A r _ (λx m=>hr x (zzA _ m)) (Xg A (hr d (zzC ..)) h).1
abbrev sp1:SF:=(zO true 1 (f2 zA (yW (dC (yw (dC (fC (.str "left")) (dC zL dN))) (dC (yw (dC (fC (.str "right")) (dC zL dN))) dN))) zF))
abbrev sp2:SF:=(zO true 1 (f2 zA (zR (yU (aC (f2 zx zZ ixP) aN) yV) [none,some 3] yO yI (yw (dC (fC (.str "deed")) (dC zA (dC zx dN))))) zF))
theorem zli{as:AS}{x:Int}(h:as[2]? = some (sI x)):WE (yW (dC (yw (dC (fC (.str "left")) (dC zL dN))) (dC (yw (dC (fC (.str "right")) (dC zL dN))) dN))) as (.lst [sL x,sR x]):=
 vO (os:=[Y4 [.lf true (.str "left"),lfI x],Y4 [.lf true (.str "right"),lfI x]]) (Xi (zes (zm zb (zm (za h) yd)) (szl rfl)) (Xi (zes (zm zb (zm (za h) yd)) (szl rfl)) yd)) (szl rfl) rfl rfl
theorem W6{n:Nat}{x:Int}(h:x ∈ yZ n):InR n x:=by
 obtain⟨i,hi,rfl⟩:=zyZ.mp h
 have:=List.mem_range.mp hi
 exact⟨by omega,by omega⟩
theorem zba{n:Nat}{x:Int}(h:InR n x):x ∈ yZ n:=zyZ.mpr ⟨x.toNat,List.mem_range.mpr (by have:=h.1;have:=h.2;omega),by have:=h.1;omega⟩
theorem zbY{as:AS}{fr:AF}{n:Nat}{u:Bool}(h:WA fr as [(u,.int n)])(hn:n<=1000):yU fr yV as=some ((yZ n).map λx=>(true,D.int x),as):=by
 rw[vB h (by omega) (by omega),zyF,zzY]
 unfold vg
 simp only[Int.zero_add];rfl
theorem zpV(A:Alg n m J e Ds):∃(r:List D) (e2:Option O),r.length=2*n/\(∀d ∈ r,Stp n m Ds d)/\(∀x,InR n x->sL x ∈ r/\sR x ∈ r)/\forL (gN 2) sp1 (vg 0 n) [sT (zc n m J e Ds S),sT (.lst []),none,none,none]=some (.nx [sT (zc n m J e Ds S),sT (.lst r),e2,none,none]):=by
 have n8:=A.n8
 obtain⟨as',hf,r,e2,rfl,hl,hr,hc⟩:=xO (g:=gN 2) (f:=sp1)
  (λi as=>∃(r:List D) (e2:Option O),as=[sT (zc n m J e Ds S),sT (.lst r),e2,none,none]/\r.length=2*i/\(∀d ∈ r,Stp n m Ds d)/\∀x,InR i x->sL x ∈ r/\sR x ∈ r)
  (vg 0 n) 0 [sT (zc n m J e Ds S),sT (.lst []),none,none,none] (λi x as hx' hI=>by
   obtain⟨r,e2,rfl,hl,hr,hc⟩:=hI
   obtain⟨rfl,hi⟩:=vY hx'
   have hx:InR n (0+(i:Int)):=⟨by omega,by omega⟩
   refine⟨[sT (zc n m J e Ds S),sT (.lst r),sI (0+i),none,none],rfl,_,Zg (p:=1) (zoo (WD.e (za (i:=1) rfl)) (zli rfl) (add_lists (szs (by rw[hl];show _+2<=_;omega)))) (zB rfl),r++[sL (0+i),sR (0+i)],sI (0+i),rfl,by rw[zzG,hl];show _+2=_;omega,λd hd=>?_,λx hx=>?_⟩
   · rcases zzJ.mp hd with h|h
     · exact hr d h
     · rcases zI.mp h with rfl|h
       · exact .l hx
       · rcases zI.mp h with rfl|h
         · exact .r hx
         · exact nomatch h
   · by_cases q:x=0+(i:Int)
     · subst q;exact⟨zzI _ (zzC ..),zzI _ (zzA _ (zzC ..))⟩
     · obtain⟨c1,c2⟩:=hc x ⟨hx.1,by have:=hx.2;omega⟩
       exact⟨zzM _ c1,zzM _ c2⟩)
  ⟨[],none,rfl,rfl,(λ_ h=>nomatch h),λx h=>absurd h.2 (by have:=h.1;show ¬x<((0:Nat):Int);omega)⟩
 rw[wI]at hl hc
 exact⟨r,e2,by omega,hr,λx h=>hc x (by rw[zyU];exact h),hf⟩
theorem zpB{r0:List D}{e2:Option O}(A:Alg n m J e Ds)(hl0:r0.length=2*n)(hr0:∀d ∈ r0,Stp n m Ds d):∃(r:List D) (e3 e4:Option O),2*n<=r.length/\r.length<=100/\(∀d ∈ r,Stp n m Ds d)/\(∀d ∈ r0,d ∈ r)/\(∀p ∈ Ds,∀c,InR m c->sD p.1 c ∈ r)/\forL (gT 2 (gsC (gN 3) (gsC Xz gsN))) sp2 ((Ds.map xT).map λd=>(true,d)) [sT (zc n m J e Ds S),sT (.lst r0),e2,none,none]=some (.nx [sT (zc n m J e Ds S),sT (.lst r),e2,e3,e4]):=by
 have n8:=A.n8
 have m6:=A.m6
 have dl:=A.dl
 obtain⟨as',hf,r,e3,e4,rfl,hl,hl2,hr,h0,hd⟩:=xO (g:=gT 2 (gsC (gN 3) (gsC Xz gsN))) (f:=sp2)
  (λi as=>∃(r:List D) (e3 e4:Option O),as=[sT (zc n m J e Ds S),sT (.lst r),e2,e3,e4]/\2*n<=r.length/\r.length<=2*n+6*i/\(∀d ∈ r,Stp n m Ds d)/\(∀d ∈ r0,d ∈ r)/\∀p ∈ Ds.take i,∀c,InR m c->sD p.1 c ∈ r)
  ((Ds.map xT).map λd=>(true,d)) 0 [sT (zc n m J e Ds S),sT (.lst r0),e2,none,none] (λi x as hx' hI=>by
    obtain⟨r,e3,e4,rfl,hl,hl2,hr,h0,hd⟩:=hI
    rw[zzY,zzF]at hx'
    obtain⟨p,hp,rfl⟩:=zzU.mp hx'
    have hi:i<Ds.length:=(zzD.mp hp).1
    have mp:=zzX hp
    rw[zyU]at hl2 hd ⊢
    have wc:=Xd (as:=[sT (zc n m J e Ds S),sT (.lst r),e2,sT (.str p.1),sT (zP p.2)]) (h:=λb=>sD p.1 b) (it:=λx:Int=>(true,D.int x)) (cap:=[none,some 3]) (gg:=gN 0) (fe:=yw (dC (fC (.str "deed")) (dC zA (dC zx dN)))) (fi:=yU (aC (f2 zx zZ ixP) aN) yV) (yZ m) (zbY (zq (zr (za (i:=0) rfl) zb rfl rfl) zJ) (by omega)) (by rw[zD,zyR];omega) λb _=>⟨[sI b,sT (.str p.1)],rfl,zkO (os:=[.lf true (.str "deed"),.lf true (.str p.1),lfI b]) (zm zb (zm (za (i:=1) rfl) (zm (za (i:=0) rfl) yd))) (szl rfl) rfl rfl⟩
    refine⟨_,rfl,_,Zg (p:=1) (zoo (WD.e (za (i:=1) rfl)) wc (add_lists (szs (by rw[zD,zD,zyR];omega)))) (zB rfl),r++(yZ m).map (sD p.1),sT (.str p.1),sT (zP p.2),rfl,by rw[zzG];omega,by rw[zzG,zD,zD,zyR];omega,λd hd=>?_,λd md=>zzM _ (h0 d md),λq mq c hc=>?_⟩
    · rcases zzJ.mp hd with h|h
      · exact hr d h
      · obtain⟨c,hc,rfl⟩:=zyZ.mp h
        exact .d mp (W6 hc)
    · rw[List.take_succ,hp]at mq
      rcases zzJ.mp mq with h|h
      · exact zzM _ (hd q h c hc)
      · have:q=p:=by simpa using h
        subst this
        exact zzI _ (zyZ.mpr ⟨c,zba hc,rfl⟩))
  ⟨r0,none,none,rfl,by omega,by omega,hr0,(λ_ h=>h),λp hp=>by simp at hp⟩
 rw[zD,zD,zyU]at hl2 hd
 rw[List.take_length]at hd
 exact⟨r,e3,e4,hl,by omega,hr,h0,hd,hf⟩
theorem zhU(A:Alg n m J e Ds):∃r:List D,r.length<=100/\(∀d,d ∈ r ↔ Stp n m Ds d)/\RE (wW [(true,zc n m J e Ds S)]) (.lst r):=by
 have n1:=A.n1
 have n8:=A.n8
 obtain⟨r0,e2,l0,h0,c0,f0⟩:=zpV (S:=S) A
 obtain⟨r,e3,e4,l1,l2,h1,c1,c2,f1⟩:=zpB (S:=S) (e2:=e2) A l0 h0
 refine⟨r,l2,λd=>⟨h1 d,λhs=>?_⟩,xW rfl (zp (Zg (p:=1) (vO yd (szl rfl) rfl rfl) (zB rfl)) (zp (xX (vB (zq (zr (za (i:=0) rfl) zb rfl rfl) zJ) (by omega) (by omega)) (by rw[zyF];exact f0)) (zp (xX (zde (yR (za (i:=0) rfl) zb rfl)) f1) (wC (WD.e (za (i:=1) rfl))))))⟩
 cases hs with
 |l h=>exact c1 _ (c0 _ h).1
 |r h=>exact c1 _ (c0 _ h).2
 |d hp h=>exact c2 _ hp _ h
end
def hld(S:SS)(v:Int):List Bool:=S.map λp=>decide (v ∈ p.2)
theorem zmZ(v:Int):∀xs:List Int,inP (.int v) (zH xs)=some (decide (v ∈ xs))
 | []=>rfl
 |x::xs=>by
  have ih:anyF (λy=>eqF 50 y (.int v)) (xs.map D.int)=some (decide (v ∈ xs)):=zmZ v xs
  show(some (x==v)).bind (λb=>(anyF (λy=>eqF 50 y (.int v)) (xs.map D.int)).bind λc=>some (b||c))=_
  rw[ih]
  show some ((x==v)||decide (v ∈ xs))=_
  by_cases h:x=v
  · subst h;simp
  · have h':¬v=x:=λz=>h z.symm
    simp[h,h']
theorem zhI{a b:EF}{as:AS}{v:Int}{xs:List Int}(ha:WD a as true (.int v))(hb:WD b as true (zH xs)):WD (f2 a b (zQ .In)) as true (.bl (decide (v ∈ xs))):=
 zr ha hb (by show(inP (.int v) (zH xs)).bind _=_;rw[zmZ];rfl) rfl
theorem zjD{α:Type}{f:EF}{as:AS}{g:α->D}{l:List α}(h:WE f as (.lst (l.map g))):Zh f as=some (l.map λa=>(true,g a),as):=by
 have:=zcQ h
 rw[zzY]at this
 exact this
abbrev tsB:SF:=(sIf (fT (f2 (f2 zA yK (zQ .In)) (f2 zL yK (zQ .In)) (zQ .NotEq))) (yP yD) sNx)
theorem zhS{B:Option O}{a b:Int}:∀(T:SS) (e3 e4:Option O),(hld T a=hld T b/\∃e3' e4',forL (gT 2 (gsC (gN 3) (gsC Xz gsN))) tsB ((T.map wy).map λd=>(true,d)) [B,sI a,sI b,e3,e4]=some (.nx [B,sI a,sI b,e3',e4'])) \/
 (hld T a≠hld T b/\∃s,(∃p ∈ T,p.1=s/\decide (a ∈ p.2)≠decide (b ∈ p.2))/\forL (gT 2 (gsC (gN 3) (gsC Xz gsN))) tsB ((T.map wy).map λd=>(true,d)) [B,sI a,sI b,e3,e4]=some (.rt (.lf true (.str s))))
 | [],e3,e4=>.inl ⟨rfl,e3,e4,rfl⟩
 |p::T,e3,e4=>by
  have w1:WD (f2 zA yK (zQ .In)) [B,sI a,sI b,sT (.str p.1),sT (zH p.2)] true (.bl (decide (a ∈ p.2))):=zhI (za (i:=1) rfl) (za (i:=4) rfl)
  have w2:WD (f2 zL yK (zQ .In)) [B,sI a,sI b,sT (.str p.1),sT (zH p.2)] true (.bl (decide (b ∈ p.2))):=zhI (za (i:=2) rfl) (za (i:=4) rfl)
  have t:=zM (zei (c:=decide (a ∈ p.2)==decide (b ∈ p.2)) w1 w2 rfl) rfl
  by_cases h:decide (a ∈ p.2)=decide (b ∈ p.2)
  · rw[h,beq_self_eq_true]at t
    rcases zhS (B:=B) (a:=a) (b:=b) T (sT (.str p.1)) (sT (zH p.2))with⟨h1,e3',e4',hf⟩|⟨h1,s,⟨q,mq,hq⟩,hf⟩
    · exact .inl ⟨by show decide (a ∈ p.2)::hld T a=decide (b ∈ p.2)::hld T b;rw[h,h1],e3',e4',vN (as1:=[B,sI a,sI b,sT (.str p.1),sT (zH p.2)]) rfl (zY t rfl) hf⟩
    · exact .inr ⟨λz=>h1 (List.cons.inj z).2,s,⟨q,zzA _ mq,hq⟩,vN (as1:=[B,sI a,sI b,sT (.str p.1),sT (zH p.2)]) rfl (zY t rfl) hf⟩
  · rw[show(decide (a ∈ p.2)==decide (b ∈ p.2))=false by simpa using h]at t
    exact .inr ⟨λz=>h (List.cons.inj z).1,p.1,⟨p,zzC ..,rfl,h⟩,zfa (as1:=[B,sI a,sI b,sT (.str p.1),sT (zH p.2)]) rfl (wU t (ZM (za (i:=3) rfl)))⟩
section
variable{n m:Nat}{J:TZ}{e:Int}{Ds:DZ}{S:SS}{v:Int}
theorem zoU{a b:Int}:(hld S a=hld S b/\xN [(true,zc n m J e Ds S),(true,.int a),(true,.int b)]=sT .non)\/(hld S a≠hld S b/\∃s,(∃p ∈ S,p.1=s/\decide (a ∈ p.2)≠decide (b ∈ p.2))/\xN [(true,zc n m J e Ds S),(true,.int a),(true,.int b)]=sT (.str s)):=by
 rcases zhS (B:=sT (zc n m J e Ds S)) (a:=a) (b:=b) S none none with⟨h,_,_,hf⟩|⟨h,s,hq,hf⟩
 · exact .inl ⟨h,Z7 rfl (zT (xX (zde (yR (za (i:=0) rfl) zb rfl)) hf) (ZM zb))⟩
 · exact .inr ⟨h,s,hq,Z7 rfl (v9 (xX (zde (yR (za (i:=0) rfl) zb rfl)) hf))⟩
theorem znz(sl:S.length<=10):RE (ZQ [(true,zc n m J e Ds S),(true,.int v)]) (.tup ((hld S v).map D.bl)):=by
 have w:=Xd (as:=[sT (zc n m J e Ds S),sI v]) (h:=λp:Str×List Int=>D.bl (decide (v ∈ p.2))) (it:=λp=>(true,wy p)) (cap:=[none,none,some 1]) (gg:=gT 2 (gsC yO (gsC (gN 1) gsN))) (fe:=f2 zL zA (zQ .In)) (fi:=Zh (f2 zx zbm ixP)) S (zjD (g:=wy) (WD.e (yR (za (i:=0) rfl) zb rfl))) (by omega) λp mp=>⟨[sT (.str p.1),sT (zH p.2),sI v],rfl,WD.e (zhI (za (i:=2) rfl) (za (i:=1) rfl))⟩
 refine xW rfl (wC (zjI w ?_))
 show some (R0.im (.tup (S.map λp=>D.bl (decide (v ∈ p.2)))))=some (R0.im (.tup ((S.map λp=>decide (v ∈ p.2)).map D.bl)))
 rw[zzY];rfl
def Rr(n m:Nat)(J:TZ)(e:Int)(Ds:DZ)(S:SS)(a b:Int):Prop:=∀r:List D,(∀d ∈ r,Stp n m Ds d)->hld S (frm (zc n m J e Ds S) r a)=hld S (frm (zc n m J e Ds S) r b)
end
abbrev stD(q:D×List Int):D:=.tup [q.1,zH q.2]
theorem ztj{a b:EF}{as:AS}{ds es:List D}(ha:WE a as (.lst ds))(hb:WE b as (.lst es))(hl:ds.length+es.length<=sizeLine):f2 a b zF as=some (.ow (.nd .ls ((ds++es).map (O.lf true))),as):=by
 obtain⟨o,h1,h2,h3⟩:=ha
 obtain⟨p,k1,k2,k3⟩:=hb
 have e1:RV.view as (.ow o.frz)=some (.lst ds,some true):=by
  show some (o.toD,some o.str)=_
  rw[h2,h3]
 have e2:RV.view as (.ow p.frz)=some (.lst es,some true):=by
  show some (p.toD,some p.str)=_
  rw[k2,k3]
 unfold f2
 simp only[h1,k1,zyI,RV.frz,e1,e2]
 show((zam .Add (.lst ds) (.lst es)).bind _)=_
 rw[add_lists hl]
 show(if((ds++es).all yc||true)=true then some (RV.ow (.nd .ls ((ds++es).map (lfs true))))else none:Option RV).bind _=_
 rw[if_pos (by simp),zac];rfl
theorem zhN:∀(a b:List O),O.toDs (a++b)=O.toDs a++O.toDs b
 | [],_=>rfl
 |x::a,b=>congrArg (x.toD :: ·) (zhN a b)
theorem zhu:∀{a b:List O},O.strs a=true->O.strs b=true->O.strs (a++b)=true
 | [],_,_,h=>h
 |x::a,b,h,h'=>by
  have h:=(zzZ _ _).mp (show(x.str&&O.strs a)=true from h)
  show(x.str&&O.strs (a++b))=true
  rw[h.1,zhu h.2 h'];rfl
theorem zsM{α:Type}{toD:α->D}{Q:α->Prop}{as:AS}{fi:IF}{cap:List (Option Nat)}{g:GF}{fe:EF}{i:Nat}{os ps:List O}{l k:List α}{xs:List It1}(h:as[i]? = some (sN os))(ho:Ows toD Q os l)(hi:fi as=some (xs,as))(hx:xs.length<=1000)(hc:wB g yI fe (Yz cap as) xs=some ps)(hs:O.strs ps=true)(hd:O.toDs ps=k.map toD)(hk:∀a ∈ k,Q a)(hl:l.length+k.length<=1000):
 yQ (xQ i (dC (zR fi cap g yI fe) dN) zlj) as=some (.nx (as.set i (sN (os++ps))))/\Ows toD Q (os++ps) (l++k):=by
 have hlp:ps.length=k.length:=by have:=congrArg List.length hd;rw[W0,zD]at this;exact this
 refine⟨?_,zhu ho.st hs,by rw[zhN,ho.ds,hd,zyJ],λa m=>(zzJ.mp m).elim (ho.al a) (hk a),by rw[zzG,zzG,ho.ln,hlp]⟩
 have e1:zR fi cap g yI fe as=some (.ow (.nd .ls ps),as):=zbP hi (szs (by omega)) hc
 unfold yQ xQ
 rw[h]
 show(((dC (zR fi cap g yI fe) dN as).bind _).bind _)=_
 unfold dC
 rw[e1]
 show((match as[i]? with|some (some (.nd .ls os))=>(zlj os [.nd .ls ps]).bind λz=>some (RV.ow z.2,as.set i (sN z.1))|_=>none).bind _)=_
 rw[h]
 show(((if os.length+ps.length<=sizeLine then some (os++ps,O.lf true .non)else none:Option (List O×O)).bind _).bind _)=_
 rw[if_pos (szs (by rw[ho.ln,hlp];omega))];rfl
section
variable{n m:Nat}{J:TZ}{e:Int}{Ds:DZ}{S:SS}{v:Int}
theorem zsv{x:Int}(A:Alg n m J e Ds)(h:InR n x)(hv:InR n v):stp (zc n m J e Ds S) (sL x) v=jAt J x v:=by
 have k:yr [(true,zc n m J e Ds S),(true,sL x),(true,.int v)]=sI (jAt J x v):=Z7 rfl (v9 (wU (zM (yG (c:=true) (yR (za (i:=1) rfl) zb rfl) zb eqS) rfl) (ZM (zgN A.j h hv (yR (za (i:=0) rfl) zb rfl) (yR (za (i:=1) rfl) zb rfl) (za (i:=2) rfl)))))
 unfold stp;rw[k]
theorem zsD{x:Int}(A:Alg n m J e Ds)(h:InR n x)(hv:InR n v):stp (zc n m J e Ds S) (sR x) v=jAt J v x:=by
 have k:yr [(true,zc n m J e Ds S),(true,sR x),(true,.int v)]=sI (jAt J v x):=Z7 rfl (zT (zY (zM (yG (c:=false) (yR (za (i:=1) rfl) zb rfl) zb rfl) rfl) rfl) (v9 (wU (zM (yG (c:=true) (yR (za (i:=1) rfl) zb rfl) zb eqS) rfl) (ZM (zgN A.j hv h (yR (za (i:=0) rfl) zb rfl) (za (i:=2) rfl) (yR (za (i:=1) rfl) zb rfl))))))
 unfold stp;rw[k]
theorem zrF{p:Str×TZ}{c:Int}(A:Alg n m J e Ds)(hp:p ∈ Ds)(h:InR m c)(hv:InR n v):stp (zc n m J e Ds S) (sD p.1 c) v=dAt p c v:=by
 obtain⟨t1,t2⟩:=Wy (A.ds p hp) h
 have k:yr [(true,zc n m J e Ds S),(true,sD p.1 c),(true,.int v)]=sI (dAt p c v):=Z7 rfl (zT (zY (zM (yG (c:=false) (yR (za (i:=1) rfl) zb rfl) zb rfl) rfl) rfl) (zT (zY (zM (yG (c:=false) (yR (za (i:=1) rfl) zb rfl) zb rfl) rfl) rfl) (v9 (xX (zde (yR (za (i:=0) rfl) zb rfl)) (zcB (A.ds p hp) h hv Ds none none hp A.nd)))))
 have:=(Xg (S:=S) A (.d hp h) hv).2
 rw[k]at this
 have:=zzW this
 injection this with _ h2
 injection h2 with h3
 exact h3.symm
structure Gd(n m:Nat)(J:TZ)(e:Int)(Ds:DZ)(S:SS)(q:D×List Int):Prop where
 s:Stp n m Ds q.1
 r:Row n q.2
 at_:∀v,InR n v->rAt q.2 v=stp (zc n m J e Ds S) q.1 v
abbrev tR(T:TZ)(x:Int):List Int:=(T[x.toNat]?).getD []
abbrev col(J:TZ)(x:Int):List Int:=J.map λr=>rAt r x
theorem zsU{x:Int}(A:Alg n m J e Ds)(h:InR n x):Gd n m J e Ds S (sL x,tR J x):=⟨.l h,(Wy A.j h).2,λv hv=>(zsv A h hv).symm⟩
theorem ztk{x:Int}(A:Alg n m J e Ds)(h:InR n x):Gd n m J e Ds S (sR x,col J x):=by
 refine⟨.r h,⟨by rw[zD];exact A.j.1,λy my=>?_⟩,λv hv=>?_⟩
 · obtain⟨r,mr,rfl⟩:=zyZ.mp my
   exact(Vk (A.j.2 r mr) h).2
 · rw[zsD A h hv]
   have hk:v.toNat<J.length:=by have:=hv.1;have:=hv.2;have:=A.j.1;omega
   unfold jAt
   rw[zzB hk]
   show rAt (J.map λr=>rAt r x) v=rAt J[v.toNat] x
   conv=>lhs;unfold rAt
   rw[zzF,zzB hk];rfl
theorem zsE{p:Str×TZ}{i:Nat}{r:List Int}(A:Alg n m J e Ds)(hp:p ∈ Ds)(h:p.2[i]? = some r):Gd n m J e Ds S (sD p.1 i,r):=by
 have hT:=A.ds p hp
 have hi:i<m:=by have:=(zzD.mp h).1;rw[hT.1]at this;exact this
 have hc:InR m (i:Int):=⟨by omega,by omega⟩
 refine⟨.d hp hc,hT.2 r (zzX h),λv hv=>?_⟩
 rw[zrF A hp hc hv]
 show _=rAt ((p.2[((i:Nat):Int).toNat]?).getD []) v
 rw[zyF,h];rfl
abbrev asB:SF:=(yQ (xQ 3 (dC (zR (znA vC) [none,none,some 4] (gT 2 (gsC yO (gsC (gN 1) gsN))) yI (yw (dC (yw (dC (fC (.str "deed")) (dC zL (dC zx dN)))) (dC zA dN)))) dN) zlj))
theorem zka:∀(T:TZ) (k:Nat),zav true k (T.map zH)=((List.range' k T.length).zip T).map λq=>(true,D.tup [.int (q.1:Int),zH q.2])
 | [],_=>rfl
 |r::T,k=>by
  show(true,D.tup [.int (k:Int),zH r])::zav true (k+1) (T.map zH)=_
  rw[zka T (k+1)];rfl
theorem zmg(A:Alg n m J e Ds){p:Str×TZ}(hp:p ∈ Ds){B C L:Option O}{os:List O}{l:List (D×List Int)}(ho:Ows stD (Gd n m J e Ds S) os l)(hl:l.length+6<=1000):
 ∃ps k,asB [B,C,L,sN os,sT (.str p.1),sT (zP p.2)]=some (.nx [B,C,L,sN (os++ps),sT (.str p.1),sT (zP p.2)])/\Ows stD (Gd n m J e Ds S) (os++ps) (l++k)/\k.length=m/\∀c,InR m c->∃r,(sD p.1 c,r) ∈ k:=by
 have hT:=A.ds p hp
 have m6:=A.m6
 have hz:∀q ∈ (List.range' 0 p.2.length).zip p.2,p.2[q.1]? = some q.2:=λq hq=>by
  obtain⟨i,hi⟩:=List.mem_iff_getElem?.mp hq
  obtain⟨h1,h2⟩:=List.getElem?_zip_eq_some.mp hi
  have:=(zzD.mp h1)
  obtain⟨h3,h4⟩:=this
  rw[List.getElem_range']at h4
  rw[<-h4];simpa using h2
 obtain⟨ps,c1,c2,c3⟩:=zcm (gg:=gT 2 (gsC yO (gsC (gN 1) gsN))) (fe:=yw (dC (yw (dC (fC (.str "deed")) (dC zL (dC zx dN)))) (dC zA dN))) (it:=λq:Nat×List Int=>(true,D.tup [.int (q.1:Int),zH q.2])) (h:=λq=>stD (sD p.1 (q.1:Int),q.2)) (as0:=[none,none,sT (.str p.1)]) ((List.range' 0 p.2.length).zip p.2) λq hq=>⟨[sI q.1,sT (zH q.2),sT (.str p.1)],rfl,Y8 (zkO (os:=[.lf true (.str "deed"),.lf true (.str p.1),lfI q.1]) (zm zb (zm (za (i:=2) rfl) (zm (za (i:=0) rfl) yd))) (szl rfl) rfl rfl) (WD.e (za (i:=1) rfl))⟩
 have hi:znA vC [B,C,L,sN os,sT (.str p.1),sT (zP p.2)]=some (((List.range' 0 p.2.length).zip p.2).map λq=>(true,D.tup [.int (q.1:Int),zH q.2]),[B,C,L,sN os,sT (.str p.1),sT (zP p.2)]):=by
  rw[<-zka];rfl
 have zl:((List.range' 0 p.2.length).zip p.2).length=m:=by rw[List.length_zip,List.length_range',Nat.min_self];exact hT.1
 obtain⟨x1,x2⟩:=zsM (i:=3) (cap:=[none,none,some 4]) (k:=((List.range' 0 p.2.length).zip p.2).map λq=>(sD p.1 (q.1:Int),q.2)) rfl ho hi (by rw[zD,zl];omega) c1 c2 (by rw[c3,zzY];rfl) (λa ma=>by
  obtain⟨q,mq,rfl⟩:=zyZ.mp ma
  exact zsE A hp (hz q mq)) (by rw[zD,zl];omega)
 refine⟨ps,_,x1,x2,by rw[zD,zl],λc hc=>?_⟩
 have hk:c.toNat<p.2.length:=by have:=hc.1;have:=hc.2;have:=hT.1;omega
 refine⟨p.2[c.toNat],zyZ.mpr ⟨(c.toNat,p.2[c.toNat]), ?_,by rw[show((c.toNat:Nat):Int)=c by have:=hc.1;omega]⟩⟩
 refine List.mem_iff_getElem?.mpr ⟨c.toNat,List.getElem?_zip_eq_some.mpr ⟨?_,zzB hk⟩⟩
 rw[List.getElem?_range' hk];simp
end
section
variable{n m:Nat}{J:TZ}{e:Int}{Ds:DZ}{S:SS}{v:Int}
theorem zig:(yZ n).length=n:=by rw[zD,zyR]
theorem zgP(A:Alg n m J e Ds):∃sts:List (D×List Int),sts.length<=60/\(∀q ∈ sts,Gd n m J e Ds S q)/\(∀d,Stp n m Ds d->∃r,(d,r) ∈ sts)/\RE (Ze [(true,zc n m J e Ds S)]) (.lst (sts.map stD)):=by
 have n8:=A.n8
 have m6:=A.m6
 have dl:=A.dl
 have s1:zO true 1 (f2 zx yX ixP) [sT (zc n m J e Ds S),none,none,none,none,none]=some (.nx [sT (zc n m J e Ds S),sT (zP J),none,none,none,none]):=xF (i:=1) (yR (za (i:=0) rfl) zb rfl) (zB rfl)
 have w2:WE (fP (aC (f2 zx yt ixP) aN) lrP) [sT (zc n m J e Ds S),sT (zP J),none,none,none,none] (zH (yZ n)):=⟨_,zjs (x:=.int n) (g:=lrP) (zs:=(yZ n).map D.int) (WD.e (yR (za (i:=0) rfl) zb rfl)) (by
  show(if(0:Int)<=n/\(n:Int)<=100000 then _ else _)=_
  rw[if_pos ⟨by omega,by omega⟩,zzY];rfl),zbt _,congrArg D.lst (zbz _)⟩
 have s2:=Zg (p:=2) w2 (zB rfl)
 have ib:∀e3 e4 e5,Zh zL [sT (zc n m J e Ds S),sT (zP J),sT (zH (yZ n)),e3,e4,e5]=some ((yZ n).map λx=>(true,D.int x),[sT (zc n m J e Ds S),sT (zP J),sT (zH (yZ n)),e3,e4,e5]):=λ_ _ _=>zjD (g:=D.int) (WD.e (za (i:=2) rfl))
 have wl:=Xd (as:=[sT (zc n m J e Ds S),sT (zP J),sT (zH (yZ n)),none,none,none]) (h:=λx=>stD (sL x,tR J x)) (it:=λx:Int=>(true,D.int x)) (cap:=[none,some 1]) (gg:=gN 0) (fe:=yw (dC (yw (dC (fC (.str "left")) (dC zx dN))) (dC (f2 zA zx ixP) dN))) (yZ n) (ib none none none) (by rw[zig];omega) λx mx=>⟨[sI x,sT (zP J)],rfl,Y8 (Y8 (WD.e zb) (WD.e (za (i:=0) rfl))) (WD.e (yR (za (i:=1) rfl) (za (i:=0) rfl) (Wy A.j (W6 mx)).1))⟩
 have wr:=Xd (as:=[sT (zc n m J e Ds S),sT (zP J),sT (zH (yZ n)),none,none,none]) (h:=λx=>stD (sR x,col J x)) (it:=λx:Int=>(true,D.int x)) (cap:=[none,some 1]) (gg:=gN 0) (fe:=yw (dC (yw (dC (fC (.str "right")) (dC zx dN))) (dC (zR (Zh zA) [none,some 0] yO yI (f2 zx zA ixP)) dN))) (yZ n) (ib none none none) (by rw[zig];omega) λx mx=>⟨[sI x,sT (zP J)],rfl,by
  have wc:=Xd (as:=[sI x,sT (zP J)]) (h:=λr=>D.int (rAt r x)) (it:=λr:List Int=>(true,zH r)) (cap:=[none,some 0]) (gg:=gN 0) (fe:=f2 zx zA ixP) (fi:=Zh zA) J (zjD (g:=zH) (WD.e (za (i:=1) rfl))) (by rw[A.j.1];omega) λr mr=>⟨[sT (zH r),sI x],rfl,WD.e (zr (za (i:=0) rfl) (za (i:=1) rfl) (Vk (A.j.2 r mr) (W6 mx)).1 rfl)⟩
  have ec:(J.map λr=>D.int (rAt r x))=(col J x).map D.int:=by rw[zzY];rfl
  rw[ec]at wc
  exact Y8 (Y8 (WD.e zb) (WD.e (za (i:=0) rfl))) wc⟩
 have s3:=xx (i:=3) (ztj wl wr (szs (by simp only[zD,zyR];omega))) (zB rfl)
 have l0:Ows stD (Gd n m J e Ds S) ((((yZ n).map λx=>stD (sL x,tR J x))++((yZ n).map λx=>stD (sR x,col J x))).map (O.lf true)) (((yZ n).map λx=>(sL x,tR J x))++((yZ n).map λx=>(sR x,col J x))):=by
  refine⟨zbt _, ?_,λq mq=>?_, ?_⟩
  · rw[zbz]
    simp only[zyJ,zzY]
    rfl
  · rcases zzJ.mp mq with h|h
    · obtain⟨x,mx,rfl⟩:=zyZ.mp h
      exact zsU A (W6 mx)
    · obtain⟨x,mx,rfl⟩:=zyZ.mp h
      exact ztk A (W6 mx)
  · simp only[zD,zzG]
 obtain⟨as',hf,os,l,e4,e5,rfl,ho,hl,hx,hd⟩:=xO (g:=gT 2 (gsC Xz (gsC (gN 5) gsN))) (f:=asB)
  (λi as=>∃(os:List O) (l:List (D×List Int)) (e4 e5:Option O),as=[sT (zc n m J e Ds S),sT (zP J),sT (zH (yZ n)),sN os,e4,e5]/\Ows stD (Gd n m J e Ds S) os l/\l.length<=16+6*i/\(∀x,InR n x->(∃r,(sL x,r) ∈ l)/\∃r,(sR x,r) ∈ l)/\∀p ∈ Ds.take i,∀c,InR m c->∃r,(sD p.1 c,r) ∈ l)
  ((Ds.map xT).map λd=>(true,d)) 0 [sT (zc n m J e Ds S),sT (zP J),sT (zH (yZ n)),sN ((((yZ n).map λx=>stD (sL x,tR J x))++((yZ n).map λx=>stD (sR x,col J x))).map (O.lf true)),none,none] (λi x as hx' hI=>by
    obtain⟨os,l,e4,e5,rfl,ho,hl,hx,hd⟩:=hI
    rw[zzY,zzF]at hx'
    obtain⟨p,hp,rfl⟩:=zzU.mp hx'
    have hi:i<Ds.length:=(zzD.mp hp).1
    have mp:=zzX hp
    rw[zyU]at hl hd ⊢
    obtain⟨ps,k,x1,x2,x3,x4⟩:=zmg A mp (B:=sT (zc n m J e Ds S)) (C:=sT (zP J)) (L:=sT (zH (yZ n))) ho (by omega)
    refine⟨[sT (zc n m J e Ds S),sT (zP J),sT (zH (yZ n)),sN os,sT (.str p.1),sT (zP p.2)],rfl,_,x1,_,_,_,_,rfl,x2,by rw[zzG,x3];omega,λx hxx=>?_,λq mq c hc=>?_⟩
    · obtain⟨⟨r,h1⟩,r',h2⟩:=hx x hxx
      exact⟨⟨r,zzM _ h1⟩,r',zzM _ h2⟩
    · rw[List.take_succ,hp]at mq
      rcases zzJ.mp mq with h|h
      · obtain⟨r,h1⟩:=hd q h c hc
        exact⟨r,zzM _ h1⟩
      · have:q=p:=by simpa using h
        subst this
        obtain⟨r,h1⟩:=x4 c hc
        exact⟨r,zzI _ h1⟩)
  ⟨_,_,none,none,rfl,l0,by simp only[zD,zzG,zyR];omega,λx hx=>⟨⟨_,zzM _ (zyZ.mpr ⟨x,zba hx,rfl⟩)⟩,_,zzI _ (zyZ.mpr ⟨x,zba hx,rfl⟩)⟩,λp hp=>by simp at hp⟩
 rw[zD,zD,zyU]at hl hd
 rw[List.take_length]at hd
 refine⟨l,by omega,ho.al,λd hs=>?_,xW rfl (zp s1 (zp s2 (zp s3 (zp (xX (zde (yR (za (i:=0) rfl) zb rfl)) hf) (Ows.retB (i:=3) rfl ho)))))⟩
 cases hs with
 |l h=>exact(hx _ h).1
 |r h=>exact(hx _ h).2
 |d hp h=>exact hd _ hp _ h
end
abbrev pD(p:Int×Int):D:=.tup [.int p.1,.int p.2]
abbrev kP(p:Int×Int):List Key:=[.inl p.1,.inl p.2]
theorem zmO(ds:List D):(ds.map (O.lf true)).all O.isLf=true:=by
 rw[List.all_eq_true]
 intro x mx
 obtain⟨d,_,rfl⟩:=zyZ.mp mx
 rfl
theorem zps{k:PF.Kind}(ds:List D):(O.nd k (ds.map (O.lf true))).kl=some true:=by
 show(if(ds.map (O.lf true)).all O.isLf=true then some (O.strs (ds.map (O.lf true)))else none)=_
 rw[if_pos (zmO ds),zbt]
theorem zlC{as:AS}{i:Nat}{b:EF}{g:D->D->Option R0}{k:PF.Kind}{ds:List D}{X y z:D}(h:as[i]? = some (some (.nd k (ds.map (O.lf true)))))(hX:(O.nd k (ds.map (O.lf true))).toD=X)(hb:WD b as true y)(hg:g X y=some (.im z)):WE (f2 (fV i) b g) as z:=by
 have e2:RV.view as (.bo i)=some (X,some true):=by rw[V7 h,zps,hX]
 refine⟨.lf (yc z||true) z, ?_,zyA _,rfl⟩
 unfold WD at hb
 unfold f2
 simp only[zas h,hb,zyI,RV.frz,e2]
 show((g X y).bind _)=_
 rw[hg]
 show((if(yc z||true)=true then some (RV.ow (lfs true z))else none:Option RV).bind _)=_
 rw[if_pos (zyA _)];rfl
theorem zlW{as:AS}{i:Nat}{a:EF}{g:D->D->Option R0}{k:PF.Kind}{os:List O}{X x:D}{c s:Bool}(ha:WD a as s x)(h:as[i]? = some (some (.nd k os)))(hX:(O.nd k os).toD=X)(hg:g x X=some (.im (.bl c))):WD (f2 a (fV i) g) as true (.bl c):=by
 have e2:RV.view as (.bo i)=some (X,(O.nd k os).kl):=by rw[V7 h,hX]
 unfold WD at ha ⊢
 unfold f2
 simp only[zas h,ha,zyI,RV.frz,e2]
 show((g x X).bind _)=_
 rw[hg];rfl
theorem zgM{p q:Int×Int}(h:kP p=kP q):p=q:=by
 obtain⟨a,b⟩:=p
 obtain⟨c,d⟩:=q
 have h1:=(List.cons.inj h).1
 have h2:=(List.cons.inj (List.cons.inj h).2).1
 have e1:a=c:=Sum.inl.inj h1
 have e2:b=d:=Sum.inl.inj h2
 rw[e1,e2]
theorem zke{p:Int×Int}:∀{ps:List (Int×Int)}{fs:List D},ps.length=fs.length->p ∈ ps->∃x ∈ fs,zeL (ps.map kP) fs (kP p)=some x
 | [],_,_,h=>nomatch h
 |q::ps,[],h,_=>by simp at h
 |q::ps,f::fs,hl,h=>by
  unfold zeL
  rw[zyP,List.zip_cons_cons]
  by_cases e:q=p
  · rw[List.find?_cons_of_pos (by simp[e])];exact⟨f,zzC ..,rfl⟩
  · rw[List.find?_cons_of_neg (by simpa using λz:kP q=kP p=>e (zgM z))]
    obtain⟨x,mx,hx⟩:=zke (ps:=ps) (fs:=fs) (by simpa using hl) ((zI.mp h).resolve_left λz=>e z.symm)
    exact⟨x,zzA _ mx,hx⟩
theorem zic{p:Int×Int}:∀{ps:List (Int×Int)}{fs:List D},p ∉ ps->zeL (ps.map kP) fs (kP p)=none
 | [],_,_=>rfl
 |q::ps,[],_=>rfl
 |q::ps,f::fs,h=>by
  unfold zeL
  rw[zyP,List.zip_cons_cons,List.find?_cons_of_neg (by simpa using λz:kP q=kP p=>h (by rw[<-zgM z];exact zzC ..))]
  exact zic (ps:=ps) (fs:=fs) λz=>h (zzA _ z)
theorem zrW{p:Int×Int}{ps:List (Int×Int)}{fs:List D}(hl:ps.length=fs.length):inP (pD p) (.dt (ps.map kP) fs)=some (decide (p ∈ ps)):=by
 show some (zeL (ps.map kP) fs (kP p)).isSome=_
 by_cases h:p ∈ ps
 · obtain⟨x,_,hx⟩:=zke hl h
   rw[hx,zyL h];rfl
 · rw[zic h,zyD h];rfl
abbrev lP(ps:List (Int×Int)):Option O:=sN ((ps.map pD).map (O.lf true))
abbrev fO(l:List D):O:=.nd .ls (l.map (O.lf true))
abbrev dP(ps:List (Int×Int))(fs:List (List D)):Option O:=some (.nd (.dt (ps.map kP)) (fs.map fO))
theorem zgR(ds:List D):(O.nd .ls (ds.map (O.lf true))).toD = .lst ds:=by
 show D.lst (O.toDs (ds.map (O.lf true)))=_
 rw[zbz]
theorem zjO:∀fs:List (List D),O.toDs (fs.map fO)=fs.map D.lst
 | []=>rfl
 |l::fs=>by
  show(fO l).toD::O.toDs (fs.map fO)=_
  rw[zgR,zjO fs];rfl
theorem zqC{ks:List (List Key)}(fs:List (List D)):(O.nd (.dt ks) (fs.map fO)).toD = .dt ks (fs.map D.lst):=by
 show D.dt ks (O.toDs (fs.map fO))=_
 rw[zjO]
theorem zgu{p:Int×Int}{l:List D}:∀{ps:List (Int×Int)}{fs:List (List D)}{k:Nat},ps.Nodup->ps[k]? = some p->fs[k]? = some l->zaR (ps.map kP) (fs.map fO) (kP p)=some (fO l)
 | [],_,_,_,h,_=>by simp at h
 |q::ps,[],_,_,_,h=>by simp at h
 |q::ps,f::fs,0,nd,h,h'=>by
  have e1:q=p:=zzW h
  have e2:f=l:=zzW h'
  subst e1 e2
  unfold zaR
  rw[zyP,zyP,List.zip_cons_cons,List.find?_cons_of_pos (by simp)];rfl
 |q::ps,f::fs,k+1,nd,h,h'=>by
  have h1:ps[k]? = some p:=h
  have h2:fs[k]? = some l:=h'
  have nq:q≠p:=λz=>(zzT.mp nd).1 (z ▸ zzX h1)
  have ih:=zgu (zzT.mp nd).2 h1 h2
  unfold zaR at ih ⊢
  rw[zyP,zyP,List.zip_cons_cons,List.find?_cons_of_neg (by simpa using λz:kP q=kP p=>nq (zgM z))]
  exact ih
theorem zoe{p:Int×Int}{ps:List (Int×Int)}(h:p ∉ ps):zhh (ps.map kP) (kP p)=false:=by
 unfold zhh
 rw[List.any_eq_false]
 intro k mk
 obtain⟨q,mq,rfl⟩:=zyZ.mp mk
 simpa using λz:kP q=kP p=>h (by rw[<-zgM z];exact mq)
theorem zoX{as:AS}{p c:Int×Int}{d:D}{l:List D}{ps:List (Int×Int)}{fs:List (List D)}{k:Nat}(h5:as[5]? = some (dP ps fs))(h11:as[11]? = some (sT (pD c)))(h7:as[7]? = some (sT (pD p)))(h9:as[9]? = some (sT d))(nd:ps.Nodup)(hp:ps[k]? = some p)(hf:fs[k]? = some l)(hn:c ∉ ps)(hl:ps.length<=1000)(hll:l.length<=1000):
 zih 5 11 7 9 as=some (.nx (as.set 5 (dP (ps++[c]) (fs++[l++[d]])))):=by
 have e1:zdx (pD c)=some (kP c):=rfl
 have e2:zdx (pD p)=some (kP p):=rfl
 unfold zih
 rw[h5,h11,h7,h9]
 show((zdx (pD c)).bind λkc=>(zdx (pD p)).bind λkp=>(zaR (ps.map kP) (fs.map fO) kp).bind λo=>(lsO o).bind λes=>if(ps.map kP).length<sizeLine/\zhh (ps.map kP) kc=false/\es.length<sizeLine/\es.all O.isLf=true then some (Out.nx (as.set 5 (some (.nd (.dt (ps.map kP++[kc])) (fs.map fO++[.nd .ls (es++[.lf true d])])))))else none)=_
 rw[e1,e2]
 show((zaR (ps.map kP) (fs.map fO) (kP p)).bind λo=>(lsO o).bind λes=>if(ps.map kP).length<sizeLine/\zhh (ps.map kP) (kP c)=false/\es.length<sizeLine/\es.all O.isLf=true then some (Out.nx (as.set 5 (some (.nd (.dt (ps.map kP++[kP c])) (fs.map fO++[.nd .ls (es++[.lf true d])])))))else none)=_
 rw[zgu nd hp hf]
 show(if(ps.map kP).length<sizeLine/\zhh (ps.map kP) (kP c)=false/\(l.map (O.lf true)).length<sizeLine/\(l.map (O.lf true)).all O.isLf=true then some (Out.nx (as.set 5 (some (.nd (.dt (ps.map kP++[kP c])) (fs.map fO++[.nd .ls (l.map (O.lf true)++[.lf true d])])))))else none)=_
 rw[if_pos ⟨by rw[zD];exact Nat.lt_of_le_of_lt hl (by decide),zoe hn,by rw[zD];exact Nat.lt_of_le_of_lt hll (by decide),zmO l⟩]
 simp only[dP,fO,zyJ,zyP,List.map_nil]
theorem znF{as:AS}{p:Int×Int}{l:List D}{ps:List (Int×Int)}{fs:List (List D)}{k:Nat}(h5:as[5]? = some (dP ps fs))(h7:as[7]? = some (sT (pD p)))(nd:ps.Nodup)(hp:ps[k]? = some p)(hf:fs[k]? = some l):zkP 5 7 as=some (.ow (fO l),as.set 5 none):=by
 have e2:zdx (pD p)=some (kP p):=rfl
 unfold zkP
 rw[h5,h7]
 show((zdx (pD p)).bind λkp=>(zaR (ps.map kP) (fs.map fO) kp).bind λo=>some (RV.ow o,as.set 5 none))=_
 rw[e2]
 show((zaR (ps.map kP) (fs.map fO) (kP p)).bind λo=>some (RV.ow o,as.set 5 none))=_
 rw[zgu nd hp hf];rfl
theorem zlG{n:Nat}{ps:List (Int×Int)}(nd:ps.Nodup)(h:∀p ∈ ps,InR n p.1/\InR n p.2):ps.length<=n*n:=by
 have hs:ps ⊆ (List.range (n*n)).map λk=>(((k/n:Nat):Int),((k%n:Nat):Int)):=λp mp=>by
  obtain⟨h1,h2⟩:=h p mp
  have a:=h1.1
  have b:=h1.2
  have c:=h2.1
  have d:=h2.2
  have hn:0<n:=by omega
  refine zyZ.mpr ⟨p.1.toNat*n+p.2.toNat,List.mem_range.mpr ?_, ?_⟩
  · calc p.1.toNat*n+p.2.toNat<p.1.toNat*n+n:=by omega
     _=(p.1.toNat+1)*n:=by rw[Nat.add_mul,Nat.one_mul]
     _<=n*n:=Nat.mul_le_mul_right _ (by omega)
  · have e1:(p.1.toNat*n+p.2.toNat)/n=p.1.toNat:=by
     rw[Nat.mul_comm,Nat.mul_add_div hn,Nat.div_eq_of_lt (by omega)];rfl
    have e2:(p.1.toNat*n+p.2.toNat)%n=p.2.toNat:=by
     rw[Nat.mul_comm,Nat.mul_add_mod,Nat.mod_eq_of_lt (by omega)]
    rw[e1,e2]
    exact Prod.ext (by show((p.1.toNat:Nat):Int)=p.1;omega) (by show((p.2.toNat:Nat):Int)=p.2;omega)
 have:=nd.length_le_of_subset hs
 rwa [zD,zyR]at this
abbrev T12(A:D)(a b:Int)(sts:List (D×List Int))(ps:List (Int×Int))(fs:List (List D))(i:Nat)(e7 e8 e9 e10 e11:Option O):AS:=
 [sT A,sI a,sI b,sT (.lst (sts.map stD)),lP ps,dP ps fs,sI i,e7,e8,e9,e10,e11]
abbrev taF:SF:=(zE (zO true 11 (yw (dC (f2 (fV 10) (f2 vh yt ixP) ixP) (dC (f2 (fV 10) (f2 vh zZ ixP) ixP) dN))))
 (sIf (fT (f2 wu vC (zQ .NotIn))) (zE (zih 5 11 7 9)
 (yQ (xQ 4 (dC wu dN) xY))) sNx))
abbrev taB:SF:=(zE (zO true 7 (f2 yK xu ixP))
 (zE (zO true 8 (zK (aC zx (aC (f2 vh yt ixP) (aC (f2 vh zZ ixP) aN))) xN))
 (zE (sIf (fT (f2 (fV 8) (fC .non) (zQ .IsNot))) (yP (yw (dC (fC (.str "frame")) (dC (zkP 5 7) (dC (fV 8) dN))))) sNx)
 (zE (v4 (Wo yD) (gT 2 (gsC (gN 9) (gsC (gN 10) gsN))) taF)
 (zlo 6 1)))))
abbrev taT:TF:=fT (f2 xu (fP (aC yK aN) Yk) (zQ .Lt))
theorem zqX{p:Int×Int}{ps:List (Int×Int)}{fs:List D}(hl:ps.length=fs.length):zQ .NotIn (pD p) (.dt (ps.map kP) fs)=some (.im (.bl (!decide (p ∈ ps)))):=by
 unfold zQ
 simp only[zrW hl]
 rfl
theorem zpn{A:D}{a b:Int}{sts:List (D×List Int)}{ps:List (Int×Int)}{fs:List (List D)}{i:Nat}{e7 e8 e9 e10 e11:Option O}(q:D×List Int):gT 2 (gsC (gN 9) (gsC (gN 10) gsN)) (true,stD q) (T12 A a b sts ps fs i e7 e8 e9 e10 e11)=some (T12 A a b sts ps fs i e7 e8 (sT q.1) (sT (zH q.2)) e11):=by
 have k:kids true [q.1,zH q.2]=[(true,q.1),(true,zH q.2)]:=by
  show[(yc q.1||true,q.1),(yc (zH q.2)||true,zH q.2)]=_
  rw[zyA,zyA]
 unfold gT
 simp only[stD,k]
 rfl
theorem ZC{α:Type}{l:List α}{x y:α}{k:Nat}(h:(l++[x])[k]? = some y):l[k]? = some y\/(k=l.length/\y=x):=by
 have hk:=(zzD.mp h).1
 rw[zzG]at hk
 have hk:k<l.length+1:=hk
 by_cases e:k<l.length
 · rw[zyM e]at h;exact .inl h
 · have:k=l.length:=by omega
   subst this
   rw[zyO (zzK _),Nat.sub_self]at h
   exact .inr ⟨rfl,(zzW h).symm⟩
theorem Zm{α:Type}{l m:List α}{y:α}{k:Nat}(h:l[k]? = some y):(l++m)[k]? = some y:=by
 rw[zyM (zzD.mp h).1];exact h
section
variable{n m:Nat}{J:TZ}{e:Int}{Ds:DZ}{S:SS}{a b:Int}{sts:List (D×List Int)}
structure Bf(n m:Nat)(J:TZ)(e:Int)(Ds:DZ)(S:SS)(a b:Int)(ps:List (Int×Int))(fs:List (List D)):Prop where
 nd:ps.Nodup
 fl:ps.length=fs.length
 a0:ps[0]? = some (a,b)
 f0:fs[0]? = some []
 re:∀(k:Nat) (p:Int×Int) (l:List D),ps[k]? = some p->fs[k]? = some l->(∀d ∈ l,Stp n m Ds d)/\p=(frm (zc n m J e Ds S) l a,frm (zc n m J e Ds S) l b)
 so:∀(j k:Nat) (l l':List D),j<=k->fs[j]? = some l->fs[k]? = some l'->l.length<=l'.length
 fr:∀l:List D,l ∈ fs->l.length<ps.length
abbrev Wi(fs:List (List D))(i:Nat):Prop:=∀(k:Nat) (l l':List D),fs[k]? = some l->fs[i]? = some l'->l.length<=l'.length+1
theorem Bf.get{ps:List (Int×Int)}{fs:List (List D)}(h:Bf n m J e Ds S a b ps fs){k:Nat}{p:Int×Int}(hp:ps[k]? = some p):∃l,fs[k]? = some l:=by
 have:=(zzD.mp hp).1
 rw[h.fl]at this
 exact⟨_,zzB this⟩
theorem Bf.inn{ps:List (Int×Int)}{fs:List (List D)}(A:Alg n m J e Ds)(ha:InR n a)(hb:InR n b)(h:Bf n m J e Ds S a b ps fs){p:Int×Int}(mp:p ∈ ps):InR n p.1/\InR n p.2:=by
 obtain⟨k,hk⟩:=List.mem_iff_getElem?.mp mp
 obtain⟨l,hl⟩:=h.get hk
 obtain⟨h1,h2⟩:=h.re k p l hk hl
 rw[h2]
 exact⟨ziW A l a h1 ha,ziW A l b h1 hb⟩
theorem Bf.le{ps:List (Int×Int)}{fs:List (List D)}(A:Alg n m J e Ds)(ha:InR n a)(hb:InR n b)(h:Bf n m J e Ds S a b ps fs):ps.length<=64:=
 zzL (zlG h.nd λp mp=>h.inn A ha hb mp) (zzL (Nat.mul_le_mul A.n8 A.n8) (by decide))
theorem Bf.add{ps:List (Int×Int)}{fs:List (List D)}{p:Int×Int}{d:D}{l:List D}{i:Nat}(h:Bf n m J e Ds S a b ps fs)(hp:ps[i]? = some p)(hf:fs[i]? = some l)(hw:Wi fs i)(hd:Stp n m Ds d)(hn:(stp (zc n m J e Ds S) d p.1,stp (zc n m J e Ds S) d p.2) ∉ ps):
 Bf n m J e Ds S a b (ps++[(stp (zc n m J e Ds S) d p.1,stp (zc n m J e Ds S) d p.2)]) (fs++[l++[d]])/\Wi (fs++[l++[d]]) i:=by
 have ll:(l++[d]).length=l.length+1:=by rw[zzG];rfl
 refine⟨⟨zxA.mpr ⟨h.nd,by simp,λx mx y my=>?_⟩,by rw[zzG,zzG,h.fl];rfl,Zm h.a0,Zm h.f0,λk q l' hq hl'=>?_,λj k l1 l2 hjk h1 h2=>?_,λx mx=>?_⟩,λk l1 l2 h1 h2=>?_⟩
 · rw[zzO.mp my];exact λz=>hn (z ▸ mx)
 · rcases ZC hq with k1|⟨k1,rfl⟩
   · rcases ZC hl' with k2|⟨k2,rfl⟩
     · exact h.re k q l' k1 k2
     · have:=(zzD.mp k1).1
       have:=h.fl
       omega
   · rcases ZC hl' with k2|⟨k2,rfl⟩
     · have:=(zzD.mp k2).1
       have:=h.fl
       omega
     · obtain⟨r1,ep⟩:=h.re i p l hp hf
       refine⟨λx mx=>(zzJ.mp mx).elim (r1 x) (λz=>zzO.mp z ▸ hd), ?_⟩
       show _=((l++[d]).foldl (λw d=>stp (zc n m J e Ds S) d w) a,(l++[d]).foldl (λw d=>stp (zc n m J e Ds S) d w) b)
       rw[List.foldl_append,List.foldl_append]
       have e1:p.1=frm (zc n m J e Ds S) l a:=congrArg Prod.fst ep
       have e2:p.2=frm (zc n m J e Ds S) l b:=congrArg Prod.snd ep
       rw[e1,e2];rfl
 · rcases ZC h1 with k1|⟨k1,rfl⟩
   · rcases ZC h2 with k2|⟨k2,rfl⟩
     · exact h.so j k l1 l2 hjk k1 k2
     · rw[ll];exact hw j l1 l k1 hf
   · rcases ZC h2 with k2|⟨k2,rfl⟩
     · have:=(zzD.mp k2).1
       omega
     · exact zzK _
 · rw[zzG]
   rcases zzJ.mp mx with k|k
   · exact zzH (h.fr x k) (Nat.le_add_right _ _)
   · rw[zzO.mp k,ll];exact Nat.add_lt_add_right (h.fr l (zzX hf)) 1
 · rw[Zm hf]at h2
   cases h2
   rcases ZC h1 with k1|⟨_,rfl⟩
   · exact hw k l1 l k1 hf
   · rw[ll];exact zzK _
theorem zji(A:Alg n m J e Ds)(ha:InR n a)(hb:InR n b){p:Int×Int}{l:List D}{i:Nat}{e8:Option O}:∀(t:List (D×List Int)) (ps:List (Int×Int)) (fs:List (List D)) (e9 e10 e11:Option O),(∀q ∈ t,Gd n m J e Ds S q)->Bf n m J e Ds S a b ps fs->Wi fs i->ps[i]? = some p->fs[i]? = some l->
 ∃ps' fs' e9' e10' e11',forL (gT 2 (gsC (gN 9) (gsC (gN 10) gsN))) taF ((t.map stD).map λd=>(true,d)) (T12 (zc n m J e Ds S) a b sts ps fs i (sT (pD p)) e8 e9 e10 e11)=some (.nx (T12 (zc n m J e Ds S) a b sts ps' fs' i (sT (pD p)) e8 e9' e10' e11'))/\Bf n m J e Ds S a b ps' fs'/\Wi fs' i/\(∃more,ps'=ps++more)/\(∃more,fs'=fs++more)/\∀q ∈ t,(stp (zc n m J e Ds S) q.1 p.1,stp (zc n m J e Ds S) q.1 p.2) ∈ ps'
 | [],ps,fs,e9,e10,e11,_,h,hw,_,_=>⟨ps,fs,e9,e10,e11,rfl,h,hw,⟨[],(zyB _).symm⟩,⟨[],(zyB _).symm⟩,λ_ m=>nomatch m⟩
 |q::t,ps,fs,e9,e10,e11,ht,h,hw,hp,hl=>by
  have gq:=ht q (zzC ..)
  have ht':∀q ∈ t,Gd n m J e Ds S q:=λx mx=>ht x (zzA _ mx)
  obtain⟨h1,h2⟩:=h.inn A ha hb (zzX hp)
  have a1:=gq.at_ p.1 h1
  have a2:=gq.at_ p.2 h2
  have le:=h.le A ha hb
  have w1:WD (f2 (fV 10) (f2 vh yt ixP) ixP) (T12 (zc n m J e Ds S) a b sts ps fs i (sT (pD p)) e8 (sT q.1) (sT (zH q.2)) e11) true (.int (stp (zc n m J e Ds S) q.1 p.1)):=by
   have:=zr (as:=T12 (zc n m J e Ds S) a b sts ps fs i (sT (pD p)) e8 (sT q.1) (sT (zH q.2)) e11) (za (i:=10) rfl) (zr (g:=ixP) (za (i:=7) rfl) (zb (x:=.int 0)) rfl rfl) (Vk gq.r h1).1 rfl
   rw[a1]at this
   exact this
  have w2:WD (f2 (fV 10) (f2 vh zZ ixP) ixP) (T12 (zc n m J e Ds S) a b sts ps fs i (sT (pD p)) e8 (sT q.1) (sT (zH q.2)) e11) true (.int (stp (zc n m J e Ds S) q.1 p.2)):=by
   have:=zr (as:=T12 (zc n m J e Ds S) a b sts ps fs i (sT (pD p)) e8 (sT q.1) (sT (zH q.2)) e11) (za (i:=10) rfl) (zr (g:=ixP) (za (i:=7) rfl) (zb (x:=.int 1)) rfl rfl) (Vk gq.r h2).1 rfl
   rw[a2]at this
   exact this
  have s11:=Zg (p:=11) (Y8 (WD.e w1) (WD.e w2)) (zB rfl)
  have tn:=zM (zlW (as:=T12 (zc n m J e Ds S) a b sts ps fs i (sT (pD p)) e8 (sT q.1) (sT (zH q.2)) (sT (pD (stp (zc n m J e Ds S) q.1 p.1,stp (zc n m J e Ds S) q.1 p.2)))) (i:=5) (g:=zQ .NotIn) (c:=!decide ((stp (zc n m J e Ds S) q.1 p.1,stp (zc n m J e Ds S) q.1 p.2) ∈ ps)) (za (i:=11) rfl) rfl (zqC fs) (zqX (by rw[zD];exact h.fl))) rfl
  by_cases hc:(stp (zc n m J e Ds S) q.1 p.1,stp (zc n m J e Ds S) q.1 p.2) ∈ ps
  · rw[zyL hc]at tn
    obtain⟨ps',fs',e9',e10',e11',hf,B',W',⟨more,em⟩,mf,hall⟩:=zji A ha hb t ps fs (sT q.1) (sT (zH q.2)) (sT (pD (stp (zc n m J e Ds S) q.1 p.1,stp (zc n m J e Ds S) q.1 p.2))) ht' h hw hp hl
    exact⟨ps',fs',e9',e10',e11',vN (as1:=T12 (zc n m J e Ds S) a b sts ps fs i (sT (pD p)) e8 (sT q.1) (sT (zH q.2)) e11) (zpn q) (zT s11 (zY tn rfl)) hf,B',W',⟨more,em⟩,mf,λx mx=>(zI.mp mx).elim (λz=>by rw[z,em];exact zzM _ hc) (hall x)⟩
  · rw[zyD hc]at tn
    have ll:=h.fr l (zzX hl)
    have sd:=zoX (as:=T12 (zc n m J e Ds S) a b sts ps fs i (sT (pD p)) e8 (sT q.1) (sT (zH q.2)) (sT (pD (stp (zc n m J e Ds S) q.1 p.1,stp (zc n m J e Ds S) q.1 p.2)))) (d:=q.1) rfl rfl rfl rfl h.nd hp hl hc (by omega) (by omega)
    have sa:=zeQ (as:=T12 (zc n m J e Ds S) a b sts ps fs i (sT (pD p)) e8 (sT q.1) (sT (zH q.2)) (sT (pD (stp (zc n m J e Ds S) q.1 p.1,stp (zc n m J e Ds S) q.1 p.2))) |>.set 5 (dP (ps++[(stp (zc n m J e Ds S) q.1 p.1,stp (zc n m J e Ds S) q.1 p.2)]) (fs++[l++[q.1]]))) (i:=4) (a:=fV 11) (os:=(ps.map pD).map (O.lf true)) rfl (by rw[zD,zD];exact Nat.lt_of_le_of_lt le (by decide)) (za (i:=11) rfl)
    obtain⟨B1,W1⟩:=h.add hp hl hw gq.s hc
    obtain⟨ps',fs',e9',e10',e11',hf,B',W',⟨more,em⟩,⟨mf,ef⟩,hall⟩:=zji A ha hb t _ _ (sT q.1) (sT (zH q.2)) (sT (pD (stp (zc n m J e Ds S) q.1 p.1,stp (zc n m J e Ds S) q.1 p.2))) ht' B1 W1 (Zm hp) (Zm hl)
    have el:(ps.map pD).map (O.lf true)++[O.lf true (pD (stp (zc n m J e Ds S) q.1 p.1,stp (zc n m J e Ds S) q.1 p.2))]=((ps++[(stp (zc n m J e Ds S) q.1 p.1,stp (zc n m J e Ds S) q.1 p.2)]).map pD).map (O.lf true):=by rw[zyJ,zyJ];rfl
    rw[el]at sa
    exact⟨ps',fs',e9',e10',e11',vN (as1:=T12 (zc n m J e Ds S) a b sts ps fs i (sT (pD p)) e8 (sT q.1) (sT (zH q.2)) e11) (zpn q) (zT s11 (wU tn (zT sd sa))) hf,B',W',⟨_::more,by rw[em,zyY];rfl⟩,⟨_::mf,by rw[ef,zyY];rfl⟩,λx mx=>(zI.mp mx).elim (λz=>by rw[z,em];exact zzM _ (zzI _ (zzO.mpr rfl))) (hall x)⟩
end
theorem zqc{as:AS}{i:Nat}{ds:List D}(h:as[i]? = some (sN (ds.map (O.lf true)))):WD (fP (aC (fV i) aN) Yk) as true (.int (ds.length:Nat)):=by
 have e:views as [.bo i]=some ([.lst ds],some true):=by
  show(RV.view as (.bo i)).bind _=_
  rw[V7 h,zps,zgR];rfl
 unfold WD fP aC
 rw[zas h]
 simp only[zyI,aN,RV.frz,e]
 rfl
section
variable{n m:Nat}{J:TZ}{e:Int}{Ds:DZ}{S:SS}{a b:Int}{sts:List (D×List Int)}
abbrev Dn(n m:Nat)(J:TZ)(e:Int)(Ds:DZ)(S:SS)(ps:List (Int×Int))(fs:List (List D))(i:Nat):Prop:=∀(k:Nat) (p:Int×Int) (l:List D),k<i->ps[k]? = some p->fs[k]? = some l->hld S p.1=hld S p.2/\∀d,Stp n m Ds d->∃(j:Nat) (l':List D),ps[j]? = some (stp (zc n m J e Ds S) d p.1,stp (zc n m J e Ds S) d p.2)/\fs[j]? = some l'/\l'.length<=l.length+1
theorem near{ps:List (Int×Int)}{fs:List (List D)}{i L:Nat}(h:Dn n m J e Ds S ps fs i)(H:∀(k:Nat) (l:List D),fs[k]? = some l->l.length<L->k<i):∀(r:List D) (k:Nat) (p:Int×Int) (l:List D),(∀d ∈ r,Stp n m Ds d)->ps[k]? = some p->fs[k]? = some l->l.length+r.length<=L->∃(j:Nat) (l':List D),ps[j]? = some (frm (zc n m J e Ds S) r p.1,frm (zc n m J e Ds S) r p.2)/\fs[j]? = some l'/\l'.length<=l.length+r.length
 | [],k,p,l,_,hp,hl,_=>⟨k,l,hp,hl,zzK _⟩
 |d::r,k,p,l,hr,hp,hl,hL=>by
  have hL:l.length+(r.length+1)<=L:=hL
  obtain⟨j,l',h1,h2,h3⟩:=(h k p l (H k l hl (by omega)) hp hl).2 d (hr d (zzC ..))
  obtain⟨j',l2,k1,k2,k3⟩:=near h H r j _ l' (λx mx=>hr x (zzA _ mx)) h1 h2 (by omega)
  exact⟨j',l2,k1,k2,by show l2.length<=l.length+(r.length+1);omega⟩
structure Tl(n m:Nat)(J:TZ)(e:Int)(Ds:DZ)(S:SS)(a b:Int)(l:List D)(s:Str):Prop where
 st:∀d ∈ l,Stp n m Ds d
 sg:∃q ∈ S,q.1=s/\decide (frm (zc n m J e Ds S) l a ∈ q.2)≠decide (frm (zc n m J e Ds S) l b ∈ q.2)
 ne:hld S (frm (zc n m J e Ds S) l a)≠hld S (frm (zc n m J e Ds S) l b)
 ls:∀r:List D,(∀d ∈ r,Stp n m Ds d)->hld S (frm (zc n m J e Ds S) r a)≠hld S (frm (zc n m J e Ds S) r b)->l.length<=r.length
 ln:l.length<=64
abbrev tO(l:List D)(s:Str):O:=.nd .tp [.lf true (.str "frame"),fO l,.lf true (.str s)]
theorem znK(A:Alg n m J e Ds)(ha:InR n a)(hb:InR n b)(hg:∀q ∈ sts,Gd n m J e Ds S q)(hc:∀d,Stp n m Ds d->∃r,(d,r) ∈ sts){i:Nat}{ps:List (Int×Int)}{fs:List (List D)}{e7 e8 e9 e10 e11:Option O}(hlt:i<ps.length)(h:Bf n m J e Ds S a b ps fs)(hw:Wi fs i)(hpr:Dn n m J e Ds S ps fs i):
 (∃ps' fs' e7' e8' e9' e10' e11',taB (T12 (zc n m J e Ds S) a b sts ps fs i e7 e8 e9 e10 e11)=some (.nx (T12 (zc n m J e Ds S) a b sts ps' fs' (i+1) e7' e8' e9' e10' e11'))/\Bf n m J e Ds S a b ps' fs'/\Wi fs' (i+1)/\i+1<=ps'.length/\Dn n m J e Ds S ps' fs' (i+1)) \/
 (∃l s,taB (T12 (zc n m J e Ds S) a b sts ps fs i e7 e8 e9 e10 e11)=some (.rt (tO l s))/\Tl n m J e Ds S a b l s):=by
 have hp:=zzB hlt
 have mp:=zyV hlt
 generalize ps[i]=p at hp mp
 obtain⟨l,hl⟩:=h.get hp
 obtain⟨hr,ep⟩:=h.re i p l hp hl
 have s7:zO true 7 (f2 yK xu ixP) (T12 (zc n m J e Ds S) a b sts ps fs i e7 e8 e9 e10 e11)=some (.nx (T12 (zc n m J e Ds S) a b sts ps fs i (sT (pD p)) e8 e9 e10 e11)):=Zg (p:=7) (zlC (i:=4) (b:=fV 6) (g:=ixP) (z:=pD p) rfl (zgR _) (za (i:=6) rfl) (V5 (f:=pD) hp)) (zB rfl)
 have c8:∀{x:D},xN [(true,zc n m J e Ds S),(true,.int p.1),(true,.int p.2)]=sT x->zO true 8 (zK (aC zx (aC (f2 vh yt ixP) (aC (f2 vh zZ ixP) aN))) xN) (T12 (zc n m J e Ds S) a b sts ps fs i (sT (pD p)) e8 e9 e10 e11)=some (.nx (T12 (zc n m J e Ds S) a b sts ps fs i (sT (pD p)) (sT x) e9 e10 e11)):=λhx=>
  xF (i:=8) (zjf (WD.e (za (i:=0) rfl)) (WD.e (zr (za (i:=7) rfl) zb rfl rfl)) (WD.e (zr (za (i:=7) rfl) zb rfl rfl)) hx) (zB rfl)
 rcases zoU (n:=n) (m:=m) (J:=J) (e:=e) (Ds:=Ds) (S:=S) (a:=p.1) (b:=p.2)with⟨hh,ht⟩|⟨hh,s,hq,ht⟩
 · obtain⟨ps',fs',e9',e10',e11',hfor,B',W',⟨more,em⟩,⟨mf,ef⟩,hall⟩:=zji (sts:=sts) (i:=i) (e8:=sT .non) A ha hb sts ps fs e9 e10 e11 hg h hw hp hl
   have t8:WT (fT (f2 (fV 8) (fC .non) (zQ .IsNot))) (T12 (zc n m J e Ds S) a b sts ps fs i (sT (pD p)) (sT .non) e9 e10 e11) false:=zM (zr (za (i:=8) rfl) zb rfl rfl) rfl
   have sg:zlo 6 1 (T12 (zc n m J e Ds S) a b sts ps' fs' i (sT (pD p)) (sT .non) e9' e10' e11')=some (.nx (T12 (zc n m J e Ds S) a b sts ps' fs' (i+1) (sT (pD p)) (sT .non) e9' e10' e11')):=rfl
   have hl':fs'[i]? = some l:=by rw[ef];exact Zm hl
   refine .inl ⟨ps',fs',_,_,_,_,_,zT s7 (zT (c8 ht) (zT (zY t8 rfl) (zT (xX (zde (za (i:=3) rfl)) hfor) sg))),B',λk l1 l2 h1 h2=>?_,by rw[em,zzG];omega,λk q l1 hk hq hl1=>?_⟩
   · have:=W' k l1 l h1 hl'
     have:=B'.so i (i+1) l l2 (zyT _) hl' h2
     omega
   · by_cases ki:k=i
     · subst ki
       rw[em,Zm hp]at hq
       cases hq
       rw[hl']at hl1
       cases hl1
       refine⟨hh,λd hd=>?_⟩
       obtain⟨r,mr⟩:=hc d hd
       obtain⟨j,hj⟩:=List.mem_iff_getElem?.mp (hall _ mr)
       obtain⟨l2,hl2⟩:=B'.get hj
       exact⟨j,l2,hj,hl2,W' j l2 l hl2 hl'⟩
     · have hk':k<i:=by omega
       have hkp:k<ps.length:=by omega
       obtain⟨l3,hl3⟩:=h.get (zzB hkp)
       rw[ef,Zm hl3]at hl1
       cases hl1
       rw[em,Zm (zzB hkp)]at hq
       cases hq
       obtain⟨g1,g2⟩:=hpr k _ _ hk' (zzB hkp) hl3
       refine⟨g1,λd hd=>?_⟩
       obtain⟨j,l',j1,j2,j3⟩:=g2 d hd
       exact⟨j,l',by rw[em];exact Zm j1,by rw[ef];exact Zm j2,j3⟩
 · have t8:WT (fT (f2 (fV 8) (fC .non) (zQ .IsNot))) (T12 (zc n m J e Ds S) a b sts ps fs i (sT (pD p)) (sT (.str s)) e9 e10 e11) true:=zM (zr (za (i:=8) rfl) zb rfl rfl) rfl
   have rt:yP (yw (dC (fC (.str "frame")) (dC (zkP 5 7) (dC (fV 8) dN)))) (T12 (zc n m J e Ds S) a b sts ps fs i (sT (pD p)) (sT (.str s)) e9 e10 e11)=some (.rt (tO l s)):=
    Wg (zbR (xr zb (xr (znF (k:=i) rfl rfl h.nd hp hl) (xr (za (i:=8) rfl) rfl))) (szl rfl)) (by show(true&&((O.strs (l.map (O.lf true)))&&(true&&true)))=true;rw[zbt];rfl)
   have e1:p.1=frm (zc n m J e Ds S) l a:=congrArg Prod.fst ep
   have e2:p.2=frm (zc n m J e Ds S) l b:=congrArg Prod.snd ep
   rw[e1,e2]at hq hh
   refine .inr ⟨l,s,zT s7 (zT (c8 ht) (v9 (wU t8 rt))),hr,hq,hh,λr hr' hne=>Nat.le_of_not_lt λhlt'=>hne ?_, ?_⟩
   · obtain⟨j,l',j1,j2,j3⟩:=near (L:=l.length) hpr (λk l1 h1 h2=>Nat.lt_of_not_le λz=>by have:=h.so i k l l1 z hl h1;omega) r 0 (a,b) [] hr' h.a0 h.f0 (by show 0+r.length<=_;omega)
     have j3:l'.length<=0+r.length:=j3
     have jl:j<i:=Nat.lt_of_not_le λz=>by have:=h.so i j l l' z hl j2;omega
     exact(hpr j _ l' jl j1 j2).1
   · have:=h.fr l (zzX hl)
     have:=h.le A ha hb
     omega
theorem zrz(A:Alg n m J e Ds)(ha:InR n a)(hb:InR n b)(hg:∀q ∈ sts,Gd n m J e Ds S q)(hc:∀d,Stp n m Ds d->∃r,(d,r) ∈ sts)(f:Nat):∀(k i:Nat) (ps:List (Int×Int)) (fs:List (List D)) (e7 e8 e9 e10 e11:Option O),65<=i+k->k<f->i<=ps.length->Bf n m J e Ds S a b ps fs->Wi fs i->Dn n m J e Ds S ps fs i->
 ((∃as',whL taT taB f (T12 (zc n m J e Ds S) a b sts ps fs i e7 e8 e9 e10 e11)=some (.nx as'))/\Rr n m J e Ds S a b) \/
 (∃l s,whL taT taB f (T12 (zc n m J e Ds S) a b sts ps fs i e7 e8 e9 e10 e11)=some (.rt (tO l s))/\Tl n m J e Ds S a b l s):=by
 induction f with
 |zero=>exact λk i ps fs e7 e8 e9 e10 e11 hk hf=>absurd hf (Nat.not_lt_zero _)
 |succ f ihf=>
  intro k i ps fs e7 e8 e9 e10 e11 hk hf hi h hw hpr
  have le:=h.le A ha hb
  have lt:WD (f2 xu (fP (aC yK aN) Yk) (zQ .Lt)) (T12 (zc n m J e Ds S) a b sts ps fs i e7 e8 e9 e10 e11) true (.bl (decide ((i:Int)<((ps.map pD).length:Nat)))):=zdl (za (i:=6) rfl) (zqc (i:=4) rfl)
  rw[zD]at lt
  by_cases hlt:i<ps.length
  · rw[zyL (Int.ofNat_lt.mpr hlt)]at lt
    have tt:WT taT (T12 (zc n m J e Ds S) a b sts ps fs i e7 e8 e9 e10 e11) true:=zM lt rfl
    rcases znK A ha hb hg hc (e7:=e7) (e8:=e8) (e9:=e9) (e10:=e10) (e11:=e11) hlt h hw hpr with⟨ps',fs',e7',e8',e9',e10',e11',sb,B',W',hl',D'⟩|⟨l,s,sb,h1⟩
    · rcases ihf (k-1) (i+1) ps' fs' e7' e8' e9' e10' e11' (by omega) (by omega) hl' B' W' D' with⟨⟨as',hw⟩,hR⟩|⟨l,s,hw,h1⟩
      · exact .inl ⟨⟨as',ziY tt sb hw⟩,hR⟩
      · exact .inr ⟨l,s,ziY tt sb hw,h1⟩
    · exact .inr ⟨l,s,zqa tt sb,h1⟩
  · rw[zyD (λz=>hlt (Int.ofNat_lt.mp z))]at lt
    refine .inl ⟨⟨_,zlA (zM lt rfl)⟩,λr hr=>?_⟩
    have il:∀(k:Nat) (l:List D),fs[k]? = some l->k<i:=λk l hk=>by
     have:=(zzD.mp hk).1
     rw[<-h.fl]at this
     omega
    obtain⟨j,l',j1,j2,_⟩:=near (L:=r.length) hpr (λk l h1 _=>il k l h1) r 0 (a,b) [] hr h.a0 h.f0 (by show 0+r.length<=_;omega)
    exact(hpr j _ l' (il j l' j2) j1 j2).1
theorem zom(A:Alg n m J e Ds)(ha:InR n a)(hb:InR n b):(Rr n m J e Ds S a b/\xg [(true,zc n m J e Ds S),(true,.int a),(true,.int b)]=sT (.tup [.str "alike"]))\/(∃l s,xg [(true,zc n m J e Ds S),(true,.int a),(true,.int b)]=some (tO l s)/\Tl n m J e Ds S a b l s):=by
 obtain⟨sts,sl,hg,hc,hst⟩:=zgP (S:=S) A
 have s3:zO true 3 (zK Y0 Ze) [sT (zc n m J e Ds S),sI a,sI b,none,none,none,none,none,none,none,none,none]=some (.nx [sT (zc n m J e Ds S),sI a,sI b,sT (.lst (sts.map stD)),none,none,none,none,none,none,none,none]):=Zg (p:=3) (zaF (WD.e (za (i:=0) rfl)) hst) (zB rfl)
 have wt:∀as:AS,as[1]? = some (sI a)->as[2]? = some (sI b)->WD (yw (dC zA (dC zL dN))) as true (pD (a,b)):=λas h1 h2=>W3 (os:=[lfI a,lfI b]) (zm (za h1) (zm (za h2) yd)) (szl rfl) rfl
 have s4:=xx (i:=4) (as:=[sT (zc n m J e Ds S),sI a,sI b,sT (.lst (sts.map stD)),none,none,none,none,none,none,none,none]) (wQ (zm (wt _ rfl rfl) yd) (szl rfl)) (zB rfl)
 have f5:zdL (yw (dC zA (dC zL dN))) (yW dN) [sT (zc n m J e Ds S),sI a,sI b,sT (.lst (sts.map stD)),lP [(a,b)],none,none,none,none,none,none,none]=some (.ow (.nd (.dt [kP (a,b)]) [fO []]),[sT (zc n m J e Ds S),sI a,sI b,sT (.lst (sts.map stD)),lP [(a,b)],none,none,none,none,none,none,none]):=by
  have h1:=wt [sT (zc n m J e Ds S),sI a,sI b,sT (.lst (sts.map stD)),lP [(a,b)],none,none,none,none,none,none,none] rfl rfl
  unfold WD at h1
  unfold zdL
  rw[h1];rfl
 have s5:=xx (i:=5) f5 (zB rfl)
 have s6:zO true 6 yt [sT (zc n m J e Ds S),sI a,sI b,sT (.lst (sts.map stD)),lP [(a,b)],dP [(a,b)] [[]],none,none,none,none,none,none]=some (.nx (T12 (zc n m J e Ds S) a b sts [(a,b)] [[]] 0 none none none none none)):=xF (i:=6) zb (zB rfl)
 have f1:∀{k:Nat}{l:List D},([[]]:List (List D))[k]? = some l->k=0/\l=[]:=λ{k l} hk=>by
  have:=(zzD.mp hk).1
  have:k<1:=this
  have k0:k=0:=by omega
  subst k0
  exact⟨rfl,(zzW hk).symm⟩
 have B0:Bf n m J e Ds S a b [(a,b)] [[]]:=⟨by simp,rfl,rfl,rfl,λk p l hp hl=>by
  obtain⟨rfl,rfl⟩:=f1 hl
  exact⟨(λ_ m=>nomatch m),(zzW hp).symm⟩,λj k l l' _ h1 h2=>by rw[(f1 h1).2,(f1 h2).2];exact zzK _,λl ml=>by rw[zzO.mp ml];exact Nat.zero_lt_one⟩
 rcases zrz A ha hb hg hc 10000 65 0 [(a,b)] [[]] none none none none none (by omega) (by decide) (Nat.zero_le _) B0 (λk l l' h1 h2=>by rw[(f1 h1).2];exact Nat.zero_le _) (λk p l hk=>absurd hk (Nat.not_lt_zero _))with⟨⟨as',hw⟩,hR⟩|⟨l,s,hw,h1⟩
 · exact .inl ⟨hR,Z7 rfl (zT s3 (zT s4 (zT s5 (zT s6 (zT hw (ZM (W3 (os:=[.lf true (.str "alike")]) (zm zb yd) (szl rfl) rfl)))))))⟩
 · exact .inr ⟨l,s,Z7 rfl (zT s3 (zT s4 (zT s5 (zT s6 (v9 hw))))),h1⟩
end
section
variable{α:Type}[DecidableEq α]{toK:α->D}
def pos:List α->α->Nat
 | [],_=>0
 |x::K,a=>if x=a then 0 else pos K a+1
theorem zkm{a b:α}:∀{K:List α},a ∈ K->b ∈ K->pos K a=pos K b->a=b
 | [],h,_,_=>nomatch h
 |x::K,ha,hb,e=>by
  unfold pos at e
  by_cases h1:x=a
  · rw[if_pos h1]at e
    by_cases h2:x=b
    · rw[<-h1,<-h2]
    · rw[if_neg h2]at e;omega
  · rw[if_neg h1]at e
    by_cases h2:x=b
    · rw[if_pos h2]at e;omega
    · rw[if_neg h2]at e
      exact zkm ((zI.mp ha).resolve_left λz=>h1 z.symm) ((zI.mp hb).resolve_left λz=>h2 z.symm) (by omega)
theorem zmn(hq:∀a b,eqF 50 (toK a) (toK b)=some (decide (a=b)))(a:α):∀K:List α,anyF (λy=>eqF 50 y (toK a)) (K.map toK)=some (decide (a ∈ K))
 | []=>rfl
 |x::K=>by
  show(eqF 50 (toK x) (toK a)).bind (λb=>(anyF (λy=>eqF 50 y (toK a)) (K.map toK)).bind λc=>some (b||c))=_
  rw[hq,zmn hq a K]
  show some (decide (x=a)||decide (a ∈ K))=_
  by_cases h:x=a
  · subst h;simp
  · have h':¬a=x:=λz=>h z.symm
    simp[h,h']
theorem zpy(hq:∀a b,eqF 50 (toK a) (toK b)=some (decide (a=b))){a:α}:∀{K:List α},a ∈ K->zcb (λy=>eqF 50 y (toK a)) (K.map toK)=some (pos K a)
 |x::K,m=>by
  show(eqF 50 (toK x) (toK a)).bind _=_
  rw[hq,zyI]
  unfold pos
  by_cases h:x=a
  · rw[if_pos h,zyL h]
    show(anyF _ (K.map toK)).bind _=_
    rw[zmn hq a K];rfl
  · rw[if_neg h,zyD h]
    show(zcb _ (K.map toK)).bind _=_
    rw[zpy hq ((zI.mp m).resolve_left λz=>h z.symm)];rfl
theorem zmF(hf:∀a,yc (toK a)=false)(u:Bool)(l:List α):kids u (l.map toK)=l.map λa=>(u,toK a):=by
 unfold kids
 rw[zzY]
 refine List.map_congr_left λa _=>?_
 show(yc (toK a)||u,toK a)=_
 rw[hf];rfl
theorem zlF(u:Bool):∀ds:List D,O.toDs (ds.map (O.lf u))=ds
 | []=>rfl
 |d::ds=>congrArg (d :: ·) (zlF u ds)
theorem zdb(hf:∀a,yc (toK a)=false)(hq:∀a b,eqF 50 (toK a) (toK b)=some (decide (a=b)))(u:Bool)(l:List α)(hl:l.length<=100):∃f:α->Int,(∀a b,a ∈ l->b ∈ l->f a=f b->a=b)/\RE (xJ [(u,.lst (l.map toK))]) (zH (l.map f)):=by
 obtain⟨as',hfor,K,e2,rfl,hk,hlK⟩:=xO (g:=gN 2) (f:=sIf (fT (f2 zL zA (zQ .NotIn))) (yQ (xQ 1 (dC zL dN) xY)) sNx)
  (λi as=>∃(K:List α) (e2:Option O),as=[some (.lf u (.lst (l.map toK))),sN ((K.map toK).map (O.lf u)),e2]/\(∀a ∈ l.take i,a ∈ K)/\K.length<=i)
  (l.map λa=>(u,toK a)) 0 [some (.lf u (.lst (l.map toK))),sN [],none] (λi x as hx' hI=>by
   obtain⟨K,e2,rfl,hk,hlK⟩:=hI
   rw[zzF]at hx'
   obtain⟨a,ha,rfl⟩:=zzU.mp hx'
   have hi:=(zzD.mp ha).1
   rw[zyU]at hk hlK ⊢
   have tn:=zM (zlW (as:=[some (.lf u (.lst (l.map toK))),sN ((K.map toK).map (O.lf u)),some (.lf u (toK a))]) (i:=1) (g:=zQ .NotIn) (c:=!decide (a ∈ K)) (X:=.lst (K.map toK)) (za (i:=2) rfl) rfl (by show D.lst (O.toDs ((K.map toK).map (O.lf u)))=_;rw[zlF]) (by
    have e:inP (toK a) (.lst (K.map toK))=some (decide (a ∈ K)):=zmn hq a K
    unfold zQ
    simp only[e]
    rfl)) rfl
   by_cases h:a ∈ K
   · rw[zyL h]at tn
     refine⟨[some (.lf u (.lst (l.map toK))),sN ((K.map toK).map (O.lf u)),some (.lf u (toK a))],rfl,_,zY tn rfl,K,_,rfl,λb mb=>?_,by omega⟩
     rw[List.take_succ,ha]at mb
     rcases zzJ.mp mb with z|z
     · exact hk b z
     · have:b=a:=by simpa using z
       rw[this];exact h
   · rw[zyD h]at tn
     have sa:=zeQ (as:=[some (.lf u (.lst (l.map toK))),sN ((K.map toK).map (O.lf u)),some (.lf u (toK a))]) (i:=1) (a:=fV 2) (os:=(K.map toK).map (O.lf u)) rfl (by rw[zD,zD];exact Nat.lt_of_le_of_lt (show K.length<=100 by omega) (by decide)) (za (i:=2) rfl)
     refine⟨[some (.lf u (.lst (l.map toK))),sN ((K.map toK).map (O.lf u)),some (.lf u (toK a))],rfl,_,wU tn sa,K++[a],_,by rw[zyJ,zyJ];rfl,λb mb=>?_,by rw[zzG];show K.length+1<=_;omega⟩
     rw[List.take_succ,ha]at mb
     rcases zzJ.mp mb with z|z
     · exact zzM _ (hk b z)
     · have:b=a:=by simpa using z
       rw[this];exact zzI _ (zzO.mpr rfl))
  ⟨[],none,rfl,(λa ma=>by simp at ma),zzK _⟩
 rw[zD,zyU]at hk hlK
 rw[List.take_length]at hk
 refine⟨λa=>(pos K a:Nat),λa b ha hb e=>zkm (hk a ha) (hk b hb) (Int.ofNat_inj.mp e), ?_⟩
 have it1:Wo zx [some (.lf u (.lst (l.map toK))),sN [],none]=some (l.map λa=>(u,toK a),[some (.lf u (.lst (l.map toK))),sN [],none]):=by
  show some (kids u (l.map toK),_)=_
  rw[zmF hf]
 have it2:Zh zx [some (.lf u (.lst (l.map toK))),sN ((K.map toK).map (O.lf u)),e2]=some (l.map λa=>(u,toK a),[some (.lf u (.lst (l.map toK))),sN ((K.map toK).map (O.lf u)),e2]):=by
  show some (kids u (l.map toK),_)=_
  rw[zmF hf]
 have w:=Xd (as:=[some (.lf u (.lst (l.map toK))),sN ((K.map toK).map (O.lf u)),e2]) (h:=λa=>D.int (pos K a:Nat)) (it:=λa=>(u,toK a)) (cap:=[none,some 1]) (gg:=gN 0) (fe:=Y6 .lst zA Y0 Xq) l it2 (by omega) λa ma=>by
  have ec:Yz [none,some 1] [some (.lf u (.lst (l.map toK))),sN ((K.map toK).map (O.lf u)),e2]=[none,some (.lf false (.lst (K.map toK)))]:=by
   show[none,some (O.lf false (.lst (O.toDs ((K.map toK).map (O.lf u)))))]=_
   rw[zlF]
  rw[ec]
  refine⟨[some (.lf u (toK a)),some (.lf false (.lst (K.map toK)))],rfl,WD.e (zdH (za (i:=1) rfl) rfl (zq (za (i:=0) rfl) zJ) ?_ rfl)⟩
  show(zcb _ (K.map toK)).bind _=_
  rw[zpy hq (hk a ma)]
  show(if(K.map toK).length<=1000 then some (R0.im (.int (pos K a:Nat)))else none)=_
  rw[if_pos (by rw[zD];omega)]
 rw[show(l.map λa=>D.int (pos K a:Nat))=(l.map λa=>((pos K a:Nat):Int)).map D.int by rw[zzY];rfl]at w
 exact xW rfl (zp (xx (i:=1) (wQ yd (szl rfl)) (zB rfl)) (zp (xX it1 hfor) (wC w)))
end
theorem zgC{β:Type}[DecidableEq β]{g:β->D}(h:∀x y,eqF 49 (g x) (g y)=some (decide (x=y))):∀a b:List β,eqL (eqF 49) (a.map g) (b.map g)=some (decide (a=b))
 | [],[]=>rfl
 | [],_::_=>rfl
 |_::_,[]=>rfl
 |x::a,y::b=>by
  show(eqF 49 (g x) (g y)).bind (λc=>(eqL (eqF 49) (a.map g) (b.map g)).bind λd=>some (c&&d))=_
  rw[h,zgC h a b]
  show some (decide (x=y)&&decide (a=b))=_
  by_cases h1:x=y<;>by_cases h2:a=b<;>simp[h1,h2]
theorem zox{r:List Int}:∀(L:TZ),L2.atI ((L++[r]).map zH) (-1)=some (zH r):=λL=>by
 unfold L2.atI L2.ixN
 rw[if_neg (by decide),if_pos (by rw[zD,zzG];show -(((L.length+1:Nat)):Int) <= -1;omega)]
 show((L++[r]).map zH)[(((((L++[r]).map zH).length:Nat):Int) + -1).toNat]? = _
 rw[zD,zzG,show((((L.length+[r].length:Nat)):Int) + -1).toNat=L.length by show((((L.length+1:Nat)):Int) + -1).toNat=_;omega,zyJ,zyO (by rw[zD];exact zzK _),zD,Nat.sub_self];rfl
theorem zgF{n:Nat}{r:List Int}{v:Int}(hr:r.length=n)(hv:InR n v):ixP (zH r) (.int v)=some (.im (.int (rAt r v))):=by
 have hk:v.toNat<r.length:=by rw[hr];have:=hv.1;have:=hv.2;omega
 have g:=zzB hk
 have e:rAt r v=r[v.toNat]:=by unfold rAt;rw[g];rfl
 rw[e]
 have:=V5 (f:=D.int) g
 rw[show((v.toNat:Nat):Int)=v by have:=hv.1;omega]at this
 exact this
theorem zdM{n:Nat}{g:Int->Int}{v:Int}(hv:InR n v):rAt ((yZ n).map g) v=g v:=by
 unfold rAt
 have h0:=hv.1
 have h1:=hv.2
 rw[zzF,zzF,List.getElem?_range (show v.toNat<n by omega)]
 show g ((v.toNat:Nat):Int)=g v
 rw[show((v.toNat:Nat):Int)=v by omega]
theorem zge(i:Nat):yZ (i+1)=yZ i++[(i:Int)]:=by
 show(List.range (i+1)).map _=_
 rw[List.range_succ,zyJ];rfl
section
variable{n m:Nat}{J:TZ}{e:Int}{Ds:DZ}{S:SS}{st:List D}
abbrev Ee(n m:Nat)(J:TZ)(e:Int)(Ds:DZ)(S:SS)(k:Nat)(u v:Int):Prop:=PP.Ek (hld S) (stp (zc n m J e Ds S)) (Stp n m Ds) k u v
structure Lv(n m:Nat)(J:TZ)(e:Int)(Ds:DZ)(S:SS)(k:Nat)(r:List Int):Prop where
 ln:r.length=n
 eq:∀u v,InR n u->InR n v->(rAt r u=rAt r v ↔ Ee n m J e Ds S k u v)
abbrev bK(l:List Bool):D:=.tup (l.map D.bl)
abbrev iK(l:List Int):D:=.tup (l.map D.int)
theorem zrP(a b:List Bool):eqF 50 (bK a) (bK b)=some (decide (a=b)):=zgC (λx y=>by show some (x==y)=_;by_cases h:x=y<;>simp[h]) a b
theorem zsu(a b:List Int):eqF 50 (iK a) (iK b)=some (decide (a=b)):=zgC (λx y=>by show some (x==y)=_;by_cases h:x=y<;>simp[h]) a b
theorem lv0{f:List Bool->Int}(hf:∀a b,a ∈ (yZ n).map (hld S)->b ∈ (yZ n).map (hld S)->f a=f b->a=b):Lv n m J e Ds S 0 (((yZ n).map (hld S)).map f):=by
 refine⟨by simp,λu v hu hv=>?_⟩
 rw[zzY,zdM hu,zdM hv]
 unfold Ee
 rw[PP.Ek.zero]
 exact⟨λh=>hf _ _ (List.mem_map_of_mem (zba hu)) (List.mem_map_of_mem (zba hv)) h,λh=>congrArg f h⟩
abbrev key(A:D)(st:List D)(r:List Int)(v:Int):List Int:=rAt r v::st.map λd=>rAt r (stp A d v)
theorem lvS{k:Nat}{r:List Int}{f:List Int->Int}(A:Alg n m J e Ds)(hst:∀d,d ∈ st ↔ Stp n m Ds d)(h:Lv n m J e Ds S k r)(hf:∀a b,a ∈ (yZ n).map (key (zc n m J e Ds S) st r)->b ∈ (yZ n).map (key (zc n m J e Ds S) st r)->f a=f b->a=b):Lv n m J e Ds S (k+1) (((yZ n).map (key (zc n m J e Ds S) st r)).map f):=by
 refine⟨by simp,λu v hu hv=>?_⟩
 have hk:key (zc n m J e Ds S) st r u=key (zc n m J e Ds S) st r v ↔ Ee n m J e Ds S (k+1) u v:=by
  unfold Ee
  rw[PP.Ek.succ]
  constructor
  · intro z
    obtain⟨z1,z2⟩:=List.cons.inj z
    refine⟨(h.eq u v hu hv).mp z1,λd hd=>?_⟩
    have:=List.map_inj_left.mp z2 d ((hst d).mpr hd)
    exact(h.eq _ _ (Xg A hd hu).1 (Xg A hd hv).1).mp this
  · intro⟨z1,z2⟩
    show rAt r u::_=rAt r v::_
    rw[(h.eq u v hu hv).mpr z1]
    refine congrArg _ (List.map_congr_left λd md=>?_)
    have hd:=(hst d).mp md
    exact(h.eq _ _ (Xg A hd hu).1 (Xg A hd hv).1).mpr (z2 d hd)
 rw[zzY,zdM hu,zdM hv]
 show f _=f _ ↔ _
 rw[<-hk]
 exact⟨λh=>hf _ _ (List.mem_map_of_mem (zba hu)) (List.mem_map_of_mem (zba hv)) h,λh=>congrArg f h⟩
end
theorem zmU{xs ys:List D}(h:xs.length+ys.length<=sizeLine):zam .Add (.tup xs) (.tup ys)=some (.im (.tup (xs++ys))):=if_pos h
section
variable{n m:Nat}{J:TZ}{e:Int}{Ds:DZ}{S:SS}{st:List D}
abbrev lvF:EF:=fFz (f2 (yw (dC (f2 yK xu ixP) dN)) (fP (aC (zR (Zh zA) [none,some 4,some 0,some 6] yO yI (f2 zA (zK (aC zL (aC zx Y5)) yr) ixP)) aN) tupP) zF)
abbrev L7(A:D)(st:List D)(Ls:TZ)(e3 e4 e5 e6:Option O):AS:=[sT A,sT (.lst st),sN ((Ls.map zH).map (O.lf true)),e3,e4,e5,e6]
theorem zrd{Ls:TZ}{r:List Int}{v:Int}{e3 e5:Option O}(A:Alg n m J e Ds)(sl:st.length<=100)(hst:∀d,d ∈ st ↔ Stp n m Ds d)(hr:r.length=n)(hv:InR n v):WD lvF (L7 (zc n m J e Ds S) st Ls e3 (sT (zH r)) e5 (sI v)) true (iK (key (zc n m J e Ds S) st r v)):=by
 have w:=Xd (as:=L7 (zc n m J e Ds S) st Ls e3 (sT (zH r)) e5 (sI v)) (h:=λd:D=>D.int (rAt r (stp (zc n m J e Ds S) d v))) (it:=λd=>(true,d)) (cap:=[none,some 4,some 0,some 6]) (gg:=gN 0) (fe:=f2 zA (zK (aC zL (aC zx Y5)) yr) ixP) st (zcQ (f:=fV 1) (WD.e (za (i:=1) rfl))) (by omega) λd md=>by
  obtain⟨s1,s2⟩:=Xg (S:=S) A ((hst d).mp md) hv
  exact⟨[sT d,sT (zH r),sT (zc n m J e Ds S),sI v],rfl,WD.e (zr (za (i:=1) rfl) (zjf (WD.e (za (i:=2) rfl)) (WD.e (za (i:=0) rfl)) (WD.e (za (i:=3) rfl)) s2) (zgF hr s1) rfl)⟩
 have w1:=zjI (g:=tupP) (z:=.tup (st.map λd=>D.int (rAt r (stp (zc n m J e Ds S) d v)))) w rfl
 have w0:=zkn (WD.e (zr (as:=L7 (zc n m J e Ds S) st Ls e3 (sT (zH r)) e5 (sI v)) (za (i:=4) rfl) (za (i:=6) rfl) (zgF hr hv) rfl))
 refine fzW (WD.e ?_)
 have:=f2E w0 w1 (zmU (szs (by rw[zD];show 1+_<=_;omega)))
 rw[show iK (key (zc n m J e Ds S) st r v) = .tup ([D.int (rAt r v)]++st.map λd=>D.int (rAt r (stp (zc n m J e Ds S) d v))) by show D.tup (D.int (rAt r v)::((st.map λd=>rAt r (stp (zc n m J e Ds S) d v)).map D.int))=_;rw[zzY];rfl]
 exact this
theorem zmj{Ls:TZ}{r:List Int}{e3 e6:Option O}(A:Alg n m J e Ds)(sl:st.length<=100)(hst:∀d,d ∈ st ↔ Stp n m Ds d)(hr:r.length=n):∃e6',forL (gN 6) (yQ (xQ 5 (dC lvF dN) xY)) (vg 0 n) (L7 (zc n m J e Ds S) st Ls e3 (sT (zH r)) (sN []) e6)=some (.nx (L7 (zc n m J e Ds S) st Ls e3 (sT (zH r)) (sN ((((yZ n).map (key (zc n m J e Ds S) st r)).map iK).map (O.lf true))) e6')):=by
 have n8:=A.n8
 obtain⟨as',hf,e6',rfl⟩:=xO (g:=gN 6) (f:=yQ (xQ 5 (dC lvF dN) xY))
  (λi as=>∃(e6:Option O),as=L7 (zc n m J e Ds S) st Ls e3 (sT (zH r)) (sN ((((yZ i).map (key (zc n m J e Ds S) st r)).map iK).map (O.lf true))) e6)
  (vg 0 n) 0 (L7 (zc n m J e Ds S) st Ls e3 (sT (zH r)) (sN []) e6) (λi x as hx' hI=>by
   obtain⟨e6,rfl⟩:=hI
   obtain⟨rfl,hi⟩:=vY hx'
   rw[zyU,Int.zero_add]
   have hv:InR n (i:Int):=⟨by omega,by omega⟩
   refine⟨L7 (zc n m J e Ds S) st Ls e3 (sT (zH r)) (sN ((((yZ i).map (key (zc n m J e Ds S) st r)).map iK).map (O.lf true))) (sI i),rfl,_,zeQ (i:=5) rfl (by simp only[zD,zyR];exact Nat.lt_of_le_of_lt (show i<=8 by omega) (by decide)) (zrd A sl hst hr hv),sI i, ?_⟩
   rw[zge,zyJ,zyJ,zyJ];rfl)
  ⟨e6,rfl⟩
 rw[wI,zyU]at hf
 exact⟨e6',hf⟩
abbrev lvB:SF:=(zE (zO true 4 (f2 zL (f1 zZ zgv) ixP))
 (zE (zO false 5 (yW dN))
 (zE (v4 (yU (aC (f2 zx yt ixP) aN) yV) (gN 6) (yQ (xQ 5 (dC lvF dN) xY)))
 (yQ (xQ 2 (dC (fFz (zK zdv xJ)) dN) xY)))))
theorem zju{Ls:TZ}{r:List Int}{k:Nat}{e3 e4 e5 e6:Option O}(A:Alg n m J e Ds)(sl:st.length<=100)(hst:∀d,d ∈ st ↔ Stp n m Ds d)(hL:Ls.length<=100)(hr:Lv n m J e Ds S k r):∃r' e4' e5' e6',Lv n m J e Ds S (k+1) r'/\lvB (L7 (zc n m J e Ds S) st (Ls++[r]) e3 e4 e5 e6)=some (.nx (L7 (zc n m J e Ds S) st (Ls++[r]++[r']) e3 e4' e5' e6')):=by
 have n8:=A.n8
 have s4:zO true 4 (f2 zL (f1 zZ zgv) ixP) (L7 (zc n m J e Ds S) st (Ls++[r]) e3 e4 e5 e6)=some (.nx (L7 (zc n m J e Ds S) st (Ls++[r]) e3 (sT (zH r)) e5 e6)):=Zg (p:=4) (zlC (i:=2) (b:=f1 zZ zgv) (g:=ixP) (z:=zH r) rfl (zgR _) (zlR (zb (x:=.int 1))) (by show imR (L2.atI ((Ls++[r]).map zH) (-1))=_;rw[zox];rfl)) (zB rfl)
 have s5:=xx (i:=5) (as:=L7 (zc n m J e Ds S) st (Ls++[r]) e3 (sT (zH r)) e5 e6) (wQ yd (szl rfl)) (zB rfl)
 obtain⟨e6',hf⟩:=zmj (S:=S) (Ls:=Ls++[r]) (e3:=e3) (e6:=e6) A sl hst hr.ln
 have s6:v4 (yU (aC (f2 zx yt ixP) aN) yV) (gN 6) (yQ (xQ 5 (dC lvF dN) xY)) (L7 (zc n m J e Ds S) st (Ls++[r]) e3 (sT (zH r)) (sN []) e6)=some (.nx (L7 (zc n m J e Ds S) st (Ls++[r]) e3 (sT (zH r)) (sN ((((yZ n).map (key (zc n m J e Ds S) st r)).map iK).map (O.lf true))) e6')):=xX (vB (zq (zr (za (i:=0) rfl) zb rfl rfl) zJ) (by omega) (by omega)) (by rw[zyF];exact hf)
 obtain⟨f,f1,o,o1,o2,o3⟩:=zdb (toK:=iK) (λ_=>rfl) zsu false ((yZ n).map (key (zc n m J e Ds S) st r)) (by simp only[zD,zyR];omega)
 have wc:WE (zK zdv xJ) (L7 (zc n m J e Ds S) st (Ls++[r]) e3 (sT (zH r)) (sN ((((yZ n).map (key (zc n m J e Ds S) st r)).map iK).map (O.lf true))) e6') (zH (((yZ n).map (key (zc n m J e Ds S) st r)).map f)):=
  ⟨o,zhP (rs:=[.bo 5]) rfl (by show some [(false,D.lst (O.toDs ((((yZ n).map (key (zc n m J e Ds S) st r)).map iK).map (O.lf true))))]=_;rw[zbz]) o1,o2,o3⟩
 have sa:=zeQ (i:=2) (as:=L7 (zc n m J e Ds S) st (Ls++[r]) e3 (sT (zH r)) (sN ((((yZ n).map (key (zc n m J e Ds S) st r)).map iK).map (O.lf true))) e6') rfl (by simp only[zD,zzG];exact Nat.lt_of_le_of_lt (show Ls.length+1<=101 by omega) (by decide)) (fzW wc)
 rw[show((Ls++[r]).map zH).map (O.lf true)++[O.lf true (zH (((yZ n).map (key (zc n m J e Ds S) st r)).map f))]=((Ls++[r]++[((yZ n).map (key (zc n m J e Ds S) st r)).map f]).map zH).map (O.lf true) by simp only[zyJ,zyP,List.map_nil]]at sa
 exact⟨_,sT (zH r),sN ((((yZ n).map (key (zc n m J e Ds S) st r)).map iK).map (O.lf true)),e6',lvS A hst hr f1,zT s4 (zT s5 (zT s6 sa))⟩
theorem zkQ(A:Alg n m J e Ds)(sl:S.length<=10):∃Ls:TZ,Ls.length=n+1/\(∀(k:Nat) (r:List Int),Ls[k]? = some r->Lv n m J e Ds S k r)/\RE (Zw [(true,zc n m J e Ds S)]) (zP Ls):=by
 have n1:=A.n1
 have n8:=A.n8
 obtain⟨st,stl,hst,hS⟩:=zhU (S:=S) A
 have s1:=Zg (p:=1) (as:=[sT (zc n m J e Ds S),none,none,none,none,none,none]) (zaF (WD.e (za (i:=0) rfl)) hS) (zB rfl)
 have wk:=Xd (as:=[sT (zc n m J e Ds S),sT (.lst st),none,none,none,none,none]) (h:=λv=>bK (hld S v)) (it:=λx:Int=>(true,D.int x)) (cap:=[none,some 0]) (gg:=gN 0) (fe:=zK (aC zA Y0) ZQ) (fi:=yU (aC (f2 zx yt ixP) aN) yV) (yZ n) (zbY (zq (zr (za (i:=0) rfl) zb rfl rfl) zJ) (by omega)) (by rw[zD,zyR];omega) λv _=>⟨[sI v,sT (zc n m J e Ds S)],rfl,Vj (WD.e (za (i:=1) rfl)) (WD.e (za (i:=0) rfl)) (znz sl)⟩
 rw[show((yZ n).map λv=>bK (hld S v))=((yZ n).map (hld S)).map bK from(zzY (f:=hld S) (g:=bK)).symm]at wk
 obtain⟨f,f1,hN⟩:=zdb (toK:=bK) (λ_=>rfl) zrP true ((yZ n).map (hld S)) (by simp only[zD,zyR];omega)
 have s2:=xx (i:=2) (as:=[sT (zc n m J e Ds S),sT (.lst st),none,none,none,none,none]) (wQ (zm (fzW (zaF wk hN)) yd) (szl rfl)) (zB rfl)
 obtain⟨as',hf,Ls,r,e3,e4,e5,e6,rfl,hl,hk,hr⟩:=xO (g:=gN 3) (f:=lvB)
  (λi as=>∃(Ls:TZ) (r:List Int) (e3 e4 e5 e6:Option O),as=L7 (zc n m J e Ds S) st (Ls++[r]) e3 e4 e5 e6/\Ls.length=i/\(∀(k:Nat) (r:List Int),Ls[k]? = some r->Lv n m J e Ds S k r)/\Lv n m J e Ds S i r)
  (vg 0 n) 0 (L7 (zc n m J e Ds S) st ([]++[((yZ n).map (hld S)).map f]) none none none none) (λi x as hx' hI=>by
   obtain⟨Ls,r,e3,e4,e5,e6,rfl,hl,hk,hr⟩:=hI
   obtain⟨rfl,hi⟩:=vY hx'
   rw[zyU]at hl hr ⊢
   obtain⟨r',e4',e5',e6',hr',hb⟩:=zju (S:=S) (Ls:=Ls) (e3:=sI (0+i)) (e4:=e4) (e5:=e5) (e6:=e6) A stl hst (by omega) hr
   refine⟨_,rfl,_,hb,Ls++[r],r',_,_,_,_,rfl,by rw[zzG,hl];rfl,λk q hq=>?_,hr'⟩
   rcases ZC hq with z|⟨z,rfl⟩
   · exact hk k q z
   · rw[z,hl];exact hr)
  ⟨[],_,none,none,none,none,rfl,rfl,(λk r h=>by simp at h),lv0 f1⟩
 rw[wI,zyU]at hl hr
 refine⟨Ls++[r],by rw[zzG,hl];rfl,λk q hq=>?_,xW rfl (zp s1 (zp s2 (zp (xX (vB (zq (zr (za (i:=0) rfl) zb (z:=.int n) rfl rfl) zJ) (by omega) (by omega)) (by rw[zyF];exact hf)) (Ows.retB (i:=2) (toD:=zH) (Q:=λ_=>True) rfl ⟨zbt _,zbz _,λ_ _=>trivial,by rw[zD,zD]⟩))))⟩
 rcases ZC hq with z|⟨z,rfl⟩
 · exact hk k q z
 · rw[z,hl];exact hr
end
theorem zmW{n:Nat}{c:Int}(n1:1<=n)(n8:n<=8):∃ps:List (Int×Int),(∀p ∈ ps,InR n p.1/\InR n p.2)/\RE (Z5 [(true,.int n),(true,.int c)]) (.lst (ps.map pD)):=by
 have nb:((n:Int)).natAbs<big:=yh (by omega) (by omega)
 by_cases h:n<5
 · have tt:WT (fT (f2 zx zbm (zQ .Lt))) [sI n,sI c] true:=zM (zdl (za (i:=0) rfl) zb) (congrArg some (zyL (show(n:Int)<5 by omega)))
   have nn:((n*n:Nat):Int)=(n:Int)*(n:Int):=zzS n n
   have n64:n*n<=64:=zzL (Nat.mul_le_mul n8 n8) (by decide)
   have w:=Xd (as:=[sI n,sI c]) (h:=λk:Int=>pD (k/n,k%n)) (it:=λx:Int=>(true,D.int x)) (cap:=[none,some 0]) (gg:=gN 0) (fe:=yw (dC (f2 zx zA zW) (dC (f2 zx zA zG) dN))) (fi:=yU (aC (f2 zx zx zN) aN) yV) (yZ (n*n)) (zbY (by rw[nn];exact zq (wL (za (i:=0) rfl) (za (i:=0) rfl) nb nb) zJ) (by omega)) (by rw[zD,zyR];omega) λk _=>⟨[sI k,sI n],rfl,Y8 (WD.e (Zq (za (i:=0) rfl) (za (i:=1) rfl) (by omega) nb)) (WD.e (yJ (za (i:=0) rfl) (za (i:=1) rfl) (by omega)))⟩
   refine⟨(yZ (n*n)).map λk=>(k/(n:Int),k%(n:Int)),λp mp=>?_,xW rfl (Zk (YC tt (wC (by rw[zzY];exact w))))⟩
   obtain⟨k,mk,rfl⟩:=zyZ.mp mp
   have hk:=W6 mk
   exact⟨⟨Int.ediv_nonneg hk.1 (by omega),Int.ediv_lt_of_lt_mul (by omega) (nn ▸ hk.2)⟩,wY n1⟩
 · have tf:WT (fT (f2 zx zbm (zQ .Lt))) [sI n,sI c] false:=zM (zdl (za (i:=0) rfl) zb) (congrArg some (zyD (show ¬(n:Int)<5 by omega)))
   obtain⟨xs,xl,_,ws⟩:=stE (as:=[sI n,sI c]) (a:=fV 1) (b:=fC (.int 10)) (c:=c) (m:=10) (by omega) (WD.e (za rfl)) (WD.e zb)
   have w:=Xd (as:=[sI n,sI c]) (h:=λk:Int=>pD (k%n,k/n%n)) (it:=λx:Int=>(true,D.int x)) (cap:=[none,some 0]) (gg:=gN 0) (fe:=yw (dC (f2 zx zA zG) (dC (f2 (f2 zx zA zW) zA zG) dN))) (fi:=Zh (zK (aC zA (aC (fC (.int 10)) aN)) zX)) xs (zjD (g:=D.int) ws) (by omega) λk _=>⟨[sI k,sI n],rfl,Y8 (WD.e (yJ (za (i:=0) rfl) (za (i:=1) rfl) (by omega))) (WD.e (yJ (Zq (za (i:=0) rfl) (za (i:=1) rfl) (by omega) nb) (za (i:=1) rfl) (by omega)))⟩
   refine⟨xs.map λk=>(k%(n:Int),k/(n:Int)%(n:Int)),λp mp=>?_,xW rfl (zp (zY tf rfl) (wC (by rw[zzY];exact w)))⟩
   obtain⟨k,mk,rfl⟩:=zyZ.mp mp
   exact⟨wY n1,wY n1⟩
theorem zpq{x:D}:∀{ys:List D},(∀y ∈ ys,∃c,eqF 50 y x=some c)->∃c,anyF (λy=>eqF 50 y x) ys=some c
 | [],_=>⟨false,rfl⟩
 |y::ys,h=>by
  obtain⟨c,h1⟩:=h y (zzC ..)
  obtain⟨d,h2⟩:=zpq (ys:=ys) λz mz=>h z (zzA _ mz)
  exact⟨c||d,by show(eqF 50 y x).bind _=_;rw[h1,zyI,h2];rfl⟩
theorem zlt{x:D}(hx:eqF 50 x x=some true):∀{ys:List D},(∀y ∈ ys,∃c,eqF 50 y x=some c)->x ∈ ys->anyF (λy=>eqF 50 y x) ys=some true
 | [],_,m=>nomatch m
 |y::ys,h,m=>by
  have h':∀z ∈ ys,∃c,eqF 50 z x=some c:=λz mz=>h z (zzA _ mz)
  show(eqF 50 y x).bind _=_
  rcases zI.mp m with rfl|m
  · obtain⟨d,h2⟩:=zpq h'
    rw[hx,zyI,h2];rfl
  · obtain⟨c,h1⟩:=h y (zzC ..)
    rw[h1,zyI,zlt hx h' m]
    show some (c||true)=_
    rw[zyA]
theorem znr{g:D->D->Option R0}{a b:EF}{as:AS}{x y z:D}{u:Bool}(ha:WD a as u x)(hb:WD b as true y)(hg:g x y=some (.im z))(hz:yc z=false):WD (f2 a b g) as u z:=by
 have:=zmV ha hb hg
 rw[hz,Bool.false_or,Bool.and_true]at this
 exact this
section
variable{n m:Nat}{J:TZ}{e:Int}{Ds:DZ}{S:SS}{a b:Int}{st:List D}
theorem zqm{d d':D}(h:Stp n m Ds d)(h':Stp n m Ds d'):∃c,eqF 50 d d'=some c:=by
 cases h<;>cases h'<;>exact⟨_,rfl⟩
theorem znm{d:D}(h:Stp n m Ds d):eqF 50 d d=some true:=by
 have two:∀{s:Str}{x:Int},eqF 50 (.tup [.str s,.int x]) (.tup [.str s,.int x])=some true:=λ{s x}=>by
  show(some (s==s)).bind (λb=>((some (x==x)).bind λc=>some (c&&true)).bind λc=>some (b&&c))=_
  simp
 cases h with
 |l h=>exact two
 |r h=>exact two
 | @d p c hp h=>
  show(some (("deed":Str)=="deed")).bind (λb=>((some (p.1==p.1)).bind λb=>((some (c==c)).bind λc=>some (c&&true)).bind λc=>some (b&&c)).bind λc=>some (b&&c))=_
  simp
theorem zmY{d:D}(h:Stp n m Ds d):yc d=false/\zeJ (tyD d) "tuple"=true/\ziR d=true/\∃x,ixP d (.int (-1))=some (.im (.int x)):=by
 cases h<;>exact⟨rfl,rfl,rfl,_,rfl⟩
abbrev fgD(l:List D)(s:Str):D:=.tup [.str "frame",.lst l,.str s]
abbrev F9(A:D)(u:Bool)(l:List D)(s:Str)(a b:Int)(L:Nat)(st:List D)(e6 e7 e8:Option O):AS:=[sT A,some (.lf u (fgD l s)),sI a,sI b,sI L,sT (.lst st),e6,e7,e8]
abbrev fgB:SF:=(zE (sIf (zaZ (Yo (fT (zbc xu "tuple"))) (zaZ (fT (f2 xu vC (zQ .NotIn))) (fT (zbc (f2 xu (f1 zZ zgv) ixP) "bool")))) (yP (fC (.bl false))) sNx)
 (zE (zO true 2 (zK (aC zx (aC xu Xw)) yr))
 (zO true 3 (zK (aC zx (aC xu Y5)) yr))))
theorem zng{u:Bool}{l0:List D}{s:Str}{L:Nat}{e7 e8:Option O}(A:Alg n m J e Ds)(hst:∀d,d ∈ st ↔ Stp n m Ds d):∀(l:List D) (a b:Int) (e6:Option O),(∀d ∈ l,Stp n m Ds d)->InR n a->InR n b->∃e6',forL (gN 6) fgB (l.map λd=>(u,d)) (F9 (zc n m J e Ds S) u l0 s a b L st e6 e7 e8)=some (.nx (F9 (zc n m J e Ds S) u l0 s (frm (zc n m J e Ds S) l a) (frm (zc n m J e Ds S) l b) L st e6' e7 e8))
 | [],a,b,e6,_,_,_=>⟨e6,rfl⟩
 |d::l,a,b,e6,hl,ha,hb=>by
  have hd:=hl d (zzC ..)
  obtain⟨b1,b2,b3,x,b4⟩:=zmY hd
  have fa:(yc d||u,d)=(u,d):=by rw[b1];rfl
  obtain⟨e6',hf⟩:=zng (u:=u) (l0:=l0) (s:=s) (L:=L) (e7:=e7) (e8:=e8) A hst l (stp (zc n m J e Ds S) d a) (stp (zc n m J e Ds S) d b) (some (.lf u d)) (λx mx=>hl x (zzA _ mx)) (Xg A hd ha).1 (Xg A hd hb).1
  have t1:WT (Yo (fT (zbc xu "tuple"))) (F9 (zc n m J e Ds S) u l0 s a b L st (some (.lf u d)) e7 e8) false:=zeg (k:=true) (zM (zhi (za (i:=6) rfl) b3) (by show some (zeJ (tyD d) "tuple")=_;rw[b2]))
  have t2:WT (fT (f2 xu vC (zQ .NotIn))) (F9 (zc n m J e Ds S) u l0 s a b L st (some (.lf u d)) e7 e8) false:=zM (zr (z:=.bl false) (za (i:=6) rfl) (za (i:=5) rfl) (by
   have e:inP d (.lst st)=some true:=zlt (znm hd) (λy my=>zqm ((hst y).mp my) hd) ((hst d).mpr hd)
   unfold zQ
   simp only[e]
   rfl) rfl) rfl
  have t3:WT (fT (zbc (f2 xu (f1 zZ zgv) ixP) "bool")) (F9 (zc n m J e Ds S) u l0 s a b L st (some (.lf u d)) e7 e8) false:=zM (zhi (zr (za (i:=6) rfl) (zlR zb) b4 rfl) rfl) rfl
  have c2:zO true 2 (zK (aC zx (aC xu Xw)) yr) (F9 (zc n m J e Ds S) u l0 s a b L st (some (.lf u d)) e7 e8)=some (.nx (F9 (zc n m J e Ds S) u l0 s (stp (zc n m J e Ds S) d a) b L st (some (.lf u d)) e7 e8)):=
   xF (i:=2) (ZF (zq (za (i:=0) rfl) (zq (za (i:=6) rfl) (zq (za (i:=2) rfl) zJ))) (by show yr [(true,zc n m J e Ds S),(yc d||u,d),(true,.int a)]=_;rw[fa];exact zpk A hd ha u)) (zB rfl)
  have c3:zO true 3 (zK (aC zx (aC xu Y5)) yr) (F9 (zc n m J e Ds S) u l0 s (stp (zc n m J e Ds S) d a) b L st (some (.lf u d)) e7 e8)=some (.nx (F9 (zc n m J e Ds S) u l0 s (stp (zc n m J e Ds S) d a) (stp (zc n m J e Ds S) d b) L st (some (.lf u d)) e7 e8)):=
   xF (i:=3) (ZF (zq (za (i:=0) rfl) (zq (za (i:=6) rfl) (zq (za (i:=3) rfl) zJ))) (by show yr [(true,zc n m J e Ds S),(yc d||u,d),(true,.int b)]=_;rw[fa];exact zpk A hd hb u)) (zB rfl)
  exact⟨e6',vN (as1:=F9 (zc n m J e Ds S) u l0 s a b L st (some (.lf u d)) e7 e8) rfl (zT (zY (zcV t1 (λ_=>zcV t2 (λ_=>t3) (λz=>nomatch z)) (λz=>nomatch z)) rfl) (zT c2 c3)) hf⟩
abbrev fgS:SF:=(sIf (fT (f2 vh (f2 zA yX ixP) (zQ .Eq))) (yP (f2 (f2 zL (fV 8) (zQ .In)) (f2 yD (fV 8) (zQ .In)) (zQ .NotEq))) sNx)
theorem znw{A:D}{u:Bool}{l:List D}{L:Nat}{e6:Option O}{q:Str×List Int}(hq:decide (a ∈ q.2)≠decide (b ∈ q.2)):∀(T:SS) (e7 e8:Option O),q ∈ T->(T.map (·.1)).Nodup->forL (gT 2 (gsC (gN 7) (gsC (gN 8) gsN))) fgS ((T.map wy).map λd=>(true,d)) (F9 A u l q.1 a b L st e6 e7 e8)=some (.rt (.lf true (.bl true)))
 | [],_,_,h,_=>nomatch h
 |p::T,e7,e8,h,nd=>by
  have nd':=zzT.mp (show(p.1::T.map (·.1)).Nodup from nd)
  by_cases eq:p.1=q.1
  · have:q=p:=by
     rcases zI.mp h with h|h
     · exact h
     · exact absurd (List.mem_map_of_mem (f:=λp:Str×List Int=>p.1) h) (by rw[<-eq];exact nd'.1)
    subst this
    have w1:WD (f2 zL (fV 8) (zQ .In)) (F9 A u l q.1 a b L st e6 (sT (.str q.1)) (sT (zH q.2))) true (.bl (decide (a ∈ q.2))):=zhI (za (i:=2) rfl) (za (i:=8) rfl)
    have w2:WD (f2 yD (fV 8) (zQ .In)) (F9 A u l q.1 a b L st e6 (sT (.str q.1)) (sT (zH q.2))) true (.bl (decide (b ∈ q.2))):=zhI (za (i:=3) rfl) (za (i:=8) rfl)
    have w3:=zei (c:=decide (a ∈ q.2)==decide (b ∈ q.2)) w1 w2 rfl
    rw[show(decide (a ∈ q.2)==decide (b ∈ q.2))=false by simpa using hq]at w3
    exact zfa (as1:=F9 A u l q.1 a b L st e6 (sT (.str q.1)) (sT (zH q.2))) rfl (wU (zM (yG (c:=true) (za (i:=7) rfl) (zr (z:=.str q.1) (za (i:=1) rfl) zb rfl rfl) eqS) rfl) (ZM w3))
  · have hp:q ∈ T:=by
     rcases zI.mp h with h|h
     · exact absurd (by rw[h]) eq
     · exact h
    exact vN (as1:=F9 A u l q.1 a b L st e6 (sT (.str p.1)) (sT (zH p.2))) rfl (zY (zM (yG (c:=false) (za (i:=7) rfl) (zr (z:=.str q.1) (za (i:=1) rfl) zb rfl rfl) (by show some (p.1==q.1)=some false;simp[eq])) rfl) rfl) (znw hq T _ _ hp nd'.2)
theorem zax{l:List D}{s:Str}(A:Alg n m J e Ds)(hS:Sg S)(ha:InR n a)(hb:InR n b)(h:Tl n m J e Ds S a b l s)(u:Bool):yx [(true,zc n m J e Ds S),(u,fgD l s),(true,.int a),(true,.int b),(true,.int (l.length:Nat))]=sT (.bl true):=by
 obtain⟨st,stl,hst,hs⟩:=zhU (S:=S) A
 obtain⟨e6,hf⟩:=zng (S:=S) (u:=u) (l0:=l) (s:=s) (L:=l.length) (e7:=none) (e8:=none) A hst l a b none h.st ha hb
 obtain⟨q,mq,rfl,hq⟩:=h.sg
 have hg:=znw (A:=zc n m J e Ds S) (u:=u) (l:=l) (L:=l.length) (st:=st) (e6:=e6) hq S none none mq hS.2
 have w1:WD (f2 zA zZ ixP) [sT (zc n m J e Ds S),some (.lf u (fgD l q.1)),sI a,sI b,sI (l.length:Nat),none,none,none,none] u (.lst l):=znr (za (i:=1) rfl) zb rfl rfl
 have t1:WT (fT (f2 (fP ZG Yk) Zb (zQ .NotEq))) [sT (zc n m J e Ds S),some (.lf u (fgD l q.1)),sI a,sI b,sI (l.length:Nat),none,none,none,none] false:=zM (zei (c:=true) (vd (x:=.int 3) (zq (za (i:=1) rfl) zJ) rfl rfl) zb rfl) rfl
 have t2:WT (fT (f2 (f2 zA yt ixP) (fC (.str "frame")) (zQ .NotEq))) [sT (zc n m J e Ds S),some (.lf u (fgD l q.1)),sI a,sI b,sI (l.length:Nat),none,none,none,none] false:=zM (zei (c:=true) (zr (z:=.str "frame") (za (i:=1) rfl) zb rfl rfl) zb eqS) rfl
 have t3:WT (Yo (fT (zbc (f2 zA zZ ixP) "list"))) [sT (zc n m J e Ds S),some (.lf u (fgD l q.1)),sI a,sI b,sI (l.length:Nat),none,none,none,none] false:=zeg (k:=true) (zM (zhi w1) rfl)
 have t4:WT (fT (f2 (fP (aC (f2 zA zZ ixP) aN) Yk) yK (zQ .NotEq))) [sT (zc n m J e Ds S),some (.lf u (fgD l q.1)),sI a,sI b,sI (l.length:Nat),none,none,none,none] false:=zM (zei (c:=true) (vd (x:=.int (l.length:Nat)) (zq w1 zJ) rfl rfl) (za (i:=4) rfl) eqI) rfl
 have s5:zO true 5 (zK Y0 wW) [sT (zc n m J e Ds S),some (.lf u (fgD l q.1)),sI a,sI b,sI (l.length:Nat),none,none,none,none]=some (.nx (F9 (zc n m J e Ds S) u l q.1 a b l.length st none none none)):=Zg (p:=5) (zaF (WD.e (za (i:=0) rfl)) hs) (zB rfl)
 have it:Wo (f2 zA zZ ixP) (F9 (zc n m J e Ds S) u l q.1 a b l.length st none none none)=some (l.map λd=>(u,d),F9 (zc n m J e Ds S) u l q.1 a b l.length st none none none):=by
  have w:WD (f2 zA zZ ixP) (F9 (zc n m J e Ds S) u l q.1 a b l.length st none none none) u (.lst l):=znr (za (i:=1) rfl) zb rfl rfl
  have ek:kids u l=l.map λd=>(u,d):=by
   unfold kids
   refine List.map_congr_left λd md=>?_
   rw[(zmY (h.st d md)).1];rfl
  unfold WD at w
  unfold Wo
  rw[w,<-ek];rfl
 exact Z7 rfl (zT (zY (zcV t1 (λ_=>zcV t2 (λ_=>zcV t3 (λ_=>t4) (λz=>nomatch z)) (λz=>nomatch z)) (λz=>nomatch z)) rfl) (zT s5 (zT (xX it hf) (v9 (xX (zde (yR (za (i:=0) rfl) zb rfl)) hg)))))
end
theorem zhV{p:Int->Bool}{N:Nat}(h:∀x,InR N x->p x=false):(yZ N).filter p=[]:=List.filter_eq_nil_iff.mpr λx mx=>by rw[h x (W6 mx)];decide
theorem zfC{p:Int->Bool}{L:Nat}(h0:∀x,InR L x->p x=false)(h1:p (L:Int)=true):∀N,L<N->∃rest,(yZ N).filter p=(L:Int)::rest
 |0,h=>absurd h (Nat.not_lt_zero _)
 |N+1,h=>by
  rw[zge,List.filter_append]
  by_cases e:L=N
  · subst e
    rw[zhV h0]
    exact⟨[],by show List.filter p [(L:Int)]=_;rw[List.filter_cons_of_pos h1];rfl⟩
  · obtain⟨rest,hr⟩:=zfC h0 h1 N (by omega)
    rw[hr];exact⟨_,rfl⟩
theorem zrH{as:AS}{i:Nat}{k:PF.Kind}{os:List O}{fr:AF}{rs:List RV}(h:as[i]? = some (some (.nd k os)))(hr:fr as=some (rs,as)):aC (fV i) fr as=some (.bo i::rs,as):=by
 unfold aC
 rw[zas h]
 simp only[zyI,hr]
 rfl
section
variable{n m:Nat}{J:TZ}{e:Int}{Ds:DZ}{S:SS}{a b:Int}{Ls:TZ}{ns:List Int}
abbrev G8(ns:List Int)(X:D)(Ls:TZ)(e4 e5 e6 e7:Option O):AS:=[sT (.lst (ns.map .int)),sT X,sT X,sT (zP Ls),e4,e5,e6,e7]
abbrev zkK(Ls:TZ)(a b:Int)(k:Int):Bool:=!(rAt (tR Ls k) a==rAt (tR Ls k) b)
theorem zkr(hl:Ls.length=n+1)(hL:∀(k:Nat) (r:List Int),Ls[k]? = some r->Lv n m J e Ds S k r)(ha:InR n a)(hb:InR n b){k:Nat}(hk:k<n+1):(zkK Ls a b (k:Int)=false ↔ Ee n m J e Ds S k a b)/\Lv n m J e Ds S k (tR Ls (k:Int))/\ixP (zP Ls) (.int (k:Int))=some (.im (zH (tR Ls (k:Int)))):=by
 have g:=zzB (l:=Ls) (i:=k) (by omega)
 have e1:tR Ls (k:Int)=Ls[k]'(by omega):=by show(Ls[((k:Int)).toNat]?).getD []=_;rw[zyF,g];rfl
 have lv:=hL k _ g
 rw[<-e1]at lv
 refine⟨?_,lv, ?_⟩
 · rw[<-lv.eq a b ha hb]
   show(!(rAt (tR Ls (k:Int)) a==rAt (tR Ls (k:Int)) b))=false ↔ _
   simp
 · rw[e1];exact V5 (f:=zH) g
theorem zqs{e6 e7:Option O}(n8:n<=8)(hl:Ls.length=n+1)(hL:∀(k:Nat) (r:List Int),Ls[k]? = some r->Lv n m J e Ds S k r)(ha:InR n a)(hb:InR n b):zO true 6 (zR (yU (aC (fP Y5 Yk) aN) yV) [none,some 4,some 5,some 3] yO (fT (f2 (f2 (f2 yD zx ixP) zA ixP) (f2 (f2 yD zx ixP) zL ixP) (zQ .NotEq))) zx) (G8 ns (zc n m J e Ds S) Ls (sI a) (sI b) e6 e7)=some (.nx (G8 ns (zc n m J e Ds S) Ls (sI a) (sI b) (sT (zH ((yZ (n+1)).filter (zkK Ls a b)))) e7)):=by
 have len:WD (fP Y5 Yk) (G8 ns (zc n m J e Ds S) Ls (sI a) (sI b) e6 e7) true (.int ((n+1:Nat):Int)):=by
  have:=vd (g:=Yk) (x:=.int ((Ls.map zH).length:Nat)) (zq (za (as:=G8 ns (zc n m J e Ds S) Ls (sI a) (sI b) e6 e7) (i:=3) rfl) zJ) rfl rfl
  rw[zD,hl]at this
  exact this
 refine Zg (p:=6) (zqW (h:=D.int) (p:=zkK Ls a b) (it:=λx:Int=>(true,D.int x)) (yZ (n+1)) (zbY (zq len zJ) (by omega)) (by rw[zD,zyR];omega) λx mx=>?_) (zB rfl)
 have hx:=W6 mx
 obtain⟨_,lv,hi⟩:=zkr hl hL ha hb (k:=x.toNat) (by have:=hx.1;have:=hx.2;omega)
 rw[show((x.toNat:Nat):Int)=x by have:=hx.1;omega]at lv hi
 exact⟨[sI x,sI a,sI b,sT (zP Ls)],rfl,zM (zei (c:=rAt (tR Ls x) a==rAt (tR Ls x) b) (zr (yR (za (i:=3) rfl) (za (i:=0) rfl) hi) (za (i:=1) rfl) (zgF lv.ln ha) rfl) (zr (yR (za (i:=3) rfl) (za (i:=0) rfl) hi) (za (i:=2) rfl) (zgF lv.ln hb) rfl) rfl) rfl,λ_=>WD.e (za (i:=0) rfl)⟩
theorem znh{l:List D}{s:Str}(A:Alg n m J e Ds)(hl:Ls.length=n+1)(hL:∀(k:Nat) (r:List Int),Ls[k]? = some r->Lv n m J e Ds S k r)(ha:InR n a)(hb:InR n b)(h:Tl n m J e Ds S a b l s):∃rest,(yZ (n+1)).filter (zkK Ls a b)=(l.length:Int)::rest:=by
 have ee:∀k:Nat,k<l.length->Ee n m J e Ds S k a b:=λk hk r hr hrk=>Classical.byContradiction λz=>by have:=h.ls r hr z;omega
 have nl:¬Ee n m J e Ds S l.length a b:=λz=>h.ne (z l h.st (zzK _))
 have ln:l.length<=n:=Nat.le_of_not_lt λz=>nl (PP.zpF (λd v hd hv=>(Xg A hd hv).1) A.n1 ha hb (ee n z) l.length)
 refine zfC (λx hx=>?_) ?_ (n+1) (by omega)
 · have:=(zkr hl hL ha hb (k:=x.toNat) (by have:=hx.1;have:=hx.2;omega)).1.mpr (ee x.toNat (by have:=hx.1;have:=hx.2;omega))
   rw[show((x.toNat:Nat):Int)=x by have:=hx.1;omega]at this
   exact this
 · cases hd:zkK Ls a b (l.length:Int)with
   |true=>rfl
   |false=>exact absurd ((zkr hl hL ha hb (k:=l.length) (by omega)).1.mp hd) nl
abbrev lwB:SF:=(zE (zO true 6 (zR (yU (aC (fP Y5 Yk) aN) yV) [none,some 4,some 5,some 3] yO (fT (f2 (f2 (f2 yD zx ixP) zA ixP) (f2 (f2 yD zx ixP) zL ixP) (zQ .NotEq))) zx))
 (zE (zO false 7 (zK (aC zA (aC yK zdv)) xg))
 (zE (sIf (zaZ (Yo (fT (zbc vh "tuple"))) (fT (f2 zA zL (zQ .NotEq)))) (yP (fC (.bl false))) sNx)
 (zE (sIf (W9 (fT (f2 xu (yW dN) (zQ .Eq))) (fT (f2 vh (yw (dC (fC (.str "alike")) dN)) (zQ .NotEq)))) (yP (fC (.bl false))) sNx)
 (zE (sIf (W9 (fT (f2 xu (yW dN) (zQ .NotEq))) (Yo (fT (zK (aC zL (aC vh (aC yK (aC vC (aC (f2 xu yt ixP) aN))))) yx)))) (yP (fC (.bl false))) sNx)
 (sIf (fT (f2 xu (yW dN) (zQ .NotEq))) (zE (zjS 7 (dC (yw (dC (fC (.str "left")) (dC yt dN))) dN))
 (sIf (Yo (fT (zK (aC zL (aC (zK (aC zA (aC yK zdv)) xg) (aC yK (aC vC (aC (f2 xu yt ixP) aN))))) yx))) (yP (fC (.bl false))) sNx)) sNx))))))
theorem znj{as:AS}(h1:as[1]? = some (sT (zc n m J e Ds S)))(h2:as[2]? = some (sT (zc n m J e Ds S))):WT (fT (f2 zA zL (zQ .NotEq))) as false:=zM (zei (c:=true) (za (i:=1) h1) (za (i:=2) h2) eqA) rfl
theorem zlq{e6 e7:Option O}(A:Alg n m J e Ds)(hS:Sg S)(hl:Ls.length=n+1)(hL:∀(k:Nat) (r:List Int),Ls[k]? = some r->Lv n m J e Ds S k r)(ha:InR n a)(hb:InR n b):∃e6' e7',lwB (G8 ns (zc n m J e Ds S) Ls (sI a) (sI b) e6 e7)=some (.nx (G8 ns (zc n m J e Ds S) Ls (sI a) (sI b) e6' e7')):=by
 have s6:=zqs (ns:=ns) (e6:=e6) (e7:=e7) A.n8 hl hL ha hb
 have nil:∀as:AS,WE (yW dN) as (.lst []):=λas=>vO yd (szl rfl) rfl rfl
 rcases zom (S:=S) A ha hb with⟨hR,ht⟩|⟨l,s,ht,hT⟩
 · have ed:(yZ (n+1)).filter (zkK Ls a b)=[]:=zhV λx hx=>by
    have:=(zkr hl hL ha hb (k:=x.toNat) (by have:=hx.1;have:=hx.2;omega)).1.mpr λr hr _=>hR r hr
    rw[show((x.toNat:Nat):Int)=x by have:=hx.1;omega]at this
    exact this
   rw[ed]at s6
   have s7:=xx (i:=7) (as:=G8 ns (zc n m J e Ds S) Ls (sI a) (sI b) (sT (zH [])) e7) (zjf (WD.e (za (i:=1) rfl)) (WD.e (za (i:=4) rfl)) (WD.e (za (i:=5) rfl)) ht) (zB rfl)
   have t1:WT (Yo (fT (zbc vh "tuple"))) (G8 ns (zc n m J e Ds S) Ls (sI a) (sI b) (sT (zH [])) (sT (.tup [.str "alike"]))) false:=zeg (k:=true) (zM (zhi (za (i:=7) rfl)) rfl)
   have t2:WT (fT (f2 vh (yw (dC (fC (.str "alike")) dN)) (zQ .NotEq))) (G8 ns (zc n m J e Ds S) Ls (sI a) (sI b) (sT (zH [])) (sT (.tup [.str "alike"]))) false:=zM (zjq (q:=true) (WD.e (za (i:=7) rfl)) (zkn (WD.e zb)) (by show eqL (eqF 59) [.str "alike"] [.str "alike"]=_;exact Zy λx mx=>by rw[zzO.mp mx];exact eqS)) rfl
   have d1:WT (fT (f2 xu (yW dN) (zQ .Eq))) (G8 ns (zc n m J e Ds S) Ls (sI a) (sI b) (sT (zH [])) (sT (.tup [.str "alike"]))) true:=zM (zmh (q:=true) (WD.e (za (i:=6) rfl)) (nil _) rfl) rfl
   have d2:WT (fT (f2 xu (yW dN) (zQ .NotEq))) (G8 ns (zc n m J e Ds S) Ls (sI a) (sI b) (sT (zH [])) (sT (.tup [.str "alike"]))) false:=zM (zjq (q:=true) (WD.e (za (i:=6) rfl)) (nil _) rfl) rfl
   exact⟨_,_,zT s6 (zT s7 (zT (zY (zcV t1 (λ_=>znj rfl rfl) (λz=>nomatch z)) rfl) (zT (zY (Vx d1 (λ_=>t2) (λz=>nomatch z)) rfl) (zT (zY (Vx d2 (λz=>nomatch z) (λ_=>rfl)) rfl) (zY d2 rfl)))))⟩
 · obtain⟨rest,ed⟩:=znh A hl hL ha hb hT
   rw[ed]at s6
   have tw:∀as:AS,as[1]? = some (sT (zc n m J e Ds S))->as[4]? = some (sI a)->as[5]? = some (sI b)->zK (aC zA (aC yK zdv)) xg as=some (.ow (tO l s),as):=λas h1 h4 h5=>ZF (zq (za (i:=1) h1) (zq (za (i:=4) h4) (zq (za (i:=5) h5) zJ))) ht
   have s7:=xx (i:=7) (as:=G8 ns (zc n m J e Ds S) Ls (sI a) (sI b) (sT (zH ((l.length:Int)::rest))) e7) (tw _ rfl rfl rfl) (zB rfl)
   have t1:WT (Yo (fT (zbc vh "tuple"))) (G8 ns (zc n m J e Ds S) Ls (sI a) (sI b) (sT (zH ((l.length:Int)::rest))) (some (tO l s))) false:=rfl
   have d1:∀e7:Option O,WT (fT (f2 xu (yW dN) (zQ .Eq))) (G8 ns (zc n m J e Ds S) Ls (sI a) (sI b) (sT (zH ((l.length:Int)::rest))) e7) false:=λe7=>zM (zmh (q:=false) (WD.e (za (i:=6) rfl)) (nil _) rfl) rfl
   have d2:∀e7:Option O,WT (fT (f2 xu (yW dN) (zQ .NotEq))) (G8 ns (zc n m J e Ds S) Ls (sI a) (sI b) (sT (zH ((l.length:Int)::rest))) e7) true:=λe7=>zM (zjq (q:=false) (WD.e (za (i:=6) rfl)) (nil _) rfl) rfl
   have d0:∀e7:Option O,WD (f2 xu yt ixP) (G8 ns (zc n m J e Ds S) Ls (sI a) (sI b) (sT (zH ((l.length:Int)::rest))) e7) true (.int (l.length:Nat)):=λe7=>zr (za (i:=6) rfl) zb (V5 (f:=D.int) (l:=(l.length:Int)::rest) (i:=0) rfl) rfl
   have tl:∀e7:Option O,WA (aC yK (aC vC (aC (f2 xu yt ixP) aN))) (G8 ns (zc n m J e Ds S) Ls (sI a) (sI b) (sT (zH ((l.length:Int)::rest))) e7) [(true,.int a),(true,.int b),(true,.int (l.length:Nat))]:=λe7=>zq (za (i:=4) rfl) (zq (za (i:=5) rfl) (zq (d0 e7) zJ))
   have eT:(tO l s).toD=fgD l s:=by
    show D.tup [.str "frame",.lst (O.toDs (l.map (O.lf true))),.str s]=_
    rw[zbz]
   have eS:(tO l s).str=true:=by
    show(true&&((O.strs (l.map (O.lf true)))&&(true&&true)))=true
    rw[zbt];rfl
   have f1:zK (aC zL (aC vh (aC yK (aC vC (aC (f2 xu yt ixP) aN))))) yx (G8 ns (zc n m J e Ds S) Ls (sI a) (sI b) (sT (zH ((l.length:Int)::rest))) (some (tO l s)))=some (.ow (.lf true (.bl true)),G8 ns (zc n m J e Ds S) Ls (sI a) (sI b) (sT (zH ((l.length:Int)::rest))) (some (tO l s))):=by
    have h7:=zrH (as:=G8 ns (zc n m J e Ds S) Ls (sI a) (sI b) (sT (zH ((l.length:Int)::rest))) (some (tO l s))) (i:=7) rfl (tl (some (tO l s)))
    refine zhP (rs:=.ow (.lf true (zc n m J e Ds S)) :: .bo 7::[.ow (.lf true (.int a)),.ow (.lf true (.int b)),.ow (.lf true (.int (l.length:Nat)))]) ?_ (xs:=[(true,zc n m J e Ds S),(false,(tO l s).toD),(true,.int a),(true,.int b),(true,.int (l.length:Nat))]) rfl (by rw[eT];exact zax A hS ha hb hT false)
    unfold aC at h7 ⊢
    show((aC vh (aC yK (aC vC (aC (f2 xu yt ixP) aN))) (G8 ns (zc n m J e Ds S) Ls (sI a) (sI b) (sT (zH ((l.length:Int)::rest))) (some (tO l s)))).bind _)=_
    unfold aC
    rw[h7];rfl
   have f2':WD (zK (aC zL (aC (zK (aC zA (aC yK zdv)) xg) (aC yK (aC vC (aC (f2 xu yt ixP) aN))))) yx) (G8 ns (zc n m J e Ds S) Ls (sI a) (sI b) (sT (zH ((l.length:Int)::rest))) none) true (.bl true):=
    ZF (zq (za (i:=2) rfl) (Yp ⟨tO l s,tw _ rfl rfl rfl,eS,eT⟩ (tl none))) (zax A hS ha hb hT true)
   have ap:zjS 7 (dC (yw (dC (fC (.str "left")) (dC yt dN))) dN) (G8 ns (zc n m J e Ds S) Ls (sI a) (sI b) (sT (zH ((l.length:Int)::rest))) (some (tO l s)))=some (.nx (G8 ns (zc n m J e Ds S) Ls (sI a) (sI b) (sT (zH ((l.length:Int)::rest))) none)):=by
    show(if(l.map (O.lf true)).length<sizeLine/\1=1 then some (Out.nx (G8 ns (zc n m J e Ds S) Ls (sI a) (sI b) (sT (zH ((l.length:Int)::rest))) none))else none)=_
    rw[if_pos ⟨by rw[zD];exact Nat.lt_of_le_of_lt hT.ln (by decide),rfl⟩]
   have t3:WT (fT (zK (aC zL (aC vh (aC yK (aC vC (aC (f2 xu yt ixP) aN))))) yx)) (G8 ns (zc n m J e Ds S) Ls (sI a) (sI b) (sT (zH ((l.length:Int)::rest))) (some (tO l s))) true:=zM (s:=true) (x:=.bl true) f1 rfl
   exact⟨_,_,zT s6 (zT s7 (zT (zY (zcV t1 (λ_=>znj rfl rfl) (λz=>nomatch z)) rfl) (zT (zY (Vx (d1 _) (λz=>nomatch z) (λ_=>rfl)) rfl) (zT (zY (Vx (d2 _) (λ_=>zeg (k:=true) t3) (λz=>nomatch z)) rfl) (wU (d2 _) (zT ap (zY (zeg (k:=true) (zM f2' rfl)) rfl)))))))⟩
theorem zkc(A:Alg n m J e Ds)(hS:Sg S)(hl:Ls.length=n+1)(hL:∀(k:Nat) (r:List Int),Ls[k]? = some r->Lv n m J e Ds S k r):∀(ps:List (Int×Int)) (e4 e5 e6 e7:Option O),(∀p ∈ ps,InR n p.1/\InR n p.2)->∃as',forL (gT 2 (gsC Xz (gsC (gN 5) gsN))) lwB ((ps.map pD).map λd=>(true,d)) (G8 ns (zc n m J e Ds S) Ls e4 e5 e6 e7)=some (.nx as')
 | [],_,_,_,_,_=>⟨_,rfl⟩
 |p::ps,e4,e5,e6,e7,h=>by
  obtain⟨h1,h2⟩:=h p (zzC ..)
  obtain⟨e6',e7',hb⟩:=zlq (ns:=ns) (e6:=e6) (e7:=e7) A hS hl hL h1 h2
  obtain⟨as',hf⟩:=zkc A hS hl hL ps (sI p.1) (sI p.2) e6' e7' λq mq=>h q (zzA _ mq)
  exact⟨as',vN (as1:=G8 ns (zc n m J e Ds S) Ls (sI p.1) (sI p.2) e6 e7) rfl hb hf⟩
end
theorem zlE:∀ns:List Int,ns.length<=63->zew [(true,.lst (ns.map .int))]=sT (.bl true):=λns hns=>by
 obtain⟨n,m,J,e,Ds,S,A,hS,hA⟩:=zrm (ns:=ns)
 obtain⟨c3,h3⟩:=zdF (ns:=ns) (k:=3) (s:=true) (t:=true) (by omega)
 obtain⟨Ls,hl,hL,hLv⟩:=zkQ A hS.1
 obtain⟨ps,hp,hP⟩:=zmW (c:=c3) A.n1 A.n8
 have s1:=Zg (p:=1) (as:=[sT (.lst (ns.map .int)),none,none,none,none,none,none,none]) (zaF (WD.e (za (i:=0) rfl)) hA) (zB rfl)
 have s2:=Zg (p:=2) (as:=[sT (.lst (ns.map .int)),sT (zc n m J e Ds S),none,none,none,none,none,none]) (zaF (WD.e (za (i:=0) rfl)) hA) (zB rfl)
 have s3:=Zg (p:=3) (as:=[sT (.lst (ns.map .int)),sT (zc n m J e Ds S),sT (zc n m J e Ds S),none,none,none,none,none]) (zaF (WD.e (za (i:=2) rfl)) hLv) (zB rfl)
 obtain⟨as',hf⟩:=zkc (ns:=ns) A hS hl hL ps none none none none hp
 exact Z7 rfl (zT s1 (zT s2 (zT s3 (zT (xX (zni (Vj (WD.e (zr (za (i:=1) rfl) zb rfl rfl)) (WD.e (zbA (zq (za (i:=0) rfl) (zq zb zJ)) h3)) hP)) hf) (ZM zb)))))
end G51
end
open PySem PySem.W PyProof.Rows
set_option maxRecDepth 100000 in
set_option maxHeartbeats 0 in
theorem PySem.Challenge.cw_stretchdeeds_k51_told_apart_holds : PySem.Challenge.rw_stretchdeeds_k51_told_apart.Holds := by
 w_on;refine holds_law G51.ws λsaid=>?_
 refine holds_open (q:=G51.qv) (loose:=[]) (Xt:=G51.Xt) (XP:=XL G51.qv []) (Yf:=Hook.obs (kHook G51.K G51.kA G51.kAe)) (Ya:=Hook.val (kHook G51.K G51.kA G51.kAe)) (YP:=Hook.says (kHook G51.K G51.kA G51.kAe)) (N:=6000) G51.hl (Hook.of (kHook G51.K G51.kA G51.kAe)) (Hook.keeps (kHook G51.K G51.kA G51.kAe)) (λs e=>xl_of s (Bool.and_eq_true_iff.mp e).1) XL.keeps (by rfl) (by rfl) (by rfl) (λs e=>recFacts_of (Bool.and_eq_true_iff.mp e).2) (by rfl) (by first|assumption|decide +kernel) (by decide +kernel) ⟨rfl,rfl,rfl,rfl,rfl,by decide +kernel⟩ ?hw ?hc
 (case hw=>w_witness2)
 k_fill
 refine G51.walk (l:=PySem.Challenge.rw_stretchdeeds_k51_told_apart) rfl rfl (λw h Y=>PySem.W.kIn_of Y) G51.zlE ?F
 case F=>
  intro w mg fa h KX G hmg
  refine' G51.zpL KX G hmg ?_ ?_ ?_ ?_ ?_ ?_ ?_ ?_ ?_ ?_ ?_ ?_ ?_ ?_ ?_ ?_ ?_ ?_ ?_ ?_ ?_ ?_ ?_ ?_ ?_ ?_ ?_ ?_ ?_ ?_ ?_ ?_ ?_ ?_ ?_ ?_ ?_ ?_ ?_ ?_ ?_ ?_ ?_ ?_ ?_ ?_ ?_ ?_ ?_ ?_ ?_ ?_ ?_ ?_ ?_ ?_ ?_ ?_ ?_ ?_ ?_ ?_ ?_ ?_ ?_ ?_ ?_ ?_ ?_ ?_ ?_ ?_ ?_
  all_goals try first|k_is|(change _=_;k_is)|exact⟨_,⟨_,_,_,_,_,_,_,_,_,rfl,by k_is,by k_is⟩,by k_is⟩|rfl
#print axioms PySem.Challenge.cw_stretchdeeds_k51_told_apart_holds
