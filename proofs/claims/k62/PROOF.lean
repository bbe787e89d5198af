import PyProof.Rows.All
import Wide.All
import OpenK.AllK
import Wide.FinOn
import PyProof.EqAt
import PyProof.EqKinds
import PyProof.TupleCall
import PyProof.NeKinds
import PyProof.AutoSeq1
import KE.LcSums
import PyProof.Rows.StrWeight2
import PyProof.StrBlockG
import KE.KIntText
import PyProof.CallStr
import PyProof.WalksEnum
import PyProof.Rows.EnumRows
import PyProof.Rows.FactsT2
import KE.KRevIter
import PyProof.StrWalks
import PyProof.ReprRoads
import PyProof.StrLawsTight
import PyProof.Rows.StrItems
import PyProof.Rows.ReprOcc
import PyProof.Rows.StrJoinMade
import PyProof.ReprLen
import PyProof.ZipIter
import PyProof.Rows.SortWalk
import PyProof.ListRange
import PyProof.AttrMissHeap
import PyProof.Rows.SumAny
import PyProof.Rows.TupDisplay
import PyProof.DictRoadsH
import KE.KDictLaws
import PyProof.Rows.SetFrom
import PyProof.StrLawsRepr
import PyProof.SetKind
import PyProof.CollectWalk
import PyProof.ForAny
import PyProof.SetRoads
import PyProof.FactsAll.set
import PyProof.Rows.SortShell
import Lean
import PySem.Challenge.RW_stretchdeeds_k62_only_what_is_let_by
set_option Elab.async false
set_option linter.all false
set_option maxRecDepth 100000
set_option genSizeOf false
set_option bootstrap.genMatcherCode false
noncomputable section
abbrev zzA:=PySem.W.Frag
abbrev zzB:=@List.length_map
abbrev zzC:=@List.mem_cons
abbrev zzD:=@List.mem_cons_of_mem
abbrev zzE:=@List.getElem?_eq_getElem
abbrev zzF:=@List.mem_cons_self
abbrev zzG:=@List.getElem?_eq_some_iff
abbrev zzH:=@List.size_toArray
abbrev zzI:=@List.getElem?_map
abbrev zzJ:=@List.length_append
abbrev zzK:=@Nat.lt_of_lt_of_le
abbrev zzL:=@List.mem_append_right
abbrev zzM:=@List.mem_append
abbrev zzN:=@Nat.le_refl
abbrev zzO:=@Nat.le_trans
abbrev zzP:=@List.mem_append_left
abbrev zzQ:=@Nat.ne_of_lt
abbrev zzR:=@List.mem_singleton
abbrev zzS:=@List.length_take
abbrev zzT:=@List.length_cons
abbrev zzU:=@List.length_set
abbrev zzV:=@Int.natCast_mul
abbrev zzW:=@List.nodup_cons
abbrev zzX:=@Option.map_eq_some_iff
abbrev zzY:=@List.getElem?_set_ne
abbrev zzZ:=@Option.some.inj
abbrev zyA:=@List.mem_of_getElem?
abbrev zyB:=@List.map_map
abbrev zyC:=@Bool.and_eq_true
abbrev zyD:=@Bool.or_true
abbrev zyE:=@List.append_nil
abbrev zyF:=@List.getD_eq_getElem?_getD
abbrev zyG:=@decide_eq_false
abbrev zyH:=@Int.emod_lt_of_pos
abbrev zyI:=@Int.toNat_natCast
abbrev zyJ:=@List.nodup_nil
abbrev zyK:=@List.getElem?_set_self
abbrev zyL:=@Option.bind_some
abbrev zyM:=@List.map_append
abbrev zyN:=@Int.emod_nonneg
abbrev zyO:=@decide_eq_true
abbrev zyP:=@List.getElem?_append_left
abbrev zyQ:=@List.drop_eq_getElem_cons
abbrev zyR:=@List.getElem?_append_right
abbrev zyS:=@List.map_cons
abbrev zyT:=@Array.length_toList
abbrev zyU:=@List.length_range
abbrev zyV:=@List.getElem?_of_mem
abbrev zyW:=@Bool.false_ne_true
abbrev zyX:=@Nat.le_succ
abbrev zyY:=@Nat.zero_add
abbrev zyZ:=@Int.toNat_of_nonneg
abbrev zxA:=@List.getElem_mem
abbrev zxB:=@Nat.lt_succ_of_lt
abbrev zxC:=@List.not_mem_nil
abbrev zxD:=@List.append_assoc
abbrev zxE:=@List.mem_map
abbrev zxF:=@List.nodup_append
abbrev zxG:=@PySem.wpAny_bind
abbrev zxH:=@PySem.wpAny_pure
abbrev zxI:=@PySem.Heap.get?_push_of_some
abbrev zxJ:=@PySem.Heap.lt_size
abbrev zxK:=@PySem.Heap.get?_push_size
abbrev zxL:=@PySem.wpAny_newObj_type
abbrev zxM:=@PySem.Around.under_plainId
abbrev zxN:=@PySem.wpAny_holding
abbrev zxO:=@PySem.Heap.get?_update_other
abbrev zxP:=@PySem.codeAny_builtin
abbrev zxQ:=@PySem.plainId_quiet
abbrev zxR:=@PySem.Heap.size_push
abbrev zxS:=@PySem.Heap.get?_update_self
abbrev zxT:=@PySem.wpAny_mono
abbrev zxU:=@PySem.wpAny_call_entry
section
namespace L2
open PySem PySem.Spec PyProof.Rows
abbrev Key:=Sum Int Str
def PK:Key->Value->Bool
 | .inl k,v=>Value.isInt k v
 | .inr x,v=>Value.isStrOf x v
def rC(w:World):Key->Int
 | .inl k=>hashInt k
 | .inr x=>hashStr w x
def yF:∀{k:Key}{v:Value},PK k v=true->(∃i t,k=Sum.inl i/\v=Value.int i t)\/(∃x t,k=Sum.inr x/\v=Value.str x t)
 | .inl i,v,h=>by
  obtain⟨t,e⟩:=Value.isInt_shape h;exact .inl ⟨i,t,rfl,e⟩
 | .inr x,v,h=>by
  obtain⟨t,e⟩:=Value.isStrOf_shape h;exact .inr ⟨x,t,rfl,e⟩
def EG(i)(t):PK (.inl i) (.int i t)=true:=by simp[PK,Value.isInt]
def EL(x)(t):PK (.inr x) (.str x t)=true:=by simp[PK,Value.isStrOf]
def JU(a b):decide ((Sum.inl a:Key)=Sum.inl b)=(a==b):=by
 by_cases e:a=b
 . subst e;simp
 . have h:¬(Sum.inl a:Key)=Sum.inl b:=λq=>e (Sum.inl.inj q);rw[zyG h];exact(beq_eq_false_iff_ne.mpr e).symm
def Jx(a b):decide ((Sum.inr a:Key)=Sum.inr b)=decide (a=b):=by
 by_cases e:a=b
 . subst e;simp
 . have h:¬(Sum.inr a:Key)=Sum.inr b:=λq=>e (Sum.inr.inj q);rw[zyG h,zyG e]
def J8(a)(b):decide ((Sum.inl a:Key)=Sum.inr b)=false:=zyG (λq=>nomatch q)
def A4(a)(b):decide ((Sum.inr a:Key)=Sum.inl b)=false:=zyG (λq=>nomatch q)
def yy(prog:Program)(w:World):PySem.KeyKind prog w Key where
 is:=PK
 hash:=rC w
 inj:=λv a b ha hb=>by
  rcases yF ha with⟨i,t,rfl,rfl⟩|⟨x,t,rfl,rfl⟩
  . rcases yF hb with⟨j,u,rfl,e⟩|⟨y,u,rfl,e⟩
    . injection e with e1 _;rw[e1]
    . exact nomatch e
  . rcases yF hb with⟨j,u,rfl,e⟩|⟨y,u,rfl,e⟩
    . exact nomatch e
    . injection e with e1 _;rw[e1]
 byValue:=λk v h=>by
  rcases yF h with⟨i,t,rfl,rfl⟩|⟨x,t,rfl,rfl⟩<;>rfl
 pyHash:=λhv h=>by
  rcases yF hv with⟨i,t,rfl,rfl⟩|⟨x,t,rfl,rfl⟩
  . exact wpAny_pyHash_int h
  . exact wpAny_pyHash_str h
 eqBool:=λhu hv h=>by
  rcases yF hu with⟨i,t,rfl,rfl⟩|⟨x,t,rfl,rfl⟩
  . rcases yF hv with⟨j,u,rfl,rfl⟩|⟨y,u,rfl,rfl⟩
    . rw[JU]at h;exact wpAny_eqBool_int h
    . rw[J8]at h;exact SeqAt.EqAt.int_str i t y u _ _ _ _ h
  . rcases yF hv with⟨j,u,rfl,rfl⟩|⟨y,u,rfl,rfl⟩
    . rw[A4]at h;exact SeqAt.EqAt.str_int x t j u _ _ _ _ h
    . rw[Jx]at h;exact wpAny_eqBool_str h
 «strs» := λk x t v h=>by
  rcases yF h with⟨i,u,rfl,e⟩|⟨y,u,rfl,e⟩
  . exact nomatch e
  . injection e with e1 _
    subst e1;cases v<;>rfl
def Kx(prog)(w)(i)(t):(yy prog w).is (.inl i) (.int i t)=true:=EG i t
def Y9(prog)(w)(x)(t):(yy prog w).is (.inr x) (.str x t)=true:=EL x t
end L2
namespace L2
open PySem PySem.Spec PyProof.Rows
inductive V where
 |non|bl (b:Bool)|int (i:Int)|str (x:Str)|byt (b:Array UInt8)|flt (b:UInt64)|ref (a:Addr)|ty (n:String)
 deriving DecidableEq
def RelV:V->Value->Prop
 | .non,u=>u=Value.none
 | .bl b,u=>u=Value.bool b
 | .int i,u=>∃t,u=Value.int i t
 | .str x,u=>∃t,u=Value.str x t
 | .byt b,u=>∃t,u=Value.bytes b t
 | .flt b,u=>∃t,u=Value.float b t
 | .ref a,u=>u=Value.ref a
 | .ty n,u=>u=Value.type n
abbrev zK:List V->List Value->Prop:=Paired RelV
theorem zK.length(r:zK xs us):xs.length=us.length:=Paired.length r
theorem zK.get:∀{xs:List V}{us:List Value}{i:Nat}{x:V},zK xs us->xs[i]? = some x->∃u,us[i]? = some u/\RelV x u
 |_,_,_,_,.nil,e=>by simp at e
 |_,_,0,_,.cons r _,e=>by simp at e;subst e;exact⟨_,rfl,r⟩
 |_,_,i+1,x,.cons _ t,e=>by
  obtain⟨u,h1,h2⟩:=zK.get t (by simpa using e);exact⟨u,by simpa using h1,h2⟩
theorem zK.set(r:RelV x u):∀{xs:List V}{us:List Value}(i:Nat),zK xs us->zK (xs.set i x) (us.set i u)
 |_,_,_,.nil=>.nil
 |_,_,0,.cons _ t=>.cons r t
 |_,_,i+1,.cons q t=>.cons q (zK.set r i t)
theorem zK.append:∀{xs ys:List V}{us ws:List Value},zK xs us->zK ys ws->zK (xs++ys) (us++ws)
 |_,_,_,_,.nil,s=>s
 |_,_,_,_,.cons r t,s=>.cons r (zK.append t s)
theorem zK.take:∀{xs:List V}{us:List Value}(n:Nat),zK xs us->zK (xs.take n) (us.take n)
 |_,_,0,_=>.nil
 |_,_,_+1,.nil=>.nil
 |_,_,n+1,.cons r t=>.cons r (zK.take n t)
theorem zK.drop:∀{xs:List V}{us:List Value}(n:Nat),zK xs us->zK (xs.drop n) (us.drop n)
 |_,_,0,r=>r
 |_,_,_+1,.nil=>.nil
 |_,_,n+1,.cons _ t=>zK.drop n t
def WG:Option V->Option Value->Prop
 |some v,some u=>RelV v u
 |none,none=>True
 |_,_=>False
def KV{κ:Type}:List (κ×V)->List (κ×Value)->Prop:=Paired λ(p:κ×V) (q:κ×Value)=>p.1=q.1/\RelV p.2 q.2
noncomputable def kV:Key->V
 | .inl i=>.int i
 | .inr x=>.str x
inductive HO where
 |lst (xs:List V)
 |tup (xs:List V)
 |dK (kvs:List (Key×V))|dT (kvs:List (List Key×V))
 |set (S:Int->Bool) (n:Nat)
 |ins (C dx:Addr) (fs:List (Str×V))
 |own (x:Addr)
 |xd (fs:List (Str×V))
 |met (f x:Addr)
 |rng (lo hi:Int)
 |frz (o:Obj) (u:HO)
 |X3 (ps:Array Value)
 |ext (φ:Heap->Prop)
abbrev Hp:=Addr->Option HO
def upd(H:Hp)(a:Addr)(o:HO):Hp:=λb=>if b=a then some o else H b
def zA:upd H a o a=some o:=by unfold upd;rw[if_pos rfl]
def zr(h:b≠a):upd H a o b=H b:=by unfold upd;rw[if_neg h]
def Dt{H:Hp}{a b o u}(h:H a=some o)(h':H b=some u)(d:o≠u):a≠b:=by
 intro e;subst e;rw[h]at h';exact d (zzZ h')
def zO{H:Hp}{a b o}(h:H a=some o)(h':H b=none):a≠b:=by
 intro e;subst e;rw[h]at h';cases h'
section
variable(P:Program)(w:World)
def xy(H:Hp)(h:Heap)(a:Addr):HO->Prop
 | .lst xs=>xs.length<=sizeLine/\∃(its:List Value) (n:Nat),zK xs its/\h.get? a=some {cls:=.type "list",data:=.seq its.toArray n}
 | .tup xs=>xs.length<=sizeLine/\∃its:List Value,zK xs its/\IsTup h a its.toArray
 | .dK kvs=>kvs.length<=sizeLine/\(a==sysModules)=false/\∃vs,KV kvs vs/\h.DictOf (yy P w) a vs
 | .dT kvs=>kvs.length<=sizeLine/\(a==sysModules)=false/\∃xs:List (List Key×Addr×Value),
  Paired (λ(p:List Key×V) (q:List Key×Addr×Value)=>p.1=q.1/\H q.2.1=some (.tup (p.1.map kV))/\RelV p.2 q.2.2) kvs xs/\
  ∃o es ep,h.get? a=some o/\o.ExactDict/\o.data = .dict es ep/\es.toList=xs.map (entryOfKey (tupleKind (yy P w)))/\(xs.map (·.1)).Nodup
 | .set S n=>h.SetOf (intKind P w) a S n
 | .ins C dx fs=>H dx=some (.own a)/\fs.length<=1000/\dx≠a/\h.get? a=some (W.instObj C dx)/\
  ∃mA,h.Ns1 dx mA/\(∀f,WG (fs.lookup f) (mA f))/\PySem.Within mA (fs.map (·.1))
 | .own _=>∃o,h.get? a=some o
 | .xd fs=>∃mA,h.Ns1 a mA/\∀f,WG (fs.lookup f) (mA f)
 | .rng lo hi=>∃t u v,h.get? a=some {cls:=.type "range",data:=.fields #[.int lo t,.int hi u,.int 1 v]}
 | .frz o u=>h.get? a=some o/\xy H h a u
 | .X3 ps=>h.get? a=some {cls:=.none,data:=.fields ps}
 | .met f x=>h.get? a=some (W.methodObj (.ref f) (.ref x))
 | .ext φ=>φ h/\(∃o,h.get? a=some o)/\∀h1 h2:Heap,φ h1->(∀o,h1.get? a=some o->h2.get? a=some o)->φ h2
def Wj(H:Hp)(h:Heap):Prop:=∀a o,H a=some o->xy P w H h a o
end
section
variable{P:Program}{w:World}{H H':Hp}{h h':Heap}{a:Addr}{o:HO}
theorem xy.lt(x:xy P w H h a o):a<h.objs.size:=by
 cases o with
 |lst xs=>obtain⟨_,_,_,_,e⟩:=x;exact zxJ e
 |tup xs=>obtain⟨_,_,_,p⟩:=x;exact p.lt
 |dK kvs=>obtain⟨_,_,_,_,o,_,_,e,_⟩:=x;exact zxJ e
 |dT kvs=>obtain⟨_,_,_,_,o,_,_,e,_⟩:=x;exact zxJ e
 |set S n=>obtain⟨o,_,_,_,e,_⟩:=x;exact zxJ e
 |ins C dx fs=>obtain⟨_,_,_,e,_⟩:=x;exact zxJ e
 |own y=>obtain⟨_,e⟩:=x;exact zxJ e
 |xd fs=>obtain⟨_,⟨_,_,_,e,_⟩,_⟩:=x;exact zxJ e
 |rng lo hi=>obtain⟨_,_,_,e⟩:=x;exact zxJ e
 |frz ob u=>obtain⟨e,_⟩:=x;exact zxJ e
 |X3 ps=>exact zxJ (x)
 |met f y=>exact zxJ (x)
 |ext φ=>obtain⟨_,⟨_,e⟩,_⟩:=x;exact zxJ e
theorem Paired.mapP:∀{l₁:List α}{l₂:List β},Paired F l₁ l₂->(∀a b,F a b->G a b)->Paired G l₁ l₂
 |_,_,.nil,_=>.nil
 |_,_,.cons r t,f=>.cons (f _ _ r) (Paired.mapP t f)
def xy.stay(x:xy P w H h a o)(k:∀b u,(b=a\/H b=some (.own a))->h.get? b=some u->h'.get? b=some u)
 (ho:∀b,H b=some (.own a)->H' b=some (.own a)) (ht:∀b xs,H b=some (.tup xs)->H' b=some (.tup xs)):xy P w H' h' a o:=by
 induction o with
 |lst xs=>obtain⟨z,its,n,r,e⟩:=x;exact⟨z,its,n,r,k _ _ (.inl rfl) e⟩
 |tup xs=>obtain⟨z,its,r,ob,e,c⟩:=x;exact⟨z,its,r,ob,k _ _ (.inl rfl) e,c⟩
 |dK kvs=>obtain⟨z,y,vs,r,ob,es,ep,e,c⟩:=x;exact⟨z,y,vs,r,ob,es,ep,k _ _ (.inl rfl) e,c⟩
 |dT kvs=>
  obtain⟨z,y,xs,r,ob,es,ep,e,c⟩:=x;exact⟨z,y,xs,Paired.mapP r λp q z=>⟨z.1,ht _ _ z.2.1,z.2.2⟩,ob,es,ep,k _ _ (.inl rfl) e,c⟩
 |set S n=>obtain⟨ob,es,ep,t,e,c⟩:=x;exact⟨ob,es,ep,t,k _ _ (.inl rfl) e,c⟩
 |ins C dx fs=>
  obtain⟨d,z,ne,e,mA,⟨od,es,ep,e2,c⟩,r⟩:=x;exact⟨ho _ d,z,ne,k _ _ (.inl rfl) e,mA,⟨od,es,ep,k _ _ (.inr d) e2,c⟩,r⟩
 |own y=>obtain⟨ob,e⟩:=x;exact⟨ob,k _ _ (.inl rfl) e⟩
 |xd fs=>obtain⟨mA,⟨od,es,ep,e,c⟩,r⟩:=x;exact⟨mA,⟨od,es,ep,k _ _ (.inl rfl) e,c⟩,r⟩
 |rng lo hi=>obtain⟨t,u,v,e⟩:=x;exact⟨t,u,v,k _ _ (.inl rfl) e⟩
 |frz ob u ih=>obtain⟨e,q⟩:=x;exact⟨k _ _ (.inl rfl) e,ih q⟩
 |X3 ps=>
  have e:=x;exact k a _ (.inl rfl) e
 |met f y=>
  have e:=x;exact k a _ (.inl rfl) e
 |ext φ=>obtain⟨p,⟨o,e⟩,st⟩:=x;exact⟨st _ _ p λo q=>k _ _ (.inl rfl) q,⟨o,k _ _ (.inl rfl) e⟩,st⟩
theorem Wj.lt(x:Wj P w H h)(e:H a=some o):a<h.objs.size:=(x a o e).lt
def Wj.fresh(x:Wj P w H h)(e:h.objs.size<=a):H a=none:=by
 cases q:H a with
 |none=>rfl
 |some u=>exact absurd (zzK (x.lt q) e) (Nat.lt_irrefl _)
def Wj.kept(x:Wj P w H h)(k:∀b u,h.get? b=some u->h'.get? b=some u):Wj P w H h':=λa o e=>
 (x a o e).stay (λb u _ q=>k b u q) (λ_ q=>q) λ_ _ q=>q
def Wj.laid(x:Wj P w H h)(k:∀b u,h.get? b=some u->h'.get? b=some u)(hp:h.objs.size<=a)(new:xy P w (upd H a o) h' a o):Wj P w (upd H a o) h':=λb u e=>by
 have hn:=x.fresh hp
 by_cases hb:b=a
 . subst hb;rw[zA]at e;cases e;exact new
 . rw[zr hb]at e;exact(x b u e).stay (λc v _ q=>k c v q) (λc q=>by rw[zr (zO q hn)];exact q) λc xs q=>by rw[zr (zO q hn)];exact q
end
def Rd(H:Hp)(a:Addr)(u:HO):Prop:=H a=some u\/∃o,H a=some (.frz o u)
def Rd.ok(r:Rd H a u)(x:Wj P w H h):xy P w H h a u:=by
 rcases r with r|⟨o,r⟩
 . exact x a u r
 . obtain⟨_,q⟩:=x a _ r;exact q
def uJ:Option HO->Prop
 |some (.lst _)=>True
 |some (.dK _)=>True
 |some (.dT _)=>True
 |some (.set _ _)=>True
 |some (.ins _ _ _)=>True
 |some (.ext _)=>True
 |_=>False
section
variable{P:Program}{w:World}{H:Hp}{h h':Heap}{x e:Addr}{o':HO}
def Wj.write(ok:Wj P w H h)(mu:uJ (H x))(he:e=x\/H e=some (.own x))(k:∀b u,b≠e->h.get? b=some u->h'.get? b=some u)(heo:∃u,h'.get? e=some u)
 (new:xy P w (upd H x o') h' x o'):Wj P w (upd H x o') h':=λb u q=>by
 have nown:∀c y,H c=some (.own y)->c≠x:=λc y r z=>by subst z;rw[r]at mu;exact mu
 have ntup:∀c xs,H c=some (.tup xs)->c≠x:=λc xs r z=>by subst z;rw[r]at mu;exact mu
 by_cases hb:b=x
 . subst hb;rw[zA]at q;cases q;exact new
 . rw[zr hb]at q
   by_cases hbe:b=e
   . have q':H b=some (.own x):=by
      rcases he with z|z
      . exact absurd (hbe.trans z) hb
      . rw[hbe];exact z
     rw[q]at q';cases q';obtain⟨v,hv⟩:=heo;exact⟨v,by rw[hbe];exact hv⟩
   . refine(ok b u q).stay (λc v hc r=>k c v ?_ r) (λc r=>by rw[zr (nown c b r)];exact r) λc xs r=>by rw[zr (ntup c xs r)];exact r
     rcases hc with rfl|hc
     . exact hbe
     . rintro rfl
       rcases he with z|z
       . exact nown c b hc z
       . rw[hc]at z;cases z;exact hb rfl
end
structure Un(fs ex:List Addr)(H H':Hp)(h h':Heap):Prop where
 keep:∀b o,h.get? b=some o->H b=none->b ∉ fs->b ∉ ex->h'.get? b=some o
 slot:∀b o,h.get? b=some o->H b=none->b ∈ fs->b ∉ ex->∃sl,h'.get? b=some {o with slots:=sl}
 free:∀b o,h.get? b=some o->H b=none->b ∉ ex->H' b=none
 there:∀b o,h.get? b=some o->b ∉ ex->∃o',h'.get? b=some o'
 tups:∀b xs,H b=some (.tup xs)->H' b=some (.tup xs)
 frzs:∀b o u,H b=some (.frz o u)->H' b=some (.frz o u)
 tbls:∀b ps,H b=some (.X3 ps)->∃more,H' b=some (.X3 (ps++more))
section
variable{fs fs' ex ex':List Addr}{H H1 H2:Hp}{h h1 h2 h':Heap}{a x e:Addr}{o:HO}
def Un.any(u:Un fs ex H H1 h h1)(q:h.get? b=some ob)(n:H b=none)(hx:b ∉ ex):∃sl,h1.get? b=some {ob with slots:=sl}:=by
 by_cases hb:b ∈ fs
 . exact u.slot b ob q n hb hx
 . exact⟨ob.slots,u.keep b ob q n hb hx⟩
def Un.kept(k:∀b u,h.get? b=some u->h'.get? b=some u):Un fs ex H H h h':=
 ⟨λb ob q _ _ _=>k b ob q,λb ob q _ _ _=>⟨ob.slots,k b ob q⟩,λ_ _ _ n _=>n,λb ob q _=>⟨ob,k b ob q⟩,λ_ _ q=>q,λ_ _ _ q=>q,λ_ ps q=>⟨#[],by rw[q];simp⟩⟩
def Un.refl:Un fs ex H H h h:=Un.kept λ_ _ q=>q
def Un.laid(k:∀b u,h.get? b=some u->h'.get? b=some u)(hp:h.objs.size<=a)(hn:H a=none):Un fs ex H (upd H a o) h h' where
 keep:=λb u q _ _ _=>k b u q
 slot:=λb u q _ _ _=>⟨u.slots,k b u q⟩
 free:=λb u q n _=>by rw[zr (zzQ (zzK (zxJ q) hp))];exact n
 there:=λb u q _=>⟨u,k b u q⟩
 tups:=λb xs q=>by rw[zr (zO q hn)];exact q
 frzs:=λb u xs q=>by rw[zr (zO q hn)];exact q
 tbls:=λb ps q=>⟨#[],by rw[zr (zO q hn),q];simp⟩
def Un.write(mu:uJ (H x))(he:e=x\/H e=some (.own x))(k:∀b u,b≠e->h.get? b=some u->h'.get? b=some u)(heo:∃u,h'.get? e=some u):Un fs ex H (upd H x o) h h':=by
 have hx:∀b,H b=none->b≠x:=λb n z=>by subst z;rw[n]at mu;exact mu
 have hb:∀b,H b=none->b≠e:=λb n z=>by
  subst z
  rcases he with r|r
  . exact hx b n r
  . rw[n]at r;cases r
 have hm:∀b u,H b=some u->¬uJ (some u)->b≠x:=λb u q nm z=>by subst z;rw[q]at mu;exact nm mu
 refine⟨λb u q n _ _=>k b u (hb b n) q,λb u q n _ _=>⟨u.slots,k b u (hb b n) q⟩,λb u q n _=>by rw[zr (hx b n)];exact n,λb u q _=>?_,
  λb xs q=>by rw[zr (hm b _ q λz=>z)];exact q,λb u xs q=>by rw[zr (hm b _ q λz=>z)];exact q,λb ps q=>⟨#[],by rw[zr (hm b _ q λz=>z),q];simp⟩⟩
 by_cases hbe:b=e
 . subst hbe;exact heo
 . exact⟨u,k b u hbe q⟩
def Un.mono(u:Un fs ex H H1 h h1)(hs:∀b ∈ fs,b ∈ fs')(hx:∀b ∈ ex,b ∈ ex'):Un fs' ex' H H1 h h1:=
 ⟨λb ob q n hb he=>u.keep b ob q n (λz=>hb (hs b z)) λz=>he (hx b z),λ_ _ q n _ he=>u.any q n λz=>he (hx _ z),λb ob q n he=>u.free b ob q n λz=>he (hx b z),λb ob q he=>u.there b ob q λz=>he (hx b z),u.tups,u.frzs,u.tbls⟩
end
def trk(h:Heap)(H:Hp):List Addr:=(List.range h.objs.size).filter λa=>(H a).isSome
def Fe(h:Heap)(H:Hp):Heap:=W.hideAll h (trk h H)
def E1(h)(H):(Fe h H).objs.size=h.objs.size:=W.hideAll_size _ _
def B5(e:h.get? b=some o)(n:H b=none):(Fe h H).get? b=some o:=
 W.hideAll_get _ e λhm=>by
  have q:=(List.mem_filter.mp hm).2;rw[n]at q;simp at q
def HI(e:(Fe h H).get? b=some o):h.get? b=some o/\H b=none:=by
 have e':h.get? b=some o:=W.of_hideAll _ e;refine⟨e', ?_⟩;cases q:H b with
 |none=>rfl
 |some x=>
  have hm:b ∈ trk h H:=List.mem_filter.mpr ⟨List.mem_range.mpr (zxJ e'),by simp[q]⟩;have z:(Fe h H).get? b=none:=W.hideAll_none _ hm;rw[z]at e;cases e
end L2
namespace L2
open PySem PySem.Spec PyProof.Rows
structure Mod(K:zzA)(mg:Str->Option Value)(base:Heap):Prop where
 kin:K.In base
 glob:base.Ns mainGlobals mg
 blt:∃mb,base.Ns builtinsNs mb/\∀x:Str,x≠"__name__"->mb x=bootBuiltins x
 nolimit:base.NoLimit
structure Cx where
 prog:Program
 w:World
 K:zzA
 mg:Str->Option Value
 base:Heap
 A:Around
 N:List Str
 s₀:Shared
 H₀:Hp
 env:Env
 outer:List Env
 stack:List Env
 ex:List Addr
 fn:Str->Bool
 calm:Bool
 pn:List (Addr×Obj)
 xe:Value->Shared->Prop
def VX(l:List Env):List Addr:=l.filterMap (·.frame)
abbrev Cx.fs(X:Cx):List Addr:=VX X.outer
def ux(sc:Scope)(x:Str):Prop:=sc.names.lookup x=some .local\/sc.names.lookup x=some .cell\/sc.names.lookup x=some .free
def Loc(sc:Scope)(x:Str):Prop:=sc.names.lookup x=some .local\/sc.names.lookup x=some .cell
def Look(env:Env)(h:Heap)(m:Str->Option Value)(x:Str)(u:Value):Prop:=
 (env.kindOf x=some .local/\m x=some u)\/((env.kindOf x=some .cell\/env.kindOf x=some .free)/\∃c,env.cells.lookup x=some c/\h.IsCell c (some u))
structure Cx.Ok(X:Cx):Prop where
 mod:Mod X.K X.mg X.base
 kind:X.env.scope.kind = .function
 glob:X.env.globals=mainGlobals
 blt:X.env.builtins=builtinsNs
 above:X.s₀.heap.objs.size<=X.env.locals
 inj:∀x y c,X.env.cells.lookup x=some c->X.env.cells.lookup y=some c->x=y
 has:∀x,(X.env.kindOf x=some .cell\/X.env.kindOf x=some .free)->∃c,X.env.cells.lookup x=some c
 cab:∀x c,X.fn x=true->X.env.cells.lookup x=some c->X.s₀.heap.objs.size<=c
 hd:X.calm=true->X.A.handled=none
 frames:X.A.frames=some X.stack
 stk:X.stack=X.outer\/(X.stack=X.env::X.outer/\X.env.frame=some X.env.locals)
 exf:∀b ∈ X.ex,b≠X.env.locals/\∀x c,X.env.cells.lookup x=some c->c≠b
 bs:∀b o,X.base.get? b=some o->X.s₀.heap.get? b=some o/\X.H₀ b=none
 bsz:X.base.objs.size<=X.s₀.heap.objs.size
 noex:∀b o,X.base.get? b=some o->b ∉ X.ex
 exfs:∀b ∈ X.ex,b ∉ X.fs
 funs:X.s₀.heap.FunFrames X.base X.outer
 frf:∀b ∈ X.fs,X.H₀ b=none
structure Inv(X:Cx)(pins:List (Addr×Obj))(σ:List (Option V))(H:Hp)(s:Shared):Prop where
 ok:X.Ok
 os:s.os=X.s₀.os
 bare:AllBare s.gens
 base:Un X.fs X.ex X.H₀ H X.s₀.heap s.heap
 loc:∃m,s.heap.Ns X.env.locals m/\∀(i:Nat) (x:Str) (v:V),X.N[i]? = some x->σ[i]? = some (some v)->ux X.env.scope x->∃u,RelV v u/\Look X.env s.heap m x u
 cell:∀x c,X.env.cells.lookup x=some c->∃v,s.heap.IsCell c v
 free:H X.env.locals=none
 freeC:∀x c,X.env.cells.lookup x=some c->H c=none
 pin:∀p ∈ X.pn++pins,s.heap.get? p.1=some p.2/\H p.1=none/\p.1≠X.env.locals/\p.1 ∉ X.fs/\∀v,p.2.data ≠ .cell v
 hok:Wj X.prog X.w H s.heap
 len:σ.length=X.N.length
section
variable{X:Cx}{pins:List (Addr×Obj)}{σ:List (Option V)}{H H':Hp}{s:Shared}{h':Heap}
def Cx.Ok.nofr(ok:X.Ok)(e:X.base.get? b=some o):b ∉ X.fs:=λhb=>by
 have:=(ok.funs.mem hb).1;rw[e]at this;cases this
theorem Inv.bs(I:Inv X pins σ H s):∀b o,X.base.get? b=some o->s.heap.get? b=some o/\H b=none:=λb o e=>
 ⟨I.base.keep b o (I.ok.bs b o e).1 (I.ok.bs b o e).2 (I.ok.nofr e) (I.ok.noex b o e),I.base.free b o (I.ok.bs b o e).1 (I.ok.bs b o e).2 (I.ok.noex b o e)⟩
def Inv.bk(I:Inv X pins σ H s):∀b o,X.base.get? b=some o->s.heap.get? b=some o:=λb o e=>(I.bs b o e).1
theorem Inv.mod(I:Inv X pins σ H s):Mod X.K X.mg X.base:=I.ok.mod
def Inv.kIn(I:Inv X pins σ H s):X.K.In s.heap:=I.ok.mod.kin.keeps I.bk
theorem Inv.lt(I:Inv X pins σ H s):X.env.locals<s.heap.objs.size:=let⟨_,hn,_⟩:=I.loc;hn.lt
def Inv.sz(I:Inv X pins σ H s):X.s₀.heap.objs.size<=s.heap.objs.size:=zzO I.ok.above (Nat.le_of_lt I.lt)
def Inv.nofs(I:Inv X pins σ H s)(h:s.heap.objs.size<=a):a ∉ X.fs:=λhb=>by
 obtain⟨_,o,ho,_⟩:=I.ok.funs.mem hb;exact absurd (zzK (zxJ ho) (zzO I.sz h)) (Nat.lt_irrefl _)
def Inv.cne(I:Inv X pins σ H s):∀x c,X.env.cells.lookup x=some c->c≠X.env.locals:=λx c e z=>by
 obtain⟨v,o,ho,hd⟩:=I.cell x c e;obtain⟨m,⟨o',es,ep,ho',hd',_⟩,_⟩:=I.loc;rw[z,ho']at ho;cases ho;rw[hd']at hd;cases hd
theorem Inv.funs(I:Inv X pins σ H s):s.heap.FunFrames X.base X.outer:=by
 have all:∀(l:List Env),(∀b ∈ VX l,b ∈ X.fs)->X.s₀.heap.FunFrames X.base l->s.heap.FunFrames X.base l:=by
  intro l
  induction l with
  |nil=>intro _ _;trivial
  |cons env r ih=>
   intro hs hl;obtain⟨hk,⟨L,o,hf,hn,ho,hd⟩,hr⟩:=hl;have hL:=hs L (by unfold VX;rw[List.filterMap_cons,hf];exact zzF);obtain⟨sl,e⟩:=I.base.slot L o ho (I.ok.frf L hL) hL λz=>I.ok.exfs L z hL;exact⟨hk,⟨L,_,hf,hn,e,hd⟩,ih (λb hb=>hs b (by unfold VX;rw[List.filterMap_cons,hf];exact zzD _ hb)) hr⟩
 exact all X.outer (λ_ hb=>hb) I.ok.funs
theorem Inv.stack(I:Inv X pins σ H s):s.heap.FunFrames X.base X.stack:=by
 rcases I.ok.stk with e|⟨e,hf⟩
 . rw[e];exact I.funs
 . rw[e];obtain⟨m,hn,_⟩:=I.loc;refine .cons (by rw[I.ok.kind];decide) hf hn ?_ I.funs;exact Heap.get?_none_of_le (zzO I.ok.bsz I.ok.above)
def Inv.stkSub(I:Inv X pins σ H s):∀b ∈ VX X.stack,b ∈ X.env.locals::X.fs:=λb hb=>by
 rcases I.ok.stk with e|⟨e,hf⟩
 . rw[e]at hb;exact zzD _ hb
 . rw[e]at hb;unfold VX at hb;rw[List.filterMap_cons,hf]at hb;exact hb
def Inv.stkFree(I:Inv X pins σ H s):∀b ∈ VX X.stack,H b=none:=λb hb=>by
 rcases zzC.mp (I.stkSub b hb)with e|hb
 . rw[e];exact I.free
 . obtain⟨_,o,ho,_⟩:=I.ok.funs.mem hb;exact I.base.free b o ho (I.ok.frf b hb) λz=>I.ok.exfs b z hb
def Inv.step{g'}{t':Nat}{d'}{ch:List Addr}(I:Inv X pins σ H s)
 (hch:∀b ∈ ch,(b ∈ X.ex\/X.s₀.heap.objs.size<=b)/\b≠X.env.locals/\(∀x c,X.env.cells.lookup x=some c->c≠b)/\∀p ∈ X.pn++pins,p.1≠b)
 (keep:∀b o,b≠X.env.locals->b ∉ X.fs->b ∉ ch->s.heap.get? b=some o->H b=none->h'.get? b=some o)
 (slot:∀b o,b≠X.env.locals->b ∈ X.fs->b ∉ ch->s.heap.get? b=some o->H b=none->∃sl,h'.get? b=some {o with slots:=sl}) (free:∀b o,b ∉ ch->s.heap.get? b=some o->H b=none->H' b=none)
 (there:∀b o,b ∉ ch->s.heap.get? b=some o->∃o',h'.get? b=some o')
 (tups:∀b xs,H b=some (.tup xs)->H' b=some (.tup xs)) (frzs:∀b o u,H b=some (.frz o u)->H' b=some (.frz o u)) (tbls:∀b ps,H b=some (.X3 ps)->∃more,H' b=some (.X3 (ps++more)))
 (ns:∀m,s.heap.Ns X.env.locals m->h'.Ns X.env.locals m) (hok:Wj X.prog X.w H' h') (hg:AllBare g'):
 Inv X pins σ H' {s with heap:=h',gens:=g',drawn:=d',toks:=t'}:=by
 have neL:∀b o,X.s₀.heap.get? b=some o->b≠X.env.locals:=λb o e=>zzQ (zzK (zxJ e) I.ok.above);have neC:∀b o,X.s₀.heap.get? b=some o->b ∉ X.ex->b ∉ ch:=λb o e hx hb=>by
  rcases(hch b hb).1 with z|z
  . exact hx z
  . exact absurd (zzK (zxJ e) z) (Nat.lt_irrefl _)
 have cellK:∀x c,X.env.cells.lookup x=some c->∀v,s.heap.IsCell c v->h'.IsCell c v:=λx c e v ⟨o,ho,hd⟩=>by
  have nch:=λz=>(hch c z).2.2.1 x c e rfl
  by_cases hc:c ∈ X.fs
  . obtain⟨sl,q⟩:=slot c o (I.cne x c e) hc nch ho (I.freeC x c e);exact⟨_,q,hd⟩
  . exact⟨o,keep c o (I.cne x c e) hc nch ho (I.freeC x c e),hd⟩
 refine⟨I.ok,I.os,hg,⟨λb o e n hb hx=>?_,λb o e n hb hx=>?_,λb o e n hx=>?_,λb o e hx=>?_,λb xs e=>tups b xs (I.base.tups b xs e),λb o xs e=>frzs b o xs (I.base.frzs b o xs e),λb ps e=>?_⟩, ?_,λx c e=>?_, ?_,λx c e=>?_,λp hp=>?_,hok,I.len⟩
 . exact keep b o (neL b o e) hb (neC b o e hx) (I.base.keep b o e n hb hx) (I.base.free b o e n hx)
 . obtain⟨sl,e1⟩:=I.base.slot b o e n hb hx;obtain⟨sl',e2⟩:=slot b _ (neL b o e) hb (neC b o e hx) e1 (I.base.free b o e n hx);exact⟨sl',e2⟩
 . obtain⟨o',e1⟩:=I.base.there b o e hx;exact free b o' (neC b o e hx) e1 (I.base.free b o e n hx)
 . obtain⟨o',e1⟩:=I.base.there b o e hx;exact there b o' (neC b o e hx) e1
 . obtain⟨m1,e1⟩:=I.base.tbls b ps e;obtain⟨m2,e2⟩:=tbls b _ e1;exact⟨m1++m2,by rw[e2,Array.append_assoc]⟩
 . obtain⟨m,hn,hl⟩:=I.loc;refine⟨m,ns m hn,λi x v e1 e2 e3=>?_⟩;obtain⟨u,r,l⟩:=hl i x v e1 e2 e3;refine⟨u,r, ?_⟩
   rcases l with l|⟨k,c,e,z⟩
   . exact .inl l
   . exact .inr ⟨k,c,e,cellK x c e _ z⟩
 . obtain⟨v,z⟩:=I.cell x c e;exact⟨v,cellK x c e v z⟩
 . obtain⟨m,⟨o,_,_,ho,_⟩,_⟩:=I.loc;exact free _ o (λz=>(hch _ z).2.1 rfl) ho I.free
 . obtain⟨v,o,ho,hd⟩:=I.cell x c e;exact free c o (λz=>(hch c z).2.2.1 x c e rfl) ho (I.freeC x c e)
 . obtain⟨e,n,ne,nf,d⟩:=I.pin p hp;have nch:=λz=>(hch p.1 z).2.2.2 p hp rfl;exact⟨keep p.1 p.2 ne nf nch e n,free p.1 p.2 nch e n,ne,nf,d⟩
def Inv.un{t':Nat}(I:Inv X pins σ H s)(u:Un X.fs [] H H' s.heap h')(hok:Wj X.prog X.w H' h'):Inv X pins σ H' {s with heap:=h',toks:=t'}:=by
 obtain⟨m,⟨o,es,ep,ho,r⟩,_⟩:=id I.loc;obtain⟨sl,hL⟩:=u.any ho I.free (by simp);exact I.step (g':=s.gens) (d':=s.drawn) (ch:=[]) (λ_ z=>nomatch z) (λb o _ hb _ e n=>u.keep b o e n hb (by simp)) (λb o _ hb _ e n=>u.slot b o e n hb (by simp)) (λb o _ e n=>u.free b o e n (by simp)) (λb o _ e=>u.there b o e (by simp)) u.tups u.frzs u.tbls (λm' hm=>by
  obtain⟨o',es',ep',ho',r'⟩:=hm;rw[ho]at ho';cases ho';exact⟨_,es',ep',hL,r'⟩) hok I.bare
def Inv.call{g'}{t':Nat}{d'}{ch:List Addr}(I:Inv X pins σ H s)(u:Un (VX X.stack) ch H H' s.heap h')(hok:Wj X.prog X.w H' h')(hg:AllBare g')
 (hch:∀b ∈ ch,(b ∈ X.ex\/X.s₀.heap.objs.size<=b)/\b≠X.env.locals/\(∀x c,X.env.cells.lookup x=some c->c≠b)/\∀p ∈ X.pn++pins,p.1≠b):
 Inv X pins σ H' {s with heap:=h',gens:=g',drawn:=d',toks:=t'}:=by
 obtain⟨m,⟨o,es,ep,ho,r⟩,_⟩:=id I.loc;obtain⟨sl,hL⟩:=u.any ho I.free λz=>(hch _ z).2.1 rfl;exact I.step hch (λb o hL hb hc e n=>u.keep b o e n (λz=>(zzC.mp (I.stkSub b z)).elim hL hb) hc) (λb o _ _ hc e n=>u.any e n hc) (λb o hc e n=>u.free b o e n hc) (λb o hc e=>u.there b o e hc) u.tups u.frzs u.tbls (λm' hm=>by
  obtain⟨o',es',ep',ho',r'⟩:=hm;rw[ho]at ho';cases ho';exact⟨_,es',ep',hL,r'⟩) hok hg
def Inv.turned{t':Nat}{it:Addr}(I:Inv X pins σ H s)(k:∀b o,b≠it->s.heap.get? b=some o->h'.get? b=some o)(hn:H it=none)(hL:it≠X.env.locals)
 (h1:it ∈ X.ex\/X.s₀.heap.objs.size<=it) (h2:∀x c,X.env.cells.lookup x=some c->c≠it) (h3:∀p ∈ X.pn++pins,p.1≠it):Inv X pins σ H {s with heap:=h',toks:=t'}:=by
 have nit:∀b u,H b=some u->b≠it:=λb u e z=>by rw[z,hn]at e;cases e
 refine I.step (g':=s.gens) (d':=s.drawn) (ch:=[it]) (λb hb=>?_) (λb o _ _ hc e _=>k b o (λz=>hc (by simp[z])) e) (λb o _ _ hc e _=>⟨o.slots,k b o (λz=>hc (by simp[z])) e⟩) (λ_ _ _ _ n=>n)
  (λb o hc e=>⟨o,k b o (λz=>hc (by simp[z])) e⟩) (λ_ _ e=>e) (λ_ _ _ e=>e) (λb ps e=>⟨#[],by rw[e];simp⟩) (λm hm=>?_) (λb u e=>?_) I.bare
 . have e:b=it:=by simpa using hb
   subst e;exact⟨h1,hL,h2,h3⟩
 . obtain⟨o,es,ep,ho,r⟩:=hm;exact⟨o,es,ep,k _ o (Ne.symm hL) ho,r⟩
 . refine(I.hok b u e).stay (λc v hc q=>k c v ?_ q) (λ_ q=>q) λ_ _ q=>q
   rcases hc with z|z
   . rw[z];exact nit b u e
   . exact nit c _ z
def Inv.tok(I:Inv X pins σ H s)(t:Nat):Inv X pins σ H {s with toks:=t}:=I.un (h':=s.heap) (t':=t) Un.refl I.hok
theorem Inv.kept(I:Inv X pins σ H s)(k:∀b u,s.heap.get? b=some u->h'.get? b=some u):Inv X pins σ H {s with heap:=h',toks:=t'}:=I.un (Un.kept k) (I.hok.kept k)
theorem Inv.laid(I:Inv X pins σ H s)(k:∀b u,s.heap.get? b=some u->h'.get? b=some u)(hp:s.heap.objs.size<=a)(new:xy X.prog X.w (upd H a o) h' a o):
 Inv X pins σ (upd H a o) {s with heap:=h',toks:=t'}:=I.un (Un.laid k hp (I.hok.fresh hp)) (I.hok.laid k hp new)
theorem Inv.write(I:Inv X pins σ H s)(mu:uJ (H x))(he:e=x\/H e=some (.own x))(k:∀b u,b≠e->s.heap.get? b=some u->h'.get? b=some u)(heo:∃u,h'.get? e=some u)
 (new:xy X.prog X.w (upd H x o) h' x o):Inv X pins σ (upd H x o) {s with heap:=h',toks:=t'}:=I.un (Un.write mu he k heo) (I.hok.write mu he k heo new)
def Inv.weak(I:Inv X pins σ H s)(hl:σ'.length=σ.length)(w:∀(i:Nat) v,σ'[i]? = some (some v)->σ[i]? = some (some v)):Inv X pins σ' H s:=
 ⟨I.ok,I.os,I.bare,I.base,let⟨m,hn,hl'⟩:=I.loc;⟨m,hn,λi x v e1 e2 e3=>hl' i x v e1 (w i v e2) e3⟩,I.cell,I.free,I.freeC,I.pin,I.hok,hl.trans I.len⟩
def Inv.pins_of(I:Inv X pins σ H s)(h:∀p ∈ pins',s.heap.get? p.1=some p.2/\H p.1=none/\p.1≠X.env.locals/\p.1 ∉ X.fs/\∀v,p.2.data ≠ .cell v):Inv X pins' σ H s:=
 ⟨I.ok,I.os,I.bare,I.base,I.loc,I.cell,I.free,I.freeC,λp hp=>(zzM.mp hp).elim (λz=>I.pin p (zzP _ z)) (h p),I.hok,I.len⟩
def U0{N:List Str}(hN:N.Nodup){i j:Nat}{x}(a:N[i]? = some x)(b:N[j]? = some x):i=j:=by
 obtain⟨h1,e1⟩:=zzG.mp a;obtain⟨h2,e2⟩:=zzG.mp b;exact(List.getElem_inj hN).mp (e1.trans e2.symm)
def V5{M A E}{i:Nat}{x v u Q}(I:Inv X pins σ H s)(hN:X.N.Nodup)(hi:X.N[i]? = some x)(hx:Loc X.env.scope x)(r:RelV v u)
 (h:∀s',Inv X pins (σ.set i (some v)) H s'->(∃a,Heap.SameBut a s.heap s'.heap/\(a=X.env.locals\/X.env.cells.lookup x=some a))->Q () s') (hf:X.fn x=true\/X.env.scope.names.lookup x=some .local:=by first|exact .inl rfl|exact .inr rfl|assumption):wpAny M A (storeName X.env x u) Q E s:=by
 obtain⟨m,hn,hl⟩:=id I.loc;have hcls:(X.env.scope.kind == .class||(X.env.scope.kind == .module&&X.env.locals != X.env.globals))=false:=by rw[I.ok.kind];rfl
 have hiσ:i<σ.length:=by rw[I.len];exact(zzG.mp hi).1
 have cne:=I.cne;have tracked:∀{a:Addr}{h':Heap},(∃o,s.heap.get? a=some o/\H a=none)->Heap.SameBut a s.heap h'->Wj X.prog X.w H h':=λ{a h'} ha hs b ob e=>by
  obtain⟨_,_,hfree⟩:=ha;refine(I.hok b ob e).stay (λc w' hc q=>(hs.2 c ?_).trans q) (λ_ q=>q) λ_ _ q=>q
  rintro rfl
  rcases hc with rfl|hc
  . rw[hfree]at e;cases e
  . rw[hfree]at hc;cases hc
 rcases hx with hk|hk
 . refine wpAny_storeName_local hk hn (λh' hn' hs=>?_) hcls;obtain⟨oL,_,_,hoL,_⟩:=id hn;refine h _ ⟨I.ok,I.os,I.bare,⟨λb o e n hb hx=>?_,λb o e n hb hx=>?_,I.base.free,λb o e hx=>?_,I.base.tups,I.base.frzs,I.base.tbls⟩,⟨_,hn',λj y v' e1 e2 e3=>?_⟩,λy c e=>?_,I.free,I.freeC,λp hp=>?_,tracked ⟨oL,hoL,I.free⟩ hs,by simpa using I.len⟩ ⟨_,hs,.inl rfl⟩
   . exact(hs.2 b (zzQ (zzK (zxJ e) I.ok.above))).trans (I.base.keep b o e n hb hx)
   . obtain⟨sl,e1⟩:=I.base.slot b o e n hb hx;exact⟨sl,(hs.2 b (zzQ (zzK (zxJ e) I.ok.above))).trans e1⟩
   . obtain⟨o',e1⟩:=I.base.there b o e hx;exact⟨o',(hs.2 b (zzQ (zzK (zxJ e) I.ok.above))).trans e1⟩
   . by_cases hj:j=i
     . subst hj;rw[hi]at e1;cases e1;rw[zyK hiσ]at e2;cases e2;exact⟨u,r,.inl ⟨hk,by simp⟩⟩
     . rw[zzY (Ne.symm hj)]at e2;obtain⟨u',r',q⟩:=hl j y v' e1 e2 e3;refine⟨u',r', ?_⟩
       rcases q with⟨k,e⟩|⟨k,c,e,z⟩
       . refine .inl ⟨k, ?_⟩;have:y≠x:=λe=>hj (U0 hN e1 (e ▸ hi));simp[this,e]
       . exact .inr ⟨k,c,e,z.sameBut hs (cne y c e)⟩
   . obtain⟨w',z⟩:=I.cell y c e;exact⟨w',z.sameBut hs (cne y c e)⟩
   . obtain⟨e,n,ne,nf,d⟩:=I.pin p hp;exact⟨(hs.2 p.1 ne).trans e,n,ne,nf,d⟩
 . have hfn:X.fn x=true:=by
    rcases hf with z|z
    . exact z
    . rw[z]at hk;cases hk
   obtain⟨c,hc⟩:=I.ok.has x (.inl hk);obtain⟨w',z⟩:=I.cell x c hc;refine wpAny_storeName_cell I.ok.kind hk hc z (λh' hc' hs=>?_);obtain⟨oc,hoc,hocd⟩:=id z;refine h {s with heap:=h'} ⟨I.ok,I.os,I.bare,⟨λb o e n hb hx=>?_,λb o e n hb hx=>?_,I.base.free,λb o e hx=>?_,I.base.tups,I.base.frzs,I.base.tbls⟩,⟨m,hn.sameBut hs (Ne.symm (cne x c hc)),λj y v' e1 e2 e3=>?_⟩,λy c' e=>?_,I.free,I.freeC,λp hp=>?_,tracked ⟨oc,hoc,I.freeC x c hc⟩ hs,by simpa using I.len⟩ ⟨c,hs,.inr hc⟩
   . exact(hs.2 b (zzQ (zzK (zxJ e) (I.ok.cab x c hfn hc)))).trans (I.base.keep b o e n hb hx)
   . obtain⟨sl,e1⟩:=I.base.slot b o e n hb hx;exact⟨sl,(hs.2 b (zzQ (zzK (zxJ e) (I.ok.cab x c hfn hc)))).trans e1⟩
   . obtain⟨o',e1⟩:=I.base.there b o e hx;exact⟨o',(hs.2 b (zzQ (zzK (zxJ e) (I.ok.cab x c hfn hc)))).trans e1⟩
   . by_cases hj:j=i
     . subst hj;rw[hi]at e1;cases e1;rw[zyK hiσ]at e2;cases e2;exact⟨u,r,.inr ⟨.inl hk,c,hc,hc'⟩⟩
     . rw[zzY (Ne.symm hj)]at e2;obtain⟨u',r',q⟩:=hl j y v' e1 e2 e3;refine⟨u',r', ?_⟩
       rcases q with q|⟨k,c',e,z'⟩
       . exact .inl q
       . refine .inr ⟨k,c',e,z'.sameBut hs ?_⟩
         rintro rfl
         exact hj (U0 hN e1 (I.ok.inj _ _ _ e hc ▸ hi))
   . by_cases hcc:c'=c
     . subst hcc;exact⟨_,hc'⟩
     . obtain⟨w2,z2⟩:=I.cell y c' e;exact⟨w2,z2.sameBut hs hcc⟩
   . obtain⟨e,n,ne,nf,d⟩:=I.pin p hp;refine⟨(hs.2 p.1 ?_).trans e,n,ne,nf,d⟩;intro q;rw[q,hoc]at e;have q':oc=p.2:=zzZ e;exact d w' (by rw[<-q'];exact hocd)
def YX(I:Inv X pins σ H s)(hN:X.N.Nodup)(hi:X.N[i]? = some x)(hx:Loc X.env.scope x)(r:RelV v u)
 (h:∀s',Inv X pins (σ.set i (some v)) H s'->Q () s') (hf:X.fn x=true\/X.env.scope.names.lookup x=some .local:=by first|exact .inl rfl|exact .inr rfl|assumption):wpAny M A (storeName X.env x u) Q E s:=
 V5 I hN hi hx r (λs' I' _=>h s' I') hf
def Inv.call'(I:Inv X pins σ H s)(ho:s'.os=s.os)(u:Un (VX X.stack) ch H H' s.heap s'.heap)(hok:Wj X.prog X.w H' s'.heap)(hg:AllBare s'.gens)
 (hch:∀b ∈ ch,(b ∈ X.ex\/X.s₀.heap.objs.size<=b)/\b≠X.env.locals/\(∀x c,X.env.cells.lookup x=some c->c≠b)/\∀p ∈ X.pn++pins,p.1≠b):Inv X pins σ H' s':=by
 obtain⟨h',g',d',t',o'⟩:=s';have e:=ho;subst e;exact I.call (g':=g') (t':=t') (d':=d') u hok hg hch
end
abbrev XK:=Value->Option Addr->Hp->Prop
abbrev St:=List (Option V)
abbrev VK:=V->Hp->Prop
abbrev TE:=St->Hp->VK->Prop
abbrev TT:=St->Hp->(Bool->Hp->Prop)->Prop
abbrev TA:=St->Hp->(List V->Hp->Prop)->Prop
structure Ends where
 nx:St->Hp->Prop
 rt:VK
 bk:St->Hp->Prop:=λ_ _=>False
 ct:St->Hp->Prop:=λ_ _=>False
abbrev TS:=Ends->St->Hp->Prop
def EP(X:Cx)(pins:List (Addr×Obj))(σ:St)(Q:VK)(u:Value)(s':Shared):Prop:=∃v H',Inv X pins σ H' s'/\RelV v u/\Q v H'
def TP(X:Cx)(pins:List (Addr×Obj))(σ:St)(Q:Bool->Hp->Prop)(b:Bool)(s':Shared):Prop:=∃H',Inv X pins σ H' s'/\Q b H'
def AP(X:Cx)(pins:List (Addr×Obj))(σ:St)(Q:List V->Hp->Prop)(us:List Value)(s':Shared):Prop:=∃vs H',Inv X pins σ H' s'/\zK vs us/\Q vs H'
def SP(X:Cx)(pins:List (Addr×Obj))(D:Ends)(f:Flow)(s':Shared):Prop:=
 match f with
 | .next=>∃σ' H',Inv X pins σ' H' s'/\D.nx σ' H'
 | .brk=>∃σ' H',Inv X pins σ' H' s'/\D.bk σ' H'
 | .cont=>∃σ' H',Inv X pins σ' H' s'/\D.ct σ' H'
 | .ret u=>∃v σ' H',Inv X pins σ' H' s'/\RelV v u/\D.rt v H'
def PE(X:Cx)(e:Expr)(t:TE):Prop:=
 ∀(pins:List (Addr×Obj)) (s:Shared) (σ:St) (H:Hp) (Q:VK),Inv X pins σ H s->t σ H Q->wpAny (model X.prog X.w) X.A (eval e X.env) (EP X pins σ Q) X.xe s
def PT(X:Cx)(e:Expr)(t:TT):Prop:=
 ∀(pins:List (Addr×Obj)) (s:Shared) (σ:St) (H:Hp) (Q:Bool->Hp->Prop),Inv X pins σ H s->t σ H Q->wpAny (model X.prog X.w) X.A (isTrue e X.env (eval e X.env)) (TP X pins σ Q) X.xe s
def PW(X:Cx)(e:Expr)(t:TT):Prop:=
 ∀(whole:Sem Value) (pins:List (Addr×Obj)) (s:Shared) (σ:St) (H:Hp) (Q:Bool->Hp->Prop),Inv X pins σ H s->t σ H Q->wpAny (model X.prog X.w) X.A (isTrue e X.env whole) (TP X pins σ Q) X.xe s
def PW.pt(h:PW X e t):PT X e t:=h _
def PA(X:Cx)(es:List Expr)(t:TA):Prop:=
 ∀(pos:Pos) (pins:List (Addr×Obj)) (s:Shared) (σ:St) (H:Hp) (Q:List V->Hp->Prop),Inv X pins σ H s->t σ H Q->wpAny (model X.prog X.w) X.A (spliced (backTo pos (starEach es X.env))) (AP X pins σ Q) X.xe s
def PS(X:Cx)(st:Stmt)(t:TS):Prop:=
 ∀(pins:List (Addr×Obj)) (s:Shared) (σ:St) (H:Hp) (D:Ends),Inv X pins σ H s->t D σ H->wpAny (model X.prog X.w) X.A (exec st X.env) (SP X pins D) X.xe s
def Tb(X:Cx)(st:List Stmt)(t:TS):Prop:=
 ∀(pins:List (Addr×Obj)) (s:Shared) (σ:St) (H:Hp) (D:Ends),Inv X pins σ H s->t D σ H->wpAny (model X.prog X.w) X.A (execs st X.env) (SP X pins D) X.xe s
def thn(h:wpAny M A t Q E s)(hQ:∀a s,Q a s->Q' a s):wpAny M A t Q' E s:=zxT h hQ λ_ _ x=>x
end L2
namespace L2
open PySem PySem.Spec PyProof.Rows
section
variable{X:Cx}
def ZS(i:Nat):TE:=λσ H Q=>∃v,σ[i]? = some (some v)/\Q v H
def tC(v:V):TE:=λ_ H Q=>Q v H
def SM(hN:X.N[i]? = some x)(hv:ux X.env.scope x)(hd:(x==("__debug__":Str))=false:=by decide)(hcd:(x==("__classdict__":Str))=false:=by decide):PE X (.Name x pos) (ZS i):=by
 intro pins s σ H Q I h;obtain⟨v,e,h⟩:=h;obtain⟨m,hn,hl⟩:=I.loc;obtain⟨u,r,l⟩:=hl i x v hN e hv;have fin:EP X pins σ Q u s:=⟨v,H,I,r,h⟩
 rcases l with⟨hk,hm⟩|⟨hk,c,hc,hcell⟩
 . exact wpAny_Name (wpAny_loadName_local I.ok.kind hk hn hm fin) hd
 . rcases hk with hk|hk
   . exact wpAny_Name (wpAny_loadName_cell I.ok.kind hk hc hcell fin) hd
   . exact wpAny_Name (wpAny_loadName_free I.ok.kind hk hc hcell fin hcd) hd
def Qk:PE X (.Constant (.int i) j pos) (tC (.int i)):=λ_ _ _ H _ I h=>wpAny_Constant_int ⟨.int i,H,I.tok _,⟨_,rfl⟩,h⟩
def DB:PE X (.Constant (.bool b) j pos) (tC (.bl b)):=λ_ _ _ H _ I h=>Constant_bool ⟨.bl b,H,I,rfl,h⟩
def Jf:PE X (.Constant .none j pos) (tC .non):=λ_ _ _ H _ I h=>Constant_none ⟨.non,H,I,rfl,h⟩
def S_:PE X (.Constant (.str x) j pos) (tC (.str x)):=λ_ _ _ H _ I h=>Calls.Constant_str ⟨.str x,H,I.tok _,⟨_,rfl⟩,h⟩
def Gl(X:Cx)(x:Str):Prop:=X.env.kindOf x=some .globalImplicit
def Yl(I:Inv X pins σ H s)(hg:Gl X x)(hm:X.mg x=some u)(h:Q u s)
 (hd:(x==("__debug__":Str))=false:=by decide):wpAny (model X.prog X.w) X.A (eval (.Name x pos) X.env) Q E s:=
 Calls.Name_function_global I.ok.kind hg (Calls.loadGlobal_global (by rw[I.ok.glob];exact I.mod.glob.keeps I.bk) hm h) hd
def ZM(I:Inv X pins σ H s)(hg:Gl X x)(hm:X.mg x=none)(hv:bootBuiltins x=some u)(h:Q u s)
 (hn:x≠"__name__":=by decide) (hd:(x==("__debug__":Str))=false:=by decide):wpAny (model X.prog X.w) X.A (eval (.Name x pos) X.env) Q E s:=by
 obtain⟨mb,h1,h2⟩:=I.mod.blt;exact Calls.Name_function_global I.ok.kind hg (Calls.loadGlobal_builtin (by rw[I.ok.glob];exact I.mod.glob.keeps I.bk) hm (by rw[I.ok.blt];exact h1.keeps I.bk) ((h2 x hn).trans hv) h) hd
def MA(hg:Gl X x)(hm:X.mg x=none)(hv:bootBuiltins x=some u)(r:RelV v u)(hn:x≠"__name__":=by decide)(hd:(x==("__debug__":Str))=false:=by decide):PE X (.Name x pos) (tC v):=
 λ_ _ _ H _ I h=>ZM I hg hm hv ⟨v,H,I,r,h⟩ hn hd
variable{a b:Expr}{ta tb:TE}{pos:Pos}
variable{tA tB':TT}{rest:List Expr}
def sk(t u:TT):TT:=λσ H Q=>t σ H λc H1=>if c=true then u σ H1 Q else Q false H1
def pq(t u:TT):TT:=λσ H Q=>t σ H λc H1=>if c=true then Q true H1 else u σ H1 Q
def rh(t:TT):TT:=λσ H Q=>t σ H λc H1=>Q (!c) H1
def O7(ha:PT X a tA):PW X (.BoolOp .And [a] pos) tA:=by
 intro wh pins s σ H Q I h;refine isTrue_and (thn (ha pins s σ H Q I h) λc s1 e=>?_);cases c with
 |true=>exact isTrue_and_nil e
 |false=>exact e
def IS(ha:PT X a tA):PW X (.BoolOp .Or [a] pos) tA:=by
 intro wh pins s σ H Q I h;refine isTrue_or (thn (ha pins s σ H Q I h) λc s1 e=>?_);cases c with
 |false=>exact isTrue_or_nil e
 |true=>exact e
def JB(ha:PT X a tA)(hb:PW X (.BoolOp .And (b::rest) pos) tB'):PW X (.BoolOp .And (a::b::rest) pos) (sk tA tB'):=by
 intro wh pins s σ H Q I h;refine isTrue_and (thn (ha pins s σ H _ I h) λc s1 ⟨H1,I1,q1⟩=>?_);cases c with
 |true=>exact hb wh pins s1 σ H1 Q I1 q1
 |false=>exact⟨H1,I1,q1⟩
def uE(ha:PT X a tA)(hb:PW X (.BoolOp .Or (b::rest) pos) tB'):PW X (.BoolOp .Or (a::b::rest) pos) (pq tA tB'):=by
 intro wh pins s σ H Q I h;refine isTrue_or (thn (ha pins s σ H _ I h) λc s1 ⟨H1,I1,q1⟩=>?_);cases c with
 |true=>exact⟨H1,I1,q1⟩
 |false=>exact hb wh pins s1 σ H1 Q I1 q1
def JR(ha:PT X a tA):PT X (.UnaryOp .Not a pos) (rh tA):=by
 intro pins s σ H Q I h;exact isTrue_not (ha pins s σ H (λc H1=>Q (!c) H1) I h)
def Dz(ta tb:TE):TE:=λσ H Q=>ta σ H λx H1=>∃c,x = .bl c/\if c=true then tb σ H1 Q else Q (.bl false) H1
def si(ta tb:TE):TE:=λσ H Q=>ta σ H λx H1=>∃c,x = .bl c/\if c=true then Q (.bl true) H1 else tb σ H1 Q
def J9(h:PE X a t):PE X (.BoolOp op [a] pos) t:=λpins s σ H Q I hw=>BoolOp_one (h pins s σ H Q I hw)
def Jz(ha:PE X a ta)(hb:PE X (.BoolOp .And (b::rest) pos) tb):PE X (.BoolOp .And (a::b::rest) pos) (Dz ta tb):=by
 intro pins s σ H Q I h;refine BoolOp_and (thn (ha pins s σ H _ I h) λv s1 ⟨x,H1,I1,r1,q1⟩=>?_);obtain⟨c,rfl,q1⟩:=q1;cases r1;refine wpAny_truthy_bool ?_;cases c with
 |true=>exact hb pins s1 σ H1 Q I1 q1
 |false=>exact⟨.bl false,H1,I1,rfl,q1⟩
def DH(ha:PE X a ta)(hb:PE X (.BoolOp .Or (b::rest) pos) tb):PE X (.BoolOp .Or (a::b::rest) pos) (si ta tb):=by
 intro pins s σ H Q I h;refine BoolOp_or (thn (ha pins s σ H _ I h) λv s1 ⟨x,H1,I1,r1,q1⟩=>?_);obtain⟨c,rfl,q1⟩:=q1;cases r1;refine wpAny_truthy_bool ?_;cases c with
 |false=>exact hb pins s1 σ H1 Q I1 q1
 |true=>exact⟨.bl true,H1,I1,rfl,q1⟩
end
end L2
namespace L2
open PySem PySem.Spec PyProof.Rows
def Q1(K:zzA)(H:Hp)(a:Addr)(xs:List V):Prop:=
 Rd H a (.lst xs) \/
  ∃(o:Obj) (its:Array Value) (n:Nat),K.lookup a=some o/\o.cls = .type "list"/\o.dict=none/\o.data = .seq its n/\its.size<=sizeLine/\zK xs its.toList
def Hc(K:zzA)(H:Hp)(a:Addr)(xs:List V):Prop:=
 Rd H a (.lst xs)\/∃(its:Array Value) (n:Nat),K.lookup a=some {cls:=.type "list",data:=.seq its n}/\its.size<=sizeLine/\zK xs its.toList
def QX(K:zzA)(H:Hp)(a:Addr)(xs:List V):Prop:=
 Rd H a (.tup xs) \/
  ∃(o:Obj) (its:Array Value) (n:Nat),K.lookup a=some o/\o.cls = .type "tuple"/\o.data = .seq its n/\its.size<=sizeLine/\zK xs its.toList
noncomputable def rS:Value->Option V
 | .none=>some .non
 | .bool b=>some (.bl b)
 | .int i _=>some (.int i)
 | .str x _=>some (.str x)
 | .bytes b _=>some (.byt b)
 | .float b _=>some (.flt b)
 | .ref a=>some (.ref a)
 | .type n=>some (.ty n)
 |_=>none
def RelV.abs(r:RelV x u):rS u=some x:=by
 cases x with
 |non=>cases r;rfl
 |bl _=>cases r;rfl
 |int _=>obtain⟨t,rfl⟩:=r;rfl
 |str _=>obtain⟨t,rfl⟩:=r;rfl
 |byt _=>obtain⟨t,rfl⟩:=r;rfl
 |flt _=>obtain⟨t,rfl⟩:=r;rfl
 |ref _=>cases r;rfl
 |ty _=>cases r;rfl
def RelV.inj(r:RelV x u)(q:RelV y u):x=y:=zzZ (r.abs.symm.trans q.abs)
theorem zK.inj:∀{xs ys:List V}{us:List Value},zK xs us->zK ys us->xs=ys
 |_,_,_,.nil,.nil=>rfl
 |_,_,_,.cons r t,.cons r' t'=>by rw[r.inj r',zK.inj t t']
section
variable{X:Cx}{pins:List (Addr×Obj)}{σ:St}{H:Hp}{s:Shared}{a:Addr}{xs ys:List V}
def Inv.list(I:Inv X pins σ H s)(h:Q1 X.K H a xs):∃its:List Value,zK xs its/\PlainL s.heap a its.toArray/\xs.length<=sizeLine:=by
 rcases h with h|⟨o,its,n,hk,hc,hd,hs,hz,r⟩
 . obtain⟨z,its,n,r,e⟩:=h.ok I.hok;exact⟨its,r,⟨_,n,e,rfl,rfl,rfl⟩,z⟩
 . refine⟨its.toList,r,⟨o,n,I.kIn a o hk,hc,hd,by simpa using hs⟩, ?_⟩;have e:=r.length;simp only[zyT]at e;omega
def Inv.tuple(I:Inv X pins σ H s)(h:QX X.K H a xs):∃its:List Value,zK xs its/\IsTup s.heap a its.toArray/\xs.length<=sizeLine:=by
 rcases h with h|⟨o,its,n,hk,hc,hs,hz,r⟩
 . obtain⟨z,its,r,p⟩:=h.ok I.hok;exact⟨its,r,p,z⟩
 . refine⟨its.toList,r,⟨o,I.kIn a o hk,hc,n,by simpa using hs⟩, ?_⟩;have e:=r.length;simp only[zyT]at e;omega
def Inv.list_inj(I:Inv X pins σ H s)(h:Q1 X.K H a xs)(h':Q1 X.K H a ys):xs=ys:=by
 obtain⟨its,r,⟨o,n,e,_,_,d⟩,_⟩:=I.list h;obtain⟨its',r',⟨o',n',e',_,_,d'⟩,_⟩:=I.list h';rw[e]at e';cases e';rw[d]at d';injection d' with d1 _
 have:its=its':=by simpa using congrArg Array.toList d1
 subst this;exact r.inj r'
def Inv.tuple_inj(I:Inv X pins σ H s)(h:QX X.K H a xs)(h':QX X.K H a ys):xs=ys:=by
 obtain⟨its,r,⟨o,e,_,n,d⟩,_⟩:=I.tuple h;obtain⟨its',r',⟨o',e',_,n',d'⟩,_⟩:=I.tuple h';rw[e]at e';cases e';rw[d]at d';injection d' with d1 _
 have:its=its':=by simpa using congrArg Array.toList d1
 subst this;exact r.inj r'
end
abbrev Cx.wish(X:Cx)(E:Value->Shared->Prop):Cx:={X with xe:=E}
abbrev Cx.nox(X:Cx):Cx:=X.wish λ_ _=>False
theorem Cx.Ok.wish{X:Cx}(ok:X.Ok)(E):(X.wish E).Ok:=
 ⟨ok.mod,ok.kind,ok.glob,ok.blt,ok.above,ok.inj,ok.has,ok.cab,ok.hd,ok.frames,ok.stk,ok.exf,ok.bs,ok.bsz,ok.noex,ok.exfs,ok.funs,ok.frf⟩
def Cx.Ok.unwish{X:Cx}{E}(ok:(X.wish E).Ok):X.Ok:=
 ⟨ok.mod,ok.kind,ok.glob,ok.blt,ok.above,ok.inj,ok.has,ok.cab,ok.hd,ok.frames,ok.stk,ok.exf,ok.bs,ok.bsz,ok.noex,ok.exfs,ok.funs,ok.frf⟩
section
variable{X:Cx}{pins:List (Addr×Obj)}{σ:St}{H:Hp}{s:Shared}{E:Value->Shared->Prop}
theorem Inv.wish(I:Inv X pins σ H s)(E:Value->Shared->Prop):Inv (X.wish E) pins σ H s:=⟨I.ok.wish E,I.os,I.bare,I.base,I.loc,I.cell,I.free,I.freeC,I.pin,I.hok,I.len⟩
theorem Inv.unwish(I:Inv (X.wish E) pins σ H s):Inv X pins σ H s:=⟨I.ok.unwish,I.os,I.bare,I.base,I.loc,I.cell,I.free,I.freeC,I.pin,I.hok,I.len⟩
theorem SP.unwish(h:SP (X.wish E) pins D f s'):SP X pins D f s':=by
 cases f with
 |next=>obtain⟨σ',H',I,q⟩:=h;exact⟨σ',H',I.unwish,q⟩
 |brk=>obtain⟨σ',H',I,q⟩:=h;exact⟨σ',H',I.unwish,q⟩
 |cont=>obtain⟨σ',H',I,q⟩:=h;exact⟨σ',H',I.unwish,q⟩
 |ret u=>obtain⟨v,σ',H',I,r,q⟩:=h;exact⟨v,σ',H',I.unwish,r,q⟩
theorem Tb.nox{st t}(h:Tb X.nox st t):Tb X st t:=λpins s σ H D I hw=>
 zxT (h pins s σ H D (I.wish _) hw) (λ_ _ q=>q.unwish) λ_ _ z=>False.elim z
end
section
variable{X:Cx}{st:Stmt}{rest:List Stmt}{t u:TS}{e:Expr}{te:TE}{pos:Pos}
def D5:TS:=λD σ H=>D.nx σ H
def rk(t u:TS):TS:=λD σ H=>t {D with nx:=u D} σ H
def Uv:Tb X [] D5:=λ_ _ σ H _ I h=>wpAny_execs_nil ⟨σ,H,I,h⟩
def ZZ(h1:PS X st t)(h2:Tb X rest u):Tb X (st::rest) (rk t u):=by
 intro pins s σ H D I h;refine wpAny_execs_cons (thn (h1 pins s σ H {D with nx:=u D} I h) λf s1 q=>?_);cases f with
 |next=>
  obtain⟨σ',H',I',q⟩:=q;exact h2 pins s1 σ' H' D I' q
 |ret v=>exact q
 |brk=>exact q
 |cont=>exact q
def Uu(h1:PS X st t):Tb X [st] t:=by
 intro pins s σ H D I h;refine wpAny_execs_cons (thn (h1 pins s σ H D I h) λf s1 q=>?_);cases f with
 |next=>exact wpAny_execs_nil q
 |ret v=>exact q
 |brk=>exact q
 |cont=>exact q
def Inv.quiet(I:Inv X pins σ H s):interactive X.env=false:=by simp[interactive,I.ok.kind]
def D2(te:TE):TS:=λD σ H=>te σ H λ_ H1=>D.nx σ H1
def Xv(he:PE X e te)(hs:swapsWith e none pos.line X.env=pure false:=by rfl):PS X (.Expr e pos) (D2 te):=by
 intro pins s σ H D I h;exact wpAny_Expr_any (thn (he pins s σ H _ I h) λv s1 ⟨x,H1,I1,r1,q1⟩=>⟨σ,H1,I1,q1⟩) I.quiet hs
def sr(te:TE):TS:=λD σ H=>te σ H D.rt
def JZ(he:PE X e te):PS X (.Return (some e) pos) (sr te):=by
 intro pins s σ H D I h;exact wpAny_Return_some (thn (he pins s σ H _ I h) λv s1 ⟨x,H1,I1,r1,q1⟩=>⟨x,σ,H1,I1,r1,q1⟩)
def rN(c:TT)(t u:TS):TS:=λD σ H=>c σ H λb H1=>if b=true then t D σ H1 else u D σ H1
def MO(hc:PT X c tc)(ha:Tb X a t)(hb:Tb X b u):PS X (.If c a b pos) (rN tc t u):=by
 intro pins s σ H D I h;refine wpAny_If (thn (hc pins s σ H _ I h) λd s1 ⟨H1,I1,q1⟩=>?_);cases d with
 |true=>exact ha pins s1 σ H1 D I1 q1
 |false=>exact hb pins s1 σ H1 D I1 q1
end
abbrev TG:=V->St->Hp->(St->Hp->Prop)->Prop
abbrev Cz:=List V->St->Hp->(St->Hp->Prop)->Prop
def PG(X:Cx)(target:Expr)(t:TG):Prop:=
 ∀(pins:List (Addr×Obj)) (s:Shared) (σ:St) (H:Hp) (v:V) (u:Value) (Q:St->Hp->Prop),Inv X pins σ H s->RelV v u->t v σ H Q->
  wpAny (model X.prog X.w) X.A (assign target X.env u) (λ_ s'=>∃σ' H',Inv X pins σ' H' s'/\Q σ' H') X.xe s
def Fu(X:Cx)(ts:List Expr)(t:Cz):Prop:=
 ∀(pins:List (Addr×Obj)) (s:Shared) (σ:St) (H:Hp) (vs:List V) (us:List Value) (Q:St->Hp->Prop),Inv X pins σ H s->zK vs us->t vs σ H Q->
  wpAny (model X.prog X.w) X.A (assignInOrder ((assignEach ts X.env).map (·.2)) us) (λ_ s'=>∃σ' H',Inv X pins σ' H' s'/\Q σ' H') X.xe s
abbrev ue:=V->V->V->Hp->(Hp->Prop)->Prop
def DJ(X:Cx)(t:ue):Prop:=
 ∀(pins:List (Addr×Obj)) (s:Shared) (σ:St) (H:Hp) (o i v:V) (ov iv u:Value) (Q:Hp->Prop),Inv X pins σ H s->RelV o ov->RelV i iv->RelV v u->t o i v H Q->
  wpAny (model X.prog X.w) X.A (setItem ov iv u) (λ_ s'=>∃H',Inv X pins σ H' s'/\Q H') X.xe s
abbrev sX:=V->V->Hp->VK->Prop
def r9(X:Cx)(op:Operator)(t:sX):Prop:=
 ∀(pins:List (Addr×Obj)) (s:Shared) (σ:St) (H:Hp) (x y:V) (v u:Value) (Q:VK),Inv X pins σ H s->RelV x v->RelV y u->t x y H Q->
  wpAny (model X.prog X.w) X.A (inplaceOp op v u) (EP X pins σ Q) X.xe s
section
variable{X:Cx}{pos:Pos}
def PM(i:Nat):TG:=λv σ H Q=>Q (σ.set i (some v)) H
def Yc(hN:X.N.Nodup)(hi:X.N[i]? = some x)(hx:Loc X.env.scope x)(hf:X.fn x=true\/X.env.scope.names.lookup x=some .local:=by first|exact .inl rfl|exact .inr rfl|assumption):PG X (.Name x pos) (PM i):=by
 intro pins s σ H v u Q I r h;exact wpAny_assign_Name (YX I hN hi hx r (λs' I'=>⟨_,H,I',h⟩) hf)
def DA:Cz:=λvs σ H Q=>vs=[]/\Q σ H
def Ct(t:TG)(u:Cz):Cz:=λvs σ H Q=>∃v r,vs=v::r/\t v σ H λσ' H'=>u r σ' H' Q
def ME:Fu X [] DA:=by
 intro pins s σ H vs us Q I r h;obtain⟨e,h⟩:=h;subst e;cases r;exact assignInOrder_nil ⟨σ,H,I,h⟩
def KB(h1:PG X e t)(h2:Fu X es u)
 (hs:(assignEach (e::es) X.env).map (·.2)=assign e X.env::(assignEach es X.env).map (·.2):=by rfl):Fu X (e::es) (Ct t u):=by
 intro pins s σ H vs us Q I r h;obtain⟨v,vr,e1,h⟩:=h;subst e1;cases r with
 |cons r rr=>
  rw[hs];refine assignInOrder_cons (thn (h1 pins s σ H _ _ _ I r h) λ_ s1 ⟨σ1,H1,I1,q1⟩=>?_);exact h2 pins s1 σ1 H1 _ _ Q I1 rr q1
def sM(K:zzA)(n:Nat)(t:Cz):TG:=λv σ H Q=>∃a xs,v = .ref a/\QX K H a xs/\xs.length=n/\t xs σ H Q
def B6(hc:X.calm=true)(h:Fu X es t)
 (hn:(assignEach es X.env).length=n:=by rfl) (hst:(assignEach es X.env).findIdx? (·.1)=none:=by rfl):PG X (.Tuple es k pos) (sM X.K n t):=by
 intro pins s σ H v u Q I r hw;obtain⟨a,xs,e1,hq,hl,hw⟩:=hw;subst e1;cases r;obtain⟨its,rv,ht,hz⟩:=I.tuple hq;refine assign_Tuple_tuple (I.ok.hd hc) ht (by simp[hn,<-hl,rv.length]) hst λh' hx=>?_;have I1:=I.kept (t':=s.toks) λb o e=>hx b o (zzQ (zxJ e)) e;exact h pins _ σ H xs _ Q I1 (by simpa using rv) hw
def rF(to ti:TE)(t:ue):TG:=λv σ H Q=>to σ H λo H1=>ti σ H1 λi H2=>t o i v H2 λH3=>Q σ H3
def BG(ho:PE X o to)(hi:PE X i ti)(hs:DJ X t)
 (ha:∀v,assign (.Subscript o i pos) X.env v=(do
  let ov <-holding [v] (eval o X.env);let iv <-holding [v,ov] (eval i X.env)
  standAt pos
  holding [v,ov,iv] (setItem ov iv v)
  release [v,ov,iv] []):=by intro _;rfl):PG X (.Subscript o i pos) (rF to ti t):=by
 intro pins s σ H v u Q I r h;rw[ha];refine zxG (zxN (thn (ho pins s σ H _ I h) λov s1 ⟨x,H1,I1,r1,q1⟩=>?_));refine zxG (zxN (thn (hi pins s1 σ H1 _ I1 q1) λiv s2 ⟨y,H2,I2,r2,q2⟩=>?_));refine zxG (wpAny_standAt (zxG (zxN (thn (hs pins s2 σ H2 x y v ov iv u _ I2 r1 r2 r q2) λ_ s3 ⟨H3,I3,q3⟩=>?_))));exact wpAny_release ⟨σ,H3,I3,q3⟩
def IV(te:TE)(g:TG):TS:=λD σ H=>te σ H λx H1=>g x σ H1 D.nx
def Tq(he:PE X e te)(hg:PG X tg g)(hs:swapsWithSole [tg] e pos.line X.env=pure false:=by rfl)(hw:swappedStores [tg] e X.env=pure none:=by rfl)
 (h1:(assignEach [tg] X.env).map (·.2)=[assign tg X.env]:=by rfl):PS X (.Assign [tg] e pos) (IV te g):=by
 intro pins s σ H D I h;refine wpAny_Assign_stores (thn (he pins s σ H _ I h) λv s1 ⟨x,H1,I1,r1,q1⟩=>?_) hs hw;rw[h1];exact thn (hg pins s1 σ H1 x v _ I1 r1 q1) λ_ s2 q=>q
def NS(hN:X.N.Nodup)(hi:X.N[i]? = some x)(hx:Loc X.env.scope x)(he:PE X e te)(hs:swapsWith e (some (.Name x pos')) pos.line X.env=pure false:=by rfl)(hf:X.fn x=true\/X.env.scope.names.lookup x=some .local:=by first|exact .inl rfl|exact .inr rfl|assumption):
 PS X (.Assign [.Name x pos'] e pos) (IV te (PM i)):=by
 intro pins s σ H D I h;refine wpAny_Assign_Name (thn (he pins s σ H _ I h) λv s1 ⟨y,H1,I1,r1,q1⟩=>?_) hs;exact YX I1 hN hi hx r1 (λs2 I2=>⟨_,H1,I2,q1⟩) hf
def rj(i j:Nat)(ta:TA):TS:=λD σ H=>ta σ H λvs H1=>∃v w,vs=[v,w]/\D.nx ((σ.set i (some v)).set j (some w)) H1
def JY(hc:X.calm=true)(hN:X.N.Nodup)(hi:X.N[i]? = some x)(hj:X.N[j]? = some y)(hij:i≠j)
 (hx:X.env.scope.names.lookup x=some .local) (hy:X.env.scope.names.lookup y=some .local) (ha:PA X [a,b] ta)
 (hw:swappedStores [.Tuple [.Name x px,.Name y py] kt pt] (.Tuple [a,b] k2 pt2) X.env=pure (some [x,y]))
 (hs:swapsWithSole [.Tuple [.Name x px,.Name y py] kt pt] (.Tuple [a,b] k2 pt2) pos.line X.env=pure false:=by rfl):
 PS X (.Assign [.Tuple [.Name x px,.Name y py] kt pt] (.Tuple [a,b] k2 pt2) pos) (rj i j ta):=by
 intro pins s σ H D I h;rw[exec_Assign_arm];refine zxG (wpAny_standAt ?_);rw[hs];refine zxG (zxH ?_);rw[if_neg (by decide)];refine zxG (Tuple_ (thn (ha _ pins s σ H _ I h) λus s1 ⟨vs,H1,I1,r1,q1⟩=>?_));obtain⟨v,w,e1,q1⟩:=q1;subst e1;obtain⟨u1,u2,rfl,rv,rw'⟩:∃u1 u2,us=[u1,u2]/\RelV v u1/\RelV w u2:=by
  cases r1 with
  |cons p q=>
   cases q with
   |cons p' q'=>
    cases q';exact⟨_,_,rfl,p,p'⟩
 refine zxL ?_ (by show 2<=sizeLine;decide);have I2:Inv X pins σ H1 {s1 with heap:=s1.heap.push {cls:=.type "tuple",data:=.seq [u1,u2].toArray}}:=I1.kept (t':=s1.toks) λb o e=>zxI _ e;rw[hw];refine zxG (zxH ?_);refine zxG (wpAny_rule (zxG (unpackItems_tuple (items:=#[u1,u2]) (I.ok.hd hc) (IsTup.new s1.heap _) λh' hx'=>?_)));have I3:=I2.kept (h':=h') (t':=s1.toks) λb o e=>hx' b o (zzQ (zxJ e)) e;refine zxG (assignInOrder_cons (wpAny_bindName (YX I3 hN hj (.inl hy) rw' (λs2 I4=>?_) (.inr hy))));refine assignInOrder_cons (wpAny_bindName (YX I4 hN hi (.inl hx) rv (λs3 I5=>assignInOrder_nil (zxH ?_)) (.inr hx)));rw[List.set_comm _ _ (Ne.symm hij)]at I5;exact⟨_,H1,I5,q1⟩
def t6(i:Nat)(te:TE)(ti:sX):TS:=λD σ H=>∃x,σ[i]? = some (some x)/\te σ H λy H1=>ti x y H1 λz H2=>D.nx (σ.set i (some z)) H2
def Jl(hN:X.N.Nodup)(hi:X.N[i]? = some x)(hx:Loc X.env.scope x)(he:PE X e te)(ho:r9 X op ti)(hf:X.fn x=true\/X.env.scope.names.lookup x=some .local:=by first|exact .inl rfl|exact .inr rfl|assumption):
 PS X (.AugAssign (.Name x pos') op e pos) (t6 i te ti):=by
 intro pins s σ H D I h;obtain⟨v,e1,h⟩:=h;obtain⟨m,hn,hl⟩:=I.loc;have vis:ux X.env.scope x:=by rcases hx with k|k;exact .inl k;exact .inr (.inl k)
 obtain⟨u,r,l⟩:=hl i x v hi e1 vis;refine wpAny_AugAssign_Name ?_;have go:wpAny (model X.prog X.w) X.A (eval e X.env) (λw s₂=>wpAny (model X.prog X.w) X.A (inplaceOp op u w) (λr s₃=>wpAny (model X.prog X.w) X.A (storeName X.env x r) (λ_=>SP X pins D .next) X.xe s₃) X.xe s₂) X.xe s:=by
  refine thn (he pins s σ H _ I h) λw s1 ⟨y,H1,I1,r1,q1⟩=>?_;refine thn (ho pins s1 σ H1 v y u w _ I1 r r1 q1) λz s2 ⟨zv,H2,I2,r2,q2⟩=>?_;exact YX I2 hN hi hx r2 (λs3 I3=>⟨_,H2,I3,q2⟩) hf
 rcases l with⟨hk,hm⟩|⟨hk,c,hc,hcell⟩
 . exact wpAny_loadName_local I.ok.kind hk hn hm go
 . rcases hk with hk|hk
   . exact wpAny_loadName_cell I.ok.kind hk hc hcell go
   . rcases hx with k|k
     . have:X.env.scope.names.lookup x=some .free:=hk;rw[k]at this;cases this
     . have:X.env.scope.names.lookup x=some .free:=hk;rw[k]at this;cases this
def qV(f:Int->Int->Int):sX:=λx y H Q=>∃i j,x = .int i/\y = .int j/\Q (.int (f i j)) H
def Jw:r9 X .Add (qV λi j=>i+j):=by
 intro pins s σ H x y v u Q I r1 r2 h;obtain⟨i,j,e1,e2,q⟩:=h;subst e1;subst e2;obtain⟨t,rfl⟩:=r1;obtain⟨t',rfl⟩:=r2;exact iadd_int ⟨.int _,H,I.tok _,⟨_,rfl⟩,q⟩
end
section
variable{X:Cx}{pos:Pos}
def JL(c:TT)(tb:TS):TS:=λD σ H=>∃W:Nat->St->Hp->Prop,(∃m,W m σ H)/\∀m σ H,W m σ H->
 c σ H λb H1=>if b=true then ∃N:St->Hp->Prop,(∀σ' H',N σ' H'->∃m',m'<m/\W m' σ' H')/\tb {D with nx:=N,ct:=N,bk:=D.nx} σ H1 else D.nx σ H1
def Bl(hp:PassesOwn (model X.prog X.w) X.A X.env X.xe)(hc:PT X c tc)(hb:Tb X body tb):PS X (.While c body [] pos) (JL tc tb):=by
 intro pins s σ H D I h;obtain⟨W,⟨m0,w0⟩,turn⟩:=h;refine wpAny_While (codeAny_whileLoop (λn s'=>∃σ' H',Inv X pins σ' H' s'/\W n σ' H') ?_ m0 ⟨σ,H,I,w0⟩)
 rintro n s1 ⟨σ1,H1,I1,w1⟩
 refine wpAny_passesOwn hp (thn (hc pins s1 σ1 H1 _ I1 (turn n σ1 H1 w1)) λb s2 ⟨H2,I2,q2⟩=>?_);cases b with
 |true=>
  obtain⟨N,hN,q2⟩:=q2;rw[if_pos rfl];refine wpAny_passesOwn hp (thn (hb pins s2 σ1 H2 _ I2 q2) λf s3 q3=>?_);cases f with
  |next=>
   obtain⟨σ3,H3,I3,n3⟩:=q3;obtain⟨m',hm,w3⟩:=hN σ3 H3 n3;exact⟨m',hm,σ3,H3,I3,w3⟩
  |cont=>
   obtain⟨σ3,H3,I3,n3⟩:=q3;obtain⟨m',hm,w3⟩:=hN σ3 H3 n3;exact⟨m',hm,σ3,H3,I3,w3⟩
  |brk=>exact q3
  |ret v=>exact q3
 |false=>
  rw[if_neg zyW];exact wpAny_execs_nil ⟨σ1,H2,I2,q2⟩
end
structure It where
 go:Nat->Hp->Prop
 yld:Nat->Hp->V->Hp->Prop
 stop:Nat->Hp->Prop
def Rr(X:Cx)(pins:List (Addr×Obj))(H:Hp)(b:Addr):Prop:=
 H b=none/\b≠X.env.locals/\b ∉ X.fs/\(b ∈ X.ex\/X.s₀.heap.objs.size<=b)/\(∀x c,X.env.cells.lookup x=some c->c≠b)/\∀p ∈ X.pn++pins,p.1≠b
def Inv.fpOk(I:Inv X pins σ H s)(hb:s.heap.objs.size<=b)(hn:H' b=none):Rr X pins H' b:=by
 refine⟨hn,Nat.ne_of_gt (zzK I.lt hb),I.nofs hb,.inr (zzO I.sz hb),λx c e z=>?_,λp hp z=>?_⟩
 . obtain⟨v,q⟩:=I.cell x c e;exact absurd (zzK q.lt (by rw[z];exact hb)) (Nat.lt_irrefl _)
 . exact absurd (zzK (zxJ (I.pin p hp).1) (by rw[z];exact hb)) (Nat.lt_irrefl _)
structure Turn(P:Program)(w:World)(K:zzA)(tg:Expr)(J:It)(fp:List Addr)(it:Addr)(tn:Nat->Heap->Prop):Prop where
 mem:it ∈ fp
 obj:∀i h,tn i h->∀b ∈ fp,∃o,h.get? b=some o/\∀v,o.data ≠ .cell v
 keep:∀i h h',tn i h->(∀b ∈ fp,∀o,h.get? b=some o->h'.get? b=some o)->tn i h'
 item:∀(X:Cx),X.prog=P->X.w=w->X.K=K->X.calm=true->∀(i:Nat) (pins:List (Addr×Obj)) (s:Shared) (σ:St) (H:Hp) (E:Value->Shared->Prop),Inv X pins σ H s->(∀b ∈ fp,Rr X pins H b)->tn i s.heap->J.go i H->
  wpAny (model P w) X.A (pyNext (.ref it)) (λr s1=>∃u,r=some u/\
   wpAny (model P w) X.A (letOwnedTupleGo tg (.ref it) u) (λ_ s2=>∃x H',Inv X pins σ H' s2/\RelV x u/\J.yld i H x H'/\tn (i+1) s2.heap/\∀b ∈ fp,H' b=none) E s1) E s
 done:∀(X:Cx),X.prog=P->X.w=w->X.K=K->X.calm=true->∀(i:Nat) (pins:List (Addr×Obj)) (s:Shared) (σ:St) (H:Hp) (E:Value->Shared->Prop),Inv X pins σ H s->(∀b ∈ fp,Rr X pins H b)->tn i s.heap->J.stop i H->
  wpAny (model P w) X.A (pyNext (.ref it)) (λr s1=>r=none/\Inv X pins σ H s1) E s
 self:∀(A:Around) (i:Nat) (s:Shared) (Q:Value->Shared->Prop) (E:Value->Shared->Prop),tn i s.heap->Q (.ref it) s->wpAny (model P w) A (pyIter (.ref it)) Q E s
abbrev TI:=St->Hp->(It->Hp->Prop)->Prop
def r_(X:Cx)(pins:List (Addr×Obj))(σ:St)(tg:Expr)(R:It->Hp->Prop)(itv:Value)(s2:Shared):Prop:=
 ∃(it:Addr) (fp:List Addr) (tn:Nat->Heap->Prop) (J:It) (H':Hp),itv = .ref it/\Inv X pins σ H' s2/\Turn X.prog X.w X.K tg J fp it tn/\tn 0 s2.heap/\(∀b ∈ fp,Rr X pins H' b)/\R J H'
def PI(X:Cx)(tg iter:Expr)(wi:TI):Prop:=
 ∀(pins:List (Addr×Obj)) (s:Shared) (σ:St) (H:Hp) (R:It->Hp->Prop),Inv X pins σ H s->wi σ H R->
  wpAny (model X.prog X.w) X.A (eval iter X.env) (λv s1=>wpAny (model X.prog X.w) X.A (pyIter v) (r_ X pins σ tg R) X.xe s1) X.xe s
def N9(ho:s.heap.get? it=some o)(hc:o.cls = .type n)(hd:o.data = .fields vs)
 (hn : ["enumerate","zip","dict_itemiterator","dict_reverseitemiterator","odict_iterator","itertools.zip_longest","itertools.pairwise"].contains n=false) (hQ:Q () s):wpAny M A (letOwnedTupleGo tg (.ref it) u) Q E s:=by
 unfold letOwnedTupleGo;cases tg<;>first
  |exact zxH hQ
  |(cases u<;>first
   |exact zxH hQ
   | (refine zxG (wpAny_load ho ?_)
      rw[hc,hd];show wpAny M A (if _=true then _ else _) Q E s;rw[if_neg (by intro h;rw[hn,Bool.false_and]at h;cases h)];exact zxH hQ))
def uX(K:zzA)(a:Addr):It:=
 ⟨λi H=>∃xs x,Q1 K H a xs/\xs[i]? = some x,λi H x H'=>H'=H/\∀xs,Q1 K H a xs->xs[i]? = some x,λi H=>∃xs,Q1 K H a xs/\xs.length<=i⟩
def tB(K:zzA)(a:Addr):It:=
 ⟨λi H=>∃xs x,QX K H a xs/\xs[i]? = some x,λi H x H'=>H'=H/\∀xs,QX K H a xs->xs[i]? = some x,λi H=>∃xs,QX K H a xs/\xs.length<=i⟩
def Dg(lo:Int)(n:Nat):It:=⟨λi _=>i<n,λi H x H'=>H'=H/\x = .int (lo+i),λi _=>n<=i⟩
def Fo{P w K tg}(a it):Turn P w K tg (uX K a) [it] it (λi h=>h.IsListIter it a i)where
 mem:=by simp
 obj:=λi h st b hb=>by
  have e:b=it:=by simpa using hb
  subst e;obtain⟨o,e,c,d⟩:=st;exact⟨o,e,λv z=>by rw[d]at z;cases z⟩
 keep:=λi h h' st k=>st.at λo e=>k it (by simp) o e
 item:=by
  intro X hP hw hK hc i pins s σ H E I hf st hg;subst hP hw hK;obtain⟨xs,x,hq,hx⟩:=hg;obtain⟨its,rv,p,hz⟩:=I.list hq;obtain⟨u,hu,ru⟩:=rv.get hx;obtain⟨f0,f1,f2,f3,f4,f5⟩:=hf it (by simp);refine wpAny_pyNext_list_item st p.isList (by simpa using hu) λh' st' sb=>?_;have I1:=I.turned (t':=s.toks) (λb o hb e=>(sb.2 b hb).trans e) f0 f1 f3 f4 f5;obtain⟨o,e,c,d⟩:=id st';exact⟨u,rfl,N9 e c d (by decide) ⟨x,H,I1,ru,⟨rfl,λys hy=>by rw[I.list_inj hy hq];exact hx⟩,st',λb hb=>(hf b hb).1⟩⟩
 done:=by
  intro X hP hw hK hc i pins s σ H E I hf st hg;subst hP hw hK;obtain⟨xs,hq,hx⟩:=hg;obtain⟨its,rv,p,hz⟩:=I.list hq;obtain⟨f0,f1,f2,f3,f4,f5⟩:=hf it (by simp);have hl:=rv.length;exact wpAny_pyNext_list_end (I.ok.hd hc) st p.isList (by simp;omega) λh' eb=>⟨rfl,I.turned (t':=s.toks) (λb o hb e=>eb b o hb e) f0 f1 f3 f4 f5⟩
 self:=λ_ _ _ _ _ st h=>wpAny_pyIter_listiter st h
def Nu{P w K tg}(a it):Turn P w K tg (tB K a) [it] it (λi h=>h.IsTupleIter it a i)where
 mem:=by simp
 obj:=λi h st b hb=>by
  have e:b=it:=by simpa using hb
  subst e;obtain⟨o,e,c,d⟩:=st;exact⟨o,e,λv z=>by rw[d]at z;cases z⟩
 keep:=λi h h' st k=>st.at λo e=>k it (by simp) o e
 item:=by
  intro X hP hw hK hc i pins s σ H E I hf st hg;subst hP hw hK;obtain⟨xs,x,hq,hx⟩:=hg;obtain⟨its,rv,p,hz⟩:=I.tuple hq;obtain⟨u,hu,ru⟩:=rv.get hx;obtain⟨f0,f1,f2,f3,f4,f5⟩:=hf it (by simp);refine wpAny_pyNext_tuple_item st (p) (x:=u) (by simpa using hu) λh' st' sb=>?_;have I1:=I.turned (t':=s.toks) (λb o hb e=>(sb.2 b hb).trans e) f0 f1 f3 f4 f5;obtain⟨o,e,c,d⟩:=id st';exact⟨u,rfl,N9 e c d (by decide) ⟨x,H,I1,ru,⟨rfl,λys hy=>by rw[I.tuple_inj hy hq];exact hx⟩,st',λb hb=>(hf b hb).1⟩⟩
 done:=by
  intro X hP hw hK hc i pins s σ H E I hf st hg;subst hP hw hK;obtain⟨xs,hq,hx⟩:=hg;obtain⟨its,rv,p,hz⟩:=I.tuple hq;obtain⟨f0,f1,f2,f3,f4,f5⟩:=hf it (by simp);have hl:=rv.length;exact wpAny_pyNext_tuple_end (I.ok.hd hc) st (p) (by simp;omega) λh' eb=>⟨rfl,I.turned (t':=s.toks) (λb o hb e=>eb b o hb e) f0 f1 f3 f4 f5⟩
 self:=λ_ _ _ _ _ st h=>wpAny_pyIter_tupleiter st h
def NW{P w K tg}(it)(lo)(n:Nat):Turn P w K tg (Dg lo n) [it] it (λi h=>IsRangeIter h it (lo+(i:Nat)*1) ((n:Int)-(i:Nat)) 1)where
 mem:=by simp
 obj:=λi h st b hb=>by
  have e:b=it:=by simpa using hb
  subst e;exact⟨_,st,λv z=>by
   have z':Data.fields _=Data.cell v:=z;cases z'⟩
 keep:=λi h h' st k=>k it (by simp) _ st
 item:=by
  intro X hP hw hK hc i pins s σ H E I hf st hg;subst hP hw hK;obtain⟨f0,f1,f2,f3,f4,f5⟩:=hf it (by simp);have W:=Walks.range (prog:=X.prog) (w:=X.w) (I.ok.hd hc) it lo 1 n;refine W.item i s _ _ hg st λv h' tk hv st' kk=>?_;obtain⟨t,rfl⟩:=hv;have I1:Inv X pins σ H {s with heap:=h',toks:=tk}:=I.turned (λb o hb e=>kk b o (by simpa using hb) e) f0 f1 f3 f4 f5;refine⟨_,rfl,N9 st' rfl rfl (by decide) ⟨.int (lo+i),H,I1,⟨t, ?_⟩,⟨rfl,rfl⟩,st',λb hb=>(hf b hb).1⟩⟩;rw[Int.mul_one]
 done:=by
  intro X hP hw hK hc i pins s σ H E I hf st hg;subst hP hw hK;obtain⟨f0,f1,f2,f3,f4,f5⟩:=hf it (by simp);exact wpAny_pyNext_range_end (I.ok.hd hc) st (by have:n<=i:=hg;omega) λh' eb=>⟨rfl,I.turned (t':=s.toks) (λb o hb e=>eb b o hb e) f0 f1 f3 f4 f5⟩
 self:=λ_ _ _ _ _ st h=>wpAny_pyIter_rangeiter st h
end L2
namespace L2
open PySem PySem.Spec PyProof.Rows
section
variable{X:Cx}{tg:Expr}
def D_(K:zzA)(tl:TE):TI:=λσ H R=>tl σ H λx H1=>∃a,x = .ref a/\(∃xs,Q1 K H1 a xs)/\R (uX K a) H1
def rV(K:zzA)(tl:TE):TI:=λσ H R=>tl σ H λx H1=>∃a,x = .ref a/\(∃xs,QX K H1 a xs)/\R (tB K a) H1
def Gp{l tl}(hl:PE X l tl):PI X tg l (D_ X.K tl):=by
 intro pins s σ H R I h;refine thn (hl pins s σ H _ I h) λv s1 ⟨x,H1,I1,r1,q1⟩=>?_;obtain⟨a,e,⟨xs,hq⟩,q⟩:=q1;subst e;cases r1;obtain⟨its,rv,p,hz⟩:=I1.list hq;refine wpAny_pyIter_list p.isList ?_;refine⟨s1.heap.objs.size,[s1.heap.objs.size],_,_,H1,rfl,I1.kept (t':=s1.toks) λb o e=>zxI _ e,Fo a _,⟨_,zxK _ rfl,rfl,rfl⟩,λb hb=>?_,q⟩;have e:b=s1.heap.objs.size:=by simpa using hb
 subst e;exact I1.fpOk (zzN _) (I1.hok.fresh (zzN _))
def L3{l tl}(hl:PE X l tl):PI X tg l (rV X.K tl):=by
 intro pins s σ H R I h;refine thn (hl pins s σ H _ I h) λv s1 ⟨x,H1,I1,r1,q1⟩=>?_;obtain⟨a,e,⟨xs,hq⟩,q⟩:=q1;subst e;cases r1;obtain⟨its,rv,p,hz⟩:=I1.tuple hq;refine wpAny_pyIter_tuple (p) ?_;refine⟨s1.heap.objs.size,[s1.heap.objs.size],_,_,H1,rfl,I1.kept (t':=s1.toks) λb o e=>zxI _ e,Nu a _,⟨_,zxK _ rfl,rfl,rfl⟩,λb hb=>?_,q⟩;have e:b=s1.heap.objs.size:=by simpa using hb
 subst e;exact I1.fpOk (zzN _) (I1.hok.fresh (zzN _))
def G9{pins σ H s R E lo hi t u v}{tk:Nat}(I:Inv X pins σ H s)(h1 : -(2 ^ 62)<=lo)(h2:lo<2 ^ 62)(h3 : -(2 ^ 62)<=hi)(h4:hi<2 ^ 62)
 (q:R (Dg lo (hi-lo).toNat) H):wpAny (model X.prog X.w) X.A (pyIter (.ref s.heap.objs.size)) (r_ X pins σ tg R) E {s with heap:=s.heap.push {cls:=.type "range",data:=.fields #[.int lo t,.int hi u,.int 1 v]},toks:=tk}:=by
 refine wpAny_pyIter_range (IsRange.new ..) (small_one h1 h2 h3 h4) ?_;have I1:Inv X pins σ H {s with heap:=s.heap.push {cls:=.type "range",data:=.fields #[.int lo t,.int hi u,.int 1 v]},toks:=tk}:=I.kept λb o e=>zxI _ e;refine⟨(s.heap.push {cls:=.type "range",data:=.fields #[.int lo t,.int hi u,.int 1 v]}).objs.size,[(s.heap.push {cls:=.type "range",data:=.fields #[.int lo t,.int hi u,.int 1 v]}).objs.size],_,_,H,rfl,
  I1.kept (t':=tk) λb o e=>zxI _ e,NW _ lo (hi-lo).toNat, ?_,λb hb=>?_,q⟩
 . have e1:lo+((0:Nat):Int)*1=lo:=by simp
   have e2:(((hi-lo).toNat:Nat):Int)-((0:Nat):Int)=Builtin.Range.rangeSize lo hi 1:=by rw[rangeSize_one];split<;>omega
   rw[e1,e2];exact zxK _ rfl
 . have e:b=(s.heap.push {cls:=.type "range",data:=.fields #[.int lo t,.int hi u,.int 1 v]}).objs.size:=by simpa using hb
   subst e;exact I1.fpOk (zzN _) (I1.hok.fresh (zzN _))
def uI(ta:TA):TI:=λσ H R=>ta σ H λvs H1=>∃j:Int,vs=[.int j] /\ -(2 ^ 62)<=j/\j<2 ^ 62/\R (Dg 0 j.toNat) H1
def DK(ta:TA):TI:=λσ H R=>ta σ H λvs H1=>∃i j:Int,vs=[.int i,.int j]/\(-(2 ^ 62)<=i/\i<2 ^ 62 /\ -(2 ^ 62)<=j/\j<2 ^ 62)/\R (Dg i (j-i).toNat) H1
def Pl{a ta p pos}(hg:Gl X "range")(hm:X.mg "range"=none)(ha:PA X [a] ta)(hs:starEach [a] X.env=[(false,eval a X.env)]:=by rfl):PI X tg (.Call (.Name "range" p) [a] [] pos) (uI ta):=by
 intro pins s σ H R I h;refine Call_ (ZM I hg hm boot_range (PyProof.Rows.callWith_type1 (thn (ha pos pins s σ H _ I h) λus s1 ⟨vs,H1,I1,r1,q1⟩=>?_) hs rfl));obtain⟨j,e,q1,q2,q⟩:=q1;subst e;cases r1 with
 |cons r rr=>
  cases rr;obtain⟨t,rfl⟩:=r;exact call_range_1 (G9 I1 (by omega) (by omega) q1 q2 (by simpa using q))
def ED(hg:Gl X "range")(hm:X.mg "range"=none)(ha:PA X [a,b] ta)(hs:starEach [a,b] X.env=[(false,eval a X.env),(false,eval b X.env)]:=by rfl)(hs2:starEach [b] X.env=[(false,eval b X.env)]:=by rfl):
 PI X tg (.Call (.Name "range" p) [a,b] [] pos) (DK ta):=by
 intro pins s σ H R I h;refine Call_ (ZM I hg hm boot_range (PyProof.Rows.callWith_type1 (thn (ha pos pins s σ H _ I h) λus s1 ⟨vs,H1,I1,r1,q1⟩=>?_) (by rw[hs,hs2]) (by rw[hs2];rfl)));obtain⟨i,j,e,⟨q1,q2,q3,q4⟩,q⟩:=q1;subst e;cases r1 with
 |cons r rr=>
  cases rr with
  |cons r' rr=>
   cases rr;obtain⟨t,rfl⟩:=r;obtain⟨t',rfl⟩:=r';exact call_range_2 (G9 I1 q1 q2 q3 q4 q)
def rM(wi:TI)(g:TG)(tb:TS):TS:=λD σ H=>wi σ H λJ H1=>∃W:Nat->Nat->St->Hp->Prop,(∃m,W 0 m σ H1)/\∀i m σ H,W i m σ H->
 (J.stop i H/\D.nx σ H)\/(J.go i H/\∃N:St->Hp->Prop,(∀σ' H',N σ' H'->∃m',m'<m/\W (i+1) m' σ' H')/\∀x H',J.yld i H x H'->g x σ H' λσ2 H2=>tb {D with nx:=N,ct:=N,bk:=D.nx} σ2 H2)
def LM(fp:List Addr)(h:Heap):List (Addr×Obj):=fp.filterMap λb=>(h.get? b).map λo=>(b,o)
def Yu(hb:b ∈ fp)(e:h.get? b=some o):(b,o) ∈ LM fp h:=List.mem_filterMap.mpr ⟨b,hb,by rw[e];rfl⟩
def Fb(hp:p ∈ LM fp h):p.1 ∈ fp/\h.get? p.1=some p.2:=by
 obtain⟨b,hb,e⟩:=List.mem_filterMap.mp hp;cases q:h.get? b with
 |none=>rw[q]at e;cases e
 |some o=>
  rw[q]at e;have e':(b,o)=p:=zzZ e;subst e';exact⟨hb,q⟩
def Inv.pinned(I:Inv X pins σ H s)(hf:∀b ∈ fp,Rr X pins H b)(ho:∀b ∈ fp,∃o,s.heap.get? b=some o/\∀v,o.data ≠ .cell v):Inv X (pins++LM fp s.heap) σ H s:=
 I.pins_of λp hp=>(zzM.mp hp).elim (λz=>I.pin p (zzL _ z)) λz=>by
  obtain⟨hb,e⟩:=Fb z;obtain⟨f0,f1,f2,_⟩:=hf p.1 hb;obtain⟨o,e',d⟩:=ho p.1 hb;rw[e]at e';cases e';exact⟨e,f0,f1,f2,d⟩
def Inv.unpinned(I:Inv X (pins++pl) σ H s):Inv X pins σ H s:=I.pins_of λp hp=>I.pin p (zzL _ (zzP _ hp))
def Hd(hp:PassesOwn (model X.prog X.w) X.A X.env X.xe)(hc:X.calm=true)(hi:PI X tg iter wi)(hg:PG X tg g)(hb:Tb X body tb)
 (hs:∀x,foldedSetIterable iter X.env x=pure x:=by intro _;rfl):PS X (.For tg iter body [] pos) (rM wi g tb):=by
 intro pins s σ H D I h;refine wpAny_For (thn (hi pins s σ H _ I h) λv s1 h1=>thn h1 λitv s2 h2=>?_) hs;obtain⟨it,fp,tn,J,H2,e,I2,T,st2,f2,W,⟨m0,w0⟩,turn⟩:=h2;subst e;have stat:∀{H':Hp},(∀b ∈ fp,H' b=none)->∀b ∈ fp,Rr X pins H' b:=λhn b hb=>⟨hn b hb,(f2 b hb).2⟩;refine codeAny_forLoop_any (λn s'=>∃i σ' H',Inv X pins σ' H' s'/\tn i s'.heap/\(∀b ∈ fp,H' b=none)/\W i n σ' H') ?_ m0 ⟨0,σ,H2,I2,st2,λb hb=>(f2 b hb).1,w0⟩
 rintro n s3 ⟨i,σ3,H3,I3,st3,fr3,w3⟩
 rcases turn i n σ3 H3 w3 with⟨stop,qn⟩|⟨go,N,hN,step⟩
 . refine wpAny_passesOwn hp (thn (T.done X rfl rfl rfl hc i pins s3 σ3 H3 X.xe I3 (stat fr3) st3 stop) λr s4 ⟨hr,I4⟩=>?_);subst hr;exact wpAny_execs_nil ⟨σ3,H3,I4,qn⟩
 . refine wpAny_passesOwn hp (thn (T.item X rfl rfl rfl hc i pins s3 σ3 H3 X.xe I3 (stat fr3) st3 go) λr s4 ⟨u,hr,h4⟩=>?_);subst hr;refine wpAny_passesOwn hp (thn h4 λ_ s5 ⟨x,H5,I5,r5,y5,st5,fr5⟩=>?_);have I5':=I5.pinned (stat fr5) (T.obj _ _ st5);refine wpAny_passesOwn hp (thn (hg _ s5 σ3 H5 x u _ I5' r5 (step x H5 y5)) λ_ s6 ⟨σ6,H6,I6,q6⟩=>?_);refine wpAny_passesOwn hp (thn (hb _ s6 σ6 H6 _ I6 q6) λf s7 q7=>?_);have again:∀{σ7:St}{H7:Hp},Inv X _ σ7 H7 s7->N σ7 H7->∃m,m<n/\∃i σ' H',Inv X pins σ' H' s7/\tn i s7.heap/\(∀b ∈ fp,H' b=none)/\W i m σ' H':=λ{σ7 H7} I7 n7=>by
    obtain⟨m',hm,w7⟩:=hN σ7 H7 n7;refine⟨m',hm,i+1,σ7,H7,I7.unpinned,T.keep _ _ _ st5 λb hb o e=>(I7.pin (b,o) (zzL _ (zzL _ (Yu hb e)))).1,λb hb=>?_,w7⟩;obtain⟨o,e,d⟩:=T.obj _ _ st5 b hb;exact(I7.pin (b,o) (zzL _ (zzL _ (Yu hb e)))).2.1
   cases f with
   |next=>obtain⟨σ7,H7,I7,n7⟩:=q7;exact again I7 n7
   |cont=>obtain⟨σ7,H7,I7,n7⟩:=q7;exact again I7 n7
   |brk=>obtain⟨σ7,H7,I7,q7⟩:=q7;exact⟨σ7,H7,I7.unpinned,q7⟩
   |ret v=>obtain⟨x7,σ7,H7,I7,r7,q7⟩:=q7;exact⟨x7,σ7,H7,I7.unpinned,r7,q7⟩
end
end L2
namespace L2
open PySem PySem.Spec PyProof.Rows
abbrev R2:=V->V->Hp->VK->Prop
def Qd(X:Cx)(f:Value->Value->Sem Value)(r:R2):Prop:=
 ∀(pins:List (Addr×Obj)) (s:Shared) (σ:St) (H:Hp) (x y:V) (v u:Value) (Q:VK),Inv X pins σ H s->RelV x v->RelV y u->r x y H Q->
  wpAny (model X.prog X.w) X.A (f v u) (EP X pins σ Q) X.xe s
def Wh(X:Cx)(f:Value)(r:List V->Hp->VK->Prop):Prop:=
 ∀(pins:List (Addr×Obj)) (s:Shared) (σ:St) (H:Hp) (xs:List V) (us:List Value) (Q:VK),Inv X pins σ H s->zK xs us->r xs H Q->
  wpAny (model X.prog X.w) X.A (call f us) (EP X pins σ Q) X.xe s
def tO(X:Cx)(r:V->Hp->(Bool->Hp->Prop)->Prop):Prop:=
 ∀(pins:List (Addr×Obj)) (s:Shared) (σ:St) (H:Hp) (x:V) (v:Value) (Q:Bool->Hp->Prop),Inv X pins σ H s->RelV x v->r x H Q->
  wpAny (model X.prog X.w) X.A (truthy v) (TP X pins σ Q) X.xe s
def D6(r:R2)(ta tb:TE):TE:=λσ H Q=>ta σ H λx H1=>tb σ H1 λy H2=>r x y H2 Q
def rI(C:Int->Int->Prop)(g:Int->Int->V):R2:=λx y H Q=>∃i j,x = .int i/\y = .int j/\C i j/\Q (g i j) H
def CS(g:Int->Int->V):R2:=λx y H Q=>∃i j,x = .int i/\y = .int j/\Q (g i j) H
section
variable{X:Cx}{a b c:Expr}{ta tb tc:TE}{pos:Pos}
def Jk(ha:PE X a ta)(hb:PE X b tb){pins s σ H}{R:V->V->Hp->Prop}(I:Inv X pins σ H s)
 (h:ta σ H λx H1=>tb σ H1 λy H2=>R x y H2) {Q:Value->Shared->Prop}{f:Value->Value->Sem Value}
 (hf:∀v u s2 x y H2,Inv X pins σ H2 s2->RelV x v->RelV y u->R x y H2->wpAny (model X.prog X.w) X.A (f v u) Q X.xe s2):
 wpAny (model X.prog X.w) X.A (eval a X.env) (λv s₁=>wpAny (model X.prog X.w) X.A (eval b X.env) (λu s₂=>wpAny (model X.prog X.w) X.A (f v u) Q X.xe s₂) X.xe s₁) X.xe s:=by
 refine thn (ha pins s σ H _ I h) λv s1 ⟨x,H1,I1,r1,q1⟩=>?_;refine thn (hb pins s1 σ H1 _ I1 q1) λu s2 ⟨y,H2,I2,r2,q2⟩=>?_;exact hf v u s2 x y H2 I2 r1 r2 q2
def SL{op}{r:R2}(ho:Qd X (binaryOp op) r)(ha:PE X a ta)(hb:PE X b tb):PE X (.BinOp a op b pos) (D6 r ta tb):=by
 intro pins s σ H Q I h;exact wpAny_BinOp (Jk ha hb I h λv u s2 x y H2 I2 rx ry q=>ho pins s2 σ H2 x y v u Q I2 rx ry q)
def tH{f C}{g:Int->Int->Int}
 (rule:∀(i j:Int) (t u:Tok) (s:Shared) (Q:Value->Shared->Prop) (E:Value->Shared->Prop),C i j->Q (.int (g i j) s.toks) {s with toks:=s.toks+1}->wpAny (model X.prog X.w) X.A (f (.int i t) (.int j u)) Q E s):
 Qd X f (rI C λi j=>.int (g i j)):=by
 intro pins s σ H x y v u Q I rx ry h;obtain⟨i,j,rfl,rfl,hc,q⟩:=h;obtain⟨t,rfl⟩:=rx;obtain⟨t',rfl⟩:=ry;exact rule i j t t' s _ _ hc ⟨.int (g i j),H,I.tok _,⟨_,rfl⟩,q⟩
def D8{f}{g:Int->Int->Int}
 (rule:∀(i j:Int) (t u:Tok) (s:Shared) (Q:Value->Shared->Prop) (E:Value->Shared->Prop),Q (.int (g i j) s.toks) {s with toks:=s.toks+1}->wpAny (model X.prog X.w) X.A (f (.int i t) (.int j u)) Q E s):
 Qd X f (CS λi j=>.int (g i j)):=by
 intro pins s σ H x y v u Q I rx ry h;obtain⟨i,j,rfl,rfl,q⟩:=h;obtain⟨t,rfl⟩:=rx;obtain⟨t',rfl⟩:=ry;exact rule i j t t' s _ _ ⟨.int (g i j),H,I.tok _,⟨_,rfl⟩,q⟩
def Cb{f}{g:Int->Int->Bool}
 (rule:∀(i j:Int) (t u:Tok) (s:Shared) (Q:Value->Shared->Prop) (E:Value->Shared->Prop),Q (.bool (g i j)) s->wpAny (model X.prog X.w) X.A (f (.int i t) (.int j u)) Q E s):
 Qd X f (CS λi j=>.bl (g i j)):=by
 intro pins s σ H x y v u Q I rx ry h;obtain⟨i,j,rfl,rfl,q⟩:=h;obtain⟨t,rfl⟩:=rx;obtain⟨t',rfl⟩:=ry;exact rule i j t t' s _ _ ⟨.bl (g i j),H,I,rfl,q⟩
def rg(i j:Int):Prop:=0<j/\j<1073741824
def D4(i j:Int):Prop:=0<=j/\j<=1000000/\i.natAbs<2 ^ 64
def Jq:Qd X (binaryOp .Add) (CS λi j=>.int (i+j)):=D8 λ_ _ _ _ _ _ _ q=>add_int q
def A2:Qd X (binaryOp .Sub) (CS λi j=>.int (i-j)):=D8 λ_ _ _ _ _ _ _ q=>sub_int q
def HP:Qd X (binaryOp .FloorDiv) (rI rg λi j=>.int (i/j)):=tH λi j _ _ _ _ _ hc q=>by
 have h1:=hc.1;have h2:=hc.2;exact floordiv_int (by omega) (by rw[Int.fdiv_eq_ediv_of_nonneg i (by omega)];exact q) (.inl (PyProof.noPylong_small (by omega)))
def BC:Qd X (binaryOp .Mod) (rI (λ_ j=>0<j) λi j=>.int (i%j)):=tH λi j _ _ _ _ _ hc q=>by
 have h1:=hc;exact mod_int' (by omega) (by rw[Int.fmod_eq_emod_of_nonneg i (by omega)];exact q)
def Jm:Qd X (binaryOp .Pow) (rI D4 λi j=>.int (i ^ j.toNat)):=tH λ_ _ _ _ _ _ _ hc q=>pow_int_small hc.1 hc.2.1 hc.2.2 q
def JW:Qd X (binaryOp .LShift) (rI D4 λi j=>.int (i*2 ^ j.toNat)):=tH λ_ _ _ _ _ _ _ hc q=>lshift_int_small hc.1 hc.2.1 hc.2.2 q
end
section
variable{X:Cx}{a b c:Expr}{ta tb tc:TE}{pos:Pos}
def y8(I:Inv X pins σ H s)(q:Q (.bl k) H)(e:k=k'):EP X pins σ Q (.bool k') s:=by
 subst e;exact⟨.bl k,H,I,rfl,q⟩
def DO:Qd X (compareOp .Lt) (CS λi j=>.bl (decide (i<j))):=Cb λ_ _ _ _ _ _ _ q=>lt_int q
def uy:Qd X (compareOp .LtE) (CS λi j=>.bl (decide (i<=j))):=Cb λ_ _ _ _ _ _ _ q=>le_int q
def uq:Qd X (compareOp .Gt) (CS λi j=>.bl (decide (j<i))):=Cb λ_ _ _ _ _ _ _ q=>gt_int q
def uz:Qd X (compareOp .GtE) (CS λi j=>.bl (decide (j<=i))):=Cb λ_ _ _ _ _ _ _ q=>ge_int q
def EH:Qd X (compareOp .In) (λx y H Q=>∃i j,x = .str i/\y = .str j/\Q (.bl (!(Builtin.Str.occurrences j i 0 j.length 1).isEmpty)) H):=by
 intro pins s σ H x y v u Q I rx ry h;obtain⟨i,j,rfl,rfl,q⟩:=h;obtain⟨t,rfl⟩:=rx;obtain⟨t',rfl⟩:=ry;exact in_str (y8 I q rfl)
def Jb:Qd X (compareOp .Is) (λx y H Q=>y = .non/\Q (.bl (decide (x = .non))) H):=by
 intro pins s σ H x y v u Q I rx ry h;obtain⟨rfl,q⟩:=h;cases ry;refine is_none_gen (y8 I q ?_);cases x<;>first
  |(cases rx;rfl)
  |(obtain⟨t,rfl⟩:=rx;rfl)
def HK:Qd X (compareOp .IsNot) (λx y H Q=>y = .non/\Q (.bl (!decide (x = .non))) H):=by
 intro pins s σ H x y v u Q I rx ry h;obtain⟨rfl,q⟩:=h;cases ry;refine isnot_none_gen (y8 I q ?_);cases x<;>first
  |(cases rx;rfl)
  |(obtain⟨t,rfl⟩:=rx;rfl)
def Gx:Qd X (compareOp .NotIn) (λx y H Q=>∃i j,x = .str i/\y = .str j/\Q (.bl (!(!(Builtin.Str.occurrences j i 0 j.length 1).isEmpty))) H):=by
 intro pins s σ H x y v u Q I rx ry h;obtain⟨i,j,rfl,rfl,q⟩:=h;obtain⟨t,rfl⟩:=rx;obtain⟨t',rfl⟩:=ry;exact notIn_str (y8 I q rfl)
def LZ(b)(h:op ≠ .In:=by decide)(h2:op ≠ .NotIn:=by decide):behindInMarks op b=false:=by
 have e1:(op==CmpOp.In)=false:=by cases op<;>first|rfl|exact absurd rfl h
 have e2:(op==CmpOp.NotIn)=false:=by cases op<;>first|rfl|exact absurd rfl h2
 cases b<;>simp[behindInMarks,e1,e2]
def HF{op}{r:R2}(ho:Qd X (compareOp op) r)(ha:PE X a ta)(hb:PE X b tb)(hm:behindInMarks op b=false):PE X (.Compare a [op] [b] pos) (D6 r ta tb):=by
 intro pins s σ H Q I h;exact wpAny_Compare1 (Jk ha hb I h λv u s2 x y H2 I2 rx ry q=>ho pins s2 σ H2 x y v u Q I2 rx ry q) hm
def uw(t:TE):TT:=λσ H Q=>t σ H λx H'=>∃k,x = .bl k/\Q k H'
def M9(ho:Qd X (compareOp op) r)(ha:PE X a ta)(hb:PE X b tb)(hm:behindInMarks op b=false):PT X (.Compare a [op] [b] pos) (uw (D6 r ta tb)):=by
 intro pins s σ H Q I h;refine wpAny_isTrue_Compare1 (thn (ha pins s σ H _ I h) λv s1 ⟨x,H1,I1,r1,q1⟩=>thn (hb pins s1 σ H1 _ I1 q1) λu s2 ⟨y,H2,I2,r2,q2⟩=>
  thn (ho pins s2 σ H2 x y v u _ I2 r1 r2 q2) λc s3 ⟨z,H3,I3,r3,k,e,q3⟩=>?_) hm
 subst e;cases r3;exact wpAny_truthy_bool ⟨H3,I3,q3⟩
def J_(K:zzA)(x:V)(H:Hp)(k:Bool):Prop:=
 match x with
 | .non=>k=false
 | .bl b=>k=b
 | .int i=>k=(i != 0)
 | .str y=>y.length<=sizeLine/\k=((y.length:Int) != 0)
 | .byt y=>y.size<=sizeLine/\k=((y.size:Int) != 0)
 | .ref p=>(∃xs,Q1 K H p xs/\k = !xs.isEmpty)\/(∃xs,QX K H p xs/\k = !xs.isEmpty)\/∃kvs,H p=some (.dK kvs)/\k = !kvs.isEmpty
 |_=>False
def Nr(r:KV kvs vs):(!vs.isEmpty) = !kvs.isEmpty:=by
 cases r<;>rfl
def Rv(r:zK xs its):(!its.toArray.isEmpty) = !xs.isEmpty:=by
 cases r<;>simp
def WL:(sizeLine:Nat)<2 ^ 63:=by rw[sizeLine_eq];decide
def Ap:tO X (λx H Q=>∃k,J_ X.K x H k/\Q k H):=by
 intro pins s σ H x v Q I rx h;obtain⟨k,e,q⟩:=h;have hl:=WL;have hs:=sizeLine_eq;cases x with
 |non=>
  cases rx;have e':k=false:=e;subst e';exact truthy_none ⟨H,I,q⟩
 |bl b=>
  cases rx;have e':k=b:=e;subst e';exact wpAny_truthy_bool ⟨H,I,q⟩
 |int i=>
  obtain⟨t,rfl⟩:=rx;have e':k=(i != 0):=e;subst e';exact PySem.P.truthy_int ⟨H,I,q⟩
 |str y=>
  obtain⟨t,rfl⟩:=rx;obtain⟨hy,e'⟩:y.length<=sizeLine/\k=_:=e;subst e';exact PySem.P.truthy_str (by omega) ⟨H,I.tok _,q⟩
 |byt y=>
  obtain⟨t,rfl⟩:=rx;obtain⟨hy,e'⟩:y.size<=sizeLine/\k=_:=e;subst e';exact W.truthy_bytes (by omega) ⟨H,I.tok _,q⟩
 |ref p=>
  cases rx;have e':_\/_\/∃kvs,H p=some (.dK kvs)/\k = !kvs.isEmpty:=e
  rcases e' with⟨xs,hx,e'⟩|⟨xs,hx,e'⟩|⟨kvs,hx,e'⟩
  . subst e';obtain⟨its,r,pl,hz⟩:=I.list hx;have hlen:=r.length;exact wpAny_truthy_list pl.isList (by simp only[zzH];omega) ⟨H,I.tok _,by rw[Rv r];exact q⟩
  . subst e';obtain⟨its,r,pl,hz⟩:=I.tuple hx;have hlen:=r.length;exact truthy_tuple pl (by simp only[zzH];omega) ⟨H,I.tok _,by rw[Rv r];exact q⟩
  . subst e';obtain⟨hz,hS,vs,r,m⟩:kvs.length<=sizeLine/\_=false/\∃vs,KV kvs vs/\s.heap.DictOf _ p vs:=I.hok p _ hx;have hlen:=Paired.length r;exact wpAny_truthy_dict hS m (by omega) ⟨H,I.tok _,by rw[Nr r];exact q⟩
 |_=>exact(e).elim
def SB(ha:PE X a ta)(he:∀whole,isTrue a X.env whole=(do let v <-whole;standAt a.pos;holding [v] (truthy v))):
 PT X a (λσ H Q=>ta σ H λx H'=>∃k,J_ X.K x H' k/\Q k H'):=by
 intro pins s σ H Q I h;exact isTrue_plain (thn (ha pins s σ H _ I h) λv s1 ⟨x,H1,I1,r1,q1⟩=>Ap pins s1 σ H1 x v Q I1 r1 q1) (he _)
def Nq:Qd X (binaryOp .Add) (λx y H Q=>∃i j,x = .str i/\y = .str j/\i.length+j.length<=sizeLine/\Q (.str (i++j)) H):=by
 intro pins s σ H x y v u Q I rx ry h;obtain⟨i,j,rfl,rfl,hz,q⟩:=h;obtain⟨t,rfl⟩:=rx;obtain⟨t',rfl⟩:=ry;exact add_str (λt' tk=>⟨.str (i++j),H,I.tok _,⟨_,rfl⟩,q⟩) hz
def vals1(r:zK [x] us):∃u,us=[u]/\RelV x u:=by
 cases r with
 |cons r1 r2=>cases r2;exact⟨_,rfl,r1⟩
def vals2(r:zK [x,y] us):∃u w',us=[u,w']/\RelV x u/\RelV y w':=by
 cases r with
 |cons r1 r2=>
  cases r2 with
  |cons r3 r4=>cases r4;exact⟨_,_,rfl,r1,r3⟩
def EN(hc:X.calm=true):Wh X (.builtin "max") (λxs H Q=>∃i j,xs=[.int i,.int j]/\Q (.int (if j > i then j else i)) H):=by
 intro pins s σ H xs us Q I r h;obtain⟨i,j,rfl,q⟩:=h;obtain⟨u,w',rfl,⟨t,rfl⟩,⟨t',rfl⟩⟩:=vals2 r;refine max_two_ints (I.ok.hd hc) λh' tk k=>⟨_,H,I.kept k, ?_,q⟩
 by_cases hj:j > i
 . rw[if_pos hj,if_pos hj];exact⟨_,rfl⟩
 . rw[if_neg hj,if_neg hj];exact⟨_,rfl⟩
def Pn:Wh X (.type "int") (λxs H Q=>(∃i,xs=[.int i]/\Q (.int i) H)\/∃k,xs=[.bl k]/\Q (.int (if k then 1 else 0)) H):=by
 intro pins s σ H xs us Q I r h
 rcases h with⟨i,rfl,q⟩|⟨k,rfl,q⟩
 . obtain⟨u,rfl,t,rfl⟩:=vals1 r;exact call_int_int ⟨.int i,H,I,⟨_,rfl⟩,q⟩
 . obtain⟨u,rfl,r1⟩:=vals1 r;cases r1;exact call_int_bool ⟨.int _,H,I.tok _,⟨_,rfl⟩,q⟩
end
end L2
namespace L2
open PySem PySem.Spec PyProof.Rows
structure ObjM(h:Heap)(x dx C:Addr)(mA:Str->Option Value):Prop where
 obj:h.get? x=some (W.instObj C dx)
 ns:h.Ns1 dx mA
 ne:dx≠x
def EV{h:Heap}{dx mA}(n:h.Ns1 dx mA):∃od,h.get? dx=some od/\∀name,W.lookIn name od=some (mA name):=by
 obtain⟨o,es,ep,ho,hd,hk,_,hm⟩:=n;refine⟨o,ho,λname=>?_⟩;have e:=hm name;unfold nsFind findBy at e;rw[<-Array.find?_toList]at e;unfold W.lookIn;rw[hd];dsimp only
 split
 . rename_i y q;rw[q]at e;exact congrArg some e
 . rename_i q;rw[q]at e;have a:es.toList.any (·.refKey)=false:=by
    rw[List.any_eq_false];intro y hy;obtain⟨z,t,hkey⟩:=hk y (Array.mem_toList_iff.mp hy);simp[DictEntry.refKey,hkey]
   have a':¬es.toList.any (·.refKey)=true:=by rw[a];exact zyW
   rw[if_neg a'];exact congrArg some e
def WG.some_of(r:WG (some v) o):∃u,o=some u/\RelV v u:=by
 cases o with
 |none=>exact(r).elim
 |some u=>exact⟨u,rfl,r⟩
def Fg(r:RelV v u):W.handedIn u=true:=by
 cases v with
 |non=>cases(r);rfl
 |bl b=>cases(r);rfl
 |int i=>obtain⟨t,e⟩:=(r);cases e;rfl
 |str x=>obtain⟨t,e⟩:=(r);cases e;rfl
 |byt b=>obtain⟨t,e⟩:=(r);cases e;rfl
 |flt b=>obtain⟨t,e⟩:=(r);cases e;rfl
 |ref a=>cases(r);rfl
 |ty n=>cases(r);rfl
structure Cls(K:zzA)(C:Addr):Prop where
 pg:W.plainGet K C Str.empty=true
 hd:W.hasDictIn K C=true
 po:W.plainOver K C=true
 sa:W.findIn K (.ref C) "__setattr__"=some (some (.builtin "object.__setattr__"))
structure Con(K:zzA)(C:Addr)(f:Str)(v:V)(u:Value):Prop where
 at_:W.findIn K (.ref C) f=some (some u)
 rel:RelV v u
 get:W.specialIn K u "__get__"=some none
 cp:W.copiedNames.contains f=false
structure Meth(K:zzA)(C:Addr)(m:Str)(f:Addr):Prop where
 at_:W.findIn K (.ref C) m=some (some (.ref f))
 fn:W.isFn K (.ref f)=true
 kp:W.keepIn K (.ref f)=true
section
variable{X:Cx}{pins:List (Addr×Obj)}{σ:St}{H:Hp}{s:Shared}{a C dx:Addr}{fs:List (Str×V)}{f:Str}{v:V}{A:Around}{E:Value->Shared->Prop}
def HS(hb:attributeBase e f env (eval e env)=eval e env)
 (h:wpAny (model prog w) A (eval e env) (λo s₁=>wpAny (model prog w) A (getAttr o f true) Q E s₁) E s):wpAny (model prog w) A (eval (.Attribute e f pos) env) Q E s:=
 Attribute_any_ h (by rw[arm_eval_Attribute,hb])
end
section
variable{X:Cx}{pins:List (Addr×Obj)}{σ:St}{H:Hp}{s:Shared}{A:Around}{E:Value->Shared->Prop}{Q:Value->Shared->Prop}{c:Value}{b:Bool}
inductive TyOf(K:zzA)(H:Hp):V->Value->Prop where
 |non:TyOf K H .non (.type "NoneType")
 |bl (x:Bool):TyOf K H (.bl x) (.type "bool")
 |int (i:Int):TyOf K H (.int i) (.type "int")
 |str (x:Str):TyOf K H (.str x) (.type "str")
 |flt (x:UInt64):TyOf K H (.flt x) (.type "float")
 |lst {a:Addr}{xs:List V}(e:H a=some (.lst xs)):TyOf K H (.ref a) (.type "list")
 |frz {a:Addr}{o:Obj}{xs:List V}(e:H a=some (.frz o (.lst xs))):TyOf K H (.ref a) (.type "list")
 |tup {a:Addr}{xs:List V}(e:H a=some (.tup xs)):TyOf K H (.ref a) (.type "tuple")
 |dK {a:Addr}{kvs:List (Key×V)}(e:H a=some (.dK kvs)):TyOf K H (.ref a) (.type "dict")
 |dT {a:Addr}{kvs:List (List Key×V)}(e:H a=some (.dT kvs)):TyOf K H (.ref a) (.type "dict")
 |ins {a C dx:Addr}{fs:List (Str×V)}(e:H a=some (.ins C dx fs)) (cl:Cls K C) (ha:W.findIn K (.ref C) "__class__"=some (some (.builtin "object.__class__")))
  (hn:W.specialIn K (.builtin "object.__class__") "__get__"=some (some (.builtin "getset_descriptor.__get__"))) (htk:W.takesIn K (.builtin "object.__class__")=some true)
  (hm:W.mroIn K C (.type "object")=some true):TyOf K H (.ref a) (.ref C)
end
end L2
namespace L2
open PySem PySem.Spec PyProof.Rows
structure Room(k:Nat)(A:Around):Prop where
 hd:A.handled=none
 dp:A.depth+3*k+5<recursionLimit
 un:A.units+16*k+200<cLine
 gd:A.guards=some []
def Room.mono(r:Room k A)(h:j<=k):Room j A:=⟨r.hd,by have:=r.dp;omega,by have:=r.un;omega,r.gd⟩
theorem Room.deeper(r:Room (k+1) A)(env):Room k (A.deeper env):=
 ⟨r.hd,by have:=r.dp;show A.depth+1+3*k+5<_;omega,by have:=r.un;show A.units+3+16*k+200<_;omega,r.gd⟩
def LQ{A:Around}{C us kw}:(A.under (.builtin "type.__call__" ⟨.ref C::us,kw⟩)).depth=A.depth+1:=by
 first|rfl|simp[Around.under,Code.weight,Code.isCreation,Code.isGuard,Code.isCaller,Code.frames,Code.isFrame,guardIds]
def NG{A:Around}{C us kw}:(A.under (.builtin "type.__call__" ⟨.ref C::us,kw⟩)).units=A.units+1:=by
 first|rfl|simp[Around.under,Code.cUnits,Code.frames,Code.isFrame]
def G7{A:Around}{C us kw}:(A.under (.builtin "type.__call__" ⟨.ref C::us,kw⟩)).guards=A.guards:=by
 first|rfl|simp[Around.under,Code.guards,Code.isGuard,guardIds,PySem.pushGuards]
def Room.make{k:Nat}{A:Around}(r:Room (k+1) A)(C)(us)(kw):Room k (A.under (.builtin "type.__call__" ⟨.ref C::us,kw⟩)):=
 ⟨r.hd,by have:=r.dp;rw[LQ];omega,by have:=r.un;rw[NG];omega,by rw[G7];exact r.gd⟩
theorem Room.depth(r:Room k A):A.depth<recursionLimit:=by have:=r.dp;omega
theorem Room.units(r:Room k A):A.units+64<cLine:=by have:=r.un;omega
def Kc:TA:=λ_ H Q=>Q [] H
def CC(ta:TE)(tr:TA):TA:=λσ H Q=>ta σ H λx H1=>tr σ H1 λxs H2=>Q (x::xs) H2
section
variable{X:Cx}{e:Expr}{es:List Expr}{te:TE}{t:TA}{pos:Pos}
def ZG:PA X [] Kc:=λ_ _ _ _ H Q I h=>Calls.spliced_nil ⟨[],H,I,.nil,h⟩
def xg(ha:PE X e te)(hr:PA X es t)(hs:starEach (e::es) X.env=(false,eval e X.env)::starEach es X.env:=by rfl):PA X (e::es) (CC te t):=by
 intro pos pins s σ H Q I h;rw[hs];refine Calls.spliced_cons (thn (ha pins s σ H _ I h) λu s1 ⟨x,H1,I1,r1,q1⟩=>?_);exact thn (hr pos pins s1 σ H1 _ I1 q1) λus s2 ⟨xs,H2,I2,r2,q2⟩=>⟨x::xs,H2,I2,.cons r1 r2,q2⟩
def sy(t:TA):TE:=λσ H Q=>t σ H λxs H1=>xs.length<=sizeLine/\∀p,H1 p=none->Q (.ref p) (upd H1 p (.tup xs))
def rH(t:TA):TE:=λσ H Q=>t σ H λxs H1=>xs.length<=sizeLine/\∀p,H1 p=none->Q (.ref p) (upd H1 p (.lst xs))
def JP(h:PA X es t):PE X (.Tuple es x1 pos) (sy t):=by
 intro pins s σ H Q I hq;refine wpAny_Tuple_spliced (thn (h pos pins s σ H _ I hq) λus s1 ⟨xs,H1,I1,r,z,q⟩=>⟨by rw[<-r.length];exact z, ?_⟩);have hf:=I1.hok.fresh (zzN _);refine⟨.ref s1.heap.objs.size,upd H1 s1.heap.objs.size _,I1.laid (t':=s1.toks) (λb u e=>zxI _ e) (zzN _) ?_,rfl,q _ hf⟩;exact⟨z,us,r,⟨_,zxK _ rfl,rfl,_,rfl⟩⟩
def IE(h:PA X es t):PE X (.List es pos) (rH t):=by
 intro pins s σ H Q I hq;refine wpAny_List_spliced (thn (h pos pins s σ H _ I hq) λus s1 ⟨xs,H1,I1,r,z,q⟩=>⟨by rw[<-r.length];exact z, ?_⟩);have hf:=I1.hok.fresh (zzN _);refine⟨.ref s1.heap.objs.size,upd H1 s1.heap.objs.size _,I1.laid (t':=s1.toks) (λb u e=>zxI _ e) (zzN _) ?_,rfl,q _ hf⟩;exact⟨z,us,0,r,zxK _ rfl⟩
end
abbrev Sp:=List V->Hp->VK->XK->Prop
abbrev OB:=List Env->Hp->Shared->XK->Value->Shared->Prop
structure Env0(P:Program)(w:World)(K:zzA)(mg:Str->Option Value)(base:Heap)(A:Around)(outer:List Env)(s:Shared)(H:Hp):Prop where
 frames:A.frames=some outer
 mod:Mod K mg base
 bs:∀b o,base.get? b=some o->s.heap.get? b=some o/\H b=none
 bsz:base.objs.size<=s.heap.objs.size
 funs:s.heap.FunFrames base outer
 frf:∀b ∈ VX outer,H b=none
 hok:Wj P w H s.heap
 bare:AllBare s.gens
def CE(outer:List Env)(P:Program)(w:World)(H:Hp)(s:Shared)(Q:VK)(u:Value)(s':Shared):Prop:=
 ∃v H',s'.os=s.os/\AllBare s'.gens/\Un (VX outer) [] H H' s.heap s'.heap/\Wj P w H' s'.heap/\RelV v u/\Q v H'
def CR(CX:OB)(outer:List Env)(P:Program)(w:World)(H:Hp)(s:Shared)(Q:VK)(E:XK)(r:Result)(s':Shared):Prop:=
 match r with
 | .ok (.ret u)=>CE outer P w H s Q u s'
 | .ok _=>False
 | .error e=>CX outer H s E e s'
structure FnOk(P:Program)(w:World)(K:zzA)(mg:Str->Option Value)(base:Heap)(CX:OB)(k:Nat)(f:Addr)(fd:FuncData)(ps:List Str)(sp:Sp):Prop where
 len:∀vs H Q E,sp vs H Q E->vs.length=ps.length
 run:∀(A:Around) (outer:List Env) (s:Shared) (H:Hp) (args:Args) (us:List Value) (vs:List V) (Q:VK) (E:XK),Room k A->Env0 P w K mg base A outer s H->BindsTo s fd args (ps.zip us)->zK vs us->sp vs H Q E->
  codeAny (model P w) A (.call (.ref f) args) (CR CX outer P w H s Q E) s
def FnOk.imp{P w K mg base CX}{k:Nat}{f fd ps sp sp'}(F:FnOk P w K mg base CX k f fd ps sp)
 (h:∀vs H Q E,sp' vs H Q E->sp vs H Q E):FnOk P w K mg base CX k f fd ps sp':=
 ⟨λvs H Q E q=>F.len vs H Q E (h _ _ _ _ q),λA outer s H args us vs Q E hr he hb hv hs=>F.run A outer s H args us vs Q E hr he hb hv (h _ _ _ _ hs)⟩
def Env0.make{P w K mg base A outer s H}(e:Env0 P w K mg base A outer s H)(C)(us)(kw):
 Env0 P w K mg base (A.under (.builtin "type.__call__" ⟨.ref C::us,kw⟩)) outer s H:=⟨by first|exact e.frames|(simpa[Around.under,Code.envs,Code.isFrame,pushEnvs]using e.frames),e.mod,e.bs,e.bsz,e.funs,e.frf,e.hok,e.bare⟩
section
variable{X:Cx}{pins:List (Addr×Obj)}{σ:St}{H:Hp}{s s':Shared}
def Inv.env0(I:Inv X pins σ H s):Env0 X.prog X.w X.K X.mg X.base X.A X.stack s H:=
 ⟨I.ok.frames,I.ok.mod,I.bs,zzO I.ok.bsz I.sz,I.stack,I.stkFree,I.hok,I.bare⟩
def Inv.after(I:Inv X pins σ H s)(h:CE X.stack X.prog X.w H s Q u s'):EP X pins σ Q u s':=by
 obtain⟨v,H',os,bare,un,hok,r,q⟩:=h;obtain⟨hh,g,d,t,os'⟩:=s';obtain rfl:os'=s.os:=os;exact⟨v,H',I.call (h':=hh) (g':=g) (d':=d) (t':=t) un hok bare (λb z=>absurd z (by simp)),r,q⟩
end
def Cq(sp:Sp)(dvs:List V)(E:XK)(t:TA):TE:=λσ H Q=>t σ H λvs H1=>sp (vs++dvs) H1 Q E
def Binds(K:zzA)(fd:FuncData)(ps:List Str)(ds:List Value):Prop:=
 ∀(s:Shared) (us:List Value),K.In s.heap->(us++ds).length=ps.length->BindsTo s fd ⟨us,[]⟩ (ps.zip (us++ds))
def Binds.all{K fd ps}(h:∀us:List Value,us.length=ps.length->bindArgs fd ⟨us,[]⟩=pure (ps.zip us)):Binds K fd ps []:=λs us _ hl=>by
 rw[zyE]at hl ⊢;exact .of_eq (h us hl)
def US(CX:OB)(X:Cx)(E:XK):Prop:=∀(pins:List (Addr×Obj)) (σ:St) (H:Hp) (s:Shared) (e:Value) (s':Shared),Inv X pins σ H s->CX X.stack H s E e s'->X.xe e s'
section
variable{X:Cx}{CX:OB}{k:Nat}{f C:Addr}{fd:FuncData}{ps:List Str}{sp:Sp}{dvs:List V}{ds:List Value}{E:XK}{x m:Str}{p pos apos:Pos}{e o:Expr}{es:List Expr}{ta:TE}{t:TA}
def Ae(F:FnOk X.prog X.w X.K X.mg X.base CX k f fd ps sp)(hr:Room k X.A)(hb:Binds X.K fd ps ds)(hd:zK dvs ds)(hx:US CX X E)
 (I:Inv X pins σ H s) (r:zK vs us) (h:sp (vs++dvs) H Q E):wpAny (model X.prog X.w) X.A (call (.ref f) us) (EP X pins σ Q) X.xe s:=by
 have r2:=r.append hd;have hl:(us++ds).length=ps.length:=by rw[<-r2.length];exact F.len _ _ _ _ h
 refine wpAny_call (codeAny_mono (F.run X.A X.stack s H ⟨us,[]⟩ _ _ Q E hr I.env0 (hb s us I.kIn hl) r2 h) λr s' hq=>?_);cases r with
 |error e=>exact hx pins σ H s e s' I hq
 |ok fl=>
  cases fl with
  |ret u=>exact I.after hq
  |next=>exact False.elim hq
  |brk=>exact False.elim hq
  |cont=>exact False.elim hq
def Mh(F:FnOk X.prog X.w X.K X.mg X.base CX k f fd ps sp)(hr:Room k X.A)(hg:Gl X x)(hm:X.mg x=some (.ref f))(hk:W.keepIn X.K (.ref f)=true)(hb:Binds X.K fd ps ds)(hd:zK dvs ds)(hx:US CX X E)
 (ha:PA X (e::es) t) (hdb:(x==("__debug__":Str))=false:=by decide) (he:starEach (e::es) X.env=(false,eval e X.env)::starEach es X.env:=by rfl) (hpl:(backTo pos (starEach es X.env)).any (·.1)=false:=by rfl):
 PE X (.Call (.Name x p) (e::es) [] pos) (Cq sp dvs E t):=by
 intro pins s σ H Q I h;refine wpAny_Call_Name_kw (Yl I hg hm ?_ hdb);refine W.callWith_K I.ok.mod.kin hk (thn (ha pos pins s σ H _ I h) λus s1 ⟨vs,H1,I1,r,q⟩=>⟨I1.kIn, ?_⟩) he hpl;exact Ae F hr hb hd hx I1 r q
structure Mk(K:zzA)(C f:Addr):Prop where
 makes:W.makesIn K C=true
 init:W.findIn K (.ref C) "__init__"=some (some (.ref f))
 fn:W.isFn K (.ref f)=true
 kp:W.keepIn K (.ref C)=true
end
section
variable{X:Cx}{CX:OB}{k:Nat}{f C:Addr}{fd:FuncData}{ps ks:List Str}{sp:Sp}{E:XK}{x m:Str}{p pos apos kpos:Pos}{e o:Expr}{es:List Expr}{kws:List Keyword}{te ta:TE}{t tk:TA}{nm:Option Str}
structure KBinds(K:zzA)(fd:FuncData)(ps ks:List Str)(g:List Value->List Value->List Value)(gV:List V->List V->List V):Prop where
 to:∀(s:Shared) (us ws:List Value),K.In s.heap->(g us ws).length=ps.length->BindsTo s fd ⟨us,ks.zip ws⟩ (ps.zip (g us ws))
 rel:∀{vs:List V}{us:List Value}{zs:List V}{ws:List Value},zK vs us->zK zs ws->zK (gV vs zs) (g us ws)
variable{g:List Value->List Value->List Value}{gV:List V->List V->List V}
end
structure FnScope(N P:List Str)(sc:Scope):Prop where
 kind:sc.kind = .function
 co:sc.isCoroutine=false
 gen:sc.isGenerator=false
 nd:N.Nodup
 pre:N.take P.length=P
 par:∀x ∈ P,sc.names.lookup x=some .local\/sc.names.lookup x=some .cell
 nofree:∀y ∈ sc.names,y.2 ≠ .free
theorem P9{kindOf x}:∀{binds:List (Str×Value)}{m:Str->Option Value},(∀v,(x,v) ∉ binds)->bindL kindOf binds m x=m x
 | [],_,_=>rfl
 |(n,v)::r,m,h=>by
  unfold bindL;rw[P9 λw hw=>h w (zzD _ hw)]
  split
  . have:x≠n:=by rintro rfl;exact h v zzF
    simp[this]
  . rfl
theorem P4{kindOf x}:∀{binds:List (Str×Value)}{m:Str->Option Value},(∀v,(x,v) ∉ binds)->bindC kindOf binds m x=m x
 | [],_,_=>rfl
 |(n,v)::r,m,h=>by
  unfold bindC;rw[P4 λw hw=>h w (zzD _ hw)]
  split
  . rfl
  . have:x≠n:=by rintro rfl;exact h v zzF
    simp[this]
theorem PN{kindOf x v}:∀{P:List Str}{vs:List Value}{i:Nat}{m:Str->Option Value},P.Nodup->P[i]? = some x->vs[i]? = some v->kindOf x=some .local->
 bindL kindOf (P.zip vs) m x=some v
 | [],_,_,_,_,h,_,_=>by simp at h
 |_::_,[],_,_,_,_,h,_=>by simp at h
 |p::P,w::vs,0,m,nd,h1,h2,hk=>by
  simp at h1 h2;subst h1;subst h2;show bindL kindOf (_::P.zip vs) m p=_;unfold bindL;rw[P9 λv hv=>(zzW.mp nd).1 (List.of_mem_zip hv).1,if_pos hk];simp
 |p::P,w::vs,i+1,m,nd,h1,h2,hk=>by
  unfold bindL;exact PN (zzW.mp nd).2 (by simpa using h1) (by simpa using h2) hk
theorem P5{kindOf x v}:∀{P:List Str}{vs:List Value}{i:Nat}{m:Str->Option Value},P.Nodup->P[i]? = some x->vs[i]? = some v->kindOf x≠some .local->
 bindC kindOf (P.zip vs) m x=some v
 | [],_,_,_,_,h,_,_=>by simp at h
 |_::_,[],_,_,_,_,h,_=>by simp at h
 |p::P,w::vs,0,m,nd,h1,h2,hk=>by
  simp at h1 h2;subst h1;subst h2;show bindC kindOf (_::P.zip vs) m p=_;unfold bindC;rw[P4 λv hv=>(zzW.mp nd).1 (List.of_mem_zip hv).1,if_neg hk];simp
 |p::P,w::vs,i+1,m,nd,h1,h2,hk=>by
  unfold bindC;exact P5 (zzW.mp nd).2 (by simpa using h1) (by simpa using h2) hk
noncomputable def start(N:List Str)(vs:List V):St:=vs.map some++List.replicate (N.length-vs.length) none
def Zc(CX:OB)(P:Program)(w:World)(K:zzA)(mg:Str->Option Value)(base:Heap)(N:List Str)(qual:Str)(scope:Scope)(f:Addr)(cd:Value)(A:Around)(outer:List Env)(s:Shared)(H:Hp)(E:XK):Cx where
 prog:=P
 w:=w
 K:=K
 mg:=mg
 base:=base
 A:=A.deeper (envOfC qual scope s.heap.objs.size f cd)
 N:=N
 s₀:=s
 H₀:=H
 env:=envOfC qual scope s.heap.objs.size f cd
 outer:=outer
 stack:=envOfC qual scope s.heap.objs.size f cd::outer
 ex:=[]
 calm:=true
 fn:=λ_=>true
 pn:=[]
 xe:=λe s'=>wpAny (model P w) (A.deeper (envOfC qual scope s.heap.objs.size f cd)) (leaving (envOfC qual scope s.heap.objs.size f cd) e) (λ_ s''=>CX outer H s E e s'') (λe' s''=>CX outer H s E e' s'') s'
def G_{sc:Scope}{n:Nat}{x}(h:sc.names.lookup x=some .cell):∃c,(cellsFrom n sc.names []).lookup x=some c:=by
 have q:=W.cellsFrom_some sc.names n [] (.inl h);exact Option.isSome_iff_exists.mp q
def P3{CX P w K mg base N ps qual scope f cd A outer s s1 H E us vs}
 (S:FnScope N ps scope) (hd:A.handled=none) (e0:Env0 P w K mg base A outer s H) (hl:vs.length=ps.length) (r:zK vs us)
 (x:InCallC s s.heap.objs.size (bindL (envOfC qual scope s.heap.objs.size f cd).kindOf (ps.zip us) λ_=>none) (cellsFrom (s.heap.objs.size+1) scope.names []) (bindC (envOfC qual scope s.heap.objs.size f cd).kindOf (ps.zip us) λ_=>none) s1):
 Inv (Zc CX P w K mg base N qual scope f cd A outer s H E) [] (start N vs) H s1:=by
 have hpl:ps.length<=N.length:=by have:=congrArg List.length S.pre;rw[zzS]at this;omega
 obtain⟨h1,tk,rfl,hk⟩:=x.done;have noA:∀b:Addr,b ∉ (Zc CX P w K mg base N qual scope f cd A outer s H E).ex:=λb z=>absurd (show b ∈ ([]:List Addr)from z) (by simp);refine⟨⟨e0.mod,S.kind,rfl,rfl,zzN _,λy z c h1 h2=>?_,λy hy=>?_,λy c _ h=>?_,λ_=>hd,Around.frames_deeper e0.frames,.inr ⟨rfl,rfl⟩,λb z=>absurd z (noA b),e0.bs,e0.bsz,λb _ _=>noA b,λb z=>absurd z (noA b),e0.funs,e0.frf⟩,
  rfl,e0.bare,Un.kept hk,⟨_,x.toInCall.ns,λi y v h1 h2 h3=>?_⟩,λy c h=>⟨_,x.cell y c h⟩,e0.hok.fresh (zzN _),λy c h=>?_,λp hp=>absurd (show p ∈ ([]:List _)from hp) (by simp),e0.hok.kept hk, ?_⟩
 . exact name_of_addr x.apart (PySem.mem_of_lookup h1) (PySem.mem_of_lookup h2)
 . have hy:=hy
   rcases hy with hy|hy
   . exact G_ hy
   . exact absurd rfl (S.nofree _ (PySem.mem_of_lookup hy))
 . exact Nat.le_of_lt (x.above y c (PySem.mem_of_lookup h))
 . have hi:i<vs.length:=by
    unfold start at h2
    by_cases hi:i<vs.length
    . exact hi
    . rw[zyR (by simpa using hi)]at h2;rw[List.getElem?_replicate]at h2
      split at h2<;>cases h2
   have ha:vs[i]? = some v:=by
    unfold start at h2;rw[zyP (by simpa using hi),zzI]at h2;cases e:vs[i]? with
    |none=>rw[e]at h2;cases h2
    |some a=>rw[e]at h2;cases h2;rfl
   obtain⟨u,hu,rv⟩:=r.get ha;have hp:ps[i]? = some y:=by
    rw[<-S.pre,List.getElem?_take_of_lt (by omega)];exact h1
   have ndP:ps.Nodup:=by rw[<-S.pre];exact S.nd.sublist (List.take_sublist _ _)
   refine⟨u,rv, ?_⟩
   rcases S.par y (zyA hp)with k|k
   . exact .inl ⟨k,PN ndP hp hu k⟩
   . obtain⟨c,e⟩:=G_ k;refine .inr ⟨.inl k,c,e, ?_⟩;have q:=x.cell y c e;rw[P5 ndP hp hu (by show scope.names.lookup y≠_;rw[k];decide)]at q;exact q
 . exact e0.hok.fresh (Nat.le_of_lt (x.above y c (PySem.mem_of_lookup h)))
 . unfold start;show _=N.length;rw[zzJ,zzB,List.length_replicate];omega
def Sf{CX P w K mg base}{k:Nat}{f name qual params body scope dV kV doc pm cdv ct oc an od}
 {osl N ps sp}(lk:K.lookup f=some ⟨oc,od,.func (W.fnOf name qual params body scope dV kV doc pm an cdv ct),osl⟩) (hcd:W.codeIn K cdv qual=true) (S:FnScope N ps scope)
 (len:∀vs H Q E,sp vs H Q E->vs.length=ps.length)
 (hbody:∀(A:Around) (outer:List Env) (s:Shared) (H:Hp) (vs:List V) (Q:VK) (E:XK),Room k (A.deeper (envOfC qual scope s.heap.objs.size f cdv))->sp vs H Q E->
  ∃t,Tb (Zc CX P w K mg base N qual scope f cdv A outer s H E) body t/\t {nx:=λ_ H'=>Q .non H',rt:=Q} (start N vs) H):
 FnOk P w K mg base CX (k+1) f (W.fnOf name qual params body scope dV kV doc pm an cdv ct) ps sp:=by
 refine⟨len,λA outer s H args us vs Q E hr e0 hb r hsp=>?_⟩;have hl:=len _ _ _ _ hsp;have KX:=e0.mod.kin.keeps λb o e=>(e0.bs b o e).1;have lim:=e0.mod.nolimit.keeps λb o e=>(e0.bs b o e).1;have hkind:∀y ∈ ps.zip us,scope.names.lookup y.1=some .local\/(scope.names.lookup y.1=some .cell/\((cellsFrom (s.heap.objs.size+1) scope.names []).lookup y.1).isSome=true):=λ⟨n,v⟩ hy=>by
  rcases S.par n (List.of_mem_zip hy).1 with q|q
  . exact .inl q
  . exact .inr ⟨q,W.cellsFrom_some _ _ _ (.inl q)⟩
 refine codeAny_call_function hr.depth (KX _ _ lk) rfl S.co S.gen rfl (W.codeRec_of KX hcd) (hb _ _ _ _ ?_);refine wpAny_newFunctionEnv_cells S.kind hkind λenv he s1 x=>?_;subst he;refine⟨lim.keeps x.toInCall.keep,codeAny_func ?_⟩;obtain⟨t,ht,hq⟩:=hbody A outer s H vs Q E (hr.deeper _) hsp;have I:Inv (Zc CX P w K mg base N qual scope f cdv A outer s H E) [] _ H s1:=P3 S hr.hd e0 hl r x;refine zxT (ht [] s1 _ H _ I hq) (λfl s' hs=>?_) λe s' hs=>hs;have fin:∀{σ':St}{H':Hp}{v:V}{u:Value},Inv (Zc CX P w K mg base N qual scope f cdv A outer s H E) [] σ' H' s'->RelV v u->Q v H'->CE outer P w H s Q u s':=
  λ{σ' H' v u} J rv q=>⟨v,H',J.os,J.bare,J.base,J.hok,rv,q⟩
 cases fl with
 |ret u=>
  obtain⟨v,σ',H',J,rv,q⟩:=hs;exact fin J rv q
 |next=>
  obtain⟨σ',H',J,q⟩:=hs;exact fin (v:=V.non) J rfl q
 |brk=>
  obtain⟨_,_,_,q⟩:=hs;exact False.elim q
 |cont=>
  obtain⟨_,_,_,q⟩:=hs;exact False.elim q
end L2
namespace L2
open PySem PySem.Spec PyProof.Rows
section
variable{X:Cx}{x:Str}{p pos:Pos}{e:Expr}{es:List Expr}{t:TA}{id T:String}{r:List V->Hp->VK->Prop}
def qf(r:List V->Hp->VK->Prop)(t:TA):TE:=λσ H Q=>t σ H λvs H1=>r vs H1 Q
def W6(hc:Wh X (.builtin id) r)(hg:Gl X x)(hm:X.mg x=none)(hv:bootBuiltins x=some (.builtin id))(ha:PA X (e::es) t)(hn:x≠"__name__":=by decide)(hdb:(x==("__debug__":Str))=false:=by decide)
 (he:starEach (e::es) X.env=(false,eval e X.env)::starEach es X.env:=by rfl) (hpl:(backTo pos (starEach es X.env)).any (·.1)=false:=by rfl):PE X (.Call (.Name x p) (e::es) [] pos) (qf r t):=by
 intro pins s σ H Q I h;refine wpAny_Call_Name_kw (ZM I hg hm hv ?_ hn hdb);exact PyProof.Rows.callWith_builtin1 (thn (ha pos pins s σ H _ I h) λus s1 ⟨vs,H1,I1,r1,q1⟩=>hc pins s1 σ H1 vs us Q I1 r1 q1) he hpl
def EI(hc:Wh X (.type T) r)(hg:Gl X x)(hm:X.mg x=none)(hv:bootBuiltins x=some (.type T))(ha:PA X (e::es) t)(hn:x≠"__name__":=by decide)(hdb:(x==("__debug__":Str))=false:=by decide)
 (he:starEach (e::es) X.env=(false,eval e X.env)::starEach es X.env:=by rfl) (hpl:(backTo pos (starEach es X.env)).any (·.1)=false:=by rfl):PE X (.Call (.Name x p) (e::es) [] pos) (qf r t):=by
 intro pins s σ H Q I h;refine wpAny_Call_Name_kw (ZM I hg hm hv ?_ hn hdb);exact PyProof.Rows.callWith_type1 (thn (ha pos pins s σ H _ I h) λus s1 ⟨vs,H1,I1,r1,q1⟩=>hc pins s1 σ H1 vs us Q I1 r1 q1) he hpl
end
end L2
namespace L2
open PySem PySem.Spec PyProof.Rows
section
variable{κ:Type}[DecidableEq κ]
def v7(kvs:List (κ×V))(k:κ):Option V:=(kvs.find? λkv=>decide (kv.1=k)).map (·.2)
def putK(kvs:List (κ×V))(k:κ)(v:V):List (κ×V):=
 if(kvs.any λkv=>decide (kv.1=k))=true then kvs.map (λkv=>if kv.1=k then(kv.1,v)else kv)else kvs++[(k,v)]
def UO{p r}{k:κ}(e:p.1=k):v7 (p::r) k=some p.2:=by simp[v7,List.find?_cons,e]
def Rj{p r}{k:κ}(e:¬p.1=k):v7 (p::r) k=v7 r k:=by simp[v7,List.find?_cons,e]
theorem Ke(k:κ):∀kvs:List (κ×V),(kvs.any λkv=>decide (kv.1=k))=(v7 kvs k).isSome
 | []=>rfl
 |p::r=>by
  rw[List.any_cons]
  by_cases e:p.1=k
  . simp only[UO e,zyO e,Bool.true_or,Option.isSome_some]
  . rw[Rj e,zyG e,Bool.false_or];exact Ke k r
def Q4(kvs)(k:κ)(v):(putK kvs k v).length<=kvs.length+1:=by
 unfold putK
 split
 . rw[zzB];omega
 . rw[zzJ,zzT,List.length_nil];omega
def WG.isSome_eq(r:WG o u):o.isSome=u.isSome:=by
 cases o with
 |none=>cases u with
  |none=>rfl
  |some _=>exact(r).elim
 |some _=>cases u with
  |none=>exact(r).elim
  |some _=>rfl
def KV.val{kvs vs}(r:KV kvs vs)(k:κ):WG (v7 kvs k) (valueAt vs k):=by
 unfold KV at r
 induction r with
 |nil=>exact True.intro
 | @cons p q ps qs h t ih=>
  obtain⟨h1,h2⟩:=h
  by_cases e:p.1=k
  . have e':q.1=k:=h1.symm.trans e;have b:valueAt (q::qs) k=some q.2:=by simp[valueAt,List.find?_cons,e']
    rw[UO e,b];exact h2
  . have e':¬q.1=k:=λz=>e (h1.trans z);have b:valueAt (q::qs) k=valueAt qs k:=by simp[valueAt,List.find?_cons,e']
    rw[Rj e,b];exact ih
theorem KV.any(r:KV kvs vs)(k:κ):(kvs.any λkv=>decide (kv.1=k))=vs.any λkv=>decide (kv.1=k):=by
 unfold KV at r
 induction r with
 |nil=>rfl
 |cons h t ih=>rw[List.any_cons,List.any_cons,ih,h.1]
def KV.repl(r:KV kvs vs)(k:κ)(ry:RelV y u):
 KV (kvs.map λkv=>if kv.1=k then(kv.1,y)else kv) (vs.map λkv=>if kv.1=k then(kv.1,u)else kv):=by
 unfold KV at r ⊢
 induction r with
 |nil=>exact .nil
 | @cons p q ps qs h t ih=>
  rw[zyS,zyS];refine .cons ?_ ih;obtain⟨h1,h2⟩:=h
  by_cases e:p.1=k
  . rw[if_pos e,if_pos (h1.symm.trans e)];exact⟨h1,ry⟩
  . rw[if_neg e,if_neg (λz=>e (h1.trans z))];exact⟨h1,h2⟩
def KV.put(r:KV kvs vs)(k:κ)(ry:RelV y u):KV (putK kvs k y) (stored vs k u):=by
 unfold putK stored;rw[r.any k]
 by_cases e:(vs.any λkv=>decide (kv.1=k))=true
 . rw[if_pos e,if_pos e];exact r.repl k ry
 . rw[if_neg e,if_neg e];exact Paired.snoc r ⟨rfl,ry⟩
theorem KV.length(r:KV kvs vs):kvs.length=vs.length:=Paired.length r
end
def Ub(r:RelV (kV k) u):(yy P w).is k u=true:=by
 cases k with
 |inl i=>obtain⟨t,e⟩:=(r);subst e;exact Kx P w i t
 |inr x=>obtain⟨t,e⟩:=(r);subst e;exact Y9 P w x t
theorem PQ:∀{ks:List Key}{us:List Value},zK (ks.map kV) us->ItemsAre (yy P w) ks us
 | [],_,r=>by rw[List.map_nil]at r;cases r;exact .nil
 |k::ks,_,r=>by
  rw[zyS]at r;cases r with
  |cons h t=>exact .cons (Ub h) (PQ t)
abbrev KT(H:Hp):List (List Key×V)->List (List Key×Addr×Value)->Prop:=Paired λp q=>p.1=q.1/\H q.2.1=some (.tup (p.1.map kV))/\RelV p.2 q.2.2
def KT.val{H kvs xs}(r:KT H kvs xs)(k:List Key):WG (v7 kvs k) ((atKey xs k).map (·.2)):=by
 induction r with
 |nil=>exact True.intro
 | @cons p q ps qs h t ih=>
  obtain⟨h1,_,h2⟩:=h
  by_cases e:p.1=k
  . have e':q.1=k:=h1.symm.trans e;have b:atKey (q::qs) k=some q.2:=by simp[atKey,List.find?_cons,e']
    rw[UO e,b];exact h2
  . have e':¬q.1=k:=λz=>e (h1.trans z);have b:atKey (q::qs) k=atKey qs k:=by simp[atKey,List.find?_cons,e']
    rw[Rj e,b];exact ih
def KT.repl(r:KT H kvs xs)(k)(ry:RelV y u):
 KT H (kvs.map λkv=>if kv.1=k then(kv.1,y)else kv) (xs.map (putAt k u)):=by
 induction r with
 |nil=>exact .nil
 | @cons p q ps qs h t ih=>
  rw[zyS,zyS];refine .cons ?_ ih;obtain⟨h1,h2,h3⟩:=h;unfold putAt
  by_cases e:p.1=k
  . rw[if_pos e,if_pos (h1.symm.trans e)];exact⟨h1,h2,ry⟩
  . rw[if_neg e,if_neg (λz=>e (h1.trans z))];exact⟨h1,h2,h3⟩
def KT.put(r:KT H kvs xs)(k)(hb:H b=some (.tup (k.map kV)))(ry:RelV y u):
 KT H (putK kvs k y) (storedH xs k b u):=by
 have e:(kvs.any λkv=>decide (kv.1=k))=(atKey xs k).isSome:=by
  rw[Ke,(r.val k).isSome_eq,Option.isSome_map]
 unfold putK storedH;rw[e]
 by_cases q:(atKey xs k).isSome=true
 . rw[if_pos q,if_pos q];exact r.repl k ry
 . rw[if_neg q,if_neg q];exact Paired.snoc r ⟨rfl,hb,ry⟩
def KT.keeps(r:KT H kvs xs)(ht:∀b ys,H b=some (.tup ys)->H' b=some (.tup ys)):KT H' kvs xs:=
 Paired.mapP r λ_ _ z=>⟨z.1,ht _ _ z.2.1,z.2.2⟩
section
variable{P:Program}{w:World}{H:Hp}{h:Heap}{a:Addr}
def Cv(ok:Wj P w H h)(e:Rd H a u):xy P w H h a u:=e.ok ok
def MY(ok:Wj P w H h)(e:Rd H a (.dK kvs)):kvs.length<=sizeLine/\(a==sysModules)=false/\∃vs,KV kvs vs/\h.DictOf (yy P w) a vs:=
 show xy P w H h a _ from Cv ok e
def uW(ok:Wj P w H h)(e:H a=some (.dK kvs)):kvs.length<=sizeLine/\(a==sysModules)=false/\∃vs,KV kvs vs/\h.DictOf (yy P w) a vs:=MY ok (.inl e)
def Tr(ok:Wj P w H h)(e:H a=some (.tup (ks.map kV))):(tupleKind (yy P w)).is h ks a:=by
 obtain⟨_,its,r,o,h1,h2,n,h3⟩:=(ok a _ e);exact⟨o,its.toArray,n,h1,h2,h3,by simpa using PQ r⟩
def Hi(ok:Wj P w H h)(e:Rd H a (.dT kvs)):kvs.length<=sizeLine/\(a==sysModules)=false/\
 ∃xs,KT H kvs xs/\h.DictOfH (tupleKind (yy P w)) a xs:=by
 obtain⟨z,y,xs,r,o,es,ep,h1,h2,h3,h4,h5⟩:=(Cv ok e);refine⟨z,y,xs,r,o,es,ep,h1,h2,h3,h4,λx hx=>?_,h5⟩;have all:∀{l:List _}{m:List _},KT H l m->∀x ∈ m,(tupleKind (yy P w)).is h x.1 x.2.1:=by
  intro l m q
  induction q with
  |nil=>intro x hx;exact nomatch hx
  | @cons p q ps qs hq t ih=>
   intro x hx
   rcases zzC.mp hx with e|hx
   . subst e;exact Tr ok (by rw[<-hq.1];exact hq.2.1)
   . exact ih x hx
 exact all r x hx
def CO(ok:Wj P w H h)(e:H a=some (.dT kvs)):kvs.length<=sizeLine/\(a==sysModules)=false/\
 ∃xs,KT H kvs xs/\h.DictOfH (tupleKind (yy P w)) a xs:=Hi ok (.inl e)
end
def Ex(H:Hp)(a:Addr)(y:V)(r:Option V):Prop:=
 (∃kvs k,Rd H a (.dK kvs)/\y=kV k/\r=v7 kvs k)\/∃kvs k b,Rd H a (.dT kvs)/\y = .ref b/\H b=some (.tup (k.map kV))/\r=v7 kvs k
def uV(H:Hp)(a:Addr)(y v:V)(H':Hp):Prop:=
 (∃kvs k,H a=some (.dK kvs)/\y=kV k/\kvs.length<sizeLine/\H'=upd H a (.dK (putK kvs k v))) \/
 ∃kvs k b,H a=some (.dT kvs)/\y = .ref b/\H b=some (.tup (k.map kV))/\kvs.length<sizeLine/\H'=upd H a (.dT (putK kvs k v))
def Ex.t{H a b kvs k}(e:H a=some (.dT kvs))(eb:H b=some (.tup (k.map kV))):Ex H a (.ref b) (v7 kvs k):=.inr ⟨kvs,k,b,.inl e,rfl,eb,rfl⟩
section
variable{X:Cx}{pins:List (Addr×Obj)}{σ:St}{H:Hp}{s:Shared}{a:Addr}{y v:V}{u r:Value}{o:Option V}{A:Around}{E:Value->Shared->Prop}
def Inv.big(I:Inv X pins σ H s):sysModules<s.heap.objs.size:=by
 have h:=(I.mod.glob.keeps I.bk).lt;exact Nat.lt_trans (by decide) h
def rP(hu:A.units+1<cLine)(I:Inv X pins σ H s)(g:Ex H a y o)(ry:RelV y u)(h:∀s',Inv X pins σ H s'->Q (.bool o.isSome) s'):
 wpAny (model X.prog X.w) A (compareOp .In u (.ref a)) Q E s:=by
 rcases g with⟨kvs,k,e,ey,l⟩|⟨kvs,k,b,e,ey,eb,l⟩
 . subst ey;obtain⟨z,hd,vs,rel,dd⟩:=MY I.hok e;refine wpAny_in_of (Ub ry) hd dd.mapOf ?_;rw[<-(rel.val k).isSome_eq,<-l];exact h _ (I.tok _)
 . subst ey;cases(ry);obtain⟨z,hd,xs,rel,dd⟩:=Hi I.hok e;refine wpAny_in_heap (tupleKind_room_in1 hu) (Tr I.hok eb) hd dd ?_;have q:=(rel.val k).isSome_eq;rw[Option.isSome_map]at q;rw[<-q,<-l];exact h _ (I.tok _)
def HE(hu:A.units+1<cLine)(I:Inv X pins σ H s)(g:Ex H a y o)(ry:RelV y u)(h:∀s',Inv X pins σ H s'->Q (.bool (!o.isSome)) s'):
 wpAny (model X.prog X.w) A (compareOp .NotIn u (.ref a)) Q E s:=by
 rcases g with⟨kvs,k,e,ey,l⟩|⟨kvs,k,b,e,ey,eb,l⟩
 . subst ey;obtain⟨z,hd,vs,rel,dd⟩:=MY I.hok e;refine wpAny_notIn_of (Ub ry) hd dd.mapOf ?_;rw[<-(rel.val k).isSome_eq,<-l];exact h _ (I.tok _)
 . subst ey;cases(ry);obtain⟨z,hd,xs,rel,dd⟩:=Hi I.hok e;refine wpAny_notIn_heap (tupleKind_room_in1 hu) (Tr I.hok eb) hd dd ?_;have q:=(rel.val k).isSome_eq;rw[Option.isSome_map]at q;rw[<-q,<-l];exact h _ (I.tok _)
def Mu(I:Inv X pins σ H s)(mu:uJ (H a))(hs:Heap.SameBut a s.heap h')(he:∃q,h'.get? a=some q)(new:xy X.prog X.w (upd H a ob) h' a ob):
 Inv X pins σ (upd H a ob) {s with heap:=h',toks:=t'}:=
 I.write mu (.inl rfl) (λb q hb z=>(hs.2 b hb).trans z) he new
def ND(z:kvs.length<=sizeLine)(hd:(a==sysModules)=false)(rel:KV kvs vs)(dd:h'.DictOf (yy P w) a vs):
 xy P w H' h' a (.dK kvs):=⟨z,hd,vs,rel,dd⟩
def EA(hu:A.units+1<cLine)(I:Inv X pins σ H s)(g:uV H a y v H')(ry:RelV y u)(rv:RelV v r)(h:∀s',Inv X pins σ H' s'->Q () s'):
 wpAny (model X.prog X.w) A (setItem (.ref a) u r) Q E s:=by
 rcases g with⟨kvs,k,e,ey,l,eH⟩|⟨kvs,k,b,e,ey,eb,l,eH⟩
 . subst ey eH;obtain⟨z,hd,vs,rel,dd⟩:=uW I.hok e;have hz:vs.length<=sizeLine:=by rw[<-rel.length];exact z
   have hl:(putK kvs k v).length<=sizeLine:=by have:=Q4 kvs k v;omega
   refine wpAny_setItem_pairs (Ub ry) dd λh' dd' hs=>h _ ?_;have he:∃q,h'.get? a=some q:=let⟨q,_,_,hq,_⟩:=dd';⟨q,hq⟩;exact Mu I (by rw[e];exact True.intro) hs he (ND hl hd (rel.put k rv) dd')
 . subst ey eH;cases(ry);obtain⟨z,hd,xs,rel,dd⟩:=CO I.hok e;have hz:xs.length<=sizeLine:=by rw[<-Paired.length rel];exact z
   have hl:(putK kvs k v).length<=sizeLine:=by have:=Q4 kvs k v;omega
   refine wpAny_setItem_heap (tupleKind_room_in1 hu) (Tr I.hok eb) dd λh' dd' hs=>h _ ?_;obtain⟨q,es,ep,hq,h2,h3,h4,_,h5⟩:=dd';refine Mu I (by rw[e];exact True.intro) hs ⟨q,hq⟩ ⟨hl,hd,_,(rel.put k eb rv).keeps λc ys ec=>?_,q,es,ep,hq,h2,h3,h4,h5⟩;rw[zr (Dt ec e (λz=>nomatch z))];exact ec
end
def uB(td ty tv:TE):TS:=λD σ H=>tv σ H λv H1=>td σ H1 λx H2=>ty σ H2 λy H3=>∃a H4,x = .ref a/\uV H3 a y v H4/\D.nx σ H4
section
variable{X:Cx}{o i e value:Expr}{pos pos' tpos:Pos}{td ty tv:TE}
def Es(hu:X.A.units+1<cLine)(ho:PE X o td)(hi:PE X i ty)(hv:PE X value tv)(hs:swapsWith value (some (.Subscript o i pos')) pos.line X.env=pure false):
 PS X (.Assign [.Subscript o i pos'] value pos) (uB td ty tv):=by
 intro pins s σ H D I h;refine wpAny_Assign_Subscript (thn (hv pins s σ H _ I h) λr s1 ⟨v,H1,I1,rv,q1⟩=>thn (ho pins s1 σ H1 _ I1 q1) λu s2 ⟨x,H2,I2,rx,q2⟩=>thn (hi pins s2 σ H2 _ I2 q2) λiv s3 ⟨y,H3,I3,ry,a,H4,ex,g,q3⟩=>?_) hs;subst ex;obtain rfl:u=Value.ref a:=rx;exact EA hu I3 g ry rv λs4 I4=>⟨σ,H4,I4,q3⟩
end
def FA(h:Heap)(hb:sysModules<h.objs.size):xy P w H (h.push {cls:=.type "dict",data:=.dict #[]}) h.objs.size (.dT []):=
 ⟨Nat.zero_le _,beq_eq_false_iff_ne.mpr (Ne.symm (zzQ hb)),[],.nil,_,#[],0,zxK _ rfl,⟨rfl,rfl,rfl⟩,rfl,rfl,zyJ⟩
def JT:TE:=λ_ H Q=>∀p,H p=none->Q (.ref p) (upd H p (.dT []))
section
variable{X:Cx}{pos:Pos}
def SQ:PE X (.Dict [] [] pos) JT:=λpins s σ H Q I h=>
 wpAny_Dict_empty ⟨.ref s.heap.objs.size,_,I.laid (t':=s.toks) (λ_ _ q=>zxI _ q) (zzN _) (FA s.heap I.big),rfl,h _ (I.hok.fresh (zzN _))⟩
end
structure M1(X:Cx)(o:Expr)(m:Str)(apos:Pos)(e:Expr)(cpos:Pos):Prop where
 base:attributeBase o m X.env (eval o X.env)=eval o X.env
 few:((backTo cpos (starEach [e] X.env)).all (λx=>!x.1)&&(backToKw cpos (keywordEach [] X.env)).all (λx=>x.1.isSome)
  && decide (([e]:List Expr).length+([]:List Keyword).length+(if([]:List Keyword).isEmpty then 0 else 1)<30))=true
 line:(apos.endLine==cpos.line)=true
 trees:backTo cpos (starEach [e] X.env)=[(false,eval e X.env)]
structure M2(X:Cx)(o:Expr)(m:Str)(apos:Pos)(e f:Expr)(cpos:Pos):Prop where
 base:attributeBase o m X.env (eval o X.env)=eval o X.env
 few:((backTo cpos (starEach [e,f] X.env)).all (λx=>!x.1)&&(backToKw cpos (keywordEach [] X.env)).all (λx=>x.1.isSome)
  && decide (([e,f]:List Expr).length+([]:List Keyword).length+(if([]:List Keyword).isEmpty then 0 else 1)<30))=true
 line:(apos.endLine==cpos.line)=true
 trees:backTo cpos (starEach [e,f] X.env)=[(false,eval e X.env),(false,eval f X.env)]
end L2
namespace HT
open PySem PyProof.Rows
section
variable{prog:Program}{w:World}{A:Around}{E:Value->Shared->Prop}{s:Shared}
def OP(ht:IsTup s.heap t vs.toArray)(hb:IsTup s.heap b ws.toArray)(hv:vs≠[])
 (h1:ws=[]->Q (.ref t) s) (h2:ws≠[]->Q (.ref s.heap.objs.size) {s with heap:=s.heap.push {cls:=.type "tuple",data:=.seq (vs++ws).toArray}})
 (hsz:vs.length+ws.length<=sizeLine):wpAny (model prog w) A (binaryOp .Add (.ref t) (.ref b)) Q E s:=by
 obtain⟨⟨cls,dd,data,sl⟩,ho,hc,n,hd⟩:=id ht;obtain⟨⟨cls2,dd2,data2,sl2⟩,ho2,hc2,n2,hd2⟩:=id hb;simp only at hc hd hc2 hd2;subst hc hd hc2 hd2;have e:vs.toArray++ws.toArray=(vs++ws).toArray:=by simp
 by_cases hw:ws=[]
 . exact concat_meets ⟨_,ho,rfl⟩ ⟨_,ho2,rfl⟩ noFill_tuple_add seq_tuple_add PySem.F.slot_tuple_add PySem.F.entry_tuple_add (PySem.F.args_tuple_add_2 _ _)
    (tuple_addW1 t b vs.toArray ws.toArray n n2 dd dd2 sl sl2 (by simpa using hv) (by simp[hw])) ⟨ho,ho2,h1 hw⟩
 . refine concat_meets ⟨_,ho,rfl⟩ ⟨_,ho2,rfl⟩ noFill_tuple_add seq_tuple_add PySem.F.slot_tuple_add PySem.F.entry_tuple_add (PySem.F.args_tuple_add_2 _ _)
    (tuple_addW2 t b vs.toArray ws.toArray n n2 dd dd2 sl sl2 (by simpa using hv) (by simpa using hw) (by rw[zzH,zzH];exact hsz)) ⟨ho,ho2, ?_⟩
   rw[e];exact h2 hw
noncomputable def sIx(n d:Nat):Option Int->Nat
 |none=>d
 |some v=>if v<0 then(v+(n:Int)).toNat else min v.toNat n
def Sz(n d:Nat):sIx n d none=d:=rfl
def HB(n d k:Nat):sIx n d (some (k:Int))=min k n:=by
 show(if(k:Int)<0 then((k:Int)+(n:Int)).toNat else min (k:Int).toNat n)=_;rw[if_neg (by omega),zyI]
def Aj(n d:Nat)(hd:d<=n)(o):sIx n d o<=n:=by
 cases o with
 |none=>exact hd
 |some v=>
  show(if v<0 then(v+_).toNat else min v.toNat n)<=n
  by_cases hv:v<0
  . rw[if_pos hv];omega
  . rw[if_neg hv];exact Nat.min_le_right _ _
def MF(v)(n d:Nat):(if v<0 then max (v+(n:Int)) 0 else min v (n:Int))=((sIx n d (some v):Nat):Int):=by
 show _=(((if v<0 then(v+_).toNat else min v.toNat n):Nat):Int)
 by_cases hv:v<0
 . simp only[if_pos hv];omega
 . simp only[if_neg hv];omega
def LO(lo hi)(n:Nat):Builtin.Slice.sliceAdjust lo hi 1 (n:Int)=(((sIx n 0 lo:Nat):Int),((sIx n n hi:Nat):Int)):=by
 have h1:¬((1:Int)<0):=by omega
 unfold Builtin.Slice.sliceAdjust;simp only[h1,if_false];refine Prod.ext ?_ ?_
 . cases lo with
   |none=>rfl
   |some v=>exact MF v n 0
 . cases hi with
   |none=>rfl
   |some v=>exact MF v n n
def N0(i j:Nat):Builtin.Slice.slicePlaces (i:Int) (j:Int) 1=j-i:=by
 unfold Builtin.Slice.slicePlaces;have h1:(1:Int) > 0:=by omega
 simp only[h1,if_true,Int.ediv_one]
 split<;>omega
def U6(p:IsPart v o)(h:Q o s):wpAny (model prog w) A (Builtin.Slice.slicePartIndex v) Q E s:=by
 cases p with
 |none=>exact slicePart_none h
 |int i t=>exact slicePart_int h
def Qs{sl vl vu lo hi}{n:Nat}{Q}(hs:s.heap.IsSliceOf sl vl vu .none)(pl:IsPart vl lo)(pu:IsPart vu hi)
 (h:Q (((sIx n 0 lo:Nat):Int),1,sIx n n hi-sIx n 0 lo) s):wpAny (model prog w) A (Builtin.Slice.sliceApplied (.ref sl) (pure (n:Int))) Q E s:=by
 obtain⟨os,hos,hcs,hds⟩:=id hs;unfold Builtin.Slice.sliceApplied Builtin.Slice.sliceFields;refine zxG (zxG (wpAny_field hos hds rfl (zxG (wpAny_field hos hds rfl (zxG (wpAny_field hos hds rfl (zxH ?_)))))));refine zxG (slicePart_none ?_);rw[if_neg (by decide)];refine zxG (U6 pl (zxG (U6 pu (zxG (zxH ?_)))));show wpAny _ _ (match Builtin.Slice.sliceAdjust lo hi 1 _ with|(lo,hi)=>pure (lo,_,Builtin.Slice.slicePlaces lo hi 1)) _ _ s;rw[LO lo hi n];show wpAny _ _ (pure _) _ _ s;rw[N0];exact zxH h
def FC(xs:Array Value)(i k:Nat):((List.range k).filterMap λ(m:Nat)=>xs[((i:Int)+(m:Int)*1).toNat]?).toArray=((xs.toList.drop i).take k).toArray:=by
 have e:(λ(m:Nat)=>xs[((i:Int)+(m:Int)*1).toNat]?)=λm=>xs[i+m]? := by
  funext m;have:(i+(m:Int)*1).toNat=i+m:=by omega
  rw[this]
 rw[e];have:=pick_run xs i k;rw[List.filterMap_map]at this;have e2:((λx=>xs[x]?)∘λx=>i+x)=λm=>xs[i+m]? := rfl;rw[e2]at this;rw[this]
def Vt{t sl items vl vu lo hi Q}(ht:IsTup s.heap t items)(hs:s.heap.IsSliceOf sl vl vu .none)(pl:IsPart vl lo)(pu:IsPart vu hi)
 (hw:¬(sIx items.size 0 lo=0/\sIx items.size items.size hi=items.size))
 (h:Q (.ref s.heap.objs.size) {s with heap:=s.heap.push {cls:=.type "tuple",data:=.seq ((items.toList.drop (sIx items.size 0 lo)).take (sIx items.size items.size hi-sIx items.size 0 lo)).toArray}})
 (hsz:items.size<=sizeLine):wpAny (model prog w) A (getItem (.ref t) (.ref sl)) Q E s:=by
 have htake:sizeOk (.seq ((items.toList.drop (sIx items.size 0 lo)).take (sIx items.size items.size hi-sIx items.size 0 lo)).toArray):=by
  show((items.toList.drop _).take _).toArray.size<=sizeLine;rw[zzH,zzS,List.length_drop,zyT];omega
 have hj:sIx items.size items.size hi<=items.size:=Aj _ _ (zzN _) hi;obtain⟨os,hos,hcs,hds⟩:=id hs;have hTs:s.TypeIs (.ref sl) "slice":=⟨os,hos,hcs⟩;unfold getItem
 try with_reducible refine zxN ?_
 first|refine zxG (zxH ?_)|skip
 refine zxG (wpAny_sequenceKey ht.typeIs (by decide) ?_);refine zxG (wpAny_callSpecial?_slot ht.typeIs PyProof.Rows.slot_tuple_getitem
  (zxU PyProof.Rows.slot_tuple_getitem ht.typeIs entry_tuple_getitem ?_ (args_tuple_getitem _ _)))
 show wpAny _ _ (Builtin.Tuple.tupleItemsOf (.ref t) >>= _) _ _ s;refine zxG (tupleItemsOf_ ht ?_);refine zxG (wpAny_typeOf hTs ?_);rw[if_pos (by decide)];refine zxG (Qs hs pl pu ?_);have hno:¬((((sIx items.size 0 lo:Nat):Int)==0&&(1:Int)==1&&(sIx items.size items.size hi-sIx items.size 0 lo)==items.size)=true):=by
  intro q;rw[zyC,zyC]at q;have q1:=eq_of_beq q.1.1;have q2:=eq_of_beq q.2;exact hw ⟨by omega,by omega⟩
 show wpAny _ _ (if _=true then _ else _) _ _ s;rw[if_neg hno,FC]
 first
  |exact zxG (zxL (zxH ⟨_,rfl,zxH h⟩) htake)
  |exact zxG _
  |exact zxG _
  |exact zxG _
end
end HT
namespace L2
open PySem PySem.Spec PyProof.Rows
abbrev TO:=St->Hp->(Option Int->Hp->Prop)->Prop
def PO(X:Cx)(e:Option Expr)(t:TO):Prop:=
 ∀(pins:List (Addr×Obj)) (s:Shared) (σ:St) (H:Hp) (Q:Option Int->Hp->Prop),Inv X pins σ H s->t σ H Q->
  wpAny (model X.prog X.w) X.A (evalPart e X.env) (λu s'=>∃o H',Inv X pins σ H' s'/\IsPart u o/\Q o H') X.xe s
def OE:TO:=λ_ H Q=>Q none H
def DX(t:TE):TO:=λσ H Q=>t σ H λx H1=>∃i,x = .int i/\Q (some i) H1
def intsAre_of:∀{us:List Value},zK (ns.map V.int) us->IntsAre us ns:=by
 induction ns with
 |nil=>intro us r;rw[List.map_nil]at r;cases r;exact .nil
 |cons n ns ih=>
  intro us r;rw[zyS]at r;cases r with
  |cons r1 r2=>
   obtain⟨t,e⟩:=r1;subst e;exact .cons n t (ih r2)
section
variable{X:Cx}{e:Expr}{te:TE}{lo hi:Option Expr}{tl th:TO}{pos p2:Pos}
def HU:PO X none OE:=by
 intro pins s σ H Q I h;rw[evalPart_none];exact zxH ⟨none,H,I,.none,h⟩
def HD(h:PE X e te):PO X (some e) (DX te):=by
 intro pins s σ H Q I hw;rw[evalPart_some];refine thn (h pins s σ H _ I hw) λu s1 ⟨x,H1,I1,r1,q1⟩=>?_;obtain⟨i,rfl,q⟩:=q1;obtain⟨t,rfl⟩:=r1;exact⟨some i,H1,I1,.int i t,q⟩
def tu(X:Cx)(r:V->Option Int->Option Int->Hp->VK->Prop):Prop:=
 ∀(pins:List (Addr×Obj)) (s:Shared) (σ:St) (H:Hp) (x:V) (v vl vu:Value) (lo hi:Option Int) (sl:Addr) (Q:VK),Inv X pins σ H s->RelV x v->s.heap.IsSliceOf sl vl vu .none->IsPart vl lo->IsPart vu hi->r x lo hi H Q->
  ∃T id,typeLookup (.type T) "__getitem__"=pure (some (.builtin id))/\s.TypeIs v T/\wpAny (model X.prog X.w) X.A (getItem v (.ref sl)) (EP X pins σ Q) X.xe s
def qG(r:V->Option Int->Option Int->Hp->VK->Prop)(te:TE)(tl th:TO):TE:=λσ H Q=>te σ H λx H1=>tl σ H1 λl H2=>th σ H2 λu H3=>r x l u H3 Q
def FO(hr:tu X r)(he:PE X e te)(hl:PO X lo tl)(hu:PO X hi th):PE X (.Subscript e (.Slice lo hi none p2) pos) (qG r te tl th):=by
 intro pins s σ H Q I h;refine Subscript_ (thn (he pins s σ H _ I h) λv s1 ⟨x,H1,I1,r1,q1⟩=>?_);refine wpAny_Slice (thn (hl pins s1 σ H1 _ I1 q1) λvl s2 ⟨l,H2,I2,pl,q2⟩=>thn (hu pins s2 σ H2 _ I2 q2) λvu s3 ⟨u,H3,I3,pu,q3⟩=>?_);rw[evalPart_none];refine zxH ?_;have I4:Inv X pins σ H3 {s3 with heap:=s3.heap.push {cls:=.type "slice",data:=.fields #[vl,vu,.none]}}:=I3.kept (t':=s3.toks) λb ob q=>zxI _ q;obtain⟨T,id,hT,ht,hg⟩:=hr pins {s3 with heap:=s3.heap.push {cls:=.type "slice",data:=.fields #[vl,vu,.none]}} σ H3 x v vl vu l u s3.heap.objs.size Q I4 r1 (Heap.IsSliceOf.new ..) pl pu q3;exact tail_any ht hT hg (by with_unfolding_all rfl)
noncomputable def E_(xs:List V)(lo hi:Option Int):List V:=(xs.drop (HT.sIx xs.length 0 lo)).take (HT.sIx xs.length xs.length hi-HT.sIx xs.length 0 lo)
def QQ(xs)(lo hi):(E_ xs lo hi).length<=xs.length:=by
 unfold E_;rw[zzS,List.length_drop];omega
def sF(K:zzA):V->Option Int->Option Int->Hp->VK->Prop:=λx lo hi H Q=>∃a xs,x = .ref a/\QX K H a xs/\
 ¬(HT.sIx xs.length 0 lo=0/\HT.sIx xs.length xs.length hi=xs.length)/\∀p,H p=none->Q (.ref p) (upd H p (.tup (E_ xs lo hi)))
def Ao:tu X (sF X.K):=by
 intro pins s σ H x v vl vu lo hi sl Q I rx hs pl pu h;obtain⟨a,xs,rfl,hx,hw,q⟩:=h;cases rx;obtain⟨its,r,ht,hz⟩:=I.tuple hx;have hlen:its.toArray.size=xs.length:=by rw[zzH];exact r.length.symm
 refine⟨"tuple",_,PyProof.Rows.slot_tuple_getitem.lookup,ht.typeIs, ?_⟩;refine HT.Vt ht hs pl pu (by rw[hlen];exact hw) ?_ (by rw[hlen];exact hz);rw[hlen];refine⟨.ref s.heap.objs.size,_,I.laid (t':=s.toks) (λb ob q=>zxI _ q) (zzN _) ?_,rfl,q _ (I.hok.fresh (zzN _))⟩;exact⟨zzO (QQ xs lo hi) hz,_,(r.drop _).take _,IsTup.new _ _⟩
def uO(K:zzA):R2:=λx y H Q=>∃a b xs ys,x = .ref a/\y = .ref b/\QX K H a xs/\QX K H b ys/\xs≠[]/\xs.length+ys.length<=sizeLine/\
 (ys=[]->Q (.ref a) H)/\(ys≠[]->∀p,H p=none->Q (.ref p) (upd H p (.tup (xs++ys))))
def zK.nil_iff(r:zK xs us):us=[] ↔ xs=[]:=by
 cases r with
 |nil=>simp
 |cons _ _=>simp
def OW:Qd X (binaryOp .Add) (uO X.K):=by
 intro pins s σ H x y v u Q I rx ry h;obtain⟨a,b,xs,ys,rfl,rfl,ha,hb,hx,hz,q1,q2⟩:=h;cases rx;cases ry;obtain⟨its,r1,p1,_⟩:=I.tuple ha;obtain⟨its2,r2,p2,_⟩:=I.tuple hb;refine HT.OP p1 p2 (λz=>hx (r1.nil_iff.mp z)) (λz=>⟨.ref a,H,I,rfl,q1 (r2.nil_iff.mp z)⟩) (λz=>?_) (by rw[<-r1.length,<-r2.length];exact hz);refine⟨.ref s.heap.objs.size,_,I.laid (t':=s.toks) (λb ob q=>zxI _ q) (zzN _) ?_,rfl,q2 (λw=>z (r2.nil_iff.mpr w)) _ (I.hok.fresh (zzN _))⟩;exact⟨by rw[zzJ];exact hz,_,r1.append r2,IsTup.new _ _⟩
end
end L2
namespace L2
open PySem PySem.Spec PyProof.Rows
noncomputable def Ht(n:Nat)(i:Int):Option Nat:=if 0<=i then(if i<n then some i.toNat else none)else if -(n:Int)<=i then some (i+n).toNat else none
def GU{α:Type}(xs:List α)(i:Int):Option α:=(Ht xs.length i).bind λj=>xs[j]?
def MV(h:Ht n i=some j):seqIndex? i n=some j/\j<n /\ -(n:Int)<=i/\i<n:=by
 unfold Ht at h
 by_cases h0:0<=i
 . rw[if_pos h0]at h
   by_cases h1:i<n
   . rw[if_pos h1]at h;have e:=zzZ h;exact⟨by rw[seqIndex_of h0 h1,e],by omega,by omega,h1⟩
   . rw[if_neg h1]at h;cases h
 . rw[if_neg h0]at h
   by_cases h1 : -n<=i
   . rw[if_pos h1]at h;have e:=zzZ h;exact⟨by rw[seqIndex_neg (by omega) h1,e],by omega,h1,by omega⟩
   . rw[if_neg h1]at h;cases h
def Gg(h:GU xs i=some v):∃j,seqIndex? i xs.length=some j/\xs[j]? = some v/\j<xs.length /\ -(xs.length:Int)<=i/\i<xs.length:=by
 unfold GU at h;cases e:Ht xs.length i with
 |none=>rw[e]at h;cases h
 |some j=>
  rw[e]at h;obtain⟨h1,h2,h3,h4⟩:=MV e;exact⟨j,h1,h,h2,h3,h4⟩
def x8{α:Type}{xs}{j:Nat}{v:α}(h:xs[j]? = some v):GU xs (j:Int)=some v:=by
 have hj:=(zzG.mp h).1;have e:Ht xs.length (j:Int)=some j:=by
  unfold Ht;rw[if_pos (by omega),if_pos (by omega)];simp
 unfold GU;rw[e];exact h
def wL(b:Expr):Prop:=∀o i,subscripted b false o i=operate [o,i] (getItem o i)
def uF(X:Cx)(r:R2):Prop:=
 ∀(value slice:Expr) (pins:List (Addr×Obj)) (s:Shared) (σ:St) (H:Hp) (x y:V) (v u:Value) (Q:VK),Inv X pins σ H s->RelV x v->RelV y u->r x y H Q->
  subscripted slice false v u=operate [v,u] (getItem v u)->wpAny (model X.prog X.w) X.A (subscriptTail value slice v u) (EP X pins σ Q) X.xe s
def rB(X:Cx)(id:String)(r:V->List V->Hp->VK->Prop):Prop:=
 ∀(pins:List (Addr×Obj)) (s:Shared) (σ:St) (H:Hp) (x:V) (xs:List V) (v:Value) (us:List Value) (Q:VK),Inv X pins σ H s->RelV x v->zK xs us->r x xs H Q->
  wpAny (model X.prog X.w) X.A (call (.builtin id) (v::us)) (EP X pins σ Q) X.xe s
section
variable{X:Cx}{a b:Expr}{ta tb:TE}{pos:Pos}
def Q8(hr:uF X r)(ha:PE X a ta)(hb:PE X b tb)(hs:wL b):PE X (.Subscript a b pos) (D6 r ta tb):=by
 intro pins s σ H Q I h;exact Subscript_ (Jk ha hb I h λv u s2 x y H2 I2 rx ry q=>hr a b pins s2 σ H2 x y v u Q I2 rx ry q (hs _ _))
def sC(K:zzA):R2:=λx y H Q=>∃p xs i v,x = .ref p/\y = .int i/\Q1 K H p xs/\GU xs i=some v/\Q v H
def t7(K:zzA):R2:=λx y H Q=>∃p xs i v,x = .ref p/\y = .int i/\QX K H p xs/\GU xs i=some v/\Q v H
def rX:R2:=λx y H Q=>∃z i c,x = .str z/\y = .int i/\z.length<=sizeLine/\GU z.cps.toList i=some c/\Q (.str ⟨#[c]⟩) H
def VB:uF X (sC X.K):=by
 intro value slice pins s σ H x y v u Q I rx ry h hs;obtain⟨p,xs,i,z,rfl,rfl,hq,he,q⟩:=h;cases rx;obtain⟨t,rfl⟩:=ry;obtain⟨its,r,pl,hz⟩:=I.list hq;obtain⟨j,h1,h2,h3,h4,h5⟩:=Gg he;obtain⟨w,ew,rw'⟩:=r.get h2;have hl:=r.length;have hn:=WL;have fin:EP X pins σ Q w s:=⟨z,H,I,rw',q⟩
 by_cases h0:0<=i
 . have hj:i.toNat=j:=by
    rw[seqIndex_of h0 h5]at h1;exact zzZ h1
   exact item_listR pl.isList h0 (by omega) (by rw[hj];simpa using ew) fin hs
 . have hj:(i+(its.toArray.size:Int)).toNat=j:=by
    rw[seqIndex_neg (by omega) h4]at h1;rw[zzH,<-hl];exact zzZ h1
   exact subscriptTail_builtinR pl.isList.typeIs slot_list_getitem.lookup
    (wpAny_getItem_list_neg pl.isList (by omega) (by rw[zzH]<;>omega) (by omega) (by rw[hj];simpa using ew) ⟨rfl,fin⟩) hs
def GM:uF X (t7 X.K):=by
 intro value slice pins s σ H x y v u Q I rx ry h hs;obtain⟨p,xs,i,z,rfl,rfl,hq,he,q⟩:=h;cases rx;obtain⟨t,rfl⟩:=ry;obtain⟨its,r,pl,hz⟩:=I.tuple hq;obtain⟨j,h1,h2,h3,h4,h5⟩:=Gg he;obtain⟨w,ew,rw'⟩:=r.get h2;have hl:=r.length;have hn:=WL;have fin:EP X pins σ Q w s:=⟨z,H,I,rw',q⟩;exact subscriptTail_builtinR pl.typeIs slot_tuple_getitem.lookup
  (getItem_tuple pl (by omega) (by omega) (by rw[zzH,<-hl];exact h1) (by simpa using ew) ⟨rfl,fin⟩) hs
def Af:uF X rX:=by
 intro value slice pins s σ H x y v u Q I rx ry h hs;obtain⟨z,i,c,rfl,rfl,hz,he,q⟩:=h;obtain⟨t,rfl⟩:=rx;obtain⟨t',rfl⟩:=ry;obtain⟨j,h1,h2,h3,h4,h5⟩:=Gg he;have hl:z.cps.toList.length=z.length:=by simp[Str.length]
 rw[hl]at h1 h4 h5;have hn:=WL;exact tail_any (typeIs_str s z t) slot_str_getitem.lookup (getItem_str (by
  have e1:decide (i < -(2 ^ 63:Int))=false:=zyG (by omega);have e2:decide (i ≥ 2 ^ 63)=false:=zyG (by omega);rw[e1,e2,Bool.or_false]) (by rw[h1];simpa using h2) ⟨.str ⟨#[c]⟩,H,I.tok _,⟨_,rfl⟩,q⟩) hs
def NZ(its:List Value)(n j:Nat)(u):Obj.mapSeq (·.setIfInBounds j u) {cls:=.type "list",data:=.seq its.toArray n}={cls:=.type "list",data:=.seq (its.set j u).toArray n}:=by
 simp[Obj.mapSeq]
theorem Inv.lst(I:Inv X pins σ H s)(h:H p=some (.lst xs)):
 ∃(its:List Value) (n:Nat),zK xs its/\s.heap.get? p=some {cls:=.type "list",data:=.seq its.toArray n}/\xs.length<=sizeLine:=by
 obtain⟨z,its,n,r,e⟩:=I.hok p _ h;exact⟨its,n,r,e,z⟩
def Inv.lstUpd{pins σ H s p xs ys}{its its':List Value}{n n':Nat}{f}(I:Inv X pins σ H s)(h:H p=some (.lst xs))
 (ho:s.heap.get? p=some {cls:=.type "list",data:=.seq its.toArray n}) (hf:f {cls:=.type "list",data:=.seq its.toArray n}={cls:=.type "list",data:=.seq its'.toArray n'}) (r:zK ys its') (hz:ys.length<=sizeLine) (t:Nat):
 Inv X pins σ (upd H p (.lst ys)) {s with heap:=s.heap.update p f,toks:=t}:=by
 have e:(s.heap.update p f).get? p=some {cls:=.type "list",data:=.seq its'.toArray n'}:=by
  rw[zxS f ho (by rw[hf]<;>rfl),hf]
 refine I.write (by rw[h];trivial) (.inl rfl) (λb u hb q=>(zxO _ _ (Ne.symm hb)).trans q) ⟨_,e⟩ ?_;exact⟨hz,its',n',r,e⟩
def uR:V->V->V->Hp->(Hp->Prop)->Prop:=λo i v H Q=>∃p xs k j,o = .ref p/\i = .int k/\H p=some (.lst xs)/\Ht xs.length k=some j/\Q (upd H p (.lst (xs.set j v)))
def set_list:DJ X uR:=by
 intro pins s σ H o i v ov iv u Q I ro ri rv h;obtain⟨p,xs,k,j,rfl,rfl,hp,hj,q⟩:=h;cases ro;obtain⟨t,rfl⟩:=ri;obtain⟨its,n,r,ho,hz⟩:=I.lst hp;obtain⟨h1,h2,h3,h4⟩:=MV hj;have hl:=r.length;have hn:=WL;have I':Inv X pins σ _ {s with heap:=s.heap.update p _}:=
  I.lstUpd hp ho (NZ its n j u) (r.set rv j) (by rw[zzU];exact hz) s.toks
 by_cases h0:0<=k
 . have hk:k.toNat=j:=by
    rw[seqIndex_of h0 h4]at h1;exact zzZ h1
   exact W.ki_setAt ho h0 (by omega) (by rw[zzH,<-hl];exact h4) (by rw[hk];exact⟨_,I',q⟩)
 . have hk:(k+(its.toArray.size:Int)).toNat=j:=by
    rw[seqIndex_neg (by omega) h3]at h1;rw[zzH,<-hl];exact zzZ h1
   exact W.ki_setBack ho (by omega) (by rw[zzH,<-hl];exact h3) (by omega) (by rw[hk];exact⟨_,I',q⟩)
def Gs(lo hi)(n:Nat):(sliceBounds lo hi none n).1=((HT.sIx n 0 lo:Nat):Int)/\(sliceBounds lo hi none n).2.1=((HT.sIx n n hi:Nat):Int)/\(sliceBounds lo hi none n).2.2=1:=by
 refine⟨?_, ?_,rfl⟩
 . cases lo with
   |none=>simp[sliceBounds,HT.sIx]
   |some i=>
    simp only[sliceBounds,HT.sIx,Option.getD_none,show 1 > 0 by decide,if_true]
    by_cases h:i<0
    . simp only[h,if_true]<;>omega
    . simp only[h,if_false]<;>omega
 . cases hi with
   |none=>simp[sliceBounds,HT.sIx]
   |some i=>
    simp only[sliceBounds,HT.sIx,Option.getD_none,show 1 > 0 by decide,if_true]
    by_cases h:i<0
    . simp only[h,if_true]<;>omega
    . simp only[h,if_false]<;>omega
def RY(its:List Value)(lo hi):slicePick its.toArray lo hi none=((its.drop (HT.sIx its.length 0 lo)).take (HT.sIx its.length its.length hi-HT.sIx its.length 0 lo)).toArray:=by
 obtain⟨h1,h2,h3⟩:=Gs lo hi its.toArray.size;unfold slicePick;rw[h1,h2,h3];simp only[sliceRange_one,pick_run,zzH]<;>rfl
def sO(K:zzA):V->Option Int->Option Int->Hp->VK->Prop:=λx lo hi H Q=>∃a xs,x = .ref a/\Q1 K H a xs/\∀p,H p=none->Q (.ref p) (upd H p (.lst (E_ xs lo hi)))
def Hw:tu X (sO X.K):=by
 intro pins s σ H x v vl vu lo hi sl Q I rx hs pl pu h;obtain⟨a,xs,rfl,hx,q⟩:=h;cases rx;obtain⟨its,r,ht,hz⟩:=I.list hx;have hlen:=r.length;refine⟨"list",_,slot_list_getitem.lookup,ht.isList.typeIs, ?_⟩;refine wpAny_getItem_list_slice ht.isList hs pl pu .none (by simp) ?_ (by rw[zzH]<;>omega);rw[RY,<-hlen];refine⟨.ref s.heap.objs.size,_,I.laid (t':=s.toks) (λb ob q=>zxI _ q) (zzN _) ?_,rfl,q _ (I.hok.fresh (zzN _))⟩;exact⟨zzO (QQ xs lo hi) hz,_,0,(r.drop _).take _,zxK _ rfl⟩
def Ym:Wh X (.builtin "len") (λxs H Q=>∃p ys,xs=[.ref p]/\(Q1 X.K H p ys\/QX X.K H p ys)/\Q (.int ys.length) H):=by
 intro pins s σ H xs us Q I r h;obtain⟨p,ys,rfl,hq,q⟩:=h;obtain⟨u,rfl,rx⟩:=vals1 r;cases rx;have hn:=WL
 rcases hq with hq|hq
 . obtain⟨its,r',pl,hz⟩:=I.list hq;have hlen:=r'.length;exact Calls.call_len_list pl.isList (by simp only[zzH]<;>omega) ⟨.int ys.length,H,I.tok _,⟨s.toks+1,by rw[zzH,hlen]⟩,q⟩
 . obtain⟨its,r',pl,hz⟩:=I.tuple hq;have hlen:=r'.length;exact len_tuple pl (by simp only[zzH]<;>omega) ⟨.int ys.length,H,I.tok _,⟨s.toks+1,by rw[zzH,hlen]⟩,q⟩
def Tw:Wh X (.builtin "len") (λxs H Q=>∃z,xs=[.str z]/\z.length<=sizeLine/\Q (.int z.length) H):=by
 intro pins s σ H xs us Q I r h;obtain⟨z,rfl,hz,q⟩:=h;obtain⟨u,rfl,t,rfl⟩:=vals1 r;have hn:=WL;exact len_str (by omega) ⟨.int z.length,H,I.tok _,⟨_,rfl⟩,q⟩
def W7:Wh X (.type "list") (λxs H Q=>∃p ys,xs=[.ref p]/\(Q1 X.K H p ys\/QX X.K H p ys)/\∀l,H l=none->Q (.ref l) (upd H l (.lst ys))):=by
 intro pins s σ H xs us Q I r h;obtain⟨p,ys,rfl,hq,q⟩:=h;obtain⟨u,rfl,rx⟩:=vals1 r;cases rx;have fin:∀its,zK ys its->ys.length<=sizeLine->∀h' c',_->
  h'.get? s.heap.objs.size=some {cls:=.type "list",dict:=none,data:=.seq its.toArray c',slots:=#[]}->EP X pins σ Q _ {s with heap:=h'}:=λits r' hz h' c' kp e=>
  ⟨.ref s.heap.objs.size,_,I.laid (t':=s.toks) kp (zzN _) (show xy X.prog X.w _ h' _ (.lst ys)from⟨hz,its,c',r',e⟩),rfl,q _ (I.hok.fresh (zzN _))⟩
 rcases hq with hq|hq
 . obtain⟨its,r',pl,hz⟩:=I.list hq;have hlen:=r'.length;obtain⟨o,ho,hc,n,hd⟩:=pl.isList;exact call_list_seq p (.inl rfl) ho hc hd (λh' c' kp e=>fin its r' hz h' c' kp e) (by simp only[zzH]<;>omega)
 . obtain⟨its,r',pl,hz⟩:=I.tuple hq;have hlen:=r'.length;obtain⟨o,ho,hc,n,hd⟩:=pl;exact call_list_seq p (.inr rfl) ho hc hd (λh' c' kp e=>fin its r' hz h' c' kp e) (by simp only[zzH]<;>omega)
def r6(K:zzA)(T:String)(x:V)(H:Hp):Prop:=match x with
 | .str _=>T="str"
 | .int _=>T="int"
 | .ref p=>(T="list"/\∃xs,Q1 K H p xs)\/(T="tuple"/\∃o,K.lookup p=some o/\o.cls = .type "tuple"/\o.dict=none) \/
  (T="dict"/\((∃kvs,H p=some (.dK kvs))\/∃kvs,H p=some (.dT kvs)))\/(T="set"/\∃S n,H p=some (.set S n))
 |_=>False
def IY(I:Inv X pins σ H s)(r:RelV x v)(ty:r6 X.K T x H):
 s.TypeIs v T/\∀a,v = .ref a->∃ob,s.heap.get? a=some ob/\ob.dict=none:=by
 cases x with
 |str z=>
  obtain⟨t,rfl⟩:=r;cases(ty);exact⟨typeIs_str s z t,λ_ e=>nomatch e⟩
 |int i=>
  obtain⟨t,rfl⟩:=r;cases(ty);exact⟨typeIs_int s i t,λ_ e=>nomatch e⟩
 |ref p=>
  cases r
  rcases ty with⟨rfl,xs,hq⟩|⟨rfl,o,hk,hc,hd⟩|⟨rfl,hk⟩|⟨rfl,S,n,hk⟩
  . obtain⟨its,_,pl,_⟩:=I.list hq;refine⟨pl.isList.typeIs,λa e=>?_⟩;cases e;obtain⟨o,n,e,c,hd,_⟩:=pl;exact⟨o,e,hd⟩
  . refine⟨⟨o,I.kIn p o hk,hc⟩,λa e=>?_⟩;cases e;exact⟨o,I.kIn _ o hk,hd⟩
  . have z:∃o,s.heap.get? p=some o/\o.ExactDict:=by
     rcases hk with⟨kvs,hk⟩|⟨kvs,hk⟩
     . obtain⟨_,_,_,_,o,_,_,e,ex,_⟩:=I.hok p _ hk;exact⟨o,e,ex⟩
     . obtain⟨_,_,_,_,o,_,_,e,ex,_⟩:=I.hok p _ hk;exact⟨o,e,ex⟩
    obtain⟨o,e,ex⟩:=z;refine⟨⟨o,e,ex.1⟩,λa e2=>?_⟩;cases e2;exact⟨o,e,ex.2.1⟩
  . obtain⟨o,_,_,_,e,ex,_⟩:=I.hok p _ hk;refine⟨⟨o,e,ex.1⟩,λa e2=>?_⟩;cases e2;exact⟨o,e,ex.2.1⟩
 |_=>exact False.elim ty
def qd(K:zzA)(T:String)(r:V->List V->Hp->VK->Prop)(to:TE)(t:TA):TE:=λσ H Q=>to σ H λx H1=>r6 K T x H1/\t σ H1 λxs H2=>r x xs H2 Q
variable{o e:Expr}{es:List Expr}{to:TE}{t:TA}{name:Str}{apos cpos:Pos}{T id:String}{r:V->List V->Hp->VK->Prop}
def Ig(pa:PlainAttrs T)(slot:Slot T name id)(hty:typeOf (.builtin id)=pure (.type "method_descriptor"))(hm:rB X id r)(ho:PE X o to)(ha:PA X (e::es) t)
 (hbase:attributeBase o name X.env (eval o X.env)=eval o X.env:=by rfl)
 (hfew:((backTo cpos (starEach (e::es) X.env)).all (λx=>!x.1)&&(backToKw cpos (keywordEach [] X.env)).all (λx=>x.1.isSome)
  && decide ((e::es).length+([]:List Keyword).length+(if([]:List Keyword).isEmpty then 0 else 1)<30))=true:=by rfl)
 (hline:(apos.endLine==cpos.line)=true:=by rfl) (hs:starEach (e::es) X.env=(false,eval e X.env)::starEach es X.env:=by rfl) (hplain:(backTo cpos (starEach es X.env)).any (·.1)=false:=by rfl):
 PE X (.Call (.Attribute o name apos) (e::es) [] cpos) (qd X.K T r to t):=by
 intro pins s σ H Q I h;refine wpAny_Call_method_late hbase hfew hline rfl (thn (ho pins s σ H _ I h) λv s1 ⟨x,H1,I1,r1,ty,q1⟩=>?_);obtain⟨h1,h2⟩:=IY I1 r1 ty;refine⟨T,id,pa,slot,hty,h1,h2, ?_⟩;have hA:=ha cpos pins s1 σ H1 _ I1 q1;rw[hs]at hA ⊢;refine Calls.callWith_builtin (by show(false||(backTo cpos _).any (·.1))=false;rw[hplain]<;>rfl) (Calls.evalArgs_plain ?_);exact thn hA λus s2 ⟨vs,H2,I2,r2,q2⟩=>hm pins s2 σ H2 x vs v us Q I2 r1 r2 q2
end
end L2
namespace L2
open PySem PySem.Spec PyProof.Rows
def tm(X:Cx)(id:String)(r:V->List V->Hp->VK->Prop):Prop:=
 ∀(pins:List (Addr×Obj)) (s:Shared) (σ:St) (H:Hp) (x:V) (xs:List V) (v:Value) (us:List Value) (Q:VK),Inv X pins σ H s->RelV x v->zK xs us->r x xs H Q->
  wpAny (model X.prog X.w) X.A (call (.builtin id) (v::us)) (EP X pins σ Q) X.xe s
def zK.one:∀{x:V}{us:List Value},zK [x] us->∃u,us=[u]/\RelV x u
 |_,_,.cons r .nil=>⟨_,rfl,r⟩
theorem zK.eraseIdx:∀{xs:List V}{us:List Value}(i:Nat),zK xs us->zK (xs.eraseIdx i) (us.eraseIdx i)
 |_,_,_,.nil=>.nil
 |_,_,0,.cons _ t=>t
 |_,_,i+1,.cons r t=>.cons r (zK.eraseIdx i t)
theorem zK.rep(h:zK xs us):∀k:Nat,zK (List.replicate k xs).flatten (List.replicate k us).flatten
 |0=>.nil
 |k+1=>by
  rw[List.replicate_succ,List.replicate_succ,List.flatten_cons,List.flatten_cons];exact zK.append h (zK.rep h k)
theorem PJ:∀(l:List α) (i:Nat),(l.eraseIdx i).length<=l.length
 | [],_=>zzN _
 |_::_,0=>zyX _
 |_::r,i+1=>Nat.succ_le_succ (PJ r i)
theorem foldl_rep(its):∀(k:Nat) (acc:List Value),
 List.foldl (λx1 x2=>x1++x2) acc.toArray (List.replicate k its.toArray)=(acc++(List.replicate k its).flatten).toArray
 |0,acc=>by simp
 |k+1,acc=>by
  have e:acc.toArray++its.toArray=(acc++its).toArray:=by simp
  have e2:(acc++its)++(List.replicate k its).flatten=acc++(List.replicate (k+1) its).flatten:=by
   rw[List.replicate_succ,List.flatten_cons,zxD]
  rw[<-e2,<-foldl_rep its k _,<-e,List.replicate_succ,List.foldl_cons]
section
variable{X:Cx}{pins:List (Addr×Obj)}{σ:St}{H:Hp}{s:Shared}{l b:Addr}{xs ys zs:List V}
def Inv.lset{its its':List Value}{n:Nat}{f}{t':Nat}(I:Inv X pins σ H s)(hH:H l=some (.lst xs))
 (e:s.heap.get? l=some {cls:=.type "list",data:=.seq its.toArray n}) (hf:f its.toArray=its'.toArray) (hv:zK ys its') (hz:ys.length<=sizeLine):
 Inv X pins σ (upd H l (.lst ys)) {s with heap:=s.heap.update l (Obj.mapSeq f),toks:=t'}:=by
 have q:=PySem.IsL.update e f;rw[hf]at q;refine I.write (by rw[hH];exact trivial) (.inl rfl) (λb' u hb hu=>(zxO s.heap _ (Ne.symm hb)).trans hu) ⟨_,q⟩ ?_;exact⟨hz,its',_,hv,q⟩
def Inv.lnew(I:Inv X pins σ H s)(hv:zK ys its)(hz:ys.length<=sizeLine):
 Inv X pins σ (upd H s.heap.objs.size (.lst ys)) {s with heap:=s.heap.push {cls:=.type "list",data:=.seq its.toArray},toks:=t'}:=
 I.laid (λ_ _ q=>zxI _ q) (zzN _) ⟨hz,its,0,hv,zxK _ rfl⟩
theorem Inv.fresh(I:Inv X pins σ H s):H s.heap.objs.size=none:=I.hok.fresh (zzN _)
def Inv.lstM(I:Inv X pins σ H s)(hH:H l=some (.lst xs)):xs.length<=sizeLine/\∃(its:List Value) (n:Nat),zK xs its/\xs.length=its.length/\s.heap.get? l=some {cls:=.type "list",data:=.seq its.toArray n}:=by
 obtain⟨z,its,n,r,e⟩:=I.hok l _ hH;exact⟨z,its,n,r,r.length,e⟩
def Le(h:n<=sizeLine):Builtin.List.listTooLong n=false:=by
 unfold Builtin.List.listTooLong;exact zyG (by omega)
end
section
variable{X:Cx}
def Eg:V->List V->Hp->VK->Prop:=λx vs H Q=>∃l xs y,x = .ref l/\vs=[y]/\H l=some (.lst xs)/\xs.length<sizeLine/\Q .non (upd H l (.lst (xs++[y])))
def vQ:tm X "list.append" Eg:=by
 intro pins s σ H x vs v us Q I rx rv h;obtain⟨l,xs,y,rfl,rfl,hH,hz,q⟩:=h;cases rx;obtain⟨u,rfl,ru⟩:=rv.one;obtain⟨z,its,n,r,hl,e⟩:=I.lstM hH;refine call_meets F.slot_list_append ⟨_,e,rfl⟩ F.entry_list_append (F.args_list_append_2 _ _) (PySem.list_append l its.toArray n u (by rw[zzH];omega)) ⟨e, ?_⟩;refine⟨.non,_,I.lset (its':=its++[u]) hH e (by simp) (r.append (.cons ru .nil)) ?_,rfl,q⟩;rw[zzJ,List.length_singleton];omega
def Mw:V->List V->Hp->VK->Prop:=λx vs H Q=>∃l b xs zs,x = .ref l/\vs=[.ref b]/\H l=some (.lst xs)/\H b=some (.lst zs)/\xs.length+zs.length<=sizeLine/\Q .non (upd H l (.lst (xs++zs)))
def Ff:tm X "list.extend" Mw:=by
 intro pins s σ H x vs v us Q I rx rv h;obtain⟨l,b,xs,zs,rfl,rfl,hH,hB,hz,q⟩:=h;cases rx;obtain⟨u,rfl,ru⟩:=rv.one;cases ru;obtain⟨z,its,n,r,hl,e⟩:=I.lstM hH;obtain⟨z2,its2,n2,r2,hl2,e2⟩:=I.lstM hB;have hsz:its.toArray.size+its2.toArray.size<=sizeLine:=by rw[zzH,zzH];omega
 have hlong:¬(!its.toArray.isEmpty&&Builtin.List.listTooLong (its.toArray.size+its2.toArray.size))=true:=by
  rw[Le hsz,Bool.and_false];exact zyW
 refine call_meets F.slot_list_extend ⟨_,e,rfl⟩ F.entry_list_extend (F.args_list_extend_2 _ _)
  (AutoSeq1.list_extend_list_list_0 l its.toArray n b its2.toArray n2 hlong (by rw[zzH];omega) (by omega)) ⟨e,e2, ?_⟩
 refine⟨.non,_,I.lset (its':=its++its2) hH e (by simp) (r.append r2) ?_,rfl,q⟩;rw[zzJ];omega
def S3:V->List V->Hp->VK->Prop:=λx vs H Q=>∃l xs i k y,x = .ref l/\vs=[.int i]/\H l=some (.lst xs) /\ -(2 ^ 63)<=i/\i<2 ^ 63/\seqIndex? i xs.length=some k/\xs[k]? = some y/\Q y (upd H l (.lst (xs.eraseIdx k)))
def Ll:tm X "list.pop" S3:=by
 intro pins s σ H x vs v us Q I rx rv h;obtain⟨l,xs,i,k,y,rfl,rfl,hH,h1,h2,hk,hy,q⟩:=h;cases rx;obtain⟨u,rfl,ru⟩:=rv.one;obtain⟨t,rfl⟩:=ru;obtain⟨z,its,n,r,hl,e⟩:=I.lstM hH;obtain⟨w,hw,rw'⟩:=r.get hy;refine call_meets F.slot_list_pop ⟨_,e,rfl⟩ F.entry_list_pop (F.args_list_pop_2 _ _)
  (MeetsSeq.list_pop_at l its.toArray n i t k w (fitsIndex_both h1 h2) (by rw[zzH,<-hl];exact hk) (by rw[<-Array.getElem?_toList];exact hw) (by rw[zzH];omega)) ⟨e, ?_⟩
 refine⟨y,_,I.lset (its':=its.eraseIdx k) hH e ?_ (r.eraseIdx k) ?_,rw',q⟩
 . show _=_;rw[List.eraseIdxIfInBounds_toArray]
 . have:=PJ xs k;omega
def len_rep(xs:List α)(k:Nat):(List.replicate k xs).flatten.length=k*xs.length:=by
 induction k with
 |zero=>simp
 |succ k ih=>rw[List.replicate_succ,List.flatten_cons,zzJ,ih,Nat.succ_mul,Nat.add_comm]
end
end L2
namespace Att
open PySem PySem.W PySem.Calls PyProof.Rows
def Uh:∀(ns:List Int) (vs:List Value),WellAll P h vs (ns.map WData.int)->IntsAre vs ns:=by
 intro ns
 induction ns with
 |nil=>
  intro vs w;rw[List.map_nil]at w;cases w;exact .nil
 |cons n ns ih=>
  intro vs w;rw[zyS]at w;cases w with
  |cons a b=>
   cases a;exact .cons _ _ (ih _ b)
def ER{l:OpenLaw}{n:Nat}(hn:l.most=some n){P h args vals}
 (hpre:l.row.toRowW.claim.pre args=true) (hwl:WellAll P h vals args):
 ∃a vs ns,vals=[Value.ref a]/\args=[WData.list (ns.map WData.int)]/\h.get? a=some {cls:=.type "list",data:=.seq vs.toArray}/\IntsAre vs ns/\ns.length<=n:=by
 have hsh:=(pre_splitW hpre).1;have hc:l.pre.holds [] {args:=args}=true:=(pre_splitW hpre).2;obtain⟨d,r,rfl,h1,h2⟩:=hasAllW_cons hsh;obtain rfl:=hasAllW_nil h2;obtain⟨xs,rfl,h3⟩:=hasW_list h1;obtain⟨ns,rfl⟩:=items_int h3;have hlen:ns.length<=n:=by
  unfold OpenLaw.pre at hc;have h4:(WTm.not (.lt (.lit (.int (n:Int))) (.len (.arg 0)))).holds [] {args:=[.list (ns.map .int)]}=true:=by
   have h4:=(holds_andW hc).1;rw[hn]at h4;exact h4
  have h5:=condW_of h4 (w_not (w_lt w_lit (w_len_list (w_arg rfl))));rw[zzB]at h5;refine Nat.le_of_not_lt λq=>?_;have q':n<(ns.length:Int):=by omega
  first
   |(rw[zyO q']at h5;exact absurd h5 (by decide))
   |(simp at h5;omega)
 cases hwl with
 |cons w1 w2=>
  cases w2;cases w1 with
  |list ho hall=>exact⟨_,_,ns,rfl,rfl,ho,Uh ns _ hall,hlen⟩
def Fj(l:OpenLaw)(args):l.row.toRowW.claim.post args (.bool true) args=true:=
 postW_of
  (show WShape.has [] _ .bool=true by first|rfl|decide|simp[WShape.has,WShape.arms,WShape.armsAll])
  (w_eq_bool (w_res rfl) w_lit) rfl
def KY{l:OpenLaw}{n:Nat}{q loose XP YP d}
 (hn:l.most=some n) (hdf:d.params.defaults=[])
 (call:∀(w:World) (s₀ s₁:Shared) (mg mb:Str->Option Value) (fa:Addr) (o:Obj) (pm cd doc:Value) (a:Addr) (vs:List Value) (ns:List Int),
  Ground q loose [] XP w s₀ mg mb s₁.heap->YP w s₁.heap->
  s₁.heap.get? fa=some o->o.data = .func (docDef d.name d.params d.body d.scope pm cd doc)->s₁.heap.CodeRec cd d.name->mg d.name=some (.ref fa)->
  s₁.heap.get? a=some {cls:=.type "list",data:=.seq vs.toArray}->IntsAre vs ns->ns.length<=n->s₁.gens = #[]->
  codeAny (model l.prog w) callerA (.call (.ref fa) ⟨[.ref a],[]⟩) (λr s'=>r = .ok (.ret (.bool true))/\OldK s₁.heap s'.heap/\s'.os=s₁.os/\AllBare s'.gens) s₁):
 WalkO q loose XP YP l.row.toRowW d [] (λf vs=>PySem.call f vs):=by
 intro w s₀ s₁ mg mb G Y fa o pm cd doc dV kV ho hd hcd hD hmg hg args vals as hpre hlay hrd hwl hlo;obtain rfl:dV = .none:=Dflts.none hD hdf;obtain rfl:kV = .none:=Dflts.noKw hD;obtain⟨a,vs,ns,rfl,rfl,hobj,hints,hlen⟩:=ER hn hpre hwl;refine enter_call (codeAny_mono (call w s₀ s₁ mg mb fa o pm cd doc a vs ns G Y ho (fd_plain hd) hcd hmg hobj hints hlen hg) λr s' hq=>?_);obtain⟨rfl,h2,h3,h4⟩:=hq;exact⟨.inl ⟨.bool true,.bool true,[],rfl,λ_=>rfl,.bool true,Fj l _,λ_=>⟨List.Pairwise.nil,λ_ hm=>(nomatch hm)⟩⟩,h2,h3,h4⟩
end Att
namespace L2
open PySem PySem.Spec PyProof.Rows
theorem vO:∀{vs:List Value}{ns:List Int},IntsAre vs ns->zK (ns.map V.int) vs
 |_,_,.nil=>.nil
 |_,_,.cons n t h=>.cons ⟨t,rfl⟩ (vO h)
def Av(H:Hp):Prop:=∀b,H b=none\/∃o xs,H b=some (.frz o (.lst xs))
def BA{P w K mg mb CX}{k:Nat}{fa a fd x sp s₁ vs ns}
 (KX:K.In s₁.heap) (hns:s₁.heap.Ns mainGlobals mg) (hb:s₁.heap.Ns builtinsNs mb) (hbb:∀x:Str,x≠"__name__"->mb x=bootBuiltins x) (hlim:s₁.heap.NoLimit) (hg:s₁.gens = #[])
 (ha:s₁.heap.get? a=some {cls:=.type "list",data:=.seq vs.toArray}) (hi:IntsAre vs ns) (hl:ns.length<=sizeLine) (hr:Room k callerA)
 (F:∀base:Heap,K.In base->base.Ns mainGlobals mg->FnOk P w K mg base CX k fa fd [x] sp) (hbind:∀(s:Shared) (u:Value),BindsTo s fd ⟨[u],[]⟩ [(x,u)])
 (hsp:∀H:Hp,Av H->Hc K H a (ns.map V.int)->sp [.ref a] H (λv _=>v = .bl true) λ_ _ _=>False)
 (hCX:∀H e s',CX [] H s₁ (λ_ _ _=>False) e s'->False):
 codeAny (model P w) callerA (.call (.ref fa) ⟨[.ref a],[]⟩) (λr s'=>r = .ok (.ret (.bool true))/\OldK s₁.heap s'.heap/\s'.os=s₁.os/\AllBare s'.gens) s₁:=by
 have rv:=vO hi;have lenV:=hi.length;have core:∀H:Hp,Av H->Hc K H a (ns.map V.int)->Wj P w H s₁.heap->(∀b,H b≠none->b=a)->(H a≠none->K.lookup a=none)->
  codeAny (model P w) callerA (.call (.ref fa) ⟨[.ref a],[]⟩) (λr s'=>r = .ok (.ret (.bool true))/\OldK s₁.heap s'.heap/\s'.os=s₁.os/\AllBare s'.gens) s₁:=by
  intro H hO hS hok hA hK;have base_of:∀{b:Addr}{o:Obj},s₁.heap.get? b=some o->H b=none->(Fe s₁.heap H).get? b=some o:=λe n=>B5 e n;have noA:∀{b:Addr}{o:Obj}{es:Array DictEntry}{ep:Nat},s₁.heap.get? b=some o->o.data = .dict es ep->H b=none:=λ{b o es ep} e d=>by
   cases q:H b with
   |none=>rfl
   |some u=>
    have e':b=a:=hA b (by rw[q];simp);subst e';rw[ha]at e;cases e;have d':Data.seq vs.toArray _=Data.dict es ep:=d;cases d'
  have nsK:∀{b:Addr}{m:Str->Option Value},s₁.heap.Ns b m->(Fe s₁.heap H).Ns b m:=λ{b m} ⟨o,es,ep,e,d,r⟩=>⟨o,es,ep,base_of e (noA e d),d,r⟩;have hKb:=λb o e=>base_of (KX b o e) (by
   cases q:H b with
   |none=>rfl
   |some u=>
    have e':b=a:=hA b (by rw[q];simp);subst e';rw[hK (by rw[q];simp)]at e;cases e)
  have hM:Mod K mg _:=⟨hKb,nsK hns,⟨mb,nsK hb,hbb⟩,let⟨mc,h1,h2⟩:=hlim;⟨mc,nsK h1,h2⟩⟩;have e0:Env0 P w K mg _ callerA [] s₁ H:=⟨rfl,hM,λb o e=>HI e,Nat.le_of_eq (E1 _ _),trivial,λb hb=>absurd (show b ∈ ([]:List Addr)from hb) (by simp),hok,.of_eq hg⟩;refine codeAny_mono ((F _ hKb (nsK hns)).run callerA [] s₁ H ⟨_,[]⟩ [.ref a] [.ref a] _ _ hr e0 (hbind s₁ (.ref a)) (.cons rfl .nil) (hsp H hO hS)) λr s' h=>?_;cases r with
  |error e=>exact(hCX H e s' h).elim
  |ok fl=>
   cases fl with
   |next=>exact False.elim h
   |brk=>exact False.elim h
   |cont=>exact False.elim h
   |ret u=>
    obtain⟨v,H',os,bare,un,hok',r',q⟩:=h;have q':v = .bl true:=q;subst q';obtain rfl:u=Value.bool true:=r';refine⟨rfl,OldK.of_keep λb o e=>?_,os,bare⟩;cases q:H b with
    |none=>exact un.keep b o e q (by intro z;exact absurd (show b ∈ ([]:List Addr)from z) (by simp)) (by simp)
    |some u=>
     rcases hO b with z|⟨ob,xs,z⟩
     . rw[q]at z;cases z
     . have z2:=un.frzs b ob _ z;obtain⟨e1,_⟩:=hok b _ z;obtain⟨e2,_⟩:=hok' b _ z2;rw[e]at e1;cases e1;exact e2
 cases hk:K.lookup a with
 |some o=>
  have e:=KX a o hk;rw[ha]at e;cases e;refine core (λ_=>none) (λ_=>.inl rfl) (.inr ⟨vs.toArray,_,hk,by rw[zzH,lenV];exact hl,by simpa using rv⟩) (λb u z=>by have z':none=some u:=z;cases z') (λb z=>absurd rfl z) λz=>absurd rfl z
 |none=>
  refine core (λb=>if b=a then some _ else none) (λb=>?_) (.inl (.inr ⟨{cls:=.type "list",data:=.seq vs.toArray},if_pos rfl⟩)) (λb u z=>?_) (λb z=>?_) λ_=>hk
  . by_cases hb:b=a
    . exact .inr ⟨_,_,if_pos hb⟩
    . exact .inl (if_neg hb)
  . by_cases hb:b=a
    . have z':=(if_pos hb).symm.trans z;cases z';subst hb;exact⟨ha,by rw[zzB];exact hl,vs,_,rv,ha⟩
    . have z':=(if_neg hb).symm.trans z;cases z'
  . by_cases hb:b=a
    . exact hb
    . exact absurd (if_neg hb) z
end L2
namespace L2
open PySem PySem.Spec PyProof.Rows
def walk_of{l:PySem.W.OpenLaw}{n k:Nat}{q loose XP YP d}{K:Params->zzA}{CX:World->OB}{sp:World->Sp}{x}
 (hn:l.most=some n) (hn2:n<=sizeLine) (hdf:d.params.defaults=[]) (hr:Room k callerA)
 (hY:∀(w:World) (h:Heap),YP w h->(K w.params).In h)
 (F:∀(w:World) (mg:Str->Option Value) (fa:Addr) (h:Heap),(K w.params).In h->h.Ns mainGlobals mg->mg d.name=some (.ref fa)->
  ∃fd:FuncData,(∀(s:Shared) (u:Value),BindsTo s fd ⟨[u],[]⟩ [(x,u)])/\
   ∀base:Heap,(K w.params).In base->base.Ns mainGlobals mg->FnOk l.prog w (K w.params) mg base (CX w) k fa fd [x] (sp w))
 (hsp:∀(w:World) (H:Hp) (a:Addr) (ns:List Int),ns.length<=n->Av H->Hc (K w.params) H a (ns.map V.int)->sp w [.ref a] H (λv _=>v = .bl true) λ_ _ _=>False)
 (hCX:∀(w:World) (H:Hp) (s:Shared) (e:Value) (s':Shared),CX w [] H s (λ_ _ _=>False) e s'->False):
 PySem.W.WalkO q loose XP YP l.row.toRowW d [] (λf vs=>PySem.call f vs):=by
 refine Att.KY hn hdf λw s₀ s₁ mg mb fa o pm cd doc a vs ns G Y ho hd hcd hmg hobj hints hlen hg=>?_;have KX:=hY w _ Y;obtain⟨fd,hb,hF⟩:=F w mg fa _ KX G.T.g hmg;exact BA KX G.T.g G.T.b G.T.builtins G.T.nolimit hg hobj hints (zzO hlen hn2) hr hF hb (λH hO hS=>hsp w H a ns hlen hO hS) λH e s'=>hCX w H s₁ e s'
end L2
namespace L2
open PySem PySem.Spec PyProof.Rows
def inClass(s:Stmt)(j:Nat):Stmt:=match s with
 | .ClassDef _ _ _ body _ _ _ _ _ _ _=>body.getD j (.Pass ⟨0,0,0,0⟩)
 |_=>.Pass ⟨0,0,0,0⟩
def UF(s:Stmt):Arguments:=match s with
 | .FunctionDef _ a _ _ _ _ _ _ _ _=>a
 |_=>{posonlyargs:=[],args:=[],vararg:=none,kwonlyargs:=[],kw_defaults:=[],kwarg:=none,defaults:=[]}
def wu(s:Stmt):List Stmt:=match s with
 | .FunctionDef _ _ b _ _ _ _ _ _ _=>b
 |_=>[]
def zd(s:Stmt):Scope:=match s with
 | .FunctionDef _ _ _ _ _ _ sc _ _ _=>sc
 |_=>{kind:=.function,names:=[],isGenerator:=false,isCoroutine:=false}
abbrev U2:OB:=λ_ _ _ _ _ _=>False
abbrev E0:XK:=λ_ _ _=>False
def Mi:US U2 X E0:=λ_ _ _ _ _ _ _ h=>h.elim
structure Fun(K:zzA)(x qual:Str)(st:Stmt)(f:Addr)(fd:FuncData):Prop where
 ex:∃(oc:Value) (od:Option Addr) (kV doc pm:Value) (an:Option Addr) (cdv ct:Value) (osl:Array (Option Value)),
  fd=W.fnOf x qual (UF st) (wu st) (zd st) .none kV doc pm an cdv ct/\K.lookup f=some ⟨oc,od,.func fd,osl⟩/\W.codeIn K cdv qual=true
 kp:W.keepIn K (.ref f)=true
section
variable{P:Program}{w:World}{K:zzA}{mg:Str->Option Value}{base:Heap}
def Fun.ok{x qual st f fd N ps}{k:Nat}{sp}(F:Fun K x qual st f fd)(S:FnScope N ps (zd st))(len:∀vs H Q E,sp vs H Q E->vs.length=ps.length)
 (hbody:∀(cdv:Value) (A:Around) (outer:List Env) (s:Shared) (H:Hp) (vs:List V) (Q:VK) (E:XK),Room k (A.deeper (envOfC qual (zd st) s.heap.objs.size f cdv))->sp vs H Q E->
  ∃t,Tb (Zc U2 P w K mg base N qual (zd st) f cdv A outer s H E).nox (wu st) t/\t {nx:=λ_ H'=>Q .non H',rt:=Q} (start N vs) H):FnOk P w K mg base U2 (k+1) f fd ps sp:=by
 obtain⟨oc,od,kV,doc,pm,an,cdv,ct,osl,rfl,lk,hcd⟩:=F.ex;refine Sf lk hcd S len λA outer s H vs Q E hr hsp=>?_;obtain⟨t,h,q⟩:=hbody cdv A outer s H vs Q E hr hsp;exact⟨t,h.nox,q⟩
def Fun.binds{x qual st f fd ps}(F:Fun K x qual st f fd)
 (h:∀(kV doc pm:Value) (an:Option Addr) (cdv ct:Value) (us:List Value),us.length=ps.length->bindArgs (W.fnOf x qual (UF st) (wu st) (zd st) .none kV doc pm an cdv ct) ⟨us,[]⟩=pure (ps.zip us)):Binds K fd ps []:=by
 obtain⟨oc,od,kV,doc,pm,an,cdv,ct,osl,rfl,lk,hcd⟩:=F.ex;exact .all (h kV doc pm an cdv ct)
end
def C_(hr:Room k A):A.units+1<cLine:=Nat.lt_of_le_of_lt (Nat.add_le_add_left (by decide:1<=64) _) hr.units
def zQ(h:n<=1000):n<sizeLine:=Nat.lt_of_le_of_lt h (by decide)
section
variable{X:Cx}
def pv(i:Nat)(hN:X.N[i]? = some x:=by rfl)(hv:ux X.env.scope x:=by first|exact Or.inl rfl|exact Or.inr (Or.inl rfl)|exact Or.inr (Or.inr rfl))(hd:(x==("__debug__":Str))=false:=by decide)
 (hcd:(x==("__classdict__":Str))=false:=by decide):PE X (.Name x pos) (ZS i):=SM hN hv hd hcd
end
end L2
end
section
namespace G62
open PySem PySem.W PyProof.Rows L2
def top(i:Nat):Stmt:=PySem.Challenge.pw_stretchdeeds_k62_only_what_is_let_by.main.body.getD i (.Pass ⟨0,0,0,0⟩)
abbrev xZ:Stmt:=top 12
abbrev x5:Stmt:=top 13
abbrev wK:Stmt:=top 14
abbrev vG:Stmt:=top 15
abbrev vC:Stmt:=top 16
abbrev y3:Stmt:=inClass (top 3) 0
abbrev wq:Stmt:=top 17
abbrev WY:Stmt:=top 19
abbrev Zf:Stmt:=top 20
abbrev Z6:Stmt:=top 21
abbrev Y8:Stmt:=top 22
abbrev UC:Stmt:=top 23
abbrev vD:Stmt:=top 24
abbrev Zs:Stmt:=top 25
abbrev wO:Stmt:=top 27
abbrev Zl:Stmt:=top 28
abbrev Zn:Stmt:=top 29
abbrev vJ:Stmt:=top 30
abbrev x3:Stmt:=top 31
abbrev vA:Stmt:=top 32
abbrev wN:Stmt:=top 33
abbrev Zj:Stmt:=top 34
abbrev vI:Stmt:=top 35
abbrev yV:Stmt:=top 36
abbrev Yw:Stmt:=top 37
abbrev vN:Stmt:=top 38
abbrev Yb:Stmt:=top 39
abbrev y6:Stmt:=top 40
abbrev xD:Stmt:=top 41
abbrev XH:Stmt:=top 42
abbrev Zk:Stmt:=top 43
abbrev Yk:Stmt:=top 44
abbrev Zr:Stmt:=top 45
abbrev Eh:Stmt:=top 46
abbrev hpg:=PySem.Challenge.pw_stretchdeeds_k62_only_what_is_let_by
abbrev hva:Value:=.str "stretchdeeds.errors" 187
abbrev hvb:Value:=.str "stretchdeeds.algebras" 369
abbrev hvc:Value:=.str "stretchdeeds.coming" 436
abbrev hvd:Value:=.str "law_stretchdeeds_k62_only_what_is_let_by" 504
abbrev hem:List Value:=[(.type "ValueError"), (.type "Exception"), (.type "BaseException"), (.type "object")]
abbrev kF(n q:Str)(s:Stmt)(pm hcd:Value):Obj:=⟨.type "function",none,.func (fnOf n q (UF s) (wu s) (zd s) .none .none .none pm none hcd .none),#[]⟩
abbrev kD(es:List DictEntry)(n:Nat):Obj:=⟨.type "dict",none,.dict es.toArray n,#[]⟩
abbrev kE(P:Params)(x:Str)(t:Nat)(v:Value):DictEntry:=⟨PyData.keyHash P x,.str x t,v⟩
abbrev kR(P:Params)(x:Str)(t:Nat)(a:Addr):DictEntry:=kE P x t (.ref a)
abbrev hfl(c:Value)(l:List Value):Obj:=⟨c,none,.fields l.toArray,#[]⟩
abbrev hco(n q:Str)(t u:Nat)(l k g:Int)(b:Bool)(a:Nat)(r s v:Value):Obj:=hfl (.type "code") [.str n t,.str q (t+1),.str "/claim/cut.py" (t+2),.int l 0,.int k 0,.int 0 0,.int 0 0,.int g 0,.ref a,.bool b,.int 181 0,.ref (a+1),.none,r,s,v,.int u 0,.int l 0,.str "/claim/cut.py" (u+1)]
abbrev hc7(n q:Str)(t u:Nat)(l k:Int)(a:Nat):=hco n q t u l k 3 true a (.ref (a+2)) (.ref (a+3)) (.ref (a+4))
abbrev hc5(n q:Str)(t:Nat)(l k:Int)(a:Nat):=hco n q t (t+3) l k 3 true a .none .none (.ref (a+2))
noncomputable abbrev hen(P:Params):List DictEntry:=[kE P "__doc__" 166 .none,kE P "__package__" 167 .none,kE P "__loader__" 168 (.builtin "__main__.__loader__#opaque"),kE P "__spec__" 169 .none,kR P "__annotations__" 170 6,kR P "__builtins__" 171 4,kE P "__file__" 173 (.str "/claim/cut.py" 172),kE P "__cached__" 174 .none,kR P "StretchError" 206 24,kR P "NoText" 231 44,kR P "NotLetBy" 256 63,kR P "NoMake" 272 75,kR P "NoStretch" 288 87,kR P "NoValue" 304 99,kR P "NoDeed" 320 111,kR P "NoSign" 336 123,kR P "TooGreat" 352 135,kR P "NoRow" 368 147,kR P "nothing_fails" 380 156,kR P "parting_fails" 392 163,kR P "doing_fails" 408 170,kR P "deeds_fail" 419 177,kR P "what_fails" 427 184,kR P "check_let_by" 435 191,kR P "two_of" 449 198,kR P "following" 455 203,kR P "take_new" 466 210,kR P "coming" 472 215,kR P "comes" 485 222,kR P "least_rows" 491 227,kR P "least_row" 503 234,kR P "_law_cell_at" 513 241,kR P "_law_mixed" 522 248,kR P "_law_words" 528 253,kR P "_law_common" 536 260,kR P "_law_joined_by" 547 267,kR P "_law_images" 553 272,kR P "_law_done_by" 559 277,kR P "_law_kinds" 569 284,kR P "_law_stream" 580 291,kR P "_law_algebra" 586 296,kR P "_law_copy" 592 301,kR P "_law_values" 605 308,kR P "_law_bent" 623 315,kR P "_law_first_parting" 634 322,kR P "_law_first_doing" 650 329,kR P "_law_due" 667 336,kR P "_law_alone" 674 343,kR P "_law_told" 685 350,kR P "_law_right" 696 357,kR P "law" 707 364]
def K(P:Params):Frag:=
 (nat_lit 2,⟨.none,none,.dict #[] 0,#[]⟩)::
 (nat_lit 3,kD (kE P "__name__" 165 hvd::hen P) 52)::
 (nat_lit 23,kD [kE P "__module__" 196 hva,kE P "__firstlineno__" 200 (.int (2) 199),kR P "__static_attributes__" 201 22,kR P "__weakref__" 203 25,kE P "__doc__" 204 .none] 3)::
 (nat_lit 24,⟨(.type "type"),none,.cls {name:="StretchError",bases:=[(.type "ValueError")],mro:=[(.ref 24),(.type "ValueError"),(.type "Exception"),(.type "BaseException"),(.type "object")],ns:=23,qualname:="StretchError",hasDict:=true,slotNames:=[],subclasses:=[(.ref 44),(.ref 63),(.ref 75),(.ref 87),(.ref 99),(.ref 111),(.ref 123),(.ref 135),(.ref 147)],abstract:=false,collection:=none,hasDel:=false},#[some (.ref 15),none,some (.str "StretchError" 189),some (.str "StretchError" 197),some (.builtin "ValueError.__new__"),some (.bool true)]⟩)::
 (nat_lit 43,kD [kE P "__module__" 214 hva,kE P "__firstlineno__" 218 (.int (4) 217),kR P "__init__" 226 41,kR P "__static_attributes__" 228 42,kE P "__doc__" 229 .none] 2)::
 (nat_lit 44,⟨(.type "type"),none,.cls {name:="NoText",bases:=[(.ref 24)],mro:=[(.ref 44),(.ref 24),(.type "ValueError"),(.type "Exception"),(.type "BaseException"),(.type "object")],ns:=43,qualname:="NoText",hasDict:=true,slotNames:=[],subclasses:=[],abstract:=false,collection:=none,hasDel:=false},#[some (.ref 28),none,some (.str "NoText" 207),some (.str "NoText" 215),some (.builtin "ValueError.__new__"),some (.bool true)]⟩)::
 (nat_lit 59,hc7 "__init__" "NotLetBy.__init__" 244 249 11 2 54)::
 (nat_lit 60,kF "__init__" "NotLetBy.__init__" y3 hva (.ref 59))::
 (nat_lit 62,kD [kE P "__module__" 239 hva,kE P "__firstlineno__" 243 (.int (9) 242),kR P "__init__" 251 60,kR P "__static_attributes__" 253 61,kE P "__doc__" 254 .none] 2)::
 (nat_lit 63,⟨(.type "type"),none,.cls {name:="NotLetBy",bases:=[(.ref 24)],mro:=[(.ref 63),(.ref 24),(.type "ValueError"),(.type "Exception"),(.type "BaseException"),(.type "object")],ns:=62,qualname:="NotLetBy",hasDict:=true,slotNames:=[],subclasses:=[],abstract:=false,collection:=none,hasDel:=false},#[some (.ref 47),none,some (.str "NotLetBy" 232),some (.str "NotLetBy" 240),some (.builtin "ValueError.__new__"),some (.bool true)]⟩)::
 (nat_lit 74,kD [kE P "__module__" 264 hva,kE P "__firstlineno__" 268 (.int (14) 267),kR P "__static_attributes__" 269 73,kE P "__doc__" 270 .none] 2)::
 (nat_lit 75,⟨(.type "type"),none,.cls {name:="NoMake",bases:=[(.ref 24)],mro:=[(.ref 75),(.ref 24),(.type "ValueError"),(.type "Exception"),(.type "BaseException"),(.type "object")],ns:=74,qualname:="NoMake",hasDict:=true,slotNames:=[],subclasses:=[],abstract:=false,collection:=none,hasDel:=false},#[some (.ref 66),none,some (.str "NoMake" 257),some (.str "NoMake" 265),some (.builtin "ValueError.__new__"),some (.bool true)]⟩)::
 (nat_lit 86,kD [kE P "__module__" 280 hva,kE P "__firstlineno__" 284 (.int (16) 283),kR P "__static_attributes__" 285 85,kE P "__doc__" 286 .none] 2)::
 (nat_lit 87,⟨(.type "type"),none,.cls {name:="NoStretch",bases:=[(.ref 24)],mro:=[(.ref 87),(.ref 24),(.type "ValueError"),(.type "Exception"),(.type "BaseException"),(.type "object")],ns:=86,qualname:="NoStretch",hasDict:=true,slotNames:=[],subclasses:=[],abstract:=false,collection:=none,hasDel:=false},#[some (.ref 78),none,some (.str "NoStretch" 273),some (.str "NoStretch" 281),some (.builtin "ValueError.__new__"),some (.bool true)]⟩)::
 (nat_lit 98,kD [kE P "__module__" 296 hva,kE P "__firstlineno__" 300 (.int (18) 299),kR P "__static_attributes__" 301 97,kE P "__doc__" 302 .none] 2)::
 (nat_lit 99,⟨(.type "type"),none,.cls {name:="NoValue",bases:=[(.ref 24)],mro:=[(.ref 99),(.ref 24),(.type "ValueError"),(.type "Exception"),(.type "BaseException"),(.type "object")],ns:=98,qualname:="NoValue",hasDict:=true,slotNames:=[],subclasses:=[],abstract:=false,collection:=none,hasDel:=false},#[some (.ref 90),none,some (.str "NoValue" 289),some (.str "NoValue" 297),some (.builtin "ValueError.__new__"),some (.bool true)]⟩)::
 (nat_lit 110,kD [kE P "__module__" 312 hva,kE P "__firstlineno__" 316 (.int (20) 315),kR P "__static_attributes__" 317 109,kE P "__doc__" 318 .none] 2)::
 (nat_lit 111,⟨(.type "type"),none,.cls {name:="NoDeed",bases:=[(.ref 24)],mro:=[(.ref 111),(.ref 24),(.type "ValueError"),(.type "Exception"),(.type "BaseException"),(.type "object")],ns:=110,qualname:="NoDeed",hasDict:=true,slotNames:=[],subclasses:=[],abstract:=false,collection:=none,hasDel:=false},#[some (.ref 102),none,some (.str "NoDeed" 305),some (.str "NoDeed" 313),some (.builtin "ValueError.__new__"),some (.bool true)]⟩)::
 (nat_lit 122,kD [kE P "__module__" 328 hva,kE P "__firstlineno__" 332 (.int (22) 331),kR P "__static_attributes__" 333 121,kE P "__doc__" 334 .none] 2)::
 (nat_lit 123,⟨(.type "type"),none,.cls {name:="NoSign",bases:=[(.ref 24)],mro:=[(.ref 123),(.ref 24),(.type "ValueError"),(.type "Exception"),(.type "BaseException"),(.type "object")],ns:=122,qualname:="NoSign",hasDict:=true,slotNames:=[],subclasses:=[],abstract:=false,collection:=none,hasDel:=false},#[some (.ref 114),none,some (.str "NoSign" 321),some (.str "NoSign" 329),some (.builtin "ValueError.__new__"),some (.bool true)]⟩)::
 (nat_lit 134,kD [kE P "__module__" 344 hva,kE P "__firstlineno__" 348 (.int (24) 347),kR P "__static_attributes__" 349 133,kE P "__doc__" 350 .none] 2)::
 (nat_lit 135,⟨(.type "type"),none,.cls {name:="TooGreat",bases:=[(.ref 24)],mro:=[(.ref 135),(.ref 24),(.type "ValueError"),(.type "Exception"),(.type "BaseException"),(.type "object")],ns:=134,qualname:="TooGreat",hasDict:=true,slotNames:=[],subclasses:=[],abstract:=false,collection:=none,hasDel:=false},#[some (.ref 126),none,some (.str "TooGreat" 337),some (.str "TooGreat" 345),some (.builtin "ValueError.__new__"),some (.bool true)]⟩)::
 (nat_lit 146,kD [kE P "__module__" 360 hva,kE P "__firstlineno__" 364 (.int (26) 363),kR P "__static_attributes__" 365 145,kE P "__doc__" 366 .none] 2)::
 (nat_lit 147,⟨(.type "type"),none,.cls {name:="NoRow",bases:=[(.ref 24)],mro:=[(.ref 147),(.ref 24),(.type "ValueError"),(.type "Exception"),(.type "BaseException"),(.type "object")],ns:=146,qualname:="NoRow",hasDict:=true,slotNames:=[],subclasses:=[],abstract:=false,collection:=none,hasDel:=false},#[some (.ref 138),none,some (.str "NoRow" 353),some (.str "NoRow" 361),some (.builtin "ValueError.__new__"),some (.bool true)]⟩)::
 (nat_lit 155,hc7 "nothing_fails" "nothing_fails" 371 378 29 1 150)::
 (nat_lit 156,kF "nothing_fails" "nothing_fails" xZ hvb (.ref 155))::
 (nat_lit 162,hc7 "parting_fails" "parting_fails" 381 390 36 1 157)::
 (nat_lit 163,kF "parting_fails" "parting_fails" x5 hvb (.ref 162))::
 (nat_lit 169,hc7 "doing_fails" "doing_fails" 393 406 45 3 164)::
 (nat_lit 170,kF "doing_fails" "doing_fails" wK hvb (.ref 169))::
 (nat_lit 176,hc7 "deeds_fail" "deeds_fail" 409 417 56 1 171)::
 (nat_lit 177,kF "deeds_fail" "deeds_fail" vG hvb (.ref 176))::
 (nat_lit 183,hc7 "what_fails" "what_fails" 420 425 65 1 178)::
 (nat_lit 184,kF "what_fails" "what_fails" vC hvb (.ref 183))::
 (nat_lit 190,hc7 "check_let_by" "check_let_by" 428 433 72 1 185)::
 (nat_lit 191,kF "check_let_by" "check_let_by" wq hvb (.ref 190))::
 (nat_lit 197,hc7 "two_of" "two_of" 438 447 77 4 192)::
 (nat_lit 198,kF "two_of" "two_of" WY hvc (.ref 197))::
 (nat_lit 202,hc5 "following" "following" 450 81 3 199)::
 (nat_lit 203,kF "following" "following" Zf hvc (.ref 202))::
 (nat_lit 209,hc7 "take_new" "take_new" 456 464 88 3 204)::
 (nat_lit 210,kF "take_new" "take_new" Z6 hvc (.ref 209))::
 (nat_lit 214,hc5 "coming" "coming" 467 94 2 211)::
 (nat_lit 215,kF "coming" "coming" Y8 hvc (.ref 214))::
 (nat_lit 221,hc7 "comes" "comes" 473 483 105 3 216)::
 (nat_lit 222,kF "comes" "comes" UC hvc (.ref 221))::
 (nat_lit 226,hc5 "least_rows" "least_rows" 486 112 2 223)::
 (nat_lit 227,kF "least_rows" "least_rows" vD hvc (.ref 226))::
 (nat_lit 233,hc7 "least_row" "least_row" 492 501 124 3 228)::
 (nat_lit 234,kF "least_row" "least_row" Zs hvc (.ref 233))::
 (nat_lit 240,hc7 "_law_cell_at" "_law_cell_at" 506 511 134 2 235)::
 (nat_lit 241,kF "_law_cell_at" "_law_cell_at" wO hvd (.ref 240))::
 (nat_lit 247,hc7 "_law_mixed" "_law_mixed" 514 520 138 2 242)::
 (nat_lit 248,kF "_law_mixed" "_law_mixed" Zl hvd (.ref 247))::
 (nat_lit 252,hc5 "_law_words" "_law_words" 523 141 2 249)::
 (nat_lit 253,kF "_law_words" "_law_words" Zn hvd (.ref 252))::
 (nat_lit 259,hc7 "_law_common" "_law_common" 529 534 150 2 254)::
 (nat_lit 260,kF "_law_common" "_law_common" vJ hvd (.ref 259))::
 (nat_lit 266,hc7 "_law_joined_by" "_law_joined_by" 537 545 154 4 261)::
 (nat_lit 267,kF "_law_joined_by" "_law_joined_by" x3 hvd (.ref 266))::
 (nat_lit 271,hc5 "_law_images" "_law_images" 548 163 3 268)::
 (nat_lit 272,kF "_law_images" "_law_images" vA hvd (.ref 271))::
 (nat_lit 276,hc5 "_law_done_by" "_law_done_by" 554 173 4 273)::
 (nat_lit 277,kF "_law_done_by" "_law_done_by" wN hvd (.ref 276))::
 (nat_lit 283,hc7 "_law_kinds" "_law_kinds" 560 567 179 1 278)::
 (nat_lit 284,kF "_law_kinds" "_law_kinds" Zj hvd (.ref 283))::
 (nat_lit 290,hc7 "_law_stream" "_law_stream" 570 578 188 2 285)::
 (nat_lit 291,kF "_law_stream" "_law_stream" vI hvd (.ref 290))::
 (nat_lit 295,hc5 "_law_algebra" "_law_algebra" 581 198 3 292)::
 (nat_lit 296,kF "_law_algebra" "_law_algebra" yV hvd (.ref 295))::
 (nat_lit 300,hc5 "_law_copy" "_law_copy" 587 233 1 297)::
 (nat_lit 301,kF "_law_copy" "_law_copy" Yw hvd (.ref 300))::
 (nat_lit 307,hc7 "_law_values" "_law_values" 593 603 238 5 302)::
 (nat_lit 308,kF "_law_values" "_law_values" vN hvd (.ref 307))::
 (nat_lit 314,hc7 "_law_bent" "_law_bent" 606 621 243 2 309)::
 (nat_lit 315,kF "_law_bent" "_law_bent" Yb hvd (.ref 314))::
 (nat_lit 321,hc7 "_law_first_parting" "_law_first_parting" 624 632 256 2 316)::
 (nat_lit 322,kF "_law_first_parting" "_law_first_parting" y6 hvd (.ref 321))::
 (nat_lit 328,hc7 "_law_first_doing" "_law_first_doing" 635 648 263 5 323)::
 (nat_lit 329,kF "_law_first_doing" "_law_first_doing" xD hvd (.ref 328))::
 (nat_lit 335,hc7 "_law_due" "_law_due" 651 665 272 1 330)::
 (nat_lit 336,kF "_law_due" "_law_due" XH hvd (.ref 335))::
 (nat_lit 342,hc7 "_law_alone" "_law_alone" 668 672 284 1 337)::
 (nat_lit 343,kF "_law_alone" "_law_alone" Zk hvd (.ref 342))::
 (nat_lit 349,hc7 "_law_told" "_law_told" 675 683 290 3 344)::
 (nat_lit 350,kF "_law_told" "_law_told" Yk hvd (.ref 349))::
 (nat_lit 356,hc7 "_law_right" "_law_right" 686 694 302 2 351)::
 (nat_lit 357,kF "_law_right" "_law_right" Zr hvd (.ref 356))::
 (nat_lit 363,hc7 "law" "law" 697 705 311 1 358)::
 (nat_lit 364,kF "law" "law" Eh hvd (.ref 363))::
 []
def kA:List Addr:=[2,3,23,24,43,44,59,60,62,63,74,75,86,87,98,99,110,111,122,123,134,135,146,147,155,156,162,163,169,170,176,177,183,184,190,191,197,198,202,203,209,210,214,215,221,222,226,227,233,234,240,241,247,248,252,253,259,260,266,267,271,272,276,277,283,284,290,291,295,296,300,301,307,308,314,315,321,322,328,329,335,336,342,343,349,350,356,357,363,364]
noncomputable def qv:Program:={hpg with main:={hpg.main with body:=[1,2,3,4,5,6,7,8,9,10,12,13,14,15,16,17,19,20,21,22,23,24,25,27,28,29,30,31,32,33,34,35,36,37,38,39,40,41,42,43,44,45,46].map top}}
theorem kAe(P:Params):kA=(K P).map (·.1):=by kernel_rfl
set_option maxRecDepth 100000
theorem ws:PySem.Challenge.rw_stretchdeeds_k62_only_what_is_let_by.wellSaid=true:=by kernel_rfl
abbrev Xt(s:Shared):Bool:=xlAt qv [] s&&recOk (RowW.records (OpenRow.toRowW PySem.Challenge.rw_stretchdeeds_k62_only_what_is_let_by.row)) s
abbrev hk:Hook:=kHook K kA kAe
def htp(l:List Value):Obj:=⟨.type "tuple",none,.seq l.toArray 0,#[]⟩
noncomputable def htx:Nat->List Str->List Value
 |_,[]=>[]
 |t,x::l=>.str x t::htx (t+1) l
noncomputable def hfO(a t:Nat)(r:Str)(v:Value)(s:Stmt):List Obj:=match s with
 | .FunctionDef n p b _ _ _ c _ _ o=>
  let q:=r++n;let S:Obj:=⟨.none,none,.func {name:=n,qualname:=q,params:=p,body:=.stmts b,scope:=c,globals:=0,closure:=[],defaults:=.none,kwdefaults:=.none},#[]⟩
  match localNames p c (.stmts b) with
  |some (x,_)=>[htp [],hfl .none [],htp (htx (t+3) x),htp [],S,hc7 n q t (t+3+x.length) o.line p.args.length a,kF n q s v (.ref (a+5))]
  |none=>[htp [],hfl .none [],S,hc5 n q t o.line p.args.length a,kF n q s v (.ref (a+3))]
 |_=>[]
noncomputable def htk(s:Stmt):Nat:=match s with
 | .FunctionDef _ p b _ _ _ c _ _ _=>match localNames p c (.stmts b) with
  |some (x,_)=>6+x.length
  |none=>6
 |_=>0
noncomputable def hms(P:Params)(c:Str)(v:Value):Nat->Nat->List Stmt->List Obj×List DictEntry×List Value×Nat
 |_,t,[]=>([],[],[],t)
 |a,t,s::r=>match s with
  | .FunctionDef n _ _ _ _ _ _ _ _ o=>let f:=hfO a t (c++".") v s;let l:=a+f.length;let u:=t+htk s;let z:=hms P c v l u r;(f++z.1,kR P n (u-1) (l-1)::z.2.1,.int o.line 0:: .int 4 0:: .ref (l-2)::z.2.2.1,z.2.2.2)
  |_=>hms P c v a t r
noncomputable def hfm(a b:Addr)(v:Value):Obj:=⟨.type "frame",none,.plain,#[some (.ref a),some (.ref 3),some (.ref b),none,some v,none,some (.ref 0)]⟩
noncomputable def hbf(x:String)(v:Value):Obj:=hfl (.type "builtin_function_or_method") [.builtin x,v]
noncomputable def hgd(x:Str)(t:Nat)(c:Addr)(g s:Value):Obj:=hfl (.type "getset_descriptor") [.str x t,.ref c,g,s]
noncomputable def hcO(P:Params)(a t:Nat)(v:Value)(bv mr sb:List Value)(nw:String)(d:Nat)(s:Stmt):List Obj:=match s with
 | .ClassDef n _ _ b _ _ _ _ _ sa o=>
  let m:=hms P n v (a+7) (t+12) b;let e:=a+7+m.1.length;let k:=m.2.2.2+sa.length;let z:=k+1;let C:=e+2
  let x:=kE P "__module__" (t+7) v;let f:=kE P "__firstlineno__" (t+11) (.int o.line (t+10));let y:=kR P "__static_attributes__" k e
  let W:=λt:Nat=>hgd "__weakref__" t C (.builtin "ExceptionGroup.__weakref__") .none
  let D:List DictEntry×List Obj:=match d with
   |0=>([],[])
   |1=>([kR P "__weakref__" (z+1) (C+1)],[W z])
   |_=>([kR P "__dict__" (z+1) (C+1),kR P "__weakref__" (z+3) (C+2)],[hgd "__dict__" z C (.builtin "function.__dict__") (.builtin "function.__dict__#set"),W (z+2)])
  [htp bv,hbf "type.__prepare__" (.type "type"),kD (x::kE P "__qualname__" (t+9) (.str n (t+8))::f::m.2.1++[y]) (4+m.2.1.length),htp [],hfl .none m.2.2.1,hco n n (t+2) (t+5) o.line 0 0 false (a+3) .none .none .none,hfm (a+5) (a+2) v]++m.1++[htp (htx m.2.2.2 sa),kD (x::f::m.2.1++y::D.1++[kE P "__doc__" (z+2*d) .none]) (2+d),⟨.type "type",none,.cls {name:=n,bases:=if bv.isEmpty then [.type "object"] else bv,mro:=.ref C::mr,ns:=e+1,qualname:=n,hasDict:=true,slotNames:=[],subclasses:=sb},#[if bv.isEmpty then none else some (.ref a),none,some (.str n t),some (.str n (t+8)),some (.builtin nw),some (.bool true)]⟩]++D.2++[hfl (.type "super") [.ref C,.ref C,.ref C],hbf "object.__init_subclass__" (.ref C)]
 |_=>[]
def hcs:List (Int×Addr):=[(2,20),(4,33),(9,52),(14,71),(16,83),(18,95),(20,107),(22,119),(24,131),(26,143),(29,155),(36,162),(45,169),(56,176),(65,183),(72,190),(77,197),(81,202),(88,209),(94,214),(105,221),(112,226),(124,233),(134,240),(138,247),(141,252),(150,259),(154,266),(163,271),(173,276),(179,283),(188,290),(198,295),(233,300),(238,307),(243,314),(256,321),(263,328),(272,335),(284,342),(290,349),(302,356),(311,363)]
noncomputable def hhp(P:Params)(v:Value)(g c:Nat)(l:List Obj):Heap:=⟨⟨boot_o_0 P::boot_o_1 P::boot_o_2 P::kD (kE P "__name__" 165 v::(hen P).take g) (g+1)::boot_o_4 P::boot_o_5 P::boot_o_6 P::boot_o_7 P::boot_o_8 P::boot_o_9 P::boot_o_10 P::htp []::hfl .none ((hcs.take c).flatMap λp=>[.int p.1 0,.int 0 0,.ref p.2])::hco "<module>" "<module>" 182 185 1 0 0 false 11 .none .none .none::hfm 13 3 (.str "__main__" 164)::l⟩,(boot_heap P).life⟩
abbrev hbd:=behindTheImports hpg
abbrev hev:Env:={scope:=hpg.main.scope,locals:=mainNs,globals:=mainNs,cells:=[],code:=.ref 13,frame:=some 14}
abbrev hcd:Code:=.body hbd hev
noncomputable abbrev hSh(t:Nat)(h:Heap)(o:OsState):Shared:=⟨h,⟨[]⟩,boot_drawn,t,o⟩
def hl0(P:Params):List Obj:=hcO P 15 189 hva [(.type "ValueError")] hem [(.ref 44),(.ref 63),(.ref 75),(.ref 87),(.ref 99),(.ref 111),(.ref 123),(.ref 135),(.ref 147)] "ValueError.__new__" 1 (top 1)++hcO P 28 207 hva [(.ref 24)] ((.ref 24)::hem) [] "ValueError.__new__" 0 (top 2)++hcO P 47 232 hva [(.ref 24)] ((.ref 24)::hem) [] "ValueError.__new__" 0 (top 3)++hcO P 66 257 hva [(.ref 24)] ((.ref 24)::hem) [] "ValueError.__new__" 0 (top 4)++hcO P 78 273 hva [(.ref 24)] ((.ref 24)::hem) [] "ValueError.__new__" 0 (top 5)++hcO P 90 289 hva [(.ref 24)] ((.ref 24)::hem) [] "ValueError.__new__" 0 (top 6)++hcO P 102 305 hva [(.ref 24)] ((.ref 24)::hem) [] "ValueError.__new__" 0 (top 7)++hcO P 114 321 hva [(.ref 24)] ((.ref 24)::hem) [] "ValueError.__new__" 0 (top 8)++hcO P 126 337 hva [(.ref 24)] ((.ref 24)::hem) [] "ValueError.__new__" 0 (top 9)++hcO P 138 353 hva [(.ref 24)] ((.ref 24)::hem) [] "ValueError.__new__" 0 (top 10)
def hl1(P:Params):List Obj:=hl0 P++hfO 150 371 "" hvb (top 12)++hfO 157 381 "" hvb (top 13)++hfO 164 393 "" hvb (top 14)++hfO 171 409 "" hvb (top 15)++hfO 178 420 "" hvb (top 16)++hfO 185 428 "" hvb (top 17)++hfO 192 438 "" hvc (top 19)++hfO 199 450 "" hvc (top 20)++hfO 204 456 "" hvc (top 21)++hfO 211 467 "" hvc (top 22)++hfO 216 473 "" hvc (top 23)++hfO 223 486 "" hvc (top 24)++hfO 228 492 "" hvc (top 25)++hfO 235 506 "" hvd (top 27)++hfO 242 514 "" hvd (top 28)++hfO 249 523 "" hvd (top 29)++hfO 254 529 "" hvd (top 30)++hfO 261 537 "" hvd (top 31)++hfO 268 548 "" hvd (top 32)++hfO 273 554 "" hvd (top 33)++hfO 278 560 "" hvd (top 34)++hfO 285 570 "" hvd (top 35)++hfO 292 581 "" hvd (top 36)++hfO 297 587 "" hvd (top 37)++hfO 302 593 "" hvd (top 38)++hfO 309 606 "" hvd (top 39)++hfO 316 624 "" hvd (top 40)++hfO 323 635 "" hvd (top 41)++hfO 330 651 "" hvd (top 42)++hfO 337 668 "" hvd (top 43)
def hl2(P:Params):List Obj:=hl1 P++hfO 344 675 "" hvd (top 44)++hfO 351 686 "" hvd (top 45)++hfO 358 697 "" hvd (top 46)
theorem hr0(w:World)(o:OsState):topGo treeTable hpg w 11 (some (.ref 6)) 12 (hSh boot_toks (boot_heap w.params) o) (topStub hpg)=some (hSh 187 (hhp w.params (.str "__main__" 164) 8 0 []) o,⟨denote treeTable hcd,hcd,⟨0,0,0,0⟩,[topFrame ⟨0,0,0,0⟩]⟩):=by kernel_rfl
theorem hr1(w:World)(o:OsState):segRun treeTable hpg w 11 (some (.ref 6)) 1 1 (hSh 187 (hhp w.params (.str "__main__" 164) 8 0 []) o) (blockOf hbd hev hcd ⟨0,0,0,0⟩ [topFrame ⟨0,0,0,0⟩])=some (.next,hSh 187 (hhp w.params (.str "__main__" 164) 8 0 []) o,hcd,⟨0,0,0,0⟩):=by kernel_rfl
theorem hs0(w:World)(o:OsState):segRun treeTable hpg w 11 (some (.ref 6)) 1 2177 (hSh 187 (hhp w.params (.str "__main__" 164) 8 0 []) o) (piecesOf (hbd.take 11) hev hcd ⟨0,0,0,0⟩ [topFrame ⟨0,0,0,0⟩])=some (.next,hSh 369 (hhp w.params hva 18 10 (hl0 w.params)) o,hcd,⟨26,0,27,8⟩):=by kernel_rfl
abbrev hb0:=hbd.drop 11
theorem hs1(w:World)(o:OsState):segRun treeTable hpg w 11 (some (.ref 6)) 1 972 (hSh 369 (hhp w.params hva 18 10 (hl0 w.params)) o) (piecesOf (hb0.take 33) hev hcd ⟨26,0,27,8⟩ [topFrame ⟨0,0,0,0⟩])=some (.next,hSh 675 (hhp w.params hvd 48 40 (hl1 w.params)) o,hcd,⟨284,0,289,74⟩):=by kernel_rfl
abbrev hb1:=hb0.drop 33
theorem hs2(w:World)(o:OsState):topRun treeTable hpg w 11 (some (.ref 6)) 102 (hSh 675 (hhp w.params hvd 48 40 (hl1 w.params)) o) (restOf hb1 hev hcd ⟨284,0,289,74⟩ [topFrame ⟨0,0,0,0⟩])=some (hSh 708 (hhp w.params hvd 51 43 (hl2 w.params)) o):=by kernel_rfl
theorem hpa{w:World}{n N t t':Nat}{h h':Heap}{o:OsState}{r:Shared}{b:List Stmt}(m:Nat){p p':Pos}(x:segRun treeTable hpg w 11 (some (.ref 6)) 1 n (hSh t h o) (piecesOf (b.take m) hev hcd p [topFrame ⟨0,0,0,0⟩])=some (.next,hSh t' h' o,hcd,p'))(y:topRun treeTable hpg w 11 (some (.ref 6)) N (hSh t' h' o) (restOf (b.drop m) hev hcd p' [topFrame ⟨0,0,0,0⟩])=some r):topRun treeTable hpg w 11 (some (.ref 6)) (n+N) (hSh t h o) (restOf b hev hcd p [topFrame ⟨0,0,0,0⟩])=some r:=by
 have z:=piece_app x y;rwa[List.take_append_drop] at z
theorem hhr(w:World)(o:OsState):topRun treeTable hpg w 11 (some (.ref 6)) (12+(1+(2177+(972+102)))) (hSh boot_toks (boot_heap w.params) o) (topStub hpg)=some (hSh 708 (hhp w.params hvd 51 43 (hl2 w.params)) o):=go_top (hr0 w o) (piece_block (hr1 w o) (hpa _ (hs0 w o) (hpa _ (hs1 w o) (hs2 w o))))
def hhf(P:Params):Heap:=hhp P hvd 51 43 (hl2 P)
theorem hhq(w:World):(λo=>((staticsOk (importedModules hpg.main.body) (boot_heap w.params) (hhf w.params)&&namesBound hpg (hhf w.params)&&gensDone (hSh 708 (hhf w.params) o)&&laidKept (boot_heap w.params) (hhf w.params)),openSeen qv [] (importedModules hpg.main.body) Xt true (hSh 708 (hhf w.params) o),hk.obs (hSh 708 (hhf w.params) o)))=λ_=>(true,openGood qv [],hk.val w):=by kernel_rfl
theorem hl:LeftO PySem.Challenge.pw_stretchdeeds_k62_only_what_is_let_by qv [] Xt hk.obs hk.val 8000:=LeftO.of_pieces (H₀:=boot_heap) (H₁:=hhf) (boot_open (by kernel_rfl) rfl λ_=>by kernel_rfl) (λ_=>by kernel_rfl) hhr rfl hhq
end G62
end
section
namespace PF
open PySem PySem.Spec PyProof.Rows L2
abbrev St:=L2.St
structure KD where
 d:Addr->List (Key×V)->Prop
 c:Str->Addr
instance:CoeFun KD (λ_=>Addr->List (Key×V)->Prop):=⟨KD.d⟩
inductive D where
 |non|bl (b:Bool)|int (i:Int)|str (x:Str)|tup (ds:List D)|lst (ds:List D)|dct (kvs:List (Key×D))|cl (c:Str)|ob (c:Str) (ns:List Str) (ds:List D)|dt (ks:List (List Key)) (ds:List D)|er (c an:Str) (d:D)
def XB(a C dx:Addr):Heap->Prop:=λh=>∃o,h.get? a=some o/\o.cls = .ref C/\o.dict=some dx/\∃vs,o.data = .fields vs
mutual
inductive Rp(K:zzA)(kd:KD)(O:Addr->Prop)(H:Hp):V->D->Prop
 |non:Rp K kd O H .non .non
 |bl (b:Bool):Rp K kd O H (.bl b) (.bl b)
 |int (i:Int):Rp K kd O H (.int i) (.int i)
 |str (x:Str):Rp K kd O H (.str x) (.str x)
 |tup {a:Addr}{vs:List V}{ds:List D}:¬O a->H a=some (.tup vs)->RpL K kd O H vs ds->Rp K kd O H (.ref a) (.tup ds)
 |lst {a:Addr}{vs:List V}{ds:List D}:¬O a->Rd H a (.lst vs)->RpL K kd O H vs ds->Rp K kd O H (.ref a) (.lst ds)
 |lstK {a:Addr}{its:Array Value}{n:Nat}{vs:List V}{ds:List D}:K.lookup a=some {cls:=.type "list",data:=.seq its n}->its.size<=sizeLine->zK vs its.toList->RpL K kd O H vs ds->Rp K kd O H (.ref a) (.lst ds)
 |dct {a:Addr}{kvs:List (Key×V)}{ds:List (Key×D)}:¬O a->Rd H a (.dK kvs)->RpM K kd O H kvs ds->Rp K kd O H (.ref a) (.dct ds)
 |dctK {a:Addr}{kvs:List (Key×V)}{ds:List (Key×D)}:kd a kvs->RpM K kd O H kvs ds->Rp K kd O H (.ref a) (.dct ds)
 |cl (c:Str):Rp K kd O H (.ref (kd.c c)) (.cl c)
 |ob {a dx:Addr}{c:Str}{ns:List Str}{vs:List V}{ds:List D}:¬O a->H a=some (.ins (kd.c c) dx (ns.zip vs))->ns.length=vs.length->RpL K kd O H vs ds->Rp K kd O H (.ref a) (.ob c ns ds)
 |dt {a:Addr}{ks:List (List Key)}{vs:List V}{ds:List D}:¬O a->H a=some (.dT (ks.zip vs))->ks.length=vs.length->RpL K kd O H vs ds->Rp K kd O H (.ref a) (.dt ks ds)
 |er {a dx:Addr}{c an:Str}{v:V}{d:D}:¬O a->¬O dx->H a=some (.ext (XB a (kd.c c) dx))->H dx=some (.xd [(an,v)])->Rp K kd O H v d->Rp K kd O H (.ref a) (.er c an d)
inductive RpL(K:zzA)(kd:KD)(O:Addr->Prop)(H:Hp):List V->List D->Prop
 |nil:RpL K kd O H [] []
 |cons {v:V}{d:D}{vs:List V}{ds:List D}:Rp K kd O H v d->RpL K kd O H vs ds->RpL K kd O H (v::vs) (d::ds)
inductive RpM(K:zzA)(kd:KD)(O:Addr->Prop)(H:Hp):List (Key×V)->List (Key×D)->Prop
 |nil:RpM K kd O H [] []
 |cons {k:Key}{v:V}{d:D}{vs:List (Key×V)}{ds:List (Key×D)}:Rp K kd O H v d->RpM K kd O H vs ds->RpM K kd O H ((k,v)::vs) ((k,d)::ds)
end
structure Grow(W:Addr->Prop)(H:Hp)(W':Addr->Prop)(H':Hp):Prop where
 keep:∀b o,H b=some o->¬W b->H' b=some o
 own:∀b,W' b->W b\/H b=none
def Grow.refl:Grow W H W H:=⟨λ_ _ h _=>h,λ_ h=>.inl h⟩
def Grow.trans(a:Grow W H W1 H1)(b:Grow W1 H1 W2 H2):Grow W H W2 H2 where
 keep:=λx o h n=>b.keep x o (a.keep x o h n) λq=>(a.own x q).elim n λz=>by rw[z]at h;cases h
 own:=λx q=>by
  rcases b.own x q with h|h
  . exact a.own x h
  . cases e:H x with
    |none=>exact .inr rfl
    |some o=>
     refine .inl (Classical.byContradiction λn=>?_);rw[a.keep x o e n]at h;cases h
def Grow.less(h:∀a,W' a->W a):Grow W H W' H:=⟨λ_ _ q _=>q,λb q=>.inl (h b q)⟩
def Grow.wr(h:W p):Grow W H W (upd H p o):=
 ⟨λb u q n=>by rw[zr (λe=>n (by rw[e];exact h))];exact q,λ_ q=>.inl q⟩
abbrev WU(F W:Addr->Prop):Addr->Prop:=λa=>F a\/W a
section
variable{K:zzA}{kd:KD}{F W W':Addr->Prop}{H H':Hp}
def XF(g:Grow W H W' H')(n:¬W a)(h:Rd H a u):Rd H' a u:=by
 rcases h with h|⟨o,h⟩
 . exact .inl (g.keep _ _ h n)
 . exact .inr ⟨o,g.keep _ _ h n⟩
def Oa(h:Rd H a u):H a≠none:=by
 rcases h with h|⟨o,h⟩<;>(rw[h];simp)
def Za(g:Grow W H W' H')(n:¬WU F W a)(h:Rd H a u):¬WU F W' a:=λq=>
 q.elim (λz=>n (.inl z)) λz=>(g.own a z).elim (λy=>n (.inr y)) λy=>Oa h y
def Rp.grow(g:Grow W H W' H')(h:Rp K kd (WU F W) H v d):Rp K kd (WU F W') H' v d:=
 Rp.rec .non .bl .int .str (λn h _ r=>.tup (Za g n (.inl h)) (g.keep _ _ h λz=>n (.inr z)) r) (λn h _ r=>.lst (Za g n h) (XF g (λz=>n (.inr z)) h) r) (λa e f _ r=>.lstK a e f r) (λn h _ r=>.dct (Za g n h) (XF g (λz=>n (.inr z)) h) r) (λh _ r=>.dctK h r) .cl (λn h l _ r=>.ob (Za g n (.inl h)) (g.keep _ _ h λz=>n (.inr z)) l r) (λn h l _ r=>.dt (Za g n (.inl h)) (g.keep _ _ h λz=>n (.inr z)) l r) (λn m h k _ r=>.er (Za g n (.inl h)) (Za g m (.inl k)) (g.keep _ _ h λz=>n (.inr z)) (g.keep _ _ k λz=>m (.inr z)) r) .nil (λ_ _ h r=>.cons h r) .nil (λ_ _ h r=>.cons h r) h
def RpL.ind{O}{P:List V->List D->Prop}(h0:P [] [])(h1:∀{v d vs ds},Rp K kd O H v d->RpL K kd O H vs ds->P vs ds->P (v::vs) (d::ds)){vs}{ds}(h:RpL K kd O H vs ds):P vs ds:=
 RpL.rec (motive_1:=λ_ _ _=>True) (motive_3:=λ_ _ _=>True) ⟨⟩ (λ_=>⟨⟩) (λ_=>⟨⟩) (λ_=>⟨⟩) (λ_ _ _ _=>⟨⟩) (λ_ _ _ _=>⟨⟩) (λ_ _ _ _ _=>⟨⟩) (λ_ _ _ _=>⟨⟩) (λ_ _ _=>⟨⟩) (λ_=>⟨⟩) (λ_ _ _ _ _=>⟨⟩) (λ_ _ _ _ _=>⟨⟩) (λ_ _ _ _ _ _=>⟨⟩) h0 (λa r _ ih=>h1 a r ih) ⟨⟩ (λ_ _ _ _=>⟨⟩) h
def RpM.ind{O}{P:List (Key×V)->List (Key×D)->Prop}(h0:P [] [])(h1:∀{k v d vs ds},Rp K kd O H v d->RpM K kd O H vs ds->P vs ds->P ((k,v)::vs) ((k,d)::ds)){vs}{ds}(h:RpM K kd O H vs ds):P vs ds:=
 RpM.rec (motive_1:=λ_ _ _=>True) (motive_2:=λ_ _ _=>True) ⟨⟩ (λ_=>⟨⟩) (λ_=>⟨⟩) (λ_=>⟨⟩) (λ_ _ _ _=>⟨⟩) (λ_ _ _ _=>⟨⟩) (λ_ _ _ _ _=>⟨⟩) (λ_ _ _ _=>⟨⟩) (λ_ _ _=>⟨⟩) (λ_=>⟨⟩) (λ_ _ _ _ _=>⟨⟩) (λ_ _ _ _ _=>⟨⟩) (λ_ _ _ _ _ _=>⟨⟩) ⟨⟩ (λ_ _ _ _=>⟨⟩) h0 (λa r _ ih=>h1 a r ih) h
theorem RpL.grow(g:Grow W H W' H'){vs:List V}{ds}(h:RpL K kd (WU F W) H vs ds):RpL K kd (WU F W') H' vs ds:=RpL.ind .nil (λa _ r=>.cons (Rp.grow g a) r) h
theorem RpM.grow(g:Grow W H W' H'){vs:List (Key×V)}{ds}(h:RpM K kd (WU F W) H vs ds):RpM K kd (WU F W') H' vs ds:=RpM.ind .nil (λa _ r=>.cons (Rp.grow g a) r) h
def Rp.less(g:∀a,O' a->O a)(h:Rp K kd O H v d):Rp K kd O' H v d:=
 Rp.rec .non .bl .int .str (λn h _ r=>.tup (λz=>n (g _ z)) h r) (λn h _ r=>.lst (λz=>n (g _ z)) h r) (λa e f _ r=>.lstK a e f r) (λn h _ r=>.dct (λz=>n (g _ z)) h r) (λh _ r=>.dctK h r) .cl (λn h l _ r=>.ob (λz=>n (g _ z)) h l r) (λn h l _ r=>.dt (λz=>n (g _ z)) h l r) (λn m h k _ r=>.er (λz=>n (g _ z)) (λz=>m (g _ z)) h k r) .nil (λ_ _ h r=>.cons h r) .nil (λ_ _ h r=>.cons h r) h
theorem RpL.less{O O':Addr->Prop}(g:∀a,O' a->O a){vs}{ds}(h:RpL K kd O H vs ds):RpL K kd O' H vs ds:=RpL.ind .nil (λa _ r=>.cons (Rp.less g a) r) h
theorem RpM.less{O O':Addr->Prop}(g:∀a,O' a->O a){vs}{ds}(h:RpM K kd O H vs ds):RpM K kd O' H vs ds:=RpM.ind .nil (λa _ r=>.cons (Rp.less g a) r) h
theorem RpL.length{O:Addr->Prop}{vs}{ds}(h:RpL K kd O H vs ds):vs.length=ds.length:=RpL.ind (P:=λvs ds=>vs.length=ds.length) rfl (λ_ _ r=>congrArg (· + 1) r) h
theorem RpM.length{O:Addr->Prop}{vs}{ds}(h:RpM K kd O H vs ds):vs.length=ds.length:=RpM.ind (P:=λvs ds=>vs.length=ds.length) rfl (λ_ _ r=>congrArg (· + 1) r) h
def RpL.get{O}{vs:List V}{ds}{i:Nat}{d}(h:RpL K kd O H vs ds)(e:ds[i]? = some d):∃v,vs[i]? = some v/\Rp K kd O H v d:=
 RpL.ind (P:=λvs ds=>∀i,ds[i]? = some d->∃v,vs[i]? = some v/\Rp K kd O H v d) (λi e=>by rw[List.getElem?_nil]at e;cases e) (λa _ ih i e=>by
  cases i with
  |zero=>cases e;exact⟨_,rfl,a⟩
  |succ i=>exact ih i e) h i e
def RpL.append{O:Addr->Prop}{vs ws}{ds es}(h:RpL K kd O H vs ds)(r:RpL K kd O H ws es):RpL K kd O H (vs++ws) (ds++es):=RpL.ind (P:=λvs ds=>RpL K kd O H (vs++ws) (ds++es)) r (λa _ t=>.cons a t) h
theorem RpL.take{O:Addr->Prop}{vs}{ds}(n:Nat)(h:RpL K kd O H vs ds):RpL K kd O H (vs.take n) (ds.take n):=
 RpL.ind (P:=λvs ds=>∀n,RpL K kd O H (vs.take n) (ds.take n)) (λn=>by rw[List.take_nil,List.take_nil];exact .nil) (λa _ ih n=>by
  cases n with
  |zero=>exact .nil
  |succ n=>exact .cons a (ih n)) h n
theorem RpL.drop{O:Addr->Prop}{vs}{ds}(n:Nat)(h:RpL K kd O H vs ds):RpL K kd O H (vs.drop n) (ds.drop n):=
 RpL.ind (P:=λvs ds=>∀n,RpL K kd O H (vs.drop n) (ds.drop n)) (λn=>by rw[List.drop_nil,List.drop_nil];exact .nil) (λa b ih n=>by
  cases n with
  |zero=>exact .cons a b
  |succ n=>exact ih n) h n
theorem RpL.rep(h:RpL K kd O H vs ds):∀k:Nat,RpL K kd O H (List.replicate k vs).flatten (List.replicate k ds).flatten
 |0=>.nil
 |k+1=>by
  rw[List.replicate_succ,List.replicate_succ,List.flatten_cons,List.flatten_cons];exact h.append (RpL.rep h k)
end
inductive Vw(K:zzA)(kd:KD)(O:Addr->Prop)(H:Hp):V->D->Prop
 |non:Vw K kd O H .non .non
 |bl (b:Bool):Vw K kd O H (.bl b) (.bl b)
 |int (i:Int):Vw K kd O H (.int i) (.int i)
 |str (x:Str):Vw K kd O H (.str x) (.str x)
 |tup {a:Addr}{vs:List V}{ds:List D}:Rp K kd O H (.ref a) (.tup ds)->QX K H a vs->RpL K kd O H vs ds->Vw K kd O H (.ref a) (.tup ds)
 |lst {a:Addr}{vs:List V}{ds:List D}:Hc K H a vs->RpL K kd O H vs ds->Vw K kd O H (.ref a) (.lst ds)
 |dct {a:Addr}{kvs:List (Key×V)}{ds:List (Key×D)}:(Rd H a (.dK kvs)\/kd a kvs)->RpM K kd O H kvs ds->Vw K kd O H (.ref a) (.dct ds)
 |cl (c:Str):Vw K kd O H (.ref (kd.c c)) (.cl c)
 |ob {a dx:Addr}{c:Str}{ns:List Str}{vs:List V}{ds:List D}:H a=some (.ins (kd.c c) dx (ns.zip vs))->ns.length=vs.length->RpL K kd O H vs ds->Vw K kd O H (.ref a) (.ob c ns ds)
 |dt {a:Addr}{ks:List (List Key)}{vs:List V}{ds:List D}:H a=some (.dT (ks.zip vs))->ks.length=vs.length->RpL K kd O H vs ds->Vw K kd O H (.ref a) (.dt ks ds)
 |er {a dx:Addr}{c an:Str}{v:V}{d:D}:H a=some (.ext (XB a (kd.c c) dx))->H dx=some (.xd [(an,v)])->Rp K kd O H v d->Vw K kd O H (.ref a) (.er c an d)
def Rp.vw{K}{kd}{O}{H}{v}{d}(h:Rp K kd O H v d):Vw K kd O H v d:=by
 cases h with
 |non=>exact .non
 |bl b=>exact .bl b
 |int i=>exact .int i
 |str x=>exact .str x
 |tup n h r=>exact .tup (.tup n h r) (.inl (.inl h)) r
 |lst n h r=>exact .lst (.inl h) r
 |lstK a e f r=>exact .lst (.inr ⟨_,_,a,e,f⟩) r
 |dct n h r=>exact .dct (.inl h) r
 |dctK h r=>exact .dct (.inr h) r
 |cl c=>exact .cl c
 |ob n h l r=>exact .ob h l r
 |dt n h l r=>exact .dt h l r
 |er n m h k r=>exact .er h k r
def _root_.L2.Hc.sq{K}{H}{a}{xs}(h:Hc K H a xs):Q1 K H a xs:=by
 rcases h with h|⟨its,n,k,z,r⟩
 . exact .inl h
 . exact .inr ⟨_,its,n,k,rfl,rfl,rfl,z,r⟩
def Nc(I:Inv X pins σ H s)(h:Hc X.K H a xs):
 xs.length<=sizeLine/\∃(its:List Value) (n:Nat),zK xs its/\s.heap.get? a=some {cls:=.type "list",data:=.seq its.toArray n}:=by
 rcases h with h|⟨its,n,k,z,r⟩
 . exact h.ok I.hok
 . refine⟨by rw[r.length];simpa using z,its.toList,n,r,by simpa using I.kIn _ _ k⟩
def Rp.cl_eq{K}{kd}{O}{H}{C}{c}(h:Rp K kd O H (.ref C) (.cl c)):C=kd.c c:=by
 cases h;rfl
def zF:D->Bool
 | .non=>true | .bl _=>true | .int _=>true | .str _=>true|_=>false
def Rp.flat{K}{kd}{O O'}{H H'}{v}{d}(h:Rp K kd O H v d)(e:zF d=true):Rp K kd O' H' v d:=by
 cases h with
 |non=>exact .non
 |bl b=>exact .bl b
 |int i=>exact .int i
 |str x=>exact .str x
 |_=>cases e
inductive Kind where
 |ls|tp|dc (ks:List Key)|ob (c:Str) (ns:List Str)|dt (ks:List (List Key))
inductive O where
 |lf (st:Bool) (d:D)|nd (k:Kind) (os:List O)
abbrev N7(st:Bool)(d:D):O:=.lf (zF d||st) d
mutual
inductive Ro(L:Bool->V->D->Prop)(N:Addr->Prop)(H:Hp):V->O->List Addr->Prop
 |lf {st:Bool}{v:V}{d:D}:L st v d->Ro L N H v (.lf st d) []
 |ls {a:Addr}{vs:List V}{os:List O}{fp:List Addr}:H a=some (.lst vs)->RoL L N H vs os fp->Ro L N H (.ref a) (.nd .ls os) (a::fp)
 |dc {a:Addr}{ks:List Key}{vs:List V}{os:List O}{fp:List Addr}:H a=some (.dK (ks.zip vs))->ks.length=vs.length->RoL L N H vs os fp->Ro L N H (.ref a) (.nd (.dc ks) os) (a::fp)
 |ob {a dx C:Addr}{c:Str}{ns:List Str}{vs:List V}{os:List O}{fp:List Addr}:L true (.ref C) (.cl c)->H a=some (.ins C dx (ns.zip vs))->ns.length=vs.length->RoL L N H vs os fp->Ro L N H (.ref a) (.nd (.ob c ns) os) (a::fp)
 |dt {a:Addr}{ks:List (List Key)}{vs:List V}{os:List O}{fp:List Addr}:H a=some (.dT (ks.zip vs))->ks.length=vs.length->RoL L N H vs os fp->Ro L N H (.ref a) (.nd (.dt ks) os) (a::fp)
 |tp {a:Addr}{vs:List V}{os:List O}{fp:List Addr}:N a->H a=some (.tup vs)->RoL L N H vs os fp->Ro L N H (.ref a) (.nd .tp os) fp
inductive RoL(L:Bool->V->D->Prop)(N:Addr->Prop)(H:Hp):List V->List O->List Addr->Prop
 |nil:RoL L N H [] [] []
 |cons {v:V}{o:O}{vs:List V}{os:List O}{fp fq:List Addr}:Ro L N H v o fp->RoL L N H vs os fq->RoL L N H (v::vs) (o::os) (fp++fq)
end
mutual
def O.toD:O->D
 | .lf _ d=>d
 | .nd .ls os=>.lst (O.toDs os)
 | .nd .tp os=>.tup (O.toDs os)
 | .nd (.dc ks) os=>.dct (ks.zip (O.toDs os))
 | .nd (.ob c ns) os=>.ob c ns (O.toDs os)
 | .nd (.dt ks) os=>.dt ks (O.toDs os)
def O.toDs:List O->List D
 | []=>[]
 |o::r=>o.toD::O.toDs r
end
mutual
def O.str:O->Bool
 | .lf st _=>st
 | .nd _ os=>O.strs os
def O.strs:List O->Bool
 | []=>true
 |o::r=>o.str&&O.strs r
end
section
variable{L L':Bool->V->D->Prop}{N N':Addr->Prop}{H H':Hp}{K:zzA}{kd:KD}{Ob:Addr->Prop}
def Ro.mono(hL:∀st v d,L st v d->L' st v d)(hN:∀a vs,N a->H a=some (.tup vs)->N' a/\H' a=some (.tup vs))(k:∀a ∈ fp,∀u,H a=some u->H' a=some u)(h:Ro L N H v o fp):Ro L' N' H' v o fp:=
 Ro.rec (motive_2:=λvs os fp _=>(∀a ∈ fp,∀u,H a=some u->H' a=some u)->RoL L' N' H' vs os fp)
  (λh _=>.lf (hL _ _ _ h)) (λh _ r k=>.ls (k _ zzF _ h) (r λa m=>k a (zzD _ m))) (λh l _ r k=>.dc (k _ zzF _ h) l (r λa m=>k a (zzD _ m))) (λc h l _ r k=>.ob (hL _ _ _ c) (k _ zzF _ h) l (r λa m=>k a (zzD _ m))) (λh l _ r k=>.dt (k _ zzF _ h) l (r λa m=>k a (zzD _ m))) (λn h _ r k=>.tp (hN _ _ n h).1 (hN _ _ n h).2 (r k))
  (λ_=>.nil) (λ_ _ h r k=>.cons (h λa m=>k a (zzP _ m)) (r λa m=>k a (zzL _ m))) h k
def RoL.ind{P:List V->List O->List Addr->Prop}(h0:P [] [] [])(h1:∀{v o vs os fp fq},Ro L N H v o fp->RoL L N H vs os fq->P vs os fq->P (v::vs) (o::os) (fp++fq)){vs}{os}{fp}(h:RoL L N H vs os fp):P vs os fp:=
 RoL.rec (motive_1:=λ_ _ _ _=>True) (λ_=>⟨⟩) (λ_ _ _=>⟨⟩) (λ_ _ _ _=>⟨⟩) (λ_ _ _ _ _=>⟨⟩) (λ_ _ _ _=>⟨⟩) (λ_ _ _ _=>⟨⟩) h0 (λa r _ ih=>h1 a r ih) h
theorem RoL.mono(hL:∀st v d,L st v d->L' st v d)(hN:∀a vs,N a->H a=some (.tup vs)->N' a/\H' a=some (.tup vs)){vs:List V}{os}{fp}(k:∀a ∈ fp,∀u,H a=some u->H' a=some u)(h:RoL L N H vs os fp):RoL L' N' H' vs os fp:=
 RoL.ind (P:=λvs os fp=>(∀a ∈ fp,∀u,H a=some u->H' a=some u)->RoL L' N' H' vs os fp) (λ_=>.nil) (λh _ r k=>.cons (Ro.mono hL hN (λa m=>k a (zzP _ m)) h) (r λa m=>k a (zzL _ m))) h k
theorem Uw:∀{ks:List Key}{vs:List V}{ds:List D},RpL K kd Ob H vs ds->ks.length=vs.length->RpM K kd Ob H (ks.zip vs) (ks.zip ds)
 | [],_,_,_,_=>.nil
 |_::_,_,_,.nil,e=>by simp at e
 |_::_,_,_,.cons h r,e=>.cons h (Uw r (by simpa using e))
def Ro.rp(b)(hL:∀st v d,(b=true->st=true)->L st v d->Rp K kd Ob H v d)(hN:∀a,N a->¬Ob a){v}{o}{fp}(s:b=true->o.str=true)(k:∀a ∈ fp,¬Ob a)(h:Ro L N H v o fp):Rp K kd Ob H v o.toD:=
 Ro.rec (motive_2:=λvs os fp _=>(b=true->O.strs os=true)->(∀a ∈ fp,¬Ob a)->RpL K kd Ob H vs (O.toDs os))
  (λh s _=>hL _ _ _ s h) (λh _ r s k=>.lst (k _ zzF) (.inl h) (r s λa m=>k a (zzD _ m))) (λh l _ r s k=>.dct (k _ zzF) (.inl h) (Uw (r s λa m=>k a (zzD _ m)) l)) (λc h l _ r s k=>by
   have e:=(hL _ _ _ (λ_=>rfl) c).cl_eq;subst e;exact .ob (k _ zzF) h l (r s λa m=>k a (zzD _ m))) (λh l _ r s k=>.dt (k _ zzF) h l (r s λa m=>k a (zzD _ m))) (λn h _ r s k=>.tup (hN _ n) h (r s k))
  (λ_ _=>.nil) (λ_ _ h r s k=>.cons (h (λz=>((zyC _ _).mp (s z)).1) λa m=>k a (zzP _ m)) (r (λz=>((zyC _ _).mp (s z)).2) λa m=>k a (zzL _ m))) h s k
theorem RoL.rp(b:Bool)(hL:∀st v d,(b=true->st=true)->L st v d->Rp K kd Ob H v d)(hN:∀a,N a->¬Ob a){vs}{os}{fp}(s:b=true->O.strs os=true)(k:∀a ∈ fp,¬Ob a)(h:RoL L N H vs os fp):RpL K kd Ob H vs (O.toDs os):=
 RoL.ind (P:=λvs os fp=>(b=true->O.strs os=true)->(∀a ∈ fp,¬Ob a)->RpL K kd Ob H vs (O.toDs os)) (λ_ _=>.nil) (λh _ r s k=>.cons (Ro.rp b hL hN (λz=>((zyC _ _).mp (s z)).1) (λa m=>k a (zzP _ m)) h) (r (λz=>((zyC _ _).mp (s z)).2) λa m=>k a (zzL _ m))) h s k
theorem RoL.length{vs:List V}{os}{fp}(h:RoL L N H vs os fp):vs.length=os.length:=RoL.ind (P:=λvs os _=>vs.length=os.length) rfl (λ_ _ r=>congrArg (· + 1) r) h
theorem Y_:∀os:List O,(O.toDs os).length=os.length
 | []=>rfl
 |_::r=>congrArg (· + 1) (Y_ r)
def RoL.append{vs ws:List V}{os ps}{f g}(h:RoL L N H vs os f)(r:RoL L N H ws ps g):RoL L N H (vs++ws) (os++ps) (f++g):=RoL.ind (P:=λvs os f=>RoL L N H (vs++ws) (os++ps) (f++g)) r (λh _ t=>by rw[zxD];exact .cons h t) h
def RoL.one(h:Ro L N H v o f):RoL L N H [v] [o] f:=by
 have:=RoL.cons h (RoL.nil);rw[zyE]at this;exact this
def RoL.at_:∀{vs:List V}{os:List O}{fp:List Addr},RoL L N H vs os fp->os[k]? = some o->∃v f fo g,vs[k]? = some v/\fp=f++(fo++g)/\Ro L N H v o fo/\RoL L N H (vs.take k) (os.take k) f/\RoL L N H (vs.drop (k+1)) (os.drop (k+1)) g:=by
 induction k with
 |zero=>
  intro vs os fp h e;cases h with
  |nil=>cases e
  |cons h r=>
   rw[List.getElem?_cons_zero]at e;cases e;exact⟨_,[],_,_,rfl,rfl,h,.nil,r⟩
 |succ k ih=>
  intro vs os fp h e;cases h with
  |nil=>cases e
  |cons h r=>
   rw[List.getElem?_cons_succ]at e;obtain⟨v,f,fo,g,e1,e2,h1,h2,h3⟩:=ih r e;subst e2;exact⟨v,_,fo,g,by rw[List.getElem?_cons_succ];exact e1,(zxD _ _ _).symm,h1,.cons h h2,h3⟩
def Qw(l:List α)(k:Nat):l.eraseIdx k=l.take k++l.drop (k+1):=List.eraseIdx_eq_take_drop_succ l k
end
abbrev AS:=List (Option O)
abbrev Ad:=Nat->List Addr
def Gw(T:List Addr)(ad:Ad):Addr->Prop:=λa=>a ∈ T\/∃i,a ∈ ad i
abbrev Lv(F B G:Addr->Prop)(st:Bool):Addr->Prop:=WU (λa=>(st=true/\F a)\/B a) G
abbrev Lf(K:zzA)(kd:KD)(F B G:Addr->Prop)(H:Hp):Bool->V->D->Prop:=λst v d=>Rp K kd (Lv F B G st) H v d
abbrev Nf(F B G:Addr->Prop):Addr->Prop:=λa=>¬Lv F B G true a
abbrev xW(K:zzA)(kd:KD)(F B G:Addr->Prop)(H:Hp):V->O->List Addr->Prop:=Ro (Lf K kd F B G H) (Nf F B G) H
abbrev xF(K:zzA)(kd:KD)(F B G:Addr->Prop)(H:Hp):List V->List O->List Addr->Prop:=RoL (Lf K kd F B G H) (Nf F B G) H
def UL(K:zzA)(kd:KD)(F B G:Addr->Prop)(H:Hp):Option O->Option (Option V)->List Addr->Prop
 |none,_,fp=>fp=[]
 |some o,s,fp=>∃v,s=some (some v)/\xW K kd F B G H v o fp
structure Rel(K:zzA)(kd:KD)(F B:Addr->Prop)(T:List Addr)(ad:Ad)(as:AS)(σ:St)(H:Hp):Prop where
 len:as.length=σ.length
 out:∀i,as.length<=i->ad i=[]
 nd:∀i,(ad i).Nodup
 inj:∀i j a,a ∈ ad i->a ∈ ad j->i=j
 tnd:T.Nodup
 dis:∀i a,a ∈ ad i->a ∉ T
 ftr:∀a,F a->H a≠none
 btr:∀a,B a->H a≠none/\¬F a/\¬Gw T ad a
 gtr:∀a,Gw T ad a->H a≠none/\¬F a
 sl:∀i s,as[i]? = some s->UL K kd F B (Gw T ad) H s σ[i]? (ad i)
inductive RV where
 |ow (o:O)|bo (i:Nat)
def xx(K:zzA)(kd:KD)(F B:Addr->Prop)(T:List Addr)(ad:Ad)(σ:St)(H:Hp)(v:V):RV->Prop
 | .ow o=>xW K kd F B (Gw T ad) H v o T
 | .bo i=>T=[]/\σ[i]? = some (some v)
def O.frz(o:O):O:=.lf o.str o.toD
noncomputable def RV.frz:RV->RV
 | .ow o=>.ow o.frz
 | .bo i=>.bo i
def O.isLf:O->Bool
 | .lf _ _=>true
 |_=>false
noncomputable def O.kl:O->Option Bool
 | .lf st _=>some st
 | .nd _ os=>if os.all O.isLf=true then some (O.strs os)else none
noncomputable def RV.view(as:AS):RV->Option (D×Option Bool)
 | .ow o=>some (o.toD,some o.str)
 | .bo i=>match as[i]? with
  |some (some o)=>some (o.toD,o.kl)
  |_=>none
def Ra(F B G:Addr->Prop):Option Bool->Addr->Prop
 |some st=>Lv F B G st
 |none=>λ_=>False
section
variable{K:zzA}{kd:KD}{F B F' B':Addr->Prop}{G G':Addr->Prop}{T T':List Addr}{ad ad1:Ad}{as as1:AS}{σ:St}{H H1 H':Hp}{v:V}{r:RV}{o:O}{fp:List Addr}{vs:List V}{os:List O}
theorem xW.grow(g:Grow G H G' H')(k:∀a ∈ fp,∀u,H a=some u->H' a=some u)(h:xW K kd F B G H v o fp):xW K kd F B G' H' v o fp:=
 Ro.mono (λst v d r=>Rp.grow g r) (λa vs n e=>⟨λz=>z.elim (λy=>n (.inl y)) λy=>(g.own a y).elim (λw=>n (.inr w)) λw=>(by rw[w]at e;cases e),g.keep a _ e (λw=>n (.inr w))⟩) k h
theorem xF.grow(g:Grow G H G' H')(k:∀a ∈ fp,∀u,H a=some u->H' a=some u)(h:xF K kd F B G H vs os fp):xF K kd F B G' H' vs os fp:=
 RoL.mono (λst v d r=>Rp.grow g r) (λa vs n e=>⟨λz=>z.elim (λy=>n (.inl y)) λy=>(g.own a y).elim (λw=>n (.inr w)) λw=>(by rw[w]at e;cases e),g.keep a _ e (λw=>n (.inr w))⟩) k h
def xW.lv(g:∀st a,Lv F' B' G' st a->Lv F B G st a)(h:xW K kd F B G H v o fp):xW K kd F' B' G' H v o fp:=
 Ro.mono (λst v d r=>r.less (g st)) (λa vs n e=>⟨λz=>n (g true a z),e⟩) (λ_ _ _ e=>e) h
def xF.lv(g:∀st a,Lv F' B' G' st a->Lv F B G st a)(h:xF K kd F B G H vs os fp):xF K kd F' B' G' H vs os fp:=
 RoL.mono (λst v d r=>r.less (g st)) (λa vs n e=>⟨λz=>n (g true a z),e⟩) (λ_ _ _ e=>e) h
def xW.less(g:∀a,G' a->G a)(h:xW K kd F B G H v o fp):xW K kd F B G' H v o fp:=xW.lv (λ_ a z=>z.elim .inl λy=>.inr (g a y)) h
def xF.less(g:∀a,G' a->G a)(h:xF K kd F B G H vs os fp):xF K kd F B G' H vs os fp:=xF.lv (λ_ a z=>z.elim .inl λy=>.inr (g a y)) h
def Gw.drop:∀a,Gw [] ad a->Gw T ad a:=λ_ h=>h.elim (λz=>nomatch z) .inr
def Rel.trk(R:Rel K kd F B T ad as σ H)(st):∀a,Lv F B (Gw T ad) st a->H a≠none:=λa h=>by
 rcases h with(h|h)|h
 . exact R.ftr a h.2
 . exact(R.btr a h).1
 . exact(R.gtr a h).1
def Rel.tr(R:Rel K kd F B T ad as σ H)(lv):∀a,Ra F B (Gw T ad) lv a->H a≠none:=λa h=>by
 cases lv with
 |none=>exact h.elim
 |some st=>exact R.trk st a h
theorem UL.lv(g:∀st a,Lv F' B' G' st a->Lv F B G st a)(h:UL K kd F B G H s x fp):UL K kd F' B' G' H s x fp:=by
 cases s with
 |none=>exact h
 |some o=>obtain⟨v,e,r⟩:=h;exact⟨v,e,xW.lv g r⟩
def UL.less(g:∀a,G' a->G a)(h:UL K kd F B G H s x fp):UL K kd F B G' H s x fp:=h.lv (λ_ a z=>z.elim .inl λy=>.inr (g a y))
theorem UL.grow(g:Grow G H G' H')(k:∀a ∈ fp,∀u,H a=some u->H' a=some u)(h:UL K kd F B G H s x fp):UL K kd F B G' H' s x fp:=by
 cases s with
 |none=>exact h
 |some o=>obtain⟨v,e,r⟩:=h;exact⟨v,e,xW.grow g k r⟩
theorem Rel.drop(R:Rel K kd F B T ad as σ H):Rel K kd F B [] ad as σ H where
 len:=R.len
 out:=R.out
 nd:=R.nd
 inj:=R.inj
 tnd:=zyJ
 dis:=λ_ _ _ z=>nomatch z
 ftr:=R.ftr
 btr:=λa h=>let⟨h1,h2,h3⟩:=R.btr a h;⟨h1,h2,λz=>h3 (Gw.drop a z)⟩
 gtr:=λa h=>R.gtr a (Gw.drop a h)
 sl:=λi s e=>(R.sl i s e).less Gw.drop
def LB(R:Rel K kd F B T ad as σ H)(h:xW K kd F B (Gw T ad) H v o T):Rp K kd (Lv F B (Gw [] ad) o.str) H v o.toD:=
 Ro.rp o.str (λst v d hs r=>r.less λa z=>z.elim (λy=>.inl (y.elim (λx=>.inl ⟨hs x.1,x.2⟩) .inr)) λy=>.inr (Gw.drop a y))
  (λa n z=>n (z.elim (λy=>.inl (y.elim (λx=>.inl ⟨rfl,x.2⟩) .inr)) λy=>.inr (Gw.drop a y))) id
  (λa m z=>by
   rcases z with(z|z)|z|⟨i,z⟩
   . exact(R.gtr a (.inl m)).2 z.2
   . exact(R.btr a z).2.2 (.inl m)
   . cases z
   . exact R.dis i a z m) h
def xx.drop(R:Rel K kd F B T ad as σ H)(h:xx K kd F B T ad σ H v r):xx K kd F B [] ad σ H v r.frz:=by
 cases r with
 |ow o=>exact .lf (LB R h)
 |bo i=>exact⟨rfl,h.2⟩
theorem xx.grow(g:Grow (Gw [] ad) H (Gw [] ad1) H1)(h:xx K kd F B [] ad σ H v r):xx K kd F B [] ad1 σ H1 v r:=by
 cases r with
 |ow o=>exact xW.grow g (λ_ m=>nomatch m) h
 |bo i=>exact h
def FY(h:xF K kd F B G H vs os fp):os.all O.isLf=true->fp=[]:=
 RoL.ind (P:=λ_ os fp=>os.all O.isLf=true->fp=[]) (λ_=>rfl) (λh _ ih e=>by
  rw[List.all_cons,zyC]at e;rw[ih e.2,zyE];cases h with
  |lf=>rfl
  |ls=>cases e.1
  |dc=>cases e.1
  |ob=>cases e.1
  |dt=>cases e.1
  |tp=>cases e.1) h
def Rz{st}{b}(hs:b=true->st=true):∀a,Lv F B G b a->Lv F B G st a:=λa z=>z.elim (λy=>.inl (y.elim (λx=>.inl ⟨hs x.1,x.2⟩) .inr)) .inr
def Qq(h:xF K kd F B G H vs os fp)(e:os.all O.isLf=true):RpL K kd (Lv F B G (O.strs os)) H vs (O.toDs os):=by
 have:=FY h e;subst this;exact RoL.rp (O.strs os) (λst v d hs r=>r.less (Rz hs)) (λa n z=>n (Rz (λ_=>rfl) a z)) id (by intro a m;cases m) h
def XD(h:xF K kd F B G H vs os fp):RpL K kd (λ_=>False) H vs (O.toDs os):=RoL.rp false (λst v d _ r=>r.less λ_ z=>z.elim) (λ_ _ z=>z) (λz=>Bool.noConfusion z) (λ_ _ z=>z) h
def Gm(h:xW K kd F B G H v o fp):Rp K kd (λ_=>False) H v o.toD:=Ro.rp false (λst v d _ r=>r.less λ_ z=>z.elim) (λ_ _ z=>z) (λz=>Bool.noConfusion z) (λ_ _ z=>z) h
def Gc(h:xW K kd F B G H v o []):Rp K kd (Lv F B G o.str) H v o.toD:=
 Ro.rp o.str (λst v d hs r=>r.less (Rz hs)) (λa n z=>n (Rz (λ_=>rfl) a z)) id (by intro a m;cases m) h
theorem xW.vw(h:xW K kd F B G H v o fp):Vw K kd (Ra F B G o.kl) H v o.toD:=by
 cases h with
 |lf h=>exact h.vw
 |ls hH r=>
  rename_i a vs' os' fp';show Vw K kd (Ra F B G (if os'.all O.isLf=true then some _ else none)) H _ _
  by_cases e:os'.all O.isLf=true
  . rw[if_pos e];exact .lst (.inl (.inl hH)) (Qq r e)
  . rw[if_neg e];exact .lst (.inl (.inl hH)) (XD r)
 |dc hH l r=>
  rename_i a ks vs' os' fp';show Vw K kd (Ra F B G (if os'.all O.isLf=true then some _ else none)) H _ _
  by_cases e:os'.all O.isLf=true
  . rw[if_pos e];exact .dct (.inl (.inl hH)) (Uw (Qq r e) l)
  . rw[if_neg e];exact .dct (.inl (.inl hH)) (Uw (XD r) l)
 |ob hc hH l r=>
  rename_i a dx C c ns vs' os' fp';have ec:=hc.cl_eq;subst ec;show Vw K kd (Ra F B G (if os'.all O.isLf=true then some _ else none)) H _ _
  by_cases e:os'.all O.isLf=true
  . rw[if_pos e];exact .ob hH l (Qq r e)
  . rw[if_neg e];exact .ob hH l (XD r)
 |dt hH l r=>
  rename_i a ks vs' os' fp';show Vw K kd (Ra F B G (if os'.all O.isLf=true then some _ else none)) H _ _
  by_cases e:os'.all O.isLf=true
  . rw[if_pos e];exact .dt hH l (Qq r e)
  . rw[if_neg e];exact .dt hH l (XD r)
 |tp n hH r=>
  rename_i a vs' os';show Vw K kd (Ra F B G (if os'.all O.isLf=true then some _ else none)) H _ _
  by_cases e:os'.all O.isLf=true
  . rw[if_pos e];have rl:=Qq r e;exact .tup (.tup (λz=>n (Rz (λ_=>rfl) _ z)) hH rl) (.inl (.inl hH)) rl
  . rw[if_neg e];exact .tup (.tup (λz=>z) hH (XD r)) (.inl (.inl hH)) (XD r)
theorem xx.vw(R:Rel K kd F B [] ad as σ H)(h:xx K kd F B [] ad σ H v r)(e:r.view as=some (d,lv)):Vw K kd (Ra F B (Gw [] ad) lv) H v d:=by
 cases r with
 |ow o=>
  cases e;exact(Gc h).vw
 |bo i=>
  have e:(match as[i]? with|some (some o)=>some (o.toD,o.kl)|_=>none)=some (d,lv):=e;cases k:as[i]? with
  |none=>rw[k]at e;cases e
  |some s=>
   cases s with
   |none=>rw[k]at e;cases e
   |some o=>
    rw[k]at e;cases e;obtain⟨w,hw,ro⟩:=R.sl i _ k;rw[h.2]at hw;cases hw;exact ro.vw
def Rel.add(R:Rel K kd F B T ad as σ H)(hn:N.Nodup)(hl:∀a ∈ N,H a=none)(k:∀b u,H b=some u->H' b=some u)(h1:∀a ∈ N,H' a≠none):Rel K kd F B (N++T) ad as σ H'/\Grow (Gw T ad) H (Gw (N++T) ad) H':=by
 have g:Grow (Gw T ad) H (Gw (N++T) ad) H':=⟨λb u h _=>k b u h,λb h=>by
  rcases h with h|h
  . rcases zzM.mp h with h|h
    . exact .inr (hl b h)
    . exact .inl (.inl h)
  . exact .inl (.inr h)⟩
 have kn:∀a,H a≠none->H' a≠none:=λa z=>by
  cases e:H a with
  |none=>exact absurd e z
  |some u=>rw[k a u e];simp
 refine⟨⟨R.len,R.out,R.nd,R.inj, ?_,λi a m z=>?_,λa z=>kn a (R.ftr a z),λa z=>?_,λa z=>?_,λi s e=>(R.sl i s e).grow g λa _ u h=>k a u h⟩,g⟩
 . refine zxF.mpr ⟨hn,R.tnd,λa m b m' e=>?_⟩;subst e;exact(R.gtr a (.inl m')).1 (hl a m)
 . rcases zzM.mp z with z|z
   . exact(R.gtr a (.inr ⟨i,m⟩)).1 (hl a z)
   . exact R.dis i a m z
 . obtain⟨b1,b2,b3⟩:=R.btr a z;refine⟨kn a b1,b2,λy=>?_⟩
   rcases y with y|y
   . rcases zzM.mp y with y|y
     . exact b1 (hl a y)
     . exact b3 (.inl y)
   . exact b3 (.inr y)
 . rcases z with z|z
   . rcases zzM.mp z with z|z
     . exact⟨h1 a z,λf=>R.ftr a f (hl a z)⟩
     . exact⟨kn a (R.gtr a (.inl z)).1,(R.gtr a (.inl z)).2⟩
   . exact⟨kn a (R.gtr a (.inr z)).1,(R.gtr a (.inr z)).2⟩
def Rel.more(R:Rel K kd F B T ad as σ H)(k:∀b u,H b=some u->H' b=some u):Rel K kd F B T ad as σ H'/\Grow (Gw T ad) H (Gw T ad) H':=
 R.add zyJ (λ_ m=>nomatch m) k (λ_ m=>nomatch m)
def Rel.news(R:Rel K kd F B [] ad as σ H)(hn:T'.Nodup)(hl:∀a ∈ T',H a=none)(k:∀b u,H b=some u->H' b=some u)(h1:∀a ∈ T',H' a≠none):Rel K kd F B T' ad as σ H'/\Grow (Gw [] ad) H (Gw T' ad) H':=by
 have:=R.add hn hl k h1;rw[zyE]at this;exact this
end
inductive R0 where
 |im (d:D)|fl (ds:List D)|fd (kvs:List (Key×D))
def RQ(K:zzA)(kd:KD)(O:Addr->Prop)(H:Hp)(Q:VK):R0->Prop
 | .im d=>∀v H',(∀b o,H b=some o->H' b=some o)->Rp K kd O H' v d->Q v H'
 | .fl ds=>∀l vs H',H l=none->(∀b o,H b=some o->H' b=some o)->H' l=some (.lst vs)->RpL K kd (WU O (· = l)) H' vs ds->Q (.ref l) H'
 | .fd ds=>∀l vs H',H l=none->(∀b o,H b=some o->H' b=some o)->H' l=some (.dK vs)->RpM K kd (WU O (· = l)) H' vs ds->Q (.ref l) H'
noncomputable def wrap(lv:Option Bool):R0->Option RV
 | .im d=>if(zF d||lv.isSome)=true then some (.ow (N7 (lv.getD false) d))else none
 | .fl ds=>if(ds.all zF||lv.isSome)=true then some (.ow (.nd .ls (ds.map (N7 (lv.getD false)))))else none
 | .fd kvs=>if((kvs.map (·.2)).all zF||lv.isSome)=true then some (.ow (.nd (.dc (kvs.map (·.1))) ((kvs.map (·.2)).map (N7 (lv.getD false)))))else none
def bS_(h:o.bind f=some b):∃a,o=some a/\f a=some b:=by
 cases o with
 |none=>cases h
 |some a=>exact⟨a,rfl,h⟩
def ite_some'[Decidable c](h:(if c then a else none)=some b):c/\a=some b:=by
 by_cases hc:c
 . rw[if_pos hc]at h;exact⟨hc,h⟩
 . rw[if_neg hc]at h;cases h
def zx[Decidable c](h:(if c then some a else none)=some b):c/\a=b:=by
 by_cases hc:c
 . rw[if_pos hc]at h;cases h;exact⟨hc,rfl⟩
 . rw[if_neg hc]at h;cases h
section
variable{K:zzA}{kd:KD}{F B:Addr->Prop}{G:Addr->Prop}{ad:Ad}{as:AS}{σ:St}{H H':Hp}{v:V}{r:R0}{rv:RV}{Q:VK}{lv:Option Bool}
def CH(h:zF d=true\/lv.isSome=true)(hO:∀st,lv=some st->∀a,Lv F B G st a->Ob a)(rp:Rp K kd Ob H v d):Lf K kd F B G H (zF d||lv.getD false) v d:=by
 cases e:zF d with
 |true=>exact rp.flat e
 |false=>
  rw[e]at h;cases lv with
  |none=>rcases h with h|h<;>cases h
  |some st=>exact rp.less (hO st rfl)
def BX(hO:∀st,lv=some st->∀a,Lv F B G st a->Ob a)(e:(ds.all zF||lv.isSome)=true)(h:RpL K kd Ob H vs ds):RoL (Lf K kd F B G H) N H vs (ds.map (N7 (lv.getD false))) []:=
 RpL.ind (P:=λvs ds=>(ds.all zF||lv.isSome)=true->RoL (Lf K kd F B G H) N H vs (ds.map (N7 (lv.getD false))) []) (λ_=>.nil) (λ{v d vs ds} h _ ih e=>by
  rw[List.all_cons]at e;have e1:zF d=true\/lv.isSome=true:=by
   cases h1:lv.isSome<;>cases h2:zF d<;>simp[h1,h2]at e ⊢
  have e2:(ds.all zF||lv.isSome)=true:=by
   cases h1:lv.isSome with
   |true=>simp
   |false=>
    rw[h1,Bool.or_false,zyC]at e;rw[Bool.or_false];exact e.2
  exact RoL.cons (.lf (CH e1 hO h)) (ih e2)) h e
def Fm{O}{vs}{ds}(h:RpM K kd O H vs ds):vs=(ds.map (·.1)).zip (vs.map (·.2))/\RpL K kd O H (vs.map (·.2)) (ds.map (·.2)):=
 RpM.ind (P:=λvs ds=>vs=(ds.map (·.1)).zip (vs.map (·.2))/\RpL K kd O H (vs.map (·.2)) (ds.map (·.2))) ⟨rfl,.nil⟩ (λh _ ih=>by
  obtain⟨h1,h2⟩:=ih;refine⟨?_,.cons h h2⟩
  conv=>lhs;rw[h1]
  rfl) h
def Zp(R:Rel K kd F B [] ad as σ H)(e:wrap lv r=some rv)(q:∀v T' H',Rel K kd F B T' ad as σ H'->xx K kd F B T' ad σ H' v rv->Grow (Gw [] ad) H (Gw T' ad) H'->Q v H'):RQ K kd (Ra F B (Gw [] ad) lv) H Q r:=by
 have hO:∀(l:List Addr) st,lv=some st->∀a,Lv F B (Gw l ad) st a->WU (Ra F B (Gw [] ad) lv) (· ∈ l) a:=by
  intro l st e a z;subst e
  rcases z with z|z|z
  . exact .inl (.inl z)
  . exact .inr z
  . exact .inl (.inr (.inr z))
 cases r with
 |im d=>
  obtain⟨c,rfl⟩:=zx e;intro v H' k rp;obtain⟨R',g⟩:=R.more k;refine q v [] H' R' (.lf (CH ((Bool.or_eq_true _ _).mp c) (λst e a z=>?_) rp)) g;exact(hO [] st e a z).elim id λm=>nomatch m
 |fl ds=>
  obtain⟨c,rfl⟩:=zx e;intro l vs H' hl k hl' rp;obtain⟨R',g⟩:=R.news (T':=[l]) (by simp) (λa m=>by rw[zzR.mp m];exact hl) k (λa m=>by rw[zzR.mp m,hl'];simp);exact q _ [l] H' R' (.ls hl' (BX (λst e a z=>(hO [l] st e a z).elim .inl λm=>.inr (zzR.mp m)) c rp)) g
 |fd ds=>
  obtain⟨c,rfl⟩:=zx e;intro l vs H' hl k hl' rp;obtain⟨R',g⟩:=R.news (T':=[l]) (by simp) (λa m=>by rw[zzR.mp m];exact hl) k (λa m=>by rw[zzR.mp m,hl'];simp);obtain⟨e1,r1⟩:=Fm rp;refine q _ [l] H' R' (.dc (by rw[hl',<-e1]) (by rw[zzB,zzB,rp.length]) (BX (λst e a z=>(hO [l] st e a z).elim .inl λm=>.inr (zzR.mp m)) c r1)) g
end
abbrev EF:=AS->Option (RV×AS)
def al(K:zzA)(kd:KD)(f:EF):TE:=λσ H Q=>∃F B ad as r as',Rel K kd F B [] ad as σ H/\f as=some (r,as')/\
 ∀v T' ad' H',Rel K kd F B T' ad' as' σ H'->xx K kd F B T' ad' σ H' v r->Grow (Gw [] ad) H (Gw T' ad') H'->Q v H'
@[irreducible] def AE(X:Cx)(kd:KD)(e:Expr)(f:EF):Prop:=PE X e (al X.K kd f)
def yu(h:PE X e t)(k:∀σ H Q,t' σ H Q->t σ H Q):PE X e t':=λpins s σ H Q I q=>h pins s σ H Q I (k σ H Q q)
section
variable{K:zzA}{kd:KD}{F B:Addr->Prop}{ad:Ad}{as as1:AS}{σ:St}{H:Hp}{r:RV}{f:EF}{P:VK}
def vi(R:Rel K kd F B [] ad as σ H)(e:f as=some (r,as1))(k:∀v ad1 H1,Rel K kd F B [] ad1 as1 σ H1->xx K kd F B [] ad1 σ H1 v r.frz->Grow (Gw [] ad) H (Gw [] ad1) H1->P v H1):al K kd f σ H P:=
 ⟨F,B,ad,as,r,as1,R,e,λv T' ad' H' R' rv g=>k v ad' H' R'.drop (xx.drop R' rv) (g.trans (Grow.less Gw.drop))⟩
end
def J1(X:Cx)(kd:KD)(f:Value->Value->Sem Value)(g:D->D->Option R0):Prop:=
 Qd X f (λx y H Q=>∃O d e r,(∀a,O a->H a≠none)/\Vw X.K kd O H x d/\Vw X.K kd O H y e/\g d e=some r/\RQ X.K kd O H Q r)
inductive VwL(K:zzA)(kd:KD)(O:Addr->Prop)(H:Hp):List V->List D->Prop
 |nil:VwL K kd O H [] []
 |cons {v:V}{d:D}{vs:List V}{ds:List D}:Vw K kd O H v d->VwL K kd O H vs ds->VwL K kd O H (v::vs) (d::ds)
def Y6(X:Cx)(kd:KD)(f:Value)(g:List D->Option R0):Prop:=
 Wh X f (λxs H Q=>∃O ds r,(∀a,O a->H a≠none)/\VwL X.K kd O H xs ds/\g ds=some r/\RQ X.K kd O H Q r)
def qw(X:Cx)(kd:KD)(g:D->D->Option R0):Prop:=
 uF X (λx y H Q=>∃O d e r,(∀a,O a->H a≠none)/\Vw X.K kd O H x d/\Vw X.K kd O H y e/\g d e=some r/\RQ X.K kd O H Q r)
noncomputable def meet:Option Bool->Option Bool->Option Bool
 |some a,some b=>some (a&&b)
 |_,_=>none
def Ra.meet1:∀x,Ra F B G (meet a b) x->Ra F B G a x:=λx h=>by
 cases a with
 |none=>cases b<;>exact h.elim
 |some p=>
  cases b with
  |none=>exact h.elim
  |some q=>exact Rz (λz=>((zyC _ _).mp z).1) x h
def Ra.meet2:∀x,Ra F B G (meet a b) x->Ra F B G b x:=λx h=>by
 cases a with
 |none=>cases b<;>exact h.elim
 |some p=>
  cases b with
  |none=>exact h.elim
  |some q=>exact Rz (λz=>((zyC _ _).mp z).2) x h
theorem Vw.less{K}{kd}{O O'}{H}{v}{d}(g:∀a,O' a->O a)(h:Vw K kd O H v d):Vw K kd O' H v d:=by
 cases h with
 |non=>exact .non
 |bl b=>exact .bl b
 |int i=>exact .int i
 |str x=>exact .str x
 |tup r s l=>exact .tup (r.less g) s (l.less g)
 |lst h l=>exact .lst h (l.less g)
 |dct h l=>exact .dct h (l.less g)
 |cl c=>exact .cl c
 |ob h k l=>exact .ob h k (l.less g)
 |dt h k l=>exact .dt h k (l.less g)
 |er h k l=>exact .er h k (l.less g)
noncomputable def f2(fa fb:EF)(g:D->D->Option R0):EF:=λas=>(fa as).bind λp=>(fb p.2).bind λq=>(p.1.frz.view q.2).bind λx=>(q.1.frz.view q.2).bind λy=>(g x.1 y.1).bind λr=>(wrap (meet x.2 y.2) r).bind λz=>some (z,q.2)
def MC(h:f2 fa fb g as=some (rv,as')):
 ∃p as1 q x y lx ly r,fa as=some (p,as1)/\fb as1=some (q,as')/\p.frz.view as'=some (x,lx)/\q.frz.view as'=some (y,ly)/\g x y=some r/\wrap (meet lx ly) r=some rv:=by
 unfold f2 at h;obtain⟨⟨p,as1⟩,h1,h⟩:=bS_ h;obtain⟨⟨q,as2⟩,h2,h⟩:=bS_ h;obtain⟨⟨x,lx⟩,h3,h⟩:=bS_ h;obtain⟨⟨y,ly⟩,h4,h⟩:=bS_ h;obtain⟨r,h5,h⟩:=bS_ h;obtain⟨z,h6,h⟩:=bS_ h;cases h;exact⟨p,as1,q,x,y,lx,ly,r,h1,h2,h3,h4,h5,h6⟩
section
variable{X:Cx}{kd:KD}{a b c:Expr}{fa fb fc:EF}{pos:Pos}
def u4(hr:∀x y H Q,(∃O d e r,(∀a,O a->H a≠none)/\Vw X.K kd O H x d/\Vw X.K kd O H y e/\g d e=some r/\RQ X.K kd O H Q r)->R2' x y H Q)
 (h:al X.K kd (f2 fa fb g) σ H Q):D6 R2' (al X.K kd fa) (al X.K kd fb) σ H Q:=by
 obtain⟨F,B,ad,as,r,as',R,e,q⟩:=h;obtain⟨p,as1,z,x,y,lx,ly,r0,h1,h2,h3,h4,h5,h6⟩:=MC e;refine vi R h1 λv ad1 H1 R1 rv1 g1=>vi R1 h2 λu ad2 H2 R2 rv2 g2=>hr _ _ _ _ ?_;exact⟨_,x,y,r0,R2.tr _,(xx.vw R2 (rv1.grow g2) h3).less Ra.meet1,(xx.vw R2 rv2 h4).less Ra.meet2,h5,Zp R2 h6 λw T' H' R' rv' g'=>q w T' ad2 H' R' rv' ((g1.trans g2).trans g')⟩
def Bp(ho:J1 X kd (binaryOp op) g)(ha:AE X kd a fa)(hb':AE X kd b fb):AE X kd (.BinOp a op b pos) (f2 fa fb g):=by with_unfolding_all exact(yu (SL ho ha hb') λσ H Q h=>u4 (λ_ _ _ _ z=>z) h)
def Ac(ho:J1 X kd (compareOp op) g)(ha:AE X kd a fa)(hb':AE X kd b fb)(hm:behindInMarks op b=false):AE X kd (.Compare a [op] [b] pos) (f2 fa fb g):=by with_unfolding_all exact(yu (HF ho ha hb' hm) λσ H Q h=>u4 (λ_ _ _ _ z=>z) h)
def Du(ho:qw X kd g)(ha:AE X kd a fa)(hb':AE X kd b fb)(hm:wL b):AE X kd (.Subscript a b pos) (f2 fa fb g):=by with_unfolding_all exact(yu (Q8 ho ha hb' hm) λσ H Q h=>u4 (λ_ _ _ _ z=>z) h)
def fC(d:D):EF:=λas=>some (.ow (.lf true d),as)
noncomputable def fV(i:Nat):EF:=λas=>match as[i]? with
 |some (some (.lf st d))=>some (.ow (.lf st d),as)
 |some (some (.nd _ _))=>some (.bo i,as)
 |_=>none
def TM(h:PE X a (tC v))(hr:∀O H,Rp X.K kd O H v d):AE X kd a (fC d):=by with_unfolding_all exact(yu h λσ H Q h=>by
 obtain⟨F,B,ad,as,r,as',R,e,q⟩:=h;cases e;exact q v [] ad H R (.lf (hr _ _)) Grow.refl)
def J4(h:PE X a (ZS i)):AE X kd a (fV i):=by with_unfolding_all exact(yu h λσ H Q h=>by
 obtain⟨F,B,ad,as,r,as',R,e,q⟩:=h;unfold fV at e;cases k:as[i]? with
 |none=>rw[k]at e;cases e
 |some s=>
  rw[k]at e;cases s with
  |none=>cases e
  |some o=>
   obtain⟨v,h1,h2⟩:=R.sl i _ k;cases o with
   |lf st d=>
    cases e;have e0 : ad i=[]:=by
            generalize hfp:ad i=fp at h2;cases h2;rfl
    rw[e0]at h2;exact⟨v,h1,q v [] ad H R h2 Grow.refl⟩
   |nd kk os=>
    cases e;exact⟨_,h1,q _ [] ad H R ⟨rfl,h1⟩ Grow.refl⟩)
end
def yb(ad:Ad)(i:Nat)(x:List Addr):Ad:=λj=>if j=i then x else ad j
section
variable{K:zzA}{kd:KD}{F B:Addr->Prop}{T T1 T2:List Addr}{ad ad1:Ad}{as as1:AS}{σ:St}{H H1:Hp}{v:V}{r:RV}{o:O}{i:Nat}
def zl:yb ad i x i=x:=if_pos rfl
def zp(h:j≠i):yb ad i x j=ad j:=if_neg h
def yG:∀a,Gw T (yb ad i []) a->Gw T ad a:=λa h=>by
 rcases h with h|⟨j,h⟩
 . exact .inl h
 . by_cases e:j=i
   . subst e;rw[zl]at h;cases h
   . rw[zp e]at h;exact .inr ⟨j,h⟩
def vz:∀a,Gw [] (yb ad i T) a->Gw T ad a:=λa h=>by
 rcases h with h|⟨j,h⟩
 . cases h
 . by_cases e:j=i
   . subst e;rw[zl]at h;exact .inl h
   . rw[zp e]at h;exact .inr ⟨j,h⟩
def ML:∀st a,Lv F (λa=>B a\/a ∈ T) (Gw [] ad) st a->Lv F B (Gw T ad) st a:=λst a z=>by
 rcases z with(z|z|z)|z
 . exact .inl (.inl z)
 . exact .inl (.inr z)
 . exact .inr (.inl z)
 . exact .inr (Gw.drop a z)
def V2:∀st a,Lv F B (Gw (T1++T2) ad) st a->Lv F (λa=>B a\/a ∈ T1) (Gw T2 ad) st a:=λst a z=>by
 rcases z with(z|z)|z|z
 . exact .inl (.inl z)
 . exact .inl (.inr (.inl z))
 . rcases zzM.mp z with z|z
   . exact .inl (.inr (.inr z))
   . exact .inr (.inl z)
 . exact .inr (.inr z)
def Rel.hide(R:Rel K kd F B T ad as σ H):Rel K kd F (λa=>B a\/a ∈ T) [] ad as σ H where
 len:=R.len
 out:=R.out
 nd:=R.nd
 inj:=R.inj
 tnd:=zyJ
 dis:=λ_ _ _ z=>nomatch z
 ftr:=R.ftr
 btr:=λa h=>by
  rcases h with h|h
  . obtain⟨h1,h2,h3⟩:=R.btr a h;exact⟨h1,h2,λz=>h3 (Gw.drop a z)⟩
  . exact⟨(R.gtr a (.inl h)).1,(R.gtr a (.inl h)).2,λz=>z.elim (λm=>nomatch m) λ⟨j,y⟩=>R.dis j a y h⟩
 gtr:=λa h=>R.gtr a (Gw.drop a h)
 sl:=λi s e=>(R.sl i s e).lv ML
def Rel.unhide(hn:T1.Nodup)(hb:∀a ∈ T1,¬B a)(R:Rel K kd F (λa=>B a\/a ∈ T1) T2 ad as σ H):Rel K kd F B (T1++T2) ad as σ H where
 len:=R.len
 out:=R.out
 nd:=R.nd
 inj:=R.inj
 tnd:=zxF.mpr ⟨hn,R.tnd,λa m b m' e=>by subst e;exact(R.btr a (.inr m)).2.2 (.inl m')⟩
 dis:=λi a m z=>by
  rcases zzM.mp z with z|z
  . exact(R.btr a (.inr z)).2.2 (.inr ⟨i,m⟩)
  . exact R.dis i a m z
 ftr:=R.ftr
 btr:=λa h=>by
  obtain⟨h1,h2,h3⟩:=R.btr a (.inl h);refine⟨h1,h2,λz=>?_⟩
  rcases z with z|z
  . rcases zzM.mp z with z|z
    . exact hb a z h
    . exact h3 (.inl z)
  . exact h3 (.inr z)
 gtr:=λa h=>by
  rcases h with h|h
  . rcases zzM.mp h with h|h
    . exact⟨(R.btr a (.inr h)).1,(R.btr a (.inr h)).2.1⟩
    . exact R.gtr a (.inl h)
  . exact R.gtr a (.inr h)
 sl:=λi s e=>(R.sl i s e).lv V2
theorem Rel.frz(R:Rel K kd F B T ad as σ H)(h:as[i]? = some (some o)):
 Rel K kd F B T (yb ad i []) (as.set i (some o.frz)) σ H/\∃v,σ[i]? = some (some v)/\Rp K kd (Lv F B (Gw T (yb ad i [])) o.str) H v o.toD:=by
 obtain⟨v,hv,ro⟩:=R.sl i _ h;have rp:Rp K kd (Lv F B (Gw T (yb ad i [])) o.str) H v o.toD:=
  Ro.rp o.str (λst v d hs r=>r.less λa z=>z.elim (λy=>.inl (y.elim (λx=>.inl ⟨hs x.1,x.2⟩) .inr)) λy=>.inr (yG a y))
   (λa n z=>n (z.elim (λy=>.inl (y.elim (λx=>.inl ⟨rfl,x.2⟩) .inr)) λy=>.inr (yG a y))) id
   (λa m z=>by
    rcases z with(z|z)|z|⟨j,z⟩
    . exact(R.gtr a (.inr ⟨i,m⟩)).2 z.2
    . exact(R.btr a z).2.2 (.inr ⟨i,m⟩)
    . exact R.dis i a m z
    . by_cases e:j=i
      . subst e;rw[zl]at z;cases z
      . rw[zp e]at z;exact e (R.inj j i a z m)) ro
 have hi:=(zzG.mp h).1;refine⟨⟨by rw[zzU];exact R.len,λj hj=>?_,λj=>?_,λj k a h1 h2=>?_,R.tnd,λj a h1=>?_,R.ftr,λa h1=>?_,λa h1=>R.gtr a (yG a h1),λj s e=>?_⟩,v,hv,rp⟩
 . rw[zzU]at hj;rw[zp (by omega)];exact R.out j hj
 . by_cases e:j=i
   . subst e;rw[zl];exact zyJ
   . rw[zp e];exact R.nd j
 . by_cases e:j=i
   . subst e;rw[zl]at h1;cases h1
   . by_cases e':k=i
     . subst e';rw[zl]at h2;cases h2
     . rw[zp e]at h1;rw[zp e']at h2;exact R.inj j k a h1 h2
 . by_cases e:j=i
   . subst e;rw[zl]at h1;cases h1
   . rw[zp e]at h1;exact R.dis j a h1
 . obtain⟨b1,b2,b3⟩:=R.btr a h1;exact⟨b1,b2,λz=>b3 (yG a z)⟩
 . by_cases q:j=i
   . subst q;rw[zyK hi]at e;cases e;rw[zl];exact⟨v,hv,.lf rp⟩
   . rw[zzY (Ne.symm q)]at e;rw[zp q];exact(R.sl j s e).less yG
def Rel.put(R:Rel K kd F B T ad as σ H)(hi:i<as.length)(h:xW K kd F B (Gw T ad) H v o T):Rel K kd F B [] (yb ad i T) (as.set i (some o)) (σ.set i (some v)) H:=by
 have hi':i<σ.length:=by rw[<-R.len];exact hi
 refine⟨by rw[zzU,zzU];exact R.len,λj hj=>?_,λj=>?_,λj k a h1 h2=>?_,zyJ,(λ_ _ _ z=>nomatch z),R.ftr,λa h1=>?_,λa h1=>R.gtr a (vz a h1),λj s e=>?_⟩
 . rw[zzU]at hj;rw[zp (by omega)];exact R.out j hj
 . by_cases e:j=i
   . subst e;rw[zl];exact R.tnd
   . rw[zp e];exact R.nd j
 . by_cases e:j=i
   . subst e;rw[zl]at h1
     by_cases e':k=j
     . exact e'.symm
     . rw[zp e']at h2;exact(R.dis k a h2 h1).elim
   . rw[zp e]at h1
     by_cases e':k=i
     . subst e';rw[zl]at h2;exact(R.dis j a h1 h2).elim
     . rw[zp e']at h2;exact R.inj j k a h1 h2
 . obtain⟨b1,b2,b3⟩:=R.btr a h1;exact⟨b1,b2,λz=>b3 (vz a z)⟩
 . by_cases q:j=i
   . subst q;rw[zyK hi]at e;cases e;rw[zl,zyK hi'];exact⟨v,rfl,h.less vz⟩
   . rw[zzY (Ne.symm q)]at e;rw[zp q,zzY (Ne.symm q)];exact(R.sl j s e).less vz
noncomputable def Ow(as:AS):RV->Option (O×AS)
 | .ow o=>some (o,as)
 | .bo i=>match as[i]? with
  |some (some o)=>some (o.frz,as.set i (some o.frz))
  |_=>none
def RJ(R:Rel K kd F B T ad as σ H)(h:xx K kd F B T ad σ H v r)(e:Ow as r=some (o,as')):∃ad',Rel K kd F B T ad' as' σ H/\xW K kd F B (Gw T ad') H v o T/\∀a,Gw T ad' a->Gw T ad a:=by
 cases r with
 |ow o'=>cases e;exact⟨ad,R,h,λ_ z=>z⟩
 |bo i=>
  have e:(match as[i]? with|some (some o)=>some (o.frz,as.set i (some o.frz))|_=>none)=some (o,as'):=e;cases k:as[i]? with
  |none=>rw[k]at e;cases e
  |some s=>
   cases s with
   |none=>rw[k]at e;cases e
   |some o1=>
    rw[k]at e;cases e;obtain⟨hT,hs⟩:=h;subst hT;obtain⟨R',w,hw,rp⟩:=R.frz k;rw[hs]at hw;cases hw;exact⟨_,R',.lf rp,yG⟩
end
abbrev TF:=AS->Option (Bool×AS)
def OX(K:zzA)(kd:KD)(f:TF):TT:=λσ H Q=>∃F B ad as b as',Rel K kd F B [] ad as σ H/\f as=some (b,as')/\
 ∀ad' H',Rel K kd F B [] ad' as' σ H'->Grow (Gw [] ad) H (Gw [] ad') H'->Q b H'
@[irreducible] def AT(X:Cx)(kd:KD)(e:Expr)(f:TF):Prop:=PT X e (OX X.K kd f)
@[irreducible] def AW(X:Cx)(kd:KD)(e:Expr)(f:TF):Prop:=PW X e (OX X.K kd f)
noncomputable def truth:D->Option Bool
 | .non=>some false
 | .bl b=>some b
 | .int i=>some (i != 0)
 | .str x=>if x.length<=sizeLine then some ((x.length:Int) != 0)else none
 | .tup ds=>some (!ds.isEmpty)
 | .lst ds=>some (!ds.isEmpty)
 |_=>none
noncomputable def fT(f:EF):TF:=λas=>(f as).bind λp=>(p.1.frz.view p.2).bind λx=>(truth x.1).bind λb=>some (b,p.2)
noncomputable def Lq(f g:TF):TF:=λas=>(f as).bind λp=>if p.1=true then g p.2 else some (false,p.2)
noncomputable def Xl(f g:TF):TF:=λas=>(f as).bind λp=>if p.1=true then some (true,p.2)else g p.2
noncomputable def PR(f:TF):TF:=λas=>(f as).bind λp=>some (!p.1,p.2)
noncomputable def Ln:D->Option Int
 | .int i=>some i
 |_=>none
noncomputable def qA:D->Option Str
 | .str i=>some i
 |_=>none
noncomputable def IB:D->Option (List D)
 | .lst i=>some i
 |_=>none
noncomputable def t5:D->Option (List D)
 | .tup i=>some i
 |_=>none
def UV(e:IB d=some i):d = .lst i:=by
 cases d with
 |lst j=>cases e;rfl
 |_=>cases e
def FL(e:t5 d=some i):d = .tup i:=by
 cases d with
 |tup j=>cases e;rfl
 |_=>cases e
def TK(h:Ln d=some c):d = .int c:=by
 cases d with
 |int i=>cases h;rfl
 |_=>cases h
def Dm:D->Option Bool
 | .bl i=>some i
 |_=>none
def Ax(h:Dm d=some c):d = .bl c:=by
 cases d with
 |bl i=>cases h;rfl
 |_=>cases h
noncomputable def sW:RV->Option D
 | .ow (.lf _ d)=>some d
 |_=>none
def SU(h:sW r=some d):∃st,r = .ow (.lf st d):=by
 cases r with
 |bo i=>cases h
 |ow o=>
  cases o with
  |nd k os=>cases h
  |lf st d=>cases h;exact⟨st,rfl⟩
def rG(r:RV):Option Bool:=(sW r).bind Dm
def B3(h:rG r=some c):∃st,r = .ow (.lf st (.bl c)):=by
 obtain⟨d,h1,h⟩:=bS_ h;cases Ax h;exact SU h1
def qy(r:RV):Option Int:=(sW r).bind Ln
def AR(h:qy r=some c):∃st,r = .ow (.lf st (.int c)):=by
 obtain⟨d,h1,h⟩:=bS_ h;cases TK h;exact SU h1
def AV{α:Type}:List α->Option (α×α)
 | [a,b]=>some (a,b)
 |_=>none
def N5{α:Type}{os}{p:α×α}(h:AV os=some p):os=[p.1,p.2]:=by
 cases os with
 |nil=>cases h
 |cons x r=>
  cases r with
  |nil=>cases h
  |cons y r=>
   cases r with
   |nil=>cases h;rfl
   |cons _ _=>cases h
noncomputable def LC(f g:EF):EF:=λas=>(f as).bind λp=>(rG p.1).bind λc=>if c=true then g p.2 else some (.ow (.lf true (.bl false)),p.2)
noncomputable def uH(f g:EF):EF:=λas=>(f as).bind λp=>(rG p.1).bind λc=>if c=true then some (.ow (.lf true (.bl true)),p.2)else g p.2
noncomputable def f1(fa:EF)(g:D->Option R0):EF:=λas=>(fa as).bind λp=>(p.1.frz.view p.2).bind λx=>(g x.1).bind λr=>(wrap x.2 r).bind λz=>some (z,p.2)
section
variable{X:Cx}{kd:KD}{a b c:Expr}{fa fb:EF}{ta tb:TF}{pos:Pos}{es rest:List Expr}
def GL(h:PT X e t)(k:∀σ H Q,t' σ H Q->t σ H Q):PT X e t':=λpins s σ H Q I q=>h pins s σ H Q I (k σ H Q q)
def FF(h:PW X e t)(k:∀σ H Q,t' σ H Q->t σ H Q):PW X e t':=λw pins s σ H Q I q=>h w pins s σ H Q I (k σ H Q q)
def Jo{O}{H}{v}{d}{k}(h:Vw X.K kd O H v d)(e:truth d=some k):J_ X.K v H k:=by
 cases h with
 |non=>cases e;rfl
 |bl b=>cases e;rfl
 |int i=>cases e;rfl
 |str x=>
  have e:(if x.length<=sizeLine then some ((x.length:Int) != 0)else none)=some k:=e
  by_cases hl:x.length<=sizeLine
  . rw[if_pos hl]at e;cases e;exact⟨hl,rfl⟩
  . rw[if_neg hl]at e;cases e
 |tup r hs hr=>
  cases e;refine .inr (.inl ⟨_,hs, ?_⟩);cases hr<;>rfl
 |lst hs hr=>
  cases e;refine .inl ⟨_,hs.sq, ?_⟩;cases hr<;>rfl
 |dct=>cases e
 |cl=>cases e
 |ob=>cases e
 |dt=>cases e
 |er=>cases e
def vS(ha:AE X kd a fa)(he:∀whole,isTrue a X.env whole=(do let v <-whole;standAt a.pos;holding [v] (truthy v))):AT X kd a (fT fa):=by with_unfolding_all exact(GL (SB ha he) λσ H Q h=>by
 obtain⟨F,B,ad,as,bb,as',R,e,q⟩:=h;obtain⟨⟨p,as1⟩,h1,e⟩:=bS_ (e);obtain⟨⟨d,lv⟩,h2,e⟩:=bS_ e;obtain⟨k,h3,e⟩:=bS_ e;cases e;exact vi R h1 λv ad1 H1 R1 rv1 g1=>⟨_,Jo (xx.vw R1 rv1 h2) h3,q ad1 H1 R1 g1⟩)
def LW(ho:J1 X kd (compareOp op) g)(hg:∀x y r,g x y=some r->∃k,r = .im (.bl k))(ha:AE X kd a fa)(hb:AE X kd b fb)(hm:behindInMarks op b=false):
 AT X kd (.Compare a [op] [b] pos) (fT (f2 fa fb g)):=by with_unfolding_all exact(GL (M9 ho ha hb hm) λσ H Q h=>by
 obtain⟨F,B,ad,as,bb,as',R,e,q⟩:=h;obtain⟨⟨p,as1⟩,h1,e⟩:=bS_ (e);obtain⟨⟨d,lv⟩,h2,e⟩:=bS_ e;obtain⟨k,h3,e⟩:=bS_ e;cases e;obtain⟨_,_,_,x,y,_,_,r0,_,_,_,_,hp,hw⟩:=MC h1;obtain⟨k',rfl⟩:=hg _ _ _ hp;cases hw;cases h2;cases h3;refine u4 (λ_ _ _ _ z=>z) ⟨F,B,ad,as,_,_,R,h1,λv T' ad' H' R' rv g'=>?_⟩;generalize hT:T'=T2 at rv R' g';cases rv with
 |lf rp=>
  cases rp;exact⟨_,rfl,q ad' H' R' g'⟩)
def Bd(ha:AT X kd a ta):AT X kd (.UnaryOp .Not a pos) (PR ta):=by with_unfolding_all exact(GL (JR ha) λσ H Q h=>by
 obtain⟨F,B,ad,as,bb,as',R,e,q⟩:=h;obtain⟨⟨p,as1⟩,h1,e⟩:=bS_ (e);cases e;exact⟨F,B,ad,as,p,_,R,h1,λad' H' R' g=>q ad' H' R' g⟩)
def L_(ha:AT X kd a ta):AW X kd (.BoolOp .And [a] pos) ta:=by with_unfolding_all exact(O7 ha)
def Xx(ha:AT X kd a ta):AW X kd (.BoolOp .Or [a] pos) ta:=by with_unfolding_all exact(IS ha)
def Iz(ha:AT X kd a ta)(hb:AW X kd (.BoolOp .And (b::rest) pos) tb):AW X kd (.BoolOp .And (a::b::rest) pos) (Lq ta tb):=by with_unfolding_all exact(FF (JB ha hb) λσ H Q h=>by
 obtain⟨F,B,ad,as,bb,as',R,e,q⟩:=h;obtain⟨⟨p,as1⟩,h1,e⟩:=bS_ (e);refine⟨F,B,ad,as,p,as1,R,h1,λad' H' R' g=>?_⟩;cases p with
 |true=>exact⟨F,B,ad',as1,bb,as',R',e,λad2 H2 R2 g2=>q ad2 H2 R2 (g.trans g2)⟩
 |false=>cases e;exact q ad' H' R' g)
def QS(ha:AT X kd a ta)(hb:AW X kd (.BoolOp .Or (b::rest) pos) tb):AW X kd (.BoolOp .Or (a::b::rest) pos) (Xl ta tb):=by with_unfolding_all exact(FF (uE ha hb) λσ H Q h=>by
 obtain⟨F,B,ad,as,bb,as',R,e,q⟩:=h;obtain⟨⟨p,as1⟩,h1,e⟩:=bS_ (e);refine⟨F,B,ad,as,p,as1,R,h1,λad' H' R' g=>?_⟩;cases p with
 |false=>exact⟨F,B,ad',as1,bb,as',R',e,λad2 H2 R2 g2=>q ad2 H2 R2 (g.trans g2)⟩
 |true=>cases e;exact q ad' H' R' g)
def AW.at_(h:AW X kd e ta):AT X kd e ta:=by with_unfolding_all exact(PW.pt h)
def Cy{K}{F B}{T}{ad}{σ}{H}{v}{st c}(h:xx K kd F B T ad σ H v (.ow (.lf st (.bl c)))):T=[]/\v = .bl c:=by
 have h:=h;generalize hT:Gw T ad=G at h;cases h with
 |lf rp=>cases rp;exact⟨rfl,rfl⟩
def FD(ha:AE X kd a fa):AE X kd (.BoolOp op [a] pos) fa:=by with_unfolding_all exact(J9 ha)
def BD(ha:AE X kd a fa)(hb:AE X kd (.BoolOp .And (b::rest) pos) fb):AE X kd (.BoolOp .And (a::b::rest) pos) (LC fa fb):=by with_unfolding_all exact(yu (Jz ha hb) λσ H Q h=>by
 obtain⟨F,B,ad,as,r,as',R,e,q⟩:=h;obtain⟨⟨p,as1⟩,h1,e⟩:=bS_ (e);refine⟨F,B,ad,as,p,as1,R,h1,λv T' ad' H' R' rv g=>?_⟩;obtain⟨k,e1,e⟩:=bS_ e;obtain⟨st,rfl⟩:=B3 e1;obtain⟨rfl,rfl⟩:=Cy rv;cases k with
 |true=>exact⟨true,rfl,⟨F,B,ad',as1,r,as',R',e,λv T2 ad2 H2 R2 rv g2=>q v T2 ad2 H2 R2 rv (g.trans g2)⟩⟩
 |false=>
  cases e;exact⟨false,rfl,q _ [] ad' H' R' (.lf (.bl false)) g⟩)
def Dn(ha:AE X kd a fa)(hb:AE X kd (.BoolOp .Or (b::rest) pos) fb):AE X kd (.BoolOp .Or (a::b::rest) pos) (uH fa fb):=by with_unfolding_all exact(yu (DH ha hb) λσ H Q h=>by
 obtain⟨F,B,ad,as,r,as',R,e,q⟩:=h;obtain⟨⟨p,as1⟩,h1,e⟩:=bS_ (e);refine⟨F,B,ad,as,p,as1,R,h1,λv T' ad' H' R' rv g=>?_⟩;obtain⟨k,e1,e⟩:=bS_ e;obtain⟨st,rfl⟩:=B3 e1;obtain⟨rfl,rfl⟩:=Cy rv;cases k with
 |false=>exact⟨false,rfl,⟨F,B,ad',as1,r,as',R',e,λv T2 ad2 H2 R2 rv g2=>q v T2 ad2 H2 R2 rv (g.trans g2)⟩⟩
 |true=>
  cases e;exact⟨true,rfl,q _ [] ad' H' R' (.lf (.bl true)) g⟩)
end
abbrev AF:=AS->Option (List RV×AS)
inductive RVs(K:zzA)(kd:KD)(F B:Addr->Prop)(ad:Ad)(σ:St)(H:Hp):List V->List RV->Prop
 |nil:RVs K kd F B ad σ H [] []
 |cons {v:V}{r:RV}{vs:List V}{rs:List RV}:xx K kd F B [] ad σ H v r->RVs K kd F B ad σ H vs rs->RVs K kd F B ad σ H (v::vs) (r::rs)
def uZ(K:zzA)(kd:KD)(f:AF):TA:=λσ H Q=>∃F B ad as rs as',Rel K kd F B [] ad as σ H/\f as=some (rs,as')/\
 ∀vs ad' H',Rel K kd F B [] ad' as' σ H'->RVs K kd F B ad' σ H' vs rs->Grow (Gw [] ad) H (Gw [] ad') H'->Q vs H'
@[irreducible] def AA(X:Cx)(kd:KD)(es:List Expr)(f:AF):Prop:=PA X es (uZ X.K kd f)
def aN:AF:=λas=>some ([],as)
noncomputable def aC(fa:EF)(fr:AF):AF:=λas=>(fa as).bind λp=>(fr p.2).bind λq=>some (p.1.frz::q.1,q.2)
def GR(h:PA X e t)(k:∀σ H Q,t' σ H Q->t σ H Q):PA X e t':=λpos pins s σ H Q I q=>h pos pins s σ H Q I (k σ H Q q)
abbrev DF:=AS->Option (List O×AS)
def qm(K:zzA)(kd:KD)(f:DF):TA:=λσ H Q=>∃F B ad as os as',Rel K kd F B [] ad as σ H/\f as=some (os,as')/\
 ∀vs T' ad' H',Rel K kd F B T' ad' as' σ H'->xF K kd F B (Gw T' ad') H' vs os T'->Grow (Gw [] ad) H (Gw T' ad') H'->Q vs H'
@[irreducible] def AD(X:Cx)(kd:KD)(es:List Expr)(f:DF):Prop:=PA X es (qm X.K kd f)
def dN:DF:=λas=>some ([],as)
noncomputable def dC(fa:EF)(fr:DF):DF:=λas=>(fa as).bind λp=>(Ow p.2 p.1).bind λx=>(fr x.2).bind λq=>some (x.1::q.1,q.2)
noncomputable def views(as:AS):List RV->Option (List D×Option Bool)
 | []=>some ([],some true)
 |r::rs=>(r.view as).bind λx=>(views as rs).bind λy=>some (x.1::y.1,meet x.2 y.2)
noncomputable def fP(fr:AF)(g:List D->Option R0):EF:=λas=>(fr as).bind λp=>(views p.2 p.1).bind λx=>(g x.1).bind λr=>(wrap x.2 r).bind λz=>some (z,p.2)
noncomputable def uk(as:AS):RV->Option (Bool×D)
 | .ow o=>some (zF o.toD||o.str,o.toD)
 | .bo i=>match as[i]? with
  |some (some o)=>some (false,o.toD)
  |_=>none
noncomputable def w_(as:AS):List RV->Option (List (Bool×D))
 | []=>some []
 |r::rs=>(uk as r).bind λx=>(w_ as rs).bind λy=>some (x::y)
noncomputable def zt(fr:AF)(g:List (Bool×D)->Option O):EF:=λas=>(fr as).bind λp=>(w_ p.2 p.1).bind λx=>(g x).bind λo=>some (.ow o,p.2)
def tV(K:zzA)(kd:KD)(F:Addr->Prop)(H:Hp)(Q:VK)(o:O):Prop:=
 ∀v T H',T.Nodup->(∀a ∈ T,H a=none)->(∀b u,H b=some u->H' b=some u)->(∀a ∈ T,H' a≠none)->Ro (λ_ v d=>Rp K kd (WU F (· ∈ T)) H' v d) (λa=>¬WU F (· ∈ T) a) H' v o T->Q v H'
inductive RpA(K:zzA)(kd:KD)(F:Addr->Prop)(H:Hp):List V->List (Bool×D)->Prop
 |nil:RpA K kd F H [] []
 |cons {v:V}{st:Bool}{d:D}{vs:List V}{ds:List (Bool×D)}:Rp K kd (λa=>st=true/\F a) H v d->RpA K kd F H vs ds->RpA K kd F H (v::vs) ((st,d)::ds)
def Ft(K:zzA)(kd:KD)(g:List (Bool×D)->Option O):Sp:=λvs H Q _=>∃F ds o,(∀a,F a->H a≠none)/\RpA K kd F H vs ds/\g ds=some o/\tV K kd F H Q o
noncomputable def ZU(os:List O):O:=if os.all O.isLf=true then .lf (O.strs os) (.tup (O.toDs os))else .nd .tp os
noncomputable def yf(fr:DF):EF:=λas=>(fr as).bind λp=>if p.1.length<=sizeLine then some (.ow (ZU p.1),p.2)else none
noncomputable def yK(fr:DF):EF:=λas=>(fr as).bind λp=>if p.1.length<=sizeLine then some (.ow (.nd .ls p.1),p.2)else none
section
variable{X:Cx}{kd:KD}{a b c:Expr}{fa fb:EF}{ta tb:TF}{pos:Pos}{es rest:List Expr}{fr:AF}{fd:DF}
theorem RpA.length{K}{F}{H}{vs}{ds}(h:RpA K kd F H vs ds):vs.length=ds.length:=by
 induction h with
 |nil=>rfl
 |cons _ _ ih=>exact congrArg (· + 1) ih
def z_:AA X kd [] aN:=by with_unfolding_all exact(GR ZG λσ H Q h=>by
 obtain⟨F,B,ad,as,rs,as',R,e,q⟩:=h;cases e;exact q [] ad H R .nil Grow.refl)
def Hv(ha:AE X kd a fa)(hr:AA X kd es fr)(hs:starEach (a::es) X.env=(false,eval a X.env)::starEach es X.env):AA X kd (a::es) (aC fa fr):=by with_unfolding_all exact(GR (xg ha hr hs) λσ H Q h=>by
 obtain⟨F,B,ad,as,rs,as',R,e,q⟩:=h;obtain⟨⟨p,as1⟩,h1,e⟩:=bS_ (e);obtain⟨⟨z,as2⟩,h2,e⟩:=bS_ e;cases e;refine vi R h1 λv ad1 H1 R1 rv1 g1=>⟨F,B,ad1,as1,z,_,R1,h2,λvs ad2 H2 R2 rv2 g2=>?_⟩;exact q _ ad2 H2 R2 (.cons (rv1.grow g2) rv2) (g1.trans g2))
def yw:AD X kd [] dN:=by with_unfolding_all exact(GR ZG λσ H Q h=>by
 obtain⟨F,B,ad,as,rs,as',R,e,q⟩:=h;cases e;exact q [] [] ad H R .nil Grow.refl)
def HW(ha:AE X kd a fa)(hr:AD X kd es fd)(hs:starEach (a::es) X.env=(false,eval a X.env)::starEach es X.env):AD X kd (a::es) (dC fa fd):=by with_unfolding_all exact(GR (xg ha hr hs) λσ H Q h=>by
 obtain⟨F,B,ad,as,rs,as',R,e,q⟩:=h;obtain⟨⟨p,as1⟩,h1,e⟩:=bS_ (e);obtain⟨⟨o,as2⟩,h2,e⟩:=bS_ e;obtain⟨⟨os,as3⟩,h3,e⟩:=bS_ e;cases e;refine⟨F,B,ad,as,p,as1,R,h1,λv T1 ad1 H1 R1 rv1 g1=>?_⟩;obtain⟨ad2,R2,ro2,le2⟩:=RJ R1 rv1 h2;refine⟨F,_,ad2,as2,os,_,R2.hide,h3,λvs T3 ad3 H3 R3 ro3 g3=>?_⟩;have kT:=λa m u e=>g3.keep a u e λz=>z.elim (λy=>nomatch y) λ⟨i,y⟩=>R2.dis i a y m;have r1:=xW.lv V2 (xW.grow g3 kT (xW.lv ML ro2));have r3:=xF.lv V2 ro3;refine q _ (T1++T3) ad3 H3 (R3.unhide R2.tnd λa m z=>(R2.btr a z).2.2 (.inl m)) (.cons r1 r3) ((g1.trans (Grow.less le2)).trans ⟨λb u e n=>g3.keep b u e λz=>n (Gw.drop b z),λb z=>?_⟩)
 rcases z with z|z
 . rcases zzM.mp z with z|z
   . exact .inl (.inl z)
   . exact(g3.own b (.inl z)).elim (λy=>.inl (Gw.drop b y)) .inr
 . exact(g3.own b (.inr z)).elim (λy=>.inl (Gw.drop b y)) .inr)
def wJ(h:AD X kd es fd):AE X kd (.Tuple es x1 pos) (yf fd):=by with_unfolding_all exact(yu (JP h) λσ H Q h=>by
 obtain⟨F,B,ad,as,r,as',R,e,q⟩:=h;obtain⟨⟨os,as1⟩,h1,e⟩:=bS_ (e);obtain⟨hz,e⟩:=zx e;cases e;refine⟨F,B,ad,as,os,_,R,h1,λvs T1 ad1 H1 R1 ro1 g1=>⟨by rw[ro1.length];exact hz,λp hp=>?_⟩⟩;have k:∀b o,H1 b=some o->upd H1 p (.tup vs) b=some o:=λb o hb=>by rw[zr (zO hb hp)];exact hb
 obtain⟨R2,g2⟩:=R1.more k;have ro2:=xF.grow g2 (λa _ u h=>k a u h) ro1;have np:=λst z=>R1.trk st p z hp;refine q _ T1 ad1 _ R2 ?_ (g1.trans g2);unfold ZU
 by_cases hl:os.all O.isLf=true
 . rw[if_pos hl];have:=FY ro2 hl;subst this;exact .lf (.tup (np _) zA (Qq ro2 hl))
 . rw[if_neg hl];exact .tp (np _) zA ro2)
def Yo(h:AD X kd es fd):AE X kd (.List es pos) (yK fd):=by with_unfolding_all exact(yu (IE h) λσ H Q h=>by
 obtain⟨F,B,ad,as,r,as',R,e,q⟩:=h;obtain⟨⟨os,as1⟩,h1,e⟩:=bS_ (e);obtain⟨hz,e⟩:=zx e;cases e;refine⟨F,B,ad,as,os,_,R,h1,λvs T1 ad1 H1 R1 ro1 g1=>⟨by rw[ro1.length];exact hz,λp hp=>?_⟩⟩;have k:∀b o,H1 b=some o->upd H1 p (.lst vs) b=some o:=λb o hb=>by rw[zr (zO hb hp)];exact hb
 obtain⟨R2,g2⟩:=R1.add (N:=[p]) (by simp) (λa m=>by rw[zzR.mp m];exact hp) k (λa m=>by rw[zzR.mp m,zA];simp);exact q _ _ ad1 _ R2 (.ls zA (xF.grow g2 (λa _ u h=>k a u h) ro1)) (g1.trans g2))
theorem VwL.less{K}{O O'}{H}(g:∀a,O' a->O a){vs}{ds}(h:VwL K kd O H vs ds):VwL K kd O' H vs ds:=by
 induction h with
 |nil=>exact .nil
 |cons h _ ih=>exact .cons (h.less g) ih
def Yv{K}{F B}{ad}{as}{σ}{H}(R:Rel K kd F B [] ad as σ H){vs}{rs}{ds}{lv}(h:RVs K kd F B ad σ H vs rs)(e:views as rs=some (ds,lv)):VwL K kd (Ra F B (Gw [] ad) lv) H vs ds:=by
 induction h generalizing ds lv with
 |nil=>cases e;exact .nil
 |cons h t ih=>
  obtain⟨⟨d,l⟩,h1,e⟩:=bS_ (e);obtain⟨⟨ds,l2⟩,h2,e⟩:=bS_ e;cases e;exact .cons ((xx.vw R h h1).less Ra.meet1) ((ih h2).less Ra.meet2)
def qo{g}{σ}{H}{Q}{R':List V->Hp->VK->Prop}(hr:∀vs H Q,(∃O ds r,(∀a,O a->H a≠none)/\VwL X.K kd O H vs ds/\g ds=some r/\RQ X.K kd O H Q r)->R' vs H Q)
 (h:al X.K kd (fP fr g) σ H Q):uZ X.K kd fr σ H λvs H1=>R' vs H1 Q:=by
 obtain⟨F,B,ad,as,r,as',R,e,q⟩:=h;obtain⟨⟨p,as1⟩,h1,e⟩:=bS_ (e);obtain⟨⟨ds,lv⟩,h2,e⟩:=bS_ e;obtain⟨z,h3,e⟩:=bS_ e;obtain⟨y,h4,e⟩:=bS_ e;cases e;exact⟨F,B,ad,as,p,_,R,h1,λvs ad1 H1 R1 rv1 g1=>hr _ _ _ ⟨_,ds,z,R1.tr _,Yv R1 rv1 h2,h3,Zp R1 h4 λw T' H' R' rv' g'=>q w T' ad1 H' R' rv' (g1.trans g')⟩⟩
def Tn{K}{F B}{ad}{as}{σ}{H}(R:Rel K kd F B [] ad as σ H){vs}{rs}{ds}(h:RVs K kd F B ad σ H vs rs)(e:w_ as rs=some ds):RpA K kd (Lv F B (Gw [] ad) true) H vs ds:=by
 induction h generalizing ds with
 |nil=>cases e;exact .nil
 |cons h t ih=>
  rename_i v r vs rs;obtain⟨⟨st,d⟩,h1,e⟩:=bS_ (e);obtain⟨ds,h2,e⟩:=bS_ e;cases e;refine .cons ?_ (ih h2);cases r with
  |ow o=>
   cases h1;cases hf:zF o.toD with
   |true=>exact(Gm h).flat hf
   |false=>
    refine(Gc h).less λa z=>?_;have zs:o.str=true:=z.1;rw[zs];exact z.2
  |bo i=>
   have e:(match as[i]? with|some (some o)=>some (false,o.toD)|_=>none)=some (st,d):=h1;cases k:as[i]? with
   |none=>rw[k]at e;cases e
   |some s=>
    cases s with
    |none=>rw[k]at e;cases e
    |some o=>
     rw[k]at e;cases e;obtain⟨w,hw,ro⟩:=R.sl i _ k;rw[h.2]at hw;cases hw;exact(Gm ro).less λa z=>nomatch z.1
def Bc{K}{F B}{ad}{as}{σ}{H}{Q}{o}(R:Rel K kd F B [] ad as σ H)(q:∀v T' H',Rel K kd F B T' ad as σ H'->xx K kd F B T' ad σ H' v (.ow o)->Grow (Gw [] ad) H (Gw T' ad) H'->Q v H'):
 tV K kd (Lv F B (Gw [] ad) true) H Q o:=λv T H' hn hl k h1 ro=>by
 obtain⟨R',g⟩:=R.news hn hl k h1;have le:∀st a,Lv F B (Gw T ad) st a->WU (Lv F B (Gw [] ad) true) (· ∈ T) a:=λst a z=>by
  rcases z with(z|z)|z|z
  . exact .inl (.inl (.inl ⟨rfl,z.2⟩))
  . exact .inl (.inl (.inr z))
  . exact .inr z
  . exact .inl (.inr (.inr z))
 exact q v T H' R' (Ro.mono (λst v d r=>r.less (le st)) (λa vs n e=>⟨λz=>n (le true a z),e⟩) (λ_ _ _ e=>e) ro) g
def IP(h:al X.K kd (zt fr g) σ H Q):Cq (Ft X.K kd g) [] E (uZ X.K kd fr) σ H Q:=by
 obtain⟨F,B,ad,as,r,as',R,e,q⟩:=h;obtain⟨⟨p,as1⟩,h1,e⟩:=bS_ (e);obtain⟨ds,h2,e⟩:=bS_ e;obtain⟨o,h3,e⟩:=bS_ e;cases e;refine⟨F,B,ad,as,p,_,R,h1,λvs ad1 H1 R1 rv1 g1=>?_⟩;show Ft X.K kd g _ H1 Q E;rw[zyE];exact⟨_,ds,o,R1.trk true,Tn R1 rv1 h2,h3,Bc R1 λw T' H' R' rv' g'=>q w T' ad1 H' R' rv' (g1.trans g')⟩
end
inductive Out where
 |nx (as:AS)|rt (o:O)|bk (as:AS)|ct (as:AS)
abbrev SF:=AS->Option Out
structure RetOk(K:zzA)(kd:KD)(F:Addr->Prop)(T:List Addr)(H:Hp)(v:V)(o:O):Prop where
 nd:T.Nodup
 tr:∀a ∈ T,H a≠none
 ro:Ro (λ_ v d=>Rp K kd (WU F (· ∈ T)) H v d) (λa=>¬WU F (· ∈ T) a) H v o T
def PU(K:zzA)(kd:KD)(F B:Addr->Prop)(ad:Ad)(H:Hp)(D:Ends):Out->Prop
 | .nx as'=>∀σ' ad' H',Rel K kd F B [] ad' as' σ' H'->Grow (Gw [] ad) H (Gw [] ad') H'->D.nx σ' H'
 | .bk as'=>∀σ' ad' H',Rel K kd F B [] ad' as' σ' H'->Grow (Gw [] ad) H (Gw [] ad') H'->D.bk σ' H'
 | .ct as'=>∀σ' ad' H',Rel K kd F B [] ad' as' σ' H'->Grow (Gw [] ad) H (Gw [] ad') H'->D.ct σ' H'
 | .rt o=>∀v T H',RetOk K kd F T H' v o->Grow (Gw [] ad) H (· ∈ T) H'->D.rt v H'
def be(K:zzA)(kd:KD)(f:SF):TS:=λD σ H=>∃F B ad as o,Rel K kd F B [] ad as σ H/\f as=some o/\PU K kd F B ad H D o
@[irreducible] def QK(X:Cx)(kd:KD)(st:Stmt)(f:SF):Prop:=PS X st (be X.K kd f)
@[irreducible] def TU(X:Cx)(kd:KD)(st:List Stmt)(f:SF):Prop:=Tb X st (be X.K kd f)
def yE(h:PS X e t)(k:∀D σ H,t' D σ H->t D σ H):PS X e t':=λpins s σ H D I q=>h pins s σ H D I (k D σ H q)
def XJ(h:Tb X e t)(k:∀D σ H,t' D σ H->t D σ H):Tb X e t':=λpins s σ H D I q=>h pins s σ H D I (k D σ H q)
def PU.pre{K}{kd}{F B}{ad ad1}{H H1}{D}{o}(g:Grow (Gw [] ad) H (Gw [] ad1) H1)(h:PU K kd F B ad H D o):PU K kd F B ad1 H1 D o:=by
 cases o with
 |nx as=>exact λσ' ad' H' R g'=>h σ' ad' H' R (g.trans g')
 |bk as=>exact λσ' ad' H' R g'=>h σ' ad' H' R (g.trans g')
 |ct as=>exact λσ' ad' H' R g'=>h σ' ad' H' R (g.trans g')
 |rt r=>exact λv T H' R g'=>h v T H' R (g.trans g')
noncomputable def wc:SF:=λas=>some (.nx as)
noncomputable def zg(f g:SF):SF:=λas=>(f as).bind λo=>match o with | .nx as'=>g as'|o=>some o
noncomputable def xr(c:TF)(f g:SF):SF:=λas=>(c as).bind λp=>if p.1=true then f p.2 else g p.2
noncomputable def yq(f:EF):SF:=λas=>(f as).bind λp=>some (.nx p.2)
noncomputable def BI(as:AS):RV->Option O
 | .ow o=>if o.str=true then some o else none
 | .bo i=>match as[i]? with
  |some (some o)=>if o.str=true then some o else none
  |_=>none
noncomputable def zY(f:EF):SF:=λas=>(f as).bind λp=>(BI p.2 p.1).bind λo=>some (.rt o)
noncomputable def zo(z:Bool)(i:Nat)(f:EF):SF:=λas=>(f as).bind λp=>(Ow p.2 (if z=true then p.1.frz else p.1)).bind λx=>if i<x.2.length then some (.nx (x.2.set i (some x.1)))else none
def Ro.strong(h:Ro L N H v o fp)(e:o.str=true):Ro (λst v d=>st=true/\L st v d) N H v o fp:=
 Ro.rec (motive_2:=λvs os fp _=>O.strs os=true->RoL (λst v d=>st=true/\L st v d) N H vs os fp)
  (λh e=>.lf ⟨e,h⟩) (λh _ r e=>.ls h (r e)) (λh l _ r e=>.dc h l (r e)) (λc h l _ r e=>.ob ⟨rfl,c⟩ h l (r e)) (λh l _ r e=>.dt h l (r e)) (λn h _ r e=>.tp n h (r e)) (λ_=>.nil) (λ_ _ h r e=>.cons (h ((zyC _ _).mp e).1) (r ((zyC _ _).mp e).2)) h e
section
variable{K:zzA}{kd:KD}{F B:Addr->Prop}{T:List Addr}{ad ad1:Ad}{as as1:AS}{σ:St}{H H1:Hp}{v:V}{r:RV}{o:O}
def LH(R:Rel K kd F B T ad as σ H)(hn:T'.Nodup)(hs:∀a ∈ T',Gw T ad a)(h:xW K kd F B (Gw T ad) H v o T')(e:o.str=true):RetOk K kd F T' H v o:=by
 have le:∀a,WU F (· ∈ T') a->Lv F B (Gw T ad) true a:=λa z=>z.elim (λy=>.inl (.inl ⟨rfl,y⟩)) λy=>.inr (hs a y);exact⟨hn,λa m=>(R.gtr a (hs a m)).1,Ro.mono (λst v d r=>by obtain⟨rfl,r⟩:=r;exact r.less le) (λa vs n e=>⟨λz=>n (le a z),e⟩) (λ_ _ _ e=>e) (Ro.strong h e)⟩
def Rel.ret(R:Rel K kd F B T ad as σ H)(hr:xx K kd F B T ad σ H v r)(e:BI as r=some o):∃T',RetOk K kd F T' H v o/\∀b ∈ T',Gw T ad b:=by
 cases r with
 |ow o'=>
  obtain⟨hs,rfl⟩:=zx e;exact⟨T,LH R R.tnd (λa m=>.inl m) hr hs,λa m=>.inl m⟩
 |bo i=>
  have e:(match as[i]? with|some (some o)=>if o.str=true then some o else none|_=>none)=some o:=e;cases k:as[i]? with
  |none=>rw[k]at e;cases e
  |some s=>
   cases s with
   |none=>rw[k]at e;cases e
   |some o1=>
    rw[k]at e;obtain⟨hs,rfl⟩:=zx e;obtain⟨w,hw,ro⟩:=R.sl i _ k;rw[hr.2]at hw;cases hw;exact⟨ad i,LH R (R.nd i) (λa m=>.inr ⟨i,m⟩) ro hs,λa m=>.inr ⟨i,m⟩⟩
end
section
variable{X:Cx}{kd:KD}{st:Stmt}{sts rest:List Stmt}{a b c e:Expr}{fa fb:EF}{ta:TF}{pos:Pos}{f g:SF}
def Yg:TU X kd [] wc:=by with_unfolding_all exact(XJ Uv λD σ H h=>by
 obtain⟨F,B,ad,as,o,R,e,q⟩:=h;cases e;exact q σ ad H R Grow.refl)
def zV(h1:QK X kd st f)(h2:TU X kd rest g):TU X kd (st::rest) (zg f g):=by with_unfolding_all exact(XJ (ZZ h1 h2) λD σ H h=>by
 obtain⟨F,B,ad,as,o,R,e,q⟩:=h;obtain⟨o1,e1,e⟩:=bS_ (show(f as).bind _=_ from e);refine⟨F,B,ad,as,o1,R,e1, ?_⟩;cases o1 with
 |nx as1=>exact λσ' ad' H' R' g'=>⟨F,B,ad',as1,o,R',e,q.pre g'⟩
 |bk as1=>cases e;exact q
 |ct as1=>cases e;exact q
 |rt r=>cases e;exact q)
def zT(h1:QK X kd st f):TU X kd [st] f:=by with_unfolding_all exact(Uu h1)
def qt:SF:=λ_=>none
def uP:QK X kd st qt:=by with_unfolding_all exact(λpins s σ H D I h=>by obtain⟨F,B,ad,as,o,R,e,q⟩:=h;cases e)
def Wx(hc:AT X kd c ta)(ha:TU X kd sts f)(hb:TU X kd rest g):QK X kd (.If c sts rest pos) (xr ta f g):=by with_unfolding_all exact(yE (MO hc ha hb) λD σ H h=>by
 obtain⟨F,B,ad,as,o,R,e,q⟩:=h;obtain⟨⟨p,as1⟩,h1,e⟩:=bS_ (show(ta as).bind _=_ from e);refine⟨F,B,ad,as,p,as1,R,h1,λad' H' R' g=>?_⟩;cases p with
 |true=>exact⟨F,B,ad',as1,o,R',e,q.pre g⟩
 |false=>exact⟨F,B,ad',as1,o,R',e,q.pre g⟩)
def XG(he:AE X kd e fa)(hs:swapsWith e none pos.line X.env=pure false):QK X kd (.Expr e pos) (yq fa):=by with_unfolding_all exact(yE (Xv he hs) λD σ H h=>by
 obtain⟨F,B,ad,as,o,R,e,q⟩:=h;obtain⟨⟨p,as1⟩,h1,e⟩:=bS_ (show(fa as).bind _=_ from e);cases e;exact⟨F,B,ad,as,p,as1,R,h1,λv T' ad' H' R' rv g=>q σ ad' H' R'.drop (g.trans (Grow.less Gw.drop))⟩)
def wZ(he:AE X kd e fa):QK X kd (.Return (some e) pos) (zY fa):=by with_unfolding_all exact(yE (JZ he) λD σ H h=>by
 obtain⟨F,B,ad,as,o,R,e,q⟩:=h;obtain⟨⟨p,as1⟩,h1,e⟩:=bS_ (show(fa as).bind _=_ from e);obtain⟨r,h2,e⟩:=bS_ e;cases e;refine⟨F,B,ad,as,p,as1,R,h1,λv T' ad' H' R' rv g=>?_⟩;obtain⟨T2,ro,le⟩:=R'.ret rv h2;exact q v T2 H' ro (g.trans (Grow.less le)))
def Gy{K}{F B}{T}{ad}{as as2}{σ}{H}{v}{r}{z}{o}{i:Nat}(R:Rel K kd F B T ad as σ H)(rv:xx K kd F B T ad σ H v r)
 (h2:Ow as (if z=true then r.frz else r)=some (o,as2)) (hl:i<as2.length):∃ad',Rel K kd F B [] ad' (as2.set i (some o)) (σ.set i (some v)) H/\∀a,Gw [] ad' a->Gw T ad a:=by
 cases z with
 |true=>
  obtain⟨ad1,R1,ro,le⟩:=RJ R.drop (xx.drop R rv) h2;exact⟨_,R1.put hl ro,λa y=>Gw.drop a (le a (vz a y))⟩
 |false=>
  obtain⟨ad1,R1,ro,le⟩:=RJ R rv h2;exact⟨_,R1.put hl ro,λa y=>le a (vz a y)⟩
def Fx(hN:X.N.Nodup)(hi:X.N[i]? = some x)(hx:Loc X.env.scope x)(he:AE X kd e fa)(hs:swapsWith e (some (.Name x pos')) pos.line X.env=pure false)(hf:X.fn x=true\/X.env.scope.names.lookup x=some .local):
 QK X kd (.Assign [.Name x pos'] e pos) (zo z i fa):=by with_unfolding_all exact(yE (NS hN hi hx he hs hf) λD σ H h=>by
 obtain⟨F,B,ad,as,o,R,e,q⟩:=h;obtain⟨⟨p,as1⟩,h1,e⟩:=bS_ (show(fa as).bind _=_ from e);obtain⟨⟨y,as2⟩,h2,e⟩:=bS_ e;obtain⟨hl,e⟩:=zx e;cases e;refine⟨F,B,ad,as,p,as1,R,h1,λv T' ad' H' R' rv g=>?_⟩;obtain⟨ad2,R2,le⟩:=Gy R' rv h2 hl;exact q _ ad2 H' R2 (g.trans (Grow.less le)))
end
noncomputable def yk(n:Nat)(ds:List (Bool×D)):AS:=ds.map (λx=>some (.lf x.1 x.2))++List.replicate (n-ds.length) none
noncomputable def sR:Out->Option O
 | .nx _=>some (.lf true .non)
 | .rt o=>some o
 |_=>none
noncomputable def vP(n m:Nat)(f:SF)(ds:List (Bool×D)):Option O:=if ds.length=m then(f (yk n ds)).bind sR else none
theorem RpA.get{K}{kd}{F}{H}:∀{vs:List V}{ds:List (Bool×D)}{i:Nat}{x:Bool×D},RpA K kd F H vs ds->ds[i]? = some x->∃v,vs[i]? = some v/\Rp K kd (λa=>x.1=true/\F a) H v x.2
 |_,_,_,_,.nil,e=>by simp at e
 |_,_,0,_,.cons h _,e=>by simp at e;subst e;exact⟨_,rfl,h⟩
 |_,_,i+1,_,.cons _ r,e=>by
  obtain⟨v,h1,h2⟩:=RpA.get (i:=i) r (by simpa using e);exact⟨v,by simpa using h1,h2⟩
def XT{K}{kd}{F}{H}{N}{vs}{ds}(ht:∀a,F a->H a≠none)(rp:RpA K kd F H vs ds):
 Rel K kd F (λ_=>False) [] (λ_=>[]) (yk N.length ds) (L2.start N vs) H:=by
 have hl:=rp.length;have no:∀a,¬Gw [] (λ_=>[]) a:=λa z=>z.elim (λy=>nomatch y) λ⟨_,y⟩=>nomatch y;refine⟨by unfold yk L2.start;simp[hl],λ_ _=>rfl,λ_=>zyJ,(λ_ _ _ z=>nomatch z),zyJ,(λ_ _ _ z=>nomatch z),ht,(λ_ z=>z.elim),λa z=>(no a z).elim,λi s e=>?_⟩;unfold yk at e;unfold L2.start
 by_cases hi:i<ds.length
 . rw[zyP (by rw[zzB];exact hi),zzI]at e;obtain⟨d,hd,ea⟩:=zzX.mp e;subst ea;obtain⟨v,hv,rv⟩:=rp.get hd;rw[zyP (by rw[zzB,hl];exact hi),zzI,hv];refine⟨v,rfl,.lf (rv.less λa z=>?_)⟩
   rcases z with(z|z)|z
   . exact z
   . exact z.elim
   . exact(no a z).elim
 . rw[zyR (by rw[zzB];omega)]at e;have:=zyA e;have ea:=(List.mem_replicate.mp this).2;subst ea;rfl
section
variable{P:Program}{w:World}{K:zzA}{mg:Str->Option Value}{base:Heap}
def Gz(q:tV K kd F H Q o)(ro:RetOk K kd F T H' v o)(g:Grow (Gw [] λ_=>[]) H (· ∈ T) H'):Q v H':=by
 have no:∀a,¬Gw [] (λ_=>[]) a:=λa z=>z.elim (λy=>nomatch y) λ⟨_,y⟩=>nomatch y;exact q v T H' ro.nd (λa m=>(g.own a m).resolve_left (no a)) (λb u h=>g.keep b u h (no b)) ro.tr ro.ro
def Dq{kd}{x qual}{st}{f}{fd}{N ps}{k:Nat}{c}(Fn:Fun K x qual st f fd)(S:FnScope N ps (zd st))
 (hb:∀(cdv:Value) (A:Around) (outer:List Env) (s:Shared) (H:Hp) (E:XK),Room k (A.deeper (envOfC qual (zd st) s.heap.objs.size f cdv))->TU (Zc U2 P w K mg base N qual (zd st) f cdv A outer s H E).nox kd (wu st) c):
 FnOk P w K mg base U2 (k+1) f fd ps (Ft K kd (vP N.length ps.length c)):=by
 with_unfolding_all (
 refine Fn.ok S (λvs H Q E h=>?_) (λcdv A outer s H vs Q E hr h=>⟨_,hb cdv A outer s H E hr, ?_⟩)
 . obtain⟨F,ds,r,_,rp,e,_⟩:=h;unfold vP at e
   by_cases hl:ds.length=ps.length
   . rw[rp.length,hl]
   . rw[if_neg hl]at e;cases e
 . obtain⟨F,ds,r,ht,rp,e,q⟩:=h;unfold vP at e
   by_cases hl:ds.length=ps.length
   . rw[if_pos hl]at e;obtain⟨o,e1,e⟩:=bS_ e;refine⟨F,λ_=>False,λ_=>[],yk N.length ds,o,XT ht rp,e1, ?_⟩;cases o with
     |nx as=>cases e;exact λσ' ad' H' R g=>Gz q (T:=[]) ⟨zyJ,(λ_ m=>nomatch m),.lf .non⟩ (g.trans (Grow.less (λ_ z=>nomatch z)))
     |rt o=>cases e;exact λv T H' ro g=>Gz q ro g
     |bk=>cases e
     |ct=>cases e
   . rw[if_neg hl]at e;cases e)
end
abbrev Yt:=Bool×D
abbrev GF:=Yt->AS->Option AS
abbrev Cu:=List Yt->AS->Option AS
def kids(st:Bool)(ds:List D):List Yt:=ds.map λd=>(zF d||st,d)
inductive RpI(K:zzA)(kd:KD)(F B G:Addr->Prop)(H:Hp):List V->List Yt->Prop
 |nil:RpI K kd F B G H [] []
 |cons {v:V}{x:Yt}{vs:List V}{ds:List Yt}:Rp K kd (Lv F B G x.1) H v x.2->RpI K kd F B G H vs ds->RpI K kd F B G H (v::vs) (x::ds)
def u7(K:zzA)(kd:KD)(S:List Nat)(g:GF):TG:=λv σ H Q=>∃F B ad as x as',Rel K kd F B [] ad as σ H/\Rp K kd (Lv F B (Gw [] ad) x.1) H v x.2/\g x as=some as'/\
 ∀σ' ad' H',Rel K kd F B [] ad' as' σ' H'->Grow (Gw [] ad) H (Gw [] ad') H'->(∀j,j ∉ S->σ'[j]? = σ[j]?)->Q σ' H'
def tN(K:zzA)(kd:KD)(S:List Nat)(g:Cu):Cz:=λvs σ H Q=>∃F B ad as ds as',Rel K kd F B [] ad as σ H/\RpI K kd F B (Gw [] ad) H vs ds/\g ds as=some as'/\
 ∀σ' ad' H',Rel K kd F B [] ad' as' σ' H'->Grow (Gw [] ad) H (Gw [] ad') H'->(∀j,j ∉ S->σ'[j]? = σ[j]?)->Q σ' H'
@[irreducible] def AG(X:Cx)(kd:KD)(tg:Expr)(S:List Nat)(g:GF):Prop:=PG X tg (u7 X.K kd S g)
@[irreducible] def CP(X:Cx)(kd:KD)(tg:List Expr)(S:List Nat)(g:Cu):Prop:=Fu X tg (tN X.K kd S g)
def Jr(h:PG X e t)(k:∀v σ H Q,t' v σ H Q->t v σ H Q):PG X e t':=λpins s σ H v u Q I r q=>h pins s σ H v u Q I r (k v σ H Q q)
def Mo(h:Fu X e t)(k:∀v σ H Q,t' v σ H Q->t v σ H Q):Fu X e t':=λpins s σ H v u Q I r q=>h pins s σ H v u Q I r (k v σ H Q q)
noncomputable def gN(i:Nat):GF:=λx as=>if i<as.length then some (as.set i (some (.lf x.1 x.2)))else none
def RP:Cu:=λds as=>match ds with | []=>some as|_::_=>none
noncomputable def wI(g:GF)(gs:Cu):Cu:=λds as=>match ds with | []=>none|d::r=>(g d as).bind λas1=>gs r as1
noncomputable def gT(n:Nat)(gs:Cu):GF:=λx as=>match x.2 with
 | .tup ds=>if ds.length=n then gs (kids x.1 ds) as else none
 | .lst ds=>if ds.length=n then gs (kids x.1 ds) as else none
 |_=>none
section
variable{K:zzA}{kd:KD}{F B G G':Addr->Prop}{H H':Hp}
theorem RpI.length(h:RpI K kd F B G H vs ds):vs.length=ds.length:=by
 induction h with
 |nil=>rfl
 |cons _ _ ih=>exact congrArg (· + 1) ih
theorem RpI.grow(g:Grow G H G' H')(h:RpI K kd F B G H vs ds):RpI K kd F B G' H' vs ds:=by
 induction h with
 |nil=>exact .nil
 |cons h _ ih=>exact .cons (Rp.grow g h) ih
def RpI.get{vs}{ds}{i:Nat}{x}(h:RpI K kd F B G H vs ds)(e:ds[i]? = some x):∃v,vs[i]? = some v/\Rp K kd (Lv F B G x.1) H v x.2:=by
 induction h generalizing i with
 |nil=>simp at e
 |cons h r ih=>
  cases i with
  |zero=>simp at e;subst e;exact⟨_,rfl,h⟩
  |succ i=>
   obtain⟨v,h1,h2⟩:=ih (by simpa using e);exact⟨v,by simpa using h1,h2⟩
def XR{st}{vs}{ds}(h:RpL K kd (Lv F B G st) H vs ds):RpI K kd F B G H vs (kids st ds):=
 RpL.ind (P:=λvs ds=>RpI K kd F B G H vs (kids st ds)) .nil (λ{v d vs ds} h _ ih=>by
  refine .cons (x:=(zF d||st,d)) ?_ ih;cases e:zF d with
  |true=>exact h.flat e
  |false=>exact h) h
end
section
variable{prog:Program}{w:World}{A:Around}{E:Value->Shared->Prop}{s:Shared}
theorem Pp(hne:l≠it):∀(n i:Nat) (s:Shared) (Q:List Value->Shared->Prop),s.heap.IsListIter it l i->s.heap.IsList l items->i+n<=items.size->
 (∀h',h'.IsListIter it l (i+n)->Heap.SameBut it s.heap h'->Q ((items.toList.drop i).take n) {s with heap:=h'})->wpAny (model prog w) A (draw (.ref it) n) Q E s
 |0,i,s,Q,hit,_,_,hQ=>by
  exact zxH (by simpa using hQ s.heap hit (Heap.SameBut.refl ..))
 |n+1,i,s,Q,hit,ht,hle,hQ=>by
  have hlt:i<items.size:=by omega
  refine zxG (wpAny_pyNext_list_item hit ht (x:=items[i]) (by simp[hlt]) λh₁ hit₁ hs₁=>?_);refine zxG (zxN (Pp hne n (i+1) _ _ hit₁ (ht.extBut hs₁.extBut hne) (by omega) λh₂ hit₂ hs₂=>zxH ?_));have hd:items.toList.drop i=items[i]::items.toList.drop (i+1):=by simp[zyQ,hlt]
  have:=hQ h₂ (by rw[show i+(n+1)=i+1+n by omega];exact hit₂) (hs₁.trans hs₂);rw[hd,List.take_succ_cons]at this;exact this
def Ko(hh:A.handled=none)(ht:s.heap.IsList l items)
 (hn:targets.length=items.size) (hstar:targets.findIdx? (·.1)=none)
 (h:∀h',Heap.ExtBut s.heap.objs.size s.heap h'->wpAny (model prog w) A (assignInOrder (targets.map (·.2)) items.toList) Q E {s with heap:=h'}):
 wpAny (model prog w) A (unpack (.ref l) targets) Q E s:=by
 unfold unpack;rw[hn,hstar];refine zxG (zxN ?_);have hlt:l≠s.heap.objs.size:=by obtain⟨o,ho,_⟩:=ht;exact zzQ (zxJ ho)
 unfold unpackItems;refine zxG ?_;unfold notIterableAtAll;refine zxG (wpAny_specialOf ht.typeIs PySem.F.slot_list_iter.lookup ?_);refine zxH ?_;simp only[Bool.false_eq_true,if_false];refine zxG (zxN (wpAny_pyIter_list ht ?_));refine zxG (zxN (Pp hlt items.size 0 _ _ ⟨_,zxK _ rfl,rfl,rfl⟩ (ht.push _) (by omega) λh₁ hit₁ hs₁=>?_));have hall:List.take items.size (List.drop 0 items.toList)=items.toList:=by
  rw[List.drop_zero];exact List.take_of_length_le (by simp)
 rw[hall];rw[if_neg (by simp)];have ht₁:=(ht.push _).extBut hs₁.extBut hlt;refine zxG (zxN (wpAny_pyNext_list_end hh hit₁ ht₁ (by simp) λh₂ he₂=>?_));simp only[Option.isSome_none,Bool.false_eq_true,if_false];exact zxH (h h₂ λb o hb e=>he₂ b o hb (hs₁.extBut b o hb (zxI _ e)))
end
section
variable{X:Cx}{kd:KD}{a b c e tg iter:Expr}{es:List Expr}{body:List Stmt}{fa fb:EF}{pos:Pos}{g:GF}{gs:Cu}{f:SF}{ta:TF}{S S1 S2:List Nat}
def tX(K:zzA)(n:Nat)(t:Cz):TG:=λv σ H Q=>∃a xs,v = .ref a/\Q1 K H a xs/\xs.length=n/\t xs σ H Q
def SA(hc:X.calm=true)(h:Fu X es t)(hn:(assignEach es X.env).length=n)(hst:(assignEach es X.env).findIdx? (·.1)=none):PG X (.Tuple es k pos) (tX X.K n t):=by
 intro pins s σ H v u Q I r hw;obtain⟨a,xs,e1,hq,hl,hw⟩:=hw;subst e1;cases r;obtain⟨its,rv,ht,hz⟩:=I.list hq;rw[assign_Tuple];refine zxG (wpAny_standAt (Ko (I.ok.hd hc) ht.isList (by simp[hn,<-hl,rv.length]) hst λh' hx=>?_));have I1:=I.kept (t':=s.toks) λb o e=>hx b o (zzQ (zxJ e)) e;exact h pins _ σ H xs _ Q I1 (by simpa using rv) hw
def Mq(hN:X.N.Nodup)(hi:X.N[i]? = some x)(hx:Loc X.env.scope x)(hf:X.fn x=true\/X.env.scope.names.lookup x=some .local):AG X kd (.Name x pos) [i] (gN i):=by with_unfolding_all exact(Jr (Yc hN hi hx hf) λv σ H Q h=>by
 obtain⟨F,B,ad,as,y,as',R,rp,e,q⟩:=h;obtain⟨hl,e⟩:=zx e;cases e;exact q _ _ H (R.put hl (.lf rp)) (Grow.less vz) λj hj=>zzY (λz=>hj (by rw[z];simp)))
def Ge:CP X kd [] [] RP:=by with_unfolding_all exact(Mo ME λvs σ H Q h=>by
 obtain⟨F,B,ad,as,ds,as',R,rp,e,q⟩:=h;cases rp with
 |nil=>cases e;exact⟨rfl,q σ ad H R Grow.refl λ_ _=>rfl⟩
 |cons=>cases e)
def ZQ(h1:AG X kd a S1 g)(h2:CP X kd es S2 gs)(hs:(assignEach (a::es) X.env).map (·.2)=assign a X.env::(assignEach es X.env).map (·.2)):CP X kd (a::es) (S1++S2) (wI g gs):=by with_unfolding_all exact(Mo (KB h1 h2 hs) λvs σ H Q h=>by
 obtain⟨F,B,ad,as,ds,as',R,rp,e,q⟩:=h;cases rp with
 |nil=>cases e
 |cons r rr=>
  obtain⟨as1,e1,e⟩:=bS_ (e);refine⟨_,_,rfl,F,B,ad,as,_,as1,R,r,e1,λσ' ad' H' R' g' k'=>?_⟩;exact⟨F,B,ad',as1,_,as',R',rr.grow g',e,λσ2 ad2 H2 R2 g2 k2=>q σ2 ad2 H2 R2 (g'.trans g2) λj hj=>(k2 j λz=>hj (zzL _ z)).trans (k' j λz=>hj (zzP _ z))⟩)
def Lz{k n:Nat}(hc:X.calm=true)(h:CP X kd es S gs)(hn:(assignEach es X.env).length=n)(hst:(assignEach es X.env).findIdx? (·.1)=none):AG X kd (.Tuple es k pos) S (gT n gs):=by
 with_unfolding_all (
 intro pins s σ H v u Q I r hw;obtain⟨F,B,ad,as,⟨st,d⟩,as',R,rp,e,q⟩:=hw;cases d with
 |tup ds=>
  have e:(if ds.length=n then gs (kids st ds) as else none)=some as':=e
  by_cases hl:ds.length=n
  . rw[if_pos hl]at e;have go:∃a xs,v = .ref a/\QX X.K H a xs/\RpL X.K kd (Lv F B (Gw [] ad) st) H xs ds:=by
     cases rp with
     |tup n h r=>exact⟨_,_,rfl,.inl (.inl h),r⟩
    obtain⟨a,xs,rfl,hs,rl⟩:=go;exact B6 hc h hn hst pins s σ H _ u Q I r ⟨a,xs,rfl,hs,by rw[rl.length,hl],F,B,ad,as,_,as',R,XR rl,e,q⟩
  . rw[if_neg hl]at e;cases e
 |lst ds=>
  have e:(if ds.length=n then gs (kids st ds) as else none)=some as':=e
  by_cases hl:ds.length=n
  . rw[if_pos hl]at e;cases rp with
    |lstK a b c r'=>exact SA hc h hn hst pins s σ H _ u Q I r ⟨_,_,rfl,.inr ⟨_,_,_,a,rfl,rfl,rfl,b,c⟩,by rw[r'.length,hl],F,B,ad,as,_,as',R,XR r',e,q⟩
    |lst n h' r'=>exact SA hc h hn hst pins s σ H _ u Q I r ⟨_,_,rfl,.inl h',by rw[r'.length,hl],F,B,ad,as,_,as',R,XR r',e,q⟩
  . rw[if_neg hl]at e;cases e
 |_=>cases e)
noncomputable def ZA(as:AS)(r:RV):Option (Yt×AS):=(Ow as r.frz).bind λx=>match x.1 with | .lf st d=>some ((st,d),x.2)|_=>none
def wG{K}{F B}{T}{ad}{as as'}{σ}{H}{v}{r}{x}(R:Rel K kd F B T ad as σ H)(h:xx K kd F B T ad σ H v r)(e:ZA as r=some (x,as')):
 ∃ad',Rel K kd F B [] ad' as' σ H/\Rp K kd (Lv F B (Gw [] ad') x.1) H v x.2/\∀a,Gw [] ad' a->Gw T ad a:=by
 obtain⟨⟨o,as1⟩,h1,e⟩:=bS_ e;obtain⟨ad1,R1,ro,le⟩:=RJ R.drop (xx.drop R h) h1;cases o with
 |lf st d=>
  cases e;refine⟨ad1,R1, ?_,λa y=>Gw.drop a (le a y)⟩;have:=Gc ro;exact this
 |nd k os=>cases e
noncomputable def TH(f:EF)(g:GF):SF:=λas=>(f as).bind λp=>(ZA p.2 p.1).bind λq=>(g q.1 q.2).bind λas'=>some (.nx as')
def Bi(he:AE X kd e fa)(hg:AG X kd tg S g)(hs:swapsWithSole [tg] e pos.line X.env=pure false)(hw:swappedStores [tg] e X.env=pure none)(h1:(assignEach [tg] X.env).map (·.2)=[assign tg X.env]):
 QK X kd (.Assign [tg] e pos) (TH fa g):=by with_unfolding_all exact(yE (Tq he hg hs hw h1) λD σ H h=>by
 obtain⟨F,B,ad,as,o,R,e,q⟩:=h;obtain⟨⟨p,as1⟩,h1,e⟩:=bS_ (e);obtain⟨⟨x,as2⟩,h2,e⟩:=bS_ e;obtain⟨as3,h3,e⟩:=bS_ e;cases e;refine⟨F,B,ad,as,p,as1,R,h1,λv T' ad' H' R' rv g1=>?_⟩;obtain⟨ad2,R2,rp,le⟩:=wG R' rv h2;exact⟨F,B,ad2,as2,_,as3,R2,rp,h3,λσ' ad' H' R' g' _=>q σ' ad' H' R' ((g1.trans (Grow.less le)).trans g')⟩)
structure ItOk(K:zzA)(kd:KD)(F B:Addr->Prop)(ad:Ad)(H:Hp)(J:It)(ds:List Yt):Prop where
 all:∀(ad2:Ad) (H2:Hp),Grow (Gw [] ad) H (Gw [] ad2) H2->(∀st a,Lv F B (Gw [] ad2) st a->H2 a≠none)->∀i,(i<ds.length->J.go i H2)/\(ds.length<=i->J.stop i H2)/\
  ∀v H3,J.yld i H2 v H3->(∀b o,H2 b=some o->H3 b=some o)/\∀x,ds[i]? = some x->Rp K kd (Lv F B (Gw [] ad2) x.1) H3 v x.2
abbrev IF:=AS->Option (List Yt×AS)
def pC(K:zzA)(kd:KD)(f:IF):TI:=λσ H R=>∃F B ad as ds as',Rel K kd F B [] ad as σ H/\f as=some (ds,as')/\
 ∀J ad' H',Rel K kd F B [] ad' as' σ H'->Grow (Gw [] ad) H (Gw [] ad') H'->ItOk K kd F B ad' H' J ds->R J H'
@[irreducible] def AI(X:Cx)(kd:KD)(tg iter:Expr)(f:IF):Prop:=PI X tg iter (pC X.K kd f)
noncomputable def forL(g:GF)(f:SF):List Yt->AS->Option Out
 | [],as=>some (.nx as)
 |d::r,as=>(g d as).bind λas1=>(f as1).bind λo=>match o with
  | .nx as'=>forL g f r as'
  | .ct as'=>forL g f r as'
  | .bk as'=>some (.nx as')
  | .rt r=>some (.rt r)
noncomputable def yo(fi:IF)(g:GF)(f:SF):SF:=λas=>(fi as).bind λp=>forL g f p.1 p.2
def ZH(hp:PassesOwn (model X.prog X.w) X.A X.env X.xe)(hc:X.calm=true)(hi:AI X kd tg iter fi)(hg:AG X kd tg S g)(hb:TU X kd body f)(hs:∀x,foldedSetIterable iter X.env x=pure x):
 QK X kd (.For tg iter body [] pos) (yo fi g f):=by with_unfolding_all exact(yE (Hd hp hc hi hg hb hs) λD σ H h=>by
 obtain⟨F,B,ad,as,o,R,e,q⟩:=h;obtain⟨⟨ds,as1⟩,h1,e⟩:=bS_ (e);refine⟨F,B,ad,as,ds,as1,R,h1,λJ ad1 H1 R1 g1 it=>?_⟩;refine⟨λi m σ2 H2=>m+i=ds.length/\∃ad2 as2,Rel X.K kd F B [] ad2 as2 σ2 H2/\Grow (Gw [] ad1) H1 (Gw [] ad2) H2/\forL g f (ds.drop i) as2=some o,⟨ds.length,rfl,ad1,as1,R1,Grow.refl,e⟩, ?_⟩
 rintro i m σ2 H2 ⟨hm,ad2,as2,R2,g2,e2⟩
 obtain⟨k1,k2,k3⟩:=it.all ad2 H2 g2 R2.trk i
 by_cases hi:i<ds.length
 . refine .inr ⟨k1 hi,λσ3 H3=>∃ad3 as3,Rel X.K kd F B [] ad3 as3 σ3 H3/\Grow (Gw [] ad1) H1 (Gw [] ad3) H3/\forL g f (ds.drop (i+1)) as3=some o,λσ3 H3 ⟨ad3,as3,R3,g3,e3⟩=>⟨m-1,by omega,by omega,ad3,as3,R3,g3,e3⟩,λv H3 hy=>?_⟩;obtain⟨kp,rp⟩:=k3 v H3 hy;rw[zyQ hi]at e2;obtain⟨as3,e3,e2⟩:=bS_ (e2);obtain⟨o3,e4,e2⟩:=bS_ e2;obtain⟨R3,g3⟩:=R2.more kp;refine⟨F,B,ad2,as2,_,as3,R3,rp _ (zzE hi),e3,λσ4 ad4 H4 R4 g4 _=>?_⟩;refine⟨F,B,ad4,as3,o3,R4,e4, ?_⟩;have gg:=(g2.trans g3).trans g4;cases o3 with
   |nx as5=>exact λσ5 ad5 H5 R5 g5=>⟨ad5,as5,R5,gg.trans g5,e2⟩
   |ct as5=>exact λσ5 ad5 H5 R5 g5=>⟨ad5,as5,R5,gg.trans g5,e2⟩
   |bk as5=>
    cases e2;exact λσ5 ad5 H5 R5 g5=>q σ5 ad5 H5 R5 (g1.trans (gg.trans g5))
   |rt r=>
    cases e2;exact λv T H5 ro g5=>q v T H5 ro (g1.trans (gg.trans g5))
 . refine .inl ⟨k2 (by omega), ?_⟩;rw[List.drop_eq_nil_of_le (by omega)]at e2;cases e2;exact q σ2 ad2 H2 R2 (g1.trans g2))
noncomputable def Ml(c:TF)(f:SF):Nat->AS->Option Out
 |0,_=>none
 |n+1,as=>(c as).bind λp=>if p.1=true then(f p.2).bind λo=>match o with
  | .nx as'=>Ml c f n as'
  | .ct as'=>Ml c f n as'
  | .bk as'=>some (.nx as')
  | .rt r=>some (.rt r)else some (.nx p.2)
def KG(hp:PassesOwn (model X.prog X.w) X.A X.env X.xe)(hc:AT X kd c ta)(hb:TU X kd body f):QK X kd (.While c body [] pos) (Ml ta f n):=by with_unfolding_all exact(yE (Bl hp hc hb) λD σ H h=>by
 obtain⟨F,B,ad,as,o,R,e,q⟩:=h;refine⟨λm σ2 H2=>∃ad2 as2,Rel X.K kd F B [] ad2 as2 σ2 H2/\Grow (Gw [] ad) H (Gw [] ad2) H2/\Ml ta f m as2=some o,⟨n,ad,as,R,Grow.refl,e⟩, ?_⟩
 rintro m σ2 H2 ⟨ad2,as2,R2,g2,e2⟩
 cases m with
 |zero=>cases e2
 |succ m=>
  obtain⟨⟨p,as3⟩,e3,e2⟩:=bS_ (e2);refine⟨F,B,ad2,as2,p,as3,R2,e3,λad3 H3 R3 g3=>?_⟩;cases p with
  |true=>
   rw[if_pos rfl]at e2 ⊢;obtain⟨o3,e4,e2⟩:=bS_ e2;refine⟨λσ3 H3=>∃ad3 as3,Rel X.K kd F B [] ad3 as3 σ3 H3/\Grow (Gw [] ad) H (Gw [] ad3) H3/\Ml ta f m as3=some o,λσ3 H3 h=>⟨m,by omega,h⟩,F,B,ad3,as3,o3,R3,e4, ?_⟩;have gg:=g2.trans g3;cases o3 with
   |nx as5=>exact λσ5 ad5 H5 R5 g5=>⟨ad5,as5,R5,gg.trans g5,e2⟩
   |ct as5=>exact λσ5 ad5 H5 R5 g5=>⟨ad5,as5,R5,gg.trans g5,e2⟩
   |bk as5=>
    cases e2;exact λσ5 ad5 H5 R5 g5=>q σ5 ad5 H5 R5 (gg.trans g5)
   |rt r=>
    cases e2;exact λv T H5 ro g5=>q v T H5 ro (gg.trans g5)
  |false=>
   rw[if_neg zyW]at e2 ⊢;cases e2;exact q σ2 ad3 H3 R3 (g2.trans g3))
noncomputable def Eo:Yt->Option (List Yt)
 |(st,.lst ds)=>some (kids st ds)
 |(st,.tup ds)=>some (kids st ds)
 |_=>none
noncomputable def Gn(f:EF):IF:=λas=>(f as).bind λp=>(ZA p.2 p.1).bind λq=>(Eo q.1).bind λds=>some (ds,q.2)
def Ms{K}{F B}{ad}{H}{a}{vs}{ds}(hs:∀(ad3:Ad) (H3:Hp),Grow (Gw [] ad) H (Gw [] ad3) H3->Q1 K H3 a vs)(r:RpI K kd F B (Gw [] ad) H vs ds):ItOk K kd F B ad H (uX K a) ds:=⟨λad3 H3 g3 _ i=>by
 have hr3:=hs ad3 H3 g3;have rl3:=r.grow g3;refine⟨λhi=>?_,λhi=>⟨_,hr3,by rw[r.length];exact hi⟩,λv H4 hy=>?_⟩
 . obtain⟨u,hu,_⟩:=r.get (zzE hi);exact⟨_,u,hr3,hu⟩
 . obtain⟨rfl,hv⟩:=hy;refine⟨λ_ _ z=>z,λd hd=>?_⟩;obtain⟨u,hu,ru⟩:=rl3.get hd;have:=hv _ hr3;rw[hu]at this;cases this;exact ru⟩
def Ji{K}{F B}{ad}{H}{a}{vs}{ds}(hs:∀(ad3:Ad) (H3:Hp),Grow (Gw [] ad) H (Gw [] ad3) H3->QX K H3 a vs)(r:RpI K kd F B (Gw [] ad) H vs ds):ItOk K kd F B ad H (tB K a) ds:=⟨λad3 H3 g3 _ i=>by
 have hr3:=hs ad3 H3 g3;have rl3:=r.grow g3;refine⟨λhi=>?_,λhi=>⟨_,hr3,by rw[r.length];exact hi⟩,λv H4 hy=>?_⟩
 . obtain⟨u,hu,_⟩:=r.get (zzE hi);exact⟨_,u,hr3,hu⟩
 . obtain⟨rfl,hv⟩:=hy;refine⟨λ_ _ z=>z,λd hd=>?_⟩;obtain⟨u,hu,ru⟩:=rl3.get hd;have:=hv _ hr3;rw[hu]at this;cases this;exact ru⟩
def BQ(he:AE X kd e fa):AI X kd tg e (Gn fa):=by
 with_unfolding_all (
 intro pins s σ H R I h;obtain⟨F,B,ad,as,ds,as',Rl,e,q⟩:=h;obtain⟨⟨p,as1⟩,h1,e⟩:=bS_ (e);obtain⟨⟨⟨st,x⟩,as2⟩,h2,e⟩:=bS_ e;obtain⟨ys,h3,e⟩:=bS_ e;cases e;cases x with
 |lst xs=>
  cases h3;refine Gp he pins s σ H R I ⟨F,B,ad,as,p,as1,Rl,h1,λv T1 ad1 H1 R1 rv1 g1=>?_⟩;obtain⟨ad2,R2,rp,le⟩:=wG R1 rv1 h2;cases rp with
  |lst hn hr rl=>exact⟨_,rfl,⟨_,.inl hr⟩,q _ ad2 H1 R2 (g1.trans (Grow.less le)) (Ms (λad3 H3 g3=>.inl (XF g3 (λz=>hn (.inr z)) hr)) (XR rl))⟩
  |lstK a b c rl=>exact⟨_,rfl,⟨_,.inr ⟨_,_,_,a,rfl,rfl,rfl,b,c⟩⟩,q _ ad2 H1 R2 (g1.trans (Grow.less le)) (Ms (λad3 H3 g3=>.inr ⟨_,_,_,a,rfl,rfl,rfl,b,c⟩) (XR rl))⟩
 |tup xs=>
  cases h3;refine L3 he pins s σ H R I ⟨F,B,ad,as,p,as1,Rl,h1,λv T1 ad1 H1 R1 rv1 g1=>?_⟩;obtain⟨ad2,R2,rp,le⟩:=wG R1 rv1 h2;have go:∃a ys,v = .ref a/\(∀(ad3:Ad) (H3:Hp),Grow (Gw [] ad2) H1 (Gw [] ad3) H3->QX X.K H3 a ys)/\RpL X.K kd (Lv F B (Gw [] ad2) st) H1 ys xs:=by
   cases rp with
   |tup n h r=>exact⟨_,_,rfl,λad3 H3 g3=>.inl (XF g3 (λz=>n (.inr z)) (.inl h)),r⟩
  obtain⟨a,ys,rfl,hs,rl⟩:=go;exact⟨_,rfl,⟨_,hs ad2 H1 Grow.refl⟩,q _ ad2 H1 R2 (g1.trans (Grow.less le)) (Ji hs (XR rl))⟩
 |_=>cases h3)
def yT(lo:Int)(n:Nat):List Yt:=(List.range n).map λ(i:Nat)=>(true,D.int (lo+(i:Int)))
def Sj{K}{F B}{ad}{H}(lo)(n:Nat):ItOk K kd F B ad H (Dg lo n) (yT lo n):=⟨λad2 H2 g _ i=>by
 have hl:(yT lo n).length=n:=by unfold yT;simp
 refine⟨λhi=>by rw[hl]at hi;exact hi,λhi=>by rw[hl]at hi;exact hi,λv H3 hy=>?_⟩;obtain⟨rfl,rfl⟩:=hy;refine⟨λ_ _ z=>z,λd hd=>?_⟩;have hi:i<n:=by rw[<-hl];exact(zzG.mp hd).1
 unfold yT at hd;rw[zzI,List.getElem?_range hi]at hd;cases hd;exact .int _⟩
noncomputable def DC:List D->Option D
 | [x]=>some x
 |_=>none
def OT(h:DC ds=some d):ds=[d]:=by
 cases ds with
 |nil=>cases h
 |cons x r=>
  cases r with
  |nil=>cases h;rfl
  |cons _ _=>cases h
noncomputable def yj(ds:List D):Option (List Yt):=((DC ds).bind Ln).bind λj=>if -(2 ^ 62)<=j/\j<2 ^ 62 then some (yT 0 j.toNat)else none
def Mc(h:yj ds=some xs):∃j,ds=[.int j]/\(if -(2 ^ 62)<=j/\j<2 ^ 62 then some (yT 0 j.toNat)else none)=some xs:=by
 obtain⟨j,h1,h⟩:=bS_ h;obtain⟨d,h2,h1⟩:=bS_ h1;cases TK h1;exact⟨j,OT h2,h⟩
noncomputable def Ai:List D->Option (List Yt)
 | [.int i,.int j]=>if -(2 ^ 62)<=i/\i<2 ^ 62 /\ -(2 ^ 62)<=j/\j<2 ^ 62 then some (yT i (j-i).toNat)else none
 |_=>none
noncomputable def ye(fr:AF)(h:List D->Option (List Yt)):IF:=λas=>(fr as).bind λp=>(views p.2 p.1).bind λds=>(h ds.1).bind λxs=>some (xs,p.2)
def xM(hg:Gl X "range")(hm:X.mg "range"=none)(ha:AA X kd [a] fr)(hs:starEach [a] X.env=[(false,eval a X.env)]):AI X kd tg (.Call (.Name "range" p) [a] [] pos) (ye fr yj):=by
 with_unfolding_all (
 intro pins s σ H R I h;obtain⟨F,B,ad,as,ds,as',Rl,e,q⟩:=h;obtain⟨⟨ps,as1⟩,h1,e⟩:=bS_ (e);obtain⟨⟨xs,lv⟩,h2,e⟩:=bS_ e;obtain⟨ys,h3,e⟩:=bS_ e;cases e;obtain⟨j,rfl,h3⟩:=Mc h3
 . obtain⟨hj,e3⟩:=zx h3;cases e3;refine Pl hg hm ha hs pins s σ H R I ⟨F,B,ad,as,ps,_,Rl,h1,λvs ad1 H1 R1 rv1 g1=>?_⟩;have vl:=Yv R1 rv1 h2;cases vl with
   |cons v1 v2=>
    cases v2;cases v1;exact⟨j,rfl,hj.1,hj.2,q _ ad1 H1 R1 g1 (Sj 0 _)⟩)
def Fc(hg:Gl X "range")(hm:X.mg "range"=none)(ha:AA X kd [a,b] fr)(hs:starEach [a,b] X.env=[(false,eval a X.env),(false,eval b X.env)])(hs2:starEach [b] X.env=[(false,eval b X.env)]):AI X kd tg (.Call (.Name "range" p) [a,b] [] pos) (ye fr Ai):=by
 with_unfolding_all (
 intro pins s σ H R I h;obtain⟨F,B,ad,as,ds,as',Rl,e,q⟩:=h;obtain⟨⟨ps,as1⟩,h1,e⟩:=bS_ (e);obtain⟨⟨xs,lv⟩,h2,e⟩:=bS_ e;obtain⟨ys,h3,e⟩:=bS_ e;cases e
 match xs,h3,h2 with
 | [.int i,.int j],h3,h2=>
  obtain⟨hj,e3⟩:=zx (h3);cases e3;refine ED hg hm ha hs hs2 pins s σ H R I ⟨F,B,ad,as,ps,_,Rl,h1,λvs ad1 H1 R1 rv1 g1=>?_⟩;have vl:=Yv R1 rv1 h2;cases vl with
  |cons v1 v2=>
   cases v2 with
   |cons v2 v3=>
    cases v3;cases v1;cases v2;exact⟨i,j,rfl,hj,q _ ad1 H1 R1 g1 (Sj i _)⟩)
def Rel.mut{K}{F B}{T fo}{ad}{as}{σ}{H}{i:Nat}{l}{fp fp'}{n}{u}(R:Rel K kd F B T ad as σ H)(hi:i<as.length)(hl:ad i=l::fp)(hs:σ[i]? = some (some (.ref l)))
 (hsub:∀a ∈ fp'++fo,a ∈ fp++T) (hnd:(fp'++fo).Nodup) (hu:H l≠none)
 (ro:∀(H':Hp) (G':Addr->Prop),H' l=some u->Grow (Gw T ad) H G' H'->(∀a ∈ fp',∀w,H a=some w->H' a=some w)->xW K kd F B G' H' (.ref l) n (l::fp')):
 Rel K kd F B fo (yb ad i (l::fp')) (as.set i (some n)) σ (upd H l u)/\Grow (Gw T ad) H (Gw fo (yb ad i (l::fp'))) (upd H l u):=by
 have hli:l ∈ ad i:=by rw[hl];exact zzF
 have lT:=R.dis i l hli;have lfp:l ∉ fp:=by have:=R.nd i;rw[hl]at this;exact(zzW.mp this).1
 have lsub:∀a ∈ fp'++fo,a≠l:=λa m e=>by
  subst e
  rcases zzM.mp (hsub _ m)with z|z
  . exact lfp z
  . exact lT z
 have sub:∀a ∈ fp'++fo,Gw T ad a:=λa m=>by
  rcases zzM.mp (hsub a m)with z|z
  . exact .inr ⟨i,by rw[hl];exact zzD _ z⟩
  . exact .inl z
 have gsub:∀a,Gw fo (yb ad i (l::fp')) a->Gw T ad a:=λa z=>by
  rcases z with z|⟨j,z⟩
  . exact sub a (zzL _ z)
  . by_cases e:j=i
    . subst e;rw[zl]at z
      rcases zzC.mp z with z|z
      . subst z;exact .inr ⟨j,hli⟩
      . exact sub a (zzP _ z)
    . rw[zp e]at z;exact .inr ⟨j,z⟩
 have g:Grow (Gw T ad) H (Gw fo (yb ad i (l::fp'))) (upd H l u):=⟨λb w h n=>by rw[zr (λe=>n (by subst e;exact .inr ⟨i,hli⟩))];exact h,λb z=>.inl (gsub b z)⟩;have kn:∀a,H a≠none->upd H l u a≠none:=λa z=>by
  by_cases e:a=l
  . subst e;rw[zA];simp
  . rw[zr e];exact z
 obtain⟨hnd1,hnd2,hnd3⟩:=zxF.mp hnd;have JM:∀j a,j≠i->a ∈ ad j->a ∈ fp'++fo->False:=λj a hj m m'=>by
  rcases zzM.mp (hsub a m')with z|z
  . exact hj (R.inj j i a m (by rw[hl];exact zzD _ z))
  . exact R.dis j a m z
 refine⟨⟨by rw[zzU];exact R.len,λj hj=>?_,λj=>?_,λj k a h1 h2=>?_,hnd2,λj a h1 h2=>?_,λa z=>kn a (R.ftr a z),λa z=>?_,λa z=>⟨kn a (R.gtr a (gsub a z)).1,(R.gtr a (gsub a z)).2⟩,λj s e=>?_⟩,g⟩
 . rw[zzU]at hj;rw[zp (by omega)];exact R.out j hj
 . by_cases e:j=i
   . subst e;rw[zl];exact zzW.mpr ⟨λm=>lsub l (zzP _ m) rfl,hnd1⟩
   . rw[zp e];exact R.nd j
 . by_cases e:j=i
   . subst e
     by_cases e':k=j
     . exact e'.symm
     . rw[zl]at h1;rw[zp e']at h2
       rcases zzC.mp h1 with z|z
       . subst z;exact R.inj j k a hli h2
       . exact(JM k a e' h2 (zzP _ z)).elim
   . rw[zp e]at h1
     by_cases e':k=i
     . subst e';rw[zl]at h2
       rcases zzC.mp h2 with z|z
       . subst z;exact R.inj j k a h1 hli
       . exact(JM j a e h1 (zzP _ z)).elim
     . rw[zp e']at h2;exact R.inj j k a h1 h2
 . by_cases e:j=i
   . subst e;rw[zl]at h1
     rcases zzC.mp h1 with z|z
     . subst z;exact lsub a (zzL _ h2) rfl
     . exact hnd3 a z a h2 rfl
   . rw[zp e]at h1;exact JM j a e h1 (zzL _ h2)
 . obtain⟨b1,b2,b3⟩:=R.btr a z;exact⟨kn a b1,b2,λy=>b3 (gsub a y)⟩
 . by_cases q:j=i
   . subst q;rw[zyK hi]at e;cases e;rw[zl];refine⟨_,hs,ro _ _ zA g λa m w h=>?_⟩;rw[zr (lsub a (zzP _ m))];exact h
   . rw[zzY (Ne.symm q)]at e;rw[zp q];refine(R.sl j s e).grow g λa m w h=>?_;rw[zr (λz=>q (R.inj j i l (by rw[<-z];exact m) hli))];exact h
abbrev MG:=List O->List O->Option (List O×O)
noncomputable def xO(i:Nat)(fr:DF)(g:MG):EF:=λas=>match as[i]? with
 |some (some (.nd .ls _))=>(fr as).bind λp=>match p.2[i]? with
  |some (some (.nd .ls os))=>(g os p.1).bind λz=>some (.ow z.2,p.2.set i (some (.nd .ls z.1)))
  |_=>none
 |_=>none
def uN(X:Cx)(kd:KD)(r:V->List V->Hp->VK->Prop)(g:MG):Prop:=
 ∀(F B G:Addr->Prop) (l:Addr) (vs ws:List V) (os es os':List O) (o:O) (fp fq:List Addr) (H:Hp) (Q:VK),H l=some (.lst vs)->xF X.K kd F B G H vs os fp->xF X.K kd F B G H ws es fq->(fp++fq).Nodup->g os es=some (os',o)->
  (∀v vs' fp' fo,xF X.K kd F B G H vs' os' fp'->xW X.K kd F B G H v o fo->(∀a ∈ fp'++fo,a ∈ fp++fq)->(fp'++fo).Nodup->Q v (upd H l (.lst vs')))->r (.ref l) ws H Q
def uG{i:Nat}{fr}{g}{r}(hr:uN X kd r g)
 {σ}{H}{Q}(h:al X.K kd (xO i fr g) σ H Q):qd X.K "list" r (ZS i) (qm X.K kd fr) σ H Q:=by
 obtain⟨F,B,ad,as,z,as',R,e,q⟩:=h;unfold xO at e;cases k:as[i]? with
 |none=>rw[k]at e;cases e
 |some a0=>
  rw[k]at e
  match a0,e,k with
  |some (.nd .ls os0),e,k=>
   obtain⟨⟨es,as1⟩,h1,e⟩:=bS_ (e);obtain⟨v0,hs0,ro0⟩:=R.sl i _ k;generalize hfp0:ad i=fp0 at ro0;cases ro0 with
   |ls hH0 rl0=>
   rename_i l vs0 fp00;refine⟨_,hs0,.inl ⟨rfl,_,.inl (.inl hH0)⟩,F,B,ad,as,es,as1,R,h1,λws T1 ad1 H1 R1 ro1 g1=>?_⟩;cases k2:as1[i]? with
   |none=>rw[k2]at e;cases e
   |some a2=>
    rw[k2]at e
    match a2,e,k2 with
    |some (.nd .ls os),e,k2=>
     obtain⟨⟨os',o⟩,h3,e⟩:=bS_ (e);cases e;obtain⟨v1,hs1,ro2⟩:=R1.sl i _ k2;rw[hs0]at hs1;cases hs1;generalize hfp:ad1 i=fp1 at ro2;cases ro2 with
     |ls hH rl=>
     rename_i vs fp;have hnd:=zxF.mpr ⟨by have:=R1.nd i;rw[hfp]at this;exact(zzW.mp this).2,R1.tnd,λa m b m' e=>by
          subst e;exact R1.dis i a (by rw[hfp];exact zzD _ m) m'⟩
     refine hr F B (Gw T1 ad1) _ vs ws os es os' o fp T1 H1 Q hH rl ro1 hnd h3 λv vs' fp' fo rl' ro' hsub hnd'=>?_;obtain⟨R3,g3⟩:=R1.mut (zzG.mp k2).1 hfp hs0 hsub hnd' (by rw[hH];simp) λH' G' hl' gr kp=>.ls hl' (xF.grow gr kp rl');have lno:∀a ∈ fo,∀w,H1 a=some w->upd H1 l (.lst vs') a=some w:=λa m w h=>by
          rw[zr (λe=>?_)]
          . exact h
          . subst e
            rcases zzM.mp (hsub _ (zzL _ m))with z|z
            . have:=R1.nd i;rw[hfp]at this;exact(zzW.mp this).1 z
            . exact R1.dis i _ (by rw[hfp];exact zzF) z
     exact q v fo _ _ R3 (xW.grow g3 lno ro') (g1.trans g3)
end
end PF
end
section
set_option exponentiation.threshold 5000
namespace PF
open PySem PySem.Spec PyProof.Rows L2
section
variable{K:zzA}{kd:KD}{O:Addr->Prop}{H:Hp}{Q:VK}
def zZ(q:RQ K kd O H Q (.im d))(r:Rp K kd O H v d):Q v H:=q v H (λ_ _ z=>z) r
def Ed(hp:H p=none)(r:RpL K kd O H vs ds):RpL K kd (WU O (· = p)) (upd H p o) vs ds:=
 RpL.grow ⟨λb u q _=>by rw[zr (zO q hp)];exact q,λb z=>.inr (by rw[z];exact hp)⟩ (r.less λa z=>z.elim id False.elim)
def OR(hp:H p=none)(r:RpM K kd O H vs ds):RpM K kd (WU O (· = p)) (upd H p o) vs ds:=
 RpM.grow ⟨λb u q _=>by rw[zr (zO q hp)];exact q,λb z=>.inr (by rw[z];exact hp)⟩ (r.less λa z=>z.elim id False.elim)
def vY(hp:H p=none):∀b u,H b=some u->upd H p o b=some u:=λb u q=>by rw[zr (zO q hp)];exact q
def WN(q:RQ K kd O H Q (.fl ds))(r:RpL K kd O H vs ds):∀p,H p=none->Q (.ref p) (upd H p (.lst vs)):=λp hp=>
 q p vs _ hp (vY hp) zA (Ed hp r)
def B9(q:RQ K kd O H Q (.fd ds))(r:RpM K kd O H vs ds):∀p,H p=none->Q (.ref p) (upd H p (.dK vs)):=λp hp=>
 q p vs _ hp (vY hp) zA (OR hp r)
def NH(ht:∀a,O a->H a≠none)(q:RQ K kd O H Q (.im (.tup ds)))(r:RpL K kd O H vs ds):∀p,H p=none->Q (.ref p) (upd H p (.tup vs)):=λp hp=>
 q _ _ (vY hp) (.tup (λz=>ht p z hp) zA ((Ed hp r).less λa z=>.inl z))
end
def big:Nat:=2 ^ 4000
def K7(h:i.natAbs<big):Builtin.Int.intBits i<=2 ^ 20:=by
 unfold Builtin.Int.intBits
 split
 . exact Nat.zero_le _
 . have:i.natAbs.log2<4000:=by
    rcases Nat.eq_zero_or_pos i.natAbs with h0|hp
    . rw[h0];decide
    . exact(Nat.log2_lt (Nat.ne_of_gt hp)).mpr h
   have e:(2:Nat) ^ 20=1048576:=by decide
   omega
noncomputable def CW(f:Int->Int->Option R0)(x y:D):Option R0:=(Ln x).bind λi=>(Ln y).bind λj=>f i j
noncomputable def sg(x y:D):Option R0:=match x with
 | .int i=>(Ln y).bind λj=>some (.im (.int (i+j)))
 | .str x=>(qA y).bind λy=>if x.length+y.length<=sizeLine then some (.im (.str (x++y)))else none
 | .lst xs=>(IB y).bind λys=>if xs.length+ys.length<=sizeLine then some (.fl (xs++ys))else none
 | .tup xs=>(t5 y).bind λys=>if xs.length+ys.length<=sizeLine then some (.im (.tup (xs++ys)))else none
 |_=>none
noncomputable def rD(x y:D):Option R0:=match x with
 | .int i=>(Ln y).bind λj=>if i.natAbs<big/\j.natAbs<big then some (.im (.int (i*j)))else none
 | .lst xs=>(Ln y).bind λk=>if -(2 ^ 63)<=k/\k<2 ^ 63/\xs.length*k.toNat<=sizeLine then some (.fl (List.replicate k.toNat xs).flatten)else none
 | .tup xs=>(Ln y).bind λk=>if 1<=k/\k<2 ^ 63/\xs.length≠0/\xs.length*k.toNat<=sizeLine then some (.im (.tup (List.replicate k.toNat xs).flatten))else none
 |_=>none
noncomputable def XZ(o:Operator)(x y:D):Option R0:=match o with
 | .Add=>sg x y
 | .Sub=>CW (λi j=>some (.im (.int (i-j)))) x y
 | .Mult=>rD x y
 | .FloorDiv=>CW (λi j=>if 0<j/\j.natAbs<big then some (.im (.int (i/j)))else none) x y
 | .Mod=>CW (λi j=>if 0<j then some (.im (.int (i%j)))else none) x y
 | .Pow=>CW (λi j=>if 0<=j/\j<=1000000/\i.natAbs<2 ^ 64 then some (.im (.int (i ^ j.toNat)))else none) x y
 |_=>none
def Yj{K}{kd}{O}{H}{v}{d}{i}(h:Vw K kd O H v d)(e:Ln d=some i):d = .int i/\v = .int i:=by
 cases h with
 |int j=>cases e;exact⟨rfl,rfl⟩
 |_=>cases e
def IK{K}{kd}{O}{H}{v}{d}{i}(h:Vw K kd O H v d)(e:qA d=some i):d = .str i/\v = .str i:=by
 cases h with
 |str j=>cases e;exact⟨rfl,rfl⟩
 |_=>cases e
def ZD{K}{kd}{O}{H}{v w}{d e}{f}{r}(vx:Vw K kd O H v d)(vy:Vw K kd O H w e)(h:CW f d e=some r):∃i j,v = .int i/\w = .int j/\f i j=some r:=by
 obtain⟨i,h1,h⟩:=bS_ (h);obtain⟨j,h2,h⟩:=bS_ h;exact⟨i,j,(Yj vx h1).2,(Yj vy h2).2,h⟩
section
variable{X:Cx}{kd:KD}
def O6:Qd X (binaryOp .Add) (λx y H Q=>∃l b xs zs,x = .ref l/\y = .ref b/\Hc X.K H l xs/\Hc X.K H b zs/\xs.length+zs.length<=sizeLine/\∀p,H p=none->Q (.ref p) (upd H p (.lst (xs++zs)))):=by
 intro pins s σ H x y v u Q I rx ry h;obtain⟨l,b,xs,zs,rfl,rfl,hH,hB,hz,q⟩:=h;cases rx;cases ry;obtain⟨z,its,n,r,e⟩:=Nc I hH;obtain⟨z2,its2,n2,r2,e2⟩:=Nc I hB;have hl:=r.length;have hl2:=r2.length;refine PySem.P.add_list e e2 ?_ (by rw[zzH,zzH];omega);have ea:its.toArray++its2.toArray=(its++its2).toArray:=by simp
 rw[ea];exact⟨.ref _,_,I.lnew (t':=s.toks) (r.append r2) (by rw[zzJ];omega),rfl,q _ I.fresh⟩
def Cn:Qd X (binaryOp .Mult) (λx y H Q=>∃l k xs,x = .ref l/\y = .int k/\Hc X.K H l xs /\ -(2 ^ 63)<=k/\k<2 ^ 63/\xs.length*k.toNat<=sizeLine/\
 ∀p,H p=none->Q (.ref p) (upd H p (.lst (List.replicate k.toNat xs).flatten))):=by
 intro pins s σ H x y v u Q I rx ry h;obtain⟨l,k,xs,rfl,rfl,hH,h1,h2,hz,q⟩:=h;cases rx;obtain⟨t,rfl⟩:=ry;obtain⟨z,its,n,r,e⟩:=Nc I hH;have hl:=r.length;have hlen:its.toArray.size*k.toNat<=sizeLine:=by rw[zzH,<-hl];exact hz
 have hcap:¬its.toArray.size*k.toNat > (2 ^ 63-1)/8:=by
  have:sizeLine<=(2 ^ 63-1)/8:=by decide
  omega
 have hfit:¬(!Builtin.List.listFitsIndex k)=true:=by
  rw[fitsIndex_both h1 h2];exact zyW
 have hlong:¬Builtin.List.listTooLong (its.toArray.size*k.toNat)=true:=by
  rw[Le hlen];exact zyW
 have hnew:List.foldl (λx1 x2=>x1++x2) #[] (List.replicate (if its.toArray.isEmpty=true then 0 else k.toNat) its.toArray)=(List.replicate k.toNat its).flatten.toArray:=by
  have f0:=λm=>by
   have:=foldl_rep its m [];rw[List.nil_append]at this;exact this
  rw[f0];cases its with
  |nil=>simp
  |cons a r'=>rw[if_neg (by simp)]
 refine wpAny_binaryOp_repeat_ref (by decide) ⟨_,e,rfl⟩ (λs'=>typeIs_int s' k t) noFill_list_mul F.fills_int_mul F.slot_int_rmul repeat_list F.slot_int_index.lookup
  (call_meets F.slot_int_rmul (typeIs_int s k t) F.entry_int_rmul (F.args_int_rmul_2 _ _) (int___rmul___int_list k t l its.toArray n)
   ⟨e,rfl,⟨_,e,rfl⟩,call_meets F.slot_list_mul ⟨_,e,rfl⟩ F.entry_list_mul (F.args_list_mul_2 _ _) (AutoListH.list___mul___list_int_3 l its.toArray n k t hfit hcap hlong) ⟨e, ?_⟩⟩)
 rw[hnew];refine⟨.ref _,_,I.lnew (t':=s.toks) (r.rep k.toNat) ?_,rfl,q _ I.fresh⟩;rw[len_rep,Nat.mul_comm];exact hz
def tuple_addW0(l b)(items items2)(n n2:Nat)(dd dd2)(sl sl2)(h0:items.isEmpty=true):
 Meets (Builtin.«tuple.__add__» {pos:=[.ref l,.ref b]}) (λ_ R s=>s.heap.get? l=some {cls:=.type "tuple",dict:=dd,data:=.seq items n,slots:=sl}/\s.heap.get? b=some {cls:=.type "tuple",dict:=dd2,data:=.seq items2 n2,slots:=sl2}/\R (.ok (.ret (.ref b))) s):=
 .of_wp λprog w A R s h=>by
  obtain⟨hp,g,d,tk,os⟩:=s;obtain⟨hl,hb,h⟩:=h;have f2:=AutoSeq1.sub_tuple_tuple
  wp_walk using wpAny_loadPart' hl,wpAny_loadPart' hb
  exact⟨_,rfl,h⟩
def KZ(l)(items)(n:Nat)(dd)(sl)(u):
 Meets (Builtin.«tuple.__mul__» {pos:=[.ref l,.int 1 u]}) (λ_ R s=>s.heap.get? l=some {cls:=.type "tuple",dict:=dd,data:=.seq items n,slots:=sl}/\R (.ok (.ret (.ref l))) s):=
 .of_wp λprog w A R s h=>by
  obtain⟨hp,g,d,tk,os⟩:=s;obtain⟨hl,h⟩:=h;have f2:=AutoSeq1.sub_tuple_tuple
  wp_walk using wpAny_loadPart' hl
  exact⟨_,rfl,h⟩
def KI(l)(items its2:Array Value)(n:Nat)(dd)(sl)(x)(u)(c1:¬(decide (x < -2 ^ 63)||decide (x ≥ 2 ^ 63))=true)(c2:¬(items.isEmpty||x==1)=true)(c3:¬(decide (x<=0)||items.isEmpty)=true)
 (hcap:¬(items.size:Int)*x > (2 ^ 63-1)/8) (ht:¬Builtin.Tuple.tupleTooMany (items.size*x)=true) (hz:¬(List.foldl (λx1 x2=>x1++x2) #[] (List.replicate x.toNat items)).size > sizeLine):
 Meets (Builtin.«tuple.__mul__» {pos:=[.ref l,.int x u]}) (λ_ R s=>s.heap.get? l=some {cls:=.type "tuple",dict:=dd,data:=.seq items n,slots:=sl}/\R (.ok (.ret (.ref s.heap.objs.size))) {s with heap:=s.heap.push {cls:=.type "tuple",data:=.seq (List.foldl (λx1 x2=>x1++x2) #[] (List.replicate x.toNat items))}}):=
 .of_wp λprog w A R s h=>by
  obtain⟨hp,g,d,tk,os⟩:=s;obtain⟨hl,h⟩:=h;have f2:=AutoSeq1.sub_tuple_tuple
  wp_walk using wpAny_loadPart' hl
  rw[if_neg c1]
  wp_walk using wpAny_loadPart' hl
  rw[if_neg hcap]
  wp_walk
  exact⟨_,rfl,h⟩
def Qo:fillsNumberSlot (Value.type "tuple") "mul"=pure false:=PySem.fillsNumberSlot_seq rfl rfl rfl rfl
def Gv:seqRepeat? (Value.type "tuple")=pure (some (Value.builtin "tuple.__mul__")):=W.of_pureOf rfl
def UH(a)(t)(l)(items)(n:Nat)(dd)(sl):
 Meets (Builtin.«int.__rmul__» {pos:=[.int a t,.ref l]}) (λ_ R s=>s.heap.get? l=some {cls:=.type "tuple",dict:=dd,data:=.seq items n,slots:=sl}/\R (.ok (.ret .notImplemented)) s):=
 .of_wp λprog w A R s h=>by
  obtain⟨hp,g,d,tk,os⟩:=s;obtain⟨hl,h⟩:=h
  wp_walk using wpAny_load' hl,wpAny_loadPart' hl
  exact⟨_,rfl,h⟩
def Oy:Qd X (binaryOp .Add) (λx y H Q=>∃a b ys,x = .ref a/\y = .ref b/\QX X.K H a []/\QX X.K H b ys/\Q (.ref b) H):=by
 intro pins s σ H x y v u Q I rx ry h;obtain⟨a,b,ys,rfl,rfl,ha,hb,q⟩:=h;cases rx;cases ry;obtain⟨its,r1,p1,_⟩:=I.tuple ha;obtain⟨its2,r2,p2,_⟩:=I.tuple hb;cases r1;obtain⟨⟨cls,dd,data,sl⟩,ho,hc,n,hd⟩:=id p1;obtain⟨⟨cls2,dd2,data2,sl2⟩,ho2,hc2,n2,hd2⟩:=id p2;simp only at hc hd hc2 hd2;subst hc hd hc2 hd2;exact concat_meets ⟨_,ho,rfl⟩ ⟨_,ho2,rfl⟩ noFill_tuple_add seq_tuple_add PySem.F.slot_tuple_add PySem.F.entry_tuple_add (PySem.F.args_tuple_add_2 _ _) (tuple_addW0 a b _ _ n n2 dd dd2 sl sl2 rfl) ⟨ho,ho2,⟨.ref b,H,I,rfl,q⟩⟩
def Ck:Qd X (binaryOp .Mult) (λx y H Q=>∃l k xs,x = .ref l/\y = .int k/\QX X.K H l xs/\xs≠[]/\1<=k/\k<2 ^ 63/\xs.length*k.toNat<=sizeLine/\(k=1->Q (.ref l) H)/\
 (2<=k->∀p,H p=none->Q (.ref p) (upd H p (.tup (List.replicate k.toNat xs).flatten)))):=by
 intro pins s σ H x y v u Q I rx ry h;obtain⟨l,k,xs,rfl,rfl,hH,hne,h1,h2,hz,q1,q2⟩:=h;cases rx;obtain⟨t,rfl⟩:=ry;obtain⟨its,r,p,_⟩:=I.tuple hH;have hl:=r.length;have hlen:its.toArray.size*k.toNat<=sizeLine:=by rw[zzH,<-hl];exact hz
 have hki:((its.toArray.size:Int)*k)=((its.toArray.size*k.toNat:Nat):Int):=by
  rw[zzV,zyZ (by omega)]
 have he:its.toArray.isEmpty=false:=by
  cases its with
  |nil=>rw[List.length_nil]at hl;exact absurd (List.length_eq_zero_iff.mp hl) hne
  |cons a r'=>rfl
 have hnew:List.foldl (λx1 x2=>x1++x2) #[] (List.replicate k.toNat its.toArray)=(List.replicate k.toNat its).flatten.toArray:=by
  have:=foldl_rep its k.toNat [];rw[List.nil_append]at this;exact this
 obtain⟨⟨cls,dd,data,sl⟩,ho,hc,n,hd⟩:=id p;simp only at hc hd;subst hc hd;refine wpAny_binaryOp_repeat_ref (by decide) ⟨_,ho,rfl⟩ (λs'=>typeIs_int s' k t) Qo F.fills_int_mul F.slot_int_rmul Gv F.slot_int_index.lookup
  (call_meets F.slot_int_rmul (typeIs_int s k t) F.entry_int_rmul (F.args_int_rmul_2 _ _) (UH k t l its.toArray n dd sl) ⟨ho,rfl,⟨_,ho,rfl⟩, ?_⟩)
 by_cases hk:k=1
 . subst hk;exact call_meets F.slot_tuple_mul ⟨_,ho,rfl⟩ F.entry_tuple_mul (F.args_tuple_mul_2 _ _) (KZ l its.toArray n dd sl t) ⟨ho,⟨.ref l,H,I,rfl,q1 rfl⟩⟩
 . have hfl:(List.replicate k.toNat xs).flatten.length<=sizeLine:=by rw[len_rep,Nat.mul_comm];exact hz
   refine call_meets F.slot_tuple_mul ⟨_,ho,rfl⟩ F.entry_tuple_mul (F.args_tuple_mul_2 _ _) (KI l its.toArray #[] n dd sl k t (by simp;omega) (by rw[he];simpa using hk) (by rw[he];simp;omega) ?_ ?_ ?_) ⟨ho, ?_⟩
   . rw[hki];have:(sizeLine:Int)<=(2 ^ 63-1)/8:=by decide
     omega
   . unfold Builtin.Tuple.tupleTooMany;rw[hki];simp only[gt_iff_lt,decide_eq_true_eq];omega
   . rw[hnew,zzH,len_rep,Nat.mul_comm];rw[zzH]at hlen;omega
   . rw[hnew];refine⟨.ref s.heap.objs.size,_,I.laid (t':=s.toks) (λb ob q=>zxI _ q) (zzN _) ?_,rfl,q2 (by omega) _ (I.hok.fresh (zzN _))⟩;exact⟨hfl,_,r.rep k.toNat,IsTup.new _ _⟩
def Iy(op):J1 X kd (binaryOp op) (XZ op):=by
 intro pins s σ H x y v u Q I rx ry h;obtain⟨O,d,e,r,ht,vx,vy,he,q⟩:=h;cases op with
 |Add=>
  cases vx with
  |int i=>
   obtain⟨j,h1,he⟩:=bS_ (he);obtain⟨rfl,rfl⟩:=Yj vy h1;cases he;exact Jq pins s σ H _ _ v u Q I rx ry ⟨_,_,rfl,rfl,zZ q (.int _)⟩
  |str i=>
   obtain⟨j,h1,he⟩:=bS_ (he);obtain⟨rfl,rfl⟩:=IK vy h1;obtain⟨c,rfl⟩:=zx he;exact Nq pins s σ H _ _ v u Q I rx ry ⟨_,_,rfl,rfl,c,zZ q (.str _)⟩
  |lst hx rx'=>
   obtain⟨j,h1,he⟩:=bS_ (he);cases UV h1;obtain⟨c,rfl⟩:=zx he;cases vy with
   |lst hy ry'=>exact O6 pins s σ H _ _ v u Q I rx ry ⟨_,_,_,_,rfl,rfl,hx,hy,by rw[rx'.length,ry'.length];exact c,WN q (rx'.append ry')⟩
  | @tup a1 vs1 ds1 r1 hx rx'=>
   obtain⟨j,h1,he⟩:=bS_ (he);cases FL h1;obtain⟨c,rfl⟩:=zx he;cases vy with
   |tup r2 hy ry'=>
    by_cases h0:vs1=([]:List V)
    . subst h0;cases rx';exact Oy pins s σ H _ _ v u Q I rx ry ⟨_,_,_,rfl,rfl,hx,hy,zZ q r2⟩
    refine OW pins s σ H _ _ v u Q I rx ry ⟨_,_,_,_,rfl,rfl,hx,hy,h0,by rw[rx'.length,ry'.length];exact c,λhn=>?_,λhn=>NH ht q (rx'.append ry')⟩
    . subst hn;cases ry';rw[zyE]at q;exact zZ q r1
  |_=>cases he
 |Sub=>
  obtain⟨i,j,rfl,rfl,he⟩:=ZD vx vy he;cases he;exact A2 pins s σ H _ _ v u Q I rx ry ⟨_,_,rfl,rfl,zZ q (.int _)⟩
 |Mult=>
  cases vx with
  |int i=>
   obtain⟨j,h1,he⟩:=bS_ (he);obtain⟨rfl,rfl⟩:=Yj vy h1;obtain⟨c,rfl⟩:=zx he;obtain⟨t,rfl⟩:=rx;obtain⟨t',rfl⟩:=ry;exact mul_int ⟨.int _,H,I.tok _,⟨_,rfl⟩,zZ q (.int _)⟩ (IntMulOk.of_bits (K7 c.1) (K7 c.2))
  |lst hx rx'=>
   obtain⟨j,h1,he⟩:=bS_ (he);obtain⟨rfl,rfl⟩:=Yj vy h1;obtain⟨c,rfl⟩:=zx he;exact Cn pins s σ H _ _ v u Q I rx ry ⟨_,_,_,rfl,rfl,hx,c.1,c.2.1,by rw[rx'.length];exact c.2.2,WN q (rx'.rep _)⟩
  |tup r1 hx rx'=>
   obtain⟨j,h1,he⟩:=bS_ (he);obtain⟨rfl,rfl⟩:=Yj vy h1;obtain⟨c,rfl⟩:=zx he;refine Ck pins s σ H _ _ v u Q I rx ry ⟨_,_,_,rfl,rfl,hx,λe=>?_,c.1,c.2.1,by rw[rx'.length];exact c.2.2.2,λe=>?_,λ_=>NH ht q (rx'.rep _)⟩
   . have:=rx'.length;rw[e]at this;exact c.2.2.1 this.symm
   . subst e;refine zZ q ?_;rw[show(1:Int).toNat=1 from rfl,List.replicate_one,List.flatten_cons,List.flatten_nil,zyE];exact r1
  |_=>cases he
 |FloorDiv=>
  obtain⟨i,j,rfl,rfl,he⟩:=ZD vx vy he;obtain⟨c,rfl⟩:=zx he;obtain⟨t,rfl⟩:=rx;obtain⟨t',rfl⟩:=ry;refine floordiv_int (by omega) ?_ (.inl (PyProof.noPylong_of_log2 ?_))
  . rw[Int.fdiv_eq_ediv_of_nonneg _ (by omega)];exact⟨.int _,H,I.tok _,⟨_,rfl⟩,zZ q (.int _)⟩
  . exact zzK ((Nat.log2_lt (by have:=c.1;omega)).mpr (c.2)) (by decide)
 |Mod=>
  obtain⟨i,j,rfl,rfl,he⟩:=ZD vx vy he;obtain⟨c,rfl⟩:=zx he;exact BC pins s σ H _ _ v u Q I rx ry ⟨_,_,rfl,rfl,c,zZ q (.int _)⟩
 |Pow=>
  obtain⟨i,j,rfl,rfl,he⟩:=ZD vx vy he;obtain⟨c,rfl⟩:=zx he;exact Jm pins s σ H _ _ v u Q I rx ry ⟨_,_,rfl,rfl,c,zZ q (.int _)⟩
 |_=>cases he
end
noncomputable def Ov(f:D->D->Option Bool):List D->List D->Option Bool
 | [],[]=>some true
 |x::r,y::t=>(f x y).bind λb=>(Ov f r t).bind λc=>some (b&&c)
 |_,_=>some false
noncomputable def ZN:Nat->D->D->Option Bool
 |0,_,_=>none
 |_+1,.non,.non=>some true
 |_+1,.bl a,.bl b=>some (a==b)
 |_+1,.int a,.int b=>some (a==b)
 |_+1,.str a,.str b=>some (a==b)
 |_+1,.bl a,.int b=>some ((if a then 1 else 0)==b)
 |_+1,.int a,.bl b=>some (a==(if b then 1 else 0))
 |n+1,.lst xs,.lst ys=>Ov (ZN n) xs ys
 |n+1,.tup xs,.tup ys=>Ov (ZN n) xs ys
 |_+1,.dct _,_=>none
 |_+1,.cl _,_=>none
 |_+1,.ob _ _ _,_=>none
 |_+1,.dt _ _,_=>none
 |_+1,.er _ _ _,_=>none
 |_+1,_,.dct _=>none
 |_+1,_,.cl _=>none
 |_+1,_,.ob _ _ _=>none
 |_+1,_,.dt _ _=>none
 |_+1,_,.er _ _ _=>none
 |_+1,_,_=>some false
noncomputable def Hr(f:D->D->Option Bool)(xs ys:List D)(j:Nat):Bool:=match xs[j]?,ys[j]? with
 |some d,some e=>(f d e).getD false
 |_,_=>false
theorem Rf:∀{xs ys:List D}{b:Bool},Ov f xs ys=some b->(∀(j:Nat) d e,xs[j]? = some d->ys[j]? = some e->∃c,f d e=some c)/\
 b=((List.range (min xs.length ys.length)).all (Hr f xs ys)&&xs.length==ys.length)
 | [],[],b,h=>by cases h;exact⟨λj d e h=>by simp at h,by simp⟩
 | [],y::t,b,h=>by cases h;exact⟨λj d e h=>by simp at h,by simp⟩
 |x::r,[],b,h=>by cases h;exact⟨λj d e _ h=>by simp at h,by simp⟩
 |x::r,y::t,b,h=>by
  obtain⟨b1,h1,h⟩:=bS_ (h);obtain⟨c1,h2,h⟩:=bS_ h;cases h;obtain⟨k1,k2⟩:=Rf h2;refine⟨λj d e hd he=>?_, ?_⟩
  . cases j with
    |zero=>simp at hd he;subst hd he;exact⟨b1,h1⟩
    |succ j=>exact k1 j d e (by simpa using hd) (by simpa using he)
  . have e0:min (x::r).length (y::t).length=min r.length t.length+1:=by simp only[zzT];omega
    rw[e0,List.range_succ_eq_map,List.all_cons,List.all_map,k2];have e1:Hr f (x::r) (y::t) 0=b1:=by show(f x y).getD false=b1;rw[h1];rfl
    have e2:(Hr f (x::r) (y::t)∘Nat.succ)=Hr f r t:=by
     funext j;unfold Hr;simp
    have e3:((x::r).length==(y::t).length)=(r.length==t.length):=by
     by_cases hh:r.length=t.length<;>simp[hh]
    rw[e1,e2,e3,Bool.and_assoc]
structure EqAll(A:Around)(s:Shared)(u v:Value)(b:Bool):Prop where
 rc:SeqAt.RcAt A s u v b
 ne:SeqAt.RcNeAt A s u v (!b)
 eq:SeqAt.EqAt A s u v b
section
variable{X:Cx}{kd:KD}{pins:List (Addr×Obj)}{σ:St}{H:Hp}{s:Shared}{O:Addr->Prop}
def N_(I:Inv X pins σ H s)(h:QX X.K H a xs)(h':Q1 X.K H a ys):False:=by
 obtain⟨_,_,⟨o,e,c,_⟩,_⟩:=I.tuple h;obtain⟨_,_,⟨o',n,e',c',_⟩,_⟩:=I.list h';rw[e]at e';cases e';rw[c]at c';exact absurd c' (by decide)
theorem MT(I:Inv X pins σ H s):∀(n:Nat) (v:V) (d e:D) (b:Bool),Vw X.K kd O H v d->Vw X.K kd O H v e->ZN n d e=some b->b=true
 |0,_,_,_,_,_,_,h=>by cases h
 |n+1,v,d,e,b,h1,h2,h=>by
  have lst:∀(vs:List V) (ds es:List D) (b:Bool),RpL X.K kd O H vs ds->RpL X.K kd O H vs es->Ov (ZN n) ds es=some b->b=true:=by
   intro vs
   induction vs with
   |nil=>intro ds es b r1 r2 h;cases r1;cases r2;cases h;rfl
   |cons v vs ih=>
    intro ds es b r1 r2 h;cases r1 with
    |cons a1 r1=>
     cases r2 with
     | cons a2 r2=>
            obtain⟨b1,k1,h⟩:=bS_ (h);obtain⟨c1,k2,h⟩:=bS_ h;cases h;rw[MT I n _ _ _ _ a1.vw a2.vw k1,ih _ _ _ r1 r2 k2];rfl
  cases h1 with
  |non=>cases h2;cases h;rfl
  |bl x=>cases h2;cases h;simp
  |int x=>cases h2;cases h;simp
  |str x=>cases h2;cases h;simp
  |tup r1 s1 l1=>
   cases h2 with
   |tup r2 s2 l2=>
    have:=I.tuple_inj s1 s2;subst this;exact lst _ _ _ _ l1 l2 h
   |lst s2 l2=>exact(N_ I s1 s2.sq).elim
   |_=>cases h
  |lst s1 l1=>
   cases h2 with
   |tup r2 s2 l2=>exact(N_ I s2 s1.sq).elim
   |lst s2 l2=>
    have:=I.list_inj s1.sq s2.sq;subst this;exact lst _ _ _ _ l1 l2 h
   |_=>cases h
  |_=>cases h
theorem Tz(I:Inv X pins σ H s):∀(n:Nat) (A:Around) (x y:V) (d e:D) (u v:Value) (b:Bool),A.units+n<cLine->Vw X.K kd O H x d->Vw X.K kd O H y e->RelV x u->RelV y v->ZN n d e=some b->EqAll A s u v b
 |0,_,_,_,_,_,_,_,_,_,_,_,_,_,h=>by cases h
 |n+1,A,x,y,d,e,u,v,b,hu,h1,h2,r1,r2,h=>by
  have hu0:A.units<cLine:=by omega
  have itm:∀{vs ws:List V}{its its2:List Value}{ds es:List D},RpL X.K kd O H vs ds->RpL X.K kd O H ws es->zK vs its->zK ws its2->(∀(j:Nat) d e,ds[j]? = some d->es[j]? = some e->∃c,ZN n d e=some c)->
   ∀j h1 (h2:j<its2.toArray.size),SeqAt.EqAt A.in1 s its.toArray[j] its2.toArray[j] (Hr (ZN n) ds es j):=by
   intro vs ws its its2 ds es l1 l2 v1 v2 hd j j1 j2;have q1:j<ds.length:=by rw[<-l1.length,v1.length];simpa using j1
   have q2:j<es.length:=by rw[<-l2.length,v2.length];simpa using j2
   obtain⟨a1,ha1,ra1⟩:=l1.get (zzE q1);obtain⟨a2,ha2,ra2⟩:=l2.get (zzE q2);obtain⟨u1,hu1,ru1⟩:=v1.get ha1;obtain⟨u2,hu2,ru2⟩:=v2.get ha2;obtain⟨c,hc⟩:=hd j _ _ (zzE q1) (zzE q2);have e1:its.toArray[j]=u1:=by
    have:=(zzG.mp hu1).2;simpa using this
   have e2:its2.toArray[j]=u2:=by
    have:=(zzG.mp hu2).2;simpa using this
   rw[e1,e2];have e3:Hr (ZN n) ds es j=c:=by
    unfold Hr;rw[zzE q1,zzE q2];show(ZN n _ _).getD false=c;rw[hc];rfl
   rw[e3];exact(Tz I n A.in1 a1 a2 _ _ u1 u2 c (by show A.units+1+n<cLine;omega) ra1.vw ra2.vw ru1 ru2 hc).eq
  have same:∀{a a':Addr},x = .ref a->y = .ref a'->a=a'->b=true:=by
   intro a a' e1 e2 e3;subst e1 e2 e3;exact MT I (n+1) _ _ _ _ h1 h2 h
  cases h1 with
  |non=>
   cases r1;cases h2 with
   |non=>cases r2;cases h;exact⟨SeqAt.RcAt.none_none,SeqAt.RcNeAt.none_none,SeqAt.EqAt.same _⟩
   |bl=>cases r2;cases h;exact⟨SeqAt.RcAt.none_bool _,SeqAt.RcNeAt.none_bool _,SeqAt.EqAt.none_bool _⟩
   |int=>obtain⟨t,rfl⟩:=r2;cases h;exact⟨SeqAt.RcAt.none_int _ _,SeqAt.RcNeAt.none_int _ _,SeqAt.EqAt.none_int _ _⟩
   |str=>obtain⟨t,rfl⟩:=r2;cases h;exact⟨SeqAt.RcAt.none_str _ _,SeqAt.RcNeAt.none_str _ _,SeqAt.EqAt.none_str _ _⟩
   |tup r s2 l2=>
    cases r2;cases h;obtain⟨its,rv,p,_⟩:=I.tuple s2;exact⟨SeqAt.RcAt.none_tuple p hu0,SeqAt.RcNeAt.none_tuple p hu0,SeqAt.EqAt.none_tuple p hu0⟩
   |lst s2 l2=>
    cases r2;cases h;obtain⟨its,rv,p,_⟩:=I.list s2.sq;exact⟨SeqAt.RcAt.none_list p.isList hu0,SeqAt.RcNeAt.none_list p.isList hu0,SeqAt.EqAt.none_list p.isList hu0⟩
   |_=>cases h
  |bl c=>
   cases r1;cases h2 with
   |non=>cases r2;cases h;exact⟨SeqAt.RcAt.bool_none _,SeqAt.RcNeAt.bool_none _,SeqAt.EqAt.bool_none _⟩
   |bl=>cases r2;cases h;exact⟨SeqAt.RcAt.bool_bool _ _,SeqAt.RcNeAt.bool_bool _ _,SeqAt.EqAt.bool_bool _ _⟩
   |int=>obtain⟨t,rfl⟩:=r2;cases h;exact⟨SeqAt.RcAt.bool_int _ _ _,SeqAt.RcNeAt.bool_int _ _ _,SeqAt.EqAt.bool_int _ _ _⟩
   |str=>obtain⟨t,rfl⟩:=r2;cases h;exact⟨SeqAt.RcAt.bool_str _ _ _,SeqAt.RcNeAt.bool_str _ _ _,SeqAt.EqAt.bool_str _ _ _⟩
   |tup r s2 l2=>
    cases r2;cases h;obtain⟨its,rv,p,_⟩:=I.tuple s2;exact⟨SeqAt.RcAt.bool_tuple _ p hu0,SeqAt.RcNeAt.bool_tuple _ p hu0,SeqAt.EqAt.bool_tuple _ p hu0⟩
   |lst s2 l2=>
    cases r2;cases h;obtain⟨its,rv,p,_⟩:=I.list s2.sq;exact⟨SeqAt.RcAt.bool_list _ p.isList hu0,SeqAt.RcNeAt.bool_list _ p.isList hu0,SeqAt.EqAt.bool_list _ p.isList hu0⟩
   |_=>cases h
  |int c=>
   obtain⟨t0,rfl⟩:=r1;cases h2 with
   |non=>cases r2;cases h;exact⟨SeqAt.RcAt.int_none _ _,SeqAt.RcNeAt.int_none _ _,SeqAt.EqAt.int_none _ _⟩
   |bl=>cases r2;cases h;exact⟨SeqAt.RcAt.int_bool _ _ _,SeqAt.RcNeAt.int_bool _ _ _,SeqAt.EqAt.int_bool _ _ _⟩
   |int=>obtain⟨t,rfl⟩:=r2;cases h;exact⟨SeqAt.RcAt.int_int _ _ _ _,SeqAt.RcNeAt.int_int _ _ _ _,SeqAt.EqAt.int_int _ _ _ _⟩
   |str=>obtain⟨t,rfl⟩:=r2;cases h;exact⟨SeqAt.RcAt.int_str _ _ _ _,SeqAt.RcNeAt.int_str _ _ _ _,SeqAt.EqAt.int_str _ _ _ _⟩
   |tup r s2 l2=>
    cases r2;cases h;obtain⟨its,rv,p,_⟩:=I.tuple s2;exact⟨SeqAt.RcAt.int_tuple _ _ p hu0,SeqAt.RcNeAt.int_tuple _ _ p hu0,SeqAt.EqAt.int_tuple _ _ p hu0⟩
   |lst s2 l2=>
    cases r2;cases h;obtain⟨its,rv,p,_⟩:=I.list s2.sq;exact⟨SeqAt.RcAt.int_list _ _ p.isList hu0,SeqAt.RcNeAt.int_list _ _ p.isList hu0,SeqAt.EqAt.int_list _ _ p.isList hu0⟩
   |_=>cases h
  |str c=>
   obtain⟨t0,rfl⟩:=r1;cases h2 with
   |non=>cases r2;cases h;exact⟨SeqAt.RcAt.str_none _ _,SeqAt.RcNeAt.str_none _ _,SeqAt.EqAt.str_none _ _⟩
   |bl=>cases r2;cases h;exact⟨SeqAt.RcAt.str_bool _ _ _,SeqAt.RcNeAt.str_bool _ _ _,SeqAt.EqAt.str_bool _ _ _⟩
   |int=>obtain⟨t,rfl⟩:=r2;cases h;exact⟨SeqAt.RcAt.str_int _ _ _ _,SeqAt.RcNeAt.str_int _ _ _ _,SeqAt.EqAt.str_int _ _ _ _⟩
   |str=>obtain⟨t,rfl⟩:=r2;cases h;exact⟨SeqAt.RcAt.str_str _ _ _ _,SeqAt.RcNeAt.str_str _ _ _ _,SeqAt.EqAt.str_str _ _ _ _⟩
   |tup r s2 l2=>
    cases r2;cases h;obtain⟨its,rv,p,_⟩:=I.tuple s2;exact⟨SeqAt.RcAt.str_tuple _ _ p hu0,SeqAt.RcNeAt.str_tuple _ _ p hu0,SeqAt.EqAt.str_tuple _ _ p hu0⟩
   |lst s2 l2=>
    cases r2;cases h;obtain⟨its,rv,p,_⟩:=I.list s2.sq;exact⟨SeqAt.RcAt.str_list _ _ p.isList hu0,SeqAt.RcNeAt.str_list _ _ p.isList hu0,SeqAt.EqAt.str_list _ _ p.isList hu0⟩
   |_=>cases h
  | @tup a1 vs1 ds1 r s1 l1=>
   cases r1;obtain⟨its1,rv1,p1,_⟩:=I.tuple s1;cases h2 with
   |non=>cases r2;cases h;exact⟨SeqAt.RcAt.tuple_none p1 hu0,SeqAt.RcNeAt.tuple_none p1 hu0,SeqAt.EqAt.tuple_none p1 hu0⟩
   |bl=>cases r2;cases h;exact⟨SeqAt.RcAt.tuple_bool _ p1 hu0,SeqAt.RcNeAt.tuple_bool _ p1 hu0,SeqAt.EqAt.tuple_bool _ p1 hu0⟩
   |int=>obtain⟨t,rfl⟩:=r2;cases h;exact⟨SeqAt.RcAt.tuple_int _ _ p1 hu0,SeqAt.RcNeAt.tuple_int _ _ p1 hu0,SeqAt.EqAt.tuple_int _ _ p1 hu0⟩
   |str=>obtain⟨t,rfl⟩:=r2;cases h;exact⟨SeqAt.RcAt.tuple_str _ _ p1 hu0,SeqAt.RcNeAt.tuple_str _ _ p1 hu0,SeqAt.EqAt.tuple_str _ _ p1 hu0⟩
   | @tup a2 vs2 ds2 r' s2 l2=>
    cases r2;obtain⟨its2,rv2,p2,_⟩:=I.tuple s2;obtain⟨k1,k2⟩:=Rf h;have he:=itm l1 l2 rv1 rv2 k1;have eb:((List.range (min its1.toArray.size its2.toArray.size)).all (Hr (ZN n) ds1 ds2)&&its1.toArray.size==its2.toArray.size)=b:=by
     rw[k2,zzH,zzH,<-rv1.length,<-rv2.length,l1.length,l2.length]
    have b1:=SeqAt.RcAt.tuples p1 p2 hu0 he;have b2:=SeqAt.RcNeAt.tuples p1 p2 hu0 he;rw[eb]at b1 b2;refine⟨b1,b2, ?_⟩
    by_cases ha:a1=a2
    . have hb:=same rfl rfl ha;subst ha;rw[hb];exact SeqAt.EqAt.same _
    . exact SeqAt.EqAt.of_refs ha b1
   |lst s2 l2=>
    cases r2;cases h;obtain⟨its,rv,p,_⟩:=I.list s2.sq;exact⟨SeqAt.RcAt.tuple_list p1 p.isList hu0,SeqAt.RcNeAt.tuple_list p1 p.isList hu0,SeqAt.EqAt.tuple_list p1 p.isList hu0⟩
   |_=>cases h
  | @lst a1 vs1 ds1 s1 l1=>
   cases r1;obtain⟨its1,rv1,p1,_⟩:=I.list s1.sq;cases h2 with
   |non=>cases r2;cases h;exact⟨SeqAt.RcAt.list_none p1.isList hu0,SeqAt.RcNeAt.list_none p1.isList hu0,SeqAt.EqAt.list_none p1.isList hu0⟩
   |bl=>cases r2;cases h;exact⟨SeqAt.RcAt.list_bool _ p1.isList hu0,SeqAt.RcNeAt.list_bool _ p1.isList hu0,SeqAt.EqAt.list_bool _ p1.isList hu0⟩
   |int=>obtain⟨t,rfl⟩:=r2;cases h;exact⟨SeqAt.RcAt.list_int _ _ p1.isList hu0,SeqAt.RcNeAt.list_int _ _ p1.isList hu0,SeqAt.EqAt.list_int _ _ p1.isList hu0⟩
   |str=>obtain⟨t,rfl⟩:=r2;cases h;exact⟨SeqAt.RcAt.list_str _ _ p1.isList hu0,SeqAt.RcNeAt.list_str _ _ p1.isList hu0,SeqAt.EqAt.list_str _ _ p1.isList hu0⟩
   |tup r' s2 l2=>
    cases r2;cases h;obtain⟨its2,rv2,p2,_⟩:=I.tuple s2;exact⟨SeqAt.RcAt.list_tuple p1.isList p2 hu0,SeqAt.RcNeAt.list_tuple p1.isList p2 hu0,SeqAt.EqAt.list_tuple p1.isList p2 hu0⟩
   | @lst a2 vs2 ds2 s2 l2=>
    cases r2;obtain⟨its2,rv2,p2,_⟩:=I.list s2.sq;obtain⟨k1,k2⟩:=Rf h;have he:=itm l1 l2 rv1 rv2 k1;have ez1:=zzH.trans (rv1.length.symm.trans l1.length);have ez2:=zzH.trans (rv2.length.symm.trans l2.length);have both:SeqAt.RcAt A s (.ref a1) (.ref a2) b/\SeqAt.RcNeAt A s (.ref a1) (.ref a2) (!b):=by
     by_cases hz:its1.toArray.size=its2.toArray.size
     . have b1:=SeqAt.RcAt.lists p1.isList p2.isList hz hu0 he;have b2:=SeqAt.RcNeAt.lists p1.isList p2.isList hz hu0 he;have eb:(List.range its1.toArray.size).all (Hr (ZN n) ds1 ds2)=b:=by
        rw[k2,<-ez1,<-ez2,<-hz,Nat.min_self];simp
       rw[eb]at b1 b2;exact⟨b1,b2⟩
     . have hz':(its1.toArray.size != its2.toArray.size)=true:=by simpa using hz
       have eb:b=false:=by
        rw[k2,<-ez1,<-ez2];have:(its1.toArray.size==its2.toArray.size)=false:=by simpa using hz
        rw[this,Bool.and_false]
       rw[eb];exact⟨SeqAt.RcAt.lists_lengths p1.isList p2.isList hz' hu0,SeqAt.RcNeAt.lists_lengths p1.isList p2.isList hz' hu0⟩
    refine⟨both.1,both.2, ?_⟩
    by_cases ha:a1=a2
    . have hb:=same rfl rfl ha;subst ha;rw[hb];exact SeqAt.EqAt.same _
    . exact SeqAt.EqAt.of_refs ha both.1
   |_=>cases h
  |_=>cases h
end
structure DkAt(P:Program)(w:World)(h:Heap)(a:Addr)(kvs:List (Key×V)):Prop where
 le:kvs.length<=sizeLine
 ns:(a==sysModules)=false
 ex:∃vs,KV kvs vs/\h.DictOf (yy P w) a vs
structure KdOk(X:Cx)(kd:KD):Prop where
 inj:∀a k k',kd a k->kd a k'->k=k'
 inK:∀a k,kd a k->∃o,X.K.lookup a=some o
 at_:∀a k h,kd a k->X.K.In h->DkAt X.prog X.w h a k
section
variable{X:Cx}{kd:KD}{pins:List (Addr×Obj)}{σ:St}{H:Hp}{s:Shared}{O:Addr->Prop}
def UQ(I:Inv X pins σ H s)(hk:KdOk X kd)(h:Rd H a (.dK kvs)\/kd a kvs):DkAt X.prog X.w s.heap a kvs:=by
 rcases h with h|h
 . obtain⟨z,hd,vs,rel,dd⟩:=MY I.hok h;exact⟨z,hd,vs,rel,dd⟩
 . exact hk.at_ _ _ _ h I.kIn
theorem Ho(I:Inv X pins σ H s):∀(n:Nat) (v:V) (d e x:D) (b c:Bool),Vw X.K kd O H v d->Vw X.K kd O H v e->ZN n d x=some b->ZN n e x=some c->b=c
 |0,_,_,_,_,_,_,_,_,h,_=>by cases h
 |n+1,v,d,e,x,b,c,h1,h2,h,h'=>by
  have lst:∀(vs:List V) (ds es xs:List D) (b c:Bool),RpL X.K kd O H vs ds->RpL X.K kd O H vs es->Ov (ZN n) ds xs=some b->Ov (ZN n) es xs=some c->b=c:=by
   intro vs
   induction vs with
   |nil=>intro ds es xs b c r1 r2 h h';cases r1;cases r2;exact zzZ (h.symm.trans h')
   |cons v vs ih=>
    intro ds es xs b c r1 r2 h h';cases r1 with
    |cons a1 r1=>
     cases r2 with
     | cons a2 r2=>
            cases xs with
            |nil=>cases h;cases h';rfl
            |cons x xs=>
             obtain⟨b1,k1,h⟩:=bS_ (h);obtain⟨c1,k2,h⟩:=bS_ h;obtain⟨b2,k3,h'⟩:=bS_ (h');obtain⟨c2,k4,h'⟩:=bS_ h';cases h;cases h';rw[Ho I n _ _ _ _ _ _ a1.vw a2.vw k1 k3,ih _ _ _ _ _ r1 r2 k2 k4]
  cases h1 with
  |tup r1 s1 l1=>
   cases h2 with
   |tup r2 s2 l2=>
    have:=I.tuple_inj s1 s2;subst this;cases x with
    |tup xs=>exact lst _ _ _ _ _ _ l1 l2 h h'
    |_=>exact zzZ (h.symm.trans h')
   |lst s2 l2=>exact(N_ I s1 s2.sq).elim
   |_=>cases h'
  |lst s1 l1=>
   cases h2 with
   |tup r2 s2 l2=>exact(N_ I s2 s1.sq).elim
   |lst s2 l2=>
    have:=I.list_inj s1.sq s2.sq;subst this;cases x with
    |lst xs=>exact lst _ _ _ _ _ _ l1 l2 h h'
    |_=>exact zzZ (h.symm.trans h')
   |_=>cases h'
  |dct s1 l1=>cases h
  |cl=>cases h
  |ob=>cases h
  |dt=>cases h
  |er=>cases h
  |_=>cases h2;exact zzZ (h.symm.trans h')
end
noncomputable def LK:D->Option Key
 | .int i=>some (.inl i)
 | .str x=>some (.inr x)
 |_=>none
noncomputable def ZE(kvs:List (Key×D))(k:Key):Option D:=(kvs.find? λkv=>decide (kv.1=k)).map (·.2)
def Gk{K}{kd}{O}{H}(k){vs}{ds}(h:RpM K kd O H vs ds):(∃v d,v7 vs k=some v/\ZE ds k=some d/\Rp K kd O H v d)\/(v7 vs k=none/\ZE ds k=none):=
 RpM.ind (P:=λvs ds=>(∃v d,v7 vs k=some v/\ZE ds k=some d/\Rp K kd O H v d)\/(v7 vs k=none/\ZE ds k=none)) (.inr ⟨rfl,rfl⟩) (λ{k' v d vs ds} a _ ih=>by
  by_cases e:k'=k
  . left;refine⟨_,_, ?_, ?_,a⟩
    . unfold v7;simp[e]
    . unfold ZE;simp[e]
  . rcases ih with⟨v,d,h1,h2,h3⟩|⟨h1,h2⟩
    . left;refine⟨v,d, ?_, ?_,h3⟩
      . unfold v7 at h1 ⊢;simpa[e]using h1
      . unfold ZE at h2 ⊢;simpa[e]using h2
    . right;refine⟨?_, ?_⟩
      . unfold v7 at h1 ⊢;simpa[e]using h1
      . unfold ZE at h2 ⊢;simpa[e]using h2) h
noncomputable def MI:List D->Option (List Key)
 | []=>some []
 |d::r=>(LK d).bind λk=>(MI r).bind λks=>some (k::ks)
def Oi:D->Option (List Key)
 | .tup ds=>MI ds
 |_=>none
noncomputable def UP(ks:List (List Key))(ds:List D)(k:List Key):Option D:=((ks.zip ds).find? λkv=>decide (kv.1=k)).map (·.2)
def S4{K}{kd}{O}{H}{vs}{ds}(h:RpL K kd O H vs ds):∀{k:List Key},MI ds=some k->vs=k.map kV:=
 RpL.ind (P:=λvs ds=>∀{k:List Key},MI ds=some k->vs=k.map kV) (λe=>by cases e;rfl) (λ{v d vs ds} a _ ih k e=>by
  obtain⟨k1,h1,e⟩:=bS_ (e);obtain⟨k2,h2,e⟩:=bS_ e;cases e;have hv:v=kV k1:=by
   cases a with
   |int i=>cases h1;rfl
   |str i=>cases h1;rfl
   |_=>cases h1
  rw[hv,ih h2];rfl) h
def GO{K}{kd}{O}{H}{v}{d}{k}(h:Vw K kd O H v d)(e:Oi d=some k):∃b,v = .ref b/\H b=some (.tup (k.map kV)):=by
 cases h with
 |tup rp hs rl=>
  cases rp with
  |tup n h r=>exact⟨_,rfl,by rw[h,S4 r e]⟩
 |_=>cases e
def G5{K}{kd}{O}{H}(k){vs}{ds}(h:RpL K kd O H vs ds):∀{ks:List (List Key)},ks.length=vs.length->(∃v d,v7 (ks.zip vs) k=some v/\UP ks ds k=some d/\Rp K kd O H v d)\/(v7 (ks.zip vs) k=none/\UP ks ds k=none):=
 RpL.ind (P:=λvs ds=>∀{ks:List (List Key)},ks.length=vs.length->(∃v d,v7 (ks.zip vs) k=some v/\UP ks ds k=some d/\Rp K kd O H v d)\/(v7 (ks.zip vs) k=none/\UP ks ds k=none)) (λ{ks} e=>by
  cases ks with
  |nil=>exact .inr ⟨rfl,rfl⟩
  |cons=>simp at e) (λ{v d vs ds} a _ ih ks e=>by
  cases ks with
  |nil=>simp at e
  |cons k1 ks=>
   have e':ks.length=vs.length:=by simpa using e
   unfold v7 UP;rw[List.zip_cons_cons,List.zip_cons_cons]
   by_cases hk:k1=k
   . rw[List.find?_cons_of_pos (by simpa using hk),List.find?_cons_of_pos (by simpa using hk)];exact .inl ⟨_,_,rfl,rfl,a⟩
   . rw[List.find?_cons_of_neg (by simpa using hk),List.find?_cons_of_neg (by simpa using hk)];exact ih e') h
noncomputable def anyF(f:D->Option Bool):List D->Option Bool
 | []=>some false
 |x::r=>(f x).bind λb=>(anyF f r).bind λc=>some (b||c)
def Oh(b:Bool):R0:=.im (.bl b)
noncomputable def rJ(x:D):D->Option Bool
 | .lst ys=>anyF (λy=>ZN 50 y x) ys
 | .tup ys=>anyF (λy=>ZN 50 y x) ys
 | .str y=>match x with | .str i=>some (!(Builtin.Str.occurrences y i 0 y.length 1).isEmpty)|_=>none
 | .dct kvs=>(LK x).bind λk=>some (ZE kvs k).isSome
 | .dt ks ds=>(Oi x).bind λk=>some (UP ks ds k).isSome
 |_=>none
noncomputable def sS:D->D->Option Bool
 |d,.non=>some (match d with | .non=>true|_=>false)
 |d,.bl b=>match d with | .bl c=>some (c==b)|_=>some false
 |_,_=>none
def BE(f:Int->Int->Bool):D->D->Option R0:=CW λi j=>some (Oh (f i j))
noncomputable def zB(o:CmpOp)(d e:D):Option R0:=match o with
 | .Eq=>(ZN 60 d e).bind λb=>some (Oh b)
 | .NotEq=>(ZN 60 d e).bind λb=>some (Oh !b)
 | .Lt=>BE (λi j=>decide (i<j)) d e
 | .LtE=>BE (λi j=>decide (i<=j)) d e
 | .Gt=>BE (λi j=>decide (j<i)) d e
 | .GtE=>BE (λi j=>decide (j<=i)) d e
 | .In=>(rJ d e).bind λb=>some (Oh b)
 | .NotIn=>(rJ d e).bind λb=>some (Oh !b)
 | .Is=>(sS d e).bind λb=>some (Oh b)
 | .IsNot=>(sS d e).bind λb=>some (Oh !b)
def Xq{o:Option Bool}{f:Bool->Bool}{r}(h:(o.bind λb=>some (Oh (f b)))=some r):∃k,r = .im (.bl k):=by
 obtain⟨b,_,h⟩:=bS_ h;cases h;exact⟨_,rfl⟩
def UD(h:BE f x y=some r):∃k,r = .im (.bl k):=by
 obtain⟨i,_,h⟩:=bS_ (h);obtain⟨j,_,h⟩:=bS_ h;cases h;exact⟨_,rfl⟩
def Ts(op:CmpOp)(x y:D)(r)(h:zB op x y=some r):∃k,r = .im (.bl k):=by
 cases op with
 |Eq=>exact Xq h
 |NotEq=>exact Xq h
 |Lt=>exact UD h
 |LtE=>exact UD h
 |Gt=>exact UD h
 |GtE=>exact UD h
 |In=>exact Xq h
 |NotIn=>exact Xq h
 |Is=>exact Xq h
 |IsNot=>exact Xq h
section
variable{X:Cx}{kd:KD}{pins:List (Addr×Obj)}{σ:St}{H:Hp}{s:Shared}{O:Addr->Prop}
noncomputable def Ei(K:zzA)(kd:KD)(O:Addr->Prop)(H:Hp)(n:Nat)(x:D)(u:Value):Bool:=@decide (∃v d,RelV v u/\Rp K kd O H v d/\ZN n d x=some true) (Classical.propDecidable _)
def FR(I:Inv X pins σ H s)(hk:KdOk X kd)(r:RelV v u)(p:Rp X.K kd O H v d)(e:ZN n d x=some b):Ei X.K kd O H n x u=b:=by
 unfold Ei;cases b with
 |true=>exact @zyO _ (Classical.propDecidable _) ⟨v,d,r,p,e⟩
 |false=>
  refine @zyG _ (Classical.propDecidable _) λ⟨v',d',r',p',e'⟩=>?_;have:=r.inj r';subst this;exact Bool.noConfusion (Ho I n _ _ _ _ _ _ p.vw p'.vw e e')
def Uq(I:Inv X pins σ H s)(hk:KdOk X kd)(hv:zK vs us)(h:RpL X.K kd O H vs ds)(e:anyF (λy=>ZN n y x) ds=some b):us.any (Ei X.K kd O H n x)=b:=
 RpL.ind (P:=λvs ds=>∀us b,zK vs us->anyF (λy=>ZN n y x) ds=some b->us.any (Ei X.K kd O H n x)=b) (λus b hv e=>by cases e;cases hv;rfl) (λ{v d vs ds} a _ ih us b hv h=>by
  cases hv with
  |cons r t=>
   obtain⟨b1,h1,h⟩:=bS_ (h);obtain⟨c1,h2,h⟩:=bS_ h;cases h;rw[List.any_cons,FR I hk r a h1,ih _ _ t h2]) h us b hv e
theorem Xd:∀{ds:List D}{b:Bool},anyF f ds=some b->∀d ∈ ds,∃c,f d=some c
 | [],_,_,d,hd=>by simp at hd
 |x::r,b,h,d,hd=>by
  obtain⟨b1,h1,h⟩:=bS_ (h);obtain⟨c1,h2,h⟩:=bS_ h
  rcases zzC.mp hd with e|e
  . subst e;exact⟨b1,h1⟩
  . exact Xd h2 d e
def UB(I:Inv X pins σ H s)(hk:KdOk X kd)(hu:A.units+n<cLine)(vx:Vw X.K kd O H x d)(rx:RelV x v)(hv:zK vs us)(h:RpL X.K kd O H vs ds)(k:∀e ∈ ds,∃c,ZN n e d=some c):∀u ∈ us,SeqAt.EqAt A s u v (Ei X.K kd O H n d u):=
 RpL.ind (P:=λvs ds=>∀us,zK vs us->(∀e ∈ ds,∃c,ZN n e d=some c)->∀u ∈ us,SeqAt.EqAt A s u v (Ei X.K kd O H n d u)) (λus hv _ u hu=>by cases hv;simp at hu) (λa q ih us hv h u hm=>by
  cases hv with
  |cons r t=>
   rcases zzC.mp hm with e|e
   . subst e;obtain⟨c,hc⟩:=h _ zzF;rw[FR I hk r a hc];exact(Tz I n A _ _ _ _ _ _ _ hu a.vw vx r rx hc).eq
   . exact ih _ t (λe he=>h e (zzD _ he)) u e) h us hv k
def RD(vx:Vw X.K kd O H x d)(rx:RelV x v)(e:sS d (.bl b)=some c)(h:Q c s):wpAny (model X.prog X.w) A (isSame v (.bool b)) Q E s:=by
 cases vx with
 |non=>cases rx;cases e;exact zxH h
 |bl k=>
  cases rx;have e:=e;cases e;refine zxH ?_;cases k<;>cases b<;>exact h
 |int=>obtain⟨t,rfl⟩:=rx;cases e;exact zxH h
 |str=>obtain⟨t,rfl⟩:=rx;cases e;exact zxH h
 |tup=>cases rx;cases e;exact zxH h
 |lst=>cases rx;cases e;exact zxH h
 |dct=>cases rx;cases e;exact zxH h
 |cl=>cases rx;cases e;exact zxH h
 |ob=>cases rx;cases e;exact zxH h
 |dt=>cases rx;cases e;exact zxH h
 |er=>cases rx;cases e;exact zxH h
def Rm(hk:KdOk X kd)(hu:X.A.units+100<cLine)(op):J1 X kd (compareOp op) (zB op):=by
 intro pins s σ H x y v u Q I rx ry h;obtain⟨O,d,e,r,ht,vx,vy,he,q⟩:=h;cases op with
 |Eq=>
  obtain⟨b,h1,he⟩:=bS_ (he);cases he;exact(Tz I 60 X.A x y d e v u b (by omega) vx vy rx ry h1).rc _ _ _ _ (y8 I (zZ q (.bl _)) rfl)
 |NotEq=>
  obtain⟨b,h1,he⟩:=bS_ (he);cases he;exact(Tz I 60 X.A x y d e v u b (by omega) vx vy rx ry h1).ne _ _ _ _ (y8 I (zZ q (.bl _)) rfl)
 |Lt=>
  obtain⟨i,j,rfl,rfl,he⟩:=ZD vx vy he;cases he;exact DO pins s σ H _ _ v u Q I rx ry ⟨_,_,rfl,rfl,zZ q (.bl _)⟩
 |LtE=>
  obtain⟨i,j,rfl,rfl,he⟩:=ZD vx vy he;cases he;exact uy pins s σ H _ _ v u Q I rx ry ⟨_,_,rfl,rfl,zZ q (.bl _)⟩
 |Gt=>
  obtain⟨i,j,rfl,rfl,he⟩:=ZD vx vy he;cases he;exact uq pins s σ H _ _ v u Q I rx ry ⟨_,_,rfl,rfl,zZ q (.bl _)⟩
 |GtE=>
  obtain⟨i,j,rfl,rfl,he⟩:=ZD vx vy he;cases he;exact uz pins s σ H _ _ v u Q I rx ry ⟨_,_,rfl,rfl,zZ q (.bl _)⟩
 |In=>
  obtain⟨b,h1,he⟩:=bS_ (he);cases he;cases vy with
  |lst hs rl=>
   cases ry;obtain⟨its,rv,p,_⟩:=I.list hs.sq;refine SeqAt.in_listAt (Ei X.K kd O H 50 d) p.isList (λw hw=>UB I hk (by show X.A.units+1+50<cLine;omega) vx rx rv rl (Xd h1) w (by simpa using hw)) ?_;have:=Uq I hk rv rl h1;rw[show its.toArray.any (Ei X.K kd O H 50 d)=b by rw[<-this];simp];exact y8 (I) (zZ q (.bl _)) rfl
  |tup rp hs rl=>
   cases ry;obtain⟨its,rv,p,_⟩:=I.tuple hs;refine SeqAt.in_tupleAt (Ei X.K kd O H 50 d) p (λw hw=>UB I hk (by show X.A.units+1+50<cLine;omega) vx rx rv rl (Xd h1) w (by simpa using hw)) ?_;have:=Uq I hk rv rl h1;rw[show its.toArray.any (Ei X.K kd O H 50 d)=b by rw[<-this];simp];exact y8 (I) (zZ q (.bl _)) rfl
  |str z=>
   cases vx with
   |str i=>cases h1;exact EH pins s σ H _ _ v u Q I rx ry ⟨_,_,rfl,rfl,zZ q (.bl _)⟩
   |_=>cases h1
  |dct hs rm=>
   cases ry;obtain⟨k,k1,h1⟩:=bS_ h1;cases h1;obtain⟨z,hd,vs,rel,dd⟩:=UQ I hk hs;have ek:x=kV k:=by
    cases vx with
    |int i=>cases k1;rfl
    |str i=>cases k1;rfl
    |_=>cases k1
   subst ek;refine wpAny_in_of (Ub rx) hd dd.mapOf ?_;rw[<-(rel.val k).isSome_eq]
   rcases Gk k rm with⟨v1,d1,e1,e2,_⟩|⟨e1,e2⟩
   . rw[e1];rw[e2]at q;exact y8 (I.tok _) (zZ q (.bl _)) rfl
   . rw[e1];rw[e2]at q;exact y8 (I.tok _) (zZ q (.bl _)) rfl
  |dt hH l rl=>
   cases ry;obtain⟨k,k1,h1⟩:=bS_ h1;cases h1;obtain⟨b,rfl,hb⟩:=GO vx k1;refine rP (by show X.A.units+1<cLine;omega) I (Ex.t hH hb) rx λs' I'=>?_
   rcases G5 k rl l with⟨v1,d1,e1,e2,_⟩|⟨e1,e2⟩
   . rw[e1];rw[e2]at q;exact y8 I' (zZ q (.bl _)) rfl
   . rw[e1];rw[e2]at q;exact y8 I' (zZ q (.bl _)) rfl
  |_=>cases h1
 |NotIn=>
  obtain⟨b,h1,he⟩:=bS_ (he);cases he;cases vy with
  |lst hs rl=>
   cases ry;obtain⟨its,rv,p,_⟩:=I.list hs.sq;refine SeqAt.notIn_listAt (Ei X.K kd O H 50 d) p.isList (λw hw=>UB I hk (by show X.A.units+1+50<cLine;omega) vx rx rv rl (Xd h1) w (by simpa using hw)) ?_;have:=Uq I hk rv rl h1;rw[show its.toArray.any (Ei X.K kd O H 50 d)=b by rw[<-this];simp];exact y8 (I) (zZ q (.bl _)) rfl
  |tup rp hs rl=>
   cases ry;obtain⟨its,rv,p,_⟩:=I.tuple hs;refine SeqAt.notIn_tupleAt (Ei X.K kd O H 50 d) p (λw hw=>UB I hk (by show X.A.units+1+50<cLine;omega) vx rx rv rl (Xd h1) w (by simpa using hw)) ?_;have:=Uq I hk rv rl h1;rw[show its.toArray.any (Ei X.K kd O H 50 d)=b by rw[<-this];simp];exact y8 (I) (zZ q (.bl _)) rfl
  |str z=>
   cases vx with
   |str i=>cases h1;exact Gx pins s σ H _ _ v u Q I rx ry ⟨_,_,rfl,rfl,zZ q (.bl _)⟩
   |_=>cases h1
  |dct hs rm=>
   cases ry;obtain⟨k,k1,h1⟩:=bS_ h1;cases h1;obtain⟨z,hd,vs,rel,dd⟩:=UQ I hk hs;have ek:x=kV k:=by
    cases vx with
    |int i=>cases k1;rfl
    |str i=>cases k1;rfl
    |_=>cases k1
   subst ek;refine wpAny_notIn_of (Ub rx) hd dd.mapOf ?_;rw[<-(rel.val k).isSome_eq]
   rcases Gk k rm with⟨v1,d1,e1,e2,_⟩|⟨e1,e2⟩
   . rw[e1];rw[e2]at q;exact y8 (I.tok _) (zZ q (.bl _)) rfl
   . rw[e1];rw[e2]at q;exact y8 (I.tok _) (zZ q (.bl _)) rfl
  |dt hH l rl=>
   cases ry;obtain⟨k,k1,h1⟩:=bS_ h1;cases h1;obtain⟨b,rfl,hb⟩:=GO vx k1;refine HE (by show X.A.units+1<cLine;omega) I (Ex.t hH hb) rx λs' I'=>?_
   rcases G5 k rl l with⟨v1,d1,e1,e2,_⟩|⟨e1,e2⟩
   . rw[e1];rw[e2]at q;exact y8 I' (zZ q (.bl _)) rfl
   . rw[e1];rw[e2]at q;exact y8 I' (zZ q (.bl _)) rfl
  |_=>cases h1
 |Is=>
  obtain⟨b,h1,he⟩:=bS_ (he);cases he;cases vy with
  |non=>
   refine Jb pins s σ H _ _ v u Q I rx ry ⟨rfl, ?_⟩;have:decide (x=V.non)=b:=by cases vx<;>(cases h1;rfl)
   rw[this];exact zZ q (.bl b)
  |bl c=>
   cases ry;exact zxG (RD vx rx h1 (zxH (y8 I (zZ q (.bl _)) rfl)))
  |_=>cases h1
 |IsNot=>
  obtain⟨b,h1,he⟩:=bS_ (he);cases he;cases vy with
  |non=>
   refine HK pins s σ H _ _ v u Q I rx ry ⟨rfl, ?_⟩;have:decide (x=V.non)=b:=by cases vx<;>(cases h1;rfl)
   rw[this];exact zZ q (.bl _)
  |bl c=>
   cases ry;exact zxG (RD vx rx h1 (zxH (y8 I (zZ q (.bl _)) rfl)))
  |_=>cases h1
end
def El{K}{kd}{O}{H}{vs}{ds}{i}{d}(r:RpL K kd O H vs ds)(h:GU ds i=some d):∃v,GU vs i=some v/\Rp K kd O H v d:=by
 unfold GU at h ⊢;obtain⟨j,h1,h2⟩:=bS_ h;rw[r.length,h1];exact r.get h2
noncomputable def Ss(o:Option D):Option R0:=o.bind λd=>some (.im d)
noncomputable def zy(x y:D):Option R0:=match x with
 | .lst xs=>(Ln y).bind λi=>Ss (GU xs i)
 | .tup xs=>(Ln y).bind λi=>Ss (GU xs i)
 | .str x=>(Ln y).bind λi=>if x.length<=sizeLine then(GU x.cps.toList i).bind λc=>some (.im (.str ⟨#[c]⟩))else none
 | .dct kvs=>(LK y).bind λk=>Ss (ZE kvs k)
 |_=>none
def UY(h:Ss o=some r):∃d,o=some d/\r = .im d:=by
 obtain⟨d,h1,h2⟩:=bS_ (h);cases h2;exact⟨d,h1,rfl⟩
section
variable{X:Cx}{kd:KD}
def Nb{K}{O}{H}{x}{d}{k}(vx:Vw K kd O H x d)(e:LK d=some k):x=kV k:=by
 cases vx with
 |int i=>cases e;rfl
 |str i=>cases e;rfl
 |_=>cases e
def rK(hk:KdOk X kd):qw X kd zy:=by
 intro value slice pins s σ H x y v u Q I rx ry h hs;obtain⟨O,d,e,r,ht,vx,vy,he,q⟩:=h;cases vx with
 |lst hr rl=>
  obtain⟨i,h0,he⟩:=bS_ (he);obtain⟨rfl,rfl⟩:=Yj vy h0;obtain⟨d,h1,rfl⟩:=UY he;obtain⟨w,hw,rw'⟩:=El rl h1;exact VB value slice pins s σ H _ _ v u Q I rx ry ⟨_,_,_,w,rfl,rfl,hr.sq,hw,zZ q rw'⟩ hs
 |tup rp hr rl=>
  obtain⟨i,h0,he⟩:=bS_ (he);obtain⟨rfl,rfl⟩:=Yj vy h0;obtain⟨d,h1,rfl⟩:=UY he;obtain⟨w,hw,rw'⟩:=El rl h1;exact GM value slice pins s σ H _ _ v u Q I rx ry ⟨_,_,_,w,rfl,rfl,hr,hw,zZ q rw'⟩ hs
 |str z=>
  obtain⟨i,h0,he⟩:=bS_ (he);obtain⟨rfl,rfl⟩:=Yj vy h0;obtain⟨hz,he⟩:=ite_some' he;obtain⟨c,h1,he⟩:=bS_ he;cases he;exact Af value slice pins s σ H _ _ v u Q I rx ry ⟨_,_,c,rfl,rfl,hz,h1,zZ q (.str _)⟩ hs
 |dct hr rm=>
  obtain⟨k,h1,he⟩:=bS_ (he);obtain⟨d,h2,rfl⟩:=UY he;cases rx;obtain⟨z,hd,vs,rel,dd⟩:=UQ I hk hr;have:=Nb vy h1;subst this
  rcases Gk k rm with⟨v1,d1,e1,e2,rp⟩|⟨e1,e2⟩
  . rw[h2]at e2;cases e2;obtain⟨w',hw,rw'⟩:=WG.some_of (by rw[<-e1];exact rel.val k);exact tail_any dd.typeIs PySem.F.slot_dict_getitem.lookup (wpAny_getItem_of (Ub ry) dd.mapOf hw ⟨v1,H,I.tok _,rw',zZ q rp⟩) hs
  . rw[h2]at e2;cases e2
 |_=>cases he
noncomputable def cutD(xs:List D)(lo hi:Option Int):List D:=(xs.drop (HT.sIx xs.length 0 lo)).take (HT.sIx xs.length xs.length hi-HT.sIx xs.length 0 lo)
def M8{K}{O}{H}{vs}{ds}(r:RpL K kd O H vs ds)(lo hi):RpL K kd O H (E_ vs lo hi) (cutD ds lo hi):=by
 unfold E_ cutD;rw[r.length];exact(r.drop _).take _
noncomputable def Jh(x:D)(lo hi:Option Int):Option R0:=match x with
 | .lst xs=>some (.fl (cutD xs lo hi))
 | .tup xs=>if HT.sIx xs.length 0 lo=0/\HT.sIx xs.length xs.length hi=xs.length then none else some (.im (.tup (cutD xs lo hi)))
 |_=>none
abbrev OF:=AS->Option (Option Int×AS)
def oN:OF:=λas=>some (none,as)
noncomputable def oS(f:EF):OF:=λas=>(f as).bind λp=>(qy p.1).bind λi=>some (some i,p.2)
noncomputable def A9(fa:EF)(fl fh:OF)(g:D->Option Int->Option Int->Option R0):EF:=λas=>(fa as).bind λp=>(fl p.2).bind λl=>(fh l.2).bind λh=>(p.1.frz.view h.2).bind λx=>(g x.1 l.1 h.1).bind λr=>(wrap x.2 r).bind λz=>some (z,h.2)
def pb(K:zzA)(kd:KD)(f:OF):TO:=λσ H Q=>∃F B ad as o as',Rel K kd F B [] ad as σ H/\f as=some (o,as')/\
 ∀ad' H',Rel K kd F B [] ad' as' σ H'->Grow (Gw [] ad) H (Gw [] ad') H'->Q o H'
@[irreducible] def AO(X:Cx)(kd:KD)(e:Option Expr)(f:OF):Prop:=PO X e (pb X.K kd f)
def Si(h:PO X e t)(k:∀σ H Q,t' σ H Q->t σ H Q):PO X e t':=λpins s σ H Q I q=>h pins s σ H Q I (k σ H Q q)
def M5:AO X kd none oN:=by with_unfolding_all exact(Si HU λσ H Q h=>by
 obtain⟨F,B,ad,as,o,as',R,e,q⟩:=h;cases e;exact q ad H R Grow.refl)
def JJ{K}{F B}{T}{ad}{σ}{H}{v}{st}{c}(h:xx K kd F B T ad σ H v (.ow (.lf st (.int c)))):T=[]/\v = .int c:=by
 have h:=h;generalize hT:Gw T ad=G at h;cases h with
 |lf rp=>cases rp;exact⟨rfl,rfl⟩
def MW{a}{fa}(ha:AE X kd a fa):AO X kd (some a) (oS fa):=by with_unfolding_all exact(Si (HD ha) λσ H Q h=>by
 obtain⟨F,B,ad,as,o,as',R,e,q⟩:=h;obtain⟨⟨p,as1⟩,h1,e⟩:=bS_ (e);obtain⟨i,e1,e⟩:=bS_ e;obtain⟨st,rfl⟩:=AR e1;cases e;refine⟨F,B,ad,as,_,_,R,h1,λv T' ad1 H1 R1 rv1 g1=>?_⟩;obtain⟨rfl,rfl⟩:=JJ rv1;exact⟨i,rfl,q ad1 H1 R1 g1⟩)
def tI:tu X (λx lo hi H Q=>∃O d r,(∀a,O a->H a≠none)/\Vw X.K kd O H x d/\Jh d lo hi=some r/\RQ X.K kd O H Q r):=by
 intro pins s σ H x v vl vu lo hi sl Q I rx hs pl pu h;obtain⟨O,d,r,ht,vx,he,q⟩:=h;cases vx with
 |lst hr rl=>cases he;exact Hw pins s σ H _ v vl vu lo hi sl Q I rx hs pl pu ⟨_,_,rfl,hr.sq,WN q (M8 rl lo hi)⟩
 |tup rp hr rl=>
  have he:(if _ then none else some _:Option R0)=_:=he
  split at he
  . cases he
  . rename_i hw;cases he;exact Ao pins s σ H _ v vl vu lo hi sl Q I rx hs pl pu ⟨_,_,rfl,hr,by rw[rl.length];exact hw,NH ht q (M8 rl lo hi)⟩
 |_=>cases he
def Li{a}{lo hi}{fa}{fl fh}{pos p2}(ha:AE X kd a fa)(hl:AO X kd lo fl)(hh:AO X kd hi fh):AE X kd (.Subscript a (.Slice lo hi none p2) pos) (A9 fa fl fh Jh):=by with_unfolding_all exact(yu (FO tI ha hl hh) λσ H Q h=>by
 obtain⟨F,B,ad,as,r,as',R,e,q⟩:=h;obtain⟨⟨p,as1⟩,h1,e⟩:=bS_ (e);obtain⟨⟨l,as2⟩,h2,e⟩:=bS_ e;obtain⟨⟨u,as3⟩,h3,e⟩:=bS_ e;obtain⟨⟨d,lv⟩,h4,e⟩:=bS_ e;obtain⟨r',h5,e⟩:=bS_ e;obtain⟨z,h6,e⟩:=bS_ e;cases e;refine vi R h1 λv ad1 H1 R1 rv1 g1=>⟨F,B,ad1,as1,l,as2,R1,h2,λad2 H2 R2 g2=>⟨F,B,ad2,as2,u,_,R2,h3,λad3 H3 R3 g3=>?_⟩⟩;exact⟨_,d,r',R3.tr _,xx.vw R3 ((rv1.grow g2).grow g3) h4,h5,Zp R3 h6 λw T' H' R' rv' g'=>q w T' ad3 H' R' rv' (((g1.trans g2).trans g3).trans g')⟩)
noncomputable def IQ:D->String
 | .non=>"NoneType" | .bl _=>"bool" | .int _=>"int" | .str _=>"str" | .tup _=>"tuple" | .lst _=>"list" | .dct _=>"dict"|_=>""
def NI:D->Bool
 | .cl _=>false | .ob _ _ _=>false | .dt _ _=>false | .er _ _ _=>false|_=>true
def P0(t c:String):Bool:=t==c||(t=="bool"&&c=="int")
noncomputable def VV(c:String):Bool:=c=="int"||c=="bool"||c=="str"||c=="list"||c=="tuple"||c=="dict"
def Io(K)(d)(c)(h:VV c=true)(ho:NI d=true):W.kitOne K (.type (IQ d)) (.type c)=some (P0 (IQ d) c):=by
 have:c="int"\/c="bool"\/c="str"\/c="list"\/c="tuple"\/c="dict":=by
  unfold VV at h;simp only[Bool.or_eq_true,beq_iff_eq]at h
  rcases h with((((h|h)|h)|h)|h)|h<;>simp[h]
 rcases this with rfl|rfl|rfl|rfl|rfl|rfl<;>cases d<;>first|rfl|cases ho
def IR(hk:KdOk X kd){pins}{σ}{H}{s}{O}{A}{E}{Q}{c}{x}{u}{d}(I:Inv X pins σ H s)(rx:RelV x u)(vx:Vw X.K kd O H x d)(hc:VV c=true)(ho:NI d=true)
 (h:∀tk,Q (.bool (P0 (IQ d) c)) {s with toks:=tk}):wpAny (model X.prog X.w) A (call (.builtin "isinstance") [u,.type c]) Q E s:=by
 have e:=Io X.K d c hc ho;cases vx with
 |non=>cases rx;exact W.kia_one W.kitx_none I.kIn True.intro e (λz=>nomatch z) h
 |bl y=>cases rx;exact W.kia_one W.kitx_bool I.kIn True.intro e (λz=>nomatch z) h
 |int i=>obtain⟨t,rfl⟩:=rx;exact W.kia_one W.kitx_int I.kIn True.intro e (λz=>nomatch z) h
 |str y=>obtain⟨t,rfl⟩:=rx;exact W.kia_one W.kitx_str I.kIn True.intro e (λz=>nomatch z) h
 |lst hr rl=>
  cases rx;obtain⟨its,rv,⟨o,n,h1,h2,_⟩,_⟩:=I.list hr.sq;exact W.kia_one W.kitx_list I.kIn ⟨o,h1,h2⟩ e (λz=>nomatch z) h
 |tup rp hr rl=>
  cases rx;obtain⟨its,rv,⟨o,h1,h2,_⟩,_⟩:=I.tuple hr;exact W.kia_one W.kitx_tuple I.kIn ⟨o,h1,h2⟩ e (λz=>nomatch z) h
 |dct hr rm=>
  cases rx;obtain⟨z,hd,vs,rel,⟨o,es,ep,h1,h2,_⟩⟩:=UQ I hk hr;exact W.kia_one W.kitx_dict I.kIn ⟨o,h1,h2.1⟩ e (λz=>nomatch z) h
 |cl=>cases ho
 |ob=>cases ho
 |dt=>cases ho
 |er=>cases ho
end
noncomputable def Zu:List D->Option (List Int)
 | []=>some []
 | .int i::r=>(Zu r).bind λs=>some (i::s)
 |_::_=>none
def Aw:List Int->Int
 | []=>0
 |x::r=>r.foldl (λa b=>if a<b then b else a) x
theorem Ta:∀(r:List Int) (x:Int),r.foldl (λa b=>if a<b then b else a) x ∈ x::r/\∀a ∈ x::r,a<=r.foldl (λa b=>if a<b then b else a) x
 | [],x=>⟨by simp,by simp⟩
 |y::r,x=>by
  rw[List.foldl_cons];obtain⟨h1,h2⟩:=Ta r (if x<y then y else x);refine⟨?_,λa ha=>?_⟩
  . rcases zzC.mp h1 with e|e
    . rw[e];split<;>simp
    . exact zzD _ (zzD _ e)
  . have h3:=h2 _ zzF
    rcases zzC.mp ha with e|e
    . subst e;exact Int.le_trans (by split<;>omega) h3
    . rcases zzC.mp e with e|e
      . subst e;exact Int.le_trans (by split<;>omega) h3
      . exact h2 a (zzD _ e)
def H0(h1:M ∈ ns)(h2:∀a ∈ ns,a<=M):Aw ns=M:=by
 cases ns with
 |nil=>simp at h1
 |cons x r=>
  obtain⟨k1,k2⟩:=Ta r x;have a1:=k2 M h1;have a2:=h2 _ k1;show r.foldl _ x=M;omega
noncomputable def Ju(f:D->Option R0)(ds:List D):Option R0:=match ds with
 | [x]=>f x
 |_=>none
def Qr{K}{kd}{O}{H}{f}{xs}{ds}{r}(vl:VwL K kd O H xs ds)(h:Ju f ds=some r):∃x d,xs=[x]/\Vw K kd O H x d/\f d=some r:=by
 cases vl with
 |nil=>cases h
 |cons a b=>
  cases b with
  |nil=>exact⟨_,_,rfl,a,h⟩
  |cons _ _=>cases h
noncomputable def rQ:D->Option R0
 | .lst ds=>some (.im (.int ds.length))
 | .tup ds=>some (.im (.int ds.length))
 | .str x=>if x.length<=sizeLine then some (.im (.int x.length))else none
 | .dct kvs=>some (.im (.int kvs.length))
 | .dt _ ds=>some (.im (.int ds.length))
 |_=>none
def Uc:List D->Option R0:=Ju rQ
noncomputable def rO:D->Option R0
 | .int i=>some (.im (.int i))
 | .bl b=>some (.im (.int (if b then 1 else 0)))
 |_=>none
noncomputable def tY:D->Option R0
 | .lst ds=>some (.fl ds)
 | .tup ds=>some (.fl ds)
 |_=>none
def lstP:List D->Option R0:=Ju tY
noncomputable def dctP:List D->Option R0
 | [.dct kvs]=>some (.fd kvs)
 |_=>none
noncomputable def DP(ds:List D):Option R0:=match ds with
 | [x,y]=>CW (λi j=>some (.im (.int (if j > i then j else i)))) x y
 | [x]=>(IB x).bind λds=>(Zu ds).bind λns=>if 0<ns.length then some (.im (.int (Aw ns)))else none
 |_=>none
def Me{K}{kd}{O}{H}{xs}{d}(h:VwL K kd O H xs [d]):∃x,xs=[x]/\Vw K kd O H x d:=by
 cases h with
 |cons a b=>cases b;exact⟨_,rfl,a⟩
def SY{K}{kd}{O}{H}{vs}{ds}{ns}(h:RpL K kd O H vs ds)(e:Zu ds=some ns):vs=ns.map V.int:=
 RpL.ind (P:=λvs ds=>∀ns,Zu ds=some ns->vs=ns.map V.int) (λns e=>by cases e;rfl) (λ{v d vs ds} a _ ih ns e=>by
  cases d with
  |int i=>
   obtain⟨s,h1,h2⟩:=bS_ (e);cases h2;cases a;rw[ih _ h1];rfl
  |_=>cases e) h ns e
section
variable{X:Cx}{kd:KD}
def IA(I:Inv X pins σ H s)(hH:H a=some (.dT kvs))(q:∀t s',Inv X pins σ H s'->Q (.int kvs.length t) s'):wpAny (model X.prog X.w) A (call (.builtin "len") [.ref a]) Q E s:=by
 obtain⟨hz,hd,xs,rel,dd⟩:=CO I.hok hH;have ty:=dd.typeIs;obtain⟨o,es,ep,ho,_,hdat,h4,_,_⟩:=dd;have sz:es.size=kvs.length:=by rw[show kvs.length=xs.length from Paired.length rel,<-zyT,h4,zzB]
 have body:MeetsIn X.prog X.w (Builtin.«dict.__len__» ⟨[.ref a],[]⟩) (λ_ R s'=>s'=s/\R (.ok (.ret (.int kvs.length s.toks))) {s with toks:=s.toks+1}):=.of_wp λA' R s' z=>by
  obtain⟨rfl,z⟩:=z;show wpAny _ _ (dictSize a >>= _) _ _ s';unfold dictSize;exact zxG (zxG (wpAny_dictEntries ho hdat (zxH (zxG (wpAny_pendingCount_other hd (wpAny_ret_mkInt (by rw[Nat.add_zero,sz];exact z)))))))
 refine Calls.call_function_entry kind_len plain_len entry_len (args_len1 _) ?_;unfold Builtin.«len»;exact zxG (zxH (zxG (wpAny_callSpecial?_slot ty PySem.F.slot_dict_len (call_meetsIn PySem.F.slot_dict_len ty PySem.F.entry_dict_len (PySem.F.args_dict_len_1 _) body ⟨rfl,show wpAny _ _ _ _ _ {s with toks:=s.toks+1}from zxG (zxN (zxH (zxG (wpAny_letGo (by
  rw[if_neg (by omega)];rw[if_neg (by rw[sizeLine_eq]at hz;omega)];exact zxG (wpAny_mkInt (zxH ⟨_,rfl,q _ _ ((I.tok _).tok _)⟩)))))))⟩))))
def Qj(hk:KdOk X kd):Y6 X kd (.builtin "len") Uc:=by
 intro pins s σ H xs us Q I r h;obtain⟨O,ds,z,ht,vl,he,q⟩:=h;obtain⟨x,d,rfl,vx,he⟩:=Qr vl he;cases vx with
 |lst hr rl=>cases he;exact Ym pins s σ H _ us Q I r ⟨_,_,rfl,.inl hr.sq,by rw[rl.length];exact zZ q (.int _)⟩
 |tup rp hr rl=>cases he;exact Ym pins s σ H _ us Q I r ⟨_,_,rfl,.inr hr,by rw[rl.length];exact zZ q (.int _)⟩
 |str y=>
  obtain⟨c,rfl⟩:=zx he;exact Tw pins s σ H _ us Q I r ⟨_,rfl,c,zZ q (.int _)⟩
 |dct hr rm=>
  cases he;obtain⟨u,rfl,ru⟩:=vals1 r;cases ru;obtain⟨z,hd,vs,rel,dd⟩:=UQ I hk hr;refine call_len_dict hd dd (by rw[<-rel.length];rw[sizeLine_eq]at z;omega) ?_;rw[<-rel.length,rm.length];exact⟨.int _,H,I.tok _,⟨_,rfl⟩,zZ q (.int _)⟩
 |dt hH l rl=>
  cases he;obtain⟨u,rfl,ru⟩:=vals1 r;cases ru;refine IA I hH λt s' I'=>⟨.int _,H,I',⟨_,rfl⟩, ?_⟩;rw[List.length_zip,l,Nat.min_self,rl.length];exact zZ q (.int _)
 |_=>cases he
def EU:Y6 X kd (.type "list") lstP:=by
 intro pins s σ H xs us Q I r h;obtain⟨O,ds,z,ht,vl,he,q⟩:=h;obtain⟨x,d,rfl,vx,he⟩:=Qr vl he;cases vx with
 |lst hr rl=>cases he;exact W7 pins s σ H _ us Q I r ⟨_,_,rfl,.inl hr.sq,WN q rl⟩
 |tup rp hr rl=>cases he;exact W7 pins s σ H _ us Q I r ⟨_,_,rfl,.inr hr,WN q rl⟩
 |_=>cases he
def Ey(hk:KdOk X kd):Y6 X kd (.type "dict") dctP:=by
 intro pins s σ H xs us Q I r h;obtain⟨O,ds,z,ht,vl,he,q⟩:=h;unfold dctP at he
 split at he
 . cases he;obtain⟨x,rfl,vx⟩:=Me vl;cases vx with
   |dct hr rm=>
    obtain⟨u,rfl,ru⟩:=vals1 r;cases ru;obtain⟨z,hd,vs,rel,dd⟩:=UQ I hk hr;refine kt_call_dict hd dd (by rw[<-rel.length];exact z) λh' dd' hs=>?_;refine⟨.ref _,_,(I.laid (t':=s.toks) (λb q hq=>?_) (zzN _) (ND z (beq_eq_false_iff_ne.mpr (Ne.symm (zzQ I.big))) rel dd')),rfl,B9 q rm _ (I.hok.fresh (zzN _))⟩;exact(hs.2 b (zzQ (zxJ hq))).trans (zxI _ hq)
 . cases he
def EO(hc:X.calm=true):Y6 X kd (.builtin "max") DP:=by
 intro pins s σ H xs us Q I r h;obtain⟨O,ds,z,ht,vl,he,q⟩:=h;cases vl with
 |nil=>cases he
 |cons vx vl=>
  cases vl with
  |nil=>
   obtain⟨ds,h0,he⟩:=bS_ (he);cases UV h0;obtain⟨ns,h1,he⟩:=bS_ he;obtain⟨c,rfl⟩:=zx he;cases vx with
   |lst hr rl=>
    obtain⟨u,rfl,ru⟩:=vals1 r;cases ru;obtain⟨its,rv,p,_⟩:=I.list hr.sq;rw[SY rl h1]at rv;have hi:=intsAre_of rv;obtain⟨ys,e⟩:=hi.allInts.items;have hns:ns=ys.toList.map (·.1):=by rw[<-hi.numsOf,<-nums_intItems,<-e]
    have hsz:0<ys.size:=by
     have h3:=c;rw[hns,zzB,zyT]at h3;exact h3
    have hl:=p.isList;rw[e]at hl;refine max_intList (I.ok.hd hc) hl hsz λv h' tk hv kp=>?_;obtain⟨t,rfl⟩:=intItems_at hv;obtain⟨k1,k2⟩:=argBest_gt (numAt ys) (ys.size-1);refine⟨.int (Aw ns),H,I.kept kp,⟨t, ?_⟩,zZ q (.int _)⟩
    congr 1
    refine(H0 ?_ λa ha=>?_).symm
    . rw[hns,numAt_eq];have hlt:argBest (λi j=>decide (numAt ys i > numAt ys j)) (ys.size-1)<(ys.toList.map (·.1)).length:=by rw[zzB,zyT];omega
      rw[zyF,zzE hlt];exact zxA hlt
    . rw[hns]at ha;obtain⟨j,hj,rfl⟩:=List.getElem_of_mem ha;have hj':=hj;rw[zzB,zyT]at hj;have:=k2 j (by omega);rw[numAt_eq ys j,zyF,zzE hj']at this;exact this
  |cons vy vl=>
   cases vl with
   |nil=>
    obtain⟨i,j,rfl,rfl,he⟩:=ZD vx vy he;cases he;exact EN hc pins s σ H _ us Q I r ⟨_,_,rfl,zZ q (.int _)⟩
   |cons _ _=>cases he
end
noncomputable def wD(env:Env):List (Str×NameKind)->List (Str×Addr)->List (Str×Addr)
 | [],cs=>cs
 |(n,k)::r,cs=>wD env r (if k == .free then((n,(env.cells.lookup n).getD 0)::cs)else cs)
def X9(h:∀x ∈ scope.names,x.2 = .free->∃c,env.cells.lookup x.1=some c):closureFor scope env=pure (wD env scope.names []):=by
 have s:∀b i f,
  (∀d g i,f (d,g) i=if g == .free then(do let a <-cellOf env d;pure (.yield ((d,a)::i)))else pure (.yield i))->
  (∀x ∈ b,x.2 = .free->∃c,env.cells.lookup x.1=some c)->(forIn b i f:Sem _)=pure (wD env b i):=by
  intro b
  induction b with
  |nil=>intro i f _ _;rfl
  |cons x r p=>
   intro i f l m;obtain⟨n,k⟩:=x;rw[List.forIn_cons,l];unfold wD
   by_cases j:(k == .free)=true
   . obtain⟨c,q⟩:=m (n,k) zzF (by simpa using j);rw[if_pos j,if_pos j];have e:cellOf env n=pure c:=by unfold cellOf;rw[q]
     rw[e,q];exact p _ f l λy o=>m y (zzD _ o)
   . rw[if_neg j,if_neg j];exact p _ f l λy o=>m y (zzD _ o)
 simp only[closureFor];rw[s scope.names [] _ (λd g i=>?_) h]
 . rfl
 . rfl
theorem PC:∀(names:List (Str×NameKind)) (cs:List (Str×Addr)) (p:Str×Addr),p ∈ wD env names cs->p ∈ cs\/((p.1,NameKind.free) ∈ names/\p.2=(env.cells.lookup p.1).getD 0)
 | [],_,_,h=>.inl h
 |(n,k)::r,b,p,h=>by
  unfold wD at h
  rcases PC r _ p h with h|h
  . by_cases a:(k == .free)=true
    . rw[if_pos a]at h
      rcases zzC.mp h with e|h
      . subst e;have:k = .free:=by simpa using a
        subst this;exact .inr ⟨zzF,rfl⟩
      . exact .inl h
    . rw[if_neg a]at h;exact .inl h
  . exact .inr ⟨zzD _ h.1,h.2⟩
theorem U7:∀(names:List (Str×NameKind)) (cs:List (Str×Addr)) (p:Str×Addr),p ∈ cs->p ∈ wD env names cs
 | [],_,_,h=>h
 |(n,k)::r,a,p,h=>by
  unfold wD;refine U7 r _ p ?_
  split
  . exact zzD _ h
  . exact h
theorem Pm:∀(names:List (Str×NameKind)) (cs:List (Str×Addr)) (x:Str),(x,NameKind.free) ∈ names->(x,(env.cells.lookup x).getD 0) ∈ wD env names cs
 |(n,k)::r,a,x,h=>by
  unfold wD
  rcases zzC.mp h with e|h
  . cases e;exact U7 r _ _ (by simp)
  . exact Pm r _ x h
theorem Zz:∀{l:List (Str×α)},(∀p ∈ l,p.1=x->p.2=a)->(∃b,(x,b) ∈ l)->l.lookup x=some a
 | [],_,h=>by obtain⟨_,h⟩:=h;cases h
 |(k,v)::r,u,h=>by
  rw[List.lookup_cons];cases hb:x==k with
  |true=>
   have:=u (k,v) zzF (beq_iff_eq.mp hb).symm;exact congrArg some this
  |false=>
   refine Zz (λp c=>u p (zzD _ c)) ?_;obtain⟨b,h⟩:=h
   rcases zzC.mp h with e|h
   . cases e;simp at hb
   . exact⟨b,h⟩
theorem V_:∀(names:List (Str×NameKind)) (h:Heap) (acc:List (Str×Addr)) (p:Str×Addr),p ∈ cellsFrom h.objs.size names acc->
 p ∈ acc\/((p.1,NameKind.cell) ∈ names/\(pushCells h names).IsCell p.2 none/\h.objs.size<=p.2)
 | [],_,_,_,m=>.inl m
 |(n,k)::r,h,b,p,m=>by
  unfold cellsFrom at m;unfold pushCells
  split at m
  . rename_i a;rw[if_pos a];have e:(h.push {cls:=.type "cell",data:=.cell none}).objs.size=h.objs.size+1:=zxR ..;rw[<-e]at m
    rcases V_ r _ _ p m with m|⟨c,d,f⟩
    . rcases zzC.mp m with g|m
      . subst g;have:k = .cell:=by simpa using a
        subst this;refine .inr ⟨zzF, ?_,zzN _⟩;have z:(h.push {cls:=.type "cell",data:=.cell none}).IsCell h.objs.size none:=⟨_,zxK _ rfl,rfl⟩;exact z.keeps (pushCells_keeps r _)
      . exact .inl m
    . exact .inr ⟨zzD _ c,d,by rw[e]at f;omega⟩
  . rename_i a;rw[if_neg a]
    rcases V_ r h b p m with m|⟨c,d,f⟩
    . exact .inl m
    . exact .inr ⟨zzD _ c,d,f⟩
theorem YA:∀(names:List (Str×NameKind)) (n:Nat) (acc:List (Str×Addr)) (p:Str×Addr),p ∈ acc->p ∈ cellsFrom n names acc
 | [],_,_,_,m=>m
 |(_,k)::r,n,a,p,m=>by
  unfold cellsFrom
  split
  . exact YA r _ _ p (zzD _ m)
  . exact YA r _ _ p m
theorem V0:∀(names:List (Str×NameKind)) (n:Nat) (acc:List (Str×Addr)) (x:Str),(x,NameKind.cell) ∈ names->∃c,(x,c) ∈ cellsFrom n names acc
 |(y,k)::r,n,a,x,m=>by
  unfold cellsFrom
  rcases zzC.mp m with e|m
  . cases e;rw[if_pos (by decide)];exact⟨n,YA r _ _ _ zzF⟩
  . split
    . exact V0 r _ _ x m
    . exact V0 r _ _ x m
theorem Ql:∀(names:List (Str×NameKind)) (n:Nat) (acc:List (Str×Addr)),(∀p ∈ acc,p.2<n)->(∀p ∈ acc,∀q ∈ acc,p.2=q.2->p.1=q.1)->∀p ∈ cellsFrom n names acc,∀q ∈ cellsFrom n names acc,p.2=q.2->p.1=q.1
 | [],_,_,_,h=>h
 |(y,k)::r,n,c,b,h=>by
  unfold cellsFrom
  split
  . refine Ql r (n+1) _ (λp m=>?_) (λp m q a e=>?_)
    . rcases zzC.mp m with z|m
      . subst z;exact Nat.lt_succ_self _
      . exact zxB (b p m)
    . rcases zzC.mp m with z|m
      . rcases zzC.mp a with d|a
        . rw[z,d]
        . subst z;have:=b q a;rw[<-e]at this;exact absurd this (Nat.lt_irrefl _)
      . rcases zzC.mp a with d|a
        . subst d;have:=b p m;rw[e]at this;exact absurd this (Nat.lt_irrefl _)
        . exact h p m q a e
  . exact Ql r n c b h
section
variable{M:Model}{A:Around}{E:Value->Shared->Prop}{s:Shared}
noncomputable def Xj(scope:Scope)(env:Env)(cl:List (Str×Addr))(L:Addr):Env:=
 {scope:=relabel scope env,locals:=L,globals:=env.globals,cells:=cellsFrom (L+1) scope.names cl,qual:=env.qual,func:=none,code:=env.code,frame:=env.frame,builtins:=env.builtins}
def Tt
 (h:∀h' env',{env' with scope:=relabel scope env}=Xj scope env cl s.heap.objs.size->env'.locals=s.heap.objs.size->(∀b o,s.heap.get? b=some o->h'.get? b=some o)->h'.Ns s.heap.objs.size (λ_=>none)->
  (∀p ∈ cellsFrom (s.heap.objs.size+1) scope.names cl,p ∈ cl\/((p.1,NameKind.cell) ∈ scope.names/\h'.IsCell p.2 none/\s.heap.objs.size+1<=p.2))->Q env' {s with heap:=h'}):
 wpAny M A (newFunctionEnv scope env.globals cl [] env.qual none .none (some env)) Q E s:=by
 simp only[newFunctionEnv,Option.isSome_some,if_true];refine zxG (wpAny_alloc ?_);refine zxG (wpAny_layCells _ (λd a c=>by cases hkc:a==NameKind.cell<;>simp[hkc]) _ _ _ _ ?_);have e:(s.heap.push {cls:=.type "dict",data:=.dict #[]}).objs.size=s.heap.objs.size+1:=zxR ..;refine zxG (zxH (zxH (h _ _ ?_ rfl (λb o q=>pushCells_keeps _ _ b o (zxI _ q)) ((Heap.Ns.new s.heap _).keeps (pushCells_keeps _ _)) λp m=>?_)))
 . unfold Xj;rw[<-e]
 . rw[<-e]at m
   rcases V_ _ _ _ p m with m|⟨g,i,f⟩
   . exact .inl m
   . exact .inr ⟨g,i,by rw[e]at f;exact f⟩
end
abbrev yJ(X:Cx)(N:List Str)(scope:Scope)(cl:List (Str×Addr))(s:Shared)(H:Hp)(fp:List Addr):Cx:=
 {X with N:=N,s₀:=s,H₀:=H,env:=Xj scope X.env cl (s.heap.objs.size+1),outer:=X.stack,ex:=fp,fn:=λx=>scope.names.lookup x==some .cell,pn:=[],xe:=λ_ _=>False}
noncomputable def DV(σ:St):Option Nat->Option V
 |none=>none
 |some j=>(σ[j]?).getD none
def vv(cap:List (Option Nat))(σ:St):St:=cap.map (DV σ)
noncomputable def YJ(N XN:List Str)(names:List (Str×NameKind))(envNames:List (Str×NameKind))(cap:List (Option Nat)):Bool:=
 N.length==cap.length&&(N.zip cap).all (λp=>match p.2 with|none=>true|some j=>XN[j]? == some p.1&&names.contains (p.1,NameKind.free)) &&
 names.all (λp=>p.2 != .free||envNames.lookup p.1==some .cell||envNames.lookup p.1==some .free)&&decide (names.map (·.1)).Nodup
def Fp(X:Cx)(ifs:List Expr)(t:TT):Prop:=
 ∀(pins:List (Addr×Obj)) (s:Shared) (σ:St) (H:Hp) (Q:Bool->Hp->Prop),Inv X pins σ H s->t σ H Q->
  wpAny (model X.prog X.w) X.A (forIn ifs true λc r=>if r=true then do let ok <-isTrue c X.env (eval c X.env);pure (ForInStep.yield ok)else pure (ForInStep.yield r)) (TP X pins σ Q) X.xe s
def H_:Fp X [] (λ_ H Q=>Q true H):=λa s σ H Q I h=>wpAny_tests_nil ⟨H,I,h⟩
def O5(h:PT X c t):Fp X [c] t:=λa s σ H Q I q=>wpAny_tests_one (h a s σ H Q I q)
def Sv(wi:TI)(cap:List (Option Nat))(g:TG)(tt:TT)(te:TE):TE:=λσ H Q=>wi σ H λJ H1=>∃W:Nat->Nat->List V->Hp->Prop,(∃m,W 0 m [] H1)/\∀i m ys H,W i m ys H->ys.length<=sizeLine/\
 ((J.stop i H/\∀p,H p=none->Q (.ref p) (upd H p (.lst ys)))\/(J.go i H/\∀x H',J.yld i H x H'->g x (vv cap σ) H' λσ2 H2=>(∀(j:Nat) v,(vv cap σ)[j]? = some (some v)->σ2[j]? = some (some v))/\
   tt σ2 H2 λb H3=>if b=true then ys.length<sizeLine/\te σ2 H3 λy H4=>∃m',m'<m/\W (i+1) m' (ys++[y]) H4 else ∃m',m'<m/\W (i+1) m' ys H3))
section
variable{prog:Program}{w:World}{A:Around}{E:Value->Shared->Prop}{R:Result->Shared->Prop}{s:Shared}
def TV(I:Nat->Shared->Prop)
 (turn:∀n s (E:Value->Shared->Prop),I n s->wpAny (model prog w) A (pyNext it) (λr s₁=>match r with
  |none=>R (.ok .next) s₁
  |some v=>wpAny (model prog w) A (letOwnedTupleGo target it v) (λ_ s₁=>wpAny (model prog w) A (assign target env v) (λ_ s₂=>
   wpAny (model prog w) A (forIn ifs true λc r=>if r=true then do let ok <-isTrue c env (eval c env);pure (ForInStep.yield ok)else pure (ForInStep.yield r)) (λok s₃=>
            if ok=true then wpAny (model prog w) A (eval elt env) (λx s₄=>
             wpAny (model prog w) A (call (.builtin "list.append") [acc,x]) (λ_ s₅=>∃m,m<n/\I m s₅) E s₄) E s₃
            else ∃m,m<n/\I m s₃) E s₂) E s₁) E s₁) E s)
 (n:Nat) (h:I n s):
 codeAny (model prog w) A (.compLoop (.ListComp elt [⟨target,iter,ifs,0⟩] scope pos) 0 it acc env) R s:=by
 refine codeAny_loop rfl I (λn s e=>?_) n h;refine wpAny_noted ?_;rw[compTurn_list];refine zxG (wpAny_standAt (zxG (zxT (turn n s _ e) (λr f b=>?_) λ_ _ a=>a)));cases r with
 |none=>exact zxH b
 |some v=>
  refine zxG (zxT b (λ_ f b=>?_) λ_ _ a=>a);refine zxG (zxT b (λ_ k g=>zxG (zxT g (λok l d=>?_) λ_ _ a=>a)) λ_ _ a=>a);cases ok with
  |false=>exact zxH ⟨rfl,d⟩
  |true=>
   exact zxG (zxG (zxT d (λx o i=>zxG (zxT i (λ_ p j=>zxH (zxH ⟨rfl,j⟩)) λ_ _ a=>a)) λ_ _ a=>a))
end
structure CapOk(N XN:List Str)(names:List (Str×NameKind))(envNames:List (Str×NameKind))(cap:List (Option Nat)):Prop where
 len:N.length=cap.length
 at_:∀(i:Nat) x (j:Nat),N[i]? = some x->cap[i]? = some (some j)->XN[j]? = some x/\(x,NameKind.free) ∈ names
 fr:∀p ∈ names,p.2 = .free->envNames.lookup p.1=some .cell\/envNames.lookup p.1=some .free
 nd:(names.map (·.1)).Nodup
def Lr(h:YJ N XN names envNames cap=true):CapOk N XN names envNames cap:=by
 unfold YJ at h;simp only[zyC,beq_iff_eq,List.all_eq_true,decide_eq_true_eq]at h;obtain⟨⟨⟨a,b⟩,c⟩,d⟩:=h;refine⟨a,λi x j f g=>?_,λp k e=>?_,d⟩
 . have m:(x,some j) ∈ N.zip cap:=zyA (by rw[List.getElem?_zip_eq_some];exact⟨f,g⟩);have:=b _ m;simp only[zyC,beq_iff_eq]at this;exact⟨this.1,by simpa using this.2⟩
 . have:=c p k;rw[e]at this;simpa using this
def GJ{names:List (Str×NameKind)}(h:(names.map (·.1)).Nodup)(m:(x,k) ∈ names)(m':(x,k') ∈ names):k=k':=by
 induction names with
 |nil=>cases m
 |cons p r ih=>
  obtain⟨h1,h2⟩:=zzW.mp (h)
  rcases zzC.mp m with e|m
  . rcases zzC.mp m' with e'|m'
    . rw[<-e]at e';cases e';rfl
    . exact absurd (zxE.mpr ⟨_,m',by rw[<-e]⟩) h1
  . rcases zzC.mp m' with e'|m'
    . exact absurd (zxE.mpr ⟨_,m,by rw[<-e']⟩) h1
    . exact ih h2 m m'
def Qc{names:List (Str×NameKind)}(h:(names.map (·.1)).Nodup)(m:(x,k) ∈ names):names.lookup x=some k:=
 Zz (λp a e=>by obtain⟨y,b⟩:=p;cases(e);exact GJ h a m) ⟨k,m⟩
def Xp(x):(relabel scope env).names.lookup x=(scope.names.lookup x).map λk=>if(k == .free&&env.scope.kind == .function&&env.kindOf x==some .cell)=true then NameKind.cell else k:=by
 unfold relabel;generalize scope.names=a
 induction a with
 |nil=>rfl
 |cons p r b=>
  obtain⟨n,k⟩:=p;rw[zyS,List.lookup_cons (k:=n)];cases hb:x==n with
  |true=>
   have e:=beq_iff_eq.mp hb;subst e;show List.lookup x ((if _=true then _ else _)::_)=_;show _=some (if _=true then NameKind.cell else k)
   split
   . rw[List.lookup_cons,hb]
   . rw[List.lookup_cons,hb]
  |false=>
   show List.lookup x ((if _=true then _ else _)::_)=_
   split
   . rw[List.lookup_cons,hb];exact b
   . rw[List.lookup_cons,hb];exact b
def LP(I:Inv X pins σ H s)(C:CapOk N X.N scope.names X.env.scope.names cap)(hk:scope.kind = .function)
 (hf:∀b ∈ fp,Rr X pins H b) (ho:∀b ∈ fp,∃o,s.heap.get? b=some o)
 (old:∀b o,s.heap.get? b=some o->h'.get? b=some o) (ns:h'.Ns (s.heap.objs.size+1) (λ_=>none))
 (hc:∀p ∈ cellsFrom (s.heap.objs.size+1+1) scope.names (wD X.env scope.names []),p ∈ wD X.env scope.names []\/((p.1,NameKind.cell) ∈ scope.names/\h'.IsCell p.2 none/\s.heap.objs.size+1+1<=p.2)):
 Inv (yJ X N scope (wD X.env scope.names []) s H fp) [] (vv cap σ) H {s with heap:=h'}:=by
 have has:∀x,(x,NameKind.free) ∈ scope.names->∃c,X.env.cells.lookup x=some c:=λx m=>I.ok.has x (C.fr _ m rfl);have clo:∀p ∈ wD X.env scope.names [],X.env.cells.lookup p.1=some p.2/\(p.1,NameKind.free) ∈ scope.names:=λp m=>by
  rcases PC _ _ p m with z|⟨z1,z2⟩
  . cases z
  . obtain⟨c,e⟩:=has _ z1;rw[e]at z2;exact⟨by rw[e];exact congrArg some z2.symm,z1⟩
 have look:∀x c,(cellsFrom _ scope.names _).lookup x=some c->_\/_:=λx c e=>by
  rcases hc _ (mem_of_lookup e)with m|m
  . exact .inl (clo _ m)
  . exact .inr m
 have lt:∀x c,X.env.cells.lookup x=some c->c<s.heap.objs.size:=λx c e=>by obtain⟨v,z⟩:=I.cell x c e;exact z.lt
 have lookF:∀x,(x,NameKind.free) ∈ scope.names->∃c,(cellsFrom _ scope.names _).lookup x=some c/\X.env.cells.lookup x=some c:=λx m=>by
  obtain⟨c,e⟩:=has x m;have m1:=YA scope.names (s.heap.objs.size+1+1) _ _ (Pm (env:=X.env) scope.names [] x m);refine⟨c,Zz (λp hp ep=>?_) ⟨_,m1⟩,e⟩
  rcases hc p hp with z|z
  . have:=(clo p z).1;rw[ep,e]at this;exact(zzZ this).symm
  . rw[ep]at z;exact absurd (GJ C.nd z.1 m) (by decide)
 have kinds:∀x,((relabel scope X.env).names.lookup x=some .cell\/(relabel scope X.env).names.lookup x=some .free)->(x,NameKind.free) ∈ scope.names\/(x,NameKind.cell) ∈ scope.names:=λx h=>by
  rw[Xp]at h;cases e:scope.names.lookup x with
  |none=>rw[e]at h;rcases h with h|h<;>cases h
  |some k=>
   have m:=mem_of_lookup e;cases k with
   |free=>exact .inl m
   |cell=>exact .inr m
   |_=>rw[e]at h;rcases h with h|h<;>(simp at h)
 have lsz:=ns.lt;refine⟨⟨I.ok.mod,hk,I.ok.glob,I.ok.blt,zyX _, ?_, ?_, ?_,I.ok.hd,I.ok.frames,.inl rfl, ?_,I.bs,zzO I.ok.bsz I.sz, ?_, ?_,I.stack,I.stkFree⟩,rfl,I.bare,(Un.kept old),⟨_,ns, ?_⟩, ?_,I.hok.fresh (zyX _), ?_,(λ_ z=>nomatch z),I.hok.kept old, ?_⟩
 . intro x y c e1 e2;refine Ql scope.names _ _ (λp m=>?_) (λp m q m' e=>?_) (x,c) (mem_of_lookup e1) (y,c) (mem_of_lookup e2) rfl
   . exact zxB (zxB (lt _ _ (clo p m).1))
   . refine I.ok.inj _ _ _ (clo p m).1 ?_;rw[e];exact(clo q m').1
 . intro x h
   rcases kinds x h with m|m
   . obtain⟨c,e,_⟩:=lookF x m;exact⟨c,e⟩
   . obtain⟨c,e⟩:=V0 scope.names _ _ x m;cases q:(cellsFrom _ scope.names _).lookup x with
     |some c'=>exact⟨c',q⟩
     |none=>
      exfalso;have:=List.lookup_eq_none_iff.mp q (x,c) e;simp at this
 . intro x c hx e;have hx:=hx;have m:=mem_of_lookup (beq_iff_eq.mp hx)
   rcases look x c e with z|z
   . exact absurd (GJ C.nd z.2 m) (by decide)
   . exact zzO (zzO (zyX _) (zyX _)) z.2.2
 . intro b hb;obtain⟨o,e⟩:=ho b hb;refine⟨zzQ (zxB (zxJ e)),λx c ec=>?_⟩
   rcases look x c ec with z|z
   . exact(hf b hb).2.2.2.2.1 x c z.1
   . have:=zxJ e;intro q;subst q;exact absurd (zzK this (zzO (zzO (zyX _) (zyX _)) z.2.2)) (Nat.lt_irrefl _)
 . intro b o e hb
   rcases(hf b hb).2.2.2.1 with z|z
   . exact I.ok.noex b o e z
   . exact absurd (zzK (zxJ e) (zzO I.ok.bsz z)) (Nat.lt_irrefl _)
 . intro b hb hm
   rcases zzC.mp (I.stkSub b hm)with z|z
   . exact(hf b hb).2.1 z
   . exact(hf b hb).2.2.1 z
 . intro i x v e1 e2 e3;have e2:=e2;unfold vv at e2;rw[zzI]at e2;cases ec:cap[i]? with
   |none=>rw[ec]at e2;cases e2
   |some c=>
    cases c with
    |none=>rw[ec]at e2;cases e2
    |some j=>
     rw[ec]at e2;have e2:(σ[j]?).getD none=some v:=zzZ e2;obtain⟨xn,m⟩:=C.at_ i x j e1 ec;have es:σ[j]? = some (some v):=by
      cases q:σ[j]? with
      |none=>rw[q]at e2;cases e2
      |some y=>rw[q]at e2;exact congrArg some e2
     have kf:=C.fr _ m rfl;obtain⟨mm,hn,hl⟩:=I.loc;obtain⟨u,r,l⟩:=hl j x v xn es (by rcases kf with k|k;exact .inr (.inl k);exact .inr (.inr k));refine⟨u,r,.inr ⟨?_, ?_⟩⟩
     . show(relabel scope X.env).names.lookup x=some .cell\/(relabel scope X.env).names.lookup x=some .free;rw[Xp,Qc C.nd m];show some (if _ then _ else _)=_\/some (if _ then _ else _)=_
       split
       . exact .inl rfl
       . exact .inr rfl
     . obtain⟨c,ec,eo⟩:=lookF x m;refine⟨c,ec, ?_⟩
       rcases l with⟨k1,_⟩|⟨_,c2,e4,z⟩
       . have k1:X.env.scope.names.lookup x=some .local:=k1
         rcases kf with k|k<;>(rw[k1]at k;cases k)
       . rw[eo]at e4;cases e4;exact z.keeps old
 . intro x c e
   rcases look x c e with z|z
   . obtain⟨v,q⟩:=I.cell x c z.1;exact⟨v,q.keeps old⟩
   . exact⟨none,z.2.1⟩
 . intro x c e
   rcases look x c e with z|z
   . exact I.freeC x c z.1
   . exact I.hok.fresh (zzO (zzO (zyX _) (zyX _)) z.2.2)
 . show _=_;unfold vv;rw[zzB,C.len]
abbrev lobj(its:List Value):Obj:={cls:=.type "list",data:=.seq its.toArray its.length}
section
variable{X:Cx}{pins:List (Addr×Obj)}{σ:St}{H2:Hp}{s2:Shared}{elt tg iter:Expr}{ifs:List Expr}{scope:Scope}{pos:Pos}{N:List Str}{cap:List (Option Nat)}{g:TG}{tt:TT}{te:TE}{wi:TI}
set_option maxHeartbeats 1000000
def RG{Q:VK}{R:Value->Addr->Result->Shared->Prop}
 (hc:X.calm=true) (C:CapOk N X.N scope.names X.env.scope.names cap) (hk:scope.kind = .function)
 (hg:∀cl s H fp,PG (yJ X N scope cl s H fp) tg g) (ht:∀cl s H fp,Fp (yJ X N scope cl s H fp) ifs tt) (he:∀cl s H fp,PE (yJ X N scope cl s H fp) elt te)
 (I2:Inv X pins σ H2 s2) (T:Turn X.prog X.w X.K tg J fp it tn) (st2:tn 0 s2.heap) (f2:∀b ∈ fp,Rr X pins H2 b)
 (W:Nat->Nat->List V->Hp->Prop) (m0:Nat) (w0:W 0 m0 [] H2)
 (turn:∀i m ys H,W i m ys H->ys.length<=sizeLine/\((J.stop i H/\∀p,H p=none->Q (.ref p) (upd H p (.lst ys)))\/(J.go i H/\∀x H',J.yld i H x H'->g x (vv cap σ) H' λσ2 H2=>(∀(j:Nat) v,(vv cap σ)[j]? = some (some v)->σ2[j]? = some (some v))/\
  tt σ2 H2 λb H3=>if b=true then ys.length<sizeLine/\te σ2 H3 λy H4=>∃m',m'<m/\W (i+1) m' (ys++[y]) H4 else ∃m',m'<m/\W (i+1) m' ys H3)))
 (fin:∀ys H3 s1 m,Inv X pins σ (upd H3 s2.heap.objs.size (.lst ys)) s1->s1.heap.Ns (s2.heap.objs.size+1) m->Rr X pins (upd H3 s2.heap.objs.size (.lst ys)) (s2.heap.objs.size+1)->
  Q (.ref s2.heap.objs.size) (upd H3 s2.heap.objs.size (.lst ys))->R (.ref s2.heap.objs.size) (s2.heap.objs.size+1) (.ok .next) s1):
 wpAny (model X.prog X.w) X.A (newList []) (λacc s₃=>wpAny (model X.prog X.w) X.A (newFunctionEnv scope X.env.globals (wD X.env scope.names []) [] X.env.qual none .none (some X.env)) (λcenv s₄=>
  codeAny (model X.prog X.w) X.A (.compStart (.ListComp elt [⟨tg,iter,ifs,0⟩] scope pos) 0 (.ref it) acc {cenv with scope:=relabel scope X.env}) (R acc cenv.locals) s₄) E s₃) E s2:=by
 refine zxL (Tt λh' env' eE eL old hns hcells=>?_);have e1:(s2.heap.push {cls:=.type "list",dict:=none,data:=.seq ([]:List Value).toArray}).objs.size=s2.heap.objs.size+1:=zxR ..;dsimp only at eE eL old hns hcells;rw[e1]at eE eL hns hcells;have hD0:(s2.heap.push {cls:=.type "list",dict:=none,data:=.seq ([]:List Value).toArray}).get? s2.heap.objs.size=some (lobj []):=zxK _ rfl;have hD:=old _ _ hD0;have old':∀b o,s2.heap.get? b=some o->h'.get? b=some o:=λb o q=>old b o (zxI _ q);have fex:∀b ∈ fp,∃o,s2.heap.get? b=some o:=λb hb=>by obtain⟨o,e,_⟩:=T.obj _ _ st2 b hb;exact⟨o,e⟩
 have flt:∀b ∈ fp,b<s2.heap.objs.size:=λb hb=>by obtain⟨o,e⟩:=fex b hb;exact zxJ e
 have I':=LP I2 C hk f2 fex old' hns hcells;rw[eE,eL];generalize hX:yJ X N scope (wD X.env scope.names []) s2 H2 fp=X' at I';have xP:X'.prog=X.prog:=by rw[<-hX]
 have xw:X'.w=X.w:=by rw[<-hX]
 have xK:X'.K=X.K:=by rw[<-hX]
 have xA:X'.A=X.A:=by rw[<-hX]
 have xe:X'.env=Xj scope X.env (wD X.env scope.names []) (s2.heap.objs.size+1):=by rw[<-hX]
 have xL:X'.env.locals=s2.heap.objs.size+1:=by rw[xe];rfl
 have xfs:X'.fs=VX X.stack:=by rw[<-hX]
 have xex:X'.ex=fp:=by rw[<-hX]
 have xs:X'.s₀=s2:=by rw[<-hX]
 have xH:X'.H₀=H2:=by rw[<-hX]
 have xpn:X'.pn=[]:=by rw[<-hX]
 have xc:X'.calm=true:=by rw[<-hX];exact hc
 have xE:X'.xe=λ_ _=>False:=by rw[<-hX]
 have hg':PG X' tg g:=by rw[<-hX];exact hg _ _ _ _
 have ht':Fp X' ifs tt:=by rw[<-hX];exact ht _ _ _ _
 have he':PE X' elt te:=by rw[<-hX];exact he _ _ _ _
 have H2D:=I2.hok.fresh (zzN _);have Dfs:s2.heap.objs.size ∉ X'.fs:=by
  rw[xfs];intro hm
  rcases zzC.mp (I2.stkSub _ hm)with z|z
  . exact absurd I2.lt (by rw[<-z];exact Nat.lt_irrefl _)
  . exact I2.nofs (zzN _) z
 have DL:s2.heap.objs.size≠X'.env.locals:=by rw[xL];exact zzQ (Nat.lt_succ_self _)
 have pinD:∀{σ':St}{H':Hp}{s':Shared}{its:List Value}{ps:List (Addr×Obj)},Inv X' ps σ' H' s'->s'.heap.get? s2.heap.objs.size=some (lobj its)->H' s2.heap.objs.size=none->Inv X' [(s2.heap.objs.size,lobj its)] σ' H' s':=λI e n=>
  I.pins_of λp hp=>by
   cases zzR.mp hp;exact⟨e,n,DL,Dfs,λv z=>by cases z⟩
 have stat:∀{H':Hp}{its:List Value},(∀b ∈ fp,H' b=none)->∀b ∈ fp,Rr X' [(s2.heap.objs.size,lobj its)] H' b:=λhn b hb=>by
  refine⟨hn b hb, ?_, ?_,.inl (by rw[xex];exact hb),(I'.ok.exf b (by rw[xex];exact hb)).2,λp hp=>?_⟩
  . exact(I'.ok.exf b (by rw[xex];exact hb)).1
  . exact I'.ok.exfs b (by rw[xex];exact hb)
  . rw[xpn,List.nil_append]at hp;cases zzR.mp hp;exact Nat.ne_of_gt (flt b hb)
 have loop:∀n s',(∃i ys its H3,Inv X' [(s2.heap.objs.size,lobj its)] (vv cap σ) H3 s'/\tn i s'.heap/\(∀b ∈ fp,H3 b=none)/\zK ys its/\W i n ys H3)->
  codeAny (model X.prog X.w) X.A (.compLoop (.ListComp elt [⟨tg,iter,ifs,0⟩] scope pos) 0 (.ref it) (.ref s2.heap.objs.size) (Xj scope X.env (wD X.env scope.names []) (s2.heap.objs.size+1)))
   (R (.ref s2.heap.objs.size) (s2.heap.objs.size+1)) s':=by
  intro n s' h0;refine TV (λn s'=>∃i ys its H3,Inv X' [(s2.heap.objs.size,lobj its)] (vv cap σ) H3 s'/\tn i s'.heap/\(∀b ∈ fp,H3 b=none)/\zK ys its/\W i n ys H3) ?_ n h0;clear h0 n s'
  rintro n s3 E' ⟨i,ys,its,H3,I3,st3,fr3,rv3,w3⟩
  obtain⟨hz,hstep⟩:=turn i n ys H3 w3
  rcases hstep with⟨stop,qn⟩|⟨go,step⟩
  . have:=T.done X' xP xw xK xc i _ s3 _ H3 E' I3 (stat fr3) st3 stop;rw[xA]at this;refine zxT this (λr s4 ⟨hr,I4⟩=>?_) λ_ _ z=>z;subst hr;obtain⟨gD,nD,_⟩:=I4.pin (s2.heap.objs.size,lobj its) (by rw[xpn];simp);obtain⟨m,hn,_⟩:=I4.loc;rw[xL]at hn;have b4:=I4.base;rw[xfs,xex,xH,xs]at b4;have nL:H3 (s2.heap.objs.size+1)=none:=by have:=I4.free;rw[xL]at this;exact this
    have neD:∀b o,s2.heap.get? b=some o->b≠s2.heap.objs.size:=λb o e=>zzQ (zxJ e);have neH:∀b u,H2 b=some u->b≠s2.heap.objs.size:=λb u e z=>by rw[z,H2D]at e;cases e
    have ne3:∀b u,H3 b=some u->b≠s2.heap.objs.size:=λb u e z=>by rw[z,nD]at e;cases e
    have hok4:=I4.hok;rw[xP,xw]at hok4;refine fin ys H3 s4 m (I2.call' ?_ ⟨b4.keep,b4.slot,λb o e n hx=>?_,b4.there,λb xs e=>?_,λb o u e=>?_,λb ps e=>?_⟩ ?_ I4.bare λb hb=>?_) hn (I2.fpOk (zyX _) (by rw[zr (Nat.ne_of_gt (Nat.lt_succ_self _))];exact nL)) (qn _ nD)
    . have:=I4.os;rw[xs]at this;exact this
    . rw[zr (neD b o e)];exact b4.free b o e n hx
    . rw[zr (neH b _ e)];exact b4.tups b xs e
    . rw[zr (neH b _ e)];exact b4.frzs b o u e
    . rw[zr (neH b _ e)];exact b4.tbls b ps e
    . intro b u e
      by_cases hb:b=s2.heap.objs.size
      . subst hb;rw[zA]at e;cases e;exact⟨hz,its,its.length,rv3,gD⟩
      . rw[zr hb]at e;exact(hok4 b u e).stay (λc v _ q=>q) (λc q=>by rw[zr (ne3 c _ q)];exact q) λc xs q=>by rw[zr (ne3 c _ q)];exact q
    . obtain⟨f0,f1,f3,f4,f5,f6⟩:=f2 b hb;exact⟨f4,f1,f5,f6⟩
  . have:=T.item X' xP xw xK xc i _ s3 _ H3 E' I3 (stat fr3) st3 go;rw[xA]at this;refine zxT this (λr s4 ⟨u,hr,h4⟩=>?_) λ_ _ z=>z;subst hr;refine zxT h4 (λ_ s5 ⟨x,H5,I5,r5,y5,st5,fr5⟩=>?_) λ_ _ z=>z;have I5':=I5.pinned (stat fr5) (T.obj _ _ st5);have h6:=hg' _ s5 _ H5 x u _ I5' r5 (step x H5 y5);rw[xP,xw,xA,xe,xE]at h6;refine zxT h6 (λ_ s6 ⟨σ6,H6,I6,cap6,q6⟩=>?_) λ_ _ z=>z.elim;have h7:=ht' _ s6 σ6 H6 _ I6 q6;rw[xP,xw,xA,xe,xE]at h7;refine zxT h7 (λb s7 ⟨H7,I7,q7⟩=>?_) λ_ _ z=>z.elim;have keep:∀{H8:Hp}{s8:Shared},Inv X' _ σ6 H8 s8->Inv X' [(s2.heap.objs.size,lobj its)] (vv cap σ) H8 s8/\tn (i+1) s8.heap/\∀b ∈ fp,H8 b=none:=λ{H8 s8} I8=>by
     refine⟨I8.unpinned.weak ?_ cap6,T.keep _ _ _ st5 λb hb o e=>(I8.pin (b,o) (zzL _ (zzL _ (Yu hb e)))).1,λb hb=>?_⟩
     . rw[I3.len];exact I8.len.symm
     . obtain⟨o,e,d⟩:=T.obj _ _ st5 b hb;exact(I8.pin (b,o) (zzL _ (zzL _ (Yu hb e)))).2.1
    cases b with
    |false=>
     obtain⟨m',hm,w7⟩:=q7;obtain⟨k1,k2,k3⟩:=keep I7;exact⟨m',hm,i+1,ys,its,H7,k1,k2,k3,rv3,w7⟩
    |true=>
     obtain⟨hz2,q7⟩:=q7;have h8:=he' _ s7 σ6 H7 _ I7 q7;rw[xP,xw,xA,xe,xE]at h8;refine zxT h8 (λyv s8 ⟨y,H8,I8,ry,m',hm,w8⟩=>?_) λ_ _ z=>z.elim;obtain⟨k1,k2,k3⟩:=keep I8;obtain⟨gD,nD,_⟩:=k1.pin (s2.heap.objs.size,lobj its) (by rw[xpn];simp);have hl:=rv3.length;refine append_at gD (λh9 sb gD9=>?_) (by rw[zzH];omega);have I9:=(k1.pins_of (pins':=[]) (λ_ z=>nomatch z)).turned (t':=s8.toks) (λb o hb e=>(sb.2 b hb).trans e) nD DL (.inr (by rw[xs];exact zzN _)) (λx c ec z=>by
      obtain⟨v,o,ho,hd⟩:=k1.cell x c ec;rw[z,gD]at ho;cases ho;cases hd) (λp hp=>by rw[xpn]at hp;cases hp)
     have gD9':h9.get? s2.heap.objs.size=some (lobj (its++[yv])):=by
      rw[gD9]
      congr 1
      show({cls:=.type "list",data:=.seq _ _}:Obj)={cls:=.type "list",data:=.seq (its++[yv]).toArray (its++[yv]).length};rw[zzJ,List.length_singleton,List.push_toArray]
     refine⟨m',hm,i+1,ys++[y],its++[yv],H8,pinD I9 gD9' nD,T.keep _ _ _ k2 λb hb o e=>(sb.2 b (zzQ (flt b hb))).trans e,k3,rv3.append (.cons ry .nil),w8⟩
 have start:∃i ys its H3,Inv X' [(s2.heap.objs.size,lobj its)] (vv cap σ) H3 {s2 with heap:=h'}/\tn i h'/\(∀b ∈ fp,H3 b=none)/\zK ys its/\W i m0 ys H3:=
  ⟨0,[],[],H2,pinD I' hD H2D,T.keep _ _ _ st2 λb hb o e=>old' b o e,λb hb=>(f2 b hb).1,.nil,w0⟩
 exact codeAny_compStart_list (loop m0 _ start) (T.self _ 0 _ _ _ (T.keep _ _ _ st2 λb hb o e=>old' b o e) (loop m0 _ start))
def Oq(hc:X.calm=true)(hi:PI X tg iter wi)(hk:scope.kind = .function)(hcap:YJ N X.N scope.names X.env.scope.names cap=true)
 (hg:∀cl s H fp,PG (yJ X N scope cl s H fp) tg g) (ht:∀cl s H fp,Fp (yJ X N scope cl s H fp) ifs tt) (he:∀cl s H fp,PE (yJ X N scope cl s H fp) elt te)
 (hs:∀x,foldedSetIterable iter X.env x=pure x):PE X (.ListComp elt [⟨tg,iter,ifs,0⟩] scope pos) (Sv wi cap g tt te):=by
 intro a s σ H Q I h;have C:=Lr hcap;rw[eval_ListComp];refine wpAny_comprehension_free rfl hs (X9 λx m e=>I.ok.has x.1 (C.fr x m e)) hk (λy m e=>Qc C.nd (by rw[<-e];exact m)) ?_;refine thn (hi a s σ H _ I h) λv O i=>thn i λj k l=>?_;obtain⟨P,S,U,J,V,e,n,T,d,f2,W,⟨p,t⟩,c⟩:=l;subst e;refine RG hc C hk hg ht he n T d f2 W p t c λY Z z m B D fl q=>?_;refine⟨m,D,λh' E=>?_⟩;obtain⟨F,f1,f3,G,K,L⟩:=fl;exact⟨.ref k.heap.objs.size,_,B.turned (t':=z.toks) (λb o M e=>(E.2 b M).trans e) F f1 G K L,rfl,q⟩
def OI(hN:X.N.Nodup)(hiy:X.N[i]? = some y)(hy:Loc X.env.scope y)(hf:X.fn y=true\/X.env.scope.names.lookup y=some .local)
 (hsw:swapsWith (.ListComp elt [⟨tg,iter,ifs,0⟩] scope pos) (some (.Name y py)) spos.line X.env=pure true)
 (hc:X.calm=true) (hi:PI X tg iter wi) (hk:scope.kind = .function) (hcap:YJ N X.N scope.names X.env.scope.names cap=true)
 (hg:∀cl s H fp,PG (yJ X N scope cl s H fp) tg g) (ht:∀cl s H fp,Fp (yJ X N scope cl s H fp) ifs tt) (he:∀cl s H fp,PE (yJ X N scope cl s H fp) elt te)
 (hs:∀x,foldedSetIterable iter X.env x=pure x):PS X (.Assign [.Name y py] (.ListComp elt [⟨tg,iter,ifs,0⟩] scope pos) spos) (IV (Sv wi cap g tt te) (PM i)):=by
 intro c s σ H D I h;have C:=Lr hcap;rw[exec_Assign_Name_used _ _ _ _ hsw];refine zxG (wpAny_standAt (zxG ?_));refine zxG (zxT (wpAny_comprehension_free rfl hs (X9 λx m e=>I.ok.has x.1 (C.fr x m e)) hk (λy m e=>Qc C.nd (by rw[<-e];exact m)) ?_) (λ_ d t=>zxH (zxH t)) λ_ _ e=>e);refine thn (hi c s σ H _ I h) λv s1 u=>thn u λB E F=>?_;obtain⟨it,fp,tn,J,H2,e,G,T,k,f2,W,⟨K,L⟩,f⟩:=F;subst e;refine RG (Q:=λx M=>PM i x σ M D.nx) hc C hk hg ht he G T k f2 W K L f λys H3 s3 m O P fl q=>?_;obtain⟨S,f1,f3,U,p,V⟩:=fl;refine wpAny_assign_Name (V5 O hN hiy hy (v:=.ref E.heap.objs.size) rfl (λY Z ⟨a,sb,j⟩=>?_) hf);refine⟨m,P.sameBut sb (λz=>?_),λh' n=>?_⟩
 . rcases j with j|j
   . exact f1 (z.trans j)
   . exact p y a j z.symm
 . exact⟨_,_,Z.turned (t':=Y.toks) (λb o hb e=>(n.2 b hb).trans e) S f1 U p V,q⟩
end
structure ItC(K:zzA)(kd:KD)(F:Addr->Prop)(H:Hp)(J:It)(ds:List Yt):Prop where
 all:∀(H2:Hp) (T:Addr->Prop),(∀b u,H b=some u->H2 b=some u)->(∀a,T a->H a=none/\H2 a≠none)->∀i,(i<ds.length->J.go i H2)/\(ds.length<=i->J.stop i H2)/\
  ∀v H3,J.yld i H2 v H3->(∀b o,H2 b=some o->H3 b=some o)/\∀x,ds[i]? = some x->Rp K kd (λa=>x.1=true/\(F a\/T a)) H3 v x.2
def qi(K:zzA)(kd:KD)(f:IF):TI:=λσ H R=>∃F B ad as ds as',Rel K kd F B [] ad as σ H/\f as=some (ds,as')/\
 ∀J ad' H',Rel K kd F B [] ad' as' σ H'->Grow (Gw [] ad) H (Gw [] ad') H'->ItC K kd (Lv F B (Gw [] ad') true) H' J ds->R J H'
@[irreducible] def IC(X:Cx)(kd:KD)(tg iter:Expr)(f:IF):Prop:=PI X tg iter (qi X.K kd f)
def V4(os:List O):List Yt:=os.map λo=>match o with | .lf st d=>(st,d)|o=>(false,o.toD)
noncomputable def s_(as:AS):RV->Option (List Yt)
 | .ow o=>Eo (o.str,o.toD)
 | .bo i=>match as[i]? with
  |some (some (.nd .ls os))=>some (V4 os)
  |some (some (.nd .tp os))=>some (V4 os)
  |_=>none
noncomputable def vh(f:EF):IF:=λas=>(f as).bind λp=>(s_ p.2 p.1).bind λds=>some (ds,p.2)
section
variable{K:zzA}{kd:KD}{F B:Addr->Prop}{G:Addr->Prop}{T:List Addr}{ad:Ad}{as:AS}{σ:St}{H H':Hp}
inductive RpC(K:zzA)(kd:KD)(F:Addr->Prop)(H:Hp):List V->List Yt->Prop
 |nil:RpC K kd F H [] []
 |cons {v:V}{x:Yt}{vs:List V}{ds:List Yt}:Rp K kd (λa=>x.1=true/\F a) H v x.2->RpC K kd F H vs ds->RpC K kd F H (v::vs) (x::ds)
theorem RpC.length(h:RpC K kd F H vs ds):vs.length=ds.length:=by
 induction h with
 |nil=>rfl
 |cons _ _ ih=>exact congrArg (· + 1) ih
def RpC.get{vs}{ds}{i:Nat}{x}(h:RpC K kd F H vs ds)(e:ds[i]? = some x):∃v,vs[i]? = some v/\Rp K kd (λa=>x.1=true/\F a) H v x.2:=by
 induction h generalizing i with
 |nil=>simp at e
 |cons h r ih=>
  cases i with
  |zero=>simp at e;subst e;exact⟨_,rfl,h⟩
  |succ i=>
   obtain⟨v,h1,h2⟩:=ih (by simpa using e);exact⟨v,by simpa using h1,h2⟩
def Rp.since{Ob}{v}{d}{T}(k:∀b u,H b=some u->H' b=some u)(hT:∀a,T a->H a=none)(h:Rp K kd Ob H v d):Rp K kd (WU Ob T) H' v d:=
 Rp.grow (W':=T) (H':=H') ⟨λb u q _=>k b u q,λb z=>.inr (hT b z)⟩ (h.less λa z=>z.elim id False.elim)
def Ri{st}{vs}{ds}(h:RpL K kd (Lv F B G st) H vs ds):RpC K kd (Lv F B G true) H vs (kids st ds):=
 RpL.ind (P:=λvs ds=>RpC K kd (Lv F B G true) H vs (kids st ds)) .nil (λ{v d vs ds} h _ ih=>by
  refine .cons (x:=(zF d||st,d)) ?_ ih;cases e:zF d with
  |true=>exact h.flat e
  |false=>
   refine h.less λa z=>?_;have zs:st=true:=z.1;rw[zs];exact z.2) h
def CL{vs}{os}{fp}(h:xF K kd F B G H vs os fp):RpC K kd (Lv F B G true) H vs (V4 os):=
 RoL.ind (P:=λvs os _=>RpC K kd (Lv F B G true) H vs (V4 os)) .nil (λ{v o vs os fp fq} h _ ih=>by
  have ha:=Gm h;refine .cons ?_ ih;cases h with
  |lf rp=>exact rp.less λa z=>(by have zs:=z.1;dsimp only at zs;rw[zs];exact z.2)
  |ls=>exact ha.less λa z=>nomatch z.1
  |dc=>exact ha.less λa z=>nomatch z.1
  |ob=>exact ha.less λa z=>nomatch z.1
  |dt=>exact ha.less λa z=>nomatch z.1
  |tp=>exact ha.less λa z=>nomatch z.1) h
def Rn{a}{vs}{ds}(h:Q1 K H a vs)(r:RpC K kd F H vs ds):ItC K kd F H (uX K a) ds:=⟨λH3 T k hT i=>by
 have hr3:Q1 K H3 a vs:=by
  rcases h with(h|⟨o,h⟩)|h
  . exact .inl (.inl (k _ _ h))
  . exact .inl (.inr ⟨o,k _ _ h⟩)
  . exact .inr h
 refine⟨λhi=>?_,λhi=>⟨_,hr3,by rw[r.length];exact hi⟩,λv H4 hy=>?_⟩
 . obtain⟨u,hu,_⟩:=r.get (zzE hi);exact⟨_,u,hr3,hu⟩
 . obtain⟨rfl,hv⟩:=hy;refine⟨λ_ _ z=>z,λd hd=>?_⟩;obtain⟨u,hu,ru⟩:=r.get hd;have:=hv _ hr3;rw[hu]at this;cases this;exact(ru.since k λa z=>(hT a z).1).less λa z=>z.2.elim (λy=>.inl ⟨z.1,y⟩) .inr⟩
def MP{a}{vs}{ds}(h:QX K H a vs)(r:RpC K kd F H vs ds):ItC K kd F H (tB K a) ds:=⟨λH3 T k hT i=>by
 have hr3:QX K H3 a vs:=by
  rcases h with(h|⟨o,h⟩)|h
  . exact .inl (.inl (k _ _ h))
  . exact .inl (.inr ⟨o,k _ _ h⟩)
  . exact .inr h
 refine⟨λhi=>?_,λhi=>⟨_,hr3,by rw[r.length];exact hi⟩,λv H4 hy=>?_⟩
 . obtain⟨u,hu,_⟩:=r.get (zzE hi);exact⟨_,u,hr3,hu⟩
 . obtain⟨rfl,hv⟩:=hy;refine⟨λ_ _ z=>z,λd hd=>?_⟩;obtain⟨u,hu,ru⟩:=r.get hd;have:=hv _ hr3;rw[hu]at this;cases this;exact(ru.since k λa z=>(hT a z).1).less λa z=>z.2.elim (λy=>.inl ⟨z.1,y⟩) .inr⟩
def Ce(lo)(n:Nat):ItC K kd F H (Dg lo n) (yT lo n):=⟨λH2 T k hT i=>by
 have hl:(yT lo n).length=n:=by unfold yT;simp
 refine⟨λhi=>by rw[hl]at hi;exact hi,λhi=>by rw[hl]at hi;exact hi,λv H3 hy=>?_⟩;obtain⟨rfl,rfl⟩:=hy;refine⟨λ_ _ z=>z,λd hd=>?_⟩;have hi:i<n:=by rw[<-hl];exact(zzG.mp hd).1
 unfold yT at hd;rw[zzI,List.getElem?_range hi]at hd;cases hd;exact .int _⟩
end
def U4(he:AE X kd e fa):IC X kd tg e (vh fa):=by
 with_unfolding_all (
 intro pins s σ H R I h;obtain⟨F,B,ad,as,ds,as',Rl,e,q⟩:=h;obtain⟨⟨p,as1⟩,h1,e⟩:=bS_ (e);obtain⟨ys,h2,e⟩:=bS_ e;cases e;cases p with
 |ow o=>
  have h2:Eo (o.str,o.toD)=some ds:=h2;generalize hd:o.toD=d at h2;cases d with
  |lst xs=>
   cases h2;refine Gp he pins s σ H R I ⟨F,B,ad,as,_,as1,Rl,h1,λv T1 ad1 H1 R1 rv1 g1=>?_⟩;have rp:=LB R1 rv1;rw[hd]at rp;cases rp with
   |lst hn hr rl=>exact⟨_,rfl,⟨_,.inl hr⟩,q _ ad1 H1 R1.drop (g1.trans (Grow.less Gw.drop)) (Rn (.inl hr) (Ri rl))⟩
   |lstK a b c rl=>exact⟨_,rfl,⟨_,.inr ⟨_,_,_,a,rfl,rfl,rfl,b,c⟩⟩,q _ ad1 H1 R1.drop (g1.trans (Grow.less Gw.drop)) (Rn (.inr ⟨_,_,_,a,rfl,rfl,rfl,b,c⟩) (Ri rl))⟩
  |tup xs=>
   cases h2;refine L3 he pins s σ H R I ⟨F,B,ad,as,_,as1,Rl,h1,λv T1 ad1 H1 R1 rv1 g1=>?_⟩;have rp:=LB R1 rv1;rw[hd]at rp;have go:∃a ys,v = .ref a/\QX X.K H1 a ys/\RpL X.K kd (Lv F B (Gw [] ad1) o.str) H1 ys xs:=by
    cases rp with
    |tup n h r=>exact⟨_,_,rfl,.inl (.inl h),r⟩
   obtain⟨a,ys,rfl,hs,rl⟩:=go;exact⟨_,rfl,⟨_,hs⟩,q _ ad1 H1 R1.drop (g1.trans (Grow.less Gw.drop)) (MP hs (Ri rl))⟩
  |_=>cases h2
 |bo i=>
  have h2:(match as1[i]? with|some (some (.nd .ls os))=>some (V4 os)|some (some (.nd .tp os))=>some (V4 os)|_=>none)=some ds:=h2;cases k:as1[i]? with
  |none=>rw[k]at h2;cases h2
  |some s0=>
   rw[k]at h2
   match s0,h2,k with
   |some (.nd .ls os),h2,k=>
    cases h2;refine Gp he pins s σ H R I ⟨F,B,ad,as,_,as1,Rl,h1,λv T1 ad1 H1 R1 rv1 g1=>?_⟩;obtain⟨rfl,hs⟩:=rv1;obtain⟨w,hw,ro⟩:=R1.sl i _ k;rw[hs]at hw;cases hw;generalize hfp:ad1 i=fp at ro;cases ro with
    |ls hH rl=>exact⟨_,rfl,⟨_,.inl (.inl hH)⟩,q _ ad1 H1 R1 g1 (Rn (.inl (.inl hH)) (CL rl))⟩
   |some (.nd .tp os),h2,k=>
    cases h2;refine L3 he pins s σ H R I ⟨F,B,ad,as,_,as1,Rl,h1,λv T1 ad1 H1 R1 rv1 g1=>?_⟩;obtain⟨rfl,hs⟩:=rv1;obtain⟨w,hw,ro⟩:=R1.sl i _ k;rw[hs]at hw;cases hw;generalize hfp:ad1 i=fp at ro;cases ro with
    |tp n hH rl=>exact⟨_,rfl,⟨_,.inl (.inl hH)⟩,q _ ad1 H1 R1 g1 (MP (.inl (.inl hH)) (CL rl))⟩)
def Qg(hg:Gl X "range")(hm:X.mg "range"=none)(ha:AA X kd [a] fr)(hs:starEach [a] X.env=[(false,eval a X.env)]):IC X kd tg (.Call (.Name "range" p) [a] [] pos) (ye fr yj):=by
 with_unfolding_all (
 intro pins s σ H R I h;obtain⟨F,B,ad,as,ds,as',Rl,e,q⟩:=h;obtain⟨⟨ps,as1⟩,h1,e⟩:=bS_ (e);obtain⟨⟨xs,lv⟩,h2,e⟩:=bS_ e;obtain⟨ys,h3,e⟩:=bS_ e;cases e;obtain⟨j,rfl,h3⟩:=Mc h3
 . obtain⟨hj,e3⟩:=zx h3;cases e3;refine Pl hg hm ha hs pins s σ H R I ⟨F,B,ad,as,ps,_,Rl,h1,λvs ad1 H1 R1 rv1 g1=>?_⟩;have vl:=Yv R1 rv1 h2;cases vl with
   |cons v1 v2=>
    cases v2;cases v1;exact⟨j,rfl,hj.1,hj.2,q _ ad1 H1 R1 g1 (Ce 0 _)⟩)
noncomputable def sG(as:AS):Option Nat->Option O
 |none=>none
 |some j=>match as[j]? with
  |some (some (.lf st d))=>some (.lf st d)
  |some (some o)=>some (.lf false o.toD)
  |_=>none
def Y2(cap:List (Option Nat))(as:AS):AS:=cap.map (sG as)
noncomputable def xt(g:GF)(tt:TF)(fe:EF)(as0:AS):List Yt->Option (List O)
 | []=>some []
 |x::r=>(g x as0).bind λas1=>(tt as1).bind λb=>if b.1=true then(fe b.2).bind λp=>(Ow p.2 p.1).bind λq=>if q.1.str=true then(xt g tt fe as0 r).bind λos=>some (q.1::os)else none
  else xt g tt fe as0 r
noncomputable def ya(fi:IF)(cap:List (Option Nat))(g:GF)(tt:TF)(fe:EF):EF:=λas=>(fi as).bind λp=>if p.1.length<=sizeLine then(xt g tt fe (Y2 cap p.2) p.1).bind λos=>some (.ow (.nd .ls os),p.2)else none
def yH:TF:=λas=>some (true,as)
section
variable{K:zzA}{kd:KD}{F B:Addr->Prop}{T:List Addr}{ad:Ad}{as:AS}{σ:St}{H H':Hp}{cap:List (Option Nat)}
def Hy(R:Rel K kd F B [] ad as σ H)(k:∀b u,H b=some u->H' b=some u)(hT:∀a ∈ T,H a=none)(hT':∀a ∈ T,H' a≠none):
 Rel K kd (WU (Lv F B (Gw [] ad) true) (· ∈ T)) (λ_=>False) [] (λ_=>[]) (Y2 cap as) (vv cap σ) H':=by
 have no:∀a,¬Gw [] (λ_=>[]) a:=λa z=>z.elim (λy=>nomatch y) λ⟨_,y⟩=>nomatch y;have kn:∀a,H a≠none->H' a≠none:=λa z=>by
  cases e:H a with
  |none=>exact absurd e z
  |some u=>rw[k a u e];simp
 have up:∀{st:Bool}{v:V}{d:D},Rp K kd (λa=>st=true/\Lv F B (Gw [] ad) true a) H v d->Rp K kd (Lv (WU (Lv F B (Gw [] ad) true) (· ∈ T)) (λ_=>False) (Gw [] λ_=>[]) st) H' v d:=λ{st v d} h=>by
  have:=Rp.grow (W':=(· ∈ T)) (H':=H') ⟨λb u q _=>k b u q,λb z=>.inr (hT b z)⟩ (h.less λa z=>z.elim id False.elim);refine this.less λa z=>?_
  rcases z with(⟨z1,z2⟩|z)|z
  . rcases z2 with z2|z2
    . exact .inl ⟨z1,z2⟩
    . exact .inr z2
  . exact z.elim
  . exact(no a z).elim
 refine⟨by unfold Y2 vv;rw[zzB,zzB],λ_ _=>rfl,λ_=>zyJ,(λ_ _ _ z=>nomatch z),zyJ,(λ_ _ _ z=>nomatch z),λa z=>z.elim (λy=>kn a (R.trk true a y)) (hT' a),(λ_ z=>z.elim),λa z=>(no a z).elim,λi s e=>?_⟩;unfold Y2 at e;rw[zzI]at e;obtain⟨c,hc,rfl⟩:=zzX.mp e;have es:(vv cap σ)[i]? = some (DV σ c):=by
  unfold vv;rw[zzI,hc];rfl
 rw[es];cases c with
 |none=>rfl
 |some j=>
  show UL _ _ _ _ _ _ (match as[j]? with|some (some (.lf st d))=>some _|some (some o)=>some _|_=>none) _ _;cases k2:as[j]? with
  |none=>rfl
  |some s0=>
   cases s0 with
   |none=>rfl
   |some o=>
    obtain⟨v,hv,ro⟩:=R.sl j _ k2;cases o with
    |lf st d=>
     have e0:ad j=[]:=by
            generalize hfp:ad j=fp at ro;cases ro;rfl
     rw[e0]at ro;refine⟨v,by show some ((σ[j]?).getD none)=_;rw[hv];rfl,.lf (up ?_)⟩;exact(Gc ro).less λa z=>by have zs:=z.1;rw[zs];exact z.2
    |nd kk os=>exact⟨v,by show some ((σ[j]?).getD none)=_;rw[hv];rfl,.lf (up ((Gm ro).less λa z=>nomatch z.1))⟩
def BH{S}{fi}{g}{tt}{fe}{Q}(hS:∀i ∈ S,cap[i]? = some none)(h:al K kd (ya fi cap g tt fe) σ H Q):
 Sv (qi K kd fi) cap (u7 K kd S g) (OX K kd tt) (al K kd fe) σ H Q:=by
 obtain⟨F,B,ad,as,r,as',R,e,q⟩:=h;obtain⟨⟨ds,as1⟩,h1,e⟩:=bS_ (e)
 by_cases hz:ds.length<=sizeLine
 . have e:(if ds.length<=sizeLine then(xt g tt fe (Y2 cap as1) ds).bind λos=>some (RV.ow (.nd .ls os),as1)else none)=some (r,as'):=e;rw[if_pos hz]at e;obtain⟨os,h2,e⟩:=bS_ e;cases e;refine⟨F,B,ad,as,ds,as',R,h1,λJ ad1 H1 R1 g1 it=>?_⟩;refine⟨λi m ys H3=>m+i=ds.length/\∃T os1 os2,os=os1++os2/\xt g tt fe (Y2 cap as') (ds.drop i)=some os2/\os1.length<=i/\T.Nodup/\(∀a ∈ T,H1 a=none/\H3 a≠none)/\(∀b u,H1 b=some u->H3 b=some u)/\
    RoL (λ_ v d=>Rp K kd (WU (Lv F B (Gw [] ad1) true) (· ∈ T)) H3 v d) (λa=>¬WU (Lv F B (Gw [] ad1) true) (· ∈ T) a) H3 ys os1 T,⟨ds.length,rfl,[],[],os,rfl,h2,zzN _,zyJ,(λ_ m=>nomatch m),(λ_ _ z=>z),.nil⟩, ?_⟩
   rintro i m ys H3 ⟨hm,T,os1,os2,eo,ec,hl,tnd,tf,k3,rl⟩
   obtain⟨i1,i2,i3⟩:=it.all H3 (· ∈ T) k3 tf i;have yl:=rl.length;refine⟨by omega, ?_⟩
   by_cases hi:i<ds.length
   . refine .inr ⟨i1 hi,λv H4 hy=>?_⟩;obtain⟨k4,rp⟩:=i3 v H4 hy;rw[zyQ hi]at ec;obtain⟨as2,e2,ec⟩:=bS_ (ec);obtain⟨⟨b,as3⟩,e3,ec⟩:=bS_ ec;have k14:=λb u h=>k4 b u (k3 b u h);have kn4:∀a,H3 a≠none->H4 a≠none:=λa z=>by
      cases e:H3 a with
      |none=>exact absurd e z
      |some u=>rw[k4 a u e];simp
     have R4:=Hy (cap:=cap) R1 k14 (λa z=>(tf a z).1) (λa z=>kn4 a (tf a z).2);have no:∀a,¬Gw [] (λ_=>[]) a:=λa z=>z.elim (λy=>nomatch y) λ⟨_,y⟩=>nomatch y;refine⟨_,_,_,_,ds[i],as2,R4,(rp _ (zzE hi)).less λa z=>?_,e2,λσ5 ad5 H5 R5 g5 keep5=>⟨λj w hw=>?_,_,_,ad5,as2,b,as3,R5,e3,λad6 H6 R6 g6=>?_⟩⟩
     . rcases z with(z|z)|z
       . exact z
       . exact z.elim
       . exact(no a z).elim
     . rw[keep5 j λz=>?_]
       . exact hw
       . have:=hS j z;unfold vv at hw;rw[zzI,this]at hw;cases hw
     . -- what stood is kept
       have g46:=g5.trans g6;have k46:=λb u h=>g46.keep b u h (no b);have k36:=λb u h=>k46 b u (k4 b u h);have kn6:∀a,H3 a≠none->H6 a≠none:=λa z=>by
        cases e:H3 a with
        |none=>exact absurd e z
        |some u=>rw[k36 a u e];simp
       have up:∀{H7:Hp}{T2:List Addr},(∀b u,H3 b=some u->H7 b=some u)->(∀a ∈ T2,H3 a=none)->RoL (λ_ v d=>Rp K kd (WU (Lv F B (Gw [] ad1) true) (· ∈ T++T2)) H7 v d) (λa=>¬WU (Lv F B (Gw [] ad1) true) (· ∈ T++T2) a) H7 ys os1 T:=λ{H7 T2} k7 f7=>
        RoL.mono (λst v d r=>(r.since k7 f7).less λa z=>z.elim (λy=>.inl (.inl y)) λy=>(zzM.mp y).elim (λx=>.inl (.inr x)) .inr)
         (λa vs n e=>⟨λz=>z.elim (λy=>n (.inl y)) λy=>(zzM.mp y).elim (λx=>n (.inr x)) λx=>(by have:=f7 a x;rw[this]at e;cases e),k7 _ _ e⟩) (λa _ u h=>k7 a u h) rl
       cases b with
       |false=>
        have:=up (T2:=[]) k36 (λ_ m=>nomatch m);rw[zyE]at this;exact⟨m-1,by omega,by omega,T,os1,os2,eo,ec,Nat.le_succ_of_le hl,tnd,λa z=>⟨(tf a z).1,kn6 a (tf a z).2⟩,λb u h=>k36 b u (k3 b u h),this⟩
       |true=>
        rw[if_pos rfl]at ec;obtain⟨⟨p,as7⟩,e7,ec⟩:=bS_ ec;obtain⟨⟨o,as8⟩,e8,ec⟩:=bS_ ec
        by_cases hs:o.str=true
        . have ec:=ec;rw[if_pos hs]at ec;obtain⟨os3,e9,ec⟩:=bS_ ec;cases ec;refine⟨by omega,_,_,ad6,as3,p,as7,R6,e7,λy T2 ad7 H7 R7 rv7 g7=>?_⟩;obtain⟨ad8,R8,ro8,le8⟩:=RJ R7 rv7 e8;have g47:=g46.trans g7;have k47:=λb u h=>g47.keep b u h (no b);have k37:=λb u h=>k47 b u (k4 b u h);have f42:=λa z=>(g47.own a (.inl z)).resolve_left (no a);have f32:∀a ∈ T2,H3 a=none:=λa z=>by
             cases e:H3 a with
             |none=>rfl
             |some u=>have:=k4 a u e;rw[f42 a z]at this;cases this
          have rt:=LH R8 R8.tnd (λa z=>.inl z) ro8 hs;have ro9:Ro (λ_ v d=>Rp K kd (WU (Lv F B (Gw [] ad1) true) (· ∈ T++T2)) H7 v d) (λa=>¬WU (Lv F B (Gw [] ad1) true) (· ∈ T++T2) a) H7 y o T2:=
             Ro.mono (λst v d r=>r.less λa z=>z.elim (λy=>.inl (.inl y)) λy=>(zzM.mp y).elim (λx=>.inl (.inr x)) .inr)
              (λa vs n e=>⟨λz=>n (z.elim (λy=>.inl (.inl y)) λy=>(zzM.mp y).elim (λx=>.inl (.inr x)) .inr),e⟩) (λ_ _ _ h=>h) rt.ro
          refine⟨m-1,by omega,by omega,T++T2,os1++[o],os3,by rw[eo,zxD];rfl,e9,by rw[zzJ,List.length_singleton];omega,zxF.mpr ⟨tnd,rt.nd,λa z b z' e=>?_⟩,λa z=>?_,λb u h=>k37 b u (k3 b u h),(up k37 f32).append (RoL.one ro9)⟩
          . subst e;exact(tf a z).2 (f32 a z')
          . rcases zzM.mp z with z|z
            . refine⟨(tf a z).1, ?_⟩;cases e:H3 a with
              |none=>exact absurd e (tf a z).2
              |some u=>rw[k37 a u e];simp
            . refine⟨?_,rt.tr a z⟩;cases e:H1 a with
              |none=>rfl
              |some u=>have:=k3 a u e;rw[f32 a z]at this;cases this
        . have ec:=ec;rw[if_neg hs]at ec;cases ec
   . refine .inl ⟨i2 (by omega),λp hp=>?_⟩;rw[List.drop_eq_nil_of_le (by omega)]at ec;cases ec;rw[zyE]at eo;subst eo;have pT:=λz=>(tf p z).2 hp;have H1p:H1 p=none:=by
      cases e:H1 p with
      |none=>rfl
      |some u=>have:=k3 p u e;rw[hp]at this;cases this
     have kp:∀b u,H3 b=some u->upd H3 p (.lst ys) b=some u:=λb u h=>by rw[zr (zO h hp)];exact h
     obtain⟨R9,g9⟩:=R1.news (T':=p::T) (H':=upd H3 p (.lst ys)) (zzW.mpr ⟨pT,tnd⟩) (λa z=>(zzC.mp z).elim (λe=>by rw[e];exact H1p) λz=>(tf a z).1) (λb u h=>kp b u (k3 b u h)) (λa z=>by
      rcases zzC.mp z with e|z
      . rw[e,zA];simp
      . cases e:H3 a with
        |none=>exact absurd e (tf a z).2
        |some u=>rw[kp a u e];simp)
     refine q _ (p::T) ad1 _ R9 (.ls zA ?_) (g1.trans g9);have le:∀st a,Lv F B (Gw (p::T) ad1) st a->WU (WU (Lv F B (Gw [] ad1) true) (· ∈ T)) (· = p) a:=λst a z=>by
      rcases z with(z|z)|z|z
      . exact .inl (.inl (.inl (.inl ⟨rfl,z.2⟩)))
      . exact .inl (.inl (.inl (.inr z)))
      . exact(zzC.mp z).elim .inr λy=>.inl (.inr y)
      . exact .inl (.inl (.inr (.inr z)))
     exact RoL.mono (λst v d r=>(r.since kp λa z=>by rw[z];exact hp).less (le st)) (λa vs n e=>⟨λz=>(le true a z).elim n λy=>(by rw[y,hp]at e;cases e),kp _ _ e⟩) (λa _ u h=>kp a u h) rl
 . have e:=e;rw[if_neg hz]at e;cases e
end
section
variable{X:Cx}{kd:KD}{elt tg iter e a b c:Expr}{es ifs:List Expr}{scope:Scope}{pos:Pos}{N:List Str}{cap:List (Option Nat)}{g:GF}{tt:TF}{fe fa fb:EF}{fi:IF}{S:List Nat}{fr:AF}{fd:DF}
def XU:Fp X [] (OX X.K kd yH):=λa s σ H Q I h=>by
 obtain⟨F,B,c,as,b,d,R,e,q⟩:=h;cases e;exact H_ a s σ H Q I (q c H R Grow.refl)
def Ep(h:AT X kd c tt):Fp X [c] (OX X.K kd tt):=by with_unfolding_all exact(O5 h)
def UE(hc:X.calm=true)(hi:IC X kd tg iter fi)(hk:scope.kind = .function)(hcap:YJ N X.N scope.names X.env.scope.names cap=true)(hS:S.all (λi=>cap[i]? == some none)=true)
 (hg:∀cl s H fp,AG (yJ X N scope cl s H fp) kd tg S g) (ht:∀cl s H fp,Fp (yJ X N scope cl s H fp) ifs (OX X.K kd tt)) (he:∀cl s H fp,AE (yJ X N scope cl s H fp) kd elt fe)
 (hs:∀x,foldedSetIterable iter X.env x=pure x):AE X kd (.ListComp elt [⟨tg,iter,ifs,0⟩] scope pos) (ya fi cap g tt fe):=by with_unfolding_all exact(yu (Oq (g:=u7 X.K kd S g) (te:=al X.K kd fe) hc hi hk hcap hg ht he hs) λσ H Q h=>BH (λi m=>by simpa using List.all_eq_true.mp hS i m) h)
def Uz(hN:X.N.Nodup)(hiy:X.N[i]? = some y)(hy:Loc X.env.scope y)(hf:X.fn y=true\/X.env.scope.names.lookup y=some .local)
 (hsw:swapsWith (.ListComp elt [⟨tg,iter,ifs,0⟩] scope pos) (some (.Name y py)) spos.line X.env=pure true)
 (hc:X.calm=true) (hi:IC X kd tg iter fi) (hk:scope.kind = .function) (hcap:YJ N X.N scope.names X.env.scope.names cap=true) (hS:S.all (λi=>cap[i]? == some none)=true)
 (hg:∀cl s H fp,AG (yJ X N scope cl s H fp) kd tg S g) (ht:∀cl s H fp,Fp (yJ X N scope cl s H fp) ifs (OX X.K kd tt)) (he:∀cl s H fp,AE (yJ X N scope cl s H fp) kd elt fe)
 (hs:∀x,foldedSetIterable iter X.env x=pure x):QK X kd (.Assign [.Name y py] (.ListComp elt [⟨tg,iter,ifs,0⟩] scope pos) spos) (zo z i (ya fi cap g tt fe)):=by with_unfolding_all exact(yE (OI (g:=u7 X.K kd S g) (te:=al X.K kd fe) hN hiy hy hf hsw hc hi hk hcap hg ht he hs) λD σ H h=>by
 obtain⟨F,B,c,as,o,R,e,q⟩:=h;obtain⟨⟨p,a⟩,d,e⟩:=bS_ (e);obtain⟨⟨y,f⟩,j,e⟩:=bS_ e;obtain⟨k,e⟩:=zx e;cases e;refine BH (λi m=>by simpa using List.all_eq_true.mp hS i m) ⟨F,B,c,as,p,a,R,d,λv A n r t u g=>?_⟩;obtain⟨b,R2,w⟩:=Gy t u j k;exact q _ b r R2 (g.trans (Grow.less w)))
def OQ(F:FnOk X.prog X.w X.K X.mg X.base U2 k f fdt ps (Ft X.K kd gg))(hr:Room k X.A)(hg:Gl X x)(hm:X.mg x=some (.ref f))(hk:W.keepIn X.K (.ref f)=true)
 (hb:Binds X.K fdt ps []) (hx:US U2 X (λ_ _ _=>False)) (ha:AA X kd (e::es) fr) (hdb:(x==("__debug__":Str))=false) (he:starEach (e::es) X.env=(false,eval e X.env)::starEach es X.env) (hpl:(backTo pos (starEach es X.env)).any (·.1)=false):
 AE X kd (.Call (.Name x p) (e::es) [] pos) (zt fr gg):=by with_unfolding_all exact(yu (Mh F hr hg hm hk hb .nil hx ha hdb he hpl) λσ H Q h=>IP h)
def IG{id}(hc:Y6 X kd (.builtin id) gg)(hg:Gl X x)(hm:X.mg x=none)(hv:bootBuiltins x=some (.builtin id))(ha:AA X kd (e::es) fr)(hn:x≠"__name__")(hdb:(x==("__debug__":Str))=false)
 (he:starEach (e::es) X.env=(false,eval e X.env)::starEach es X.env) (hpl:(backTo pos (starEach es X.env)).any (·.1)=false):AE X kd (.Call (.Name x p) (e::es) [] pos) (fP fr gg):=by with_unfolding_all exact(yu (W6 hc hg hm hv ha hn hdb he hpl) λσ H Q h=>qo (λ_ _ _ z=>z) h)
def Js(hc:Y6 X kd (.type T) gg)(hg:Gl X x)(hm:X.mg x=none)(hv:bootBuiltins x=some (.type T))(ha:AA X kd (e::es) fr)(hn:x≠"__name__")(hdb:(x==("__debug__":Str))=false)
 (he:starEach (e::es) X.env=(false,eval e X.env)::starEach es X.env) (hpl:(backTo pos (starEach es X.env)).any (·.1)=false):AE X kd (.Call (.Name x p) (e::es) [] pos) (fP fr gg):=by with_unfolding_all exact(yu (EI hc hg hm hv ha hn hdb he hpl) λσ H Q h=>qo (λ_ _ _ z=>z) h)
noncomputable def Fi(fa:EF)(c:String):EF:=λas=>(fa as).bind λp=>(p.1.frz.view p.2).bind λx=>if NI x.1=true then some (.ow (.lf true (.bl (P0 (IQ x.1) c))),p.2)else none
def SG(hk:KdOk X kd):Wh X (.builtin "isinstance") (λxs H Q=>∃x c O d,xs=[x,.ty c]/\VV c=true/\Vw X.K kd O H x d/\NI d=true/\Q (.bl (P0 (IQ d) c)) H):=by
 intro b s σ H l m Q I r h;obtain⟨x,c,O,d,rfl,e,f,g,q⟩:=h;cases r with
 |cons i a=>
  cases a with
  |cons a j=>
   cases j;cases(a);exact IR hk I i f e g λk=>⟨.bl _,H,I.tok k,rfl,q⟩
def Al{c}(hkd:KdOk X kd)(hc:VV c=true)(hg:Gl X x)(hm:X.mg x=none)(hv:bootBuiltins x=some (.builtin "isinstance"))(hg2:Gl X y)(hm2:X.mg y=none)(hv2:bootBuiltins y=some (.type c))(ha:AE X kd a fa)
 (hn:x≠"__name__") (hdb:(x==("__debug__":Str))=false) (hn2:y≠"__name__") (hdb2:(y==("__debug__":Str))=false)
 (he:starEach [a,.Name y p2] X.env=(false,eval a X.env)::starEach [.Name y p2] X.env) (he2:starEach [.Name y p2] X.env=(false,eval (.Name y p2) X.env)::starEach [] X.env) (hpl:(backTo pos (starEach [.Name y p2] X.env)).any (·.1)=false):
 AE X kd (.Call (.Name x p) [a,.Name y p2] [] pos) (Fi fa c):=by with_unfolding_all exact(yu (W6 (SG hkd) hg hm hv (xg ha (xg (MA (v:=.ty c) hg2 hm2 hv2 rfl hn2 hdb2) ZG he2) he) hn hdb he hpl) λσ H Q h=>by
 obtain⟨F,B,s,as,r,i,R,e,q⟩:=h;obtain⟨⟨p,j⟩,k,e⟩:=bS_ (e);obtain⟨⟨d,t⟩,l,e⟩:=bS_ e;obtain⟨m,e⟩:=zx e;cases e;exact vi R k λv b n g f o=>⟨v,c,_,d,rfl,hc,xx.vw g f l,m,q _ [] b n g (.lf (.bl _)) o⟩)
noncomputable def wg:MG:=λos es=>match es with | [o]=>if os.length<sizeLine then some (os++[o],.lf true .non)else none|_=>none
noncomputable def Xb:MG:=λos es=>match es with | [.lf _ (.int i)]=>if -(2 ^ 63)<=i/\i<2 ^ 63 then(seqIndex? i os.length).bind λk=>(os[k]?).bind λo=>some (os.eraseIdx k,o)else none|_=>none
noncomputable def E7:MG:=λos es=>match es with | [.nd .ls ps]=>if os.length+ps.length<=sizeLine then some (os++ps,.lf true .non)else none|_=>none
def Os{l f fo g:List Addr}(h:l.Nodup)(e:l=f++(fo++g)):((f++g)++fo).Nodup/\∀a ∈ (f++g)++fo,a ∈ l:=by
 subst e;have p:(f++(fo++g)).Perm ((f++g)++fo):=by
  rw[zxD];exact(List.perm_append_comm).append_left f
 exact⟨p.nodup_iff.mp h,λa m=>p.mem_iff.mpr m⟩
def RF:uN X kd Eg wg:=by
 intro F B G l f p q r g o s t H Q h c b d e k;unfold wg at e
 split at e
 . obtain⟨i,e⟩:=zx e;cases e;cases b with
   |cons j n=>
    cases n;rw[zyE]at d k;exact⟨l,f,_,rfl,rfl,h,by rw[c.length];exact i,k _ _ _ [] (c.append (RoL.one j)) (.lf .non) (λa m=>by rwa [zyE]at m) (by rw[zyE];exact d)⟩
 . cases e
def Lk:uN X kd S3 Xb:=by
 intro F B G l g E I J h o K L H Q m b a c e k;unfold Xb at e
 split at e
 . rename_i M i
   split at e
   . rename_i d;obtain⟨j,n,e⟩:=bS_ e;obtain⟨N,p,e⟩:=bS_ e;cases e;obtain⟨v,f,q,r,s,t,u,w,x⟩:=b.at_ p;cases a with
     |cons y z=>
      cases z;cases y with
      |lf A=>
       cases A;rw[zyE,zyE]at c k;obtain⟨C,D⟩:=Os c t;refine⟨l,g,i,j,v,rfl,rfl,m,d.1,d.2,by rw[b.length];exact n,s,k v _ (f++r) q ?_ u D C⟩;rw[Qw,Qw];exact w.append x
   . cases e
 . cases e
def JE:uN X kd Mw E7:=by
 intro F B G l h y z A i o C D H Q j d c f e k;unfold E7 at e
 split at e
 . rename_i E;obtain⟨n,e⟩:=zx e;cases e;cases c with
   |cons p q=>
    cases q;cases p with
    |ls r g=>
     rename_i b s I;rw[zyE]at f k;obtain⟨t,u,v⟩:=zxF.mp f;obtain⟨J,w⟩:=zzW.mp u;refine⟨l,b,h,s,rfl,rfl,j,r,by rw[d.length,g.length];exact n,k .non _ _ [] (d.append g) (.lf .non) (λa m=>?_) ?_⟩
     . rw[zyE]at m
       rcases zzM.mp m with m|m
       . exact zzP _ m
       . exact zzL _ (zzD _ m)
     . rw[zyE];exact zxF.mpr ⟨t,w,λa m b x=>v a m b (zzD _ x)⟩
 . cases e
def Y5{i:Nat}{id}(hm:tm X id r)(hr:uN X kd r gg)(slot:Slot "list" name id)(hty:typeOf (.builtin id)=pure (.type "method_descriptor"))(ho:PE X (.Name x p) (ZS i))(ha:AD X kd (e::es) fd)
 (hbase:attributeBase (.Name x p) name X.env (eval (.Name x p) X.env)=eval (.Name x p) X.env)
 (hfew:((backTo cpos (starEach (e::es) X.env)).all (λx=>!x.1)&&(backToKw cpos (keywordEach [] X.env)).all (λx=>x.1.isSome)
  && decide ((e::es).length+([]:List Keyword).length+(if([]:List Keyword).isEmpty then 0 else 1)<30))=true)
 (hline:(apos.endLine==cpos.line)=true) (hs:starEach (e::es) X.env=(false,eval e X.env)::starEach es X.env) (hplain:(backTo cpos (starEach es X.env)).any (·.1)=false):
 AE X kd (.Call (.Attribute (.Name x p) name apos) (e::es) [] cpos) (xO i fd gg):=by with_unfolding_all exact(yu (Ig PySem.F.plainAttrs_list slot hty hm ho ha hbase hfew hline hs hplain) λσ H Q h=>uG hr h)
end
inductive Ty where
 |str|lst|dct|int
def Ty.nm:Ty->String
 | .str=>"str" | .lst=>"list" | .dct=>"dict" | .int=>"int"
noncomputable def O3:Ty->D->Bool
 | .str,.str _=>true
 | .lst,.lst _=>true
 | .dct,.dct _=>true
 | .int,.int _=>true
 |_,_=>false
def qk(X:Cx)(T:String)(x:V)(H:Hp):Prop:=∀(pins:List (Addr×Obj)) (σ:St) (s:Shared) (v:Value),Inv X pins σ H s->RelV x v->s.TypeIs v T/\∀a,v = .ref a->∃ob,s.heap.get? a=some ob/\ob.dict=none
def qr(X:Cx)(T:String)(r:V->List V->Hp->VK->Prop)(to:TE)(t:TA):TE:=λσ H Q=>to σ H λx H1=>qk X T x H1/\t σ H1 λxs H2=>r x xs H2 Q
section
variable{X:Cx}{kd:KD}{o e:Expr}{es:List Expr}{to:TE}{t:TA}{name:Str}{apos cpos:Pos}{T id:String}{r:V->List V->Hp->VK->Prop}
def uc(pa:PlainAttrs T)(slot:Slot T name id)(hty:typeOf (.builtin id)=pure (.type "method_descriptor"))(hm:rB X id r)(ho:PE X o to)(ha:PA X (e::es) t)
 (hbase:attributeBase o name X.env (eval o X.env)=eval o X.env)
 (hfew:((backTo cpos (starEach (e::es) X.env)).all (λx=>!x.1)&&(backToKw cpos (keywordEach [] X.env)).all (λx=>x.1.isSome)
  && decide ((e::es).length+([]:List Keyword).length+(if([]:List Keyword).isEmpty then 0 else 1)<30))=true)
 (hline:(apos.endLine==cpos.line)=true) (hs:starEach (e::es) X.env=(false,eval e X.env)::starEach es X.env) (hplain:(backTo cpos (starEach es X.env)).any (·.1)=false):
 PE X (.Call (.Attribute o name apos) (e::es) [] cpos) (qr X T r to t):=by
 intro pins s σ H Q I h;refine wpAny_Call_method_late hbase hfew hline rfl (thn (ho pins s σ H _ I h) λv s1 ⟨x,H1,I1,r1,ty,q1⟩=>?_);obtain⟨h1,h2⟩:=ty _ _ _ _ I1 r1;refine⟨T,id,pa,slot,hty,h1,h2, ?_⟩;have hA:=ha cpos pins s1 σ H1 _ I1 q1;rw[hs]at hA ⊢;refine Calls.callWith_builtin (by show(false||(backTo cpos (starEach es X.env)).any (·.1))=false;rw[hplain]<;>rfl) (Calls.evalArgs_plain ?_);exact thn hA λus s2 ⟨vs,H2,I2,r2,q2⟩=>hm pins s2 σ H2 x vs v us Q I2 r1 r2 q2
def ql(X:Cx)(kd:KD)(id:String)(g:D->List D->Option R0):Prop:=
 rB X id (λx xs H Q=>∃O d ds r,(∀a,O a->H a≠none)/\Vw X.K kd O H x d/\VwL X.K kd O H xs ds/\g d ds=some r/\RQ X.K kd O H Q r)
def uj(hk:KdOk X kd){O}{H}{x}{d}{ty}(h:Vw X.K kd O H x d)(e:O3 ty d=true):qk X ty.nm x H:=by
 intro pins σ s v I rx;cases h with
 |str z=>
  obtain⟨t,rfl⟩:=rx;cases ty<;>first|(cases e;done)|exact⟨typeIs_str s z t,λ_ e=>nomatch e⟩
 |int z=>
  obtain⟨t,rfl⟩:=rx;cases ty<;>first|(cases e;done)|exact⟨typeIs_int s z t,λ_ e=>nomatch e⟩
 |lst hr rl=>
  cases rx;obtain⟨its,_,pl,_⟩:=I.list hr.sq;cases ty<;>first|(cases e;done)|skip
  refine⟨pl.isList.typeIs,λa e=>?_⟩;cases e;obtain⟨o,n,e,c,hd,_⟩:=pl;exact⟨o,e,hd⟩
 |dct hr rm=>
  cases rx;obtain⟨z,hd,vs,rel,dd⟩:=UQ I hk hr;cases ty<;>first|(cases e;done)|skip
  refine⟨dd.typeIs,λb q=>?_⟩;cases q;obtain⟨ob,_,_,h1,h2,_⟩:=dd;exact⟨ob,h1,h2.2.1⟩
 |non=>cases ty<;>cases e
 |bl=>cases ty<;>cases e
 |tup=>cases ty<;>cases e
 |cl=>cases ty<;>cases e
 |er=>cases ty<;>cases e
 |ob=>cases ty<;>cases e
 |dt=>cases ty<;>cases e
noncomputable def P8(ty:Ty)(fa:EF)(fr:AF)(g:D->List D->Option R0):EF:=λas=>(fa as).bind λp=>(p.1.frz.view p.2).bind λw=>if O3 ty w.1=true then(fr p.2).bind λq=>(p.1.frz.view q.2).bind λx=>(views q.2 q.1).bind λy=>(g x.1 y.1).bind λr=>(wrap (meet x.2 y.2) r).bind λz=>some (z,q.2)else none
def Ip(hk:KdOk X kd)(h:al X.K kd (P8 ty fa fr g) σ H Q):
 qr X ty.nm (λx xs H Q=>∃O d ds r,(∀a,O a->H a≠none)/\Vw X.K kd O H x d/\VwL X.K kd O H xs ds/\g d ds=some r/\RQ X.K kd O H Q r) (al X.K kd fa) (uZ X.K kd fr) σ H Q:=by
 obtain⟨F,B,ad,as,r,as',R,e,q⟩:=h;obtain⟨⟨p,as1⟩,h1,e⟩:=bS_ (e);obtain⟨⟨d0,l0⟩,h0,e⟩:=bS_ e;obtain⟨hty,e⟩:=ite_some' e;obtain⟨⟨ps,as2⟩,h2,e⟩:=bS_ e;obtain⟨⟨d,lv⟩,h3,e⟩:=bS_ e;obtain⟨⟨ds,lv2⟩,h4,e⟩:=bS_ e;obtain⟨r0,h5,e⟩:=bS_ e;obtain⟨z,h6,e⟩:=bS_ e;cases e;refine vi R h1 λv ad1 H1 R1 rv1 g1=>⟨uj hk (xx.vw R1 rv1 h0) hty,F,B,ad1,as1,ps,_,R1,h2,λvs ad2 H2 R2 rv2 g2=>?_⟩;exact⟨_,d,ds,r0,R2.tr _,(xx.vw R2 (rv1.grow g2) h3).less Ra.meet1,(Yv R2 rv2 h4).less Ra.meet2,h5,Zp R2 h6 λw T' H' R' rv' g'=>q w T' ad2 H' R' rv' ((g1.trans g2).trans g')⟩
def Oz(hk:KdOk X kd)(hm:ql X kd id g)(pa:PlainAttrs ty.nm)(slot:Slot ty.nm name id)(hty:typeOf (.builtin id)=pure (.type "method_descriptor"))(ho:AE X kd a fa)(ha:AA X kd (e::es) fr)
 (hbase:attributeBase a name X.env (eval a X.env)=eval a X.env)
 (hfew:((backTo cpos (starEach (e::es) X.env)).all (λx=>!x.1)&&(backToKw cpos (keywordEach [] X.env)).all (λx=>x.1.isSome)
  && decide ((e::es).length+([]:List Keyword).length+(if([]:List Keyword).isEmpty then 0 else 1)<30))=true)
 (hline:(apos.endLine==cpos.line)=true) (hs:starEach (e::es) X.env=(false,eval e X.env)::starEach es X.env) (hplain:(backTo cpos (starEach es X.env)).any (·.1)=false):
 AE X kd (.Call (.Attribute a name apos) (e::es) [] cpos) (P8 ty fa fr g):=by with_unfolding_all exact(yu (uc pa slot hty hm ho ha hbase hfew hline hs hplain) λσ H Q h=>Ip hk h)
end
section
variable{K:zzA}{kd:KD}{F B G:Addr->Prop}{T:List Addr}{ad:Ad}{as:AS}{σ:St}{H H':Hp}
def Rel.wrT(R:Rel K kd F B T ad as σ H)(hp:p ∈ T):Rel K kd F B T ad as σ (upd H p u)/\Grow (Gw T ad) H (Gw T ad) (upd H p u):=by
 have g:Grow (Gw T ad) H (Gw T ad) (upd H p u):=Grow.wr (.inl hp);have kn:∀a,H a≠none->upd H p u a≠none:=λa z=>by
  by_cases e:a=p
  . subst e;rw[zA];simp
  . rw[zr e];exact z
 exact⟨⟨R.len,R.out,R.nd,R.inj,R.tnd,R.dis,λa z=>kn a (R.ftr a z),λa z=>⟨kn a (R.btr a z).1,(R.btr a z).2⟩,λa z=>⟨kn a (R.gtr a z).1,(R.gtr a z).2⟩,λi s e=>(R.sl i s e).grow g λa m w h=>by
  rw[zr (λz=>R.dis i a m (by rw[z];exact hp))];exact h⟩,g⟩
inductive RPs(K:zzA)(kd:KD)(F B G:Addr->Prop)(H:Hp):List (V×V)->List (Key×O)->Prop
 |nil:RPs K kd F B G H [] []
 |cons {k:Key}{v:V}{o:O}{ps:List (V×V)}{kos:List (Key×O)}:xW K kd F B G H v o []->RPs K kd F B G H ps kos->RPs K kd F B G H ((kV k,v)::ps) ((k,o)::kos)
end
section
variable{X:Cx}{kd:KD}{e a b c o i:Expr}{pos pos':Pos}{fa fb fk fv:EF}
def NF{κ:Type}[DecidableEq κ](ks:List κ)(k:κ):Bool:=ks.any λx=>decide (x=k)
def QZ{κ:Type}[DecidableEq κ](ks:List κ)(k:κ):List κ:=if NF ks k=true then ks else ks++[k]
def Zv{κ α:Type}[DecidableEq κ](ks:List κ)(os:List α)(k:κ)(o:α):List α:=if NF ks k=true then(ks.zip os).map (λp=>if p.1=k then o else p.2)else os++[o]
theorem MD[DecidableEq κ](k):∀(ks:List κ) (vs:List α),ks.length=vs.length->((ks.zip vs).any λkv=>decide (kv.1=k))=NF ks k
 | [],_,_=>rfl
 |x::r,[],h=>by simp at h
 |x::r,v::vs,h=>by
  show(decide _||(r.zip vs).any _)=_;rw[MD k r vs (by simpa using h)];rfl
theorem M6[DecidableEq κ]:∀(ks:List κ) (vs:List V),ks.length=vs.length->(ks.zip vs).map (λkv=>if kv.1=k then(kv.1,v)else kv)=ks.zip ((ks.zip vs).map λp=>if p.1=k then v else p.2)
 | [],_,_=>rfl
 |x::r,[],h=>by simp at h
 |x::r,w::vs,h=>by
  show _::(r.zip vs).map _=_;rw[M6 r vs (by simpa using h)]
  congr 1
  by_cases e:x=k
  . simp[e]
  . simp[e]
def Lh{κ:Type}[DecidableEq κ]{ks}{vs}{k:κ}{v}(h:ks.length=vs.length):putK (ks.zip vs) k v=(QZ ks k).zip (Zv ks vs k v):=by
 unfold putK QZ Zv;rw[MD k ks vs h]
 split
 . exact M6 ks vs h
 . rw[List.zip_append h];rfl
def Vx{κ α:Type}[DecidableEq κ]{ks}{os}{k:κ}{o:α}(h:ks.length=os.length):(QZ ks k).length=(Zv ks os k o).length:=by
 unfold QZ Zv
 split
 . rw[zzB,List.length_zip,h];simp
 . rw[zzJ,zzJ,h];rfl
theorem NP{L}{Nn}{κ:Type}[DecidableEq κ]{H}{k}{v}{o}(ho:Ro L Nn H v o []):∀{ks:List κ}{vs:List V}{os:List O}{fp:List Addr},ks.length=vs.length->RoL L Nn H vs os fp->
 ∃fp',fp'.Sublist fp/\RoL L Nn H ((ks.zip vs).map λp=>if p.1=k then v else p.2) ((ks.zip os).map λp=>if p.1=k then o else p.2) fp'
 | [],[],_,_,_,.nil=>⟨[],.slnil,.nil⟩
 |x::r,_,_,_,hl,.cons (fp:=f) h t=>by
  obtain⟨fp',s,q⟩:=NP ho (by simpa using hl) t
  by_cases e:x=k
  . refine⟨fp',s.trans (List.sublist_append_right _ _), ?_⟩;have:=RoL.cons ho q;simpa[e]using this
  . refine⟨f++fp',List.Sublist.append (List.Sublist.refl _) s, ?_⟩;have:=RoL.cons h q;simpa[e]using this
 | [],_::_,_,_,hl,_=>by simp at hl
noncomputable def FH(i:Nat)(fk fv:EF):SF:=λas=>(fv as).bind λp=>(ZA p.2 p.1).bind λx=>match x.2[i]? with
 |some (some (.nd (.dc _) _))=>(fk x.2).bind λq=>(q.1.frz.view q.2).bind λkd=>(LK kd.1).bind λk=>match q.2[i]? with
  |some (some (.nd (.dc ks) os))=>if ks.length<sizeLine then some (.nx (q.2.set i (some (.nd (.dc (QZ ks k)) (Zv ks os k (.lf x.1.1 x.1.2))))))else none
  |_=>none
 |_=>none
def An{j:Nat}{x}{p:Pos}(hu:X.A.units+1<cLine)(ho:PE X (.Name x p) (ZS j))(hk:AE X kd i fk)(hv:AE X kd e fv)(hs:swapsWith e (some (.Subscript (.Name x p) i pos')) pos.line X.env=pure false):
 QK X kd (.Assign [.Subscript (.Name x p) i pos'] e pos) (FH j fk fv):=by with_unfolding_all exact(yE (Es hu ho hk hv hs) λD σ H h=>by
 obtain⟨F,B,ad,as,o,R,e,q⟩:=h;obtain⟨⟨p,as1⟩,h1,e⟩:=bS_ (e);obtain⟨⟨⟨st,d⟩,as2⟩,h2,e⟩:=bS_ e;cases k1:as2[j]? with
 |none=>rw[k1]at e;cases e
 |some a0=>
  rw[k1]at e
  match a0,e,k1 with
  |some (.nd (.dc ks0) os0),e,k1=>
   obtain⟨⟨pk,as3⟩,h3,e⟩:=bS_ (e);obtain⟨⟨dk,lk⟩,h4,e⟩:=bS_ e;obtain⟨k,h5,e⟩:=bS_ e;refine⟨F,B,ad,as,p,as1,R,h1,λv T1 ad1 H1 R1 rv1 g1=>?_⟩;obtain⟨ad2,R2,rp,le⟩:=wG R1 rv1 h2;obtain⟨v0,hs0,ro0⟩:=R2.sl j _ k1;refine⟨v0,hs0,vi R2 h3 λu ad3 H3 R3 rv3 g3=>?_⟩;cases k2:as3[j]? with
   |none=>rw[k2]at e;cases e
   |some a2=>
    rw[k2]at e
    match a2,e,k2 with
    |some (.nd (.dc ks) os),e,k2=>
     obtain⟨hz,e⟩:=zx e;cases e;obtain⟨v1,hs1,ro1⟩:=R3.sl j _ k2;rw[hs0]at hs1;cases hs1;generalize hfp:ad3 j=fp1 at ro1;cases ro1 with
     | dc hH hl rl=>
          rename_i l vs fp;have ek:=Nb (xx.vw R3 rv3 h4) h5;have ro:xW X.K kd F B (Gw [] ad3) H3 v (.lf st d) []:=.lf (Rp.grow g3 rp);have hlo:ks.length=os.length:=by rw[hl,rl.length]
          have hex:∃fp',fp'.Sublist fp/\xF X.K kd F B (Gw [] ad3) H3 (Zv ks vs k v) (Zv ks os k (.lf st d)) fp':=by
           unfold Zv
           split
           . exact NP ro hl rl
           . exact⟨fp,List.Sublist.refl _,by have:=rl.append (RoL.one ro);rw[zyE]at this;exact this⟩
          obtain⟨fp',hsub,rl'⟩:=hex;have hnd:=R3.nd j;rw[hfp]at hnd;refine⟨l,_,rfl,.inl ⟨_,k,hH,ek,by rw[List.length_zip,hl,Nat.min_self,<-hl];exact hz,rfl⟩, ?_⟩;rw[Lh hl];obtain⟨R4,g4⟩:=R3.mut (zzG.mp k2).1 hfp hs0 (fp':=fp') (λa m=>by
           rw[zyE]at m ⊢;exact hsub.mem m) (by rw[zyE];exact(zzW.mp hnd).2.sublist hsub) (by rw[hH];simp) λH' G' hl' gr kp=>.dc hl' (Vx hl) (xF.grow gr kp rl')
          exact q σ _ _ R4 (((g1.trans (Grow.less le)).trans g3).trans g4))
end
abbrev Fn:=List (Bool×D)->Option O
section
variable{P:Program}{w:World}{K:zzA}{mg:Str->Option Value}{base:Heap}{kd:KD}
def P6(hr:Room k A):A.units+100<cLine:=by have:=hr.un;omega
def Z0(P:Program)(w:World)(K:zzA)(kd:KD):Prop:=∀X:Cx,X.prog=P->X.w=w->X.K=K->KdOk X kd
theorem Xn{O}:∀ns:List Int,RpL K kd O H (ns.map V.int) (ns.map D.int)
 | []=>.nil
 |_::r=>.cons (.int _) (Xn r)
def ID{ns:List Int}(hg:g [(true,.lst (ns.map D.int))]=some (.lf true (.bl true)))(hS:Hc K H a (ns.map V.int)):Ft K kd g [.ref a] H (λv _=>v = .bl true) E:=by
 refine⟨λ_=>False,[(true,.lst _)],.lf true _,(λ_ z=>z.elim),.cons ?_ .nil,hg,λv T e _ _ _ _ b=>?_⟩
 . rcases hS with h|⟨c,n,k,z,r⟩
   . exact .lst (λz=>z.2) h (Xn ns)
   . exact .lstK k z r (Xn ns)
 . cases b with
   |lf d=>cases d;rfl
end
namespace Bt
theorem len:bootBuiltins "len"=some (.builtin "len"):=by decide +kernel
theorem max:bootBuiltins "max"=some (.builtin "max"):=by decide +kernel
theorem sorted:bootBuiltins "sorted"=some (.builtin "sorted"):=by decide +kernel
theorem isinstance:bootBuiltins "isinstance"=some (.builtin "isinstance"):=by decide +kernel
theorem int:bootBuiltins "int"=some (.type "int"):=by decide +kernel
theorem list:bootBuiltins "list"=some (.type "list"):=by decide +kernel
theorem dict:bootBuiltins "dict"=some (.type "dict"):=by decide +kernel
def n(x)(h:(x==("__name__":Str))=false):x≠"__name__":=λe=>by subst e;simp at h
end Bt
def WD(f:EF)(as:AS)(st:Bool)(d:D):Prop:=f as=some (.ow (.lf st d),as)
def WT(f:TF)(as:AS)(b:Bool):Prop:=f as=some (b,as)
def WA(f:AF)(as:AS)(rs:List (Bool×D)):Prop:=f as=some (rs.map (λx=>.ow (.lf x.1 x.2)),as)
def WO(f:DF)(as:AS)(os:List O):Prop:=f as=some (os,as)
section
variable{as:AS}{f a b:EF}{s t:Bool}{x y z:D}{i j:Int}
def zb:WD (fC x) as true x:=rfl
def za{i:Nat}(h:as[i]? = some (some (.lf s x))):WD (fV i) as s x:=by unfold WD fV;rw[h]
def Hm(ha:WD a as s x)(hb:WD b as t y)(hg:g x y=some (.im z)):WD (f2 a b g) as (zF z||(s&&t)) z:=by
 unfold WD f2 at *;rw[ha];show((b as).bind _)=_;rw[hb];show((g x y).bind _)=_;rw[hg];show(if _=true then _ else _:Option RV).bind _=_;rw[if_pos (by unfold meet;simp)];rfl
def DY(ha:a as=some (.ow oa,as))(hb:b as=some (.ow ob,as))(hg:g oa.toD ob.toD=some (.im z)):WD (f2 a b g) as (zF z||(oa.str&&ob.str)) z:=by
 unfold WD f2 at *;rw[ha];show((b as).bind _)=_;rw[hb];show((g oa.toD ob.toD).bind _)=_;rw[hg];show(if _=true then _ else _:Option RV).bind _=_;rw[if_pos (by unfold meet;simp)];rfl
def ym(ha:WD a as s x)(hb:WD b as t y)(hg:g x y=some (.im z))(e:zF z=true):WD (f2 a b g) as true z:=by
 have:=Hm ha hb hg;rw[e]at this;exact this
def yg(ha:WD a as s (.int i))(hb:WD b as t (.int j)):WD (f2 a b (XZ .Add)) as true (.int (i+j)):=ym ha hb rfl rfl
def TN(ha:WD a as s (.int i))(hb:WD b as t (.int j)):WD (f2 a b (XZ .Sub)) as true (.int (i-j)):=ym ha hb rfl rfl
def xo(ha:WD a as s (.int i))(hb:WD b as t (.int j))(h1:i.natAbs<big)(h2:j.natAbs<big):WD (f2 a b (XZ .Mult)) as true (.int (i*j)):=ym ha hb (by show(if _ then _ else _)=_;rw[if_pos ⟨h1,h2⟩]) rfl
def yB(ha:WD a as s (.int i))(hb:WD b as t (.int j))(h1:0<j)(h2:j.natAbs<big):WD (f2 a b (XZ .FloorDiv)) as true (.int (i/j)):=ym ha hb (by show(if _ then _ else _)=_;rw[if_pos ⟨h1,h2⟩]) rfl
def zP(ha:WD a as s (.int i))(hb:WD b as t (.int j))(h1:0<j):WD (f2 a b (XZ .Mod)) as true (.int (i%j)):=ym ha hb (by show(if _ then _ else _)=_;rw[if_pos h1]) rfl
def Qz(ha:WD a as s x)(hb:WD b as t y)(h:ZN 60 x y=some c):WD (f2 a b (zB .Eq)) as true (.bl c):=ym ha hb (by show(ZN 60 x y).bind _=_;rw[h];rfl) rfl
def DM(ha:WD a as s x)(hb:WD b as t y)(h:ZN 60 x y=some c):WD (f2 a b (zB .NotEq)) as true (.bl (!c)):=ym ha hb (by show(ZN 60 x y).bind _=_;rw[h];rfl) rfl
def PV(ha:WD a as s (.int i))(hb:WD b as t (.int j)):WD (f2 a b (zB .Lt)) as true (.bl (decide (i<j))):=ym ha hb rfl rfl
def K5(ha:WD a as s (.int i))(hb:WD b as t (.int j)):WD (f2 a b (zB .Gt)) as true (.bl (decide (j<i))):=ym ha hb rfl rfl
def yI(h:WD f as s x)(e:truth x=some c):WT (fT f) as c:=by
 unfold WT fT;unfold WD at h;rw[h];show((truth x).bind _)=_;rw[e];rfl
def S5(h:WT c as k):WT (PR c) as (!k):=by unfold WT PR at *;rw[h];rfl
def Bg(h:WT c as k)(h2:k=true->WT e as l)(h3:k=false->l=false):WT (Lq c e) as l:=by
 unfold WT Lq at *;rw[h];cases k with
 |true=>exact h2 rfl
 |false=>rw[h3 rfl];rfl
def Pk(h:WT c as k)(h2:k=false->WT e as l)(h3:k=true->l=true):WT (Xl c e) as l:=by
 unfold WT Xl at *;rw[h];cases k with
 |false=>exact h2 rfl
 |true=>rw[h3 rfl];rfl
def J5(h:WD a as s (.bl k))(h2:k=true->WD b as true (.bl l))(h3:k=false->l=false):WD (LC a b) as true (.bl l):=by
 unfold WD LC at *;rw[h];cases k with
 |true=>exact h2 rfl
 |false=>rw[h3 rfl];rfl
def Il(h:WD a as s (.bl k))(h2:k=false->WD b as true (.bl l))(h3:k=true->l=true):WD (uH a b) as true (.bl l):=by
 unfold WD uH at *;rw[h];cases k with
 |false=>exact h2 rfl
 |true=>rw[h3 rfl];rfl
def zz:WA aN as []:=rfl
def zf(ha:WD a as s x)(hr:WA fr as rs):WA (aC a fr) as ((s,x)::rs):=by
 unfold WA aC at *;unfold WD at ha;rw[ha];show((fr as).bind _)=_;rw[hr];rfl
theorem ZT:∀rs:List (Bool×D),w_ as (rs.map (λx=>.ow (.lf x.1 x.2)))=some (rs.map λx=>(zF x.2||x.1,x.2))
 | []=>rfl
 |r::rs=>by
  show(w_ as _).bind _=_;rw[ZT rs];rfl
theorem vT:∀rs:List (Bool×D),views as (rs.map (λx=>.ow (.lf x.1 x.2)))=some (rs.map (·.2),some (rs.all (·.1)))
 | []=>rfl
 |r::rs=>by
  show(views as _).bind _=_;rw[vT rs];rfl
def xN(ha:WA fr as rs)(hg:g (rs.map λx=>(zF x.2||x.1,x.2))=some (.lf s x)):WD (zt fr g) as s x:=by
 unfold WD zt;unfold WA at ha;rw[ha];show(w_ as _).bind _=_;rw[ZT];show(g _).bind _=_;rw[hg];rfl
def vL(ha:WA fr as rs)(hg:g (rs.map λx=>(zF x.2||x.1,x.2))=some o):zt fr g as=some (.ow o,as):=by
 unfold zt;unfold WA at ha;rw[ha];show(w_ as _).bind _=_;rw[ZT];show(g _).bind _=_;rw[hg];rfl
def Oo(ha:WA fr as rs)(hg:g (rs.map (·.2))=some (.im x)):WD (fP fr g) as (zF x||rs.all (·.1)) x:=by
 unfold WD fP;unfold WA at ha;rw[ha];show(views as _).bind _=_;rw[vT];show(g _).bind _=_;rw[hg];show(if _=true then _ else _:Option RV).bind _=_;rw[if_pos (by simp)];rfl
def wR(ha:WA fr as rs)(hg:g (rs.map (·.2))=some (.im x))(e:zF x=true):WD (fP fr g) as true x:=by
 have:=Oo ha hg;rw[e]at this;exact this
def zR:WO dN as []:=rfl
def zw{fr}{os}(ha:WD a as s x)(hr:WO fr as os):WO (dC a fr) as (.lf s x::os):=by
 unfold WO dC at *;unfold WD at ha;rw[ha];show((fr as).bind _)=_;rw[hr];rfl
def v5{fr}{os}(h:WO fr as os)(hl:os.length<=sizeLine):yK fr as=some (.ow (.nd .ls os),as):=by
 unfold yK;unfold WO at h;rw[h];show(if os.length<=sizeLine then _ else _)=_;rw[if_pos hl]
def zC{f g}{as1}{o}(h1:f as=some (.nx as1))(h2:g as1=o):zg f g as=o:=by unfold zg;rw[h1];exact h2
def Yi{f g}{o}(h1:f as=some (.rt o)):zg f g as=some (.rt o):=by unfold zg;rw[h1];rfl
def yL{c}{f g}{o}(h:WT c as true)(h1:f as=o):xr c f g as=o:=by unfold xr;unfold WT at h;rw[h];exact h1
def yc{c}{f g}{o}(h:WT c as false)(h1:g as=o):xr c f g as=o:=by unfold xr;unfold WT at h;rw[h];exact h1
def zS{i:Nat}{st}(h:WD f as s x)(hi:i<as.length):zo st i f as=some (.nx (as.set i (some (.lf s x)))):=by
 unfold zo;unfold WD at h;rw[h];cases st<;>exact if_pos hi
def yz{i:Nat}{o}(h:f as=some (.ow o,as))(hi:i<as.length):zo false i f as=some (.nx (as.set i (some o))):=by
 unfold zo;rw[h];exact if_pos hi
def Od{i:Nat}{o}(h:f as=some (.ow o,as))(hi:i<as.length):zo true i f as=some (.nx (as.set i (some o.frz))):=by
 unfold zo;rw[h];exact if_pos hi
def Xc(h:WD f as true x):zY f as=some (.rt (.lf true x)):=by unfold zY;unfold WD at h;rw[h];rfl
def ZX(hl:ds.length=m)(h:c (yk n ds)=some (.rt o)):vP n m c ds=some o:=by unfold vP;rw[if_pos hl,h];rfl
theorem yN{g}{f}(I:Nat->AS->Prop):∀(xs:List Yt) (k:Nat) (as:AS),(∀i x as,xs[i]? = some x->I (k+i) as->∃as1,g x as=some as1/\∃as2,f as1=some (.nx as2)/\I (k+i+1) as2)->I k as->∃as',forL g f xs as=some (.nx as')/\I (k+xs.length) as'
 | [],k,as,_,h=>⟨as,rfl,h⟩
 |x::r,k,as,st,h=>by
  obtain⟨as1,h1,as2,h2,h3⟩:=st 0 x as rfl h;obtain⟨as',h4,h5⟩:=yN I r (k+1) as2 (λi y as e q=>by
   obtain⟨u,k1,v,k2,k3⟩:=st (i+1) y as e (by rw[show k+(i+1)=k+1+i by omega];exact q);exact⟨u,k1,v,k2,by rw[show k+1+i+1=k+(i+1)+1 by omega];exact k3⟩) h3
  refine⟨as', ?_,by rw[zzT,show k+(r.length+1)=k+1+r.length by omega];exact h5⟩;show(g x as).bind _=_;rw[h1];show(f as1).bind _=_;rw[h2];exact h4
def yQ{fi}{g}{f}{xs}{as'}{o}(h:fi as=some (xs,as'))(h2:forL g f xs as'=o):yo fi g f as=o:=by unfold yo;rw[h];exact h2
def yO{lo}{n i:Nat}{x}(h:(yT lo n)[i]? = some x):x=(true,.int (lo+i))/\i<n:=by
 unfold yT at h;rw[zzI]at h;cases e:(List.range n)[i]? with
 |none=>rw[e]at h;cases h
 |some k=>
  rw[e]at h;obtain⟨h1,h2⟩:=zzG.mp e;rw[zyU]at h1;rw[List.getElem_range]at h2;subst h2;exact⟨(zzZ h).symm,h1⟩
def yX(h:WA fr as [(u,.int j)])(h0:0<=j)(h1:j<1000000):ye fr yj as=some (yT 0 j.toNat,as):=by
 unfold ye;unfold WA at h;rw[h];simp only[zyL,vT];show((if -_<=j/\j<2 ^ 62 then some _ else none).bind _)=_;rw[if_pos ⟨by omega,by omega⟩];rfl
def BL(ha:a as=some (.ow o,as))(hr:WA fr as rs):WA (aC a fr) as ((o.str,o.toD)::rs):=by
 unfold WA aC at *;rw[ha];show((fr as).bind _)=_;rw[hr];rfl
def Zt{i:Nat}{o}(h:as[i]? = some (some o)):RV.view as (.bo i)=some (o.toD,o.kl):=by simp only[RV.view,h]
def Je{i:Nat}{o}(h:as[i]? = some (some o)):Ow as (.bo i)=some (o.frz,as.set i (some o.frz)):=by simp only[Ow,h]
def Ox{i:Nat}{o}(h:as[i]? = some (some o))(hs:o.str=true):BI as (.bo i)=some o:=by simp only[BI,h,hs,if_true]
def Wi{i:Nat}{k}{os}(h:as[i]? = some (some (.nd k os))):fV i as=some (.bo i,as):=by unfold fV;rw[h]
def DI{i:Nat}{os}(h:as[i]? = some (some (.nd .ls os))):WD (fP (aC (fV i) aN) Uc) as true (.int os.length):=by
 have e:views as [.bo i]=some ([.lst (O.toDs os)],meet (O.nd .ls os).kl (some true)):=by
  show(RV.view as _).bind _=_;rw[Zt h];rfl
 unfold WD fP aC;rw[Wi h];simp only[zyL,aN,RV.frz,e];rw[show Uc [.lst (O.toDs os)]=some (.im (.int os.length)) by show some (R0.im (.int ((O.toDs os).length:Nat)))=_;rw[Y_]];rfl
def Xs{g}{f}{d}{r}{as1 as2}{o}(h1:g d as=some as1)(h2:f as1=some (.nx as2))(h3:forL g f r as2=o):forL g f (d::r) as=o:=by
 show(g d as).bind _=_;rw[h1];show(f as1).bind _=_;rw[h2];exact h3
def Rw{g}{f}{d}{r}{as1}{o}(h1:g d as=some as1)(h2:f as1=some (.rt o)):forL g f (d::r) as=some (.rt o):=by
 show(g d as).bind _=_;rw[h1];show(f as1).bind _=_;rw[h2];rfl
def UR{i:Nat}{os}(h:as[i]? = some (some (.nd .ls os)))(hl:os.length<sizeLine)(ha:WD a as s x):yq (xO i (dC a dN) wg) as=some (.nx (as.set i (some (.nd .ls (os++[.lf s x]))))):=by
 unfold yq xO;rw[h];have e:=zw ha zR;rw[e];show(Option.bind (match as[i]? with|some (some (.nd .ls os))=>_|_=>none) _)=_;rw[h];show((wg os _).bind _).bind _=_;have e2:wg os [.lf s x]=some (os++[.lf s x],.lf true .non):=by unfold wg;exact if_pos hl
 rw[e2];rfl
def Sq{i:Nat}{os}{k}{o}(h:as[i]? = some (some (.nd .ls os)))(ha:WD a as s (.int k))(h0:0<=k)(h1:k<os.length)(hs:os.length<2 ^ 60)(ho:os[k.toNat]? = some o):xO i (dC a dN) Xb as=some (.ow o,as.set i (some (.nd .ls (os.eraseIdx k.toNat)))):=by
 unfold xO;rw[h];have e:=zw ha zR;rw[e];show(match as[i]? with|some (some (.nd .ls os))=>_|_=>none)=_;rw[h];show((Xb os _).bind _)=_;have e2:Xb os [.lf s (.int k)]=some (os.eraseIdx k.toNat,o):=by
  unfold Xb;show(if -_<=k/\k<2 ^ 63 then _ else _)=_;rw[if_pos ⟨by omega,by omega⟩];have e3:seqIndex? k os.length=some k.toNat:=by unfold seqIndex?;simp;omega
  rw[e3];show((os[k.toNat]?).bind _)=_;rw[ho];rfl
 rw[e2];rfl
def IX(h:f as=some (.ow o,as))(hg:g (o.str,o.toD) as=some as'):TH f g as=some (.nx as'):=by
 unfold TH;rw[h];show(g _ as).bind _=_;rw[hg];rfl
def UA{i:Nat}{o}(h:as[i]? = some (some o))(hs:o.str=true):zY (fV i) as=some (.rt o):=by
 cases o with
 |lf st d=>unfold zY fV;rw[h];have:st=true:=hs;subst this;rfl
 |nd k os=>
  unfold zY;rw[Wi h];show(BI as _).bind _=_;rw[Ox h hs];rfl
def JO(ha:a as=some (.ow oa,as1))(hb:b as1=some (.ow ob,as2))(hg:g oa.toD ob.toD=some (.fl zs)):f2 a b g as=some (.ow (.nd .ls (zs.map (N7 (oa.str&&ob.str)))),as2):=by
 unfold f2;rw[ha];show((b as1).bind _)=_;rw[hb];show((g oa.toD ob.toD).bind _)=_;rw[hg];show(if _=true then _ else _:Option RV).bind _=_;rw[if_pos (by unfold meet;simp)];rfl
def yM(ha:WD a as true x)(hb:WD b as true y)(hg:g x y=some (.im z)):WD (f2 a b g) as true z:=by
 have:=Hm ha hb hg;rw[show(zF z||(true&&true))=true by simp]at this;exact this
theorem Zg:∀zs:List D,zs.map (N7 true)=zs.map (O.lf true)
 | []=>rfl
 |z::r=>by
  show N7 true z::r.map _=_;rw[Zg r];unfold N7;rw[zyD];rfl
def Og(ha:a as=some (.ow oa,as1))(hb:b as1=some (.ow ob,as2))(hg:g oa.toD ob.toD=some (.fl zs))(h1:oa.str=true)(h2:ob.str=true):f2 a b g as=some (.ow (.nd .ls (zs.map (O.lf true))),as2):=by
 have:=JO ha hb hg;rw[h1,h2,show(true&&true)=true from rfl,Zg]at this;exact this
def yD{fr}{o}{os}{as1 as2}(ha:a as=some (.ow o,as1))(hr:fr as1=some (os,as2)):dC a fr as=some (o::os,as2):=by
 unfold dC;rw[ha];show((fr as1).bind _)=_;rw[hr];rfl
def add_lists(h:xs.length+ys.length<=sizeLine):XZ .Add (.lst xs) (.lst ys)=some (.fl (xs++ys)):=if_pos h
def Px(lo)(n:Nat):yT lo (n+1)=(true,.int lo)::yT (lo+1) n:=by
 unfold yT;rw[List.range_succ_eq_map,zyS,zyB]
 congr 1
 . simp
 . apply List.map_congr_left;intro i _;show(true,D.int _)=_
   congr 2
   omega
def HL(ha:WD a as s y)(ht:O3 ty y=true)(hr:WA fr as rs)(hg:g y (rs.map (·.2))=some (.im x))(e:zF x=true):WD (P8 ty a fr g) as true x:=by
 unfold WD P8;unfold WD at ha;unfold WA at hr;rw[ha];show(if O3 ty y=true then _ else _:Option _)=_;rw[if_pos ht,hr];simp only[zyL,vT];show((g y _).bind _)=_;rw[hg];show(if _=true then _ else _:Option RV).bind _=_;rw[if_pos (by rw[e];rfl)];show some (RV.ow (.lf _ x),as)=_;rw[e];rfl
def E2{g}{fe}{as0 as1}{y}{r}{os}(h1:g y as0=some as1)(h2:WD fe as1 true x)(h3:xt g yH fe as0 r=some os):xt g yH fe as0 (y::r)=some (.lf true x::os):=by
 show(g y as0).bind _=_;rw[h1];show(fe as1).bind _=_;unfold WD at h2;rw[h2];show _=_;rw[h3];rfl
def XQ{fi}{cap}{g}{tt}{fe}{xs}{os}(h1:fi as=some (xs,as))(hl:xs.length<=sizeLine)(h2:xt g tt fe (Y2 cap as) xs=some os):ya fi cap g tt fe as=some (.ow (.nd .ls os),as):=by
 unfold ya;rw[h1];show(if xs.length<=sizeLine then _ else _)=_;rw[if_pos hl];show _=_;rw[h2];rfl
def SJ(ha:fr as=some (rs,as))(hx:w_ as rs=some xs)(hg:g xs=some o):zt fr g as=some (.ow o,as):=by
 unfold zt;rw[ha];show(w_ as rs).bind _=_;rw[hx];show(g xs).bind _=_;rw[hg];rfl
end
def YQ(h:Nat.ble n 1000=true):n<=sizeLine:=Nat.le_of_lt (zQ (Nat.le_of_ble_eq_true h))
def zh(h:Nat.ble (a+1) b=true):a<b:=Nat.le_of_ble_eq_true h
def zE(h0 : -(10 ^ 200)<i)(h1:i<10 ^ 200):i.natAbs<big:=by
 have:10 ^ 200<big:=by unfold big;decide +kernel
 have e:((10 ^ 200:Nat):Int)=(10:Int) ^ 200:=by norm_cast
 have:i.natAbs<((10 ^ 200:Nat):Int):=by rw[e];omega
 omega
def Cm{ns:List Int}{k:Int}(h0:0<=k)(h1:k<ns.length):∃x,zy (.lst (ns.map D.int)) (.int k)=some (.im (.int x)):=by
 have hk:k.toNat<ns.length:=by omega
 refine⟨ns[k.toNat], ?_⟩;have h:=x8 (xs:=ns.map D.int) (by rw[zzI,zzE hk];rfl);rw[show(k.toNat:Int)=k by omega]at h;show Ss _=_;rw[h];rfl
section
variable{X:Cx}{kd:KD}{K:zzA}{mg:Str->Option Value}
def tL(K:zzA)(g:Fn):Sp:=λvs H Q E=>∀kd:KD,Ft K kd g vs H Q E
end
def sZ:O->Option (Bool×D)
 | .lf s d=>some (s,d)
 |_=>none
def FN(h:sZ o=some p):o = .lf p.1 p.2:=by
 cases o with
 |lf s d=>cases h;rfl
 |nd k os=>cases h
noncomputable def SI(i j:Nat)(fd:DF):SF:=λas=>(fd as).bind λp=>(AV p.1).bind λo=>(sZ o.1).bind λa=>(sZ o.2).bind λb=>if i<p.2.length/\j<p.2.length then some (.nx ((p.2.set i (some (.lf a.1 a.2))).set j (some (.lf b.1 b.2))))else none
section
variable{X:Cx}{kd:KD}{a b:Expr}{fd:DF}{pos:Pos}
def IZ(hc:X.calm=true)(hN:X.N.Nodup)(hi:X.N[i]? = some x)(hj:X.N[j]? = some y)(hij:i≠j)
 (hx:X.env.scope.names.lookup x=some .local) (hy:X.env.scope.names.lookup y=some .local) (ha:AD X kd [a,b] fd)
 (hw:swappedStores [.Tuple [.Name x px,.Name y py] kt pt] (.Tuple [a,b] k2 pt2) X.env=pure (some [x,y]))
 (hs:swapsWithSole [.Tuple [.Name x px,.Name y py] kt pt] (.Tuple [a,b] k2 pt2) pos.line X.env=pure false):
 QK X kd (.Assign [.Tuple [.Name x px,.Name y py] kt pt] (.Tuple [a,b] k2 pt2) pos) (SI i j fd):=by with_unfolding_all exact(yE (JY hc hN hi hj hij hx hy ha hw hs) λD σ H h=>by
 obtain⟨F,B,ad,as,o,R,e,q⟩:=h;obtain⟨⟨os,as1⟩,h1,e⟩:=bS_ (e);obtain⟨⟨o1,o2⟩,e1,e⟩:=bS_ e;obtain⟨⟨s1,d1⟩,e2,e⟩:=bS_ e;obtain⟨⟨s2,d2⟩,e3,e⟩:=bS_ e;cases N5 e1;cases FN e2;cases FN e3
 . obtain⟨⟨l1,l2⟩,e⟩:=zx e;cases e;refine⟨F,B,ad,as,_,as1,R,h1,λvs T' ad' H' R' rl g=>?_⟩;cases rl with
   |cons ra rb=>
    cases rb with
    |cons rb rn=>
     cases rn;cases ra with
     |lf ra=>
            cases rb with
            |lf rb=>
             refine⟨_,_,rfl, ?_⟩;have R2:=R'.put l1 (.lf ra);have R3:=R2.put (by rw[zzU];exact l2) (xW.less yG (.lf rb));exact q _ _ _ R3 (g.trans (Grow.less λa z=>yG a (yG a z))))
end
inductive Ents(w:World):List DictEntry->List (Key×V)->Prop
 |nil:Ents w [] []
 |str {x:Str}{t:Tok}{v:V}{u:Value}{r:List DictEntry}{s:List (Key×V)}:RelV v u->Ents w r s->Ents w (⟨PyData.keyHash w.params x,.str x t,u⟩::r) ((.inr x,v)::s)
theorem Ents.keys:∀{es:List DictEntry}{kvs:List (Key×V)},Ents w es kvs->∀e ∈ es,∃k,(yy P w).is k e.key=true/\e.hash=(yy P w).hash k
 |_,_,.nil,_,m=>nomatch m
 |_,_,.str (x:=x) (t:=t) _ r,e,m=>by
  rcases zzC.mp m with rfl|m
  . exact⟨.inr x,Y9 P w x t,rfl⟩
  . exact r.keys e m
theorem Ents.pairs:∀{es:List DictEntry}{kvs:List (Key×V)},Ents w es kvs->∃vs,KV kvs vs/\Pairs (yy P w) es vs/\vs.map (·.1)=kvs.map (·.1)
 |_,_,.nil=>⟨[],.nil,.nil,rfl⟩
 |_,_,.str (x:=x) (t:=t) (u:=u) h r=>by
  obtain⟨a,b,c,d⟩:=r.pairs;exact⟨(.inr x,u)::a,.cons ⟨rfl,h⟩ b,.cons (Y9 P w x t) rfl c,by rw[zyS,zyS,d]⟩
structure DctAt(w:World)(K:zzA)(a:Addr)(kvs:List (Key×V)):Prop where
 ex:∃es ep,K.lookup a=some {cls:=.type "dict",data:=.dict es ep}/\Ents w es.toList kvs
 nd:(kvs.map (·.1)).Nodup
 le:kvs.length<=sizeLine
 ns:(a==sysModules)=false
def rU(l:List (Addr×List (Key×V)))(c:Str->Addr:=λ_=>0):KD:=⟨λa k=>l.lookup a=some k,c⟩
def lookup_mem{l:List (Addr×List (Key×V))}(h:l.lookup a=some k):(a,k) ∈ l:=by
 induction l with
 |nil=>cases h
 |cons p r b=>
  rw[List.lookup_cons]at h
  by_cases e:a=p.1
  . subst e;rw[beq_self_eq_true]at h;cases h;exact zzF
  . rw[show _=false from beq_eq_false_iff_ne.mpr e]at h;exact zzD _ (b h)
def JC{K}(h:∀p ∈ l,DctAt w K p.1 p.2):Z0 P w K (rU l c):=λX n o r=>by
 subst n;subst o;subst r;refine⟨λa k v b d=>zzZ (b.symm.trans d),λa k b=>?_,λa k y b f=>?_⟩
 . obtain⟨g,i,e,_⟩:=(h _ (lookup_mem b)).ex;exact⟨_,e⟩
 . have q:=h _ (lookup_mem b);obtain⟨g,i,e,j⟩:=q.ex;obtain⟨s,d,t,u⟩:=j.pairs;refine⟨q.le,q.ns,s,d,_,g,i,f _ _ e,⟨rfl,rfl,rfl⟩,rfl,λx m=>j.keys x (by simpa using m),t,by rw[u];exact q.nd⟩
def isStar:Expr->Bool
 | .Starred .. => true
 |_=>false
def y9(h:isStar a=false):starEach (a::es) env=(false,eval a env)::starEach es env:=by
 cases a<;>first|rfl|cases h
section
variable{as:AS}{f a b c:EF}{s t u:Bool}{x y z:D}{i j k:Int}
def IU(h:WD f as s x)(ho:NI x=true:=by rfl):WD (Fi f cl) as true (.bl (P0 (IQ x) cl)):=by
 unfold WD Fi at *;rw[h];show(if NI x=true then _ else _)=_;rw[if_pos ho];rfl
def J7(h:WD f as s x)(e:P0 (IQ x) cl=q)(ho:NI x=true:=by rfl):WD (Fi f cl) as true (.bl q):=by subst e;exact IU h ho
def NJ(h:WT cc as true)(h1:g as=some (.nx as1))(h2:Ml cc g n as1=o):Ml cc g (n+1) as=o:=by
 unfold WT at h;show(cc as).bind _=_;rw[h];show(g as).bind _=_;rw[h1];exact h2
def NO(h:WT cc as false):Ml cc g (n+1) as=some (.nx as):=by
 unfold WT at h;show(cc as).bind _=_;rw[h];rfl
def Jp(h:WO fd as [.lf s x,.lf t y])(hi:p<as.length)(hj:q<as.length):SI p q fd as=some (.nx ((as.set p (some (.lf s x))).set q (some (.lf t y)))):=by
 unfold SI;unfold WO at h;rw[h];show(if _ then _ else _)=_;rw[if_pos ⟨hi,hj⟩]
def EZ(h1:g w as0=some as1)(h2:WT tt as1 false)(h3:xt g tt fe as0 r=o):xt g tt fe as0 (w::r)=o:=by
 unfold WT at h2;show(g w as0).bind _=_;rw[h1];show(tt as1).bind _=_;rw[h2];exact h3
def WE(f:EF)(as:AS)(x:D):Prop:=∃o,f as=some (.ow o,as)/\o.str=true/\o.toD=x
def RE(r:Option O)(x:D):Prop:=∃o,r=some o/\o.str=true/\o.toD=x
def WD.e(h:WD f as true x):WE f as x:=⟨_,h,rfl,rfl⟩
def x6{os}(h:WO fr as os)(hl:os.length<=sizeLine)(hs:O.strs os=true)(e:D.lst (O.toDs os)=x):WE (yK fr) as x:=⟨_,v5 h hl,hs,e⟩
def ZY(h:WE a as x)(hr:WA fr as rs):WA (aC a fr) as ((true,x)::rs):=by
 obtain⟨o,b,c,rfl⟩:=h;have:=BL b hr;rw[c]at this;exact this
def Z5(ha:WE a as x)(hg:RE (g [(true,x)]) z):WE (zt (aC a aN) g) as z:=by
 obtain⟨o,b,c,d⟩:=hg;exact⟨o,vL (ZY ha zz) (by show g [(zF x||true,x)]=_;rw[zyD];exact b),c,d⟩
def Qt(ha:WE a as x)(hb:WE b as y)(hg:RE (g [(true,x),(true,y)]) z):WE (zt (aC a (aC b aN)) g) as z:=by
 obtain⟨o,c,d,e⟩:=hg;exact⟨o,vL (ZY ha (ZY hb zz)) (by show g [(zF x||true,x),(zF y||true,y)]=_;rw[zyD,zyD];exact c),d,e⟩
def Qi(ha:WE a as x)(hb:WE b as y)(hc:WE c as w)(hg:RE (g [(true,x),(true,y),(true,w)]) z):WE (zt (aC a (aC b (aC c aN))) g) as z:=by
 obtain⟨o,d,e,f⟩:=hg;exact⟨o,vL (ZY ha (ZY hb (ZY hc zz))) (by show g [(zF x||true,x),(zF y||true,y),(zF w||true,w)]=_;rw[zyD,zyD,zyD];exact d),e,f⟩
def Lx(ha:WE a as x)(hb:WE b as y)(hg:g x y=some (.im z)):WD (f2 a b g) as true z:=by
 obtain⟨o,c,d,rfl⟩:=ha;obtain⟨p,e,f,rfl⟩:=hb;have:=DY c e hg;rw[d,f,Bool.and_true,zyD]at this;exact this
def pf(ha:WE a as x)(hb:WE b as y)(hg:g x y=some (.fl zs)):f2 a b g as=some (.ow (.nd .ls (zs.map (O.lf true))),as):=by
 obtain⟨o,c,d,rfl⟩:=ha;obtain⟨p,e,f,rfl⟩:=hb;exact Og c e hg d f
theorem Wd:∀zs:List D,O.strs (zs.map (O.lf true))=true
 | []=>rfl
 |_::r=>Wd r
theorem X_:∀zs:List D,O.toDs (zs.map (O.lf true))=zs
 | []=>rfl
 |z::r=>congrArg (z :: ·) (X_ r)
def sU(ha:WE a as x)(hb:WE b as y)(hg:g x y=some (.fl zs)):WE (f2 a b g) as (.lst zs):=⟨_,pf ha hb hg,Wd zs,congrArg D.lst (X_ zs)⟩
def xU(h:WE f as x)(hi:p<as.length):zo true p f as=some (.nx (as.set p (some (.lf true x)))):=by
 obtain⟨o,a,b,rfl⟩:=h;have:=Od a hi;rw[show o.frz = .lf true o.toD by unfold O.frz;rw[b]]at this;exact this
def As(ha:WE a as x)(hb:WE b as y)(h:ZN 60 x y=some q):WD (f2 a b (zB .Eq)) as true (.bl q):=Lx ha hb (by show(ZN 60 x y).bind _=_;rw[h];rfl)
def SH(ha:WE a as x)(hb:WE b as y)(h:ZN 60 x y=some q):WD (f2 a b (zB .NotEq)) as true (.bl (!q)):=Lx ha hb (by show(ZN 60 x y).bind _=_;rw[h];rfl)
def Bq{os}(ha:a as=some (.ow o,as))(hr:WO fr as os):WO (dC a fr) as (o::os):=yD ha hr
def GT{os}(h:WO fr as os)(hl:os.length<=sizeLine):yf fr as=some (.ow (ZU os),as):=by
 unfold yf;unfold WO at h;rw[h];show(if os.length<=sizeLine then some _ else _)=_;rw[if_pos hl]
theorem NN:∀ds:List D,kids true ds=ds.map λd=>(true,d)
 | []=>rfl
 |d::r=>by show(zF d||true,d)::kids true r=_;rw[NN r,zyD];rfl
def PL(h:WE f as (.lst ds)):vh f as=some (ds.map λd=>(true,d),as):=by
 obtain⟨o,a,b,c⟩:=h;unfold vh;rw[a];show(Eo _).bind _=_;rw[b,c];show some _=_;rw[NN]
def M3(h:WD f as true (.lst ds)):Gn f as=some (ds.map λd=>(true,d),as):=by
 unfold Gn;unfold WD at h;rw[h];show some (kids true ds,as)=_;rw[NN]
end
noncomputable def UM:List D->Option (List Str)
 | []=>some []
 | .str x::r=>(UM r).bind λs=>some (x::s)
 |_::_=>none
def O_{K O}(h:RpL K kd O H vs ds)(hv:zK vs us)(e:UM ds=some ns):StrsAre us ns:=
 RpL.ind (P:=λvs ds=>∀us ns,zK vs us->UM ds=some ns->StrsAre us ns) (λus ns hv e=>by cases e;cases hv;exact .nil) (λ{v d vs ds} a _ ih us ns hv e=>by
  cases hv with
  |cons b t=>
   cases a with
   |str x=>
    obtain⟨ys,h1,h2⟩:=bS_ (e);cases h2;obtain⟨tk,rfl⟩:=b;exact .cons _ _ (ih _ _ t h1)
   |_=>cases e) h us ns hv e
noncomputable def MK:D->List D->Option R0
 | .str sep,[.lst ds]=>(UM ds).bind λys=>if(ys.map (·.length)).sum+ys.length*sep.length<=16777216 then some (.im (.str (Txt.join sep ys)))else none
 |_,_=>none
section
variable{X:Cx}{kd:KD}
def O4:ql X kd "str.join" MK:=by
 intro b s σ H x B v C Q I c r h;obtain⟨O,d,D,E,F,e,f,a,q⟩:=h;unfold MK at a
 split at a
 . rename_i g G;obtain⟨J,i,a⟩:=bS_ a;obtain⟨j,a⟩:=zx a;cases a;cases e;obtain⟨t,rfl⟩:=c;obtain⟨y,rfl,l⟩:=Me f;cases l with
   |lst m n=>
    obtain⟨u,rfl,o⟩:=vals1 r;cases o;obtain⟨p,w,z,_⟩:=I.list m.sq;exact join_list z.isList (O_ n (by simpa using w) i) j λA k=>⟨.str _,H,I.tok _,⟨A,rfl⟩,zZ q (.str _)⟩
 . cases a
noncomputable def sA:D->Option R0
 | .str x=>if x.length<=640 then(PySem.intText? x).bind λn=>some (.im (.int n))else none
 |d=>rO d
def YB:List D->Option R0:=Ju sA
def WI:Y6 X kd (.type "int") YB:=by
 intro c s σ H m e Q I r h;obtain⟨O,o,z,p,f,a,q⟩:=h;obtain⟨x,d,rfl,g,a⟩:=Qr f a;cases g with
 |str y=>
  obtain⟨j,a⟩:=ite_some' a;obtain⟨n,k,a⟩:=bS_ a;cases a;obtain⟨u,rfl,l⟩:=vals1 r;obtain⟨t,rfl⟩:=l;exact PySem.W.KIN.call_text k j ⟨.int _,H,I.tok _,⟨_,rfl⟩,zZ q (.int _)⟩
 |int i=>cases a;exact Pn c s σ H _ e Q I r (.inl ⟨_,rfl,zZ q (.int _)⟩)
 |bl b=>cases a;exact Pn c s σ H _ e Q I r (.inr ⟨_,rfl,zZ q (.int _)⟩)
 |_=>cases a
end
section
variable{X:Cx}{pins:List (Addr×Obj)}{σ:List (Option V)}{H:Hp}{s:Shared}{h':Heap}
def Tp{t':Nat}{ch:List Addr}{T}{o}(I:Inv X pins σ H s)(hf:∀b ∈ ch,Rr X pins H b)(k:∀b u,b ∉ ch->s.heap.get? b=some u->h'.get? b=some u)(hp:s.heap.objs.size<=T)
 (new:xy X.prog X.w (upd H T o) h' T o):Inv X pins σ (upd H T o) {s with heap:=h',toks:=t'}:=by
 have hn:=I.hok.fresh hp;have nT:∀b u,s.heap.get? b=some u->b≠T:=λb u e z=>absurd (zzK (zxJ e) (by rw[z];exact hp)) (Nat.lt_irrefl _);have nc:∀b u,H b=some u->b ∉ ch:=λb u e z=>by have:=(hf b z).1;rw[e]at this;cases this
 refine I.step (g':=s.gens) (d':=s.drawn) (λb hb=>?_) (λb o _ _ hc e _=>k b o hc e) (λb o _ _ hc e _=>⟨o.slots,k b o hc e⟩) (λb o _ e n=>by rw[zr (nT b o e)];exact n)
  (λb o hc e=>⟨o,k b o hc e⟩) (λb xs e=>by rw[zr (zO e hn)];exact e) (λb o u e=>by rw[zr (zO e hn)];exact e) (λb ps e=>⟨#[],by rw[zr (zO e hn),e];simp⟩) (λm hm=>?_) (λb u e=>?_) I.bare
 . obtain⟨f0,f1,f2,f3,f4,f5⟩:=hf b hb;exact⟨f3,f1,f4,f5⟩
 . obtain⟨o,es,ep,ho,r⟩:=hm;exact⟨o,es,ep,k _ o (λz=>(hf _ z).2.1 rfl) ho,r⟩
 . by_cases hb:b=T
   . subst hb;rw[zA]at e;cases e;exact new
   . rw[zr hb]at e;refine(I.hok b u e).stay (λc v hc q=>k c v ?_ q) (λc q=>by rw[zr (zO q hn)];exact q) λc xs q=>by rw[zr (zO q hn)];exact q
     rcases hc with z|z
     . rw[z];exact nc b u e
     . exact nc c _ z
end
def rL(K:zzA)(a:Addr):It:=
 ⟨λi H=>∃xs x,Q1 K H a xs/\xs[i]? = some x,λi H v H'=>∃T x,H T=none/\v = .ref T/\H'=upd H T (.tup [.int i,x])/\∀xs,Q1 K H a xs->xs[i]? = some x,λi H=>∃xs,Q1 K H a xs/\xs.length<=i⟩
def EC{P}{w}{K}{elts}{k:Nat}{pos}(a e it)(hei:e≠it):Turn P w K (.Tuple elts k pos) (rL K a) [e,it] e (λi h=>(∃old,IsEnum h e it i old)/\h.IsListIter it a i)where
 mem:=by simp
 obj:=λi h st b hb=>by
  obtain⟨⟨old,he⟩,⟨o,e1,c,d⟩⟩:=st
  rcases zzC.mp hb with rfl|hb
  . exact⟨_,he,λv z=>by cases z⟩
  . rw[zzR.mp hb];exact⟨o,e1,λv z=>by rw[d]at z;cases z⟩
 keep:=λi h h' st kk=>⟨st.1.imp λold he=>kk e (by simp) _ he,st.2.at λo q=>kk it (by simp) o q⟩
 item:=by
  intro X hP hw hK hc i pins s σ H E I hf st hg;subst hP hw hK;obtain⟨xs,x,hq,hx⟩:=hg;obtain⟨its,rv,p,hz⟩:=I.list hq;obtain⟨u,hu,ru⟩:=rv.get hx;have hil:i<its.toArray.size:=by have:=(zzG.mp hu).1;simpa using this
  obtain⟨ol,hol,hcl,_⟩:=p.isList;have hae:a≠e:=λz=>by
   obtain⟨⟨old,he⟩,_⟩:=st;rw[z]at hol;rw[show s.heap.get? e=_ from he]at hol;cases hol;injection hcl with q;exact absurd q (by decide)
  have hai:a≠it:=λz=>by
   obtain⟨_,⟨o,e1,c,d⟩⟩:=st;rw[z,e1]at hol;cases hol;rw[c]at hcl;injection hcl with q;exact absurd q (by decide)
  have W:=WalksT.enumerate (prog:=X.prog) (w:=X.w) (I.ok.hd hc) e it a hei hae hai its.toArray;refine W.item i s _ _ hil ⟨st.1,st.2,p.isList⟩ λT vals h1 tk hP hT hTup hMid kk=>?_;obtain⟨t,v,hv,rfl⟩:=hP;have:v=u:=by rw[show its.toArray[i]? = its[i]? by simp,hu]at hv;cases hv;rfl
  subst this;refine⟨_,rfl,W.go elts k pos i T {s with heap:=h1,toks:=tk} _ _ hMid λh2 hSt kk2=>?_⟩;have hn:=I.hok.fresh hT;have hTw:=W.apart i T h1 hMid;have k2:=λb o hb q=>kk2 b o hb (kk b o hb q);have hT2:IsTup h2 T #[.int i t,v]:=by
   obtain⟨o,q1,q2⟩:=hTup;exact⟨o,kk2 T o hTw q1,q2⟩
  refine⟨.ref T,upd H T (.tup [.int i,x]),Tp (s:=s) (t':=tk) I hf k2 hT ⟨by show 2<=sizeLine;decide,[.int i t,v],.cons ⟨t,rfl⟩ (.cons ru .nil),hT2⟩,rfl,⟨T,x,hn,rfl,rfl,λys hy=>by rw[I.list_inj hy hq];exact hx⟩,⟨hSt.1,hSt.2.1⟩,λb hb=>?_⟩;have hbT:b≠T:=λz=>hTw (by rw[<-z];exact hb);rw[zr hbT];exact(hf b hb).1
 done:=by
  intro X hP hw hK hc i pins s σ H E I hf st hg;subst hP hw hK;obtain⟨xs,hq,hx⟩:=hg;obtain⟨its,rv,p,hz⟩:=I.list hq;have hl:=rv.length;obtain⟨⟨old,he⟩,hit⟩:=st;obtain⟨f0,f1,f2,f3,f4,f5⟩:=hf it (by simp);exact wpAny_pyNext_enum_end (I.ok.hd hc) he hit p.isList (by simp;omega) λh' eb=>⟨rfl,I.turned (t':=s.toks) (λb o hb e=>eb b o hb e) f0 f1 f3 f4 f5⟩
 self:=λ_ _ _ _ _ st h=>by
  obtain⟨⟨old,he⟩,_⟩:=st;exact wpAny_pyIter_enum he h
section
variable{X:Cx}{tg:Expr}
def AH(K:zzA)(ta:TA):TI:=λσ H R=>ta σ H λvs H1=>∃a,vs=[.ref a]/\(∃xs,Q1 K H1 a xs)/\R (rL K a) H1
def HY{l}{ta}{p pos pos'}{elts}{k:Nat}(hg:Gl X "enumerate")(hm:X.mg "enumerate"=none)(ha:PA X [l] ta)(hs:starEach [l] X.env=[(false,eval l X.env)]):
 PI X (.Tuple elts k pos') (.Call (.Name "enumerate" p) [l] [] pos) (AH X.K ta):=by
 intro pins s σ H R I h;refine Call_ (ZM I hg hm boot_enumerate (PyProof.Rows.callWith_type1 (thn (ha pos pins s σ H _ I h) λus s1 ⟨vs,H1,I1,r1,q1⟩=>?_) hs rfl));obtain⟨a,rfl,⟨xs,hq⟩,q⟩:=q1;cases r1 with
 |cons r rr=>
  cases rr;cases r;obtain⟨its,rv,pl,hz⟩:=I1.list hq;refine call_enumerate_list pl.isList λh' he hit hsz hk=>?_;refine wpAny_pyIter_enum he ⟨s1.heap.objs.size+1,[s1.heap.objs.size+1,s1.heap.objs.size],_,_,H1,rfl,I1.kept (t':=s1.toks) hk,EC a _ _ (Nat.succ_ne_self _),⟨⟨_,he⟩,hit⟩,λb hb=>?_,q⟩;have hb':s1.heap.objs.size<=b:=by
   rcases zzC.mp hb with rfl|hb
   . exact zyX _
   . rw[zzR.mp hb];exact zzN _
  exact I1.fpOk hb' (I1.hok.fresh hb')
end
section
variable{X:Cx}{kd:KD}{tg e:Expr}{fa:EF}
noncomputable def ZW(st:Bool):Nat->List D->List Yt
 |_,[]=>[]
 |i,d::r=>(st,.tup [.int i,d])::ZW st (i+1) r
theorem P7(st):∀(i:Nat) (ds:List D),(ZW st i ds).length=ds.length
 |_,[]=>rfl
 |i,_::r=>congrArg (· + 1) (P7 st (i+1) r)
theorem Pg{st}:∀{j:Nat}{ds:List D}{i:Nat}{y:Yt},(ZW st j ds)[i]? = some y->∃d,ds[i]? = some d/\y=(st,.tup [.int ((j+i:Nat):Int),d])
 |_,[],_,_,h=>by simp[ZW]at h
 |j,d::r,0,y,h=>by
  simp only[ZW,List.getElem?_cons_zero]at h;cases h;exact⟨d,rfl,rfl⟩
 |j,d::r,i+1,y,h=>by
  simp only[ZW,List.getElem?_cons_succ]at h;obtain⟨d',h1,h2⟩:=Pg h;exact⟨d',by simpa using h1,by rw[h2,show j+1+i=j+(i+1) by omega]⟩
def Em{K}{F B}{ad}{H}{a}{vs}{st}{ds}(hs:∀(ad3:Ad) (H3:Hp),Grow (Gw [] ad) H (Gw [] ad3) H3->Q1 K H3 a vs)(r:RpL K kd (Lv F B (Gw [] ad) st) H vs ds):ItOk K kd F B ad H (rL K a) (ZW st 0 ds):=⟨λad3 H3 g3 tr i=>by
 have hr3:=hs ad3 H3 g3;have rl3:=RpL.grow g3 r;have hlen:=P7 st 0 ds;refine⟨λhi=>?_,λhi=>⟨_,hr3,by rw[r.length];omega⟩,λv H4 hy=>?_⟩
 . obtain⟨u,hu,_⟩:=r.get (zzE (by rw[<-hlen];exact hi));exact⟨_,u,hr3,hu⟩
 . obtain⟨T,x,hn,rfl,rfl,hv⟩:=hy;refine⟨vY hn,λy hy=>?_⟩;obtain⟨d,hd,rfl⟩:=Pg hy;obtain⟨u,hu,ru⟩:=rl3.get hd;have:=hv _ hr3;rw[hu]at this;cases this;rw[zyY];exact .tup (λz=>tr _ _ z hn) zA (.cons (.int _) (.cons (Rp.grow ⟨λb o q _=>vY hn b o q,λb z=>.inl z⟩ ru) .nil))⟩
noncomputable def OM(f:EF):IF:=λas=>(f as).bind λp=>(ZA p.2 p.1).bind λq=>match q.1 with
 |(st,.lst ds)=>some (ZW st 0 ds,q.2)
 |_=>none
def O1{p pos pos'}{elts}{k:Nat}(hg:Gl X "enumerate")(hm:X.mg "enumerate"=none)(he:AE X kd e fa)(hs:starEach [e] X.env=[(false,eval e X.env)]):
 AI X kd (.Tuple elts k pos') (.Call (.Name "enumerate" p) [e] [] pos) (OM fa):=by
 with_unfolding_all (
 intro pins s σ H R I h;obtain⟨F,B,ad,as,ds,as',Rl,e',q⟩:=h;obtain⟨⟨p,as1⟩,h1,e'⟩:=bS_ (e');obtain⟨⟨⟨st,x⟩,as2⟩,h2,e'⟩:=bS_ e'
 match x,e',h2 with
 | .lst xs,e',h2=>
  cases e';refine HY hg hm (xg he ZG hs) hs pins s σ H R I (⟨F,B,ad,as,p,as1,Rl,h1,λv T1 ad1 H1 R1 rv1 g1=>?_⟩);obtain⟨ad2,R2,rp,le⟩:=wG R1 rv1 h2;cases rp with
  |lst hn hr rl=>exact⟨_,rfl,⟨_,.inl hr⟩,q _ ad2 H1 R2 (g1.trans (Grow.less le)) (Em (λad3 H3 g3=>.inl (XF g3 (λz=>hn (.inr z)) hr)) rl)⟩
  |lstK a b c rl=>exact⟨_,rfl,⟨_,.inr ⟨_,_,_,a,rfl,rfl,rfl,b,c⟩⟩,q _ ad2 H1 R2 (g1.trans (Grow.less le)) (Em (λad3 H3 g3=>.inr ⟨_,_,_,a,rfl,rfl,rfl,b,c⟩) rl)⟩)
end
mutual
def Pw:D->Option PyData
 | .non=>some .none
 | .bl b=>some (.bool b)
 | .int i=>some (.int i)
 | .str x=>some (.str x)
 | .tup ds=>(Tg ds).bind λps=>some (.tuple ps)
 | .lst ds=>(Tg ds).bind λps=>some (.list ps)
 | .dct _=>none
 | .cl _=>none
 | .ob _ _ _=>none
 | .dt _ _=>none
 | .er _ _ _=>none
def Tg:List D->Option (List PyData)
 | []=>some []
 |d::r=>(Pw d).bind λp=>(Tg r).bind λps=>some (p::ps)
end
section
variable{X:Cx}{kd:KD}{pins:List (Addr×Obj)}{σ:St}{H:Hp}{s:Shared}{O:Addr->Prop}
mutual
theorem K0(I:Inv X pins σ H s):∀{v:V}{d:D}{u:Value}{p:PyData},Rp X.K kd O H v d->RelV v u->Pw d=some p->∃as,Reads s.heap u p as
 |_,_,u,p,.non,r,e=>by unfold Pw at e;cases e;cases r;exact⟨_,.none⟩
 |_,_,u,p,.bl b,r,e=>by unfold Pw at e;cases e;cases r;exact⟨_,.bool b⟩
 |_,_,u,p,.int i,r,e=>by unfold Pw at e;cases e;obtain⟨t,rfl⟩:=r;exact⟨_,.int i t⟩
 |_,_,u,p,.str x,r,e=>by unfold Pw at e;cases e;obtain⟨t,rfl⟩:=r;exact⟨_,.str x t⟩
 |_,_,u,p,.tup hn hr rl,r,e=>by
  unfold Pw at e;obtain⟨ps,h1,h2⟩:=bS_ e;cases h2;cases r;obtain⟨its,rv,⟨o,e1,c,n,dd⟩,_⟩:=I.tuple (.inl (.inl hr));obtain⟨as,ra⟩:=Xr I rl rv h1;exact⟨_,.tuple e1 c dd (by simpa using ra)⟩
 |_,_,u,p,.lst hn hr rl,r,e=>by
  unfold Pw at e;obtain⟨ps,h1,h2⟩:=bS_ e;cases h2;cases r;obtain⟨its,rv,⟨o,n,e1,c,_,dd⟩,_⟩:=I.list (.inl hr);obtain⟨as,ra⟩:=Xr I rl rv h1;exact⟨_,.list e1 c dd (by simpa using ra)⟩
 |_,_,u,p,.lstK hk hz hv rl,r,e=>by
  unfold Pw at e;obtain⟨ps,h1,h2⟩:=bS_ e;cases h2;cases r;obtain⟨as,ra⟩:=Xr I rl hv h1;exact⟨_,.list (I.kIn _ _ hk) rfl rfl ra⟩
 |_,_,u,p,.dct _ _ _,r,e=>by unfold Pw at e;cases e
 |_,_,u,p,.cl _,r,e=>by unfold Pw at e;cases e
 |_,_,u,p,.ob _ _ _ _,r,e=>by unfold Pw at e;cases e
 |_,_,u,p,.dt _ _ _ _,r,e=>by unfold Pw at e;cases e
 |_,_,u,p,.er _ _ _ _ _,r,e=>by unfold Pw at e;cases e
 |_,_,u,p,.dctK _ _,r,e=>by unfold Pw at e;cases e
theorem Xr(I:Inv X pins σ H s):∀{vs:List V}{ds:List D}{us:List Value}{ps:List PyData},RpL X.K kd O H vs ds->zK vs us->Tg ds=some ps->∃as,ReadsAll s.heap us ps as
 |_,_,_,_,.nil,.nil,e=>by unfold Tg at e;cases e;exact⟨_,.nil⟩
 |_,_,_,_,.cons a r,.cons b t,e=>by
  unfold Tg at e;obtain⟨p,h1,e⟩:=bS_ e;obtain⟨ps,h2,e⟩:=bS_ e;cases e;obtain⟨as,x⟩:=K0 I a b h1;obtain⟨bs,y⟩:=Xr I r t h2;exact⟨_,.cons x y⟩
end
end
def BU(sep)(ys):Txt.join sep ys=Str.join sep ys:=StrLaws.glued_eq_join sep ys
section
variable{as:AS}{f a b:EF}{s t:Bool}{x y z:D}
def DG(h:WD f as true (.lst ds)):OM f as=some (ZW true 0 ds,as):=by
 unfold OM;unfold WD at h;rw[h];rfl
def Ak:Jh (.lst (xs++ys)) none (some (xs.length:Int))=some (.fl xs):=by
 show some _=_
 congr 2
 unfold cutD;rw[HT.HB,HT.Sz,zzJ,Nat.min_eq_left (by omega),List.drop_zero,Nat.sub_zero,List.take_left]
end
section
variable{X:Cx}{kd:KD}{tg e:Expr}{fa:EF}
def HA{K}{F B}{ad}{H}{v}{st q}{ds}(rp:Rp K kd (Lv F B (Gw [] ad) st) H v (.lst ds))(hq:q=true->st=true):∃a vs,v = .ref a/\(∀(ad3:Ad) (H3:Hp),Grow (Gw [] ad) H (Gw [] ad3) H3->Q1 K H3 a vs)/\RpL K kd (Lv F B (Gw [] ad) q) H vs ds:=by
 have le:∀a,Lv F B (Gw [] ad) q a->Lv F B (Gw [] ad) st a:=λa z=>z.imp (λy=>y.imp (λx=>⟨hq x.1,x.2⟩) id) id;cases rp with
 |lst hn hr rl=>exact⟨_,_,rfl,λad3 H3 g3=>.inl (XF g3 (λz=>hn (.inr z)) hr),rl.less le⟩
 |lstK a b c rl=>exact⟨_,_,rfl,λad3 H3 g3=>.inr ⟨_,_,_,a,rfl,rfl,rfl,b,c⟩,rl.less le⟩
end
noncomputable def insI(x:Int):List Int->List Int
 | []=>[x]
 |y::r=>if x<=y then x::y::r else y::insI x r
def sortI:List Int->List Int
 | []=>[]
 |x::r=>insI x (sortI r)
theorem insI_perm(x):∀l:List Int,(insI x l).Perm (x::l)
 | []=>List.Perm.refl _
 |y::r=>by
  unfold insI
  split
  . exact List.Perm.refl _
  . exact((insI_perm x r).cons y).trans (List.Perm.swap x y r)
theorem sortI_perm:∀l:List Int,(sortI l).Perm l
 | []=>List.Perm.refl _
 |x::r=>(insI_perm x _).trans ((sortI_perm r).cons x)
theorem QA(x):∀l:List Int,l.Pairwise (· <= ·)->(insI x l).Pairwise (· <= ·)
 | [],_=>by simp[insI]
 |y::r,h=>by
  unfold insI;rw[List.pairwise_cons]at h
  split
  . rename_i a;rw[List.pairwise_cons,List.pairwise_cons];refine⟨λz b=>?_,h⟩
    rcases zzC.mp b with rfl|b
    . exact a
    . exact Int.le_trans a (h.1 z b)
  . rename_i a;rw[List.pairwise_cons];refine⟨λz b=>?_,QA x r h.2⟩
    rcases zzC.mp ((insI_perm x r).mem_iff.mp b)with rfl|b
    . omega
    . exact h.1 z b
theorem vB:∀l:List Int,(sortI l).Pairwise (· <= ·)
 | []=>List.Pairwise.nil
 |x::r=>QA x _ (vB r)
theorem Qn:∀(a b:List Int),a.Perm b->a.Pairwise (· <= ·)->b.Pairwise (· <= ·)->a=b
 | [],b,p,_,_=>by rw[List.nil_perm]at p;exact p.symm
 |x::r,[],p,_,_=>by rw[List.perm_nil]at p;cases p
 |x::r,y::t,p,c,d=>by
  rw[List.pairwise_cons]at c d;have f:x=y:=by
   have h:=p.mem_iff.mp (zzF ..);have i:=p.mem_iff.mpr (zzF ..)
   rcases zzC.mp h with e|e
   . exact e
   . rcases zzC.mp i with g|g
     . exact g.symm
     . have:=d.1 x e;have:=c.1 y g;omega
  subst f;rw[Qn r t (List.Perm.cons_inv p) c.2 d.2]
def N3{K O}(h:RpL K kd O H vs ds)(hv:zK vs us)(e:Zu ds=some ns):IntsAre us ns:=
 RpL.ind (P:=λvs ds=>∀us ns,zK vs us->Zu ds=some ns->IntsAre us ns) (λus ns hv e=>by cases e;cases hv;exact .nil) (λ{v d vs ds} a _ ih us ns hv e=>by
  cases hv with
  |cons b t=>
   cases a with
   |int x=>
    obtain⟨ys,h1,h2⟩:=bS_ (e);cases h2;obtain⟨tk,rfl⟩:=b;exact .cons _ _ (ih _ _ t h1)
   |_=>cases e) h us ns hv e
theorem vO:∀{us:List Value}{ns:List Int},IntsAre us ns->zK (ns.map V.int) us
 |_,_,.nil=>.nil
 |_,_,.cons n t r=>.cons ⟨t,rfl⟩ (vO r)
theorem U_{K O}:∀ns:List Int,RpL K kd O H (ns.map V.int) (ns.map D.int)
 | []=>.nil
 |y::r=>.cons (.int y) (U_ r)
def Bx:List D->Option R0:=Ju λx=>(IB x).bind λds=>(Zu ds).bind λns=>if ns.length<64 then some (.fl ((sortI ns).map .int))else none
section
variable{X:Cx}{kd:KD}
def Np:Y6 X kd (.builtin "sorted") Bx:=by
 intro pins s σ H xs us Q I r h;obtain⟨O,ds,z,ht,vl,he,q⟩:=h;obtain⟨x,d,rfl,vx,he⟩:=Qr vl he;obtain⟨ds,h0,he2⟩:=bS_ (he);cases UV h0
 . obtain⟨ns,h1,he⟩:=bS_ he2;obtain⟨hz,he⟩:=zx he;cases he;cases vx with
   |lst hr rl=>
    obtain⟨u,rfl,ru⟩:=vals1 r;cases ru;obtain⟨its,rv,pl,_⟩:=I.list hr.sq;have hI:=N3 rl rv h1;have hl:=hI.length;refine sorted_ints pl.isList hI (by omega) λout ns' a1 a2 a3=>?_;have e:=Qn _ _ (a2.trans (sortI_perm ns).symm) a3 (vB ns);subst e;obtain⟨ee,hob⟩:=sortedAll_at s.heap its out;have hn:=I.hok.fresh (zyX _);refine⟨.ref _,_,I.laid (t':=s.toks) (λb o e=>sortedAll_old e) (zyX _) (show xy X.prog X.w _ _ _ (.lst _)from⟨?_,out.toList,ee,vO a1,by simpa[seqObj]using hob⟩),rfl,WN q (U_ _) _ hn⟩;rw[zzB,(sortI_perm ns).length_eq];exact Nat.le_of_lt (zQ (by omega))
end
theorem QN:∀{vs:List V}{us:List Value},vs.length=us.length->(∀(i:Nat) v u,vs[i]? = some v->us[i]? = some u->RelV v u)->zK vs us
 | [],[],_,_=>.nil
 | [],_::_,h,_=>by simp at h
 |_::_,[],h,_=>by simp at h
 |v::c,u::d,h,k=>.cons (k 0 v u rfl rfl) (QN (by simpa using h) λi a b x y=>k (i+1) a b (by simpa using x) (by simpa using y))
section
variable{X:Cx}{tg:Expr}
def D0(ta:TA):TE:=λσ H Q=>ta σ H λvs H1=>∃j:Int,vs=[.int j] /\ -(2 ^ 62)<=j/\j<2 ^ 62/\∀r,H1 r=none->Q (.ref r) (upd H1 r (.rng 0 j))
def S6(hg:Gl X "range")(hm:X.mg "range"=none)(ha:PA X [a] ta)(hs:starEach [a] X.env=[(false,eval a X.env)]):PE X (.Call (.Name "range" p) [a] [] pos) (D0 ta):=by
 intro c s σ H Q I h;refine Call_ (ZM I hg hm boot_range (PyProof.Rows.callWith_type1 (thn (ha pos c s σ H _ I h) λl f ⟨m,n,d,g,i⟩=>?_) hs rfl));obtain⟨j,e,u,v,q⟩:=i;subst e;cases g with
 |cons r k=>
  cases k;obtain⟨t,rfl⟩:=r;exact call_range_1 ⟨.ref f.heap.objs.size,_,d.laid (λb o e=>zxI _ e) (zzN _) (show xy X.prog X.w _ _ _ (.rng 0 j)from⟨_,_,_,zxK _ rfl⟩),rfl,q _ (d.hok.fresh (zzN _))⟩
def qU(ta:TA):TE:=λσ H Q=>CC (D0 ta) Kc σ H λvs H2=>∃r H1,∃j:Int,vs=[.ref r]/\H1 r=none/\H2=upd H1 r (.rng 0 j)/\0<=j/\j<=100000/\∀l,H2 l=none->Q (.ref l) (upd H2 l (.lst ((List.range j.toNat).map λ(i:Nat)=>V.int i)))
def E6(hc:X.calm=true)(hg:Gl X "range")(hm:X.mg "range"=none)(hgl:Gl X "list")(hml:X.mg "list"=none)(ha:PA X [a] ta)(hs:starEach [a] X.env=[(false,eval a X.env)])
 (hs':starEach [.Call (.Name "range" p) [a] [] pos] X.env=[(false,eval (.Call (.Name "range" p) [a] [] pos) X.env)]):PE X (.Call (.Name "list" p') [.Call (.Name "range" p) [a] [] pos] [] pos') (qU ta):=by
 intro b s σ H Q I h;refine Call_ (ZM I hgl hml Bt.list (PyProof.Rows.callWith_type1 (thn ((xg (S6 hg hm ha hs) ZG hs') pos' b s σ H (λD g=>∃r o,∃j:Int,D=[.ref r]/\o r=none/\g=upd o r (.rng 0 j)/\0<=j/\j<=100000/\∀l,g l=none->Q (.ref l) (upd g l (.lst ((List.range j.toNat).map λ(i:Nat)=>V.int i)))) I ?_) λP E ⟨D,g,m,F,G⟩=>?_) hs' rfl))
 . exact h
 obtain⟨r,o,j,rfl,R,rfl,S,T,q⟩:=G;cases F with
 |cons J K=>
  cases K;cases J;obtain⟨t,u,v,L⟩:=m.hok r _ (zA ..);have z:Builtin.Range.rangeSize 0 j 1=(j.toNat:Nat):=by rw[rangeSize_one];split<;>omega
  refine call_list_range (m.ok.hd hc) L (small_one (by omega) (by omega) (by omega) (by omega)) (by exact_mod_cast z) (by omega) λU W A M N B c=>?_;refine⟨.ref E.heap.objs.size,_,m.laid N (zzN _) (show xy X.prog X.w _ _ _ (.lst _)from⟨?_,A.toList,M, ?_,by simpa using B⟩),rfl,q _ (m.hok.fresh (zzN _))⟩
  . rw[zzB,zyU];exact zzO (show j.toNat<=100000 by omega) (by decide)
  . refine QN (by rw[zzB,zyU];simpa using c.1.symm) λi x y d O=>?_;rw[zzI]at d;obtain⟨C,e⟩:=c.2 i y (by simpa using O);cases hr:(List.range j.toNat)[i]? with
    |none=>rw[hr]at d;cases d
    |some k=>
     rw[hr]at d;obtain⟨_,f⟩:=zzG.mp hr;rw[List.getElem_range]at f;subst f;cases d;exact⟨C,by rw[e];simp⟩
end
section
variable{X:Cx}{kd:KD}
noncomputable def u5:List D->Option R0
 | [.int j]=>if 0<=j/\j<=100000 then some (.fl ((List.range j.toNat).map λ(i:Nat)=>.int i))else none
 |_=>none
theorem Mx{K O}:∀l:List Nat,RpL K kd O H (l.map λ(i:Nat)=>V.int i) (l.map λ(i:Nat)=>D.int i)
 | []=>.nil
 |y::r=>.cons (.int y) (Mx r)
def Pi(hc:X.calm=true)(hg:Gl X "range")(hm:X.mg "range"=none)(hgl:Gl X "list")(hml:X.mg "list"=none)(ha:AA X kd [a] fr)(hs:starEach [a] X.env=[(false,eval a X.env)])
 (hs':starEach [.Call (.Name "range" p) [a] [] pos] X.env=[(false,eval (.Call (.Name "range" p) [a] [] pos) X.env)]):AE X kd (.Call (.Name "list" p') [.Call (.Name "range" p) [a] [] pos] [] pos') (fP fr u5):=by
 with_unfolding_all exact(yu (E6 hc hg hm hgl hml ha hs hs') λσ H Q h=>by
  obtain⟨F,B,y,as,r,A,R,e,q⟩:=h;obtain⟨⟨C,d⟩,D,e⟩:=bS_ (e);obtain⟨⟨E,Z⟩,f,e⟩:=bS_ e;obtain⟨G,g,e⟩:=bS_ e;obtain⟨z,I,e⟩:=bS_ e;cases e
  match E,g,f with
  | [.int j],g,f=>
   obtain⟨⟨J,L⟩,M⟩:=zx (g);cases M;refine(⟨F,B,y,as,C,d,R,D,λvs k u v m N=>?_⟩);have O:=Yv v m f;have P:=Zp v I λw S T U n V=>q w S k T U n (N.trans V);cases O with
   |cons W Y=>
    cases Y;cases W;refine⟨j,rfl,by omega,by omega,λr x=>⟨r,u,j,rfl,x,rfl,J,L,λl c=>?_⟩⟩;have s:l≠r:=λe=>by rw[e,zA]at c;cases c
    have t:u l=none:=by rw[zr s]at c;exact c
    exact P l _ _ t (λb o q=>vY c b o (vY x b o q)) zA (Mx _))
end
def Tu(h:RoL L N H vs ls fp):vs.length=ls.length:=RoL.length h
noncomputable def K8(i:Nat)(f:SF):SF:=λas=>match as[i]? with
 |some (some o)=>f (as.set i (some o.frz))
 |_=>none
def FP{K ad}{i:Nat}{D}:∀{o:Out},PU K kd F B ad H D o->PU K kd F B (yb ad i []) H D o
 | .nx _,q=>λc a b R g=>q c a b R ((Grow.less yG).trans g)
 | .ct _,q=>λc a b R g=>q c a b R ((Grow.less yG).trans g)
 | .bk _,q=>λc a b R g=>q c a b R ((Grow.less yG).trans g)
 | .rt _,q=>λv T b d g=>q v T b d ((Grow.less yG).trans g)
def Tf(h:TU X kd body f):TU X kd body (K8 i f):=by
 with_unfolding_all exact(XJ h λD σ H h=>by
  obtain⟨F,B,a,as,o,R,e,q⟩:=h;unfold K8 at e;cases k:as[i]? with
  |none=>rw[k]at e;cases e
  |some s=>
   rw[k]at e;cases s with
   |none=>cases e
   |some b=>
    exact⟨F,B,yb a i [],_,o,(R.frz k).1,e,FP q⟩)
section
variable{K:zzA}{kd:KD}{F B G:Addr->Prop}{H:Hp}
theorem Kf{st}(h:L st v d):∀(os:List O) {vs:List V}{fp:List Addr},RoL L N H vs os fp->RoL L N H (vs++[v]) (os++[.lf st d]) fp
 | [],_,_,r=>by cases r;exact .cons (.lf h) .nil
 |o::b,_,_,r=>by
  cases r with
  |cons a r=>
   exact .cons a (Kf h b r)
end
def Of:upd (upd H l u) l w=upd H l w:=by
 funext a
 by_cases e:a=l
 . subst e;rw[zA,zA]
 . rw[zr e,zr e,zr e]
section
variable{K:zzA}{kd:KD}{F B G:Addr->Prop}{H:Hp}
def Z3(hp:G p):Grow G H G (upd H p u):=⟨λb w h n=>by rw[zr (λe=>n (by subst e;exact hp))];exact h,λb z=>.inl z⟩
theorem GS:∀(os:List O) {vs:List V}{fp:List Addr}{n:Nat}{o:O},xF K kd F B G H vs os fp->fp.Nodup->(∀a ∈ fp,G a)->os[n]? = some o->
 ∃v f,vs[n]? = some v/\xW K kd F B G H v o f/\f.Nodup/\(∀a ∈ f,a ∈ fp)/\∀(p:Addr) (u:HO) (o':O),p ∈ f->xW K kd F B G (upd H p u) v o' f->xF K kd F B G (upd H p u) vs (os.set n o') fp
 | [],_,_,_,_,_,_,_,e=>by simp at e
 |E::k,_,_,n,o,r,l,c,e=>by
  cases r with
  |cons a r=>
   rename_i v I q J;obtain⟨s,t,i⟩:=zxF.mp l;cases n with
   |zero=>
    simp at e;subst e;exact⟨v,q,rfl,a,s,λx m=>zzP _ m,λp u j b d=>.cons d (xF.grow (Z3 (c p (zzP _ b))) (λx m w h=>by rw[zr (λe=>i p b x m e.symm)];exact h) r)⟩
   |succ n=>
    obtain⟨y,f,z,A,C,g,D⟩:=GS k r t (λx m=>c x (zzL _ m)) (by simpa using e);exact⟨y,f,by simpa using z,A,C,λx m=>zzL _ (g x m),λp u j b d=>.cons (xW.grow (Z3 (c p (zzL _ (g p b)))) (λx m w h=>by rw[zr (λe=>i x m p (g p b) e)];exact h) a) (D p u j b d)⟩
theorem PB(h:L st' v d'):∀(os:List O) {vs:List V}{fp:List Addr}{n:Nat}{st:Bool}{d:D},RoL L N H vs os fp->os[n]? = some (.lf st d)->RoL L N H (vs.set n v) (os.set n (.lf st' d')) fp
 | [],_,_,_,_,_,_,e=>by simp at e
 |f::b,_,_,n,c,d,r,e=>by
  cases r with
  |cons a r=>
   cases n with
   |zero=>
    simp at e;subst e;cases a with
    |lf _=>exact .cons (.lf h) r
   |succ n=>exact .cons a (PB h b r (by simpa using e))
def My{n:Nat}{st}(c)(r:xW K kd F B G H v (.nd .ls inner) fp)(hn:fp.Nodup)(hG:∀a ∈ fp,G a)(e:inner[n]? = some (.lf st d)):
 ∃p ivs,v = .ref p/\p ∈ fp/\H p=some (.lst ivs)/\n<ivs.length/\xW K kd F B G (upd H p (.lst (ivs.set n (.int c)))) v (.nd .ls (inner.set n (.lf true (.int c)))) fp:=by
 cases r with
 |ls hp ir=>
  rename_i p ivs ifp;have hpfp:=(zzW.mp hn).1;refine⟨p,ivs,rfl,zzF ..,hp,by rw[Tu ir];exact(zzG.mp e).1,.ls zA (PB (.int c) inner (xF.grow (Z3 (hG p (zzF ..))) (λx m w h=>by rw[zr (λe=>hpfp (by subst e;exact m))];exact h) ir) e)⟩
def L6{os}{n:Nat}(r:xW K kd F B G H v (.nd .ls os) fp)(hn:fp.Nodup)(hG:∀a ∈ fp,G a)(e:os[n]? = some o):
 ∃l vs w f,v = .ref l/\H l=some (.lst vs)/\vs[n]? = some w/\xW K kd F B G H w o f/\f.Nodup/\(∀a ∈ f,a ∈ fp)/\∀(p:Addr) (u:HO) (o':O),p ∈ f->xW K kd F B G (upd H p u) w o' f->xW K kd F B G (upd H p u) v (.nd .ls (os.set n o')) fp:=by
 cases r with
 |ls c g=>
  rename_i l h i;obtain⟨w,f,j,k,q,d,s⟩:=GS os g (zzW.mp hn).2 (λa m=>hG a (zzD _ m)) e;exact⟨l,h,w,f,rfl,c,j,k,q,λa m=>zzD _ (d a m),λp u t b x=>.ls (by rw[zr (λe=>(zzW.mp hn).1 (by rw[e];exact d p b))];exact c) (s p u t b x)⟩
def UJ{os}{n:Nat}(r:xW K kd F B G H v (.nd .tp os) fp)(hn:fp.Nodup)(hG:∀a ∈ fp,G a)(e:os[n]? = some o):
 ∃l vs w f,v = .ref l/\H l=some (.tup vs)/\vs[n]? = some w/\xW K kd F B G H w o f/\f.Nodup/\(∀a ∈ f,a ∈ fp)/\∀(p:Addr) (u:HO) (o':O),p ∈ f->xW K kd F B G (upd H p u) w o' f->xW K kd F B G (upd H p u) v (.nd .tp (os.set n o')) fp:=by
 cases r with
 |tp c d h=>
  rename_i l i;obtain⟨w,f,j,k,m,g,q⟩:=GS os h hn hG e;exact⟨l,i,w,f,rfl,d,j,k,m,g,λp u s b t=>.tp c (by rw[zr (λe=>c (.inr (by rw[e];exact hG p (g p b))))];exact d) (q p u s b t)⟩
end
section
variable{K:zzA}{kd:KD}{F B:Addr->Prop}{ad:Ad}{as:AS}{σ:St}{H:Hp}{i:Nat}{o:O}
def Rel.slotU(R:Rel K kd F B [] ad as σ H)(k:as[i]? = some (some o)):
 ∃v,σ[i]? = some (some v)/\xW K kd F B (Gw [] ad) H v o (ad i)/\(ad i).Nodup/\(∀a ∈ ad i,Gw [] ad a)/\
  ∀(p:Addr) (u:HO) (o':O),p ∈ ad i->xW K kd F B (Gw [] ad) (upd H p u) v o' (ad i)->Rel K kd F B [] ad (as.set i (some o')) σ (upd H p u)/\Grow (Gw [] ad) H (Gw [] ad) (upd H p u):=by
 obtain⟨v,d,n⟩:=R.sl i _ k;have r:=(zzG.mp k).1;refine⟨v,d,n,R.nd i,λa m=>.inr ⟨i,m⟩,λp u t f b=>?_⟩;have g:Grow _ H (Gw [] ad) (upd H p u):=Z3 (.inr ⟨i,f⟩);have c:∀a,H a≠none->upd H p u a≠none:=λa z=>by
  by_cases e:a=p
  . subst e;rw[zA];simp
  . rw[zr e];exact z
 refine⟨⟨by rw[zzU];exact R.len,λj l=>R.out j (by rw[zzU]at l;exact l),R.nd,R.inj,R.tnd,R.dis,λa z=>c a (R.ftr a z),λa z=>⟨c a (R.btr a z).1,(R.btr a z).2⟩,λa z=>⟨c a (R.gtr a z).1,(R.gtr a z).2⟩,λj s e=>?_⟩,g⟩
 by_cases q:j=i
 . subst q;rw[zyK r]at e;cases e;exact⟨v,d,b⟩
 . rw[zzY (Ne.symm q)]at e;exact(R.sl j s e).grow g λa m u h=>by rw[zr (λe=>q (R.inj j i a m (by rw[e];exact f)))];exact h
end
abbrev RS:=AS->Option Int
def qO(K:zzA)(kd:KD)(f:RS):TE:=λσ H Q=>∃F B ad as k,Rel K kd F B [] ad as σ H/\f as=some k/\Q (.int k) H
@[irreducible] def AK(X:Cx)(kd:KD)(e:Expr)(f:RS):Prop:=PE X e (qO X.K kd f)
def xC(c:Int):RS:=λ_=>some c
def Ye:O->Option (List O)
 | .nd .ls os=>some os
 |_=>none
def GH:O->Option (List O)
 | .nd .tp os=>some os
 |_=>none
def Ul:O->Option D
 | .lf _ d=>some d
 |_=>none
def RR{α:Type}(f:O->Option α)(os:List O)(k:Nat):Option α:=os[k]?.bind f
def Pu{α:Type}(f:O->Option α)(as:AS)(i:Nat):Option α:=as[i]?.bind λs=>s.bind f
def Mn{os}(h:Ye o=some os):o = .nd .ls os:=by
 cases o with
 |lf s d=>cases h
 |nd k a=>cases k<;>cases h;rfl
def MQ{os}(h:GH o=some os):o = .nd .tp os:=by
 cases o with
 |lf s d=>cases h
 |nd k a=>cases k<;>cases h;rfl
def Ej(h:Ul o=some d):∃st,o = .lf st d:=by
 cases o with
 |lf s d=>cases h;exact⟨s,rfl⟩
 |nd k a=>cases h
def Ni{α:Type}{f os}{k:Nat}{a:α}(h:RR f os k=some a):∃o,os[k]? = some o/\f o=some a:=bS_ h
def Nk(h:Pu f as k=some a):∃o,as[k]? = some (some o)/\f o=some a:=by
 obtain⟨s,b,h⟩:=bS_ h;obtain⟨o,rfl,h⟩:=bS_ h;exact⟨o,b,h⟩
def LA{os inner:List O}{k:Nat}(h:RR Ye os k=some inner):os[k]? = some (.nd .ls inner):=by
 obtain⟨o,a,h⟩:=Ni h;cases Mn h;exact a
def sf{os inner:List O}{k:Nat}(h:RR GH os k=some inner):os[k]? = some (.nd .tp inner):=by
 obtain⟨o,a,h⟩:=Ni h;cases MQ h;exact a
def DN{os}{d:D}{k:Nat}(h:RR Ul os k=some d):∃st,os[k]? = some (.lf st d):=by
 obtain⟨o,a,h⟩:=Ni h;obtain⟨b,rfl⟩:=Ej h;exact⟨b,a⟩
def Jv{inner}{k:Nat}(h:Pu Ye as k=some inner):as[k]? = some (some (.nd .ls inner)):=by
 obtain⟨o,a,h⟩:=Nk h;cases Mn h;exact a
def DE(h:Pu Ul as k=some d):∃st,as[k]? = some (some (.lf st d)):=by
 obtain⟨o,a,h⟩:=Nk h;obtain⟨b,rfl⟩:=Ej h;exact⟨b,a⟩
def Xy{α:Type}{f os}{k:Nat}{a:α}(h:os[k]? = some o)(e:f o=some a):RR f os k=some a:=by unfold RR;rw[h];exact e
def Um(h:as[k]? = some (some o))(e:f o=some a):Pu f as k=some a:=by unfold Pu;rw[h];exact e
def xV(i:Nat):RS:=λas=>(Pu Ul as i).bind Ln
noncomputable def Ly(i:Nat)(f:RS):RS:=λas=>(f as).bind λk=>if 0<=k then(Pu Ul as i).bind λd=>(IB d).bind λds=>ds[k.toNat]?.bind Ln else none
noncomputable def NC(f g:RS):RS:=λas=>(f as).bind λa=>(g as).bind λb=>if 0<b then some (a%b)else none
noncomputable def Nz(f g:RS):RS:=λas=>(f as).bind λa=>(g as).bind λb=>if 0<b/\b<1073741824 then some (a/b)else none
noncomputable def EY(i:Nat):RS:=λas=>(Pu Ye as i).bind λos=>some (os.length:Int)
section
variable{X:Cx}{kd:KD}{f g:RS}{a b:Expr}
def Nm:AK X kd (.Constant (.int c) j pos) (xC c):=by
 with_unfolding_all exact(yu Qk λσ H Q h=>by
  obtain⟨F,B,a,as,k,R,e,q⟩:=h;cases e;exact q)
def x9(hv:PE X (.Name x p) (ZS i)):AK X kd (.Name x p) (xV i):=by
 with_unfolding_all exact(yu hv λσ H Q h=>by
  obtain⟨F,B,ad,as,k,R,e,q⟩:=h;obtain⟨d,e1,e⟩:=bS_ (e);cases TK e;obtain⟨st,k1⟩:=DE e1;obtain⟨v,hv,ro⟩:=R.sl i _ k1;generalize ad i=fp at ro;cases ro with
  |lf rp=>cases rp;exact⟨_,hv,q⟩)
def PH(hv:PE X (.Name x p) (ZS i))(hb:AK X kd b f)(hs:wL b):AK X kd (.Subscript (.Name x p) b pos) (Ly i f):=by
 with_unfolding_all exact(yu (Q8 VB hv hb hs) λσ H Q h=>by
  obtain⟨F,B,ad,as,c,R,e,q⟩:=h;obtain⟨k,h1,e⟩:=bS_ (e);obtain⟨hk,e⟩:=ite_some' e;obtain⟨d0,e1,e3⟩:=bS_ e;obtain⟨ds,e2,e4⟩:=bS_ e3;obtain⟨d,k2,e5⟩:=bS_ e4;cases UV e2;cases TK e5;obtain⟨st,k1⟩:=DE e1;obtain⟨v,hv,ro⟩:=R.sl i _ k1;generalize ad i=fp at ro;cases ro with
  |lf rp=>
   obtain⟨l,vs,rfl,hq,rl⟩:=HA rp (λz=>z);obtain⟨w,hw,rw'⟩:=rl.get k2;cases rw';refine⟨_,hv,F,B,ad,as,k,R,h1,l,vs,k,_,rfl,rfl,hq ad H Grow.refl, ?_,q⟩;have:=x8 hw;rw[zyZ hk]at this;exact this)
def NM(ha:AK X kd a f)(hb:AK X kd b g):AK X kd (.BinOp a .Mod b pos) (NC f g):=by
 with_unfolding_all exact(yu (SL BC ha hb) λσ H Q h=>by
  obtain⟨F,B,d,as,c,R,e,q⟩:=h;obtain⟨m,i,e⟩:=bS_ (e);obtain⟨n,j,e⟩:=bS_ e;obtain⟨k,e⟩:=zx e;cases e;exact⟨F,B,d,as,m,R,i,F,B,d,as,n,R,j,m,n,rfl,rfl,k,q⟩)
def LY(ha:AK X kd a f)(hb:AK X kd b g):AK X kd (.BinOp a .FloorDiv b pos) (Nz f g):=by
 with_unfolding_all exact(yu (SL HP ha hb) λσ H Q h=>by
  obtain⟨F,B,d,as,c,R,e,q⟩:=h;obtain⟨m,i,e⟩:=bS_ (e);obtain⟨n,j,e⟩:=bS_ e;obtain⟨k,e⟩:=zx e;cases e;exact⟨F,B,d,as,m,R,i,F,B,d,as,n,R,j,m,n,rfl,rfl,k,q⟩)
def SO(hg:Gl X "len")(hm:X.mg "len"=none)(hb:bootBuiltins "len"=some (.builtin "len"))(hv:PE X (.Name x p) (ZS i))(hst:starEach [.Name x p] X.env=(false,eval (.Name x p) X.env)::starEach [] X.env)(hpl:(backTo pos (starEach [] X.env)).any (·.1)=false):AK X kd (.Call (.Name "len" p0) [.Name x p] [] pos) (EY i):=by
 with_unfolding_all exact(yu (W6 Ym hg hm hb (xg hv ZG hst) (by decide) (by decide) hst hpl) λσ H Q h=>by
  obtain⟨F,B,ad,as,c,R,e,q⟩:=h;obtain⟨os,e1,e⟩:=bS_ (e);cases e;obtain⟨v,hv,ro⟩:=R.sl i _ (Jv e1);generalize ad i=fp at ro;cases ro with
  |ls hH rl=>
   rename_i l vs fp;refine⟨_,hv,l,vs,rfl,.inl (.inl (.inl hH)), ?_⟩;rw[Tu rl];exact q)
end
noncomputable def Xo(i:Nat)(f1 f2 fv:RS):SF:=λas=>(f1 as).bind λk1=>(f2 as).bind λk2=>(fv as).bind λc=>if 0<=k1/\0<=k2 then(Pu Ye as i).bind λos=>(RR Ye os k1.toNat).bind λinner=>(RR Ul inner k2.toNat).bind λ_=>some (.nx (as.set i (some (.nd .ls (os.set k1.toNat (.nd .ls (inner.set k2.toNat (.lf true (.int c)))))))))else none
noncomputable def uY(as:AS)(y:Nat):Bool:=match as[y]? with
 |some none=>true
 |_=>false
def BB(h:uY as y=true):as[y]? = some none:=by
 unfold uY at h;cases k:as[y]? with
 |none=>rw[k]at h;cases h
 |some s=>
  cases s with
  |none=>rfl
  |some _=>rw[k]at h;cases h
def O2(h:j<n):Ht n (j:Int)=some j:=by
 unfold Ht;rw[if_pos (by omega),if_pos (by omega)];simp
def Mr(h0:0<=k)(h:k.toNat<n):Ht n k=some k.toNat:=by
 have:=O2 h;rw[show(k.toNat:Int)=k by omega]at this;exact this
def TJ(h0:0<=k)(h:xs[k.toNat]? = some v):GU xs k=some v:=by
 have:=x8 h;rw[show(k.toNat:Int)=k by omega]at this;exact this
section
variable{X:Cx}{kd:KD}{f f1 f2 f3 fv:RS}{e1 e2 e3 ev:Expr}{i y:Nat}
def Uy(ho:PE X (.Name x p) (ZS i))(h1:AK X kd e1 f1)(hp1:wL e1)(h2:AK X kd e2 f2)(hv:AK X kd ev fv)
 (ha:∀v,assign (.Subscript (.Subscript (.Name x p) e1 p1) e2 tpos) X.env v=(do
  let ov <-holding [v] (eval (.Subscript (.Name x p) e1 p1) X.env);let iv <-holding [v,ov] (eval e2 X.env)
  standAt tpos
  holding [v,ov,iv] (setItem ov iv v)
  release [v,ov,iv] []))
 (hs:swapsWithSole [.Subscript (.Subscript (.Name x p) e1 p1) e2 tpos] ev pos.line X.env=pure false) (hw:swappedStores [.Subscript (.Subscript (.Name x p) e1 p1) e2 tpos] ev X.env=pure none)
 (hm:(assignEach [.Subscript (.Subscript (.Name x p) e1 p1) e2 tpos] X.env).map (·.2)=[assign (.Subscript (.Subscript (.Name x p) e1 p1) e2 tpos) X.env]):
 QK X kd (.Assign [.Subscript (.Subscript (.Name x p) e1 p1) e2 tpos] ev pos) (Xo i f1 f2 fv):=by
 with_unfolding_all exact(yE (Tq hv (BG (Q8 VB ho h1 hp1) h2 set_list ha) hs hw hm) λD σ H h=>by
  obtain⟨F,B,b,as,o,R,e,q⟩:=h;obtain⟨z,G,e⟩:=bS_ (e);obtain⟨f,I,e⟩:=bS_ e;obtain⟨c,J,e⟩:=bS_ e;obtain⟨⟨g,j⟩,e⟩:=ite_some' e;obtain⟨os,K,e⟩:=bS_ e;obtain⟨k,L,e⟩:=bS_ e;obtain⟨d,M,e⟩:=bS_ e;have N:=Jv K;have O:=LA L;obtain⟨st,P⟩:=DN M;cases e;obtain⟨v,sv,Q,S,A,T⟩:=R.slotU N;obtain⟨l,U,w,fw,rfl,V,n,r,W,C,s⟩:=L6 Q S A O;obtain⟨p,t,rfl,E,u,Y,y⟩:=My c r W (λa m=>A a (C a m)) P;obtain⟨R2,Z⟩:=T p _ _ (C p E) (s p _ _ E y);exact⟨F,B,b,as,c,R,J,_,sv,F,B,b,as,z,R,G,l,U,z,_,rfl,rfl,.inl (.inl V),TJ g n,F,B,b,as,f,R,I,p,t,f,f.toNat,rfl,rfl,u,Mr j Y,q σ b _ R2 Z⟩)
end
def Gj:typeLookup (.type "list") "keys"=pure none:=am_miss_of_fast (by decide +kernel)
def NK
 (hx:s.heap.get? a=some o) (hc:o.cls = .type "list") (hdat:o.data = .seq xs k) (hd:o.dict=none) (hA:A.handled=none)
 (h:∀h' tk,(∀b o,s.heap.get? b=some o->h'.get? b=some o)->Q none {s with heap:=h',toks:=tk}):
 wpAny (model prog w) A (getAttr? (.ref a) "keys") Q E s:=by
 obtain⟨c,dct,dat,sl⟩:=o;simp only at hc hdat hd;subst hc hdat hd;obtain⟨hp,g,d,tk,os⟩:=s;have hT:∀tk',(⟨hp,g,d,tk',os⟩:Shared).TypeIs (.ref a) "list":=λ_=>⟨_,hx,rfl⟩;have f1:=sub_AttributeError;have f3:=F.slot_list_getattribute.lookup;have f4:=F.slot_list_getattribute.bind (.ref a);have f5:=am_list_getattr_none;unfold getAttr? getAttrBy? getAttrBy
 repeat (any_goals (first|assumption|exact hT _|((with_reducible show wpAny _ _ (call _ _ _) _ _ _);refine call_meets F.slot_list_getattribute (hT _) am_entry_list_getattribute (F.args_list_getattribute_2 _ _) (meets_getattribute_miss_list a xs k sl "keys" _ Gj (by decide +kernel)) ⟨hx,hA,λh' tk' e hx'=>?_⟩)|wp_step))
 obtain⟨t',u',he⟩:=hx'.there;unfold getattributeRaised
 repeat (any_goals (first|assumption|wp_step))
 exact h _ _ hx'.keeps
def wt:plainId "dict.update.loop"=true:=by decide +kernel
theorem Xi:entryFor table "dict.update.loop"=some Builtin.«dict.update.loop» := entryFor_of_fast (by kernel_rfl)
section
variable{prog:Program}{w:World}{κ:Type}[DecidableEq κ]{knd:KeyKind prog w κ}{A:Around}{R:Result->Shared->Prop}{d I l:Addr}{items:Array Value}{N:Nat}
def putAll(kvs:List (κ×Value)):List (κ×Value)->List (κ×Value)
 | []=>kvs
 |p::r=>putAll (stored kvs p.1 p.2) r
def NB(kvs)(k:κ)(v):(stored kvs k v).length<=kvs.length+1:=by
 unfold stored
 split
 . rw[zzB];omega
 . rw[zzJ];exact zzN _
def UX(hh:A.handled=none)(hdN:N<=d)(hIN:N<=I)(hdI:d≠I)(hlN:l<N):∀(rest:List (κ×Value)) (i:Nat) (s:Shared) (kvs:List (κ×Value)),s.heap.IsListIter I l i->s.heap.IsList l items->s.heap.DictOf knd d kvs->kvs.length+rest.length<=sizeLine->
 (∀j p,rest[j]? = some p->∃q key,items[i+j]? = some (.ref q)/\q<N/\IsTup s.heap q #[key,p.2]/\knd.is p.1 key=true)->items[i+rest.length]? = none->
 (∀h' tk,h'.DictOf knd d (putAll kvs rest)->(∀b o,b<N->s.heap.get? b=some o->h'.get? b=some o)->R (.ok (.ret .none)) {s with heap:=h',toks:=tk})->
 codeAny (model prog w) A (.builtin "dict.update.loop" ⟨[.ref d,.ref I,rawInt i,.none],[]⟩) R s:=by
 intro rest
 induction rest with
 |nil=>
  intro i s kvs hit hl hm hz hp he hR;refine zxP Xi ?_;rw[zxM wt _];refine zxG (wpAny_pyNext_list_end hh hit hl he λh' hx=>?_);refine zxG (zxH (zxH ?_));obtain⟨o,es,ep,ho,r⟩:=hm;exact hR h' s.toks ⟨o,es,ep,hx d o hdI ho,r⟩ λb o hb e=>hx b o (zzQ (zzK hb hIN)) e
 |cons p rest ih=>
  intro i s kvs hit hl hm hz hp he hR;obtain⟨q,key,hq,hqN,ht,hkey⟩:=hp 0 p rfl;refine zxP Xi ?_;rw[zxM wt _];refine zxG (wpAny_pyNext_list_item hit hl hq λh' hit' hs=>?_);have sm:∀b o,b≠I->s.heap.get? b=some o->h'.get? b=some o:=λb o hb e=>(hs.2 b hb).trans e;obtain⟨oq,hoq,hcq,nq,hdq⟩:=ht;have hoq':=sm q oq (zzQ (zzK hqN hIN)) hoq;have hm':h'.DictOf knd d kvs:=let⟨o,es,ep,ho,r⟩:=hm;⟨o,es,ep,sm d o hdI ho,r⟩;have hl':h'.IsList l items:=let⟨o,ho,r⟩:=hl;⟨o,sm l o (zzQ (zzK hlN hIN)) ho,r⟩;have hT:({s with heap:=h'}:Shared).TypeIs (.ref q) "tuple":=⟨oq,hoq',hcq⟩;refine zxG (zxN (zxG (wpAny_tryCatch ?_)));unfold Builtin.Dict.pairItems;refine zxG (wpAny_typeOf hT ?_);rw[if_pos (by decide)];refine zxG (wpAny_seqItems hoq' hdq (zxH ?_));refine zxN (wpAny_dictSet_pairs hkey hm' λh'' hm'' hs''=>?_);have sm2:∀b o,b≠d->h'.get? b=some o->h''.get? b=some o:=λb o hb e=>(hs''.2 b hb).trans e;refine zxH ⟨zxQ wt _, ?_⟩;have hit'':h''.IsListIter I l (i+1):=let⟨o,ho,r⟩:=hit';⟨o,sm2 I o (Ne.symm hdI) ho,r⟩;have hl'':h''.IsList l items:=let⟨o,ho,r⟩:=hl';⟨o,sm2 l o (zzQ (zzK hlN hdN)) ho,r⟩;have keep:=λb o hb e=>sm2 b o (zzQ (zzK hb hdN)) (sm b o (zzQ (zzK hb hIN)) e);have:=ih (i+1) {s with heap:=h'',toks:=s.toks+1} _ hit'' hl'' hm'' (by have:=NB kvs p.1 p.2;simp only[zzT]at hz;omega)
   (λj p' hj=>by
    obtain⟨q',key',a1,a2,⟨o',a3,a4⟩,a5⟩:=hp (j+1) p' (by simpa using hj);exact⟨q',key',by rw[show i+1+j=i+(j+1) by omega];exact a1,a2,⟨o',keep q' o' a2 a3,a4⟩,a5⟩)
   (by rw[show i+1+rest.length=i+(p::rest).length by simp only[zzT];omega];exact he)
   (λh3 tk hm3 k3=>hR h3 tk hm3 λb o hb e=>k3 b o hb (keep b o hb e))
  exact this
end
def UK{κ:Type}[DecidableEq κ]{knd:KeyKind prog w κ}{n:Nat}{ps}(hh:A.handled=none)
 (ho:s.heap.get? l=some o) (hc:o.cls = .type "list") (hd:o.data = .seq items n) (hn:o.dict=none) (hsz:ps.length<=sizeLine)
 (hp:∀(j:Nat) (p:κ×Value),ps[j]? = some p->∃(q:Addr) (key:Value),items[j]? = some (Value.ref q)/\IsTup s.heap q #[key,p.2]/\knd.is p.1 key=true) (he:items[ps.length]? = none)
 (h:∀h' tk,h'.DictOf knd s.heap.objs.size (putAll [] ps)->(∀b o,s.heap.get? b=some o->h'.get? b=some o)->Q (.ref s.heap.objs.size) {s with heap:=h',toks:=tk}):wpAny (model prog w) A (call (.type "dict") [.ref l]) Q E s:=by
 refine callType_codes (Q₁:=λd z=>d = .ref s.heap.objs.size/\z={s with heap:=s.heap.push {cls:=.type "dict",data:=.dict #[]}}) F.kt_called_dict (F.kt_typeCall_dict_1 _) F.entry_dict_init (kt_code_dict_new _ ⟨rfl,rfl⟩) ?_
 rintro d z ⟨rfl,rfl⟩
 have a:(s.heap.push {cls:=.type "dict",data:=.dict #[]}).DictOf knd s.heap.objs.size []:=Heap.DictOf.new s.heap;have f:∀b o,s.heap.get? b=some o->(s.heap.push {cls:=.type "dict",data:=.dict #[]}).get? b=some o:=λb o e=>zxI _ e;have C:({s with heap:=s.heap.push {cls:=.type "dict",data:=.dict #[]}}:Shared).TypeIs (.ref l) "list":=⟨o,f l o ho,hc⟩;refine⟨a.typeIs,F.args_dict_init_2 _ _, ?_⟩;unfold Builtin.«dict.__init__»;refine zxG ?_;unfold Builtin.Dict.selfAndRest;refine zxG (wpAny_notOrdered_dict a.typeIs ?_);refine zxH ?_;show wpAny _ _ (Builtin.Dict.updateFrom "dict.__init__" s.heap.objs.size _ [] .none) _ _ _;unfold Builtin.Dict.updateFrom;refine zxG (wpAny_typeOf C ?_);rw[if_pos (by decide)];refine zxG (NK (f l o ho) hc hd hn hh λg v i=>?_);rw[if_pos (by decide)];refine zxG (wpAny_rule ?_);have k:=i l o (f l o ho);have x:g.IsList l items:=⟨o,k,hc,n,hd⟩;refine zxG (wpAny_pyIter_list x ?_);have t:∀b o,g.get? b=some o->(g.push {cls:=.type "list_iterator",data:=.fields #[.ref l,.int 0 0]}).get? b=some o:=λb o e=>zxI _ e;have m:s.heap.objs.size<g.objs.size:=by
  obtain⟨u,_,_,c,_⟩:=a;exact zxJ (i _ _ c)
 refine zxH ⟨zxQ wt _, ?_⟩;refine UX (A:=A.in1) (knd:=knd) hh (zzN _) (Nat.le_of_lt m) (zzQ m) (zxJ ho) ps 0 {s with heap:=g.push {cls:=.type "list_iterator",data:=.fields #[.ref l,.int 0 0]},toks:=v} [] ⟨_,zxK _ rfl,rfl,rfl⟩ ⟨o,t l o k,hc,n,hd⟩ ?_ (by rw[List.length_nil];omega) (λj p D=>?_) (by rw[zyY];exact he) (λG H I J=>?_)
 . obtain⟨u,K,L,c,r⟩:=a;exact⟨u,K,L,t _ _ (i _ _ c),r⟩
 . obtain⟨q,y,M,⟨u,B,O⟩,P⟩:=hp j p D;exact⟨q,y,by rw[zyY];exact M,zxJ B,⟨u,t _ _ (i _ _ (f _ _ B)),O⟩,P⟩
 . exact⟨rfl,h G H I λb o e=>J b o (zxJ e) (t _ _ (i _ _ (f _ _ e)))⟩
noncomputable def Z_:List D->Option (List (Key×D))
 | []=>some []
 |d::r=>(t5 d).bind λl=>(AV l).bind λp=>(LK p.1).bind λk=>(Z_ r).bind λt=>some ((k,p.2)::t)
noncomputable def sE:D->Option R0
 | .dct kvs=>some (.fd kvs)
 | .lst ds=>(Z_ ds).bind λkvs=>if(kvs.map (·.1)).Nodup then some (.fd kvs)else none
 |_=>none
def Q7:List D->Option R0:=Ju sE
theorem UZ[DecidableEq κ]:∀(ps acc:List (κ×Value)),((acc++ps).map (·.1)).Nodup->putAll acc ps=acc++ps
 | [],a,_=>(zyE a).symm
 |p::r,a,h=>by
  have b:stored a p.1 p.2=a++[p]:=by
   unfold stored;rw[if_neg];rw[zyM,zyS]at h;obtain⟨_,_,c⟩:=zxF.mp h;intro z;obtain⟨q,m,e⟩:=List.any_eq_true.mp z;exact c q.1 (List.mem_map_of_mem m) p.1 (zzF ..) (of_decide_eq_true e)
  show putAll _ r=_;rw[b,UZ r _ (by rw[zxD];exact h),zxD];rfl
section
variable{X:Cx}{kd:KD}{O:Addr->Prop}{pins:List (Addr×Obj)}{σ:St}{H:Hp}{s:Shared}
theorem RC(I:Inv X pins σ H s):∀{vs:List V}{us:List Value}{ds:List D}{dk:List (Key×D)},RpL X.K kd O H vs ds->zK vs us->Z_ ds=some dk->
 ∃(kvs:List (Key×V)) (ps:List (Key×Value)),KV kvs ps/\RpM X.K kd O H kvs dk/\ps.length=us.length/\ps.map (·.1)=dk.map (·.1)/\kvs.length=ps.length/\
  ∀(j:Nat) (p:Key×Value),ps[j]? = some p->∃(q:Addr) (key:Value),us[j]? = some (Value.ref q)/\IsTup s.heap q #[key,p.2]/\(yy X.prog X.w).is p.1 key=true
 |_,_,[],_,b,r,e=>by
  cases b;cases r;cases e;exact⟨[],[],.nil,.nil,rfl,rfl,rfl,λj p h=>by simp at h⟩
 |_,_,d::i,dk,b,r,e=>by
  cases b with
  |cons l b=>
   rename_i v vs;cases r with
   |cons m r=>
    rename_i u us;obtain⟨l0,n,o⟩:=bS_ (e);obtain⟨⟨k,dv⟩,x,y⟩:=bS_ o;cases FL n;cases N5 x
    . obtain⟨c,z,e⟩:=bS_ y;obtain⟨t,A,e⟩:=bS_ e;cases e;obtain⟨f,B,C,E,F,G,J,L⟩:=RC I b r A;cases l.vw with
      | tup M N a=>
            rename_i q ws;cases a with
            |cons P a=>
             cases a with
             |cons Q a=>
              cases a;rename_i R g;have S:=Nb P.vw z;subst S;obtain⟨T,U,W,_⟩:=I.tuple N;obtain⟨Y,Z,rfl,r1,r2⟩:=vals2 U;cases m;refine⟨(c,g)::f,(c,Z)::B,.cons ⟨rfl,r2⟩ C,.cons Q E,congrArg (· + 1) F,congrArg (c :: ·) G,congrArg (· + 1) J,λj p h=>?_⟩;cases j with
              |zero=>
               simp at h;subst h;exact⟨q,Y,rfl,W,Ub r1⟩
              |succ j=>simpa using L j p (by simpa using h)
def L5(hc:X.calm=true)(hk:KdOk X kd):Y6 X kd (.type "dict") Q7:=by
 intro c s σ H xs A Q I r h;obtain⟨O,ds,z,B,C,b,q⟩:=h;obtain⟨x,d,rfl,D,b⟩:=Qr C b;cases D with
 |dct e E=>exact Ey hk c s σ H _ A Q I r ⟨O,[.dct _],z,B,.cons (.dct e E) .nil,b,q⟩
 |lst e F=>
  obtain⟨dk,G,b⟩:=bS_ (b);obtain⟨J,b⟩:=zx b;cases b;obtain⟨u,rfl,K⟩:=vals1 r;cases K;obtain⟨L,m,⟨o,n,M,f,g,i⟩,hz⟩:=I.list e.sq;obtain⟨k,t,N,P,R,S,a5,T⟩:=RC I F m G;have v:=m.length;refine UK (knd:=yy X.prog X.w) (ps:=t) (I.ok.hd hc) M f i g (by omega) (λj p U=>?_) (by rw[R];simp) λh' V y W=>?_
  . obtain⟨Y,l,Z,b2,b3⟩:=T j p U;exact⟨Y,l,by simpa using Z,b2,b3⟩
  . rw[UZ t [] (by rw[List.nil_append,S];exact J),List.nil_append]at y;exact⟨.ref _,_,I.laid (t':=V) W (zzN _) (ND (by omega) (beq_eq_false_iff_ne.mpr (Ne.symm (zzQ I.big))) N y),rfl,B9 q P _ (I.hok.fresh (zzN _))⟩
 |_=>cases b
end
def qW{α:Type}{P:List α->Prop}(h:∀a,P [a]):∀us:List α,us.length=1->P us
 | [a],_=>h a
def qI{α:Type}{P:List α->Prop}(h:∀a b,P [a,b]):∀us:List α,us.length=2->P us
 | [a,b],_=>h a b
def qS{α:Type}{P:List α->Prop}(h:∀a b c,P [a,b,c]):∀us:List α,us.length=3->P us
 | [a,b,c],_=>h a b c
def qK{α:Type}{P:List α->Prop}(h:∀a b c d,P [a,b,c,d]):∀us:List α,us.length=4->P us
 | [a,b,c,d],_=>h a b c d
def qC{α:Type}{P:List α->Prop}(h:∀a b c d e,P [a,b,c,d,e]):∀us:List α,us.length=5->P us
 | [a,b,c,d,e],_=>h a b c d e
section
variable{X:Cx}{kd:KD}
def aI:AE X kd (.Constant (.int c) j pos) (fC (.int c)):=TM Qk λ_ _=>.int _
def aS:AE X kd (.Constant (.str c) j pos) (fC (.str c)):=TM S_ λ_ _=>.str _
def aZ:AE X kd (.Constant .none j pos) (fC .non):=TM Jf λ_ _=>.non
def aB:AE X kd (.Constant (.bool c) j pos) (fC (.bl c)):=TM DB λ_ _=>.bl _
def ax{K}(hkd:Z0 P w K kd)(ha:AE X kd a fa)(hb:AE X kd b fb)(h1:X.prog=P:=by rfl)(h2:X.w=w:=by rfl)(h3:X.K=K:=by rfl)(hm:wL b:=by exact λ_ _=>rfl):AE X kd (.Subscript a b pos) (f2 fa fb zy):=Du (rK (hkd _ h1 h2 h3)) ha hb hm
def sv(z)(i:Nat)(hN:X.N.Nodup)(he:AE X kd e fa)(hi:X.N[i]? = some x:=by rfl)(hx:Loc X.env.scope x:=by first|exact Or.inl rfl|exact Or.inr rfl)(hs:swapsWith e (some (.Name x pos')) pos.line X.env=pure false:=by rfl)(hf:X.fn x=true\/X.env.scope.names.lookup x=some .local:=by first|exact Or.inl rfl|exact Or.inr rfl):
 QK X kd (.Assign [.Name x pos'] e pos) (zo z i fa):=Fx hN hi hx he hs hf
def an(i:Nat)(hN:X.N.Nodup)(hi:X.N[i]? = some x:=by rfl)(hx:Loc X.env.scope x:=by first|exact Or.inl rfl|exact Or.inr rfl)(hf:X.fn x=true\/X.env.scope.names.lookup x=some .local:=by first|exact Or.inl rfl|exact Or.inr rfl):AG X kd (.Name x pos) [i] (gN i):=Mq hN hi hx hf
def av(i:Nat)(hN:X.N[i]? = some x:=by rfl)(hv:ux X.env.scope x:=by first|exact Or.inl rfl|exact Or.inr (Or.inl rfl)|exact Or.inr (Or.inr rfl))(hd:(x==("__debug__":Str))=false:=by decide)
 (hcd:(x==("__classdict__":Str))=false:=by decide):AE X kd (.Name x pos) (fV i):=J4 (SM hN hv hd hcd)
end
noncomputable def HM(mg:Str->Option Value):Str->Addr:=λx=>match mg x with
 |some (.ref a)=>a
 |_=>0
def Ot(h:mg x=some (.ref a)):HM mg x=a:=by
 unfold HM;rw[h]
structure CI(K:zzA)(kd:KD)(mg:Str->Option Value)(c:Str)(C:Addr):Prop where
 eq:kd.c c=C
 cl:Cls K C
 mks:W.makesIn K C=true
 kp:W.keepIn K (.ref C)=true
 mg:mg c=some (.ref C)
def S9(h:n<=1000000):n<=sizeLine:=zzO h (by decide)
section
variable{as:AS}{f fo a b:EF}{fr:AF}{s t:Bool}{x y z d:D}{c m:Str}{ns cs:List Str}{ds:List D}{X3:List (Str×Fn)}{g:Fn}{o:O}
inductive SqD:D->List D->Prop
 |l (ds:List D):SqD (.lst ds) ds
 |t (ds:List D):SqD (.tup ds) ds
theorem Qf:∀(l:List α),(∀q ∈ l,∃as1,gg (it q) as0=some as1/\WE fe as1 (h q))->∃os,xt gg yH fe as0 (l.map it)=some os/\O.strs os=true/\O.toDs os=l.map h
 | [],_=>⟨[],rfl,rfl,rfl⟩
 |q::l,H=>by
  obtain⟨a,d,e,f⟩:=Qf l λp m=>H p (zzD _ m);obtain⟨b,g,o,i,c,j⟩:=H q zzF;refine⟨o::a, ?_,by show(o.str&&O.strs a)=true;rw[c,e];rfl,by show o.toD::O.toDs a=_;rw[j,f];rfl⟩;show xt gg yH fe as0 (it q::l.map it)=_;unfold xt;rw[g];show((fe b).bind _)=_;rw[i];show(if o.str=true then _ else _)=_;rw[if_pos c,d];rfl
theorem Po:∀(l:List α),(∀q ∈ l,∃as1,gg (it q) as0=some as1/\WT tt as1 (p q)/\(p q=true->WE fe as1 (h q)))->∃os,xt gg tt fe as0 (l.map it)=some os/\O.strs os=true/\O.toDs os=(l.filter p).map h
 | [],_=>⟨[],rfl,rfl,rfl⟩
 |q::l,H=>by
  obtain⟨c,d,e,f⟩:=Po l λp m=>H p (zzD _ m);obtain⟨a,g,b,j⟩:=H q zzF;cases hp:p q with
  |false=>
   rw[hp]at b;refine⟨c,EZ g b d,e, ?_⟩;rw[List.filter_cons_of_neg (by simp[hp])];exact f
  |true=>
   rw[hp]at b;obtain⟨o,k,i,n⟩:=j hp;refine⟨o::c, ?_,by show(o.str&&O.strs c)=true;rw[i,e];rfl, ?_⟩
   . unfold WT at b;show xt gg tt fe as0 (it q::l.map it)=_;unfold xt;rw[g];show(tt a).bind _=_;rw[b];show((fe a).bind _)=_;rw[k];show(if o.str=true then _ else _)=_;rw[if_pos i,d];rfl
   . rw[List.filter_cons_of_pos hp];show o.toD::O.toDs c=_;rw[n,f];rfl
def Lo{os}(h1:fi as=some (xs,as))(hl:xs.length<=1000000)(h2:xt gg tt fe (Y2 cap as) xs=some os)(hs:O.strs os=true)(e:O.toDs os=zs):WE (ya fi cap gg tt fe) as (.lst zs):=by
 refine⟨.nd .ls os, ?_,hs,congrArg D.lst e⟩;unfold ya;rw[h1];show(if xs.length<=sizeLine then _ else _)=_;rw[if_pos (S9 hl),h2];rfl
def NQ(l:List α)(h1:fi as=some (l.map it,as))(hl:l.length<=1000000)(H:∀q ∈ l,∃as1,gg (it q) (Y2 cap as)=some as1/\WE fe as1 (h q)):WE (ya fi cap gg yH fe) as (.lst (l.map h)):=by
 obtain⟨d,a,b,c⟩:=Qf l H;exact Lo h1 (by rw[zzB];exact hl) a b c
def A6(l:List α)(h1:fi as=some (l.map it,as))(hl:l.length<=1000000)(H:∀q ∈ l,∃as1,gg (it q) (Y2 cap as)=some as1/\WT tt as1 (p q)/\(p q=true->WE fe as1 (h q))):WE (ya fi cap gg tt fe) as (.lst ((l.filter p).map h)):=by
 obtain⟨d,a,b,c⟩:=Po l H;exact Lo h1 (by rw[zzB];exact hl) a b c
def Rt(r:Option Out)(x:D):Prop:=∃o,r=some (.rt o)/\o.str=true/\o.toD=x
def y7{n m:Nat}{c ds}(hl:ds.length=m)(h:Rt (c (yk n ds)) x):RE (vP n m c ds) x:=by
 obtain⟨o,a,b,d⟩:=h;exact⟨o,ZX hl a,b,d⟩
def zq{f g}(h1:f as=some (.nx as1))(h2:Rt (g as1) x):Rt (zg f g as) x:=by
 obtain⟨o,e,h⟩:=h2;exact⟨o,zC h1 e,h⟩
def Vo{f g}(h1:Rt (f as) x):Rt (zg f g as) x:=by
 obtain⟨o,e,h⟩:=h1;exact⟨o,Yi e,h⟩
def U3{c f g}(h:WT c as true)(h1:Rt (f as) x):Rt (xr c f g as) x:=by
 obtain⟨o,e,a⟩:=h1;exact⟨o,yL h e,a⟩
def yU(h:WE f as x):Rt (zY f as) x:=by
 obtain⟨o,b,a,c⟩:=h;refine⟨o, ?_,a,c⟩;unfold zY;rw[b];show((if o.str=true then some o else none).bind _)=_;rw[if_pos a];rfl
def Nh{os}(h:WO fd as os)(hl:os.length<=1000000)(hs:O.strs os=true)(e:O.toDs os=zs):WE (yf fd) as (.tup zs):=by
 refine⟨ZU os,GT h (S9 hl), ?_, ?_⟩
 . unfold ZU;split
   . exact hs
   . exact hs
 . subst e;unfold ZU;split
   . rfl
   . rfl
def Gh{os}(h:WE a as x)(hr:WO fd as os):∃o,o.str=true/\o.toD=x/\WO (dC a fd) as (o::os):=by
 obtain⟨o,b,c,d⟩:=h;exact⟨o,c,d,Bq b hr⟩
def HJ(ha:WE a as x):WE (yf (dC a dN)) as (.tup [x]):=by
 obtain⟨o,b,rfl,c⟩:=Gh ha zR;exact Nh c (by show 1<=_;omega) (by show(o.str&&true)=true;rw[b];rfl) rfl
def Xu(ha:WE a as x)(hb:WE b as y):WE (yf (dC a (dC b dN))) as (.tup [x,y]):=by
 obtain⟨p,c,rfl,d⟩:=Gh hb zR;obtain⟨o,e,rfl,f⟩:=Gh ha d;exact Nh f (by show 2<=_;omega) (by show(o.str&&(p.str&&true))=true;rw[e,c];rfl) rfl
def Ie{g}(ha:WE a as x)(hb:WE b as y)(hg:g x y=some (.im z)):WE (f2 a b g) as z:=WD.e (Lx ha hb hg)
end
open AutoSeq1 (wpAny_loadPart')
section
variable{X:Cx}{kd:KD}
def Sw(x y:D):Option R0:=CW (λi j=>if 0<=j/\j<=1000000/\i.natAbs<2 ^ 64 then some (.im (.int (i*2 ^ j.toNat)))else none) x y
def Om:J1 X kd (binaryOp .LShift) Sw:=by
 intro pins s σ H x y v u Q I rx ry h;obtain⟨O,d,e,r,ht,vx,vy,he,q⟩:=h;obtain⟨i,j,rfl,rfl,he⟩:=ZD vx vy he;obtain⟨c,rfl⟩:=zx he;exact JW pins s σ H _ _ v u Q I rx ry ⟨_,_,rfl,rfl,c,zZ q (.int _)⟩
end
noncomputable def G6(i:Nat)(fk fv:EF):SF:=λas=>(fv as).bind λp=>(ZA p.2 p.1).bind λx=>match x.2[i]? with
 |some (some (.nd (.dt _) _))=>(fk x.2).bind λq=>(q.1.frz.view q.2).bind λkd=>(Oi kd.1).bind λk=>match q.2[i]? with
  |some (some (.nd (.dt ks) os))=>if ks.length<sizeLine then some (.nx (q.2.set i (some (.nd (.dt (QZ ks k)) (Zv ks os k (.lf x.1.1 x.1.2))))))else none
  |_=>none
 |_=>none
noncomputable def KF(i:Nat)(k:Int):SF:=λas=>match as[i]? with
 |some (some (.lf _ (.int n)))=>some (.nx (as.set i (some (.lf true (.int (n+k))))))
 |_=>none
section
variable{X:Cx}{kd:KD}{e:Expr}{fa:EF}{pos pos':Pos}
def S7(hN:X.N.Nodup)(hi:X.N[i]? = some x)(hx:Loc X.env.scope x)(hf:X.fn x=true\/X.env.scope.names.lookup x=some .local):
 QK X kd (.AugAssign (.Name x pos') .Add (.Constant (.int k) z p2) pos) (KF i k):=by with_unfolding_all exact(yE (Jl hN hi hx Qk Jw hf) λD σ H h=>by
 obtain⟨F,B,ad,as,o,R,e,q⟩:=h;cases k1:as[i]? with
 |none=>unfold KF at e;rw[k1]at e;cases e
 |some a0=>
  unfold KF at e;rw[k1]at e
  match a0,e,k1 with
  |some (.lf st (.int n)),e,k1=>
   cases e;obtain⟨v,hs,ro⟩:=R.sl i _ k1;generalize ad i=fp1 at ro;cases ro with
   |lf rp=>
    cases rp;obtain⟨ad2,R2,le⟩:=Gy (z:=true) (r:=.ow (.lf true (.int (n+k)))) R (.lf (.int _)) rfl (zzG.mp k1).1;exact⟨_,hs,_,_,rfl,rfl,q _ ad2 H R2 (Grow.less le)⟩)
end
section
variable{X:Cx}{kd:KD}{P:Program}{w:World}{K:zzA}{a b e o:Expr}{es:List Expr}{fa fb fo:EF}{fr:AF}{fd_:DF}{pos p apos:Pos}{k n:Nat}
def Xw(h1:sc.kind = .function:=by rfl)(h2:sc.isCoroutine=false:=by rfl)(h3:sc.isGenerator=false:=by rfl)(h4:N.Nodup:=by decide +kernel)(h5:N.take Ps.length=Ps:=by rfl)(h6:∀x ∈ Ps,sc.names.lookup x=some .local\/sc.names.lookup x=some .cell:=by decide +kernel)(h7:∀y ∈ sc.names,y.2 ≠ .free:=by decide +kernel):FnScope N Ps sc:=⟨h1,h2,h3,h4,h5,h6,h7⟩
def bs{x qual}{st}{f}{fd}{ps}(F:Fun K x qual st f fd)
 (h:∀(kV doc pm:Value) (an:Option Addr) (cdv ct:Value) (us:List Value),us.length=ps.length->bindArgs (W.fnOf x qual (UF st) (wu st) (zd st) .none kV doc pm an cdv ct) ⟨us,[]⟩=pure (ps.zip us):=by first|exact λ_ _ _ _ _ _=>qW λ_=>rfl|exact λ_ _ _ _ _ _=>qI λ_ _=>rfl|exact λ_ _ _ _ _ _=>qS λ_ _ _=>rfl|exact λ_ _ _ _ _ _=>qK λ_ _ _ _=>rfl|exact λ_ _ _ _ _ _=>qC λ_ _ _ _ _=>rfl|exact λ_ _ _ _ _ _=>l6_ λ_ _ _ _ _ _=>rfl):Binds K fd ps []:=F.binds h
def bc(ha:AE X kd a fa)(hr:AA X kd es fr)(hs:isStar a=false:=by rfl):AA X kd (a::es) (aC fa fr):=Hv ha hr (y9 hs)
def bd(ha:AE X kd a fa)(hr:AD X kd es fd_)(hs:isStar a=false:=by rfl):AD X kd (a::es) (dC fa fd_):=HW ha hr (y9 hs)
def bn{op}(ha:AE X kd a fa)(hb:AE X kd b fb):AE X kd (.BinOp a op b pos) (f2 fa fb (XZ op)):=Bp (Iy op) ha hb
def tc{op}(hkd:Z0 P w K kd)(hr:Room k X.A)(ha:AE X kd a fa)(hb:AE X kd b fb)(h1:X.prog=P:=by rfl)(h2:X.w=w:=by rfl)(h3:X.K=K:=by rfl)(hm:behindInMarks op b=false:=by exact LZ _):AT X kd (.Compare a [op] [b] pos) (fT (f2 fa fb (zB op))):=LW (Rm (hkd _ h1 h2 h3) (P6 hr) op) (Ts op) ha hb hm
def ec{op}(hkd:Z0 P w K kd)(hr:Room k X.A)(ha:AE X kd a fa)(hb:AE X kd b fb)(h1:X.prog=P:=by rfl)(h2:X.w=w:=by rfl)(h3:X.K=K:=by rfl)(hm:behindInMarks op b=false:=by exact LZ _):AE X kd (.Compare a [op] [b] pos) (f2 fa fb (zB op)):=Ac (Rm (hkd _ h1 h2 h3) (P6 hr) op) ha hb hm
def bi{id}{gg}{x}(hc:Y6 X kd (.builtin id) gg)(hm:X.mg x=none)(hv:bootBuiltins x=some (.builtin id))(ha:AA X kd (e::es) fr)(hg:Gl X x:=by rfl)(hn:x≠"__name__":=by exact Bt.n _ rfl)(hdb:(x==("__debug__":Str))=false:=by decide)
 (he:starEach (e::es) X.env=(false,eval e X.env)::starEach es X.env:=by rfl) (hpl:(backTo pos (starEach es X.env)).any (·.1)=false:=by rfl):AE X kd (.Call (.Name x p) (e::es) [] pos) (fP fr gg):=IG hc hg hm hv ha hn hdb he hpl
def DQ(hc:Y6 X kd (.type T) gg)(hm:X.mg x=none)(hv:bootBuiltins x=some (.type T))(ha:AA X kd (e::es) fr)(hg:Gl X x:=by rfl)(hn:x≠"__name__":=by exact Bt.n _ rfl)(hdb:(x==("__debug__":Str))=false:=by decide)
 (he:starEach (e::es) X.env=(false,eval e X.env)::starEach es X.env:=by rfl) (hpl:(backTo pos (starEach es X.env)).any (·.1)=false:=by rfl):AE X kd (.Call (.Name x p) (e::es) [] pos) (fP fr gg):=Js hc hg hm hv ha hn hdb he hpl
def sj(i:Nat){z}{x}{pos'}{rest}{g}(hN:X.N.Nodup)(he:AE X kd e fa)(h2:TU X kd rest g)(hi:X.N[i]? = some x:=by rfl)(hx:Loc X.env.scope x:=by first|exact Or.inl rfl|exact Or.inr rfl)(hs:swapsWith e (some (.Name x pos')) pos.line X.env=pure false:=by rfl)(hf:X.fn x=true\/X.env.scope.names.lookup x=some .local:=by first|exact Or.inl rfl|exact Or.inr rfl):
 TU X kd (.Assign [.Name x pos'] e pos::rest) (zg (zo z i fa) g):=zV (Fx hN hi hx he hs hf) h2
end
end PF
end
section
namespace PF
open PySem PySem.Spec PyProof.Rows L2
def AJ:bootBuiltins "set"=some (.type "set"):=by decide +kernel
def A3:EF:=λas=>some (.ow (.nd (.dt []) []),as)
section
variable{X:Cx}{kd:KD}{n:Nat}
def AM:AE X kd (.Dict [] [] pos) A3:=by with_unfolding_all exact(yu SQ λσ H Q h=>by
 obtain⟨F,B,ad,as,r,as',R,e,q⟩:=h;cases e;intro p hp;have k:∀b o,H b=some o->upd H p (.dT []) b=some o:=λb o hb=>by rw[zr (zO hb hp)];exact hb
 obtain⟨R2,g2⟩:=R.news (T':=[p]) (by simp) (λa m=>by rw[zzR.mp m];exact hp) k (λa m=>by rw[zzR.mp m,zA];simp);exact q _ [p] ad _ R2 (.dt zA rfl .nil) g2)
end
structure Co(x:Str)(P:Program)(w:World)(K:zzA)(mg:Str->Option Value)(base:Heap)(kd:KD)(k:Nat)(f:Addr)(d:FuncData)(ps:List Str)(gg:List (Bool×D)->Option O):Prop where
 F:FnOk P w K mg base U2 k f d ps (Ft K kd gg)
 m:mg x=some (.ref f)
 kp:W.keepIn K (.ref f)=true
 b:Binds K d ps []
noncomputable def Se:List Str->List Str->List (Option Nat)->List Str
 |t::ts,XN,none::c=>t::Se ts XN c
 | [],XN,none::c=>""::Se [] XN c
 |ts,XN,some j::c=>XN.getD j ""::Se ts XN c
 |_,_,[]=>[]
def ui:Expr->Str
 | .Name x _=>x
 |_=>""
noncomputable def CM:Expr->List Str
 | .Tuple es _ _=>es.map ui
 |e=>[ui e]
noncomputable def Dc:Nat->List (Option Nat)->List Nat
 |_,[]=>[]
 |k,none::c=>k::Dc (k+1) c
 |k,some _::c=>Dc (k+1) c
theorem LF:∀(c d:List (Option Nat)) (i:Nat),i ∈ Dc d.length c->(d++c)[i]? = some none
 | [],_,_,h=>nomatch h
 |none::c,d,i,h=>by
  have ih:=LF c (d++[none]) i;rw[zzJ,zxD]at ih
  rcases zzC.mp (h)with rfl|h
  . simp
  . exact ih h
 |some x::c,d,i,h=>by
  have ih:=LF c (d++[some x]) i;rw[zzJ,zxD]at ih;exact ih h
def B1:(Dc 0 cap).all (λi=>cap[i]? == some none)=true:=List.all_eq_true.mpr λi m=>by
 have:=LF cap [] i m;rw[List.nil_append]at this;rw[this];rfl
def pz{N:List Str}(h:decide N.Nodup=true):N.Nodup:=of_decide_eq_true h
section
variable{X:Cx}{kd:KD}{elt tg iter e:Expr}{es ifs:List Expr}{scope:Scope}{pos p:Pos}{cap:List (Option Nat)}{g:GF}{tt:TF}{fe:EF}{fi:IF}{S:List Nat}{fr:AF}{k n:Nat}
def cq(C:Co x X.prog X.w X.K X.mg X.base kd k f d ps gg)(hr:Room n X.A)(ha:AA X kd (e::es) fr)(hn:k<=n:=by omega)(hg:Gl X x:=by rfl)(hdb:(x==("__debug__":Str))=false:=by decide)(he:starEach (e::es) X.env=(false,eval e X.env)::starEach es X.env:=by rfl)(hpl:(backTo pos (starEach es X.env)).any (·.1)=false:=by rfl):
 AE X kd (.Call (.Name x p) (e::es) [] pos) (zt fr gg):=OQ C.F (hr.mono hn) hg C.m C.kp C.b Mi ha hdb he hpl
def pw(h1:AG X kd a [i] g)(h2:CP X kd es S gs)(hs:(assignEach (a::es) X.env).map (·.2)=assign a X.env::(assignEach es X.env).map (·.2):=by rfl):CP X kd (a::es) (i::S) (wI g gs):=ZQ h1 h2 hs
def De(X:Cx)(kd:KD)(tg:Expr)(g:GF):Prop:=∃S,AG X kd tg S g
def SN(X:Cx)(kd:KD)(es:List Expr)(gs:Cu):Prop:=∃S,CP X kd es S gs
def sQ(i:Nat)(hN:X.N.Nodup)(hi:X.N[i]? = some x:=by rfl)(hx:Loc X.env.scope x:=by first|exact Or.inl rfl|exact Or.inr rfl)(hf:X.fn x=true\/X.env.scope.names.lookup x=some .local:=by first|exact Or.inl rfl|exact Or.inr rfl):De X kd (.Name x pos) (gN i):=⟨_,Mq hN hi hx hf⟩
def rE(h:SN X kd es gs)(hc:X.calm=true:=by rfl)(hn:(assignEach es X.env).length=m:=by rfl)(hst:(assignEach es X.env).findIdx? (·.1)=none:=by rfl):De X kd (.Tuple es j pos) (gT m gs):=h.elim λ_ h=>⟨_,Lz hc h hn hst⟩
def sV(h1:De X kd a g)(h2:SN X kd es gs)(hs:(assignEach (a::es) X.env).map (·.2)=assign a X.env::(assignEach es X.env).map (·.2):=by rfl):SN X kd (a::es) (wI g gs):=h1.elim λ_ h1=>h2.elim λ_ h2=>⟨_,ZQ h1 h2 hs⟩
def sJ:SN X kd [] RP:=⟨_,Ge⟩
def ph(hi:AI X kd tg iter fi)(hg:De X kd tg g)(hb:TU X kd body f)(hp:PassesOwn (model X.prog X.w) X.A X.env X.xe:=by exact PassesOwn.never)(hc:X.calm=true:=by rfl)(hs:∀x,foldedSetIterable iter X.env x=pure x:=by exact λ_=>rfl):QK X kd (.For tg iter body [] pos) (yo fi g f):=hg.elim λ_ hg=>ZH hp hc hi hg hb hs
def sD(he:AE X kd e fe)(hg:De X kd tg g)(hs:swapsWithSole [tg] e pos.line X.env=pure false:=by rfl)(hw:swappedStores [tg] e X.env=pure none:=by rfl)(h1:(assignEach [tg] X.env).map (·.2)=[assign tg X.env]:=by rfl):QK X kd (.Assign [tg] e pos) (TH fe g):=hg.elim λ_ hg=>Bi he hg hs hw h1
theorem cm(hi:IC X kd tg iter fi)(hg:∀cl s H fp,AG (yJ X (Se (CM tg) X.N cap) scope cl s H fp) kd tg (Dc 0 cap) g)(ht:∀cl s H fp,Fp (yJ X (Se (CM tg) X.N cap) scope cl s H fp) ifs (OX X.K kd tt))(he:∀cl s H fp,AE (yJ X (Se (CM tg) X.N cap) scope cl s H fp) kd elt fe)
 (hc:X.calm=true:=by rfl) (hk:scope.kind = .function:=by rfl) (hcap:YJ (Se (CM tg) X.N cap) X.N scope.names X.env.scope.names cap=true:=by kernel_rfl) (hs:∀x,foldedSetIterable iter X.env x=pure x:=by exact λ_=>rfl):AE X kd (.ListComp elt [⟨tg,iter,ifs,0⟩] scope pos) (ya fi cap g tt fe):=UE hc hi hk hcap B1 hg ht he hs
theorem q_(hN:X.N.Nodup)(hi:IC X kd tg iter fi)(hg:∀cl s H fp,AG (yJ X (Se (CM tg) X.N cap) scope cl s H fp) kd tg (Dc 0 cap) g)(ht:∀cl s H fp,Fp (yJ X (Se (CM tg) X.N cap) scope cl s H fp) ifs (OX X.K kd tt))(he:∀cl s H fp,AE (yJ X (Se (CM tg) X.N cap) scope cl s H fp) kd elt fe)
 (hiy:X.N[i]? = some y:=by rfl) (hy:Loc X.env.scope y:=by first|exact Or.inl rfl|exact Or.inr rfl) (hf:X.fn y=true\/X.env.scope.names.lookup y=some .local:=by first|exact Or.inl rfl|exact Or.inr rfl) (hsw:swapsWith (.ListComp elt [⟨tg,iter,ifs,0⟩] scope pos) (some (.Name y py)) spos.line X.env=pure true:=by rfl)
 (hc:X.calm=true:=by rfl) (hk:scope.kind = .function:=by rfl) (hcap:YJ (Se (CM tg) X.N cap) X.N scope.names X.env.scope.names cap=true:=by kernel_rfl) (hs:∀x,foldedSetIterable iter X.env x=pure x:=by exact λ_=>rfl):QK X kd (.Assign [.Name y py] (.ListComp elt [⟨tg,iter,ifs,0⟩] scope pos) spos) (zo z i (ya fi cap g tt fe)):=Uz hN hiy hy hf hsw hc hi hk hcap B1 hg ht he hs
end
abbrev Az:List Value:=[.type "ValueError",.type "Exception",.type "BaseException",.type "object"]
structure XC(K:zzA)(C S f:Addr)(an:Str):Prop where
 cls:∃N nm q bs sn sub ab col dd k0 k1 k2 k3 k5,K.lookup C=some (excClassObj nm q C N bs (.ref S::Az) true sn sub ab col dd k0 k1 k2 k3 k5 "ValueError.__new__")
 tl:W.tailIn K Az (.ref S::Az)=true
 ini:W.findIn K (.ref C) "__init__"=some (some (.ref f))
 ity:W.typeIn K (.ref f)=some (.type "function")
 sat:W.findIn K (.ref C) "__setattr__"=some (some (.builtin "object.__setattr__"))
 att:W.findIn K (.ref C) an=some none
section
variable{prog:Program}{w:World}{A:Around}{E:Value->Shared->Prop}{h:Heap}{g:Array GenState}{d:Drawn}{t:Nat}{os:OsState}{K:zzA}{C S f:Addr}{an:Str}{rest:List Value}
noncomputable def G0(h:Heap)(C:Addr)(rest:List Value):Heap:=(h.push {cls:=.type "tuple",data:=.seq rest.toArray}).push {cls:=.ref C,data:=.fields #[.ref h.objs.size,.none,.none,.none,.bool false,.none]}
def VY:∀b o,h.get? b=some o->(G0 h C rest).get? b=some o:=λb o e=>zxI _ (zxI _ e)
def TL:(G0 h C rest).get? (h.objs.size+1)=some {cls:=.ref C,data:=.fields #[.ref h.objs.size,.none,.none,.none,.bool false,.none]}:=by unfold G0;heap_get
def LX(X:XC K C S f an)(hK:K.In h)(hrest:rest.length<=sizeLine)
 (hq:wpAny (model prog w) A (call (.ref f) (.ref (h.objs.size+1)::rest)) (λr s'=>r = .none/\Q (.done (.ret (.ref (h.objs.size+1)))) s') E ⟨G0 h C rest,g,d,t,os⟩):
 wpAny (model prog w) A (Builtin.«type.__call__» ⟨.ref C::rest,[]⟩) Q E ⟨h,g,d,t,os⟩:=by
 obtain⟨N,nm,q,bs,sn,sub,ab,col,dd,k0,k1,k2,k3,k5,lk⟩:=X.cls;have hC:=hK _ _ lk;have T:=W.tail_of_in hK X.tl;have F:=PySem.F.excBase_ValueError
 repeat (first|with_reducible refine wpAny_loadPart_at hC ?_|with_reducible refine wpAny_madeBy_exc hC ?_|wp_step)
 refine codeAny_call_builtin_code (Code.quiet_builtin _ F.quiet) (wpAny_check_new_subT F T hC ?_);refine codeAny_exc_new_subT F T hC ?_ hrest;have hC₁:=VY (C:=C) (rest:=rest) _ _ hC;have hget:=TL (h:=h) (C:=C) (rest:=rest);have hK1:K.In (G0 h C rest):=hK.keeps λb o e=>VY b o e;unfold G0 at hC₁ hget hK1;have hcC:(Value.ref C :: .ref S::Az).contains (.ref C)=true:=by simp
 unfold isInstance
 repeat (first|with_reducible refine wpAny_loadPart_at hget ?_|(with_reducible refine wpAny_isSubtype_exc hC₁ ?_;rw[hcC])|wp_step)
 refine(W.looks_findIn hK1 X.ini).here ?_;refine zxN (zxG ?_);unfold bindSpecial;refine zxG ((W.looks_typeIn hK1 X.ity).here ?_);rw[if_pos (by decide)];refine zxH (zxG (zxT hq (λr s' hr=>?_) λ_ _ x=>x));obtain⟨rfl,hQ⟩:=hr
 wp_walk
 exact hQ
def Do(X:XC K C S f an)(hK:K.In h)(hrest:rest.length<=sizeLine)
 (hq:wpAny (model prog w) (A.under (.builtin "type.__call__" ⟨.ref C::rest,[]⟩)) (call (.ref f) (.ref (h.objs.size+1)::rest)) (λr s'=>r = .none/\Q (.ref (h.objs.size+1)) s') E ⟨G0 h C rest,g,d,t,os⟩):
 wpAny (model prog w) A (call (.ref C) rest) Q E ⟨h,g,d,t,os⟩:=by
 obtain⟨N,nm,q,bs,sn,sub,ab,col,dd,k0,k1,k2,k3,k5,lk⟩:=X.cls;have hC:=hK _ _ lk;have f1:=tc_lookup;have f2:=tc_bind (.ref C);have hT:(⟨h,g,d,t,os⟩:Shared).TypeIs (.ref C) "type":=⟨_,hC,rfl⟩;refine wpAny_call (codeAny_of_tree ?_)
 repeat (any_goals (first|assumption|with_reducible refine wpAny_loadPart_at hC ?_|wp_step))
 refine⟨rfl, ?_⟩;refine codeAny_call_builtin_at (Code.quiet_builtin _ (by decide +kernel)) entry_typeCall (wpAny_check_type_call_sub hC (LX X hK hrest hq))
end
def XO(e C:Addr):Heap->Prop:=λh=>∃t,h.get? e=some {cls:=.ref C,data:=.fields #[.ref t,.none,.none,.none,.bool false,.none]}
def Sa(h:H a=some o):upd H a o=H:=by
 funext b
 by_cases e:b=a
 . subst e;rw[zA,h]
 . rw[zr e]
def CB:∀h1 h2:Heap,XO e C h1->(∀o,h1.get? e=some o->h2.get? e=some o)->XO e C h2:=λ_ _ ⟨t,q⟩ k=>⟨t,k _ q⟩
structure XS(K:zzA)(S:Addr):Prop where
 ga:W.specialIn K (.ref S) "__getattribute__"=some (some (.builtin "type.__getattribute__"))
 rd:W.readsIn K S (.type "type")=true
 fi:W.findCls K (.ref S) (.type "type") "__init__"=some (.val (.builtin "ValueError.__init__"))
section
variable{X:Cx}{pins:List (Addr×Obj)}{σ:St}{H:Hp}{s:Shared}{e C S f:Addr}{an:Str}{A:Around}{E:Value->Shared->Prop}
def Fd(Y:XC X.K C S f an)(I:Inv X pins σ H s)(he:H e=some (.ext (XO e C)))(hq:∀s',Inv X pins σ H s'->Q .none s'):
 wpAny (model X.prog X.w) A (call (.builtin "ValueError.__init__") [.ref e,u]) Q E s:=by
 obtain⟨N,nm,q,bs,sn,sub,ab,col,dd,k0,k1,k2,k3,k5,lk⟩:=Y.cls;have hC:=I.kIn _ _ lk;have T:=W.tail_of_in I.kIn Y.tl;have F:=PySem.F.excBase_ValueError;obtain⟨⟨t,hget⟩,_,_⟩:=I.hok e _ he;have hlt:=zxJ hget;obtain⟨h,g,d,tk,os⟩:=s;refine wpAny_call (codeAny_call_builtin F.init.plain F.initEntry (wpAny_check_init_subT F T hC hget rfl ?_))
 wp_walk
 refine hq _ ?_;have hg2:=zxI {cls:=.type "tuple",data:=.seq [u].toArray} hget;have W:=I.write (o:=.ext (XO e C)) (t':=tk) (h':=(h.push {cls:=.type "tuple",data:=.seq [u].toArray}).update e (Obj.mapFields (·.setIfInBounds 0 (.ref h.objs.size))))
  (by rw[he];exact True.intro) (.inl rfl) (λb o hb z=>(zxO _ _ (Ne.symm hb)).trans (zxI _ z)) ⟨_,zxS _ hg2 rfl⟩
  ⟨⟨_,zxS _ hg2 rfl⟩,⟨_,zxS _ hg2 rfl⟩,CB⟩
 rw[Sa he]at W;exact W
def B4(Y:XC X.K C S f an)(Z:XS X.K S)(hg:Gl X x)(hm:X.mg x=some (.ref S))(ha:PA X (a::es) t)
 (hst:starEach (a::es) X.env=(false,eval a X.env)::starEach es X.env) (hpl:(backTo pos (starEach es X.env)).any (·.1)=false) (hdb:(x==("__debug__":Str))=false)
 (ht:eval (.Call (.Attribute (.Name x p) "__init__" apos) (a::es) [] pos) X.env=(do
  let ov <-eval (.Name x p) X.env
  standAt apos.atName
  let(f,first) <-holding [ov] (getMethod ov "__init__" pl)
  callWith pos f first (backTo pos (starEach (a::es) X.env)) (backToKw pos (keywordEach [] X.env)))):
 PE X (.Call (.Attribute (.Name x p) "__init__" apos) (a::es) [] pos) (λσ H Q=>t σ H λvs H1=>∃e y,vs=[.ref e,.str y]/\H1 e=some (.ext (XO e C))/\Q .non H1):=by
 intro pins s σ H Q I h;refine W.methodCall_KW (Yl I hg hm ?_ hdb) ht;refine W.method_cls I.kIn Z.ga (W.cls_value I.kIn Z.rd Z.fi rfl ?_);have I1:=I.tok (s.toks+1);refine PyProof.Rows.callWith_builtin1 (thn (ha pos pins _ σ H _ I1 h) λus s1 ⟨vs,H1,I2,r,e,y,ev,he,q⟩=>?_) hst hpl;subst ev;cases r with
 |cons r1 r2=>
  cases r2 with
  |cons r2 r3=>
   cases r3;cases(r1);exact Fd Y I2 he λs' I'=>⟨.non,H1,I',rfl,q⟩
noncomputable def GY:D->Bool
 | .str x=>x.cps.toList.all (λc=>decide (c<16 ^ 8))&&decide (x.length<=100)
 | .int i=>decide (i.natAbs.log2<1920)
 |_=>false
noncomputable def ZO:D->Bool
 | .tup ds=>decide (ds.length<=10)&&ds.all GY
 |_=>false
theorem Mj:∀ds:List D,ds.all GY=true->∃ps,Tg ds=some ps/\PyData.showableAll ps=true/\PyData.hasDictAll ps=false/\PyData.depthAll ps=0/\(PyData.shownAll ps).length=ds.length/\((PyData.shownAll ps).map (·.length)).sum<=2000*ds.length
 | [],_=>⟨[],by unfold Tg;rfl,by simp[PyData.showableAll],by simp[PyData.hasDictAll],by simp[PyData.depthAll],by simp[PyData.shownAll],by simp[PyData.shownAll]⟩
 |d::r,h=>by
  rw[List.all_cons,zyC]at h;obtain⟨ps,h1,h2,h3,h4,h5,h6⟩:=Mj r h.2;have one:∃p,Pw d=some p/\p.showable=true/\p.hasDict=false/\p.depth=0/\p.shown.length<=2000:=by
   cases d with
   |str x=>
    have h:(x.cps.toList.all (λc=>decide (c<16 ^ 8))&&decide (x.length<=100))=true:=h.1;rw[zyC,List.all_eq_true,decide_eq_true_eq]at h;refine⟨.str x,by unfold Pw;rfl,by simp[PyData.showable],by simp[PyData.hasDict],by simp[PyData.depth], ?_⟩;have:=PySem.StrLaws.reprText_len x λc m=>of_decide_eq_true (h.1 c m);have:=h.2;simp only[PyData.shown];omega
   |int i=>
    have h:decide (i.natAbs.log2<1920)=true:=h.1;refine⟨.int i,by unfold Pw;rfl,by simpa[PyData.showable]using h,by simp[PyData.hasDict],by simp[PyData.depth], ?_⟩;have:=int_text_length_le (by decide) (of_decide_eq_true h);simp only[PyData.shown];rw[PySem.ofString_length];omega
   |_=>exact absurd h.1 (by simp[GY])
  obtain⟨p,q1,q2,q3,q4,q5⟩:=one;refine⟨p::ps,by unfold Tg;rw[q1,h1];rfl,by simp[PyData.showableAll,q2,h2],by simp[PyData.hasDictAll,q3,h3],by simp[PyData.depthAll,q4,h4],by simp[PyData.shownAll,h5], ?_⟩;simp only[PyData.shownAll,zyS,List.sum_cons,zzT];omega
def Hb(h:ZO d=true):∃ds p,d = .tup ds/\Pw d=some p/\p.showable=true/\p.hasDict=false/\p.depth<=60/\p.shown.length<=100000:=by
 cases d with
 |tup ds=>
  have h:(decide (ds.length<=10)&&ds.all GY)=true:=h;rw[zyC,decide_eq_true_eq]at h;obtain⟨ps,h1,h2,h3,h4,h5,h6⟩:=Mj ds h.2;refine⟨ds,.tuple ps,rfl,by unfold Pw;rw[h1];rfl,by simpa[PyData.showable]using h2,by simpa[PyData.hasDict]using h3,by simp[PyData.depth,h4], ?_⟩;have:=tupleText_len_le (PyData.shownAll ps);have:=h.1;simp only[PyData.shown];omega
 |_=>cases h
def On{x}{e}{j:Nat}{p p1 p2}{te}(he:PE X e te)(hx:x.length<=1000)(hg:X.A.guards=some [])(hu:X.A.units+100<cLine):
 PE X (.JoinedStr [.Constant (.str x) j p1,.FormattedValue e 114 none p2] p) (λσ H Q=>te σ H λv H1=>∃kd O d,Rp X.K kd O H1 v d/\ZO d=true/\∀y,Q (.str y) H1):=by
 intro pins s σ H Q I h;refine wpAny_JoinedStr ?_;refine thn (S_ pins s σ H (λv H'=>v = .str x/\H'=H) I ⟨rfl,rfl⟩) λu s1 ⟨v,H1,I1,r1,ev,eH⟩=>?_;subst ev;subst eH;obtain⟨tk,rfl⟩:=(r1);have hx0:(Str.empty++x).length<=1000:=by rw[strLen_append];show 0+x.length<=1000;omega
 refine⟨x,tk,rfl,zzO hx0 (by rw[sizeLine_eq];omega), ?_⟩;refine wpAny_FormattedValue_repr (thn (he pins s1 σ H1 _ I1 h) λu s2 ⟨v,H2,I2,r2,kd,O,d,rp,hd,q⟩=>?_);obtain⟨ds,pd,rfl,e1,e2,e3,e4,e5⟩:=Hb hd;obtain⟨as,rd⟩:=K0 I2 rp r2 e1;have hv:∃a,u=Value.ref a:=by
  cases rp with
  |tup _ _ _=>cases r2;exact⟨_,rfl⟩
 obtain⟨a,rfl⟩:=hv;refine pyReprObj_of_reads rd e2 (PyData.noDict_hsm e3) hg (by omega) (λ_ _ e=>e) (λh' u' tk' hk=>?_) (zzO e5 (by rw[sizeLine_eq];omega));have I3:Inv X pins σ H2 {s2 with heap:=h',toks:=tk'}:=I2.kept hk;have hz:((Str.empty++x)++pd.shown).length<=sizeLine:=by rw[strLen_append,sizeLine_eq];omega
 exact PyProof.Rows.formatField_str (λt' tk3=>⟨_,t',rfl,hz,hz,.str _,H2,(I3.tok _).tok _,⟨_,rfl⟩,q _⟩) (zzO e5 (by rw[sizeLine_eq];omega))
def XA(e C dx:Addr):Heap->Prop:=λh=>∃t,h.get? e=some {cls:=.ref C,dict:=some dx,data:=.fields #[.ref t,.none,.none,.none,.bool false,.none]}
def D9:∀h1 h2:Heap,XA e C dx h1->(∀o,h1.get? e=some o->h2.get? e=some o)->XA e C dx h2:=λ_ _ ⟨t,q⟩ k=>⟨t,k _ q⟩
def Fz(Y:XC X.K C S f an)(I:Inv X pins σ H s)(he:H e=some (.ext (XO e C)))(rv:RelV v u)
 (hq:∀dx s',H dx=none->dx≠e->Inv X pins σ (upd (upd H e (.ext (XA e C dx))) dx (.xd [(an,v)])) s'->Q () s'):
 wpAny (model X.prog X.w) A (setAttr (.ref e) an u) Q E s:=by
 obtain⟨N,nm,q,bs,sn,sub,ab,col,dd,k0,k1,k2,k3,k5,lk⟩:=Y.cls;obtain⟨⟨t,hget⟩,_,_⟩:=I.hok e _ he;have SF:=PySem.F.store_ValueError;obtain⟨h,g,d,tk,os⟩:=s;have hK:=I.kIn;dsimp only at hget hK;have J:PySem.W.InstAt h e {cls:=.ref C,data:=.fields #[.ref t,.none,.none,.none,.bool false,.none]} C none:=⟨hget,rfl,rfl,True.intro⟩;refine W.set_plain I.kIn J Y.sat ?_;have hc:W.clsIn X.K C=some {name:=nm,bases:=bs,mro:=.ref C :: .ref S::Az,ns:=N,qualname:=q,hasDict:=true,slotNames:=sn,subclasses:=sub,abstract:=ab,collection:=col,hasDel:=false}:=by
  unfold W.clsIn;rw[lk]
 have L0:=J.type (M:=model X.prog X.w);have sb:PySem.W.Looks (model X.prog X.w) h (isInstance (.ref e) (.type "object")) true:=L0.andThen (W.looks_mroIn hK (by unfold W.mroIn;rw[hc];rfl));refine codeAny_call_builtin SF.slot.plain SF.entry (@W.check_slot (model X.prog X.w) _ _ ⟨h,g,d,tk+1,os⟩ "object.__setattr__" "object" "__setattr__" (.ref e) [.str an tk,u] [] _ SF.kind SF.split sb (SF.args (.ref e) (.str an tk) u) ?_);have hm:PySem.W.Looks (model X.prog X.w) h (mroOf (.ref C)) (.ref C :: .ref S::Az):=(W.looks_clsIn hK hc).andThen .now;rw[W.osa_eq,refuse_eq];refine zxG (zxG (L0.at (zxG (hm.at ?_))));rw[refuseLoop_ref,refuseLoop_ref,SF.passes];refine zxH (zxG (L0.at (zxG ((W.looks_findIn hK Y.att).at (zxG (zxH ?_))))));have hxs:=zzQ (zxJ hget);have hx1:(h.push {cls:=.type "dict",data:=.dict #[]}).get? e=some _:=zxI _ hget;refine zxG (zxH (zxG (zxG (wpAny_loadPart hget (zxG ((W.looks_clsIn hK hc).at ?_))))));refine zxG (wpAny_alloc' ?_);refine zxG (wpAny_update' hx1 ?_);refine zxH ?_;have hgd:((h.push {cls:=.type "dict",data:=.dict #[]}).update e λo=>{cls:=o.cls,dict:=some h.objs.size,data:=o.data,slots:=o.slots}).get? h.objs.size=some {cls:=.type "dict",data:=.dict #[]}:=
  (Heap.get?_update_ne _ _ _ _ hxs.symm).trans (Heap.get?_push_at rfl rfl)
 have hnd:((h.push {cls:=.type "dict",data:=.dict #[]}).update e λo=>{cls:=o.cls,dict:=some h.objs.size,data:=o.data,slots:=o.slots}).Ns h.objs.size (λ_=>none):=
  ⟨_,#[],_,hgd,rfl,λe he=>absurd he (by simp),λ_=>rfl⟩
 unfold Builtin.ObjectAttr.storeInDict Builtin.ObjectAttr.newKeyGuard;refine zxG (zxH (zxG (wpAny_nsSet1 (Heap.Ns1.of_empty hnd) λh' hn' hs=>?_)));obtain⟨oD,esD,epD,hoD,hdD,hcD⟩:=hn'.count (Within.cons an u Within.nil);refine zxG (wpAny_lookBehind hoD (by rw[hdD];exact pastItsLine_dict (zzO hcD (by rw[zzT,List.length_nil,sizeLine_eq];omega))) ?_);refine zxH ?_;have Wr:=I.write (o:=.ext (XA e C h.objs.size)) (t':=tk) (h':=h.update e λo=>{cls:=o.cls,dict:=some h.objs.size,data:=o.data,slots:=o.slots})
  (by rw[he];exact True.intro) (.inl rfl) (λb o hb z=>(zxO _ _ (Ne.symm hb)).trans z) ⟨_,zxS _ hget rfl⟩
  ⟨⟨_,zxS _ hget rfl⟩,⟨_,zxS _ hget rfl⟩,D9⟩
 have hsz:(h.update e λo=>{cls:=o.cls,dict:=some h.objs.size,data:=o.data,slots:=o.slots}).objs.size=h.objs.size:=Heap.size_update _ _ _;have hfree:=I.hok.fresh (zzN _);refine hq h.objs.size _ hfree (Ne.symm hxs) ?_;refine Wr.laid (h':=h') (t':=_) (λb o z=>?_) (by dsimp only;rw[hsz];exact zzN _) ⟨_,hn',λy=>?_⟩
 . have hb:b≠h.objs.size:=by
    intro z';have:=zxJ z;dsimp only at this;rw[hsz,z']at this;exact absurd this (Nat.lt_irrefl _)
   refine(hs.2 b hb).trans ?_;dsimp only at z
   by_cases hbe:b=e
   . subst hbe;rw[zxS _ hget rfl]at z;rw[zxS _ hx1 rfl];exact z
   . rw[zxO _ _ (Ne.symm hbe)]at z;rw[zxO _ _ (Ne.symm hbe)];exact zxI _ z
 . by_cases hy:y=an
   . subst hy;simpa[List.lookup,WG]using rv
   . have:(y==an)=false:=by simpa using hy
     simp[List.lookup,this,hy,WG]
def Iq(Y:XC X.K C S f an)(ho:PE X o to)(hv:PE X value tv)(hs:swapsWith value (some (.Attribute o an pos')) pos.line X.env=pure false):
 PS X (.Assign [.Attribute o an pos'] value pos) (λD σ H=>tv σ H λv H1=>to σ H1 λx H2=>∃e,x = .ref e/\H2 e=some (.ext (XO e C))/\∀dx,H2 dx=none->dx≠e->D.nx σ (upd (upd H2 e (.ext (XA e C dx))) dx (.xd [(an,v)]))):=by
 intro pins s σ H D I h;refine plainObj_wpAny_Assign_Attribute (thn (hv pins s σ H _ I h) λu s1 ⟨v,H1,I1,rv,q⟩=>thn (ho pins s1 σ H1 _ I1 q) λov s2 ⟨x,H2,I2,rx,e,ex,he,q2⟩=>?_) hs;subst ex;cases(rx);exact Fz Y I2 he rv λdx s' hd hn I'=>⟨σ,_,I',q2 dx hd hn⟩
end
def DR(K:zzA)(C:Addr)(an:Str):Sp:=λvs H Q _=>∃e v,vs=[.ref e,v]/\H e=some (.ext (XO e C))/\(∃kd O d,Rp K kd O H v d/\ZO d=true)/\∀dx,H dx=none->dx≠e->Q .non (upd (upd H e (.ext (XA e C dx))) dx (.xd [(an,v)]))
def OD{K}{C}{an}:∀vs H Q E,DR K C an vs H Q E->vs.length=([("self":Str),an]:List Str).length:=λvs H Q E ⟨e,k,h,_⟩=>by rw[h];rfl
abbrev HX(an:Str)(H:Hp)(e C dx:Addr)(v:V):Hp:=upd (upd H e (.ext (XA e C dx))) dx (.xd [(an,v)])
def SD{K}{kd}{O}{H H'}{v}{d}(k:∀b u,H b=some u->H' b=some u)(h:Rp K kd O H v d):Rp K kd O H' v d:=
 (Rp.grow (W:=λ_=>False) (W':=λ_=>False) ⟨λb u z _=>k b u z,λ_ z=>z.elim⟩ (h.less λa z=>z.elim id λy=>y.elim)).less λa z=>.inl z
section
variable{X:Cx}{pins:List (Addr×Obj)}{σ:St}{H:Hp}{s:Shared}{e C S f:Addr}{an:Str}{n:Nat}{fd:FuncData}
def Dv(Y:XC X.K C S f an)(F:FnOk X.prog X.w X.K X.mg X.base U2 n f fd ["self",an] (DR X.K C an))(hr:Room (n+1) X.A)(hb:Binds X.K fd ["self",an] [])(I:Inv X pins σ H s){k}{u}(ru:RelV k u)(hk:∃kd O d,Rp X.K kd O H k d/\ZO d=true)
 {Q}{E}(hq:∀e dx s',H e=none->H dx=none->dx≠e->X.s₀.heap.objs.size<=e->s.heap.get? dx=none->Inv X pins σ (HX an H e C dx k) s'->Q (.ref e) s'):wpAny (model X.prog X.w) X.A (call (.ref C) [u]) Q E s:=by
 obtain⟨h,g,d,t,os⟩:=s;have hsz:=I.sz;refine Do Y I.kIn (by rw[sizeLine_eq];show 1<=16777216;decide) ?_;have I1:Inv X pins σ H ⟨h.push {cls:=.type "tuple",data:=.seq [u].toArray},g,d,t,os⟩:=I.kept (t':=t) λb o z=>zxI _ z;have I2:Inv X pins σ (upd H (h.objs.size+1) (.ext (XO (h.objs.size+1) C))) ⟨G0 h C [u],g,d,t,os⟩:=
  I1.laid (t':=t) (λb o z=>zxI _ z) (by rw[zxR];exact zzN _) ⟨⟨_,TL⟩,⟨_,TL⟩,CB⟩
 have hf:=I.hok.fresh (zyX _);have hk2:∃kd O d,Rp X.K kd O (upd H (h.objs.size+1) (.ext (XO (h.objs.size+1) C))) k d/\ZO d=true:=by
  obtain⟨kd,O,d,z1,z2⟩:=hk;exact⟨kd,O,d,SD (λb u z=>by rw[zr (zO z hf)];exact z) z1,z2⟩
 have r2:zK [V.ref (h.objs.size+1),k] [Value.ref (h.objs.size+1),u]:=.cons rfl (.cons ru .nil);have sp:DR X.K C an [V.ref (h.objs.size+1),k] (upd H (h.objs.size+1) (.ext (XO (h.objs.size+1) C))) (λv H2=>v = .non/\∃dx,H dx=none/\dx≠h.objs.size+1/\H2=HX an H (h.objs.size+1) C dx k) E0:=
  ⟨_,_,rfl,zA,hk2,λdx h1 h2=>⟨rfl,dx,by rw[zr h2]at h1;exact h1,h2,by unfold HX;rw[Of]⟩⟩
 refine wpAny_call (codeAny_mono (F.run _ X.stack _ _ ⟨_,[]⟩ [Value.ref (h.objs.size+1),u] _ _ E0 (hr.make C [u] []) (I2.env0.make C [u] []) (hb _ [Value.ref (h.objs.size+1),u] I2.kIn rfl) r2 sp) λr s' hq'=>?_);cases r with
 |error e=>exact False.elim hq'
 |ok fl=>
  cases fl with
  |ret u'=>
   obtain⟨v,H',I3,rv,ev,dx,h1,h2,e3⟩:=I2.after (Q:=λv H2=>v = .non/\∃dx,H dx=none/\dx≠h.objs.size+1/\h.get? dx=none/\H2=HX an H (h.objs.size+1) C dx k) (by
    obtain⟨v,H2,a1,a2,un,a3,a4,a5,dx,a6,a7,a8⟩:=hq';refine⟨v,H2,a1,a2,un,a3,a4,a5,dx,a6,a7, ?_,a8⟩;cases z:h.get? dx with
    |none=>rfl
    |some o=>
     have:=un.free dx o (VY dx o z) (by rw[zr a7];exact a6) (by simp);rw[a8]at this;unfold HX at this;rw[zA]at this;cases this)
   obtain⟨h3,e3⟩:=e3;subst ev;subst e3;exact⟨rv,hq _ dx s' hf h1 h2 (zzO hsz (zyX _)) h3 I3⟩
  |next=>exact False.elim hq'
  |brk=>exact False.elim hq'
  |cont=>exact False.elim hq'
def BW(Y:XC X.K C S f an)(kp:W.keepIn X.K (.ref C)=true)(F:FnOk X.prog X.w X.K X.mg X.base U2 n f fd ["self",an] (DR X.K C an))(hr:Room (n+1) X.A)(hb:Binds X.K fd ["self",an] [])
 (hg:Gl X x) (hm:X.mg x=some (.ref C)) (ha:PE X a te) (hdb:(x==("__debug__":Str))=false) (he:starEach [a] X.env=(false,eval a X.env)::starEach [] X.env) (hex:X.ex=[]):
 PS X (.Raise (some (.Call (.Name x np) [a] [] cpos)) none pos) (λD σ H=>te σ H λk H1=>(∃kd O d,Rp X.K kd O H1 k d/\ZO d=true)/\
  ∀pins s' e dx,H1 e=none->H1 dx=none->dx≠e->X.s₀.heap.objs.size<=e->X.s₀.heap.get? dx=none->Inv X pins σ (HX an H1 e C dx k) s'->X.xe (.ref e) s'):=by
 intro pins s σ H D I h;rw[arm_exec_Raise];obtain⟨N,nm,q,bs,sn,sub,ab,col,dd,k0,k1,k2,k3,k5,lk⟩:=Y.cls;have hcB:(Value.ref C :: .ref S::Az).contains (.type "BaseException")=true:=by simp
 have fin:∀x s,wpAny (model X.prog X.w) X.A x (λv s'=>∃e dx k H1,v = .ref e/\dx≠e/\Inv X pins σ (HX an H1 e C dx k) s'/\X.xe (.ref e) s') X.xe s->
  wpAny (model X.prog X.w) X.A (raiseStmt X.env (some x) none) (SP X pins D) X.xe s:=λx s hx=>by
  unfold raiseStmt;refine zxG (zxT hx (λv s' h1=>?_) λ_ _ z=>z);obtain⟨e,dx,k,H1,rfl,hne,I',hx⟩:=h1;have he:HX an H1 e C dx k e=some (.ext (XA e C dx)):=by unfold HX;rw[zr (Ne.symm hne),zA]
  obtain⟨⟨t,hget⟩,_,_⟩:=I'.hok e _ he;have hC:=I'.kIn _ _ lk;have hh:=hr.hd;obtain⟨hp,g,d,tk,os⟩:=s'
  repeat (first|with_reducible refine wpAny_loadPart_at hget ?_|with_reducible refine wpAny_loadPart_at hC ?_|(with_reducible refine wpAny_isSubtype_exc hC ?_;rw[hcB])|wp_step)
  exact wpAny_raiseNew_none hh hx
 have main:wpAny (model X.prog X.w) X.A (eval (.Call (.Name x np) [a] [] cpos) X.env) (λv s'=>∃e dx k H1,v = .ref e/\dx≠e/\Inv X pins σ (HX an H1 e C dx k) s'/\X.xe (.ref e) s') X.xe s:=by
  refine wpAny_Call_Name_kw (Yl I hg hm ?_ hdb);refine W.callWith_K I.ok.mod.kin kp (thn ((xg ha ZG he) cpos pins s σ H (λvs H1=>match vs with
   | [k]=>(∃kd O d,Rp X.K kd O H1 k d/\ZO d=true)/\∀pins s' e dx,H1 e=none->H1 dx=none->dx≠e->X.s₀.heap.objs.size<=e->X.s₀.heap.get? dx=none->Inv X pins σ (HX an H1 e C dx k) s'->X.xe (.ref e) s'
   |_=>False) I h) λus s1 ⟨vs,H1,I1,r,z⟩=>⟨I1.kIn, ?_⟩) he rfl
  cases r with
  |nil=>exact z.elim
  |cons r1 r2=>
   cases r2 with
   |nil=>
    obtain⟨hk,q⟩:=z;exact Dv Y F hr hb I1 r1 hk λe dx s' h1 h2 h3 h4 h5 I'=>⟨e,dx,_,H1,rfl,h3,I',q pins s' e dx h1 h2 h3 h4 (by
     cases z:X.s₀.heap.get? dx with
     |none=>rfl
     | some o=>
            obtain⟨o',z'⟩:=I1.base.there dx o z (by rw[hex];simp);rw[h5]at z';cases z') I'⟩
   |cons _ _=>exact z.elim
 first
  |exact zxG (wpAny_standAt (fin _ _ (zxG (thn main λv s₁ h₁=>zxG (wpAny_standAt (zxH h₁))))))
  |(simp only[evalOpt,Option.map];exact zxG (wpAny_standAt (fin _ _ (zxG (thn main λv s₁ h₁=>zxG (wpAny_standAt (zxH h₁)))))))
end
structure Mv(fs ch:List Addr)(h h':Heap):Prop where
 keep:∀b o,b ∉ fs->b ∉ ch->h.get? b=some o->h'.get? b=some o
 slot:∀b o,b ∈ fs->b ∉ ch->h.get? b=some o->∃sl,h'.get? b=some {o with slots:=sl}
structure Fly(h:Heap)(e C dx T:Addr):Prop where
 ob:∃oe vs,h.get? e=some oe/\oe.cls = .ref C/\oe.dict=some dx/\oe.data = .fields vs/\vs[1]? = some (.ref T)
 tb:∃oT ts,h.get? T=some oT/\oT.data = .fields ts/\ts[3]? = some .none
 ne:T≠e
section
variable{M:Model}{A:Around}{E:Value->Shared->Prop}{s:Shared}{base:Heap}{env:Env}{outer:List Env}{L e C dx T:Addr}
def SZ(hfr:A.frames=some (env::outer))(hl:s.heap.FunFrames base (env::outer))(hf:env.frame=some L)
 (he:s.heap.get? e=some oe) (hd:oe.data = .fields vs) (hsz:1<vs.size) (hc:oe.cls = .ref C) (hdx:oe.dict=some dx)
 (h:∀h' T,s.heap.objs.size<=T->Mv (VX (env::outer)) [e] s.heap h'->Fly h' e C dx T->Q () {s with heap:=h'}):
 wpAny M A (do let a <-frameOf env;let pl <-entryPlaceOf L hn;let b <-EntryCells.newEntry head a .none (rawInt L) .none pl;setField (.ref e) 1 b) (λ_ s'=>wpAny M A (setFlight (.ref e) none) Q E s') E s:=by
 have hene:e ∉ (env::outer).filterMap (·.frame):=λhm=>by
  obtain⟨_,o,ho,hnf⟩:=hl.mem hm;rw[he]at ho;injection ho with ho;subst ho;exact hnf vs hd
 refine zxG (wpAny_frameOf_fun hfr hl hf λh1 hs1=>?_);refine zxG (wpAny_entryPlaceOf λpl hpl=>?_);unfold EntryCells.newEntry newFields;refine zxG (zxL ?_ (hpl.sizeOk5 _ _ _ _ _));generalize hob:({cls:=.type "traceback",dict:=none,data:=.fields ([head,.ref L,.none,rawInt L,.none]++(if pl.isEmpty then List.replicate 6 Value.none else pl)).toArray}:Obj)=ob;have hobd:ob.data = .fields ([head,.ref L,.none,rawInt L,.none]++(if pl.isEmpty then List.replicate 6 Value.none else pl)).toArray:=by rw[<-hob]
 have he1:=(hs1.2.1 e hene).trans he;have he2:=zxI ob he1;refine wpAny_setField he2 hd hsz ?_;have hTe:=Nat.ne_of_gt (zxJ he1);have hd3:=Obj.data_mapFields hd (·.setIfInBounds 1 (Value.ref h1.objs.size));have he3:=zxS (Obj.mapFields (·.setIfInBounds 1 (Value.ref h1.objs.size))) he2 (Obj.isFreed_of_fields hd3);have hT3:=(zxO (h1.push ob) (Obj.mapFields (·.setIfInBounds 1 (Value.ref h1.objs.size))) (Ne.symm hTe)).trans (zxK h1 (Obj.isFreed_of_fields hobd));unfold setFlight;refine zxG (wpAny_field he3 hd3 (x:=.ref h1.objs.size) (by simp[hsz]) ?_);rw[if_pos (by simp)];refine wpAny_setField hT3 hobd (by simp only[zzH,zzJ,zzT,List.length_nil]<;>omega) (h _ h1.objs.size (by rw[hs1.1];exact zzN _) ⟨λb o hb1 hb2 hb=>?_,λb o hb1 hb2 hb=>?_⟩ ?_)
 . have hbe:b≠e:=λz=>hb2 (by rw[z];exact zzR.mpr rfl);have hb':h1.get? b=some o:=(hs1.2.1 b hb1).trans hb;rw[zxO _ _ (Nat.ne_of_gt (zxJ hb')),zxO _ _ (Ne.symm hbe)];exact zxI _ hb'
 . have hbe:b≠e:=λz=>hb2 (by rw[z];exact zzR.mpr rfl);obtain⟨sl,hb'⟩:=hs1.2.2 b o hb;refine⟨sl, ?_⟩;rw[zxO _ _ (Nat.ne_of_gt (zxJ hb')),zxO _ _ (Ne.symm hbe)];exact zxI _ hb'
 . refine⟨⟨_,_, ?_, ?_, ?_,hd3,by simp[hsz]⟩,⟨_,_,zxS _ hT3 (Obj.isFreed_of_fields (Obj.data_mapFields hobd _)),Obj.data_mapFields hobd _,by first|(simp;done)|(rcases hpl with rfl|⟨_,_,_,_,_,_,_,rfl⟩<;>simp)⟩,hTe⟩
   . rw[zxO _ _ hTe];exact he3
   . rw[Obj.cls_mapFields];exact hc
   . obtain⟨c0,d0,dt,sl⟩:=oe;dsimp only at hd hdx;subst hd;exact hdx
def JD(hfr:A.frames=some (env::outer))(hl:s.heap.FunFrames base (env::outer))(hf:env.frame=some L)
 (he:s.heap.get? e=some oe) (hd:oe.data = .fields vs) (h1:vs[1]? = some .none) (hc:oe.cls = .ref C) (hdx:oe.dict=some dx)
 (h:∀h' T,s.heap.objs.size<=T->Mv (VX (env::outer)) [e] s.heap h'->Fly h' e C dx T->Q () {s with heap:=h'}):wpAny M A (leaving env (.ref e)) Q E s:=by
 unfold leaving noteFrame;simp only[hf];refine zxG (zxG (wpAny_field he hd h1 ?_));rw[if_neg (by decide)];exact SZ hfr hl hf he hd (Array.getElem?_eq_some_iff.mp h1).1 hc hdx h
def SV(hfr:A.frames=some (env::outer))(hl:s.heap.FunFrames base (env::outer))(hf:env.frame=some L)(F:Fly s.heap e C dx T)
 (h:∀h' T',s.heap.objs.size<=T'->Mv (VX (env::outer)) [e,T] s.heap h'->Fly h' e C dx T'->Q () {s with heap:=h'}):
 wpAny M A (noteFrame (.ref e) env) (λ_ s'=>wpAny M A (setFlight (.ref e) none) Q E s') E s:=by
 obtain⟨⟨oe,vs,he,hc,hdx,hd,h1⟩,⟨oT,ts,hT,hdT,h3⟩,hTe⟩:=F;unfold noteFrame;simp only[hf];refine zxG (wpAny_field he hd h1 ?_);rw[if_pos (by simp)];refine zxG (wpAny_field hT hdT h3 ?_);rw[if_neg (by simp[rawInt])];refine zxG (wpAny_setField hT hdT (Array.getElem?_eq_some_iff.mp h3).1 ?_);have other:∀b,b≠T->(s.heap.update T (Obj.mapFields (·.setIfInBounds 3 Value.none))).get? b=s.heap.get? b:=λb hb=>zxO _ _ (Ne.symm hb);have noRec:∀b o,s.heap.get? b=some o->(∀vs,o.data ≠ .fields vs)->b≠T:=λb o hb hnf q=>by
  rw[q,hT]at hb;injection hb with hb;subst hb;exact hnf ts hdT
 refine SZ hfr (hl.of_keeps λb o hb hnf=>⟨o,(other b (noRec b o hb hnf)).trans hb,rfl⟩) hf ((other e (Ne.symm hTe)).trans he) hd (Array.getElem?_eq_some_iff.mp h1).1 hc hdx λh' T' hz m F=>h h' T' ?_ ⟨λb o h1 h2 h3=>?_,λb o h1 h2 h3=>?_⟩ F
 . dsimp only at hz;rw[Heap.size_update]at hz;exact hz
 . exact m.keep b o h1 (λz=>h2 (by rw[zzR.mp z];exact zzF)) ((other b λz=>h2 (by rw[z];simp)).trans h3)
 . exact m.slot b o h1 (λz=>h2 (by rw[zzR.mp z];exact zzF)) ((other b λz=>h2 (by rw[z];simp)).trans h3)
def land(F:Fly s.heap e C dx T)(h:∀h',Mv [] [T] s.heap h'->Fly h' e C dx T->s.heap.objs.size=h'.objs.size->Q () {s with heap:=h'}):wpAny M A (setFlight (.ref e) none) Q E s:=by
 obtain⟨⟨oe,vs,he,hc,hdx,hd,h1⟩,⟨oT,ts,hT,hdT,h3⟩,hTe⟩:=F;refine wpAny_setFlight_none he hd h1 hT hdT (Array.getElem?_eq_some_iff.mp h3).1 (h _ ⟨λb o _ hb z=>?_,λb o hb=>nomatch hb⟩ ⟨⟨oe,vs, ?_,hc,hdx,hd,h1⟩,⟨_,_,zxS _ hT (Obj.isFreed_of_fields (Obj.data_mapFields hdT _)),Obj.data_mapFields hdT _, ?_⟩,hTe⟩ (Heap.size_update _ _ _).symm)
 . rw[zxO _ _ λq=>hb (by rw[q];simp)];exact z
 . rw[zxO _ _ hTe];exact he
 . have:=(Array.getElem?_eq_some_iff.mp h3).1;simp[this]
end
def FW(m:Mv fs ch h h')(hok:Wj P w H h)(hfs:∀b ∈ fs,H b=none)(hch:∀b ∈ ch,H b=none):Un fs ch H H h h'/\Wj P w H h':=by
 refine⟨⟨λb o e _ h1 h2=>m.keep b o h1 h2 e,λb o e _ h1 h2=>m.slot b o h1 h2 e,λb o e n _=>n,λb o e h2=>?_,λ_ _ q=>q,λ_ _ _ q=>q,λb ps q=>⟨#[],by rw[q,Array.append_empty]⟩⟩,λa o e=>?_⟩
 . by_cases hb:b ∈ fs
   . obtain⟨sl,z⟩:=m.slot b o hb h2 e;exact⟨_,z⟩
   . exact⟨o,m.keep b o hb h2 e⟩
 . refine(hok a o e).stay (λb u hb z=>m.keep b u (λq=>?_) (λq=>?_) z) (λ_ q=>q) λ_ _ q=>q
   . have:=hfs b q
     rcases hb with rfl|hb
     . rw[e]at this;cases this
     . rw[hb]at this;cases this
   . have:=hch b q
     rcases hb with rfl|hb
     . rw[e]at this;cases this
     . rw[hb]at this;cases this
noncomputable def cv:V->Value
 | .non=>.none
 | .bl b=>.bool b
 | .int i=>.int i 0
 | .str x=>.str x 0
 | .byt b=>.bytes b 0
 | .flt b=>.float b 0
 | .ref a=>.ref a
 | .ty n=>.type n
def GX(P:Program)(w:World)(C:Addr)(an:Str):OB:=λouter H s E v s'=>∃e dx T k H',v = .ref e/\s'.os=s.os/\AllBare s'.gens/\Un (VX outer) [] H H' s.heap s'.heap/\Wj P w H' s'.heap/\Fly s'.heap e C dx T/\
 s.heap.objs.size<=e/\s.heap.objs.size<=T/\s.heap.get? dx=none/\H' e=none/\H' T=none/\H' dx=none/\dx≠e/\dx≠T/\(∃mA,s'.heap.Ns1 dx mA/\∀f,WG (([(an,k)]:List (Str×V)).lookup f) (mA f))/\E (cv k) none H'
section
variable{P:Program}{w:World}{K:zzA}{mg:Str->Option Value}{base:Heap}{N:List Str}{qual:Str}{scope:Scope}{f:Addr}{cd:Value}{A:Around}{outer:List Env}{s:Shared}{H:Hp}{E:XK}{C:Addr}{an:Str}
def Bk(h1:H1 e=none)(h2:H1 dx=none)(hne:dx≠e)
 (hs:s.heap.objs.size<=e) (hsd:s.heap.get? dx=none) (I:Inv (Zc (GX P w C an) P w K mg base N qual scope f cd A outer s H E) pins σ (HX an H1 e C dx k) s') (hE:E (cv k) none H1):
 (Zc (GX P w C an) P w K mg base N qual scope f cd A outer s H E).xe (.ref e) s':=by
 have he:HX an H1 e C dx k e=some (.ext (XA e C dx)):=by unfold HX;rw[zr (Ne.symm hne),zA]
 have hd:HX an H1 e C dx k dx=some (.xd [(an,k)]):=by unfold HX;rw[zA]
 have ho:∀b,b≠e->b≠dx->HX an H1 e C dx k b=H1 b:=λb hb hb'=>by unfold HX;rw[zr hb',zr hb]
 have ho':∀b u,HX an H1 e C dx k b=some u->(∀φ,u ≠ .ext φ)->(∀fs,u ≠ .xd fs)->H1 b=some u:=λb u z n1 n2=>by
  rw[<-ho b (λq=>by rw[q,he]at z;cases z;exact n1 _ rfl) λq=>by rw[q,hd]at z;cases z;exact n2 _ rfl];exact z
 obtain⟨⟨t,hget⟩,_,_⟩:=I.hok e _ he;obtain⟨mA,hNs,hrel⟩:=I.hok dx _ hd;have frE:=I.stkFree;refine JD I.ok.frames I.stack rfl hget rfl rfl rfl rfl λh' T hT m F=>?_;have hTn:=I.hok.fresh hT;have hTe:=F.ne;have hTd:dx≠T:=λq=>by rw[<-q,hd]at hTn;cases hTn
 have small:∀b o,s.heap.get? b=some o->b≠e:=λb o z q=>by have:=zxJ z;rw[q]at this;exact absurd this (Nat.not_lt.mpr hs)
 have smalld:∀b o,s.heap.get? b=some o->b≠dx:=λb o z q=>by rw[q,hsd]at z;cases z
 have nloc:∀b o,s.heap.get? b=some o->b ∉ VX outer->b ∉ VX (envOfC qual scope s.heap.objs.size f cd::outer):=λb o z hb q=>by
  rcases zzC.mp (q)with q|q
  . have:=zxJ z;rw[q]at this;exact absurd this (Nat.lt_irrefl _)
  . exact hb q
 have n1:∀b,b≠e->b ∉ [e]:=λb hb q=>hb (zzR.mp q);have ndx:dx ∉ VX (envOfC qual scope s.heap.objs.size f cd::outer):=λq=>by have:=frE dx q;rw[hd]at this;cases this
 have hNs':h'.Ns1 dx mA:=by
  obtain⟨o,es,ep,z,r⟩:=hNs;exact⟨o,es,ep,m.keep dx o ndx (n1 dx hne) z,r⟩
 refine⟨e,dx,T,k,H1,rfl,I.os,I.bare,⟨λb o z n hb hx=>?_,λb o z n hb hx=>?_,λb o z n hx=>?_,λb o z hx=>?_,λb xs z=>?_,λb o u z=>?_,λb ps z=>?_⟩,λa o z=>?_,F,hs,zzO I.sz hT,hsd,h1,by rw[<-ho T hTe (Ne.symm hTd)];exact hTn,h2,hne,hTd,⟨mA,hNs',hrel⟩,hE⟩
 . exact m.keep b o (nloc b o z hb) (n1 b (small b o z)) (I.base.keep b o z n hb hx)
 . obtain⟨sl,q⟩:=I.base.slot b o z n hb hx;obtain⟨sl',q'⟩:=m.slot b _ (zzD _ hb) (n1 b (small b o z)) q;exact⟨sl',q'⟩
 . rw[<-ho b (small b o z) (smalld b o z)];exact I.base.free b o z n hx
 . obtain⟨o',q⟩:=I.base.there b o z hx
   by_cases hb:b ∈ VX (envOfC qual scope s.heap.objs.size f cd::outer)
   . obtain⟨sl,q'⟩:=m.slot b _ hb (n1 b (small b o z)) q;exact⟨_,q'⟩
   . exact⟨o',m.keep b o' hb (n1 b (small b o z)) q⟩
 . exact ho' b _ (I.base.tups b xs z) (λ_ q=>nomatch q) λ_ q=>nomatch q
 . exact ho' b _ (I.base.frzs b o u z) (λ_ q=>nomatch q) λ_ q=>nomatch q
 . obtain⟨more,q⟩:=I.base.tbls b ps z;exact⟨more,ho' b _ q (λ_ q=>nomatch q) λ_ q=>nomatch q⟩
 . have hae:a≠e:=λr=>by rw[r,h1]at z;cases z
   have had:a≠dx:=λr=>by rw[r,h2]at z;cases z
   have q:=I.hok a o (by rw[ho a hae had];exact z);refine q.stay (λb u hb r=>m.keep b u (λy=>?_) (n1 b λy=>?_) r) (λb r=>ho' b _ r (λ_ q=>nomatch q) λ_ q=>nomatch q) λb xs r=>ho' b _ r (λ_ q=>nomatch q) λ_ q=>nomatch q
   . have:=frE b y
     rcases hb with rfl|hb
     . rw[ho b hae had,z]at this;cases this
     . rw[hb]at this;cases this
   . rcases hb with hb|hb
     . exact hae (hb ▸ y)
     . rw[y,he]at hb;cases hb
end
noncomputable def Hs:Out->Option AS
 | .nx as=>some as
 |_=>none
def Nd(h:Hs o=some as):o = .nx as:=by cases o<;>cases h;rfl
noncomputable def slD(as:AS)(i:Nat):Option D:=match as[i]? with
 |some (some (.lf true d))=>some d
 |_=>none
def Ag(h:slD as i=some d):as[i]? = some (some (.lf true d)):=by
 unfold slD at h;cases e:as[i]? with
 |none=>rw[e]at h;cases h
 |some x=>
  rw[e]at h;cases x with
  |none=>cases h
  |some o=>
   cases o with
   |nd _ _=>cases h
   |lf st d=>
    cases st with
    |true=>cases h;rfl
    |false=>cases h
theorem Rel.slD{K}{kd}{F B}{T}{ad}{as}{σ}{H}{i:Nat}{d}(R:Rel K kd F B T ad as σ H)(h:PF.slD as i=some d):∃v,σ[i]? = some (some v)/\Rp K kd (Lv F B (Gw T ad) true) H v d:=by
 obtain⟨v,hv,ro⟩:=R.sl i _ (Ag h);generalize ad i=fp at ro;cases ro with
 |lf r=>exact⟨v,hv,r⟩
noncomputable def gX(n m i:Nat)(c1:SF)(tc:TF)(ds:List (Bool×D)):Option D:=
 if ds.length=m then(c1 (yk n ds)).bind λo1=>(Hs o1).bind λas1=>(tc as1).bind λp=>if p.1=true then(slD p.2 i).bind λd=>if ZO d=true then some d else none else none else none
def IH(K:zzA)(kd:KD)(g:List (Bool×D)->Option D):Sp:=λvs H _ E=>∃F ds d,(∀a,F a->H a≠none)/\RpA K kd F H vs ds/\g ds=some d/\∀v H',(∀b u,H b=some u->H' b=some u)->Rp K kd F H' v d->E (cv v) none H'
def CT:∀a,¬Gw [] (λ_=>[]) a:=λa z=>z.elim (λy=>nomatch y) λ⟨_,y⟩=>nomatch y
section
variable{P:Program}{w:World}{K:zzA}{mg:Str->Option Value}{base:Heap}
def DS{kd}{x qual an}{st}{f C}{fd}{N ps}{k i:Nat}{c1}{tc}{a1 rs}{c}{rest}{pos}(Fn:Fun K x qual st f fd)(S:FnScope N ps (zd st))
 (hB:wu st=a1 :: .If c [rs] [] pos::rest)
 (hb:∀(cdv:Value) (A:Around) (outer:List Env) (s:Shared) (H:Hp) (E:XK),Room k (A.deeper (envOfC qual (zd st) s.heap.objs.size f cdv))->
  QK (Zc (GX P w C an) P w K mg base N qual (zd st) f cdv A outer s H E) kd a1 c1/\AT (Zc (GX P w C an) P w K mg base N qual (zd st) f cdv A outer s H E) kd c tc/\
  PS (Zc (GX P w C an) P w K mg base N qual (zd st) f cdv A outer s H E) rs (λD σ H'=>ZS i σ H' λk H1=>(∃kd O d,Rp K kd O H1 k d/\ZO d=true)/\
   ∀pins s' e dx,H1 e=none->H1 dx=none->dx≠e->s.heap.objs.size<=e->s.heap.get? dx=none->Inv (Zc (GX P w C an) P w K mg base N qual (zd st) f cdv A outer s H E) pins σ (HX an H1 e C dx k) s'->(Zc (GX P w C an) P w K mg base N qual (zd st) f cdv A outer s H E).xe (.ref e) s')):
 FnOk P w K mg base (GX P w C an) (k+1) f fd ps (IH K kd (gX N.length ps.length i c1 tc)):=by
 with_unfolding_all (
 obtain⟨oc,od,kV,doc,pm,an',cdv,ct,osl,rfl,lk,hcd⟩:=Fn.ex;refine Sf lk hcd S (λvs H Q E h=>?_) λA outer s H vs Q E hr hsp=>?_
 . obtain⟨F,ds,r,_,rp,e,_⟩:=h;unfold gX at e
   by_cases hl:ds.length=ps.length
   . rw[rp.length,hl]
   . rw[if_neg hl]at e;cases e
 . obtain⟨F,ds,r,ht,rp,e,q⟩:=hsp;unfold gX at e
   by_cases hl:ds.length=ps.length
   . rw[if_pos hl]at e;obtain⟨o1,e1,e⟩:=bS_ e;obtain⟨as1,y1,e⟩:=bS_ e;obtain⟨⟨p,as3⟩,e3,e⟩:=bS_ e;obtain⟨hp,e⟩:=ite_some' e;obtain⟨k',e4,e⟩:=bS_ e;obtain⟨hk,e⟩:=zx e;subst e;cases Nd y1;dsimp only at hp e4;subst hp;obtain⟨h1,h3,h4⟩:=hb cdv A outer s H E hr;have h5:Tb (Zc (GX P w C an) P w K mg base N qual (zd st) f cdv A outer s H E) rest (λ_ _ _=>False):=λ_ _ _ _ _ _ z=>z.elim;rw[hB];refine⟨_,ZZ h1 (ZZ (MO h3 (Uu h4) Uv) h5), ?_⟩;refine⟨F,λ_=>False,λ_=>[],yk N.length ds,_,XT ht rp,e1,λσ1 ad1 H1 R1 g1=>?_⟩;refine⟨F,λ_=>False,ad1,as1,true,as3,R1,e3,λad3 H3 R3 g3=>?_⟩;obtain⟨v,hv,rv⟩:=R3.slD e4;refine⟨v,hv,⟨kd,_,k',rv,hk⟩,λpins s' e dx z1 z2 z3 z4 z5 I=>?_⟩;refine Bk z1 z2 z3 z4 z5 I (q v _ (λb u hb=>?_) (rv.less λa z=>.inl (.inl ⟨rfl,z⟩)));exact(g1.trans g3).keep b u hb (CT b)
   . rw[if_neg hl]at e;cases e)
end
section
variable{X:Cx}{pins:List (Addr×Obj)}{σ:St}{H:Hp}{s:Shared}{M:Model}{A:Around}{E:Value->Shared->Prop}
def ES(I:Inv X pins σ H s)(hN:X.N.Nodup)(hj:X.N[j]? = some n)(hk:X.env.kindOf n=some .local)(h:∀s',Inv X pins (σ.set j none) H s'->Q () s'):
 wpAny M A (do bindName X.env n .none;unbindBehindTheSuite X.env n pos) Q E s:=by
 obtain⟨m,hn,hl⟩:=id I.loc;have hcls:(X.env.scope.kind == .class||(X.env.scope.kind == .module&&X.env.locals != X.env.globals))=false:=by rw[I.ok.kind];rfl
 have cne:=I.cne;refine wpAny_nameGoes_keeps hk hn hcls λh' v hn' hs=>?_;obtain⟨oL,_,_,hoL,_⟩:=id hn;have tracked:=λb ob e=>by
  refine(I.hok b ob e).stay (λc w' hc q=>(hs.2 c ?_).trans q) (λ_ q=>q) λ_ _ q=>q
  rintro rfl
  rcases hc with z|hc
  . rw[<-z,I.free]at e;cases e
  . rw[I.free]at hc;cases hc
 have nl:∀b o,X.s₀.heap.get? b=some o->b≠X.env.locals:=λb o e=>zzQ (zzK (zxJ e) I.ok.above);refine h _ ⟨I.ok,I.os,I.bare,⟨λb o e n hb hx=>(hs.2 b (nl b o e)).trans (I.base.keep b o e n hb hx),λb o e n hb hx=>?_,I.base.free,λb o e hx=>?_,I.base.tups,I.base.frzs,I.base.tbls⟩,⟨_,hn',λi y v' e1 e2 e3=>?_⟩,λy c e=>?_,I.free,I.freeC,λp hp=>?_,tracked,by simpa using I.len⟩
 . obtain⟨sl,e1⟩:=I.base.slot b o e n hb hx;exact⟨sl,(hs.2 b (nl b o e)).trans e1⟩
 . obtain⟨o',e1⟩:=I.base.there b o e hx;exact⟨o',(hs.2 b (nl b o e)).trans e1⟩
 . by_cases hij:i=j
   . subst hij;rw[List.getElem?_set]at e2;simp at e2
   . rw[zzY (Ne.symm hij)]at e2;obtain⟨u',r',q⟩:=hl i y v' e1 e2 e3;refine⟨u',r', ?_⟩
     rcases q with⟨k,e⟩|⟨k,c,e,z⟩
     . refine .inl ⟨k, ?_⟩;have:y≠n:=λe=>hij (U0 hN e1 (e ▸ hj));simp[this,e]
     . exact .inr ⟨k,c,e,z.sameBut hs (cne y c e)⟩
 . obtain⟨w',z⟩:=I.cell y c e;exact⟨w',z.sameBut hs (cne y c e)⟩
 . obtain⟨e,n,ne,nf,d⟩:=I.pin p hp;exact⟨(hs.2 p.1 ne).trans e,n,ne,nf,d⟩
abbrev uQ(X:Cx)(e:Addr)(pl:List (Addr×Obj)):Cx:={X with A:=X.A.mark (some (.ref e)),calm:=false,pn:=pl++X.pn}
def DU(o:X.Ok):(uQ X e pl).Ok:=⟨o.mod,o.kind,o.glob,o.blt,o.above,o.inj,o.has,o.cab,(λz=>nomatch z),o.frames,o.stk,o.exf,o.bs,o.bsz,o.noex,o.exfs,o.funs,o.frf⟩
def BK(I:Inv X pins σ H s)(h:∀p ∈ pl,s.heap.get? p.1=some p.2/\H p.1=none/\p.1≠X.env.locals/\p.1 ∉ X.fs/\∀v,p.2.data ≠ .cell v):Inv (uQ X e pl) pins σ H s:=
 ⟨DU I.ok,I.os,I.bare,I.base,I.loc,I.cell,I.free,I.freeC,λp hp=>by
  rw[zxD]at hp
  rcases zzM.mp hp with z|z
  . exact h p z
  . exact I.pin p z,I.hok,I.len⟩
def HH(o:X.Ok)(I:Inv (uQ X e pl) pins σ H s):Inv X pins σ H s:=
 ⟨o,I.os,I.bare,I.base,I.loc,I.cell,I.free,I.freeC,λp hp=>I.pin p (by rw[zxD];exact zzL _ hp),I.hok,I.len⟩
end
def CK(X:Cx)(pins:List (Addr×Obj))(b:Addr):Prop:=(b ∈ X.ex\/X.s₀.heap.objs.size<=b)/\b≠X.env.locals/\(∀x c,X.env.cells.lookup x=some c->c≠b)/\∀p ∈ X.pn++pins,p.1≠b
structure Thr(X:Cx)(C:Addr)(an:Str)(pins:List (Addr×Obj))(σ:St)(e dx T:Addr)(v:V)(H:Hp)(s:Shared):Prop where
 inv:Inv X pins σ H s
 fly:Fly s.heap e C dx T
 fe:CK X pins e
 fT:CK X pins T
 se:X.s₀.heap.objs.size<=e
 sT:X.s₀.heap.objs.size<=T
 l:dx≠X.env.locals
 cl:∀x c,X.env.cells.lookup x=some c->c≠dx
 fr:dx ∉ VX X.stack
 fre:e ∉ VX X.stack
 pd:∀p ∈ X.pn++pins,p.1≠dx
 s0:X.s₀.heap.get? dx=none
 ne:H e=none
 nT:H T=none
 nd:H dx=none
 d1:dx≠e
 d2:dx≠T
 ns:∃mA,s.heap.Ns1 dx mA/\∀f,WG (([(an,v)]:List (Str×V)).lookup f) (mA f)
section
variable{X:Cx}{pins:List (Addr×Obj)}{σ:St}{H:Hp}{s s':Shared}{C:Addr}{an:Str}{E:XK}{v:Value}
def JF(hex:X.ex=[])(I:Inv X pins σ H s)(h:GX X.prog X.w C an X.stack H s E v s'):∃e dx T k H',v = .ref e/\Thr X C an pins σ e dx T k H' s'/\E (cv k) none H':=by
 obtain⟨e,dx,T,k,H',rfl,hos,hb,un,hok,fly,l1,l2,l3,n1,n2,n3,n4,n5,ns,hE⟩:=h;have out1:∀b,s.heap.objs.size<=b->CK X pins b:=λb hb=>by
  refine⟨.inr (zzO I.sz hb),λz=>absurd (zzK I.lt hb) (by rw[z];exact Nat.lt_irrefl _),λy c z w=>?_,λp hp w=>?_⟩
  . obtain⟨v,o,z',_⟩:=I.cell y c z;exact absurd (zzK (zxJ z') hb) (by rw[w];exact Nat.lt_irrefl _)
  . exact absurd (zzK (zxJ (I.pin p hp).1) hb) (by rw[w];exact Nat.lt_irrefl _)
 have frx:∀b ∈ VX X.stack,∃o,s.heap.get? b=some o:=λb hb=>by
  obtain⟨_,o,z,_⟩:=I.stack.mem hb;exact⟨o,z⟩
 refine⟨e,dx,T,k,H',rfl,⟨I.call' hos un hok hb (λb z=>nomatch z),fly,out1 e l1,out1 T l2,zzO I.sz l1,zzO I.sz l2, ?_, ?_, ?_, ?_, ?_, ?_,n1,n2,n3,n4,n5,ns⟩,hE⟩
 . intro z;obtain⟨m,⟨o,_,_,z',_⟩,_⟩:=I.loc;rw[<-z,l3]at z';cases z'
 . intro y c z w;obtain⟨v,o,z',_⟩:=I.cell y c z;rw[w,l3]at z';cases z'
 . intro z;obtain⟨o,z'⟩:=frx dx z;rw[l3]at z';cases z'
 . intro z;obtain⟨o,z'⟩:=frx e z;exact absurd (zzK (zxJ z') l1) (Nat.lt_irrefl _)
 . intro p hp z;have z':=(I.pin p hp).1;rw[z,l3]at z';cases z'
 . cases z:X.s₀.heap.get? dx with
   |none=>rfl
   |some o=>
    obtain⟨o',z'⟩:=I.base.there dx o z (by rw[hex];simp);rw[l3]at z';cases z'
end
section
variable{P:Program}{w:World}{K:zzA}{mg:Str->Option Value}{base:Heap}{N:List Str}{qual:Str}{scope:Scope}{f:Addr}{cd:Value}{A:Around}{outer:List Env}{s:Shared}{H:Hp}{E:XK}{C:Addr}{an:Str}
def EJ(t:Thr (Zc (GX P w C an) P w K mg base N qual scope f cd A outer s H E) C an pins σ e dx T k H1 s')(hE:E (cv k) none H1):
 (Zc (GX P w C an) P w K mg base N qual scope f cd A outer s H E).xe (.ref e) s':=by
 have I:=t.inv;show wpAny _ _ _ _ _ _;unfold leaving;refine zxG (SV I.ok.frames I.stack rfl t.fly λh' T' hT m F=>?_);have frE:=I.stkFree;have hch:∀b ∈ [e,T],H1 b=none/\s.heap.objs.size<=b:=λb hb=>by
  rcases zzC.mp hb with rfl|hb
  . exact⟨t.ne,t.se⟩
  . rw[zzR.mp hb];exact⟨t.nT,t.sT⟩
 obtain⟨un2,hok2⟩:=FW m I.hok frE λb hb=>(hch b hb).1;have old:∀b o,s.heap.get? b=some o->b ∉ [e,T]:=λb o z q=>absurd (zzK (zxJ z) (hch b q).2) (Nat.lt_irrefl _);have nloc:∀b o,s.heap.get? b=some o->b ∉ VX outer->b ∉ VX (envOfC qual scope s.heap.objs.size f cd::outer):=λb o z hb q=>by
  rcases zzC.mp (q)with q|q
  . have:=zxJ z;rw[q]at this;exact absurd this (Nat.lt_irrefl _)
  . exact hb q
 have hT':H1 T'=none:=I.hok.fresh hT;obtain⟨mA,hNs,hrel⟩:=t.ns;have hNs':h'.Ns1 dx mA:=by
  obtain⟨o,es,ep,z,r⟩:=hNs;exact⟨o,es,ep,m.keep dx o t.fr (λq=>by
   rcases zzC.mp q with q|q
   . exact t.d1 q
   . exact t.d2 (zzR.mp q)) z,r⟩
 have hdT:dx≠T':=λq=>by
  obtain⟨o,es,ep,z,r⟩:=hNs;exact absurd (zzK (zxJ z) hT) (by rw[q];exact Nat.lt_irrefl _)
 have bs:=I.base;refine⟨e,dx,T',k,H1,rfl,I.os,I.bare,⟨λb o z n hb hx=>?_,λb o z n hb hx=>?_,bs.free,λb o z hx=>?_,bs.tups,bs.frzs,bs.tbls⟩,hok2,F,t.se,zzO I.sz hT,t.s0,t.ne,hT',t.nd,t.d1,hdT,⟨mA,hNs',hrel⟩,hE⟩
 . exact m.keep b o (nloc b o z hb) (old b o z) (bs.keep b o z n hb hx)
 . obtain⟨sl,q⟩:=bs.slot b o z n hb hx;obtain⟨sl',q'⟩:=m.slot b _ (zzD _ hb) (old b o z) q;exact⟨sl',q'⟩
 . obtain⟨o',q⟩:=bs.there b o z hx
   by_cases hb:b ∈ VX (envOfC qual scope s.heap.objs.size f cd::outer)
   . obtain⟨sl,q'⟩:=m.slot b _ hb (old b o z) q;exact⟨_,q'⟩
   . exact⟨o',m.keep b o' hb (old b o z) q⟩
end
abbrev Lj:=AS->Option (D×AS)
def sH(X:Cx)(kd:KD)(C:Addr)(an:Str)(g:Lj):St->Hp->Prop:=λσ H=>∃F B ad as d as',Rel X.K kd F B [] ad as σ H/\g as=some (d,as')/\
 ∀pins σ' ad' e dx T v H' s',Thr X C an pins σ' e dx T v H' s'->Rel X.K kd F B [] ad' as' σ' H'->Grow (Gw [] ad) H (Gw [] ad') H'->Rp X.K kd (Lv F B (Gw [] ad') true) H' v d->X.xe (.ref e) s'
@[irreducible] def sL(X:Cx)(kd:KD)(C:Addr)(an:Str)(e:Expr)(g:Lj):Prop:=PE X e λσ H _=>sH X kd C an g σ H
@[irreducible] def AX(X:Cx)(kd:KD)(C:Addr)(an:Str)(st:Stmt)(g:Lj):Prop:=PS X st λ_ σ H=>sH X kd C an g σ H
@[irreducible] def DZ(X:Cx)(kd:KD)(C:Addr)(an:Str)(st:List Stmt)(g:Lj):Prop:=Tb X st λ_ σ H=>sH X kd C an g σ H
def IM(h:cv v=cv w):v=w:=by cases v<;>cases w<;>cases h<;>rfl
def qN(K:zzA)(kd:KD)(O:Addr->Prop)(H:Hp)(d:D):XK:=λu _ H'=>∃v,u=cv v/\(∀b u,H b=some u->H' b=some u)/\Rp K kd O H' v d
noncomputable def gC(fr:AF)(g:List (Bool×D)->Option D):Lj:=λas=>(fr as).bind λp=>(w_ p.2 p.1).bind λx=>(g x).bind λd=>some (d,p.2)
noncomputable def Dj(c:TF)(f g:Lj):Lj:=λas=>(c as).bind λp=>if p.1=true then f p.2 else g p.2
section
variable{X:Cx}{kd:KD}{f C C0:Addr}{an c0:Str}{fd:FuncData}{ps:List Str}{g:List (Bool×D)->Option D}{n i:Nat}{x y:Str}{p cp pos pos':Pos}{a c e:Expr}{es:List Expr}{fr:AF}{st:Stmt}{sts rest:List Stmt}{ta:TF}{gf gg:Lj}
def Vq(F:FnOk X.prog X.w X.K X.mg X.base (GX X.prog X.w C an) n f fd ps (IH X.K kd g))(hr:Room n X.A)(hg:Gl X x)(hm:X.mg x=some (.ref f))(hk:W.keepIn X.K (.ref f)=true)(hb:Binds X.K fd ps [])(hex:X.ex=[])(ha:AA X kd (a::es) fr)
 (hdb:(x==("__debug__":Str))=false) (he:starEach (a::es) X.env=(false,eval a X.env)::starEach es X.env) (hpl:(backTo cp (starEach es X.env)).any (·.1)=false):
 sL X kd C an (.Call (.Name x p) (a::es) [] cp) (gC fr g):=by
 with_unfolding_all (
 intro pins s σ H Q I h;obtain⟨F0,B0,ad,as,d,as',R,e,q⟩:=h;obtain⟨⟨rs,as1⟩,h1,e⟩:=bS_ (e);obtain⟨ds,h2,e⟩:=bS_ e;obtain⟨d',h3,e⟩:=bS_ e;cases e;refine wpAny_Call_Name_kw (Yl I hg hm ?_ hdb);refine W.callWith_K I.ok.mod.kin hk (zxT (ha cp pins s σ H (λvs H1=>∃ad1,Rel X.K kd F0 B0 [] ad1 as1 σ H1/\RVs X.K kd F0 B0 ad1 σ H1 vs rs/\Grow (Gw [] ad) H (Gw [] ad1) H1) I ⟨F0,B0,ad,as,rs,as1,R,h1,λvs ad1 H1 R1 rv1 g1=>⟨ad1,R1,rv1,g1⟩⟩) (λus s1 z=>?_) λ_ _ z=>z) he hpl;obtain⟨vs,H1,I1,r,ad1,R1,rv1,g1⟩:=z;refine⟨I1.kIn, ?_⟩;have sp:IH X.K kd g vs H1 (λ_ _=>False) (qN X.K kd (Lv F0 B0 (Gw [] ad1) true) H1 d):=⟨_,ds,d,R1.trk true,Tn R1 rv1 h2,h3,λv H' k r=>⟨v,rfl,k,r⟩⟩;have hl:us.length=ps.length:=by rw[<-r.length];exact F.len _ _ _ _ sp
 have r2:=r;refine wpAny_call (codeAny_mono (F.run X.A X.stack s1 H1 ⟨us,[]⟩ us vs _ _ hr I1.env0 (by have z:=hb s1 us I1.kIn (by rw[zyE];exact hl);rw[zyE]at z;exact z) r2 sp) λr s' hq'=>?_);cases r with
 |ok fl=>
  cases fl with
  |ret u=>obtain⟨_,_,_,_,_,_,_,z⟩:=hq';exact z.elim
  |next=>exact False.elim hq'
  |brk=>exact False.elim hq'
  |cont=>exact False.elim hq'
 |error v=>
  obtain⟨ea,dx,T,k,H2,rfl,t,w,ek,kp,rp⟩:=JF hex I1 (hq');cases IM ek;obtain⟨R2,g2⟩:=R1.more kp;exact q pins σ ad1 ea dx T k H2 s' t R2 (g1.trans g2) rp)
def GQ(he:sL X kd C an e gf)(hs:swapsWith e none pos.line X.env=pure false):AX X kd C an (.Expr e pos) gf:=by
 with_unfolding_all exact(yE (Xv he hs) λD σ H h=>h)
def I_(hN:X.N.Nodup)(hi:X.N[i]? = some y)(hx:Loc X.env.scope y)(he:sL X kd C an e gf)(hs:swapsWith e (some (.Name y pos')) pos.line X.env=pure false)(hf:X.fn y=true\/X.env.scope.names.lookup y=some .local):
 AX X kd C an (.Assign [.Name y pos'] e pos) gf:=by
 with_unfolding_all exact(yE (NS hN hi hx he hs hf) λD σ H h=>h)
def Xh(h:AX X kd C an st gf):DZ X kd C an (st::rest) gf:=by
 with_unfolding_all exact(XJ (ZZ h (show Tb X rest (λ_ _ _=>False)from λ_ _ _ _ _ _ z=>z.elim)) λD σ H h=>h)
def DW(hc:AT X kd c ta)(ha:DZ X kd C an sts gf)(hb:DZ X kd C an rest gg):AX X kd C an (.If c sts rest pos) (Dj ta gf gg):=by
 with_unfolding_all exact(yE (MO hc ha hb) λD σ H h=>by
  obtain⟨F,B,ad,as,d,as',R,e,q⟩:=h;obtain⟨⟨p,as1⟩,h1,e⟩:=bS_ (e);refine⟨F,B,ad,as,p,as1,R,h1,λad' H' R' g=>?_⟩;cases p with
  |true=>exact⟨F,B,ad',as1,d,as',R',e,λpins σ2 ad2 ea dx T v H2 s2 t R2 g2 rp=>q pins σ2 ad2 ea dx T v H2 s2 t R2 (g.trans g2) rp⟩
  |false=>exact⟨F,B,ad',as1,d,as',R',e,λpins σ2 ad2 ea dx T v H2 s2 t R2 g2 rp=>q pins σ2 ad2 ea dx T v H2 s2 t R2 (g.trans g2) rp⟩)
end
noncomputable def gY(n m:Nat)(g:Lj)(ds:List (Bool×D)):Option D:=if ds.length=m then(g (yk n ds)).bind λp=>some p.1 else none
section
variable{P:Program}{w:World}{K:zzA}{mg:Str->Option Value}{base:Heap}{kd:KD}{x qual an:Str}{st:Stmt}{f C:Addr}{fd:FuncData}{N ps:List Str}{k:Nat}{g:Lj}
def CV(Fn:Fun K x qual st f fd)(S:FnScope N ps (zd st))
 (hb:∀(cdv:Value) (A:Around) (outer:List Env) (s:Shared) (H:Hp) (E:XK),Room k (A.deeper (envOfC qual (zd st) s.heap.objs.size f cdv))->DZ (Zc (GX P w C an) P w K mg base N qual (zd st) f cdv A outer s H E) kd C an (wu st) g):
 FnOk P w K mg base (GX P w C an) (k+1) f fd ps (IH K kd (gY N.length ps.length g)):=by
 with_unfolding_all (
 obtain⟨oc,od,kV,doc,pm,an',cdv,ct,osl,rfl,lk,hcd⟩:=Fn.ex;refine Sf lk hcd S (λvs H Q E h=>?_) λA outer s H vs Q E hr hsp=>⟨_,hb cdv A outer s H E hr, ?_⟩
 . obtain⟨F,ds,r,_,rp,e,_⟩:=h;obtain⟨hl,_⟩:=ite_some' (e);rw[rp.length,hl]
 . obtain⟨F,ds,r,ht,rp,e,q⟩:=hsp;obtain⟨hl,e⟩:=ite_some' (e);obtain⟨⟨d,as'⟩,e1,e⟩:=bS_ e;cases e;refine⟨F,λ_=>False,λ_=>[],yk N.length ds,_,as',XT ht rp,e1,λpins σ' ad' ea dx T v H' s' t R' g' rv=>EJ t (q v H' (λb u hb=>g'.keep b u hb (CT b)) (rv.less λa z=>.inl (.inl ⟨rfl,z⟩)))⟩)
end
section
variable{K:zzA}{kd:KD}{F B:Addr->Prop}{ad:Ad}{as:AS}{σ:St}{H:Hp}
def Rel.unset(j:Nat)(R:Rel K kd F B [] ad as σ H):Rel K kd F B [] (yb ad j []) (as.set j none) (σ.set j none) H/\∀a,Gw [] (yb ad j []) a->Gw [] ad a:=by
 have le:∀a,Gw [] (yb ad j []) a->Gw [] ad a:=λa z=>vz a z;refine⟨⟨by rw[zzU,zzU];exact R.len,λi hi=>?_,λi=>?_,λi k a h1 h2=>?_,zyJ,(λ_ _ _ z=>nomatch z),R.ftr,λa h1=>?_,λa h1=>R.gtr a (le a h1),λi s e=>?_⟩,le⟩
 . by_cases e:i=j
   . subst e;exact zl
   . rw[zp e];exact R.out i (by rw[zzU]at hi;exact hi)
 . by_cases e:i=j
   . subst e;rw[zl];exact zyJ
   . rw[zp e];exact R.nd i
 . by_cases e:i=j
   . subst e;rw[zl]at h1;cases h1
   . rw[zp e]at h1
     by_cases e':k=j
     . subst e';rw[zl]at h2;cases h2
     . rw[zp e']at h2;exact R.inj i k a h1 h2
 . obtain⟨b1,b2,b3⟩:=R.btr a h1;exact⟨b1,b2,λz=>b3 (le a z)⟩
 . by_cases q:i=j
   . subst q;rw[zl];have:s=none:=by
      rw[List.getElem?_set]at e;rw[if_pos rfl]at e
      split at e
      . exact(zzZ e).symm
      . cases e
     subst this;exact rfl
   . rw[zzY (Ne.symm q)]at e;rw[zp q,zzY (Ne.symm q)];exact(R.sl i s e).less le
end
section
variable{X:Cx}{pins:List (Addr×Obj)}{σ:St}{H:Hp}{s:Shared}
def D3:∀h1 h2:Heap,XB e C dx h1->(∀o,h1.get? e=some o->h2.get? e=some o)->XB e C dx h2:=λ_ _ ⟨o,q,r⟩ k=>⟨o,k _ q,r⟩
def E4{e dx C}{an}{v}(I:Inv X pins σ H s)(he:H e=none)(hd:H dx=none)(hne:dx≠e)(fe:CK X pins e)(se:X.s₀.heap.objs.size<=e)(l:dx≠X.env.locals)(cl:∀x c,X.env.cells.lookup x=some c->c≠dx)(pd:∀p ∈ X.pn++pins,p.1≠dx)(s0:X.s₀.heap.get? dx=none)
 (xb:XB e C dx s.heap) (ns:∃mA,s.heap.Ns1 dx mA/\∀f,WG (([(an,v)]:List (Str×V)).lookup f) (mA f)):Inv X pins σ (upd (upd H e (.ext (XB e C dx))) dx (.xd [(an,v)])) s:=by
 have k:∀b,b≠e->b≠dx->upd (upd H e (.ext (XB e C dx))) dx (.xd [(an,v)]) b=H b:=λb h1 h2=>by rw[zr h2,zr h1]
 have kn:∀b u,H b=some u->upd (upd H e (.ext (XB e C dx))) dx (.xd [(an,v)]) b=some u:=λb u z=>by rw[k b (zO z he) (zO z hd)];exact z
 refine⟨I.ok,I.os,I.bare,⟨I.base.keep,I.base.slot,λb o z n hx=>?_,I.base.there,λb xs z=>kn b _ (I.base.tups b xs z),λb o u z=>kn b _ (I.base.frzs b o u z),λb ps z=>?_⟩,I.loc,I.cell, ?_,λx c z=>?_,λp hp=>?_,λa o z=>?_,I.len⟩
 . rw[k b (λq=>absurd (zzK (zxJ z) se) (by rw[q];exact Nat.lt_irrefl _)) (λq=>by rw[q,s0]at z;cases z)];exact I.base.free b o z n hx
 . obtain⟨more,z'⟩:=I.base.tbls b ps z;exact⟨more,kn b _ z'⟩
 . rw[k _ (Ne.symm fe.2.1) (Ne.symm l)];exact I.free
 . rw[k c (fe.2.2.1 x c z) (cl x c z)];exact I.freeC x c z
 . obtain⟨p1,p2,p3,p4,p5⟩:=I.pin p hp;exact⟨p1,by rw[k _ (fe.2.2.2 p hp) (pd p hp)];exact p2,p3,p4,p5⟩
 . by_cases q1:a=dx
   . subst q1;rw[zA]at z;cases z;exact ns
   . by_cases q2:a=e
     . subst q2;rw[zr q1,zA]at z;cases z;obtain⟨o,z1,z2⟩:=xb;exact⟨⟨o,z1,z2⟩,⟨o,z1⟩,D3⟩
     . rw[k a q2 q1]at z;exact(I.hok a o z).stay (λb u _ y=>y) (λb y=>kn b _ y) λb xs y=>kn b _ y
def HR(E)(I:Inv X pins σ H s):Inv {X with xe:=E,pn:=X.pn++pins} [] σ H s:=
 ⟨⟨I.ok.mod,I.ok.kind,I.ok.glob,I.ok.blt,I.ok.above,I.ok.inj,I.ok.has,I.ok.cab,I.ok.hd,I.ok.frames,I.ok.stk,I.ok.exf,I.ok.bs,I.ok.bsz,I.ok.noex,I.ok.exfs,I.ok.funs,I.ok.frf⟩,I.os,I.bare,I.base,I.loc,I.cell,I.free,I.freeC,λp hp=>I.pin p (by rw[zyE]at hp;exact hp),I.hok,I.len⟩
def ET(I:Inv {X with xe:=E,pn:=X.pn++pins} pins' σ H s):Inv X pins σ H s:=
 ⟨⟨I.ok.mod,I.ok.kind,I.ok.glob,I.ok.blt,I.ok.above,I.ok.inj,I.ok.has,I.ok.cab,I.ok.hd,I.ok.frames,I.ok.stk,I.ok.exf,I.ok.bs,I.ok.bsz,I.ok.noex,I.ok.exfs,I.ok.funs,I.ok.frf⟩,I.os,I.bare,I.base,I.loc,I.cell,I.free,I.freeC,λp hp=>I.pin p (zzP _ hp),I.hok,I.len⟩
def Kk(z:CK {X with xe:=E,pn:=X.pn++pins} pins' b):CK X pins b:=⟨z.1,z.2.1,z.2.2.1,λp hp=>z.2.2.2 p (zzP _ hp)⟩
end
noncomputable def Nl(j:Nat)(cn an:Str)(cb:SF)(gb:Lj)(c:SF):SF:=λas=>match(cb as).bind Hs with
 |some as'=>some (.nx as')
 |none=>(gb as).bind λp=>if j<p.2.length then(c (p.2.set j (some (.lf true (.er cn an p.1))))).bind λo=>(Hs o).bind λas2=>some (.nx (as2.set j none))else none
section
variable{X:Cx}{kd:KD}{C S:Addr}{cn an sx en:Str}{j:Nat}{sp pos hp:Pos}{b0:Stmt}{body suite:List Stmt}{cb c:SF}{gb:Lj}
def Am(hC:kd.c cn=C)(hb1:TU X kd body cb)(hb2:∀E pn,DZ {X with xe:=E,pn:=pn} kd C an body gb)
 (hgS:Gl X sx) (hmS:X.mg sx=some (.ref S)) (hdS:(sx==("__debug__":Str))=false) (hex:W.exmOne X.K (.ref C) (.ref S)=some true)
 (hnx:∀v s,¬X.xe v s) (hst:X.stack=X.env::X.outer) (hfm:X.env.frame=some X.env.locals)
 (hN:X.N.Nodup) (hj:X.N[j]? = some en) (hjl:X.env.kindOf en=some .local) (hff:X.fn en=true\/X.env.scope.names.lookup en=some .local)
 (hs:∀e,TU (uQ X e []) kd (b0::suite) c):
 QK X kd (.Try body [.ExceptHandler (some (.Name sx sp)) (some en) (b0::suite) hp] [] [] pos) (Nl j cn an cb gb c):=by
 subst hC
 with_unfolding_all (
 intro pins s σ H D I h;obtain⟨F0,B0,ad,as,o,R,e,q⟩:=h;have e:(match(cb as).bind Hs with
  |some as'=>some (.nx as')
  |none=>(gb as).bind λp=>if j<p.2.length then(c (p.2.set j (some (.lf true (.er cn an p.1))))).bind λo=>(Hs o).bind λas2=>some (.nx (as2.set j none))else none)=some o:=e
 cases k:(cb as).bind Hs with
 |some as'=>
  rw[k]at e;cases e;obtain⟨o1,h1,h2⟩:=bS_ k;cases Nd h2;refine wpAny_Try_except (zxT (hb1 pins s σ H {nx:=λσ' H'=>∃ad',Rel X.K kd F0 B0 [] ad' as' σ' H'/\Grow (Gw [] ad) H (Gw [] ad') H',rt:=λ_ _=>False} I ⟨F0,B0,ad,as,_,R,h1,λσ' ad' H' R' g'=>⟨ad',R',g'⟩⟩) (λfl s1 z=>?_) λ_ _ z=>(hnx _ _ z).elim);cases fl with
  |ret u=>obtain⟨_,_,_,_,_,z⟩:=z;exact z.elim
  |brk=>obtain⟨_,_,_,z⟩:=z;exact z.elim
  |cont=>obtain⟨_,_,_,z⟩:=z;exact z.elim
  |next=>
   obtain⟨σ1,H1,I1,ad1,R1,g1⟩:=z;exact Uv pins s1 σ1 H1 D I1 (q σ1 ad1 H1 R1 g1)
 |none=>
  rw[k]at e;obtain⟨⟨d,as1⟩,h1,e⟩:=bS_ (e);obtain⟨hlt,e⟩:=ite_some' e;obtain⟨o1,h4,e⟩:=bS_ e;obtain⟨as2,h5,e⟩:=bS_ e;cases e;cases Nd h5;dsimp only at hlt h4;refine wpAny_Try_except (zxT (hb2 _ (X.pn++pins) [] s σ H {nx:=λ_ _=>False,rt:=λ_ _=>False} (HR _ I) ⟨F0,B0,ad,as,d,as1,R,h1, ?_⟩) (λfl s1 z=>?_) λ_ _ z=>z)
  . intro pins' σ' ad' ea dx T v H' s' t R' g' rp;have I2:=ET t.inv;have fe:=Kk t.fe;have fT:=Kk t.fT;have hfs:∀b ∈ VX (X.env::X.outer),H' b=none:=by rw[<-hst];exact I2.stkFree
    refine SV (by rw[<-hst];exact I2.ok.frames) (by rw[<-hst];exact I2.stack) hfm t.fly λh' T' hT' m fly'=>?_;have hch:∀b ∈ [ea,T],H' b=none/\CK X pins b:=λb hb=>by
     rcases zzC.mp hb with rfl|hb
     . exact⟨t.ne,fe⟩
     . rw[zzR.mp hb];exact⟨t.nT,fT⟩
    obtain⟨un2,hok2⟩:=FW m I2.hok hfs λb hb=>(hch b hb).1;have I3:=I2.call' (s':={s' with heap:=h'}) rfl (by rw[hst];exact un2) hok2 I2.bare λb hb=>(hch b hb).2;have hT2:=I2.hok.fresh hT';have fT':CK X pins T':=by
     refine⟨.inr (zzO I2.sz hT'),λz=>absurd (zzK I2.lt hT') (by rw[z];exact Nat.lt_irrefl _),λy c z w=>?_,λp hp w=>?_⟩
     . obtain⟨v,o,z',_⟩:=I2.cell y c z;exact absurd (zzK (zxJ z') hT') (by rw[w];exact Nat.lt_irrefl _)
     . exact absurd (zzK (zxJ (I2.pin p hp).1) hT') (by rw[w];exact Nat.lt_irrefl _)
    refine wpAny_handleBy_cons (codeAny_handlers_test ?_) (by intro q;cases q);refine Yl (X:=uQ X ea []) (BK I3 (λp z=>nomatch z)) hgS hmS ?_ hdS;have LT:PySem.W.Looks (model X.prog X.w) h' (typeOf (.ref ea)) (.ref (kd.c cn)):=by
     obtain⟨⟨oe,vs,z,zc,_⟩,_⟩:=fly';exact(PySem.W.Looks.ld z).andThen (by rw[zc];exact .now)
    refine(W.exm_one I3.kIn LT hex).here ?_;refine codeAny_handlers_suite_as ?_;refine land fly' λh2 m2 fly2 hsz=>?_;obtain⟨un3,hok3⟩:=FW m2 I3.hok (λb z=>nomatch z) (λb z=>by rw[zzR.mp z];exact hT2);have I4:=I3.call' (s':={s' with heap:=h2}) rfl (un3.mono (λb z=>nomatch z) λb z=>z) hok3 I2.bare λb hb=>by rw[zzR.mp hb];exact fT'
    refine V5 I4 hN hj (.inl hjl) (v:=.ref ea) rfl (λs5 I5 hsame=>?_) hff;obtain⟨a5,sb5,ha5⟩:=hsame;have a5d:dx≠a5:=by
     rcases ha5 with z|z
     . rw[z];exact t.l
     . exact λw=>t.cl en a5 z w.symm
    have a5e:ea≠a5:=by
     rcases ha5 with z|z
     . rw[z];exact fe.2.1
     . exact λw=>fe.2.2.1 en a5 z w.symm
    obtain⟨⟨oe,vs,ge,ce,de,fv,_⟩,_,_⟩:=fly2;have xb5:XB ea (kd.c cn) dx s5.heap:=⟨oe,(sb5.2 ea a5e).trans ge,ce,de,vs,fv⟩;obtain⟨mA,⟨od,es',ep',gd,dd⟩,hrel⟩:=t.ns;have gd1:=m.keep dx od (by rw[<-hst];exact t.fr) (λz=>by
     rcases zzC.mp z with z|z
     . exact t.d1 z
     . exact t.d2 (zzR.mp z)) gd
    have gd2:=m2.keep dx od (λz=>nomatch z) (λz=>absurd (zzK (zxJ gd) hT') (by rw[zzR.mp z];exact Nat.lt_irrefl _)) gd1;have gd5:=(sb5.2 dx a5d).trans gd2;have I6:=E4 I5 t.ne t.nd t.d1 fe t.se t.l t.cl (λp hp=>t.pd p (zzP _ hp)) t.s0 xb5 ⟨mA,⟨od,es',ep',gd5,dd⟩,hrel⟩;have kn:∀b u,H' b=some u->upd (upd H' ea (.ext (XB ea (kd.c cn) dx))) dx (.xd [(an,v)]) b=some u:=λb u z=>by rw[zr (zO z t.nd),zr (zO z t.ne)];exact z
    obtain⟨R7,g7⟩:=R'.more kn;have R8:=R7.put hlt (.lf (Rp.er (λz=>R'.trk true _ z t.ne) (λz=>R'.trk true _ z t.nd) (by rw[zr (Ne.symm t.d1),zA]) zA (SD kn rp)));refine zxT (hs ea pins s5 _ _ {nx:=λσ6 H6=>∃ad6,Rel X.K kd F0 B0 [] ad6 as2 σ6 H6/\Grow (Gw [] (yb ad' j [])) _ (Gw [] ad6) H6,rt:=λ_ _=>False} (BK I6 (λp z=>nomatch z)) ⟨_,_,_,_,_,R8,h4,λσ6 ad6 H6 R6' g6=>⟨ad6,R6',g6⟩⟩) (λfl s6 z=>?_) λ_ _ z=>(hnx _ _ z).elim;cases fl with
    |ret u=>obtain⟨_,_,_,_,_,z⟩:=z;exact z.elim
    |brk=>obtain⟨_,_,_,z⟩:=z;exact z.elim
    |cont=>obtain⟨_,_,_,z⟩:=z;exact z.elim
    |next=>
     obtain⟨σ6,H6,I6',ad6,R6',g6⟩:=z;obtain⟨R9,le9⟩:=R6'.unset j;refine ES (HH I.ok I6') hN hj hjl λs7 I7=>⟨σ6.set j none,H6,I7, ?_⟩;refine q _ _ H6 R9 ?_;exact(g'.trans (g7.trans ((Grow.less λa z=>vz a z).trans g6))).trans (Grow.less le9)
  . cases fl with
    |ret u=>obtain⟨_,_,_,_,_,z⟩:=z;exact z.elim
    |brk=>obtain⟨_,_,_,z⟩:=z;exact z.elim
    |cont=>obtain⟨_,_,_,z⟩:=z;exact z.elim
    |next=>obtain⟨_,_,_,z⟩:=z;exact z.elim)
end
structure XI(K:zzA)(C:Addr)(an:Str):Prop where
 ga:W.findIn K (.ref C) "__getattribute__"=some (some (.builtin "BaseException.__getattribute__"))
 gh:W.findIn K (.ref C) "__getattr__"=some none
 mb:W.mroIn K C (.type "BaseException")=some true
 hd:W.hasDictIn K C=true
 ha:W.findIn K (.ref C) "__class__"=some (some (.builtin "object.__class__"))
 hn:W.specialIn K (.builtin "object.__class__") "__get__"=some (some (.builtin "getset_descriptor.__get__"))
 ht:W.takesIn K (.builtin "object.__class__")=some true
 hm:W.mroIn K C (.type "object")=some true
 at_:W.findIn K (.ref C) an=some none
section
open PySem.W
variable{prog:Program}{w:World}{A:Around}{E:Value->Shared->Prop}{s:Shared}{K:Frag}{x C:Addr}{ox:Obj}{od:Obj}{name an:Str}{tk:Tok}
def MU{fill expr}{Q}(Z:XI K C an)(X:K.In s.heap)(I:InstAt s.heap x ox C (some od))
 (h:wpAny (model prog w) A.in1 (Builtin.«object.__getattribute__» ⟨[.ref x,.str name tk],[]⟩) (λfin s'=>match fin with | .done (.ret v)=>wpAny (model prog w) A (handedOut v) Q E s'|_=>False) (λ_ _=>False) s):
 wpAny (model prog w) A (getAttrBy (.ref x) (.str name tk) fill expr) Q E s:=by
 have FX:=PySem.F.excAttr_ValueError;have L0:=I.type (M:=model prog w);have L1:=looks_findIn (M:=model prog w) X Z.ga;have L2:Looks (model prog w) s.heap (hookBefore (.ref C)) none:=by
  unfold hookBefore;rw[if_pos (show onTheHeap (Value.ref C)=true from rfl)];exact looks_findIn X Z.gh
 have sb:Looks (model prog w) s.heap (isInstance (.ref x) (.type "BaseException")) true:=L0.andThen (looks_mroIn X Z.mb);unfold getAttrBy;refine zxN (zxG (L0.here (zxG (L1.here ?_))));dsimp only;rw[show(onTheHeap (Value.ref C)&&Value.builtin "BaseException.__getattribute__"==Value.builtin "object.__getattribute__")=false from by rw[show(Value.builtin "BaseException.__getattribute__"==Value.builtin "object.__getattribute__")=false from by decide +kernel,Bool.and_false],if_neg (by decide)];unfold getAttrByItsOwn;refine zxG (L2.here (zxG (wpAny_attempt (zxN ?_))));unfold callGetattribute;rw[show(expr&&onTheHeap (Value.builtin "BaseException.__getattribute__"))=false from Bool.and_false _,if_neg (by decide)];unfold boundAndCalled;rw[FX.ga.bind];refine zxG (zxH ?_);refine wpAny_call (codeAny_call_builtin FX.ga.plain PySem.F.entry_bexc_ga ?_);refine @check_slot (model prog w) _ _ s "BaseException.__getattribute__" "BaseException" "__getattribute__" (.ref x) [.str name tk] [] _ (by decide +kernel) (by decide +kernel) sb (PySem.F.args_bexc_ga (.ref x) (.str name tk)) ?_;refine zxT h (λfin s' z=>?_) λ_ _ z=>z.elim
 rcases fin with(_|_|_|_)|_<;>first|exact z|exact z.elim
def LN{v}{expr}{Q}(Z:XI K C an)(X:K.In s.heap)(I:InstAt s.heap x ox C (some od))(hf:findObj K C (some od) name=some (.value v))(hh:handedIn v=true)(h:Q v {s with toks:=s.toks+1}):
 wpAny (model prog w) A (getAttr (.ref x) name expr) Q E s:=by
 unfold getAttr;refine zxG (wpAny_mkText (MU Z X I ?_));obtain⟨h',g,d,t,os⟩:=s;have L0:=I.type (M:=model prog w);have L1:=looks_find (M:=model prog w) X I hf;refine zxG (zxH (zxG (zxH (zxG (L0.at (zxG (L1.at ?_)))))));refine zxH ?_;show wpAny _ _ _ _ _ _;rw[handedOut_of hh];exact zxH h
def LG{Q}(Z:XI K C an)(X:K.In s.heap)(I:InstAt s.heap x ox C (some od))(h:Q (some (.ref C)) {s with toks:=s.toks+1}):wpAny (model prog w) A (getAttr? (.ref x) "__class__") Q E s:=by
 have hf:findObj K C (some od) "__class__"=some (.bind (.builtin "getset_descriptor.__get__") (.builtin "object.__class__")):=findObj_data (by obtain⟨cd,hc,_⟩:=any_some Z.hd;rw[hc];rfl) Z.ha Z.hn Z.ht;unfold getAttr?;refine zxG (wpAny_mkText ?_);unfold getAttrBy?;refine zxG (wpAny_attempt (MU Z X I ?_));obtain⟨h',g,d,t,os⟩:=s;have L0:=I.type (M:=model prog w);have L1:=looks_find (M:=model prog w) X I hf;refine zxG (zxH (zxG (zxH (zxG (L0.at (zxG (L1.at ?_)))))));refine zxG (zxN (wpAny_call (class_get X I Z.hm ?_)));refine zxH ?_;show wpAny _ _ _ _ _ _;rw[handedOut_of rfl];exact zxH (zxH h)
end
section
variable{X:Cx}{kd:KD}{pins:List (Addr×Obj)}{σ:St}{H:Hp}{s:Shared}{e C dx:Addr}{k:Int}{oe od:Obj}
def S8{K}{x C}{an}{ox od}(Z:XI K C an):PySem.W.KitX K (.ref x) (.ref C) (λh=>PySem.W.InstAt h x ox C (some od))where
 ty:=λ_ _ _ I=>I.type
 it:=λ_ _ X _=>by
  obtain⟨cdD,hcD,_⟩:=W.any_some Z.hd;unfold W.clsIn at hcD
  split at hcD
  . rename_i c' d' cd' sl' ho;intro A' Q' E' s' k q;unfold isType loadHead;exact zxG (wpAny_loadPart (k _ _ (X _ _ ho)) (zxH q))
  . cases hcD
 ne:=λh tp dd its n sl X htp=>by
  obtain⟨cdD,hcD,_⟩:=W.any_some Z.hd;refine Bool.eq_false_iff.mpr λq=>?_;have e:=Value.ref.inj (beq_iff_eq.mp q);subst e;unfold W.clsIn at hcD
  split at hcD
  . rename_i c' d' cd' sl' ho;have z:=(X _ _ ho).symm.trans htp;cases z
  . cases hcD
 ca:=λX I k=>LG Z X I k
def MB{a}{c an}{v}(I:Inv X pins σ H s)(h1:H a=some (.ext (XB a (kd.c c) dx)))(h2:H dx=some (.xd [(an,v)])):∃ox od,PySem.W.InstAt s.heap a ox (kd.c c) (some od)/\∃u,RelV v u/\W.lookIn an od=some (some u):=by
 obtain⟨⟨o,g1,g2,g3,vs,g4⟩,_,_⟩:=I.hok a _ h1;obtain⟨mA,hNs,hrel⟩:=I.hok dx _ h2;obtain⟨od,ho,hl⟩:=EV hNs;refine⟨o,od,⟨g1,g2, ?_, ?_⟩, ?_⟩
 . unfold W.notCls;rw[g4]
 . rw[g3];exact ho
 . have z:=hrel an;rw[show([(an,v)]:List (Str×V)).lookup an=some v from by rw[List.lookup_cons,beq_self_eq_true]]at z;obtain⟨u,e,r⟩:=WG.some_of z;exact⟨u,r,by rw[hl,e]⟩
noncomputable def YU(c an:Str)(b:Bool):D->Option R0
 | .er c' an' _=>if c'=c/\an'=an then some (.im (.bl b))else none
 |_=>none
noncomputable def Jc(c an:Str):D->Option R0
 | .er c' an' d=>if c'=c/\an'=an then some (.im d)else none
 |_=>none
variable{x y en an c:Str}{p p1 p2 pos:Pos}{b:Bool}{a:Expr}{fa:EF}
def FI{b}{cv}{w}(Z:XI X.K (kd.c c) an)(hc:∀u,RelV w u->u=cv)(hk:W.kitOne X.K (.ref (kd.c c)) cv=some b):
 Wh X (.builtin "isinstance") (λxs H Q=>∃e dx v,xs=[.ref e,w]/\H e=some (.ext (XB e (kd.c c) dx))/\H dx=some (.xd [(an,v)])/\Q (.bl b) H):=by
 intro pins s σ H xs us Q I r ⟨e,dx,v,ex,h1,h2,q⟩;subst ex;cases r with
 |cons r1 r2=>
  cases r2 with
  |cons r2 r3=>
   cases r3;cases(r1);cases hc _ r2;obtain⟨ox,od,hi,_⟩:=MB I h1 h2;exact W.kia_one (S8 Z) I.kIn hi hk (λz=>nomatch z) λtk=>⟨.bl b,H,I.tok tk,rfl,q⟩
def Yh(hg:Gl X x)(hm:X.mg x=some (.ref C))(hd:(x==("__debug__":Str))=false:=by decide):PE X (.Name x p) (tC (.ref C)):=λ_ _ _ H _ I q=>Yl I hg hm ⟨.ref C,H,I,rfl,q⟩ hd
def MS(h:f1 fa g as=some (r,as')):∃p d lv r0,fa as=some (p,as')/\p.frz.view as'=some (d,lv)/\g d=some r0/\wrap lv r0=some r:=by
 obtain⟨⟨p,as1⟩,h1,h⟩:=bS_ (h);obtain⟨⟨d,lv⟩,h2,h⟩:=bS_ h;obtain⟨r0,h3,h⟩:=bS_ h;obtain⟨z,h4,h⟩:=bS_ h;cases h;exact⟨p,d,lv,r0,h1,h2,h3,h4⟩
def Cc(h:YU c an b d=some r):∃d',d = .er c an d'/\r = .im (.bl b):=by
 cases d with
 |er c' an' d'=>
  obtain⟨⟨rfl,rfl⟩,e⟩:=zx (h);exact⟨d',rfl,e.symm⟩
 |_=>cases h
def IT(h:Jc c an d=some r):∃d',d = .er c an d'/\r = .im d':=by
 cases d with
 |er c' an' d'=>
  obtain⟨⟨rfl,rfl⟩,e⟩:=zx (h);exact⟨d',rfl,e.symm⟩
 |_=>cases h
def ZF{C}{cv}{w}{ec}(hC:kd.c c=C)(Z:XI X.K C an)(hc:∀u,RelV w u->u=cv)(hk:W.kitOne X.K (.ref C) cv=some b)
 (hg:Gl X x) (hm:X.mg x=none) (hv:bootBuiltins x=some (.builtin "isinstance")) (ha:AE X kd a fa) (hcl:PE X ec (tC w))
 (hn:x≠"__name__") (hdb:(x==("__debug__":Str))=false) (he:starEach [a,ec] X.env=(false,eval a X.env)::starEach [ec] X.env) (he2:starEach [ec] X.env=(false,eval ec X.env)::starEach [] X.env) (hpl:(backTo pos (starEach [ec] X.env)).any (·.1)=false):
 AE X kd (.Call (.Name x p) [a,ec] [] pos) (f1 fa (YU c an b)):=by
 subst hC
 with_unfolding_all exact(yu (W6 (FI Z hc hk) hg hm hv (xg ha (xg hcl ZG he2) he) hn hdb he hpl) λσ H Q h=>by
  obtain⟨F,B,ad,as,r,as',R,e,q⟩:=h;obtain⟨p,d,lv,r0,h1,h2,h3,h4⟩:=MS e;obtain⟨d',rfl,rfl⟩:=Cc h3;refine vi R h1 λv ad1 H1 R1 rv1 g1=>?_;have vw:=xx.vw R1 rv1 h2;have rq:=Zp R1 h4 λw T' H' R' rv' g'=>q w T' ad1 H' R' rv' (g1.trans g');cases vw with
  |er z1 z2 z3=>exact⟨_,_,_,rfl,z1,z2,rq (.bl b) H1 (λ_ _ z=>z) (.bl b)⟩)
def JI(hC:kd.c c=C)(Z:XI X.K C an)(ha:AE X kd a fa)(hb:attributeBase a an X.env (eval a X.env)=eval a X.env):
 AE X kd (.Attribute a an pos) (f1 fa (Jc c an)):=by
 subst hC
 with_unfolding_all (
 intro pins s σ H Q I z;obtain⟨F,B,ad,as,r,as',R,e,q⟩:=z;obtain⟨p,d,lv,r0,h1,h2,h3,h4⟩:=MS e;obtain⟨d',rfl,rfl⟩:=IT h3;refine HS hb (thn (ha pins s σ H (λv H'=>∃ad1,Rel X.K kd F B [] ad1 as' σ H'/\xx X.K kd F B [] ad1 σ H' v p.frz/\Grow (Gw [] ad) H (Gw [] ad1) H') I (vi R h1 λv ad1 H1 R1 rv1 g1=>⟨ad1,R1,rv1,g1⟩)) λu s1 ⟨v,H1,I1,r1,ad1,R1,rv1,g1⟩=>?_);have vw:=xx.vw R1 rv1 h2;have rq:=Zp R1 h4 λw T' H' R' rv' g'=>q w T' ad1 H' R' rv' (g1.trans g');cases vw with
 |er z1 z2 z3=>
  rename_i ea dx v;cases(r1);obtain⟨ox,od,hi,u,ru,hl⟩:=MB I1 z1 z2;exact LN Z I1.kIn hi (W.findObj_own Z.hd Z.at_ rfl hl) (Fg ru) ⟨v,H1,I1.tok _,ru,rq v H1 (λ_ _ z=>z) z3⟩)
end
section
variable{K:zzA}{kd:KD}{F B:Addr->Prop}{T:List Addr}{ad:Ad}{as:AS}{σ:St}{H:Hp}{i:Nat}{o:O}{v:V}
def RN:Gw (ad i) (yb ad i []) a ↔ Gw [] ad a:=by
 constructor
 . rintro(z|⟨j,z⟩)
   . exact .inr ⟨i,z⟩
   . by_cases e:j=i
     . subst e;rw[zl]at z;cases z
     . rw[zp e]at z;exact .inr ⟨j,z⟩
 . rintro(z|⟨j,z⟩)
   . cases z
   . by_cases e:j=i
     . subst e;exact .inl z
     . exact .inr ⟨j,by rw[zp e];exact z⟩
def Rel.mv(R:Rel K kd F B [] ad as σ H)(h:as[i]? = some (some o)):
 Rel K kd F B (ad i) (yb ad i []) (as.set i none) σ H/\∃v,σ[i]? = some (some v)/\xW K kd F B (Gw (ad i) (yb ad i [])) H v o (ad i):=by
 have hi:=(zzG.mp h).1;obtain⟨v,hv,ro⟩:=R.sl i _ h;refine⟨⟨by rw[zzU];exact R.len,λj hj=>?_,λj=>?_,λj k a h1 h2=>?_,R.nd i,λj a h1 h2=>?_,R.ftr,λa h1=>?_,λa h1=>R.gtr a (RN.mp h1),λj s e=>?_⟩,v,hv,ro.less λa z=>RN.mp z⟩
 . rw[zzU]at hj;rw[zp (by omega)];exact R.out j hj
 . by_cases e:j=i
   . subst e;rw[zl];exact zyJ
   . rw[zp e];exact R.nd j
 . by_cases e:j=i
   . subst e;rw[zl]at h1;cases h1
   . rw[zp e]at h1
     by_cases e':k=i
     . subst e';rw[zl]at h2;cases h2
     . rw[zp e']at h2;exact R.inj j k a h1 h2
 . by_cases e:j=i
   . subst e;rw[zl]at h1;cases h1
   . rw[zp e]at h1;exact e (R.inj j i a h1 h2)
 . obtain⟨b1,b2,b3⟩:=R.btr a h1;exact⟨b1,b2,λz=>b3 (RN.mp z)⟩
 . by_cases q:j=i
   . subst q;rw[zyK hi]at e;cases e;rw[zl];exact rfl
   . rw[zzY (Ne.symm q)]at e;rw[zp q];have:=R.sl j s e;cases s with
     |none=>exact this
     |some o'=>
      obtain⟨w,hw,rw'⟩:=this;exact⟨w,hw,rw'.less λa z=>RN.mp z⟩
def Rel.put2(R:Rel K kd F B (T1++T2) ad as σ H)(hi:i<as.length)(h0:ad i=[])(h:xW K kd F B (Gw (T1++T2) ad) H v o T1):
 Rel K kd F B T2 (yb ad i T1) (as.set i (some o)) (σ.set i (some v)) H:=by
 have hi':i<σ.length:=by rw[<-R.len];exact hi
 obtain⟨n1,n2,n3⟩:=zxF.mp R.tnd;have le:∀a,Gw T2 (yb ad i T1) a->Gw (T1++T2) ad a:=by
  rintro a (z|⟨j,z⟩)
  . exact .inl (zzL _ z)
  . by_cases e:j=i
    . subst e;rw[zl]at z;exact .inl (zzP _ z)
    . rw[zp e]at z;exact .inr ⟨j,z⟩
 refine⟨by rw[zzU,zzU];exact R.len,λj hj=>?_,λj=>?_,λj k a h1 h2=>?_,n2,λj a h1 h2=>?_,R.ftr,λa h1=>?_,λa h1=>R.gtr a (le a h1),λj s e=>?_⟩
 . rw[zzU]at hj;rw[zp (by omega)];exact R.out j hj
 . by_cases e:j=i
   . subst e;rw[zl];exact n1
   . rw[zp e];exact R.nd j
 . by_cases e:j=i
   . subst e;rw[zl]at h1
     by_cases e':k=j
     . exact e'.symm
     . rw[zp e']at h2;exact(R.dis k a h2 (zzP _ h1)).elim
   . rw[zp e]at h1
     by_cases e':k=i
     . subst e';rw[zl]at h2;exact(R.dis j a h1 (zzP _ h2)).elim
     . rw[zp e']at h2;exact R.inj j k a h1 h2
 . by_cases e:j=i
   . subst e;rw[zl]at h1;exact n3 a h1 a h2 rfl
   . rw[zp e]at h1;exact R.dis j a h1 (zzL _ h2)
 . obtain⟨b1,b2,b3⟩:=R.btr a h1;exact⟨b1,b2,λz=>b3 (le a z)⟩
 . by_cases q:j=i
   . subst q;rw[zyK hi]at e;cases e;rw[zl,zyK hi'];exact⟨v,rfl,h.less le⟩
   . rw[zzY (Ne.symm q)]at e;rw[zp q,zzY (Ne.symm q)];have:=R.sl j s e;cases s with
     |none=>exact this
     |some o'=>
      obtain⟨w,hw,rw'⟩:=this;exact⟨w,hw,rw'.less le⟩
end
noncomputable def EM(i:Nat):EF:=λas=>match as[i]? with
 |some (some o)=>some (.ow o,as.set i none)
 |_=>none
def Sm(hv:PE X (.Name x p) (ZS i)):AE X kd (.Name x p) (EM i):=by with_unfolding_all exact(yu hv λσ H Q h=>by
 obtain⟨F,B,ad,as,r,as',R,e,q⟩:=h;unfold EM at e;cases k:as[i]? with
 |none=>rw[k]at e;cases e
 |some s=>
  cases s with
  |none=>rw[k]at e;cases e
  |some o=>
   rw[k]at e;cases e;obtain⟨R',v,hv,ro⟩:=R.mv k;exact⟨v,hv,q v (ad i) _ H R' ro (Grow.less λa z=>RN.mp z)⟩)
def Dh:List Nat->Cz
 | []=>DA
 |i::is=>Ct (PM i) (Dh is)
noncomputable def Ic:RV->Option (List O)
 | .ow (.nd .tp os)=>some os
 |_=>none
def Bw{r}{os}(h:Ic r=some os):r = .ow (.nd .tp os):=by
 cases r with
 |ow o=>
  cases o with
  |lf _ _=>cases h
  |nd k os'=>cases k<;>cases h;rfl
 |bo i=>cases h
noncomputable def tj:List Nat->List O->AS->Option AS
 | [],[],as=>some as
 |i::is,o::os,as=>if uY as i=true then tj is os (as.set i (some o))else none
 |_,_,_=>none
noncomputable def Ou(is:List Nat)(f:EF):SF:=λas=>(f as).bind λp=>(Ic p.1).bind λos=>(tj is os p.2).bind λas'=>some (.nx as')
section
variable{K:zzA}{kd:KD}{F B:Addr->Prop}{H:Hp}
def OY{T}{ad}{as}{σ}{i:Nat}(R:Rel K kd F B T ad as σ H)(h:uY as i=true):ad i=[]:=R.sl i none (BB h)
theorem Sr{Q}:∀(is:List Nat) {os:List O}{as as':AS}{vs:List V}{T:List Addr}{ad:Ad}{σ:St},Rel K kd F B T ad as σ H->xF K kd F B (Gw T ad) H vs os T->tj is os as=some as'->
 (∀σ' ad',Rel K kd F B [] ad' as' σ' H->(∀a,Gw [] ad' a->Gw T ad a)->Q σ' H)->Dh is vs σ H Q
 | [],os,as,as',vs,T,ad,σ,R,r,e,q=>by
  cases r with
  |nil=>cases e;exact⟨rfl,q σ ad R λa z=>z⟩
  |cons _ _=>cases e
 |i::is,os,as,as',vs,T,ad,σ,R,r,e,q=>by
  cases r with
  |nil=>cases e
  |cons r1 r2=>
   rename_i v o vs os T1 T2;obtain⟨hn,e⟩:=ite_some' (e);have hi:=(zzG.mp (BB hn)).1;have R2:=Rel.put2 R hi (OY R hn) r1;have le:∀a,Gw T2 (yb ad i T1) a->Gw (T1++T2) ad a:=by
    rintro a (z|⟨j,z⟩)
    . exact .inl (zzL _ z)
    . by_cases e:j=i
      . subst e;rw[zl]at z;exact .inl (zzP _ z)
      . rw[zp e]at z;exact .inr ⟨j,z⟩
   exact⟨v,vs,rfl,Sr is R2 (xF.less le r2) e λσ' ad' R' le'=>q σ' ad' R' λa z=>le a (le' a z)⟩
theorem Er:∀(is:List Nat) {os:List O}{as as':AS},tj is os as=some as'->os.length=is.length
 | [],[],_,_,_=>rfl
 | [],_::_,_,_,e=>by cases e
 |_::_,[],_,_,e=>by cases e
 |i::is,o::os,as,as',e=>by
  obtain⟨_,e⟩:=ite_some' (e);rw[zzT,zzT,Er is e]
end
section
variable{X:Cx}{kd:KD}{e:Expr}{fe:EF}{ts:List Expr}{is:List Nat}{m:Nat}{pt pos:Pos}
def IL:Fu X [] (Dh []):=ME
def Xz(h1:PG X t (PM i))(h2:Fu X ts (Dh is))(hs:(assignEach (t::ts) X.env).map (·.2)=assign t X.env::(assignEach ts X.env).map (·.2)):Fu X (t::ts) (Dh (i::is)):=KB h1 h2 hs
def Iu(hc:X.calm=true)(he:AE X kd e fe)(hg:Fu X ts (Dh is))(hn:(assignEach ts X.env).length=is.length)(hst:(assignEach ts X.env).findIdx? (·.1)=none)
 (hs:swapsWithSole [.Tuple ts m pt] e pos.line X.env=pure false) (hw:swappedStores [.Tuple ts m pt] e X.env=pure none) (hm:(assignEach [.Tuple ts m pt] X.env).map (·.2)=[assign (.Tuple ts m pt) X.env]):
 QK X kd (.Assign [.Tuple ts m pt] e pos) (Ou is fe):=by
 with_unfolding_all exact(yE (Tq he (B6 hc hg hn hst) hs hw hm) λD σ H h=>by
  obtain⟨F,B,ad,as,o,R,e,q⟩:=h;obtain⟨⟨p,as1⟩,h1,e⟩:=bS_ (e);obtain⟨os,h2,e⟩:=bS_ e;obtain⟨as',h3,e⟩:=bS_ e;cases e;cases Bw h2;refine⟨F,B,ad,as,_,as1,R,h1,λv T' ad' H' R' rv g=>?_⟩;cases(rv)with
  |tp hN hH rl=>
   rename_i a vs;exact⟨a,vs,rfl,.inl (.inl hH),by rw[rl.length,Er is h3],Sr is R' rl h3 λσ2 ad2 R2 le=>q σ2 ad2 H' R2 (g.trans (Grow.less le))⟩)
end
noncomputable def Fy(i:Nat)(f1:RS)(n:Nat)(f2 f3 fv:RS):SF:=λas=>(f1 as).bind λk1=>(f2 as).bind λk2=>(f3 as).bind λk3=>(fv as).bind λc=>if 0<=k1/\0<=k2/\0<=k3 then
 (Pu Ye as i).bind λos=>(RR GH os k1.toNat).bind λps=>(RR Ye ps n).bind λrows=>(RR Ye rows k2.toNat).bind λinner=>(RR Ul inner k3.toNat).bind λ_=>some (.nx (as.set i (some (.nd .ls (os.set k1.toNat (.nd .tp (ps.set n (.nd .ls (rows.set k2.toNat (.nd .ls (inner.set k3.toNat (.lf true (.int c)))))))))))))else none
def Ar{X}{kd}{f1 f2 f3 fv}{e1 e2 e3 ev ec}{i n:Nat}{x}{p p1 p2 p3 tpos pos}
 (ho:PE X (.Name x p) (ZS i)) (h1:AK X kd e1 f1) (hp1:wL e1) (hc:PE X ec (tC (.int n))) (hpc:wL ec) (h2:AK X kd e2 f2) (hp2:wL e2) (h3:AK X kd e3 f3) (hv:AK X kd ev fv)
 (ha:∀v,assign (.Subscript (.Subscript (.Subscript (.Subscript (.Name x p) e1 p1) ec p2) e2 p3) e3 tpos) X.env v=(do
  let ov <-holding [v] (eval (.Subscript (.Subscript (.Subscript (.Name x p) e1 p1) ec p2) e2 p3) X.env);let iv <-holding [v,ov] (eval e3 X.env)
  standAt tpos
  holding [v,ov,iv] (setItem ov iv v)
  release [v,ov,iv] []))
 (hs:swapsWithSole [.Subscript (.Subscript (.Subscript (.Subscript (.Name x p) e1 p1) ec p2) e2 p3) e3 tpos] ev pos.line X.env=pure false) (hw:swappedStores [.Subscript (.Subscript (.Subscript (.Subscript (.Name x p) e1 p1) ec p2) e2 p3) e3 tpos] ev X.env=pure none)
 (hm:(assignEach [.Subscript (.Subscript (.Subscript (.Subscript (.Name x p) e1 p1) ec p2) e2 p3) e3 tpos] X.env).map (·.2)=[assign (.Subscript (.Subscript (.Subscript (.Subscript (.Name x p) e1 p1) ec p2) e2 p3) e3 tpos) X.env]):
 QK X kd (.Assign [.Subscript (.Subscript (.Subscript (.Subscript (.Name x p) e1 p1) ec p2) e2 p3) e3 tpos] ev pos) (Fy i f1 n f2 f3 fv):=by
 with_unfolding_all exact(yE (Tq hv (BG (Q8 VB (Q8 GM (Q8 VB ho h1 hp1) hc hpc) h2 hp2) h3 set_list ha) hs hw hm) λD σ H h=>by
  obtain⟨F,B,ad,as,o,R,e,q⟩:=h;obtain⟨n1,j1,e⟩:=bS_ (e);obtain⟨n2,j2,e⟩:=bS_ e;obtain⟨n3,j3,e⟩:=bS_ e;obtain⟨c,j4,e⟩:=bS_ e;obtain⟨⟨hk1,hk2,hk3⟩,e⟩:=ite_some' e;obtain⟨os,e1,e⟩:=bS_ e;obtain⟨ps,e2,e⟩:=bS_ e;obtain⟨rows,e3,e⟩:=bS_ e;obtain⟨inner,e4,e⟩:=bS_ e;obtain⟨d,e5,e⟩:=bS_ e;have k1:=Jv e1;have k2:=sf e2;have k3:=LA e3;have k4:=LA e4;obtain⟨st,k5⟩:=DN e5;cases e;obtain⟨v,sv,ro,hn,hG,up⟩:=R.slotU k1;obtain⟨l,vs,w,fw,rfl,hH,hvs,rw1,fn,fs,up1⟩:=L6 ro hn hG k2;obtain⟨l2,vs2,w2,fw2,rfl,hH2,hvs2,rw2,fn2,fs2,up2⟩:=UJ rw1 fn (λa m=>hG a (fs a m)) k3;obtain⟨l3,vs3,w3,fw3,rfl,hH3,hvs3,rw3,fn3,fs3,up3⟩:=L6 rw2 fn2 (λa m=>hG a (fs a (fs2 a m))) k4;obtain⟨p,ivs,rfl,hp,hHp,hl,ro'⟩:=My c rw3 fn3 (λa m=>hG a (fs a (fs2 a (fs3 a m)))) k5;have m3:=fs3 p hp;have m2:=fs2 p m3;have m1:=fs p m2;obtain⟨R2,g2⟩:=up p _ _ m1 (up1 p _ _ m2 (up2 p _ _ m3 (up3 p _ _ hp ro')));exact⟨F,B,ad,as,c,R,j4,_,sv,F,B,ad,as,n1,R,j1,l,vs,n1,_,rfl,rfl,.inl (.inl hH),TJ hk1 hvs,l2,vs2,n,_,rfl,rfl,.inl (.inl hH2),x8 hvs2,F,B,ad,as,n2,R,j2,l3,vs3,n2,_,rfl,rfl,.inl (.inl hH3),TJ hk2 hvs3,F,B,ad,as,n3,R,j3,p,ivs,n3,n3.toNat,rfl,rfl,hHp,Mr hk3 hl,q σ ad _ R2 g2⟩)
structure RoomQ(k:Nat)(A:Around):Prop where
 dp:A.depth+3*k+5<recursionLimit
 un:A.units+16*k+200<cLine
def roomQ(r:Room k A)(h:j<=k):RoomQ j A:=⟨by have:=r.dp;omega,by have:=r.un;omega⟩
def AL(r:RoomQ k A):RoomQ k (A.mark v):=⟨r.dp,r.un⟩
structure FnQ(P:Program)(w:World)(K:zzA)(mg:Str->Option Value)(base:Heap)(k:Nat)(f:Addr)(fd:FuncData)(ps:List Str)(sp:Sp):Prop where
 len:∀vs H Q E,sp vs H Q E->vs.length=ps.length
 run:∀(A:Around) (outer:List Env) (s:Shared) (H:Hp) (args:Args) (us:List Value) (vs:List V) (Q:VK) (E:XK),RoomQ k A->Env0 P w K mg base A outer s H->BindsTo s fd args (ps.zip us)->zK vs us->sp vs H Q E->
  codeAny (model P w) A (.call (.ref f) args) (CR U2 outer P w H s Q E) s
abbrev tK(P:Program)(w:World)(K:zzA)(mg:Str->Option Value)(base:Heap)(N:List Str)(qual:Str)(scope:Scope)(f:Addr)(cd:Value)(A:Around)(outer:List Env)(s:Shared)(H:Hp)(E:XK):Cx:=
 {Zc U2 P w K mg base N qual scope f cd A outer s H E with calm:=false,xe:=λ_ _=>False}
section
variable{P:Program}{w:World}{K:zzA}{mg:Str->Option Value}{base:Heap}
def Jj{kd}{x qual}{st}{f}{fd}{N ps}{k:Nat}{c}(Fn:Fun K x qual st f fd)(S:FnScope N ps (zd st))
 (hb:∀(cdv:Value) (A:Around) (outer:List Env) (s:Shared) (H:Hp) (E:XK),RoomQ k (A.deeper (envOfC qual (zd st) s.heap.objs.size f cdv))->TU (tK P w K mg base N qual (zd st) f cdv A outer s H E) kd (wu st) c):
 FnQ P w K mg base (k+1) f fd ps (Ft K kd (vP N.length ps.length c)):=by
 with_unfolding_all (
 obtain⟨oc,od,kV,doc,pm,an,cdv,ct,osl,rfl,lk,hcd⟩:=Fn.ex;have len:∀vs H Q E,Ft K kd (vP N.length ps.length c) vs H Q E->vs.length=ps.length:=λvs H Q E h=>by
  obtain⟨F,ds,r,_,rp,e,_⟩:=h;unfold vP at e
  by_cases hl:ds.length=ps.length
  . rw[rp.length,hl]
  . rw[if_neg hl]at e;cases e
 refine⟨len,λA outer s H args us vs Q E hr e0 hbn r hsp=>?_⟩;have hl:=len _ _ _ _ hsp;have KX:=e0.mod.kin.keeps λb o e=>(e0.bs b o e).1;have lim:=e0.mod.nolimit.keeps λb o e=>(e0.bs b o e).1;have hkind:∀y ∈ ps.zip us,(zd st).names.lookup y.1=some .local\/((zd st).names.lookup y.1=some .cell/\((cellsFrom (s.heap.objs.size+1) (zd st).names []).lookup y.1).isSome=true):=λ⟨n,v⟩ hy=>by
  rcases S.par n (List.of_mem_zip hy).1 with q|q
  . exact .inl q
  . exact .inr ⟨q,W.cellsFrom_some _ _ _ (.inl q)⟩
 refine codeAny_call_function (by have:=hr.dp;omega) (KX _ _ lk) rfl S.co S.gen rfl (W.codeRec_of KX hcd) (hbn _ _ _ _ ?_);refine wpAny_newFunctionEnv_cells S.kind hkind λenv he s1 x=>?_;subst he;refine⟨lim.keeps x.toInCall.keep,codeAny_func ?_⟩;have e0':Env0 P w K mg base {A with handled:=none} outer s H:=⟨e0.frames,e0.mod,e0.bs,e0.bsz,e0.funs,e0.frf,e0.hok,e0.bare⟩;have I0:Inv (Zc U2 P w K mg base N qual (zd st) f cdv {A with handled:=none} outer s H E) [] (L2.start N vs) H s1:=P3 S rfl e0' hl r x;have I:Inv (tK P w K mg base N qual (zd st) f cdv A outer s H E) [] (L2.start N vs) H s1:=
  ⟨⟨I0.ok.mod,I0.ok.kind,I0.ok.glob,I0.ok.blt,I0.ok.above,I0.ok.inj,I0.ok.has,I0.ok.cab,(λz=>nomatch z),Around.frames_deeper e0.frames,I0.ok.stk,I0.ok.exf,I0.ok.bs,I0.ok.bsz,I0.ok.noex,I0.ok.exfs,I0.ok.funs,I0.ok.frf⟩,I0.os,I0.bare,I0.base,I0.loc,I0.cell,I0.free,I0.freeC,I0.pin,I0.hok,I0.len⟩
 obtain⟨F,ds,r',ht,rp,e,q⟩:=hsp;unfold vP at e
 by_cases hl':ds.length=ps.length
 . rw[if_pos hl']at e;obtain⟨o,e1,e⟩:=bS_ e;refine zxT (hb cdv A outer s H E ⟨by have:=hr.dp;show A.depth+1+3*k+5<_;omega,by have:=hr.un;show A.units+3+16*k+200<_;omega⟩ [] s1 (L2.start N vs) H {nx:=λ_ H'=>Q .non H',rt:=Q} I ⟨F,λ_=>False,λ_=>[],yk N.length ds,o,XT ht rp,e1, ?_⟩) (λfl s' hs=>?_) λe s' hs=>False.elim hs
   . cases o with
     |nx as=>cases e;exact λσ' ad' H' R g=>Gz q ⟨zyJ,(λ_ m=>nomatch m),.lf .non⟩ (g.trans (Grow.less (λ_ z=>nomatch z)))
     |rt o=>cases e;exact λv T H' ro g=>Gz q ro g
     |bk=>cases e
     |ct=>cases e
   . have fin:∀{σ':St}{H':Hp}{v:V}{u:Value},Inv (tK P w K mg base N qual (zd st) f cdv A outer s H E) [] σ' H' s'->RelV v u->Q v H'->CE outer P w H s Q u s':=
      λ{σ' H' v u} J rv q=>⟨v,H',J.os,J.bare,J.base,J.hok,rv,q⟩
     cases fl with
     |ret u=>
      obtain⟨v,σ',H',J,rv,q⟩:=hs;exact fin J rv q
     |next=>
      obtain⟨σ',H',J,q⟩:=hs;exact fin (v:=V.non) J rfl q
     |brk=>
      obtain⟨_,_,_,q⟩:=hs;exact False.elim q
     |cont=>
      obtain⟨_,_,_,q⟩:=hs;exact False.elim q
 . rw[if_neg hl']at e;cases e)
end
section
variable{X:Cx}{kd:KD}{a:Expr}{es:List Expr}{fr:AF}{pos p:Pos}
def FE(F:FnQ X.prog X.w X.K X.mg X.base k f fdt ps (Ft X.K kd gg))(hr:RoomQ k X.A)(hg:Gl X x)(hm:X.mg x=some (.ref f))(hk:W.keepIn X.K (.ref f)=true)
 (hb:Binds X.K fdt ps []) (ha:AA X kd (a::es) fr) (hdb:(x==("__debug__":Str))=false) (he:starEach (a::es) X.env=(false,eval a X.env)::starEach es X.env) (hpl:(backTo pos (starEach es X.env)).any (·.1)=false):
 AE X kd (.Call (.Name x p) (a::es) [] pos) (zt fr gg):=by
 with_unfolding_all (
 intro pins s σ H Q I h;obtain⟨F0,B,ad,as,r,as',R,e,q⟩:=h;obtain⟨⟨rs,as1⟩,h1,e⟩:=bS_ (e);obtain⟨ds,h2,e⟩:=bS_ e;obtain⟨o,h3,e⟩:=bS_ e;cases e;refine wpAny_Call_Name_kw (Yl I hg hm ?_ hdb);refine W.callWith_K I.ok.mod.kin hk (zxT (ha pos pins s σ H (λvs H1=>∃ad1,Rel X.K kd F0 B [] ad1 as1 σ H1/\RVs X.K kd F0 B ad1 σ H1 vs rs/\Grow (Gw [] ad) H (Gw [] ad1) H1) I ⟨F0,B,ad,as,rs,as1,R,h1,λvs ad1 H1 R1 rv1 g1=>⟨ad1,R1,rv1,g1⟩⟩) (λus s1 z=>?_) λ_ _ z=>z) he hpl;obtain⟨vs,H1,I1,r,ad1,R1,rv1,g1⟩:=z;refine⟨I1.kIn, ?_⟩;have sp:Ft X.K kd gg vs H1 Q (λ_ _ _=>False):=⟨_,ds,o,R1.trk true,Tn R1 rv1 h2,h3,Bc R1 λw T' H' R' rv' g'=>q w T' ad1 H' R' rv' (g1.trans g')⟩;have hl:us.length=ps.length:=by rw[<-r.length];exact F.len _ _ _ _ sp
 have r2:=r;refine wpAny_call (codeAny_mono (F.run X.A X.stack s1 H1 ⟨us,[]⟩ us vs _ _ hr I1.env0 (by have z:=hb s1 us I1.kIn (by rw[zyE];exact hl);rw[zyE]at z;exact z) r2 sp) λr s' hq'=>?_);cases r with
 |error v=>exact False.elim hq'
 |ok fl=>
  cases fl with
  |ret u=>exact I1.after hq'
  |next=>exact False.elim hq'
  |brk=>exact False.elim hq'
  |cont=>exact False.elim hq')
end
noncomputable def FQ:List O->Option (Bool×D)
 | [.lf st d]=>some (st,d)
 |_=>none
def SK{os}{st}{d}(h:FQ os=some (st,d)):os=[.lf st d]:=by
 match os,h with
 | [.lf _ _],h=>cases h;rfl
section
variable{X:Cx}{kd:KD}{i:Nat}{fr:DF}{e:Expr}
def KO{K}{F B G}{H}{v}{es}{fp}(h:xW K kd F B G H v (.nd .ls es) fp):∃p vs fq,v = .ref p/\fp=p::fq/\H p=some (.lst vs)/\xF K kd F B G H vs es fq:=by
 cases h with
 |ls hp r=>exact⟨_,_,_,rfl,rfl,hp,r⟩
end
def RX(ns:List Int):List Int:=ns.foldl step_dedup []
def u6:List D->Option R0:=Ju λx=>(IB x).bind λds=>(Zu ds).bind λns=>if ns.length<64/\ns.all (λn=>decide (0<=n)&&decide (n<8))=true then some (.fl ((sortI (RX ns)).map .int))else none
noncomputable def keyOf:Key->D
 | .inl i=>.int i
 | .inr s=>.str s
end PF
end
section
namespace L2
open PySem PySem.Spec PyProof.Rows
def RW{prog}{w}{A}{E}{s}{d}{o}{es}{ep:Nat}{Q}(hd:(d==sysModules)=false)(hT:s.TypeIs (.ref d) "dict")(ho:s.heap.get? d=some o)(hdat:o.data = .dict es ep)(hQ:Q (.ref s.heap.objs.size) {s with heap:=s.heap.push {cls:=.type "dict_keyiterator",data:=.fields #[.ref d,.int 0 0,.int (es.size:Nat) 0,.int (ep:Nat) 0]}}):wpAny (model prog w) A (pyIter (.ref d)) Q E s:=by
 refine wpAny_pyIter_slot hT F.slot_dict_iter (zxU F.slot_dict_iter hT F.entry_dict_iter ?_ (F.args_dict_iter_1 _));unfold Builtin.«dict.__iter__»;refine zxG ?_;unfold Builtin.Dict.dictSlotNone;refine zxG (wpAny_notOrdered_dict hT ?_);refine zxH ?_;refine zxG (zxH ?_);unfold Builtin.Dict.showsAll;rw[if_neg (by rw[hd];exact zyW)];refine zxG (zxH (zxG (wpAny_dictEntries ho hdat (zxG (wpAny_dictEpoch ho hdat (zxG (zxL (zxH ⟨_,rfl,"dict_keyiterator",_,⟨_,zxK _ rfl,rfl⟩,F.slot_dict_keyiterator_next.lookup,hQ⟩) ?_)))))));exact zzO (show 4<=1000 by decide) (zzO (by decide:1000<=sizeLine) (Nat.le_add_right _ _))
def FG{prog}{w}{A}{E}{s}{it d}{i ep:Nat}{es}{od}{x}{Q}(hit:s.heap.IsKeyIter it d i es.size ep)(hod:s.heap.get? d=some od)(hdd:od.data = .dict es ep)(hx:es[i]? = some x)(hQ:∀h':Heap,h'.IsKeyIter it d (i+1) es.size ep->Heap.SameBut it s.heap h'->Q (some x.key) {s with heap:=h'}):wpAny (model prog w) A (pyNext (.ref it)) Q E s:=by
 obtain⟨o,ho,hc,hd⟩:=id hit;unfold pyNext;refine zxG (wpAny_attempt (wpAny_callSpecial?_slot hit.typeIs F.slot_dict_keyiterator_next (zxU F.slot_dict_keyiterator_next hit.typeIs F.entry_dict_keyiterator_next (zxG (zxH (zxG (zxG (zxG (wpAny_typeNameOfWhole_keyiter hit.typeIs (zxH (zxG (wpAny_fieldsOf ho hd ?_))))))))))));rw[show List.take 4 (List.drop (if Builtin.Dict_items.ownsTuple "dict_keyiterator"=true then 2 else 0) #[Value.ref d,Value.int i 0,Value.int es.size 0,Value.int ep 0].toList)=[Value.ref d,Value.int i 0,Value.int es.size 0,Value.int ep 0]from rfl];rw[if_neg (λh=>by cases h)];refine zxG (zxH (zxG (wpAny_dictEntries hod hdd ?_)));rw[if_neg (by simp)];refine zxG (zxH (zxG (wpAny_dictEpoch hod hdd ?_)));rw[if_neg (by simp)];refine zxH ?_;show wpAny _ _ (match(if(i:Int)<0 then none else es[(i:Int).toNat]?)with|some e=>_|none=>_) _ _ _;rw[if_neg (by omega),zyI,hx];refine zxG (zxG (wpAny_typeNameOfWhole_keyiter hit.typeIs (zxH (zxG (wpAny_isOneOf_keyiter hit.typeIs ?_)))));refine zxG (wpAny_setField ho hd (show 1<4 by decide) ?_);have hit':(s.heap.update it (Obj.mapFields λx=>x.setIfInBounds 1 (rawInt (i+1)))).IsKeyIter it d (i+1) es.size ep:=by
  refine⟨_,zxS _ ho (Obj.isFreed_of_fields (Obj.data_mapFields hd _)),(Obj.cls_mapFields o _).trans hc, ?_⟩;rw[Obj.data_mapFields hd];rfl
 refine zxG (zxN (zxG (wpAny_isOneOf_keyiter hit'.typeIs (zxH (zxH ⟨_,rfl,zxH (hQ _ hit' (Heap.SameBut.update _ _ _))⟩)))))
def OS{prog}{w}{A}{E}{s}{it d}{i ep:Nat}{es}{od}{Q}(hh:A.handled=none)(hit:s.heap.IsKeyIter it d i es.size ep)(hod:s.heap.get? d=some od)(hdd:od.data = .dict es ep)(hx:es[i]? = none)(hQ:∀h':Heap,Heap.ExtBut it s.heap h'->Q none {s with heap:=h'}):wpAny (model prog w) A (pyNext (.ref it)) Q E s:=by
 obtain⟨o,ho,hc,hd⟩:=id hit;unfold pyNext;refine zxG (wpAny_attempt (wpAny_callSpecial?_slot hit.typeIs F.slot_dict_keyiterator_next (zxU F.slot_dict_keyiterator_next hit.typeIs F.entry_dict_keyiterator_next (zxG (zxH (zxG (zxG (zxG (wpAny_typeNameOfWhole_keyiter hit.typeIs (zxH (zxG (wpAny_fieldsOf ho hd ?_))))))))))));rw[show List.take 4 (List.drop (if Builtin.Dict_items.ownsTuple "dict_keyiterator"=true then 2 else 0) #[Value.ref d,Value.int i 0,Value.int es.size 0,Value.int ep 0].toList)=[Value.ref d,Value.int i 0,Value.int es.size 0,Value.int ep 0]from rfl];rw[if_neg (λh=>by cases h)];refine zxG (zxH (zxG (wpAny_dictEntries hod hdd ?_)));rw[if_neg (by simp)];refine zxG (zxH (zxG (wpAny_dictEpoch hod hdd ?_)));rw[if_neg (by simp)];refine zxH ?_;show wpAny _ _ (match(if(i:Int)<0 then none else es[(i:Int).toNat]?)with|some e=>_|none=>_) _ _ _;rw[if_neg (by omega),zyI,hx];refine zxG (zxG (wpAny_typeNameOfWhole_keyiter hit.typeIs (zxH ?_)));refine zxG (wpAny_setField ho hd (show 0<4 by decide) ?_);refine zxG ?_;unfold newExc;refine zxG (zxL (zxG (wpAny_of_eq (Eq.refl (firstArgMember (Value.type "StopIteration") [])) (zxL ?_ (sizeOk_excFields _ _ _ _ _ _ _ _)))) ?_)
 . unfold raiseNew;refine zxG (wpAny_handled ?_);have hh':A.in1.handled=none:=hh;rw[hh'];refine zxG (zxH ?_);refine wpAny_throw (zxG (wpAny_isInstance ⟨_,zxK _ rfl,rfl⟩ isSubtype_stop (zxH (hQ _ λb u hb e=>zxI _ (zxI _ ?_)))));exact((Heap.SameBut.update s.heap it _).2 b hb).trans e
 . exact Nat.zero_le _
def t8(a:Addr)(o:Obj)(kvs:List (Key×V)):It:=
 ⟨λi H=>H a=some (.frz o (.dK kvs))/\i<kvs.length,λi H x H'=>H'=H/\(kvs.map λp=>kV p.1)[i]? = some x,λi H=>H a=some (.frz o (.dK kvs))/\kvs.length<=i⟩
end L2
namespace PF
open PySem PySem.Spec PyProof.Rows L2
end PF
end
section
namespace L2
open PySem PySem.Spec PyProof.Rows
theorem G1{P}{w}:∀{kvs:List (Key×V)}{vs:List (Key×Value)}{es:List DictEntry},KV kvs vs->Pairs (yy P w) es vs->es.length=kvs.length/\∀(i:Nat) (k:Key),(kvs.map (·.1))[i]? = some k->∃x:DictEntry,es[i]? = some x/\RelV (kV k) x.key
 |_,_,_,.nil,.nil=>⟨rfl,λi k h=>by simp at h⟩
 |p::kvs,q::vs,e::es,.cons h1 h2,.cons g1 g2 g3=>by
  obtain⟨l,ih⟩:=G1 h2 g3;refine⟨congrArg (· + 1) l,λi k hk=>?_⟩;cases i with
  |zero=>
   simp at hk;refine⟨e,rfl, ?_⟩;rw[<-hk,h1.1]
   rcases yF (g1)with⟨j,t,e1,e2⟩|⟨y,t,e1,e2⟩
   . rw[e1,e2];exact⟨t,rfl⟩
   . rw[e1,e2];exact⟨t,rfl⟩
  |succ i=>exact ih i k (by simpa using hk)
def JA{P}{w}{H}{h}{a}{kvs}{u:HO}(hu:xy P w H h a (.dK kvs)):
 (a==sysModules)=false/\∃o es ep,h.get? a=some o/\o.ExactDict/\o.data = .dict es ep/\es.size=kvs.length/\∀(i:Nat) (k:Key),(kvs.map (·.1))[i]? = some k->∃x:DictEntry,es[i]? = some x/\RelV (kV k) x.key:=by
 obtain⟨_,y,vs,r,o,es,ep,h1,h2,h3,_,h4,_⟩:=hu;obtain⟨l,ks⟩:=G1 r h4;refine⟨y,o,es,ep,h1,h2,h3,by rw[<-zyT];exact l,λi k hk=>?_⟩;obtain⟨x,hx,rx⟩:=ks i k hk;exact⟨x,by rw[<-Array.getElem?_toList];exact hx,rx⟩
def O8{P}{w}{K}{tg}{kvs}{o}{es}{ep:Nat}(a it)(hd:o.data = .dict es ep)(hz:es.size=kvs.length)(hk:∀(i:Nat) (k:Key),(kvs.map (·.1))[i]? = some k->∃x:DictEntry,es[i]? = some x/\RelV (kV k) x.key):Turn P w K tg (t8 a o kvs) [it] it (λi h=>h.IsKeyIter it a i kvs.length ep)where
 mem:=by simp
 obj:=λi h st b hb=>by
  have e:b=it:=by simpa using hb
  subst e;obtain⟨o,e,c,d⟩:=st;exact⟨o,e,λv z=>by rw[d]at z;cases z⟩
 keep:=λi h h' st k=>st.at λo e=>k it (by simp) o e
 item:=by
  intro X hP hw hK hc i pins s σ H E I hf st hg;subst hP hw hK;obtain⟨e,hi⟩:=hg;obtain⟨h1,_⟩:=(I.hok a _ e);have gk:(kvs.map (·.1))[i]? = some (kvs[i]).1:=by rw[zzI,zzE hi];rfl
  obtain⟨x,hx,kx⟩:=hk i _ gk;obtain⟨f0,f1,f2,f3,f4,f5⟩:=hf it (by simp);rw[<-hz]at st;refine FG st h1 hd hx λh' st' sb=>?_;rw[hz]at st';have I1:=I.turned (t':=s.toks) (λb o hb e=>(sb.2 b hb).trans e) f0 f1 f3 f4 f5;obtain⟨o',e',c,d⟩:=id st';exact⟨_,rfl,N9 e' c d (by decide) ⟨kV (kvs[i]).1,H,I1,kx,⟨rfl,by rw[zzI,zzE hi];rfl⟩,st',λb hb=>(hf b hb).1⟩⟩
 done:=by
  intro X hP hw hK hc i pins s σ H E I hf st hg;subst hP hw hK;obtain⟨e,hi⟩:=hg;obtain⟨h1,_⟩:=(I.hok a _ e);obtain⟨f0,f1,f2,f3,f4,f5⟩:=hf it (by simp);rw[<-hz]at st;exact OS (I.ok.hd hc) st h1 hd (Array.getElem?_eq_none (by omega)) λh' eb=>⟨rfl,I.turned (t':=s.toks) (λb o hb e=>eb b o hb e) f0 f1 f3 f4 f5⟩
 self:=λ_ _ _ _ _ st h=>wpAny_pyIter_keyiter st h
def AU(i:Nat):TI:=λσ H R=>∃a kvs,σ[i]? = some (some (.ref a))/\H a=some (.dK kvs)/\∀o,R (t8 a o kvs) (upd H a (.frz o (.dK kvs)))
def BR{X}{tg l}{i:Nat}(hl:PE X l (ZS i)):PI X tg l (AU i):=by
 intro pins s σ H R I h;obtain⟨a,kvs,hs,hq,q⟩:=h;refine thn (hl pins s σ H (λv H1=>v = .ref a/\H1=H) I ⟨.ref a,hs,rfl,rfl⟩) λv s1 ⟨x,H1,I1,r1,e1,e2⟩=>?_;subst e1 e2;cases r1;obtain⟨hy,o,es,ep,h1,h2,h3,hz,hk⟩:=JA (u:=.dK kvs) (I1.hok a _ hq);refine RW hy ⟨o,h1,h2.1⟩ h1 h3 ?_;rw[hz];have kp:∀b u,s1.heap.get? b=some u->(s1.heap.push {cls:=.type "dict_keyiterator",data:=.fields #[.ref a,.int 0 0,.int kvs.length 0,.int ep 0]}).get? b=some u:=λb u e=>zxI _ e;have I2:Inv X pins σ (upd H1 a (.frz o (.dK kvs))) {s1 with heap:=s1.heap.push {cls:=.type "dict_keyiterator",data:=.fields #[.ref a,.int 0 0,.int kvs.length 0,.int ep 0]}}:=I1.write (t':=s1.toks) (by rw[hq];exact True.intro) (.inl rfl) (λb u _ e=>kp b u e) ⟨o,kp a o h1⟩ ⟨kp a o h1, ?_⟩
 . refine⟨s1.heap.objs.size,[s1.heap.objs.size],_,_,_,rfl,I2,O8 a _ h3 hz hk,⟨_,zxK _ rfl,rfl,rfl⟩,λb hb=>?_,q o⟩;have e:b=s1.heap.objs.size:=by simpa using hb
   subst e;have ha:=zzQ (zxJ h1);exact I1.fpOk (zzN _) (by rw[zr (Ne.symm ha)];exact I1.hok.fresh (zzN _))
 . obtain⟨z1,z2,vs,z3,z4⟩:=(I1.hok a _ hq);obtain⟨o',es',ep',y1,y2⟩:=z4;exact⟨z1,z2,vs,z3,o',es',ep',kp a o' y1,y2⟩
end L2
end
section
namespace PF
open PySem PySem.Spec PyProof.Rows L2
noncomputable def u9(i:Nat):IF:=λas=>match as[i]? with
 |some (some (.nd (.dc ks) os))=>if os.all O.isLf=true/\O.strs os=true then some (ks.map λk=>(true,keyOf k),as.set i (some (.lf true (.dct (ks.zip (O.toDs os))))))else none
 |_=>none
theorem MH{K}{kd}{F B G}{H}:∀{os:List O}{vs:List V}{fp:List Addr},xF K kd F B G H vs os fp->os.all O.isLf=true->O.strs os=true->fp=[]/\RpL K kd (Lv F B G true) H vs (O.toDs os)
 | [],_,_,.nil,_,_=>⟨rfl,.nil⟩
 |o::os,_,_,.cons a r,h1,h2=>by
  cases o with
  |lf st d=>
   have h2':(st&&O.strs os)=true:=h2;rw[zyC]at h2';have h1':os.all O.isLf=true:=h1;obtain⟨e,ih⟩:=MH r h1' h2'.2;cases a with
   |lf rp=>
    obtain⟨rfl,_⟩:=h2';exact⟨by rw[e];rfl,.cons rp ih⟩
  |nd k os'=>cases h1
theorem K_{K}{kd}{O}{H}:∀{ks:List Key}{vs:List V}{ds:List D},ks.length=vs.length->RpL K kd O H vs ds->RpM K kd O H (ks.zip vs) (ks.zip ds)
 | [],_,_,_,_=>.nil
 |k::ks,v::vs,_,h,.cons a r=>.cons a (K_ (by simpa using h) r)
def SW{X}{kd}{tg}{i:Nat}{x}{p}(hv:PE X (.Name x p) (ZS i)):AI X kd tg (.Name x p) (u9 i):=by
 with_unfolding_all (
 intro pins s σ H R I h;obtain⟨F,B,ad,as,ds,as',Rl,e,q⟩:=h;unfold u9 at e;cases k0:as[i]? with
 |none=>rw[k0]at e;cases e
 |some s0=>
  rw[k0]at e
  match s0,e,k0 with
  |some (.nd (.dc ks) os),e,k0=>
   obtain⟨⟨ha,hst⟩,e⟩:=ite_some' e;cases e;have hi:=(zzG.mp k0).1;obtain⟨R1,v,hs,ro⟩:=Rl.mv k0;have h0:(yb ad i []) i=[]:=zl;generalize hT:ad i=T at R1 ro;cases ro with
   |dc hH hl rl=>
    rename_i a vs fp;obtain⟨rfl,rp⟩:=MH rl ha hst;refine BR hv pins s σ H R I ⟨a,_,hs,hH,λo=>?_⟩;obtain⟨R2,g2⟩:=R1.wrT (show a ∈ [a] by simp);have g1:Grow (Gw [] ad) H (Gw [a] (yb ad i [])) H:=Grow.less λb z=>by have:=RN (ad:=ad) (i:=i) (a:=b);rw[hT]at this;exact this.mp z
    have nG:¬Gw [] (yb ad i []) a:=λz=>by
     rcases z with z|⟨j,z⟩
     . cases z
     . exact R1.dis j a z (by simp)
    have ga:Gw [] ad a:=.inr ⟨i,by rw[hT];simp⟩;have nB:¬((true=true/\F a)\/B a):=λz=>z.elim (λy=>(Rl.gtr a ga).2 y.2) λy=>(Rl.btr a y).2.2 ga;have R3:=R2.drop;have rp2:RpL X.K kd (Lv F B (Gw [] (yb ad i [])) true) (upd H a (.frz o (.dK (ks.zip vs)))) vs (O.toDs os):=RpL.less (λb z=>z.elim .inl λy=>.inr (Gw.drop b y)) (RpL.grow g2 rp);have R4:=Rel.put R3 (by rw[zzU];exact hi) (.lf (.dct (λz=>z.elim nB nG) (.inr ⟨o,zA⟩) (K_ hl rp2)));have es:σ.set i (some (.ref a))=σ:=List.ext_getElem? λj=>by
     by_cases e:j=i
     . subst e;rw[zyK (zzG.mp hs).1,hs]
     . rw[zzY (Ne.symm e)]
    rw[List.set_set,es]at R4;have le:∀b,Gw [] (yb (yb ad i []) i []) b->Gw [] (yb ad i []) b:=λb z=>by
     rcases z with z|⟨j,z⟩
     . cases z
     . by_cases e:j=i
       . subst e;rw[zl]at z;cases z
       . rw[zp e]at z;exact .inr ⟨j,z⟩
    refine q (t8 a o (ks.zip vs)) _ _ R4 ((g1.trans g2).trans (Grow.less λb z=>Gw.drop b (le b z))) ⟨λad3 H3 g3 _ j=>?_⟩;have h3:=g3.keep a _ zA λz=>nG (le a z);have hz:(ks.zip vs).length=ks.length:=by rw[List.length_zip,hl,Nat.min_self]
    refine⟨λhj=>⟨h3,by rw[zzB]at hj;omega⟩,λhj=>⟨h3,by rw[zzB]at hj;omega⟩,λu H4 hy=>?_⟩;obtain⟨rfl,hu⟩:=hy;refine⟨λ_ _ z=>z,λx hx=>?_⟩;have ek:(ks.zip vs).map (λp=>kV p.1)=ks.map kV:=by
     rw[show(λp:Key×V=>kV p.1)=kV∘Prod.fst from rfl,<-zyB,List.map_fst_zip (by rw[hl];exact zzN _)]
    rw[ek,zzI]at hu;rw[zzI]at hx;cases hk:ks[j]? with
    |none=>rw[hk]at hu;cases hu
    |some k=>
     rw[hk]at hu hx;cases hu;cases hx;cases k with
     |inl n=>exact .int n
     |inr s=>exact .str s
  |some (.nd .ls _),e,_=>cases e
  |some (.nd .tp _),e,_=>cases e
  |some (.nd (.ob _ _) _),e,_=>cases e
  |some (.lf _ _),e,_=>cases e
  |none,e,_=>cases e)
end PF
end
section
namespace L2
open PySem PySem.Spec PyProof.Rows
def ls(b:Nat):List Nat:=(List.range 8).filter b.testBit
noncomputable def X3(led:Bool)(l:List Nat):SetTable:={mask:=if l.length<5 then 7 else 31,place:=l.toArray,dummies:=#[],finger:=0,led:=led,moves:=if l.length<5 then 0 else 1,plain:=true}
noncomputable def V6(led:Bool)(l:List Nat):SetTable:={mask:=if l.length<6 then 7 else 31,place:=l.toArray,dummies:=#[],finger:=0,led:=led,moves:=if l.length<6 then 0 else 1,plain:=true}
def uC:∀led:Bool,∀b,b<256->∀v:Nat,v<8->b.testBit v=false->(X3 led (ls b)).freeSlot (v:Int)=some (v,false):=by decide +kernel
def Cw:∀b,b<256->∀v,v<8->b.testBit v=false->(ls b).take (SetTable.below (ls b).toArray v)++v::(ls b).drop (SetTable.below (ls b).toArray v)=ls (b ||| 2 ^ v):=by decide +kernel
def YH:∀b,b<256->∀v,v<8->(b.testBit v=true->b ||| 2 ^ v=b)/\b ||| 2 ^ v<256/\(b.testBit v=false->(ls (b ||| 2 ^ v)).length=(ls b).length+1)/\(ls b).length<=8/\(v ∈ ls b ↔ b.testBit v=true):=by decide +kernel
def DT:∀led:Bool,∀b,b<256->(ls b).length=5->SetTable.laid 31 0 1 led true ((ls b).map Int.ofNat).toArray=some (X3 led (ls b),(List.range 5).toArray):=by decide +kernel
def uo:∀b,b<256->∀i,i<(ls b).length->SetTable.below (ls b).toArray (match i with|0=>0|j+1=>(ls b).getD j 0+1)=i:=by decide +kernel
def uu:∀b,b<256->SetTable.below (ls b).toArray (match(ls b).length with|0=>0|j+1=>(ls b).getD j 0+1)=(ls b).length:=by decide +kernel
def uK:∀led:Bool,∀b,b<256->((ls b).length=5/\(V6 led (ls b)).tooFull=true)\/(V6 led (ls b)=X3 led (ls b)/\(V6 led (ls b)).tooFull=false):=by decide +kernel
def Pv:∀led:Bool,∀b,b<256->(X3 led (ls b)).fits (ls b).length=true/\(V6 led (ls b)).fits (ls b).length=true:=by decide +kernel
def BV:∀v:Nat,v<8->hashInt v=(v:Int):=by decide +kernel
def Xm(h:Heap)(a:Addr)(led:Bool)(b:Nat):Prop:=∃o es ep,h.get? a=some o/\o.ExactSet/\o.data = .set es ep (X3 led (ls b))/\es.toList.map Prod.fst=(ls b).map Int.ofNat/\∀e ∈ es.toList,∃tk,e.2 = .int e.1 tk
end L2
namespace L2
open PySem PySem.Spec PyProof.Rows
section
variable{es:Array (Int×Value)}{led:Bool}{b v:Nat}{x:Value}
def XE(h:es.toList.map Prod.fst=(ls b).map Int.ofNat):es.size=(ls b).length:=by
 have:=congrArg List.length h
 rwa [zzB,zzB,zyT]at this
def JH(h:es.toList.map Prod.fst=(ls b).map Int.ofNat)(hb:b<256)(hv:v<8)(hn:b.testBit v=false):
 ∃es',layNew (X3 led (ls b)) es (v:Int) x=(es',V6 led (ls (b ||| 2 ^ v)),false,false)/\es'.toList.map Prod.fst=(ls (b ||| 2 ^ v)).map Int.ofNat/\List.Perm es'.toList (es.toList++[((v:Int),x)]):=by
 have hp:(SetTable.insertAt es (SetTable.below (ls b).toArray v) ((v:Int),x)).toList.map Prod.fst=(ls (b ||| 2 ^ v)).map Int.ofNat:=by
  rw[SetTable.toList_insertAt,<-Cw b hb v hv hn,zyM,zyM,zyS,zyS,List.map_take,List.map_drop,List.map_take,List.map_drop,h];rfl
 have hz:=XE hp;have ht:(X3 led (ls b)).put v=(V6 led (ls (b ||| 2 ^ v)),SetTable.below (ls b).toArray v):=by
  have e:SetTable.insertAt (ls b).toArray (SetTable.below (ls b).toArray v) v=(ls (b ||| 2 ^ v)).toArray:=by
   rw[<-Cw b hb v hv hn];refine Array.ext' ?_;rw[SetTable.toList_insertAt]
  have el:=(YH b hb v hv).2.2.1 hn;unfold SetTable.put X3 V6;dsimp only;rw[e,el];have q:((ls b).length+1<6)=((ls b).length<5):=propext ⟨λh=>by omega,λh=>by omega⟩;simp only[q];rfl
 refine⟨_, ?_,hp,by have:=SetTable.insertAt_perm es (SetTable.below (ls b).toArray v) ((v:Int),x);rwa [Array.toList_push]at this⟩;have f8:=(Pv led _ (YH b hb v hv).2.1).2;unfold layNew;rw[uC led b hb v hv hn];dsimp only;rw[ht];dsimp only;rw[hz];unfold SetTable.orStandIn;rw[f8];rfl
def F_(h:es.toList.map Prod.fst=(ls b).map Int.ofNat)(hb:b<256)(h5:(ls b).length=5):
 relayAll (V6 led (ls b)) es (SetTable.grown es.size)=(es,X3 led (ls b),false):=by
 have hz:=(XE h).trans h5;have e1:(V6 led (ls b)).relaid (es.map (·.1)) (SetTable.grown es.size)=some (X3 led (ls b),(List.range 5).toArray):=by
  rw[<-DT led b hb h5,hz];have e2:es.map (·.1)=((ls b).map Int.ofNat).toArray:=by
   refine Array.ext' ?_;rw[Array.toList_map];exact h
  rw[e2];unfold SetTable.relaid V6;rw[h5];rfl
 unfold relayAll;rw[e1];dsimp only;have e3:(List.range 5).toArray.filterMap (es[·]?)=es:=by
  refine Array.ext' ?_;rw[Array.toList_filterMap];rw[<-hz];exact filterMap_getElem?_range es
 rw[e3,hz];have f8:=(Pv led b hb).1;rw[h5]at f8;rw[f8,show coversAll (List.range 5).toArray 5=true by decide +kernel];rfl
end
section
variable{prog:Program}{w:World}{A:Around}{E:Value->Shared->Prop}{s:Shared}{a:Addr}{led:Bool}{b v:Nat}{tk:Tok}
def Bn{es}(hf:es.map Prod.fst=(ls b).map Int.ofNat)(ht:∀e ∈ es,∃tk,e.2 = .int e.1 tk):ElemsOf (intKind prog w) es:=λe he=>by
 obtain⟨t,h⟩:=ht e he;have:e.1 ∈ (ls b).map Int.ofNat:=by rw[<-hf];exact zxE.mpr ⟨e,he,rfl⟩
 obtain⟨n,hn,hn'⟩:=zxE.mp this;have h8:=List.mem_range.mp (List.mem_filter.mp hn).1;exact⟨⟨e.1,by rw[h];exact intKind_is _ _ _ _,by rw[<-hn'];exact(BV n h8).symm⟩,by rw[h];rfl⟩
def Lg{h:Heap}{o}{es}{ep:Nat}{t}(ho:h.get? a=some o)(hd:o.data = .set es ep t)(es')(t'):
 (h.update a (Obj.putSet es' t')).get? a=some {o with data:=.set es' (ep+1) t'}:=by
 have:=zxS (Obj.putSet es' t') ho (by rw[putSet_of es' t' hd];rfl)
 rwa [putSet_of es' t' hd]at this
def AN{Q:Bool->Shared->Prop}(hb:b<256)(hv:v<8)(hS:Xm s.heap a led b)
 (h:∀r h',Heap.SameBut a s.heap h'->Xm h' a led (b ||| 2 ^ v)->Q r {s with heap:=h'}):
 wpAny (model prog w) A (setAddHashed a (.int v tk) v) Q E s:=by
 obtain⟨o,es,ep,ho,hex,hd,hf,ht⟩:=hS;have hel:ElemsOf (intKind prog w) es.toList:=Bn hf ht;have hz:=XE hf;have h8:=(YH b hb v hv).2.2.2.1;have hfit:(X3 led (ls b)).fits es.size=true:=by rw[hz];exact(Pv led b hb).1
 have hkey:(intKind prog w).is v (.int v tk)=true:=intKind_is _ _ _ _;unfold setAddHashed setAddHashedIn;refine zxN (zxG (wpAny_setState_of ho hd hfit ?_));dsimp only;rw[byScan_of rfl (by rw[hz];unfold scanBound;omega) hel];simp only[↓reduceIte];unfold setAddByScan;refine zxG ?_;refine zxG (wpAny_rule ?_);have hh:=(BV v hv).symm;rw[show setScan a (.int v tk) v true es=setScan a (.int v tk) ((intKind prog w).hash v) true es from congrArg (λh=>setScan a (.int v tk) h true es) hh];refine zxG (wpAny_setScan_of hkey ho hd hfit hel ?_);have mem:∀e ∈ es.toList,(intKind prog w).is v e.2=true->b.testBit v=true:=λe he hi=>by
  obtain⟨t,h⟩:=ht e he;rw[h]at hi;have e1:e.1=v:=by simpa[intKind,Value.isInt]using hi
  have:(v:Int) ∈ (ls b).map Int.ofNat:=by rw[<-hf,<-e1];exact zxE.mpr ⟨e,he,rfl⟩
  obtain⟨n,hn,hn'⟩:=zxE.mp this;have:n=v:=by exact Int.ofNat.inj hn'
  subst this;exact((YH b hb n hv).2.2.2.2).mp hn
 cases hr:List.findIdx? (λe=>(intKind prog w).is v e.2) es.toList with
 |some j=>
  dsimp only;obtain⟨hj,hpj,_⟩:=List.findIdx?_eq_some_iff_getElem.mp hr;have hT:=mem _ (zxA hj) hpj;refine zxH (zxH ?_);have:=h false s.heap (Heap.SameBut.refl a s.heap) (by rw[(YH b hb v hv).1 hT];exact⟨o,es,ep,ho,hex,hd,hf,ht⟩);cases s;exact this
 |none=>
  dsimp only;have hn:b.testBit v=false:=by
   cases hk:b.testBit v with
   |false=>rfl
   |true=>
    have:(v:Int) ∈ es.toList.map Prod.fst:=by rw[hf];exact zxE.mpr ⟨v,((YH b hb v hv).2.2.2.2).mpr hk,rfl⟩
    obtain⟨e,he,he1⟩:=zxE.mp this;obtain⟨t,h2⟩:=ht e he;have h3:=List.findIdx?_eq_none_iff.mp hr e he;rw[h2,he1]at h3;rw[intKind_is]at h3;cases h3
  obtain⟨es1,hl,hf1,hp⟩:=JH hf hb hv hn;rw[hl];dsimp only;have ht1:∀e ∈ es1.toList,∃tk,e.2 = .int e.1 tk:=λe he=>by
   rcases zzM.mp (hp.mem_iff.mp he)with q|q
   . exact ht e q
   . rw[zzR.mp q];exact⟨_,rfl⟩
  have hb1:=(YH b hb v hv).2.1;have hz1:es1.size<=8:=by rw[XE hf1,(YH b hb v hv).2.2.1 hn,<-hz,<-zyT];have:=hp.length_eq;rw[zzJ]at this;have:=(YH _ hb1 v hv).2.2.2.1;have:=XE hf1;rw[<-zyT]at this;simp at *;omega
  have hsz:es1.size<=sizeLine:=by rw[sizeLine_eq];omega
  refine zxG (zxH ?_);rw[show(V6 led (ls (b ||| 2 ^ v))).plain=true from rfl];simp only[↓reduceIte];refine zxG ?_;rw[hashByValue_scannable 8 rfl];refine zxH ?_;rw[show plainKind (.int v tk)=true from rfl];simp only[↓reduceIte];refine zxG (wpAny_storeSet_of ho hd ?_ hsz);have ho1:=Lg ho hd es1 (V6 led (ls (b ||| 2 ^ v)));have hsb1:=Heap.SameBut.update s.heap a (Obj.putSet es1 (V6 led (ls (b ||| 2 ^ v))))
  rcases uK led _ hb1 with⟨h5,hF⟩|⟨hE,hF⟩
  . rw[hF];simp only[Bool.not_false,Bool.and_self,↓reduceIte];rw[F_ hf1 hb1 h5];dsimp only;refine zxG (zxH ?_);refine zxG (wpAny_storeSet_of ho1 rfl ?_ hsz);refine zxH (zxH (h true _ (hsb1.trans (Heap.SameBut.update _ a _)) ⟨_,es1,_,Lg ho1 rfl es1 (X3 led (ls (b ||| 2 ^ v))),hex,rfl,hf1,ht1⟩))
  . rw[hF];simp only[Bool.and_false,Bool.false_eq_true,↓reduceIte];rw[hE]at ho1 hsb1 ⊢;exact zxH (zxH (h true _ hsb1 ⟨_,es1,_,ho1,hex,rfl,hf1,ht1⟩))
end
noncomputable def vb(val:Nat->Nat):Nat->Nat
 |0=>0
 |i+1=>vb val i ||| 2 ^ val i
def uD:ls 0=[]:=by decide +kernel
theorem Bo{val}{n:Nat}(h:∀i,i<n->val i<8):∀i,i<=n->vb val i<256
 |0,_=>by show 0<256;decide
 |i+1,hi=>(YH _ (Bo h i (Nat.le_of_succ_le hi)) _ (h i hi)).2.1
section
variable{prog:Program}{w:World}{A:Around}{R:Result->Shared->Prop}{I:Addr}{fp wr:List Addr}{G:Array GenState->Array GenState->Prop}{n:Nat}{P:Nat->Value->Prop}{St:Nat->Shared->Prop}
def Xm.keep{h h'}{a}{led}{b:Nat}(hS:Xm h a led b)(hk:∀o,h.get? a=some o->h'.get? a=some o):Xm h' a led b:=by
 obtain⟨o,es,ep,ho,r⟩:=hS;exact⟨o,es,ep,hk o ho,r⟩
def UX(W:WalksS prog w A.in1 I fp wr G n P St){S}(hSf:S ∉ fp){led}{val}(hval:∀i v,P i v->∃t,v = .int (val i) t)(h8:∀i,i<n->val i<8):
 ∀(k i:Nat) (s:Shared),n-i=k->i<=n->St i s->Xm s.heap S led (vb val i)->
  (∀s',Moved (S::wr) G s s'->Xm s'.heap S led (vb val n)->R (.ok (.ret .none)) s')->
  codeAny (model prog w) A (.builtin "set.update.loop" ⟨[.ref S,.ref I],[]⟩) R s:=by
 have hSw:=λh=>hSf (W.sub _ h);have hsub:∀b ∈ wr,b ∈ S::wr:=λb hb=>zzD _ hb;intro k
 induction k with
 |zero=>
  intro i s hk hi hst hS hR;have hin:i=n:=by omega
  subst hin;refine zxP F.entry_set_update_loop ?_;rw[zxM F.plain_set_update_loop _];refine zxG (W.done s _ _ hst λs' hm=>?_);exact zxH (hR s' (hm.mono hsub) (hS.keep λo=>hm.heap S _ hSw))
 |succ k ih=>
  intro i s hk hi hst hS hR;have hlt:i<n:=by omega
  refine zxP F.entry_set_update_loop ?_;rw[zxM F.plain_set_update_loop _];refine zxG (W.item i s _ _ hlt hst λv s' hP hst' hm=>?_);obtain⟨t,rfl⟩:=hval i v hP;refine zxG (zxN ?_);unfold setAdd;refine zxN (zxG ((intKind prog w).pyHash (intKind_is _ _ _ _) ?_));rw[show(intKind prog w).hash (val i:Int)=(val i:Int)from BV _ (h8 i hlt)];refine AN (Bo h8 i (Nat.le_of_lt hlt)) (h8 i hlt) (hS.keep λo=>hm.heap S _ hSw) λr h' hsb hS2=>?_;refine zxH ⟨zxQ F.plain_set_update_loop _,ih (i+1) _ (by omega) hlt (W.frame _ s' _ _ hst' (zyX _) λb hb o e=>?_) hS2 λs'' hm'' hS''=>?_⟩
  . rw[hsb.2 b (λh:b=S=>hSf (by rw[<-h];exact hb))];exact e
  . refine hR s'' (Moved.trans W.gtrans ((hm.mono hsub).then_heap (zyX _) λb o hb e=>?_) hm'') hS'';rw[hsb.2 b (λh:b=S=>hb (by rw[h];exact zzF))];exact e
end
section
variable{prog:Program}{w:World}{A:Around}{E:Value->Shared->Prop}{s:Shared}
def wV(w:World):Bool:=!w.params.followText "set-order"
abbrev ZI(w:World):Obj:={cls:=.type "set",dict:=none,data:=.set #[] 0 (.fresh 0 0 (wV w))}
def Ol(a){Q}(h:Q (.ref s.heap.objs.size) {s with heap:=s.heap.push (ZI w)}):
 codeAny (model prog w) A (.call (.builtin "set.__new__") ⟨[.type "set",a],[]⟩) (wants Q E) s:=by
 refine codeAny_of_tree ?_;refine zxG (wpAny_of_eq (F.newCall_set_1 a) (zxH ⟨zxQ F.plain_set_new _,zxP F.entry_set_new ?_⟩));rw[zxM F.plain_set_new _];unfold Builtin.«set.__new__» Builtin.Frozenset.newClass;have hsub:=sub_set_self;obtain⟨hp,g,d,tk,os⟩:=s;dsimp only
 wp_walk
 refine wpAny_askSetting (zxH ?_);dsimp only;simp only[newObj];refine zxG (wpAny_alloc (zxH ?_));exact zxH h
set_option maxHeartbeats 3200000 in
def uh{l}{items}{val}{Q}
 (hh:A.handled=none) (hl:s.heap.IsList l items) (hv:∀i (v:Value),items[i]? = some v->∃t,v = .int (val i) t) (h8:∀i,i<items.size->val i<8)
 (h:∀(h':Heap) (tk:Nat),Xm h' s.heap.objs.size (wV w) (vb val items.size)->(∀b o,s.heap.get? b=some o->h'.get? b=some o)->Q (.ref s.heap.objs.size) {s with heap:=h',toks:=tk}):
 wpAny (model prog w) A (call (.type "set") [.ref l]) Q E s:=by
 obtain⟨c,tl,hmro⟩:=F.called_set.mro;have hmade:=F.called_set.made;have hsub:=F.called_set.sub;refine wpAny_call (codeAny_of_tree ?_);refine zxH ⟨Code.quiet_builtin _ (by decide +kernel),zxP F.entry_type_call ?_⟩;rw[Around.under_plain (weight_type_call_type "set" [.ref l] []) rfl];have h1:=F.called_set.notType;have h2:=F.called_set.canCreate;have hct:=F.typeCall_set_1 (.ref l)
 repeat (any_goals (first|assumption|wp_step))
 refine codeAny_mono (Ol (.ref l) (E:=E) (Q:=λobj s₁=>obj = .ref s.heap.objs.size/\s₁={s with heap:=s.heap.push (ZI w)}) ⟨rfl,rfl⟩) λr s₁ hr=>?_;cases r with
 |error e=>exact hr
 |ok fl=>
  cases fl with
  |ret obj=>
   obtain⟨rfl,rfl⟩:=hr;have hS:(s.heap.push (ZI w)).get? s.heap.objs.size=some (ZI w):=zxK _ rfl;have hT:Shared.TypeIs {s with heap:=s.heap.push (ZI w)} (.ref s.heap.objs.size) "set":=⟨_,hS,rfl⟩;have hli:=F.called_set.init.lookup;have hbi:=F.called_set.init.bind (.ref s.heap.objs.size)
   repeat (any_goals (first|assumption|wp_step))
   refine codeAny_mono (codeAny_call_builtin (R:=wants (λr s₂=>r = .none/\∃h' tk,s₂={s with heap:=h',toks:=tk}/\
    Xm h' s.heap.objs.size (wV w) (vb val items.size)/\(∀b o,s.heap.get? b=some o->h'.get? b=some o)) E) F.called_set.init.plain F.entry_set_init (check_set_init_1 hT ?_)) λr₂ s₂ hr₂=>?_
   . obtain⟨ol,hol,hcl,nl,hdl⟩:=hl;obtain⟨ocls,odict,odata,oslots⟩:=ol;simp only at hcl hdl;subst hcl;subst hdl;have hol':(s.heap.push (ZI w)).get? l=some {cls:=.type "list",dict:=odict,data:=.seq items nl,slots:=oslots}:=zxI _ hol;have hsls:=F.sub_list_set;have hslf:=F.sub_list_frozenset;have hne:(Value.type "list"==Value.type "dict")=false:=by decide
     have hl1:(s.heap.push (ZI w)).IsList l items:=⟨_,hol',rfl,nl,rfl⟩;unfold Builtin.«set.__init__» noKeywords Builtin.Frozenset.updateFrom;generalize hPI:pyIter=PI
     wp_walk
     subst hPI;refine wpAny_pyIter_list hl1 ?_;refine zxG (wpAny_runValue ?_);have hlS:=zxJ hol;have hh3:A.in1.in1.in1.handled=none:=by simp[hh]
     have hneI:l≠(s.heap.push (ZI w)).objs.size:=by rw[zxR];exact zzQ (zxB hlS)
     have hSf:s.heap.objs.size ∉ [(s.heap.push (ZI w)).objs.size,l]:=by
      rw[zxR];simp only[zzC,zzR,zxC,or_false,not_or];exact⟨zzQ (Nat.lt_succ_self _),Nat.ne_of_gt hlS⟩
     refine UX (led:=wV w) ((Walks.list hh3 _ l hneI items).toS) hSf hv h8 (items.size-0) 0 _ (by omega) (Nat.zero_le _) ⟨⟨_,zxK _ rfl,rfl,rfl⟩,(hl1.push _)⟩
      ⟨ZI w,#[],0,zxI _ hS,⟨rfl,rfl,rfl⟩,(by show _=Data.set #[] 0 (X3 (wV w) (ls 0));rw[uD];rfl),(by show[]=List.map Int.ofNat (ls 0);rw[uD];rfl),λe he=>by simp at he⟩ λs' hm hS'=>?_
     obtain⟨h',g',d',tk',os'⟩:=s';have eg:g'=s.gens:=hm.gens;have ed:d'=s.drawn:=hm.drawn;have eo:os'=s.os:=hm.os;subst eg;subst ed;subst eo;show wpAny _ _ _ _ _ _;refine zxH ?_;refine zxH ⟨rfl,h',tk',rfl,hS',λb o e=>hm.heap b o ?_ (zxI _ (zxI _ e))⟩;have hb:=zxJ e;simp only[zzC,zzR,zxC,or_false,not_or];exact⟨zzQ hb,by rw[zxR];exact zzQ (zxB hb)⟩
   . cases r₂ with
     |error e=>exact hr₂
     |ok fl₂=>
      cases fl₂ with
      |ret r=>
       obtain⟨rfl,h',tk,rfl,hS',hk'⟩:=hr₂
       repeat (any_goals (first|assumption|wp_step))
       exact h _ _ hS' hk'
      |_=>exact hr₂.elim
  |_=>exact hr.elim
end
theorem vH:Slot "set_iterator" "__next__" "set_iterator.__next__":=
 .of (owner:="set_iterator") (n:="__next__") (by rw[typeLookup_type,builtinLookup_eq_fast];kernel_rfl) (by decide +kernel) (by decide +kernel) (by decide +kernel) (by first|exact .inl (by decide +kernel)|exact .inr (by decide +kernel)) (by rw[isSubtype_type];kernel_rfl)
theorem RT:entryFor table "set_iterator.__next__"=some Builtin.«set_iterator.__next__» := entryFor_of_tree (by kernel_rfl)
theorem T6(a):argsOk "set_iterator.__next__" ⟨[a],[]⟩:=by unfold argsOk;kernel_rfl
theorem Vd:Slot "set_iterator" "__iter__" "set_iterator.__iter__":=
 .of (owner:="set_iterator") (n:="__iter__") (by rw[typeLookup_type,builtinLookup_eq_fast];kernel_rfl) (by decide +kernel) (by decide +kernel) (by decide +kernel) (by first|exact .inl (by decide +kernel)|exact .inr (by decide +kernel)) (by rw[isSubtype_type];kernel_rfl)
theorem Pe:entryFor table "set_iterator.__iter__"=some Builtin.«dict_keyiterator.__iter__» := entryFor_alias (id':="dict_keyiterator.__iter__") (by kernel_rfl) rfl (by decide +kernel) (by kernel_rfl)
theorem GA(a):argsOk "set_iterator.__iter__" ⟨[a],[]⟩:=by unfold argsOk;kernel_rfl
theorem Rg:entryFor table "set.__iter__"=some Builtin.«frozenset.__iter__» := entryFor_alias (id':="frozenset.__iter__") (by kernel_rfl) rfl (by decide +kernel) (by kernel_rfl)
theorem Mg{α:Type}{next}:∀(f k:Nat) (l:List α) (out:Array α),l.length<=f->List.Perm (pickOrder.go next f k l out).toList (out.toList++l)
 |0,k,l,out,h=>by
  have:l=[]:=List.length_eq_zero_iff.mp (by omega);subst this;rw[zyE];exact .refl _
 |f+1,k,[],out,h=>by rw[zyE];exact .refl _
 |f+1,k,x::l,out,h=>by
  have hi:next k%(x::l).length<(x::l).length:=Nat.mod_lt _ (by simp);unfold pickOrder.go;rw[zzE hi];dsimp only;refine(Mg f (k+1) _ _ (by rw[List.length_eraseIdx_of_lt hi];simp at h ⊢;omega)).trans ?_;rw[Array.toList_push,zxD];refine List.Perm.append_left _ ?_;rw[List.eraseIdx_eq_take_drop_succ];refine(show List.Perm ((x::l)[next k%(x::l).length]::((x::l).take (next k%(x::l).length)++(x::l).drop (next k%(x::l).length+1))) _ from List.perm_middle.symm).trans ?_;rw[<-zyQ hi,List.take_append_drop]
def E8{α:Type}(next)(xs:Array α):List.Perm (pickOrder next xs).toList xs.toList:=by
 have:=Mg (next:=next) xs.size 0 xs.toList #[] (by rw[zyT];exact zzN _);rw[List.nil_append]at this;exact this
noncomputable def Yp(w:World)(a ep:Nat)(es:Array (Int×Value)):Array (Int×Value):=if w.params.followText "set-order"=true then pickOrder (w.params.setOrder a ep) es else es
def Y3(w)(a ep:Nat)(es:Array (Int×Value)):List.Perm (Yp w a ep es).toList es.toList:=by
 unfold Yp
 split
 . exact E8 _ _
 . exact .refl _
noncomputable def sl(w:World)(b i:Nat):Nat:=if w.params.followText "set-order"=true then 0 else match i with|0=>0|j+1=>(ls b).getD j 0+1
abbrev X6(f i a n ep:Nat):Obj:={cls:=.type "set_iterator",data:=.fields #[.int f 0,.int i 0,.ref a,.int n 0,.int ep 0]}
section
variable{prog:Program}{w:World}{A:Around}{E:Value->Shared->Prop}{s:Shared}{a I:Addr}{b i ep:Nat}{o:Obj}{es:Array (Int×Value)}
def Sy{Q}(ho:s.heap.get? a=some o)(hex:o.ExactSet)(hd:o.data = .set es ep (X3 (wV w) (ls b)))(hf:(X3 (wV w) (ls b)).fits es.size=true)
 (h:Q (.ref s.heap.objs.size) {s with heap:=s.heap.push (X6 0 0 a es.size ep)}):wpAny (model prog w) A (pyIter (.ref a)) Q E s:=by
 have hT:s.TypeIs (.ref a) "set":=⟨o,ho,hex.1⟩;refine wpAny_pyIter_slot hT F.slot_set_iter (zxU F.slot_set_iter hT Rg ?_ (F.args_set_iter_1 _));unfold Builtin.«frozenset.__iter__»;refine zxG ?_;refine(zxH ?_);refine zxG ?_;unfold Builtin.Frozenset.sizeOf;refine zxG (wpAny_setEntries_of ho hd hf (zxH ?_));refine zxG ?_;unfold setDrawn;refine zxG (wpAny_setState_of ho hd hf ?_);dsimp only;unfold setsByText;refine zxG (zxG (wpAny_askSetting (zxH ?_)));refine zxH ?_;rw[if_neg (by intro h;rw[zyC]at h;cases h.2)];refine zxG (zxH ?_);refine zxG (wpAny_setEpoch_of ho hd hf ?_);refine zxG (zxL (zxH ⟨_,rfl,"set_iterator",_,⟨_,zxK _ rfl,rfl⟩,vH.lookup,h⟩) ?_);exact zzO (show 5<=1000 by decide) (zzO (by decide:1000<=sizeLine) (Nat.le_add_right _ _))
def O9{Q}(hb:b<256)(ho:s.heap.get? a=some o)(hd:o.data = .set es ep (X3 (wV w) (ls b)))(hz:es.size=(ls b).length)(hi:i<=es.size)
 (h:Q ((Yp w a ep es)[i]?.map λe=>(e.2,sl w b (i+1))) s):wpAny (model prog w) A (setNext a (sl w b i) i ep) Q E s:=by
 have hf:(X3 (wV w) (ls b)).fits es.size=true:=by rw[hz];exact(Pv _ b hb).1
 unfold setNext;refine zxG (wpAny_setState_of ho hd hf ?_);dsimp only;unfold setsByText;refine zxG (zxG (wpAny_askSetting (zxH ?_)));show wpAny _ _ (if w.params.followText "set-order"=true then _ else _) _ _ _;cases hw:w.params.followText "set-order" with
 |true=>
  rw[if_pos rfl,if_neg (by simp)];unfold setWalk;refine zxG (zxG (wpAny_setState_of ho hd hf ?_));dsimp only;unfold setsByText;refine zxG (zxG (wpAny_askSetting (zxH ?_)));show wpAny _ _ (if w.params.followText "set-order"=true then _ else _) _ _ _;rw[if_pos hw];refine zxG (wpAny_askSetting (zxH (zxH ?_)));have e:(Yp w a ep es)[i]?.map (λe=>(e.2,sl w b (i+1)))=((pickOrder ((model prog w).w.params.setOrder a ep) es)[i]?).map λe=>(e.2,sl w b i):=by unfold Yp sl;rw[hw];rfl
  rw[<-e];exact h
 |false=>
  rw[if_neg (by simp)];rw[show wV w=true by unfold wV;rw[hw];rfl];refine(zxG (zxH ?_));refine(zxG (zxH ?_));have e1:SetTable.below (ls b).toArray (sl w b i)=i:=by
   unfold sl;rw[hw]
   rcases Nat.lt_or_ge i (ls b).length with q|q
   . exact uo b hb i q
   . have:i=(ls b).length:=by omega
     subst this;exact uu b hb
  refine zxH ?_;show Q (match es[SetTable.below (ls b).toArray (sl w b i)]?,(ls b).toArray[SetTable.below (ls b).toArray (sl w b i)]? with|some (_,x),some j=>some (x,j+1)|_,_=>none) s;rw[e1];have e2:(Yp w a ep es)[i]?.map (λe=>(e.2,sl w b (i+1)))=match es[i]?,(ls b).toArray[i]? with|some (_,x),some j=>some (x,j+1)|_,_=>none:=by
   have q1:Yp w a ep es=es:=by unfold Yp;rw[if_neg (by rw[hw];simp)]
   have q2:sl w b (i+1)=(ls b).getD i 0+1:=by unfold sl;rw[if_neg (by rw[hw];simp)]
   rw[q1,q2]
   rcases Nat.lt_or_ge i (ls b).length with q|q
   . rw[Array.getElem?_eq_getElem (by omega),List.getElem?_toArray,zzE q,zyF,zzE q];rfl
   . rw[Array.getElem?_eq_none (by omega)];rfl
  rw[<-e2];exact h
def Ik{Q}(hh:A.handled=none)(hb:b<256)(ho:s.heap.get? a=some o)(hd:o.data = .set es ep (X3 (wV w) (ls b)))(hz:es.size=(ls b).length)(hi:i<=es.size)
 (hit:s.heap.get? I=some (X6 (sl w b i) i a es.size ep))
 (h1:∀x h',(Yp w a ep es)[i]? = some x->h'.get? I=some (X6 (sl w b (i+1)) (i+1) a es.size ep)->Heap.SameBut I s.heap h'->Q (some x.2) {s with heap:=h'})
 (h2:(Yp w a ep es)[i]? = none->∀h',Heap.ExtBut I s.heap h'->Q none {s with heap:=h'}):wpAny (model prog w) A (pyNext (.ref I)) Q E s:=by
 have hf:(X3 (wV w) (ls b)).fits es.size=true:=by rw[hz];exact(Pv _ b hb).1
 have hT:s.TypeIs (.ref I) "set_iterator":=⟨_,hit,rfl⟩;unfold pyNext;refine zxG (wpAny_attempt (wpAny_callSpecial?_slot hT vH (zxU vH hT RT ?_ (T6 _))));unfold Builtin.«set_iterator.__next__»;refine zxG (zxH ?_);refine zxG (wpAny_fieldsOf hit rfl ?_);dsimp only;refine zxG (wpAny_setEntries_of ho hd hf ?_);rw[if_neg (by simp)];refine(zxG ?_);rw[zyI,zyI,zyI];refine O9 hb ho hd hz hi ?_;cases hx:(Yp w a ep es)[i]? with
 |some x=>
  refine zxG (wpAny_setField_rec hit (by show 0<5;decide) λk1 g1 sb1=>?_);refine zxG (wpAny_setField_rec g1 (by show 1<5;decide) λk2 g2 sb2=>?_);exact zxH ⟨_,rfl,zxH (h1 x k2 hx g2 (sb1.trans sb2))⟩
 |none=>
  refine zxG (wpAny_setField_rec hit (by show 2<5;decide) λk1 g1 sb1=>?_);refine zxG ?_;unfold newExc;refine zxG (zxL (zxG (wpAny_of_eq (Eq.refl (firstArgMember (Value.type "StopIteration") [])) (zxL ?_ (sizeOk_excFields _ _ _ _ _ _ _ _)))) ?_)
  . unfold raiseNew;refine zxG (wpAny_handled ?_);have hh':A.in1.handled=none:=hh;rw[hh'];refine zxG (zxH ?_);refine wpAny_throw (zxG (wpAny_isInstance ⟨_,zxK _ rfl,rfl⟩ isSubtype_stop (zxH (h2 hx _ λb u hb e=>zxI _ (zxI _ ?_)))));exact(sb1.2 b hb).trans e
  . exact Nat.zero_le _
end
end L2
namespace L2
open PySem PySem.Spec PyProof.Rows
def EK{prog}{w}{A}{a I}{b ep:Nat}{o}{es}(hh:A.handled=none)(hne:a≠I)(hb:b<256)(hd:o.data = .set es ep (X3 (wV w) (ls b)))(hz:es.size=(ls b).length):
 Walks prog w A I [I,a] [I] es.size (λi v=>∃x,(Yp w a ep es)[i]? = some x/\v=x.2) (λi h=>h.get? I=some (X6 (sl w b i) i a es.size ep)/\h.get? a=some o/\i<=es.size)where
 sub:=λb hb=>by simp at hb;simp[hb]
 frame:=λ_ _ _ st hk=>⟨hk I (by simp) _ st.1,hk a (by simp) _ st.2.1,st.2.2⟩
 item:=λi s Q E hi st hQ=>by
  refine Ik hh hb st.2.1 hd hz st.2.2 st.1 (λx h' hx hg sb=>?_) λhx=>?_
  . exact hQ _ h' s.toks ⟨x,hx,rfl⟩ ⟨hg,(sb.2 a hne).trans st.2.1,hi⟩ λc u hc e=>sb.extBut c u (λq=>hc (by simp[q])) e
  . have e:(Yp w a ep es).size=es.size:=by have:=(Y3 w a ep es).length_eq;simpa using this
    rw[Array.getElem?_eq_none_iff]at hx;omega
 done:=λs Q E st hQ=>by
  refine Ik hh hb st.2.1 hd hz st.2.2 st.1 (λx h' hx hg sb=>?_) λhx h' he=>hQ h' s.toks λc u hc e=>he c u (λq=>hc (by simp[q])) e;have e:(Yp w a ep es).size=es.size:=by have:=(Y3 w a ep es).length_eq;simpa using this
  rw[Array.getElem?_eq_none (by omega)]at hx;cases hx
 self:=λi s Q E st hQ=>by
  have hT:s.TypeIs (.ref I) "set_iterator":=⟨_,st.1,rfl⟩;refine wpAny_pyIter_slot hT Vd (zxU Vd hT Pe ?_ (GA _));exact zxH ⟨_,rfl,"set_iterator",_,hT,vH.lookup,hQ⟩
def NY:typeLookup (.type "set") "__len__"=pure (some (.builtin "set.__len__")):=F.slot_set_len.lookup
section
variable{prog:Program}{w:World}{A:Around}{E:Value->Shared->Prop}{s:Shared}{a:Addr}{b:Nat}
theorem Ki{Q}(hh:A.handled=none)(hb:b<256)(hS:Xm s.heap a (wV w) b)
 (h:∀h' tk vs,s.heap.objs.size<h'.objs.size->(∀c u,s.heap.get? c=some u->h'.get? c=some u)->(∃ns,IntsAre vs ns/\ns.Perm ((ls b).map Int.ofNat))->Q vs {s with heap:=h',toks:=tk}):
 wpAny (model prog w) A (collect (.ref a)) Q E s:=by
 obtain⟨o,es,ep,ho,hex,hd,hf,ht⟩:=hS;have hz:=XE hf;have hfit:(X3 (wV w) (ls b)).fits es.size=true:=by rw[hz];exact(Pv _ b hb).1
 have h8:es.size<=8:=by rw[hz];exact(YH b hb 0 (by decide)).2.2.2.1
 have hsz:s.heap.objs.size≠a:=Nat.ne_of_gt (zxJ ho);unfold collect;refine zxG (wpAny_runValue (zxP F.entry_proto_collect ?_));rw[zxM F.plain_proto_collect _];refine zxG (zxL ?_);refine zxH ⟨zxQ F.plain_list_iadd _,zxP F.entry_list_iadd ?_⟩;rw[zxM F.plain_list_iadd _];show wpAny _ A.in1 (Builtin.List.listExtendWith (.ref s.heap.objs.size) (.ref a) (.ref s.heap.objs.size)) _ _ _;have ho1:(s.heap.push {cls:=.type "list",data:=.seq ([]:List Value).toArray}).get? a=some o:=zxI _ ho;unfold Builtin.List.listExtendWith;refine zxG (wpAny_typeOf (T:="set") ⟨o,ho1,hex.1⟩ ?_);have h1:Builtin.List.listSameRef (.ref s.heap.objs.size) (.ref a)=false:=by simp[Builtin.List.listSameRef,hsz]
 have h2:(Value.type "set"==Value.type "list")=false:=by decide
 have h3:(Value.type "set"==Value.type "tuple")=false:=by decide
 simp only[h1,h2,h3,Bool.or_false,Bool.false_eq_true,if_false];refine zxG (Sy ho1 hex hd hfit ?_);generalize hH:s.heap.push {cls:=.type "list",data:=.seq ([]:List Value).toArray}=H at ho1 ⊢;have hHs:H.objs.size=s.heap.objs.size+1:=by rw[<-hH,zxR]
 have ho2:(H.push (X6 0 0 a es.size ep)).get? a=some o:=zxI _ ho1;refine zxG (zxN ?_);unfold Builtin.List.listLengthHint;refine zxG (wpAny_specialOf (T:="set") ⟨o,ho2,hex.1⟩ NY ?_)
 wp_delta
 refine zxG (wpAny_isInstance (T:="set") (b:=true) ⟨o,ho2,hex.1⟩ (by rw[isSubtype_type];kernel_rfl) ?_);refine zxG (wpAny_typeOf (T:="set") ⟨o,ho2,hex.1⟩ ?_);refine zxH ?_;rw[if_pos (by decide)];refine zxG (wpAny_rule ?_);have hS₁:(H.push (X6 0 0 a es.size ep)).get? s.heap.objs.size=some {cls:=.type "list",data:=.seq ([]:List Value).toArray}:=zxI _ (hH ▸ zxK _ rfl);refine zxG ?_;refine zxG (wpAny_updateSeq hS₁ rfl ?_);have hS₂:=zxS (Obj.mapSeq (·.push Value.none)) hS₁ rfl;refine wpAny_updateSeq hS₂ rfl ?_;have hS₃:=zxS (Obj.mapSeq (·.pop)) hS₂ rfl;generalize hK:(H.push (X6 0 0 a es.size ep)).update s.heap.objs.size (Obj.mapSeq (·.push Value.none))=K1 at hS₂ hS₃ ⊢;have oth:∀c u,c≠s.heap.objs.size->(H.push (X6 0 0 a es.size ep)).get? c=some u->(K1.update s.heap.objs.size (Obj.mapSeq (·.pop))).get? c=some u:=
  λc u hc e=>by rw[<-hK];exact(zxO _ _ (Ne.symm hc)).trans ((zxO _ _ (Ne.symm hc)).trans e)
 have hne:a≠H.objs.size:=by rw[hHs];exact zzQ (zxB (zxJ ho))
 have hSf:s.heap.objs.size ∉ [H.objs.size,a]:=by
  simp only[zzC,zxC,or_false,not_or];exact⟨by omega,hsz⟩
 have hI:(H.push (X6 0 0 a es.size ep)).get? H.objs.size=some (X6 0 0 a es.size ep):=zxK _ rfl;have s0:sl w b 0=0:=by unfold sl;split<;>rfl
 refine zxH ⟨zxQ F.plain_extend_loop _,codeAny_extend_loopS (EK (w:=w) (by simpa using hh) hne hb hd hz).toS (by rw[sizeLine_eq];omega) _ hSf _ es.size 0 _ _ _ rfl (Nat.zero_le _)
  ⟨by rw[s0];exact oth _ _ (by omega) hI,oth _ _ (Ne.symm hsz) ho2,Nat.zero_le _⟩ hS₃ (ItemsOf.nil _) λs' acc' c' hm hS' hacc=>?_⟩
 refine zxG (wpAny_load hS' ?_);obtain⟨h',g',d',tk',os'⟩:=s';have eg:g'=s.gens:=hm.gens;have ed:d'=s.drawn:=hm.drawn;have eo:os'=s.os:=hm.os;subst eg;subst ed;subst eo;refine zxH (h h' tk' _ (zxJ hS') (λc u e=>?_) ?_)
 . have hc:=zxJ e;refine hm.heap c u (λq=>?_) (oth c u (zzQ hc) (zxI _ (hH ▸ zxI _ e)))
   rcases zzC.mp q with q|q
   . exact absurd hc (q ▸ Nat.lt_irrefl _)
   . rw[zzR.mp q,hHs]at hc;exact absurd hc (Nat.not_lt.mpr (zyX _))
 . have el:(Yp w a ep es).size=es.size:=by have:=(Y3 w a ep es).length_eq;simpa using this
   have e1:acc'.toList=(Yp w a ep es).toList.map Prod.snd:=by
    refine List.ext_getElem? λj=>?_;rw[zzI,Array.getElem?_toList,Array.getElem?_toList]
    rcases Nat.lt_or_ge j es.size with q|q
    . have hj:j<acc'.size:=by rw[hacc.1];exact q
      obtain⟨x,hx,hx'⟩:=hacc.2 j _ (Array.getElem?_eq_getElem hj);rw[Array.getElem?_eq_getElem hj,hx,hx'];rfl
    . rw[Array.getElem?_eq_none (by rw[hacc.1];exact q),Array.getElem?_eq_none (by omega)];rfl
   refine⟨(Yp w a ep es).toList.map Prod.fst, ?_, ?_⟩
   . rw[e1];have ht':∀e ∈ (Yp w a ep es).toList,∃tk,e.2 = .int e.1 tk:=λe he=>ht e ((Y3 w a ep es).mem_iff.mp he);generalize (Yp w a ep es).toList=L at ht'
     induction L with
     |nil=>exact .nil
     |cons e L ih=>
      obtain⟨tk,h⟩:=ht' e (zzF ..);show IntsAre (e.2::_) (e.1::_);rw[h];exact .cons _ _ (ih λe' he'=>ht' e' (zzD _ he'))
   . rw[<-hf];exact(Y3 w a ep es).map _
def NV{Q}(hh:A.handled=none)(hb:b<256)(hS:Xm s.heap a (wV w) b)
 (h:∀h' tk c (out:Array Value) (ns:List Int) e,s.heap.objs.size<=c->(∀c u,s.heap.get? c=some u->h'.get? c=some u)->h'.get? c=some (seqObj "list" out e)->IntsAre out.toList ns->ns.Perm ((ls b).map Int.ofNat)->ns.Pairwise (· <= ·)->Q (.ref c) {s with heap:=h',toks:=tk}):
 wpAny (model prog w) A (call (.builtin "sorted") [.ref a]) Q E s:=by
 refine Calls.call_function_entry kind_sorted plain_sorted entry_sorted (args_sorted1 _) ?_;unfold Builtin.«sorted»;refine zxG (zxH ?_);refine zxG (Ki (by simpa using hh) hb hS λh1 tk vs hle hk ⟨ns,hI,hp⟩=>?_);have hoL:(h1.push (seqObj "list" vs.toArray 0)).get? h1.objs.size=some (seqObj "list" vs.toArray 0):=zxK _ rfl;have h64:vs.length<64:=by
  have e1:=hI.length;have e2:=hp.length_eq;have e3:=(YH b hb 0 (by decide)).2.2.2.1;rw[zzB]at e2;omega
 refine zxG (wpAny_newList ?_);refine zxG (zxN (zxU slot_list_sort ⟨_,hoL,rfl⟩ entry_list_sort (list_sort_tree hoL hI h64 λout ns' a1 a2 a3=>⟨_,rfl, ?_⟩) (args_list_sort _)));obtain⟨e,he⟩:=sortedHeap_at hoL;refine zxH ⟨_,rfl,h _ tk h1.objs.size out ns' e (Nat.le_of_lt hle) (λc u e=>?_) he a1 (a2.trans hp) a3⟩;have hc:=zxJ (hk c u e);rw[sortedHeap_old (zzQ hc) (by rw[zxR];exact zxB hc)];exact zxI _ (hk c u e)
end
end L2
end
section
namespace PF
open PySem PySem.Spec PyProof.Rows L2
theorem T8{v}:∀(ns acc:List Int),v ∈ ns.foldl step_dedup acc ↔ v ∈ acc\/v ∈ ns
 | [],acc=>by simp
 |n::ns,acc=>by
  rw[List.foldl_cons,T8 ns,zzC];unfold step_dedup
  split
  . rename_i h;obtain⟨y,h1,h2⟩:=List.any_eq_true.mp h;have:=of_decide_eq_true (show decide (y=n)=true by simpa using h2);subst this;exact⟨λz=>z.elim .inl λz=>.inr (.inr z),λz=>z.elim .inl λz=>z.elim (λe=>.inl (e ▸ h1)) .inr⟩
  . rw[zzM,zzR,or_assoc]
theorem L4:∀(ns acc:List Int),acc.Nodup->(ns.foldl step_dedup acc).Nodup
 | [],acc,h=>h
 |n::ns,acc,h=>by
  rw[List.foldl_cons];refine L4 ns _ ?_;unfold step_dedup
  split
  . exact h
  . rename_i q;refine zxF.mpr ⟨h,zzW.mpr ⟨zxC,zyJ⟩,λa ha b hb=>?_⟩;rw[zzR.mp hb]
    rintro rfl
    exact q (List.any_eq_true.mpr ⟨a,ha,by simp⟩)
theorem L9{val}{v:Nat}:∀n,(vb val n).testBit v=true ↔ ∃i,i<n/\val i=v
 |0=>by rw[show vb val 0=0 from rfl,Nat.zero_testBit];exact⟨λh=>Bool.noConfusion h,λ⟨i,h,_⟩=>absurd h (Nat.not_lt_zero _)⟩
 |n+1=>by
  rw[show vb val (n+1)=vb val n ||| 2 ^ val n from rfl,Nat.testBit_or,Bool.or_eq_true,L9 n,Nat.testBit_two_pow,decide_eq_true_eq];constructor
  . rintro(⟨i,h1,h2⟩|h)
    . exact⟨i,by omega,h2⟩
    . exact⟨n,by omega,h⟩
  . rintro⟨i,h1,h2⟩
    rcases Nat.lt_or_ge i n with q|q
    . exact .inl ⟨i,q,h2⟩
    . have:i=n:=by omega
      exact .inr (this ▸ h2)
def valN(ns:List Int)(i:Nat):Nat:=(ns.getD i 0).toNat
def Ez{ns}(h:∀n ∈ ns,0<=n/\n<8):List.Perm ((ls (vb (valN ns) ns.length)).map Int.ofNat) (RX ns):=by
 refine(List.perm_ext_iff_of_nodup ?_ (L4 ns [] zyJ)).mpr λv=>?_
 . exact List.pairwise_map.mpr (List.Pairwise.imp (λh e=>h (Int.ofNat.inj e)) (List.Pairwise.filter _ List.nodup_range))
 . show _ ↔ v ∈ ns.foldl step_dedup [];rw[T8,zxE];constructor
   . rintro⟨n,h1,rfl⟩
     obtain⟨i,hi,e⟩:=(L9 _).mp (List.mem_filter.mp h1).2;have hm:=zxA hi;unfold valN at e;rw[zyF,zzE hi]at e;have:=(h _ hm).1;exact .inr (by rw[show Int.ofNat n=ns[i]from by rw[<-e];exact zyZ this];exact hm)
   . rintro(z|z)
     . cases z
     . obtain⟨i,hi,e⟩:=List.getElem_of_mem z;have hb:=h v z;refine⟨v.toNat,List.mem_filter.mpr ⟨List.mem_range.mpr (by omega),(L9 _).mpr ⟨i,hi, ?_⟩⟩,zyZ hb.1⟩;unfold valN;rw[zyF,zzE hi];exact congrArg Int.toNat e
def E3:bootBuiltins "sorted"=some (.builtin "sorted"):=by decide +kernel
section
variable{X:Cx}{kd:KD}
def q9(K:zzA)(ta:TA):TE:=λσ H Q=>ta σ H λvs H1=>∃r ys ns,vs=[.ref r]/\Q1 K H1 r ys/\(∀us,zK ys us->IntsAre us ns)/\(∀n ∈ ns,0<=n/\n<8)/\ns.length<64/\∀c,H1 c=none->Q (.ref c) (upd H1 c (.lst ((sortI (RX ns)).map V.int)))
def OH(ns):(RX ns).length<=ns.length:=by
 have:∀(ns acc:List Int),(ns.foldl step_dedup acc).length<=acc.length+ns.length:=λns=>by
  induction ns with
  |nil=>intro acc;exact zzN _
  |cons n ns ih=>
   intro acc;rw[List.foldl_cons];refine zzO (ih _) ?_;unfold step_dedup
   split
   . rw[zzT];omega
   . rw[zzJ,zzT,zzT];simp;omega
 have h:=this ns [];simpa[RX]using h
def NA{a}{ta}{p p' pos pos'}(hc:X.calm=true)(hg:Gl X "set")(hm:X.mg "set"=none)(hgl:Gl X "sorted")(hml:X.mg "sorted"=none)(ha:PA X [a] ta)(hs:starEach [a] X.env=[(false,eval a X.env)])
 (hs':starEach [.Call (.Name "set" p) [a] [] pos] X.env=[(false,eval (.Call (.Name "set" p) [a] [] pos) X.env)]):PE X (.Call (.Name "sorted" p') [.Call (.Name "set" p) [a] [] pos] [] pos') (q9 X.K ta):=by
 intro pins s σ H Q I h;refine wpAny_Call_Name_kw (ZM I hgl hml E3 (PyProof.Rows.callWith_builtin1 ?_ hs' rfl));rw[hs'];refine Calls.spliced_cons ?_;refine wpAny_Call_Name_kw (ZM I hg hm AJ (PyProof.Rows.callWith_type1 (thn (ha pos pins s σ H _ I h) λus s1 ⟨vs,H1,I1,r1,q1⟩=>?_) hs rfl));obtain⟨r,ys,ns,rfl,sq,hss,h8,hz,q⟩:=q1;cases r1 with
 |cons rr rs=>
  cases rs;cases rr;obtain⟨its,rv,pl,_⟩:=I1.list sq;have hS:=hss its rv;have hl:=hS.length;refine uh (val:=valN ns) (I1.ok.hd hc) pl.isList (λi v hv=>?_) (λi hi=>?_) λh' tk hSet hk=>?_
  . obtain⟨t,e⟩:=hS.int_at i v (by simpa using hv);have hi:i<ns.length:=by
     rw[<-hl];have:=(zzG.mp (show its[i]? = some v by simpa using hv)).1;exact this
    have hm:=zxA hi;refine⟨t, ?_⟩;rw[e];unfold valN;rw[zyF,zzE hi];exact congrArg (Value.int · t) (zyZ (h8 _ hm).1).symm
  . have hi':i<ns.length:=by simpa[hl]using hi
    have hm:=zxA hi';unfold valN;rw[zyF,zzE hi'];have:=h8 _ hm;show(ns[i]).toNat<8;omega
  . refine Calls.spliced_nil ?_;rw[show its.toArray.size=ns.length by simpa using hl]at hSet;have hb:vb (valN ns) ns.length<256:=Bo (λi hi=>by
     have hm:=zxA hi;unfold valN;rw[zyF,zzE hi];have:=h8 _ hm;show(ns[i]).toNat<8;omega) _ (zzN _)
    refine NV (I1.ok.hd hc) hb hSet λh2 tk2 c out ns' e hle hk2 hg hI hp hs=>?_;have en:=Qn _ _ ((hp.trans (Ez h8)).trans (sortI_perm _).symm) hs (vB _);subst en;obtain⟨nid,hob⟩:∃nid,h2.get? c=some (seqObj "list" out nid):=⟨e,hg⟩;have hsz:s1.heap.objs.size<=h'.objs.size:=by obtain⟨_,_,_,z,_⟩:=hSet;exact Nat.le_of_lt (zxJ z)
    have hn:=I1.hok.fresh (zzO hsz hle);refine⟨.ref c,_,I1.laid (t':=tk2) (λb o z=>hk2 b o (hk b o z)) (zzO hsz hle) (show xy X.prog X.w _ _ _ (.lst ((sortI (RX ns)).map V.int))from⟨?_,out.toList,nid,vO hI,by simpa[seqObj]using hob⟩),rfl,q c hn⟩;rw[zzB,(sortI_perm _).length_eq];exact Nat.le_of_lt (zQ (by have:=OH ns;omega))
def LI{a}{fr}{p p' pos pos'}(hc:X.calm=true)(hg:Gl X "set")(hm:X.mg "set"=none)(hgl:Gl X "sorted")(hml:X.mg "sorted"=none)(ha:AA X kd [a] fr)(hs:starEach [a] X.env=[(false,eval a X.env)])
 (hs':starEach [.Call (.Name "set" p) [a] [] pos] X.env=[(false,eval (.Call (.Name "set" p) [a] [] pos) X.env)]):AE X kd (.Call (.Name "sorted" p') [.Call (.Name "set" p) [a] [] pos] [] pos') (fP fr u6):=by
 with_unfolding_all exact(yu (NA hc hg hm hgl hml ha hs hs') λσ H Q h=>by
  obtain⟨F,B,ad,as,r,as',R,e,q⟩:=h;obtain⟨⟨rs,as1⟩,h1,e⟩:=bS_ (e);obtain⟨⟨ds,lv⟩,h2,e⟩:=bS_ e;obtain⟨r0,h3,e⟩:=bS_ e;obtain⟨z,h4,e⟩:=bS_ e;cases e;refine(⟨F,B,ad,as,rs,as1,R,h1,λvs ad1 H1 R1 rv1 g1=>?_⟩);have vl:=Yv R1 rv1 h2;have rq:=Zp R1 h4 λw T' H' R' rv' g'=>q w T' ad1 H' R' rv' (g1.trans g');obtain⟨x,d,rfl,vx,he⟩:=Qr vl h3;obtain⟨ds',h0,he2⟩:=bS_ (he);cases UV h0;obtain⟨ns,k1,he3⟩:=bS_ he2;obtain⟨⟨hz,ha⟩,he4⟩:=zx he3;cases he4;cases vx with
  |lst hr rl=>exact⟨_,_,ns,rfl,hr.sq,λus hv=>N3 rl hv k1,λn hn=>by have:=List.all_eq_true.mp ha n hn;simpa using this,hz,WN rq (U_ _)⟩)
end
section
variable{K:zzA}{kd:KD}{F B:Addr->Prop}{ad:Ad}{as:AS}{σ:St}{H H':Hp}
def G2(G:Addr->Prop)(T T':List Addr):Addr->Prop:=λa=>(G a/\a ∉ T)\/a ∈ T'
def Rel.chg2{i j:Nat}{o0 o1}{v0 v1}{T0 T1}(R:Rel K kd F B [] ad as σ H)(hij:i≠j)(hi:i<as.length)(hj:j<as.length)(s0:σ[i]? = some (some v0))(s1:σ[j]? = some (some v1))(nd:(T0++T1).Nodup)
 (sub:∀a ∈ T0++T1,a ∈ ad i++ad j\/H a=none) (kp:∀c u,H c=some u->c ∉ ad i++ad j->H' c=some u) (al:∀a ∈ T0++T1,H' a≠none)
 (r0:xW K kd F B (G2 (Gw [] ad) (ad i++ad j) (T0++T1)) H' v0 o0 T0) (r1:xW K kd F B (G2 (Gw [] ad) (ad i++ad j) (T0++T1)) H' v1 o1 T1):
 Rel K kd F B [] (yb (yb ad i T0) j T1) ((as.set i (some o0)).set j (some o1)) σ H'/\Grow (Gw [] ad) H (Gw [] (yb (yb ad i T0) j T1)) H':=by
 have ai:yb (yb ad i T0) j T1 i=T0:=by rw[zp hij,zl]
 have aj:yb (yb ad i T0) j T1 j=T1:=zl;have ak:∀k,k≠i->k≠j->yb (yb ad i T0) j T1 k=ad k:=λk h1 h2=>by rw[zp h2,zp h1]
 have off:∀k a,k≠i->k≠j->a ∈ ad k->a ∉ ad i++ad j:=λk a h1 h2 m z=>(zzM.mp z).elim (λy=>h1 (R.inj k i a m y)) λy=>h2 (R.inj k j a m y);have gw:∀a,Gw [] (yb (yb ad i T0) j T1) a->G2 (Gw [] ad) (ad i++ad j) (T0++T1) a:=λa z=>by
  rcases z with z|⟨k,z⟩
  . exact nomatch z
  . by_cases e:k=i
    . subst e;rw[ai]at z;exact .inr (zzP _ z)
    . by_cases e':k=j
      . subst e';rw[aj]at z;exact .inr (zzL _ z)
      . rw[ak k e e']at z;exact .inl ⟨.inr ⟨k,z⟩,off k a e e' z⟩
 have nin:=λk a h1 h2 m z=>(sub a z).elim (off k a h1 h2 m) λy=>(R.gtr a (.inr ⟨k,m⟩)).1 y;have g:Grow (Gw [] ad) H (Gw [] (yb (yb ad i T0) j T1)) H':=⟨λb o h n=>kp b o h λz=>n ((zzM.mp z).elim (λy=>.inr ⟨i,y⟩) λy=>.inr ⟨j,y⟩),λb z=>(gw b z).elim (λy=>.inl y.1) λy=>(sub b y).elim (λx=>.inl ((zzM.mp x).elim (λy=>.inr ⟨i,y⟩) λy=>.inr ⟨j,y⟩)) .inr⟩;have kn:∀a,H a≠none->a ∉ ad i++ad j->H' a≠none:=λa h n=>by
  cases e:H a with
  |none=>exact absurd e h
  |some u=>rw[kp a u e n];simp
 obtain⟨n0,n1,n2⟩:=zxF.mp nd;have own:∀a,a ∈ ad i++ad j->Gw [] ad a:=λa z=>(zzM.mp z).elim (λy=>.inr ⟨i,y⟩) λy=>.inr ⟨j,y⟩;refine⟨⟨by rw[zzU,zzU];exact R.len,λk hk=>?_,λk=>?_,λk l a h1 h2=>?_,zyJ,(λ_ _ _ z=>nomatch z),λa z=>kn a (R.ftr a z) λy=>(R.gtr a (own a y)).2 z,λa z=>?_,λa z=>?_,λk s e=>?_⟩,g⟩
 . rw[zzU,zzU]at hk;rw[ak k (by omega) (by omega)];exact R.out k hk
 . by_cases e:k=i
   . subst e;rw[ai];exact n0
   . by_cases e':k=j
     . subst e';rw[aj];exact n1
     . rw[ak k e e'];exact R.nd k
 . by_cases e:k=i
   . subst e;rw[ai]at h1
     by_cases e':l=k
     . exact e'.symm
     . by_cases e2:l=j
       . subst e2;rw[aj]at h2;exact absurd rfl (n2 a h1 a h2)
       . rw[ak l e' e2]at h2;exact absurd (zzP _ h1) (nin l a e' e2 h2)
   . by_cases e':k=j
     . subst e';rw[aj]at h1
       by_cases e2:l=k
       . exact e2.symm
       . by_cases e3:l=i
         . subst e3;rw[ai]at h2;exact absurd rfl (n2 a h2 a h1)
         . rw[ak l e3 e2]at h2;exact absurd (zzL _ h1) (nin l a e3 e2 h2)
     . rw[ak k e e']at h1
       by_cases e2:l=i
       . subst e2;rw[ai]at h2;exact absurd (zzP _ h2) (nin k a e e' h1)
       . by_cases e3:l=j
         . subst e3;rw[aj]at h2;exact absurd (zzL _ h2) (nin k a e e' h1)
         . rw[ak l e2 e3]at h2;exact R.inj k l a h1 h2
 . obtain⟨h1,h2,h3⟩:=R.btr a z;refine⟨kn a h1 λy=>h3 (own a y),h2,λy=>(gw a y).elim (λx=>h3 x.1) λx=>(sub a x).elim (λw=>h3 (own a w)) h1⟩
 . rcases gw a z with⟨y,n⟩|y
   . exact⟨kn a (R.gtr a y).1 n,(R.gtr a y).2⟩
   . exact⟨al a y,(sub a y).elim (λw=>(R.gtr a (own a w)).2) λw f=>R.ftr a f w⟩
 . by_cases e1:k=j
   . subst e1;rw[zyK (by rw[zzU];exact hj)]at e;cases e;rw[aj];exact⟨v1,s1,xW.lv (λst a z=>z.imp id (gw a)) r1⟩
   . rw[zzY (λz=>e1 z.symm)]at e
     by_cases e2:k=i
     . subst e2;rw[zyK hi]at e;cases e;rw[ai];exact⟨v0,s0,xW.lv (λst a z=>z.imp id (gw a)) r0⟩
     . rw[zzY (λz=>e2 z.symm)]at e;rw[ak k e2 e1];exact(R.sl k s e).grow g λa m u h=>kp a u h (off k a e2 e1 m)
end
def t_(K:zzA)(kd:KD)(g:O->O->Yt->Option (O×O)):Sp:=λvs H Q _=>∃(F B G:Addr->Prop) (T0 T1:List Addr) (v0 v1 v2:V) (o0 o1:O) (x:Yt) (r:O×O),vs=[v0,v1,v2]/\(∀a,F a->H a≠none)/\(∀a,B a->H a≠none/\¬F a/\¬G a)/\(∀a,G a->H a≠none/\¬F a)/\
 (T0++T1).Nodup/\(∀a ∈ T0++T1,G a)/\xW K kd F B G H v0 o0 T0/\xW K kd F B G H v1 o1 T1/\Rp K kd (Lv F B G x.1) H v2 x.2/\g o0 o1 x=some r/\
 ∀(H':Hp) (T0' T1':List Addr),(∀c u,H c=some u->c ∉ T0++T1->H' c=some u)->(T0'++T1').Nodup->(∀a ∈ T0'++T1',a ∈ T0++T1\/H a=none)->(∀a ∈ T0'++T1',H' a≠none)->
  xW K kd F B (G2 G (T0++T1) (T0'++T1')) H' v0 r.1 T0'->xW K kd F B (G2 G (T0++T1) (T0'++T1')) H' v1 r.2 T1'->Q .non H'
noncomputable def WK(i j:Nat)(fe:EF)(g:O->O->Yt->Option (O×O)):SF:=λas=>(as[i]?).bind λa0=>a0.bind λ_=>(as[j]?).bind λb0=>b0.bind λ_=>(fe as).bind λp=>(ZA p.2 p.1).bind λx=>(x.2[i]?).bind λa=>(x.2[j]?).bind λb=>a.bind λo0=>b.bind λo1=>(g o0 o1 x.1).bind λr=>some (.nx ((x.2.set i (some r.1)).set j (some r.2)))
section
variable{X:Cx}{kd:KD}{e:Expr}{fe:EF}{pos pos':Pos}
def U5{i j k:Nat}{f}{fdt}{ps}{g}{x n0 n1}{p p0 p1}(F:FnOk X.prog X.w X.K X.mg X.base U2 k f fdt ps (t_ X.K kd g))(hr:Room k X.A)(hg:Gl X x)(hm:X.mg x=some (.ref f))(hk:W.keepIn X.K (.ref f)=true)
 (hb:Binds X.K fdt ps []) (hx:US U2 X (λ_ _ _=>False)) (hij:i≠j) (h0:PE X (.Name n0 p0) (ZS i)) (h1:PE X (.Name n1 p1) (ZS j)) (he:AE X kd e fe) (hdb:(x==("__debug__":Str))=false)
 (hs0:starEach [.Name n0 p0,.Name n1 p1,e] X.env=(false,eval (.Name n0 p0) X.env)::starEach [.Name n1 p1,e] X.env) (hs1:starEach [.Name n1 p1,e] X.env=(false,eval (.Name n1 p1) X.env)::starEach [e] X.env) (hs2:starEach [e] X.env=(false,eval e X.env)::starEach [] X.env) (hpl:(backTo pos (starEach [.Name n1 p1,e] X.env)).any (·.1)=false)
 (hs:swapsWith (.Call (.Name x p) [.Name n0 p0,.Name n1 p1,e] [] pos) none pos'.line X.env=pure false):
 QK X kd (.Expr (.Call (.Name x p) [.Name n0 p0,.Name n1 p1,e] [] pos) pos') (WK i j fe g):=by
 with_unfolding_all exact(yE (Xv (Mh F hr hg hm hk hb .nil hx (xg h0 (xg h1 (xg he ZG hs2) hs1) hs0) hdb hs0 hpl) hs) λD σ H h=>by
  obtain⟨F,B,ad,as,o,R,e,q⟩:=h;obtain⟨a0,k0,e1⟩:=bS_ (e);obtain⟨c0,q0,e2⟩:=bS_ e1;obtain⟨b0,k1,e3⟩:=bS_ e2;obtain⟨c1,q1,e4⟩:=bS_ e3;obtain⟨⟨pv,as1⟩,h1,e5⟩:=bS_ e4;obtain⟨⟨it,as2⟩,h2,e6⟩:=bS_ e5;obtain⟨a,ka,e7⟩:=bS_ e6;obtain⟨b,kb,e8⟩:=bS_ e7;obtain⟨o0,qa,e9⟩:=bS_ e8;obtain⟨o1,qb,e10⟩:=bS_ e9;obtain⟨r,hgr,e11⟩:=bS_ e10;subst q0 q1 qa qb;obtain⟨v0,s0,_⟩:=R.sl i _ k0;obtain⟨v1,s1,_⟩:=R.sl j _ k1;have e12:=zzZ e11;refine⟨v0,s0,v1,s1,F,B,ad,as,pv,as1,R,h1,λv T ad1 H1 R1 rv1 g1=>?_⟩;obtain⟨ad2,R2,rp,le⟩:=wG R1 rv1 h2;obtain⟨w0,t0,ro0⟩:=R2.sl i _ ka;obtain⟨w1,t1,ro1⟩:=R2.sl j _ kb;rw[s0]at t0;rw[s1]at t1;cases t0;cases t1;have dj:∀a ∈ ad2 i,∀b ∈ ad2 j,a≠b:=λa m b m' z=>hij (R2.inj i j a m (z ▸ m'));refine⟨F,B,Gw [] ad2,ad2 i,ad2 j,v0,v1,v,o0,o1,it,r,rfl,R2.ftr,R2.btr,R2.gtr,zxF.mpr ⟨R2.nd i,R2.nd j,dj⟩,λa m=>(zzM.mp m).elim (λy=>.inr ⟨i,y⟩) λy=>.inr ⟨j,y⟩,ro0,ro1,rp,hgr,λH' T0 T1 kp nd sub al r0 r1=>?_⟩;obtain⟨R3,g3⟩:=R2.chg2 hij (zzG.mp ka).1 (zzG.mp kb).1 s0 s1 nd sub kp al r0 r1;subst e12;exact q σ _ _ R3 ((g1.trans (Grow.less le)).trans g3))
end
def HQ(n:Nat)(K:zzA)(kd:KD)(F B:Addr->Prop)(ad:Ad)(σ:St)(H:Hp)(D:Ends):Out->Prop
 | .nx as'=>∀σ' ad' H',(∀i,i<n->σ'[i]? = σ[i]?)->Rel K kd F B [] ad' as' σ' H'->Grow (Gw [] ad) H (Gw [] ad') H'->D.nx σ' H'
 | .bk as'=>∀σ' ad' H',(∀i,i<n->σ'[i]? = σ[i]?)->Rel K kd F B [] ad' as' σ' H'->Grow (Gw [] ad) H (Gw [] ad') H'->D.bk σ' H'
 | .ct as'=>∀σ' ad' H',(∀i,i<n->σ'[i]? = σ[i]?)->Rel K kd F B [] ad' as' σ' H'->Grow (Gw [] ad) H (Gw [] ad') H'->D.ct σ' H'
 | .rt _=>False
def bp(n:Nat)(K:zzA)(kd:KD)(f:SF):TS:=λD σ H=>∃F B ad as o,Rel K kd F B [] ad as σ H/\f as=some o/\HQ n K kd F B ad σ H D o
@[irreducible] def AP(X:Cx)(kd:KD)(n:Nat)(st:Stmt)(f:SF):Prop:=PS X st (bp n X.K kd f)
@[irreducible] def Ii(X:Cx)(kd:KD)(n:Nat)(st:List Stmt)(f:SF):Prop:=Tb X st (bp n X.K kd f)
def HQ.pre{n:Nat}{K}{kd}{F B}{ad ad1}{σ σ1}{H H1}{D}{o}(s:∀i,i<n->σ1[i]? = σ[i]?)(g:Grow (Gw [] ad) H (Gw [] ad1) H1)(h:HQ n K kd F B ad σ H D o):HQ n K kd F B ad1 σ1 H1 D o:=by
 cases o with
 |nx as=>exact λσ' ad' H' s' R g'=>h σ' ad' H' (λi hi=>(s' i hi).trans (s i hi)) R (g.trans g')
 |bk as=>exact λσ' ad' H' s' R g'=>h σ' ad' H' (λi hi=>(s' i hi).trans (s i hi)) R (g.trans g')
 |ct as=>exact λσ' ad' H' s' R g'=>h σ' ad' H' (λi hi=>(s' i hi).trans (s i hi)) R (g.trans g')
 |rt _=>exact h
section
variable{X:Cx}{kd:KD}{n:Nat}{e c tg iter:Expr}{st:Stmt}{rest sts body:List Stmt}{fa:EF}{ta:TF}{f g:SF}{pos pos':Pos}
def Cf:Ii X kd n [] wc:=by with_unfolding_all exact(XJ Uv λD σ H h=>by
 obtain⟨F,B,ad,as,o,R,e,q⟩:=h;cases e;exact q σ ad H (λ_ _=>rfl) R Grow.refl)
def Ku(h1:AP X kd n st f)(h2:Ii X kd n rest g):Ii X kd n (st::rest) (zg f g):=by with_unfolding_all exact(XJ (ZZ h1 h2) λD σ H h=>by
 obtain⟨F,B,ad,as,o,R,e,q⟩:=h;obtain⟨o1,e1,e⟩:=bS_ (e);refine⟨F,B,ad,as,o1,R,e1, ?_⟩;cases o1 with
 |nx as1=>exact λσ' ad' H' s' R' g'=>⟨F,B,ad',as1,o,R',e,q.pre s' g'⟩
 |bk as1=>cases e;exact q
 |ct as1=>cases e;exact q
 |rt r=>cases e;exact q)
def T7(h1:AP X kd n st f):Ii X kd n [st] f:=by with_unfolding_all exact(Uu h1)
def Dl(hc:AT X kd c ta)(ha:Ii X kd n sts f)(hb:Ii X kd n rest g):AP X kd n (.If c sts rest pos) (xr ta f g):=by with_unfolding_all exact(yE (MO hc ha hb) λD σ H h=>by
 obtain⟨F,B,ad,as,o,R,e,q⟩:=h;obtain⟨⟨p,as1⟩,h1,e⟩:=bS_ (e);refine⟨F,B,ad,as,p,as1,R,h1,λad' H' R' g=>?_⟩;cases p with
 |true=>exact⟨F,B,ad',as1,o,R',e,q.pre (λ_ _=>rfl) g⟩
 |false=>exact⟨F,B,ad',as1,o,R',e,q.pre (λ_ _=>rfl) g⟩)
def Cp(he:AE X kd e fa)(hs:swapsWith e none pos.line X.env=pure false):AP X kd n (.Expr e pos) (yq fa):=by with_unfolding_all exact(yE (Xv he hs) λD σ H h=>by
 obtain⟨F,B,ad,as,o,R,e,q⟩:=h;obtain⟨⟨p,as1⟩,h1,e⟩:=bS_ (e);cases e;exact⟨F,B,ad,as,p,as1,R,h1,λv T' ad' H' R' rv g=>q σ ad' H' (λ_ _=>rfl) R'.drop (g.trans (Grow.less Gw.drop))⟩)
def J6{z}{i:Nat}{x}(hn:n<=i)(hN:X.N.Nodup)(hi:X.N[i]? = some x)(hx:Loc X.env.scope x)(he:AE X kd e fa)(hs:swapsWith e (some (.Name x pos')) pos.line X.env=pure false)(hf:X.fn x=true\/X.env.scope.names.lookup x=some .local):
 AP X kd n (.Assign [.Name x pos'] e pos) (zo z i fa):=by with_unfolding_all exact(yE (NS hN hi hx he hs hf) λD σ H h=>by
 obtain⟨F,B,ad,as,o,R,e,q⟩:=h;obtain⟨⟨p,as1⟩,h1,e⟩:=bS_ (e);obtain⟨⟨y,as2⟩,h2,e⟩:=bS_ e;obtain⟨hl,e⟩:=zx e;cases e;refine⟨F,B,ad,as,p,as1,R,h1,λv T' ad' H' R' rv g=>?_⟩;obtain⟨ad2,R2,le⟩:=Gy R' rv h2 hl;exact q _ ad2 H' (λk hk=>zzY (by omega)) R2 (g.trans (Grow.less le)))
def JV{fi}{S}{gt}(hS:∀i,i<n->i ∉ S)(hp:PassesOwn (model X.prog X.w) X.A X.env X.xe)(hc:X.calm=true)(hi:AI X kd tg iter fi)(hg:AG X kd tg S gt)(hb:Ii X kd n body f)(hs:∀x,foldedSetIterable iter X.env x=pure x):
 AP X kd n (.For tg iter body [] pos) (yo fi gt f):=by with_unfolding_all exact(yE (Hd hp hc hi hg hb hs) λD σ H h=>by
 obtain⟨F,B,ad,as,o,R,e,q⟩:=h;obtain⟨⟨ds,as1⟩,h1,e⟩:=bS_ (e);refine⟨F,B,ad,as,ds,as1,R,h1,λJ ad1 H1 R1 g1 it=>?_⟩;refine⟨λi m σ2 H2=>m+i=ds.length/\∃ad2 as2,(∀k,k<n->σ2[k]? = σ[k]?)/\Rel X.K kd F B [] ad2 as2 σ2 H2/\Grow (Gw [] ad1) H1 (Gw [] ad2) H2/\forL gt f (ds.drop i) as2=some o,⟨ds.length,rfl,ad1,as1,λ_ _=>rfl,R1,Grow.refl,e⟩, ?_⟩
 rintro i m σ2 H2 ⟨hm,ad2,as2,s2,R2,g2,e2⟩
 obtain⟨k1,k2,k3⟩:=it.all ad2 H2 g2 R2.trk i
 by_cases hi:i<ds.length
 . refine .inr ⟨k1 hi,λσ3 H3=>∃ad3 as3,(∀k,k<n->σ3[k]? = σ[k]?)/\Rel X.K kd F B [] ad3 as3 σ3 H3/\Grow (Gw [] ad1) H1 (Gw [] ad3) H3/\forL gt f (ds.drop (i+1)) as3=some o,λσ3 H3 ⟨ad3,as3,s3,R3,g3,e3⟩=>⟨m-1,by omega,by omega,ad3,as3,s3,R3,g3,e3⟩,λv H3 hy=>?_⟩;obtain⟨kp,rp⟩:=k3 v H3 hy;rw[zyQ hi]at e2;obtain⟨as3,e3,e2⟩:=bS_ (e2);obtain⟨o3,e4,e2⟩:=bS_ e2;obtain⟨R3,g3⟩:=R2.more kp;refine⟨F,B,ad2,as2,_,as3,R3,rp _ (zzE hi),e3,λσ4 ad4 H4 R4 g4 s4=>?_⟩;refine⟨F,B,ad4,as3,o3,R4,e4, ?_⟩;have gg:=(g2.trans g3).trans g4;have s4':∀k,k<n->σ4[k]? = σ[k]? := λk hk=>(s4 k (hS k hk)).trans (s2 k hk);cases o3 with
   |nx as5=>exact λσ5 ad5 H5 s5 R5 g5=>⟨ad5,as5,λk hk=>(s5 k hk).trans (s4' k hk),R5,gg.trans g5,e2⟩
   |ct as5=>exact λσ5 ad5 H5 s5 R5 g5=>⟨ad5,as5,λk hk=>(s5 k hk).trans (s4' k hk),R5,gg.trans g5,e2⟩
   |bk as5=>
    cases e2;exact λσ5 ad5 H5 s5 R5 g5=>q σ5 ad5 H5 (λk hk=>(s5 k hk).trans (s4' k hk)) R5 (g1.trans (gg.trans g5))
   |rt r=>cases e2;exact q.elim
 . refine .inl ⟨k2 (by omega), ?_⟩;rw[List.drop_eq_nil_of_le (by omega)]at e2;cases e2;exact q σ2 ad2 H2 s2 R2 (g1.trans g2))
end
section
variable{X:Cx}{kd:KD}{e a b c o i:Expr}{pos pos':Pos}{fa fb fk fv:EF}
def OK{n:Nat}{j:Nat}{x}{p}(hu:X.A.units+1<cLine)(ho:PE X (.Name x p) (ZS j))(hk:AE X kd i fk)(hv:AE X kd e fv)(hs:swapsWith e (some (.Subscript (.Name x p) i pos')) pos.line X.env=pure false):
 AP X kd n (.Assign [.Subscript (.Name x p) i pos'] e pos) (G6 j fk fv):=by with_unfolding_all exact(yE (Es hu ho hk hv hs) λD σ H h=>by
 obtain⟨F,B,ad,as,o,R,e,q⟩:=h;obtain⟨⟨p,as1⟩,h1,e⟩:=bS_ (e);obtain⟨⟨⟨st,d⟩,as2⟩,h2,e⟩:=bS_ e;cases k1:as2[j]? with
 |none=>rw[k1]at e;cases e
 |some a0=>
  rw[k1]at e
  match a0,e,k1 with
  |some (.nd (.dt ks0) os0),e,k1=>
   obtain⟨⟨pk,as3⟩,h3,e⟩:=bS_ (e);obtain⟨⟨dk,lk⟩,h4,e⟩:=bS_ e;obtain⟨k,h5,e⟩:=bS_ e;refine⟨F,B,ad,as,p,as1,R,h1,λv T1 ad1 H1 R1 rv1 g1=>?_⟩;obtain⟨ad2,R2,rp,le⟩:=wG R1 rv1 h2;obtain⟨v0,hs0,ro0⟩:=R2.sl j _ k1;refine⟨v0,hs0,vi R2 h3 λu ad3 H3 R3 rv3 g3=>?_⟩;cases k2:as3[j]? with
   |none=>rw[k2]at e;cases e
   |some a2=>
    rw[k2]at e
    match a2,e,k2 with
    |some (.nd (.dt ks) os),e,k2=>
     obtain⟨hz,e⟩:=zx e;cases e;obtain⟨v1,hs1,ro1⟩:=R3.sl j _ k2;rw[hs0]at hs1;cases hs1;generalize hfp:ad3 j=fp1 at ro1;cases ro1 with
     | dt hH hl rl=>
          rename_i l vs fp;obtain⟨bk,rfl,hbk⟩:=GO (xx.vw R3 rv3 h4) h5;have ro:xW X.K kd F B (Gw [] ad3) H3 v (.lf st d) []:=.lf (Rp.grow g3 rp);have hlo:ks.length=os.length:=by rw[hl,rl.length]
          have hex:∃fp',fp'.Sublist fp/\xF X.K kd F B (Gw [] ad3) H3 (Zv ks vs k v) (Zv ks os k (.lf st d)) fp':=by
           unfold Zv
           split
           . exact NP ro hl rl
           . exact⟨fp,List.Sublist.refl _,by have:=rl.append (RoL.one ro);rw[zyE]at this;exact this⟩
          obtain⟨fp',hsub,rl'⟩:=hex;have hnd:=R3.nd j;rw[hfp]at hnd;refine⟨l,_,rfl,.inr ⟨_,k,bk,hH,rfl,hbk,by rw[List.length_zip,hl,Nat.min_self,<-hl];exact hz,rfl⟩, ?_⟩;rw[Lh hl];obtain⟨R4,g4⟩:=R3.mut (zzG.mp k2).1 hfp hs0 (fp':=fp') (λa m=>by
           rw[zyE]at m ⊢;exact hsub.mem m) (by rw[zyE];exact(zzW.mp hnd).2.sublist hsub) (by rw[hH];simp) λH' G' hl' gr kp=>.dt hl' (Vx hl) (xF.grow gr kp rl')
          exact q σ _ _ (λ_ _=>rfl) R4 (((g1.trans (Grow.less le)).trans g3).trans g4))
end
noncomputable def startM(n:Nat)(o0 o1:O)(x:Yt):AS:=[some o0,some o1,some (.lf x.1 x.2)]++List.replicate (n-3) none
noncomputable def gM(n:Nat)(c:SF)(o0 o1:O)(x:Yt):Option (O×O):=(c (startM n o0 o1 x)).bind λo=>match o with
 | .nx as=>(as[0]?).bind λa=>(as[1]?).bind λb=>a.bind λr0=>b.bind λr1=>some (r0,r1)
 |_=>none
noncomputable def tZ(T0 T1:List Addr):Ad:=λi=>if i=0 then T0 else if i=1 then T1 else[]
def V9{T0 T1}{a}:Gw [] (tZ T0 T1) a ↔ a ∈ T0++T1:=by
 constructor
 . rintro(z|⟨i,z⟩)
   . exact nomatch z
   . match i,z with
     |0,z=>exact zzP _ z
     |1,z=>exact zzL _ z
     |i+2,z=>exact nomatch z
 . intro z
   rcases zzM.mp z with z|z
   . exact .inr ⟨0,z⟩
   . exact .inr ⟨1,z⟩
def LU{K}{kd}{F B G}{T0 T1}{H}{N}{v0 v1 v2}{o0 o1}{x}(hN:3<=N.length)(ht:∀a,F a->H a≠none)(hB:∀a,B a->H a≠none/\¬F a/\¬G a)(hG:∀a,G a->H a≠none/\¬F a)(nd:(T0++T1).Nodup)(hT:∀a ∈ T0++T1,G a)
 (r0:xW K kd F B G H v0 o0 T0) (r1:xW K kd F B G H v1 o1 T1) (rp:Rp K kd (Lv F B G x.1) H v2 x.2):
 Rel K kd F (λa=>B a\/(G a/\a ∉ T0++T1)) [] (tZ T0 T1) (startM N.length o0 o1 x) (L2.start N [v0,v1,v2]) H:=by
 obtain⟨n0,n1,n2⟩:=zxF.mp nd;have lv:∀st a,Lv F (λa=>B a\/(G a/\a ∉ T0++T1)) (Gw [] (tZ T0 T1)) st a->Lv F B G st a:=λst a z=>by
  rcases z with(z|z|z)|z
  . exact .inl (.inl z)
  . exact .inl (.inr z)
  . exact .inr z.1
  . exact .inr (hT a (V9.mp z))
 refine⟨by unfold startM L2.start;simp,λi hi=>?_,λi=>?_,λi j a x y=>?_,zyJ,(λ_ _ _ z=>nomatch z),ht,λa z=>?_,λa z=>hG a (hT a (V9.mp z)),λi s e=>?_⟩
 . match i,hi with
   |0,hi=>simp[startM]at hi
   |1,hi=>simp[startM]at hi
   |i+2,_=>rfl
 . match i with
   |0=>exact n0
   |1=>exact n1
   |i+2=>exact zyJ
 . match i,j,x,y with
   |0,0,_,_=>rfl
   |1,1,_,_=>rfl
   |0,1,x,y=>exact absurd rfl (n2 a x a y)
   |1,0,x,y=>exact absurd rfl (n2 a y a x)
   |i+2,_,x,_=>exact nomatch x
   |0,j+2,_,y=>exact nomatch y
   |1,j+2,_,y=>exact nomatch y
 . rcases z with z|z
   . exact⟨(hB a z).1,(hB a z).2.1,λy=>(hB a z).2.2 (hT a (V9.mp y))⟩
   . exact⟨(hG a z.1).1,(hG a z.1).2,λy=>z.2 (V9.mp y)⟩
 . match i,e with
   |0,e=>cases e;exact⟨v0,rfl,xW.lv lv r0⟩
   |1,e=>cases e;exact⟨v1,rfl,xW.lv lv r1⟩
   |2,e=>cases e;exact⟨v2,rfl,.lf (rp.less (lv x.1))⟩
   |i+3,e=>
    have e:=e;have ea:=(List.mem_replicate.mp (zyA e)).2;subst ea;rfl
section
variable{P:Program}{w:World}{K:zzA}{mg:Str->Option Value}{base:Heap}
def Aq{kd}{x qual}{st}{f}{fd}{N ps}{k:Nat}{c}(Fn:Fun K x qual st f fd)(S:FnScope N ps (zd st))(hps:ps.length=3)(hN:3<=N.length)
 (hb:∀(cdv:Value) (A:Around) (outer:List Env) (s:Shared) (H:Hp) (E:XK),Room k (A.deeper (envOfC qual (zd st) s.heap.objs.size f cdv))->Ii (Zc U2 P w K mg base N qual (zd st) f cdv A outer s H E).nox kd 2 (wu st) c):
 FnOk P w K mg base U2 (k+1) f fd ps (t_ K kd (gM N.length c)):=by
 with_unfolding_all (
 refine Fn.ok S (λvs H Q E h=>?_) (λcdv A outer s H vs Q E hr h=>⟨_,hb cdv A outer s H E hr, ?_⟩)
 . obtain⟨_,_,_,_,_,_,_,_,_,_,_,_,rfl,_⟩:=h;exact hps.symm
 . obtain⟨F,B,G,T0,T1,v0,v1,v2,o0,o1,x,r,rfl,ht,hB,hG,nd,hT,r0,r1,rp,e,q⟩:=h;obtain⟨out,e1,e⟩:=bS_ e;refine⟨F,_,_,startM N.length o0 o1 x,out,LU hN ht hB hG nd hT r0 r1 rp,e1, ?_⟩;cases out with
   |nx as=>
    obtain⟨a,k0,e⟩:=bS_ e;obtain⟨b,k1,e⟩:=bS_ e;obtain⟨w0,qa,e⟩:=bS_ e;obtain⟨w1,qb,e⟩:=bS_ e;subst qa qb;intro σ' ad' H' sp R g;obtain⟨u0,s0,t0⟩:=R.sl 0 _ k0;obtain⟨u1,s1,t1⟩:=R.sl 1 _ k1;rw[sp 0 (by omega)]at s0;rw[sp 1 (by omega)]at s1;cases(s0);cases(s1);cases(e);have own:∀a,a ∈ ad' 0++ad' 1->Gw [] ad' a:=λa z=>(zzM.mp z).elim (λy=>.inr ⟨0,y⟩) λy=>.inr ⟨1,y⟩;have lv:∀st a,Lv F B (G2 G (T0++T1) (ad' 0++ad' 1)) st a->Lv F (λa=>B a\/(G a/\a ∉ T0++T1)) (Gw [] ad') st a:=λst a z=>by
     rcases z with(z|z)|z|z
     . exact .inl (.inl z)
     . exact .inl (.inr (.inl z))
     . exact .inl (.inr (.inr z))
     . exact .inr (own a z)
    exact q H' (ad' 0) (ad' 1) (λc u h n=>g.keep c u h λz=>n (V9.mp z)) (zxF.mpr ⟨R.nd 0,R.nd 1,λa m b m' z=>absurd (R.inj 0 1 a m (z ▸ m')) (by decide)⟩) (λa m=>(g.own a (own a m)).imp V9.mp id) (λa m=>(R.gtr a (own a m)).1) (xW.lv lv t0) (xW.lv lv t1)
   |_=>cases e)
end
section
variable{X:Cx}{kd:KD}{n:Nat}
def qD(z)(i:Nat){x}{pos pos'}{e}{fa}(hn:n<=i)(hN:X.N.Nodup)(he:AE X kd e fa)(hi:X.N[i]? = some x:=by rfl)(hx:Loc X.env.scope x:=by first|exact Or.inl rfl|exact Or.inr rfl)(hs:swapsWith e (some (.Name x pos')) pos.line X.env=pure false:=by rfl)(hf:X.fn x=true\/X.env.scope.names.lookup x=some .local:=by first|exact Or.inl rfl|exact Or.inr rfl):
 AP X kd n (.Assign [.Name x pos'] e pos) (zo z i fa):=J6 hn hN hi hx he hs hf
end
def HZ{as}{inner}{k:Nat}(h:Pu GH as k=some inner):as[k]? = some (some (.nd .tp inner)):=by
 obtain⟨o,h1,h⟩:=Nk h;cases MQ h;exact h1
noncomputable def Df(f:EF):EF:=λas=>(f as).bind λp=>some (p.1.frz,p.2)
def CD{X}{kd}{e}{fa}(h:AE X kd e fa):AE X kd e (Df fa):=by with_unfolding_all exact(yu h λσ H Q q=>by
 obtain⟨F,B,ad,as,r,as',R,e,k⟩:=q;obtain⟨⟨p,as1⟩,h1,e⟩:=bS_ (e);cases e;exact⟨F,B,ad,as,p,as1,R,h1,λv T' ad' H' R' rv g=>k v [] ad' H' R'.drop (xx.drop R' rv) (g.trans (Grow.less Gw.drop))⟩)
def pA{f}{as}{x}(h:WE f as x):WD (Df f) as true x:=by
 obtain⟨o,h,h1,h2⟩:=h;unfold WD Df;rw[h,<-h1,<-h2];rfl
noncomputable def OV(i n:Nat)(fr:DF):SF:=λas=>(Pu GH as i).bind λos0=>(RR Ye os0 n).bind λ_=>(fr as).bind λp=>(FQ p.1).bind λx=>(Pu GH p.2 i).bind λos=>(RR Ye os n).bind λinner=>if inner.length<sizeLine/\i<p.2.length then some (.nx (p.2.set i (some (.nd .tp (os.set n (.nd .ls (inner++[.lf x.1 x.2])))))))else none
section
variable{X:Cx}{kd:KD}{i:Nat}{fr:DF}{e:Expr}
def Sl{K}{F B G}{H}{l}{os}{fp}(h:xW K kd F B G H (.ref l) (.nd .tp os) fp):¬Lv F B G true l:=by
 cases h with
 |tp n _ _=>exact n
def Jn{xi}{j n:Nat}{p1 p2 p3 apos cpos pos'}(h1:PE X (.Name xi p1) (ZS i))(h2:PE X (.Constant (.int (n:Int)) j p2) (tC (.int (n:Int))))(hp:wL (.Constant (.int (n:Int)) j p2))(ha:AD X kd [e] fr)
 (hbase:attributeBase (.Subscript (.Name xi p1) (.Constant (.int (n:Int)) j p2) p3) "append" X.env (eval (.Subscript (.Name xi p1) (.Constant (.int (n:Int)) j p2) p3) X.env)=eval (.Subscript (.Name xi p1) (.Constant (.int (n:Int)) j p2) p3) X.env)
 (hfew:((backTo cpos (starEach [e] X.env)).all (λx=>!x.1)&&(backToKw cpos (keywordEach [] X.env)).all (λx=>x.1.isSome)
  && decide (([e]:List Expr).length+([]:List Keyword).length+(if([]:List Keyword).isEmpty then 0 else 1)<30))=true)
 (hline:(apos.endLine==cpos.line)=true) (hs:starEach [e] X.env=(false,eval e X.env)::starEach [] X.env) (hplain:(backTo cpos (starEach [] X.env)).any (·.1)=false)
 (hsw:swapsWith (.Call (.Attribute (.Subscript (.Name xi p1) (.Constant (.int (n:Int)) j p2) p3) "append" apos) [e] [] cpos) none pos'.line X.env=pure false):
 QK X kd (.Expr (.Call (.Attribute (.Subscript (.Name xi p1) (.Constant (.int (n:Int)) j p2) p3) "append" apos) [e] [] cpos) pos') (OV i n fr):=by
 with_unfolding_all exact(yE (Xv (Ig PySem.F.plainAttrs_list PySem.F.slot_list_append PySem.F.type_list_append vQ (Q8 GM h1 h2 hp) ha hbase hfew hline hs hplain) hsw) λD σ H h=>by
  obtain⟨F,B,ad,as,o,R,e,q⟩:=h;obtain⟨os0,e1,e⟩:=bS_ (e);obtain⟨in0,e2,e⟩:=bS_ e;obtain⟨⟨os1,as1⟩,g1,e⟩:=bS_ e;obtain⟨⟨st,d⟩,e3,e⟩:=bS_ e;obtain⟨os,e4,e⟩:=bS_ e;obtain⟨inner,e5,e⟩:=bS_ e;obtain⟨⟨z1,z2⟩,e⟩:=zx e;cases e;cases SK e3;obtain⟨v0,s0,r0⟩:=R.sl i _ (HZ e1);obtain⟨l,vs,w,f,rfl,hH,hvs,rw0,fn,fs,_⟩:=UJ r0 (R.nd i) (λa m=>.inr ⟨i,m⟩) (LA e2);obtain⟨L,ivs,fq,rfl,ef,hL,_⟩:=KO rw0;refine⟨_,s0,l,vs,n,.ref L,rfl,rfl,.inl (.inl hH),x8 hvs,.inl ⟨rfl,ivs,.inl (.inl hL)⟩,F,B,ad,as,_,as1,R,g1,λws1 T1 ad1 H1 R1 ro1 gr1=>?_⟩;cases ro1 with
  |cons a r=>
   cases r;cases a with
   |lf rp=>
    rename_i w1;have R1:=R1;have gr1:=gr1;have rp:=rp;obtain⟨R3,v2,s2,r2⟩:=R1.mv (HZ e4);rw[s0]at s2;cases s2;have hc1:=gr1.keep l _ hH λz=>Sl r0 (.inr z);have hn:=R1.nd i;obtain⟨l',vs',w',f',el,hH',hvs',rw1,fn',fs',up1⟩:=UJ r2 hn (λa m=>.inl m) (LA e5);cases el;rw[hc1]at hH';cases hH';rw[hvs]at hvs';cases hvs';obtain⟨L',ivs',fq',eL,ef',hL',ir⟩:=KO rw1;cases eL;have hLi:=fs' L (by rw[ef'];exact zzF ..);have gL:Gw (ad1 i) (yb ad1 i []) L:=.inl hLi;have rp2:Rp X.K kd (Lv F B (Gw (ad1 i) (yb ad1 i [])) st) H1 w1 d:=rp.less λa z=>z.imp id RN.mp;have hLq:L ∉ fq':=by rw[ef']at fn';exact(zzW.mp fn').1
    have rw2:xW X.K kd F B (Gw (ad1 i) (yb ad1 i [])) (upd H1 L (.lst (ivs'++[w1]))) (.ref L) (.nd .ls (inner++[.lf st d])) f':=by
     rw[ef'];exact .ls zA (Kf (Rp.grow (Z3 gL) rp2) inner (xF.grow (Z3 gL) (λx m w h=>by rw[zr (λe=>hLq (by subst e;exact m))];exact h) ir))
    have ro3:=up1 L _ _ (by rw[ef'];exact zzF ..) rw2;obtain⟨R4,g4⟩:=R3.wrT hLi;have R5:=R4.put (by rw[zzU];exact z2) ro3;have es:σ.set i (some (.ref l))=σ:=by
     refine List.ext_getElem? λj=>?_
     by_cases q:i=j
     . subst q;rw[zyK (zzG.mp s0).1,s0]
     . rw[zzY q]
    rw[es,List.set_set]at R5;refine⟨L,ivs',w1,rfl,rfl,hL', ?_,q σ _ _ R5 ⟨λb u hb nb=>?_,λb z=>?_⟩⟩
    . rw[Tu ir];exact z1
    . have k1:=gr1.keep b u hb nb
      by_cases e:b=L
      . subst e;exact((gr1.own b (.inr ⟨i,hLi⟩)).elim (λz=>absurd z nb) λy=>by rw[hb]at y;cases y)
      . rw[zr e];exact k1
    . rcases z with z|⟨j,z⟩
      . exact nomatch z
      . by_cases e:j=i
        . subst e;rw[zl]at z;exact gr1.own b (.inr ⟨j,z⟩)
        . rw[zp e,zp e]at z;exact gr1.own b (.inr ⟨j,z⟩))
def Kc(i n:Nat):TF:=λas=>(Pu GH as i).bind λos=>(RR Ye os n).bind λinner=>some (inner.isEmpty,as)
def J0{b}{xi}{j n:Nat}{p1 p2 p3 pos}(ho:J1 X kd (compareOp .Eq) (zB .Eq))(h1:PE X (.Name xi p1) (ZS i))(h2:PE X (.Constant (.int (n:Int)) j p2) (tC (.int (n:Int))))(hp:wL (.Constant (.int (n:Int)) j p2))(hb:AE X kd b (yK dN))(hm:behindInMarks .Eq b=false):
 AT X kd (.Compare (.Subscript (.Name xi p1) (.Constant (.int (n:Int)) j p2) p3) [.Eq] [b] pos) (Kc i n):=by
 with_unfolding_all exact(GL (M9 ho (Q8 GM h1 h2 hp) hb hm) λσ H Q h=>by
  obtain⟨F,B,ad,as,bb,as',R,e,q⟩:=h;obtain⟨os,e1,e⟩:=bS_ (e);obtain⟨inner,e2,e⟩:=bS_ e;cases e;obtain⟨v0,s0,r0⟩:=R.sl i _ (HZ e1);obtain⟨l,vs,w,f,rfl,hH,hvs,rw0,fn,fs,_⟩:=UJ r0 (R.nd i) (λa m=>.inr ⟨i,m⟩) (LA e2);refine⟨_,s0,l,vs,n,w,rfl,rfl,.inl (.inl hH),x8 hvs,vi R (rfl) λu ad1 H1 R1 rv1 g1=>?_⟩;obtain⟨v1,s1,r1⟩:=R1.sl i _ (HZ e1);rw[s0]at s1;cases s1;have hc1:=g1.keep l _ hH λz=>Sl r0 (.inr z);obtain⟨l',vs',w',f',el,hH',hvs',rw1,_,_,_⟩:=UJ r1 (R1.nd i) (λa m=>.inr ⟨i,m⟩) (LA e2);cases el;rw[hc1]at hH';cases hH';rw[hvs]at hvs';cases hvs';refine⟨λ_=>False,.lst (O.toDs inner),.lst [],.im (.bl inner.isEmpty),(λ_ z=>z.elim),rw1.vw.less (λ_ z=>z.elim),(xx.vw R1 rv1 rfl).less (λ_ z=>z.elim),by cases inner<;>rfl,λw H3 kp rp=>?_⟩;cases rp;obtain⟨R3,g3⟩:=R1.more kp;exact⟨_,rfl,q ad1 H3 R3 (g1.trans g3)⟩)
end
abbrev zH(n:Nat)(x:Int):Prop:=0<=x/\x<(n:Int)
structure LJ(n:Nat)(j:Int->Int->Int)(e:Int):Prop where
 cl:∀a b,zH n a->zH n b->zH n (j a b)
 ce:zH n e
 ul:∀a,zH n a->j e a=a
 ur:∀a,zH n a->j a e=a
 as:∀a b c,zH n a->zH n b->zH n c->j (j a b) c=j a (j b c)
structure LD(n m:Nat)(j:Int->Int->Int)(e:Int)(d:Int->Int->Int):Prop where
 cl:∀c a,zH m c->zH n a->zH n (d c a)
 em:d 0 e=e
 dn:∀a i b k,zH n a->zH m i->zH n b->zH m k->d ((i+k)%m) (j a b)=j (d i a) (d k b)
def X1{n:Nat}(hn:0<n):zH n (x%n):=⟨zyN _ (by omega),zyH _ (by omega)⟩
def LD.congr{n m:Nat}(hm:0<m)(hj:LJ n j e)(h:LD n m j e d)(q:∀a b,zH n a->zH n b->j' a b=j a b)(p:∀c a,zH m c->zH n a->d' c a=d c a):LD n m j' e d':=by
 refine⟨λc a r f=>by rw[p c a r f];exact h.cl c a r f,by rw[p 0 e ⟨by omega,by omega⟩ hj.ce];exact h.em,λa i b k f l g o=>?_⟩;rw[q a b f g,p _ _ (X1 hm) (hj.cl a b f g),p i a l f,p k b o g,q _ _ (h.cl i a l f) (h.cl k b o g)];exact h.dn a i b k f l g o
def jS(n:Nat)(a b:Int):Int:=(a+b)%n
def jM(a b:Int):Int:=if b > a then b else a
def jL(a b:Int):Int:=if b=0 then a else b
def qx{n:Nat}(hn:0<n):LJ n (jS n) 0:=by
 refine⟨λa b _ _=>X1 hn,⟨by omega,by omega⟩,λa d=>?_,λa d=>?_,λa b c _ _ _=>?_⟩
 . unfold jS;rw[Int.zero_add,Int.emod_eq_of_lt d.1 d.2]
 . unfold jS;rw[Int.add_zero,Int.emod_eq_of_lt d.1 d.2]
 . unfold jS;rw[Int.emod_add_emod,Int.add_emod_emod,Int.add_assoc]
def qH{n:Nat}(hn:0<n):LJ n jM 0:=by
 refine⟨λa b d e=>?_,⟨by omega,by omega⟩,λa d=>?_,λa d=>?_,λa b c _ _ _=>?_⟩<;>unfold jM<;>(try unfold jM)<;>grind
def qJ{n:Nat}(hn:0<n):LJ n jL 0:=by
 refine⟨λa b d e=>?_,⟨by omega,by omega⟩,λa d=>?_,λa d=>?_,λa b c _ _ _=>?_⟩<;>unfold jL<;>grind
def four{P:Int->Prop}(h0:P 0)(h1:P 1)(h2:P 2)(h3:P 3)(h:zH 4 a):P a:=by
 rcases(show a=0\/a=1\/a=2\/a=3 by have:=h.1;have:=h.2;omega)with rfl|rfl|rfl|rfl<;>assumption
def f4{P:Int->Prop}(h:∀a ∈ ([0,1,2,3]:List Int),P a){a:Int}(ha:zH 4 a):P a:=four (h 0 (by decide)) (h 1 (by decide)) (h 2 (by decide)) (h 3 (by decide)) ha
def qQ{n m:Nat}{g x0 x1:Int}(hn:0<n)(hm:0<m)(g0:0<g)(gn:g ∣ n)(gm:g ∣ m):LD n m (jS n) 0 (λc a=>(a*x0+c*((n:Int)/g)*x1)%n):=by
 refine⟨λc a _ _=>X1 hn,by simp,λa i b k _ _ _ _=>?_⟩;obtain⟨t,e⟩:=gm;have h:(m:Int)*((n:Int)/g)=n*t:=by
  obtain⟨s,f⟩:=gn;rw[f,Int.mul_ediv_cancel_left _ (by omega),e];grind
 unfold jS;rw[<-Int.add_emod];generalize n/g=d at h;rw[Int.emod_def (i+k) m,Int.emod_def (a+b) n];generalize (i+k)/m=q;generalize (a+b)/n=p;rw[show _*x0+_*d*x1=(a*x0+i*d*x1+(b*x0+k*d*x1))+n*(-(p*x0)-t*q*x1) by grind,Int.add_mul_emod_self_left]
def qE{n m:Nat}{r:Int->Int}(hm:0<m)(h0:r 0=0)(hc:∀a,zH n a->zH n (r a))(hr:∀a b,zH n a->zH n b->a<=b->r a<=r b):LD n m jM 0 (λ_ a=>r a):=by
 refine⟨λc a _ d=>hc a d,h0,λa i b k d _ e _=>?_⟩;unfold jM;have f:=hr a b d e;have g:=hr b a e d
 split<;>split<;>grind
def qT{n m:Nat}{r:Int->Int}(h0:r 0=0)(hc:∀a,zH n a->zH n (r a))(hr:∀a,zH n a->a≠0->r a≠0):LD n m jL 0 (λ_ a=>r a):=by
 refine⟨λc a _ d=>hc a d,h0,λa i b k d _ e _=>?_⟩;unfold jL;have f:=hr b e
 split<;>split<;>grind
def AY{n1 n2:Nat}(hx:zH n1 x)(hy:zH n2 y):zH (n1*n2) (x*n2+y):=by
 have b:0<=x*n2:=Int.mul_nonneg hx.1 (by omega);have a:x*n2<=(n1-1)*n2:=Int.mul_le_mul_of_nonneg_right (by have:=hx.2;omega) (by omega);rw[Int.sub_mul,Int.one_mul]at a;refine⟨by have:=hy.1;omega, ?_⟩;rw[zzV];have:=hy.2;omega
def zW{n1 n2:Nat}(h2:0<n2)(h:zH (n1*n2) p):zH n1 (p/n2)/\zH n2 (p%n2):=
 ⟨⟨Int.ediv_nonneg h.1 (by omega),Int.ediv_lt_of_lt_mul (by omega) (by have:=h.2;rw[zzV]at this;exact this)⟩,X1 h2⟩
def XY{n2:Nat}(hy:zH n2 y):(x*n2+y)/n2=x/\(x*n2+y)%n2=y:=by
 have a:(n2:Int)≠0:=by have:=hy.1;have:=hy.2;omega
 constructor
 . rw[Int.add_comm,Int.add_mul_ediv_right _ _ a,Int.ediv_eq_zero_of_lt hy.1 hy.2,Int.zero_add]
 . rw[Int.add_comm,Int.add_mul_emod_self_right,Int.emod_eq_of_lt hy.1 hy.2]
def Dw{n2:Nat}{p:Int}:(p/n2)*n2+p%n2=p:=by rw[Int.mul_comm];exact Int.mul_ediv_add_emod p n2
noncomputable def jB(n2:Nat)(j1 j2:Int->Int->Int)(p q:Int):Int:=j1 (p/n2) (q/n2)*n2+j2 (p%n2) (q%n2)
noncomputable def dB(n2:Nat)(d1 d2:Int->Int->Int)(c p:Int):Int:=d1 c (p/n2)*n2+d2 c (p%n2)
def GW{n k:Nat}(h:n<=8)(hk:8<=k:=by decide):n<=k:=zzO h hk
def GZ{n:Nat}(h:1<=n):(0:Int)<n:=Int.natCast_pos.mpr h
def tS{a:Int}{n:Nat}(h0:0<=a)(h1:a<n):a.toNat<n:=Int.ofNat_lt.mp (by rw[zyZ h0];exact h1)
def mU{n:Nat}(h:n<=8)(hk:8<k:=by decide):(n:Int)<k:=Int.lt_of_le_of_lt (Int.ofNat_le.mpr h) hk
def iT{n:Nat}(h:zH n x):x.toNat<n:=Int.ofNat_lt.mp (by rw[zyZ h.1];exact h.2)
def iC{n:Nat}(h:zH n x):((x.toNat:Nat):Int)=x:=zyZ h.1
def zI(i:Nat):(0:Int)<=0+i:=by rw[Int.zero_add];exact Int.natCast_nonneg i
def ZJ(r:List Int)(v:Int):Int:=(r[v.toNat]?).getD 0
noncomputable def yW(J:List (List Int))(w v:Int):Int:=ZJ ((J[w.toNat]?).getD []) v
local macro_rules | `(tactic| trivial)=>`(tactic| first|with_reducible first|assumption|exact Int.natCast_nonneg _|exact Nat.le_refl _|exact Int.le_refl _|exact rfl|exact GW (by assumption)|exact GZ (by assumption)|exact np2 (by assumption)|exact nq1 (by assumption)|exact nq2 (by assumption)|exact Int.natCast_pos.mpr (by assumption)|exact Nat.le_trans (by assumption) (by decide)|exact bgL _|exact bgU (by assumption)|exact mU (by assumption)|exact zI _|exact bL0 (by assumption)|exact bU0 (by assumption) (by assumption)|exact iL (by assumption)|exact iU (by assumption) (by assumption)|exact iC (by assumption)|exact iT (by assumption)|exact stL (by assumption)|exact stU (by assumption)|exact lnK (by assumption) (by assumption) (by assumption)|exact zi1 _|exact lnE (by assumption)|exact ltL (by assumption)|exact Int.toNat_of_nonneg (by assumption)|exact tS (by assumption) (by assumption)|exact b6 (by assumption)|exact Int.emod_nonneg _ (by decide)|exact Int.emod_lt_of_pos _ (by decide)|decide|omega)
abbrev xX(x:Int):O:=.lf true (.int x)
abbrev sI(x:Int):Option O:=some (xX x)
abbrev sT(d:D):Option O:=some (.lf true d)
abbrev sN(os:List O):Option O:=some (.nd .ls os)
abbrev TZ:Type:=List (List Int)
abbrev DD:Type:=List (Str×TZ)
abbrev SS:Type:=List (Str×List Int)
def Ys{f as as1 o}(h:f as=some (.ow o,as1))(hs:o.str=true):zY f as=some (.rt o):=by
 unfold zY;rw[h];show((if o.str=true then some o else none).bind _)=_;rw[if_pos hs];rfl
theorem xp:∀xs:List Int,(xs.map xX).all O.isLf=true/\O.strs (xs.map xX)=true/\O.toDs (xs.map xX)=xs.map D.int
 | []=>⟨rfl,rfl,rfl⟩
 |x::r=>⟨(xp r).1,(xp r).2.1,congrArg _ (xp r).2.2⟩
def Mb(xs:List Int):(xs.map D.int).map (O.lf true)=xs.map xX:=by rw[zyB];rfl
def YW(ys)(w):(ys++[w]).map xX=ys.map xX++[O.lf true (.int w)]:=by rw[zyM];rfl
def YY(xs:List Int):(O.nd .ls (xs.map xX)).str=true/\(O.nd .ls (xs.map xX)).toD = .lst (xs.map D.int):=⟨(xp xs).2.1,congrArg D.lst (xp xs).2.2⟩
abbrev Zd(r:List Int):O:=.nd .ls (r.map xX)
abbrev zk(r:List Int):D:=.lst (r.map D.int)
theorem Zq:∀T:TZ,O.strs (T.map Zd)=true/\O.toDs (T.map Zd)=T.map zk
 | []=>⟨rfl,rfl⟩
 |r::T=>⟨by show(O.strs _&&O.strs _)=true;rw[(xp r).2.1,(Zq T).1];rfl,by
  show D.lst _::O.toDs _=_;rw[(xp r).2.2,(Zq T).2];rfl⟩
def Vy{g fe as0 as1 y r o os}(h1:g y as0=some as1)(h2:fe as1=some (.ow o,as1))(hs:o.str=true)(h3:xt g yH fe as0 r=some os):xt g yH fe as0 (y::r)=some (o::os):=by
 unfold xt;rw[h1];show((fe as1).bind _)=_;rw[h2];show(if o.str=true then _ else _)=_;rw[if_pos hs,h3];rfl
theorem yr:∀(n:Nat) (k:Int),(yT k n).length=n
 |0,_=>rfl
 |n+1,k=>by rw[Px];exact congrArg (· + 1) (yr n (k+1))
theorem M_:∀{n:Nat}{k:Int}{y:Yt},y ∈ yT k n->∃b:Int,y=(true,.int b)/\k<=b/\b<k+n
 |0,_,_,h=>nomatch h
 |n+1,k,y,h=>by
  rw[Px]at h
  rcases zzC.mp h with rfl|h
  . exact⟨k,rfl,by trivial,by trivial⟩
  . obtain⟨b,e,a,c⟩:=M_ h;exact⟨b,e,by trivial,by trivial⟩
def Row(n:Nat)(r:List Int):Prop:=r.length=n/\∀x ∈ r,0<=x/\x<(n:Int)
def Tab(k n:Nat)(T:TZ):Prop:=T.length=k/\∀r ∈ T,Row n r
abbrev zU(T:TZ):D:=.lst (T.map zk)
def Iv{r}{P:Int->Prop}{k}(h0:0<=k)(h1:k<r.length)(hp:∀x ∈ r,P x):∃x,zy (zk r) (.int k)=some (.im (.int x))/\P x:=by
 have a:k.toNat<r.length:=by trivial
 refine⟨r[k.toNat], ?_,hp _ (zxA a)⟩;have h:=x8 (xs:=r.map D.int) (by rw[zzI,zzE a];rfl);rw[show(k.toNat:Int)=k by trivial]at h;show Ss _=_;rw[h];rfl
def V1{α:Type}{f}{l:List α}{i:Nat}{p}(h:l[i]? = some p):zy (.lst (l.map f)) (.int (i:Int))=some (.im (f p)):=by
 have h:=x8 (v:=f p) (by rw[zzI,h];rfl);show Ss _=_;rw[h];rfl
def Ab{n k:Nat}{r}{v:Int}(hl:r.length=k)(hr:∀x ∈ r,zH n x)(hv:zH k v):zy (zk r) (.int v)=some (.im (.int (ZJ r v)))/\zH n (ZJ r v):=by
 have a:v.toNat<r.length:=by rw[hl];have:=hv.1;have:=hv.2;trivial
 have g:=zzE a;have e:ZJ r v=r[v.toNat]:=by unfold ZJ;rw[g];rfl
 rw[e];refine⟨?_,hr _ (zxA a)⟩;have:=V1 (f:=D.int) g;rw[show(v.toNat:Int)=v by have:=hv.1;trivial]at this;exact this
abbrev L8(T:TZ)(w:Int):List Int:=(T[w.toNat]?).getD []
def vV{k n:Nat}{T}{w:Int}(hT:Tab k n T)(hw:zH k w):zy (zU T) (.int w)=some (.im (zk (L8 T w)))/\Row n (L8 T w):=by
 have a:w.toNat<T.length:=by rw[hT.1];have:=hw.1;have:=hw.2;trivial
 have g:=zzE a;unfold L8;rw[g];refine⟨?_,hT.2 _ (zxA a)⟩;have:=V1 (f:=zk) g;rw[show(w.toNat:Int)=w by have:=hw.1;trivial]at this;exact this
def rowAt{n:Nat}{r v}(hr:Row n r)(hv:zH n v):zy (zk r) (.int v)=some (.im (.int (ZJ r v)))/\zH n (ZJ r v):=Ab hr.1 hr.2 hv
theorem MM{α:Type}(toD){Q:Nat->α->Prop}{g fe as0}:∀{xs:List Yt}(k:Nat),(∀i y,xs[i]? = some y->∃as1 a,g y as0=some as1/\WE fe as1 (toD a)/\Q (k+i) a)->∃(os:List O) (l:List α),xt g yH fe as0 xs=some os/\O.strs os=true/\O.toDs os=l.map toD/\l.length=xs.length/\∀i a,l[i]? = some a->Q (k+i) a
 | [],k,_=>⟨[],[],rfl,rfl,rfl,rfl,λi a h=>by simp at h⟩
 |y::e,k,H=>by
  obtain⟨f,a,j,⟨o,n,d,p⟩,q⟩:=H 0 y rfl;obtain⟨c,l,r,s,t,u,v⟩:=MM toD (k+1) λi z m=>by
   have:=H (i+1) z (by simpa using m)
   rwa [show k+(i+1)=k+1+i by trivial]at this
  refine⟨o::c,a::l,Vy j n d r,by show(o.str&&O.strs c)=true;rw[d,s];rfl,by show o.toD::O.toDs c=_;rw[p,t];rfl,congrArg (· + 1) u,λi b m=>?_⟩;cases i with
  |zero=>simp at m;subst m;exact q
  |succ i=>
   have:=v i b (by simpa using m)
   rwa [show k+1+i=k+(i+1) by trivial]at this
def Bz{α:Type}(toD:α->D){Q:Nat->α->Prop}{fi cap g fe as xs}(h1:fi as=some (xs,as))(hl:xs.length<=1000)(H:∀i y,xs[i]? = some y->∃as1 a,g y (Y2 cap as)=some as1/\WE fe as1 (toD a)/\Q i a):
 ∃l:List α,l.length=xs.length/\(∀i a,l[i]? = some a->Q i a)/\WE (ya fi cap g yH fe) as (.lst (l.map toD)):=by
 obtain⟨j,l,b,c,d,e,f⟩:=MM toD 0 (λi y h=>by rw[zyY];exact H i y h);exact⟨l,e,(λi a h=>by have:=f i a h;rwa [zyY]at this),_,XQ h1 (S9 (by trivial)) b,c,congrArg D.lst d⟩
abbrev Cg(N n:Nat)(f:Int->Int)(r:List Int):Prop:=r.length=n/\(∀x ∈ r,zH N x)/\∀b,zH n b->ZJ r b=f b
abbrev AZ(k n:Nat)(f:Int->Int->Int)(T:TZ):Prop:=Tab k n T/\∀a b,zH k a->zH n b->yW T a b=f a b
def ON{N n:Nat}{f l}(hl:l.length=n)(h:∀(i:Nat) a,l[i]? = some a->a=f i/\zH N a):Cg N n f l:=by
 refine⟨hl,λx m=>?_,λb c=>?_⟩
 . obtain⟨i,d⟩:=zyV m;exact(h i x d).2
 . have e:b.toNat<l.length:=by rw[hl];have:=c.1;have:=c.2;trivial
   have g:=zzE e;unfold ZJ;rw[g];show l[b.toNat]=_;rw[(h _ _ g).1,show(b.toNat:Int)=b by have:=c.1;trivial]
def Hz{k n:Nat}{f l}(hl:l.length=k)(h:∀(i:Nat) r,l[i]? = some r->Cg n n (f i) r):AZ k n f l:=by
 refine⟨⟨hl,λx m=>?_⟩,λa b c e=>?_⟩
 . obtain⟨i,d⟩:=zyV m;exact⟨(h i x d).1,(h i x d).2.1⟩
 . have j:a.toNat<l.length:=by rw[hl];have:=c.1;have:=c.2;trivial
   have g:=zzE j;unfold yW;rw[g];have:=(h _ _ g).2.2 b e;rw[show(a.toNat:Int)=a by have:=c.1;trivial]at this;exact this
def M7{f:Int->Int}{N:Nat}{fr cap fe as}{n:Nat}{u}(h1:WA fr as [(u,.int n)])(hl:n<=1000)(H:∀b:Int,zH n b->∃as1,gN 0 (true,.int b) (Y2 cap as)=some as1/\WE fe as1 (.int (f b))/\zH N (f b)):
 ∃r:List Int,Cg N n f r/\WE (ya (ye fr yj) cap (gN 0) yH fe) as (zk r):=by
 obtain⟨l,d,e,h⟩:=Bz D.int (Q:=λi a=>a=f i/\zH N a) (yX h1 (by trivial) (by trivial)) (by rw[yr];trivial) (λi y m=>by
  obtain⟨rfl,p⟩:=yO m;obtain⟨c,j,k,o⟩:=H (0+i) ⟨by trivial,by trivial⟩;exact⟨c,f (0+i),j,k,by rw[Int.zero_add],o⟩)
 rw[yr]at d;exact⟨l,ON (by trivial) e,h⟩
def Ec{f:Int->Int->Int}{n:Nat}{fr cap fe as}{k:Nat}{u}(h1:WA fr as [(u,.int k)])(hl:k<=1000)(H:∀b:Int,zH k b->∃as1 r,gN 0 (true,.int b) (Y2 cap as)=some as1/\WE fe as1 (zk r)/\Cg n n (f b) r):
 ∃T:TZ,AZ k n f T/\WE (ya (ye fr yj) cap (gN 0) yH fe) as (zU T):=by
 obtain⟨l,d,e,h⟩:=Bz zk (yX h1 (by trivial) (by trivial)) (by rw[yr];trivial) (λi y m=>by
  obtain⟨rfl,p⟩:=yO m;obtain⟨a,r,j,o,c⟩:=H (0+i) ⟨by trivial,by trivial⟩;rw[Int.zero_add]at c;exact⟨a,r,j,o,c⟩)
 rw[yr]at d;exact⟨l,Hz (by trivial) e,h⟩
def Nt:∀(b:Nat) (a:Int) (f:Nat),b<f->0<a->a<1000->b<1000->∃g e,0<g/\g<1000/\g ∣ a/\g ∣ (b:Int)/\Ml (fT (f2 (fV 1) (fC (.int 0)) (zB .Gt))) (SI 0 1 (dC (fV 1) (dC (f2 (fV 0) (fV 1) (XZ .Mod)) dN))) f [sI a,sI b]=some (.nx [sI g,e]):=by
 intro b
 induction b using Nat.strongRecOn with
 |ind b ih=>
  intro a f hf ha ha2 hb2;cases f with
  |zero=>trivial
  |succ f=>
   by_cases hb:b=0
   . subst hb;exact⟨a,_,ha,ha2,Int.dvd_refl a,Int.dvd_zero a,NO (yI (K5 (za rfl) zb) rfl)⟩
   . have m0:=zyN a (show(b:Int)≠0 by trivial);have m1:=zyH a (show(0:Int)<b by trivial);obtain⟨g,e,g0,g1,d1,d2,hg⟩:=ih (a%b).toNat (by trivial) b f (by trivial) (by trivial) (by trivial) (by trivial);rw[show(((a%b).toNat:Nat):Int)=a%b by trivial]at hg d2;refine⟨g,e,g0,g1, ?_,d1,NJ (yI (K5 (za rfl) zb) (congrArg some (zyO (show(0:Int)<b by trivial)))) (Jp (zw (za rfl) (zw (zP (za rfl) (za rfl) (by trivial)) zR)) (zh rfl) (zh rfl)) hg⟩;rw[<-Int.mul_ediv_add_emod a b];exact Int.dvd_add (Int.dvd_trans d1 (Int.dvd_mul_right _ _)) d2
theorem strs_snoc:∀(os:List O) (o:O),O.strs os=true->o.str=true->O.strs (os++[o])=true
 | [],o,_,h=>by show(o.str&&true)=true;rw[h];rfl
 |p::r,o,h,a=>by
  have h:=(zyC _ _).mp (h);show(p.str&&O.strs (r++[o]))=_;rw[h.1,strs_snoc r o h.2 a];rfl
theorem Tc:∀(os:List O) (o:O),O.toDs (os++[o])=O.toDs os++[o.toD]
 | [],o=>rfl
 |p::r,o=>congrArg _ (Tc r o)
structure Ows{α:Type}(toD:α->D)(Q:α->Prop)(os:List O)(l:List α):Prop where
 st:O.strs os=true
 ds:O.toDs os=l.map toD
 al:∀a ∈ l,Q a
 ln:os.length=l.length
def Ows.nil{α:Type}{toD}{Q:α->Prop}:Ows toD Q [] []:=⟨rfl,rfl,(λ_ m=>nomatch m),rfl⟩
def Ows.snoc{α:Type}{toD Q os l o}{a:α}(h:Ows toD Q os l)(h1:o.str=true)(h2:o.toD=toD a)(h3:Q a):Ows toD Q (os++[o]) (l++[a]):=
 ⟨strs_snoc os o h.st h1,(by rw[Tc,h.ds,h2,zyM];rfl),(λb m=>(zzM.mp m).elim (h.al b) λm=>(by rw[zzR.mp m];exact h3)),(by rw[zzJ,zzJ,h.ln];rfl)⟩
def Vu{as as1 a}{i:Nat}{os0 os o}(h:as[i]? = some (sN os0))(ha:a as=some (.ow o,as1))(h1:as1[i]? = some (sN os))(hl:os.length<sizeLine):yq (xO i (dC a dN) wg) as=some (.nx (as1.set i (sN (os++[o])))):=by
 unfold yq xO;rw[h];have e:dC a dN as=some _:=yD ha rfl;rw[e];show(Option.bind (match as1[i]? with|some (some (.nd .ls os))=>_|_=>none) _)=_;rw[h1];show((wg os [o]).bind _).bind _=_;have e2:wg os [o]=some (os++[o],.lf true .non):=by unfold wg;exact if_pos hl
 rw[e2];rfl
def sY{α:Type}{toD Q as a}{i:Nat}{os l}{x:α}(h:as[i]? = some (sN os))(ho:Ows toD Q os l)(hl:l.length<1000)(ha:WE a as (toD x))(hx:Q x):
 ∃os',Ows toD Q os' (l++[x])/\yq (xO i (dC a dN) wg) as=some (.nx (as.set i (sN os'))):=by
 obtain⟨o,b,c,d⟩:=ha;exact⟨os++[o],ho.snoc c d hx,Vu h b h (by rw[ho.ln];exact zQ (by trivial))⟩
def Ows.retB{α:Type}{toD Q as}{i:Nat}{os}{l:List α}(h:as[i]? = some (sN os))(ho:Ows toD Q os l):Rt (zY (fV i) as) (.lst (l.map toD)):=
 ⟨_,UA h ho.st,ho.st,congrArg D.lst ho.ds⟩
structure OwsX{α:Type}(toD:α->D)(Q:Nat->α->Prop)(os:List O)(l:List α):Prop where
 st:O.strs os=true
 ds:O.toDs os=l.map toD
 al:∀i a,l[i]? = some a->Q i a
 ln:os.length=l.length
def CJ{fr as rs g zs}(ha:WA fr as rs)(hg:g (rs.map (·.2))=some (.fl zs)):fP fr g as=some (.ow (.nd .ls (zs.map (N7 (rs.all (·.1))))),as):=by
 unfold fP;unfold WA at ha;rw[ha];show(views as _).bind _=_;rw[vT];show(g _).bind _=_;rw[hg];show(if _=true then _ else _:Option RV).bind _=_;rw[if_pos (by simp)];rfl
def Na{a as x g zs}(ha:WE a as x)(hg:g [x]=some (.fl zs)):fP (aC a aN) g as=some (.ow (.nd .ls (zs.map (O.lf true))),as):=by
 have:=CJ (ZY ha (zz)) hg;rw[show([(true,x)].all (·.1))=true from rfl,Zg]at this;exact this
def CA{a as s r}(h:WD a as s (zk r)):fP (aC a aN) lstP as=some (.ow (Zd r),as):=by
 have:=CJ (g:=lstP) (zf h (zz)) rfl;rw[zyB]at this;exact this
def Br{a as s r}(h:WD a as s (zk r)):WE (fP (aC a aN) lstP) as (zk r):=⟨_,CA h,(YY r).1,(YY r).2⟩
def Sx{a b c d as x y z u w g}(ha:WE a as x)(hb:WE b as y)(hc:WE c as z)(hd:WE d as u)(hg:RE (g [(true,x),(true,y),(true,z),(true,u)]) w):WE (zt (aC a (aC b (aC c (aC d aN)))) g) as w:=by
 obtain⟨o,e,f⟩:=hg;exact⟨o,vL (ZY ha (ZY hb (ZY hc (ZY hd zz)))) (by show g [(zF x||true,x),(zF y||true,y),(zF z||true,z),(zF u||true,u)]=_;rw[zyD,zyD,zyD,zyD];exact e),f⟩
def R_{fr as os x}(h:WO fr as os)(hl:os.length<=sizeLine)(hs:O.strs os=true)(e:D.tup (O.toDs os)=x):WE (yf fr) as x:=by
 refine⟨_,GT h hl, ?_, ?_⟩
 . unfold ZU
   split
   . exact hs
   . exact hs
 . unfold ZU
   split
   . exact e
   . exact e
def A7{n m:Nat}{fr cap as u s r}(hr:Row n r)(hm:m<=8)(h1:WA fr as [(u,.int m)])(h2:∀b:Int,∃as1,gN 0 (true,.int b) (Y2 cap as)=some as1/\WD (fV 1) as1 s (zk r)):
 ∃T,AZ m n (λ_ a=>ZJ r a) T/\WE (ya (ye fr yj) cap (gN 0) yH (fP (aC (fV 1) aN) lstP)) as (zU T):=
 Ec h1 (by trivial) λb _=>by
  obtain⟨c,d,e⟩:=h2 b;exact⟨c,r,d,Br e,hr.1,hr.2,λ_ _=>rfl⟩
def EE{l:List Int}(h:l.Pairwise (· <= ·)){i j:Nat}(hij:i<j)(hj:j<l.length):l[i]<=l[j]:=List.pairwise_iff_getElem.mp h i j (by trivial) hj hij
def Yy{r a}(h:a.toNat<r.length):ZJ r a=r[a.toNat]:=by unfold ZJ;rw[zzE h];rfl
theorem Kz:∀l:List Int,Zu (l.map D.int)=some l
 | []=>rfl
 |x::r=>by
  show(Zu _).bind _=_;rw[Kz r];rfl
def AQ{as}{i:Nat}{os fl fh lo hi}(h:as[i]? = some (sN os))(hl:os.all O.isLf=true)(hs:O.strs os=true)(h1:fl as=some (lo,as))(h2:fh as=some (hi,as)):
 A9 (fV i) fl fh Jh as=some (.ow (.nd .ls ((cutD (O.toDs os) lo hi).map (O.lf true))),as):=by
 unfold A9;rw[Wi h];show((fl as).bind _)=_;rw[h1];show((fh as).bind _)=_;rw[h2];show((RV.view as (.bo i)).bind _)=_;rw[Zt h];have e:(O.nd .ls os).kl=some true:=by simp only[O.kl,hl,if_true,hs]
 rw[e];show(if _=true then some (RV.ow (.nd .ls ((cutD _ lo hi).map (N7 true))))else none:Option RV).bind _=_;rw[if_pos (by simp),Zg];rfl
theorem Ows.frz{α:Type}{toD:α->D}{Q:α->Prop}{os:List O}{l:List α}(h:Ows toD Q os l):(O.nd .ls os).frz = .lf true (.lst (l.map toD)):=by
 show O.lf (O.strs os) (.lst _)=_;rw[h.st,h.ds]
def LV{as as2}{j:Nat}{ps fr os}(hj:as[j]? = some (sN ps))(hr:fr (as.set j (some (O.nd .ls ps).frz))=some (os,as2)):dC (fV j) fr as=some ((O.nd .ls ps).frz::os,as2):=by
 unfold dC;rw[Wi hj];show((Ow as _).bind _)=_;rw[Je hj];show(fr _).bind _=_;rw[hr];rfl
def Ut{as as1 fr os}(h:fr as=some (os,as1))(hl:os.length<=sizeLine):yf fr as=some (.ow (ZU os),as1):=by
 unfold yf;rw[h];show(if os.length<=sizeLine then _ else _)=_;rw[if_pos hl]
theorem Re:∀(l:List Int) (k:Nat) (h:k<l.length),(l[k]::l.eraseIdx k).Perm l
 |x::r,0,_=>List.Perm.refl _
 |x::r,k+1,h=>(List.Perm.swap _ _ _).trans ((Re r k (by simpa using h)).cons x)
abbrev Vn(n:Nat):List Int:=(List.range n).map λ(i:Nat)=>(i:Int)
abbrev y_(p:Str×List Int):D:=.tup [.str p.1,zk p.2]
def BP{x y c}:zy (.lst [.int x,.int y]) (.int (if c=true then 1 else 0))=some (.im (.int (if c=true then y else x))):=by cases c<;>rfl
abbrev BY:Str:="abcdefghijklmnopqrstuvwxyz"
def O0:∀k,k<26->BY.cps.toList[k]? = some (97+k):=by decide +kernel
def JX{i}(h0:0<=i)(h1:i<26):zy (.str BY) (.int i)=some (.im (.str ⟨#[97+i.toNat]⟩)):=by
 show(if BY.length<=sizeLine then(GU BY.cps.toList i).bind _ else none)=_;rw[if_pos (show BY.length<=sizeLine by decide +kernel)];have:=x8 (O0 i.toNat (by trivial));rw[show(i.toNat:Int)=i by trivial]at this;rw[this];rfl
theorem Kr:∀l:List Str,UM (l.map D.str)=some l
 | []=>rfl
 |x::r=>by
  show(UM _).bind _=_;rw[Kr r];rfl
theorem Dk:∀l:List Str,(∀s ∈ l,s.length=1)->(l.map (·.length)).sum=l.length
 | [],_=>rfl
 |x::r,h=>by
  show x.length+(r.map _).sum=r.length+1;rw[h x (zzF ..),Dk r λs m=>h s (zzD _ m)];trivial
def Cd{α:Type}(toD:α->D){Q:Nat->α->Prop}{fr:AF}{cap:List (Option Nat)}{fe:EF}{as:AS}{n:Nat}{u:Bool}(h1:WA fr as [(u,.int n)])(hl:n<=1000)(H:∀i:Nat,i<n->∃as1 a,gN 0 (true,.int (i:Int)) (Y2 cap as)=some as1/\WE fe as1 (toD a)/\Q i a):
 ∃l:List α,l.length=n/\(∀i a,l[i]? = some a->Q i a)/\WE (ya (ye fr yj) cap (gN 0) yH fe) as (.lst (l.map toD)):=by
 obtain⟨l,b,c,d⟩:=Bz toD (yX h1 (by trivial) (by trivial)) (by rw[yr];trivial) (λi y m=>by
  obtain⟨rfl,e⟩:=yO m;rw[Int.zero_add];exact H i (by trivial))
 rw[yr]at b;exact⟨l,by trivial,c,d⟩
def vX{F}{n:Nat}(h:F.Perm (Vn n)):Row n F/\∀b:Int,0<=b->b<n->b ∈ F:=by
 refine⟨⟨by rw[h.length_eq,zzB,zyU],λx m=>?_⟩,λb c d=>h.mem_iff.mpr ?_⟩
 . obtain⟨i,a,rfl⟩:=zxE.mp (h.mem_iff.mp m);have:=List.mem_range.mp a;trivial
 . exact zxE.mpr ⟨b.toNat,List.mem_range.mpr (by trivial),by trivial⟩
def KW{F}{n:Nat}(h:F.Perm (Vn n)){v w}(hv:zH n v)(hw:zH n w)(e:ZJ F v=ZJ F w):v=w:=by
 have a:=(vX h).1.1;have b:=hv.1;have c:=hv.2;have d:=hw.1;have f:=hw.2;have nd:F.Nodup:=by
  refine h.nodup_iff.mpr (List.pairwise_map.mpr (List.nodup_range.imp λz q=>z (by trivial)))
 rw[Yy (by trivial),Yy (by trivial)]at e;have:=(List.getElem_inj nd).mp e;trivial
def Im{f g as as' x}(h:WE f as x)(hg:g (true,x) as=some as'):TH f g as=some (.nx as'):=by
 obtain⟨o,a,b,c⟩:=h;exact IX a (by rw[b,c];exact hg)
abbrev x_(p:Str×TZ):D:=.tup [.str p.1,zU p.2]
structure Alg(n m:Nat)(J:TZ)(e:Int)(Ds:DD):Prop where
 n1:1<=n
 n8:n<=8
 m1:1<=m
 m6:m<=6
 j:Tab n n J
 e0:0<=e
 en:e<n
 dl:Ds.length<=6
 ds:∀p ∈ Ds,Tab m n p.2
 nd:(Ds.map (·.1)).Nodup
structure LawA(n m:Nat)(J:TZ)(e:Int)(Ds:DD):Prop where
 lj:LJ n (yW J) e
 ld:∀p ∈ Ds,LD n m (yW J) e (yW p.2)
abbrev zj(n m:Nat)(J:TZ)(e:Int)(Ds:DD)(S:SS):D:=.tup [.int n,.int m,zU J,.int e,.lst (Ds.map x_),.lst (S.map y_)]
def JS{f as k}(h:WD f as true (.int k)):oS f as=some (some k,as):=by
 unfold oS;unfold WD at h;rw[h];rfl
abbrev wz(T:TZ):O:=.nd .ls (T.map Zd)
def wA{as}{i:Nat}{k s}(h:as[i]? = some (some (.lf s (.int k)))):xV i as=some k:=by
 unfold xV;rw[Um (f:=Ul) h rfl];rfl
def Sg{r:List Int}{k:Int}(h:k.toNat<r.length):(r.map xX)[k.toNat]? = sT (.int r[k.toNat]):=by
 rw[zzI,zzE h];rfl
def EB{as:AS}{i:Nat}{f1 f2 fv:RS}{k1 k2 c:Int}{T:TZ}{r:List Int}(h1:f1 as=some k1)(h2:f2 as=some k2)(hv:fv as=some c)(p1:0<=k1)(p2:0<=k2)(hi:as[i]? = some (some (wz T)))(hr:T[k1.toNat]? = some r)(hk:k2.toNat<r.length):
 Xo i f1 f2 fv as=some (.nx (as.set i (some (wz (T.set k1.toNat (r.set k2.toNat c)))))):=by
 have a:(T.map Zd)[k1.toNat]? = sN (r.map xX):=by rw[zzI,hr];rfl
 have b:=Sg hk;have d:(T.map Zd).set k1.toNat (.nd .ls ((r.map xX).set k2.toNat (.lf true (.int c))))=(T.set k1.toNat (r.set k2.toNat c)).map Zd:=by
  rw[List.map_set];show _=(T.map Zd).set k1.toNat (.nd .ls _);rw[List.map_set]
 unfold Xo;simp only[h1,h2,hv,zyL,if_pos (show 0<=k1/\0<=k2 from⟨p1,p2⟩),(Um hi rfl:Pu Ye as i=some _),(Xy a rfl:RR Ye _ _=some _),(Xy b rfl:RR Ul _ _=some _),d]
def Mm{n i:Nat}{r c}(hr:Row n r)(hc:zH n c):Row n (r.set i c):=by
 refine⟨by rw[zzU];exact hr.1,λx m=>?_⟩
 rcases List.mem_or_eq_of_mem_set m with m|rfl
 . exact hr.2 x m
 . exact hc
def M4{k n i:Nat}{T r}(hT:Tab k n T)(hr:Row n r):Tab k n (T.set i r):=by
 refine⟨by rw[zzU];exact hT.1,λx m=>?_⟩
 rcases List.mem_or_eq_of_mem_set m with m|rfl
 . exact hT.2 x m
 . exact hr
theorem set_same{α:Type}:∀{l:List α}{i:Nat}{a:α},l[i]? = some a->l.set i a=l
 | [],_,_,h=>by simp at h
 |x::l,0,a,h=>by
  simp at h;rw[h];rfl
 |x::l,i+1,a,h=>congrArg (x :: ·) (set_same (by simpa using h))
def N4(T):(wz T).frz = .lf true (zU T):=by
 show O.lf (O.strs _) (.lst _)=_;rw[(Zq T).1,(Zq T).2]
def RA{n:Nat}{J w v}(hJ:Tab n n J)(hw:zH n w)(hv:zH n v):zH n (yW J w v):=(rowAt (vV hJ hw).2 hv).2
def Zb{a b c as}{n:Nat}{J w v}(hJ:Tab n n J)(hw:zH n w)(hv:zH n v)(ha:WD a as true (zU J))(hb:WD b as true (.int w))(hc:WD c as true (.int v)):WD (f2 (f2 a b zy) c zy) as true (.int (yW J w v)):=
 ym (yM ha hb (vV hJ hw).1) hc (rowAt (vV hJ hw).2 hv).1 rfl
def CY{fr as rs g kvs}(ha:WA fr as rs)(hg:g (rs.map (·.2))=some (.fd kvs)):fP fr g as=some (.ow (.nd (.dc (kvs.map (·.1))) ((kvs.map (·.2)).map (N7 (rs.all (·.1))))),as):=by
 unfold fP;unfold WA at ha;rw[ha];show(views as _).bind _=_;rw[vT];show(g _).bind _=_;rw[hg];show(if _=true then _ else _:Option RV).bind _=_;rw[if_pos (by simp)];rfl
def yY{v n:Nat}(h:as[v]? = some (some (.lf s (.int n))))(hn:n<=1000):yo (ye (aC (fV v) aN) yj) g f as=forL g f (yT 0 n) as:=
 yQ (yX (zf (za h) zz) (by trivial) (by trivial)) (by rw[zyI])
def Ng(ha:WD a as s (.int x))(hb:WD b as t (.int y)):WT (fT (f2 a b (zB .NotEq))) as (!(x==y)):=yI (DM ha hb rfl) rfl
section
variable{n m:Nat}{J T:TZ}{e:Int}{Ds:DD}{S:SS}
def v8(hT:Tab m n T)(hw:zH m w)(hv:zH n v)(ha:WD a as true (zU T))(hb:WD b as true (.int w))(hc:WD c as true (.int v)):WD (f2 (f2 a b zy) c zy) as true (.int (yW T w v))/\zH n (yW T w v):=
 ⟨ym (yM ha hb (vV hT hw).1) hc (rowAt (vV hT hw).2 hv).1 rfl,(rowAt (vV hT hw).2 hv).2⟩
end
def iP(b k:Int):Int:=if k=0 then b/2 else b%2
def jP(a b:Int):Int:=2*iP b (a/2)+iP b (a%2)
noncomputable def sP(a:Int):Int:=2*(1-a%2)+1-a/2
def tQ:LJ 4 jP 1:=by
 refine⟨λa b d e=>?_,⟨by decide,by decide⟩,λa d=>?_,λa d=>?_,λa b c d e f=>?_⟩
 . revert b;refine f4 (P:=λa=>∀b,zH 4 b->zH 4 (jP a b)) ?_ d
   have:∀a ∈ ([0,1,2,3]:List Int),∀b ∈ ([0,1,2,3]:List Int),zH 4 (jP a b):=by decide
   exact λa m b e=>f4 (this a m) e
 . exact f4 (P:=λa=>jP 1 a=a) (by decide) d
 . exact f4 (P:=λa=>jP a 1=a) (by decide) d
 . have:∀a ∈ ([0,1,2,3]:List Int),∀b ∈ ([0,1,2,3]:List Int),∀c ∈ ([0,1,2,3]:List Int),jP (jP a b) c=jP a (jP b c):=by decide
   refine f4 (λa m=>f4 (λb g=>f4 (this a m b g) f) e) d
def q8{m:Nat}{r:Int->Int}(h:(∀a,zH 4 a->r a=a)\/(∀a,zH 4 a->r a=sP a)):LD 4 m jP 1 (λ_ a=>r a):=by
 rcases h with h|h
 . refine⟨λc a _ d=>by show zH 4 (r a);rw[h a d];exact d,h 1 ⟨by decide,by decide⟩,λa i b k d _ e _=>?_⟩;rw[h a d,h b e,h _ (tQ.cl a b d e)]
 . refine⟨λc a _ d=>by show zH 4 (r a);rw[h a d];exact f4 (P:=λa=>zH 4 (sP a)) (by decide) d,h 1 ⟨by decide,by decide⟩,λa i b k d _ e _=>?_⟩;rw[h a d,h b e,h _ (tQ.cl a b d e)];have:∀a ∈ ([0,1,2,3]:List Int),∀b ∈ ([0,1,2,3]:List Int),sP (jP a b)=jP (sP a) (sP b):=by decide
   exact f4 (λa m=>f4 (this a m) e) d
def qY{n1 n2:Nat}(h1:LJ n1 j1 e1)(h2:LJ n2 j2 e2)(p2:0<n2):LJ (n1*n2) (jB n2 j1 j2) (e1*n2+e2):=by
 refine⟨λa b d e=>?_,AY h1.ce h2.ce,λa d=>?_,λa d=>?_,λa b c d e f=>?_⟩
 . exact AY (h1.cl _ _ (zW p2 d).1 (zW p2 e).1) (h2.cl _ _ (zW p2 d).2 (zW p2 e).2)
 . unfold jB;rw[(XY h2.ce).1,(XY h2.ce).2,h1.ul _ (zW p2 d).1,h2.ul _ (zW p2 d).2,Dw]
 . unfold jB;rw[(XY h2.ce).1,(XY h2.ce).2,h1.ur _ (zW p2 d).1,h2.ur _ (zW p2 d).2,Dw]
 . unfold jB;rw[(XY (h2.cl _ _ (zW p2 d).2 (zW p2 e).2)).1,(XY (h2.cl _ _ (zW p2 d).2 (zW p2 e).2)).2,(XY (h2.cl _ _ (zW p2 e).2 (zW p2 f).2)).1,(XY (h2.cl _ _ (zW p2 e).2 (zW p2 f).2)).2,h1.as _ _ _ (zW p2 d).1 (zW p2 e).1 (zW p2 f).1,h2.as _ _ _ (zW p2 d).2 (zW p2 e).2 (zW p2 f).2]
def qg{n1 n2 m:Nat}(h1:LJ n1 j1 u1)(h2:LJ n2 j2 u2)(p2:0<n2)(e1:LD n1 m j1 u1 d1)(e2:LD n2 m j2 u2 d2):LD (n1*n2) m (jB n2 j1 j2) (u1*n2+u2) (dB n2 d1 d2):=by
 refine⟨λc a h d=>AY (e1.cl _ _ h (zW p2 d).1) (e2.cl _ _ h (zW p2 d).2), ?_,λa i b k d f e g=>?_⟩
 . unfold dB;rw[(XY h2.ce).1,(XY h2.ce).2,e1.em,e2.em]
 . unfold jB dB;rw[(XY (h2.cl _ _ (zW p2 d).2 (zW p2 e).2)).1,(XY (h2.cl _ _ (zW p2 d).2 (zW p2 e).2)).2,(XY (e2.cl i _ f (zW p2 d).2)).1,(XY (e2.cl i _ f (zW p2 d).2)).2,(XY (e2.cl k _ g (zW p2 e).2)).1,(XY (e2.cl k _ g (zW p2 e).2)).2,e1.dn _ _ _ _ (zW p2 d).1 f (zW p2 e).1 g,e2.dn _ _ _ _ (zW p2 d).2 f (zW p2 e).2 g]
def pe{n:Nat}{F B:Int->Int}(h:LJ n j e)(hF:∀a,zH n a->zH n (F a))(hB:∀a,zH n a->zH n (B a))(hFB:∀a,zH n a->F (B a)=a)(q:∀a b,zH n a->zH n b->j' (F a) (F b)=F (j a b)):LJ n j' (F e):=by
 have g:=λa b d f=>by
  have:=q (B a) (B b) (hB a d) (hB b f);rw[hFB a d,hFB b f]at this;exact this
 refine⟨λa b d f=>by rw[g a b d f];exact hF _ (h.cl _ _ (hB a d) (hB b f)),hF e h.ce,λa d=>?_,λa d=>?_,λa b c d f i=>?_⟩
 . have:=q e (B a) h.ce (hB a d);rw[hFB a d,h.ul _ (hB a d),hFB a d]at this;exact this
 . have:=q (B a) e (hB a d) h.ce;rw[hFB a d,h.ur _ (hB a d),hFB a d]at this;exact this
 . have k:=hB a d;have l:=hB b f;have m:=hB c i;rw[g a b d f,g b c f i];have x:=q _ (B c) (h.cl _ _ k l) m;have y:=q (B a) _ k (h.cl _ _ l m);rw[hFB c i]at x;rw[hFB a d]at y;rw[x,y,h.as _ _ _ k l m]
def qM{n m:Nat}{F B:Int->Int}(hm:0<m)(h:LJ n j e)(k:LD n m j e d)(hF:∀a,zH n a->zH n (F a))(hB:∀a,zH n a->zH n (B a))(hFB:∀a,zH n a->F (B a)=a)
 (q:∀a b,zH n a->zH n b->j' (F a) (F b)=F (j a b)) (p:∀c a,zH m c->zH n a->d' c (F a)=F (d c a)):LD n m j' (F e) d':=by
 refine⟨λc a t f=>?_, ?_,λa i b l f r u s=>?_⟩
 . have:=p c (B a) t (hB a f);rw[hFB a f]at this;rw[this];exact hF _ (k.cl _ _ t (hB a f))
 . rw[p 0 e ⟨by omega,by omega⟩ h.ce,k.em]
 . have g:=hB a f;have o:=hB b u;have x:=q (B a) (B b) g o;have y:=p i (B a) r g;have z:=p l (B b) s o;rw[hFB a f]at x y;rw[hFB b u]at x z;rw[x,y,z,p _ _ (X1 hm) (h.cl _ _ g o),q _ _ (k.cl _ _ r g) (k.cl _ _ s o),k.dn _ _ _ _ g r o s]
def KN(k:Int)(n:Nat):Prop:=(k=0/\1<=n)\/(k=1/\1<=n)\/(k=2/\1<=n)\/(k=3/\n=4)
noncomputable def jK(k:Int)(n:Nat):Int->Int->Int:=if k=0 then jS n else if k=1 then jM else if k=2 then jL else jP
def eK(k:Int):Int:=if k=3 then 1 else 0
def OA{n:Nat}(h:KN k n):LJ n (jK k n) (eK k):=by
 rcases h with⟨rfl,h⟩|⟨rfl,h⟩|⟨rfl,h⟩|⟨rfl,rfl⟩
 . exact qx h
 . exact qH h
 . exact qJ h
 . exact tQ
def KN.n1{n:Nat}(h:KN k n):1<=n:=by rcases h with⟨_,h⟩|⟨_,h⟩|⟨_,h⟩|⟨_,h⟩<;>omega
def AB{i:Nat}(h:as[i]? = some (sN (xs.map xX)))(hg:g [zk xs]=some (.fl zs)):fP (aC (fV i) aN) g as=some (.ow (.nd .ls (zs.map (O.lf true))),as):=by
 obtain⟨a,b,c⟩:=xp xs;have e:views as [.bo i]=some ([zk xs],some true):=by
  show(RV.view as _).bind _=_;rw[Zt h];have k:(O.nd .ls (xs.map xX)).kl=some true:=by simp only[O.kl,a,if_true,b]
  rw[k,(YY xs).2];rfl
 unfold fP aC;rw[Wi h];simp only[zyL,aN,RV.frz,e,hg];show(if _=true then some (RV.ow (.nd .ls (zs.map (N7 true))))else none:Option RV).bind _=_;rw[if_pos (by simp),Zg];rfl
def CU{i:Nat}{xs:List Int}(ha:WE a as (.lst ds))(h:as[i]? = some (sN (xs.map xX)))(hl:ds.length+xs.length<=1000):WE (f2 a (fV i) (XZ .Add)) as (.lst (ds++xs.map D.int)):=by
 obtain⟨b,c,m⟩:=xp xs;obtain⟨o,d,f,g⟩:=ha;have k:(O.nd .ls (xs.map xX)).kl=some true:=by simp only[O.kl,b,if_true,c]
 have e:f2 a (fV i) (XZ .Add) as=some (.ow (.nd .ls ((ds++xs.map D.int).map (O.lf true))),as):=by
  have j:RV.view as (.ow o.frz)=some (.lst ds,some true):=by
   show some (o.toD,some o.str)=_;rw[f,g]
  have l:RV.view as (.bo i)=some (.lst (xs.map D.int),some true):=by rw[Zt h,k,(YY xs).2]
  unfold f2;simp only[d,Wi h,zyL,RV.frz,j,l];rw[add_lists (by rw[zzB];exact S9 (by omega))];show(if((ds++xs.map D.int).all zF||true)=true then some (RV.ow (.nd .ls ((ds++xs.map D.int).map (N7 true))))else none:Option RV).bind _=_;rw[if_pos (by simp),Zg];rfl
 exact⟨_,e,Wd _,congrArg D.lst (X_ _)⟩
def Km(h:WA fr as [(u,.int i),(v,.int j)])(h0:0<=i)(h1:i<=1000)(h2:0<=j)(h3:j<=1000):ye fr Ai as=some (yT i (j-i).toNat,as):=by
 unfold ye;unfold WA at h;rw[h];simp only[zyL,vT];show((if -_<=i/\i<2 ^ 62 /\ -_<=j/\j<2 ^ 62 then some _ else none).bind _)=_;rw[if_pos ⟨by omega,by omega,by omega,by omega⟩];rfl
def Et:zy (.lst [.int p,.int q]) (.int (x%2))=some (.im (.int (if x%2=0 then p else q))):=by
 rcases Int.emod_two_eq x with h|h<;>rw[h]<;>rfl
noncomputable def put(T:TZ)(p q c:Int):TZ:=T.set p.toNat ((L8 T p).set q.toNat c)
def MJ{k n:Nat}(hT:Tab k n T)(hp:zH k p)(hc:zH n c):Tab k n (put T p q c):=M4 hT (Mm (vV hT hp).2 hc)
def M0{k n:Nat}(hT:Tab k n T)(hp:zH k p)(hq:zH n q)(ha:zH k a)(hb:zH n b):yW (put T p q c) a b=if a=p/\b=q then c else yW T a b:=by
 have d:=iT hp;have h:=iT ha;have f:=iT hq;have i:=iT hb;have j:=(vV hT hp).2.1;unfold yW put
 by_cases e:a=p
 . subst e;rw[zyK (by rw[hT.1];exact d)];show ZJ ((L8 T a).set q.toNat c) b=_;unfold ZJ
   by_cases g:b=q
   . subst g;rw[zyK (by rw[j];exact f),if_pos ⟨rfl,rfl⟩];rfl
   . rw[zzY (λz=>g (by have:=hb.1;have:=hq.1;omega)),if_neg (λz=>g z.2)]
 . rw[zzY (λz=>e (by have:=ha.1;have:=hp.1;omega)),if_neg (λz=>e z.1)]
def Sd{v K n L:Nat}{S:TZ->Option O->Option O->AS}{g w:Int->Int}(hp:zH K p)(hg:∀b,zH L b->zH n (g b))(gi:∀b b',zH L b->zH L b'->g b=g b'->b=b')(hw:∀b,zH L b->zH n (w b))
 (h1:∀T d x y,gN v (true,d) (S T x y)=some (S T (sT d) y)) (h2:∀T b y,Tab K n T->zH L b->∃y',f (S T (sI b) y)=some (.nx (S (put T p (g b) (w b)) (sI b) y'))) (hT:Tab K n T0):
 ∃T' x y,forL (gN v) f (yT 0 L) (S T0 x0 y0)=some (.nx (S T' x y))/\Tab K n T'/\(∀b,zH L b->yW T' p (g b)=w b)/\(∀a b,zH K a->zH n b->a≠p->yW T' a b=yW T0 a b):=by
 obtain⟨r,s,t,x,y,rfl,k,m,o⟩:=yN
  (λi as=>∃(T:TZ) (x y:Option O),as=S T x y/\Tab K n T/\(∀b,zH L b->b<i->yW T p (g b)=w b)/\(∀a b,zH K a->zH n b->a≠p->yW T a b=yW T0 a b))
  (yT 0 L) 0 _ (λi y as u A=>by
   obtain⟨T,x,z,rfl,k,m,o⟩:=A;obtain⟨rfl,C⟩:=yO u;have j:zH L (0+i):=⟨by omega,by omega⟩;obtain⟨D,h⟩:=h2 T (0+i) z k j;refine⟨_,h1 _ _ _ _,_,h,_,_,_,rfl,MJ k hp (hw _ j),λb c B=>?_,λa b q c l=>?_⟩
   . rw[M0 k hp (hg _ j) hp (hg _ c)]
     by_cases e:g b=g (0+i)
     . have:=gi _ _ c j e;subst this;rw[if_pos ⟨rfl,rfl⟩]
     . rw[if_neg (λz=>e z.2)];refine m b c ?_;have:b≠0+i:=λz=>e (by rw[z]);omega
   . rw[M0 k hp (hg _ j) q c,if_neg (λz=>l z.1)];exact o a b q c l)
  ⟨T0,x0,y0,rfl,hT,λb j h=>absurd h (by have:=j.1;omega),λ_ _ _ _ _=>rfl⟩
 rw[yr]at m;exact⟨t,x,y,s,k,λb j=>m b j (by have:=j.2;omega),o⟩
def N6{v K n L M:Nat}{S:TZ->Option O->Option O->Option O->AS}{f g:Int->Int}{w:Int->Int->Int}(hf':∀a,zH M a->zH K (f a))(fi:∀a a',zH M a->zH M a'->f a=f a'->a=a')(hg:∀b,zH L b->zH n (g b))
 (h1:∀T d x y z,gN v (true,d) (S T x y z)=some (S T (sT d) y z)) (h2:∀T a y z,Tab K n T->zH M a->∃T' y' z',F (S T (sI a) y z)=some (.nx (S T' (sI a) y' z'))/\Tab K n T'/\(∀b,zH L b->yW T' (f a) (g b)=w a b)/\(∀a' b,zH K a'->zH n b->a'≠f a->yW T' a' b=yW T a' b)) (hT:Tab K n T0):
 ∃T' x y z,forL (gN v) F (yT 0 M) (S T0 x0 y0 z0)=some (.nx (S T' x y z))/\Tab K n T'/\∀a b,zH M a->zH L b->yW T' (f a) (g b)=w a b:=by
 obtain⟨p,q,o,x,y,z,rfl,m,l⟩:=yN
  (λi as=>∃(T:TZ) (x y z:Option O),as=S T x y z/\Tab K n T/\∀a b,zH M a->a<i->zH L b->yW T (f a) (g b)=w a b)
  (yT 0 M) 0 _ (λi y as r s=>by
   obtain⟨T,x,y,z,rfl,m,l⟩:=s;obtain⟨rfl,C⟩:=yO r;have c:zH M (0+i):=⟨by omega,by omega⟩;obtain⟨o,D,E,h,t,u,A⟩:=h2 T (0+i) y z m c;refine⟨_,h1 _ _ _ _ _,_,h,_,_,_,_,rfl,t,λa b j B k=>?_⟩
   by_cases e:a=0+i
   . subst e;exact u b k
   . rw[A (f a) (g b) (hf' a j) (hg b k) (λz=>e (fi _ _ j c z))];exact l a b j (by omega) k)
  ⟨T0,x0,y0,z0,rfl,hT,λa b c h=>absurd h (by have:=c.1;omega)⟩
 rw[yr]at l;exact⟨o,x,y,z,q,m,λa b c k=>l a b c (by have:=c.2;omega) k⟩
def Fv{i:Nat}{n:Nat}(h:as[i]? = some (some (.lf s (zk r))))(hf:f as=some k)(hr:Row n r)(hk:zH n k):Ly i f as=some (ZJ r k):=by
 have e:=(rowAt hr hk).1;unfold Ly;rw[hf];show(if 0<=k then(Pu Ul as i).bind λd=>(IB d).bind λb=>b[k.toNat]?.bind Ln else none)=_;rw[if_pos hk.1];have c:Pu Ul as i=some (zk r):=by unfold Pu;rw[h];rfl
 rw[c];show(_[k.toNat]?).bind Ln=_;have a:=iT hk;rw[zzI,zzE (by rw[hr.1];exact a),Yy (by rw[hr.1];exact a)];rfl
def GP{i k n:Nat}{f1 f2 fv}(hT:Tab k n T)(hp:zH k p)(hq:zH n q)(h1:f1 as=some p)(h2:f2 as=some q)(hv:fv as=some c)(hi:as[i]? = some (some (wz T))):Xo i f1 f2 fv as=some (.nx (as.set i (some (wz (put T p q c))))):=by
 have b:=iT hp;have a:=iT hq;refine EB h1 h2 hv hp.1 hq.1 hi ?_ (by rw[(vV hT hp).2.1];exact a);unfold L8;rw[zzE (by rw[hT.1];exact b)];rfl
theorem Kw:∀(ds:List D),(∀d,∃as1,gN 0 (true,d) as0=some as1)->xt (gN 0) yH (fC (.int 0)) as0 (ds.map λd=>(true,d))=some ((List.replicate ds.length (0:Int)).map xX)
 | [],_=>rfl
 |d::r,H=>by
  obtain⟨a,b⟩:=H d;exact E2 b zb (Kw r H)
theorem G8:∀(xs:List Yt),(∀y ∈ xs,∃as1,g y as0=some as1/\fe as1=some (.ow (Zd r),as1))->xt g yH fe as0 xs=some ((List.replicate xs.length r).map Zd)
 | [],_=>rfl
 |y::a,H=>by
  obtain⟨b,c,d⟩:=H y (zzF ..);exact Vy c d (YY r).1 (G8 a λz m=>H z (zzD _ m))
def Kj{k n:Nat}(hn:1<=n):Tab k n (List.replicate k (List.replicate n (0:Int))):=
 ⟨List.length_replicate ..,λr m=>by rw[List.eq_of_mem_replicate m];exact⟨List.length_replicate ..,λx m=>by rw[List.eq_of_mem_replicate m];omega⟩⟩
section
variable{α:Type}{kf:α->Str}{vf:α->D}
theorem Pq:∀l:List α,Z_ (l.map λp=>.tup [.str (kf p),vf p])=some (l.map λp=>(.inr (kf p),vf p))
 | []=>rfl
 |p::l=>by
  show(Z_ _).bind _=_;rw[Pq l];rfl
theorem Mz:∀{l:List α},p ∈ l->(l.map kf).Nodup->ZE (l.map λp=>(.inr (kf p),vf p)) (.inr (kf p))=some (vf p)
 | [],h,_=>nomatch h
 |q::l,h,nd=>by
  have a:=zzW.mp (nd)
  rcases zzC.mp h with rfl|h
  . unfold ZE;simp
  . have e:kf q≠kf p:=λe=>a.1 (e ▸ List.mem_map_of_mem h);have b:=Mz h a.2;unfold ZE at b ⊢;rw[zyS,List.find?_cons_of_neg (by simp[e])];exact b
theorem FU:∀(kvs:List (Key×D)),(kvs.map (·.1)).zip (kvs.map (·.2))=kvs
 | []=>rfl
 |p::r=>congrArg (p :: ·) (FU r)
def tT{l:List α}(nd:(l.map kf).Nodup)(h:WE a as (.lst (l.map λp=>.tup [.str (kf p),vf p]))):WE (fP (aC a aN) Q7) as (.dct (l.map λp=>(.inr (kf p),vf p))):=by
 have c:Q7 [.lst (l.map λp=>.tup [.str (kf p),vf p])]=some (.fd (l.map λp=>(.inr (kf p),vf p))):=by
  show(Z_ _).bind _=_;rw[Pq];refine if_pos ?_;rw[zyB];exact List.pairwise_map.mpr ((List.pairwise_map.mp nd).imp λh e=>h (Sum.inr.inj e))
 have k:=CY (ZY h (zz)) c;rw[show([(true,D.lst _)].all (·.1))=true from rfl,Zg]at k;generalize _=b at k;refine⟨_,k,Wd _, ?_⟩;show D.dct _=_;rw[X_,FU]
end
end PF
end
section
namespace G62
open PySem PySem.Spec PyProof.Rows L2 PF
abbrev zG:EF:=fV 1
abbrev yh:EF:=fC (.int 0)
abbrev zu:EF:=fV 0
abbrev yR:EF:=fC (.int 2)
abbrev yp:EF:=fC (.int 1)
abbrev zJ:EF:=fV 2
abbrev wF:EF:=fC (.int 4)
abbrev G3:GF:=gN 4
abbrev zM:EF:=fV 4
abbrev zL:EF:=fV 3
abbrev xI:GF:=gN 0
abbrev zD:=XZ .Add
abbrev yA:EF:=fV 5
abbrev Ug:EF:=fC (.int 5)
abbrev xa:EF:=fV 6
abbrev wU:EF:=fV 7
abbrev MR:EF:=fV 11
abbrev zm:=XZ .Mod
abbrev zX:=XZ .Mult
abbrev Yx:EF:=fC (.int 8)
abbrev ze:=XZ .FloorDiv
abbrev vg:EF:=fC (.int 3)
abbrev VZ:=XZ .Sub
abbrev V3:AF:=aC (fV 3) aN
abbrev wC:AF:=aC (fV 0) aN
abbrev vF:AF:=aC (fV 1) aN
abbrev Ve:AF:=aC (fV 2) aN
abbrev D1:AF:=aC (fV 7) aN
abbrev YT:List Str:=["algebra","join","nothing","a"]
def ZV:FnScope YT ["algebra"] (zd xZ):=Xw
def YE:SF:=
 (zg (zo true 1 (f2 zu yR zy))
  (zg (zo true 2 (f2 zu vg zy))
  (zg (yo (ye (aC (f2 zu yh zy) aN) yj) (gN 3) (xr (Xl (fT (f2 (f2 (f2 zG zJ zy) zL zy) zL (zB .NotEq))) (fT (f2 (f2 (f2 zG zL zy) zJ zy) zL (zB .NotEq)))) (zY (yf (dC (fC (.str "nothing")) (dC zL dN)))) wc))
  (zY (fC .non)))))
def vk:Fn:=vP 4 1 YE
abbrev YR:List Str:=["algebra","n","join","a","b","c"]
def Z1:FnScope YR ["algebra"] (zd x5):=Xw
def YS:SF:=
 (zg (zo true 1 (f2 zu yh zy))
  (zg (zo true 2 (f2 zu yR zy))
  (zg (yo (ye vF yj) (gN 3) (yo (ye vF yj) G3 (yo (ye vF yj) (gN 5) (xr (fT (f2 (f2 (f2 zJ (f2 (f2 zJ zL zy) zM zy) zy) yA zy) (f2 (f2 zJ zL zy) (f2 (f2 zJ zM zy) yA zy) zy) (zB .NotEq))) (zY (yf (dC (fC (.str "parting")) (dC zL (dC zM (dC yA dN)))))) wc))))
  (zY (fC .non)))))
def vd:Fn:=vP 6 1 YS
abbrev Wt:List Str:=["algebra","name","rows","n","m","join","a","i","b","j"]
def Xk:FnScope Wt ["algebra","name","rows"] (zd wK):=Xw
def Wn:SF:=
 (zg (zo true 3 (f2 zu yh zy))
  (zg (zo true 4 (f2 zu yp zy))
  (zg (zo true 5 (f2 zu yR zy))
  (zg (yo (ye V3 yj) (gN 6) (yo (ye (aC zM aN) yj) (gN 7) (yo (ye V3 yj) (gN 8) (yo (ye (aC zM aN) yj) (gN 9) (xr (fT (f2 (f2 (f2 zJ (f2 (f2 wU (fV 9) zD) zM zm) zy) (f2 (f2 yA xa zy) (fV 8) zy) zy) (f2 (f2 yA (f2 (f2 zJ wU zy) xa zy) zy) (f2 (f2 zJ (fV 9) zy) (fV 8) zy) zy) (zB .NotEq))) (zY (yf (dC (fC (.str "doing")) (dC zG (dC xa (dC wU (dC (fV 8) (dC (fV 9) dN)))))))) wc)))))
  (zY (fC .non))))))
def wM:Fn:=vP 10 3 Wn
abbrev Vz:List Str:=["algebra","nothing","name","rows","fault"]
def Wp:FnScope Vz ["algebra"] (zd vG):=Xw
def VD:SF:=
 (zg (zo true 1 (f2 zu vg zy))
  (zg (yo (Gn (f2 zu wF zy)) (gT 2 (wI (gN 2) (wI (gN 3) RP))) (zg (xr (fT (f2 (f2 (f2 zL yh zy) zG zy) zG (zB .NotEq))) (zY (yf (dC (fC (.str "empty")) (dC zJ dN)))) wc)
  (zg (zo true 4 (zt (aC zu (aC zJ V3)) wM))
  (xr (fT (f2 zM (fC .non) (zB .IsNot))) (zY zM) wc))))
  (zY (fC .non))))
def Yn:Fn:=vP 5 1 VD
abbrev Vr:List Str:=["algebra","fault"]
def Wo:FnScope Vr ["algebra"] (zd vC):=Xw
def Va:SF:=
 (zg (zo true 1 (zt wC vk))
  (zg (xr (fT (f2 zG (fC .non) (zB .Is))) (zo true 1 (zt wC vd)) wc)
  (zg (xr (fT (f2 zG (fC .non) (zB .Is))) (zo true 1 (zt wC Yn)) wc)
  (zY zG))))
def vE:Fn:=vP 2 1 Va
abbrev vm:List Str:=["self","what"]
def Xf:FnScope vm ["self","what"] (zd y3):=Xw
abbrev vZ:List Str:=["algebra","fault"]
def x4:FnScope vZ ["algebra"] (zd wq):=Xw
def we:SF:=
 (zg (zo true 1 (zt wC vE))
  (xr (fT (f2 zG (fC .non) (zB .IsNot))) qt wc))
def yx:Fn:=vP 2 1 we
def wo:List (Bool×D)->Option D:=gX 2 1 1 (zo true 1 (zt wC vE)) (fT (f2 zG (fC .non) (zB .IsNot)))
abbrev KQ:List Str:=["algebra","entries","p","q","one","other"]
def Ph:FnScope KQ ["algebra","entries","p","q"] (zd WY):=Xw
def K9:SF:=
 (zg (zo true 4 (f2 zG zJ zy))
  (zg (zo true 5 (f2 zG zL zy))
  (zY (yf (dC (f2 (f2 (f2 zu yR zy) (f2 zM yh zy) zy) (f2 yA yh zy) zy) (dC (f2 (f2 (f2 zM yp zy) (f2 yA yp zy) zD) (f2 zu yp zy) zm) (dC (yf (dC (fC (.str "two")) (dC zJ (dC zL dN)))) dN)))))))
def Z2:Fn:=vP 6 4 K9
abbrev Qx:List Str:=["algebra","entries","at","value","c","found","p"]
def VF:FnScope Qx ["algebra","entries","at"] (zd Zf):=Xw
def QU:SF:=
 (zg (zo true 3 (f2 (f2 zG zJ zy) yh zy))
  (zg (zo true 4 (f2 (f2 zG zJ zy) yp zy))
  (zg (zo false 5 (ya (vh (f2 zu wF zy)) [none,none,some 4,some 3,some 2] (gT 2 (wI xI (wI (gN 1) RP))) yH (yf (dC (f2 (f2 zG zJ zy) zL zy) (dC zJ (dC (yf (dC (fC (.str "deed")) (dC zu (dC zM dN)))) dN))))))
  (zg (yo (ye (aC (f2 zJ yp zD) aN) yj) (gN 6) (yq (xO 5 (dC (yK (dC (zt (aC zu (aC zG (aC xa Ve))) Z2) (dC (zt (aC zu (aC zG (aC zJ (aC xa aN)))) Z2) dN))) dN) E7)))
  (zY yA)))))
def wW:Fn:=vP 7 3 QU
abbrev RK:List Str:=["entries","known","found","entry","pair"]
def Xg:FnScope RK ["entries","known","found"] (zd Z6):=Xw
def WM:SF:=
 (yo (Gn zJ) (gN 3) (zg (zo true 4 (yf (dC (f2 zL yh zy) (dC (f2 zL yp zy) dN))))
  (xr (fT (f2 zM zG (zB .NotIn))) (zg (G6 1 zM (fC (.bl true)))
  (yq (xO 0 (dC zL dN) wg))) wc)))
def yC:O->O->Yt->Option (O×O):=gM 5 WM
abbrev W_:List Str:=["algebra","row","entries","known","at"]
def wH:FnScope W_ ["algebra","row"] (zd Y8):=Xw
def Kb:(["value","algebra"]:List Str).Nodup:=by decide +kernel
def UN:SF:=
 (zg (yq (zt wC yx))
  (zg (zo false 2 (yK dN))
  (zg (zo false 3 A3)
  (zg (WK 2 3 (yK (dC (yf (dC (f2 zu vg zy) (dC yh (dC (yf (dC (fC (.str "none")) dN)) dN)))) dN)) yC)
  (zg (WK 2 3 (ya (vh zG) [none,some 0] xI yH (yf (dC zu (dC (f2 yp (f2 zG yp zy) zm) (dC (yf (dC (fC (.str "one")) (dC zu dN))) dN))))) yC)
  (zg (zo true 4 yh)
  (zg (Ml (fT (f2 zM (fP Ve Uc) (zB .Lt))) (zg (WK 2 3 (zt (aC zu (aC zJ (aC zM aN))) wW) yC)
  (KF 4 1)) 10000)
  (zY zJ))))))))
def vW:Fn:=vP 5 2 UN
def ZR:List (Bool×D)->Option D:=gY 5 2 (gC wC wo)
abbrev GC:List Str:=["algebra","row","name","entries","values","at","entry"]
def VE:FnScope GC ["algebra","row","name"] (zd UC):=Xw
def TB:SF:=
 (zg (zo true 3 (zt (aC zu vF) vW))
  (zg (zo true 4 (f2 (fP (aC (f2 zu Ug zy) aN) Q7) zJ zy))
  (zg (yo (OM zL) (gT 2 (wI (gN 5) (wI (gN 6) RP))) (xr (fT (f2 (f2 xa yh zy) zM (zB .In))) (zY (yf (dC (fC (.str "comes")) (dC zL (dC yA dN))))) wc))
  (zY (yf (dC (fC (.str "never")) (dC zL dN)))))))
def Vb:Fn:=vP 7 3 TB
def Ur:List (Bool×D)->Option D:=gY 7 3 (gC (aC zu vF) ZR)
abbrev W9:List Str:=["algebra","values","rows","came","at","value","whole"]
def Wl:FnScope W9 ["algebra","values"] (zd vD):=Xw
def VT:SF:=
 (zg (zo false 2 (fP (aC (ya (vh zG) [none] xI yH (yf (dC zu (dC (yK (dC zu dN)) dN)))) aN) Q7))
  (zg (zo false 3 (fP vF lstP))
  (zg (zo true 4 yh)
  (zg (Ml (fT (f2 zM (fP V3 Uc) (zB .Lt))) (zg (yo (Gn zG) (gN 5) (zg (zo true 6 (f2 (f2 (f2 zu yR zy) (f2 zL zM zy) zy) yA zy))
  (xr (fT (f2 xa zJ (zB .NotIn))) (zg (FH 2 xa (f2 (f2 zJ (f2 zL zM zy) zy) (yK (dC yA dN)) zD))
  (yq (xO 3 (dC xa dN) wg))) wc)))
  (KF 4 1)) 10000)
  (zY zJ)))))
def vM:Fn:=vP 7 2 VT
abbrev QY:List Str:=["algebra","row","name","signed","rows","value"]
def wk:FnScope QY ["algebra","row","name"] (zd Zs):=Xw
def QP:SF:=
 (zg (zo true 3 (f2 (fP (aC (f2 zu Ug zy) aN) Q7) zJ zy))
  (zg (xr (fT (f2 (f2 zu vg zy) zL (zB .In))) (zY (yK dN)) wc)
  (zg (zo false 4 (zt (aC zu (aC (fP vF u6) aN)) vM))
  (zg (yo (u9 4) (gN 5) (xr (fT (f2 yA zL (zB .In))) (zY (f2 zM yA zy)) wc))
  (zY (fC .non))))))
def Xe:Fn:=vP 6 3 QP
abbrev X7:List Str:=["_law_script","_law_k"]
def Y0:FnScope X7 ["_law_script","_law_k"] (zd wO):=Xw
def Ww:SF:=
 (zg (xr (fT (f2 zG (fP wC Uc) (zB .Lt))) (zY (f2 zu zG zy)) wc)
  (zY yh))
def yd:Fn:=vP 2 2 Ww
abbrev Q9:List Str:=["_law_cell","_law_k","_law_number"]
def Vp:FnScope Q9 ["_law_cell","_law_k"] (zd Zl):=Xw
def QW:SF:=
 (zg (zo true 2 (f2 (f2 (f2 (f2 (f2 zu (fC (.int 2147483647)) zm) (fC (.int 48271)) zX) (f2 (f2 zG zG zX) (fC (.int 69621)) zX) zD) (fC (.int 7919)) zD) (fC (.int 2147483647)) zm))
  (zY (f2 (f2 (f2 (f2 zJ zJ zX) (f2 (fC (.int 16807)) zJ zX) zD) zG zD) (fC (.int 2147483629)) zm)))
def yP:Fn:=vP 3 2 QW
abbrev QC:List Str:=["_law_cell","_law_many","_law_letters","_law_size","_law_at","_law_words_here","_law_k","_law_some"]
def VG:FnScope QC ["_law_cell","_law_many"] (zd Zn):=Xw
def QH:SF:=
 (zg (zo true 2 (fC (.str "abcdefghijklmnopqrstuvwxyz")))
  (zg (zo true 3 (f2 yp (f2 zu Yx zm) zD))
  (zg (zo true 4 (f2 (f2 zu Yx ze) zL zm))
  (zg (zo false 5 (yK dN))
  (zg (yo (ye vF yj) (gN 6) (zg (zo true 7 (ya (ye V3 yj) [none,some 2,some 6,some 0,some 4] xI yH (f2 zG (f2 (f2 (f2 (zt (aC zL wC) yP) (fC (.int 64)) ze) (f2 zJ (fP (aC (f2 zu zM (zB .Eq)) aN) YB) zX) zD) (fC (.int 26)) zm) zy)))
  (yq (xO 5 (dC (P8 .str (fC (.str "")) D1 MK) dN) wg))))
  (zY yA))))))
def Zw:Fn:=vP 8 2 QH
abbrev Vc:List Str:=["_law_n","_law_m"]
def Wm:FnScope Vc ["_law_n","_law_m"] (zd vJ):=Xw
def Vm:SF:=
 (zg (Ml (fT (f2 zG yh (zB .Gt))) (SI 0 1 (dC zG (dC (f2 zu zG zm) dN))) 10000)
  (zY zu))
def vK:Fn:=vP 2 2 Vm
abbrev YD:List Str:=["_law_kind","_law_n","_law_a","_law_b","_law_images_here"]
def Z4:FnScope YD ["_law_kind","_law_n","_law_a","_law_b"] (zd x3):=Xw
def YN:SF:=
 (zg (xr (fT (f2 zu yh (zB .Eq))) (zY (f2 (f2 zJ zL zD) zG zm)) wc)
  (zg (xr (fT (f2 zu yp (zB .Eq))) (zY (fP (aC zJ V3) DP)) wc)
  (zg (xr (fT (f2 zu yR (zB .Eq))) (zY (f2 (yK (dC zL (dC zJ dN))) (fP (aC (f2 zL yh (zB .Eq)) aN) YB) zy)) wc)
  (zg (zo true 4 (yK (dC (f2 zL yR ze) (dC (f2 zL yR zm) dN))))
  (zY (f2 (f2 yR (f2 zM (f2 zJ yR ze) zy) zX) (f2 zM (f2 zJ yR zm) zy) zD))))))
def yi:Fn:=vP 5 4 YN
abbrev Vs:List Str:=["_law_kind","_law_n","_law_x","_law_some","_law_k"]
def Wq:FnScope Vs ["_law_kind","_law_n","_law_x"] (zd vA):=Xw
def VN:SF:=
 (zg (xr (fT (f2 zu vg (zB .Eq))) (zY (ya (ye vF yj) [none,some 2] xI yH (f2 (yK (dC zu (dC (f2 (f2 (f2 yR (f2 yp (f2 zu yR zm) VZ) zX) yp zD) (f2 zu yR ze) VZ) dN))) (f2 zG yR zm) zy))) wc)
  (zg (zo false 3 (yK dN))
  (zg (yo (ye (aC yp vF) Ai) G3 (zg (zo true 2 (f2 zJ zG ze))
  (yq (xO 3 (dC (f2 (yK (dC (f2 zJ zG zm) (dC (f2 yp (f2 zJ (f2 zG yp VZ) zm) zD) dN))) (f2 zu yp VZ) zy) dN) wg))))
  (zg (xr (fT (f2 zu yp (zB .Eq))) (zo false 3 (fP V3 Bx)) wc)
  (zY (f2 (yK (dC yh dN)) zL zD))))))
def Z7:Fn:=vP 5 3 VN
abbrev X8:List Str:=["_law_kind","_law_n","_law_m","_law_x","_law_images_here","_law_step"]
def Xa:FnScope X8 ["_law_kind","_law_n","_law_m","_law_x"] (zd wN):=Xw
def Wv:SF:=
 (zg (xr (fT (f2 zu yh (zB .Gt))) (zg (zo true 4 (zt (aC zu (aC zG V3)) Z7))
  (zY (ya (ye Ve yj) [none,some 4] xI yH (fP vF lstP)))) wc)
  (zg (zo true 5 (f2 (f2 zG (zt (aC zG Ve) vK) ze) (f2 (f2 zL Yx ze) Yx zm) zX))
  (zY (ya (ye Ve yj) [none,some 1,some 5,some 3] xI yH (ya (ye vF yj) [none,some 1,some 2,some 0,some 3] xI yH (f2 (f2 (f2 (f2 zM Yx zm) zu zX) (f2 zJ zL zX) zD) zG zm))))))
def xv:Fn:=vP 6 4 Wv
abbrev Q_:List Str:=["_law_x","_law_first","_law_size","_law_other"]
def Vg:FnScope Q_ ["_law_x"] (zd Zj):=Xw
def Qy:SF:=
 (zg (zo true 1 (f2 zu wF zm))
  (zg (zo true 2 (f2 (yK (dC (f2 yp (f2 (f2 zu wF ze) Ug zm) zD) (dC (f2 yp (f2 (f2 zu wF ze) Yx zm) zD) dN))) (fP (aC (f2 (f2 (f2 zu (fC (.int 40)) ze) wF zm) yp (zB .Eq)) aN) YB) zy))
  (zg (xr (fT (f2 zG vg (zB .Eq))) (zo true 2 wF) wc)
  (zg (zo true 3 (f2 yp (f2 (f2 zu (fC (.int 160)) ze) vg zm) zD))
  (zg (xr (fT (f2 (f2 zJ zL zX) Yx (zB .Gt))) (zo true 3 yp) wc)
  (zY (yf (dC zG (dC zJ (dC (f2 (f2 zu (fC (.int 480)) ze) vg zm) (dC zL dN)))))))))))
def Zx:Fn:=vP 4 1 Qy
abbrev VC:List Str:=["_law_cell","_law_many","_law_found","_law_rest","_law_k"]
def Wa:FnScope VC ["_law_cell","_law_many"] (zd vI):=Xw
def Vh:SF:=
 (zg (zo false 2 (yK dN))
  (zg (zo true 3 (f2 zu yR ze))
  (zg (yo (ye vF yj) G3 (xr (fT (f2 (f2 zu yR zm) yh (zB .Eq))) (zg (yq (xO 2 (dC (f2 zL (fC (.int 1000000007)) zm) dN) wg))
  (zo true 3 (f2 zL (fC (.int 1000000007)) ze))) (yq (xO 2 (dC (zt (aC zL (aC zM aN)) yP) dN) wg))))
  (zY zJ))))
def xh:Fn:=vP 5 2 Vh
abbrev xY:List Str:=["_law_cell","_law_head","_law_many","_law_xs","_law_ys","_law_kind","_law_n","_law_more","_law_times","_law_m","_law_size","_law_left","_law_order","_law_k","_law_join","_law_a","_law_b","_law_there","_law_names","_law_deeds","_law_rows","_law_beside","_law_made","_law_c","_law_signs","_law_bits","_law_held","_law_nothing"]
def zi:FnScope xY ["_law_cell","_law_head","_law_many"] (zd yV):=Xw
def Qh:(["_law_a","_law_order"]:List Str).Nodup:=by decide +kernel
def V7:(["_law_b"]:List Str).Nodup:=by decide +kernel
def VW:(["_law_c","_law_order"]:List Str).Nodup:=by decide +kernel
def Qp:(["_law_a"]:List Str).Nodup:=by decide +kernel
def Qe:(["_law_a","_law_bits"]:List Str).Nodup:=by decide +kernel
def ZK:SF:=
 (zg (zo true 3 (zt (aC zu (aC (f2 yp (f2 yR zJ zX) zD) aN)) xh))
  (zg (zo true 4 (zt (aC zG (aC (fC (.int 13)) aN)) xh))
  (zg (TH (zt (aC (f2 zL yh zy) aN) Zx) (gT 4 (wI (gN 5) (wI (gN 6) (wI (gN 7) (wI (gN 8) RP))))))
  (zg (zo true 9 (f2 (f2 yp (f2 (f2 zM yh zy) wF zm) zD) (f2 yR (fP (aC (f2 (f2 (f2 (f2 zM yh zy) wF ze) Yx zm) Ug (zB .Eq)) aN) YB) zX) zD))
  (zg (zo true 10 (f2 xa (fV 8) zX))
  (zg (zo false 11 (fP (aC (fV 10) aN) u5))
  (zg (zo false 12 (yK dN))
  (zg (yo (ye (aC (fV 10) aN) yj) (gN 13) (yq (xO 12 (dC (xO 11 (dC (f2 (f2 zM (f2 yp (fV 13) zD) zy) (fP (aC MR aN) Uc) zm) dN) Xb) dN) wg)))
  (K8 12 (zg (zo false 14 (ya (vh (fV 12)) [none,some 12] xI yH (ya (vh zG) [none] xI yH yh)))
  (zg (yo (ye (aC (fV 10) aN) yj) (gN 15) (yo (ye (aC (fV 10) aN) yj) (gN 16) (zg (zo true 17 (f2 (zt (aC yA (aC xa (aC (f2 (fV 15) (fV 8) ze) (aC (f2 (fV 16) (fV 8) ze) aN)))) yi) (fV 8) zX))
  (zg (zo true 17 (f2 (fV 17) (zt (aC wU (aC (fV 8) (aC (f2 (fV 15) (fV 8) zm) (aC (f2 (fV 16) (fV 8) zm) aN)))) yi) zD))
  (Xo 14 (Ly 12 (xV 15)) (Ly 12 (xV 16)) (Ly 12 (xV 17)))))))
  (zg (zo true 18 (zt (aC (f2 zG (fC (.int 7)) ze) (aC (fC (.int 10)) aN)) Zw))
  (zg (zo false 19 (yK dN))
  (zg (yo (ye Ve yj) (gN 13) (zg (zo true 20 (zt (aC yA (aC xa (aC (fV 9) (aC (f2 zL (f2 yp (f2 yR (fV 13) zX) zD) zy) aN)))) xv))
  (zg (zo true 21 (zt (aC wU (aC (fV 8) (aC (fV 9) (aC (f2 zL (f2 yR (f2 yR (fV 13) zX) zD) zy) aN)))) xv))
  (zg (zo false 22 (ya (ye (aC (fV 9) aN) yj) [none,some 12] xI yH (ya (vh zG) [none] xI yH yh)))
  (zg (yo (ye (aC (fV 9) aN) yj) (gN 23) (yo (ye (aC (fV 10) aN) yj) (gN 15) (zg (zo true 17 (f2 (f2 (fV 20) (fV 23) zy) (f2 (fV 15) (fV 8) ze) zy))
  (zg (zo true 17 (f2 (f2 (fV 17) (fV 8) zX) (f2 (f2 (fV 21) (fV 23) zy) (f2 (fV 15) (fV 8) zm) zy) zD))
  (Xo 22 (xV 23) (Ly 12 (xV 15)) (Ly 12 (xV 17)))))))
  (yq (xO 19 (dC (yf (dC (f2 (fV 18) (fV 13) zy) (dC (fV 22) dN))) dN) wg)))))))
  (zg (zo false 24 (yK dN))
  (zg (yo (ye (aC vg aN) yj) (gN 13) (zg (zo true 25 (f2 zM (f2 (fC (.int 9)) (fV 13) zD) zy))
  (zg (zo true 26 (ya (ye (aC (fV 10) aN) yj) [none,some 25] xI (fT (f2 (f2 (f2 zG (f2 yp zu Sw) ze) yR zm) yp (zB .Eq))) zu))
  (yq (xO 24 (dC (yf (dC (f2 (fV 18) (f2 (fV 13) (f2 wF (f2 (f2 (fV 25) (fC (.int 512)) ze) yR zm) zX) zD) zy) (dC (fV 26) dN))) dN) wg)))))
  (zg (zo true 27 (f2 (fV 12) (f2 (yK (dC yh (dC (fV 8) dN))) (fP (aC (f2 yA vg (zB .Eq)) aN) YB) zy) zy))
  (zY (yf (dC (fV 10) (dC (fV 9) (dC (fV 14) (dC (fV 27) (dC (fV 19) (dC (A9 (fV 24) oN (oS (f2 (f2 zM (fC (.int 12)) zy) wF zm)) Jh) dN)))))))))))))))))))))))))
def ZL:Fn:=vP 28 3 ZK
abbrev Ru:List Str:=["_law_algebra_here","_law_n","_law_m","_law_join","_law_nothing","_law_deeds","_law_signs","_law_rows","_law_held"]
def Q5:FnScope Ru ["_law_algebra_here"] (zd Yw):=Xw
def WC:SF:=
 (zg (TH zu (gT 6 (wI (gN 1) (wI (gN 2) (wI (gN 3) (wI G3 (wI (gN 5) (wI (gN 6) RP))))))))
  (zg (zo false 7 (ya (vh yA) [none,none] (gT 2 (wI xI (wI (gN 1) RP))) yH (yf (dC zu (dC (ya (vh zG) [none] xI yH (fP wC lstP)) dN)))))
  (zg (zo true 8 (ya (vh xa) [none,none] (gT 2 (wI xI (wI (gN 1) RP))) yH (yf (dC zu (dC (fP vF lstP) dN)))))
  (zY (yf (dC zG (dC zJ (dC (ya (vh zL) [none] xI yH (fP wC lstP)) (dC zM (dC (EM 7) (dC (fV 8) dN)))))))))))
def xG:Fn:=vP 9 1 WC
abbrev Vl:List Str:=["_law_script","_law_start","_law_most","_law_size","_law_number","_law_row","_law_k"]
def Wk:FnScope Vl ["_law_script","_law_start","_law_most","_law_size","_law_number"] (zd vN):=Xw
def VO:SF:=
 (zg (zo false 5 (yK dN))
  (zg (yo (ye (aC (f2 zM (f2 zJ yp zD) zm) aN) yj) (gN 6) (yq (xO 5 (dC (f2 (zt (aC (zt (aC zu (aC (f2 zG xa zD) aN)) yd) (aC (f2 xa (fC (.int 80)) zD) aN)) yP) zL zm) dN) wg)))
  (zY yA)))
def Yq:Fn:=vP 7 5 VO
abbrev Rh:List Str:=["_law_algebra_here","_law_cell","_law_n","_law_m","_law_join","_law_nothing","_law_deeds","_law_signs","_law_x","_law_a","_law_b","_law_other"]
def yn:FnScope Rh ["_law_algebra_here","_law_cell"] (zd Yb):=Xw
def RI:SF:=
 (zg (Ou [2,3,4,5,6,7] (zt wC xG))
  (zg (zo true 8 (zt (aC zG (aC (fC (.int 70)) aN)) yP))
  (zg (zo true 9 (f2 (f2 (fV 8) Yx ze) zJ zm))
  (zg (zo true 10 (f2 (f2 (fV 8) (fC (.int 64)) ze) zJ zm))
  (zg (zo true 11 (f2 (f2 (f2 (fV 8) (fC (.int 512)) ze) yp zD) zJ zm))
  (zg (xr (Xl (fT (f2 (f2 (fV 8) Yx zm) vg (zB .Lt))) (fT (f2 xa (yK dN) (zB .Eq)))) (Xo 4 (xV 9) (xV 10) (xV 11)) (xr (fT (f2 (f2 (fV 8) Yx zm) (fC (.int 7)) (zB .Lt))) (Fy 6 (NC (Nz (xV 8) (xC 4096)) (EY 6)) 1 (NC (Nz (xV 8) (xC 32768)) (xV 3)) (xV 9) (xV 11)) (zo true 5 MR)))
  (zY (yf (dC zJ (dC zL (dC (EM 4) (dC yA (dC (EM 6) (dC wU dN))))))))))))))
def Yz:Fn:=vP 12 2 RI
abbrev vt:List Str:=["_law_n","_law_join","_law_a","_law_b","_law_c"]
def wX:FnScope vt ["_law_n","_law_join"] (zd y6):=Xw
def vp:SF:=
 (zg (yo (ye wC yj) (gN 2) (yo (ye wC yj) (gN 3) (yo (ye wC yj) G3 (xr (fT (f2 (f2 (f2 zG (f2 (f2 zG zJ zy) zL zy) zy) zM zy) (f2 (f2 zG zJ zy) (f2 (f2 zG zL zy) zM zy) zy) (zB .NotEq))) (zY (yf (dC (fC (.str "parting")) (dC zJ (dC zL (dC zM dN)))))) wc))))
  (zY (fC .non)))
def xT:Fn:=vP 5 2 vp
abbrev Zh:List Str:=["_law_n","_law_m","_law_join","_law_name","_law_rows","_law_a","_law_i","_law_b","_law_j","_law_there"]
def v_:FnScope Zh ["_law_n","_law_m","_law_join","_law_name","_law_rows"] (zd xD):=Xw
def Zy:SF:=
 (zg (yo (ye wC yj) (gN 5) (yo (ye vF yj) (gN 6) (yo (ye wC yj) (gN 7) (yo (ye vF yj) (gN 8) (zg (zo true 9 (f2 (f2 zM (f2 (f2 xa (fV 8) zD) zG zm) zy) (f2 (f2 zJ yA zy) wU zy) zy))
  (xr (fT (f2 (fV 9) (f2 (f2 zJ (f2 (f2 zM xa zy) yA zy) zy) (f2 (f2 zM (fV 8) zy) wU zy) zy) (zB .NotEq))) (zY (yf (dC (fC (.str "doing")) (dC zL (dC yA (dC xa (dC wU (dC (fV 8) dN)))))))) wc))))))
  (zY (fC .non)))
def xB:Fn:=vP 10 5 Zy
abbrev PY:List Str:=["_law_algebra_here","_law_n","_law_m","_law_join","_law_nothing","_law_deeds","_law_signs","_law_a","_law_found","_law_name","_law_rows"]
def RL:FnScope PY ["_law_algebra_here"] (zd XH):=Xw
def PD:SF:=
 (zg (TH zu (gT 6 (wI (gN 1) (wI (gN 2) (wI (gN 3) (wI G3 (wI (gN 5) (wI (gN 6) RP))))))))
  (zg (yo (ye vF yj) (gN 7) (xr (Xl (fT (f2 (f2 (f2 zL zM zy) wU zy) wU (zB .NotEq))) (fT (f2 (f2 (f2 zL wU zy) zM zy) wU (zB .NotEq)))) (zY (yf (dC (fC (.str "nothing")) (dC wU dN)))) wc))
  (zg (zo true 8 (zt (aC zG V3) xT))
  (zg (yo (Gn yA) (gT 2 (wI (gN 9) (wI (gN 10) RP))) (zg (xr (Lq (fT (f2 (fV 8) (fC .non) (zB .Is))) (fT (f2 (f2 (f2 (fV 10) yh zy) zM zy) zM (zB .NotEq)))) (zo true 8 (yf (dC (fC (.str "empty")) (dC (fV 9) dN)))) wc)
  (xr (fT (f2 (fV 8) (fC .non) (zB .Is))) (zo true 8 (zt (aC zG (aC zJ (aC zL (aC (fV 9) (aC (fV 10) aN))))) xB)) wc)))
  (zY (fV 8))))))
def Qa:Fn:=vP 11 1 PD
abbrev QO:List Str:=["_law_e"]
def GG:FnScope QO ["_law_e"] (zd Zk):=Xw
def QE:SF:=
 (zg (xr (Xl (fT (f1 zu (YU "NotLetBy" "what" false))) (Xl (fT (f1 zu (YU "NotLetBy" "what" false))) (Xl (fT (f1 zu (YU "NotLetBy" "what" false))) (fT (f1 zu (YU "NotLetBy" "what" false)))))) (zY (fC (.bl false))) wc)
  (zg (xr (Xl (fT (f1 zu (YU "NotLetBy" "what" false))) (Xl (fT (f1 zu (YU "NotLetBy" "what" false))) (Xl (fT (f1 zu (YU "NotLetBy" "what" false))) (fT (f1 zu (YU "NotLetBy" "what" false)))))) (zY (fC (.bl false))) wc)
  (zY (LC (f1 zu (YU "NotLetBy" "what" true)) (f1 zu (YU "NotLetBy" "what" true))))))
def wa:Fn:=vP 1 1 QE
abbrev U9:List Str:=["_law_algebra_here","_law_row","_law_way","_law_found","_law_e"]
def wY:FnScope U9 ["_law_algebra_here","_law_row","_law_way"] (zd Yk):=Xw
def RB:SF:=
 (zg (zo true 3 (yf (dC (fC (.str "none")) dN)))
  (zg (Nl 4 "NotLetBy" "what" (xr (fT (f2 zJ yh (zB .Eq))) (yq (zt (aC zu vF) vW)) (yq (zt (aC zu (aC zG (aC (f2 (f2 (f2 zu Ug zy) yh zy) yh zy) aN))) Vb))) (Dj (fT (f2 zJ yh (zB .Eq))) (gC (aC zu vF) ZR) (gC (aC zu (aC zG (aC (f2 (f2 (f2 zu Ug zy) yh zy) yh zy) aN))) Ur))
  (zg (zo true 3 (yf (dC (fC (.str "odd")) dN)))
  (xr (fT (zt (aC zM aN) wa)) (zo true 3 (f1 zM (Jc "NotLetBy" "what"))) wc)))
  (zY zL)))
def Z8:Fn:=vP 5 3 RB
abbrev QG:List Str:=["_law_algebra_here","_law_row","_law_due_here","_law_handed","_law_least"]
def W5:FnScope QG ["_law_algebra_here","_law_row"] (zd Zr):=Xw
def QM:SF:=
 (zg (zo true 2 (zt wC Qa))
  (zg (xr (fT (f2 zJ (fC .non) (zB .Is))) (zo true 2 (yf (dC (fC (.str "none")) dN))) wc)
  (zg (zo true 3 (zt wC xG))
  (zg (xr (Xl (fT (f2 (zt (aC zL (aC zG (aC yh aN))) Z8) zJ (zB .NotEq))) (fT (f2 (zt (aC zL (aC zG (aC yp aN))) Z8) zJ (zB .NotEq)))) (zY (fC (.bl false))) wc)
  (zg (zo true 4 (zt (aC zL (aC zG (aC (f2 (f2 (f2 zu Ug zy) yh zy) yh zy) aN))) Xe))
  (zY (LC (uH (f2 zM (fC .non) (zB .Is)) (Fi zM "list")) (f2 zL zu (zB .Eq)))))))))
def wb:Fn:=vP 5 2 QM
abbrev Cs:List Str:=["_law_script","_law_algebra_here","_law_row","_law_bent_here","_law_k"]
def WV:FnScope Cs ["_law_script"] (zd Eh):=Xw
def CQ:SF:=
 (zg (zo false 1 (zt (aC (zt (aC zu (aC yh aN)) yd) (aC (zt (aC zu (aC yp aN)) yd) (aC (f2 (zt (aC zu (aC yR aN)) yd) wF zm) aN))) ZL))
  (zg (xr (Kc 1 5) (OV 1 5 (dC (Df (yf (dC (fC (.str "sign")) (dC (yK (dC yh dN)) dN)))) dN)) wc)
  (K8 1 (zg (zo true 2 (zt (aC zu (aC (fC (.int 7)) (aC wF (aC (f2 zG yh zy) (aC (f2 (zt (aC zu (aC yR aN)) yd) (fC (.int 12)) ze) aN))))) Yq))
  (zg (xr (PR (fT (zt (aC zG Ve) wb))) (zY (fC (.bl false))) wc)
  (zg (zo true 3 zG)
  (zg (yo (ye (aC (f2 yp (f2 (f2 (zt (aC zu (aC yR aN)) yd) wF ze) vg zm) zD) aN) yj) G3 (zg (zo true 3 (zt (aC zL (aC (zt (aC zu (aC (f2 vg zM zD) aN)) yd) aN)) Yz))
  (xr (PR (fT (zt (aC zL Ve) wb))) (zY (fC (.bl false))) wc)))
  (zY (zt (aC zG Ve) wb)))))))))
def PX:Fn:=vP 5 1 CQ
structure Fq(K:zzA)(mg:Str->Option Value)(x:Str)(st:Stmt)(f:Addr)(d:FuncData)(ps:List Str):Prop where
 F:Fun K x x st f d
 b:Binds K d ps []
 m:mg x=some (.ref f)
def WQ{P:Program}{w:World}{K:zzA}{mg:Str->Option Value}{base:Heap}{kd:KD}{x:Str}{st:Stmt}{f:Addr}{d:FuncData}{N ps:List Str}{k:Nat}{c:SF}(Q:Fq K mg x st f d ps)(S:FnScope N ps (zd st))
 (hb:∀(cdv:Value) (A:Around) (outer:List Env) (s:Shared) (H:Hp) (E:XK),Room k (A.deeper (envOfC x (zd st) s.heap.objs.size f cdv))->TU (Zc U2 P w K mg base N x (zd st) f cdv A outer s H E).nox kd (wu st) c):
 Co x P w K mg base kd (k+1) f d ps (vP N.length ps.length c):=⟨Dq Q.F S hb,Q.m,Q.F.kp,Q.b⟩
set_option genInjectivity false in
set_option genSizeOf false in
structure Adr where
 YC:Addr
 YI:FuncData
 YF:Addr
 YK:FuncData
 Wb:Addr
 Wz:FuncData
 VA:Addr
 VJ:FuncData
 VS:Addr
 VP:FuncData
 yZ:Addr
 xR:FuncData
 vU:Addr
 v9:FuncData
 KS:Addr
 KJ:FuncData
 Q0:Addr
 Q2:FuncData
 WJ:Addr
 WB:FuncData
 RO:Addr
 UI:FuncData
 Gf:Addr
 T_:FuncData
 W4:Addr
 WZ:FuncData
 QR:Addr
 QJ:FuncData
 Ws:Addr
 Wg:FuncData
 QI:Addr
 QF:FuncData
 Qu:Addr
 QD:FuncData
 Vi:Addr
 Vf:FuncData
 YM:Addr
 YG:FuncData
 Vv:Addr
 VU:FuncData
 X5:Addr
 Wc:FuncData
 Q3:Addr
 QB:FuncData
 Vj:Addr
 WX:FuncData
 Wf:Addr
 Wy:FuncData
 UW:Addr
 U8:FuncData
 Vk:Addr
 VQ:FuncData
 RM:Addr
 U1:FuncData
 vo:Addr
 vq:FuncData
 Ze:Addr
 Zm:FuncData
 Pr:Addr
 Td:FuncData
 Y1:Addr
 YZ:FuncData
 RH:Addr
 Rk:FuncData
 Q6:Addr
 QT:FuncData
 Ia:Addr
 Ih:FuncData
 zN:Addr
 KU:Addr
 Lp:Addr
 Ma:Addr
 Kd:Addr
 Ua:Addr
 La:Addr
 Pj:Addr
 wB:Addr
 UG:Addr
structure Txt(K:zzA)(kd:KD)(mg:Str->Option Value)(t:Adr):Prop where
 Uj:Fq K mg "nothing_fails" xZ t.YC t.YI ["algebra"]
 Ue:Fq K mg "parting_fails" x5 t.YF t.YK ["algebra"]
 Pf:Fq K mg "doing_fails" wK t.Wb t.Wz ["algebra","name","rows"]
 Gr:Fq K mg "deeds_fail" vG t.VA t.VJ ["algebra"]
 TQ:Fq K mg "what_fails" vC t.VS t.VP ["algebra"]
 XX:Fun K "__init__" "NotLetBy.__init__" y3 t.yZ t.xR
 X2:Binds K t.xR ["self","what"] []
 xJ:Fq K mg "check_let_by" wq t.vU t.v9 ["algebra"]
 Be:Fq K mg "two_of" WY t.KS t.KJ ["algebra","entries","p","q"]
 G4:Fq K mg "following" Zf t.Q0 t.Q2 ["algebra","entries","at"]
 Yr:Fun K "take_new" "take_new" Z6 t.WJ t.WB
 WR:Binds K t.WB ["entries","known","found"] []
 yC:mg "take_new"=some (.ref t.WJ)
 wQ:Fq K mg "coming" Y8 t.RO t.UI ["algebra","row"]
 WW:Fq K mg "comes" UC t.Gf t.T_ ["algebra","row","name"]
 Gb:Fq K mg "least_rows" vD t.W4 t.WZ ["algebra","values"]
 KA:Fq K mg "least_row" Zs t.QR t.QJ ["algebra","row","name"]
 Pa:Fq K mg "_law_cell_at" wO t.Ws t.Wg ["_law_script","_law_k"]
 Kt:Fq K mg "_law_mixed" Zl t.QI t.QF ["_law_cell","_law_k"]
 Lm:Fq K mg "_law_words" Zn t.Qu t.QD ["_law_cell","_law_many"]
 Te:Fq K mg "_law_common" vJ t.Vi t.Vf ["_law_n","_law_m"]
 Ui:Fq K mg "_law_joined_by" x3 t.YM t.YG ["_law_kind","_law_n","_law_a","_law_b"]
 TY:Fq K mg "_law_images" vA t.Vv t.VU ["_law_kind","_law_n","_law_x"]
 Pd:Fq K mg "_law_done_by" wN t.X5 t.Wc ["_law_kind","_law_n","_law_m","_law_x"]
 KR:Fq K mg "_law_kinds" Zj t.Q3 t.QB ["_law_x"]
 Gq:Fq K mg "_law_stream" vI t.Vj t.WX ["_law_cell","_law_many"]
 RZ:Fq K mg "_law_algebra" yV t.Wf t.Wy ["_law_cell","_law_head","_law_many"]
 Nj:Fq K mg "_law_copy" Yw t.UW t.U8 ["_law_algebra_here"]
 Tv:Fq K mg "_law_values" vN t.Vk t.VQ ["_law_script","_law_start","_law_most","_law_size","_law_number"]
 Nx:Fq K mg "_law_bent" Yb t.RM t.U1 ["_law_algebra_here","_law_cell"]
 XW:Fq K mg "_law_first_parting" y6 t.vo t.vq ["_law_n","_law_join"]
 VH:Fq K mg "_law_first_doing" xD t.Ze t.Zm ["_law_n","_law_m","_law_join","_law_name","_law_rows"]
 EX:Fq K mg "_law_due" XH t.Pr t.Td ["_law_algebra_here"]
 QL:Fun K "_law_alone" "_law_alone" Zk t.Y1 t.YZ
 Ky:Binds K t.YZ ["_law_e"] []
 wa:mg "_law_alone"=some (.ref t.Y1)
 Nv:Fq K mg "_law_told" Yk t.RH t.Rk ["_law_algebra_here","_law_row","_law_way"]
 Kv:Fq K mg "_law_right" Zr t.Q6 t.QT ["_law_algebra_here","_law_row"]
 Dp:Fq K mg "law" Eh t.Ia t.Ih ["_law_script"]
 TR:mg "ValueError"=none
 IW:mg "dict"=none
 Kq:mg "enumerate"=none
 Bm:mg "int"=none
 yt:mg "isinstance"=none
 Kp:mg "len"=none
 Th:mg "list"=none
 um:mg "max"=none
 xj:mg "range"=none
 uf:mg "set"=none
 K6:mg "sorted"=none
 UT:mg "NotLetBy"=some (.ref t.zN)
 SE:mg "NoDeed"=some (.ref t.KU)
 FJ:mg "NoMake"=some (.ref t.Lp)
 OU:mg "NoRow"=some (.ref t.Ma)
 SX:mg "NoSign"=some (.ref t.Kd)
 K3:mg "NoStretch"=some (.ref t.Ua)
 B_:mg "NoText"=some (.ref t.La)
 Fh:mg "NoValue"=some (.ref t.Pj)
 Y4:mg "StretchError"=some (.ref t.wB)
 NU:mg "TooGreat"=some (.ref t.UG)
 xq:kd.c "NotLetBy"=t.zN
 xf:W.findIn K (.ref t.zN) "__init__"=some (some (.ref t.yZ))
 xc:XC K t.zN t.wB t.yZ "what"
 xs:XS K t.wB
 xi:XI K t.zN "what"
 xk:W.keepIn K (.ref t.zN)=true
 xm:W.exmOne K (.ref t.zN) (.ref t.wB)=some true
 k1_NoDeed:W.kitOne K (.ref t.zN) (.ref t.KU)=some false
 k1_NoMake:W.kitOne K (.ref t.zN) (.ref t.Lp)=some false
 k1_NoRow:W.kitOne K (.ref t.zN) (.ref t.Ma)=some false
 k1_NoSign:W.kitOne K (.ref t.zN) (.ref t.Kd)=some false
 k1_NoStretch:W.kitOne K (.ref t.zN) (.ref t.Ua)=some false
 k1_NoText:W.kitOne K (.ref t.zN) (.ref t.La)=some false
 k1_NoValue:W.kitOne K (.ref t.zN) (.ref t.Pj)=some false
 k1_NotLetBy:W.kitOne K (.ref t.zN) (.ref t.zN)=some true
 k1_TooGreat:W.kitOne K (.ref t.zN) (.ref t.UG)=some false
 k1_ValueError:W.kitOne K (.ref t.zN) (.type "ValueError")=some true
set_option maxHeartbeats 8000000
section
variable{P:Program}{w:World}{K:zzA}{mg:Str->Option Value}{base:Heap}{kd:KD}{t:Adr}
local macro_rules | `(tactic| trivial)=>do let T:=Lean.mkIdent `T;let h:=Lean.mkIdent `hkd;let r:=Lean.mkIdent `hr;`(tactic| first|(show AE _ _ _ _;first|exact av _|exact aI|(refine ax $h ?_ ?_<;>trivial)|(refine bn ?_ ?_<;>trivial)|exact aS|exact aZ|exact aB|(refine ec $h $r ?_ ?_<;>trivial)|(refine cq (by assumption) $r ?_<;>trivial)|(refine wJ ?_;trivial)|(refine Yo ?_;trivial)|(refine cm ?_ ?_ ?_ ?_<;>trivial)|(refine Li ?_ ?_ ?_<;>trivial)|(refine bi (Qj ($h _ rfl rfl rfl)) (Txt.Kp $T) Bt.len ?_;trivial)|(refine bi (EO rfl) (Txt.um $T) Bt.max ?_;trivial)|(refine bi Np (Txt.K6 $T) Bt.sorted ?_;trivial)|(refine DQ WI (Txt.Bm $T) Bt.int ?_;trivial)|(refine DQ EU (Txt.Th $T) Bt.list ?_;trivial)|(refine Al ($h _ rfl rfl rfl) rfl rfl (Txt.yt $T) Bt.isinstance rfl (Txt.Th $T) Bt.list ?_ (Bt.n _ rfl) (by decide) (Bt.n _ rfl) (by decide) rfl rfl rfl;trivial)|(refine DQ (L5 rfl ($h _ rfl rfl rfl)) (Txt.IW $T) Bt.dict ?_;trivial)|(refine Pi rfl rfl (Txt.xj $T) rfl (Txt.Th $T) ?_ rfl rfl;trivial)|(refine LI rfl rfl (Txt.uf $T) rfl (Txt.K6 $T) ?_ rfl rfl;trivial)|(refine BD ?_ ?_<;>trivial)|(refine Dn ?_ ?_<;>trivial)|(refine FD ?_;trivial)|exact AM|exact ae_d0|(refine Y5 vQ RF PySem.F.slot_list_append PySem.F.type_list_append (pv _) ?_ rfl rfl rfl rfl rfl;trivial)|(refine Y5 Ll Lk PySem.F.slot_list_pop PySem.F.type_list_pop (pv _) ?_ rfl rfl rfl rfl rfl;trivial)|(refine Y5 Ff JE PySem.F.slot_list_extend PySem.F.type_list_extend (pv _) ?_ rfl rfl rfl rfl rfl;trivial)|(refine Oz (ty:=.str) ($h _ rfl rfl rfl) O4 PySem.F.plainAttrs_str PySem.F.slot_str_join PySem.F.type_str_join ?_ ?_ rfl rfl rfl rfl rfl<;>trivial)|(refine CD ?_;trivial)|exact Sm (pv _))|(show AA _ _ _ _;first|(refine bc ?_ ?_<;>trivial)|exact z_)|exact XU|(refine Ep ?_;trivial)|(intro _;trivial)|(show QK _ _ _ _;first|(refine q_ (by assumption) ?_ ?_ ?_ ?_<;>trivial)|(refine wZ ?_;trivial)|(refine Wx ?_ ?_ ?_<;>trivial)|(refine ph ?_ ?_ ?_<;>trivial)|(refine KG PassesOwn.never ?_ ?_<;>trivial)|(refine XG ?_ rfl;trivial)|(refine sv _ _ (by assumption) ?_;trivial)|(refine IZ rfl (by assumption) rfl rfl (by decide) rfl rfl ?_ rfl rfl;trivial)|(refine sD ?_ ?_<;>trivial)|(refine Uy (pv _) ?_ (λ_ _=>rfl) ?_ ?_ (λ_=>rfl) rfl rfl rfl<;>trivial)|(refine An (C_ $r) (pv _) ?_ ?_ rfl<;>trivial)|exact S7 (by assumption) rfl (.inl rfl) (by first|exact Or.inl rfl|exact Or.inr rfl)|exact uP)|(show TU _ _ _ _;first|(refine sj _ (by assumption) ?_ ?_<;>trivial)|(refine Tf ?_;trivial)|(refine zV ?_ ?_<;>trivial)|(refine zT ?_;trivial)|exact Yg)|(show AT _ _ _ _;first|(refine tc $h $r ?_ ?_<;>trivial)|(refine tc $h $r ?_ ?_ (hm:=rfl)<;>trivial)|(refine Bd ?_;trivial)|(refine vS ?_ (λ_=>rfl);trivial)|(refine AW.at_ ?_;trivial))|(show AD _ _ _ _;first|(refine bd ?_ ?_<;>trivial)|exact yw)|(show AO _ _ _ _;first|(refine MW ?_;trivial)|exact M5)|(show AG _ _ _ _ _;first|exact an _ (by assumption)|exact an _ (pz (by kernel_rfl))|(refine Lz rfl ?_ rfl rfl;trivial))|(show CP _ _ _ _ _;first|(refine pw ?_ ?_<;>trivial)|exact Ge)|(show De _ _ _ _;first|exact sQ _ (by assumption)|(refine rE ?_;trivial))|(show SN _ _ _ _;first|(refine sV ?_ ?_<;>trivial)|exact sJ)|(show IC _ _ _ _ _;first|(refine Qg rfl (Txt.xj $T) ?_ rfl;trivial)|(refine U4 ?_;trivial))|(show AI _ _ _ _ _;first|(refine xM rfl (Txt.xj $T) ?_ rfl;trivial)|(refine Fc rfl (Txt.xj $T) ?_ rfl rfl;trivial)|(refine O1 rfl (Txt.Kq $T) ?_ rfl;trivial)|(refine BQ ?_;trivial))|(show AW _ _ _ _;first|(refine QS ?_ ?_<;>trivial)|(refine Iz ?_ ?_<;>trivial)|(refine Xx ?_;trivial)|(refine L_ ?_;trivial))|(show AK _ _ _ _;first|exact Nm|exact x9 (pv _)|(refine PH (pv _) ?_ (λ_ _=>rfl);trivial)|(refine NM ?_ ?_<;>trivial)|(refine LY ?_ ?_<;>trivial)|exact SO rfl (Txt.Kp $T) Bt.len (pv _) rfl rfl))
def Ud(T:Txt K kd mg t)(hkd:Z0 P w K kd):Co "nothing_fails" P w K mg base kd 1 t.YC t.YI ["algebra"] vk:=by
 refine WQ (N:=YT) (k:=0) (c:=YE) T.Uj ZV λ_ _ _ _ _ _ hr=>?_;have:=ZV.nd;conv=>arg 3;whnf
 trivial
def Uk(T:Txt K kd mg t)(hkd:Z0 P w K kd):Co "parting_fails" P w K mg base kd 1 t.YF t.YK ["algebra"] vd:=by
 refine WQ (N:=YR) (k:=0) (c:=YS) T.Ue Z1 λ_ _ _ _ _ _ hr=>?_;have:=Z1.nd;conv=>arg 3;whnf
 trivial
def Pb(T:Txt K kd mg t)(hkd:Z0 P w K kd):Co "doing_fails" P w K mg base kd 1 t.Wb t.Wz ["algebra","name","rows"] wM:=by
 refine WQ (N:=Wt) (k:=0) (c:=Wn) T.Pf Xk λ_ _ _ _ _ _ hr=>?_;have:=Xk.nd;conv=>arg 3;whnf
 trivial
def Tj(T:Txt K kd mg t)(hkd:Z0 P w K kd):Co "deeds_fail" P w K mg base kd 2 t.VA t.VJ ["algebra"] Yn:=by
 refine WQ (N:=Vz) (k:=1) (c:=VD) T.Gr Wp λ_ _ _ _ _ _ hr=>?_;have:=Wp.nd;have:=Pb (base:=base) T hkd;conv=>arg 3;whnf
 trivial
def VR(T:Txt K kd mg t)(hkd:Z0 P w K kd):Co "what_fails" P w K mg base kd 3 t.VS t.VP ["algebra"] vE:=by
 refine WQ (N:=Vr) (k:=2) (c:=Va) T.TQ Wo λ_ _ _ _ _ _ hr=>?_;have:=Wo.nd;have:=Ud (base:=base) T hkd;have:=Uk (base:=base) T hkd;have:=Tj (base:=base) T hkd;conv=>arg 3;whnf
 trivial
def X4(T:Txt K kd mg t):FnOk P w K mg base U2 1 t.yZ t.xR ["self","what"] (DR K t.zN "what"):=
 Fun.ok (N:=vm) (ps:=["self","what"]) (k:=0) T.XX Xf OD λcdv A outer s H vs Q E hr h=>by
  obtain⟨e,v,rfl,he,⟨kd',O,d,rp,hd⟩,q⟩:=h;exact⟨_,ZZ (Xv (B4 T.xc T.xs rfl T.Y4 (xg (pv 0) (xg (On (pv 1) (by decide) hr.gd (P6 hr)) ZG)) rfl rfl (by decide) rfl) rfl) (Uu (Iq T.xc (pv 0) (pv 1) rfl)),.ref e,rfl,v,rfl,kd',O,d,rp,hd,λy=>⟨e,y,rfl,he,v,rfl,.ref e,rfl,e,rfl,he,λdx h1 h2=>q dx h1 h2⟩⟩
def Rb(T:Txt K kd mg t)(hkd:Z0 P w K kd):Co "check_let_by" P w K mg base kd 4 t.vU t.v9 ["algebra"] yx:=by
 refine WQ (N:=vZ) (k:=3) (c:=we) T.xJ x4 λ_ _ _ _ _ _ hr=>?_;have:=x4.nd;have:=VR (base:=base) T hkd;conv=>arg 3;whnf
 trivial
def Rx(T:Txt K kd mg t)(hkd:Z0 P w K kd):FnOk P w K mg base (GX P w t.zN "what") 4 t.vU t.v9 ["algebra"] (IH K kd wo):=by
 refine DS (N:=vZ) (k:=3) (i:=1) T.xJ.F x4 rfl λcdv A outer s H E hr=>⟨?_, ?_, ?_⟩
 . exact(by refine sv true 1 x4.nd ?_;exact(cq (VR T hkd) hr (bc (av 0) z_)))
 . exact(tc hkd hr (av 1) aZ)
 . exact BW T.xc T.xk (X4 T) (hr.mono (by omega)) T.X2 rfl T.UT (pv 1) (by decide) rfl rfl
def Bh(T:Txt K kd mg t)(hkd:Z0 P w K kd):Co "two_of" P w K mg base kd 1 t.KS t.KJ ["algebra","entries","p","q"] Z2:=by
 refine WQ (N:=KQ) (k:=0) (c:=K9) T.Be Ph λ_ _ _ _ _ _ hr=>?_;have:=Ph.nd;conv=>arg 3;whnf
 trivial
def Qv(T:Txt K kd mg t)(hkd:Z0 P w K kd):Co "following" P w K mg base kd 2 t.Q0 t.Q2 ["algebra","entries","at"] wW:=by
 refine WQ (N:=Qx) (k:=1) (c:=QU) T.G4 VF λ_ _ _ _ _ _ hr=>?_;have:=VF.nd;have:=Bh (base:=base) T hkd;conv=>arg 3;whnf
 trivial
def Yd(T:Txt K kd mg t)(hkd:Z0 P w K kd):FnOk P w K mg base U2 1 t.WJ t.WB ["entries","known","found"] (t_ K kd yC):=by
 refine Aq (N:=RK) (k:=0) (c:=WM) T.Yr Xg rfl (by decide) λcdv A outer s H E hr=>?_;exact(T7 (JV (by decide) PassesOwn.never rfl (BQ (av 2)) (an 3 Xg.nd) (by
  refine Ku (qD _ 4 (by decide) Xg.nd ?_) ?_;exact(wJ (bd (ax hkd (av 3) aI) (bd (ax hkd (av 3) aI) yw)));exact T7 (Dl (LW (Rm (hkd _ rfl rfl rfl) (P6 hr) .NotIn) (Ts .NotIn) (av 4) (av 1) rfl) (by
  refine Ku ?_ ?_;exact(OK (C_ hr) (pv 1) (av 4) aB rfl);exact T7 (Cp (Y5 vQ RF PySem.F.slot_list_append PySem.F.type_list_append (pv 0) (bd (av 3) yw) rfl rfl rfl rfl rfl) rfl)) Cf)) (λ_=>rfl)))
def Lc(T:Txt K kd mg t)(hkd:Z0 P w K kd):Co "coming" P w K mg base kd 5 t.RO t.UI ["algebra","row"] vW:=by
 refine WQ (N:=W_) (k:=4) (c:=UN) T.wQ wH λ_ _ _ _ _ _ hr=>?_;have:=wH.nd;have:=Rb (base:=base) T hkd;have:=Yd (base:=base) T hkd;have:=Qv (base:=base) T hkd;conv=>arg 3;whnf
 exact(by
  refine zV ?_ ?_;trivial;refine sj 2 wH.nd ?_ ?_;trivial;refine sj 3 wH.nd ?_ ?_;trivial;refine zV ?_ ?_;exact(U5 (Yd T hkd) (hr.mono (by omega)) rfl T.yC T.Yr.kp T.WR Mi (by decide) (pv 2) (pv 3) (Yo (bd (wJ (bd (ax hkd (av 0) aI) (bd aI (bd (wJ (bd aS yw)) yw)))) yw)) (by decide) (y9 rfl) (y9 rfl) (y9 rfl) rfl rfl);refine zV ?_ ?_;exact(U5 (Yd T hkd) (hr.mono (by omega)) rfl T.yC T.Yr.kp T.WR Mi (by decide) (pv 2) (pv 3) (UE (N:=["value","algebra"]) (cap:=[none,some 0]) (S:=[0]) rfl (U4 (av 1)) rfl (by change YJ _ W_ _ (zd Y8).names _=true;decide +kernel) (by decide) (λcl s H fp=>(an 0 Kb)) (λcl s H fp=>XU) (λcl s H fp=>(wJ (bd (av 0) (bd (bn aI (ax hkd (av 1) aI)) (bd (wJ (bd aS (bd (av 0) yw))) yw))))) (λ_=>rfl)) (by decide) (y9 rfl) (y9 rfl) (y9 rfl) rfl rfl);refine sj 4 wH.nd ?_ ?_;trivial;refine zV ?_ ?_;exact(KG (n:=10000) PassesOwn.never (tc hkd hr (av 4) (bi (Qj (hkd _ rfl rfl rfl)) T.Kp Bt.len (bc (av 2) z_))) (by
  refine zV ?_ ?_;exact(U5 (Yd T hkd) (hr.mono (by omega)) rfl T.yC T.Yr.kp T.WR Mi (by decide) (pv 2) (pv 3) (cq (Qv T hkd) hr (bc (av 0) (bc (av 2) (bc (av 4) z_)))) (by decide) (y9 rfl) (y9 rfl) (y9 rfl) rfl rfl);exact zT (S7 (i:=4) wH.nd rfl (.inl rfl) (by first|exact Or.inl rfl|exact Or.inr rfl))))
  exact zT (wZ (av 2)))
def KH(T:Txt K kd mg t)(hkd:Z0 P w K kd):FnOk P w K mg base (GX P w t.zN "what") 5 t.RO t.UI ["algebra","row"] (IH K kd ZR):=by
 refine CV (N:=W_) (k:=4) T.wQ.F wH λcdv A outer s H E hr=>?_;exact(Xh (GQ (Vq (Rx T hkd) (hr.mono (by omega)) rfl T.xJ.m T.xJ.F.kp T.xJ.b rfl (bc (av 0) z_) (by decide) rfl rfl) rfl))
def OC(T:Txt K kd mg t)(hkd:Z0 P w K kd):Co "comes" P w K mg base kd 6 t.Gf t.T_ ["algebra","row","name"] Vb:=by
 refine WQ (N:=GC) (k:=5) (c:=TB) T.WW VE λ_ _ _ _ _ _ hr=>?_;have:=VE.nd;have:=Lc (base:=base) T hkd;conv=>arg 3;whnf
 trivial
def Ci(T:Txt K kd mg t)(hkd:Z0 P w K kd):FnOk P w K mg base (GX P w t.zN "what") 6 t.Gf t.T_ ["algebra","row","name"] (IH K kd Ur):=by
 refine CV (N:=GC) (k:=5) T.WW.F VE λcdv A outer s H E hr=>?_;exact(Xh (I_ (i:=3) VE.nd rfl (by exact Or.inl rfl) (Vq (KH T hkd) (hr.mono (by omega)) rfl T.wQ.m T.wQ.F.kp T.wQ.b rfl (bc (av 0) (bc (av 1) z_)) (by decide) rfl rfl) rfl (by exact Or.inr rfl)))
def TC(T:Txt K kd mg t)(hkd:Z0 P w K kd):Co "least_rows" P w K mg base kd 1 t.W4 t.WZ ["algebra","values"] vM:=by
 refine WQ (N:=W9) (k:=0) (c:=VT) T.Gb Wl λ_ _ _ _ _ _ hr=>?_;have:=Wl.nd;conv=>arg 3;whnf
 trivial
def KC(T:Txt K kd mg t)(hkd:Z0 P w K kd):Co "least_row" P w K mg base kd 2 t.QR t.QJ ["algebra","row","name"] Xe:=by
 refine WQ (N:=QY) (k:=1) (c:=QP) T.KA wk λ_ _ _ _ _ _ hr=>?_;have:=wk.nd;have:=TC (base:=base) T hkd;conv=>arg 3;whnf
 exact(by
  refine sj 3 wk.nd ?_ ?_;trivial;refine zV ?_ ?_;trivial;refine sj 4 wk.nd ?_ ?_;trivial;refine zV ?_ ?_;exact(ZH PassesOwn.never rfl (SW (pv 4)) (an 5 wk.nd) (zT (Wx (LW (Rm (hkd _ rfl rfl rfl) (P6 hr) .In) (Ts .In) (av 5) (av 3) rfl) (zT (wZ (ax hkd (av 4) (av 5)))) Yg)) (λ_=>rfl));exact zT (wZ aZ))
def ZC(T:Txt K kd mg t)(hkd:Z0 P w K kd):Co "_law_cell_at" P w K mg base kd 1 t.Ws t.Wg ["_law_script","_law_k"] yd:=by
 refine WQ (N:=X7) (k:=0) (c:=Ww) T.Pa Y0 λ_ _ _ _ _ _ hr=>?_;have:=Y0.nd;conv=>arg 3;whnf
 trivial
def Zi(T:Txt K kd mg t)(hkd:Z0 P w K kd):Co "_law_mixed" P w K mg base kd 1 t.QI t.QF ["_law_cell","_law_k"] yP:=by
 refine WQ (N:=Q9) (k:=0) (c:=QW) T.Kt Vp λ_ _ _ _ _ _ hr=>?_;have:=Vp.nd;conv=>arg 3;whnf
 trivial
def Kh(T:Txt K kd mg t)(hkd:Z0 P w K kd):Co "_law_words" P w K mg base kd 2 t.Qu t.QD ["_law_cell","_law_many"] Zw:=by
 refine WQ (N:=QC) (k:=1) (c:=QH) T.Lm VG λ_ _ _ _ _ _ hr=>?_;have:=VG.nd;have:=Zi (base:=base) T hkd;conv=>arg 3;whnf
 trivial
def GN(T:Txt K kd mg t)(hkd:Z0 P w K kd):Co "_law_common" P w K mg base kd 1 t.Vi t.Vf ["_law_n","_law_m"] vK:=by
 refine WQ (N:=Vc) (k:=0) (c:=Vm) T.Te Wm λ_ _ _ _ _ _ hr=>?_;have:=Wm.nd;conv=>arg 3;whnf
 trivial
def YL(T:Txt K kd mg t)(hkd:Z0 P w K kd):Co "_law_joined_by" P w K mg base kd 1 t.YM t.YG ["_law_kind","_law_n","_law_a","_law_b"] yi:=by
 refine WQ (N:=YD) (k:=0) (c:=YN) T.Ui Z4 λ_ _ _ _ _ _ hr=>?_;have:=Z4.nd;conv=>arg 3;whnf
 trivial
def Gu(T:Txt K kd mg t)(hkd:Z0 P w K kd):Co "_law_images" P w K mg base kd 1 t.Vv t.VU ["_law_kind","_law_n","_law_x"] Z7:=by
 refine WQ (N:=Vs) (k:=0) (c:=VN) T.TY Wq λ_ _ _ _ _ _ hr=>?_;have:=Wq.nd;conv=>arg 3;whnf
 trivial
def We(T:Txt K kd mg t)(hkd:Z0 P w K kd):Co "_law_done_by" P w K mg base kd 2 t.X5 t.Wc ["_law_kind","_law_n","_law_m","_law_x"] xv:=by
 refine WQ (N:=X8) (k:=1) (c:=Wv) T.Pd Xa λ_ _ _ _ _ _ hr=>?_;have:=Xa.nd;have:=Gu (base:=base) T hkd;have:=GN (base:=base) T hkd;conv=>arg 3;whnf
 trivial
def Kl(T:Txt K kd mg t)(hkd:Z0 P w K kd):Co "_law_kinds" P w K mg base kd 1 t.Q3 t.QB ["_law_x"] Zx:=by
 refine WQ (N:=Q_) (k:=0) (c:=Qy) T.KR Vg λ_ _ _ _ _ _ hr=>?_;have:=Vg.nd;conv=>arg 3;whnf
 trivial
def W3(T:Txt K kd mg t)(hkd:Z0 P w K kd):Co "_law_stream" P w K mg base kd 2 t.Vj t.WX ["_law_cell","_law_many"] xh:=by
 refine WQ (N:=VC) (k:=1) (c:=Vh) T.Gq Wa λ_ _ _ _ _ _ hr=>?_;have:=Wa.nd;have:=Zi (base:=base) T hkd;conv=>arg 3;whnf
 trivial
def RU(T:Txt K kd mg t)(hkd:Z0 P w K kd):Co "_law_algebra" P w K mg base kd 3 t.Wf t.Wy ["_law_cell","_law_head","_law_many"] ZL:=by
 refine WQ (N:=xY) (k:=2) (c:=ZK) T.RZ zi λcdv A outer s H E hr=>?_;exact(by
  refine sj 3 zi.nd ?_ ?_;exact(cq (W3 T hkd) hr (bc (av 0) (bc (bn aI (bn aI (av 2))) z_)));refine sj 4 zi.nd ?_ ?_;exact(cq (W3 T hkd) hr (bc (av 1) (bc aI z_)));refine zV ?_ ?_;exact(Bi (cq (Kl T hkd) hr (bc (ax hkd (av 3) aI) z_)) (Lz rfl (ZQ (an 5 zi.nd) (ZQ (an 6 zi.nd) (ZQ (an 7 zi.nd) (ZQ (an 8 zi.nd) Ge rfl) rfl) rfl) rfl) rfl rfl) rfl rfl rfl);refine sj 9 zi.nd ?_ ?_;exact(bn (bn aI (bn (ax hkd (av 4) aI) aI)) (bn aI (DQ WI T.Bm Bt.int (bc (ec hkd hr (bn (bn (ax hkd (av 4) aI) aI) aI) aI) z_))));refine sj 10 zi.nd ?_ ?_;exact(bn (av 6) (av 8));refine sj 11 zi.nd ?_ ?_;exact(Pi rfl rfl T.xj rfl T.Th (bc (av 10) z_) rfl rfl);refine sj 12 zi.nd ?_ ?_;exact(Yo yw);refine zV ?_ ?_;exact(ZH PassesOwn.never rfl (xM rfl T.xj (bc (av 10) z_) rfl) (an 13 zi.nd) (zT (XG (Y5 vQ RF PySem.F.slot_list_append PySem.F.type_list_append (pv 12) (bd (Y5 Ll Lk PySem.F.slot_list_pop PySem.F.type_list_pop (pv 11) (bd (bn (ax hkd (av 4) (bn aI (av 13))) (bi (Qj (hkd _ rfl rfl rfl)) T.Kp Bt.len (bc (av 11) z_))) yw) rfl rfl rfl rfl rfl) yw) rfl rfl rfl rfl rfl) rfl)) (λ_=>rfl));refine Tf ?_;refine zV ?_ ?_;exact(Uz (z:=false) (i:=14) (N:=["_law_a","_law_order"]) (cap:=[none,some 12]) (S:=[0]) zi.nd rfl (by exact Or.inl rfl) (by exact Or.inr rfl) rfl rfl (U4 (av 12)) rfl (by change YJ _ xY _ (zd yV).names _=true;decide +kernel) (by decide) (λcl s H fp=>(an 0 Qh)) (λcl s H fp=>XU) (λcl s H fp=>(UE (N:=["_law_b"]) (cap:=[none]) (S:=[0]) rfl (U4 (av 1)) rfl (by with_unfolding_all rfl) (by decide) (λcl s H fp=>(an 0 V7)) (λcl s H fp=>XU) (λcl s H fp=>aI) (λ_=>rfl))) (λ_=>rfl));refine zV ?_ ?_;exact(ZH PassesOwn.never rfl (xM rfl T.xj (bc (av 10) z_) rfl) (an 15 zi.nd) (zT (ZH PassesOwn.never rfl (xM rfl T.xj (bc (av 10) z_) rfl) (an 16 zi.nd) (by
  refine sj 17 zi.nd ?_ ?_;exact(bn (cq (YL T hkd) hr (bc (av 5) (bc (av 6) (bc (bn (av 15) (av 8)) (bc (bn (av 16) (av 8)) z_))))) (av 8));refine sj 17 zi.nd ?_ ?_;exact(bn (av 17) (cq (YL T hkd) hr (bc (av 7) (bc (av 8) (bc (bn (av 15) (av 8)) (bc (bn (av 16) (av 8)) z_))))));exact zT (Uy (pv 14) (PH (pv 12) (x9 (pv 15)) (λ_ _=>rfl)) (λ_ _=>rfl) (PH (pv 12) (x9 (pv 16)) (λ_ _=>rfl)) (PH (pv 12) (x9 (pv 17)) (λ_ _=>rfl)) (λ_=>rfl) rfl rfl rfl)) (λ_=>rfl))) (λ_=>rfl))
  refine sj 18 zi.nd ?_ ?_;exact(cq (Kh T hkd) hr (bc (bn (av 1) aI) (bc aI z_)));refine sj 19 zi.nd ?_ ?_;exact(Yo yw);refine zV ?_ ?_;exact(ZH PassesOwn.never rfl (xM rfl T.xj (bc (av 2) z_) rfl) (an 13 zi.nd) (by
  refine sj 20 zi.nd ?_ ?_;exact(cq (We T hkd) hr (bc (av 5) (bc (av 6) (bc (av 9) (bc (ax hkd (av 3) (bn aI (bn aI (av 13)))) z_)))));refine sj 21 zi.nd ?_ ?_;exact(cq (We T hkd) hr (bc (av 7) (bc (av 8) (bc (av 9) (bc (ax hkd (av 3) (bn aI (bn aI (av 13)))) z_)))));refine zV ?_ ?_;exact(Uz (z:=false) (i:=22) (N:=["_law_c","_law_order"]) (cap:=[none,some 12]) (S:=[0]) zi.nd rfl (by exact Or.inl rfl) (by exact Or.inr rfl) rfl rfl (Qg rfl T.xj (bc (av 9) z_) rfl) rfl (by change YJ _ xY _ (zd yV).names _=true;decide +kernel) (by decide) (λcl s H fp=>(an 0 VW)) (λcl s H fp=>XU) (λcl s H fp=>(UE (N:=["_law_a"]) (cap:=[none]) (S:=[0]) rfl (U4 (av 1)) rfl (by with_unfolding_all rfl) (by decide) (λcl s H fp=>(an 0 Qp)) (λcl s H fp=>XU) (λcl s H fp=>aI) (λ_=>rfl))) (λ_=>rfl));refine zV ?_ ?_;exact(ZH PassesOwn.never rfl (xM rfl T.xj (bc (av 9) z_) rfl) (an 23 zi.nd) (zT (ZH PassesOwn.never rfl (xM rfl T.xj (bc (av 10) z_) rfl) (an 15 zi.nd) (by
  refine sj 17 zi.nd ?_ ?_;exact(ax hkd (ax hkd (av 20) (av 23)) (bn (av 15) (av 8)));refine sj 17 zi.nd ?_ ?_;exact(bn (bn (av 17) (av 8)) (ax hkd (ax hkd (av 21) (av 23)) (bn (av 15) (av 8))));exact zT (Uy (pv 22) (x9 (pv 23)) (λ_ _=>rfl) (PH (pv 12) (x9 (pv 15)) (λ_ _=>rfl)) (PH (pv 12) (x9 (pv 17)) (λ_ _=>rfl)) (λ_=>rfl) rfl rfl rfl)) (λ_=>rfl))) (λ_=>rfl))
  exact zT (XG (Y5 vQ RF PySem.F.slot_list_append PySem.F.type_list_append (pv 19) (bd (wJ (bd (ax hkd (av 18) (av 13)) (bd (av 22) yw))) yw) rfl rfl rfl rfl rfl) rfl)) (λ_=>rfl))
  refine sj 24 zi.nd ?_ ?_;exact(Yo yw);refine zV ?_ ?_;exact(ZH PassesOwn.never rfl (xM rfl T.xj (bc aI z_) rfl) (an 13 zi.nd) (by
  refine sj 25 zi.nd ?_ ?_;exact(ax hkd (av 4) (bn aI (av 13)));refine zV ?_ ?_;exact(Uz (z:=true) (i:=26) (N:=["_law_a","_law_bits"]) (cap:=[none,some 25]) (S:=[0]) zi.nd rfl (by exact Or.inl rfl) (by exact Or.inr rfl) rfl rfl (Qg rfl T.xj (bc (av 10) z_) rfl) rfl (by change YJ _ xY _ (zd yV).names _=true;decide +kernel) (by decide) (λcl s H fp=>(an 0 Qe)) (λcl s H fp=>(Ep (tc hkd hr (bn (bn (av 1) (Bp Om aI (av 0))) aI) aI))) (λcl s H fp=>(av 0)) (λ_=>rfl));exact zT (XG (Y5 vQ RF PySem.F.slot_list_append PySem.F.type_list_append (pv 24) (bd (wJ (bd (ax hkd (av 18) (bn (av 13) (bn aI (bn (bn (av 25) aI) aI)))) (bd (av 26) yw))) yw) rfl rfl rfl rfl rfl) rfl)) (λ_=>rfl))
  refine sj 27 zi.nd ?_ ?_;exact(ax hkd (av 12) (ax hkd (Yo (bd aI (bd (av 8) yw))) (DQ WI T.Bm Bt.int (bc (ec hkd hr (av 5) aI) z_))));exact zT (wZ (wJ (bd (av 10) (bd (av 9) (bd (av 14) (bd (av 27) (bd (av 19) (bd (Li (av 24) M5 (MW (bn (ax hkd (av 4) aI) aI))) yw)))))))))
def WS(T:Txt K kd mg t)(hkd:Z0 P w K kd):Co "_law_copy" P w K mg base kd 1 t.UW t.U8 ["_law_algebra_here"] xG:=by
 refine WQ (N:=Ru) (k:=0) (c:=WC) T.Nj Q5 λ_ _ _ _ _ _ hr=>?_;have:=Q5.nd;conv=>arg 3;whnf
 trivial
def TX(T:Txt K kd mg t)(hkd:Z0 P w K kd):Co "_law_values" P w K mg base kd 2 t.Vk t.VQ ["_law_script","_law_start","_law_most","_law_size","_law_number"] Yq:=by
 refine WQ (N:=Vl) (k:=1) (c:=VO) T.Tv Wk λ_ _ _ _ _ _ hr=>?_;have:=Wk.nd;have:=Zi (base:=base) T hkd;have:=ZC (base:=base) T hkd;conv=>arg 3;whnf
 trivial
def NT(T:Txt K kd mg t)(hkd:Z0 P w K kd):Co "_law_bent" P w K mg base kd 2 t.RM t.U1 ["_law_algebra_here","_law_cell"] Yz:=by
 refine WQ (N:=Rh) (k:=1) (c:=RI) T.Nx yn λ_ _ _ _ _ _ hr=>?_;have:=yn.nd;have:=WS (base:=base) T hkd;have:=Zi (base:=base) T hkd;conv=>arg 3;whnf
 exact(by
  refine zV ?_ ?_;exact(Iu rfl (cq (WS T hkd) hr (bc (av 0) z_)) (Xz (Yc (i:=2) yn.nd rfl (by exact Or.inl rfl) (by exact Or.inr rfl)) (Xz (Yc (i:=3) yn.nd rfl (by exact Or.inl rfl) (by exact Or.inr rfl)) (Xz (Yc (i:=4) yn.nd rfl (by exact Or.inl rfl) (by exact Or.inr rfl)) (Xz (Yc (i:=5) yn.nd rfl (by exact Or.inl rfl) (by exact Or.inr rfl)) (Xz (Yc (i:=6) yn.nd rfl (by exact Or.inl rfl) (by exact Or.inr rfl)) (Xz (Yc (i:=7) yn.nd rfl (by exact Or.inl rfl) (by exact Or.inr rfl)) IL rfl) rfl) rfl) rfl) rfl) rfl) rfl rfl rfl rfl rfl);refine sj 8 yn.nd ?_ ?_;trivial;refine sj 9 yn.nd ?_ ?_;trivial;refine sj 10 yn.nd ?_ ?_;trivial;refine sj 11 yn.nd ?_ ?_;trivial;refine zV ?_ ?_;exact(Wx (AW.at_ (QS (tc hkd hr (bn (av 8) aI) aI) (Xx (tc hkd hr (av 6) (Yo yw))))) (zT (Uy (pv 4) (x9 (pv 9)) (λ_ _=>rfl) (x9 (pv 10)) (x9 (pv 11)) (λ_=>rfl) rfl rfl rfl)) (zT (Wx (tc hkd hr (bn (av 8) aI) aI) (zT (Ar (n:=1) (pv 6) (NM (LY (x9 (pv 8)) Nm) (SO rfl T.Kp Bt.len (pv 6) rfl rfl)) (λ_ _=>rfl) Qk (λ_ _=>rfl) (NM (LY (x9 (pv 8)) Nm) (x9 (pv 3))) (λ_ _=>rfl) (x9 (pv 9)) (x9 (pv 11)) (λ_=>rfl) rfl rfl rfl)) (zT (by refine sv true 5 yn.nd ?_;exact(av 11))))));exact zT (wZ (wJ (bd (av 2) (bd (av 3) (bd (Sm (pv 4)) (bd (av 5) (bd (Sm (pv 6)) (bd (av 7) yw)))))))))
def X0(T:Txt K kd mg t)(hkd:Z0 P w K kd):Co "_law_first_parting" P w K mg base kd 1 t.vo t.vq ["_law_n","_law_join"] xT:=by
 refine WQ (N:=vt) (k:=0) (c:=vp) T.XW wX λ_ _ _ _ _ _ hr=>?_;have:=wX.nd;conv=>arg 3;whnf
 trivial
def VI(T:Txt K kd mg t)(hkd:Z0 P w K kd):Co "_law_first_doing" P w K mg base kd 1 t.Ze t.Zm ["_law_n","_law_m","_law_join","_law_name","_law_rows"] xB:=by
 refine WQ (N:=Zh) (k:=0) (c:=Zy) T.VH v_ λ_ _ _ _ _ _ hr=>?_;have:=v_.nd;conv=>arg 3;whnf
 trivial
def Ew(T:Txt K kd mg t)(hkd:Z0 P w K kd):Co "_law_due" P w K mg base kd 2 t.Pr t.Td ["_law_algebra_here"] Qa:=by
 refine WQ (N:=PY) (k:=1) (c:=PD) T.EX RL λ_ _ _ _ _ _ hr=>?_;have:=RL.nd;have:=X0 (base:=base) T hkd;have:=VI (base:=base) T hkd;conv=>arg 3;whnf
 trivial
def Kg(T:Txt K kd mg t)(hkd:Z0 P w K kd):FnQ P w K mg base 1 t.Y1 t.YZ ["_law_e"] (Ft K kd wa):=by
 refine Jj (N:=QO) (k:=0) (c:=QE) T.QL GG λcdv A outer s H E hr=>?_;exact(by
  refine zV ?_ ?_;exact(Wx (AW.at_ (QS (vS (ZF (w:=.ref _) (cv:=.ref _) T.xq T.xi (λ_ z=>z) T.k1_NoDeed rfl T.yt Bt.isinstance (av 0) (Yh rfl T.SE) (Bt.n _ rfl) (by decide) rfl rfl rfl) (λ_=>rfl)) (QS (vS (ZF (w:=.ref _) (cv:=.ref _) T.xq T.xi (λ_ z=>z) T.k1_NoMake rfl T.yt Bt.isinstance (av 0) (Yh rfl T.FJ) (Bt.n _ rfl) (by decide) rfl rfl rfl) (λ_=>rfl)) (QS (vS (ZF (w:=.ref _) (cv:=.ref _) T.xq T.xi (λ_ z=>z) T.k1_NoRow rfl T.yt Bt.isinstance (av 0) (Yh rfl T.OU) (Bt.n _ rfl) (by decide) rfl rfl rfl) (λ_=>rfl)) (Xx (vS (ZF (w:=.ref _) (cv:=.ref _) T.xq T.xi (λ_ z=>z) T.k1_NoSign rfl T.yt Bt.isinstance (av 0) (Yh rfl T.SX) (Bt.n _ rfl) (by decide) rfl rfl rfl) (λ_=>rfl))))))) (zT (wZ aB)) Yg);refine zV ?_ ?_;exact(Wx (AW.at_ (QS (vS (ZF (w:=.ref _) (cv:=.ref _) T.xq T.xi (λ_ z=>z) T.k1_NoStretch rfl T.yt Bt.isinstance (av 0) (Yh rfl T.K3) (Bt.n _ rfl) (by decide) rfl rfl rfl) (λ_=>rfl)) (QS (vS (ZF (w:=.ref _) (cv:=.ref _) T.xq T.xi (λ_ z=>z) T.k1_NoText rfl T.yt Bt.isinstance (av 0) (Yh rfl T.B_) (Bt.n _ rfl) (by decide) rfl rfl rfl) (λ_=>rfl)) (QS (vS (ZF (w:=.ref _) (cv:=.ref _) T.xq T.xi (λ_ z=>z) T.k1_NoValue rfl T.yt Bt.isinstance (av 0) (Yh rfl T.Fh) (Bt.n _ rfl) (by decide) rfl rfl rfl) (λ_=>rfl)) (Xx (vS (ZF (w:=.ref _) (cv:=.ref _) T.xq T.xi (λ_ z=>z) T.k1_TooGreat rfl T.yt Bt.isinstance (av 0) (Yh rfl T.NU) (Bt.n _ rfl) (by decide) rfl rfl rfl) (λ_=>rfl))))))) (zT (wZ aB)) Yg);exact zT (wZ (BD (ZF (w:=.ref _) (cv:=.ref _) T.xq T.xi (λ_ z=>z) T.k1_NotLetBy rfl T.yt Bt.isinstance (av 0) (Yh rfl T.UT) (Bt.n _ rfl) (by decide) rfl rfl rfl) (FD (ZF (w:=.ty "ValueError") (cv:=.type "ValueError") T.xq T.xi (λ_ z=>z) T.k1_ValueError rfl T.yt Bt.isinstance (av 0) (MA (v:=.ty "ValueError") rfl T.TR PyProof.Rows.Boot.«ValueError» rfl (Bt.n _ rfl) (by decide)) (Bt.n _ rfl) (by decide) rfl rfl rfl)))))
def LS(T:Txt K kd mg t)(hkd:Z0 P w K kd):Co "_law_told" P w K mg base kd 7 t.RH t.Rk ["_law_algebra_here","_law_row","_law_way"] Z8:=by
 refine WQ (N:=U9) (k:=6) (c:=RB) T.Nv wY λcdv A outer s H E hr=>?_;exact(by
  refine sj 3 wY.nd ?_ ?_;exact(wJ (bd aS yw));refine zV ?_ ?_;exact(Am (j:=4) T.xq (zT (Wx (tc hkd hr (av 2) aI) (zT (XG (cq (Lc T hkd) hr (bc (av 0) (bc (av 1) z_))) rfl)) (zT (XG (cq (OC T hkd) hr (bc (av 0) (bc (av 1) (bc (ax hkd (ax hkd (ax hkd (av 0) aI) aI) aI) z_)))) rfl)))) (λ_ _=>(Xh (DW (tc hkd hr (av 2) aI) (Xh (GQ (Vq (KH T hkd) (hr.mono (by omega)) rfl T.wQ.m T.wQ.F.kp T.wQ.b rfl (bc (av 0) (bc (av 1) z_)) (by decide) rfl rfl) rfl)) (Xh (GQ (Vq (Ci T hkd) (hr.mono (by omega)) rfl T.WW.m T.WW.F.kp T.WW.b rfl (bc (av 0) (bc (av 1) (bc (ax hkd (ax hkd (ax hkd (av 0) aI) aI) aI) z_))) (by decide) rfl rfl) rfl))))) rfl T.Y4 (by decide) T.xm (λ_ _ z=>z) rfl rfl wY.nd rfl rfl (by first|exact Or.inl rfl|exact Or.inr rfl) λe=>(by
  refine sj 3 wY.nd ?_ ?_;exact(wJ (bd aS yw));exact zT (Wx (vS (FE (Kg T hkd) (AL (roomQ hr (by omega))) rfl T.wa T.QL.kp T.Ky (bc (av 4) z_) (by decide) rfl rfl) (λ_=>rfl)) (zT (by refine sv true 3 wY.nd ?_;exact(JI T.xq T.xi (av 4) rfl))) Yg)))
  exact zT (wZ (av 3)))
def Y7(T:Txt K kd mg t)(hkd:Z0 P w K kd):Co "_law_right" P w K mg base kd 8 t.Q6 t.QT ["_law_algebra_here","_law_row"] wb:=by
 refine WQ (N:=QG) (k:=7) (c:=QM) T.Kv W5 λ_ _ _ _ _ _ hr=>?_;have:=W5.nd;have:=Ew (base:=base) T hkd;have:=WS (base:=base) T hkd;have:=LS (base:=base) T hkd;have:=KC (base:=base) T hkd;conv=>arg 3;whnf
 trivial
def D7(T:Txt K kd mg t)(hkd:Z0 P w K kd):Co "law" P w K mg base kd 9 t.Ia t.Ih ["_law_script"] PX:=by
 refine WQ (N:=Cs) (k:=8) (c:=CQ) T.Dp WV λ_ _ _ _ _ _ hr=>?_;have:=WV.nd;have:=RU (base:=base) T hkd;have:=ZC (base:=base) T hkd;have:=TX (base:=base) T hkd;have:=Y7 (base:=base) T hkd;have:=NT (base:=base) T hkd;conv=>arg 3;whnf
 exact(by
  refine sj 1 WV.nd ?_ ?_;trivial;refine zV ?_ ?_;exact(Wx (J0 (n:=5) (Rm (hkd _ rfl rfl rfl) (P6 hr) .Eq) (pv 1) Qk (λ_ _=>rfl) (Yo yw) (LZ _)) (zT (Jn (n:=5) (pv 1) Qk (λ_ _=>rfl) (bd (CD (wJ (bd aS (bd (Yo (bd aI yw)) yw)))) yw) rfl rfl rfl rfl rfl rfl)) Yg);refine Tf ?_;refine sj 2 WV.nd ?_ ?_;trivial;refine zV ?_ ?_;trivial;refine sj 3 WV.nd ?_ ?_;trivial;refine zV ?_ ?_;exact(ZH PassesOwn.never rfl (xM rfl T.xj (bc (bn aI (bn (bn (cq (ZC T hkd) hr (bc (av 0) (bc aI z_))) aI) aI)) z_) rfl) (an 4 WV.nd) (by
  refine sj 3 WV.nd ?_ ?_;trivial;exact zT (Wx (Bd (vS (cq (Y7 T hkd) hr (bc (av 3) (bc (av 2) z_))) (λ_=>rfl))) (zT (wZ aB)) Yg)) (λ_=>rfl))
  exact zT (wZ (cq (Y7 T hkd) hr (bc (av 1) (bc (av 2) z_)))))
end
abbrev rR(K:zzA)(x:Str)(f:Addr):Prop:=W.nsIn K mainGlobals x=some (some (.ref f))
abbrev FnAt(K:zzA)(x q:Str)(s:Stmt)(f:Addr):Prop:=∃d,Fun K x q s f d
abbrev Fk(K:zzA)(x:Str)(s:Stmt)(f:Addr):Prop:=rR K x f/\FnAt K x x s f
def A1{l:PySem.W.OpenLaw}{w:World}{K:zzA}{h:Heap}{mg:Str->Option Value}{fa:Addr}(X:K.In h)(G:h.Ns mainGlobals mg)(hfa:mg "law"=some (.ref fa))
 {f0 f1 f2 f3 f4 f5 f6 f7 f8 f9 f10 f11 f12 f13 f14 f15 f16 f17 f18 f19 f20 f21 f22 f23 f24 f25 f26 f27 f28 f29 f30 f31 f32 f33 C0 C1 C2 C3 C4 C5 C6 C7 C8 C9:Addr}
 (aC0:W.nsIn K mainGlobals "NotLetBy"=some (some (.ref C0)))
 (aC1:W.nsIn K mainGlobals "NoDeed"=some (some (.ref C1)))
 (aC2:W.nsIn K mainGlobals "NoMake"=some (some (.ref C2)))
 (aC3:W.nsIn K mainGlobals "NoRow"=some (some (.ref C3)))
 (aC4:W.nsIn K mainGlobals "NoSign"=some (some (.ref C4)))
 (aC5:W.nsIn K mainGlobals "NoStretch"=some (some (.ref C5)))
 (aC6:W.nsIn K mainGlobals "NoText"=some (some (.ref C6)))
 (aC7:W.nsIn K mainGlobals "NoValue"=some (some (.ref C7)))
 (aC8:W.nsIn K mainGlobals "StretchError"=some (some (.ref C8)))
 (aC9:W.nsIn K mainGlobals "TooGreat"=some (some (.ref C9)))
 (xf:W.findIn K (.ref C0) "__init__"=some (some (.ref f5)))
 (xc:XC K C0 C8 f5 "what")
 (xs:XS K C8)
 (xi:XI K C0 "what")
 (xk:W.keepIn K (.ref C0)=true)
 (xm:W.exmOne K (.ref C0) (.ref C8)=some true)
 (k1_NoDeed:W.kitOne K (.ref C0) (.ref C1)=some false)
 (k1_NoMake:W.kitOne K (.ref C0) (.ref C2)=some false)
 (k1_NoRow:W.kitOne K (.ref C0) (.ref C3)=some false)
 (k1_NoSign:W.kitOne K (.ref C0) (.ref C4)=some false)
 (k1_NoStretch:W.kitOne K (.ref C0) (.ref C5)=some false)
 (k1_NoText:W.kitOne K (.ref C0) (.ref C6)=some false)
 (k1_NoValue:W.kitOne K (.ref C0) (.ref C7)=some false)
 (k1_NotLetBy:W.kitOne K (.ref C0) (.ref C0)=some true)
 (k1_TooGreat:W.kitOne K (.ref C0) (.ref C9)=some false)
 (k1_ValueError:W.kitOne K (.ref C0) (.type "ValueError")=some true)
 (a0:Fk K "nothing_fails" xZ f0)
 (a1:Fk K "parting_fails" x5 f1)
 (a2:Fk K "doing_fails" wK f2)
 (a3:Fk K "deeds_fail" vG f3)
 (a4:Fk K "what_fails" vC f4)
 (l5:FnAt K "__init__" "NotLetBy.__init__" y3 f5)
 (a6:Fk K "check_let_by" wq f6)
 (a7:Fk K "two_of" WY f7)
 (a8:Fk K "following" Zf f8)
 (a9:rR K "take_new" f9) (l9:FnAt K "take_new" "take_new" Z6 f9)
 (a10:Fk K "coming" Y8 f10)
 (a11:Fk K "comes" UC f11)
 (a12:Fk K "least_rows" vD f12)
 (a13:Fk K "least_row" Zs f13)
 (a14:Fk K "_law_cell_at" wO f14)
 (a15:Fk K "_law_mixed" Zl f15)
 (a16:Fk K "_law_words" Zn f16)
 (a17:Fk K "_law_common" vJ f17)
 (a18:Fk K "_law_joined_by" x3 f18)
 (a19:Fk K "_law_images" vA f19)
 (a20:Fk K "_law_done_by" wN f20)
 (a21:Fk K "_law_kinds" Zj f21)
 (a22:Fk K "_law_stream" vI f22)
 (a23:Fk K "_law_algebra" yV f23)
 (a24:Fk K "_law_copy" Yw f24)
 (a25:Fk K "_law_values" vN f25)
 (a26:Fk K "_law_bent" Yb f26)
 (a27:Fk K "_law_first_parting" y6 f27)
 (a28:Fk K "_law_first_doing" xD f28)
 (a29:Fk K "_law_due" XH f29)
 (a30:rR K "_law_alone" f30) (l30:FnAt K "_law_alone" "_law_alone" Zk f30)
 (a31:Fk K "_law_told" Yk f31)
 (a32:Fk K "_law_right" Zr f32)
 (a33:Fk K "law" Eh f33)
 (z0:W.nsIn K mainGlobals "ValueError"=some none) (z1:W.nsIn K mainGlobals "dict"=some none) (z2:W.nsIn K mainGlobals "enumerate"=some none) (z3:W.nsIn K mainGlobals "int"=some none) (z4:W.nsIn K mainGlobals "isinstance"=some none) (z5:W.nsIn K mainGlobals "len"=some none) (z6:W.nsIn K mainGlobals "list"=some none) (z7:W.nsIn K mainGlobals "max"=some none) (z8:W.nsIn K mainGlobals "range"=some none) (z9:W.nsIn K mainGlobals "set"=some none) (z10:W.nsIn K mainGlobals "sorted"=some none):
 ∃fd:FuncData,(∀(s:Shared) (v:Value),BindsTo s fd ⟨[v],[]⟩ [("_law_script",v)])/\∀base:Heap,K.In base->base.Ns mainGlobals mg->FnOk l.prog w K mg base U2 9 fa fd ["_law_script"] (tL K PX):=by
 have e:=hfa.symm.trans (W.mg_of X G a33.1);cases e;obtain⟨a0,_,F0⟩:=a0;obtain⟨a1,_,F1⟩:=a1;obtain⟨a2,_,F2⟩:=a2;obtain⟨a3,_,F3⟩:=a3;obtain⟨a4,_,F4⟩:=a4;obtain⟨_,F5⟩:=l5;obtain⟨a6,_,F6⟩:=a6;obtain⟨a7,_,F7⟩:=a7;obtain⟨a8,_,F8⟩:=a8;obtain⟨_,F9⟩:=l9;obtain⟨a10,_,F10⟩:=a10;obtain⟨a11,_,F11⟩:=a11;obtain⟨a12,_,F12⟩:=a12;obtain⟨a13,_,F13⟩:=a13;obtain⟨a14,_,F14⟩:=a14;obtain⟨a15,_,F15⟩:=a15;obtain⟨a16,_,F16⟩:=a16;obtain⟨a17,_,F17⟩:=a17;obtain⟨a18,_,F18⟩:=a18;obtain⟨a19,_,F19⟩:=a19;obtain⟨a20,_,F20⟩:=a20;obtain⟨a21,_,F21⟩:=a21;obtain⟨a22,_,F22⟩:=a22;obtain⟨a23,_,F23⟩:=a23;obtain⟨a24,_,F24⟩:=a24;obtain⟨a25,_,F25⟩:=a25;obtain⟨a26,_,F26⟩:=a26;obtain⟨a27,_,F27⟩:=a27;obtain⟨a28,_,F28⟩:=a28;obtain⟨a29,_,F29⟩:=a29;obtain⟨_,F30⟩:=l30;obtain⟨a31,_,F31⟩:=a31;obtain⟨a32,_,F32⟩:=a32;obtain⟨a33,_,F33⟩:=a33;obtain⟨_,_,_,_,_,_,_,_,_,rfl,_,_⟩:=F33.ex;let KL:List (Addr×List (Key×V)):=[];have hkd:Z0 l.prog w K (rU KL (HM mg)):=JC λp m=>by
  exact absurd (show p ∈ ([]:List (Addr×List (Key×V)))from m) zxC
 have T:Txt K (rU KL (HM mg)) mg ⟨_,_,_,_,_,_,_,_,_,_,_,_,_,_,_,_,_,_,_,_,_,_,_,_,_,_,_,_,_,_,_,_,_,_,_,_,_,_,_,_,_,_,_,_,_,_,_,_,_,_,_,_,_,_,_,_,_,_,_,_,_,_,_,_,_,_,_,_,_,_,_,_,_,_,_,_,_,_⟩:=⟨⟨F0,bs F0,W.mg_of X G a0⟩,⟨F1,bs F1,W.mg_of X G a1⟩,⟨F2,bs F2,W.mg_of X G a2⟩,⟨F3,bs F3,W.mg_of X G a3⟩,⟨F4,bs F4,W.mg_of X G a4⟩,F5,bs F5,⟨F6,bs F6,W.mg_of X G a6⟩,⟨F7,bs F7,W.mg_of X G a7⟩,⟨F8,bs F8,W.mg_of X G a8⟩,F9,bs F9,W.mg_of X G a9,⟨F10,bs F10,W.mg_of X G a10⟩,⟨F11,bs F11,W.mg_of X G a11⟩,⟨F12,bs F12,W.mg_of X G a12⟩,⟨F13,bs F13,W.mg_of X G a13⟩,⟨F14,bs F14,W.mg_of X G a14⟩,⟨F15,bs F15,W.mg_of X G a15⟩,⟨F16,bs F16,W.mg_of X G a16⟩,⟨F17,bs F17,W.mg_of X G a17⟩,⟨F18,bs F18,W.mg_of X G a18⟩,⟨F19,bs F19,W.mg_of X G a19⟩,⟨F20,bs F20,W.mg_of X G a20⟩,⟨F21,bs F21,W.mg_of X G a21⟩,⟨F22,bs F22,W.mg_of X G a22⟩,⟨F23,bs F23,W.mg_of X G a23⟩,⟨F24,bs F24,W.mg_of X G a24⟩,⟨F25,bs F25,W.mg_of X G a25⟩,⟨F26,bs F26,W.mg_of X G a26⟩,⟨F27,bs F27,W.mg_of X G a27⟩,⟨F28,bs F28,W.mg_of X G a28⟩,⟨F29,bs F29,W.mg_of X G a29⟩,F30,bs F30,W.mg_of X G a30,⟨F31,bs F31,W.mg_of X G a31⟩,⟨F32,bs F32,W.mg_of X G a32⟩,⟨F33,bs F33,W.mg_of X G a33⟩,W.mg_none_of X G z0,W.mg_none_of X G z1,W.mg_none_of X G z2,W.mg_none_of X G z3,W.mg_none_of X G z4,W.mg_none_of X G z5,W.mg_none_of X G z6,W.mg_none_of X G z7,W.mg_none_of X G z8,W.mg_none_of X G z9,W.mg_none_of X G z10,W.mg_of X G aC0,W.mg_of X G aC1,W.mg_of X G aC2,W.mg_of X G aC3,W.mg_of X G aC4,W.mg_of X G aC5,W.mg_of X G aC6,W.mg_of X G aC7,W.mg_of X G aC8,W.mg_of X G aC9,Ot (W.mg_of X G aC0),xf,xc,xs,xi,xk,xm,k1_NoDeed,k1_NoMake,k1_NoRow,k1_NoSign,k1_NoStretch,k1_NoText,k1_NoValue,k1_NotLetBy,k1_TooGreat,k1_ValueError⟩;exact⟨_,λs v=>.of_eq rfl,λbase _ _=>(D7 T hkd).F.imp λvs H Q E h=>h _⟩
def walk{l:PySem.W.OpenLaw}{q:Program}{loose:List Str}{XP:(Str->Option Value)->Heap->Prop}{YP:World->Heap->Prop}{d:DefRec}{K:Params->zzA}(hn:l.most=some 63)(hdf:d.params.defaults=[])
 (hY:∀(w:World) (h:Heap),YP w h->(K w.params).In h) (hm:∀ns:List Int,ns.length<=63->PX [(true,.lst (ns.map D.int))]=some (.lf true (.bl true)))
 (F:∀(w:World) (mg:Str->Option Value) (fa:Addr) (h:Heap),(K w.params).In h->h.Ns mainGlobals mg->mg d.name=some (.ref fa)->
  ∃fd:FuncData,(∀(s:Shared) (u:Value),BindsTo s fd ⟨[u],[]⟩ [("_law_script",u)])/\∀base:Heap,(K w.params).In base->base.Ns mainGlobals mg->FnOk l.prog w (K w.params) mg base U2 9 fa fd ["_law_script"] (tL (K w.params) PX)):
 PySem.W.WalkO q loose XP YP l.row.toRowW d [] (λf vs=>PySem.call f vs):=
 L2.walk_of (n:=63) (k:=9) (x:="_law_script") (CX:=λ_=>U2) (sp:=λw=>tL (K w.params) PX) hn (by decide) hdf ⟨rfl,by decide,by decide,rfl⟩ hY F (λ_ _ a ns hl _ hS kd=>ID (hm ns hl) hS) λ_ _ _ _ _ z=>z
local macro_rules | `(tactic| trivial)=>`(tactic| first|with_reducible first|assumption|exact Int.natCast_nonneg _|exact Nat.le_refl _|exact Int.le_refl _|exact rfl|exact GW (by assumption)|exact GZ (by assumption)|exact np2 (by assumption)|exact nq1 (by assumption)|exact nq2 (by assumption)|exact Int.natCast_pos.mpr (by assumption)|exact Nat.le_trans (by assumption) (by decide)|exact bgL _|exact bgU (by assumption)|exact mU (by assumption)|exact zI _|exact bL0 (by assumption)|exact bU0 (by assumption) (by assumption)|exact iL (by assumption)|exact iU (by assumption) (by assumption)|exact iC (by assumption)|exact iT (by assumption)|exact stL (by assumption)|exact stU (by assumption)|exact lnK (by assumption) (by assumption) (by assumption)|exact zi1 _|exact lnE (by assumption)|exact ltL (by assumption)|exact Int.toNat_of_nonneg (by assumption)|exact tS (by assumption) (by assumption)|exact b6 (by assumption)|exact Int.emod_nonneg _ (by decide)|exact Int.emod_lt_of_pos _ (by decide)|decide|omega)
abbrev FT:=Option (List D)
noncomputable def oD:FT->D
 |none=>.non
 |some ds=>.tup ds
def fs(n:Nat)(t:Int->FT):FT:=(List.range n).findSome? λi:Nat=>t (i:Int)
abbrev R4(r:Option Out)(I:AS->Prop)(t:FT):Prop:=(t=none/\∃as',r=some (.nx as')/\I as')\/∃ds,t=some ds/\Rt r (.tup ds)
def HG{g:GF}{f:SF}{d:Yt}{r:List Yt}{as as1:AS}{x:D}(h1:g d as=some as1)(h2:Rt (f as1) x):Rt (forL g f (d::r) as) x:=by
 obtain⟨o,e1,e2⟩:=h2;exact⟨o,Rw h1 e1,e2⟩
theorem t9{α:Type}{g:GF}{f:SF}{it:α->Yt}(I:AS->Prop)(t:α->FT):∀(l:List α),(∀x ∈ l,∀as,I as->∃as1,g (it x) as=some as1/\R4 (f as1) I (t x))->∀as,I as->R4 (forL g f (l.map it) as) I (l.findSome? t)
 | [],_,as,h=>.inl ⟨rfl,as,rfl,h⟩
 |x::l,H,as,h=>by
  obtain⟨as1,h1,h2⟩:=H x zzF as h
  rcases h2 with⟨e,as2,h2,h3⟩|⟨ds,e,h2⟩
  . have k:=t9 I t l (λy my=>H y (zzD _ my)) as2 h3;rw[List.findSome?_cons,e]
    rcases k with⟨e',as3,k1,k2⟩|⟨ds,e',o,k1,k2⟩
    . exact .inl ⟨e',as3,Xs h1 h2 k1,k2⟩
    . exact .inr ⟨ds,e',o,Xs h1 h2 k1,k2⟩
  . rw[List.findSome?_cons,e];exact .inr ⟨ds,rfl,HG h1 h2⟩
def YO{v n:Nat}{f:SF}(I:AS->Prop)(t:Int->FT)(H:∀b,zH n b->∀as,I as->∃as1,gN v (true,.int b) as=some as1/\R4 (f as1) I (t b)){as:AS}(h:I as):R4 (forL (gN v) f (yT 0 n) as) I (fs n t):=by
 refine t9 I (λi:Nat=>t i) (List.range n) (λi mi as hI=>?_) as h;have:=List.mem_range.mp mi;rw[Int.zero_add];exact H i ⟨by omega,by omega⟩ as hI
def Bb{c:TF}{f:EF}{as:AS}{q:Bool}{ds:List D}{I:AS->Prop}(ht:WT c as q)(hf:WE f as (.tup ds))(hI:I as):R4 (xr c (zY f) wc as) I (if q=true then some ds else none):=by
 cases q with
 |true=>exact .inr ⟨ds,rfl,U3 ht (yU hf)⟩
 |false=>exact .inl ⟨rfl,as,yc ht rfl,hI⟩
def R4.seq{f g:SF}{as as1:AS}{I:AS->Prop}{t:FT}(h:f as=some (.nx as1))(k:R4 (g as1) I t):R4 (zg f g as) I t:=by
 rcases k with⟨e,a,b,c⟩|⟨ds,e,b⟩
 . exact .inl ⟨e,a,zC h b,c⟩
 . exact .inr ⟨ds,e,zq h b⟩
theorem R4.imp{r:Option Out}{I I':AS->Prop}{t:FT}(h:R4 r I t)(k:∀as,I as->I' as):R4 r I' t:=Or.imp (λ⟨e,a,b,c⟩=>⟨e,a,b,k a c⟩) id h
def R4.rt{f g:SF}{as:AS}{I:AS->Prop}{t t':FT}(h:R4 (f as) I t)(k:∀as',I as'->Rt (g as') (oD t')):Rt (zg f g as) (oD (t.or t')):=by
 rcases h with⟨rfl,as',h1,h2⟩|⟨ds,rfl,h1⟩
 . exact zq h1 (k as' h2)
 . exact Vo h1
def or_none{t:FT}:t.or none=t:=by cases t<;>rfl
def Zo{n:Nat}{t:Int->FT}{ds:List D}(h:fs n t=some ds):∃b,t b=some ds:=by
 obtain⟨i,_,hi⟩:=List.exists_of_findSome?_eq_some h;exact⟨i,hi⟩
section
variable{S:Option O->Option O->Option O->AS}{vj vn ve:Nat}{J T:TZ}{n m:Nat}{e:Int}{Ds:DD}{SS':SS}
def tU(n:Nat)(J:TZ)(e:Int):FT:=fs n λa=>if(!(yW J e a==a) || !(yW J a e==a))=true then some [.str "nothing",.int a]else none
def tA(n:Nat)(J:TZ):FT:=fs n λa=>fs n λb=>fs n λc=>if(!(yW J (yW J a b) c==yW J a (yW J b c)))=true then some [.str "parting",.int a,.int b,.int c]else none
def tD(n m:Nat)(J T:TZ)(s:Str):FT:=fs n λa=>fs m λi=>fs n λb=>fs m λk=>if(!(yW T ((i+k)%m) (yW J a b)==yW J (yW T i a) (yW T k b)))=true then some [.str "doing",.str s,.int a,.int i,.int b,.int k]else none
def qB{va:Nat}{x y z:Option O}(hJ:Tab n n J)(he:zH n e)(hj:∀x y z,(S x y z)[vj]? = some (sT (zU J)))(hv:∀x y z,(S x y z)[ve]? = some (sI e))(h3:∀x y z,(S x y z)[va]? = some x)(g3:∀d x y z,gN va (true,d) (S x y z)=some (S (sT d) y z)):
 R4 (forL (gN va) (xr (Xl (fT (f2 (f2 (f2 (fV vj) (fV ve) zy) (fV va) zy) (fV va) (zB .NotEq))) (fT (f2 (f2 (f2 (fV vj) (fV va) zy) (fV ve) zy) (fV va) (zB .NotEq)))) (zY (yf (dC (fC (.str "nothing")) (dC (fV va) dN)))) wc) (yT 0 n) (S x y z)) (λas=>∃x,as=S x y z) (tU n J e):=by
 refine YO (λas=>∃x,as=S x y z) _ (λa ha as hI=>?_) ⟨x,rfl⟩;obtain⟨x,rfl⟩:=hI;have w3:WD (fV va) (S (sI a) y z) true (.int a):=za (h3 _ _ _);have t1:=Ng (Zb hJ he ha (za (hj (sI a) y z)) (za (hv (sI a) y z)) w3) w3;have t2:=Ng (Zb hJ ha he (za (hj (sI a) y z)) w3 (za (hv (sI a) y z))) w3;exact⟨S (sI a) y z,g3 _ _ _ _,Bb (Pk t1 (λh=>by rw[h,Bool.false_or];exact t2) (λh=>by rw[h];rfl)) (R_ (zw zb (zw w3 zR)) (YQ rfl) rfl rfl) ⟨_,rfl⟩⟩
abbrev tR(vj va vb vc:Nat):SF:=xr (fT (f2 (f2 (f2 (fV vj) (f2 (f2 (fV vj) (fV va) zy) (fV vb) zy) zy) (fV vc) zy) (f2 (f2 (fV vj) (fV va) zy) (f2 (f2 (fV vj) (fV vb) zy) (fV vc) zy) zy) (zB .NotEq))) (zY (yf (dC (fC (.str "parting")) (dC (fV va) (dC (fV vb) (dC (fV vc) dN)))))) wc
abbrev Dm(vj vn va vb vc:Nat):SF:=yo (ye (aC (fV vn) aN) yj) (gN vb) (yo (ye (aC (fV vn) aN) yj) (gN vc) (tR vj va vb vc))
def qj{va vb vc:Nat}{x y z:Option O}(n8:n<=8)(hJ:Tab n n J)(hj:∀x y z,(S x y z)[vj]? = some (sT (zU J)))(hn:∀x y z,(S x y z)[vn]? = some (sI n))(h3:∀x y z,(S x y z)[va]? = some x)(h4:∀x y z,(S x y z)[vb]? = some y)(h5:∀x y z,(S x y z)[vc]? = some z)
 (g3:∀d x y z,gN va (true,d) (S x y z)=some (S (sT d) y z)) (g4:∀d x y z,gN vb (true,d) (S x y z)=some (S x (sT d) z)) (g5:∀d x y z,gN vc (true,d) (S x y z)=some (S x y (sT d))):
 R4 (forL (gN va) (Dm vj vn va vb vc) (yT 0 n) (S x y z)) (λas=>∃x y z,as=S x y z) (tA n J):=by
 refine YO (λas=>∃x y z,as=S x y z) _ (λa ha as hI=>?_) ⟨x,y,z,rfl⟩;obtain⟨x,y,z,rfl⟩:=hI;refine⟨_,g3 _ _ _ _, ?_⟩;unfold Dm;rw[yY (hn _ _ _) (by trivial)];refine(YO (λas=>∃y z,as=S (sI a) y z) _ (λb hb as hI=>?_) ⟨y,z,rfl⟩).imp λas ⟨y,z,e⟩=>⟨_,y,z,e⟩;obtain⟨y,z,rfl⟩:=hI;refine⟨_,g4 _ _ _ _, ?_⟩;rw[yY (hn _ _ _) (by trivial)];refine(YO (λas=>∃z,as=S (sI a) (sI b) z) _ (λc hc as hI=>?_) ⟨z,rfl⟩).imp λas ⟨z,e⟩=>⟨_,z,e⟩;obtain⟨z,rfl⟩:=hI;have w3:WD (fV va) (S (sI a) (sI b) (sI c)) true (.int a):=za (h3 _ _ _);have w4:WD (fV vb) (S (sI a) (sI b) (sI c)) true (.int b):=za (h4 _ _ _);have w5:WD (fV vc) (S (sI a) (sI b) (sI c)) true (.int c):=za (h5 _ _ _);have wj:WD (fV vj) (S (sI a) (sI b) (sI c)) true (zU J):=za (hj _ _ _);have ab:=RA hJ ha hb;have bc:=RA hJ hb hc;exact⟨_,g5 _ _ _ _,Bb (Ng (Zb hJ ab hc wj (Zb hJ ha hb wj w3 w4) w5) (Zb hJ ha bc wj w3 (Zb hJ hb hc wj w4 w5))) (R_ (zw zb (zw w3 (zw w4 (zw w5 zR)))) (YQ rfl) rfl rfl) ⟨_,rfl⟩⟩
end
section
variable{n m:Nat}{J T:TZ}{e:Int}{Ds:DD}{S:SS}
def LL(n8:n<=8)(hJ:Tab n n J)(he:zH n e):RE (vk [(true,zj n m J e Ds S)]) (oD (tU n J e)):=by
 have s1:zo true 1 (f2 zu yR zy) [sT (zj n m J e Ds S),none,none,none]=some (.nx [sT (zj n m J e Ds S),sT (zU J),none,none]):=zS (yM (za rfl) zb rfl) (zh rfl);have s2:zo true 2 (f2 zu vg zy) [sT (zj n m J e Ds S),sT (zU J),none,none]=some (.nx [sT (zj n m J e Ds S),sT (zU J),sI e,none]):=zS (yM (za rfl) zb rfl) (zh rfl);have k:=qB (S:=λx _ _=>[sT (zj n m J e Ds S),sT (zU J),sI e,x]) (x:=none) (y:=none) (z:=none) (va:=3) (vj:=1) (ve:=2) hJ he (λ_ _ _=>rfl) (λ_ _ _=>rfl) (λ_ _ _=>rfl) (λ_ _ _ _=>rfl);have hr:=yX (as:=[sT (zj n m J e Ds S),sT (zU J),sI e,none]) (zf (yM (g:=zy) (za (i:=0) rfl) (zb (x:=.int 0)) rfl) zz) (by trivial) (by trivial);rw[zyI]at hr;refine y7 rfl (zq s1 (zq s2 ?_));rw[<-or_none (t:=tU n J e)];refine R4.rt (I:=λas=>∃x,as=[sT (zj n m J e Ds S),sT (zU J),sI e,x]) ?_ λ_ _=>yU (WD.e zb);rw[yQ hr rfl];exact k
def Nw(n8:n<=8)(hJ:Tab n n J):RE (vd [(true,zj n m J e Ds S)]) (oD (tA n J)):=by
 have s1:zo true 1 (f2 zu yh zy) [sT (zj n m J e Ds S),none,none,none,none,none]=some (.nx [sT (zj n m J e Ds S),sI n,none,none,none,none]):=zS (yM (za rfl) zb rfl) (zh rfl);have s2:zo true 2 (f2 zu yR zy) [sT (zj n m J e Ds S),sI n,none,none,none,none]=some (.nx [sT (zj n m J e Ds S),sI n,sT (zU J),none,none,none]):=zS (yM (za rfl) zb rfl) (zh rfl);have k:=qj (S:=λx y z=>[sT (zj n m J e Ds S),sI n,sT (zU J),x,y,z]) (x:=none) (y:=none) (z:=none) (va:=3) (vb:=4) (vc:=5) (vj:=2) (vn:=1) n8 hJ (λ_ _ _=>rfl) (λ_ _ _=>rfl) (λ_ _ _=>rfl) (λ_ _ _=>rfl) (λ_ _ _=>rfl) (λ_ _ _ _=>rfl) (λ_ _ _ _=>rfl) (λ_ _ _ _=>rfl);rw[<-yY (v:=1) rfl (by trivial)]at k;refine y7 rfl (zq s1 (zq s2 ?_));rw[<-or_none (t:=tA n J)];exact k.rt λ_ _=>yU (WD.e zb)
end
section
variable{n m:Nat}{J T:TZ}{e:Int}{Ds:DD}{S:SS}
abbrev qz:SF:=(xr (fT (f2 (f2 (f2 zJ (f2 (f2 wU (fV 9) zD) zM zm) zy) (f2 (f2 yA xa zy) (fV 8) zy) zy) (f2 (f2 yA (f2 (f2 zJ wU zy) xa zy) zy) (f2 (f2 zJ (fV 9) zy) (fV 8) zy) zy) (zB .NotEq))) (zY (yf (dC (fC (.str "doing")) (dC zG (dC xa (dC wU (dC (fV 8) (dC (fV 9) dN)))))))) wc)
abbrev GV(n m:Nat)(J T:TZ)(e:Int)(Ds:DD)(S:SS)(s:Str)(x y z w:Option O):AS:=[sT (zj n m J e Ds S),sT (.str s),sT (zU T),sI n,sI m,sT (zU J),x,y,z,w]
def qP{s:Str}{a i b k:Int}(hJ:Tab n n J)(hT:Tab m n T)(m1:1<=m)(ha:zH n a)(hi:zH m i)(hb:zH n b)(hk:zH m k):R4 (qz (GV n m J T e Ds S s (sI a) (sI i) (sI b) (sI k))) (λas=>∃w,as=GV n m J T e Ds S s (sI a) (sI i) (sI b) w) (if(!(yW T ((i+k)%m) (yW J a b)==yW J (yW T i a) (yW T k b)))=true then some [.str "doing",.str s,.int a,.int i,.int b,.int k]else none):=by
 have w2:WD zJ (GV n m J T e Ds S s (sI a) (sI i) (sI b) (sI k)) true (zU T):=za rfl;have w5:WD yA (GV n m J T e Ds S s (sI a) (sI i) (sI b) (sI k)) true (zU J):=za rfl;have w6:WD xa (GV n m J T e Ds S s (sI a) (sI i) (sI b) (sI k)) true (.int a):=za rfl;have w7:WD wU (GV n m J T e Ds S s (sI a) (sI i) (sI b) (sI k)) true (.int i):=za rfl;have w8:WD (fV 8) (GV n m J T e Ds S s (sI a) (sI i) (sI b) (sI k)) true (.int b):=za rfl;have w9:WD (fV 9) (GV n m J T e Ds S s (sI a) (sI i) (sI b) (sI k)) true (.int k):=za rfl;obtain⟨q1,q2⟩:=v8 hT hi ha w2 w7 w6;obtain⟨q3,q4⟩:=v8 hT hk hb w2 w9 w8;obtain⟨q5,q6⟩:=v8 hT (X1 m1) (RA hJ ha hb) w2 (zP (yg w7 w9) (za (i:=4) rfl) (by trivial)) (Zb hJ ha hb w5 w6 w8);exact Bb (Ng q5 (Zb hJ q2 q4 w5 q1 q3)) (R_ (zw zb (zw (za rfl) (zw w6 (zw w7 (zw w8 (zw w9 zR)))))) (YQ rfl) rfl rfl) ⟨_,rfl⟩
def Bj{s:Str}(n8:n<=8)(m1:1<=m)(m6:m<=6)(hJ:Tab n n J)(hT:Tab m n T):RE (wM [(true,zj n m J e Ds S),(true,.str s),(true,zU T)]) (oD (tD n m J T s)):=by
 have k:R4 (forL (gN 6) (yo (ye (aC zM aN) yj) (gN 7) (yo (ye V3 yj) (gN 8) (yo (ye (aC zM aN) yj) (gN 9) qz))) (yT 0 n) (GV n m J T e Ds S s none none none none)) (λas=>∃x y z w,as=GV n m J T e Ds S s x y z w) (tD n m J T s):=by
  refine YO (λas=>∃x y z w,as=GV n m J T e Ds S s x y z w) _ (λa ha as hI=>?_) ⟨_,_,_,_,rfl⟩;obtain⟨x,y,z,w,rfl⟩:=hI;refine⟨GV n m J T e Ds S s (sI a) y z w,rfl, ?_⟩;rw[yY rfl (by trivial)];refine(YO (λas=>∃y z w,as=GV n m J T e Ds S s (sI a) y z w) _ (λi hi as hI=>?_) ⟨_,_,_,rfl⟩).imp λas ⟨y,z,w,e⟩=>⟨_,y,z,w,e⟩;obtain⟨y,z,w,rfl⟩:=hI;refine⟨GV n m J T e Ds S s (sI a) (sI i) z w,rfl, ?_⟩;rw[yY rfl (by trivial)];refine(YO (λas=>∃z w,as=GV n m J T e Ds S s (sI a) (sI i) z w) _ (λb hb as hI=>?_) ⟨_,_,rfl⟩).imp λas ⟨z,w,e⟩=>⟨_,z,w,e⟩;obtain⟨z,w,rfl⟩:=hI;refine⟨GV n m J T e Ds S s (sI a) (sI i) (sI b) w,rfl, ?_⟩;rw[yY rfl (by trivial)];refine(YO (λas=>∃w,as=GV n m J T e Ds S s (sI a) (sI i) (sI b) w) _ (λk hk as hI=>?_) ⟨_,rfl⟩).imp λas ⟨w,e⟩=>⟨_,w,e⟩;obtain⟨w,rfl⟩:=hI;exact⟨_,rfl,qP hJ hT m1 ha hi hb hk⟩
 rw[<-yY (v:=3) rfl (by trivial)]at k;have s3:zo true 3 (f2 zu yh zy) [sT (zj n m J e Ds S),sT (.str s),sT (zU T),none,none,none,none,none,none,none]=some (.nx [sT (zj n m J e Ds S),sT (.str s),sT (zU T),sI n,none,none,none,none,none,none]):=zS (yM (za rfl) zb rfl) (zh rfl);have s4:zo true 4 (f2 zu yp zy) [sT (zj n m J e Ds S),sT (.str s),sT (zU T),sI n,none,none,none,none,none,none]=some (.nx [sT (zj n m J e Ds S),sT (.str s),sT (zU T),sI n,sI m,none,none,none,none,none]):=zS (yM (za rfl) zb rfl) (zh rfl);have s5:zo true 5 (f2 zu yR zy) [sT (zj n m J e Ds S),sT (.str s),sT (zU T),sI n,sI m,none,none,none,none,none]=some (.nx (GV n m J T e Ds S s none none none none)):=zS (yM (za rfl) zb rfl) (zh rfl);refine y7 rfl (zq s3 (zq s4 (zq s5 ?_)));rw[<-or_none (t:=tD n m J T s)];exact k.rt λ_ _=>yU (WD.e zb)
end
section
variable{n m:Nat}{J T:TZ}{e:Int}{Ds:DD}{S:SS}
def R4.thn{f g:SF}{as:AS}{I I':AS->Prop}{t t':FT}(h:R4 (f as) I t)(k:∀as',I as'->R4 (g as') I' t'):R4 (zg f g as) I' (t.or t'):=by
 rcases h with⟨rfl,as',h1,h2⟩|⟨ds,rfl,h1⟩
 . rcases k as' h2 with⟨e,a,b,c⟩|⟨ds,e,b⟩
   . exact .inl ⟨e,a,zC h1 b,c⟩
   . exact .inr ⟨ds,e,zq h1 b⟩
 . exact .inr ⟨ds,rfl,Vo h1⟩
noncomputable def tE(n m:Nat)(J:TZ)(e:Int)(p:Str×TZ):FT:=(if(!(yW p.2 0 e==e))=true then some [.str "empty",.str p.1]else none).or (tD n m J p.2 p.1)
noncomputable def tW(n m:Nat)(J:TZ)(e:Int)(Ds:DD):FT:=((tU n J e).or (tA n J)).or (Ds.findSome? (tE n m J e))
def Ja{t:FT}:zB .Is (oD t) .non=some (.im (.bl t.isNone)):=by cases t<;>rfl
def Cj{t:FT}:zB .IsNot (oD t) .non=some (.im (.bl t.isSome)):=by cases t<;>rfl
def rz{as:AS}{i:Nat}{t:FT}(h:as[i]? = some (sT (oD t))):WT (fT (f2 (fV i) (fC .non) (zB .Is))) as t.isNone:=yI (ym (za h) (zb) Ja rfl) rfl
def Iw{as:AS}{i:Nat}{t:FT}(h:as[i]? = some (sT (oD t))):WT (fT (f2 (fV i) (fC .non) (zB .IsNot))) as t.isSome:=yI (ym (za h) (zb) Cj rfl) rfl
def Sn(A:Alg n m J e Ds):RE (Yn [(true,zj n m J e Ds S)]) (oD (Ds.findSome? (tE n m J e))):=by
 have n8:=A.n8;have m1:=A.m1;have s1:zo true 1 (f2 zu vg zy) [sT (zj n m J e Ds S),none,none,none,none]=some (.nx [sT (zj n m J e Ds S),sI e,none,none,none]):=zS (yM (za rfl) zb rfl) (zh rfl);have k:=t9 (g:=gT 2 (wI (gN 2) (wI (gN 3) RP))) (f:=(zg (xr (fT (f2 (f2 (f2 zL yh zy) zG zy) zG (zB .NotEq))) (zY (yf (dC (fC (.str "empty")) (dC zJ dN)))) wc)
  (zg (zo true 4 (zt (aC zu (aC zJ V3)) wM))
  (xr (fT (f2 zM (fC .non) (zB .IsNot))) (zY zM) wc)))) (it:=λp:Str×TZ=>(true,x_ p)) (λas=>∃(x y z:Option O),as=[sT (zj n m J e Ds S),sI e,x,y,z]) (tE n m J e) Ds (λp mp as hI=>by
   obtain⟨x,y,z,rfl⟩:=hI;have hT:=A.ds p mp;obtain⟨q1,_⟩:=v8 (as:=[sT (zj n m J e Ds S),sI e,sT (.str p.1),sT (zU p.2),z]) hT ⟨by trivial,by trivial⟩ ⟨A.e0,A.en⟩ (za (i:=3) rfl) (zb) (za (i:=1) rfl);have t1:=Ng q1 (za (i:=1) rfl);refine⟨_,rfl, ?_⟩;refine(Bb t1 (R_ (zw zb (zw (za rfl) zR)) (YQ rfl) rfl rfl) rfl).thn λas' hI=>?_;subst hI;refine R4.seq (xU (Qi (WD.e (za rfl)) (WD.e (za rfl)) (WD.e (za rfl)) (Bj n8 m1 A.m6 A.j hT)) (zh rfl)) ?_;have tt:=Iw (as:=[sT (zj n m J e Ds S),sI e,sT (.str p.1),sT (zU p.2),sT (oD (tD n m J p.2 p.1))]) (i:=4) rfl;generalize tD n m J p.2 p.1=t at tt;cases t with
   |none=>exact .inl ⟨rfl,_,yc tt rfl,_,_,_,rfl⟩
   |some ds=>exact .inr ⟨ds,rfl,U3 tt (yU (WD.e (za rfl)))⟩) [sT (zj n m J e Ds S),sI e,none,none,none] ⟨_,_,_,rfl⟩
 refine y7 rfl (zq s1 ?_);rw[<-or_none (t:=Ds.findSome? (tE n m J e))];refine R4.rt (I:=λas=>∃(x y z:Option O),as=[sT (zj n m J e Ds S),sI e,x,y,z]) ?_ λ_ _=>yU (WD.e zb);have hi:=M3 (as:=[sT (zj n m J e Ds S),sI e,none,none,none]) (f:=f2 zu wF zy) (yM (za rfl) zb rfl);rw[zyB]at hi;rw[yQ hi rfl];exact k
def GK(A:Alg n m J e Ds):RE (vE [(true,zj n m J e Ds S)]) (oD (tW n m J e Ds)):=by
 have r1:=LL (m:=m) (Ds:=Ds) (S:=S) A.n8 A.j ⟨A.e0,A.en⟩;have r2:=Nw (m:=m) (e:=e) (Ds:=Ds) (S:=S) A.n8 A.j;have r3:=Sn (S:=S) A;have s1:=xU (as:=yk 2 [(true,zj n m J e Ds S)]) (p:=1) (Z5 (WD.e (za (i:=0) rfl)) r1) (zh rfl);have st:∀(t t':FT) g,RE (g [(true,zj n m J e Ds S)]) (oD t')->xr (fT (f2 zG (fC .non) (zB .Is))) (zo true 1 (zt wC g)) wc [sT (zj n m J e Ds S),sT (oD t)]=some (.nx [sT (zj n m J e Ds S),sT (oD (t.or t'))]):=λt t' g hg=>by
  have tt:=rz (as:=[sT (zj n m J e Ds S),sT (oD t)]) (i:=1) rfl;cases t with
  |none=>exact yL tt (xU (Z5 (WD.e (za rfl)) hg) (zh rfl))
  |some ds=>exact yc tt rfl
 exact y7 rfl (zq s1 (zq (st _ _ _ r2) (zq (st _ _ _ r3) (yU (WD.e (za rfl))))))
end
section
variable{n m:Nat}{J T:TZ}{e:Int}{Ds:DD}{S:SS}
abbrev Pt(d:D):Prop:=(∃s,d = .str s)\/∃i,d = .int i
def Gd(ds:List D):Prop:=(∃s r,ds = .str s::r)/\(∀d ∈ ds,Pt d)/\ds.length<=10
def ti{q:Bool}{xs ds:List D}(h:(if q=true then some xs else none)=some ds)(g:Gd xs):Gd ds:=by
 cases q with
 |true=>cases h;exact g
 |false=>cases h
def Up{s:Str}{r:List D}(hl:r.length<=9)(h:∀d ∈ r,Pt d):Gd (.str s::r):=⟨⟨s,r,rfl⟩,λd md=>(zzC.mp md).elim (λz=>.inl ⟨s,z⟩) (h d),Nat.succ_le_succ hl⟩
def Gi:∀d ∈ ([]:List D),Pt d:=λ_ z=>nomatch z
def YV{i:Int}{r:List D}(h:∀d ∈ r,Pt d):∀d ∈ D.int i::r,Pt d:=λd md=>(zzC.mp md).elim (λz=>.inr ⟨i,z⟩) (h d)
def By{s:Str}{r:List D}(h:∀d ∈ r,Pt d):∀d ∈ D.str s::r,Pt d:=λd md=>(zzC.mp md).elim (λz=>.inl ⟨s,z⟩) (h d)
def XM{t t':FT}{ds:List D}(h:t.or t'=some ds):t=some ds\/t'=some ds:=by
 cases t with
 |none=>exact .inr h
 |some x=>exact .inl h
def tM{ds:List D}(h:tW n m J e Ds=some ds):Gd ds:=by
 rcases XM h with h|h
 . rcases XM h with h|h
   . obtain⟨b,h⟩:=Zo h;exact ti h (Up (Nat.le_of_ble_eq_true rfl) (YV Gi))
   . obtain⟨a,h⟩:=Zo h;obtain⟨b,h⟩:=Zo h;obtain⟨c,h⟩:=Zo h;exact ti h (Up (Nat.le_of_ble_eq_true rfl) (YV (YV (YV Gi))))
 . obtain⟨p,_,h⟩:=List.exists_of_findSome?_eq_some h
   rcases XM h with h|h
   . exact ti h (Up (Nat.le_of_ble_eq_true rfl) (By Gi))
   . obtain⟨a,h⟩:=Zo h;obtain⟨i,h⟩:=Zo h;obtain⟨b,h⟩:=Zo h;obtain⟨k,h⟩:=Zo h;exact ti h (Up (Nat.le_of_ble_eq_true rfl) (By (YV (YV (YV (YV Gi))))))
theorem Wu{f:D->D->Option Bool}:∀xs:List D,(∀x ∈ xs,f x x=some true)->Ov f xs xs=some true
 | [],_=>rfl
 |x::r,h=>by
  show((f x x).bind λb=>(Ov f r r).bind λc=>some _)=_;rw[h x zzF,Wu r λy my=>h y (zzD _ my)];rfl
def uv{ds:List D}(g:∀d ∈ ds,Pt d):ZN 60 (.tup ds) (.tup ds)=some true:=Wu _ λx mx=>by
 rcases g x mx with⟨s,rfl⟩|⟨i,rfl⟩
 . show some _=_;rw[beq_self_eq_true]
 . show some _=_;rw[beq_self_eq_true]
end
def BN{a b c d k:EF}{as:AS}{x y z u v w:D}{g:List (Bool×D)->Option O}(ha:WE a as x)(hb:WE b as y)(hc:WE c as z)(hd:WE d as u)(hk:WE k as v)(hg:RE (g [(true,x),(true,y),(true,z),(true,u),(true,v)]) w):WE (zt (aC a (aC b (aC c (aC d (aC k aN))))) g) as w:=by
 obtain⟨o,h1,h2⟩:=hg;exact⟨o,vL (ZY ha (ZY hb (ZY hc (ZY hd (ZY hk zz))))) (by show g [(zF x||true,x),(zF y||true,y),(zF z||true,z),(zF u||true,u),(zF v||true,v)]=_;rw[zyD,zyD,zyD,zyD,zyD];exact h1),h2⟩
section
variable{n m:Nat}{J T:TZ}{e:Int}{Ds:DD}{S:SS}
def Qm(n8:n<=8)(hJ:Tab n n J):RE (xT [(true,.int n),(true,zU J)]) (oD (tA n J)):=by
 have k:=qj (S:=λx y z=>[sI n,sT (zU J),x,y,z]) (x:=none) (y:=none) (z:=none) (va:=2) (vb:=3) (vc:=4) (vj:=1) (vn:=0) n8 hJ (λ_ _ _=>rfl) (λ_ _ _=>rfl) (λ_ _ _=>rfl) (λ_ _ _=>rfl) (λ_ _ _=>rfl) (λ_ _ _ _=>rfl) (λ_ _ _ _=>rfl) (λ_ _ _ _=>rfl);rw[<-yY (v:=0) rfl (by trivial)]at k;refine y7 rfl ?_;rw[<-or_none (t:=tA n J)];exact k.rt λ_ _=>yU (WD.e zb)
abbrev qp:SF:=(zg (zo true 9 (f2 (f2 zM (f2 (f2 xa (fV 8) zD) zG zm) zy) (f2 (f2 zJ yA zy) wU zy) zy))
 (xr (fT (f2 (fV 9) (f2 (f2 zJ (f2 (f2 zM xa zy) yA zy) zy) (f2 (f2 zM (fV 8) zy) wU zy) zy) (zB .NotEq))) (zY (yf (dC (fC (.str "doing")) (dC zL (dC yA (dC xa (dC wU (dC (fV 8) dN)))))))) wc))
abbrev Ea(n m:Nat)(J T:TZ)(s:Str)(x y z w v:Option O):AS:=[sI n,sI m,sT (zU J),sT (.str s),sT (zU T),x,y,z,w,v]
def qL{s:Str}{a i b k:Int}{v:Option O}(hJ:Tab n n J)(hT:Tab m n T)(m1:1<=m)(ha:zH n a)(hi:zH m i)(hb:zH n b)(hk:zH m k):R4 (qp (Ea n m J T s (sI a) (sI i) (sI b) (sI k) v)) (λas=>∃w v,as=Ea n m J T s (sI a) (sI i) (sI b) w v) (if(!(yW T ((i+k)%m) (yW J a b)==yW J (yW T i a) (yW T k b)))=true then some [.str "doing",.str s,.int a,.int i,.int b,.int k]else none):=by
 obtain⟨q5,_⟩:=v8 (as:=Ea n m J T s (sI a) (sI i) (sI b) (sI k) v) hT (X1 m1) (RA hJ ha hb) (za (i:=4) rfl) (zP (yg (za (i:=6) rfl) (za (i:=8) rfl)) (za (i:=1) rfl) (by trivial)) (Zb hJ ha hb (za (i:=2) rfl) (za (i:=5) rfl) (za (i:=7) rfl));refine R4.seq (zS q5 (zh rfl)) ?_;obtain⟨q1,q2⟩:=v8 (as:=Ea n m J T s (sI a) (sI i) (sI b) (sI k) (sI (yW T ((i+k)%m) (yW J a b)))) hT hi ha (za (i:=4) rfl) (za (i:=6) rfl) (za (i:=5) rfl);obtain⟨q3,q4⟩:=v8 (as:=Ea n m J T s (sI a) (sI i) (sI b) (sI k) (sI (yW T ((i+k)%m) (yW J a b)))) hT hk hb (za (i:=4) rfl) (za (i:=8) rfl) (za (i:=7) rfl);exact Bb (Ng (za rfl) (Zb hJ q2 q4 (za rfl) q1 q3)) (R_ (zw zb (zw (za rfl) (zw (za rfl) (zw (za rfl) (zw (za rfl) (zw (za rfl) zR)))))) (YQ rfl) rfl rfl) ⟨_,_,rfl⟩
def Ry{s:Str}(n8:n<=8)(m1:1<=m)(m6:m<=6)(hJ:Tab n n J)(hT:Tab m n T):RE (xB [(true,.int n),(true,.int m),(true,zU J),(true,.str s),(true,zU T)]) (oD (tD n m J T s)):=by
 have k:R4 (forL (gN 5) (yo (ye vF yj) (gN 6) (yo (ye wC yj) (gN 7) (yo (ye vF yj) (gN 8) qp))) (yT 0 n) (Ea n m J T s none none none none none)) (λas=>∃x y z w v,as=Ea n m J T s x y z w v) (tD n m J T s):=by
  refine YO (λas=>∃x y z w v,as=Ea n m J T s x y z w v) _ (λa ha as hI=>?_) ⟨_,_,_,_,_,rfl⟩;obtain⟨x,y,z,w,v,rfl⟩:=hI;refine⟨Ea n m J T s (sI a) y z w v,rfl, ?_⟩;rw[yY rfl (by trivial)];refine(YO (λas=>∃y z w v,as=Ea n m J T s (sI a) y z w v) _ (λi hi as hI=>?_) ⟨_,_,_,_,rfl⟩).imp λas ⟨y,z,w,v,e⟩=>⟨_,y,z,w,v,e⟩;obtain⟨y,z,w,v,rfl⟩:=hI;refine⟨Ea n m J T s (sI a) (sI i) z w v,rfl, ?_⟩;rw[yY rfl (by trivial)];refine(YO (λas=>∃z w v,as=Ea n m J T s (sI a) (sI i) z w v) _ (λb hb as hI=>?_) ⟨_,_,_,rfl⟩).imp λas ⟨z,w,v,e⟩=>⟨_,z,w,v,e⟩;obtain⟨z,w,v,rfl⟩:=hI;refine⟨Ea n m J T s (sI a) (sI i) (sI b) w v,rfl, ?_⟩;rw[yY rfl (by trivial)];refine(YO (λas=>∃w v,as=Ea n m J T s (sI a) (sI i) (sI b) w v) _ (λk hk as hI=>?_) ⟨_,_,rfl⟩).imp λas ⟨w,v,e⟩=>⟨_,w,v,e⟩;obtain⟨w,v,rfl⟩:=hI;exact⟨_,rfl,qL hJ hT m1 ha hi hb hk⟩
 rw[<-yY (v:=0) rfl (by trivial)]at k;refine y7 rfl ?_;rw[<-or_none (t:=tD n m J T s)];exact k.rt λ_ _=>yU (WD.e zb)
abbrev Da(n m:Nat)(J:TZ)(e:Int)(Ds:DD)(S:SS)(z:Option O)(d:Option O)(x y:Option O):AS:=[sT (zj n m J e Ds S),sI n,sI m,sT (zU J),sI e,sT (.lst (Ds.map x_)),sT (.lst (S.map y_)),z,d,x,y]
abbrev pj:SF:=(zg (xr (Lq (fT (f2 (fV 8) (fC .non) (zB .Is))) (fT (f2 (f2 (f2 (fV 10) yh zy) zM zy) zM (zB .NotEq)))) (zo true 8 (yf (dC (fC (.str "empty")) (dC (fV 9) dN)))) wc)
 (xr (fT (f2 (fV 8) (fC .non) (zB .Is))) (zo true 8 (zt (aC zG (aC zJ (aC zL (aC (fV 9) (aC (fV 10) aN))))) xB)) wc))
def Ir(A:Alg n m J e Ds):RE (Qa [(true,zj n m J e Ds S)]) (oD (tW n m J e Ds)):=by
 have n8:=A.n8;have m1:=A.m1;have he:zH n e:=⟨A.e0,A.en⟩;have k1:=qB (S:=λx _ _=>Da n m J e Ds S x none none none) (x:=none) (y:=none) (z:=none) (va:=7) (vj:=3) (ve:=4) A.j he (λ_ _ _=>rfl) (λ_ _ _=>rfl) (λ_ _ _=>rfl) (λ_ _ _ _=>rfl);rw[<-yY (v:=1) rfl (by trivial)]at k1;have ew:tW n m J e Ds=(tU n J e).or ((tA n J).or (Ds.findSome? (tE n m J e))):=Option.or_assoc;rw[ew];refine y7 rfl (zq (Im (WD.e (za rfl)) rfl) (k1.rt λas' hI=>?_));obtain⟨z,rfl⟩:=hI;refine zq (xU (Qt (WD.e (za rfl)) (WD.e (za rfl)) (Qm n8 A.j)) (zh rfl)) ?_;obtain⟨as',hf,x,y,rfl⟩:=yN (g:=gT 2 (wI (gN 9) (wI (gN 10) RP))) (f:=pj)
  (λi as=>∃(x y:Option O),as=Da n m J e Ds S z (sT (oD ((tA n J).or ((Ds.take i).findSome? (tE n m J e))))) x y)
  ((Ds.map x_).map λd=>(true,d)) 0 (Da n m J e Ds S z (sT (oD (tA n J))) none none) (λi x as hx' hI=>by
    obtain⟨x,y,rfl⟩:=hI;rw[zyB,zzI]at hx';obtain⟨p,hp,rfl⟩:=zzX.mp hx';have hT:=A.ds p (zyA hp);have es:(tA n J).or ((Ds.take (0+i+1)).findSome? (tE n m J e))=((tA n J).or ((Ds.take (0+i)).findSome? (tE n m J e))).or (tE n m J e p):=by
     have e2:List.findSome? (tE n m J e) (Option.toList (some p))=tE n m J e p:=by
      rw[Option.toList_some,List.findSome?_cons,List.findSome?_nil];cases tE n m J e p<;>rfl
     generalize tA n J=X;rw[zyY,List.take_succ,hp,List.findSome?_append,e2,Option.or_assoc]
    rw[es];generalize (tA n J).or ((Ds.take (0+i)).findSome? (tE n m J e))=t;refine⟨Da n m J e Ds S z (sT (oD t)) (sT (.str p.1)) (sT (zU p.2)),rfl, ?_⟩;have tn:=rz (as:=Da n m J e Ds S z (sT (oD t)) (sT (.str p.1)) (sT (zU p.2))) (i:=8) rfl;cases t with
    |some ds=>exact⟨_,zC (yc (Bg tn (λh=>nomatch h) (λ_=>rfl)) rfl) (yc tn rfl),_,_,rfl⟩
    |none=>
     obtain⟨q1,_⟩:=v8 (as:=Da n m J e Ds S z (sT (oD none)) (sT (.str p.1)) (sT (zU p.2))) hT ⟨by trivial,by trivial⟩ he (za (i:=10) rfl) (zb) (za (i:=4) rfl);have t1:=Ng q1 (za (i:=4) rfl);have t2:=Bg tn (λ_=>t1) (λh=>nomatch h);have ed:tE n m J e p=(if(!(yW p.2 0 e==e))=true then some [.str "empty",.str p.1]else none).or (tD n m J p.2 p.1):=rfl;rw[show none.or (tE n m J e p)=tE n m J e p from rfl,ed];generalize (!(yW p.2 0 e==e))=q at t2;cases q with
     |true=>exact⟨_,zC (yL t2 (xU (R_ (zw zb (zw (za rfl) zR)) (YQ rfl) rfl rfl) (zh rfl))) (yc (yI (ym (za rfl) zb rfl rfl) rfl) rfl),_,_,rfl⟩
     |false=>exact⟨_,zC (yc t2 rfl) (yL tn (xU (BN (WD.e (za rfl)) (WD.e (za rfl)) (WD.e (za rfl)) (WD.e (za rfl)) (WD.e (za rfl)) (Ry n8 m1 A.m6 A.j hT)) (zh rfl))),_,_,rfl⟩)
  ⟨none,none,by rw[List.take_zero,List.findSome?_nil,or_none]⟩
 rw[zzB,zzB,zyY,List.take_length]at hf;exact zq (yQ (M3 (za rfl)) hf) (yU (WD.e (za rfl)))
end
open L2 (zQ)
noncomputable def mx(c k:Int):Int:=((c%2147483647*48271+k*k*69621+7919)%2147483647*((c%2147483647*48271+k*k*69621+7919)%2147483647)+16807*((c%2147483647*48271+k*k*69621+7919)%2147483647)+k)%2147483629
abbrev St(x:Int):Prop:=0<=x/\x<2147483647
def CZ(c k:Int):St (mx c k):=⟨zyN _ (by decide),Int.lt_trans (zyH _ (by decide)) (by decide)⟩
def W8{c k:Int}{s t:Bool}(k0:0<=k)(k1:k<=1000):yP [(s,.int c),(t,.int k)]=sI (mx c k):=by
 have c0:=zyN c (show 2147483647≠0 by decide);have c1:=zyH c (show 0<2147483647 by decide);have kk0:=Int.mul_nonneg k0 k0;have kk1:=Int.mul_le_mul k1 k1 k0 (by decide);have u0:=zyN (c%2147483647*48271+k*k*69621+7919) (show 2147483647≠0 by decide);have u1:=zyH (c%2147483647*48271+k*k*69621+7919) (show 0<2147483647 by decide);have bk:k.natAbs<big:=zE (by omega) (by omega);have bu:((c%2147483647*48271+k*k*69621+7919)%2147483647).natAbs<big:=zE (by omega) (by omega);exact ZX rfl (zC (zS (zP (yg (yg (xo (zP (za rfl) zb (by decide)) zb (zE (by omega) (by omega)) (zE (by decide) (by decide))) (xo (xo (za rfl) (za rfl) bk bk) zb (zE (by omega) (by omega)) (zE (by decide) (by decide)))) zb) zb (by decide)) (zh rfl))
  (Xc (zP (yg (yg (xo (za rfl) (za rfl) bu bu) (xo zb (za rfl) (zE (by decide) (by decide)) bu)) (za rfl)) zb (by decide))))
def VL{ns:List Int}{k:Int}{s t:Bool}(hk:0<=k):∃x,yd [(s,.lst (ns.map .int)),(t,.int k)]=sT (.int x):=by
 by_cases h:k<((ns.map D.int).length:Int)
 . obtain⟨x,hx⟩:=Cm hk (by rw[zzB]at h;exact h);exact⟨x,ZX rfl (Yi (yL (yI (PV (za rfl) (wR (zf (za rfl) zz) rfl rfl)) (congrArg some (zyO h))) (Xc (ym (za rfl) (za rfl) hx rfl))))⟩
 . exact⟨0,ZX rfl (zC (yc (yI (PV (za rfl) (wR (zf (za rfl) zz) rfl rfl)) (congrArg some (zyG h))) rfl) (Xc zb))⟩
def E9{c:Int}{m:Nat}(h1:m<=900):∃xs:List Int,xs.length=m/\(∀x ∈ xs,St x)/\RE (xh [(true,.int c),(true,.int m)]) (zk xs):=by
 obtain⟨as',hf,ys,r,e4,rfl,hl,hy⟩:=yN (g:=gN 4) (f:=xr (fT (f2 (f2 zu yR zm) yh (zB .Eq))) (zg (yq (xO 2 (dC (f2 zL (fC (.int 1000000007)) zm) dN) wg)) (zo true 3 (f2 zL (fC (.int 1000000007)) ze))) (yq (xO 2 (dC (zt (aC zL (aC zM aN)) yP) dN) wg)))
  (λi as=>∃(ys:List Int) (r:Int) (e4:Option O),as=[sI c,sI m,sN (ys.map xX),sI r,e4]/\ys.length=i/\∀y ∈ ys,St y)
  (yT 0 m) 0 [sI c,sI m,sN [],sI (c/2),none] (λi x as hx hI=>by
   obtain⟨ys,r,e4,rfl,hl,hy⟩:=hI;obtain⟨rfl,hi⟩:=yO hx;have tt:WT (fT (f2 (f2 zu yR zm) yh (zB .Eq))) [sI c,sI m,sN (ys.map xX),sI r,sI (0+i)] (c%2==0):=yI (Qz (zP (za rfl) zb (by decide)) zb rfl) rfl;refine⟨_,rfl, ?_⟩;have fin:∀w,St w->(ys++[w]).length=0+i+1/\∀y ∈ ys++[w],St y:=λw hw=>⟨by rw[zzJ,hl];rfl,λy m=>(zzM.mp m).elim (hy y) λm=>by rw[zzR.mp m];exact hw⟩;cases hb:(c%2==0)with
   |true=>
    rw[hb]at tt;have w0:=zyN r (show 1000000007≠0 by decide);have w1:=zyH r (show 0<1000000007 by decide);have ap:=UR (i:=2) (as:=[sI c,sI m,sN (ys.map xX),sI r,sI (0+i)]) rfl (by rw[zzB];exact zQ (by omega)) (zP (za (i:=3) rfl) (zb (x:=.int 1000000007)) (by decide));rw[<-YW]at ap;exact⟨_,yL tt (zC ap (zS (yB (za rfl) zb (by decide) (zE (by decide) (by decide))) (zh rfl))),ys++[r%1000000007],_,_,rfl,fin _ ⟨w0,by omega⟩⟩
   |false=>
    rw[hb]at tt;have ap:=UR (i:=2) (as:=[sI c,sI m,sN (ys.map xX),sI r,sI (0+i)]) rfl (by rw[zzB];exact zQ (by omega)) (xN (zf (za (i:=3) rfl) (zf (za (i:=4) rfl) zz)) (W8 (by omega) (by omega)));rw[<-YW]at ap;exact⟨_,yc tt ap,ys++[mx r (0+i)],_,_,rfl,fin _ (CZ _ _)⟩)
  ⟨[],c/2,none,rfl,rfl,λ_ m=>nomatch m⟩
 rw[yr]at hl;refine⟨ys,by omega,hy,y7 rfl (zq (yz (v5 zR (YQ rfl)) (zh rfl)) (zq (zS (yB (za rfl) zb (by decide) (zE (by decide) (by decide))) (zh rfl)) (zq (yQ (yX (zf (za rfl) zz) (by omega) (by omega)) hf) ⟨_,UA rfl (xp ys).2.1,(YY ys).1,(YY ys).2⟩)))⟩
def qc{a b:EF}{as:AS}{c:Int}{m:Nat}(hm:m<=900)(ha:WE a as (.int c))(hb:WE b as (.int m)):∃xs:List Int,xs.length=m/\(∀x ∈ xs,St x)/\WE (zt (aC a (aC b aN)) xh) as (zk xs):=by
 obtain⟨xs,h1,h2,h3⟩:=E9 hm;exact⟨xs,h1,h2,Qt ha hb h3⟩
def at2{xs:List Int}(h:∀x ∈ xs,St x){k:Int}(h0:0<=k)(h1:k<xs.length):∃x,zy (zk xs) (.int k)=some (.im (.int x))/\St x:=Iv h0 h1 h
def EW{n m:Nat}(hn:0<n)(hn2:n<=8)(hm:m<=8):∃g:Int,0<g/\g<1000/\g ∣ (n:Int)/\g ∣ (m:Int)/\vK [(true,.int n),(true,.int m)]=sI g:=by
 obtain⟨g,e,g0,g1,d1,d2,hg⟩:=Nt m n 10000 (by trivial) (by trivial) (by trivial) (by trivial);exact⟨g,g0,g1,d1,d2,ZX rfl (zC hg (Xc (za rfl)))⟩
def eqT{a b:EF}{as:AS}{x y:Int}{s t q:Bool}(ha:WD a as s (.int x))(hb:WD b as t (.int y))(e:(x==y)=q):WT (fT (f2 a b (zB .Eq))) as q:=yI (Qz ha hb (congrArg some e)) rfl
def W0{k:Int}{n:Nat}{a b:Int}(h:KN k n)(ha:zH n a)(hb:zH n b):yi [(true,.int k),(true,.int n),(true,.int a),(true,.int b)]=sI (jK k n a b):=by
 rcases h with⟨rfl,hn⟩|⟨rfl,hn⟩|⟨rfl,hn⟩|⟨rfl,rfl⟩
 . exact ZX rfl (Yi (yL (eqT (za rfl) zb rfl) (Xc (zP (yg (za rfl) (za rfl)) (za rfl) (by omega)))))
 . exact ZX rfl (zC (yc (eqT (za rfl) zb rfl) rfl) (Yi (yL (eqT (za rfl) zb rfl) (Xc (wR (zf (za rfl) (zf (za rfl) zz)) rfl rfl)))))
 . exact ZX rfl (zC (yc (eqT (za rfl) zb rfl) rfl) (zC (yc (eqT (za rfl) zb rfl) rfl) (Yi (yL (eqT (za rfl) zb rfl) (Xc (Lx (x6 (zw (za rfl) (zw (za rfl) zR)) (YQ rfl) rfl rfl) (WD.e (wR (zf (Qz (za rfl) zb rfl) zz) rfl rfl)) (BP.trans (by show _=some (R0.im (.int (jL a b)));unfold jL;by_cases h:b=0<;>simp[h]))))))))
 . have P:∀a ∈ ([0,1,2,3]:List Int),∀b ∈ ([0,1,2,3]:List Int),yi [(true,.int 3),(true,.int (4:Nat)),(true,.int a),(true,.int b)]=sI (jK 3 4 a b):=by
    intro a ma b mb;simp only[zzC,zxC,or_false]at ma mb
    rcases ma with rfl|rfl|rfl|rfl<;>rcases mb with rfl|rfl|rfl|rfl<;>rfl
   exact f4 (λa m=>f4 (P a m) hb) ha
open L2 (zQ)
abbrev rY:SF:=(zg (zo true 2 (f2 zJ zG ze))
 (yq (xO 3 (dC (f2 (yK (dC (f2 zJ zG zm) (dC (f2 yp (f2 zJ (f2 zG yp VZ) zm) zD) dN))) (f2 zu yp VZ) zy) dN) wg)))
def Hl{k x:Int}{n:Nat}(hk:k=1\/k=2)(hn:1<=n)(hn2:n<=8):∃(ys:List Int) (z:Int) (e4:Option O),ys.length=n-1/\(∀y ∈ ys,zH n y/\(k=2->1<=y))/\forL G3 rY (yT 1 (n-1)) [sI k,sI n,sI x,sN [],none]=some (.nx [sI k,sI n,sI z,sN (ys.map xX),e4]):=by
 obtain⟨as',hf,ys,z,e4,rfl,hl,hy⟩:=yN (g:=gN 4) (f:=rY)
  (λi as=>∃(ys:List Int) (z:Int) (e4:Option O),as=[sI k,sI n,sI z,sN (ys.map xX),e4]/\ys.length=i/\∀y ∈ ys,zH n y/\(k=2->1<=y))
  (yT 1 (n-1)) 0 [sI k,sI n,sI x,sN [],none] (λi y as hx hI=>by
   obtain⟨ys,z,e4,rfl,hl,hy⟩:=hI;obtain⟨rfl,hi⟩:=yO hx;have m0:=zyN (z/n) (show(n:Int)≠0 by omega);have m1:=zyH (z/n) (show(0:Int)<n by omega);have q0:=zyN (z/n) (show(n:Int)-1≠0 by omega);have q1:=zyH (z/n) (show 0<(n:Int)-1 by omega);have hp:zy (.lst [.int (z/n%n),.int (1+z/n%(n-1))]) (.int (k-1))=some (.im (.int (if k=1 then z/n%n else 1+z/n%(n-1)))):=by rcases hk with rfl|rfl<;>rfl
   have ap:=UR (i:=3) (as:=[sI k,sI n,sI (z/n),sN (ys.map xX),sI (1+i)]) rfl (by rw[zzB];exact zQ (by omega)) (Lx (x6 (zw (zP (za (i:=2) rfl) (za (i:=1) rfl) (by omega)) (zw (yg zb (zP (za (i:=2) rfl) (TN (za (i:=1) rfl) zb) (by omega))) zR)) (YQ rfl) rfl rfl) (WD.e (TN (za (i:=0) rfl) zb)) hp);rw[<-YW]at ap;refine⟨_,rfl,_,zC (zS (yB (za rfl) (za rfl) (by omega) (zE (by omega) (by omega))) (zh rfl)) ap,_,_,_,rfl,by rw[zzJ,hl];rfl,λy m=>(zzM.mp m).elim (hy y) λm=>?_⟩;rw[zzR.mp m]
   rcases hk with rfl|rfl
   . rw[if_pos rfl];exact⟨⟨m0,m1⟩,λh=>nomatch h⟩
   . rw[if_neg (by decide)];exact⟨⟨by omega,by omega⟩,λ_=>by omega⟩)
  ⟨[],x,none,rfl,rfl,λ_ m=>nomatch m⟩
 rw[yr]at hl;exact⟨ys,z,e4,by omega,hy,hf⟩
def E5{k x:Int}{n m:Nat}(h:KN k n)(h0:k≠0)(hn2:n<=8)(hm:0<m):∃r,Row n r/\LD n m (jK k n) (eK k) (λ_ a=>ZJ r a)/\RE (Z7 [(true,.int k),(true,.int n),(true,.int x)]) (zk r):=by
 have n1:=h.n1
 rcases h with⟨rfl,hn⟩|⟨rfl,hn⟩|⟨rfl,hn⟩|⟨rfl,rfl⟩
 . exact absurd rfl h0
 . obtain⟨ys,z,e4,l1,l2,hf⟩:=Hl (.inl rfl) hn hn2;have hp:=sortI_perm ys;have hlen:(sortI ys).length=n-1:=by rw[hp.length_eq,l1]
   have hr:Row n (0::sortI ys):=⟨by rw[zzT,hlen];omega,λy m=>by
    rcases zzC.mp m with rfl|m
    . omega
    . exact(l2 y (hp.mem_iff.mp m)).1⟩
   have s3:=yz (i:=3) (as:=[sI 1,sI n,sI z,sN (ys.map xX),e4]) (AB (i:=3) (g:=Bx) rfl (by
    show(Zu _).bind _=_;rw[Kz];show(if ys.length<64 then _ else _)=_;rw[if_pos (by omega)])) (zh rfl)
   rw[Mb]at s3;refine⟨_,hr,qE hm rfl (λa ha=>(rowAt hr ha).2) λa b ha hb hab=>?_,y7 rfl (zq (yc (eqT (za rfl) zb rfl) rfl) (zq (yz (v5 zR (YQ rfl)) (zh rfl)) (zq (yQ (Km (zf zb (zf (za rfl) zz)) (by omega) (by omega) (by omega) (by omega)) (by rw[show((n:Int)-1).toNat=n-1 by omega];exact hf)) (zq (yL (eqT (za rfl) zb rfl) s3) (yU (CU (x6 (zw zb zR) (YQ rfl) rfl rfl) rfl (by rw[hlen];show 1+_<=_;omega)))))))⟩
   by_cases he:a=b
   . rw[he];exact Int.le_refl _
   have a0:=ha.1;have b1:=hb.2;have hs:=List.pairwise_cons.mpr ⟨λy m=>(l2 y (hp.mem_iff.mp m)).1.1,vB ys⟩;rw[Yy (by rw[hr.1];omega),Yy (by rw[hr.1];omega)];exact EE hs (by omega) (by rw[hr.1];omega)
 . obtain⟨ys,z,e4,l1,l2,hf⟩:=Hl (.inr rfl) hn hn2;have hr:Row n (0::ys):=⟨by rw[zzT,l1];omega,λy m=>by
    rcases zzC.mp m with rfl|m
    . omega
    . exact(l2 y m).1⟩
   refine⟨_,hr,qT rfl (λa ha=>(rowAt hr ha).2) λa ha ha0=>?_,y7 rfl (zq (yc (eqT (za rfl) zb rfl) rfl) (zq (yz (v5 zR (YQ rfl)) (zh rfl)) (zq (yQ (Km (zf zb (zf (za rfl) zz)) (by omega) (by omega) (by omega) (by omega)) (by rw[show((n:Int)-1).toNat=n-1 by omega];exact hf)) (zq (yc (eqT (za rfl) zb rfl) rfl) (yU (CU (x6 (zw zb zR) (YQ rfl) rfl rfl) rfl (by rw[l1];show 1+_<=_;omega)))))))⟩;have a0:=ha.1;have a1:=ha.2;have hk:a.toNat<(0::ys).length:=by rw[hr.1];omega
   rw[Yy hk];obtain⟨j,ek⟩:∃j,a.toNat=j+1:=⟨a.toNat-1,by omega⟩;have:(0::ys)[a.toNat]=ys[j]'(by rw[zzT]at hk;omega):=by simp only[ek,List.getElem_cons_succ]
   rw[this];have:=(l2 _ (zxA (show j<ys.length by rw[zzT]at hk;omega))).2 rfl;omega
 . obtain⟨r,r1,r2⟩:=M7 (f:=λa=>if x%2=0 then a else sP a) (as:=[sI 3,sI (4:Nat),sI x,none,none]) (cap:=[none,some 2]) (fr:=aC zG aN) (zf (za rfl) zz) (by omega) λb hb=>by
    have b0:=hb.1;have b1:=hb.2;refine⟨[sI b,sI x],rfl,Ie (x6 (zw (za (i:=0) rfl) (zw (TN (yg (xo zb (TN zb (zP (za (i:=0) rfl) zb (by decide))) (zE (by decide) (by decide)) (zE (by omega) (by omega))) zb) (yB (za (i:=0) rfl) zb (by decide) (zE (by decide) (by decide)))) zR)) (YQ rfl) rfl rfl) (WD.e (zP (za (i:=1) rfl) zb (by decide))) Et, ?_⟩
    split
    . exact hb
    . exact f4 (P:=λa=>zH 4 (sP a)) (by decide) hb
   refine⟨r,⟨r1.1,r1.2.1⟩,q8 ?_,y7 rfl (Vo (U3 (eqT (za rfl) zb rfl) (yU r2)))⟩
   by_cases hx:x%2=0
   . exact .inl λa ha=>(r1.2.2 a ha).trans (if_pos hx)
   . exact .inr λa ha=>(r1.2.2 a ha).trans (if_neg hx)
def Rc{k x:Int}{n m:Nat}(h:KN k n)(hn2:n<=8)(hm0:0<m)(hm:m<=8)(hx:St x):∃T,Tab m n T/\LD n m (jK k n) (eK k) (yW T)/\RE (xv [(true,.int k),(true,.int n),(true,.int m),(true,.int x)]) (zU T):=by
 have n1:=h.n1;have hJ:=OA h
 by_cases h0:k=0
 . subst h0;obtain⟨g,g0,g1,gn,gm,hg⟩:=EW n1 hn2 hm;have q0:0<=(n:Int)/g:=Int.ediv_nonneg (by omega) (by omega);have q1:(n:Int)/g<=n:=Int.ediv_le_self _ (by omega);have hLD:=qQ (x0:=x%8) (x1:=x/8%8) n1 hm0 g0 gn gm;have hd:WD (f2 zG (zt (aC zG Ve) vK) ze) [sI 0,sI n,sI m,sI x,none,none] true (.int ((n:Int)/g)):=yB (za rfl) (xN (zf (za rfl) (zf (za rfl) zz)) hg) g0 (zE (by omega) (by omega));generalize (n:Int)/g=q at q0 q1 hLD hd;have y0:=zyN (x/8) (show(8:Int)≠0 by decide);have y1:=zyH (x/8) (show(0:Int)<8 by decide);have z0:=zyN x (show(8:Int)≠0 by decide);have z1:=zyH x (show(0:Int)<8 by decide);have s5:=zS (st:=true) (i:=5) (xo hd (zP (yB (za (i:=3) rfl) (zb (x:=.int 8)) (by decide) (zE (by decide) (by decide))) (zb (x:=.int 8)) (by decide)) (zE (by omega) (by omega)) (zE (by omega) (by omega))) (zh rfl);have st0:=Int.mul_nonneg q0 y0;have st1:q*(x/8%8)<=8*8:=Int.mul_le_mul (by omega) (by omega) y0 (by decide);obtain⟨T,t1,t2⟩:=Ec (as:=[sI 0,sI n,sI m,sI x,none,sI (q*(x/8%8))]) (cap:=[none,some 1,some 5,some 3]) (fr:=aC zJ aN)
    (zf (za rfl) zz) (by omega) λc hc=>by
     have c0:=hc.1;have c1:=hc.2;obtain⟨r,r1,r2⟩:=M7 (f:=λa=>(x%8*a+q*(x/8%8)*c)%n) (as:=[sI c,sI n,sI (q*(x/8%8)),sI x]) (cap:=[none,some 1,some 2,some 0,some 3]) (fr:=aC zG aN) (zf (za rfl) zz) (by omega) λb hb=>by
      have b0:=hb.1;have b1:=hb.2;exact⟨_,rfl,WD.e (zP (yg (xo (zP (za (i:=4) rfl) zb (by decide)) (za (i:=0) rfl) (zE (by omega) (by omega)) (zE (by omega) (by omega))) (xo (za (i:=2) rfl) (za (i:=3) rfl) (zE (by omega) (by omega)) (zE (by omega) (by omega)))) (za (i:=1) rfl) (by omega)),X1 n1⟩
     exact⟨_,r,rfl,r2,r1⟩
   refine⟨T,t1.1,hLD.congr hm0 (qx n1) (λ_ _ _ _=>rfl) (λc a hc ha=>?_),y7 rfl (zq (yc (yI (K5 (za rfl) zb) rfl) rfl) (zq s5 (yU t2)))⟩;rw[t1.2 c a hc ha];show _%(n:Int)=_;rw[Int.mul_comm (x%8) a,Int.mul_comm (q*(x/8%8)) c,Int.mul_assoc c q]
 . have hk:0<k:=by rcases h with⟨rfl,_⟩|⟨rfl,_⟩|⟨rfl,_⟩|⟨rfl,_⟩<;>omega
   obtain⟨r,hr,hd,hi⟩:=E5 h h0 hn2 hm0;obtain⟨T,t1,t2⟩:=A7 (cap:=[none,some 4]) (as:=[sI k,sI n,sI m,sI x,sT (zk r),none]) (fr:=aC zJ aN) hr hm (zf (za rfl) zz) (λb=>⟨_,rfl,za rfl⟩);exact⟨T,t1.1,hd.congr hm0 hJ (λ_ _ _ _=>rfl) t1.2,y7 rfl (Vo (U3 (yI (K5 (za rfl) zb) (congrArg some (zyO hk))) (zq (xU (Qi (WD.e (za rfl)) (WD.e (za rfl)) (WD.e (za (i:=3) rfl)) hi) (zh rfl)) (yU t2))))⟩
open L2 (zQ)
def Hg{x:Int}:∃(k:Int) (n:Nat) (k2:Int) (n2:Nat),KN k n/\KN k2 n2/\n*n2<=8/\eK k2=0/\RE (Zx [(true,.int x)]) (.tup [.int k,.int n,.int k2,.int n2]):=by
 have s1:zo true 1 (f2 zu wF zm) [sI x,none,none,none]=some (.nx [sI x,sI (x%4),none,none]):=zS (zP (za rfl) zb (by decide)) (zh rfl);obtain⟨sz,z1,z8,s2⟩:∃sz:Int,1<=sz/\sz<=8/\zo true 2 (f2 (yK (dC (f2 yp (f2 (f2 zu wF ze) Ug zm) zD) (dC (f2 yp (f2 (f2 zu wF ze) Yx zm) zD) dN))) (fP (aC (f2 (f2 (f2 zu (fC (.int 40)) ze) wF zm) yp (zB .Eq)) aN) YB) zy) [sI x,sI (x%4),none,none]=some (.nx [sI x,sI (x%4),sI sz,none]):=by
  have w5:=yg (as:=[sI x,sI (x%4),none,none]) (zb (x:=.int 1)) (zP (yB (za (i:=0) rfl) (zb (x:=.int 4)) (by decide) (zE (by decide) (by decide))) (zb (x:=.int 5)) (by decide));have w8:=yg (as:=[sI x,sI (x%4),none,none]) (zb (x:=.int 1)) (zP (yB (za (i:=0) rfl) (zb (x:=.int 4)) (by decide) (zE (by decide) (by decide))) (zb (x:=.int 8)) (by decide));refine⟨if(x/40%4==1)=true then 1+x/4%8 else 1+x/4%5,by split<;>omega,by split<;>omega,zS (Lx (x6 (zw w5 (zw w8 zR)) (YQ rfl) rfl rfl) (WD.e (wR (zf (Qz (zP (yB (za rfl) (zb) (by decide) (zE (by decide) (by decide))) (zb) (by decide)) (zb) rfl) zz) rfl rfl)) BP) (zh rfl)⟩
 obtain⟨n,hk,n8,s3⟩:∃n:Nat,KN (x%4) n/\n<=8/\xr (fT (f2 zG vg (zB .Eq))) (zo true 2 wF) wc [sI x,sI (x%4),sI sz,none]=some (.nx [sI x,sI (x%4),sI n,none]):=by
  by_cases h3:x%4=3
  . exact⟨4,by rw[h3];exact .inr (.inr (.inr ⟨rfl,rfl⟩)),by decide,yL (eqT (za rfl) zb (by simp[h3])) (zS zb (zh rfl))⟩
  . refine⟨sz.toNat, ?_,by omega,(yc (eqT (za rfl) zb (by simp[h3])) rfl).trans (by rw[show(sz.toNat:Int)=sz by omega];rfl)⟩
    rcases(show x%4=0\/x%4=1\/x%4=2 by omega)with h|h|h<;>rw[h]
    . exact .inl ⟨rfl,by omega⟩
    . exact .inr (.inl ⟨rfl,by omega⟩)
    . exact .inr (.inr (.inl ⟨rfl,by omega⟩))
 have s4:zo true 3 (f2 yp (f2 (f2 zu (fC (.int 160)) ze) vg zm) zD) [sI x,sI (x%4),sI n,none]=some (.nx [sI x,sI (x%4),sI n,sI (1+x/160%3)]):=zS (yg zb (zP (yB (za rfl) zb (by decide) (zE (by decide) (by decide))) zb (by decide))) (zh rfl);have n1:=hk.n1;obtain⟨n2,p2,q2,s5⟩:∃n2:Nat,1<=n2/\n*n2<=8/\xr (fT (f2 (f2 zJ zL zX) Yx (zB .Gt))) (zo true 3 yp) wc [sI x,sI (x%4),sI n,sI (1+x/160%3)]=some (.nx [sI x,sI (x%4),sI n,sI n2]):=by
  have wm:=K5 (xo (as:=[sI x,sI (x%4),sI n,sI (1+x/160%3)]) (za (i:=2) rfl) (za (i:=3) rfl) (zE (by omega) (by omega)) (zE (by omega) (by omega))) (zb (x:=.int 8))
  by_cases h:8<n*(1+x/160%3)
  . exact⟨1,by decide,by omega,yL (yI wm (congrArg some (zyO h))) (zS zb (zh rfl))⟩
  . have e:(((1+x/160%3).toNat:Nat):Int)=1+x/160%3:=by omega
    refine⟨(1+x/160%3).toNat,by omega, ?_,(yc (yI wm (congrArg some (zyG h))) rfl).trans (by rw[e];rfl)⟩;have:((n*(1+x/160%3).toNat:Nat):Int)<=8:=by rw[zzV,e];omega
    omega
 have w7:=zP (as:=[sI x,sI (x%4),sI n,sI n2]) (yB (za (i:=0) rfl) (zb (x:=.int 480)) (by decide) (zE (by decide) (by decide))) (zb (x:=.int 3)) (by decide);refine⟨x%4,n,x/480%3,n2,hk, ?_,q2, ?_,y7 rfl (zq s1 (zq s2 (zq s3 (zq s4 (zq s5 (yU (R_ (zw (za rfl) (zw (za rfl) (zw w7 (zw (za rfl) zR)))) (YQ rfl) rfl rfl)))))))⟩
 . rcases(show x/480%3=0\/x/480%3=1\/x/480%3=2 by omega)with h|h|h<;>rw[h]
   . exact .inl ⟨rfl,by omega⟩
   . exact .inr (.inl ⟨rfl,by omega⟩)
   . exact .inr (.inr (.inl ⟨rfl,by omega⟩))
 . exact if_neg (by omega)
abbrev ch(c:Nat):Str:=⟨#[c]⟩
theorem GB:∀cs:List Nat,(Str.join "" (cs.map ch)).cps.toList=cs
 | []=>rfl
 | [x]=>rfl
 |x::y::r=>by
  show(ch x++""++Str.join "" _).cps.toList=_;rw[Str.cps_append,Str.cps_append,Array.toList_append,Array.toList_append,GB (y::r)];rfl
noncomputable def lt(c:Int)(k:Nat)(at_:Int)(i:Nat):Nat:=97+((mx c i/64+(k:Int)*(if((i:Int)==at_)=true then 1 else 0))%26).toNat
def wd(c:Int)(n:Nat)(at_:Int)(k:Nat):Str:=Str.join "" (((List.range n).map (lt c k at_)).map ch)
def JK{c at_:Int}{n k j:Nat}(h0:0<=at_)(h1:at_<n)(hk:k<10)(hj:j<10)(h:wd c n at_ k=wd c n at_ j):k=j:=by
 have h:=congrArg (λs:Str=>s.cps.toList[at_.toNat]?) h;simp only[wd,GB,zzI]at h;rw[List.getElem?_range (by omega)]at h;have h:=h;injection h with h
 unfold lt at h;rw[show(at_.toNat:Int)=at_ by omega]at h;simp only[beq_self_eq_true,if_true,Int.mul_one]at h;omega
def A5{c at_:Int}{n k:Nat}(hn:n<=8):GY (.str (wd c n at_ k))=true:=by
 have e:=GB ((List.range n).map (lt c k at_));show((wd c n at_ k).cps.toList.all _&&decide _)=_;have e2:(wd c n at_ k).length=n:=by
  show(wd c n at_ k).cps.size=n;rw[<-zyT];unfold wd;rw[e,zzB,zyU]
 rw[e2,zyC];refine⟨?_,zyO (by omega)⟩;unfold wd;rw[e,List.all_eq_true];intro x hx;obtain⟨i,_,rfl⟩:=zxE.mp hx;refine zyO ?_;unfold lt;have:=zyH (mx c i/64+k*(if(i==at_)=true then 1 else 0)) (show 0<26 by decide);omega
def BZ{c:Int}:∃ss:List Str,ss.length=10/\ss.Nodup/\(∀s ∈ ss,GY (.str s)=true)/\RE (Zw [(true,.int c),(true,.int (10:Nat))]) (.lst (ss.map D.str)):=by
 have z0:=zyN c (show(8:Int)≠0 by decide);have z1:=zyH c (show(0:Int)<8 by decide);obtain⟨n,hn,hn1,hn8⟩:∃n:Nat,(n:Int)=1+c%8/\1<=n/\n<=8:=⟨(1+c%8).toNat,by omega,by omega,by omega⟩;have t0:=zyN (c/8) (show(n:Int)≠0 by omega);have t1:=zyH (c/8) (show(0:Int)<n by omega);have s3:=zS (st:=true) (i:=3) (as:=[sI c,sI (10:Nat),sT (.str BY),none,none,none,none,none]) (yg (zb (x:=.int 1)) (zP (za (i:=0) rfl) (zb (x:=.int 8)) (by decide))) (zh rfl);rw[<-hn]at s3;have s4:=zS (st:=true) (i:=4) (as:=[sI c,sI (10:Nat),sT (.str BY),sI n,none,none,none,none]) (zP (yB (za (i:=0) rfl) (zb (x:=.int 8)) (by decide) (zE (by decide) (by decide))) (za (i:=3) rfl) (by omega)) (zh rfl);generalize hat:c/8%(n:Int)=at_ at t0 t1 s4
 obtain⟨as',hf,os,e6,e7,rfl,ho⟩:=yN (g:=gN 6)
  (λi as=>∃(os:List O) (e6 e7:Option O),as=[sI c,sI (10:Nat),sT (.str BY),sI n,sI at_,sN os,e6,e7]/\Ows D.str (λ_=>True) os ((List.range i).map (wd c n at_)))
  (yT 0 10) 0 [sI c,sI (10:Nat),sT (.str BY),sI n,sI at_,sN [],none,none] (λi x as hx' hI=>by
   obtain⟨os,e6,e7,rfl,ho⟩:=hI;obtain⟨rfl,hi⟩:=yO hx';rw[zyY]at ho;rw[Int.zero_add];obtain⟨l,l1,l2,l3⟩:=Cd (λc=>D.str (ch c)) (Q:=λj a=>a=lt c i at_ j) (as:=[sI c,sI (10:Nat),sT (.str BY),sI n,sI at_,sN os,sI i,e7]) (cap:=[none,some 2,some 6,some 0,some 4]) (fr:=aC zL aN) (fe:=f2 zG (f2 (f2 (f2 (zt (aC zL wC) yP) (fC (.int 64)) ze) (f2 zJ (fP (aC (f2 zu zM (zB .Eq)) aN) YB) zX) zD) (fC (.int 26)) zm) zy) (zf (za rfl) zz) (by omega) λj hj=>by
    have q0:=zyN (mx c j/64+(i:Int)*(if((j:Int)==at_)=true then 1 else 0)) (show(26:Int)≠0 by decide);have q1:=zyH (mx c j/64+(i:Int)*(if((j:Int)==at_)=true then 1 else 0)) (show(0:Int)<26 by decide);refine⟨_,_,rfl,WD.e (ym (za rfl) (zP (yg (yB (xN (zf (za rfl) (zf (za rfl) zz)) (W8 (by omega) (by omega))) zb (by decide) (zE (by decide) (by decide))) (xo (za rfl) (wR (zf (Qz (za rfl) (za rfl) rfl) zz) rfl rfl) (zE (by omega) (by omega)) (by split<;>exact zE (by decide) (by decide)))) zb (by decide)) (JX q0 q1) rfl),rfl⟩
   have el:l=(List.range n).map (lt c i at_):=by
    refine List.ext_getElem? λj=>?_;rw[zzI]
    by_cases hj:j<n
    . rw[List.getElem?_range hj,zzE (by omega),l2 j _ (zzE (by omega))];rfl
    . rw[List.getElem?_eq_none (by omega),List.getElem?_eq_none (by rw[zyU];omega)];rfl
   have hm:WE (P8 .str (fC (.str "")) D1 MK) [sI c,sI (10:Nat),sT (.str BY),sI n,sI at_,sN os,sI i,sT (.lst (l.map λc=>D.str (ch c)))] (.str (wd c n at_ i)):=by
    refine WD.e (HL zb rfl (zf (za rfl) zz) ?_ rfl);have e1:l.map (λc=>D.str (ch c))=(l.map ch).map D.str:=by rw[zyB];rfl
    rw[e1];show(UM _).bind _=_;rw[Kr];show(if((l.map ch).map (·.length)).sum+(l.map ch).length*0<=16777216 then some _ else none)=_;have e2:=Dk (l.map ch) λs m=>by
     obtain⟨a,_,rfl⟩:=zxE.mp m;rfl
    rw[if_pos (by rw[e2,zzB];omega),BU,el];rfl
   obtain⟨os',o1,o2⟩:=sY (i:=5) rfl ho (by rw[zzB,zyU];omega) hm trivial;refine⟨_,rfl,_,zC (xU (p:=7) l3 (zh rfl)) o2,os',_,_,rfl, ?_⟩;rw[show 0+i+1=i+1 by omega,List.range_succ,zyM];exact o1)
  ⟨[],none,none,rfl,Ows.nil⟩
 rw[yr,zyY]at ho;refine⟨(List.range 10).map (wd c n at_),by rw[zzB,zyU], ?_,λs ms=>?_,y7 rfl (zq (zS zb (zh rfl)) (zq s3 (zq s4 (zq (yz (i:=5) (v5 zR (YQ rfl)) (zh rfl)) (zq (yQ (yX (zf (za (i:=1) rfl) zz) (by decide) (by decide)) hf) (Ows.retB (i:=5) rfl ho))))))⟩
 . exact List.pairwise_map.mpr ((List.nodup_range).imp_of_mem λha hb hne he=>hne (JK t0 t1 (List.mem_range.mp ha) (List.mem_range.mp hb) he))
 . obtain⟨k,_,rfl⟩:=zxE.mp ms;exact A5 hn8
open L2 (zQ)
structure Par where
 c:Int
 h:Int
 w:Nat
 xs:List Int
 ys:List Int
 k:Int
 n:Nat
 k2:Int
 n2:Nat
 m:Nat
structure POk(P:Par):Prop where
 k1:KN P.k P.n
 k2:KN P.k2 P.n2
 n8:P.n*P.n2<=8
 e2:eK P.k2=0
 m1:1<=P.m
 m6:P.m<=6
 w4:P.w<=4
 xl:P.xs.length=1+2*P.w
 xS:∀x ∈ P.xs,St x
 yl:P.ys.length=13
 yS:∀x ∈ P.ys,St x
abbrev Par.N(P:Par):Nat:=P.n*P.n2
theorem POk.n1{P:Par}(h:POk P):1<=P.n:=h.k1.n1
def POk.p2{P:Par}(h:POk P):1<=P.n2:=h.k2.n1
def POk.a8{P:Par}(h:POk P):P.n<=8:=zzO (Nat.le_mul_of_pos_right _ h.p2) h.n8
def POk.b8{P:Par}(h:POk P):P.n2<=8:=zzO (Nat.le_mul_of_pos_left _ h.n1) h.n8
def POk.N1{P:Par}(h:POk P):1<=P.N:=Nat.mul_pos h.n1 h.p2
abbrev Z(P:Par)(e11 e12 e13 e14 e15 e16 e17 e18 e19 e20 e21 e22 e23 e24 e25 e26 e27:Option O):AS:=
 [sI P.c,sI P.h,sI P.w,sT (zk P.xs),sT (zk P.ys),sI P.k,sI P.n,sI P.k2,sI P.n2,sI P.m,sI P.N,e11,e12,e13,e14,e15,e16,e17,e18,e19,e20,e21,e22,e23,e24,e25,e26,e27]
def Rq(r:Option Out)(Q:O->Prop):Prop:=∃x,r=some (.rt x)/\Q x
def xQ{f g:SF}{as as1:AS}{Q:O->Prop}(h1:f as=some (.nx as1))(h2:Rq (g as1) Q):Rq (zg f g as) Q:=by
 obtain⟨x,h,q⟩:=h2;exact⟨x,zC h1 h,q⟩
def Ay{f:SF}{as:AS}{i:Nat}{o:O}{Q:O->Prop}(h:as[i]? = some (some o))(k:Rq (f (as.set i (some o.frz))) Q):Rq (K8 i f as) Q:=by
 unfold K8;rw[h];exact k
def Ca{c h:Int}{w:Nat}(hw:w<=4){f:SF}{Q:O->Prop}(K:∀P:Par,POk P->P.w=w->P.h=h->Rq (f (Z P none none none none none none none none none none none none none none none none none)) Q):
 Rq ((zg (zo true 3 (zt (aC zu (aC (f2 yp (f2 yR zJ zX) zD) aN)) xh))
 (zg (zo true 4 (zt (aC zG (aC (fC (.int 13)) aN)) xh))
 (zg (TH (zt (aC (f2 zL yh zy) aN) Zx) (gT 4 (wI (gN 5) (wI (gN 6) (wI (gN 7) (wI (gN 8) RP))))))
 (zg (zo true 9 (f2 (f2 yp (f2 (f2 zM yh zy) wF zm) zD) (f2 yR (fP (aC (f2 (f2 (f2 (f2 zM yh zy) wF ze) Yx zm) Ug (zB .Eq)) aN) YB) zX) zD))
 (zg (zo true 10 (f2 xa (fV 8) zX)) f))))) (yk 28 [(true,.int c),(true,.int h),(true,.int w)])) Q:=by
 have w1:=yg (as:=yk 28 [(true,.int c),(true,.int h),(true,.int w)]) (zb (x:=.int 1)) (xo (zb (x:=.int 2)) (za (i:=2) rfl) (zE (by decide) (by decide)) (zE (by omega) (by omega)));rw[show 1+2*w=((1+2*w:Nat):Int) by omega]at w1;obtain⟨xs,xl,xS,wx⟩:=qc (by omega) (WD.e (za (i:=0) rfl)) (WD.e w1);obtain⟨ys,yl,yS,wy⟩:=qc (m:=13) (as:=[sI c,sI h,sI w,sT (zk xs),none,none,none,none,none,none,none,none,none,none,none,none,none,none,none,none,none,none,none,none,none,none,none,none]) (by omega) (WD.e (za (i:=1) rfl)) (WD.e zb);obtain⟨x0,a0,b0⟩:=at2 xS (k:=0) (by omega) (by omega);obtain⟨y0,c0,d0⟩:=at2 yS (k:=0) (by omega) (by omega);obtain⟨k,n,k2,n2,h1,h2,h3,h4,h5⟩:=Hg;have hm0:1<=1+y0%4+2*(if(y0/4%8==5)=true then 1 else 0)/\1+y0%4+2*(if(y0/4%8==5)=true then 1 else 0)<=6:=by split<;>omega
 obtain⟨m,hm⟩:∃m:Nat,m=1+y0%4+2*(if(y0/4%8==5)=true then 1 else 0):=⟨(1+y0%4+2*(if(y0/4%8==5)=true then 1 else 0)).toNat,by omega⟩;have P1:POk ⟨c,h,w,xs,ys,k,n,k2,n2,m⟩:=⟨h1,h2,h3,h4,by show 1<=m;omega,by show m<=6;omega,hw,xl,xS,yl,yS⟩;have A8:n<=8:=P1.a8;have B8:n2<=8:=P1.b8;have y4:WD (f2 zM yh zy) [sI c,sI h,sI w,sT (zk xs),sT (zk ys),sI k,sI n,sI k2,sI n2,none,none,none,none,none,none,none,none,none,none,none,none,none,none,none,none,none,none,none] true (.int y0):=ym (za rfl) zb c0 rfl;have s9:=zS (st:=true) (i:=9) (yg (yg (zb (x:=.int 1)) (zP y4 (zb (x:=.int 4)) (by decide))) (xo (zb (x:=.int 2)) (wR (g:=YB) (zf (Qz (zP (yB y4 (zb (x:=.int 4)) (by decide) (zE (by decide) (by decide))) (zb (x:=.int 8)) (by decide)) (zb (x:=.int 5)) rfl) zz) rfl rfl) (zE (by decide) (by decide)) (by split<;>exact zE (by decide) (by decide)))) (zh rfl);rw[<-hm]at s9;have s10:=zS (st:=true) (i:=10) (as:=[sI c,sI h,sI w,sT (zk xs),sT (zk ys),sI k,sI n,sI k2,sI n2,sI m,none,none,none,none,none,none,none,none,none,none,none,none,none,none,none,none,none,none]) (xo (za (i:=6) rfl) (za (i:=8) rfl) (zE (by omega) (by omega)) (zE (by omega) (by omega))) (zh rfl);rw[<-zzV]at s10;exact xQ (xU wx (zh rfl)) (xQ (xU wy (zh rfl)) (xQ (Im (Z5 (Ie (WD.e (za rfl)) (WD.e zb) a0) h5) rfl) (xQ s9 (xQ s10 (K ⟨c,h,w,xs,ys,k,n,k2,n2,m⟩ P1 rfl rfl)))))
def Su{P:Par}(h:POk P){f:SF}{Q:O->Prop}(K:∀(F:List Int) (e11 e13:Option O),F.Perm (Vn P.N)->Rq (f (Z P e11 (sT (zk F)) e13 none none none none none none none none none none none none none none)) Q):
 Rq ((zg (zo false 11 (fP (aC (fV 10) aN) u5))
 (zg (zo false 12 (yK dN))
 (zg (yo (ye (aC (fV 10) aN) yj) (gN 13) (yq (xO 12 (dC (xO 11 (dC (f2 (f2 zM (f2 yp (fV 13) zD) zy) (fP (aC MR aN) Uc) zm) dN) Xb) dN) wg)))
 (K8 12 f)))) (Z P none none none none none none none none none none none none none none none none none)) Q:=by
 have N8:=h.n8;obtain⟨as',hf,L,F,e13,rfl,hp,hlen⟩:=yN (g:=gN 13)
  (λi as=>∃(L F:List Int) (e13:Option O),as=Z P (sN (L.map xX)) (sN (F.map xX)) e13 none none none none none none none none none none none none none none/\(L++F).Perm (Vn P.N)/\L.length+i=P.N)
  (yT 0 P.N) 0 (Z P (sN ((Vn P.N).map xX)) (sN []) none none none none none none none none none none none none none none none) (λi x as hx' hI=>by
   obtain⟨L,F,e13,rfl,hp,hlen⟩:=hI;obtain⟨rfl,hi⟩:=yO hx';obtain⟨y,a1,b1⟩:=at2 h.yS (k:=1+(0+i)) (by omega) (by rw[h.yl];have:i<P.n*P.n2:=hi;omega);have hL0:0<L.length:=by have:i<P.N:=hi;omega
   have hL8:=zzO (show L.length<=P.N by omega) N8;have l0:(0:Int)<((L.map xX).length:Int):=by rw[zzB];omega
   have z0:=zyN y (show((L.map xX).length:Int)≠0 by omega);have z1:=zyH y l0;have hk:(y%((L.map xX).length:Int)).toNat<L.length:=by rw[zzB]at z0 z1 ⊢;omega
   generalize hkk:(y%((L.map xX).length:Int)).toNat=k at hk;have pop:=Sq (as:=Z P (sN (L.map xX)) (sN (F.map xX)) (sI (0+i)) none none none none none none none none none none none none none none) (i:=11) rfl (zP (ym (za (i:=4) rfl) (yg zb (za (i:=13) rfl)) a1 rfl) (DI (i:=11) rfl) l0) z0 z1 (by rw[zzB];exact Nat.lt_of_le_of_lt hL8 (by decide)) (by rw[hkk,zzI,zzE hk];rfl);rw[hkk,show(L.map xX).eraseIdx k=(L.eraseIdx k).map xX by rw[List.eraseIdx_eq_take_drop_succ,List.eraseIdx_eq_take_drop_succ,zyM,List.map_take,List.map_drop]]at pop;have hF:F.length<=8:=by
    have e:=hp.length_eq;rw[zzJ,zzB,zyU]at e;have:P.N<=8:=N8;omega
   have ap:=Vu (i:=12) rfl pop rfl (by rw[zzB];exact zQ (by omega));rw[<-YW]at ap;refine⟨Z P (sN (L.map xX)) (sN (F.map xX)) (sI (0+i)) none none none none none none none none none none none none none none,rfl,_,ap,L.eraseIdx k,F++[L[k]],_,rfl, ?_,by rw[List.length_eraseIdx_of_lt hk];omega⟩;rw[<-zxD];refine(List.perm_append_singleton _ _).trans ?_;rw[<-List.cons_append];exact((Re L k hk).append_right F).trans hp)
  ⟨Vn P.N,[],none,rfl,by rw[zyE],by rw[zzB,zyU];rfl⟩
 rw[yr]at hlen;have hL:L=[]:=List.eq_nil_of_length_eq_zero (by omega);subst hL;have s2:=yz (i:=11) (as:=Z P none none none none none none none none none none none none none none none none none) (Na (g:=u5) (zs:=(Vn P.N).map D.int) (WD.e (za (i:=10) rfl)) (by
  show(if(0:Int)<=P.N/\_<=100000 then _ else _)=_;rw[if_pos ⟨by omega,by have:P.N<=8:=N8;omega⟩,zyB];rfl)) (zh rfl)
 rw[Mb]at s2;have hfz:(O.nd .ls (F.map xX)).frz = .lf true (zk F):=by
  show O.lf (O.nd .ls _).str (O.nd .ls _).toD=_;rw[(YY F).1,(YY F).2]
 refine xQ s2 (xQ (yz (v5 zR (YQ rfl)) (zh rfl)) (xQ (yQ (yX (zf (za rfl) zz) (by omega) (by have:P.N<=8:=N8;omega)) (by rw[zyI];exact hf)) (Ay rfl ?_)));rw[hfz];exact K F _ _ hp
open L2 (zQ)
abbrev Par.j(P:Par):Int->Int->Int:=jB P.n2 (jK P.k P.n) (jK P.k2 P.n2)
abbrev Par.e(P:Par):Int:=eK P.k*P.n2+eK P.k2
def POk.lj{P:Par}(h:POk P):LJ P.N P.j P.e:=qY (OA h.k1) (OA h.k2) h.p2
def Pz{as:AS}{F:List Int}{i:Nat}{fi:IF}{xs:List Yt}(hF:F.length<=8)(hx:xs.length<=8)(h1:fi as=some (xs,as))(h2:∀y ∈ xs,∃d,y=(true,d))(hc:∀d:D,gN 0 (true,d) (Y2 [none,some i] as)=some [sT d,sT (zk F)]):
 ya fi [none,some i] xI yH (ya (vh zG) [none] xI yH yh) as=some (.ow (wz (List.replicate xs.length (List.replicate F.length (0:Int)))),as):=by
 refine XQ h1 (S9 (by omega)) (G8 xs λy m=>?_);obtain⟨d,rfl⟩:=h2 y m;refine⟨_,hc d, ?_⟩;have e:=Kw (as0:=[none]) (F.map D.int) (λd=>⟨_,rfl⟩);rw[zzB]at e;exact XQ (PL (WD.e (za rfl))) (S9 (by rw[zzB,zzB];omega)) e
def H9{P:Par}(h:POk P){F:List Int}(hF:F.Perm (Vn P.N)){e11 e13:Option O}{f:SF}{Q:O->Prop}(K:∀(J:TZ) (e15 e16 e17:Option O),Tab P.N P.N J->(∀a b,zH P.N a->zH P.N b->yW J (ZJ F a) (ZJ F b)=ZJ F (P.j a b))->Rq (f (Z P e11 (sT (zk F)) e13 (some (wz J)) e15 e16 e17 none none none none none none none none none none)) Q):
 Rq ((zg (zo false 14 (ya (vh (fV 12)) [none,some 12] xI yH (ya (vh zG) [none] xI yH yh)))
 (zg (yo (ye (aC (fV 10) aN) yj) (gN 15) (yo (ye (aC (fV 10) aN) yj) (gN 16) (zg (zo true 17 (f2 (zt (aC yA (aC xa (aC (f2 (fV 15) (fV 8) ze) (aC (f2 (fV 16) (fV 8) ze) aN)))) yi) (fV 8) zX))
 (zg (zo true 17 (f2 (fV 17) (zt (aC wU (aC (fV 8) (aC (f2 (fV 15) (fV 8) zm) (aC (f2 (fV 16) (fV 8) zm) aN)))) yi) zD))
 (Xo 14 (Ly 12 (xV 15)) (Ly 12 (xV 16)) (Ly 12 (xV 17)))))))
 f)) (Z P e11 (sT (zk F)) e13 none none none none none none none none none none none none none none)) Q:=by
 have N8:P.N<=8:=h.n8;have N1:=h.N1;have p2:=h.p2;have b8:=h.b8;have a8:=h.a8;obtain⟨hR,_⟩:=vX hF;have hl:=hR.1;have hz:=Pz (as:=Z P e11 (sT (zk F)) e13 none none none none none none none none none none none none none none) (i:=12) (by omega) (by rw[zzB,zzB];omega) (PL (WD.e (za (i:=12) rfl))) (λy m=>by
  obtain⟨d,_,rfl⟩:=zxE.mp m;exact⟨d,rfl⟩) (λd=>rfl)
 rw[zzB,zzB,hl]at hz;have lj:=h.lj;have lk1:=OA h.k1;have lk2:=OA h.k2;have pN:∀a,zH P.N a->zH P.N (ZJ F a):=λa ha=>(rowAt hR ha).2;have pi:∀a a',zH P.N a->zH P.N a'->ZJ F a=ZJ F a'->a=a':=λa a' ha ha' e=>KW hF ha ha' e;obtain⟨J,e15,e16,e17,hf,t1,t2⟩:=N6 (v:=15) (S:=λT x y z=>Z P e11 (sT (zk F)) e13 (some (wz T)) x y z none none none none none none none none none none) (F:=yo (ye (aC (fV 10) aN) yj) (gN 16) (zg (zo true 17 (f2 (zt (aC yA (aC xa (aC (f2 (fV 15) (fV 8) ze) (aC (f2 (fV 16) (fV 8) ze) aN)))) yi) (fV 8) zX))
  (zg (zo true 17 (f2 (fV 17) (zt (aC wU (aC (fV 8) (aC (f2 (fV 15) (fV 8) zm) (aC (f2 (fV 16) (fV 8) zm) aN)))) yi) zD))
  (Xo 14 (Ly 12 (xV 15)) (Ly 12 (xV 16)) (Ly 12 (xV 17)))))) pN pi pN (λ_ _ _ _ _=>rfl) (λT a y z hT ha=>by
   obtain⟨T',y',z',k1,k2,k3,k4⟩:=Sd (v:=16) (S:=λT y z=>Z P e11 (sT (zk F)) e13 (some (wz T)) (sI a) y z none none none none none none none none none none) (pN a ha) pN pi (λb hb=>pN _ (lj.cl a b ha hb)) (λ_ _ _ _=>rfl) (λT b z hT hb=>by
    have ua:=zW p2 ha;have ub:=zW p2 hb;have c1:=lk1.cl _ _ ua.1 ub.1;have j1:=W0 h.k1 ua.1 ub.1;have j2:=W0 h.k2 ua.2 ub.2;have b2:(P.n2:Int).natAbs<big:=zE (by omega) (by omega);have s1:=zS (st:=true) (i:=17) (as:=Z P e11 (sT (zk F)) e13 (some (wz T)) (sI a) (sI b) z none none none none none none none none none none) (xo (xN (zf (za (i:=5) rfl) (zf (za (i:=6) rfl) (zf (yB (za (i:=15) rfl) (za (i:=8) rfl) (by omega) b2) (zf (yB (za (i:=16) rfl) (za (i:=8) rfl) (by omega) b2) zz)))) j1) (za (i:=8) rfl) (zE (by have:=c1.1;omega) (by have:=c1.2;omega)) b2) (zh rfl);have s2:=zS (st:=true) (i:=17) (as:=Z P e11 (sT (zk F)) e13 (some (wz T)) (sI a) (sI b) (sI (jK P.k P.n (a/P.n2) (b/P.n2)*P.n2)) none none none none none none none none none none) (yg (za (i:=17) rfl) (xN (zf (za (i:=7) rfl) (zf (za (i:=8) rfl) (zf (zP (za (i:=15) rfl) (za (i:=8) rfl) (by omega)) (zf (zP (za (i:=16) rfl) (za (i:=8) rfl) (by omega)) zz)))) j2)) (zh rfl);exact⟨_,zC s1 (zC s2 (GP (i:=14) (T:=T) hT (pN a ha) (pN b hb) (Fv (i:=12) rfl (wA (i:=15) rfl) hR ha) (Fv (i:=12) rfl (wA (i:=16) rfl) hR hb) (Fv (i:=12) rfl (wA (i:=17) rfl) hR (lj.cl a b ha hb)) rfl))⟩) hT
   refine⟨T',y',z', ?_,k2,k3,k4⟩;rw[yY rfl (by omega)];exact k1) (Kj N1)
 refine xQ (yz hz (zh rfl)) (xQ (yQ (yX (zf (za rfl) zz) (by omega) (by omega)) (by rw[zyI];exact hf)) (K J e15 e16 e17 t1 t2))
open L2 (zQ)
def perm_back{F:List Int}{n:Nat}(h:F.Perm (Vn n)):∃B:Int->Int,(∀a,zH n a->zH n (B a))/\∀a,zH n a->ZJ F (B a)=a:=by
 obtain⟨hR,hm⟩:=vX h;refine⟨λa=>(F.idxOf a:Nat),λa ha=>?_,λa ha=>?_⟩
 . have:=List.idxOf_lt_length_of_mem (hm a ha.1 ha.2);rw[hR.1]at this;exact⟨Int.natCast_nonneg _,Int.ofNat_lt.mpr this⟩
 . have hl:=List.idxOf_lt_length_of_mem (hm a ha.1 ha.2);rw[Yy (by rw[zyI];exact hl)];simp only[zyI];exact List.getElem_idxOf hl
abbrev Good(P:Par)(F:List Int)(J:TZ)(p:Str×TZ):Prop:=Tab P.m P.N p.2/\LD P.N P.m (yW J) (ZJ F P.e) (yW p.2)
abbrev Y(P:Par)(F:List Int)(J:TZ)(e11 e16:Option O)(ss:List Str)(os:List O)(e13 e15 e17 e20 e21 e22 e23:Option O):AS:=Z P e11 (sT (zk F)) e13 (some (wz J)) e15 e16 e17 (sT (.lst (ss.map D.str))) (sN os) e20 e21 e22 e23 none none none none
abbrev qq:SF:=(zg (zo true 17 (f2 (f2 (fV 20) (fV 23) zy) (f2 (fV 15) (fV 8) ze) zy))
 (zg (zo true 17 (f2 (f2 (fV 17) (fV 8) zX) (f2 (f2 (fV 21) (fV 23) zy) (f2 (fV 15) (fV 8) zm) zy) zD))
 (Xo 22 (xV 23) (Ly 12 (xV 15)) (Ly 12 (xV 17)))))
def FV{P:Par}(h:POk P){F:List Int}(hF:F.Perm (Vn P.N)){J T1 T2:TZ}{e11 e16:Option O}{ss:List Str}{os:List O}{e13 e15 e17 e23:Option O}(t1:Tab P.m P.n T1)(t2:Tab P.m P.n2 T2)(l1:LD P.n P.m (jK P.k P.n) (eK P.k) (yW T1))(l2:LD P.n2 P.m (jK P.k2 P.n2) (eK P.k2) (yW T2)):
 ∃(T:TZ) (x y z:Option O),forL (gN 23) (yo (ye (aC (fV 10) aN) yj) (gN 15) qq) (yT 0 P.m) (Y P F J e11 e16 ss os e13 e15 e17 (sT (zU T1)) (sT (zU T2)) (some (wz (List.replicate P.m (List.replicate P.N 0)))) e23)=some (.nx (Y P F J e11 e16 ss os e13 y z (sT (zU T1)) (sT (zU T2)) (some (wz T)) x))/\Tab P.m P.N T/\∀c a,zH P.m c->zH P.N a->yW T c (ZJ F a)=ZJ F (dB P.n2 (yW T1) (yW T2) c a):=by
 have N8:P.N<=8:=h.n8;have N1:=h.N1;have p2:=h.p2;have b8:=h.b8;have a8:=h.a8;obtain⟨hR,_⟩:=vX hF;have ld:=qg (OA h.k1) (OA h.k2) p2 l1 l2;have pN:∀a,zH P.N a->zH P.N (ZJ F a):=λa ha=>(rowAt hR ha).2;have pi:∀a a',zH P.N a->zH P.N a'->ZJ F a=ZJ F a'->a=a':=λa a' ha ha' e=>KW hF ha ha' e;exact N6 (S:=λT x y z=>Y P F J e11 e16 ss os e13 y z (sT (zU T1)) (sT (zU T2)) (some (wz T)) x) (λ_ ha=>ha) (λ_ _ _ _ e=>e) pN (λ_ _ _ _ _=>rfl) (λT c y z hT hc=>by
  obtain⟨T',y',z',k1,k2,k3,k4⟩:=Sd (v:=15) (S:=λT y z=>Y P F J e11 e16 ss os e13 y z (sT (zU T1)) (sT (zU T2)) (some (wz T)) (sI c)) hc pN pi (λa ha=>pN _ (ld.cl c a hc ha)) (λ_ _ _ _=>rfl) (λT a z hT ha=>by
   have ua:=zW p2 ha;have b2:(P.n2:Int).natAbs<big:=zE (by omega) (by omega);obtain⟨q1,r1⟩:=v8 (as:=Y P F J e11 e16 ss os e13 (sI a) z (sT (zU T1)) (sT (zU T2)) (some (wz T)) (sI c)) t1 hc ua.1 (za (i:=20) rfl) (za (i:=23) rfl) (yB (za (i:=15) rfl) (za (i:=8) rfl) (by omega) b2);have s1:=zS (st:=true) (i:=17) q1 (zh rfl);obtain⟨q2,r2⟩:=v8 (as:=Y P F J e11 e16 ss os e13 (sI a) (sI (yW T1 c (a/P.n2))) (sT (zU T1)) (sT (zU T2)) (some (wz T)) (sI c)) t2 hc ua.2 (za (i:=21) rfl) (za (i:=23) rfl) (zP (za (i:=15) rfl) (za (i:=8) rfl) (by omega));have s2:=zS (st:=true) (i:=17) (yg (xo (za (i:=17) rfl) (za (i:=8) rfl) (zE (by have:=r1.1;omega) (by have:=r1.2;omega)) b2) q2) (zh rfl);exact⟨_,zC s1 (zC s2 (GP (i:=22) hT hc (pN a ha) (wA (i:=23) rfl) (Fv (i:=12) rfl (wA (i:=15) rfl) hR ha) (Fv (i:=12) rfl (wA (i:=17) rfl) hR (ld.cl c a hc ha)) rfl))⟩) hT
  refine⟨T',y',z', ?_,k2,k3,k4⟩;rw[yY rfl (by omega)];exact k1) (Kj N1)
abbrev rZ:SF:=(zg (zo true 20 (zt (aC yA (aC xa (aC (fV 9) (aC (f2 zL (f2 yp (f2 yR (fV 13) zX) zD) zy) aN)))) xv))
 (zg (zo true 21 (zt (aC wU (aC (fV 8) (aC (fV 9) (aC (f2 zL (f2 yR (f2 yR (fV 13) zX) zD) zy) aN)))) xv))
 (zg (zo false 22 (ya (ye (aC (fV 9) aN) yj) [none,some 12] xI yH (ya (vh zG) [none] xI yH yh)))
 (zg (yo (ye (aC (fV 9) aN) yj) (gN 23) (yo (ye (aC (fV 10) aN) yj) (gN 15) qq))
 (yq (xO 19 (dC (yf (dC (f2 (fV 18) (fV 13) zy) (dC (fV 22) dN))) dN) wg))))))
def take_snoc{α:Type}{l:List α}{i:Nat}{a:α}(h:l[i]? = some a):l.take (i+1)=l.take i++[a]:=by rw[List.take_succ,h];rfl
def Ba{P:Par}(h:POk P){F:List Int}(hF:F.Perm (Vn P.N)){J:TZ}(hJ:∀a b,zH P.N a->zH P.N b->yW J (ZJ F a) (ZJ F b)=ZJ F (P.j a b)){e11 e16:Option O}{ss:List Str}(hs:ss.length=10){i:Nat}(hi:i<P.w){os:List O}{Ds:DD}(ho:Ows x_ (Good P F J) os Ds)(hD:Ds.map (·.1)=ss.take i){e15 e17 e20 e21 e22 e23:Option O}:
 ∃(os':List O) (Ds':DD) (e15' e17' e20' e21' e22' e23':Option O),rZ (Y P F J e11 e16 ss os (sI i) e15 e17 e20 e21 e22 e23)=some (.nx (Y P F J e11 e16 ss os' (sI i) e15' e17' e20' e21' e22' e23'))/\Ows x_ (Good P F J) os' Ds'/\Ds'.map (·.1)=ss.take (i+1):=by
 have N8:=h.n8;have w4:=h.w4;have m1:=h.m1;have m6:=h.m6;obtain⟨hR,_⟩:=vX hF;have hxl:=h.xl;obtain⟨x1,a1,b1⟩:=at2 h.xS (k:=1+2*i) (by omega) (by omega);obtain⟨x2,a2,b2⟩:=at2 h.xS (k:=2+2*i) (by omega) (by omega);obtain⟨T1,t1,l1,r1⟩:=Rc h.k1 h.a8 m1 (by omega) b1;obtain⟨T2,t2,l2,r2⟩:=Rc h.k2 h.b8 m1 (by omega) b2;have bi:(i:Int).natAbs<big:=zE (by omega) (by omega);have s20:=xU (p:=20) (as:=Y P F J e11 e16 ss os (sI i) e15 e17 e20 e21 e22 e23) (Sx (WD.e (za (i:=5) rfl)) (WD.e (za (i:=6) rfl)) (WD.e (za (i:=9) rfl)) (WD.e (ym (za (i:=3) rfl) (yg (zb) (xo (zb) (za (i:=13) rfl) (zE (by decide) (by decide)) bi)) a1 rfl)) r1) (zh rfl);have s21:=xU (p:=21) (as:=Y P F J e11 e16 ss os (sI i) e15 e17 (sT (zU T1)) e21 e22 e23) (Sx (WD.e (za (i:=7) rfl)) (WD.e (za (i:=8) rfl)) (WD.e (za (i:=9) rfl)) (WD.e (ym (za (i:=3) rfl) (yg (zb) (xo (zb) (za (i:=13) rfl) (zE (by decide) (by decide)) bi)) a2 rfl)) r2) (zh rfl);have hz:=Pz (i:=12) (xs:=yT 0 P.m) (by rw[hR.1];exact N8) (by rw[yr];omega) (by
  have:=yX (as:=Y P F J e11 e16 ss os (sI i) e15 e17 (sT (zU T1)) (sT (zU T2)) e22 e23) (zf (za (i:=9) rfl) zz) (by omega) (by omega);rw[zyI]at this;exact this) (λy m=>by
  obtain⟨b,rfl,_,_⟩:=M_ m;exact⟨_,rfl⟩) (λd=>rfl)
 rw[yr,hR.1]at hz;have s22:=yz (i:=22) hz (zh rfl);obtain⟨T,x,y,z,hf,q1,q2⟩:=FV h hF t1 t2 l1 l2;rw[<-yY (v:=9) rfl (by omega)]at hf;obtain⟨s,hsi⟩:∃s,ss[i]? = some s:=⟨ss[i]'(by omega),zzE (by omega)⟩;have wn:WD (f2 (fV 18) (fV 13) zy) (Y P F J e11 e16 ss os (sI i) y z (sT (zU T1)) (sT (zU T2)) (some (wz T)) x) true (.str s):=yM (za rfl) (za rfl) (V1 hsi);have hb:=LV (j:=22) (as:=Y P F J e11 e16 ss os (sI i) y z (sT (zU T1)) (sT (zU T2)) (some (wz T)) x) (fr:=dN) rfl rfl;have ap:=Vu (i:=19) rfl (Ut (yD wn hb) (YQ rfl)) rfl (by
  rw[ho.ln];have:=congrArg List.length hD;rw[zzB,zzS]at this;exact zQ (by omega))
 rw[N4]at ap;obtain⟨B,b1',b2'⟩:=perm_back hF;have ld:=qg (OA h.k1) (OA h.k2) h.p2 l1 l2;have hg:Good P F J (s,T):=⟨q1,qM h.m1 h.lj ld (λa ha=>(rowAt hR ha).2) b1' b2' hJ q2⟩;refine⟨_,Ds++[(s,T)],_,_,_,_,_,_,zC s20 (zC s21 (zC s22 (zC hf ap))),ho.snoc rfl rfl hg, ?_⟩;rw[zyM,hD,take_snoc hsi];rfl
def He{P:Par}(h:POk P){F:List Int}(hF:F.Perm (Vn P.N)){J:TZ}(hJ:∀a b,zH P.N a->zH P.N b->yW J (ZJ F a) (ZJ F b)=ZJ F (P.j a b)){e11 e13 e15 e16 e17:Option O}{f:SF}{Q:O->Prop}
 (K:∀(ss:List Str) (os:List O) (Ds:DD) (e13 e15 e17 e20 e21 e22 e23:Option O),ss.length=10->ss.Nodup->(∀s ∈ ss,GY (.str s)=true)->Ows x_ (Good P F J) os Ds->Ds.map (·.1)=ss.take P.w->Rq (f (Y P F J e11 e16 ss os e13 e15 e17 e20 e21 e22 e23)) Q):
 Rq ((zg (zo true 18 (zt (aC (f2 zG (fC (.int 7)) ze) (aC (fC (.int 10)) aN)) Zw))
 (zg (zo false 19 (yK dN))
 (zg (yo (ye Ve yj) (gN 13) rZ)
 f))) (Z P e11 (sT (zk F)) e13 (some (wz J)) e15 e16 e17 none none none none none none none none none none)) Q:=by
 have w4:=h.w4;obtain⟨ss,s1,s2,s2p,s3⟩:=BZ;obtain⟨as',hf,os,Ds,e13',e15',e17',e20',e21',e22',e23',rfl,ho,hD⟩:=yN (g:=gN 13)
  (λi as=>∃(os:List O) (Ds:DD) (e13 e15 e17 e20 e21 e22 e23:Option O),as=Y P F J e11 e16 ss os e13 e15 e17 e20 e21 e22 e23/\Ows x_ (Good P F J) os Ds/\Ds.map (·.1)=ss.take i)
  (yT 0 P.w) 0 (Y P F J e11 e16 ss [] e13 e15 e17 none none none none) (λi x as hx hI=>by
   obtain⟨os,Ds,e13,e15,e17,e20,e21,e22,e23,rfl,ho,hD⟩:=hI;obtain⟨rfl,hi⟩:=yO hx;rw[zyY]at hD;rw[Int.zero_add,zyY];obtain⟨os',Ds',a15,a17,a20,a21,a22,a23,k1,k2,k3⟩:=Ba h hF hJ s1 hi ho hD;exact⟨_,rfl,_,k1,os',Ds',_,_,_,_,_,_,_,rfl,k2,k3⟩)
  ⟨[],[],_,_,_,_,_,_,_,rfl,Ows.nil,rfl⟩
 rw[yr,zyY]at hD;exact xQ (xU (Qt (WD.e (yB (za rfl) (zb) (by decide) (zE (by decide) (by decide)))) (WD.e (zb)) s3) (zh rfl)) (xQ (yz (v5 zR (YQ rfl)) (zh rfl)) (xQ (yQ (yX (zf (za rfl) zz) (by omega) (by omega)) (by rw[zyI];exact hf)) (K ss os Ds _ _ _ _ _ _ _ s1 s2 s2p ho hD)))
open L2 (zQ)
def held(n:Nat)(b:Int):List Int:=((List.range n).filter λi=>b/2 ^ i%2==1).map λ(i:Nat)=>(i:Int)
abbrev Dd(p:Str×List Int):O:=.lf true (y_ p)
theorem Ti:∀S:SS,(S.map Dd).all O.isLf=true/\O.strs (S.map Dd)=true/\O.toDs (S.map Dd)=S.map y_
 | []=>⟨rfl,rfl,rfl⟩
 |p::r=>⟨(Ti r).1,(Ti r).2.1,congrArg (y_ p :: ·) (Ti r).2.2⟩
def Hk{os:List O}(hs:O.strs os=true):(ZU os).str=true/\(ZU os).toD = .tup (O.toDs os):=by
 unfold ZU
 split
 . exact⟨hs,rfl⟩
 . exact⟨hs,rfl⟩
def Dy{P:Par}(h:POk P){b:Int}{as:AS}(h1:as[10]? = some (sI P.N))(h2:∀d:D,gN 0 (true,d) (Y2 [none,some 25] as)=some [sT d,sI b]):
 WE (ya (ye (aC (fV 10) aN) yj) [none,some 25] xI (fT (f2 (f2 (f2 zG (f2 yp zu Sw) ze) yR zm) yp (zB .Eq))) zu) as (zk (held P.N b)):=by
 have N8:P.N<=8:=h.n8;have:=A6 (p:=λi=>b/2 ^ i%2==1) (List.range P.N) (by
  have:=yX (zf (za h1) zz) (show(0:Int)<=P.N by omega) (by omega);rw[zyI]at this;exact this) (by rw[zyU];omega) (λi hi=>by
   have hi:=List.mem_range.mp hi;rw[Int.zero_add];have p0:(0:Int)<2 ^ i:=Int.pow_pos (by decide);have p1:(2:Int) ^ i<1000:=by
    rcases(show i=0\/i=1\/i=2\/i=3\/i=4\/i=5\/i=6\/i=7 by omega)with rfl|rfl|rfl|rfl|rfl|rfl|rfl|rfl<;>decide
   have ws:WD (f2 yp zu Sw) [sI i,sI b] true (.int (2 ^ i)):=ym zb (za rfl) (by
    show(if(0:Int)<=i/\_<=1000000/\(1:Int).natAbs<2 ^ 64 then some _ else none)=_;rw[if_pos ⟨by omega,by omega,by decide⟩,zyI,Int.one_mul]) rfl
   exact⟨_,h2 _,eqT (zP (yB (za (i:=1) rfl) ws p0 (zE (by omega) (by omega))) zb (by decide)) zb rfl,λ_=>WD.e (za (i:=0) rfl)⟩)
 unfold held;rw[show D.lst (((List.range P.N).filter λi=>b/2 ^ i%2==1).map λ(i:Nat)=>D.int i)=zk (((List.range P.N).filter λi=>b/2 ^ i%2==1).map λ(i:Nat)=>i) by show _=D.lst _;rw[zyB];rfl]at this;exact this
abbrev V(P:Par)(F:List Int)(J:TZ)(ss:List Str)(os:List O)(e11 e15 e16 e17 e20 e21 e22 e23:Option O)(S:SS)(e13 e25 e26 e27:Option O):AS:=Z P e11 (sT (zk F)) e13 (some (wz J)) e15 e16 e17 (sT (.lst (ss.map D.str))) (sN os) e20 e21 e22 e23 (sN (S.map Dd)) e25 e26 e27
abbrev qu:SF:=(zg (zo true 25 (f2 zM (f2 (fC (.int 9)) (fV 13) zD) zy))
 (zg (zo true 26 (ya (ye (aC (fV 10) aN) yj) [none,some 25] xI (fT (f2 (f2 (f2 zG (f2 yp zu Sw) ze) yR zm) yp (zB .Eq))) zu))
 (yq (xO 24 (dC (yf (dC (f2 (fV 18) (f2 (fV 13) (f2 wF (f2 (f2 (fV 25) (fC (.int 512)) ze) yR zm) zX) zD) zy) (dC (fV 26) dN))) dN) wg))))
abbrev tP(P:Par)(ss:List Str)(i:Nat)(S:SS):Prop:=S.length=i/\(S.map (·.1)).Nodup/\∀p ∈ S,(∃b,p.2=held P.N b)/\∃j,j%4<i/\j<7/\ss[j]? = some p.1
def Sb{P:Par}(h:POk P){F:List Int}{J:TZ}{ss:List Str}(hs:ss.length=10)(hn:ss.Nodup){os:List O}{e11 e15 e16 e17 e20 e21 e22 e23 e25 e26 e27:Option O}{S:SS}{i:Nat}(hi:i<3)(hI:tP P ss i S):
 ∃(S':SS) (e25' e26':Option O),qu (V P F J ss os e11 e15 e16 e17 e20 e21 e22 e23 S (sI i) e25 e26 e27)=some (.nx (V P F J ss os e11 e15 e16 e17 e20 e21 e22 e23 S' (sI i) e25' e26' e27))/\tP P ss (i+1) S':=by
 obtain⟨i1,i2,i3⟩:=hI;obtain⟨b,a1,b1⟩:=at2 h.yS (k:=9+i) (by omega) (by rw[h.yl];omega);have q0:=zyN (b/512) (show 2≠0 by decide);have q1:=zyH (b/512) (show 0<2 by decide);have hw:=Dy h (as:=V P F J ss os e11 e15 e16 e17 e20 e21 e22 e23 S (sI i) (sI b) e26 e27) rfl (λd=>rfl);obtain⟨j,ej⟩:∃j:Nat,j=i+4*(b/512%2):=⟨(i+4*(b/512%2)).toNat,by omega⟩;have hj:ss[j]? = some (ss[j]'(by omega)):=zzE (by omega);have wi:=yg (as:=V P F J ss os e11 e15 e16 e17 e20 e21 e22 e23 S (sI i) (sI b) (sT (zk (held P.N b))) e27) (za (i:=13) rfl) (xo (zb (x:=.int 4)) (zP (yB (za (i:=25) rfl) (zb (x:=.int 512)) (by decide) (zE (by decide) (by decide))) (zb (x:=.int 2)) (by decide)) (zE (by decide) (by decide)) (zE (by omega) (by omega)));rw[<-ej]at wi;have ap:=Vu (i:=24) rfl (GT (zw (yM (za (i:=18) rfl) wi (V1 hj)) (zw (za (i:=26) rfl) zR)) (YQ rfl)) rfl (by rw[zzB,i1];exact zQ (by omega));rw[show S.map Dd++[ZU [O.lf true (.str (ss[j]'(by omega))),O.lf true (zk (held P.N b))]]=(S++[((ss[j]'(by omega)),held P.N b)]).map Dd by rw[zyM];rfl]at ap;refine⟨_,_,_,zC (zS (ym (za rfl) (yg zb (za rfl)) a1 rfl) (zh rfl)) (zC (xU hw (zh rfl)) ap),by rw[zzJ,i1];rfl, ?_,λp m=>?_⟩
 . rw[zyM];refine zxF.mpr ⟨i2,zzW.mpr ⟨zxC,zyJ⟩,λx mx y my e=>?_⟩;obtain⟨p,mp,rfl⟩:=zxE.mp mx;obtain⟨_,j',j1,j2,j3⟩:=i3 p mp;have my:=zzR.mp my;subst my;have hj':=zzG.mp j3;obtain⟨l',e'⟩:=hj';have:ss[j']=ss[j]'(by omega):=e'.trans e;have:=(List.getElem_inj hn).mp this;omega
 . rcases zzM.mp m with m|m
   . obtain⟨z1,j',j1,j2,j3⟩:=i3 p m;exact⟨z1,j',by omega,j2,j3⟩
   . rw[zzR.mp m];exact⟨⟨b,rfl⟩,j,by omega,by omega,hj⟩
noncomputable def WH(n m:Nat)(J:TZ)(e:Int)(Ds:DD)(S:SS):O:=.nd .tp [xX n,xX m,.lf true (zU J),xX e,.lf true (.lst (Ds.map x_)),.nd .ls (S.map λp=>O.lf true (y_ p))]
theorem Uo:∀S:SS,O.strs (S.map λp=>O.lf true (y_ p))=true/\O.toDs (S.map λp=>O.lf true (y_ p))=S.map y_
 | []=>⟨rfl,rfl⟩
 |p::r=>⟨(Uo r).1,congrArg (y_ p :: ·) (Uo r).2⟩
def Mp(n m:Nat)(J:TZ)(e:Int)(Ds:DD)(S:SS):(WH n m J e Ds S).str=true/\(WH n m J e Ds S).toD=zj n m J e Ds S:=by
 constructor
 . show(O.strs _&&true)=_;rw[(Uo S).1];rfl
 . show D.tup [.int n,.int m,zU J,.int e,.lst _,.lst _]=_;rw[(Uo S).2]
def BJ{P:Par}(h:POk P){F:List Int}(hF:F.Perm (Vn P.N)){J:TZ}{ss:List Str}(hs:ss.length=10)(hn:ss.Nodup){os:List O}{Ds:DD}(ho:Ows x_ (Good P F J) os Ds){e11 e13 e15 e16 e17 e20 e21 e22 e23:Option O}:
 ∃S:SS,S.length<=3/\(S.map (·.1)).Nodup/\(∀p ∈ S,∃b,p.2=held P.N b)/\Rq ((zg (zo false 24 (yK dN))
 (zg (yo (ye (aC vg aN) yj) (gN 13) qu)
 (zg (zo true 27 (f2 (fV 12) (f2 (yK (dC yh (dC (fV 8) dN))) (fP (aC (f2 yA vg (zB .Eq)) aN) YB) zy) zy))
 (zY (yf (dC (fV 10) (dC (fV 9) (dC (fV 14) (dC (fV 27) (dC (fV 19) (dC (A9 (fV 24) oN (oS (f2 (f2 zM (fC (.int 12)) zy) wF zm)) Jh) dN)))))))))))
 (Y P F J e11 e16 ss os e13 e15 e17 e20 e21 e22 e23)) (λo=>o=WH P.N P.m J (ZJ F P.e) Ds S):=by
 obtain⟨hR,_⟩:=vX hF;obtain⟨as',hf,S,a13,a25,a26,rfl,i1,i2,i3⟩:=yN (g:=gN 13)
  (λi as=>∃(S:SS) (e13 e25 e26:Option O),as=V P F J ss os e11 e15 e16 e17 e20 e21 e22 e23 S e13 e25 e26 none/\tP P ss i S)
  (yT 0 3) 0 (V P F J ss os e11 e15 e16 e17 e20 e21 e22 e23 [] e13 none none none) (λi x as hx hI=>by
   obtain⟨S,e13,e25,e26,rfl,hI⟩:=hI;obtain⟨rfl,hi⟩:=yO hx;rw[zyY]at hI;rw[Int.zero_add,zyY];obtain⟨S',a,b,k1,k2⟩:=Sb h hs hn hi hI;exact⟨_,rfl,_,k1,S',_,_,_,rfl,k2⟩)
  ⟨[],_,_,_,rfl,rfl,zyJ,λ_ m=>nomatch m⟩
 rw[yr]at i1;obtain⟨y,y1,y2⟩:=at2 h.yS (k:=12) (by omega) (by rw[h.yl];omega);have q0:=zyN y (show(4:Int)≠0 by decide);have q1:=zyH y (show(0:Int)<4 by decide);obtain⟨g1,g2,g3⟩:=Ti S;have ce:=h.lj.ce;have ee:(if(P.k==3)=true then(P.n2:Int)else 0)=P.e:=by
  show _=eK P.k*P.n2+eK P.k2;rw[h.e2];unfold eK
  by_cases hk:P.k=3<;>simp[hk]
 have wE:WD (f2 (yK (dC yh (dC (fV 8) dN))) (fP (aC (f2 yA vg (zB .Eq)) aN) YB) zy) (V P F J ss os e11 e15 e16 e17 e20 e21 e22 e23 S a13 a25 a26 none) true (.int P.e):=by
  rw[<-ee];exact Lx (x6 (zw zb (zw (za rfl) zR)) (YQ rfl) rfl rfl) (WD.e (wR (zf (Qz (za rfl) zb rfl) zz) rfl rfl)) BP
 have s27:=zS (st:=true) (i:=27) (ym (za (i:=12) rfl) wE (rowAt hR ce).1 rfl) (zh rfl);have hfJ:=N4 J;have hfD:=ho.frz;have wy:oS (f2 (f2 zM (fC (.int 12)) zy) wF zm) ((V P F (J) ss os e11 e15 e16 e17 e20 e21 e22 e23 S a13 a25 a26 (sI (ZJ F P.e))).set 14 (some (wz J).frz) |>.set 19 (some (O.nd .ls os).frz))=some (some (y%4),_):=JS (zP (ym (za (i:=4) rfl) zb y1 rfl) zb (by decide));have sl:=AQ (i:=24) (fl:=oN) rfl g1 g2 rfl wy;have ct:=Ak (xs:=(S.take (y%4).toNat).map y_) (ys:=(S.drop (y%4).toNat).map y_);rw[<-zyM,List.take_append_drop,zzB,zzS,Nat.min_eq_left (by omega),show(((y%4).toNat:Nat):Int)=y%4 by omega]at ct;have ct:cutD (S.map y_) none (some (y%4))=(S.take (y%4).toNat).map y_:=by
  injection ct with ct
  injection ct
 rw[g3,ct]at sl;have w0:(dC (fV 10) (dC (fV 9) (dC (fV 14) (dC (fV 27) (dC (fV 19) (dC (A9 (fV 24) oN (oS (f2 (f2 zM (fC (.int 12)) zy) wF zm)) Jh) dN)))))) (V P F J ss os e11 e15 e16 e17 e20 e21 e22 e23 S a13 a25 a26 (sI (ZJ F P.e)))=some (_,_):=
  yD (za rfl) (yD (za (i:=9) rfl) (LV rfl (yD (za rfl) (LV rfl (yD sl rfl)))))
 have hfin:=Ut w0 (YQ rfl);rw[hfJ,hfD]at hfin;have ms:=Hk (os:=[xX P.N,xX P.m,.lf true (zU J),xX (ZJ F P.e),.lf true (.lst (Ds.map x_)),.nd .ls (((S.take (y%4).toNat).map y_).map (O.lf true))]) (by
  show(O.strs _&&true)=true;rw[Wd];rfl)
 have rt:=Ys hfin ms.1;refine⟨S.take (y%4).toNat,by rw[zzS];omega, ?_,λp m=>(i3 p (List.mem_of_mem_take m)).1,xQ (yz (v5 zR (YQ rfl)) (zh rfl)) (xQ (yQ (yX (j:=3) (zf zb zz) (by decide) (by decide)) hf) (xQ s27 ⟨_,rt, ?_⟩))⟩
 . rw[List.map_take];exact i2.sublist (List.take_sublist _ _)
 . unfold WH;rw[zyB];rfl
structure Made(n m:Nat)(J:TZ)(e:Int)(Ds:DD)(S:SS):Prop where
 al:Alg n m J e Ds
 la:LawA n m J e Ds
 s3:S.length<=3
 sn:(S.map (·.1)).Nodup
 sh:∀p ∈ S,∃b,p.2=held n b
 nk:∀p ∈ Ds,GY (.str p.1)=true
def NX{c h:Int}{w:Nat}(hw:w<=4):∃n m J e Ds S,Made n m J e Ds S/\Ds.length=w/\ZL [(true,.int c),(true,.int h),(true,.int w)]=some (WH n m J e Ds S):=by
 obtain⟨x,hr,n,m,J,e,Ds,S,h1,h2,rfl⟩:Rq (ZK (yk 28 [(true,.int c),(true,.int h),(true,.int w)])) (λx=>∃n m J e Ds S,Made n m J e Ds S/\Ds.length=w/\x=WH n m J e Ds S):=by
  refine Ca hw λP hP hw' hh=>Su hP λF e11 e13 hF=>H9 hP hF λJ e15 e16 e17 hJ hJ2=>He hP hF hJ2 λss os Ds e13 e15 e17 e20 e21 e22 e23 s1 s2 s2p ho hD=>?_;obtain⟨S,q1,q2,q3,q4⟩:=BJ hP hF s1 s2 ho;obtain⟨hR,_⟩:=vX hF;obtain⟨B,b1,b2⟩:=perm_back hF;have hl:Ds.length=P.w:=by
   have:=congrArg List.length hD;rw[zzB,zzS,s1]at this;have:=hP.w4;omega
  have ce:=(rowAt hR hP.lj.ce).2;obtain⟨o4,q4,q5⟩:=q4;exact⟨_,q4,P.N,P.m,J,ZJ F P.e,Ds,S,⟨⟨hP.N1,hP.n8,hP.m1,hP.m6,hJ,ce.1,ce.2,by have:=hP.w4;omega,λp m=>(ho.al p m).1,by rw[hD];exact s2.sublist (List.take_sublist _ _)⟩,⟨pe hP.lj (λa ha=>(rowAt hR ha).2) b1 b2 hJ2,λp m=>(ho.al p m).2⟩,q1,q2,q3,λp m=>s2p _ (List.mem_of_mem_take (by rw[<-hD];exact List.mem_map_of_mem m))⟩,by omega,q5⟩
 exact⟨n,m,J,e,Ds,S,h1,h2,ZX rfl hr⟩
open L2 (zQ)
def Hn{α:Type}{f:EF}{as:AS}{g:α->D}{l:List α}(h:WE f as (.lst (l.map g))):vh f as=some (l.map λa=>(true,g a),as):=by
 have:=PL h;rw[zyB]at this;exact this
abbrev xu(p:Str×TZ):O:=.nd .tp [.lf true (.str p.1),wz p.2]
abbrev Hu:EF:=fP wC lstP
theorem PZ:∀T:TZ,xt xI yH Hu [none] ((T.map zk).map λd=>(true,d))=some (T.map Zd)
 | []=>rfl
 |r::T=>Vy rfl (CA (za rfl)) (xp r).2.1 (PZ T)
def Bf{f:EF}{as:AS}{T:TZ}(hl:T.length<=1000)(h:WE f as (zU T)):ya (vh f) [none] xI yH Hu as=some (.ow (wz T),as):=
 XQ (PL h) (by rw[zzB,zzB];exact S9 (by trivial)) (PZ T)
def V8(p:Str×TZ):(xu p).str=true/\(xu p).toD=x_ p:=by
 constructor
 . show(true&&(O.strs _&&true))=_;rw[(Zq p.2).1];rfl
 . show D.tup [.str p.1,.lst _]=_;rw[(Zq p.2).2]
theorem ZP:∀Ds:DD,O.strs (Ds.map xu)=true/\O.toDs (Ds.map xu)=Ds.map x_
 | []=>⟨rfl,rfl⟩
 |p::Ds=>⟨by show((xu p).str&&O.strs (Ds.map xu))=true;rw[(V8 p).1,(ZP Ds).1];rfl,by
  show(xu p).toD::O.toDs _=_;rw[(V8 p).2,(ZP Ds).2];rfl⟩
abbrev Aa:EF:=yf (dC zu (dC (ya (vh zG) [none] xI yH Hu) dN))
def Bu{p:Str×TZ}(hl:p.2.length<=1000):Aa [sT (.str p.1),sT (zU p.2)]=some (.ow (xu p),[sT (.str p.1),sT (zU p.2)]):=
 GT (zw (za rfl) (Bq (Bf hl (WD.e (za rfl))) zR)) (YQ rfl)
theorem UU:∀Ds:DD,(∀p ∈ Ds,p.2.length<=1000)->xt (gT 2 (wI xI (wI (gN 1) RP))) yH Aa [none,none] ((Ds.map x_).map λd=>(true,d))=some (Ds.map xu)
 | [],_=>rfl
 |p::Ds,h=>Vy rfl (Bu (h p (zzF ..))) (V8 p).1 (UU Ds λq m=>h q (zzD _ m))
def Sk{as:AS}{i:Nat}{os:List O}(h:as[i]? = some (sN os)):EY i as=some (os.length:Int):=by
 unfold EY;rw[Um (f:=Ye) h rfl];rfl
def Lb{as:AS}{f g:RS}{a b:Int}(h1:f as=some a)(h2:g as=some b)(hb:0<b):NC f g as=some (a%b):=by
 unfold NC;simp only[h1,h2,zyL,if_pos hb]
def BF{as:AS}{i:Nat}{f1 f2 f3 fv:RS}{k1 k2 k3 c:Int}{Ds:DD}{p:Str×TZ}{r:List Int}(h1:f1 as=some k1)(h2:f2 as=some k2)(h3:f3 as=some k3)(hv:fv as=some c)(p1:0<=k1)(p2:0<=k2)(p3:0<=k3)(hi:as[i]? = some (sN (Ds.map xu)))(hp:Ds[k1.toNat]? = some p)(hr:p.2[k2.toNat]? = some r)(hk:k3.toNat<r.length):
 Fy i f1 1 f2 f3 fv as=some (.nx (as.set i (sN ((Ds.set k1.toNat (p.1,p.2.set k2.toNat (r.set k3.toNat c))).map xu)))):=by
 have e1:(Ds.map xu)[k1.toNat]? = some (.nd .tp [.lf true (.str p.1),.nd .ls (p.2.map Zd)]):=by rw[zzI,hp];rfl
 have e2:([.lf true (.str p.1),.nd .ls (p.2.map Zd)]:List O)[1]? = sN (p.2.map Zd):=rfl;have e3:(p.2.map Zd)[k2.toNat]? = sN (r.map xX):=by rw[zzI,hr];rfl
 have e4:=Sg hk;have e6:(p.2.map Zd).set k2.toNat (.nd .ls ((r.map xX).set k3.toNat (.lf true (.int c))))=(p.2.set k2.toNat (r.set k3.toNat c)).map Zd:=by
  rw[List.map_set];show _=(p.2.map Zd).set k2.toNat (.nd .ls _);rw[List.map_set]
 have e5:(Ds.map xu).set k1.toNat (.nd .tp ([.lf true (.str p.1),.nd .ls (p.2.map Zd)].set 1 (.nd .ls ((p.2.set k2.toNat (r.set k3.toNat c)).map Zd))))=(Ds.set k1.toNat (p.1,p.2.set k2.toNat (r.set k3.toNat c))).map xu:=by
  symm;rw[List.map_set];rfl
 unfold Fy;simp only[h1,h2,h3,hv,zyL,if_pos (show 0<=k1/\0<=k2/\0<=k3 from⟨p1,p2,p3⟩),(Um hi rfl:Pu Ye as i=some (Ds.map xu)),(Xy e1 rfl:RR GH _ _=some [.lf true (.str p.1),.nd .ls (p.2.map Zd)]),(Xy e2 rfl:RR Ye _ _=some (p.2.map Zd)),(Xy e3 rfl:RR Ye _ _=some (r.map xX)),(Xy e4 rfl:RR Ul _ _=some (.int r[k3.toNat])),e6,e5]
def Fw{as as':AS}{j:Nat}{o:O}{fr:DF}{os:List O}(h:as[j]? = some (some o))(hr:fr (as.set j none)=some (os,as')):dC (EM j) fr as=some (o::os,as'):=by
 have e:EM j as=some (.ow o,as.set j none):=by unfold EM;rw[h]
 unfold dC;rw[e];show(fr _).bind _=_;rw[hr];rfl
def Ld{as:AS}{f g:RS}{a b:Int}(h1:f as=some a)(h2:g as=some b)(hb:0<b/\b<1073741824):Nz f g as=some (a/b):=by
 unfold Nz;simp only[h1,h2,zyL,if_pos hb]
abbrev FZ(n m:Nat)(J:TZ)(e:Int)(Ds:DD)(S:SS):O:=.nd .tp [xX n,xX m,wz J,xX e,.nd .ls (Ds.map xu),.lf true (.lst (S.map y_))]
def Us(n m:Nat)(J:TZ)(e:Int)(Ds:DD)(S:SS):(FZ n m J e Ds S).str=true/\(FZ n m J e Ds S).toD=zj n m J e Ds S:=by
 constructor
 . show(true&&(true&&(O.strs _&&(true&&(O.strs _&&_)))))=_;rw[(Zq J).1,(ZP Ds).1];rfl
 . show D.tup [.int n,.int m,.lst _,.int e,.lst _,.lst _]=_;rw[(Zq J).2,(ZP Ds).2]
section
variable{n m:Nat}{J:TZ}{e:Int}{Ds:DD}{S:SS}
abbrev C9(n m:Nat)(J:TZ)(e:Int)(Ds:DD)(S:SS)(x y:Option O):AS:=[sT (zj n m J e Ds S),sI n,sI m,sT (zU J),sI e,sT (.lst (Ds.map x_)),sT (.lst (S.map y_)),x,y]
def MX(A:Alg n m J e Ds)(sl:S.length<=3):xG [(true,zj n m J e Ds S)]=some (FZ n m J e Ds S):=by
 have n8:=A.n8;have m6:=A.m6;have dl:=A.dl;have s7:zo false 7 (ya (vh yA) [none,none] (gT 2 (wI xI (wI (gN 1) RP))) yH Aa) (C9 n m J e Ds S none none)=some (.nx (C9 n m J e Ds S (sN (Ds.map xu)) none)):=
  yz (XQ (PL (WD.e (za rfl))) (by rw[zzB,zzB];exact S9 (by omega)) (UU Ds λp mp=>by rw[(A.ds p mp).1];omega)) (zh rfl)
 have s8:zo true 8 (ya (vh xa) [none,none] (gT 2 (wI xI (wI (gN 1) RP))) yH (yf (dC zu (dC (fP vF lstP) dN)))) (C9 n m J e Ds S (sN (Ds.map xu)) none)=some (.nx (C9 n m J e Ds S (sN (Ds.map xu)) (sT (.lst (S.map y_))))):=
  xU (NQ S (Hn (WD.e (za rfl))) (by omega) λp _=>⟨_,rfl,Xu (WD.e (za rfl)) (Br (za rfl))⟩) (zh rfl)
 have w0:(dC zG (dC zJ (dC (ya (vh zL) [none] xI yH Hu) (dC zM (dC (EM 7) (dC (fV 8) dN)))))) (C9 n m J e Ds S (sN (Ds.map xu)) (sT (.lst (S.map y_))))=some ([xX n,xX m,wz J,xX e,.nd .ls (Ds.map xu),.lf true (.lst (S.map y_))],_):=
  yD (za rfl) (yD (za rfl) (yD (Bf (by rw[A.j.1];omega) (WD.e (za rfl))) (yD (za rfl) (Fw rfl (yD (za rfl) rfl)))))
 have hr:=Ys (Ut w0 (YQ rfl)) (Us n m J e Ds S).1;have h:WC (yk 9 [(true,zj n m J e Ds S)])=some (.rt (FZ n m J e Ds S)):=zC (Im (WD.e (za rfl)) rfl) (zC s7 (zC s8 hr));unfold xG vP;rw[if_pos (by rfl),h];rfl
def OL(A:Alg n m J e Ds)(sl:S.length<=3):RE (xG [(true,zj n m J e Ds S)]) (zj n m J e Ds S):=⟨_,MX A sl,Us n m J e Ds S⟩
abbrev Lw(n m:Nat)(J:TZ)(e:Int)(Ds:DD)(S:SS)(a0 a1 x a b o:Option O):AS:=[a0,a1,sI n,sI m,some (wz J),sI e,sN (Ds.map xu),sT (.lst (S.map y_)),x,a,b,o]
structure Bnt(n m:Nat)(J:TZ)(e:Int)(Ds:DD)(J':TZ)(e':Int)(Ds':DD):Prop where
 al:Alg n m J' e' Ds'
 nm:Ds'.map (·.1)=Ds.map (·.1)
def qF{c e:TF}{as:AS}{k l:Bool}(h:WT c as k)(h2:WT e as l):WT (Xl c e) as (k||l):=Pk h (λz=>by rw[z];exact h2) λz=>by rw[z];rfl
def rf{as:AS}{Ds:DD}{i:Nat}(h:as[i]? = some (sN (Ds.map xu))):WT (fT (f2 (fV i) (yK dN) (zB .Eq))) as Ds.isEmpty:=by
 have e2:RV.view as (.bo i)=some (.lst (Ds.map x_),(O.nd .ls (Ds.map xu)).kl):=by
  rw[Zt h];show some (D.lst _,_)=_;rw[(ZP Ds).2]
 unfold WT fT f2;have e1:yK dN as=some (.ow (.nd .ls []),as):=rfl;simp only[Wi h,zyL,e1,RV.frz,e2];cases Ds<;>rfl
def HV{c:Int}(A:Alg n m J e Ds)(sl:S.length<=3):∃J' e' Ds',Bnt n m J e Ds J' e' Ds'/\RE (Yz [(true,zj n m J e Ds S),(true,.int c)]) (zj n m J' e' Ds' S):=by
 have n1:=A.n1;have n8:=A.n8;have m1:=A.m1;have m6:=A.m6;have dl:=A.dl;have hx:=CZ c 70;have s1:Ou [2,3,4,5,6,7] (zt wC xG) [sT (zj n m J e Ds S),sI c,none,none,none,none,none,none,none,none,none,none]=some (.nx (Lw n m J e Ds S (sT (zj n m J e Ds S)) (sI c) none none none none)):=by
  have hc:zt wC xG [sT (zj n m J e Ds S),sI c,none,none,none,none,none,none,none,none,none,none]=some (.ow (FZ n m J e Ds S),[sT (zj n m J e Ds S),sI c,none,none,none,none,none,none,none,none,none,none]):=vL (zf (za (i:=0) rfl) zz) (MX A sl);unfold Ou;rw[hc];rfl
 have s8:zo true 8 (zt (aC zG (aC (fC (.int 70)) aN)) yP) (Lw n m J e Ds S (sT (zj n m J e Ds S)) (sI c) none none none none)=some (.nx (Lw n m J e Ds S (sT (zj n m J e Ds S)) (sI c) (sI (mx c 70)) none none none)):=zS (i:=8) (xN (zf (za (i:=1) rfl) (zf zb zz)) (W8 (by decide) (by decide))) (zh rfl);generalize mx c 70=x at hx s8;have hn:(0:Int)<n:=by omega
 have hm:(0:Int)<m:=by omega
 have s9:zo true 9 (f2 (f2 (fV 8) Yx ze) zJ zm) (Lw n m J e Ds S (sT (zj n m J e Ds S)) (sI c) (sI x) none none none)=some (.nx (Lw n m J e Ds S (sT (zj n m J e Ds S)) (sI c) (sI x) (sI (x/8%n)) none none)):=zS (i:=9) (zP (yB (za (i:=8) rfl) (zb) (by decide) (zE (by decide) (by decide))) (za (i:=2) (s:=true) rfl) hn) (zh rfl);have s10:zo true 10 (f2 (f2 (fV 8) (fC (.int 64)) ze) zJ zm) (Lw n m J e Ds S (sT (zj n m J e Ds S)) (sI c) (sI x) (sI (x/8%n)) none none)=some (.nx (Lw n m J e Ds S (sT (zj n m J e Ds S)) (sI c) (sI x) (sI (x/8%n)) (sI (x/64%n)) none)):=zS (i:=10) (zP (yB (za (i:=8) rfl) (zb) (by decide) (zE (by decide) (by decide))) (za (i:=2) (s:=true) rfl) hn) (zh rfl);have s11:zo true 11 (f2 (f2 (f2 (fV 8) (fC (.int 512)) ze) yp zD) zJ zm) (Lw n m J e Ds S (sT (zj n m J e Ds S)) (sI c) (sI x) (sI (x/8%n)) (sI (x/64%n)) none)=some (.nx (Lw n m J e Ds S (sT (zj n m J e Ds S)) (sI c) (sI x) (sI (x/8%n)) (sI (x/64%n)) (sI ((x/512+1)%n)))):=zS (i:=11) (zP (yg (yB (za (i:=8) rfl) (zb) (by decide) (zE (by decide) (by decide))) zb) (za (i:=2) (s:=true) rfl) hn) (zh rfl);have ha:zH n (x/8%n):=X1 n1;have hb:zH n (x/64%n):=X1 n1;have ho:zH n ((x/512+1)%n):=X1 n1;generalize x/8%(n:Int)=a at s9 s10 s11 ha;generalize x/64%(n:Int)=b at s10 s11 hb;generalize (x/512+1)%(n:Int)=o at s11 ho;have fin:∀(J':TZ) (e':Int) (Ds':DD),Rt ((zY (yf (dC zJ (dC zL (dC (EM 4) (dC yA (dC (EM 6) (dC wU dN)))))))) (Lw n m J' e' Ds' S (sT (zj n m J e Ds S)) (sI c) (sI x) (sI a) (sI b) (sI o))) (zj n m J' e' Ds' S):=λJ' e' Ds'=>by
  have w0:(dC zJ (dC zL (dC (EM 4) (dC yA (dC (EM 6) (dC wU dN)))))) (Lw n m J' e' Ds' S (sT (zj n m J e Ds S)) (sI c) (sI x) (sI a) (sI b) (sI o))=some ([xX n,xX m,wz J',xX e',.nd .ls (Ds'.map xu),.lf true (.lst (S.map y_))],_):=
   yD (za (i:=2) rfl) (yD (za (i:=3) rfl) (Fw (j:=4) rfl (yD (za (i:=5) rfl) (Fw (j:=6) rfl (yD (za (i:=7) rfl) rfl)))))
  exact⟨_,Ys (Ut w0 (YQ rfl)) (Us n m J' e' Ds' S).1,Us n m J' e' Ds' S⟩
 have main:∃J' e' Ds',Bnt n m J e Ds J' e' Ds'/\(xr (Xl (fT (f2 (f2 (fV 8) Yx zm) vg (zB .Lt))) (fT (f2 xa (yK dN) (zB .Eq)))) (Xo 4 (xV 9) (xV 10) (xV 11)) (xr (fT (f2 (f2 (fV 8) Yx zm) (fC (.int 7)) (zB .Lt))) (Fy 6 (NC (Nz (xV 8) (xC 4096)) (EY 6)) 1 (NC (Nz (xV 8) (xC 32768)) (xV 3)) (xV 9) (xV 11)) (zo true 5 MR))) (Lw n m J e Ds S (sT (zj n m J e Ds S)) (sI c) (sI x) (sI a) (sI b) (sI o))=some (.nx (Lw n m J' e' Ds' S (sT (zj n m J e Ds S)) (sI c) (sI x) (sI a) (sI b) (sI o))):=by
  have t1:WT (Xl (fT (f2 (f2 (fV 8) Yx zm) vg (zB .Lt))) (fT (f2 xa (yK dN) (zB .Eq)))) (Lw n m J e Ds S (sT (zj n m J e Ds S)) (sI c) (sI x) (sI a) (sI b) (sI o)) (decide (x%8<3)||Ds.isEmpty):=qF (yI (PV (zP (za (i:=8) rfl) zb (by decide)) zb) rfl) (rf (i:=6) rfl);have t2:WT (fT (f2 (f2 (fV 8) Yx zm) (fC (.int 7)) (zB .Lt))) (Lw n m J e Ds S (sT (zj n m J e Ds S)) (sI c) (sI x) (sI a) (sI b) (sI o)) (decide (x%8<7)):=yI (PV (zP (za (i:=8) rfl) zb (by decide)) zb) rfl;cases q1:(decide (x%8<3)||Ds.isEmpty)with
  |true=>
   rw[q1]at t1;exact⟨put J a b o,e,Ds,⟨⟨n1,n8,m1,m6,MJ A.j ha ho,A.e0,A.en,dl,A.ds,A.nd⟩,rfl⟩,yL t1 (GP A.j ha hb (wA (i:=9) rfl) (wA (i:=10) rfl) (wA (i:=11) rfl) rfl)⟩
  |false=>
   rw[q1]at t1;cases q2:decide (x%8<7)with
   |true=>
    rw[q2]at t2;have d1:1<=Ds.length:=by
     cases Ds with
     |nil=>rw[List.isEmpty_nil,zyD]at q1;cases q1
     |cons p r=>exact Nat.succ_le_succ (Nat.zero_le _)
    have hl:(0:Int)<Ds.length:=by omega
    have k1:zH Ds.length (x/4096%(Ds.length:Int)):=X1 (by omega);have k2:zH m (x/32768%(m:Int)):=X1 m1;have hk1:=iT k1;have hp:=zzE hk1;have hT:=A.ds _ (zxA hk1);generalize Ds[(x/4096%(Ds.length:Int)).toNat]=p at hp hT;have hk2:(x/32768%(m:Int)).toNat<p.2.length:=by rw[hT.1];exact iT k2
    have hr:=zzE hk2;have hR:=hT.2 _ (zxA hk2);generalize p.2[(x/32768%(m:Int)).toNat]=r at hr hR;have xl:EY 6 (Lw n m J e Ds S (sT (zj n m J e Ds S)) (sI c) (sI x) (sI a) (sI b) (sI o))=some ((Ds.length:Nat):Int):=by
     rw[Sk (i:=6) rfl,zzB]
    refine⟨J,e,Ds.set (x/4096%(Ds.length:Int)).toNat (p.1,p.2.set (x/32768%(m:Int)).toNat (r.set a.toNat o)),⟨⟨n1,n8,m1,m6,A.j,A.e0,A.en,by rw[zzU];exact dl,λq mq=>?_, ?_⟩, ?_⟩,yc t1 (yL t2 (BF (Lb (Ld (wA (i:=8) rfl) rfl ⟨by decide,by decide⟩) xl hl) (Lb (Ld (wA (i:=8) rfl) rfl ⟨by decide,by decide⟩) (wA (i:=3) rfl) hm) (wA (i:=9) rfl) (wA (i:=11) rfl) k1.1 k2.1 ha.1 rfl hp hr (by rw[hR.1];exact iT ha)))⟩
    . rcases List.mem_or_eq_of_mem_set mq with mq|rfl
      . exact A.ds q mq
      . exact M4 hT (Mm hR ho)
    . have e0:(Ds.set (x/4096%(Ds.length:Int)).toNat (p.1,p.2.set (x/32768%(m:Int)).toNat (r.set a.toNat o))).map (·.1)=Ds.map (·.1):=by
       rw[List.map_set];exact set_same (by rw[zzI,hp];rfl)
      rw[e0];exact A.nd
    . rw[List.map_set];exact set_same (by rw[zzI,hp];rfl)
   |false=>
    rw[q2]at t2;exact⟨J,o,Ds,⟨⟨n1,n8,m1,m6,A.j,ho.1,ho.2,dl,A.ds,A.nd⟩,rfl⟩,yc t1 (yc t2 (zS (i:=5) (za (i:=11) rfl) (zh rfl)))⟩
 obtain⟨J',e',Ds',hB,hm'⟩:=main;exact⟨J',e',Ds',hB,y7 rfl (zq s1 (zq s8 (zq s9 (zq s10 (zq s11 (zq hm' (fin J' e' Ds')))))))⟩
end
section
variable{n m:Nat}{J:TZ}{e:Int}{Ds:DD}{S:SS}
def SR(A:Alg n m J e Ds)(L:tW n m J e Ds=none):RE (yx [(true,zj n m J e Ds S)]) .non:=by
 have h:we (yk 2 [(true,zj n m J e Ds S)])=some (.nx [sT (zj n m J e Ds S),sT .non]):=zC (xU (Z5 (WD.e (za rfl)) (by have z:=GK (S:=S) A;rw[L]at z;exact z)) (zh rfl)) (yc (yI (ym (za rfl) zb rfl rfl) rfl) rfl);refine⟨.lf true .non, ?_,rfl,rfl⟩;unfold yx vP;rw[if_pos (by rfl),h];rfl
end
abbrev En:Type:=Int×Int×D
abbrev ky(x:En):Int×Int:=(x.1,x.2.1)
noncomputable def tk(es:List En):List En->List En
 | []=>es
 |x::r=>tk (if ky x ∈ es.map ky then es else es++[x]) r
theorem Ga:∀(xs es:List En),∃t,tk es xs=es++t
 | [],es=>⟨[],(zyE _).symm⟩
 |x::r,es=>by
  unfold tk;obtain⟨t,h⟩:=Ga r (if ky x ∈ es.map ky then es else es++[x]);rw[h]
  split
  . exact⟨t,rfl⟩
  . exact⟨x::t,by rw[zxD];rfl⟩
theorem GD{Q:En->Prop}:∀(xs es:List En),(∀x ∈ es,Q x)->(∀x ∈ xs,Q x)->∀x ∈ tk es xs,Q x
 | [],es,h,_=>h
 |x::r,es,h,g=>by
  unfold tk;refine GD r _ (λy m=>?_) λy m=>g y (zzD _ m)
  split at m
  . exact h y m
  . rcases zzM.mp m with m|m
    . exact h y m
    . rw[zzR.mp m];exact g x zzF
theorem Md:∀(xs es:List En),(es.map ky).Nodup->((tk es xs).map ky).Nodup
 | [],es,h=>h
 |x::r,es,h=>by
  unfold tk;refine Md r _ ?_
  split
  . exact h
  . rename_i hn;rw[zyM];refine zxF.mpr ⟨h,zzW.mpr ⟨zxC,zyJ⟩,λa m b m' e=>?_⟩;have:b=ky x:=zzR.mp m';subst e this;exact hn m
def VM{xs es:List En}{k:Int×Int}(h:k ∈ es.map ky):k ∈ (tk es xs).map ky:=by
 obtain⟨t,e⟩:=Ga xs es;rw[e,zyM];exact zzP _ h
theorem P_:∀(xs es:List En) (x:En),x ∈ xs->ky x ∈ (tk es xs).map ky
 |y::r,es,x,m=>by
  unfold tk
  rcases zzC.mp m with rfl|m
  . refine VM ?_
    split
    . assumption
    . rw[zyM];exact zzL _ zzF
  . exact P_ r _ x m
noncomputable def two(m:Nat)(J:TZ)(es:List En)(p q:Nat):En:=(yW J (es.getD p (0,0,.non)).1 (es.getD q (0,0,.non)).1,((es.getD p (0,0,.non)).2.1+(es.getD q (0,0,.non)).2.1)%m,.tup [.str "two",.int p,.int q])
noncomputable def Ny(m:Nat)(J:TZ)(Ds:DD)(es:List En)(k:Nat):List En:=
 (Ds.map λp=>(yW p.2 (es.getD k (0,0,.non)).2.1 (es.getD k (0,0,.non)).1,(es.getD k (0,0,.non)).2.1,D.tup [.str "deed",.str p.1,.int k]))++(List.range (k+1)).flatMap λp=>[two m J es p k,two m J es k p]
def Ok(n m:Nat)(x:En):Prop:=zH n x.1/\zH m x.2.1
structure Cl(n m:Nat)(J:TZ)(Ds:DD)(es:List En)(at_:Nat):Prop where
 nd:(es.map ky).Nodup
 ok:∀x ∈ es,Ok n m x
 dd:∀k,k<at_->∀x,es[k]? = some x->∀p ∈ Ds,(yW p.2 x.2.1 x.1,x.2.1) ∈ es.map ky
 tw:∀p q,p<at_->q<at_->∀x y,es[p]? = some x->es[q]? = some y->(yW J x.1 y.1,(x.2.1+y.2.1)%m) ∈ es.map ky
variable{n m:Nat}{J:TZ}{e:Int}{Ds:DD}{es:List En}
def tabIn{a b:Nat}{T:TZ}{w v:Int}(hT:Tab a b T)(hw:zH a w)(hv:zH b v):zH b (yW T w v):=(rowAt (vV hT hw).2 hv).2
def gd{k:Nat}{x:En}(h:es[k]? = some x):es.getD k (0,0,.non)=x:=by rw[zyF,h];rfl
def So(L:Alg n m J e Ds)(m1:1<=m){p q:Nat}{x y:En}(hx:es[p]? = some x)(hy:es[q]? = some y)(ox:Ok n m x)(oy:Ok n m y):Ok n m (two m J es p q):=by
 unfold two;rw[gd hx,gd hy];exact⟨RA L.j ox.1 oy.1,X1 (by omega)⟩
def Cl.fol_ok{k:Nat}(L:Alg n m J e Ds)(m1:1<=m)(h:Cl n m J Ds es k)(hk:k<es.length):∀x ∈ Ny m J Ds es k,Ok n m x:=λx mx=>by
 have ek:=zzE hk;have ok:=h.ok _ (zxA hk)
 rcases zzM.mp mx with mx|mx
 . obtain⟨p,mp,rfl⟩:=zxE.mp mx;rw[gd ek];exact⟨tabIn (L.ds p mp) ok.2 ok.1,ok.2⟩
 . obtain⟨p,mp,mx⟩:=List.mem_flatMap.mp mx;have hp:p<es.length:=by have:=List.mem_range.mp mp;omega
   have ep:=zzE hp;have op:=h.ok _ (zxA hp)
   rcases zzC.mp mx with rfl|mx
   . exact So L m1 ep ek op ok
   . rw[zzR.mp mx];exact So L m1 ek ep ok op
def Cl.step{k:Nat}(L:Alg n m J e Ds)(m1:1<=m)(h:Cl n m J Ds es k)(hk:k<es.length):Cl n m J Ds (tk es (Ny m J Ds es k)) (k+1):=by
 obtain⟨t,et⟩:=Ga (Ny m J Ds es k) es;have at_:∀{i:Nat}{x:En},i<k+1->(tk es (Ny m J Ds es k))[i]? = some x->es[i]? = some x:=λhi hx=>by
  rw[et,zyP (by omega)]at hx;exact hx
 refine⟨Md _ _ h.nd,GD _ _ h.ok (h.fol_ok L m1 hk),λi hi x hx p mp=>?_,λp q hp hq x y hx hy=>?_⟩
 . have ex:=at_ hi hx
   by_cases e1:i<k
   . exact VM (h.dd i e1 x ex p mp)
   . have:i=k:=by omega
     subst this;have:=P_ (Ny m J Ds es i) es _ (zzP _ (zxE.mpr ⟨p,mp,rfl⟩));rw[gd ex]at this;exact this
 . have ex:=at_ hp hx
   have ey:=at_ hq hy
   by_cases e1:p<k/\q<k
   . exact VM (h.tw p q e1.1 e1.2 x y ex ey)
   . by_cases e2:q=k
     . subst e2;have:=P_ (Ny m J Ds es q) es _ (zzL _ (List.mem_flatMap.mpr ⟨p,List.mem_range.mpr (by omega),zzF⟩));unfold two at this;rw[gd ex,gd ey]at this;exact this
     . have:p=k:=by omega
       subst this;have:=P_ (Ny m J Ds es p) es _ (zzL _ (List.mem_flatMap.mpr ⟨q,List.mem_range.mpr (by omega),zzD _ zzF⟩));unfold two at this;rw[gd ex,gd ey]at this;exact this
structure Kn(n m:Nat)(J:TZ)(e:Int)(Ds:DD)(ks:List (Int×Int)):Prop where
 o:(e,0) ∈ ks
 d:∀v c,(v,c) ∈ ks->∀p ∈ Ds,(yW p.2 c v,c) ∈ ks
 t:∀v c v' c',(v,c) ∈ ks->(v',c') ∈ ks->(yW J v v',(c+c')%m) ∈ ks
def Cl.kn(h:Cl n m J Ds es es.length)(h0:(e,0) ∈ es.map ky):Kn n m J e Ds (es.map ky):=by
 have ix:∀{v c:Int},(v,c) ∈ es.map ky->∃i x,i<es.length/\es[i]? = some x/\x.1=v/\x.2.1=c:=λhm=>by
  obtain⟨x,mx,ex⟩:=zxE.mp hm;obtain⟨i,hi,hx⟩:=List.getElem_of_mem mx;cases ex;exact⟨i,x,hi,by rw[zzE hi,hx],rfl,rfl⟩
 refine⟨h0,λv c hm p mp=>?_,λv c v' c' h1 h2=>?_⟩
 . obtain⟨i,x,hi,hx,rfl,rfl⟩:=ix hm;exact h.dd i hi x hx p mp
 . obtain⟨i,x,hi,hx,rfl,rfl⟩:=ix h1;obtain⟨j,y,hj,hy,rfl,rfl⟩:=ix h2;exact h.tw i j hi hj x y hx hy
def Fl{ps:List (Int×Int)}(nd:ps.Nodup)(h:∀p ∈ ps,zH n p.1/\zH m p.2):ps.length<=n*m:=by
 have hs:ps ⊆ (List.range (n*m)).map λk=>(((k/m:Nat):Int),((k%m:Nat):Int)):=λp mp=>by
  obtain⟨⟨a,b⟩,c,d⟩:=h p mp;have hm:0<m:=by omega
  refine zxE.mpr ⟨p.1.toNat*m+p.2.toNat,List.mem_range.mpr ?_, ?_⟩
  . calc p.1.toNat*m+p.2.toNat<p.1.toNat*m+m:=by omega
     _=(p.1.toNat+1)*m:=by rw[Nat.add_mul,Nat.one_mul]
     _<=n*m:=Nat.mul_le_mul_right _ (by omega)
  . have e1:(p.1.toNat*m+p.2.toNat)/m=p.1.toNat:=by
     rw[Nat.mul_comm,Nat.mul_add_div hm,Nat.div_eq_of_lt (by omega)];rfl
    have e2:(p.1.toNat*m+p.2.toNat)%m=p.2.toNat:=by
     rw[Nat.mul_comm,Nat.mul_add_mod,Nat.mod_eq_of_lt (by omega)]
    rw[e1,e2];exact Prod.ext (by show(p.1.toNat:Int)=p.1;omega) (by show(p.2.toNat:Int)=p.2;omega)
 have:=nd.length_le_of_subset hs;rw[zzB,zyU]at this;exact this
abbrev pD(p:Int×Int):D:=.tup [.int p.1,.int p.2]
abbrev kP(p:Int×Int):List Key:=[.inl p.1,.inl p.2]
def AC(ds:List D):(ds.map (O.lf true)).all O.isLf=true:=by
 rw[List.all_eq_true];intro x mx;obtain⟨d,_,rfl⟩:=zxE.mp mx;rfl
def FM{k:PF.Kind}(ds:List D):(O.nd k (ds.map (O.lf true))).kl=some true:=by
 show(if(ds.map _).all O.isLf=true then some _ else none)=_;rw[if_pos (AC ds),Wd]
def BO{as:AS}{i:Nat}{a:EF}{g:D->D->Option R0}{k:PF.Kind}{ds:List D}{X x z:D}(ha:WD a as true x)(h:as[i]? = some (some (.nd k (ds.map (O.lf true)))))(hX:(O.nd k (ds.map (O.lf true))).toD=X)(hg:g x X=some (.im z)):WE (f2 a (fV i) g) as z:=by
 have e2:RV.view as (.bo i)=some (X,some true):=by rw[Zt h,FM,hX]
 refine⟨.lf (zF z||true) z, ?_,zyD _,rfl⟩;unfold WD at ha;unfold f2;simp only[Wi h,ha,zyL,RV.frz,e2];show((g x X).bind _)=_;rw[hg];show((if(zF z||true)=true then some _ else none:Option RV).bind _)=_;rw[if_pos (zyD _)];rfl
def LR{p q:Int×Int}(h:kP p=kP q):p=q:=by
 obtain⟨a,b⟩:=p;obtain⟨c,d⟩:=q;have h1:=(List.cons.inj h).1;have h2:=(List.cons.inj (List.cons.inj h).2).1;have e1:a=c:=Sum.inl.inj h1;have e2:b=d:=Sum.inl.inj h2;rw[e1,e2]
theorem Mt{p:Int×Int}:∀{ps:List (Int×Int)}{fs:List D},ps.length=fs.length->p ∈ ps->∃x ∈ fs,UP (ps.map kP) fs (kP p)=some x
 | [],_,_,h=>nomatch h
 |q::ps,[],h,_=>by simp at h
 |q::ps,f::fs,hl,h=>by
  unfold UP;rw[zyS,List.zip_cons_cons]
  by_cases e:q=p
  . rw[List.find?_cons_of_pos (by simp[e])];exact⟨f,zzF ..,rfl⟩
  . rw[List.find?_cons_of_neg (by simpa using λz:kP q=kP p=>e (LR z))];obtain⟨x,mx,hx⟩:=Mt (by simpa using hl) ((zzC.mp h).resolve_left λz=>e z.symm);exact⟨x,zzD _ mx,hx⟩
theorem Ka{p:Int×Int}:∀{ps:List (Int×Int)}{fs:List D},p ∉ ps->UP (ps.map kP) fs (kP p)=none
 | [],_,_=>rfl
 |q::ps,[],_=>rfl
 |q::ps,f::fs,h=>by
  unfold UP;rw[zyS,List.zip_cons_cons,List.find?_cons_of_neg (by simpa using λz:kP q=kP p=>h (by rw[<-LR z];exact zzF ..))];exact Ka λz=>h (zzD _ z)
def ug{p:Int×Int}{ps:List (Int×Int)}{fs:List D}(hl:ps.length=fs.length):rJ (pD p) (.dt (ps.map kP) fs)=some (decide (p ∈ ps)):=by
 show some (UP _ fs _).isSome=_
 by_cases h:p ∈ ps
 . obtain⟨x,_,hx⟩:=Mt hl h;rw[hx,zyO h];rfl
 . rw[Ka h,zyG h];rfl
abbrev dP(ps:List (Int×Int))(fs:List D):Option O:=some (.nd (.dt (ps.map kP)) (fs.map (O.lf true)))
def II{ks:List (List Key)}(fs:List D):(O.nd (.dt ks) (fs.map (O.lf true))).toD = .dt ks fs:=by
 show D.dt ks _=_;rw[X_]
def NL(ds:List D):(O.nd .ls (ds.map (O.lf true))).toD = .lst ds:=by
 show D.lst _=_;rw[X_]
def HC{p:Int×Int}{ps:List (Int×Int)}(h:p ∉ ps):NF (ps.map kP) (kP p)=false:=by
 unfold NF;rw[List.any_eq_false];intro k mk;obtain⟨q,mq,rfl⟩:=zxE.mp mk;simpa using λz:kP q=kP p=>h (by rw[<-LR z];exact mq)
def Oj{as:AS}{j k:Nat}{fv:EF}{p:Int×Int}{ps:List (Int×Int)}{fs:List D}{x:D}(h5:as[j]? = some (dP ps fs))(h11:as[k]? = some (sT (pD p)))(hv:WE fv as x)(hn:p ∉ ps)(hl:ps.length<=1000):
 G6 j (fV k) fv as=some (.nx (as.set j (dP (ps++[p]) (fs++[x])))):=by
 obtain⟨o,h1,h2,h3⟩:=hv;have e:ZA as (.ow o)=some ((o.str,o.toD),as):=rfl;have e1:fV k as=some (.ow (.lf true (pD p)),as):=za h11;have e3:(RV.ow (.lf true (pD p))).frz.view as=some (pD p,some true):=rfl;have e4:Oi (pD p)=some (kP p):=rfl;unfold G6;simp only[h1,zyL,e,h5,e1,e3,e4,zzB,if_pos (show ps.length<sizeLine from Nat.lt_of_le_of_lt hl (by decide))];unfold QZ Zv;rw[HC hn,h2,h3];simp only[Bool.false_eq_true,if_false,dP,zyM,zyS,List.map_nil]
def CF{f:EF}{as:AS}{c:Bool}(h:WE f as (.bl c)):WD f as true (.bl c):=by
 obtain⟨o,h1,h2,h3⟩:=h;cases o with
 |lf st d=>
  have e1:=h2;have e2:=h3;subst e1 e2;exact h1
 |nd k os=>cases k<;>cases h3
def Jy{p:Int×Int}{ps:List (Int×Int)}{fs:List D}(hl:ps.length=fs.length):zB .NotIn (pD p) (.dt (ps.map kP) fs)=some (.im (.bl (!decide (p ∈ ps)))):=by
 unfold zB;simp only[ug hl];rfl
abbrev eD(x:En):D:=.tup [.int x.1,.int x.2.1,x.2.2]
abbrev eO(es:List En):O:=.nd .ls ((es.map eD).map (O.lf true))
abbrev yes(es:List En):List D:=es.map λ_=>.bl true
abbrev kO(es:List En):O:=.nd (.dt ((es.map ky).map kP)) ((yes es).map (O.lf true))
abbrev T5(es xs:List En)(e3 e4:Option O):AS:=[some (eO es),some (kO es),sT (.lst (xs.map eD)),e3,e4]
abbrev pB:SF:=(zg (zo true 4 (yf (dC (f2 zL yh zy) (dC (f2 zL yp zy) dN))))
 (xr (fT (f2 zM zG (zB .NotIn))) (zg (G6 1 zM (fC (.bl true)))
 (yq (xO 0 (dC zL dN) wg))) wc))
theorem NR{xs:List En}:∀(r es:List En) (e3 e4:Option O),es.length+r.length<=1000->
 ∃e3' e4',forL (gN 3) pB ((r.map eD).map λd=>(true,d)) (T5 es xs e3 e4)=some (.nx (T5 (tk es r) xs e3' e4'))
 | [],es,e3,e4,_=>⟨e3,e4,rfl⟩
 |x::r,es,e3,e4,hl=>by
  have hl':es.length+(r.length+1)<=1000:=hl;have w1:WD (f2 zL yh zy) (T5 es xs (sT (eD x)) e4) true (.int x.1):=ym (za rfl) (zb) rfl rfl;have w2:WD (f2 zL yp zy) (T5 es xs (sT (eD x)) e4) true (.int x.2.1):=ym (za rfl) (zb) rfl rfl;have s4:=xU (p:=4) (Xu (WD.e w1) (WD.e w2)) (zh rfl);have fl:(es.map ky).length=(yes es).length:=by rw[zzB,zzB]
  have tn:=yI (CF (BO (as:=T5 es xs (sT (eD x)) (sT (pD (ky x)))) (i:=1) (za (i:=4) rfl) rfl (II (yes es)) (Jy fl))) rfl
  by_cases hc:ky x ∈ es.map ky
  . rw[zyO hc]at tn;obtain⟨e3',e4',hf⟩:=NR r es (sT (eD x)) (sT (pD (ky x))) (by omega);refine⟨e3',e4', ?_⟩;have ht:tk es (x::r)=tk es r:=by unfold tk;rw[if_pos hc];cases r<;>rfl
    rw[ht];exact Xs rfl (zC s4 (yc tn rfl)) hf
  . rw[zyG hc]at tn;have sd:=Oj (as:=T5 es xs (sT (eD x)) (sT (pD (ky x)))) (j:=1) (k:=4) rfl rfl (WD.e (zb (x:=.bl true))) hc (by rw[zzB];omega);have sa:=UR (as:=(T5 es xs (sT (eD x)) (sT (pD (ky x)))).set 1 (dP (es.map ky++[ky x]) (yes es++[.bl true]))) (i:=0) rfl (by rw[zzB,zzB];exact Nat.lt_of_le_of_lt (show es.length<=1000 by omega) (by decide)) (za (i:=3) rfl);obtain⟨e3',e4',hf⟩:=NR r (es++[x]) (sT (eD x)) (sT (pD (ky x))) (by rw[zzJ];show es.length+1+r.length<=1000;omega);refine⟨e3',e4', ?_⟩;have ht:tk es (x::r)=tk (es++[x]) r:=by
     show tk _ r=_;rw[if_neg hc]
    rw[ht];have el:(es.map eD).map (O.lf true)++[O.lf true (eD x)]=((es++[x]).map eD).map (O.lf true):=by rw[zyM,zyM];rfl
    have e5:dP (es.map ky++[ky x]) (yes es++[.bl true])=some (kO (es++[x])):=by
     rw[show es.map ky++[ky x]=(es++[x]).map ky by rw[zyM];rfl,show yes es++[.bl true]=yes (es++[x]) by show _=(es++[x]).map _;rw[zyM];rfl]
    rw[el]at sa;rw[e5]at sd sa;exact Xs rfl (zC s4 (yL tn (zC sd sa))) hf
def OZ{es xs:List En}(hl:es.length+xs.length<=1000):yC (eO es) (kO es) (true,.lst (xs.map eD))=some (eO (tk es xs),kO (tk es xs)):=by
 obtain⟨e3',e4',hf⟩:=NR xs es none none hl;have h:WM (startM 5 (eO es) (kO es) (true,.lst (xs.map eD)))=some (.nx (T5 (tk es xs) xs e3' e4')):=
  yQ (M3 (za rfl)) hf
 unfold yC gM;rw[h];rfl
variable{n m:Nat}{J:PF.TZ}{e:Int}{Ds:PF.DD}{S:PF.SS}{es:List En}
def tq{s:Bool}{a b:EF}{as:AS}{k:Nat}{x:En}(h:es[k]? = some x)(ha:WD a as s (.lst (es.map eD)))(hb:WD b as true (.int k)):WD (f2 a b zy) as (zF (eD x)||(s&&true)) (eD x):=Hm ha hb (V1 h)
def u_{s:Bool}{a b:EF}{as:AS}{x:En}(ha:WD a as s (eD x))(hb:WD b as true (.int 0)):WD (f2 a b zy) as true (.int x.1):=ym ha hb rfl rfl
def rA{s:Bool}{a b:EF}{as:AS}{x:En}(ha:WD a as s (eD x))(hb:WD b as true (.int 1)):WD (f2 a b zy) as true (.int x.2.1):=ym ha hb rfl rfl
def Z9{a b c:EF}{as:AS}{x y z:D}(ha:WE a as x)(hb:WE b as y)(hc:WE c as z):WE (yf (dC a (dC b (dC c dN)))) as (.tup [x,y,z]):=by
 obtain⟨q,j1,rfl,j3⟩:=Gh hc zR;obtain⟨p,k1,rfl,k3⟩:=Gh hb j3;obtain⟨o,h1,rfl,h3⟩:=Gh ha k3;exact Nh h3 (by show 3<=_;omega) (by show(o.str&&(p.str&&(q.str&&true)))=true;rw[h1,k1,j1];rfl) rfl
def P2(A:Alg n m J e Ds)(m1:1<=m){s:Bool}{p q:Nat}{x y:En}(hx:es[p]? = some x)(hy:es[q]? = some y)(ox:Ok n m x)(oy:Ok n m y):RE (Z2 [(true,zj n m J e Ds S),(s,.lst (es.map eD)),(true,.int p),(true,.int q)]) (eD (two m J es p q)):=by
 have s4:=zS (st:=true) (as:=yk 6 [(true,zj n m J e Ds S),(s,.lst (es.map eD)),(true,.int p),(true,.int q)]) (i:=4) (tq hx (za (i:=1) rfl) (za (i:=2) rfl)) (zh rfl);have s5:=zS (st:=true) (as:=[sT (zj n m J e Ds S),some (.lf s (.lst (es.map eD))),sI p,sI q,some (.lf (zF (eD x)||(s&&true)) (eD x)),none]) (i:=5) (tq hy (za (i:=1) rfl) (za (i:=3) rfl)) (zh rfl);have w1:WD (f2 (f2 (f2 zu yR zy) (f2 zM yh zy) zy) (f2 yA yh zy) zy) [sT (zj n m J e Ds S),some (.lf s (.lst (es.map eD))),sI p,sI q,some (.lf (zF (eD x)||(s&&true)) (eD x)),some (.lf (zF (eD y)||(s&&true)) (eD y))] true (.int (yW J x.1 y.1)):=
  Zb A.j ox.1 oy.1 (Lx (WD.e (za rfl)) (WD.e zb) rfl) (u_ (za rfl) zb) (u_ (za rfl) zb)
 have w2:WD (f2 (f2 (f2 zM yp zy) (f2 yA yp zy) zD) (f2 zu yp zy) zm) [sT (zj n m J e Ds S),some (.lf s (.lst (es.map eD))),sI p,sI q,some (.lf (zF (eD x)||(s&&true)) (eD x)),some (.lf (zF (eD y)||(s&&true)) (eD y))] true (.int ((x.2.1+y.2.1)%m)):=
  zP (yg (rA (za rfl) zb) (rA (za rfl) zb)) (Lx (WD.e (za rfl)) (WD.e zb) rfl) (by omega)
 have w3:WE (yf (dC (fC (.str "two")) (dC zJ (dC zL dN)))) [sT (zj n m J e Ds S),some (.lf s (.lst (es.map eD))),sI p,sI q,some (.lf (zF (eD x)||(s&&true)) (eD x)),some (.lf (zF (eD y)||(s&&true)) (eD y))] (.tup [.str "two",.int p,.int q]):=Z9 (WD.e zb) (WD.e (za rfl)) (WD.e (za rfl));have e1:eD (two m J es p q) = .tup [.int (yW J x.1 y.1),.int ((x.2.1+y.2.1)%m),.tup [.str "two",.int p,.int q]]:=by unfold two;rw[gd hx,gd hy]
 rw[e1];exact y7 rfl (zq s4 (zq s5 (yU (Z9 (WD.e w1) (WD.e w2) w3))))
def CG{a b c d:EF}{as:AS}{s:Bool}{x l z:D}{p q:Int}{g:List (Bool×D)->Option O}(ha:WD a as true x)(hb:WD b as s l)(hc:WD c as true (.int p))(hd:WD d as true (.int q))(hg:RE (g [(true,x),(zF l||s,l),(true,.int p),(true,.int q)]) z):WE (zt (aC a (aC b (aC c (aC d aN)))) g) as z:=by
 obtain⟨o,h1,h2,h3⟩:=hg;exact⟨o,vL (zf ha (zf hb (zf hc (zf hd zz)))) (by show g [(zF x||true,x),(zF l||s,l),(true,.int p),(true,.int q)]=_;rw[zyD];exact h1),h2,h3⟩
variable{n m:Nat}{J:PF.TZ}{e:Int}{Ds:PF.DD}{S:PF.SS}{es:List En}
def rW{as:AS}{i:Nat}{fe:EF}{os ps:List O}(h:as[i]? = some (sN os))(e1:fe as=some (.ow (.nd .ls ps),as))(hl:os.length+ps.length<=1000):
 yq (xO i (dC fe dN) E7) as=some (.nx (as.set i (sN (os++ps)))):=by
 unfold yq xO;rw[h];unfold dC;rw[e1];show((match as[i]? with|some (some (.nd .ls os))=>(E7 os _).bind λz=>some _|_=>none).bind _)=_;rw[h];show(((if os.length+ps.length<=sizeLine then some _ else none:Option _).bind _).bind _)=_;rw[if_pos (S9 (by omega))];rfl
theorem Lu:∀(a b:List O),O.toDs (a++b)=O.toDs a++O.toDs b
 | [],_=>rfl
 |x::a,b=>congrArg (x.toD :: ·) (Lu a b)
theorem Ls:∀{a b:List O},O.strs a=true->O.strs b=true->O.strs (a++b)=true
 | [],_,_,h=>h
 |x::a,b,h,h'=>by
  have h:=(zyC _ _).mp (h);show(x.str&&O.strs (a++b))=_;rw[h.1,Ls h.2 h'];rfl
def Oe(os:List O)(l:List En):Prop:=O.strs os=true/\O.toDs os=l.map eD
def Oe.len{os:List O}{l:List En}(h:Oe os l):os.length=l.length:=by have:=congrArg List.length h.2;rw[Y_,zzB]at this;exact this
abbrev B7(s:Bool)(A:D)(es:List En)(k:Nat)(v c:Int)(os:List O)(e6:Option O):AS:=[sT A,some (.lf s (.lst (es.map eD))),sI k,sI v,sI c,sN os,e6]
abbrev qR:SF:=(yq (xO 5 (dC (yK (dC (zt (aC zu (aC zG (aC xa Ve))) Z2) (dC (zt (aC zu (aC zG (aC zJ (aC xa aN)))) Z2) dN))) dN) E7))
abbrev HN(m:Nat)(J:PF.TZ)(es:List En)(k i:Nat):List En:=(List.range i).flatMap λp=>[two m J es p k,two m J es k p]
def KP{k i:Nat}:HN m J es k (i+1)=HN m J es k i++[two m J es i k,two m J es k i]:=by
 show(List.range _).flatMap _=_;rw[List.range_succ,List.flatMap_append];rfl
theorem Tx{k:Nat}:∀i,(HN m J es k i).length=2*i
 |0=>rfl
 |i+1=>by rw[KP,zzJ,Tx i];show 2*i+2=_;omega
def Jt(A:Alg n m J e Ds)(m1:1<=m){s:Bool}{k:Nat}{x:En}(hk:es[k]? = some x)(ok:∀y ∈ es,Ok n m y)(hl:k<100){v c:Int}{os0:List O}{l0:List En}(h0:Oe os0 l0)(ll:l0.length<=10):
 ∃os e6,forL (gN 6) qR (yT 0 (k+1)) (B7 s (zj n m J e Ds S) es k v c os0 none)=some (.nx (B7 s (zj n m J e Ds S) es k v c os e6))/\Oe os (l0++HN m J es k (k+1)):=by
 have ox:=ok x (zyA hk);have hke:=(zzG.mp hk).1;obtain⟨as',hf,os,e6,rfl,ho⟩:=yN (g:=gN 6) (λi as=>∃os e6,as=B7 s (zj n m J e Ds S) es k v c os e6/\Oe os (l0++HN m J es k i)) (yT 0 (k+1)) 0 (B7 s (zj n m J e Ds S) es k v c os0 none) (λi y as hy hI=>by
  obtain⟨os,e6,rfl,ho⟩:=hI;obtain⟨rfl,hi⟩:=yO hy;rw[zyY]at ho;have hp:i<es.length:=by omega
  have ep:=zzE hp;have op:=ok _ (zxA hp);refine⟨B7 s (zj n m J e Ds S) es k v c os (sI (0+i)),rfl, ?_⟩;rw[show(0+i)=(i:Int) by omega];obtain⟨o2,j1,j2,j3⟩:=Gh (CG (as:=B7 s (zj n m J e Ds S) es k v c os (sI i)) (za (i:=0) rfl) (za (i:=1) rfl) (za (i:=2) rfl) (za (i:=6) rfl) (P2 A m1 hk ep ox op)) zR;obtain⟨o1,k1,k2,k3⟩:=Gh (CG (za (i:=0) rfl) (za (i:=1) rfl) (za (i:=6) rfl) (za (i:=2) rfl) (P2 A m1 ep hk op ox)) j3;have e1:=v5 k3 (YQ rfl);have ln:=ho.len;rw[zzJ,Tx]at ln;refine⟨_,rW (i:=5) rfl e1 (by show os.length+2<=1000;omega),os++[o1,o2],sI i,rfl, ?_⟩;rw[zyY,KP,<-zxD];refine⟨Ls ho.1 (by show(o1.str&&(o2.str&&true))=true;rw[k1,j1];rfl), ?_⟩;rw[Lu,ho.2];show _++[o1.toD,o2.toD]=_;rw[k2,j2,zyM (l₁:=l0++HN m J es k i)];rfl) ⟨os0,none,rfl,by rw[show HN m J es k 0=[]from rfl,zyE];exact h0⟩
 rw[yr,zyY]at ho;exact⟨os,e6,hf,ho⟩
variable{n m:Nat}{J:PF.TZ}{e:Int}{Ds:PF.DD}{S:PF.SS}{es:List En}
def Oc{p:Str×PF.TZ}{a b c:Option O}:gT 2 (wI xI (wI (gN 1) RP)) (true,x_ p) [none,none,a,b,c]=some [sT (.str p.1),sT (zU p.2),a,b,c]:=by
 have k:kids true [.str p.1,zU p.2]=[(true,.str p.1),(true,zU p.2)]:=by
  show[(zF _||true,.str p.1),(zF _||true,zU p.2)]=_;rw[zyD,zyD]
 unfold gT;simp only[x_,k];rfl
def GE(A:Alg n m J e Ds)(L:Alg n m J e Ds){s:Bool}{k:Nat}{x:En}(hk:es[k]? = some x)(ok:∀y ∈ es,Ok n m y)(hl:k<100):RE (wW [(true,zj n m J e Ds S),(s,.lst (es.map eD)),(true,.int k)]) (.lst ((Ny m J Ds es k).map eD)):=by
 have ox:=ok x (zyA hk);have s3:=xU (as:=yk 7 [(true,zj n m J e Ds S),(s,.lst (es.map eD)),(true,.int k)]) (p:=3) (WD.e (u_ (tq hk (za (i:=1) rfl) (za (i:=2) rfl)) zb)) (zh rfl);have s4:=xU (as:=[sT (zj n m J e Ds S),some (.lf s (.lst (es.map eD))),sI k,sI x.1,none,none,none]) (p:=4) (WD.e (rA (tq hk (za (i:=1) rfl) (za (i:=2) rfl)) zb)) (zh rfl);have hi:=Hn (as:=[sT (zj n m J e Ds S),some (.lf s (.lst (es.map eD))),sI k,sI x.1,sI x.2.1,none,none]) (f:=f2 zu wF zy) (WD.e (Lx (WD.e (za rfl)) (WD.e zb) rfl));obtain⟨os,c1,c2,c3⟩:=Qf Ds λp mp=>
  ⟨_,Oc,Z9 (WD.e (v8 (A.ds p mp) ox.2 ox.1 (za (i:=1) rfl) (za (i:=2) rfl) (za (i:=3) rfl)).1) (WD.e (za (i:=2) rfl)) (Z9 (WD.e zb) (WD.e (za (i:=0) rfl)) (WD.e (za (i:=4) rfl)))⟩
 have dl:=A.dl;have s5:=yz (i:=5) (XQ (cap:=[none,none,some 4,some 3,some 2]) hi (S9 (by rw[zzB];omega)) c1) (zh rfl);have h0:Oe os (Ds.map λp=>(yW p.2 x.2.1 x.1,x.2.1,D.tup [.str "deed",.str p.1,.int k])):=⟨c2,by rw[c3,zyB];rfl⟩;obtain⟨os',e6,hf,ho⟩:=Jt A A.m1 hk ok hl h0 (by rw[zzB];omega);have hr:=yX (as:=B7 s (zj n m J e Ds S) es k x.1 x.2.1 os none) (zf (yg (za (i:=2) rfl) (zb (x:=.int 1))) zz) (by omega) (by omega);rw[show((k:Int)+1).toNat=k+1 by omega]at hr;have ef:(Ny m J Ds es k)=(Ds.map λp=>(yW p.2 x.2.1 x.1,x.2.1,D.tup [.str "deed",.str p.1,.int k]))++HN m J es k (k+1):=by unfold Ny;rw[gd hk]
 rw[ef];refine y7 rfl (zq s3 (zq s4 (zq s5 (zq (yQ hr hf) ?_))));exact Ows.retB rfl ⟨ho.1,ho.2,λ_ _=>True.intro,ho.len⟩
variable{n m:Nat}{J:PF.TZ}{e:Int}{Ds:PF.DD}{S:PF.SS}{es:List En}
def Qb{as:AS}{i j:Nat}{fe:EF}{xs:List En}(hi:as[i]? = some (some (eO es)))(hj:as[j]? = some (some (kO es)))(h:WE fe as (.lst (xs.map eD)))(hl:es.length+xs.length<=1000):
 WK i j fe yC as=some (.nx ((as.set i (some (eO (tk es xs)))).set j (some (kO (tk es xs))))):=by
 obtain⟨o,h1,h2,h3⟩:=h;have e:ZA as (.ow o)=some ((o.str,o.toD),as):=rfl;unfold WK;simp only[hi,hj,h1,e,zyL,h2,h3,OZ hl]
abbrev C5(A r:D)(es:List En)(k:Nat):AS:=[sT A,sT r,some (eO es),some (kO es),sI k]
abbrev qX:TF:=fT (f2 zM (fP Ve Uc) (zB .Lt))
abbrev qZ:SF:=(zg (WK 2 3 (zt (aC zu (aC zJ (aC zM aN))) wW) yC) (KF 4 1))
def tJ(A:Alg n m J e Ds)(L:Alg n m J e Ds){r:D}{k:Nat}{x:En}(hk:es[k]? = some x)(ok:∀y ∈ es,Ok n m y)(hl:k<100):WE (zt (aC zu (aC zJ (aC zM aN))) wW) (C5 (zj n m J e Ds S) r es k) (.lst ((Ny m J Ds es k).map eD)):=by
 obtain⟨o,h1,h2,h3⟩:=GE A L hk ok hl;refine⟨o,SJ (xs:=[(zF (zj n m J e Ds S)||true,zj n m J e Ds S),(false,(eO es).toD),(true,.int k)]) rfl rfl ?_,h2,h3⟩;rw[zyD,NL];exact h1
def OO{k:Nat}(A:Alg n m J e Ds):(Ny m J Ds es k).length<=6+2*(k+1):=by
 have:=A.dl;unfold Ny;rw[zzJ,zzB];have:=Tx (m:=m) (J:=J) (es:=es) (k:=k) (k+1);unfold HN at this;rw[this];omega
def Cl.le{k:Nat}(A:Alg n m J e Ds)(h:Cl n m J Ds es k):es.length<=48:=by
 have:=Fl h.nd λp mp=>by
  obtain⟨x,mx,rfl⟩:=zxE.mp mp;exact h.ok x mx
 rw[zzB]at this;exact zzO this (zzO (Nat.mul_le_mul A.n8 A.m6) (by decide))
theorem Cr(A:Alg n m J e Ds)(L:Alg n m J e Ds){r:D}:∀(d k f:Nat) (es:List En),Cl n m J Ds es k->k<=es.length->d+k=49->d<f->∃es',Ml qX qZ f (C5 (zj n m J e Ds S) r es k)=some (.nx (C5 (zj n m J e Ds S) r es' es'.length))/\Cl n m J Ds es' es'.length/\∀q ∈ es.map ky,q ∈ es'.map ky
 |0,k,f,es,h,hk,hd,hf=>by have:=h.le A;omega
 |d+1,k,f,es,h,hk,hd,hf=>by
  obtain⟨f,rfl⟩:∃g,f=g+1:=⟨f-1,by omega⟩;have le:=h.le A;have lt:=PV (za (i:=4) rfl) (DI (as:=C5 (zj n m J e Ds S) r es k) (i:=2) rfl);rw[zzB,zzB]at lt
  by_cases hc:k<es.length
  . have tt:=yI lt (congrArg some (zyO (by omega)));have ek:=zzE hc;have fl:=OO (es:=es) (k:=k) A;have s1:=Qb (as:=C5 (zj n m J e Ds S) r es k) (i:=2) (j:=3) rfl rfl (tJ A L ek h.ok (by omega)) (by omega);obtain⟨t,et⟩:=Ga (Ny m J Ds es k) es;obtain⟨es',h1,h2,h3⟩:=Cr A L d (k+1) f (tk es (Ny m J Ds es k)) (h.step L A.m1 hc) (by rw[et,zzJ];omega) (by omega) (by omega);exact⟨es',NJ tt (zC s1 rfl) h1,h2,λq mq=>h3 q (VM mq)⟩
  . have ee:k=es.length:=by omega
    subst ee;have tt:=yI lt (congrArg some (zyG (by omega)));exact⟨es,NO tt,h,λq mq=>mq⟩
variable{n m:Nat}{J:PF.TZ}{e:Int}{Ds:PF.DD}{S:PF.SS}
abbrev Ha(m:Nat)(v:Int):En:=(v,1%(m:Int),.tup [.str "one",.int v])
def PP(A:Alg n m J e Ds)(L:tW n m J e Ds=none){row:List Int}(hr:∀v ∈ row,zH n v)(hl:row.length<=10):
 ∃es:List En,RE (vW [(true,zj n m J e Ds S),(true,zk row)]) (.lst (es.map eD))/\Kn n m J e Ds (es.map ky)/\(∀v ∈ row,(v,1%(m:Int)) ∈ es.map ky)/\es.length<=48/\(es.map ky).Nodup:=by
 have m1:=A.m1;have s0:yq (zt wC yx) (yk 5 [(true,zj n m J e Ds S),(true,zk row)])=some (.nx (yk 5 [(true,zj n m J e Ds S),(true,zk row)])):=by
  obtain⟨o,h1,_⟩:=Z5 (as:=yk 5 [(true,zj n m J e Ds S),(true,zk row)]) (WD.e (za (i:=0) rfl)) (SR (S:=S) A L);unfold yq;rw[h1];rfl
 have s2:=yz (as:=yk 5 [(true,zj n m J e Ds S),(true,zk row)]) (i:=2) (v5 zR (YQ rfl)) (zh rfl);have s3:=yz (as:=[sT (zj n m J e Ds S),sT (zk row),sN [],none,none]) (f:=A3) (i:=3) rfl (zh rfl);have w0:WE (yK (dC (yf (dC (f2 zu vg zy) (dC yh (dC (yf (dC (fC (.str "none")) dN)) dN)))) dN)) [sT (zj n m J e Ds S),sT (zk row),some (eO []),some (kO []),none] (.lst ([((e,0,.tup [.str "none"]):En)].map eD)):=by
  obtain⟨o,h1,h2,h3⟩:=Gh (as:=[sT (zj n m J e Ds S),sT (zk row),some (eO []),some (kO []),none]) (Z9 (WD.e (Lx (a:=fV 0) (b:=fC (.int 3)) (g:=zy) (z:=.int e) (WD.e (za (i:=0) rfl)) (WD.e zb) rfl)) (WD.e (zb (x:=.int 0))) (HJ (WD.e (zb)))) zR;exact x6 h3 (YQ rfl) (by show(o.str&&true)=true;rw[h1];rfl) (by show D.lst [o.toD]=_;rw[h2];rfl)
 have c1:=Qb (i:=2) (j:=3) rfl rfl w0 (by show 0+1<=1000;decide);have w1:WE (ya (vh zG) [none,some 0] xI yH (yf (dC zu (dC (f2 yp (f2 zG yp zy) zm) (dC (yf (dC (fC (.str "one")) (dC zu dN))) dN))))) [sT (zj n m J e Ds S),sT (zk row),some (eO (tk [] [((e,0,.tup [.str "none"]):En)])),some (kO (tk [] [((e,0,.tup [.str "none"]):En)])),none] (.lst ((row.map (Ha m)).map eD)):=by
  have:=NQ (as:=[sT (zj n m J e Ds S),sT (zk row),some (eO (tk [] [((e,0,.tup [.str "none"]):En)])),some (kO (tk [] [((e,0,.tup [.str "none"]):En)])),none]) (cap:=[none,some 0]) (gg:=gN 0) row (Hn (f:=fV 1) (g:=D.int) (WD.e (za (i:=1) rfl))) (by omega) λv _=>⟨_,rfl,Z9 (WD.e (za (i:=0) rfl)) (WD.e (zP (zb (x:=.int 1)) (Lx (a:=fV 1) (b:=fC (.int 1)) (g:=zy) (z:=.int m) (WD.e (za (i:=1) rfl)) (WD.e zb) rfl) (by omega))) (Xu (WD.e (zb (x:=.str "one"))) (WD.e (za (i:=0) rfl)))⟩;rw[zyB];exact this
 have c2:=Qb (i:=2) (j:=3) rfl rfl w1 (by rw[zzB];show 1+row.length<=1000;omega);have s4:=zS (st:=true) (as:=[sT (zj n m J e Ds S),sT (zk row),some (eO (tk (tk [] [((e,0,.tup [.str "none"]):En)]) (row.map (Ha m)))),some (kO (tk (tk [] [((e,0,.tup [.str "none"]):En)]) (row.map (Ha m)))),none]) (i:=4) (zb (x:=.int 0)) (zh rfl);have cl:Cl n m J Ds (tk (tk [] [((e,0,.tup [.str "none"]):En)]) (row.map (Ha m))) 0:=⟨Md _ _ (Md _ _ zyJ),GD _ _ (GD _ _ (λ_ z=>nomatch z) λx mx=>by rw[zzR.mp mx];exact⟨⟨A.e0,A.en⟩,⟨Int.le_refl _,by show(0:Int)<m;omega⟩⟩) λx mx=>by
  obtain⟨v,mv,rfl⟩:=zxE.mp mx;exact⟨hr v mv,X1 (by omega)⟩,λk hk=>absurd hk (by omega),λp q hp=>absurd hp (by omega)⟩
 obtain⟨es,h1,h2,h3⟩:=Cr (S:=S) (r:=zk row) A A 49 0 10000 _ cl (Nat.zero_le _) rfl (by decide);refine⟨es,y7 rfl (zq s0 (zq s2 (zq s3 (zq c1 (zq c2 (zq s4 (zq h1 (Ows.retB (i:=2) rfl ⟨Wd _,X_ _,λ_ _=>True.intro,by rw[zzB,zzB]⟩)))))))),h2.kn (h3 _ (VM (P_ _ _ ((e,0,.tup [.str "none"]):En) zzF))),λv mv=>h3 _ (P_ _ _ (Ha m v) (zxE.mpr ⟨v,mv,rfl⟩)),h2.le A,h2.nd⟩
open L2 (zQ Key GU x8)
def Ee{as:AS}{i:Nat}{b:EF}{g:D->D->Option R0}{k:PF.Kind}{ds:List D}{X y z:D}(h:as[i]? = some (some (.nd k (ds.map (O.lf true)))))(hX:(O.nd k (ds.map (O.lf true))).toD=X)(hb:WE b as y)(hg:g X y=some (.im z)):WE (f2 (fV i) b g) as z:=by
 obtain⟨o,h1,h2,rfl⟩:=hb;have e2:RV.view as (.bo i)=some (X,some true):=by rw[Zt h,FM,hX]
 have e3:RV.view as (RV.ow o).frz=some (o.toD,some o.str):=by cases o<;>rfl
 refine⟨.lf (zF z||true) z, ?_,zyD _,rfl⟩;unfold f2;simp only[Wi h,h1,zyL,RV.frz,e2];show((RV.view as (RV.ow o).frz).bind _)=_;rw[e3,h2];show((g X o.toD).bind _)=_;rw[hg];show((if(zF z||true)=true then some _ else none:Option RV).bind _)=_;rw[if_pos (zyD _)];rfl
def uU{as:AS}{i:Nat}{ds:List D}(h:as[i]? = some (sN (ds.map (O.lf true)))):WD (fP (aC (fV i) aN) Uc) as true (.int (ds.length:Nat)):=by
 have e:views as [.bo i]=some ([.lst ds],some true):=by
  show(RV.view as _).bind _=_;rw[Zt h,FM,NL];rfl
 unfold WD fP aC;rw[Wi h];simp only[zyL,aN,RV.frz,e];rfl
structure Bs(K:List Int)(R:TZ):Prop where
 nd:K.Nodup
 len:K.length=R.length
def Bs.put{K:List Int}{R:TZ}{k:Int}{r:List Int}(h:Bs K R)(n:k ∉ K):Bs (K++[k]) (R++[r]):=⟨zxF.mpr ⟨h.nd,zzW.mpr ⟨zxC,zyJ⟩,λa m b m' e=>n (by rw[<-zzR.mp m',<-e];exact m)⟩,by rw[zzJ,zzJ,h.len];rfl⟩
abbrev Fs(k:Int):Key:=.inl k
abbrev mp(K:List Int)(R:TZ):List (Key×D):=(K.map Fs).zip (R.map zk)
abbrev dK(K:List Int)(R:TZ):Option O:=some (.nd (.dc (K.map Fs)) ((R.map zk).map (O.lf true)))
def BS(K:List Int)(R:TZ):(O.nd (.dc (K.map Fs)) ((R.map zk).map (O.lf true))).toD = .dct (mp K R):=by
 show D.dct _=_;rw[X_]
theorem GI:∀{K:List Int}{R:TZ}{i:Nat}{k:Int}{r:List Int},K.Nodup->K[i]? = some k->R[i]? = some r->ZE (mp K R) (Fs k)=some (zk r)
 | [],_,_,_,_,_,h,_=>by simp at h
 |_::_,[],_,_,_,_,_,h=>by simp at h
 |x::K,q::R,0,k,r,nd,h1,h2=>by
  simp at h1 h2;subst h1 h2;unfold ZE;show((_::mp K R).find? _).map _=_;rw[List.find?_cons_of_pos (by simp)];rfl
 |x::K,q::R,i+1,k,r,nd,h1,h2=>by
  have n2:=zzW.mp nd;have h1':K[i]? = some k:=by simpa using h1
  have ih:=GI n2.2 h1' (by simpa using h2);have ne:x≠k:=λe=>n2.1 (by rw[e];exact zyA h1');unfold ZE at ih ⊢;show((_::mp K R).find? _).map _=_;rw[List.find?_cons_of_neg (by simp[ne])];exact ih
theorem Ek:∀{K:List Int}{R:TZ}{k:Int},k ∉ K->ZE (mp K R) (Fs k)=none
 | [],_,_,_=>rfl
 |_::_,[],_,_=>rfl
 |x::K,q::R,k,h=>by
  have ih:=Ek (R:=R) λz=>h (zzD _ z);have ne:x≠k:=λe=>h (by rw[e];exact zzF);unfold ZE at ih ⊢;show((_::mp K R).find? _).map _=_;rw[List.find?_cons_of_neg (by simp[ne])];exact ih
def Jg{K:List Int}{R:TZ}{k:Int}(hl:K.length=R.length)(nd:K.Nodup):zB .NotIn (.int k) (.dct (mp K R))=some (.im (.bl (!decide (k ∈ K)))):=by
 show((some (ZE _ _).isSome).bind λb=>some (Oh !b))=_
 by_cases h:k ∈ K
 . obtain⟨i,hi⟩:=zyV h;have hr:=zzE (by rw[<-hl];exact(zzG.mp hi).1);rw[GI nd hi hr,zyO h];rfl
 . rw[Ek h,zyG h];rfl
def FS{k:Int}{K:List Int}(h:k ∉ K):NF (K.map Fs) (Fs k)=false:=by
 unfold NF;rw[List.any_eq_false];intro q mq;obtain⟨x,mx,rfl⟩:=zxE.mp mq;simpa using λz:x=k=>h (by rw[<-z];exact mx)
def Hh{as:AS}{fv:EF}{w:Int}{K:List Int}{R:TZ}{r:List Int}(h2:as[2]? = some (dK K R))(h6:as[6]? = some (sI w))(hv:WE fv as (zk r))(hn:w ∉ K)(hl:K.length<=1000):
 FH 2 xa fv as=some (.nx (as.set 2 (dK (K++[w]) (R++[r])))):=by
 obtain⟨o,q1,q2,q3⟩:=hv;have e:ZA as (.ow o)=some ((o.str,o.toD),as):=rfl;have e1:fV 6 as=some (.ow (.lf true (.int w)),as):=za h6;have e3:(RV.ow (.lf true (.int w))).frz.view as=some (.int w,some true):=rfl;have e4:LK (.int w)=some (Fs w):=rfl;unfold FH;simp only[q1,zyL,e,h2,e1,e3,e4,zzB,if_pos (show K.length<sizeLine from Nat.lt_of_le_of_lt hl (by decide))];unfold QZ Zv;rw[FS hn,q2,q3];simp only[Bool.false_eq_true,if_false,dK,zyM,zyS,List.map_nil]
section
variable{n:Nat}{J:TZ}{A:D}{vs:List Int}
abbrev L7(A:D)(vs K:List Int)(R:TZ)(a:Nat)(e5 e6:Option O):AS:=[sT A,sT (zk vs),dK K R,sN ((K.map D.int).map (O.lf true)),sI a,e5,e6]
abbrev rT:SF:=zg (zo true 6 (f2 (f2 (f2 zu yR zy) (f2 zL zM zy) zy) yA zy))
 (xr (fT (f2 xa zJ (zB .NotIn))) (zg (FH 2 xa (f2 (f2 zJ (f2 zL zM zy) zy) (yK (dC yA dN)) zD))
 (yq (xO 3 (dC xa dN) wg))) wc)
def Mf{K:List Int}{R:TZ}{a:Nat}{k:Int}{e5 e6:Option O}(hk:K[a]? = some k):WE (f2 zL zM zy) (L7 A vs K R a e5 e6) (.int k):=
 Ee rfl (NL _) (WD.e (za rfl)) (by show Ss (GU (K.map D.int) a)=_;rw[x8 (by rw[zzI,hk];rfl)];rfl)
def Jd{K:List Int}{R:TZ}{a:Nat}{e6:Option O}{v:Int}(hJ:Tab n n J)(n8:n<=8)(hA:zy A (.int 2)=some (.im (zU J)))(vR:zH n v)(hB:Bs K R)(hK:∀x ∈ K,zH n x)(hl:K.length<=8)(hq:∀r ∈ R,r.length<=R.length)(ha:a<K.length):
 ∃K' R' e6',Bs K' R'/\(∀x ∈ K',zH n x)/\K.length<=K'.length/\(∀r ∈ R',r.length<=R'.length)/\rT (L7 A vs K R a (sI v) e6)=some (.nx (L7 A vs K' R' a (sI v) e6')):=by
 have hk:=zzE ha;have hr:=zzE (by rw[<-hB.len];exact ha);have kR:=hK _ (zxA ha);generalize K[a]=k at hk kR;generalize R[a]'(by rw[<-hB.len];exact ha)=ra at hr;obtain⟨t1,t2⟩:=vV hJ kR;obtain⟨w1,w2⟩:=rowAt t2 vR;have a2:WE (f2 zu yR zy) (L7 A vs K R a (sI v) e6) (zU J):=WD.e (yM (za rfl) zb hA);have s6:=xU (p:=6) (WD.e (Lx (WD.e (Lx a2 (Mf hk) t1)) (WD.e (za (i:=5) rfl)) w1)) (zh rfl);have ew:ZJ (L8 J k) v=yW J k v:=rfl;rw[ew]at s6 w2;have tn:WT (fT (f2 xa zJ (zB .NotIn))) (L7 A vs K R a (sI v) (sI (yW J k v))) (!decide (yW J k v ∈ K)):=yI (CF (BO (za rfl) rfl (BS K R) (Jg hB.len hB.nd))) rfl
 by_cases hin:yW J k v ∈ K
 . rw[zyO hin]at tn;exact⟨K,R,_,hB,hK,zzN _,hq,zC s6 (yc tn rfl)⟩
 . rw[zyG hin]at tn;have rw2:WE (f2 zJ (f2 zL zM zy) zy) (L7 A vs K R a (sI v) (sI (yW J k v))) (zk ra):=Ee rfl (BS K R) (Mf hk) (by show Ss (ZE (mp K R) (Fs k))=_;rw[GI hB.nd hk hr];rfl);have hrl:=hq ra (zyA hr);have hkr:=hB.len;have cat:=sU rw2 (x6 (x:=.lst [.int v]) (zw (za (i:=5) rfl) zR) (YQ rfl) rfl rfl) (add_lists (S9 (by rw[zzB];show _+1<=_;omega)));rw[show ra.map D.int++[D.int v]=(ra++[v]).map D.int by rw[zyM];rfl]at cat;have d1:=Hh rfl rfl cat hin (by omega);have d2:=Vu (as:=[sT A,sT (zk vs),dK (K++[yW J k v]) (R++[ra++[v]]),sN ((K.map D.int).map (O.lf true)),sI a,sI v,sI (yW J k v)]) (i:=3) rfl (za (i:=6) rfl) rfl (by rw[zzB,zzB];exact zQ (by omega));have e3:((K++[yW J k v]).map D.int).map (O.lf true)=(K.map D.int).map (O.lf true)++[.lf true (.int (yW J k v))]:=by rw[zyM,zyM];rfl
   refine⟨K++[yW J k v],R++[ra++[v]],sI (yW J k v),hB.put hin,λx mx=>(zzM.mp mx).elim (hK x) λmx=>by rw[zzR.mp mx];exact w2,by rw[zzJ];omega,λr mr=>?_,zC s6 (yL tn (zC d1 ?_))⟩
   . rw[zzJ]
     rcases zzM.mp mr with mr|mr
     . have:=hq r mr;omega
     . rw[zzR.mp mr,zzJ];show _+1<=_+1;omega
   . show _=some (Out.nx [sT A,sT _,dK _ _,sN _,sI a,sI v,sI _]);rw[e3];exact d2
def SC{K:List Int}(nd:K.Nodup)(h:∀x ∈ K,zH n x):K.length<=n:=by
 have:=nd.length_le_of_subset (l₂:=Vn n) λx mx=>zxE.mpr ⟨x.toNat,List.mem_range.mpr (by have:=h x mx;omega),by have:=(h x mx).1;omega⟩;rw[zzB,zyU]at this;exact this
def Ah{K:List Int}{R:TZ}{a:Nat}{e5 e6:Option O}(hJ:Tab n n J)(n8:n<=8)(hA:zy A (.int 2)=some (.im (zU J)))(hR:∀x ∈ vs,zH n x)(hB:Bs K R)(hK:∀x ∈ K,zH n x)(hq:∀r ∈ R,r.length<=R.length)(ha:a<K.length):
 ∃K' R' e5' e6',Bs K' R'/\(∀x ∈ K',zH n x)/\a<K'.length/\(∀r ∈ R',r.length<=R'.length)/\yo (Gn zG) (gN 5) rT (L7 A vs K R a e5 e6)=some (.nx (L7 A vs K' R' a e5' e6')):=by
 obtain⟨as',hf,K',R',e5',e6',rfl,B',hK',ha',hq'⟩:=yN (g:=gN 5) (λi as=>∃K' R' e5' e6',as=L7 A vs K' R' a e5' e6'/\Bs K' R'/\(∀x ∈ K',zH n x)/\a<K'.length/\∀r ∈ R',r.length<=R'.length) ((vs.map D.int).map λd=>(true,d)) 0 (L7 A vs K R a e5 e6) (λi x as hx hI=>by
  obtain⟨K',R',e5',e6',rfl,B',hK',ha',hq'⟩:=hI;rw[zyB,zzI]at hx;cases hv:vs[i]? with
  |none=>rw[hv]at hx;cases hx
  |some v=>
   rw[hv]at hx;cases hx;obtain⟨K2,R2,e6'',B2,hK2,hl2,hq2,st⟩:=Jd hJ n8 hA (hR v (zyA hv)) B' hK' (zzO (SC B'.nd hK') n8) hq' ha';refine⟨L7 A vs K' R' a (sI v) e6',rfl,_,st,K2,R2,_,_,rfl,B2,hK2,by omega,hq2⟩) ⟨K,R,e5,e6,rfl,hB,hK,ha,hq⟩
 exact⟨K',R',e5',e6',B',hK',ha',hq',yQ (M3 (za rfl)) hf⟩
def uA(hJ:Tab n n J)(n8:n<=8)(hA:zy A (.int 2)=some (.im (zU J)))(hR:∀x ∈ vs,zH n x)(F:Nat):∀(t a:Nat) (K:List Int) (R:TZ) (e5 e6:Option O),9<=a+t->t<F->a<=K.length->Bs K R->(∀x ∈ K,zH n x)->(∀r ∈ R,r.length<=R.length)->
 ∃K' R' e5' e6',Bs K' R'/\(∀x ∈ K',zH n x)/\(∀r ∈ R',r.length<=R'.length)/\Ml (fT (f2 zM (fP V3 Uc) (zB .Lt))) (zg (yo (Gn zG) (gN 5) rT) (KF 4 1)) F (L7 A vs K R a e5 e6)=some (.nx (L7 A vs K' R' K'.length e5' e6')):=by
 induction F with
 |zero=>exact λt a K R e5 e6 _ hf=>absurd hf (Nat.not_lt_zero _)
 |succ F ih=>
  intro t a K R e5 e6 ht hf ha hB hK hq;have hl:=SC hB.nd hK;have lt:WD (f2 zM (fP V3 Uc) (zB .Lt)) (L7 A vs K R a e5 e6) true (.bl (decide ((a:Int)<((K.map D.int).length:Nat)))):=PV (za rfl) (uU rfl);rw[zzB]at lt
  by_cases hlt:a<K.length
  . rw[zyO (Int.ofNat_lt.mpr hlt)]at lt;obtain⟨K',R',e5',e6',B',hK',ha',hq',st⟩:=Ah hJ n8 hA hR hB hK hq hlt;have au:KF 4 1 (L7 A vs K' R' a e5' e6')=some (.nx (L7 A vs K' R' (a+1) e5' e6')):=rfl;obtain⟨K2,R2,f5,f6,B2,hK2,hq2,w2⟩:=ih (t-1) (a+1) K' R' e5' e6' (by omega) (by omega) ha' B' hK' hq';exact⟨K2,R2,f5,f6,B2,hK2,hq2,NJ (yI lt rfl) (zC st au) w2⟩
  . rw[zyG (λz=>hlt (Int.ofNat_lt.mp z))]at lt;have e:a=K.length:=by omega
    subst e;exact⟨K,R,e5,e6,hB,hK,hq,NO (yI lt rfl)⟩
theorem N2:∀l:List Int,Z_ (l.map λv=>.tup [.int v,zk [v]])=some (mp l (l.map λv=>[v]))
 | []=>rfl
 |v::l=>by
  show(Z_ _).bind _=_;rw[N2 l];rfl
def Pc(hJ:Tab n n J)(n8:n<=8)(hA:zy A (.int 2)=some (.im (zU J)))(hs:vs.Nodup)(hR:∀x ∈ vs,zH n x):∃K R,Bs K R/\(∀x ∈ K,zH n x)/\(∀r ∈ R,r.length<=R.length)/\vM [(true,A),(true,zk vs)]=some (.nd (.dc (K.map Fs)) ((R.map zk).map (O.lf true))):=by
 have hB:Bs vs (vs.map λv=>[v]):=⟨hs,(zzB _).symm⟩;have hvl:=SC hB.nd hR;have c:WE (ya (vh zG) [none] xI yH (yf (dC zu (dC (yK (dC zu dN)) dN)))) [sT A,sT (zk vs),none,none,none,none,none] (.lst (vs.map λv=>.tup [.int v,zk [v]])):=NQ (it:=λv=>(true,D.int v)) vs (by rw[PL (WD.e (za rfl)),zyB];rfl) (by omega) λv mv=>⟨_,rfl,Xu (WD.e (za rfl)) (x6 (zw (za rfl) zR) (YQ rfl) rfl rfl)⟩;have k:=CY (g:=Q7) (ZY c (zz)) (by
  show(Z_ _).bind _=_;rw[N2];refine if_pos ?_;rw[List.map_fst_zip (by rw[zzB,zzB,zzB];exact zzN _)];exact List.pairwise_map.mpr (hB.nd.imp λh z=>h (Sum.inl.inj z)))
 rw[show([(true,D.lst (vs.map λv=>.tup [.int v,zk [v]]))].all (·.1))=true from rfl,Zg,List.map_fst_zip (by rw[zzB,zzB,zzB];exact zzN _),List.map_snd_zip (by rw[zzB,zzB,zzB];exact zzN _)]at k;obtain⟨K,R,e5,e6,B',hK,hq,hw⟩:=uA hJ n8 hA hR 10000 9 0 vs (vs.map λv=>[v]) none none (by omega) (by omega) (Nat.zero_le _) hB hR λr mr=>by
  obtain⟨v,mv,rfl⟩:=zxE.mp mr;rw[zzB];exact List.length_pos_of_mem mv
 refine⟨K,R,B',hK,hq,ZX rfl (zC (yz k (zh rfl)) (zC (yz (Na (WD.e (za rfl)) rfl) (zh rfl)) (zC (zS zb (zh rfl)) (zC hw (UA rfl (Wd _))))))⟩
end
open L2 (zQ Key GU x8)
abbrev A_(row:List Int):List Int:=sortI (RX row)
def IJ{row:List Int}{x:Int}:x ∈ A_ row ↔ x ∈ row:=by
 rw[(sortI_perm (RX row)).mem_iff];unfold RX;rw[T8];simp
def uT(row:List Int):(A_ row).Nodup:=(sortI_perm (RX row)).nodup_iff.mpr (L4 row [] zyJ)
theorem ints_of':∀l:List Int,Zu (l.map D.int)=some l
 | []=>rfl
 |x::r=>by
  show(Zu _).bind _=_;rw[ints_of' r];rfl
def JG{as:AS}{a:EF}{n:Nat}{row:List Int}(n8:n<=8)(h:∀x ∈ row,zH n x)(hl:row.length<64)(ha:WE a as (zk row)):WE (fP (aC a aN) u6) as (zk (A_ row)):=by
 have hg:u6 [zk row]=some (.fl ((A_ row).map D.int)):=by
  show(Zu _).bind _=_;rw[ints_of'];refine if_pos ⟨hl,List.all_eq_true.mpr λx mx=>?_⟩;have:=h x mx;rw[zyO this.1,zyO (show x<8 by have:=this.2;omega)];rfl
 exact⟨_,Na ha hg,Wd _,congrArg D.lst (X_ _)⟩
theorem Bv{x:Int}:∀l:List Int,anyF (λy=>ZN 50 y (.int x)) (l.map D.int)=some (decide (x ∈ l))
 | []=>rfl
 |y::l=>by
  show(some _).bind _=_;rw[zyL,Bv l]
  by_cases e:y=x
  . subst e;simp
  . have:(y==x)=false:=by simp[e]
    rw[this];simp[Ne.symm e]
def JM{as:AS}{a b:EF}{x:Int}{l:List Int}(ha:WE a as (.int x))(hb:WE b as (zk l)):WT (fT (f2 a b (zB .In))) as (decide (x ∈ l)):=
 yI (Lx ha hb (by show(anyF (λy=>ZN 50 y (.int x)) (l.map D.int)).bind _=_;rw[Bv];rfl)) rfl
section
variable{n m:Nat}{J:TZ}{e:Int}{Ds:DD}{S:SS}{A:D}{row:List Int}
theorem Ef{held:List Int}{rows nm:D}:∀(K:List Int) (e5:Option O),(∀k ∈ K,∃r,zy rows (.int k)=some (.im (zk r)))->
 (∃e5',forL (gN 5) (xr (fT (f2 yA zL (zB .In))) (zY (f2 zM yA zy)) wc) (K.map λk=>(true,D.int k)) [sT A,sT (zk row),sT nm,sT (zk held),sT rows,e5]=some (.nx [sT A,sT (zk row),sT nm,sT (zk held),sT rows,e5'])) \/
 ∃r:List Int,forL (gN 5) (xr (fT (f2 yA zL (zB .In))) (zY (f2 zM yA zy)) wc) (K.map λk=>(true,D.int k)) [sT A,sT (zk row),sT nm,sT (zk held),sT rows,e5]=some (.rt (.lf true (zk r)))
 | [],e5,_=>.inl ⟨e5,rfl⟩
 |k::K,e5,H=>by
  obtain⟨r,hr⟩:=H k zzF;have t:=JM (as:=[sT A,sT (zk row),sT nm,sT (zk held),sT rows,sI k]) (WD.e (za (i:=5) rfl)) (WD.e (za (i:=3) rfl))
  by_cases hin:k ∈ held
  . rw[zyO hin]at t;exact .inr ⟨r,Rw rfl (yL t (Xc (yM (za rfl) (za rfl) hr)))⟩
  . rw[zyG hin]at t;have step:∀o,forL (gN 5) (xr (fT (f2 yA zL (zB .In))) (zY (f2 zM yA zy)) wc) (K.map λk=>(true,D.int k)) [sT A,sT (zk row),sT nm,sT (zk held),sT rows,sI k]=o->forL (gN 5) (xr (fT (f2 yA zL (zB .In))) (zY (f2 zM yA zy)) wc) ((k::K).map λk=>(true,D.int k)) [sT A,sT (zk row),sT nm,sT (zk held),sT rows,e5]=o:=λo ho=>by
     show((xr _ _ _ [sT A,sT _,sT nm,sT _,sT rows,sI k]).bind _)=_;rw[yc t rfl];exact ho
    exact(Ef K (sI k) (λk' mk=>H k' (zzD _ mk))).imp (λ⟨e5',h2⟩=>⟨e5',step _ h2⟩) λ⟨r,h2⟩=>⟨r,step _ h2⟩
noncomputable def outD:Option (List Int)->D
 |none=>.non
 |some r=>zk r
def qh{as:AS}{p:Str×List Int}(sn:(S.map (·.1)).Nodup)(hp:p ∈ S)(h0:as[0]? = some (sT (zj n m J e Ds S)))(h2:as[2]? = some (sT (.str p.1))):WE (f2 (fP (aC (f2 zu Ug zy) aN) Q7) zJ zy) as (zk p.2):=by
 have d:=tT (a:=f2 zu Ug zy) sn (WD.e (yM (za h0) zb rfl));exact WD.e (Lx d (WD.e (za h2)) (by show Ss (ZE _ (.inr p.1))=_;rw[Mz hp sn];rfl))
def To{p:Str×List Int}(A:Alg n m J e Ds)(sn:(S.map (·.1)).Nodup)(hp:p ∈ S)(hr:∀x ∈ row,zH n x)(hl:row.length<64):∃o,RE (Xe [(true,zj n m J e Ds S),(true,zk row),(true,.str p.1)]) (outD o):=by
 have s3:=xU (as:=[sT (zj n m J e Ds S),sT (zk row),sT (.str p.1),none,none,none]) (p:=3) (qh sn hp rfl rfl) (zh rfl);have t:=JM (as:=[sT (zj n m J e Ds S),sT (zk row),sT (.str p.1),sT (zk p.2),none,none]) (a:=f2 zu vg zy) (WD.e (yM (za rfl) zb rfl)) (WD.e (za (i:=3) rfl))
 by_cases he:e ∈ p.2
 . rw[zyO he]at t;exact⟨some [],y7 rfl (zq s3 (Vo (U3 t (yU (x6 zR (YQ rfl) rfl rfl)))))⟩
 . rw[zyG he]at t;have n8:=A.n8;obtain⟨K,R,hB,hK,hq,hw⟩:=Pc (A:=zj n m J e Ds S) A.j n8 rfl (uT row) λx mx=>hr x (IJ.mp mx);have s4:=yz (as:=[sT (zj n m J e Ds S),sT (zk row),sT (.str p.1),sT (zk p.2),none,none]) (i:=4) (vL (ZY (WD.e (za (i:=0) rfl)) (ZY (JG n8 hr hl (WD.e (za (i:=1) rfl))) zz)) (by show vM [(zF (zj n m J e Ds S)||true,zj n m J e Ds S),(zF (zk (A_ row))||true,zk (A_ row))]=_;rw[zyD,zyD];exact hw)) (zh rfl);have it:u9 4 [sT (zj n m J e Ds S),sT (zk row),sT (.str p.1),sT (zk p.2),some (.nd (.dc (K.map Fs)) ((R.map zk).map (O.lf true))),none]=some (K.map λk=>(true,D.int k),[sT (zj n m J e Ds S),sT (zk row),sT (.str p.1),sT (zk p.2),sT (.dct (mp K R)),none]):=by
    show(if _/\_ then some _ else none)=_;rw[if_pos ⟨by rw[List.all_map];exact List.all_eq_true.mpr λ_ _=>rfl,Wd _⟩,X_,zyB];rfl
   have vl:∀k ∈ K,∃r,zy (.dct (mp K R)) (.int k)=some (.im (zk r)):=λk mk=>by
    obtain⟨i,hi⟩:=zyV mk;have hr':=zzE (by rw[<-hB.len];exact(zzG.mp hi).1);exact⟨_,by show Ss (ZE (mp K R) (Fs k))=_;rw[GI hB.nd hi hr'];rfl⟩
   rcases Ef K none vl with⟨e5',h2⟩|⟨r,h5⟩
   . exact⟨none,y7 rfl (zq s3 (zq (yc t rfl) (zq s4 (zq (yQ it h2) (yU (WD.e zb))))))⟩
   . exact⟨some r,y7 rfl (zq s3 (zq (yc t rfl) (zq s4 ⟨_,Yi (yQ it h5),rfl,rfl⟩)))⟩
abbrev Di:SF:=xr (fT (f2 (f2 xa yh zy) zM (zB .In))) (zY (yf (dC (fC (.str "comes")) (dC zL (dC yA dN))))) wc
theorem Hq{held:List Int}{nm E:D}:∀(l:List En) (k:Nat) (e5 e6:Option O),
 (∃e5' e6',forL (gT 2 (wI (gN 5) (wI (gN 6) RP))) Di (ZW true k (l.map eD)) [sT A,sT (zk row),sT nm,sT E,sT (zk held),e5,e6]=some (.nx [sT A,sT (zk row),sT nm,sT E,sT (zk held),e5',e6'])) \/
 ∃o:O,o.str=true/\forL (gT 2 (wI (gN 5) (wI (gN 6) RP))) Di (ZW true k (l.map eD)) [sT A,sT (zk row),sT nm,sT E,sT (zk held),e5,e6]=some (.rt o)
 | [],k,e5,e6=>.inl ⟨e5,e6,rfl⟩
 |x::l,k,e5,e6=>by
  have t:=JM (as:=[sT A,sT (zk row),sT nm,sT E,sT (zk held),sI k,sT (eD x)]) (WD.e (u_ (za (i:=6) rfl) zb)) (WD.e (za (i:=4) rfl))
  by_cases hin:x.1 ∈ held
  . rw[zyO hin]at t;obtain⟨o,h1,h2,_⟩:=Z9 (as:=[sT A,sT (zk row),sT nm,sT E,sT (zk held),sI k,sT (eD x)]) (WD.e zb) (WD.e (za (i:=3) rfl)) (WD.e (za (i:=5) rfl));exact .inr ⟨o,h2,Rw rfl (yL t (Ys h1 h2))⟩
  . rw[zyG hin]at t;have step:∀o,forL (gT 2 (wI (gN 5) (wI (gN 6) RP))) Di (ZW true (k+1) (l.map eD)) [sT A,sT (zk row),sT nm,sT E,sT (zk held),sI k,sT (eD x)]=o->forL (gT 2 (wI (gN 5) (wI (gN 6) RP))) Di (ZW true k ((x::l).map eD)) [sT A,sT (zk row),sT nm,sT E,sT (zk held),e5,e6]=o:=λo ho=>by
     have hc:Di [sT A,sT (zk row),sT nm,sT E,sT (zk held),sI k,sT (eD x)]=some (.nx [sT A,sT (zk row),sT nm,sT E,sT (zk held),sI k,sT (eD x)]):=yc t rfl;show((Di [sT A,sT _,sT nm,sT E,sT _,sI k,sT _]).bind _)=_;rw[hc];exact ho
    exact(Hq l (k+1) (sI k) (sT (eD x))).imp (λ⟨a,b,h⟩=>⟨a,b,step _ h⟩) λ⟨o,h1,h⟩=>⟨o,h1,step _ h⟩
def BM{p:Str×List Int}(A:Alg n m J e Ds)(L:tW n m J e Ds=none)(sn:(S.map (·.1)).Nodup)(hp:p ∈ S)(hr:∀x ∈ row,zH n x)(hl:row.length<=10):∃x,RE (Vb [(true,zj n m J e Ds S),(true,zk row),(true,.str p.1)]) x:=by
 obtain⟨es,h1,_,_,_,_⟩:=PP A L hr hl;have s3:=xU (as:=[sT (zj n m J e Ds S),sT (zk row),sT (.str p.1),none,none,none,none]) (p:=3) (Qt (WD.e (za (i:=0) rfl)) (WD.e (za (i:=1) rfl)) h1) (zh rfl);have s4:=xU (as:=[sT (zj n m J e Ds S),sT (zk row),sT (.str p.1),sT (.lst (es.map eD)),none,none,none]) (p:=4) (qh sn hp rfl rfl) (zh rfl);have it:=DG (as:=[sT (zj n m J e Ds S),sT (zk row),sT (.str p.1),sT (.lst (es.map eD)),sT (zk p.2),none,none]) (za (i:=3) rfl)
 rcases Hq es 0 none none with⟨a,b,h⟩|⟨o,h2,h⟩
 . exact⟨_,y7 rfl (zq s3 (zq s4 (zq (yQ it h) (yU (Xu (WD.e zb) (WD.e (za rfl)))))))⟩
 . exact⟨o.toD,y7 rfl (zq s3 (zq s4 ⟨o,Yi (yQ it h),h2,rfl⟩))⟩
end
def Dr{k:Nat}(r:List Int):ZN (k+2) (zk r) (zk r)=some true:=Wu _ λx mx=>by
 obtain⟨v,_,rfl⟩:=zxE.mp mx;show some _=_;rw[beq_self_eq_true]
def FB{k:Nat}(T:TZ):ZN (k+3) (zU T) (zU T)=some true:=Wu _ λx mx=>by
 obtain⟨v,_,rfl⟩:=zxE.mp mx;exact Dr v
def eq_str{k:Nat}(x:Str):ZN (k+1) (.str x) (.str x)=some true:=by
 show some _=_;rw[beq_self_eq_true]
def eq_int{k:Nat}(x:Int):ZN (k+1) (.int x) (.int x)=some true:=by
 show some _=_;rw[beq_self_eq_true]
def all2{f:D->D->Option Bool}{a b:D}(ha:f a a=some true)(hb:f b b=some true):∀x ∈ [a,b],f x x=some true:=λx mx=>by
 rcases zzC.mp mx with rfl|mx
 . exact ha
 . rw[zzR.mp mx];exact hb
section
variable{n m:Nat}{J T:TZ}{e:Int}{Ds:DD}{S:SS}
def JQ:ZN 60 (zj n m J e Ds S) (zj n m J e Ds S)=some true:=Wu _ λx mx=>by
 rcases zzC.mp mx with rfl|mx
 . exact eq_int _
 rcases zzC.mp mx with rfl|mx
 . exact eq_int _
 rcases zzC.mp mx with rfl|mx
 . exact FB J
 rcases zzC.mp mx with rfl|mx
 . exact eq_int _
 rcases zzC.mp mx with rfl|mx
 . refine Wu _ λx mx=>?_;obtain⟨p,_,rfl⟩:=zxE.mp mx;exact Wu _ (all2 (eq_str _) (FB p.2))
 . rw[zzR.mp mx];refine Wu _ λx mx=>?_;obtain⟨p,_,rfl⟩:=zxE.mp mx;exact Wu _ (all2 (eq_str _) (Dr p.2))
def QV{t:Int->FT}{ds:List D}(h:fs n t=some ds):∃b,zH n b/\t b=some ds:=by
 obtain⟨i,mi,hi⟩:=List.exists_of_findSome?_eq_some h;have:=List.mem_range.mp mi;exact⟨i,⟨by omega,by omega⟩,hi⟩
def kI{k:Nat}{a:Int}(hk:k<=8)(h:zH k a):GY (.int a)=true:=by
 refine zyO ?_;have h1:=Nat.log2_le_self a.natAbs;have h2:=h.1;have h3:=h.2;omega
def tG{q:Bool}{xs ds:List D}(h:(if q=true then some xs else none)=some ds)(hl:xs.length<=10)(g:xs.all GY=true):ZO (.tup ds)=true:=by
 cases q with
 |true=>
  cases h;show(decide _&&xs.all GY)=_;rw[g,zyO hl];rfl
 |false=>cases h
def uM{ds:List D}(A:Alg n m J e Ds)(nk:∀p ∈ Ds,GY (.str p.1)=true)(h:tW n m J e Ds=some ds):ZO (.tup ds)=true:=by
 have n8:=A.n8;have m8:m<=8:=zzO A.m6 (by decide)
 rcases XM h with h|h
 . rcases XM h with h|h
   . obtain⟨a,ha,h⟩:=QV h;refine tG h (Nat.le_of_ble_eq_true rfl) ?_;simp only[List.all_cons,List.all_nil,kI n8 ha,Bool.and_true];decide +kernel
   . obtain⟨a,ha,h⟩:=QV h;obtain⟨b,hb,h⟩:=QV h;obtain⟨c,hc,h⟩:=QV h;refine tG h (Nat.le_of_ble_eq_true rfl) ?_;simp only[List.all_cons,List.all_nil,kI n8 ha,kI n8 hb,kI n8 hc,Bool.and_true];decide +kernel
 . obtain⟨p,hp,h⟩:=List.exists_of_findSome?_eq_some h
   rcases XM h with h|h
   . refine tG h (Nat.le_of_ble_eq_true rfl) ?_;simp only[List.all_cons,List.all_nil,nk p hp,Bool.and_true];decide +kernel
   . obtain⟨a,ha,h⟩:=QV h;obtain⟨i,hi,h⟩:=QV h;obtain⟨b,hb,h⟩:=QV h;obtain⟨k,hk,h⟩:=QV h;refine tG h (Nat.le_of_ble_eq_true rfl) ?_;simp only[List.all_cons,List.all_nil,nk p hp,kI n8 ha,kI m8 hi,kI n8 hb,kI m8 hk,Bool.and_true];decide +kernel
abbrev J3(ds:List D):D:=.er "NotLetBy" "what" (.tup ds)
def MN{fa:EF}{as:AS}{c an:Str}{d:D}{b:Bool}(h:WD fa as true (.er c an d)):WD (f1 fa (YU c an b)) as true (.bl b):=by
 have e:YU c an b (.er c an d)=some (.im (.bl b)):=if_pos ⟨rfl,rfl⟩;unfold WD f1;unfold WD at h;rw[h];show(YU c an b (.er c an d)).bind _=_;rw[e];rfl
def JN{fa:EF}{as:AS}{c an:Str}{d:D}(h:WD fa as true (.er c an d)):WD (f1 fa (Jc c an)) as true d:=by
 have e:Jc c an (.er c an d)=some (.im d):=if_pos ⟨rfl,rfl⟩;unfold WD f1;unfold WD at h;rw[h];show(Jc c an (.er c an d)).bind _=_;rw[e];show(if(zF d||true)=true then some _ else none:Option RV).bind _=_;rw[if_pos (zyD _)];show some (RV.ow (O.lf (zF d||true) d),as)=_;rw[zyD]
def T9{fr:AF}{g:List (Bool×D)->Option D}{as:AS}{rs:List (Bool×D)}{d:D}(ha:WA fr as rs)(hg:g (rs.map λx=>(zF x.2||x.1,x.2))=some d):gC fr g as=some (d,as):=by
 unfold gC;unfold WA at ha;rw[ha];show(w_ as _).bind _=_;rw[ZT];show(g _).bind _=_;rw[hg];rfl
def Sh{ds:List D}:wa [(true,J3 ds)]=sT (.bl true):=by
 have v:WD zu [sT (J3 ds)] true (J3 ds):=za rfl;have tF:WT (fT (f1 zu (YU "NotLetBy" "what" false))) [sT (J3 ds)] false:=yI (MN v) rfl;have o4:=
  Pk tF (λ_=>Pk tF (λ_=>Pk tF (λ_=>tF) λz=>nomatch z) λz=>nomatch z) λz=>nomatch z
 have la:WD (LC (f1 zu (YU "NotLetBy" "what" true)) (f1 zu (YU "NotLetBy" "what" true))) [sT (J3 ds)] true (.bl true):=by
  have k:=MN (b:=true) v;unfold WD at k ⊢;unfold LC;rw[k];exact k
 exact ZX rfl (zC (yc o4 rfl) (zC (yc o4 rfl) (Ys la rfl)))
def Hj{ds:List D}(A:Alg n m J e Ds)(L:tW n m J e Ds=some ds):yx [(true,zj n m J e Ds S)]=none:=by
 have z:=GK (S:=S) A;rw[L]at z;have h:we (yk 2 [(true,zj n m J e Ds S)])=none:=zC (xU (Z5 (WD.e (za rfl)) z) (zh rfl)) (yL (Iw (t:=some ds) rfl) rfl);unfold yx vP;rw[if_pos (by rfl),h];rfl
def Au{k l i:Nat}{c1:SF}{tc:TF}{xs:List (Bool×D)}{as1 as2:AS}{d:D}(hl:xs.length=l)(h1:c1 (yk k xs)=some (.nx as1))(h2:tc as1=some (true,as2))(h3:slD as2 i=some d)(h4:ZO d=true):gX k l i c1 tc xs=some d:=by
 unfold gX;rw[if_pos hl,h1];show((tc as1).bind _)=_;rw[h2];show((slD as2 i).bind _)=_;rw[h3];show(if ZO d=true then some d else none)=_;rw[if_pos h4]
def Dx{j:Nat}{cn an:Str}{cb c:SF}{gb:Lj}{as as1 as2:AS}{d:D}(h0:(cb as).bind Hs=none)(h1:gb as=some (d,as1))(hj:j<as1.length)(h2:c (as1.set j (sT (.er cn an d)))=some (.nx as2)):Nl j cn an cb gb c as=some (.nx (as2.set j none)):=by
 unfold Nl;rw[h0];rw[h1];show(if j<as1.length then _ else none)=_;rw[if_pos hj];rw[h2];rfl
def uL{j:Nat}{cn an:Str}{cb c:SF}{gb:Lj}{as as1:AS}(h0:cb as=some (.nx as1)):Nl j cn an cb gb c as=some (.nx as1):=by
 unfold Nl;rw[h0];rfl
def Ks{f:EF}{as as1:AS}{r:RV}(h:f as=some (r,as1)):yq f as=some (.nx as1):=by unfold yq;rw[h];rfl
def MZ{f:EF}{as:AS}(h:f as=none):(yq f as).bind Hs=none:=by unfold yq;rw[h];rfl
def Hx{ds:List D}(A:Alg n m J e Ds)(nk:∀p ∈ Ds,GY (.str p.1)=true)(L:tW n m J e Ds=some ds):wo [(true,zj n m J e Ds S)]=some (.tup ds):=by
 have z:=GK (S:=S) A;rw[L]at z;have s1:=xU (as:=yk 2 [(true,zj n m J e Ds S)]) (p:=1) (Z5 (WD.e (za (i:=0) rfl)) z) (zh rfl);have t1:(fT (f2 zG (fC .non) (zB .IsNot))) [sT (zj n m J e Ds S),sT (.tup ds)]=some (true,[sT (zj n m J e Ds S),sT (.tup ds)]):=Iw (t:=some ds) rfl;exact Au rfl s1 t1 rfl (uM A nk L)
def Ux{fr:AF}{rs:List (Bool×D)}{as:AS}{g:Fn}(ha:WA fr as rs)(hg:g (rs.map λx=>(zF x.2||x.1,x.2))=none):zt fr g as=none:=by
 unfold zt;unfold WA at ha;rw[ha];show(w_ as _).bind _=_;rw[ZT];show(g _).bind _=_;rw[hg];rfl
def Py{ds:List D}{r:D}(A:Alg n m J e Ds)(L:tW n m J e Ds=some ds):vW [(true,zj n m J e Ds S),(true,r)]=none:=by
 have h:zt wC yx (yk 5 [(true,zj n m J e Ds S),(true,r)])=none:=Ux (zf (za rfl) zz) (Hj A L);unfold vW vP;rw[if_pos (by rfl)];unfold UN zg yq;rw[h];rfl
def KM{ds:List D}{r:D}(A:Alg n m J e Ds)(nk:∀p ∈ Ds,GY (.str p.1)=true)(L:tW n m J e Ds=some ds):ZR [(true,zj n m J e Ds S),(true,r)]=some (.tup ds):=by
 have h:gC wC wo (yk 5 [(true,zj n m J e Ds S),(true,r)])=some (.tup ds,_):=T9 (zf (za rfl) zz) (Hx A nk L);unfold ZR gY;rw[if_pos (by rfl),h];rfl
def FK{ds:List D}{row:List Int}{x:D}(A:Alg n m J e Ds)(L:tW n m J e Ds=some ds):Vb [(true,zj n m J e Ds S),(true,zk row),(true,x)]=none:=by
 have h:zt (aC zu vF) vW (yk 7 [(true,zj n m J e Ds S),(true,zk row),(true,x)])=none:=Ux (zf (za rfl) (zf (za rfl) zz)) (Py A L);unfold Vb vP;rw[if_pos (by rfl)];unfold TB zg zo;rw[h];rfl
def OJ{ds:List D}{row:List Int}{x:D}(A:Alg n m J e Ds)(nk:∀p ∈ Ds,GY (.str p.1)=true)(L:tW n m J e Ds=some ds):Ur [(true,zj n m J e Ds S),(true,zk row),(true,x)]=some (.tup ds):=by
 have h:gC (aC zu vF) ZR (yk 7 [(true,zj n m J e Ds S),(true,zk row),(true,x)])=some (.tup ds,_):=T9 (zf (za rfl) (zf (za rfl) zz)) (KM A nk L);unfold Ur gY;rw[if_pos (by rfl),h];rfl
noncomputable def oT:FT->D
 |none=>.tup [.str "none"]
 |some ds=>.tup ds
def CN{c:TF}{f g:SF}{as:AS}(h:WT c as true):xr c f g as=f as:=by
 unfold xr;unfold WT at h;rw[h];rfl
def Ij{c:TF}{f g:SF}{as:AS}(h:WT c as false):xr c f g as=g as:=by
 unfold xr;unfold WT at h;rw[h];rfl
def uS{c:TF}{f g:Lj}{as:AS}(h:WT c as true):Dj c f g as=f as:=by
 unfold Dj;unfold WT at h;rw[h];rfl
def ud{c:TF}{f g:Lj}{as:AS}(h:WT c as false):Dj c f g as=g as:=by
 unfold Dj;unfold WT at h;rw[h];rfl
abbrev toS:SF:=(zg (zo true 3 (yf (dC (fC (.str "odd")) dN)))
 (xr (fT (zt (aC zM aN) wa)) (zo true 3 (f1 zM (Jc "NotLetBy" "what"))) wc))
abbrev T4(A r:D)(w:Int)(x:D)(y:Option O):AS:=[sT A,sT r,sI w,sT x,y]
def A0{A r:D}{w:Int}{cb:SF}{gb:Lj}{t:FT}(h1:t=none->cb (T4 A r w (.tup [.str "none"]) none)=some (.nx (T4 A r w (.tup [.str "none"]) none)))(h2:∀ds,t=some ds->(cb (T4 A r w (.tup [.str "none"]) none)).bind Hs=none/\gb (T4 A r w (.tup [.str "none"]) none)=some (.tup ds,T4 A r w (.tup [.str "none"]) none)):
 Nl 4 "NotLetBy" "what" cb gb toS (T4 A r w (.tup [.str "none"]) none)=some (.nx (T4 A r w (oT t) none)):=by
 cases t with
 |none=>exact uL (h1 rfl)
 |some ds=>
  obtain⟨hb,hg⟩:=h2 ds rfl;have su:toS (T4 A r w (.tup [.str "none"]) (sT (J3 ds)))=some (.nx (T4 A r w (.tup ds) (sT (J3 ds)))):=by
   refine zC (xU (R_ (zw zb zR) (YQ rfl) rfl rfl) (zh rfl)) ?_;refine yL (yI (xN (zf (za rfl) zz) Sh) rfl) ?_;exact zS (JN (za rfl)) (zh rfl)
  exact Dx (j:=4) hb hg (zh rfl) su
def qe{as:AS}{i:Nat}{p:Str×List Int}(h:as[i]? = some (sT (zj n m J e Ds (p::S)))):WD (f2 (f2 (f2 (fV i) Ug zy) yh zy) yh zy) as true (.str p.1):=by
 have a:=yM (za h) (zb) (show zy (zj n m J e Ds (p::S)) (.int 5)=some (.im (.lst ((p::S).map y_)))from rfl);have b:=yM a (zb) (V1 (i:=0) rfl);exact yM b zb rfl
def Eb{p:Str×List Int}{row:List Int}{w:Int}(A:Alg n m J e Ds)(nk:∀p ∈ Ds,GY (.str p.1)=true)(sn:((p::S).map (·.1)).Nodup)(hr:∀x ∈ row,zH n x)(hl:row.length<=10):RE (Z8 [(true,zj n m J e Ds (p::S)),(true,zk row),(true,.int w)]) (oT (tW n m J e Ds)):=by
 have s1:zo true 3 (yf (dC (fC (.str "none")) dN)) [sT (zj n m J e Ds (p::S)),sT (zk row),sI w,none,none]=some (.nx (T4 (zj n m J e Ds (p::S)) (zk row) w (.tup [.str "none"]) none)):=xU (R_ (zw zb zR) (YQ rfl) rfl rfl) (zh rfl);have v0:WD zu (T4 (zj n m J e Ds (p::S)) (zk row) w (.tup [.str "none"]) none) true (zj n m J e Ds (p::S)):=za rfl;have v1:WD zG (T4 (zj n m J e Ds (p::S)) (zk row) w (.tup [.str "none"]) none) true (zk row):=za rfl;have vn:=qe (as:=T4 (zj n m J e Ds (p::S)) (zk row) w (.tup [.str "none"]) none) (i:=0) rfl;have t1:WT (fT (f2 zJ yh (zB .Eq))) (T4 (zj n m J e Ds (p::S)) (zk row) w (.tup [.str "none"]) none) (w==0):=yI (Qz (za rfl) zb rfl) rfl;refine y7 rfl (zq s1 (zq (A0 (λq=>?_) λds q=>?_) (yU (WD.e (za rfl)))))
 . cases hw:(w==0)with
   |true=>
    rw[hw]at t1;obtain⟨es,h1,_,_,_,_⟩:=PP A q hr hl;obtain⟨o,h2,_,_⟩:=Qt (WD.e v0) (WD.e v1) h1;rw[CN t1];exact Ks h2
   |false=>
    rw[hw]at t1;obtain⟨x,h1⟩:=BM A q sn zzF hr hl;obtain⟨o,h2,_,_⟩:=Qi (WD.e v0) (WD.e v1) (WD.e vn) h1;rw[Ij t1];exact Ks h2
 . cases hw:(w==0)with
   |true=>
    rw[hw]at t1;rw[CN t1,uS t1];exact⟨MZ (Ux (zf v0 (zf v1 zz)) (Py A q)),T9 (zf v0 (zf v1 zz)) (KM A nk q)⟩
   |false=>
    rw[hw]at t1;rw[Ij t1,ud t1];exact⟨MZ (Ux (zf v0 (zf v1 (zf vn zz))) (FK A q)),T9 (zf v0 (zf v1 (zf vn zz))) (OJ A nk q)⟩
end
def Eu{ns:List Int}{st w n:Nat}{num:Int}(hn:1<=n)(hw:w<=20):∃row:List Int,row.length<=w/\(∀v ∈ row,zH n v)/\RE (Yq [(true,.lst (ns.map D.int)),(true,.int st),(true,.int w),(true,.int n),(true,.int num)]) (zk row):=by
 have m0:=zyN num (show((w:Int)+1)≠0 by omega);have m1:=zyH num (show 0<(w:Int)+1 by omega);obtain⟨as',hf,ys,e6,rfl,hl,hy⟩:=yN (g:=gN 6) (λi as=>∃(ys:List Int) (e6:Option O),as=[sT (.lst (ns.map D.int)),sI st,sI w,sI n,sI num,sN (ys.map xX),e6]/\ys.length=i/\∀y ∈ ys,zH n y)
  (yT 0 (num%(w+1)).toNat) 0 [sT (.lst (ns.map D.int)),sI st,sI w,sI n,sI num,sN [],none] (λi x as hx hI=>by
   obtain⟨ys,e6,rfl,hl,hy⟩:=hI;obtain⟨rfl,hi⟩:=yO hx;refine⟨_,rfl, ?_⟩;obtain⟨c,hc⟩:=VL (k:=st+(0+i)) (by omega);have wm:=xN (as:=[sT (.lst (ns.map D.int)),sI st,sI w,sI n,sI num,sN (ys.map xX),sI (0+i)]) (zf (xN (zf (za (i:=0) rfl) (zf (yg (za (i:=1) rfl) (za (i:=6) rfl)) zz)) hc) (zf (yg (za (i:=6) rfl) (zb (x:=.int 80))) zz)) (W8 (by omega) (by omega));have ap:=UR (i:=5) rfl (by rw[zzB];exact zQ (by omega)) (zP wm (za (i:=3) rfl) (by omega));rw[<-YW]at ap;exact⟨_,ap,ys++[_],_,rfl,by rw[zzJ,hl];rfl,λy my=>(zzM.mp my).elim (hy y) λmy=>by rw[zzR.mp my];exact X1 (by omega)⟩)
  ⟨[],none,rfl,rfl,λ_ z=>nomatch z⟩
 rw[yr]at hl;have hr:=yX (as:=[sT (.lst (ns.map D.int)),sI st,sI w,sI n,sI num,sN [],none]) (zf (zP (za (i:=4) rfl) (yg (za (i:=2) rfl) (zb)) (by omega)) zz) m0 (by omega);refine⟨ys,by omega,hy,y7 rfl (zq (yz (v5 zR (YQ rfl)) (zh rfl)) (zq (yQ hr hf) ?_))⟩;exact⟨_,UA rfl (xp ys).2.1,(YY ys).1,(YY ys).2⟩
section
variable{n m:Nat}{J T:TZ}{e:Int}{Ds:DD}{S:SS}
def Ib{t:FT}(g:∀ds,t=some ds->Gd ds):ZN 60 (oT t) (oT t)=some true:=by
 cases t with
 |none=>exact Wu _ λx mx=>by rw[zzR.mp mx];exact eq_str _
 |some ds=>exact uv (g ds rfl).2.1
abbrev R5(A r:D)(x y z:Option O):AS:=[sT A,sT r,x,y,z]
def K4{p:Str×List Int}{row:List Int}(A:Alg n m J e Ds)(nk:∀p ∈ Ds,GY (.str p.1)=true)(sl:(p::S).length<=3)(sn:((p::S).map (·.1)).Nodup)(hr:∀x ∈ row,zH n x)(hl:row.length<=10):wb [(true,zj n m J e Ds (p::S)),(true,zk row)]=sT (.bl true):=by
 have g:∀ds,tW n m J e Ds=some ds->Gd ds:=λds h=>tM h;have s1:=xU (as:=R5 (zj n m J e Ds (p::S)) (zk row) none none none) (p:=2) (Z5 (WD.e (za (i:=0) rfl)) (Ir A)) (zh rfl);have k0:=Eb (w:=0) A nk sn hr hl;have k1:=Eb (w:=1) A nk sn hr hl;generalize tW n m J e Ds=t at g s1 k0 k1;have s2:xr (fT (f2 zJ (fC .non) (zB .Is))) (zo true 2 (yf (dC (fC (.str "none")) dN))) wc (R5 (zj n m J e Ds (p::S)) (zk row) (sT (oD t)) none none)=some (.nx (R5 (zj n m J e Ds (p::S)) (zk row) (sT (oT t)) none none)):=by
  have t2:=rz (as:=R5 (zj n m J e Ds (p::S)) (zk row) (sT (oD t)) none none) (i:=2) rfl;cases t with
  |none=>exact yL t2 (xU (R_ (zw zb zR) (YQ rfl) rfl rfl) (zh rfl))
  |some ds=>exact yc t2 rfl
 have s3:=xU (as:=R5 (zj n m J e Ds (p::S)) (zk row) (sT (oT t)) none none) (p:=3) (Z5 (WD.e (za (i:=0) rfl)) (OL A sl)) (zh rfl);have v3:WD zL (R5 (zj n m J e Ds (p::S)) (zk row) (sT (oT t)) (sT (zj n m J e Ds (p::S))) none) true (zj n m J e Ds (p::S)):=za rfl;have v1:WD zG (R5 (zj n m J e Ds (p::S)) (zk row) (sT (oT t)) (sT (zj n m J e Ds (p::S))) none) true (zk row):=za rfl;have v2:WD zJ (R5 (zj n m J e Ds (p::S)) (zk row) (sT (oT t)) (sT (zj n m J e Ds (p::S))) none) true (oT t):=za rfl;have n0:=SH (Qi (WD.e v3) (WD.e v1) (WD.e (zb)) k0) (WD.e v2) (Ib g);have n1:=SH (Qi (WD.e v3) (WD.e v1) (WD.e (zb)) k1) (WD.e v2) (Ib g);have t4:=Pk (yI n0 rfl) (λ_=>yI n1 rfl) λz=>nomatch z;obtain⟨o,h5⟩:=To (p:=p) A sn zzF hr (by omega);have vn:=qe (as:=R5 (zj n m J e Ds (p::S)) (zk row) (sT (oT t)) (sT (zj n m J e Ds (p::S))) none) (i:=0) (e:=e) (S:=S) (p:=p) rfl;have s5:=xU (p:=4) (Qi (WD.e v3) (WD.e v1) (WD.e vn) h5) (zh rfl);have w6:WD (uH (f2 zM (fC .non) (zB .Is)) (Fi zM "list")) (R5 (zj n m J e Ds (p::S)) (zk row) (sT (oT t)) (sT (zj n m J e Ds (p::S))) (sT (outD o))) true (.bl true):=by
  have v4:WD zM (R5 (zj n m J e Ds (p::S)) (zk row) (sT (oT t)) (sT (zj n m J e Ds (p::S))) (sT (outD o))) true (outD o):=za rfl;cases o with
  |none=>exact Il (ym v4 (zb) rfl rfl) (λz=>nomatch z) λ_=>rfl
  |some r=>exact Il (ym v4 (zb) rfl rfl) (λ_=>J7 v4 rfl) λ_=>rfl
 have w7:WD (f2 zL zu (zB .Eq)) (R5 (zj n m J e Ds (p::S)) (zk row) (sT (oT t)) (sT (zj n m J e Ds (p::S))) (sT (outD o))) true (.bl true):=As (WD.e (za (i:=3) rfl)) (WD.e (za (i:=0) rfl)) JQ;exact ZX rfl (zC s1 (zC s2 (zC s3 (zC (yc t4 rfl) (zC s5 (Ys (J5 w6 (λ_=>w7) λz=>nomatch z) rfl))))))
def OG{a0:Option O}:xr (Kc 1 5) (OV 1 5 (dC (Df (yf (dC (fC (.str "sign")) (dC (yK (dC yh dN)) dN)))) dN)) wc [a0,some (WH n m J e Ds S),none,none,none]=some (.nx [a0,some (WH n m J e Ds (if S.isEmpty=true then[("sign",[0])]else S)),none,none,none]):=by
 cases S with
 |cons p r=>
  have t:WT (Kc 1 5) [a0,some (WH n m J e Ds (p::r)),none,none,none] false:=rfl;exact yc t rfl
 |nil=>
  have t:WT (Kc 1 5) [a0,some (WH n m J e Ds []),none,none,none] true:=rfl;have w:WE (yf (dC (fC (.str "sign")) (dC (yK (dC yh dN)) dN))) [a0,some (WH n m J e Ds []),none,none,none] (y_ ("sign",[0])):=Xu (WD.e zb) (x6 (zw zb zR) (YQ rfl) rfl rfl);have h:(dC (Df (yf (dC (fC (.str "sign")) (dC (yK (dC yh dN)) dN)))) dN) [a0,some (WH n m J e Ds []),none,none,none]=some ([.lf true (y_ ("sign",[0]))],[a0,some (WH n m J e Ds []),none,none,none]):=zw (pA w) zR;refine yL t ?_;have e1:Pu GH [a0,some (WH n m J e Ds []),none,none,none] 1=some [xX n,xX m,.lf true (zU J),xX e,.lf true (.lst (Ds.map x_)),.nd .ls []]:=rfl;have e2:RR Ye [xX n,xX m,.lf true (zU J),xX e,.lf true (.lst (Ds.map x_)),.nd .ls []] 5=some []:=rfl;have e3:FQ [O.lf true (y_ ("sign",[0]))]=some (true,y_ ("sign",[0])):=rfl;unfold OV;simp only[e1,e2,e3,h,zyL];rw[if_pos ⟨L2.zQ (Nat.zero_le _),zh rfl⟩];rfl
def Hf(ns:List Int)(hns:ns.length<=63):PX [(true,.lst (ns.map .int))]=sT (.bl true):=by
 obtain⟨c0,h0⟩:=VL (k:=0) (by omega);obtain⟨c1,h1⟩:=VL (k:=1) (by omega);obtain⟨c2,h2⟩:=VL (k:=2) (by omega);have z0:=zyN c2 (show(4:Int)≠0 by decide);have z1:=zyH c2 (show(0:Int)<4 by decide);obtain⟨w,ew⟩:∃w:Nat,(w:Int)=c2%4:=⟨(c2%4).toNat,by omega⟩;obtain⟨n,m,J,e,Ds,S0,M,hw,ha⟩:=NX (w:=w) (by omega);rw[ew]at ha;obtain⟨p,S,eS,sl,sn⟩:∃(p:Str×List Int) (S:SS),(if S0.isEmpty=true then[("sign",[0])]else S0:SS)=p::S/\(p::S).length<=3/\((p::S).map (·.1)).Nodup:=by
  cases S0 with
  |nil=>exact⟨_,_,rfl,by decide,zzW.mpr ⟨zxC,zyJ⟩⟩
  |cons p S=>exact⟨p,S,rfl,M.s3,M.sn⟩
 have y0:=zyN (c2/4) (show(3:Int)≠0 by decide);have y1:=zyH (c2/4) (show(0:Int)<3 by decide);obtain⟨k,ek⟩:∃k:Nat,(k:Int)=1+c2/4%3:=⟨(1+c2/4%3).toNat,by omega⟩;have cl:∀(as:AS) (k:Int) (x:Int),as[0]? = some (sT (.lst (ns.map .int)))->yd [(true,.lst (ns.map .int)),(true,.int k)]=sT (.int x)->WD (zt (aC zu (aC (fC (.int k)) aN)) yd) as true (.int x):=λas k x h hh=>xN (zf (za h) (zf zb zz)) hh;obtain⟨row,rl,hr,hv⟩:=Eu (w:=4) (n:=n) M.al.n1 (by decide);have rl':row.length<=10:=by omega
 have r0:=K4 (S:=S) (p:=p) M.al M.nk sl sn hr rl';have s1:=yz (as:=[sT (.lst (ns.map .int)),none,none,none,none]) (i:=1) (vL (zf (cl _ 0 c0 rfl h0) (zf (cl _ 1 c1 rfl h1) (zf (zP (cl _ 2 c2 rfl h2) zb (by decide)) zz))) ha) (zh rfl);have s2:=OG (n:=n) (m:=m) (J:=J) (e:=e) (Ds:=Ds) (S:=S0) (a0:=sT (.lst (ns.map .int)));rw[eS]at s2;have fz:(WH n m J e Ds (p::S)).frz = .lf true (zj n m J e Ds (p::S)):=by
  show O.lf _ _=_;rw[(Mp n m J e Ds (p::S)).1,(Mp n m J e Ds (p::S)).2]
 have s3:=xU (as:=[sT (.lst (ns.map .int)),sT (zj n m J e Ds (p::S)),none,none,none]) (p:=2) (BN (WD.e (za (i:=0) rfl)) (WD.e (zb)) (WD.e (zb)) (WD.e (yM (za (i:=1) rfl) (zb) (show zy (zj n m J e Ds (p::S)) (.int 0)=some (.im (.int n))from rfl))) (WD.e (yB (cl _ 2 c2 rfl h2) (zb (x:=.int 12)) (by decide) (zE (by decide) (by decide)))) hv) (zh rfl);have v1:∀a3 a4,WD zG [sT (.lst (ns.map .int)),sT (zj n m J e Ds (p::S)),sT (zk row),a3,a4] true (zj n m J e Ds (p::S)):=λ_ _=>za rfl;have v2:∀a3 a4,WD zJ [sT (.lst (ns.map .int)),sT (zj n m J e Ds (p::S)),sT (zk row),a3,a4] true (zk row):=λ_ _=>za rfl;have u2:=λa3 a4=>xN (zf (v1 a3 a4) (zf (v2 a3 a4) zz)) r0;obtain⟨as',hf,J',e',Ds',a4,rfl,_⟩:=yN (g:=gN 4) (f:=(zg (zo true 3 (zt (aC zL (aC (zt (aC zu (aC (f2 vg zM zD) aN)) yd) aN)) Yz))
  (xr (PR (fT (zt (aC zL Ve) wb))) (zY (fC (.bl false))) wc)))
  (λ_ as=>∃J' e' Ds' a4,as=[sT (.lst (ns.map .int)),sT (zj n m J e Ds (p::S)),sT (zk row),sT (zj n m J' e' Ds' (p::S)),a4]/\Bnt n m J e Ds J' e' Ds')
  (yT 0 k) 0 [sT (.lst (ns.map .int)),sT (zj n m J e Ds (p::S)),sT (zk row),sT (zj n m J e Ds (p::S)),none] (λi x as hx hI=>by
   obtain⟨J',e',Ds',a4,rfl,hB⟩:=hI;obtain⟨rfl,hi⟩:=yO hx;obtain⟨cc,hc⟩:=VL (k:=3+(0+(i:Int))) (by omega);obtain⟨J2,e2,Ds2,hB2,hb⟩:=HV hB.al sl;have nk2:∀p ∈ Ds2,GY (.str p.1)=true:=λp hp=>by
    have:p.1 ∈ Ds.map (·.1):=by rw[<-hB.nm,<-hB2.nm];exact List.mem_map_of_mem hp
    obtain⟨q,hq,e⟩:=zxE.mp this;rw[<-e];exact M.nk q hq
   refine⟨_,rfl,[sT (.lst (ns.map .int)),sT (zj n m J e Ds (p::S)),sT (zk row),sT (zj n m J2 e2 Ds2 (p::S)),sI (0+i)], ?_,J2,e2,Ds2,_,rfl,⟨hB2.al,hB2.nm.trans hB.nm⟩⟩;refine zC (xU (p:=3) (Qt (WD.e (za (i:=3) rfl)) (WD.e (xN (zf (za (i:=0) rfl) (zf (yg zb (za (i:=4) rfl)) zz)) hc)) hb) (zh rfl)) ?_;have v3:WD zL [sT (.lst (ns.map .int)),sT (zj n m J e Ds (p::S)),sT (zk row),sT (zj n m J2 e2 Ds2 (p::S)),sI (0+i)] true (zj n m J2 e2 Ds2 (p::S)):=za rfl;have u3:=xN (zf v3 (zf (v2 _ _) zz)) (K4 (S:=S) (p:=p) hB2.al nk2 sl sn hr rl');exact yc (S5 (yI u3 rfl)) rfl)
  ⟨J,e,Ds,none,rfl,M.al,rfl⟩
 have wr:=yX (as:=[sT (.lst (ns.map .int)),sT (zj n m J e Ds (p::S)),sT (zk row),sT (zj n m J e Ds (p::S)),none]) (zf (yg (zb (x:=.int 1)) (zP (yB (cl _ 2 c2 rfl h2) (zb (x:=.int 4)) (by decide) (zE (by decide) (by decide))) (zb (x:=.int 3)) (by decide))) zz) (by omega) (by omega);rw[<-ek,zyI]at wr;refine ZX rfl (zC s1 (zC s2 ?_));unfold K8;show zg _ _ _=_;rw[fz];exact zC s3 (zC (yc (S5 (yI (u2 _ _) rfl)) rfl) (zC (zS (i:=3) (v1 _ _) (zh rfl)) (zC (yQ wr hf) (Ys (u2 _ _) rfl))))
end
end G62
end
end
open PySem PySem.W PyProof.Rows
set_option maxRecDepth 100000 in
set_option maxHeartbeats 0 in
theorem PySem.Challenge.cw_stretchdeeds_k62_only_what_is_let_by_holds : PySem.Challenge.rw_stretchdeeds_k62_only_what_is_let_by.Holds := by
 w_on;refine holds_law G62.ws λsaid=>?_
 refine holds_open (q:=G62.qv) (loose:=[]) (Xt:=G62.Xt) (XP:=XL G62.qv []) (Yf:=Hook.obs (kHook G62.K G62.kA G62.kAe)) (Ya:=Hook.val (kHook G62.K G62.kA G62.kAe)) (YP:=Hook.says (kHook G62.K G62.kA G62.kAe)) (N:=8000) G62.hl (Hook.of (kHook G62.K G62.kA G62.kAe)) (Hook.keeps (kHook G62.K G62.kA G62.kAe)) (λs e=>xl_of s (Bool.and_eq_true_iff.mp e).1) XL.keeps (by rfl) (by rfl) (by rfl) (λs e=>recFacts_of (Bool.and_eq_true_iff.mp e).2) (by rfl) (by first|assumption|decide +kernel) (by decide +kernel) ⟨rfl,rfl,rfl,rfl,rfl,by decide +kernel⟩ ?hw ?hc
 (case hw=>w_witness2)
 k_fill
 refine G62.walk (l:=PySem.Challenge.rw_stretchdeeds_k62_only_what_is_let_by) rfl rfl (λw h Y=>W.kIn_of Y) G62.Hf ?F
 case F=>
  intro w mg fa h KX G hmg;refine' G62.A1 KX G hmg ?_ ?_ ?_ ?_ ?_ ?_ ?_ ?_ ?_ ?_ ?_ ?_ ?_ ?_ ?_ ?_ ?_ ?_ ?_ ?_ ?_ ?_ ?_ ?_ ?_ ?_ ?_ ?_ ?_ ?_ ?_ ?_ ?_ ?_ ?_ ?_ ?_ ?_ ?_ ?_ ?_ ?_ ?_ ?_ ?_ ?_ ?_ ?_ ?_ ?_ ?_ ?_ ?_ ?_ ?_ ?_ ?_ ?_ ?_ ?_ ?_ ?_ ?_ ?_ ?_ ?_ ?_ ?_ ?_ ?_ ?_ ?_ ?_
  all_goals try first|k_is|(change _=_;k_is)|exact⟨_,⟨_,_,_,_,_,_,_,_,_,rfl,by k_is,by k_is⟩,by k_is⟩|(refine⟨?_, ?_⟩;(change _=_;k_is);exact⟨_,⟨_,_,_,_,_,_,_,_,_,rfl,by k_is,by k_is⟩,by k_is⟩)|exact⟨⟨_,_,_,_,_,_,_,_,_,_,_,_,_,_,rfl⟩,by first|k_is|kernel_rfl,by first|k_is|kernel_rfl,by first|k_is|kernel_rfl,by first|k_is|kernel_rfl,by first|k_is|kernel_rfl⟩|exact⟨by first|k_is|kernel_rfl,by first|k_is|kernel_rfl,by first|k_is|kernel_rfl⟩|exact⟨by first|k_is|kernel_rfl,by first|k_is|kernel_rfl,by first|k_is|kernel_rfl,by first|k_is|kernel_rfl,by first|k_is|kernel_rfl,by first|k_is|kernel_rfl,by first|k_is|kernel_rfl,by first|k_is|kernel_rfl,by first|k_is|kernel_rfl⟩|rfl
#print axioms PySem.Challenge.cw_stretchdeeds_k62_only_what_is_let_by_holds
