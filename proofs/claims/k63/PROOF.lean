import PyProof.Rows.All
import Wide.All
import OpenK.AllK
import PySem.Challenge.RW_stretchdeeds_k63_whether_a_sign_comes
set_option Elab.async false
set_option linter.all false
set_option maxRecDepth 100000
set_option genSizeOf false
set_option compiler.extract_closed false
set_option bootstrap.genMatcherCode false
noncomputable section
abbrev zzA:=PySem.W.Frag
abbrev zzB:=@List.length_map
abbrev zzC:=@List.mem_cons
abbrev zzD:=@List.mem_cons_of_mem
abbrev zzE:=@List.getElem?_eq_getElem
abbrev zzF:=@List.mem_cons_self
abbrev zzG:=@List.getElem?_eq_some_iff
abbrev zzH:=@List.size_toArray
abbrev zzI:=@List.getElem?_map
abbrev zzJ:=@List.length_append
abbrev zzK:=@Nat.lt_of_lt_of_le
abbrev zzL:=@List.mem_append_right
abbrev zzM:=@List.mem_append
abbrev zzN:=@Nat.le_refl
abbrev zzO:=@Nat.le_trans
abbrev zzP:=@List.mem_append_left
abbrev zzQ:=@Nat.ne_of_lt
abbrev zzR:=@List.mem_singleton
abbrev zzS:=@List.length_take
abbrev zzT:=@List.length_cons
abbrev zzU:=@List.length_set
abbrev zzV:=@Int.natCast_mul
abbrev zzW:=@List.nodup_cons
abbrev zzX:=@List.getElem?_set_ne
abbrev zzY:=@Option.some.inj
abbrev zzZ:=@List.mem_of_getElem?
abbrev zyA:=@List.map_map
abbrev zyB:=@Bool.and_eq_true
abbrev zyC:=@Bool.or_true
abbrev zyD:=@List.append_nil
abbrev zyE:=@List.getD_eq_getElem?_getD
abbrev zyF:=@decide_eq_false
abbrev zyG:=@Int.emod_lt_of_pos
abbrev zyH:=@Int.toNat_natCast
abbrev zyI:=@List.nodup_nil
abbrev zyJ:=@List.getElem?_set_self
abbrev zyK:=@Option.bind_some
abbrev zyL:=@List.map_append
abbrev zyM:=@Int.emod_nonneg
abbrev zyN:=@decide_eq_true
abbrev zyO:=@List.getElem?_append_left
abbrev zyP:=@List.drop_eq_getElem_cons
abbrev zyQ:=@List.getElem?_append_right
abbrev zyR:=@List.map_cons
abbrev zyS:=@Array.length_toList
abbrev zyT:=@List.length_range
abbrev zyU:=@Bool.false_ne_true
abbrev zyV:=@Nat.le_succ
abbrev zyW:=@Nat.zero_add
abbrev zyX:=@Int.toNat_of_nonneg
abbrev zyY:=@List.getElem_mem
abbrev zyZ:=@Nat.lt_succ_of_lt
abbrev zxA:=@List.not_mem_nil
abbrev zxB:=@List.append_assoc
abbrev zxC:=@List.mem_map
abbrev zxD:=@List.nodup_append
abbrev zxE:=@PySem.wpAny_bind
abbrev zxF:=@PySem.wpAny_pure
abbrev zxG:=@PySem.Heap.get?_push_of_some
abbrev zxH:=@PySem.Heap.lt_size
abbrev zxI:=@PySem.Heap.get?_push_size
abbrev zxJ:=@PySem.wpAny_newObj_type
abbrev zxK:=@PySem.Around.under_plainId
abbrev zxL:=@PySem.wpAny_holding
abbrev zxM:=@PySem.Heap.get?_update_other
abbrev zxN:=@PySem.codeAny_builtin
abbrev zxO:=@PySem.plainId_quiet
abbrev zxP:=@PySem.Heap.size_push
abbrev zxQ:=@PySem.Heap.get?_update_self
abbrev zxR:=@PySem.wpAny_mono
abbrev zxS:=@PySem.wpAny_call_entry
section
namespace L2
open PySem PySem.Spec PyProof.Rows
abbrev Key:=Sum Int Str
def RL:Key->Value->Bool
 | .inl k,v=>Value.isInt k v
 | .inr x,v=>Value.isStrOf x v
def A_(w:World):Key->Int
 | .inl k=>hashInt k
 | .inr x=>hashStr w x
def yC:∀{k:Key}{v:Value},RL k v=true->(∃i t,k=Sum.inl i/\v=Value.int i t)\/(∃x t,k=Sum.inr x/\v=Value.str x t)
 | .inl i,v,h=>by
  obtain⟨t,e⟩:=Value.isInt_shape h;exact .inl ⟨i,t,rfl,e⟩
 | .inr x,v,h=>by
  obtain⟨t,e⟩:=Value.isStrOf_shape h;exact .inr ⟨x,t,rfl,e⟩
def NY(i)(t):RL (.inl i) (.int i t)=true:=by simp[RL,Value.isInt]
def NX(x)(t):RL (.inr x) (.str x t)=true:=by simp[RL,Value.isStrOf]
def CG(a b):decide ((Sum.inl a:Key)=Sum.inl b)=(a==b):=by
 by_cases e:a=b
 . subst e;simp
 . have h:¬(Sum.inl a:Key)=Sum.inl b:=λq=>e<|Sum.inl.inj q;rw[zyF h];exact(beq_eq_false_iff_ne.mpr e).symm
def Cq(a b):decide ((Sum.inr a:Key)=Sum.inr b)=decide (a=b):=by
 by_cases e:a=b
 . subst e;simp
 . have h:¬(Sum.inr a:Key)=Sum.inr b:=λq=>e<|Sum.inr.inj q;rw[zyF h,zyF e]
def CQ(a)(b):decide ((Sum.inl a:Key)=Sum.inr b)=false:=zyF (λq=>nomatch q)
def OE(a)(b):decide ((Sum.inr a:Key)=Sum.inl b)=false:=zyF (λq=>nomatch q)
def yx(prog:Program)(w:World):PySem.KeyKind prog w Key where
 is:=RL
 hash:=A_ w
 inj:=λv a b ha hb=>by
  rcases yC ha with⟨i,t,rfl,rfl⟩|⟨x,t,rfl,rfl⟩
  . rcases yC hb with⟨j,u,rfl,e⟩|⟨y,u,rfl,e⟩
    . injection e with e1 _;rw[e1]
    . exact nomatch e
  . rcases yC hb with⟨j,u,rfl,e⟩|⟨y,u,rfl,e⟩
    . exact nomatch e
    . injection e with e1 _;rw[e1]
 byValue:=λk v h=>by
  rcases yC h with⟨i,t,rfl,rfl⟩|⟨x,t,rfl,rfl⟩<;>rfl
 pyHash:=λhv h=>by
  rcases yC hv with⟨i,t,rfl,rfl⟩|⟨x,t,rfl,rfl⟩
  . exact wpAny_pyHash_int h
  . exact wpAny_pyHash_str h
 eqBool:=λhu hv h=>by
  rcases yC hu with⟨i,t,rfl,rfl⟩|⟨x,t,rfl,rfl⟩
  . rcases yC hv with⟨j,u,rfl,rfl⟩|⟨y,u,rfl,rfl⟩
    . rw[CG]at h;exact wpAny_eqBool_int h
    . rw[CQ]at h;exact SeqAt.EqAt.int_str i t y u _ _ _ _ h
  . rcases yC hv with⟨j,u,rfl,rfl⟩|⟨y,u,rfl,rfl⟩
    . rw[OE]at h;exact SeqAt.EqAt.str_int x t j u _ _ _ _ h
    . rw[Cq]at h;exact wpAny_eqBool_str h
 «strs» := λk x t v h=>by
  rcases yC h with⟨i,u,rfl,e⟩|⟨y,u,rfl,e⟩
  . exact nomatch e
  . injection e with e1 _
    subst e1;cases v<;>rfl
def Gx(prog)(w)(i)(t):(yx prog w).is (.inl i) (.int i t)=true:=NY i t
def Yh(prog)(w)(x)(t):(yx prog w).is (.inr x) (.str x t)=true:=NX x t
end L2
namespace L2
open PySem PySem.Spec PyProof.Rows
inductive V where
 |non|bl (b:Bool)|int (i:Int)|str (x:Str)|byt (b:Array UInt8)|flt (b:UInt64)|ref (a:Addr)|ty (n:String)
 deriving DecidableEq
def RelV:V->Value->Prop
 | .non,u=>u=Value.none
 | .bl b,u=>u=Value.bool b
 | .int i,u=>∃t,u=Value.int i t
 | .str x,u=>∃t,u=Value.str x t
 | .byt b,u=>∃t,u=Value.bytes b t
 | .flt b,u=>∃t,u=Value.float b t
 | .ref a,u=>u=Value.ref a
 | .ty n,u=>u=Value.type n
abbrev zG:List V->List Value->Prop:=Paired RelV
theorem zG.length(r:zG xs us):xs.length=us.length:=Paired.length r
theorem zG.get:∀{xs:List V}{us:List Value}{i:Nat}{x:V},zG xs us->xs[i]? = some x->∃u,us[i]? = some u/\RelV x u
 |_,_,_,_,.nil,e=>by simp at e
 |_,_,0,_,.cons r _,e=>by simp at e;subst e;exact⟨_,rfl,r⟩
 |_,_,i+1,x,.cons _ t,e=>by
  obtain⟨u,h1,h2⟩:=zG.get t (by simpa using e);exact⟨u,by simpa using h1,h2⟩
theorem zG.set(r:RelV x u):∀{xs:List V}{us:List Value}(i:Nat),zG xs us->zG (xs.set i x) (us.set i u)
 |_,_,_,.nil=>.nil
 |_,_,0,.cons _ t=>.cons r t
 |_,_,i+1,.cons q t=>.cons q<|zG.set r i t
theorem zG.append:∀{xs ys:List V}{us ws:List Value},zG xs us->zG ys ws->zG (xs++ys) (us++ws)
 |_,_,_,_,.nil,s=>s
 |_,_,_,_,.cons r t,s=>.cons r<|zG.append t s
theorem zG.take:∀{xs:List V}{us:List Value}(n:Nat),zG xs us->zG (xs.take n) (us.take n)
 |_,_,0,_=>.nil
 |_,_,_+1,.nil=>.nil
 |_,_,n+1,.cons r t=>.cons r<|zG.take n t
theorem zG.drop:∀{xs:List V}{us:List Value}(n:Nat),zG xs us->zG (xs.drop n) (us.drop n)
 |_,_,0,r=>r
 |_,_,_+1,.nil=>.nil
 |_,_,n+1,.cons _ t=>zG.drop n t
def UL:Option V->Option Value->Prop
 |some v,some u=>RelV v u
 |none,none=>True
 |_,_=>False
def KV{κ:Type}:List (κ×V)->List (κ×Value)->Prop:=Paired λ(p:κ×V) (q:κ×Value)=>p.1=q.1/\RelV p.2 q.2
def kV:Key->V
 | .inl i=>.int i
 | .inr x=>.str x
inductive HO where
 |lst (xs:List V)
 |tup (xs:List V)
 |dK (kvs:List (Key×V))|dT (kvs:List (List Key×V))
 |set (S:Int->Bool) (n:Nat)
 |ins (C dx:Addr) (fs:List (Str×V))
 |own (x:Addr)
 |xd (fs:List (Str×V))
 |met (f x:Addr)
 |rng (lo hi:Int)
 |frz (o:Obj) (u:HO)
 |YV (ps:Array Value)
 |ext (φ:Heap->Prop)
abbrev Hp:=Addr->Option HO
def upd(H:Hp)(a:Addr)(o:HO):Hp:=λb=>if b=a then some o else H b
def zO:upd H a o a=some o:=by unfold upd;rw[if_pos rfl]
def zy(h:b≠a):upd H a o b=H b:=by unfold upd;rw[if_neg h]
def JY{H:Hp}{a b o u}(h:H a=some o)(h':H b=some u)(d:o≠u):a≠b:=by
 intro e;subst e;rw[h]at h';exact d<|zzY h'
def zU{H:Hp}{a b o}(h:H a=some o)(h':H b=none):a≠b:=by
 intro e;subst e;rw[h]at h';cases h'
section
variable(P:Program)(w:World)
def xf(H:Hp)(h:Heap)(a:Addr):HO->Prop
 | .lst xs=>xs.length<=sizeLine/\∃(its:List Value) (n:Nat),zG xs its/\h.get? a=some {cls:=.type "list",data:=.seq its.toArray n}
 | .tup xs=>xs.length<=sizeLine/\∃its:List Value,zG xs its/\IsTup h a its.toArray
 | .dK kvs=>kvs.length<=sizeLine/\(a==sysModules)=false/\∃vs,KV kvs vs/\h.DictOf (yx P w) a vs
 | .dT kvs=>kvs.length<=sizeLine/\(a==sysModules)=false/\∃xs:List (List Key×Addr×Value),
  Paired (λ(p:List Key×V) (q:List Key×Addr×Value)=>p.1=q.1/\H q.2.1=some (.tup<|p.1.map kV)/\RelV p.2 q.2.2) kvs xs/\
  ∃o es ep,h.get? a=some o/\o.ExactDict/\o.data = .dict es ep/\es.toList=xs.map (entryOfKey<|tupleKind<|yx P w)/\(xs.map (·.1)).Nodup
 | .set S n=>h.SetOf (intKind P w) a S n
 | .ins C dx fs=>H dx=some (.own a)/\fs.length<=1000/\dx≠a/\h.get? a=some (W.instObj C dx)/\
  ∃mA,h.Ns1 dx mA/\(∀f,UL (fs.lookup f)<|mA f)/\PySem.Within mA (fs.map (·.1))
 | .own _=>∃o,h.get? a=some o
 | .xd fs=>∃mA,h.Ns1 a mA/\∀f,UL (fs.lookup f)<|mA f
 | .rng lo hi=>∃t u v,h.get? a=some {cls:=.type "range",data:=.fields #[.int lo t,.int hi u,.int 1 v]}
 | .frz o u=>h.get? a=some o/\xf H h a u
 | .YV ps=>h.get? a=some {cls:=.none,data:=.fields ps}
 | .met f x=>h.get? a=some (W.methodObj (.ref f)<|.ref x)
 | .ext φ=>φ h/\(∃o,h.get? a=some o)/\∀h1 h2:Heap,φ h1->(∀o,h1.get? a=some o->h2.get? a=some o)->φ h2
def Wi(H:Hp)(h:Heap):Prop:=∀a o,H a=some o->xf P w H h a o
end
section
variable{P:Program}{w:World}{H H':Hp}{h h':Heap}{a:Addr}{o:HO}
theorem xf.lt(x:xf P w H h a o):a<h.objs.size:=by
 cases o with
 |lst xs=>obtain⟨_,_,_,_,e⟩:=x;exact zxH e
 |tup xs=>obtain⟨_,_,_,p⟩:=x;exact p.lt
 |dK kvs=>obtain⟨_,_,_,_,o,_,_,e,_⟩:=x;exact zxH e
 |dT kvs=>obtain⟨_,_,_,_,o,_,_,e,_⟩:=x;exact zxH e
 |set S n=>obtain⟨o,_,_,_,e,_⟩:=x;exact zxH e
 |ins C dx fs=>obtain⟨_,_,_,e,_⟩:=x;exact zxH e
 |own y=>obtain⟨_,e⟩:=x;exact zxH e
 |xd fs=>obtain⟨_,⟨_,_,_,e,_⟩,_⟩:=x;exact zxH e
 |rng lo hi=>obtain⟨_,_,_,e⟩:=x;exact zxH e
 |frz ob u=>obtain⟨e,_⟩:=x;exact zxH e
 |YV ps=>exact zxH (x)
 |met f y=>exact zxH (x)
 |ext φ=>obtain⟨_,⟨_,e⟩,_⟩:=x;exact zxH e
theorem Paired.mapP:∀{l₁:List α}{l₂:List β},Paired F l₁ l₂->(∀a b,F a b->G a b)->Paired G l₁ l₂
 |_,_,.nil,_=>.nil
 |_,_,.cons r t,f=>.cons (f _ _ r)<|Paired.mapP t f
def xf.stay(x:xf P w H h a o)(k:∀b u,(b=a\/H b=some (.own a))->h.get? b=some u->h'.get? b=some u)
 (ho:∀b,H b=some (.own a)->H' b=some (.own a)) (ht:∀b xs,H b=some (.tup xs)->H' b=some (.tup xs)):xf P w H' h' a o:=by
 induction o with
 |lst xs=>obtain⟨z,its,n,r,e⟩:=x;exact⟨z,its,n,r,k _ _ (.inl rfl) e⟩
 |tup xs=>obtain⟨z,its,r,ob,e,c⟩:=x;exact⟨z,its,r,ob,k _ _ (.inl rfl) e,c⟩
 |dK kvs=>obtain⟨z,y,vs,r,ob,es,ep,e,c⟩:=x;exact⟨z,y,vs,r,ob,es,ep,k _ _ (.inl rfl) e,c⟩
 |dT kvs=>
  obtain⟨z,y,xs,r,ob,es,ep,e,c⟩:=x;exact⟨z,y,xs,Paired.mapP r λp q z=>⟨z.1,ht _ _ z.2.1,z.2.2⟩,ob,es,ep,k _ _ (.inl rfl) e,c⟩
 |set S n=>obtain⟨ob,es,ep,t,e,c⟩:=x;exact⟨ob,es,ep,t,k _ _ (.inl rfl) e,c⟩
 |ins C dx fs=>
  obtain⟨d,z,ne,e,mA,⟨od,es,ep,e2,c⟩,r⟩:=x;exact⟨ho _ d,z,ne,k _ _ (.inl rfl) e,mA,⟨od,es,ep,k _ _ (.inr d) e2,c⟩,r⟩
 |own y=>obtain⟨ob,e⟩:=x;exact⟨ob,k _ _ (.inl rfl) e⟩
 |xd fs=>obtain⟨mA,⟨od,es,ep,e,c⟩,r⟩:=x;exact⟨mA,⟨od,es,ep,k _ _ (.inl rfl) e,c⟩,r⟩
 |rng lo hi=>obtain⟨t,u,v,e⟩:=x;exact⟨t,u,v,k _ _ (.inl rfl) e⟩
 |frz ob u ih=>obtain⟨e,q⟩:=x;exact⟨k _ _ (.inl rfl) e,ih q⟩
 |YV ps=>
  have e:=x;exact k a _ (.inl rfl) e
 |met f y=>
  have e:=x;exact k a _ (.inl rfl) e
 |ext φ=>obtain⟨p,⟨o,e⟩,st⟩:=x;exact⟨st _ _ p λo q=>k _ _ (.inl rfl) q,⟨o,k _ _ (.inl rfl) e⟩,st⟩
theorem Wi.lt(x:Wi P w H h)(e:H a=some o):a<h.objs.size:=(x a o e).lt
def Wi.fresh(x:Wi P w H h)(e:h.objs.size<=a):H a=none:=by
 cases q:H a with
 |none=>rfl
 |some u=>exact absurd (zzK (x.lt q) e) (Nat.lt_irrefl _)
def Wi.kept(x:Wi P w H h)(k:∀b u,h.get? b=some u->h'.get? b=some u):Wi P w H h':=λa o e=>
 (x a o e).stay (λb u _ q=>k b u q) (λ_ q=>q) λ_ _ q=>q
def Wi.laid(x:Wi P w H h)(k:∀b u,h.get? b=some u->h'.get? b=some u)(hp:h.objs.size<=a)(new:xf P w (upd H a o) h' a o):Wi P w (upd H a o) h':=λb u e=>by
 have hn:=x.fresh hp
 by_cases hb:b=a
 . subst hb;rw[zO]at e;cases e;exact new
 . rw[zy hb]at e;exact(x b u e).stay (λc v _ q=>k c v q) (λc q=>by rw[zy<|zU q hn];exact q) λc xs q=>by rw[zy<|zU q hn];exact q
end
def Rd(H:Hp)(a:Addr)(u:HO):Prop:=H a=some u\/∃o,H a=some (.frz o u)
def Rd.ok(r:Rd H a u)(x:Wi P w H h):xf P w H h a u:=by
 rcases r with r|⟨o,r⟩
 . exact x a u r
 . obtain⟨_,q⟩:=x a _ r;exact q
def IU:Option HO->Prop
 |some (.lst _)=>True
 |some (.dK _)=>True
 |some (.dT _)=>True
 |some (.set _ _)=>True
 |some (.ins _ _ _)=>True
 |some (.ext _)=>True
 |_=>False
section
variable{P:Program}{w:World}{H:Hp}{h h':Heap}{x e:Addr}{o':HO}
def Wi.write(ok:Wi P w H h)(mu:IU (H x))(he:e=x\/H e=some (.own x))(k:∀b u,b≠e->h.get? b=some u->h'.get? b=some u)(heo:∃u,h'.get? e=some u)
 (new:xf P w (upd H x o') h' x o'):Wi P w (upd H x o') h':=λb u q=>by
 have nown:∀c y,H c=some (.own y)->c≠x:=λc y r z=>by subst z;rw[r]at mu;exact mu
 have ntup:∀c xs,H c=some (.tup xs)->c≠x:=λc xs r z=>by subst z;rw[r]at mu;exact mu
 by_cases hb:b=x
 . subst hb;rw[zO]at q;cases q;exact new
 . rw[zy hb]at q
   by_cases hbe:b=e
   . have q':H b=some (.own x):=by
      rcases he with z|z
      . exact absurd (hbe.trans z) hb
      . rw[hbe];exact z
     rw[q]at q';cases q';obtain⟨v,hv⟩:=heo;exact⟨v,by rw[hbe];exact hv⟩
   . refine(ok b u q).stay (λc v hc r=>k c v ?_ r) (λc r=>by rw[zy<|nown c b r];exact r) λc xs r=>by rw[zy<|ntup c xs r];exact r
     rcases hc with rfl|hc
     . exact hbe
     . rintro rfl
       rcases he with z|z
       . exact nown c b hc z
       . rw[hc]at z;cases z;exact hb rfl
end
structure Un(fs ex:List Addr)(H H':Hp)(h h':Heap):Prop where
 keep:∀b o,h.get? b=some o->H b=none->b ∉ fs->b ∉ ex->h'.get? b=some o
 slot:∀b o,h.get? b=some o->H b=none->b ∈ fs->b ∉ ex->∃sl,h'.get? b=some {o with slots:=sl}
 free:∀b o,h.get? b=some o->H b=none->b ∉ ex->H' b=none
 there:∀b o,h.get? b=some o->b ∉ ex->∃o',h'.get? b=some o'
 tups:∀b xs,H b=some (.tup xs)->H' b=some (.tup xs)
 frzs:∀b o u,H b=some (.frz o u)->H' b=some (.frz o u)
 tbls:∀b ps,H b=some (.YV ps)->∃more,H' b=some (.YV<|ps++more)
section
variable{fs fs' ex ex':List Addr}{H H1 H2:Hp}{h h1 h2 h':Heap}{a x e:Addr}{o:HO}
def Un.any(u:Un fs ex H H1 h h1)(q:h.get? b=some ob)(n:H b=none)(hx:b ∉ ex):∃sl,h1.get? b=some {ob with slots:=sl}:=by
 by_cases hb:b ∈ fs
 . exact u.slot b ob q n hb hx
 . exact⟨ob.slots,u.keep b ob q n hb hx⟩
def Un.kept(k:∀b u,h.get? b=some u->h'.get? b=some u):Un fs ex H H h h':=
 ⟨λb ob q _ _ _=>k b ob q,λb ob q _ _ _=>⟨ob.slots,k b ob q⟩,λ_ _ _ n _=>n,λb ob q _=>⟨ob,k b ob q⟩,λ_ _ q=>q,λ_ _ _ q=>q,λ_ ps q=>⟨#[],by rw[q];simp⟩⟩
def Un.refl:Un fs ex H H h h:=Un.kept λ_ _ q=>q
def Un.laid(k:∀b u,h.get? b=some u->h'.get? b=some u)(hp:h.objs.size<=a)(hn:H a=none):Un fs ex H (upd H a o) h h' where
 keep:=λb u q _ _ _=>k b u q
 slot:=λb u q _ _ _=>⟨u.slots,k b u q⟩
 free:=λb u q n _=>by rw[zy<|zzQ<|zzK (zxH q) hp];exact n
 there:=λb u q _=>⟨u,k b u q⟩
 tups:=λb xs q=>by rw[zy<|zU q hn];exact q
 frzs:=λb u xs q=>by rw[zy<|zU q hn];exact q
 tbls:=λb ps q=>⟨#[],by rw[zy<|zU q hn,q];simp⟩
def Un.write(mu:IU (H x))(he:e=x\/H e=some (.own x))(k:∀b u,b≠e->h.get? b=some u->h'.get? b=some u)(heo:∃u,h'.get? e=some u):Un fs ex H (upd H x o) h h':=by
 have hx:∀b,H b=none->b≠x:=λb n z=>by subst z;rw[n]at mu;exact mu
 have hb:∀b,H b=none->b≠e:=λb n z=>by
  subst z
  rcases he with r|r
  . exact hx b n r
  . rw[n]at r;cases r
 have hm:∀b u,H b=some u->¬IU (some u)->b≠x:=λb u q nm z=>by subst z;rw[q]at mu;exact nm mu
 refine⟨λb u q n _ _=>k b u (hb b n) q,λb u q n _ _=>⟨u.slots,k b u (hb b n) q⟩,λb u q n _=>by rw[zy<|hx b n];exact n,λb u q _=>?_,
  λb xs q=>by rw[zy<|hm b _ q λz=>z];exact q,λb u xs q=>by rw[zy<|hm b _ q λz=>z];exact q,λb ps q=>⟨#[],by rw[zy<|hm b _ q λz=>z,q];simp⟩⟩
 by_cases hbe:b=e
 . subst hbe;exact heo
 . exact⟨u,k b u hbe q⟩
end
def trk(h:Heap)(H:Hp):List Addr:=(List.range h.objs.size).filter λa=>(H a).isSome
def NN(h:Heap)(H:Hp):Heap:=W.hideAll h<|trk h H
def NF(h)(H):(NN h H).objs.size=h.objs.size:=W.hideAll_size _ _
def ET(e:h.get? b=some o)(n:H b=none):(NN h H).get? b=some o:=
 W.hideAll_get _ e λhm=>by
  have q:=(List.mem_filter.mp hm).2;rw[n]at q;simp at q
def SE(e:(NN h H).get? b=some o):h.get? b=some o/\H b=none:=by
 have e':h.get? b=some o:=W.of_hideAll _ e;refine⟨e', ?_⟩;cases q:H b with
 |none=>rfl
 |some x=>
  have hm:b ∈ trk h H:=List.mem_filter.mpr ⟨List.mem_range.mpr<|zxH e',by simp[q]⟩;have z:(NN h H).get? b=none:=W.hideAll_none _ hm;rw[z]at e;cases e
end L2
namespace L2
open PySem PySem.Spec PyProof.Rows
structure Mod(K:zzA)(mg:Str->Option Value)(base:Heap):Prop where
 kin:K.In base
 glob:base.Ns mainGlobals mg
 blt:∃mb,base.Ns builtinsNs mb/\∀x:Str,x≠"__name__"->mb x=bootBuiltins x
 nolimit:base.NoLimit
structure Cx where
 prog:Program
 w:World
 K:zzA
 mg:Str->Option Value
 base:Heap
 A:Around
 N:List Str
 s₀:Shared
 H₀:Hp
 env:Env
 outer:List Env
 stack:List Env
 ex:List Addr
 fn:Str->Bool
 calm:Bool
 pn:List (Addr×Obj)
 xe:Value->Shared->Prop
def Lx(l:List Env):List Addr:=l.filterMap (·.frame)
abbrev Cx.fs(X:Cx):List Addr:=Lx X.outer
def Ja(sc:Scope)(x:Str):Prop:=sc.names.lookup x=some .local\/sc.names.lookup x=some .cell\/sc.names.lookup x=some .free
def Loc(sc:Scope)(x:Str):Prop:=sc.names.lookup x=some .local\/sc.names.lookup x=some .cell
def Look(env:Env)(h:Heap)(m:Str->Option Value)(x:Str)(u:Value):Prop:=
 (env.kindOf x=some .local/\m x=some u)\/((env.kindOf x=some .cell\/env.kindOf x=some .free)/\∃c,env.cells.lookup x=some c/\h.IsCell c (some u))
structure Cx.Ok(X:Cx):Prop where
 mod:Mod X.K X.mg X.base
 kind:X.env.scope.kind = .function
 glob:X.env.globals=mainGlobals
 blt:X.env.builtins=builtinsNs
 above:X.s₀.heap.objs.size<=X.env.locals
 inj:∀x y c,X.env.cells.lookup x=some c->X.env.cells.lookup y=some c->x=y
 has:∀x,(X.env.kindOf x=some .cell\/X.env.kindOf x=some .free)->∃c,X.env.cells.lookup x=some c
 cab:∀x c,X.fn x=true->X.env.cells.lookup x=some c->X.s₀.heap.objs.size<=c
 hd:X.calm=true->X.A.handled=none
 frames:X.A.frames=some X.stack
 stk:X.stack=X.outer\/(X.stack=X.env::X.outer/\X.env.frame=some X.env.locals)
 exf:∀b ∈ X.ex,b≠X.env.locals/\∀x c,X.env.cells.lookup x=some c->c≠b
 bs:∀b o,X.base.get? b=some o->X.s₀.heap.get? b=some o/\X.H₀ b=none
 bsz:X.base.objs.size<=X.s₀.heap.objs.size
 noex:∀b o,X.base.get? b=some o->b ∉ X.ex
 exfs:∀b ∈ X.ex,b ∉ X.fs
 funs:X.s₀.heap.FunFrames X.base X.outer
 frf:∀b ∈ X.fs,X.H₀ b=none
structure Inv(X:Cx)(pins:List (Addr×Obj))(σ:List (Option V))(H:Hp)(s:Shared):Prop where
 ok:X.Ok
 os:s.os=X.s₀.os
 bare:AllBare s.gens
 base:Un X.fs X.ex X.H₀ H X.s₀.heap s.heap
 loc:∃m,s.heap.Ns X.env.locals m/\∀(i:Nat) (x:Str) (v:V),X.N[i]? = some x->σ[i]? = some (some v)->Ja X.env.scope x->∃u,RelV v u/\Look X.env s.heap m x u
 cell:∀x c,X.env.cells.lookup x=some c->∃v,s.heap.IsCell c v
 free:H X.env.locals=none
 freeC:∀x c,X.env.cells.lookup x=some c->H c=none
 pin:∀p ∈ X.pn++pins,s.heap.get? p.1=some p.2/\H p.1=none/\p.1≠X.env.locals/\p.1 ∉ X.fs/\∀v,p.2.data ≠ .cell v
 hok:Wi X.prog X.w H s.heap
 len:σ.length=X.N.length
section
variable{X:Cx}{pins:List (Addr×Obj)}{σ:List (Option V)}{H H':Hp}{s:Shared}{h':Heap}
def Cx.Ok.nofr(ok:X.Ok)(e:X.base.get? b=some o):b ∉ X.fs:=λhb=>by
 have:=(ok.funs.mem hb).1;rw[e]at this;cases this
theorem Inv.bs(I:Inv X pins σ H s):∀b o,X.base.get? b=some o->s.heap.get? b=some o/\H b=none:=λb o e=>
 ⟨I.base.keep b o (I.ok.bs b o e).1 (I.ok.bs b o e).2 (I.ok.nofr e)<|I.ok.noex b o e,I.base.free b o (I.ok.bs b o e).1 (I.ok.bs b o e).2<|I.ok.noex b o e⟩
def Inv.bk(I:Inv X pins σ H s):∀b o,X.base.get? b=some o->s.heap.get? b=some o:=λb o e=>(I.bs b o e).1
theorem Inv.mod(I:Inv X pins σ H s):Mod X.K X.mg X.base:=I.ok.mod
def Inv.kIn(I:Inv X pins σ H s):X.K.In s.heap:=I.ok.mod.kin.keeps I.bk
theorem Inv.lt(I:Inv X pins σ H s):X.env.locals<s.heap.objs.size:=let⟨_,hn,_⟩:=I.loc;hn.lt
def Inv.sz(I:Inv X pins σ H s):X.s₀.heap.objs.size<=s.heap.objs.size:=zzO I.ok.above<|Nat.le_of_lt I.lt
def Inv.nofs(I:Inv X pins σ H s)(h:s.heap.objs.size<=a):a ∉ X.fs:=λhb=>by
 obtain⟨_,o,ho,_⟩:=I.ok.funs.mem hb;exact absurd (zzK (zxH ho)<|zzO I.sz h)<|Nat.lt_irrefl _
def Inv.cne(I:Inv X pins σ H s):∀x c,X.env.cells.lookup x=some c->c≠X.env.locals:=λx c e z=>by
 obtain⟨v,o,ho,hd⟩:=I.cell x c e;obtain⟨m,⟨o',es,ep,ho',hd',_⟩,_⟩:=I.loc;rw[z,ho']at ho;cases ho;rw[hd']at hd;cases hd
theorem Inv.funs(I:Inv X pins σ H s):s.heap.FunFrames X.base X.outer:=by
 have all:∀(l:List Env),(∀b ∈ Lx l,b ∈ X.fs)->X.s₀.heap.FunFrames X.base l->s.heap.FunFrames X.base l:=by
  intro l
  induction l with
  |nil=>intro _ _;trivial
  |cons env r ih=>
   intro hs hl;obtain⟨hk,⟨L,o,hf,hn,ho,hd⟩,hr⟩:=hl;have hL:=hs L (by unfold Lx;rw[List.filterMap_cons,hf];exact zzF);obtain⟨sl,e⟩:=I.base.slot L o ho (I.ok.frf L hL) hL λz=>I.ok.exfs L z hL;exact⟨hk,⟨L,_,hf,hn,e,hd⟩,ih (λb hb=>hs b<|by unfold Lx;rw[List.filterMap_cons,hf];exact zzD _ hb) hr⟩
 exact all X.outer (λ_ hb=>hb) I.ok.funs
theorem Inv.stack(I:Inv X pins σ H s):s.heap.FunFrames X.base X.stack:=by
 rcases I.ok.stk with e|⟨e,hf⟩
 . rw[e];exact I.funs
 . rw[e];obtain⟨m,hn,_⟩:=I.loc;refine .cons (by rw[I.ok.kind];decide) hf hn ?_ I.funs;exact Heap.get?_none_of_le<|zzO I.ok.bsz I.ok.above
def Inv.stkSub(I:Inv X pins σ H s):∀b ∈ Lx X.stack,b ∈ X.env.locals::X.fs:=λb hb=>by
 rcases I.ok.stk with e|⟨e,hf⟩
 . rw[e]at hb;exact zzD _ hb
 . rw[e]at hb;unfold Lx at hb;rw[List.filterMap_cons,hf]at hb;exact hb
def Inv.stkFree(I:Inv X pins σ H s):∀b ∈ Lx X.stack,H b=none:=λb hb=>by
 rcases zzC.mp (I.stkSub b hb)with e|hb
 . rw[e];exact I.free
 . obtain⟨_,o,ho,_⟩:=I.ok.funs.mem hb;exact I.base.free b o ho (I.ok.frf b hb) λz=>I.ok.exfs b z hb
def Inv.step{g'}{t':Nat}{d'}{ch:List Addr}(I:Inv X pins σ H s)
 (hch:∀b ∈ ch,(b ∈ X.ex\/X.s₀.heap.objs.size<=b)/\b≠X.env.locals/\(∀x c,X.env.cells.lookup x=some c->c≠b)/\∀p ∈ X.pn++pins,p.1≠b)
 (keep:∀b o,b≠X.env.locals->b ∉ X.fs->b ∉ ch->s.heap.get? b=some o->H b=none->h'.get? b=some o)
 (slot:∀b o,b≠X.env.locals->b ∈ X.fs->b ∉ ch->s.heap.get? b=some o->H b=none->∃sl,h'.get? b=some {o with slots:=sl}) (free:∀b o,b ∉ ch->s.heap.get? b=some o->H b=none->H' b=none)
 (there:∀b o,b ∉ ch->s.heap.get? b=some o->∃o',h'.get? b=some o')
 (tups:∀b xs,H b=some (.tup xs)->H' b=some (.tup xs)) (frzs:∀b o u,H b=some (.frz o u)->H' b=some (.frz o u)) (tbls:∀b ps,H b=some (.YV ps)->∃more,H' b=some (.YV<|ps++more))
 (ns:∀m,s.heap.Ns X.env.locals m->h'.Ns X.env.locals m) (hok:Wi X.prog X.w H' h') (hg:AllBare g'):
 Inv X pins σ H' {s with heap:=h',gens:=g',drawn:=d',toks:=t'}:=by
 have neL:∀b o,X.s₀.heap.get? b=some o->b≠X.env.locals:=λb o e=>zzQ<|zzK (zxH e) I.ok.above;have neC:∀b o,X.s₀.heap.get? b=some o->b ∉ X.ex->b ∉ ch:=λb o e hx hb=>by
  rcases(hch b hb).1 with z|z
  . exact hx z
  . exact absurd (zzK (zxH e) z)<|Nat.lt_irrefl _
 have cellK:∀x c,X.env.cells.lookup x=some c->∀v,s.heap.IsCell c v->h'.IsCell c v:=λx c e v ⟨o,ho,hd⟩=>by
  have nch:=λz=>(hch c z).2.2.1 x c e rfl
  by_cases hc:c ∈ X.fs
  . obtain⟨sl,q⟩:=slot c o (I.cne x c e) hc nch ho<|I.freeC x c e;exact⟨_,q,hd⟩
  . exact⟨o,keep c o (I.cne x c e) hc nch ho<|I.freeC x c e,hd⟩
 refine⟨I.ok,I.os,hg,⟨λb o e n hb hx=>?_,λb o e n hb hx=>?_,λb o e n hx=>?_,λb o e hx=>?_,λb xs e=>tups b xs<|I.base.tups b xs e,λb o xs e=>frzs b o xs<|I.base.frzs b o xs e,λb ps e=>?_⟩, ?_,λx c e=>?_, ?_,λx c e=>?_,λp hp=>?_,hok,I.len⟩
 . exact keep b o (neL b o e) hb (neC b o e hx) (I.base.keep b o e n hb hx)<|I.base.free b o e n hx
 . obtain⟨sl,e1⟩:=I.base.slot b o e n hb hx;obtain⟨sl',e2⟩:=slot b _ (neL b o e) hb (neC b o e hx) e1<|I.base.free b o e n hx;exact⟨sl',e2⟩
 . obtain⟨o',e1⟩:=I.base.there b o e hx;exact free b o' (neC b o e hx) e1<|I.base.free b o e n hx
 . obtain⟨o',e1⟩:=I.base.there b o e hx;exact there b o' (neC b o e hx) e1
 . obtain⟨m1,e1⟩:=I.base.tbls b ps e;obtain⟨m2,e2⟩:=tbls b _ e1;exact⟨m1++m2,by rw[e2,Array.append_assoc]⟩
 . obtain⟨m,hn,hl⟩:=I.loc;refine⟨m,ns m hn,λi x v e1 e2 e3=>?_⟩;obtain⟨u,r,l⟩:=hl i x v e1 e2 e3;refine⟨u,r, ?_⟩
   rcases l with l|⟨k,c,e,z⟩
   . exact .inl l
   . exact .inr ⟨k,c,e,cellK x c e _ z⟩
 . obtain⟨v,z⟩:=I.cell x c e;exact⟨v,cellK x c e v z⟩
 . obtain⟨m,⟨o,_,_,ho,_⟩,_⟩:=I.loc;exact free _ o (λz=>(hch _ z).2.1 rfl) ho I.free
 . obtain⟨v,o,ho,hd⟩:=I.cell x c e;exact free c o (λz=>(hch c z).2.2.1 x c e rfl) ho<|I.freeC x c e
 . obtain⟨e,n,ne,nf,d⟩:=I.pin p hp;have nch:=λz=>(hch p.1 z).2.2.2 p hp rfl;exact⟨keep p.1 p.2 ne nf nch e n,free p.1 p.2 nch e n,ne,nf,d⟩
def Inv.un{t':Nat}(I:Inv X pins σ H s)(u:Un X.fs [] H H' s.heap h')(hok:Wi X.prog X.w H' h'):Inv X pins σ H' {s with heap:=h',toks:=t'}:=by
 obtain⟨m,⟨o,es,ep,ho,r⟩,_⟩:=id I.loc;obtain⟨sl,hL⟩:=u.any ho I.free (by simp);exact I.step (g':=s.gens) (d':=s.drawn) (ch:=[]) (λ_ z=>nomatch z) (λb o _ hb _ e n=>u.keep b o e n hb<|by simp) (λb o _ hb _ e n=>u.slot b o e n hb<|by simp) (λb o _ e n=>u.free b o e n<|by simp) (λb o _ e=>u.there b o e<|by simp) u.tups u.frzs u.tbls (λm' hm=>by
  obtain⟨o',es',ep',ho',r'⟩:=hm;rw[ho]at ho';cases ho';exact⟨_,es',ep',hL,r'⟩) hok I.bare
def Inv.call{g'}{t':Nat}{d'}{ch:List Addr}(I:Inv X pins σ H s)(u:Un (Lx X.stack) ch H H' s.heap h')(hok:Wi X.prog X.w H' h')(hg:AllBare g')
 (hch:∀b ∈ ch,(b ∈ X.ex\/X.s₀.heap.objs.size<=b)/\b≠X.env.locals/\(∀x c,X.env.cells.lookup x=some c->c≠b)/\∀p ∈ X.pn++pins,p.1≠b):
 Inv X pins σ H' {s with heap:=h',gens:=g',drawn:=d',toks:=t'}:=by
 obtain⟨m,⟨o,es,ep,ho,r⟩,_⟩:=id I.loc;obtain⟨sl,hL⟩:=u.any ho I.free λz=>(hch _ z).2.1 rfl;exact I.step hch (λb o hL hb hc e n=>u.keep b o e n (λz=>(zzC.mp<|I.stkSub b z).elim hL hb) hc) (λb o _ _ hc e n=>u.any e n hc) (λb o hc e n=>u.free b o e n hc) (λb o hc e=>u.there b o e hc) u.tups u.frzs u.tbls (λm' hm=>by
  obtain⟨o',es',ep',ho',r'⟩:=hm;rw[ho]at ho';cases ho';exact⟨_,es',ep',hL,r'⟩) hok hg
def Inv.turned{t':Nat}{it:Addr}(I:Inv X pins σ H s)(k:∀b o,b≠it->s.heap.get? b=some o->h'.get? b=some o)(hn:H it=none)(hL:it≠X.env.locals)
 (h1:it ∈ X.ex\/X.s₀.heap.objs.size<=it) (h2:∀x c,X.env.cells.lookup x=some c->c≠it) (h3:∀p ∈ X.pn++pins,p.1≠it):Inv X pins σ H {s with heap:=h',toks:=t'}:=by
 have nit:∀b u,H b=some u->b≠it:=λb u e z=>by rw[z,hn]at e;cases e
 refine I.step (g':=s.gens) (d':=s.drawn) (ch:=[it]) (λb hb=>?_) (λb o _ _ hc e _=>k b o (λz=>hc<|by simp[z]) e) (λb o _ _ hc e _=>⟨o.slots,k b o (λz=>hc<|by simp[z]) e⟩) (λ_ _ _ _ n=>n)
  (λb o hc e=>⟨o,k b o (λz=>hc<|by simp[z]) e⟩) (λ_ _ e=>e) (λ_ _ _ e=>e) (λb ps e=>⟨#[],by rw[e];simp⟩) (λm hm=>?_) (λb u e=>?_) I.bare
 . have e:b=it:=by simpa using hb
   subst e;exact⟨h1,hL,h2,h3⟩
 . obtain⟨o,es,ep,ho,r⟩:=hm;exact⟨o,es,ep,k _ o (Ne.symm hL) ho,r⟩
 . refine(I.hok b u e).stay (λc v hc q=>k c v ?_ q) (λ_ q=>q) λ_ _ q=>q
   rcases hc with z|z
   . rw[z];exact nit b u e
   . exact nit c _ z
def Inv.tok(I:Inv X pins σ H s)(t:Nat):Inv X pins σ H {s with toks:=t}:=I.un (h':=s.heap) (t':=t) Un.refl I.hok
theorem Inv.kept(I:Inv X pins σ H s)(k:∀b u,s.heap.get? b=some u->h'.get? b=some u):Inv X pins σ H {s with heap:=h',toks:=t'}:=I.un (Un.kept k)<|I.hok.kept k
theorem Inv.laid(I:Inv X pins σ H s)(k:∀b u,s.heap.get? b=some u->h'.get? b=some u)(hp:s.heap.objs.size<=a)(new:xf X.prog X.w (upd H a o) h' a o):
 Inv X pins σ (upd H a o) {s with heap:=h',toks:=t'}:=I.un (Un.laid k hp<|I.hok.fresh hp)<|I.hok.laid k hp new
theorem Inv.write(I:Inv X pins σ H s)(mu:IU (H x))(he:e=x\/H e=some (.own x))(k:∀b u,b≠e->s.heap.get? b=some u->h'.get? b=some u)(heo:∃u,h'.get? e=some u)
 (new:xf X.prog X.w (upd H x o) h' x o):Inv X pins σ (upd H x o) {s with heap:=h',toks:=t'}:=I.un (Un.write mu he k heo)<|I.hok.write mu he k heo new
def Inv.weak(I:Inv X pins σ H s)(hl:σ'.length=σ.length)(w:∀(i:Nat) v,σ'[i]? = some (some v)->σ[i]? = some (some v)):Inv X pins σ' H s:=
 ⟨I.ok,I.os,I.bare,I.base,let⟨m,hn,hl'⟩:=I.loc;⟨m,hn,λi x v e1 e2 e3=>hl' i x v e1 (w i v e2) e3⟩,I.cell,I.free,I.freeC,I.pin,I.hok,hl.trans I.len⟩
def Inv.pins_of(I:Inv X pins σ H s)(h:∀p ∈ pins',s.heap.get? p.1=some p.2/\H p.1=none/\p.1≠X.env.locals/\p.1 ∉ X.fs/\∀v,p.2.data ≠ .cell v):Inv X pins' σ H s:=
 ⟨I.ok,I.os,I.bare,I.base,I.loc,I.cell,I.free,I.freeC,λp hp=>(zzM.mp hp).elim (λz=>I.pin p<|zzP _ z)<|h p,I.hok,I.len⟩
def Gr{N:List Str}(hN:N.Nodup){i j:Nat}{x}(a:N[i]? = some x)(b:N[j]? = some x):i=j:=by
 obtain⟨h1,e1⟩:=zzG.mp a;obtain⟨h2,e2⟩:=zzG.mp b;exact(List.getElem_inj hN).mp<|e1.trans e2.symm
def Rr{M A E}{i:Nat}{x v u Q}(I:Inv X pins σ H s)(hN:X.N.Nodup)(hi:X.N[i]? = some x)(hx:Loc X.env.scope x)(r:RelV v u)
 (h:∀s',Inv X pins (σ.set i<|some v) H s'->(∃a,Heap.SameBut a s.heap s'.heap/\(a=X.env.locals\/X.env.cells.lookup x=some a))->Q () s') (hf:X.fn x=true\/X.env.scope.names.lookup x=some .local:=by first|exact .inl rfl|exact .inr rfl|assumption):wpAny M A (storeName X.env x u) Q E s:=by
 obtain⟨m,hn,hl⟩:=id I.loc;have hcls:(X.env.scope.kind == .class||(X.env.scope.kind == .module&&X.env.locals != X.env.globals))=false:=by rw[I.ok.kind];rfl
 have hiσ:i<σ.length:=by rw[I.len];exact(zzG.mp hi).1
 have cne:=I.cne;have tracked:∀{a:Addr}{h':Heap},(∃o,s.heap.get? a=some o/\H a=none)->Heap.SameBut a s.heap h'->Wi X.prog X.w H h':=λ{a h'} ha hs b ob e=>by
  obtain⟨_,_,hfree⟩:=ha;refine(I.hok b ob e).stay (λc w' hc q=>(hs.2 c ?_).trans q) (λ_ q=>q) λ_ _ q=>q
  rintro rfl
  rcases hc with rfl|hc
  . rw[hfree]at e;cases e
  . rw[hfree]at hc;cases hc
 rcases hx with hk|hk
 . refine wpAny_storeName_local hk hn (λh' hn' hs=>?_) hcls;obtain⟨oL,_,_,hoL,_⟩:=id hn;refine h _ ⟨I.ok,I.os,I.bare,⟨λb o e n hb hx=>?_,λb o e n hb hx=>?_,I.base.free,λb o e hx=>?_,I.base.tups,I.base.frzs,I.base.tbls⟩,⟨_,hn',λj y v' e1 e2 e3=>?_⟩,λy c e=>?_,I.free,I.freeC,λp hp=>?_,tracked ⟨oL,hoL,I.free⟩ hs,by simpa using I.len⟩ ⟨_,hs,.inl rfl⟩
   . exact(hs.2 b<|zzQ<|zzK (zxH e) I.ok.above).trans<|I.base.keep b o e n hb hx
   . obtain⟨sl,e1⟩:=I.base.slot b o e n hb hx;exact⟨sl,(hs.2 b<|zzQ<|zzK (zxH e) I.ok.above).trans e1⟩
   . obtain⟨o',e1⟩:=I.base.there b o e hx;exact⟨o',(hs.2 b<|zzQ<|zzK (zxH e) I.ok.above).trans e1⟩
   . by_cases hj:j=i
     . subst hj;rw[hi]at e1;cases e1;rw[zyJ hiσ]at e2;cases e2;exact⟨u,r,.inl ⟨hk,by simp⟩⟩
     . rw[zzX<|Ne.symm hj]at e2;obtain⟨u',r',q⟩:=hl j y v' e1 e2 e3;refine⟨u',r', ?_⟩
       rcases q with⟨k,e⟩|⟨k,c,e,z⟩
       . refine .inl ⟨k, ?_⟩;have:y≠x:=λe=>hj<|Gr hN e1<|e ▸ hi;simp[this,e]
       . exact .inr ⟨k,c,e,z.sameBut hs<|cne y c e⟩
   . obtain⟨w',z⟩:=I.cell y c e;exact⟨w',z.sameBut hs<|cne y c e⟩
   . obtain⟨e,n,ne,nf,d⟩:=I.pin p hp;exact⟨(hs.2 p.1 ne).trans e,n,ne,nf,d⟩
 . have hfn:X.fn x=true:=by
    rcases hf with z|z
    . exact z
    . rw[z]at hk;cases hk
   obtain⟨c,hc⟩:=I.ok.has x<|.inl hk;obtain⟨w',z⟩:=I.cell x c hc;refine wpAny_storeName_cell I.ok.kind hk hc z λh' hc' hs=>?_;obtain⟨oc,hoc,hocd⟩:=id z;refine h {s with heap:=h'} ⟨I.ok,I.os,I.bare,⟨λb o e n hb hx=>?_,λb o e n hb hx=>?_,I.base.free,λb o e hx=>?_,I.base.tups,I.base.frzs,I.base.tbls⟩,⟨m,hn.sameBut hs<|Ne.symm<|cne x c hc,λj y v' e1 e2 e3=>?_⟩,λy c' e=>?_,I.free,I.freeC,λp hp=>?_,tracked ⟨oc,hoc,I.freeC x c hc⟩ hs,by simpa using I.len⟩ ⟨c,hs,.inr hc⟩
   . exact(hs.2 b<|zzQ<|zzK (zxH e)<|I.ok.cab x c hfn hc).trans<|I.base.keep b o e n hb hx
   . obtain⟨sl,e1⟩:=I.base.slot b o e n hb hx;exact⟨sl,(hs.2 b<|zzQ<|zzK (zxH e)<|I.ok.cab x c hfn hc).trans e1⟩
   . obtain⟨o',e1⟩:=I.base.there b o e hx;exact⟨o',(hs.2 b<|zzQ<|zzK (zxH e)<|I.ok.cab x c hfn hc).trans e1⟩
   . by_cases hj:j=i
     . subst hj;rw[hi]at e1;cases e1;rw[zyJ hiσ]at e2;cases e2;exact⟨u,r,.inr ⟨.inl hk,c,hc,hc'⟩⟩
     . rw[zzX<|Ne.symm hj]at e2;obtain⟨u',r',q⟩:=hl j y v' e1 e2 e3;refine⟨u',r', ?_⟩
       rcases q with q|⟨k,c',e,z'⟩
       . exact .inl q
       . refine .inr ⟨k,c',e,z'.sameBut hs ?_⟩
         rintro rfl
         exact hj<|Gr hN e1<|I.ok.inj _ _ _ e hc ▸ hi
   . by_cases hcc:c'=c
     . subst hcc;exact⟨_,hc'⟩
     . obtain⟨w2,z2⟩:=I.cell y c' e;exact⟨w2,z2.sameBut hs hcc⟩
   . obtain⟨e,n,ne,nf,d⟩:=I.pin p hp;refine⟨(hs.2 p.1 ?_).trans e,n,ne,nf,d⟩;intro q;rw[q,hoc]at e;have q':oc=p.2:=zzY e;exact d w' (by rw[<-q'];exact hocd)
def Yj(I:Inv X pins σ H s)(hN:X.N.Nodup)(hi:X.N[i]? = some x)(hx:Loc X.env.scope x)(r:RelV v u)
 (h:∀s',Inv X pins (σ.set i<|some v) H s'->Q () s') (hf:X.fn x=true\/X.env.scope.names.lookup x=some .local:=by first|exact .inl rfl|exact .inr rfl|assumption):wpAny M A (storeName X.env x u) Q E s:=
 Rr I hN hi hx r (λs' I' _=>h s' I') hf
def Inv.call'(I:Inv X pins σ H s)(ho:s'.os=s.os)(u:Un (Lx X.stack) ch H H' s.heap s'.heap)(hok:Wi X.prog X.w H' s'.heap)(hg:AllBare s'.gens)
 (hch:∀b ∈ ch,(b ∈ X.ex\/X.s₀.heap.objs.size<=b)/\b≠X.env.locals/\(∀x c,X.env.cells.lookup x=some c->c≠b)/\∀p ∈ X.pn++pins,p.1≠b):Inv X pins σ H' s':=by
 obtain⟨h',g',d',t',o'⟩:=s';have e:=ho;subst e;exact I.call (g':=g') (t':=t') (d':=d') u hok hg hch
end
abbrev XK:=Value->Option Addr->Hp->Prop
abbrev St:=List<|Option V
abbrev VK:=V->Hp->Prop
abbrev TE:=St->Hp->VK->Prop
abbrev TT:=St->Hp->(Bool->Hp->Prop)->Prop
abbrev TA:=St->Hp->(List V->Hp->Prop)->Prop
structure Ends where
 nx:St->Hp->Prop
 rt:VK
 bk:St->Hp->Prop:=λ_ _=>False
 ct:St->Hp->Prop:=λ_ _=>False
abbrev TS:=Ends->St->Hp->Prop
def EP(X:Cx)(pins:List (Addr×Obj))(σ:St)(Q:VK)(u:Value)(s':Shared):Prop:=∃v H',Inv X pins σ H' s'/\RelV v u/\Q v H'
def TP(X:Cx)(pins:List (Addr×Obj))(σ:St)(Q:Bool->Hp->Prop)(b:Bool)(s':Shared):Prop:=∃H',Inv X pins σ H' s'/\Q b H'
def AP(X:Cx)(pins:List (Addr×Obj))(σ:St)(Q:List V->Hp->Prop)(us:List Value)(s':Shared):Prop:=∃vs H',Inv X pins σ H' s'/\zG vs us/\Q vs H'
def SP(X:Cx)(pins:List (Addr×Obj))(D:Ends)(f:Flow)(s':Shared):Prop:=
 match f with
 | .next=>∃σ' H',Inv X pins σ' H' s'/\D.nx σ' H'
 | .brk=>∃σ' H',Inv X pins σ' H' s'/\D.bk σ' H'
 | .cont=>∃σ' H',Inv X pins σ' H' s'/\D.ct σ' H'
 | .ret u=>∃v σ' H',Inv X pins σ' H' s'/\RelV v u/\D.rt v H'
def PE(X:Cx)(e:Expr)(t:TE):Prop:=
 ∀(pins:List (Addr×Obj)) (s:Shared) (σ:St) (H:Hp) (Q:VK),Inv X pins σ H s->t σ H Q->wpAny (model X.prog X.w) X.A (eval e X.env) (EP X pins σ Q) X.xe s
def PT(X:Cx)(e:Expr)(t:TT):Prop:=
 ∀(pins:List (Addr×Obj)) (s:Shared) (σ:St) (H:Hp) (Q:Bool->Hp->Prop),Inv X pins σ H s->t σ H Q->wpAny (model X.prog X.w) X.A (isTrue e X.env<|eval e X.env) (TP X pins σ Q) X.xe s
def PW(X:Cx)(e:Expr)(t:TT):Prop:=
 ∀(whole:Sem Value) (pins:List (Addr×Obj)) (s:Shared) (σ:St) (H:Hp) (Q:Bool->Hp->Prop),Inv X pins σ H s->t σ H Q->wpAny (model X.prog X.w) X.A (isTrue e X.env whole) (TP X pins σ Q) X.xe s
def PW.pt(h:PW X e t):PT X e t:=h _
def PA(X:Cx)(es:List Expr)(t:TA):Prop:=
 ∀(pos:Pos) (pins:List (Addr×Obj)) (s:Shared) (σ:St) (H:Hp) (Q:List V->Hp->Prop),Inv X pins σ H s->t σ H Q->wpAny (model X.prog X.w) X.A (spliced<|backTo pos<|starEach es X.env) (AP X pins σ Q) X.xe s
def PS(X:Cx)(st:Stmt)(t:TS):Prop:=
 ∀(pins:List (Addr×Obj)) (s:Shared) (σ:St) (H:Hp) (D:Ends),Inv X pins σ H s->t D σ H->wpAny (model X.prog X.w) X.A (exec st X.env) (SP X pins D) X.xe s
def Gd(X:Cx)(st:List Stmt)(t:TS):Prop:=
 ∀(pins:List (Addr×Obj)) (s:Shared) (σ:St) (H:Hp) (D:Ends),Inv X pins σ H s->t D σ H->wpAny (model X.prog X.w) X.A (execs st X.env) (SP X pins D) X.xe s
def thn(h:wpAny M A t Q E s)(hQ:∀a s,Q a s->Q' a s):wpAny M A t Q' E s:=zxR h hQ λ_ _ x=>x
end L2
namespace L2
open PySem PySem.Spec PyProof.Rows
section
variable{X:Cx}
def YZ(i:Nat):TE:=λσ H Q=>∃v,σ[i]? = some (some v)/\Q v H
def tC(v:V):TE:=λ_ H Q=>Q v H
def Fw(hN:X.N[i]? = some x)(hv:Ja X.env.scope x)(hd:(x==("__debug__":Str))=false:=by decide)(hcd:(x==("__classdict__":Str))=false:=by decide):PE X (.Name x pos) (YZ i):=by
 intro pins s σ H Q I h;obtain⟨v,e,h⟩:=h;obtain⟨m,hn,hl⟩:=I.loc;obtain⟨u,r,l⟩:=hl i x v hN e hv;have fin:EP X pins σ Q u s:=⟨v,H,I,r,h⟩
 rcases l with⟨hk,hm⟩|⟨hk,c,hc,hcell⟩
 . exact wpAny_Name (wpAny_loadName_local I.ok.kind hk hn hm fin) hd
 . rcases hk with hk|hk
   . exact wpAny_Name (wpAny_loadName_cell I.ok.kind hk hc hcell fin) hd
   . exact wpAny_Name (wpAny_loadName_free I.ok.kind hk hc hcell fin hcd) hd
def Q8:PE X (.Constant (.int i) j pos) (tC<|.int i):=λ_ _ _ H _ I h=>wpAny_Constant_int ⟨.int i,H,I.tok _,⟨_,rfl⟩,h⟩
def JW:PE X (.Constant (.bool b) j pos) (tC<|.bl b):=λ_ _ _ H _ I h=>Constant_bool ⟨.bl b,H,I,rfl,h⟩
def Ck:PE X (.Constant .none j pos) (tC .non):=λ_ _ _ H _ I h=>Constant_none ⟨.non,H,I,rfl,h⟩
def Cs:PE X (.Constant (.str x) j pos) (tC<|.str x):=λ_ _ _ H _ I h=>Calls.Constant_str ⟨.str x,H,I.tok _,⟨_,rfl⟩,h⟩
def Gl(X:Cx)(x:Str):Prop:=X.env.kindOf x=some .globalImplicit
def BW(I:Inv X pins σ H s)(hg:Gl X x)(hm:X.mg x=some u)(h:Q u s)
 (hd:(x==("__debug__":Str))=false:=by decide):wpAny (model X.prog X.w) X.A (eval (.Name x pos) X.env) Q E s:=
 Calls.Name_function_global I.ok.kind hg (Calls.loadGlobal_global (by rw[I.ok.glob];exact I.mod.glob.keeps I.bk) hm h) hd
def Za(I:Inv X pins σ H s)(hg:Gl X x)(hm:X.mg x=none)(hv:bootBuiltins x=some u)(h:Q u s)
 (hn:x≠"__name__":=by decide) (hd:(x==("__debug__":Str))=false:=by decide):wpAny (model X.prog X.w) X.A (eval (.Name x pos) X.env) Q E s:=by
 obtain⟨mb,h1,h2⟩:=I.mod.blt;exact Calls.Name_function_global I.ok.kind hg (Calls.loadGlobal_builtin (by rw[I.ok.glob];exact I.mod.glob.keeps I.bk) hm (by rw[I.ok.blt];exact h1.keeps I.bk) ((h2 x hn).trans hv) h) hd
def Bu(hg:Gl X x)(hm:X.mg x=none)(hv:bootBuiltins x=some u)(r:RelV v u)(hn:x≠"__name__":=by decide)(hd:(x==("__debug__":Str))=false:=by decide):PE X (.Name x pos) (tC v):=
 λ_ _ _ H _ I h=>Za I hg hm hv ⟨v,H,I,r,h⟩ hn hd
variable{a b:Expr}{ta tb:TE}{pos:Pos}
variable{tA tB':TT}{rest:List Expr}
def A7(t u:TT):TT:=λσ H Q=>t σ H λc H1=>if c=true then u σ H1 Q else Q false H1
def uI(t u:TT):TT:=λσ H Q=>t σ H λc H1=>if c=true then Q true H1 else u σ H1 Q
def Dx(t:TT):TT:=λσ H Q=>t σ H λc H1=>Q (!c) H1
def SV(ha:PT X a tA):PW X (.BoolOp .And [a] pos) tA:=by
 intro wh pins s σ H Q I h;refine isTrue_and<|thn (ha pins s σ H Q I h) λc s1 e=>?_;cases c with
 |true=>exact isTrue_and_nil e
 |false=>exact e
def C4(ha:PT X a tA):PW X (.BoolOp .Or [a] pos) tA:=by
 intro wh pins s σ H Q I h;refine isTrue_or<|thn (ha pins s σ H Q I h) λc s1 e=>?_;cases c with
 |false=>exact isTrue_or_nil e
 |true=>exact e
def CF(ha:PT X a tA)(hb:PW X (.BoolOp .And (b::rest) pos) tB'):PW X (.BoolOp .And (a::b::rest) pos) (A7 tA tB'):=by
 intro wh pins s σ H Q I h;refine isTrue_and<|thn (ha pins s σ H _ I h) λc s1 ⟨H1,I1,q1⟩=>?_;cases c with
 |true=>exact hb wh pins s1 σ H1 Q I1 q1
 |false=>exact⟨H1,I1,q1⟩
def JC(ha:PT X a tA)(hb:PW X (.BoolOp .Or (b::rest) pos) tB'):PW X (.BoolOp .Or (a::b::rest) pos) (uI tA tB'):=by
 intro wh pins s σ H Q I h;refine isTrue_or<|thn (ha pins s σ H _ I h) λc s1 ⟨H1,I1,q1⟩=>?_;cases c with
 |true=>exact⟨H1,I1,q1⟩
 |false=>exact hb wh pins s1 σ H1 Q I1 q1
def OV(ha:PT X a tA):PT X (.UnaryOp .Not a pos) (Dx tA):=by
 intro pins s σ H Q I h;exact isTrue_not<|ha pins s σ H (λc H1=>Q (!c) H1) I h
def JG(ta tb:TE):TE:=λσ H Q=>ta σ H λx H1=>∃c,x = .bl c/\if c=true then tb σ H1 Q else Q (.bl false) H1
def IT(ta:TE):TE:=λσ H Q=>ta σ H λx H1=>∃c,x = .bl c/\Q (.bl<|!c) H1
def CM(h:PE X a t):PE X (.BoolOp op [a] pos) t:=λpins s σ H Q I hw=>BoolOp_one<|h pins s σ H Q I hw
def HP(ha:PE X a ta)(hb:PE X (.BoolOp .And (b::rest) pos) tb):PE X (.BoolOp .And (a::b::rest) pos) (JG ta tb):=by
 intro pins s σ H Q I h;refine BoolOp_and<|thn (ha pins s σ H _ I h) λv s1 ⟨x,H1,I1,r1,q1⟩=>?_;obtain⟨c,rfl,q1⟩:=q1;cases r1;refine wpAny_truthy_bool ?_;cases c with
 |true=>exact hb pins s1 σ H1 Q I1 q1
 |false=>exact⟨.bl false,H1,I1,rfl,q1⟩
def OR(ha:PE X a ta):PE X (.UnaryOp .Not a pos) (IT ta):=by
 intro pins s σ H Q I h;refine UnaryOp_<|thn (ha pins s σ H _ I h) λv s1 ⟨x,H1,I1,r1,q1⟩=>?_;obtain⟨c,rfl,q1⟩:=q1;cases r1;exact not_of<|wpAny_truthy_bool ⟨.bl<|!c,H1,I1,rfl,q1⟩
end
end L2
namespace L2
open PySem PySem.Spec PyProof.Rows
def Qn(K:zzA)(H:Hp)(a:Addr)(xs:List V):Prop:=
 Rd H a (.lst xs) \/
  ∃(o:Obj) (its:Array Value) (n:Nat),K.lookup a=some o/\o.cls = .type "list"/\o.dict=none/\o.data = .seq its n/\its.size<=sizeLine/\zG xs its.toList
def E7(K:zzA)(H:Hp)(a:Addr)(xs:List V):Prop:=
 Rd H a (.lst xs)\/∃(its:Array Value) (n:Nat),K.lookup a=some {cls:=.type "list",data:=.seq its n}/\its.size<=sizeLine/\zG xs its.toList
def VZ(K:zzA)(H:Hp)(a:Addr)(xs:List V):Prop:=
 Rd H a (.tup xs) \/
  ∃(o:Obj) (its:Array Value) (n:Nat),K.lookup a=some o/\o.cls = .type "tuple"/\o.data = .seq its n/\its.size<=sizeLine/\zG xs its.toList
def A2:Value->Option V
 | .none=>some .non
 | .bool b=>some<|.bl b
 | .int i _=>some<|.int i
 | .str x _=>some<|.str x
 | .bytes b _=>some<|.byt b
 | .float b _=>some<|.flt b
 | .ref a=>some<|.ref a
 | .type n=>some (.ty n)
 |_=>none
def RelV.abs(r:RelV x u):A2 u=some x:=by
 cases x with
 |non=>cases r;rfl
 |bl _=>cases r;rfl
 |int _=>obtain⟨t,rfl⟩:=r;rfl
 |str _=>obtain⟨t,rfl⟩:=r;rfl
 |byt _=>obtain⟨t,rfl⟩:=r;rfl
 |flt _=>obtain⟨t,rfl⟩:=r;rfl
 |ref _=>cases r;rfl
 |ty _=>cases r;rfl
def RelV.inj(r:RelV x u)(q:RelV y u):x=y:=zzY<|r.abs.symm.trans q.abs
theorem zG.inj:∀{xs ys:List V}{us:List Value},zG xs us->zG ys us->xs=ys
 |_,_,_,.nil,.nil=>rfl
 |_,_,_,.cons r t,.cons r' t'=>by rw[r.inj r',zG.inj t t']
section
variable{X:Cx}{pins:List (Addr×Obj)}{σ:St}{H:Hp}{s:Shared}{a:Addr}{xs ys:List V}
def Inv.list(I:Inv X pins σ H s)(h:Qn X.K H a xs):∃its:List Value,zG xs its/\PlainL s.heap a its.toArray/\xs.length<=sizeLine:=by
 rcases h with h|⟨o,its,n,hk,hc,hd,hs,hz,r⟩
 . obtain⟨z,its,n,r,e⟩:=h.ok I.hok;exact⟨its,r,⟨_,n,e,rfl,rfl,rfl⟩,z⟩
 . refine⟨its.toList,r,⟨o,n,I.kIn a o hk,hc,hd,by simpa using hs⟩, ?_⟩;have e:=r.length;simp only[zyS]at e;omega
def Inv.tuple(I:Inv X pins σ H s)(h:VZ X.K H a xs):∃its:List Value,zG xs its/\IsTup s.heap a its.toArray/\xs.length<=sizeLine:=by
 rcases h with h|⟨o,its,n,hk,hc,hs,hz,r⟩
 . obtain⟨z,its,r,p⟩:=h.ok I.hok;exact⟨its,r,p,z⟩
 . refine⟨its.toList,r,⟨o,I.kIn a o hk,hc,n,by simpa using hs⟩, ?_⟩;have e:=r.length;simp only[zyS]at e;omega
def Inv.list_inj(I:Inv X pins σ H s)(h:Qn X.K H a xs)(h':Qn X.K H a ys):xs=ys:=by
 obtain⟨its,r,⟨o,n,e,_,_,d⟩,_⟩:=I.list h;obtain⟨its',r',⟨o',n',e',_,_,d'⟩,_⟩:=I.list h';rw[e]at e';cases e';rw[d]at d';injection d' with d1 _
 have:its=its':=by simpa using congrArg Array.toList d1
 subst this;exact r.inj r'
def Inv.tuple_inj(I:Inv X pins σ H s)(h:VZ X.K H a xs)(h':VZ X.K H a ys):xs=ys:=by
 obtain⟨its,r,⟨o,e,_,n,d⟩,_⟩:=I.tuple h;obtain⟨its',r',⟨o',e',_,n',d'⟩,_⟩:=I.tuple h';rw[e]at e';cases e';rw[d]at d';injection d' with d1 _
 have:its=its':=by simpa using congrArg Array.toList d1
 subst this;exact r.inj r'
end
abbrev Cx.wish(X:Cx)(E:Value->Shared->Prop):Cx:={X with xe:=E}
abbrev Cx.nox(X:Cx):Cx:=X.wish λ_ _=>False
theorem Cx.Ok.wish{X:Cx}(ok:X.Ok)(E):(X.wish E).Ok:=
 ⟨ok.mod,ok.kind,ok.glob,ok.blt,ok.above,ok.inj,ok.has,ok.cab,ok.hd,ok.frames,ok.stk,ok.exf,ok.bs,ok.bsz,ok.noex,ok.exfs,ok.funs,ok.frf⟩
def Cx.Ok.unwish{X:Cx}{E}(ok:(X.wish E).Ok):X.Ok:=
 ⟨ok.mod,ok.kind,ok.glob,ok.blt,ok.above,ok.inj,ok.has,ok.cab,ok.hd,ok.frames,ok.stk,ok.exf,ok.bs,ok.bsz,ok.noex,ok.exfs,ok.funs,ok.frf⟩
section
variable{X:Cx}{pins:List (Addr×Obj)}{σ:St}{H:Hp}{s:Shared}{E:Value->Shared->Prop}
theorem Inv.wish(I:Inv X pins σ H s)(E:Value->Shared->Prop):Inv (X.wish E) pins σ H s:=⟨I.ok.wish E,I.os,I.bare,I.base,I.loc,I.cell,I.free,I.freeC,I.pin,I.hok,I.len⟩
theorem Inv.unwish(I:Inv (X.wish E) pins σ H s):Inv X pins σ H s:=⟨I.ok.unwish,I.os,I.bare,I.base,I.loc,I.cell,I.free,I.freeC,I.pin,I.hok,I.len⟩
theorem SP.unwish(h:SP (X.wish E) pins D f s'):SP X pins D f s':=by
 cases f with
 |next=>obtain⟨σ',H',I,q⟩:=h;exact⟨σ',H',I.unwish,q⟩
 |brk=>obtain⟨σ',H',I,q⟩:=h;exact⟨σ',H',I.unwish,q⟩
 |cont=>obtain⟨σ',H',I,q⟩:=h;exact⟨σ',H',I.unwish,q⟩
 |ret u=>obtain⟨v,σ',H',I,r,q⟩:=h;exact⟨v,σ',H',I.unwish,r,q⟩
theorem Gd.nox{st t}(h:Gd X.nox st t):Gd X st t:=λpins s σ H D I hw=>
 zxR (h pins s σ H D (I.wish _) hw) (λ_ _ q=>q.unwish) λ_ _ z=>False.elim z
end
section
variable{X:Cx}{st:Stmt}{rest:List Stmt}{t u:TS}{e:Expr}{te:TE}{pos:Pos}
def I_:TS:=λD σ H=>D.nx σ H
def DN(t u:TS):TS:=λD σ H=>t {D with nx:=u D} σ H
def RX:Gd X [] I_:=λ_ _ σ H _ I h=>wpAny_execs_nil ⟨σ,H,I,h⟩
def Tq(h1:PS X st t)(h2:Gd X rest u):Gd X (st::rest) (DN t u):=by
 intro pins s σ H D I h;refine wpAny_execs_cons<|thn (h1 pins s σ H {D with nx:=u D} I h) λf s1 q=>?_;cases f with
 |next=>
  obtain⟨σ',H',I',q⟩:=q;exact h2 pins s1 σ' H' D I' q
 |ret v=>exact q
 |brk=>exact q
 |cont=>exact q
def Pg(h1:PS X st t):Gd X [st] t:=by
 intro pins s σ H D I h;refine wpAny_execs_cons<|thn (h1 pins s σ H D I h) λf s1 q=>?_;cases f with
 |next=>exact wpAny_execs_nil q
 |ret v=>exact q
 |brk=>exact q
 |cont=>exact q
def Inv.quiet(I:Inv X pins σ H s):interactive X.env=false:=by simp[interactive,I.ok.kind]
def Il(te:TE):TS:=λD σ H=>te σ H λ_ H1=>D.nx σ H1
def Wh(he:PE X e te)(hs:swapsWith e none pos.line X.env=pure false:=by rfl):PS X (.Expr e pos) (Il te):=by
 intro pins s σ H D I h;exact wpAny_Expr_any (thn (he pins s σ H _ I h) λv s1 ⟨x,H1,I1,r1,q1⟩=>⟨σ,H1,I1,q1⟩) I.quiet hs
def Ae(te:TE):TS:=λD σ H=>te σ H D.rt
def CU(he:PE X e te):PS X (.Return (some e) pos) (Ae te):=by
 intro pins s σ H D I h;exact wpAny_Return_some<|thn (he pins s σ H _ I h) λv s1 ⟨x,H1,I1,r1,q1⟩=>⟨x,σ,H1,I1,r1,q1⟩
def DK(c:TT)(t u:TS):TS:=λD σ H=>c σ H λb H1=>if b=true then t D σ H1 else u D σ H1
def ML(hc:PT X c tc)(ha:Gd X a t)(hb:Gd X b u):PS X (.If c a b pos) (DK tc t u):=by
 intro pins s σ H D I h;refine wpAny_If<|thn (hc pins s σ H _ I h) λd s1 ⟨H1,I1,q1⟩=>?_;cases d with
 |true=>exact ha pins s1 σ H1 D I1 q1
 |false=>exact hb pins s1 σ H1 D I1 q1
end
abbrev TG:=V->St->Hp->(St->Hp->Prop)->Prop
abbrev Cn:=List V->St->Hp->(St->Hp->Prop)->Prop
def PG(X:Cx)(target:Expr)(t:TG):Prop:=
 ∀(pins:List (Addr×Obj)) (s:Shared) (σ:St) (H:Hp) (v:V) (u:Value) (Q:St->Hp->Prop),Inv X pins σ H s->RelV v u->t v σ H Q->
  wpAny (model X.prog X.w) X.A (assign target X.env u) (λ_ s'=>∃σ' H',Inv X pins σ' H' s'/\Q σ' H') X.xe s
def Hj(X:Cx)(ts:List Expr)(t:Cn):Prop:=
 ∀(pins:List (Addr×Obj)) (s:Shared) (σ:St) (H:Hp) (vs:List V) (us:List Value) (Q:St->Hp->Prop),Inv X pins σ H s->zG vs us->t vs σ H Q->
  wpAny (model X.prog X.w) X.A (assignInOrder ((assignEach ts X.env).map (·.2)) us) (λ_ s'=>∃σ' H',Inv X pins σ' H' s'/\Q σ' H') X.xe s
abbrev Jh:=V->V->V->Hp->(Hp->Prop)->Prop
def IR(X:Cx)(t:Jh):Prop:=
 ∀(pins:List (Addr×Obj)) (s:Shared) (σ:St) (H:Hp) (o i v:V) (ov iv u:Value) (Q:Hp->Prop),Inv X pins σ H s->RelV o ov->RelV i iv->RelV v u->t o i v H Q->
  wpAny (model X.prog X.w) X.A (setItem ov iv u) (λ_ s'=>∃H',Inv X pins σ H' s'/\Q H') X.xe s
abbrev Du:=V->V->Hp->VK->Prop
def D9(X:Cx)(op:Operator)(t:Du):Prop:=
 ∀(pins:List (Addr×Obj)) (s:Shared) (σ:St) (H:Hp) (x y:V) (v u:Value) (Q:VK),Inv X pins σ H s->RelV x v->RelV y u->t x y H Q->
  wpAny (model X.prog X.w) X.A (inplaceOp op v u) (EP X pins σ Q) X.xe s
section
variable{X:Cx}{pos:Pos}
def LP(i:Nat):TG:=λv σ H Q=>Q (σ.set i<|some v) H
def Bj(hN:X.N.Nodup)(hi:X.N[i]? = some x)(hx:Loc X.env.scope x)(hf:X.fn x=true\/X.env.scope.names.lookup x=some .local:=by first|exact .inl rfl|exact .inr rfl|assumption):PG X (.Name x pos) (LP i):=by
 intro pins s σ H v u Q I r h;exact wpAny_assign_Name<|Yj I hN hi hx r (λs' I'=>⟨_,H,I',h⟩) hf
def Au:Cn:=λvs σ H Q=>vs=[]/\Q σ H
def Jv(t:TG)(u:Cn):Cn:=λvs σ H Q=>∃v r,vs=v::r/\t v σ H λσ' H'=>u r σ' H' Q
def Br:Hj X [] Au:=by
 intro pins s σ H vs us Q I r h;obtain⟨e,h⟩:=h;subst e;cases r;exact assignInOrder_nil ⟨σ,H,I,h⟩
def Fg(h1:PG X e t)(h2:Hj X es u)
 (hs:(assignEach (e::es) X.env).map (·.2)=assign e X.env::(assignEach es X.env).map (·.2):=by rfl):Hj X (e::es) (Jv t u):=by
 intro pins s σ H vs us Q I r h;obtain⟨v,vr,e1,h⟩:=h;subst e1;cases r with
 |cons r rr=>
  rw[hs];refine assignInOrder_cons<|thn (h1 pins s σ H _ _ _ I r h) λ_ s1 ⟨σ1,H1,I1,q1⟩=>?_;exact h2 pins s1 σ1 H1 _ _ Q I1 rr q1
def AH(K:zzA)(n:Nat)(t:Cn):TG:=λv σ H Q=>∃a xs,v = .ref a/\VZ K H a xs/\xs.length=n/\t xs σ H Q
def Ou(hc:X.calm=true)(h:Hj X es t)
 (hn:(assignEach es X.env).length=n:=by rfl) (hst:(assignEach es X.env).findIdx? (·.1)=none:=by rfl):PG X (.Tuple es k pos) (AH X.K n t):=by
 intro pins s σ H v u Q I r hw;obtain⟨a,xs,e1,hq,hl,hw⟩:=hw;subst e1;cases r;obtain⟨its,rv,ht,hz⟩:=I.tuple hq;refine assign_Tuple_tuple (I.ok.hd hc) ht (by simp[hn,<-hl,rv.length]) hst λh' hx=>?_;have I1:=I.kept (t':=s.toks) λb o e=>hx b o (zzQ<|zxH e) e;exact h pins _ σ H xs _ Q I1 (by simpa using rv) hw
def Ac(to ti:TE)(t:Jh):TG:=λv σ H Q=>to σ H λo H1=>ti σ H1 λi H2=>t o i v H2 λH3=>Q σ H3
def Cd(ho:PE X o to)(hi:PE X i ti)(hs:IR X t)
 (ha:∀v,assign (.Subscript o i pos) X.env v=(do
  let ov <-holding [v] (eval o X.env);let iv <-holding [v,ov] (eval i X.env)
  standAt pos
  holding [v,ov,iv] (setItem ov iv v)
  release [v,ov,iv] []):=by intro _;rfl):PG X (.Subscript o i pos) (Ac to ti t):=by
 intro pins s σ H v u Q I r h;rw[ha];refine zxE<|zxL<|thn (ho pins s σ H _ I h) λov s1 ⟨x,H1,I1,r1,q1⟩=>?_;refine zxE<|zxL<|thn (hi pins s1 σ H1 _ I1 q1) λiv s2 ⟨y,H2,I2,r2,q2⟩=>?_;refine zxE<|wpAny_standAt<|zxE<|zxL<|thn (hs pins s2 σ H2 x y v ov iv u _ I2 r1 r2 r q2) λ_ s3 ⟨H3,I3,q3⟩=>?_;exact wpAny_release ⟨σ,H3,I3,q3⟩
def CB(te:TE)(g:TG):TS:=λD σ H=>te σ H λx H1=>g x σ H1 D.nx
def MT(he:PE X e te)(hg:PG X tg g)(hs:swapsWithSole [tg] e pos.line X.env=pure false:=by rfl)(hw:swappedStores [tg] e X.env=pure none:=by rfl)
 (h1:(assignEach [tg] X.env).map (·.2)=[assign tg X.env]:=by rfl):PS X (.Assign [tg] e pos) (CB te g):=by
 intro pins s σ H D I h;refine wpAny_Assign_stores (thn (he pins s σ H _ I h) λv s1 ⟨x,H1,I1,r1,q1⟩=>?_) hs hw;rw[h1];exact thn (hg pins s1 σ H1 x v _ I1 r1 q1) λ_ s2 q=>q
def FB(hN:X.N.Nodup)(hi:X.N[i]? = some x)(hx:Loc X.env.scope x)(he:PE X e te)(hs:swapsWith e (some<|.Name x pos') pos.line X.env=pure false:=by rfl)(hf:X.fn x=true\/X.env.scope.names.lookup x=some .local:=by first|exact .inl rfl|exact .inr rfl|assumption):
 PS X (.Assign [.Name x pos'] e pos) (CB te<|LP i):=by
 intro pins s σ H D I h;refine wpAny_Assign_Name (thn (he pins s σ H _ I h) λv s1 ⟨y,H1,I1,r1,q1⟩=>?_) hs;exact Yj I1 hN hi hx r1 (λs2 I2=>⟨_,H1,I2,q1⟩) hf
def A1(i j:Nat)(ta:TA):TS:=λD σ H=>ta σ H λvs H1=>∃v w,vs=[v,w]/\D.nx ((σ.set i<|some v).set j<|some w) H1
def Ce(hc:X.calm=true)(hN:X.N.Nodup)(hi:X.N[i]? = some x)(hj:X.N[j]? = some y)(hij:i≠j)
 (hx:X.env.scope.names.lookup x=some .local) (hy:X.env.scope.names.lookup y=some .local) (ha:PA X [a,b] ta)
 (hw:swappedStores [.Tuple [.Name x px,.Name y py] kt pt] (.Tuple [a,b] k2 pt2) X.env=pure (some [x,y]))
 (hs:swapsWithSole [.Tuple [.Name x px,.Name y py] kt pt] (.Tuple [a,b] k2 pt2) pos.line X.env=pure false:=by rfl):
 PS X (.Assign [.Tuple [.Name x px,.Name y py] kt pt] (.Tuple [a,b] k2 pt2) pos) (A1 i j ta):=by
 intro pins s σ H D I h;rw[exec_Assign_arm];refine zxE<|wpAny_standAt ?_;rw[hs];refine zxE<|zxF ?_;rw[if_neg<|by decide];refine zxE<|Tuple_<|thn (ha _ pins s σ H _ I h) λus s1 ⟨vs,H1,I1,r1,q1⟩=>?_;obtain⟨v,w,e1,q1⟩:=q1;subst e1;obtain⟨u1,u2,rfl,rv,rw'⟩:∃u1 u2,us=[u1,u2]/\RelV v u1/\RelV w u2:=by
  cases r1 with
  |cons p q=>
   cases q with
   |cons p' q'=>
    cases q';exact⟨_,_,rfl,p,p'⟩
 refine zxJ ?_ (by show 2<=sizeLine;decide);have I2:Inv X pins σ H1 {s1 with heap:=s1.heap.push {cls:=.type "tuple",data:=.seq [u1,u2].toArray}}:=I1.kept (t':=s1.toks) λb o e=>zxG _ e;rw[hw];refine zxE<|zxF ?_;refine zxE<|wpAny_rule<|zxE<|unpackItems_tuple (items:=#[u1,u2]) (I.ok.hd hc) (IsTup.new s1.heap _) λh' hx'=>?_;have I3:=I2.kept (h':=h') (t':=s1.toks) λb o e=>hx' b o (zzQ<|zxH e) e;refine zxE<|assignInOrder_cons<|wpAny_bindName<|Yj I3 hN hj (.inl hy) rw' (λs2 I4=>?_)<|.inr hy;refine assignInOrder_cons<|wpAny_bindName<|Yj I4 hN hi (.inl hx) rv (λs3 I5=>assignInOrder_nil<|zxF ?_)<|.inr hx;rw[List.set_comm _ _<|Ne.symm hij]at I5;exact⟨_,H1,I5,q1⟩
def Dc(i:Nat)(te:TE)(ti:Du):TS:=λD σ H=>∃x,σ[i]? = some (some x)/\te σ H λy H1=>ti x y H1 λz H2=>D.nx (σ.set i<|some z) H2
def CP(hN:X.N.Nodup)(hi:X.N[i]? = some x)(hx:Loc X.env.scope x)(he:PE X e te)(ho:D9 X op ti)(hf:X.fn x=true\/X.env.scope.names.lookup x=some .local:=by first|exact .inl rfl|exact .inr rfl|assumption):
 PS X (.AugAssign (.Name x pos') op e pos) (Dc i te ti):=by
 intro pins s σ H D I h;obtain⟨v,e1,h⟩:=h;obtain⟨m,hn,hl⟩:=I.loc;have vis:Ja X.env.scope x:=by rcases hx with k|k;exact .inl k;exact .inr<|.inl k
 obtain⟨u,r,l⟩:=hl i x v hi e1 vis;refine wpAny_AugAssign_Name ?_;have go:wpAny (model X.prog X.w) X.A (eval e X.env) (λw s₂=>wpAny (model X.prog X.w) X.A (inplaceOp op u w) (λr s₃=>wpAny (model X.prog X.w) X.A (storeName X.env x r) (λ_=>SP X pins D .next) X.xe s₃) X.xe s₂) X.xe s:=by
  refine thn (he pins s σ H _ I h) λw s1 ⟨y,H1,I1,r1,q1⟩=>?_;refine thn (ho pins s1 σ H1 v y u w _ I1 r r1 q1) λz s2 ⟨zv,H2,I2,r2,q2⟩=>?_;exact Yj I2 hN hi hx r2 (λs3 I3=>⟨_,H2,I3,q2⟩) hf
 rcases l with⟨hk,hm⟩|⟨hk,c,hc,hcell⟩
 . exact wpAny_loadName_local I.ok.kind hk hn hm go
 . rcases hk with hk|hk
   . exact wpAny_loadName_cell I.ok.kind hk hc hcell go
   . rcases hx with k|k
     . have:X.env.scope.names.lookup x=some .free:=hk;rw[k]at this;cases this
     . have:X.env.scope.names.lookup x=some .free:=hk;rw[k]at this;cases this
def uA(f:Int->Int->Int):Du:=λx y H Q=>∃i j,x = .int i/\y = .int j/\Q (.int<|f i j) H
def CW:D9 X .Add (uA λi j=>i+j):=by
 intro pins s σ H x y v u Q I r1 r2 h;obtain⟨i,j,e1,e2,q⟩:=h;subst e1;subst e2;obtain⟨t,rfl⟩:=r1;obtain⟨t',rfl⟩:=r2;exact iadd_int ⟨.int _,H,I.tok _,⟨_,rfl⟩,q⟩
end
section
variable{X:Cx}{pos:Pos}
def Oa(c:TT)(tb:TS):TS:=λD σ H=>∃W:Nat->St->Hp->Prop,(∃m,W m σ H)/\∀m σ H,W m σ H->
 c σ H λb H1=>if b=true then ∃N:St->Hp->Prop,(∀σ' H',N σ' H'->∃m',m'<m/\W m' σ' H')/\tb {D with nx:=N,ct:=N,bk:=D.nx} σ H1 else D.nx σ H1
def Ey(hp:PassesOwn (model X.prog X.w) X.A X.env X.xe)(hc:PT X c tc)(hb:Gd X body tb):PS X (.While c body [] pos) (Oa tc tb):=by
 intro pins s σ H D I h;obtain⟨W,⟨m0,w0⟩,turn⟩:=h;refine wpAny_While<|codeAny_whileLoop (λn s'=>∃σ' H',Inv X pins σ' H' s'/\W n σ' H') ?_ m0 ⟨σ,H,I,w0⟩
 rintro n s1 ⟨σ1,H1,I1,w1⟩
 refine wpAny_passesOwn hp<|thn (hc pins s1 σ1 H1 _ I1<|turn n σ1 H1 w1) λb s2 ⟨H2,I2,q2⟩=>?_;cases b with
 |true=>
  obtain⟨N,hN,q2⟩:=q2;rw[if_pos rfl];refine wpAny_passesOwn hp<|thn (hb pins s2 σ1 H2 _ I2 q2) λf s3 q3=>?_;cases f with
  |next=>
   obtain⟨σ3,H3,I3,n3⟩:=q3;obtain⟨m',hm,w3⟩:=hN σ3 H3 n3;exact⟨m',hm,σ3,H3,I3,w3⟩
  |cont=>
   obtain⟨σ3,H3,I3,n3⟩:=q3;obtain⟨m',hm,w3⟩:=hN σ3 H3 n3;exact⟨m',hm,σ3,H3,I3,w3⟩
  |brk=>exact q3
  |ret v=>exact q3
 |false=>
  rw[if_neg zyU];exact wpAny_execs_nil ⟨σ1,H2,I2,q2⟩
end
structure It where
 go:Nat->Hp->Prop
 yld:Nat->Hp->V->Hp->Prop
 stop:Nat->Hp->Prop
def Uv(X:Cx)(pins:List (Addr×Obj))(H:Hp)(b:Addr):Prop:=
 H b=none/\b≠X.env.locals/\b ∉ X.fs/\(b ∈ X.ex\/X.s₀.heap.objs.size<=b)/\(∀x c,X.env.cells.lookup x=some c->c≠b)/\∀p ∈ X.pn++pins,p.1≠b
def Inv.fpOk(I:Inv X pins σ H s)(hb:s.heap.objs.size<=b)(hn:H' b=none):Uv X pins H' b:=by
 refine⟨hn,Nat.ne_of_gt<|zzK I.lt hb,I.nofs hb,.inr<|zzO I.sz hb,λx c e z=>?_,λp hp z=>?_⟩
 . obtain⟨v,q⟩:=I.cell x c e;exact absurd (zzK q.lt<|by rw[z];exact hb)<|Nat.lt_irrefl _
 . exact absurd (zzK (zxH (I.pin p hp).1)<|by rw[z];exact hb)<|Nat.lt_irrefl _
structure Turn(P:Program)(w:World)(K:zzA)(tg:Expr)(J:It)(fp:List Addr)(it:Addr)(tn:Nat->Heap->Prop):Prop where
 mem:it ∈ fp
 obj:∀i h,tn i h->∀b ∈ fp,∃o,h.get? b=some o/\∀v,o.data ≠ .cell v
 keep:∀i h h',tn i h->(∀b ∈ fp,∀o,h.get? b=some o->h'.get? b=some o)->tn i h'
 item:∀(X:Cx),X.prog=P->X.w=w->X.K=K->X.calm=true->∀(i:Nat) (pins:List (Addr×Obj)) (s:Shared) (σ:St) (H:Hp) (E:Value->Shared->Prop),Inv X pins σ H s->(∀b ∈ fp,Uv X pins H b)->tn i s.heap->J.go i H->
  wpAny (model P w) X.A (pyNext<|.ref it) (λr s1=>∃u,r=some u/\
   wpAny (model P w) X.A (letOwnedTupleGo tg (.ref it) u) (λ_ s2=>∃x H',Inv X pins σ H' s2/\RelV x u/\J.yld i H x H'/\tn (i+1) s2.heap/\∀b ∈ fp,H' b=none) E s1) E s
 done:∀(X:Cx),X.prog=P->X.w=w->X.K=K->X.calm=true->∀(i:Nat) (pins:List (Addr×Obj)) (s:Shared) (σ:St) (H:Hp) (E:Value->Shared->Prop),Inv X pins σ H s->(∀b ∈ fp,Uv X pins H b)->tn i s.heap->J.stop i H->
  wpAny (model P w) X.A (pyNext<|.ref it) (λr s1=>r=none/\Inv X pins σ H s1) E s
 self:∀(A:Around) (i:Nat) (s:Shared) (Q:Value->Shared->Prop) (E:Value->Shared->Prop),tn i s.heap->Q (.ref it) s->wpAny (model P w) A (pyIter<|.ref it) Q E s
abbrev TI:=St->Hp->(It->Hp->Prop)->Prop
def ue(X:Cx)(pins:List (Addr×Obj))(σ:St)(tg:Expr)(R:It->Hp->Prop)(itv:Value)(s2:Shared):Prop:=
 ∃(it:Addr) (fp:List Addr) (tn:Nat->Heap->Prop) (J:It) (H':Hp),itv = .ref it/\Inv X pins σ H' s2/\Turn X.prog X.w X.K tg J fp it tn/\tn 0 s2.heap/\(∀b ∈ fp,Uv X pins H' b)/\R J H'
def PI(X:Cx)(tg iter:Expr)(wi:TI):Prop:=
 ∀(pins:List (Addr×Obj)) (s:Shared) (σ:St) (H:Hp) (R:It->Hp->Prop),Inv X pins σ H s->wi σ H R->
  wpAny (model X.prog X.w) X.A (eval iter X.env) (λv s1=>wpAny (model X.prog X.w) X.A (pyIter v) (ue X pins σ tg R) X.xe s1) X.xe s
def Fi(ho:s.heap.get? it=some o)(hc:o.cls = .type n)(hd:o.data = .fields vs)
 (hn : ["enumerate","zip","dict_itemiterator","dict_reverseitemiterator","odict_iterator","itertools.zip_longest","itertools.pairwise"].contains n=false) (hQ:Q () s):wpAny M A (letOwnedTupleGo tg (.ref it) u) Q E s:=by
 unfold letOwnedTupleGo;cases tg<;>first
  |exact zxF hQ
  |(cases u<;>first
   |exact zxF hQ
   | (refine zxE (wpAny_load ho ?_)
      rw[hc,hd];show wpAny M A (if _=true then _ else _) Q E s;rw[if_neg (by intro h;rw[hn,Bool.false_and]at h;cases h)];exact zxF hQ))
def J1(K:zzA)(a:Addr):It:=
 ⟨λi H=>∃xs x,Qn K H a xs/\xs[i]? = some x,λi H x H'=>H'=H/\∀xs,Qn K H a xs->xs[i]? = some x,λi H=>∃xs,Qn K H a xs/\xs.length<=i⟩
def J6(K:zzA)(a:Addr):It:=
 ⟨λi H=>∃xs x,VZ K H a xs/\xs[i]? = some x,λi H x H'=>H'=H/\∀xs,VZ K H a xs->xs[i]? = some x,λi H=>∃xs,VZ K H a xs/\xs.length<=i⟩
def Ig(lo:Int)(n:Nat):It:=⟨λi _=>i<n,λi H x H'=>H'=H/\x = .int (lo+i),λi _=>n<=i⟩
def Ma{P w K tg}(a it):Turn P w K tg (J1 K a) [it] it (λi h=>h.IsListIter it a i)where
 mem:=by simp
 obj:=λi h st b hb=>by
  have e:b=it:=by simpa using hb
  subst e;obtain⟨o,e,c,d⟩:=st;exact⟨o,e,λv z=>by rw[d]at z;cases z⟩
 keep:=λi h h' st k=>st.at λo e=>k it (by simp) o e
 item:=by
  intro X hP hw hK hc i pins s σ H E I hf st hg;subst hP hw hK;obtain⟨xs,x,hq,hx⟩:=hg;obtain⟨its,rv,p,hz⟩:=I.list hq;obtain⟨u,hu,ru⟩:=rv.get hx;obtain⟨f0,f1,f2,f3,f4,f5⟩:=hf it (by simp);refine wpAny_pyNext_list_item st p.isList (by simpa using hu) λh' st' sb=>?_;have I1:=I.turned (t':=s.toks) (λb o hb e=>(sb.2 b hb).trans e) f0 f1 f3 f4 f5;obtain⟨o,e,c,d⟩:=id st';exact⟨u,rfl,Fi e c d (by decide) ⟨x,H,I1,ru,⟨rfl,λys hy=>by rw[I.list_inj hy hq];exact hx⟩,st',λb hb=>(hf b hb).1⟩⟩
 done:=by
  intro X hP hw hK hc i pins s σ H E I hf st hg;subst hP hw hK;obtain⟨xs,hq,hx⟩:=hg;obtain⟨its,rv,p,hz⟩:=I.list hq;obtain⟨f0,f1,f2,f3,f4,f5⟩:=hf it (by simp);have hl:=rv.length;exact wpAny_pyNext_list_end (I.ok.hd hc) st p.isList (by simp;omega) λh' eb=>⟨rfl,I.turned (t':=s.toks) (λb o hb e=>eb b o hb e) f0 f1 f3 f4 f5⟩
 self:=λ_ _ _ _ _ st h=>wpAny_pyIter_listiter st h
def Kp{P w K tg}(a it):Turn P w K tg (J6 K a) [it] it (λi h=>h.IsTupleIter it a i)where
 mem:=by simp
 obj:=λi h st b hb=>by
  have e:b=it:=by simpa using hb
  subst e;obtain⟨o,e,c,d⟩:=st;exact⟨o,e,λv z=>by rw[d]at z;cases z⟩
 keep:=λi h h' st k=>st.at λo e=>k it (by simp) o e
 item:=by
  intro X hP hw hK hc i pins s σ H E I hf st hg;subst hP hw hK;obtain⟨xs,x,hq,hx⟩:=hg;obtain⟨its,rv,p,hz⟩:=I.tuple hq;obtain⟨u,hu,ru⟩:=rv.get hx;obtain⟨f0,f1,f2,f3,f4,f5⟩:=hf it (by simp);refine wpAny_pyNext_tuple_item st (p) (x:=u) (by simpa using hu) λh' st' sb=>?_;have I1:=I.turned (t':=s.toks) (λb o hb e=>(sb.2 b hb).trans e) f0 f1 f3 f4 f5;obtain⟨o,e,c,d⟩:=id st';exact⟨u,rfl,Fi e c d (by decide) ⟨x,H,I1,ru,⟨rfl,λys hy=>by rw[I.tuple_inj hy hq];exact hx⟩,st',λb hb=>(hf b hb).1⟩⟩
 done:=by
  intro X hP hw hK hc i pins s σ H E I hf st hg;subst hP hw hK;obtain⟨xs,hq,hx⟩:=hg;obtain⟨its,rv,p,hz⟩:=I.tuple hq;obtain⟨f0,f1,f2,f3,f4,f5⟩:=hf it (by simp);have hl:=rv.length;exact wpAny_pyNext_tuple_end (I.ok.hd hc) st (p) (by simp;omega) λh' eb=>⟨rfl,I.turned (t':=s.toks) (λb o hb e=>eb b o hb e) f0 f1 f3 f4 f5⟩
 self:=λ_ _ _ _ _ st h=>wpAny_pyIter_tupleiter st h
def KW{P w K tg}(it)(lo)(n:Nat):Turn P w K tg (Ig lo n) [it] it (λi h=>IsRangeIter h it (lo+(i:Nat)*1) ((n:Int)-(i:Nat)) 1)where
 mem:=by simp
 obj:=λi h st b hb=>by
  have e:b=it:=by simpa using hb
  subst e;exact⟨_,st,λv z=>by
   have z':Data.fields _=Data.cell v:=z;cases z'⟩
 keep:=λi h h' st k=>k it (by simp) _ st
 item:=by
  intro X hP hw hK hc i pins s σ H E I hf st hg;subst hP hw hK;obtain⟨f0,f1,f2,f3,f4,f5⟩:=hf it (by simp);have W:=Walks.range (prog:=X.prog) (w:=X.w) (I.ok.hd hc) it lo 1 n;refine W.item i s _ _ hg st λv h' tk hv st' kk=>?_;obtain⟨t,rfl⟩:=hv;have I1:Inv X pins σ H {s with heap:=h',toks:=tk}:=I.turned (λb o hb e=>kk b o (by simpa using hb) e) f0 f1 f3 f4 f5;refine⟨_,rfl,Fi st' rfl rfl (by decide) ⟨.int<|lo+i,H,I1,⟨t, ?_⟩,⟨rfl,rfl⟩,st',λb hb=>(hf b hb).1⟩⟩;rw[Int.mul_one]
 done:=by
  intro X hP hw hK hc i pins s σ H E I hf st hg;subst hP hw hK;obtain⟨f0,f1,f2,f3,f4,f5⟩:=hf it (by simp);exact wpAny_pyNext_range_end (I.ok.hd hc) st (by have:n<=i:=hg;omega) λh' eb=>⟨rfl,I.turned (t':=s.toks) (λb o hb e=>eb b o hb e) f0 f1 f3 f4 f5⟩
 self:=λ_ _ _ _ _ st h=>wpAny_pyIter_rangeiter st h
end L2
namespace L2
open PySem PySem.Spec PyProof.Rows
section
variable{X:Cx}{tg:Expr}
def Jr(K:zzA)(tl:TE):TI:=λσ H R=>tl σ H λx H1=>∃a,x = .ref a/\(∃xs,Qn K H1 a xs)/\R (J1 K a) H1
def Av(K:zzA)(tl:TE):TI:=λσ H R=>tl σ H λx H1=>∃a,x = .ref a/\(∃xs,VZ K H1 a xs)/\R (J6 K a) H1
def PZ{l tl}(hl:PE X l tl):PI X tg l (Jr X.K tl):=by
 intro pins s σ H R I h;refine thn (hl pins s σ H _ I h) λv s1 ⟨x,H1,I1,r1,q1⟩=>?_;obtain⟨a,e,⟨xs,hq⟩,q⟩:=q1;subst e;cases r1;obtain⟨its,rv,p,hz⟩:=I1.list hq;refine wpAny_pyIter_list p.isList ?_;refine⟨s1.heap.objs.size,[s1.heap.objs.size],_,_,H1,rfl,I1.kept (t':=s1.toks) λb o e=>zxG _ e,Ma a _,⟨_,zxI _ rfl,rfl,rfl⟩,λb hb=>?_,q⟩;have e:b=s1.heap.objs.size:=by simpa using hb
 subst e;exact I1.fpOk (zzN _)<|I1.hok.fresh<|zzN _
def Kx{l tl}(hl:PE X l tl):PI X tg l (Av X.K tl):=by
 intro pins s σ H R I h;refine thn (hl pins s σ H _ I h) λv s1 ⟨x,H1,I1,r1,q1⟩=>?_;obtain⟨a,e,⟨xs,hq⟩,q⟩:=q1;subst e;cases r1;obtain⟨its,rv,p,hz⟩:=I1.tuple hq;refine wpAny_pyIter_tuple (p) ?_;refine⟨s1.heap.objs.size,[s1.heap.objs.size],_,_,H1,rfl,I1.kept (t':=s1.toks) λb o e=>zxG _ e,Kp a _,⟨_,zxI _ rfl,rfl,rfl⟩,λb hb=>?_,q⟩;have e:b=s1.heap.objs.size:=by simpa using hb
 subst e;exact I1.fpOk (zzN _)<|I1.hok.fresh<|zzN _
def Gb{pins σ H s R E lo hi t u v}{tk:Nat}(I:Inv X pins σ H s)(h1 : -(2 ^ 62)<=lo)(h2:lo<2 ^ 62)(h3 : -(2 ^ 62)<=hi)(h4:hi<2 ^ 62)
 (q:R (Ig lo (hi-lo).toNat) H):wpAny (model X.prog X.w) X.A (pyIter<|.ref s.heap.objs.size) (ue X pins σ tg R) E {s with heap:=s.heap.push {cls:=.type "range",data:=.fields #[.int lo t,.int hi u,.int 1 v]},toks:=tk}:=by
 refine wpAny_pyIter_range (IsRange.new ..) (small_one h1 h2 h3 h4) ?_;have I1:Inv X pins σ H {s with heap:=s.heap.push {cls:=.type "range",data:=.fields #[.int lo t,.int hi u,.int 1 v]},toks:=tk}:=I.kept λb o e=>zxG _ e;refine⟨(s.heap.push {cls:=.type "range",data:=.fields #[.int lo t,.int hi u,.int 1 v]}).objs.size,[(s.heap.push {cls:=.type "range",data:=.fields #[.int lo t,.int hi u,.int 1 v]}).objs.size],_,_,H,rfl,
  I1.kept (t':=tk) λb o e=>zxG _ e,KW _ lo (hi-lo).toNat, ?_,λb hb=>?_,q⟩
 . have e1:lo+((0:Nat):Int)*1=lo:=by simp
   have e2:(((hi-lo).toNat:Nat):Int)-((0:Nat):Int)=Builtin.Range.rangeSize lo hi 1:=by rw[rangeSize_one];split<;>omega
   rw[e1,e2];exact zxI _ rfl
 . have e:b=(s.heap.push {cls:=.type "range",data:=.fields #[.int lo t,.int hi u,.int 1 v]}).objs.size:=by simpa using hb
   subst e;exact I1.fpOk (zzN _)<|I1.hok.fresh<|zzN _
def I0(ta:TA):TI:=λσ H R=>ta σ H λvs H1=>∃j:Int,vs=[.int j] /\ -(2 ^ 62)<=j/\j<2 ^ 62/\R (Ig 0 j.toNat) H1
def Iy(ta:TA):TI:=λσ H R=>ta σ H λvs H1=>∃i j:Int,vs=[.int i,.int j]/\(-(2 ^ 62)<=i/\i<2 ^ 62 /\ -(2 ^ 62)<=j/\j<2 ^ 62)/\R (Ig i (j-i).toNat) H1
def Re{a ta p pos}(hg:Gl X "range")(hm:X.mg "range"=none)(ha:PA X [a] ta)(hs:starEach [a] X.env=[(false,eval a X.env)]:=by rfl):PI X tg (.Call (.Name "range" p) [a] [] pos) (I0 ta):=by
 intro pins s σ H R I h;refine Call_<|Za I hg hm boot_range<|PyProof.Rows.callWith_type1 (thn (ha pos pins s σ H _ I h) λus s1 ⟨vs,H1,I1,r1,q1⟩=>?_) hs rfl;obtain⟨j,e,q1,q2,q⟩:=q1;subst e;cases r1 with
 |cons r rr=>
  cases rr;obtain⟨t,rfl⟩:=r;exact call_range_1 (Gb I1 (by omega) (by omega) q1 q2<|by simpa using q)
def NQ(hg:Gl X "range")(hm:X.mg "range"=none)(ha:PA X [a,b] ta)(hs:starEach [a,b] X.env=[(false,eval a X.env),(false,eval b X.env)]:=by rfl)(hs2:starEach [b] X.env=[(false,eval b X.env)]:=by rfl):
 PI X tg (.Call (.Name "range" p) [a,b] [] pos) (Iy ta):=by
 intro pins s σ H R I h;refine Call_ (Za I hg hm boot_range<|PyProof.Rows.callWith_type1 (thn (ha pos pins s σ H _ I h) λus s1 ⟨vs,H1,I1,r1,q1⟩=>?_) (by rw[hs,hs2])<|by rw[hs2];rfl);obtain⟨i,j,e,⟨q1,q2,q3,q4⟩,q⟩:=q1;subst e;cases r1 with
 |cons r rr=>
  cases rr with
  |cons r' rr=>
   cases rr;obtain⟨t,rfl⟩:=r;obtain⟨t',rfl⟩:=r';exact call_range_2<|Gb I1 q1 q2 q3 q4 q
def Dq(wi:TI)(g:TG)(tb:TS):TS:=λD σ H=>wi σ H λJ H1=>∃W:Nat->Nat->St->Hp->Prop,(∃m,W 0 m σ H1)/\∀i m σ H,W i m σ H->
 (J.stop i H/\D.nx σ H)\/(J.go i H/\∃N:St->Hp->Prop,(∀σ' H',N σ' H'->∃m',m'<m/\W (i+1) m' σ' H')/\∀x H',J.yld i H x H'->g x σ H' λσ2 H2=>tb {D with nx:=N,ct:=N,bk:=D.nx} σ2 H2)
def Kz(fp:List Addr)(h:Heap):List (Addr×Obj):=fp.filterMap λb=>(h.get? b).map λo=>(b,o)
def ZK(hb:b ∈ fp)(e:h.get? b=some o):(b,o) ∈ Kz fp h:=List.mem_filterMap.mpr ⟨b,hb,by rw[e];rfl⟩
def N4(hp:p ∈ Kz fp h):p.1 ∈ fp/\h.get? p.1=some p.2:=by
 obtain⟨b,hb,e⟩:=List.mem_filterMap.mp hp;cases q:h.get? b with
 |none=>rw[q]at e;cases e
 |some o=>
  rw[q]at e;have e':(b,o)=p:=zzY e;subst e';exact⟨hb,q⟩
def Inv.pinned(I:Inv X pins σ H s)(hf:∀b ∈ fp,Uv X pins H b)(ho:∀b ∈ fp,∃o,s.heap.get? b=some o/\∀v,o.data ≠ .cell v):Inv X (pins++Kz fp s.heap) σ H s:=
 I.pins_of λp hp=>(zzM.mp hp).elim (λz=>I.pin p<|zzL _ z) λz=>by
  obtain⟨hb,e⟩:=N4 z;obtain⟨f0,f1,f2,_⟩:=hf p.1 hb;obtain⟨o,e',d⟩:=ho p.1 hb;rw[e]at e';cases e';exact⟨e,f0,f1,f2,d⟩
def Inv.unpinned(I:Inv X (pins++pl) σ H s):Inv X pins σ H s:=I.pins_of λp hp=>I.pin p<|zzL _<|zzP _ hp
def GS(hp:PassesOwn (model X.prog X.w) X.A X.env X.xe)(hc:X.calm=true)(hi:PI X tg iter wi)(hg:PG X tg g)(hb:Gd X body tb)
 (hs:∀x,foldedSetIterable iter X.env x=pure x:=by intro _;rfl):PS X (.For tg iter body [] pos) (Dq wi g tb):=by
 intro pins s σ H D I h;refine wpAny_For (thn (hi pins s σ H _ I h) λv s1 h1=>thn h1 λitv s2 h2=>?_) hs;obtain⟨it,fp,tn,J,H2,e,I2,T,st2,f2,W,⟨m0,w0⟩,turn⟩:=h2;subst e;have stat:∀{H':Hp},(∀b ∈ fp,H' b=none)->∀b ∈ fp,Uv X pins H' b:=λhn b hb=>⟨hn b hb,(f2 b hb).2⟩;refine codeAny_forLoop_any (λn s'=>∃i σ' H',Inv X pins σ' H' s'/\tn i s'.heap/\(∀b ∈ fp,H' b=none)/\W i n σ' H') ?_ m0 ⟨0,σ,H2,I2,st2,λb hb=>(f2 b hb).1,w0⟩
 rintro n s3 ⟨i,σ3,H3,I3,st3,fr3,w3⟩
 rcases turn i n σ3 H3 w3 with⟨stop,qn⟩|⟨go,N,hN,step⟩
 . refine wpAny_passesOwn hp<|thn (T.done X rfl rfl rfl hc i pins s3 σ3 H3 X.xe I3 (stat fr3) st3 stop) λr s4 ⟨hr,I4⟩=>?_;subst hr;exact wpAny_execs_nil ⟨σ3,H3,I4,qn⟩
 . refine wpAny_passesOwn hp<|thn (T.item X rfl rfl rfl hc i pins s3 σ3 H3 X.xe I3 (stat fr3) st3 go) λr s4 ⟨u,hr,h4⟩=>?_;subst hr;refine wpAny_passesOwn hp<|thn h4 λ_ s5 ⟨x,H5,I5,r5,y5,st5,fr5⟩=>?_;have I5':=I5.pinned (stat fr5)<|T.obj _ _ st5;refine wpAny_passesOwn hp<|thn (hg _ s5 σ3 H5 x u _ I5' r5<|step x H5 y5) λ_ s6 ⟨σ6,H6,I6,q6⟩=>?_;refine wpAny_passesOwn hp<|thn (hb _ s6 σ6 H6 _ I6 q6) λf s7 q7=>?_;have again:∀{σ7:St}{H7:Hp},Inv X _ σ7 H7 s7->N σ7 H7->∃m,m<n/\∃i σ' H',Inv X pins σ' H' s7/\tn i s7.heap/\(∀b ∈ fp,H' b=none)/\W i m σ' H':=λ{σ7 H7} I7 n7=>by
    obtain⟨m',hm,w7⟩:=hN σ7 H7 n7;refine⟨m',hm,i+1,σ7,H7,I7.unpinned,T.keep _ _ _ st5 λb hb o e=>(I7.pin (b,o)<|zzL _<|zzL _<|ZK hb e).1,λb hb=>?_,w7⟩;obtain⟨o,e,d⟩:=T.obj _ _ st5 b hb;exact(I7.pin (b,o)<|zzL _<|zzL _<|ZK hb e).2.1
   cases f with
   |next=>obtain⟨σ7,H7,I7,n7⟩:=q7;exact again I7 n7
   |cont=>obtain⟨σ7,H7,I7,n7⟩:=q7;exact again I7 n7
   |brk=>obtain⟨σ7,H7,I7,q7⟩:=q7;exact⟨σ7,H7,I7.unpinned,q7⟩
   |ret v=>obtain⟨x7,σ7,H7,I7,r7,q7⟩:=q7;exact⟨x7,σ7,H7,I7.unpinned,r7,q7⟩
end
end L2
namespace L2
open PySem PySem.Spec PyProof.Rows
abbrev R2:=V->V->Hp->VK->Prop
def XU(X:Cx)(f:Value->Value->Sem Value)(r:R2):Prop:=
 ∀(pins:List (Addr×Obj)) (s:Shared) (σ:St) (H:Hp) (x y:V) (v u:Value) (Q:VK),Inv X pins σ H s->RelV x v->RelV y u->r x y H Q->
  wpAny (model X.prog X.w) X.A (f v u) (EP X pins σ Q) X.xe s
def WM(X:Cx)(f:Value)(r:List V->Hp->VK->Prop):Prop:=
 ∀(pins:List (Addr×Obj)) (s:Shared) (σ:St) (H:Hp) (xs:List V) (us:List Value) (Q:VK),Inv X pins σ H s->zG xs us->r xs H Q->
  wpAny (model X.prog X.w) X.A (call f us) (EP X pins σ Q) X.xe s
def Al(X:Cx)(r:V->Hp->(Bool->Hp->Prop)->Prop):Prop:=
 ∀(pins:List (Addr×Obj)) (s:Shared) (σ:St) (H:Hp) (x:V) (v:Value) (Q:Bool->Hp->Prop),Inv X pins σ H s->RelV x v->r x H Q->
  wpAny (model X.prog X.w) X.A (truthy v) (TP X pins σ Q) X.xe s
def JI(r:R2)(ta tb:TE):TE:=λσ H Q=>ta σ H λx H1=>tb σ H1 λy H2=>r x y H2 Q
def rI(C:Int->Int->Prop)(g:Int->Int->V):R2:=λx y H Q=>∃i j,x = .int i/\y = .int j/\C i j/\Q (g i j) H
def Hc(g:Int->Int->V):R2:=λx y H Q=>∃i j,x = .int i/\y = .int j/\Q (g i j) H
section
variable{X:Cx}{a b c:Expr}{ta tb tc:TE}{pos:Pos}
def OH(ha:PE X a ta)(hb:PE X b tb){pins s σ H}{R:V->V->Hp->Prop}(I:Inv X pins σ H s)
 (h:ta σ H λx H1=>tb σ H1 λy H2=>R x y H2) {Q:Value->Shared->Prop}{f:Value->Value->Sem Value}
 (hf:∀v u s2 x y H2,Inv X pins σ H2 s2->RelV x v->RelV y u->R x y H2->wpAny (model X.prog X.w) X.A (f v u) Q X.xe s2):
 wpAny (model X.prog X.w) X.A (eval a X.env) (λv s₁=>wpAny (model X.prog X.w) X.A (eval b X.env) (λu s₂=>wpAny (model X.prog X.w) X.A (f v u) Q X.xe s₂) X.xe s₁) X.xe s:=by
 refine thn (ha pins s σ H _ I h) λv s1 ⟨x,H1,I1,r1,q1⟩=>?_;refine thn (hb pins s1 σ H1 _ I1 q1) λu s2 ⟨y,H2,I2,r2,q2⟩=>?_;exact hf v u s2 x y H2 I2 r1 r2 q2
def JU{op}{r:R2}(ho:XU X (binaryOp op) r)(ha:PE X a ta)(hb:PE X b tb):PE X (.BinOp a op b pos) (JI r ta tb):=by
 intro pins s σ H Q I h;exact wpAny_BinOp<|OH ha hb I h λv u s2 x y H2 I2 rx ry q=>ho pins s2 σ H2 x y v u Q I2 rx ry q
def As{f C}{g:Int->Int->Int}
 (rule:∀(i j:Int) (t u:Tok) (s:Shared) (Q:Value->Shared->Prop) (E:Value->Shared->Prop),C i j->Q (.int (g i j) s.toks) {s with toks:=s.toks+1}->wpAny (model X.prog X.w) X.A (f (.int i t)<|.int j u) Q E s):
 XU X f (rI C λi j=>.int<|g i j):=by
 intro pins s σ H x y v u Q I rx ry h;obtain⟨i,j,rfl,rfl,hc,q⟩:=h;obtain⟨t,rfl⟩:=rx;obtain⟨t',rfl⟩:=ry;exact rule i j t t' s _ _ hc ⟨.int<|g i j,H,I.tok _,⟨_,rfl⟩,q⟩
def IM{f}{g:Int->Int->Int}
 (rule:∀(i j:Int) (t u:Tok) (s:Shared) (Q:Value->Shared->Prop) (E:Value->Shared->Prop),Q (.int (g i j) s.toks) {s with toks:=s.toks+1}->wpAny (model X.prog X.w) X.A (f (.int i t)<|.int j u) Q E s):
 XU X f (Hc λi j=>.int<|g i j):=by
 intro pins s σ H x y v u Q I rx ry h;obtain⟨i,j,rfl,rfl,q⟩:=h;obtain⟨t,rfl⟩:=rx;obtain⟨t',rfl⟩:=ry;exact rule i j t t' s _ _ ⟨.int<|g i j,H,I.tok _,⟨_,rfl⟩,q⟩
def Bk{f}{g:Int->Int->Bool}
 (rule:∀(i j:Int) (t u:Tok) (s:Shared) (Q:Value->Shared->Prop) (E:Value->Shared->Prop),Q (.bool<|g i j) s->wpAny (model X.prog X.w) X.A (f (.int i t)<|.int j u) Q E s):
 XU X f (Hc λi j=>.bl<|g i j):=by
 intro pins s σ H x y v u Q I rx ry h;obtain⟨i,j,rfl,rfl,q⟩:=h;obtain⟨t,rfl⟩:=rx;obtain⟨t',rfl⟩:=ry;exact rule i j t t' s _ _ ⟨.bl<|g i j,H,I,rfl,q⟩
def IC(i j:Int):Prop:=0<=j/\j<=1000000/\i.natAbs<2 ^ 64
def C6:XU X (binaryOp .Add) (Hc λi j=>.int<|i+j):=IM λ_ _ _ _ _ _ _ q=>add_int q
def HW:XU X (binaryOp .Sub) (Hc λi j=>.int<|i-j):=IM λ_ _ _ _ _ _ _ q=>sub_int q
def O_:XU X (binaryOp .Mod) (rI (λ_ j=>0<j) λi j=>.int<|i%j):=As λi j _ _ _ _ _ hc q=>by
 have h1:=hc;exact mod_int' (by omega) (by rw[Int.fmod_eq_emod_of_nonneg i<|by omega];exact q)
def Oc:XU X (binaryOp .Pow) (rI IC λi j=>.int<|i ^ j.toNat):=As λ_ _ _ _ _ _ _ hc q=>pow_int_small hc.1 hc.2.1 hc.2.2 q
def Cf:XU X (binaryOp .LShift) (rI IC λi j=>.int<|i*2 ^ j.toNat):=As λ_ _ _ _ _ _ _ hc q=>lshift_int_small hc.1 hc.2.1 hc.2.2 q
end
section
variable{X:Cx}{a b c:Expr}{ta tb tc:TE}{pos:Pos}
def yO(I:Inv X pins σ H s)(q:Q (.bl k) H)(e:k=k'):EP X pins σ Q (.bool k') s:=by
 subst e;exact⟨.bl k,H,I,rfl,q⟩
def IH:XU X (compareOp .Lt) (Hc λi j=>.bl<|decide (i<j)):=Bk λ_ _ _ _ _ _ _ q=>lt_int q
def IX:XU X (compareOp .LtE) (Hc λi j=>.bl<|decide (i<=j)):=Bk λ_ _ _ _ _ _ _ q=>le_int q
def JE:XU X (compareOp .Gt) (Hc λi j=>.bl<|decide (j<i)):=Bk λ_ _ _ _ _ _ _ q=>gt_int q
def IS:XU X (compareOp .GtE) (Hc λi j=>.bl<|decide (j<=i)):=Bk λ_ _ _ _ _ _ _ q=>ge_int q
def N0:XU X (compareOp .In) (λx y H Q=>∃i j,x = .str i/\y = .str j/\Q (.bl<|!(Builtin.Str.occurrences j i 0 j.length 1).isEmpty) H):=by
 intro pins s σ H x y v u Q I rx ry h;obtain⟨i,j,rfl,rfl,q⟩:=h;obtain⟨t,rfl⟩:=rx;obtain⟨t',rfl⟩:=ry;exact in_str<|yO I q rfl
def O7:XU X (compareOp .Is) (λx y H Q=>y = .non/\Q (.bl<|decide (x = .non)) H):=by
 intro pins s σ H x y v u Q I rx ry h;obtain⟨rfl,q⟩:=h;cases ry;refine is_none_gen<|yO I q ?_;cases x<;>first
  |(cases rx;rfl)
  |(obtain⟨t,rfl⟩:=rx;rfl)
def Bq:XU X (compareOp .IsNot) (λx y H Q=>y = .non/\Q (.bl<|!decide (x = .non)) H):=by
 intro pins s σ H x y v u Q I rx ry h;obtain⟨rfl,q⟩:=h;cases ry;refine isnot_none_gen<|yO I q ?_;cases x<;>first
  |(cases rx;rfl)
  |(obtain⟨t,rfl⟩:=rx;rfl)
def P4:XU X (compareOp .NotIn) (λx y H Q=>∃i j,x = .str i/\y = .str j/\Q (.bl<|!(!(Builtin.Str.occurrences j i 0 j.length 1).isEmpty)) H):=by
 intro pins s σ H x y v u Q I rx ry h;obtain⟨i,j,rfl,rfl,q⟩:=h;obtain⟨t,rfl⟩:=rx;obtain⟨t',rfl⟩:=ry;exact notIn_str<|yO I q rfl
def GW(b)(h:op ≠ .In:=by decide)(h2:op ≠ .NotIn:=by decide):behindInMarks op b=false:=by
 have e1:(op==CmpOp.In)=false:=by cases op<;>first|rfl|exact absurd rfl h
 have e2:(op==CmpOp.NotIn)=false:=by cases op<;>first|rfl|exact absurd rfl h2
 cases b<;>simp[behindInMarks,e1,e2]
def Bw{op}{r:R2}(ho:XU X (compareOp op) r)(ha:PE X a ta)(hb:PE X b tb)(hm:behindInMarks op b=false):PE X (.Compare a [op] [b] pos) (JI r ta tb):=by
 intro pins s σ H Q I h;exact wpAny_Compare1 (OH ha hb I h λv u s2 x y H2 I2 rx ry q=>ho pins s2 σ H2 x y v u Q I2 rx ry q) hm
def Ht(t:TE):TT:=λσ H Q=>t σ H λx H'=>∃k,x = .bl k/\Q k H'
def Lz(ho:XU X (compareOp op) r)(ha:PE X a ta)(hb:PE X b tb)(hm:behindInMarks op b=false):PT X (.Compare a [op] [b] pos) (Ht<|JI r ta tb):=by
 intro pins s σ H Q I h;refine wpAny_isTrue_Compare1 (thn (ha pins s σ H _ I h) λv s1 ⟨x,H1,I1,r1,q1⟩=>thn (hb pins s1 σ H1 _ I1 q1) λu s2 ⟨y,H2,I2,r2,q2⟩=>
  thn (ho pins s2 σ H2 x y v u _ I2 r1 r2 q2) λc s3 ⟨z,H3,I3,r3,k,e,q3⟩=>?_) hm
 subst e;cases r3;exact wpAny_truthy_bool ⟨H3,I3,q3⟩
def Ky(r r':R2)(ta tb tc:TE):TE:=λσ H Q=>ta σ H λx H1=>tb σ H1 λy H2=>r x y H2 λz H3=>∃k,z = .bl k/\
 (if k=true then tc σ H3 λw' H4=>r' y w' H4 Q else Q (.bl false) H3)
def Ea(ho:XU X (compareOp op) r)(ho':XU X (compareOp op') r')(ha:PE X a ta)(hb:PE X b tb)(hc:PE X c tc)
 (hm:lastMarks [op,op'] [b,c]=false:=by with_unfolding_all rfl):PE X (.Compare a [op,op'] [b,c] pos) (Ky r r' ta tb tc):=by
 intro pins s σ H Q I h;refine Compare_chain (thn (ha pins s σ H _ I h) λv s1 ⟨x,H1,I1,r1,q1⟩=>chain_link<|thn (hb pins s1 σ H1 _ I1 q1) λu s2 ⟨y,H2,I2,r2,q2⟩=>
  thn (ho pins s2 σ H2 x y v u _ I2 r1 r2 q2) λd s3 ⟨z,H3,I3,r3,k,e,q3⟩=>?_) hm
 subst e;cases r3;refine wpAny_truthy_bool ?_;cases k with
 |false=>exact ite_ff ⟨.bl false,H3,I3,rfl,q3⟩
 |true=>exact ite_tt (chain_last<|thn (hc pins s3 σ H3 _ I3 q3) λw' s4 ⟨z',H4,I4,r4,q4⟩=>ho' pins s4 σ H4 y z' u w' Q I4 r2 r4 q4)
def M6(ho:XU X (compareOp op) r)(ho':XU X (compareOp op') r')(ha:PE X a ta)(hb:PE X b tb)(hc:PE X c tc)
 (hm:lastMarks [op,op'] [b,c]=false:=by with_unfolding_all rfl):PT X (.Compare a [op,op'] [b,c] pos) (Ht<|Ky r r' ta tb tc):=by
 intro pins s σ H Q I h;refine isTrue_chain (thn (ha pins s σ H _ I h) λv s1 ⟨x,H1,I1,r1,q1⟩=>test_link<|thn (hb pins s1 σ H1 _ I1 q1) λu s2 ⟨y,H2,I2,r2,q2⟩=>
  thn (ho pins s2 σ H2 x y v u _ I2 r1 r2 q2) λd s3 ⟨z,H3,I3,r3,k,e,q3⟩=>?_) hm
 subst e;cases r3;refine wpAny_truthy_bool ?_;cases k with
 |false=>
  obtain⟨k',e',q'⟩:=q3;cases e';exact ite_ff ⟨H3,I3,q'⟩
 |true=>
  refine ite_tt<|test_last<|thn (hc pins s3 σ H3 _ I3 q3) λw' s4 ⟨z',H4,I4,r4,q4⟩=>thn (ho' pins s4 σ H4 y z' u w' _ I4 r2 r4 q4) λd' s5 ⟨z2,H5,I5,r5,k2,e2,q5⟩=>?_;subst e2;cases r5;exact wpAny_truthy_bool ⟨H5,I5,q5⟩
def C3(K:zzA)(x:V)(H:Hp)(k:Bool):Prop:=
 match x with
 | .non=>k=false
 | .bl b=>k=b
 | .int i=>k=(i != 0)
 | .str y=>y.length<=sizeLine/\k=((y.length:Int) != 0)
 | .byt y=>y.size<=sizeLine/\k=((y.size:Int) != 0)
 | .ref p=>(∃xs,Qn K H p xs/\k = !xs.isEmpty)\/(∃xs,VZ K H p xs/\k = !xs.isEmpty)\/∃kvs,H p=some (.dK kvs)/\k = !kvs.isEmpty
 |_=>False
def GZ(r:KV kvs vs):(!vs.isEmpty) = !kvs.isEmpty:=by
 cases r<;>rfl
def UH(r:zG xs its):(!its.toArray.isEmpty) = !xs.isEmpty:=by
 cases r<;>simp
def XQ:(sizeLine:Nat)<2 ^ 63:=by rw[sizeLine_eq];decide
def Cc:Al X (λx H Q=>∃k,C3 X.K x H k/\Q k H):=by
 intro pins s σ H x v Q I rx h;obtain⟨k,e,q⟩:=h;have hl:=XQ;have hs:=sizeLine_eq;cases x with
 |non=>
  cases rx;have e':k=false:=e;subst e';exact truthy_none ⟨H,I,q⟩
 |bl b=>
  cases rx;have e':k=b:=e;subst e';exact wpAny_truthy_bool ⟨H,I,q⟩
 |int i=>
  obtain⟨t,rfl⟩:=rx;have e':k=(i != 0):=e;subst e';exact PySem.P.truthy_int ⟨H,I,q⟩
 |str y=>
  obtain⟨t,rfl⟩:=rx;obtain⟨hy,e'⟩:y.length<=sizeLine/\k=_:=e;subst e';exact PySem.P.truthy_str (by omega) ⟨H,I.tok _,q⟩
 |byt y=>
  obtain⟨t,rfl⟩:=rx;obtain⟨hy,e'⟩:y.size<=sizeLine/\k=_:=e;subst e';exact W.truthy_bytes (by omega) ⟨H,I.tok _,q⟩
 |ref p=>
  cases rx;have e':_\/_\/∃kvs,H p=some (.dK kvs)/\k = !kvs.isEmpty:=e
  rcases e' with⟨xs,hx,e'⟩|⟨xs,hx,e'⟩|⟨kvs,hx,e'⟩
  . subst e';obtain⟨its,r,pl,hz⟩:=I.list hx;have hlen:=r.length;exact wpAny_truthy_list pl.isList (by simp only[zzH];omega) ⟨H,I.tok _,by rw[UH r];exact q⟩
  . subst e';obtain⟨its,r,pl,hz⟩:=I.tuple hx;have hlen:=r.length;exact truthy_tuple pl (by simp only[zzH];omega) ⟨H,I.tok _,by rw[UH r];exact q⟩
  . subst e';obtain⟨hz,hS,vs,r,m⟩:kvs.length<=sizeLine/\_=false/\∃vs,KV kvs vs/\s.heap.DictOf _ p vs:=I.hok p _ hx;have hlen:=Paired.length r;exact wpAny_truthy_dict hS m (by omega) ⟨H,I.tok _,by rw[GZ r];exact q⟩
 |_=>exact(e).elim
def MX(ha:PE X a ta)(he:∀whole,isTrue a X.env whole=(do let v <-whole;standAt a.pos;holding [v] (truthy v))):
 PT X a (λσ H Q=>ta σ H λx H'=>∃k,C3 X.K x H' k/\Q k H'):=by
 intro pins s σ H Q I h;exact isTrue_plain (thn (ha pins s σ H _ I h) λv s1 ⟨x,H1,I1,r1,q1⟩=>Cc pins s1 σ H1 x v Q I1 r1 q1)<|he _
def K0:XU X (binaryOp .Add) (λx y H Q=>∃i j,x = .str i/\y = .str j/\i.length+j.length<=sizeLine/\Q (.str<|i++j) H):=by
 intro pins s σ H x y v u Q I rx ry h;obtain⟨i,j,rfl,rfl,hz,q⟩:=h;obtain⟨t,rfl⟩:=rx;obtain⟨t',rfl⟩:=ry;exact add_str (λt' tk=>⟨.str<|i++j,H,I.tok _,⟨_,rfl⟩,q⟩) hz
def vals1(r:zG [x] us):∃u,us=[u]/\RelV x u:=by
 cases r with
 |cons r1 r2=>cases r2;exact⟨_,rfl,r1⟩
def vals2(r:zG [x,y] us):∃u w',us=[u,w']/\RelV x u/\RelV y w':=by
 cases r with
 |cons r1 r2=>
  cases r2 with
  |cons r3 r4=>cases r4;exact⟨_,_,rfl,r1,r3⟩
def Md(hc:X.calm=true):WM X (.builtin "max") (λxs H Q=>∃i j,xs=[.int i,.int j]/\Q (.int (if j > i then j else i)) H):=by
 intro pins s σ H xs us Q I r h;obtain⟨i,j,rfl,q⟩:=h;obtain⟨u,w',rfl,⟨t,rfl⟩,⟨t',rfl⟩⟩:=vals2 r;refine max_two_ints (I.ok.hd hc) λh' tk k=>⟨_,H,I.kept k, ?_,q⟩
 by_cases hj:j > i
 . rw[if_pos hj,if_pos hj];exact⟨_,rfl⟩
 . rw[if_neg hj,if_neg hj];exact⟨_,rfl⟩
def Ru:WM X (.type "int") (λxs H Q=>(∃i,xs=[.int i]/\Q (.int i) H)\/∃k,xs=[.bl k]/\Q (.int (if k then 1 else 0)) H):=by
 intro pins s σ H xs us Q I r h
 rcases h with⟨i,rfl,q⟩|⟨k,rfl,q⟩
 . obtain⟨u,rfl,t,rfl⟩:=vals1 r;exact call_int_int ⟨.int i,H,I,⟨_,rfl⟩,q⟩
 . obtain⟨u,rfl,r1⟩:=vals1 r;cases r1;exact call_int_bool ⟨.int _,H,I.tok _,⟨_,rfl⟩,q⟩
end
end L2
namespace L2
open PySem PySem.Spec PyProof.Rows
def UL.some_of(r:UL (some v) o):∃u,o=some u/\RelV v u:=by
 cases o with
 |none=>exact(r).elim
 |some u=>exact⟨u,rfl,r⟩
structure Cls(K:zzA)(C:Addr):Prop where
 pg:W.plainGet K C Str.empty=true
 hd:W.hasDictIn K C=true
 po:W.plainOver K C=true
 sa:W.findIn K (.ref C) "__setattr__"=some (some<|.builtin "object.__setattr__")
section
variable{X:Cx}{pins:List (Addr×Obj)}{σ:St}{H:Hp}{s:Shared}{A:Around}{E:Value->Shared->Prop}{Q:Value->Shared->Prop}{c:Value}{b:Bool}
inductive TyOf(K:zzA)(H:Hp):V->Value->Prop where
 |non:TyOf K H .non (.type "NoneType")
 |bl (x:Bool):TyOf K H (.bl x) (.type "bool")
 |int (i:Int):TyOf K H (.int i) (.type "int")
 |str (x:Str):TyOf K H (.str x) (.type "str")
 |flt (x:UInt64):TyOf K H (.flt x) (.type "float")
 |lst {a:Addr}{xs:List V}(e:H a=some (.lst xs)):TyOf K H (.ref a) (.type "list")
 |frz {a:Addr}{o:Obj}{xs:List V}(e:H a=some (.frz o (.lst xs))):TyOf K H (.ref a) (.type "list")
 |tup {a:Addr}{xs:List V}(e:H a=some (.tup xs)):TyOf K H (.ref a) (.type "tuple")
 |dK {a:Addr}{kvs:List (Key×V)}(e:H a=some (.dK kvs)):TyOf K H (.ref a) (.type "dict")
 |dT {a:Addr}{kvs:List (List Key×V)}(e:H a=some (.dT kvs)):TyOf K H (.ref a) (.type "dict")
 |ins {a C dx:Addr}{fs:List (Str×V)}(e:H a=some (.ins C dx fs)) (cl:Cls K C) (ha:W.findIn K (.ref C) "__class__"=some (some (.builtin "object.__class__")))
  (hn:W.specialIn K (.builtin "object.__class__") "__get__"=some (some<|.builtin "getset_descriptor.__get__")) (htk:W.takesIn K (.builtin "object.__class__")=some true)
  (hm:W.mroIn K C (.type "object")=some true):TyOf K H (.ref a) (.ref C)
end
end L2
namespace L2
open PySem PySem.Spec PyProof.Rows
structure Room(k:Nat)(A:Around):Prop where
 hd:A.handled=none
 dp:A.depth+3*k+5<recursionLimit
 un:A.units+16*k+200<cLine
 gd:A.guards=some []
def Room.mono(r:Room k A)(h:j<=k):Room j A:=⟨r.hd,by have:=r.dp;omega,by have:=r.un;omega,r.gd⟩
theorem Room.deeper(r:Room (k+1) A)(env):Room k (A.deeper env):=
 ⟨r.hd,by have:=r.dp;show A.depth+1+3*k+5<_;omega,by have:=r.un;show A.units+3+16*k+200<_;omega,r.gd⟩
theorem Room.depth(r:Room k A):A.depth<recursionLimit:=by have:=r.dp;omega
theorem Room.units(r:Room k A):A.units+64<cLine:=by have:=r.un;omega
def TL:TA:=λ_ H Q=>Q [] H
def HL(ta:TE)(tr:TA):TA:=λσ H Q=>ta σ H λx H1=>tr σ H1 λxs H2=>Q (x::xs) H2
section
variable{X:Cx}{e:Expr}{es:List Expr}{te:TE}{t:TA}{pos:Pos}
def Vq:PA X [] TL:=λ_ _ _ _ H Q I h=>Calls.spliced_nil ⟨[],H,I,.nil,h⟩
def wQ(ha:PE X e te)(hr:PA X es t)(hs:starEach (e::es) X.env=(false,eval e X.env)::starEach es X.env:=by rfl):PA X (e::es) (HL te t):=by
 intro pos pins s σ H Q I h;rw[hs];refine Calls.spliced_cons<|thn (ha pins s σ H _ I h) λu s1 ⟨x,H1,I1,r1,q1⟩=>?_;exact thn (hr pos pins s1 σ H1 _ I1 q1) λus s2 ⟨xs,H2,I2,r2,q2⟩=>⟨x::xs,H2,I2,.cons r1 r2,q2⟩
def Dz(t:TA):TE:=λσ H Q=>t σ H λxs H1=>xs.length<=sizeLine/\∀p,H1 p=none->Q (.ref p) (upd H1 p<|.tup xs)
def AQ(t:TA):TE:=λσ H Q=>t σ H λxs H1=>xs.length<=sizeLine/\∀p,H1 p=none->Q (.ref p) (upd H1 p<|.lst xs)
def Cg(h:PA X es t):PE X (.Tuple es x1 pos) (Dz t):=by
 intro pins s σ H Q I hq;refine wpAny_Tuple_spliced<|thn (h pos pins s σ H _ I hq) λus s1 ⟨xs,H1,I1,r,z,q⟩=>⟨by rw[<-r.length];exact z, ?_⟩;have hf:=I1.hok.fresh<|zzN _;refine⟨.ref s1.heap.objs.size,upd H1 s1.heap.objs.size _,I1.laid (t':=s1.toks) (λb u e=>zxG _ e) (zzN _) ?_,rfl,q _ hf⟩;exact⟨z,us,r,⟨_,zxI _ rfl,rfl,_,rfl⟩⟩
def OJ(h:PA X es t):PE X (.List es pos) (AQ t):=by
 intro pins s σ H Q I hq;refine wpAny_List_spliced<|thn (h pos pins s σ H _ I hq) λus s1 ⟨xs,H1,I1,r,z,q⟩=>⟨by rw[<-r.length];exact z, ?_⟩;have hf:=I1.hok.fresh<|zzN _;refine⟨.ref s1.heap.objs.size,upd H1 s1.heap.objs.size _,I1.laid (t':=s1.toks) (λb u e=>zxG _ e) (zzN _) ?_,rfl,q _ hf⟩;exact⟨z,us,0,r,zxI _ rfl⟩
end
abbrev Sp:=List V->Hp->VK->XK->Prop
abbrev Hi:=List Env->Hp->Shared->XK->Value->Shared->Prop
structure Env0(P:Program)(w:World)(K:zzA)(mg:Str->Option Value)(base:Heap)(A:Around)(outer:List Env)(s:Shared)(H:Hp):Prop where
 frames:A.frames=some outer
 mod:Mod K mg base
 bs:∀b o,base.get? b=some o->s.heap.get? b=some o/\H b=none
 bsz:base.objs.size<=s.heap.objs.size
 funs:s.heap.FunFrames base outer
 frf:∀b ∈ Lx outer,H b=none
 hok:Wi P w H s.heap
 bare:AllBare s.gens
def CE(outer:List Env)(P:Program)(w:World)(H:Hp)(s:Shared)(Q:VK)(u:Value)(s':Shared):Prop:=
 ∃v H',s'.os=s.os/\AllBare s'.gens/\Un (Lx outer) [] H H' s.heap s'.heap/\Wi P w H' s'.heap/\RelV v u/\Q v H'
def CR(CX:Hi)(outer:List Env)(P:Program)(w:World)(H:Hp)(s:Shared)(Q:VK)(E:XK)(r:Result)(s':Shared):Prop:=
 match r with
 | .ok (.ret u)=>CE outer P w H s Q u s'
 | .ok _=>False
 | .error e=>CX outer H s E e s'
structure FnOk(P:Program)(w:World)(K:zzA)(mg:Str->Option Value)(base:Heap)(CX:Hi)(k:Nat)(f:Addr)(fd:FuncData)(ps:List Str)(sp:Sp):Prop where
 len:∀vs H Q E,sp vs H Q E->vs.length=ps.length
 run:∀(A:Around) (outer:List Env) (s:Shared) (H:Hp) (args:Args) (us:List Value) (vs:List V) (Q:VK) (E:XK),Room k A->Env0 P w K mg base A outer s H->BindsTo s fd args (ps.zip us)->zG vs us->sp vs H Q E->
  codeAny (model P w) A (.call (.ref f) args) (CR CX outer P w H s Q E) s
def FnOk.imp{P w K mg base CX}{k:Nat}{f fd ps sp sp'}(F:FnOk P w K mg base CX k f fd ps sp)
 (h:∀vs H Q E,sp' vs H Q E->sp vs H Q E):FnOk P w K mg base CX k f fd ps sp':=
 ⟨λvs H Q E q=>F.len vs H Q E<|h _ _ _ _ q,λA outer s H args us vs Q E hr he hb hv hs=>F.run A outer s H args us vs Q E hr he hb hv<|h _ _ _ _ hs⟩
section
variable{X:Cx}{pins:List (Addr×Obj)}{σ:St}{H:Hp}{s s':Shared}
def Inv.env0(I:Inv X pins σ H s):Env0 X.prog X.w X.K X.mg X.base X.A X.stack s H:=
 ⟨I.ok.frames,I.ok.mod,I.bs,zzO I.ok.bsz I.sz,I.stack,I.stkFree,I.hok,I.bare⟩
def Inv.after(I:Inv X pins σ H s)(h:CE X.stack X.prog X.w H s Q u s'):EP X pins σ Q u s':=by
 obtain⟨v,H',os,bare,un,hok,r,q⟩:=h;obtain⟨hh,g,d,t,os'⟩:=s';obtain rfl:os'=s.os:=os;exact⟨v,H',I.call (h':=hh) (g':=g) (d':=d) (t':=t) un hok bare (λb z=>absurd z<|by simp),r,q⟩
end
def Ha(sp:Sp)(dvs:List V)(E:XK)(t:TA):TE:=λσ H Q=>t σ H λvs H1=>sp (vs++dvs) H1 Q E
def Binds(K:zzA)(fd:FuncData)(ps:List Str)(ds:List Value):Prop:=
 ∀(s:Shared) (us:List Value),K.In s.heap->(us++ds).length=ps.length->BindsTo s fd ⟨us,[]⟩ (ps.zip<|us++ds)
def Binds.all{K fd ps}(h:∀us:List Value,us.length=ps.length->bindArgs fd ⟨us,[]⟩=pure (ps.zip us)):Binds K fd ps []:=λs us _ hl=>by
 rw[zyD]at hl ⊢;exact .of_eq<|h us hl
def QL(CX:Hi)(X:Cx)(E:XK):Prop:=∀(pins:List (Addr×Obj)) (σ:St) (H:Hp) (s:Shared) (e:Value) (s':Shared),Inv X pins σ H s->CX X.stack H s E e s'->X.xe e s'
section
variable{X:Cx}{CX:Hi}{k:Nat}{f C:Addr}{fd:FuncData}{ps:List Str}{sp:Sp}{dvs:List V}{ds:List Value}{E:XK}{x m:Str}{p pos apos:Pos}{e o:Expr}{es:List Expr}{ta:TE}{t:TA}
def Ov(F:FnOk X.prog X.w X.K X.mg X.base CX k f fd ps sp)(hr:Room k X.A)(hb:Binds X.K fd ps ds)(hd:zG dvs ds)(hx:QL CX X E)
 (I:Inv X pins σ H s) (r:zG vs us) (h:sp (vs++dvs) H Q E):wpAny (model X.prog X.w) X.A (call (.ref f) us) (EP X pins σ Q) X.xe s:=by
 have r2:=r.append hd;have hl:(us++ds).length=ps.length:=by rw[<-r2.length];exact F.len _ _ _ _ h
 refine wpAny_call<|codeAny_mono (F.run X.A X.stack s H ⟨us,[]⟩ _ _ Q E hr I.env0 (hb s us I.kIn hl) r2 h) λr s' hq=>?_;cases r with
 |error e=>exact hx pins σ H s e s' I hq
 |ok fl=>
  cases fl with
  |ret u=>exact I.after hq
  |next=>exact False.elim hq
  |brk=>exact False.elim hq
  |cont=>exact False.elim hq
def Lr(F:FnOk X.prog X.w X.K X.mg X.base CX k f fd ps sp)(hr:Room k X.A)(hg:Gl X x)(hm:X.mg x=some (.ref f))(hk:W.keepIn X.K (.ref f)=true)(hb:Binds X.K fd ps ds)(hd:zG dvs ds)(hx:QL CX X E)
 (ha:PA X (e::es) t) (hdb:(x==("__debug__":Str))=false:=by decide) (he:starEach (e::es) X.env=(false,eval e X.env)::starEach es X.env:=by rfl) (hpl:(backTo pos<|starEach es X.env).any (·.1)=false:=by rfl):
 PE X (.Call (.Name x p) (e::es) [] pos) (Ha sp dvs E t):=by
 intro pins s σ H Q I h;refine wpAny_Call_Name_kw<|BW I hg hm ?_ hdb;refine W.callWith_K I.ok.mod.kin hk (thn (ha pos pins s σ H _ I h) λus s1 ⟨vs,H1,I1,r,q⟩=>⟨I1.kIn, ?_⟩) he hpl;exact Ov F hr hb hd hx I1 r q
end
section
variable{X:Cx}{CX:Hi}{k:Nat}{f C:Addr}{fd:FuncData}{ps ks:List Str}{sp:Sp}{E:XK}{x m:Str}{p pos apos kpos:Pos}{e o:Expr}{es:List Expr}{kws:List Keyword}{te ta:TE}{t tk:TA}{nm:Option Str}
variable{g:List Value->List Value->List Value}{gV:List V->List V->List V}
end
structure FnScope(N P:List Str)(sc:Scope):Prop where
 kind:sc.kind = .function
 co:sc.isCoroutine=false
 gen:sc.isGenerator=false
 nd:N.Nodup
 pre:N.take P.length=P
 par:∀x ∈ P,sc.names.lookup x=some .local\/sc.names.lookup x=some .cell
 nofree:∀y ∈ sc.names,y.2 ≠ .free
theorem U7{kindOf x}:∀{binds:List (Str×Value)}{m:Str->Option Value},(∀v,(x,v) ∉ binds)->bindL kindOf binds m x=m x
 | [],_,_=>rfl
 |(n,v)::r,m,h=>by
  unfold bindL;rw[U7 λw hw=>h w<|zzD _ hw]
  split
  . have:x≠n:=by rintro rfl;exact h v zzF
    simp[this]
  . rfl
theorem Rx{kindOf x}:∀{binds:List (Str×Value)}{m:Str->Option Value},(∀v,(x,v) ∉ binds)->bindC kindOf binds m x=m x
 | [],_,_=>rfl
 |(n,v)::r,m,h=>by
  unfold bindC;rw[Rx λw hw=>h w<|zzD _ hw]
  split
  . rfl
  . have:x≠n:=by rintro rfl;exact h v zzF
    simp[this]
theorem RC{kindOf x v}:∀{P:List Str}{vs:List Value}{i:Nat}{m:Str->Option Value},P.Nodup->P[i]? = some x->vs[i]? = some v->kindOf x=some .local->
 bindL kindOf (P.zip vs) m x=some v
 | [],_,_,_,_,h,_,_=>by simp at h
 |_::_,[],_,_,_,_,h,_=>by simp at h
 |p::P,w::vs,0,m,nd,h1,h2,hk=>by
  simp at h1 h2;subst h1;subst h2;show bindL kindOf (_::P.zip vs) m p=_;unfold bindL;rw[U7 λv hv=>(zzW.mp nd).1 (List.of_mem_zip hv).1,if_pos hk];simp
 |p::P,w::vs,i+1,m,nd,h1,h2,hk=>by
  unfold bindL;exact RC (zzW.mp nd).2 (by simpa using h1) (by simpa using h2) hk
theorem U4{kindOf x v}:∀{P:List Str}{vs:List Value}{i:Nat}{m:Str->Option Value},P.Nodup->P[i]? = some x->vs[i]? = some v->kindOf x≠some .local->
 bindC kindOf (P.zip vs) m x=some v
 | [],_,_,_,_,h,_,_=>by simp at h
 |_::_,[],_,_,_,_,h,_=>by simp at h
 |p::P,w::vs,0,m,nd,h1,h2,hk=>by
  simp at h1 h2;subst h1;subst h2;show bindC kindOf (_::P.zip vs) m p=_;unfold bindC;rw[Rx λv hv=>(zzW.mp nd).1 (List.of_mem_zip hv).1,if_neg hk];simp
 |p::P,w::vs,i+1,m,nd,h1,h2,hk=>by
  unfold bindC;exact U4 (zzW.mp nd).2 (by simpa using h1) (by simpa using h2) hk
def start(N:List Str)(vs:List V):St:=vs.map some++List.replicate (N.length-vs.length) none
def PQ(CX:Hi)(P:Program)(w:World)(K:zzA)(mg:Str->Option Value)(base:Heap)(N:List Str)(qual:Str)(scope:Scope)(f:Addr)(cd:Value)(A:Around)(outer:List Env)(s:Shared)(H:Hp)(E:XK):Cx where
 prog:=P
 w:=w
 K:=K
 mg:=mg
 base:=base
 A:=A.deeper (envOfC qual scope s.heap.objs.size f cd)
 N:=N
 s₀:=s
 H₀:=H
 env:=envOfC qual scope s.heap.objs.size f cd
 outer:=outer
 stack:=envOfC qual scope s.heap.objs.size f cd::outer
 ex:=[]
 calm:=true
 fn:=λ_=>true
 pn:=[]
 xe:=λe s'=>wpAny (model P w) (A.deeper<|envOfC qual scope s.heap.objs.size f cd) (leaving (envOfC qual scope s.heap.objs.size f cd) e) (λ_ s''=>CX outer H s E e s'') (λe' s''=>CX outer H s E e' s'') s'
def GD{sc:Scope}{n:Nat}{x}(h:sc.names.lookup x=some .cell):∃c,(cellsFrom n sc.names []).lookup x=some c:=by
 have q:=W.cellsFrom_some sc.names n []<|.inl h;exact Option.isSome_iff_exists.mp q
def NB{CX P w K mg base N ps qual scope f cd A outer s s1 H E us vs}
 (S:FnScope N ps scope) (hd:A.handled=none) (e0:Env0 P w K mg base A outer s H) (hl:vs.length=ps.length) (r:zG vs us)
 (x:InCallC s s.heap.objs.size (bindL (envOfC qual scope s.heap.objs.size f cd).kindOf (ps.zip us) λ_=>none) (cellsFrom (s.heap.objs.size+1) scope.names []) (bindC (envOfC qual scope s.heap.objs.size f cd).kindOf (ps.zip us) λ_=>none) s1):
 Inv (PQ CX P w K mg base N qual scope f cd A outer s H E) [] (start N vs) H s1:=by
 have hpl:ps.length<=N.length:=by have:=congrArg List.length S.pre;rw[zzS]at this;omega
 obtain⟨h1,tk,rfl,hk⟩:=x.done;have noA:∀b:Addr,b ∉ (PQ CX P w K mg base N qual scope f cd A outer s H E).ex:=λb z=>absurd (show b ∈ ([]:List Addr)from z) (by simp);refine⟨⟨e0.mod,S.kind,rfl,rfl,zzN _,λy z c h1 h2=>?_,λy hy=>?_,λy c _ h=>?_,λ_=>hd,Around.frames_deeper e0.frames,.inr ⟨rfl,rfl⟩,λb z=>absurd z<|noA b,e0.bs,e0.bsz,λb _ _=>noA b,λb z=>absurd z<|noA b,e0.funs,e0.frf⟩,
  rfl,e0.bare,Un.kept hk,⟨_,x.toInCall.ns,λi y v h1 h2 h3=>?_⟩,λy c h=>⟨_,x.cell y c h⟩,e0.hok.fresh<|zzN _,λy c h=>?_,λp hp=>absurd (show p ∈ ([]:List _)from hp) (by simp),e0.hok.kept hk, ?_⟩
 . exact name_of_addr x.apart (PySem.mem_of_lookup h1)<|PySem.mem_of_lookup h2
 . have hy:=hy
   rcases hy with hy|hy
   . exact GD hy
   . exact absurd rfl<|S.nofree _<|PySem.mem_of_lookup hy
 . exact Nat.le_of_lt<|x.above y c<|PySem.mem_of_lookup h
 . have hi:i<vs.length:=by
    unfold start at h2
    by_cases hi:i<vs.length
    . exact hi
    . rw[zyQ<|by simpa using hi]at h2;rw[List.getElem?_replicate]at h2
      split at h2<;>cases h2
   have ha:vs[i]? = some v:=by
    unfold start at h2;rw[zyO (by simpa using hi),zzI]at h2;cases e:vs[i]? with
    |none=>rw[e]at h2;cases h2
    |some a=>rw[e]at h2;cases h2;rfl
   obtain⟨u,hu,rv⟩:=r.get ha;have hp:ps[i]? = some y:=by
    rw[<-S.pre,List.getElem?_take_of_lt<|by omega];exact h1
   have ndP:ps.Nodup:=by rw[<-S.pre];exact S.nd.sublist<|List.take_sublist _ _
   refine⟨u,rv, ?_⟩
   rcases S.par y (zzZ hp)with k|k
   . exact .inl ⟨k,RC ndP hp hu k⟩
   . obtain⟨c,e⟩:=GD k;refine .inr ⟨.inl k,c,e, ?_⟩;have q:=x.cell y c e;rw[U4 ndP hp hu (by show scope.names.lookup y≠_;rw[k];decide)]at q;exact q
 . exact e0.hok.fresh<|Nat.le_of_lt<|x.above y c<|PySem.mem_of_lookup h
 . unfold start;show _=N.length;rw[zzJ,zzB,List.length_replicate];omega
def JM{CX P w K mg base}{k:Nat}{f name qual params body scope dV kV doc pm cdv ct oc an od}
 {osl N ps sp}(lk:K.lookup f=some ⟨oc,od,.func<|W.fnOf name qual params body scope dV kV doc pm an cdv ct,osl⟩) (hcd:W.codeIn K cdv qual=true) (S:FnScope N ps scope)
 (len:∀vs H Q E,sp vs H Q E->vs.length=ps.length)
 (hbody:∀(A:Around) (outer:List Env) (s:Shared) (H:Hp) (vs:List V) (Q:VK) (E:XK),Room k (A.deeper<|envOfC qual scope s.heap.objs.size f cdv)->sp vs H Q E->
  ∃t,Gd (PQ CX P w K mg base N qual scope f cdv A outer s H E) body t/\t {nx:=λ_ H'=>Q .non H',rt:=Q} (start N vs) H):
 FnOk P w K mg base CX (k+1) f (W.fnOf name qual params body scope dV kV doc pm an cdv ct) ps sp:=by
 refine⟨len,λA outer s H args us vs Q E hr e0 hb r hsp=>?_⟩;have hl:=len _ _ _ _ hsp;have KX:=e0.mod.kin.keeps λb o e=>(e0.bs b o e).1;have lim:=e0.mod.nolimit.keeps λb o e=>(e0.bs b o e).1;have hkind:∀y ∈ ps.zip us,scope.names.lookup y.1=some .local\/(scope.names.lookup y.1=some .cell/\((cellsFrom (s.heap.objs.size+1) scope.names []).lookup y.1).isSome=true):=λ⟨n,v⟩ hy=>by
  rcases S.par n (List.of_mem_zip hy).1 with q|q
  . exact .inl q
  . exact .inr ⟨q,W.cellsFrom_some _ _ _<|.inl q⟩
 refine codeAny_call_function hr.depth (KX _ _ lk) rfl S.co S.gen rfl (W.codeRec_of KX hcd)<|hb _ _ _ _ ?_;refine wpAny_newFunctionEnv_cells S.kind hkind λenv he s1 x=>?_;subst he;refine⟨lim.keeps x.toInCall.keep,codeAny_func ?_⟩;obtain⟨t,ht,hq⟩:=hbody A outer s H vs Q E (hr.deeper _) hsp;have I:Inv (PQ CX P w K mg base N qual scope f cdv A outer s H E) [] _ H s1:=NB S hr.hd e0 hl r x;refine zxR (ht [] s1 _ H _ I hq) (λfl s' hs=>?_) λe s' hs=>hs;have fin:∀{σ':St}{H':Hp}{v:V}{u:Value},Inv (PQ CX P w K mg base N qual scope f cdv A outer s H E) [] σ' H' s'->RelV v u->Q v H'->CE outer P w H s Q u s':=
  λ{σ' H' v u} J rv q=>⟨v,H',J.os,J.bare,J.base,J.hok,rv,q⟩
 cases fl with
 |ret u=>
  obtain⟨v,σ',H',J,rv,q⟩:=hs;exact fin J rv q
 |next=>
  obtain⟨σ',H',J,q⟩:=hs;exact fin (v:=V.non) J rfl q
 |brk=>
  obtain⟨_,_,_,q⟩:=hs;exact False.elim q
 |cont=>
  obtain⟨_,_,_,q⟩:=hs;exact False.elim q
end L2
namespace L2
open PySem PySem.Spec PyProof.Rows
section
variable{X:Cx}{x:Str}{p pos:Pos}{e:Expr}{es:List Expr}{t:TA}{id T:String}{r:List V->Hp->VK->Prop}
def ug(r:List V->Hp->VK->Prop)(t:TA):TE:=λσ H Q=>t σ H λvs H1=>r vs H1 Q
def GO(hc:WM X (.builtin id) r)(hg:Gl X x)(hm:X.mg x=none)(hv:bootBuiltins x=some (.builtin id))(ha:PA X (e::es) t)(hn:x≠"__name__":=by decide)(hdb:(x==("__debug__":Str))=false:=by decide)
 (he:starEach (e::es) X.env=(false,eval e X.env)::starEach es X.env:=by rfl) (hpl:(backTo pos<|starEach es X.env).any (·.1)=false:=by rfl):PE X (.Call (.Name x p) (e::es) [] pos) (ug r t):=by
 intro pins s σ H Q I h;refine wpAny_Call_Name_kw<|Za I hg hm hv ?_ hn hdb;exact PyProof.Rows.callWith_builtin1 (thn (ha pos pins s σ H _ I h) λus s1 ⟨vs,H1,I1,r1,q1⟩=>hc pins s1 σ H1 vs us Q I1 r1 q1) he hpl
def NL(hc:WM X (.type T) r)(hg:Gl X x)(hm:X.mg x=none)(hv:bootBuiltins x=some (.type T))(ha:PA X (e::es) t)(hn:x≠"__name__":=by decide)(hdb:(x==("__debug__":Str))=false:=by decide)
 (he:starEach (e::es) X.env=(false,eval e X.env)::starEach es X.env:=by rfl) (hpl:(backTo pos<|starEach es X.env).any (·.1)=false:=by rfl):PE X (.Call (.Name x p) (e::es) [] pos) (ug r t):=by
 intro pins s σ H Q I h;refine wpAny_Call_Name_kw<|Za I hg hm hv ?_ hn hdb;exact PyProof.Rows.callWith_type1 (thn (ha pos pins s σ H _ I h) λus s1 ⟨vs,H1,I1,r1,q1⟩=>hc pins s1 σ H1 vs us Q I1 r1 q1) he hpl
end
end L2
namespace L2
open PySem PySem.Spec PyProof.Rows
section
variable{κ:Type}[DecidableEq κ]
def vA(kvs:List (κ×V))(k:κ):Option V:=(kvs.find? λkv=>decide (kv.1=k)).map (·.2)
def putK(kvs:List (κ×V))(k:κ)(v:V):List (κ×V):=
 if(kvs.any λkv=>decide (kv.1=k))=true then kvs.map (λkv=>if kv.1=k then(kv.1,v)else kv)else kvs++[(k,v)]
def Ut{p r}{k:κ}(e:p.1=k):vA (p::r) k=some p.2:=by simp[vA,List.find?_cons,e]
def Uc{p r}{k:κ}(e:¬p.1=k):vA (p::r) k=vA r k:=by simp[vA,List.find?_cons,e]
theorem Gh(k:κ):∀kvs:List (κ×V),(kvs.any λkv=>decide (kv.1=k))=(vA kvs k).isSome
 | []=>rfl
 |p::r=>by
  rw[List.any_cons]
  by_cases e:p.1=k
  . simp only[Ut e,zyN e,Bool.true_or,Option.isSome_some]
  . rw[Uc e,zyF e,Bool.false_or];exact Gh k r
def Qa(kvs)(k:κ)(v):(putK kvs k v).length<=kvs.length+1:=by
 unfold putK
 split
 . rw[zzB];omega
 . rw[zzJ,zzT,List.length_nil];omega
def UL.isSome_eq(r:UL o u):o.isSome=u.isSome:=by
 cases o with
 |none=>cases u with
  |none=>rfl
  |some _=>exact(r).elim
 |some _=>cases u with
  |none=>exact(r).elim
  |some _=>rfl
def KV.val{kvs vs}(r:KV kvs vs)(k:κ):UL (vA kvs k) (valueAt vs k):=by
 unfold KV at r
 induction r with
 |nil=>exact True.intro
 | @cons p q ps qs h t ih=>
  obtain⟨h1,h2⟩:=h
  by_cases e:p.1=k
  . have e':q.1=k:=h1.symm.trans e;have b:valueAt (q::qs) k=some q.2:=by simp[valueAt,List.find?_cons,e']
    rw[Ut e,b];exact h2
  . have e':¬q.1=k:=λz=>e<|h1.trans z;have b:valueAt (q::qs) k=valueAt qs k:=by simp[valueAt,List.find?_cons,e']
    rw[Uc e,b];exact ih
theorem KV.any(r:KV kvs vs)(k:κ):(kvs.any λkv=>decide (kv.1=k))=vs.any λkv=>decide (kv.1=k):=by
 unfold KV at r
 induction r with
 |nil=>rfl
 |cons h t ih=>rw[List.any_cons,List.any_cons,ih,h.1]
def KV.repl(r:KV kvs vs)(k:κ)(ry:RelV y u):
 KV (kvs.map λkv=>if kv.1=k then(kv.1,y)else kv) (vs.map λkv=>if kv.1=k then(kv.1,u)else kv):=by
 unfold KV at r ⊢
 induction r with
 |nil=>exact .nil
 | @cons p q ps qs h t ih=>
  rw[zyR,zyR];refine .cons ?_ ih;obtain⟨h1,h2⟩:=h
  by_cases e:p.1=k
  . rw[if_pos e,if_pos<|h1.symm.trans e];exact⟨h1,ry⟩
  . rw[if_neg e,if_neg λz=>e<|h1.trans z];exact⟨h1,h2⟩
def KV.put(r:KV kvs vs)(k:κ)(ry:RelV y u):KV (putK kvs k y) (stored vs k u):=by
 unfold putK stored;rw[r.any k]
 by_cases e:(vs.any λkv=>decide (kv.1=k))=true
 . rw[if_pos e,if_pos e];exact r.repl k ry
 . rw[if_neg e,if_neg e];exact Paired.snoc r ⟨rfl,ry⟩
theorem KV.length(r:KV kvs vs):kvs.length=vs.length:=Paired.length r
end
def Qd(r:RelV (kV k) u):(yx P w).is k u=true:=by
 cases k with
 |inl i=>obtain⟨t,e⟩:=(r);subst e;exact Gx P w i t
 |inr x=>obtain⟨t,e⟩:=(r);subst e;exact Yh P w x t
theorem U2:∀{ks:List Key}{us:List Value},zG (ks.map kV) us->ItemsAre (yx P w) ks us
 | [],_,r=>by rw[List.map_nil]at r;cases r;exact .nil
 |k::ks,_,r=>by
  rw[zyR]at r;cases r with
  |cons h t=>exact .cons (Qd h) (U2 t)
abbrev KT(H:Hp):List (List Key×V)->List (List Key×Addr×Value)->Prop:=Paired λp q=>p.1=q.1/\H q.2.1=some (.tup<|p.1.map kV)/\RelV p.2 q.2.2
def KT.val{H kvs xs}(r:KT H kvs xs)(k:List Key):UL (vA kvs k) ((atKey xs k).map (·.2)):=by
 induction r with
 |nil=>exact True.intro
 | @cons p q ps qs h t ih=>
  obtain⟨h1,_,h2⟩:=h
  by_cases e:p.1=k
  . have e':q.1=k:=h1.symm.trans e;have b:atKey (q::qs) k=some q.2:=by simp[atKey,List.find?_cons,e']
    rw[Ut e,b];exact h2
  . have e':¬q.1=k:=λz=>e<|h1.trans z;have b:atKey (q::qs) k=atKey qs k:=by simp[atKey,List.find?_cons,e']
    rw[Uc e,b];exact ih
def KT.repl(r:KT H kvs xs)(k)(ry:RelV y u):
 KT H (kvs.map λkv=>if kv.1=k then(kv.1,y)else kv) (xs.map<|putAt k u):=by
 induction r with
 |nil=>exact .nil
 | @cons p q ps qs h t ih=>
  rw[zyR,zyR];refine .cons ?_ ih;obtain⟨h1,h2,h3⟩:=h;unfold putAt
  by_cases e:p.1=k
  . rw[if_pos e,if_pos<|h1.symm.trans e];exact⟨h1,h2,ry⟩
  . rw[if_neg e,if_neg λz=>e<|h1.trans z];exact⟨h1,h2,h3⟩
def KT.put(r:KT H kvs xs)(k)(hb:H b=some (.tup<|k.map kV))(ry:RelV y u):
 KT H (putK kvs k y) (storedH xs k b u):=by
 have e:(kvs.any λkv=>decide (kv.1=k))=(atKey xs k).isSome:=by
  rw[Gh,(r.val k).isSome_eq,Option.isSome_map]
 unfold putK storedH;rw[e]
 by_cases q:(atKey xs k).isSome=true
 . rw[if_pos q,if_pos q];exact r.repl k ry
 . rw[if_neg q,if_neg q];exact Paired.snoc r ⟨rfl,hb,ry⟩
def KT.keeps(r:KT H kvs xs)(ht:∀b ys,H b=some (.tup ys)->H' b=some (.tup ys)):KT H' kvs xs:=
 Paired.mapP r λ_ _ z=>⟨z.1,ht _ _ z.2.1,z.2.2⟩
section
variable{P:Program}{w:World}{H:Hp}{h:Heap}{a:Addr}
def Hn(ok:Wi P w H h)(e:Rd H a u):xf P w H h a u:=e.ok ok
def L_(ok:Wi P w H h)(e:Rd H a (.dK kvs)):kvs.length<=sizeLine/\(a==sysModules)=false/\∃vs,KV kvs vs/\h.DictOf (yx P w) a vs:=
 show xf P w H h a _ from Hn ok e
def Iw(ok:Wi P w H h)(e:H a=some (.dK kvs)):kvs.length<=sizeLine/\(a==sysModules)=false/\∃vs,KV kvs vs/\h.DictOf (yx P w) a vs:=L_ ok<|.inl e
def PD(ok:Wi P w H h)(e:H a=some (.tup<|ks.map kV)):(tupleKind<|yx P w).is h ks a:=by
 obtain⟨_,its,r,o,h1,h2,n,h3⟩:=(ok a _ e);exact⟨o,its.toArray,n,h1,h2,h3,by simpa using U2 r⟩
def MA(ok:Wi P w H h)(e:Rd H a (.dT kvs)):kvs.length<=sizeLine/\(a==sysModules)=false/\
 ∃xs,KT H kvs xs/\h.DictOfH (tupleKind<|yx P w) a xs:=by
 obtain⟨z,y,xs,r,o,es,ep,h1,h2,h3,h4,h5⟩:=(Hn ok e);refine⟨z,y,xs,r,o,es,ep,h1,h2,h3,h4,λx hx=>?_,h5⟩;have all:∀{l:List _}{m:List _},KT H l m->∀x ∈ m,(tupleKind<|yx P w).is h x.1 x.2.1:=by
  intro l m q
  induction q with
  |nil=>intro x hx;exact nomatch hx
  | @cons p q ps qs hq t ih=>
   intro x hx
   rcases zzC.mp hx with e|hx
   . subst e;exact PD ok (by rw[<-hq.1];exact hq.2.1)
   . exact ih x hx
 exact all r x hx
def Hm(ok:Wi P w H h)(e:H a=some (.dT kvs)):kvs.length<=sizeLine/\(a==sysModules)=false/\
 ∃xs,KT H kvs xs/\h.DictOfH (tupleKind<|yx P w) a xs:=MA ok<|.inl e
end
def Mf(H:Hp)(a:Addr)(y:V)(r:Option V):Prop:=
 (∃kvs k,Rd H a (.dK kvs)/\y=kV k/\r=vA kvs k)\/∃kvs k b,Rd H a (.dT kvs)/\y = .ref b/\H b=some (.tup<|k.map kV)/\r=vA kvs k
def Jk(H:Hp)(a:Addr)(y v:V)(H':Hp):Prop:=
 (∃kvs k,H a=some (.dK kvs)/\y=kV k/\kvs.length<sizeLine/\H'=upd H a (.dK<|putK kvs k v)) \/
 ∃kvs k b,H a=some (.dT kvs)/\y = .ref b/\H b=some (.tup<|k.map kV)/\kvs.length<sizeLine/\H'=upd H a (.dT<|putK kvs k v)
def Mf.t{H a b kvs k}(e:H a=some (.dT kvs))(eb:H b=some (.tup<|k.map kV)):Mf H a (.ref b) (vA kvs k):=.inr ⟨kvs,k,b,.inl e,rfl,eb,rfl⟩
section
variable{X:Cx}{pins:List (Addr×Obj)}{σ:St}{H:Hp}{s:Shared}{a:Addr}{y v:V}{u r:Value}{o:Option V}{A:Around}{E:Value->Shared->Prop}
def Inv.big(I:Inv X pins σ H s):sysModules<s.heap.objs.size:=by
 have h:=(I.mod.glob.keeps I.bk).lt;exact Nat.lt_trans (by decide) h
def DG(hu:A.units+1<cLine)(I:Inv X pins σ H s)(g:Mf H a y o)(ry:RelV y u)(h:∀s',Inv X pins σ H s'->Q (.bool o.isSome) s'):
 wpAny (model X.prog X.w) A (compareOp .In u<|.ref a) Q E s:=by
 rcases g with⟨kvs,k,e,ey,l⟩|⟨kvs,k,b,e,ey,eb,l⟩
 . subst ey;obtain⟨z,hd,vs,rel,dd⟩:=L_ I.hok e;refine wpAny_in_of (Qd ry) hd dd.mapOf ?_;rw[<-(rel.val k).isSome_eq,<-l];exact h _<|I.tok _
 . subst ey;cases(ry);obtain⟨z,hd,xs,rel,dd⟩:=MA I.hok e;refine wpAny_in_heap (tupleKind_room_in1 hu) (PD I.hok eb) hd dd ?_;have q:=(rel.val k).isSome_eq;rw[Option.isSome_map]at q;rw[<-q,<-l];exact h _<|I.tok _
def Sg(hu:A.units+1<cLine)(I:Inv X pins σ H s)(g:Mf H a y o)(ry:RelV y u)(h:∀s',Inv X pins σ H s'->Q (.bool<|!o.isSome) s'):
 wpAny (model X.prog X.w) A (compareOp .NotIn u<|.ref a) Q E s:=by
 rcases g with⟨kvs,k,e,ey,l⟩|⟨kvs,k,b,e,ey,eb,l⟩
 . subst ey;obtain⟨z,hd,vs,rel,dd⟩:=L_ I.hok e;refine wpAny_notIn_of (Qd ry) hd dd.mapOf ?_;rw[<-(rel.val k).isSome_eq,<-l];exact h _<|I.tok _
 . subst ey;cases(ry);obtain⟨z,hd,xs,rel,dd⟩:=MA I.hok e;refine wpAny_notIn_heap (tupleKind_room_in1 hu) (PD I.hok eb) hd dd ?_;have q:=(rel.val k).isSome_eq;rw[Option.isSome_map]at q;rw[<-q,<-l];exact h _<|I.tok _
def LB(I:Inv X pins σ H s)(mu:IU (H a))(hs:Heap.SameBut a s.heap h')(he:∃q,h'.get? a=some q)(new:xf X.prog X.w (upd H a ob) h' a ob):
 Inv X pins σ (upd H a ob) {s with heap:=h',toks:=t'}:=
 I.write mu (.inl rfl) (λb q hb z=>(hs.2 b hb).trans z) he new
def Km(z:kvs.length<=sizeLine)(hd:(a==sysModules)=false)(rel:KV kvs vs)(dd:h'.DictOf (yx P w) a vs):
 xf P w H' h' a (.dK kvs):=⟨z,hd,vs,rel,dd⟩
def Ny(hu:A.units+1<cLine)(I:Inv X pins σ H s)(g:Jk H a y v H')(ry:RelV y u)(rv:RelV v r)(h:∀s',Inv X pins σ H' s'->Q () s'):
 wpAny (model X.prog X.w) A (setItem (.ref a) u r) Q E s:=by
 rcases g with⟨kvs,k,e,ey,l,eH⟩|⟨kvs,k,b,e,ey,eb,l,eH⟩
 . subst ey eH;obtain⟨z,hd,vs,rel,dd⟩:=Iw I.hok e;have hz:vs.length<=sizeLine:=by rw[<-rel.length];exact z
   have hl:(putK kvs k v).length<=sizeLine:=by have:=Qa kvs k v;omega
   refine wpAny_setItem_pairs (Qd ry) dd λh' dd' hs=>h _ ?_;have he:∃q,h'.get? a=some q:=let⟨q,_,_,hq,_⟩:=dd';⟨q,hq⟩;exact LB I (by rw[e];exact True.intro) hs he<|Km hl hd (rel.put k rv) dd'
 . subst ey eH;cases(ry);obtain⟨z,hd,xs,rel,dd⟩:=Hm I.hok e;have hz:xs.length<=sizeLine:=by rw[<-Paired.length rel];exact z
   have hl:(putK kvs k v).length<=sizeLine:=by have:=Qa kvs k v;omega
   refine wpAny_setItem_heap (tupleKind_room_in1 hu) (PD I.hok eb) dd λh' dd' hs=>h _ ?_;obtain⟨q,es,ep,hq,h2,h3,h4,_,h5⟩:=dd';refine LB I (by rw[e];exact True.intro) hs ⟨q,hq⟩ ⟨hl,hd,_,(rel.put k eb rv).keeps λc ys ec=>?_,q,es,ep,hq,h2,h3,h4,h5⟩;rw[zy<|JY ec e (λz=>nomatch z)];exact ec
end
def Ji(td ty tv:TE):TS:=λD σ H=>tv σ H λv H1=>td σ H1 λx H2=>ty σ H2 λy H3=>∃a H4,x = .ref a/\Jk H3 a y v H4/\D.nx σ H4
section
variable{X:Cx}{o i e value:Expr}{pos pos' tpos:Pos}{td ty tv:TE}
def BR(hu:X.A.units+1<cLine)(ho:PE X o td)(hi:PE X i ty)(hv:PE X value tv)(hs:swapsWith value (some<|.Subscript o i pos') pos.line X.env=pure false):
 PS X (.Assign [.Subscript o i pos'] value pos) (Ji td ty tv):=by
 intro pins s σ H D I h;refine wpAny_Assign_Subscript (thn (hv pins s σ H _ I h) λr s1 ⟨v,H1,I1,rv,q1⟩=>thn (ho pins s1 σ H1 _ I1 q1) λu s2 ⟨x,H2,I2,rx,q2⟩=>thn (hi pins s2 σ H2 _ I2 q2) λiv s3 ⟨y,H3,I3,ry,a,H4,ex,g,q3⟩=>?_) hs;subst ex;obtain rfl:u=Value.ref a:=rx;exact Ny hu I3 g ry rv λs4 I4=>⟨σ,H4,I4,q3⟩
end
def MU(h:Heap)(hb:sysModules<h.objs.size):xf P w H (h.push {cls:=.type "dict",data:=.dict #[]}) h.objs.size (.dT []):=
 ⟨Nat.zero_le _,beq_eq_false_iff_ne.mpr<|Ne.symm<|zzQ hb,[],.nil,_,#[],0,zxI _ rfl,⟨rfl,rfl,rfl⟩,rfl,rfl,zyI⟩
def CO:TE:=λ_ H Q=>∀p,H p=none->Q (.ref p) (upd H p<|.dT [])
section
variable{X:Cx}{pos:Pos}
def E4:PE X (.Dict [] [] pos) CO:=λpins s σ H Q I h=>
 wpAny_Dict_empty ⟨.ref s.heap.objs.size,_,I.laid (t':=s.toks) (λ_ _ q=>zxG _ q) (zzN _)<|MU s.heap I.big,rfl,h _<|I.hok.fresh<|zzN _⟩
end
end L2
namespace HT
open PySem PyProof.Rows
section
variable{prog:Program}{w:World}{A:Around}{E:Value->Shared->Prop}{s:Shared}
def BU(ht:IsTup s.heap t vs.toArray)(hb:IsTup s.heap b ws.toArray)(hv:vs≠[])
 (h1:ws=[]->Q (.ref t) s) (h2:ws≠[]->Q (.ref s.heap.objs.size) {s with heap:=s.heap.push {cls:=.type "tuple",data:=.seq (vs++ws).toArray}})
 (hsz:vs.length+ws.length<=sizeLine):wpAny (model prog w) A (binaryOp .Add (.ref t)<|.ref b) Q E s:=by
 obtain⟨⟨cls,dd,data,sl⟩,ho,hc,n,hd⟩:=id ht;obtain⟨⟨cls2,dd2,data2,sl2⟩,ho2,hc2,n2,hd2⟩:=id hb;simp only at hc hd hc2 hd2;subst hc hd hc2 hd2;have e:vs.toArray++ws.toArray=(vs++ws).toArray:=by simp
 by_cases hw:ws=[]
 . exact concat_meets ⟨_,ho,rfl⟩ ⟨_,ho2,rfl⟩ noFill_tuple_add seq_tuple_add PySem.F.slot_tuple_add PySem.F.entry_tuple_add (PySem.F.args_tuple_add_2 _ _)
    (tuple_addW1 t b vs.toArray ws.toArray n n2 dd dd2 sl sl2 (by simpa using hv)<|by simp[hw]) ⟨ho,ho2,h1 hw⟩
 . refine concat_meets ⟨_,ho,rfl⟩ ⟨_,ho2,rfl⟩ noFill_tuple_add seq_tuple_add PySem.F.slot_tuple_add PySem.F.entry_tuple_add (PySem.F.args_tuple_add_2 _ _)
    (tuple_addW2 t b vs.toArray ws.toArray n n2 dd dd2 sl sl2 (by simpa using hv) (by simpa using hw)<|by rw[zzH,zzH];exact hsz) ⟨ho,ho2, ?_⟩
   rw[e];exact h2 hw
def sIx(n d:Nat):Option Int->Nat
 |none=>d
 |some v=>if v<0 then(v+(n:Int)).toNat else min v.toNat n
def Ec(n d:Nat):sIx n d none=d:=rfl
def Bx(n d k:Nat):sIx n d (some (k:Int))=min k n:=by
 show(if(k:Int)<0 then((k:Int)+(n:Int)).toNat else min (k:Int).toNat n)=_;rw[if_neg (by omega),zyH]
def CZ(n d:Nat)(hd:d<=n)(o):sIx n d o<=n:=by
 cases o with
 |none=>exact hd
 |some v=>
  show(if v<0 then(v+_).toNat else min v.toNat n)<=n
  by_cases hv:v<0
  . rw[if_pos hv];omega
  . rw[if_neg hv];exact Nat.min_le_right _ _
def Lo(v)(n d:Nat):(if v<0 then max (v+(n:Int)) 0 else min v (n:Int))=((sIx n d (some v):Nat):Int):=by
 show _=(((if v<0 then(v+_).toNat else min v.toNat n):Nat):Int)
 by_cases hv:v<0
 . simp only[if_pos hv];omega
 . simp only[if_neg hv];omega
def KZ(lo hi)(n:Nat):Builtin.Slice.sliceAdjust lo hi 1 (n:Int)=(((sIx n 0 lo:Nat):Int),((sIx n n hi:Nat):Int)):=by
 have h1:¬((1:Int)<0):=by omega
 unfold Builtin.Slice.sliceAdjust;simp only[h1,if_false];refine Prod.ext ?_ ?_
 . cases lo with
   |none=>rfl
   |some v=>exact Lo v n 0
 . cases hi with
   |none=>rfl
   |some v=>exact Lo v n n
def Kt(i j:Nat):Builtin.Slice.slicePlaces (i:Int) (j:Int) 1=j-i:=by
 unfold Builtin.Slice.slicePlaces;have h1:(1:Int) > 0:=by omega
 simp only[h1,if_true,Int.ediv_one]
 split<;>omega
def Q5(p:IsPart v o)(h:Q o s):wpAny (model prog w) A (Builtin.Slice.slicePartIndex v) Q E s:=by
 cases p with
 |none=>exact slicePart_none h
 |int i t=>exact slicePart_int h
def Vp{sl vl vu lo hi}{n:Nat}{Q}(hs:s.heap.IsSliceOf sl vl vu .none)(pl:IsPart vl lo)(pu:IsPart vu hi)
 (h:Q (((sIx n 0 lo:Nat):Int),1,sIx n n hi-sIx n 0 lo) s):wpAny (model prog w) A (Builtin.Slice.sliceApplied (.ref sl)<|pure (n:Int)) Q E s:=by
 obtain⟨os,hos,hcs,hds⟩:=id hs;unfold Builtin.Slice.sliceApplied Builtin.Slice.sliceFields;refine zxE<|zxE<|wpAny_field hos hds rfl<|zxE<|wpAny_field hos hds rfl<|zxE<|wpAny_field hos hds rfl<|zxF ?_;refine zxE<|slicePart_none ?_;rw[if_neg<|by decide];refine zxE<|Q5 pl<|zxE<|Q5 pu<|zxE<|zxF ?_;show wpAny _ _ (match Builtin.Slice.sliceAdjust lo hi 1 _ with|(lo,hi)=>pure (lo,_,Builtin.Slice.slicePlaces lo hi 1)) _ _ s;rw[KZ lo hi n];show wpAny _ _ (pure _) _ _ s;rw[Kt];exact zxF h
def Ed(xs:Array Value)(i k:Nat):((List.range k).filterMap λ(m:Nat)=>xs[((i:Int)+(m:Int)*1).toNat]?).toArray=((xs.toList.drop i).take k).toArray:=by
 have e:(λ(m:Nat)=>xs[((i:Int)+(m:Int)*1).toNat]?)=λm=>xs[i+m]? := by
  funext m;have:(i+(m:Int)*1).toNat=i+m:=by omega
  rw[this]
 rw[e];have:=pick_run xs i k;rw[List.filterMap_map]at this;have e2:((λx=>xs[x]?)∘λx=>i+x)=λm=>xs[i+m]? := rfl;rw[e2]at this;rw[this]
def Wu{t sl items vl vu lo hi Q}(ht:IsTup s.heap t items)(hs:s.heap.IsSliceOf sl vl vu .none)(pl:IsPart vl lo)(pu:IsPart vu hi)
 (hw:¬(sIx items.size 0 lo=0/\sIx items.size items.size hi=items.size))
 (h:Q (.ref s.heap.objs.size) {s with heap:=s.heap.push {cls:=.type "tuple",data:=.seq ((items.toList.drop<|sIx items.size 0 lo).take<|sIx items.size items.size hi-sIx items.size 0 lo).toArray}})
 (hsz:items.size<=sizeLine):wpAny (model prog w) A (getItem (.ref t)<|.ref sl) Q E s:=by
 have htake:sizeOk (.seq ((items.toList.drop<|sIx items.size 0 lo).take<|sIx items.size items.size hi-sIx items.size 0 lo).toArray):=by
  show((items.toList.drop _).take _).toArray.size<=sizeLine;rw[zzH,zzS,List.length_drop,zyS];omega
 have hj:sIx items.size items.size hi<=items.size:=CZ _ _ (zzN _) hi;obtain⟨os,hos,hcs,hds⟩:=id hs;have hTs:s.TypeIs (.ref sl) "slice":=⟨os,hos,hcs⟩;unfold getItem
 try with_reducible refine zxL ?_
 first|refine zxE (zxF ?_)|skip
 refine zxE<|wpAny_sequenceKey ht.typeIs (by decide) ?_;refine zxE<|wpAny_callSpecial?_slot ht.typeIs PyProof.Rows.slot_tuple_getitem
  (zxS PyProof.Rows.slot_tuple_getitem ht.typeIs entry_tuple_getitem ?_<|args_tuple_getitem _ _)
 show wpAny _ _ (Builtin.Tuple.tupleItemsOf (.ref t) >>= _) _ _ s;refine zxE<|tupleItemsOf_ ht ?_;refine zxE<|wpAny_typeOf hTs ?_;rw[if_pos<|by decide];refine zxE<|Vp hs pl pu ?_;have hno:¬((((sIx items.size 0 lo:Nat):Int)==0&&(1:Int)==1&&(sIx items.size items.size hi-sIx items.size 0 lo)==items.size)=true):=by
  intro q;rw[zyB,zyB]at q;have q1:=eq_of_beq q.1.1;have q2:=eq_of_beq q.2;exact hw ⟨by omega,by omega⟩
 show wpAny _ _ (if _=true then _ else _) _ _ s;rw[if_neg hno,Ed]
 first
  |exact zxE (zxJ (zxF ⟨_,rfl,zxF h⟩) htake)
  |exact zxE _
  |exact zxE _
  |exact zxE _
end
end HT
namespace L2
open PySem PySem.Spec PyProof.Rows
abbrev TO:=St->Hp->(Option Int->Hp->Prop)->Prop
def PO(X:Cx)(e:Option Expr)(t:TO):Prop:=
 ∀(pins:List (Addr×Obj)) (s:Shared) (σ:St) (H:Hp) (Q:Option Int->Hp->Prop),Inv X pins σ H s->t σ H Q->
  wpAny (model X.prog X.w) X.A (evalPart e X.env) (λu s'=>∃o H',Inv X pins σ H' s'/\IsPart u o/\Q o H') X.xe s
def Su:TO:=λ_ H Q=>Q none H
def Jl(t:TE):TO:=λσ H Q=>t σ H λx H1=>∃i,x = .int i/\Q (some i) H1
def intsAre_of:∀{us:List Value},zG (ns.map V.int) us->IntsAre us ns:=by
 induction ns with
 |nil=>intro us r;rw[List.map_nil]at r;cases r;exact .nil
 |cons n ns ih=>
  intro us r;rw[zyR]at r;cases r with
  |cons r1 r2=>
   obtain⟨t,e⟩:=r1;subst e;exact .cons n t<|ih r2
section
variable{X:Cx}{e:Expr}{te:TE}{lo hi:Option Expr}{tl th:TO}{pos p2:Pos}
def BS:PO X none Su:=by
 intro pins s σ H Q I h;rw[evalPart_none];exact zxF ⟨none,H,I,.none,h⟩
def Be(h:PE X e te):PO X (some e) (Jl te):=by
 intro pins s σ H Q I hw;rw[evalPart_some];refine thn (h pins s σ H _ I hw) λu s1 ⟨x,H1,I1,r1,q1⟩=>?_;obtain⟨i,rfl,q⟩:=q1;obtain⟨t,rfl⟩:=r1;exact⟨some i,H1,I1,.int i t,q⟩
def J5(X:Cx)(r:V->Option Int->Option Int->Hp->VK->Prop):Prop:=
 ∀(pins:List (Addr×Obj)) (s:Shared) (σ:St) (H:Hp) (x:V) (v vl vu:Value) (lo hi:Option Int) (sl:Addr) (Q:VK),Inv X pins σ H s->RelV x v->s.heap.IsSliceOf sl vl vu .none->IsPart vl lo->IsPart vu hi->r x lo hi H Q->
  ∃T id,typeLookup (.type T) "__getitem__"=pure (some<|.builtin id)/\s.TypeIs v T/\wpAny (model X.prog X.w) X.A (getItem v<|.ref sl) (EP X pins σ Q) X.xe s
def u9(r:V->Option Int->Option Int->Hp->VK->Prop)(te:TE)(tl th:TO):TE:=λσ H Q=>te σ H λx H1=>tl σ H1 λl H2=>th σ H2 λu H3=>r x l u H3 Q
def FL(hr:J5 X r)(he:PE X e te)(hl:PO X lo tl)(hu:PO X hi th):PE X (.Subscript e (.Slice lo hi none p2) pos) (u9 r te tl th):=by
 intro pins s σ H Q I h;refine Subscript_<|thn (he pins s σ H _ I h) λv s1 ⟨x,H1,I1,r1,q1⟩=>?_;refine wpAny_Slice<|thn (hl pins s1 σ H1 _ I1 q1) λvl s2 ⟨l,H2,I2,pl,q2⟩=>thn (hu pins s2 σ H2 _ I2 q2) λvu s3 ⟨u,H3,I3,pu,q3⟩=>?_;rw[evalPart_none];refine zxF ?_;have I4:Inv X pins σ H3 {s3 with heap:=s3.heap.push {cls:=.type "slice",data:=.fields #[vl,vu,.none]}}:=I3.kept (t':=s3.toks) λb ob q=>zxG _ q;obtain⟨T,id,hT,ht,hg⟩:=hr pins {s3 with heap:=s3.heap.push {cls:=.type "slice",data:=.fields #[vl,vu,.none]}} σ H3 x v vl vu l u s3.heap.objs.size Q I4 r1 (Heap.IsSliceOf.new ..) pl pu q3;exact tail_any ht hT hg (by with_unfolding_all rfl)
def Mj(xs:List V)(lo hi:Option Int):List V:=(xs.drop<|HT.sIx xs.length 0 lo).take<|HT.sIx xs.length xs.length hi-HT.sIx xs.length 0 lo
def VY(xs)(lo hi):(Mj xs lo hi).length<=xs.length:=by
 unfold Mj;rw[zzS,List.length_drop];omega
def Dm(K:zzA):V->Option Int->Option Int->Hp->VK->Prop:=λx lo hi H Q=>∃a xs,x = .ref a/\VZ K H a xs/\
 ¬(HT.sIx xs.length 0 lo=0/\HT.sIx xs.length xs.length hi=xs.length)/\∀p,H p=none->Q (.ref p) (upd H p<|.tup<|Mj xs lo hi)
def Og:J5 X (Dm X.K):=by
 intro pins s σ H x v vl vu lo hi sl Q I rx hs pl pu h;obtain⟨a,xs,rfl,hx,hw,q⟩:=h;cases rx;obtain⟨its,r,ht,hz⟩:=I.tuple hx;have hlen:its.toArray.size=xs.length:=by rw[zzH];exact r.length.symm
 refine⟨"tuple",_,PyProof.Rows.slot_tuple_getitem.lookup,ht.typeIs, ?_⟩;refine HT.Wu ht hs pl pu (by rw[hlen];exact hw) ?_ (by rw[hlen];exact hz);rw[hlen];refine⟨.ref s.heap.objs.size,_,I.laid (t':=s.toks) (λb ob q=>zxG _ q) (zzN _) ?_,rfl,q _<|I.hok.fresh<|zzN _⟩;exact⟨zzO (VY xs lo hi) hz,_,(r.drop _).take _,IsTup.new _ _⟩
def Jb(K:zzA):R2:=λx y H Q=>∃a b xs ys,x = .ref a/\y = .ref b/\VZ K H a xs/\VZ K H b ys/\xs≠[]/\xs.length+ys.length<=sizeLine/\
 (ys=[]->Q (.ref a) H)/\(ys≠[]->∀p,H p=none->Q (.ref p) (upd H p<|.tup<|xs++ys))
def zG.nil_iff(r:zG xs us):us=[] ↔ xs=[]:=by
 cases r with
 |nil=>simp
 |cons _ _=>simp
def B4:XU X (binaryOp .Add) (Jb X.K):=by
 intro pins s σ H x y v u Q I rx ry h;obtain⟨a,b,xs,ys,rfl,rfl,ha,hb,hx,hz,q1,q2⟩:=h;cases rx;cases ry;obtain⟨its,r1,p1,_⟩:=I.tuple ha;obtain⟨its2,r2,p2,_⟩:=I.tuple hb;refine HT.BU p1 p2 (λz=>hx<|r1.nil_iff.mp z) (λz=>⟨.ref a,H,I,rfl,q1<|r2.nil_iff.mp z⟩) (λz=>?_) (by rw[<-r1.length,<-r2.length];exact hz);refine⟨.ref s.heap.objs.size,_,I.laid (t':=s.toks) (λb ob q=>zxG _ q) (zzN _) ?_,rfl,q2 (λw=>z<|r2.nil_iff.mpr w) _<|I.hok.fresh<|zzN _⟩;exact⟨by rw[zzJ];exact hz,_,r1.append r2,IsTup.new _ _⟩
end
end L2
namespace L2
open PySem PySem.Spec PyProof.Rows
def FV(n:Nat)(i:Int):Option Nat:=if 0<=i then(if i<n then some i.toNat else none)else if -(n:Int)<=i then some (i+n).toNat else none
def Tn{α:Type}(xs:List α)(i:Int):Option α:=(FV xs.length i).bind λj=>xs[j]?
def Lu(h:FV n i=some j):seqIndex? i n=some j/\j<n /\ -(n:Int)<=i/\i<n:=by
 unfold FV at h
 by_cases h0:0<=i
 . rw[if_pos h0]at h
   by_cases h1:i<n
   . rw[if_pos h1]at h;have e:=zzY h;exact⟨by rw[seqIndex_of h0 h1,e],by omega,by omega,h1⟩
   . rw[if_neg h1]at h;cases h
 . rw[if_neg h0]at h
   by_cases h1 : -n<=i
   . rw[if_pos h1]at h;have e:=zzY h;exact⟨by rw[seqIndex_neg (by omega) h1,e],by omega,h1,by omega⟩
   . rw[if_neg h1]at h;cases h
def Pn(h:Tn xs i=some v):∃j,seqIndex? i xs.length=some j/\xs[j]? = some v/\j<xs.length /\ -(xs.length:Int)<=i/\i<xs.length:=by
 unfold Tn at h;cases e:FV xs.length i with
 |none=>rw[e]at h;cases h
 |some j=>
  rw[e]at h;obtain⟨h1,h2,h3,h4⟩:=Lu e;exact⟨j,h1,h,h2,h3,h4⟩
def y6{α:Type}{xs}{j:Nat}{v:α}(h:xs[j]? = some v):Tn xs (j:Int)=some v:=by
 have hj:=(zzG.mp h).1;have e:FV xs.length (j:Int)=some j:=by
  unfold FV;rw[if_pos (by omega),if_pos<|by omega];simp
 unfold Tn;rw[e];exact h
def vY(b:Expr):Prop:=∀o i,subscripted b false o i=operate [o,i] (getItem o i)
def IB(X:Cx)(r:R2):Prop:=
 ∀(value slice:Expr) (pins:List (Addr×Obj)) (s:Shared) (σ:St) (H:Hp) (x y:V) (v u:Value) (Q:VK),Inv X pins σ H s->RelV x v->RelV y u->r x y H Q->
  subscripted slice false v u=operate [v,u] (getItem v u)->wpAny (model X.prog X.w) X.A (subscriptTail value slice v u) (EP X pins σ Q) X.xe s
def Aa(X:Cx)(id:String)(r:V->List V->Hp->VK->Prop):Prop:=
 ∀(pins:List (Addr×Obj)) (s:Shared) (σ:St) (H:Hp) (x:V) (xs:List V) (v:Value) (us:List Value) (Q:VK),Inv X pins σ H s->RelV x v->zG xs us->r x xs H Q->
  wpAny (model X.prog X.w) X.A (call (.builtin id) (v::us)) (EP X pins σ Q) X.xe s
section
variable{X:Cx}{a b:Expr}{ta tb:TE}{pos:Pos}
def RJ(hr:IB X r)(ha:PE X a ta)(hb:PE X b tb)(hs:vY b):PE X (.Subscript a b pos) (JI r ta tb):=by
 intro pins s σ H Q I h;exact Subscript_<|OH ha hb I h λv u s2 x y H2 I2 rx ry q=>hr a b pins s2 σ H2 x y v u Q I2 rx ry q<|hs _ _
def Am(K:zzA):R2:=λx y H Q=>∃p xs i v,x = .ref p/\y = .int i/\Qn K H p xs/\Tn xs i=some v/\Q v H
def Dp(K:zzA):R2:=λx y H Q=>∃p xs i v,x = .ref p/\y = .int i/\VZ K H p xs/\Tn xs i=some v/\Q v H
def AM:R2:=λx y H Q=>∃z i c,x = .str z/\y = .int i/\z.length<=sizeLine/\Tn z.cps.toList i=some c/\Q (.str ⟨#[c]⟩) H
def Pt:IB X (Am X.K):=by
 intro value slice pins s σ H x y v u Q I rx ry h hs;obtain⟨p,xs,i,z,rfl,rfl,hq,he,q⟩:=h;cases rx;obtain⟨t,rfl⟩:=ry;obtain⟨its,r,pl,hz⟩:=I.list hq;obtain⟨j,h1,h2,h3,h4,h5⟩:=Pn he;obtain⟨w,ew,rw'⟩:=r.get h2;have hl:=r.length;have hn:=XQ;have fin:EP X pins σ Q w s:=⟨z,H,I,rw',q⟩
 by_cases h0:0<=i
 . have hj:i.toNat=j:=by
    rw[seqIndex_of h0 h5]at h1;exact zzY h1
   exact item_listR pl.isList h0 (by omega) (by rw[hj];simpa using ew) fin hs
 . have hj:(i+(its.toArray.size:Int)).toNat=j:=by
    rw[seqIndex_neg (by omega) h4]at h1;rw[zzH,<-hl];exact zzY h1
   exact subscriptTail_builtinR pl.isList.typeIs slot_list_getitem.lookup
    (wpAny_getItem_list_neg pl.isList (by omega) (by rw[zzH]<;>omega) (by omega) (by rw[hj];simpa using ew) ⟨rfl,fin⟩) hs
def Pe:IB X (Dp X.K):=by
 intro value slice pins s σ H x y v u Q I rx ry h hs;obtain⟨p,xs,i,z,rfl,rfl,hq,he,q⟩:=h;cases rx;obtain⟨t,rfl⟩:=ry;obtain⟨its,r,pl,hz⟩:=I.tuple hq;obtain⟨j,h1,h2,h3,h4,h5⟩:=Pn he;obtain⟨w,ew,rw'⟩:=r.get h2;have hl:=r.length;have hn:=XQ;have fin:EP X pins σ Q w s:=⟨z,H,I,rw',q⟩;exact subscriptTail_builtinR pl.typeIs slot_tuple_getitem.lookup
  (getItem_tuple pl (by omega) (by omega) (by rw[zzH,<-hl];exact h1) (by simpa using ew) ⟨rfl,fin⟩) hs
def OS:IB X AM:=by
 intro value slice pins s σ H x y v u Q I rx ry h hs;obtain⟨z,i,c,rfl,rfl,hz,he,q⟩:=h;obtain⟨t,rfl⟩:=rx;obtain⟨t',rfl⟩:=ry;obtain⟨j,h1,h2,h3,h4,h5⟩:=Pn he;have hl:z.cps.toList.length=z.length:=by simp[Str.length]
 rw[hl]at h1 h4 h5;have hn:=XQ;exact tail_any (typeIs_str s z t) slot_str_getitem.lookup (getItem_str (by
  have e1:decide (i < -(2 ^ 63:Int))=false:=zyF (by omega);have e2:decide (i ≥ 2 ^ 63)=false:=zyF (by omega);rw[e1,e2,Bool.or_false]) (by rw[h1];simpa using h2) ⟨.str ⟨#[c]⟩,H,I.tok _,⟨_,rfl⟩,q⟩) hs
def G5(its:List Value)(n j:Nat)(u):Obj.mapSeq (·.setIfInBounds j u) {cls:=.type "list",data:=.seq its.toArray n}={cls:=.type "list",data:=.seq (its.set j u).toArray n}:=by
 simp[Obj.mapSeq]
theorem Inv.lst(I:Inv X pins σ H s)(h:H p=some (.lst xs)):
 ∃(its:List Value) (n:Nat),zG xs its/\s.heap.get? p=some {cls:=.type "list",data:=.seq its.toArray n}/\xs.length<=sizeLine:=by
 obtain⟨z,its,n,r,e⟩:=I.hok p _ h;exact⟨its,n,r,e,z⟩
def Inv.lstUpd{pins σ H s p xs ys}{its its':List Value}{n n':Nat}{f}(I:Inv X pins σ H s)(h:H p=some (.lst xs))
 (ho:s.heap.get? p=some {cls:=.type "list",data:=.seq its.toArray n}) (hf:f {cls:=.type "list",data:=.seq its.toArray n}={cls:=.type "list",data:=.seq its'.toArray n'}) (r:zG ys its') (hz:ys.length<=sizeLine) (t:Nat):
 Inv X pins σ (upd H p<|.lst ys) {s with heap:=s.heap.update p f,toks:=t}:=by
 have e:(s.heap.update p f).get? p=some {cls:=.type "list",data:=.seq its'.toArray n'}:=by
  rw[zxQ f ho (by rw[hf]<;>rfl),hf]
 refine I.write (by rw[h];trivial) (.inl rfl) (λb u hb q=>(zxM _ _<|Ne.symm hb).trans q) ⟨_,e⟩ ?_;exact⟨hz,its',n',r,e⟩
def Iq:V->V->V->Hp->(Hp->Prop)->Prop:=λo i v H Q=>∃p xs k j,o = .ref p/\i = .int k/\H p=some (.lst xs)/\FV xs.length k=some j/\Q (upd H p<|.lst<|xs.set j v)
def set_list:IR X Iq:=by
 intro pins s σ H o i v ov iv u Q I ro ri rv h;obtain⟨p,xs,k,j,rfl,rfl,hp,hj,q⟩:=h;cases ro;obtain⟨t,rfl⟩:=ri;obtain⟨its,n,r,ho,hz⟩:=I.lst hp;obtain⟨h1,h2,h3,h4⟩:=Lu hj;have hl:=r.length;have hn:=XQ;have I':Inv X pins σ _ {s with heap:=s.heap.update p _}:=
  I.lstUpd hp ho (G5 its n j u) (r.set rv j) (by rw[zzU];exact hz) s.toks
 by_cases h0:0<=k
 . have hk:k.toNat=j:=by
    rw[seqIndex_of h0 h4]at h1;exact zzY h1
   exact W.ki_setAt ho h0 (by omega) (by rw[zzH,<-hl];exact h4) (by rw[hk];exact⟨_,I',q⟩)
 . have hk:(k+(its.toArray.size:Int)).toNat=j:=by
    rw[seqIndex_neg (by omega) h3]at h1;rw[zzH,<-hl];exact zzY h1
   exact W.ki_setBack ho (by omega) (by rw[zzH,<-hl];exact h3) (by omega) (by rw[hk];exact⟨_,I',q⟩)
def PR(lo hi)(n:Nat):(sliceBounds lo hi none n).1=((HT.sIx n 0 lo:Nat):Int)/\(sliceBounds lo hi none n).2.1=((HT.sIx n n hi:Nat):Int)/\(sliceBounds lo hi none n).2.2=1:=by
 refine⟨?_, ?_,rfl⟩
 . cases lo with
   |none=>simp[sliceBounds,HT.sIx]
   |some i=>
    simp only[sliceBounds,HT.sIx,Option.getD_none,show 1 > 0 by decide,if_true]
    by_cases h:i<0
    . simp only[h,if_true]<;>omega
    . simp only[h,if_false]<;>omega
 . cases hi with
   |none=>simp[sliceBounds,HT.sIx]
   |some i=>
    simp only[sliceBounds,HT.sIx,Option.getD_none,show 1 > 0 by decide,if_true]
    by_cases h:i<0
    . simp only[h,if_true]<;>omega
    . simp only[h,if_false]<;>omega
def UQ(its:List Value)(lo hi):slicePick its.toArray lo hi none=((its.drop<|HT.sIx its.length 0 lo).take<|HT.sIx its.length its.length hi-HT.sIx its.length 0 lo).toArray:=by
 obtain⟨h1,h2,h3⟩:=PR lo hi its.toArray.size;unfold slicePick;rw[h1,h2,h3];simp only[sliceRange_one,pick_run,zzH]<;>rfl
def DC(K:zzA):V->Option Int->Option Int->Hp->VK->Prop:=λx lo hi H Q=>∃a xs,x = .ref a/\Qn K H a xs/\∀p,H p=none->Q (.ref p) (upd H p<|.lst<|Mj xs lo hi)
def SZ:J5 X (DC X.K):=by
 intro pins s σ H x v vl vu lo hi sl Q I rx hs pl pu h;obtain⟨a,xs,rfl,hx,q⟩:=h;cases rx;obtain⟨its,r,ht,hz⟩:=I.list hx;have hlen:=r.length;refine⟨"list",_,slot_list_getitem.lookup,ht.isList.typeIs, ?_⟩;refine wpAny_getItem_list_slice ht.isList hs pl pu .none (by simp) ?_ (by rw[zzH]<;>omega);rw[UQ,<-hlen];refine⟨.ref s.heap.objs.size,_,I.laid (t':=s.toks) (λb ob q=>zxG _ q) (zzN _) ?_,rfl,q _<|I.hok.fresh<|zzN _⟩;exact⟨zzO (VY xs lo hi) hz,_,0,(r.drop _).take _,zxI _ rfl⟩
def X1:WM X (.builtin "len") (λxs H Q=>∃p ys,xs=[.ref p]/\(Qn X.K H p ys\/VZ X.K H p ys)/\Q (.int ys.length) H):=by
 intro pins s σ H xs us Q I r h;obtain⟨p,ys,rfl,hq,q⟩:=h;obtain⟨u,rfl,rx⟩:=vals1 r;cases rx;have hn:=XQ
 rcases hq with hq|hq
 . obtain⟨its,r',pl,hz⟩:=I.list hq;have hlen:=r'.length;exact Calls.call_len_list pl.isList (by simp only[zzH]<;>omega) ⟨.int ys.length,H,I.tok _,⟨s.toks+1,by rw[zzH,hlen]⟩,q⟩
 . obtain⟨its,r',pl,hz⟩:=I.tuple hq;have hlen:=r'.length;exact len_tuple pl (by simp only[zzH]<;>omega) ⟨.int ys.length,H,I.tok _,⟨s.toks+1,by rw[zzH,hlen]⟩,q⟩
def RT:WM X (.builtin "len") (λxs H Q=>∃z,xs=[.str z]/\z.length<=sizeLine/\Q (.int z.length) H):=by
 intro pins s σ H xs us Q I r h;obtain⟨z,rfl,hz,q⟩:=h;obtain⟨u,rfl,t,rfl⟩:=vals1 r;have hn:=XQ;exact len_str (by omega) ⟨.int z.length,H,I.tok _,⟨_,rfl⟩,q⟩
def Wl:WM X (.type "list") (λxs H Q=>∃p ys,xs=[.ref p]/\(Qn X.K H p ys\/VZ X.K H p ys)/\∀l,H l=none->Q (.ref l) (upd H l<|.lst ys)):=by
 intro pins s σ H xs us Q I r h;obtain⟨p,ys,rfl,hq,q⟩:=h;obtain⟨u,rfl,rx⟩:=vals1 r;cases rx;have fin:∀its,zG ys its->ys.length<=sizeLine->∀h' c',_->
  h'.get? s.heap.objs.size=some {cls:=.type "list",dict:=none,data:=.seq its.toArray c',slots:=#[]}->EP X pins σ Q _ {s with heap:=h'}:=λits r' hz h' c' kp e=>
  ⟨.ref s.heap.objs.size,_,I.laid (t':=s.toks) kp (zzN _) (show xf X.prog X.w _ h' _ (.lst ys)from⟨hz,its,c',r',e⟩),rfl,q _<|I.hok.fresh<|zzN _⟩
 rcases hq with hq|hq
 . obtain⟨its,r',pl,hz⟩:=I.list hq;have hlen:=r'.length;obtain⟨o,ho,hc,n,hd⟩:=pl.isList;exact call_list_seq p (.inl rfl) ho hc hd (λh' c' kp e=>fin its r' hz h' c' kp e) (by simp only[zzH]<;>omega)
 . obtain⟨its,r',pl,hz⟩:=I.tuple hq;have hlen:=r'.length;obtain⟨o,ho,hc,n,hd⟩:=pl;exact call_list_seq p (.inr rfl) ho hc hd (λh' c' kp e=>fin its r' hz h' c' kp e) (by simp only[zzH]<;>omega)
def Do(K:zzA)(T:String)(x:V)(H:Hp):Prop:=match x with
 | .str _=>T="str"
 | .int _=>T="int"
 | .ref p=>(T="list"/\∃xs,Qn K H p xs)\/(T="tuple"/\∃o,K.lookup p=some o/\o.cls = .type "tuple"/\o.dict=none) \/
  (T="dict"/\((∃kvs,H p=some (.dK kvs))\/∃kvs,H p=some (.dT kvs)))\/(T="set"/\∃S n,H p=some (.set S n))
 |_=>False
def Eh(I:Inv X pins σ H s)(r:RelV x v)(ty:Do X.K T x H):
 s.TypeIs v T/\∀a,v = .ref a->∃ob,s.heap.get? a=some ob/\ob.dict=none:=by
 cases x with
 |str z=>
  obtain⟨t,rfl⟩:=r;cases(ty);exact⟨typeIs_str s z t,λ_ e=>nomatch e⟩
 |int i=>
  obtain⟨t,rfl⟩:=r;cases(ty);exact⟨typeIs_int s i t,λ_ e=>nomatch e⟩
 |ref p=>
  cases r
  rcases ty with⟨rfl,xs,hq⟩|⟨rfl,o,hk,hc,hd⟩|⟨rfl,hk⟩|⟨rfl,S,n,hk⟩
  . obtain⟨its,_,pl,_⟩:=I.list hq;refine⟨pl.isList.typeIs,λa e=>?_⟩;cases e;obtain⟨o,n,e,c,hd,_⟩:=pl;exact⟨o,e,hd⟩
  . refine⟨⟨o,I.kIn p o hk,hc⟩,λa e=>?_⟩;cases e;exact⟨o,I.kIn _ o hk,hd⟩
  . have z:∃o,s.heap.get? p=some o/\o.ExactDict:=by
     rcases hk with⟨kvs,hk⟩|⟨kvs,hk⟩
     . obtain⟨_,_,_,_,o,_,_,e,ex,_⟩:=I.hok p _ hk;exact⟨o,e,ex⟩
     . obtain⟨_,_,_,_,o,_,_,e,ex,_⟩:=I.hok p _ hk;exact⟨o,e,ex⟩
    obtain⟨o,e,ex⟩:=z;refine⟨⟨o,e,ex.1⟩,λa e2=>?_⟩;cases e2;exact⟨o,e,ex.2.1⟩
  . obtain⟨o,_,_,_,e,ex,_⟩:=I.hok p _ hk;refine⟨⟨o,e,ex.1⟩,λa e2=>?_⟩;cases e2;exact⟨o,e,ex.2.1⟩
 |_=>exact False.elim ty
def A5(K:zzA)(T:String)(r:V->List V->Hp->VK->Prop)(to:TE):TE:=λσ H Q=>to σ H λx H1=>Do K T x H1/\r x [] H1 Q
def uf(K:zzA)(T:String)(r:V->List V->Hp->VK->Prop)(to:TE)(t:TA):TE:=λσ H Q=>to σ H λx H1=>Do K T x H1/\t σ H1 λxs H2=>r x xs H2 Q
variable{o e:Expr}{es:List Expr}{to:TE}{t:TA}{name:Str}{apos cpos:Pos}{T id:String}{r:V->List V->Hp->VK->Prop}
def ON(pa:PlainAttrs T)(slot:Slot T name id)(hty:typeOf (.builtin id)=pure (.type "method_descriptor"))(hm:Aa X id r)(ho:PE X o to)
 (hbase:attributeBase o name X.env (eval o X.env)=eval o X.env:=by rfl) (hline:(apos.endLine==cpos.line)=true:=by rfl):PE X (.Call (.Attribute o name apos) [] [] cpos) (A5 X.K T r to):=by
 intro pins s σ H Q I h;refine wpAny_Call_method0_late hbase hline<|thn (ho pins s σ H _ I h) λv s1 ⟨x,H1,I1,r1,ty,q1⟩=>?_;obtain⟨h1,h2⟩:=Eh I1 r1 ty;exact⟨T,id,pa,slot,hty,h1,h2,Calls.callWith_builtin rfl<|PySem.evalArgs_none<|hm pins s1 σ H1 x [] v [] Q I1 r1 .nil q1⟩
def HA(pa:PlainAttrs T)(slot:Slot T name id)(hty:typeOf (.builtin id)=pure (.type "method_descriptor"))(hm:Aa X id r)(ho:PE X o to)(ha:PA X (e::es) t)
 (hbase:attributeBase o name X.env (eval o X.env)=eval o X.env:=by rfl)
 (hfew:((backTo cpos<|starEach (e::es) X.env).all (λx=>!x.1)&&(backToKw cpos<|keywordEach [] X.env).all (λx=>x.1.isSome)
  && decide ((e::es).length+([]:List Keyword).length+(if([]:List Keyword).isEmpty then 0 else 1)<30))=true:=by rfl)
 (hline:(apos.endLine==cpos.line)=true:=by rfl) (hs:starEach (e::es) X.env=(false,eval e X.env)::starEach es X.env:=by rfl) (hplain:(backTo cpos<|starEach es X.env).any (·.1)=false:=by rfl):
 PE X (.Call (.Attribute o name apos) (e::es) [] cpos) (uf X.K T r to t):=by
 intro pins s σ H Q I h;refine wpAny_Call_method_late hbase hfew hline rfl<|thn (ho pins s σ H _ I h) λv s1 ⟨x,H1,I1,r1,ty,q1⟩=>?_;obtain⟨h1,h2⟩:=Eh I1 r1 ty;refine⟨T,id,pa,slot,hty,h1,h2, ?_⟩;have hA:=ha cpos pins s1 σ H1 _ I1 q1;rw[hs]at hA ⊢;refine Calls.callWith_builtin (by show(false||(backTo cpos _).any (·.1))=false;rw[hplain]<;>rfl)<|Calls.evalArgs_plain ?_;exact thn hA λus s2 ⟨vs,H2,I2,r2,q2⟩=>hm pins s2 σ H2 x vs v us Q I2 r1 r2 q2
end
end L2
namespace L2
open PySem PySem.Spec PyProof.Rows
def Jy(X:Cx)(id:String)(r:V->List V->Hp->VK->Prop):Prop:=
 ∀(pins:List (Addr×Obj)) (s:Shared) (σ:St) (H:Hp) (x:V) (xs:List V) (v:Value) (us:List Value) (Q:VK),Inv X pins σ H s->RelV x v->zG xs us->r x xs H Q->
  wpAny (model X.prog X.w) X.A (call (.builtin id) (v::us)) (EP X pins σ Q) X.xe s
def zG.one:∀{x:V}{us:List Value},zG [x] us->∃u,us=[u]/\RelV x u
 |_,_,.cons r .nil=>⟨_,rfl,r⟩
def zG.zero:∀{us:List Value},zG [] us->us=[]
 |_,.nil=>rfl
theorem zG.eraseIdx:∀{xs:List V}{us:List Value}(i:Nat),zG xs us->zG (xs.eraseIdx i) (us.eraseIdx i)
 |_,_,_,.nil=>.nil
 |_,_,0,.cons _ t=>t
 |_,_,i+1,.cons r t=>.cons r<|zG.eraseIdx i t
theorem zG.rep(h:zG xs us):∀k:Nat,zG (List.replicate k xs).flatten (List.replicate k us).flatten
 |0=>.nil
 |k+1=>by
  rw[List.replicate_succ,List.replicate_succ,List.flatten_cons,List.flatten_cons];exact zG.append h<|zG.rep h k
theorem RB:∀(l:List α) (i:Nat),(l.eraseIdx i).length<=l.length
 | [],_=>zzN _
 |_::_,0=>zyV _
 |_::r,i+1=>Nat.succ_le_succ<|RB r i
theorem foldl_rep(its):∀(k:Nat) (acc:List Value),
 List.foldl (λx1 x2=>x1++x2) acc.toArray (List.replicate k its.toArray)=(acc++(List.replicate k its).flatten).toArray
 |0,acc=>by simp
 |k+1,acc=>by
  have e:acc.toArray++its.toArray=(acc++its).toArray:=by simp
  have e2:(acc++its)++(List.replicate k its).flatten=acc++(List.replicate (k+1) its).flatten:=by
   rw[List.replicate_succ,List.flatten_cons,zxB]
  rw[<-e2,<-foldl_rep its k _,<-e,List.replicate_succ,List.foldl_cons]
section
variable{X:Cx}{pins:List (Addr×Obj)}{σ:St}{H:Hp}{s:Shared}{l b:Addr}{xs ys zs:List V}
def Inv.lset{its its':List Value}{n:Nat}{f}{t':Nat}(I:Inv X pins σ H s)(hH:H l=some (.lst xs))
 (e:s.heap.get? l=some {cls:=.type "list",data:=.seq its.toArray n}) (hf:f its.toArray=its'.toArray) (hv:zG ys its') (hz:ys.length<=sizeLine):
 Inv X pins σ (upd H l<|.lst ys) {s with heap:=s.heap.update l<|Obj.mapSeq f,toks:=t'}:=by
 have q:=PySem.IsL.update e f;rw[hf]at q;refine I.write (by rw[hH];exact trivial) (.inl rfl) (λb' u hb hu=>(zxM s.heap _<|Ne.symm hb).trans hu) ⟨_,q⟩ ?_;exact⟨hz,its',_,hv,q⟩
def Inv.lnew(I:Inv X pins σ H s)(hv:zG ys its)(hz:ys.length<=sizeLine):
 Inv X pins σ (upd H s.heap.objs.size<|.lst ys) {s with heap:=s.heap.push {cls:=.type "list",data:=.seq its.toArray},toks:=t'}:=
 I.laid (λ_ _ q=>zxG _ q) (zzN _) ⟨hz,its,0,hv,zxI _ rfl⟩
theorem Inv.fresh(I:Inv X pins σ H s):H s.heap.objs.size=none:=I.hok.fresh<|zzN _
def Inv.lstM(I:Inv X pins σ H s)(hH:H l=some (.lst xs)):xs.length<=sizeLine/\∃(its:List Value) (n:Nat),zG xs its/\xs.length=its.length/\s.heap.get? l=some {cls:=.type "list",data:=.seq its.toArray n}:=by
 obtain⟨z,its,n,r,e⟩:=I.hok l _ hH;exact⟨z,its,n,r,r.length,e⟩
def T6(h:n<=sizeLine):Builtin.List.listTooLong n=false:=by
 unfold Builtin.List.listTooLong;exact zyF (by omega)
end
section
variable{X:Cx}
def Lb:V->List V->Hp->VK->Prop:=λx vs H Q=>∃l xs y,x = .ref l/\vs=[y]/\H l=some (.lst xs)/\xs.length<sizeLine/\Q .non (upd H l<|.lst<|xs++[y])
def vi:Jy X "list.append" Lb:=by
 intro pins s σ H x vs v us Q I rx rv h;obtain⟨l,xs,y,rfl,rfl,hH,hz,q⟩:=h;cases rx;obtain⟨u,rfl,ru⟩:=rv.one;obtain⟨z,its,n,r,hl,e⟩:=I.lstM hH;refine call_meets F.slot_list_append ⟨_,e,rfl⟩ F.entry_list_append (F.args_list_append_2 _ _) (PySem.list_append l its.toArray n u<|by rw[zzH];omega) ⟨e, ?_⟩;refine⟨.non,_,I.lset (its':=its++[u]) hH e (by simp) (r.append<|.cons ru .nil) ?_,rfl,q⟩;rw[zzJ,List.length_singleton];omega
def LF:V->List V->Hp->VK->Prop:=λx vs H Q=>∃l b xs zs,x = .ref l/\vs=[.ref b]/\H l=some (.lst xs)/\H b=some (.lst zs)/\xs.length+zs.length<=sizeLine/\Q .non (upd H l<|.lst<|xs++zs)
def ND:Jy X "list.extend" LF:=by
 intro pins s σ H x vs v us Q I rx rv h;obtain⟨l,b,xs,zs,rfl,rfl,hH,hB,hz,q⟩:=h;cases rx;obtain⟨u,rfl,ru⟩:=rv.one;cases ru;obtain⟨z,its,n,r,hl,e⟩:=I.lstM hH;obtain⟨z2,its2,n2,r2,hl2,e2⟩:=I.lstM hB;have hsz:its.toArray.size+its2.toArray.size<=sizeLine:=by rw[zzH,zzH];omega
 have hlong:¬(!its.toArray.isEmpty&&Builtin.List.listTooLong (its.toArray.size+its2.toArray.size))=true:=by
  rw[T6 hsz,Bool.and_false];exact zyU
 refine call_meets F.slot_list_extend ⟨_,e,rfl⟩ F.entry_list_extend (F.args_list_extend_2 _ _)
  (AutoSeq1.list_extend_list_list_0 l its.toArray n b its2.toArray n2 hlong (by rw[zzH];omega)<|by omega) ⟨e,e2, ?_⟩
 refine⟨.non,_,I.lset (its':=its++its2) hH e (by simp) (r.append r2) ?_,rfl,q⟩;rw[zzJ];omega
def EK:V->List V->Hp->VK->Prop:=λx vs H Q=>∃l xs i k y,x = .ref l/\vs=[.int i]/\H l=some (.lst xs) /\ -(2 ^ 63)<=i/\i<2 ^ 63/\seqIndex? i xs.length=some k/\xs[k]? = some y/\Q y (upd H l<|.lst<|xs.eraseIdx k)
def Gu:Jy X "list.pop" EK:=by
 intro pins s σ H x vs v us Q I rx rv h;obtain⟨l,xs,i,k,y,rfl,rfl,hH,h1,h2,hk,hy,q⟩:=h;cases rx;obtain⟨u,rfl,ru⟩:=rv.one;obtain⟨t,rfl⟩:=ru;obtain⟨z,its,n,r,hl,e⟩:=I.lstM hH;obtain⟨w,hw,rw'⟩:=r.get hy;refine call_meets F.slot_list_pop ⟨_,e,rfl⟩ F.entry_list_pop (F.args_list_pop_2 _ _)
  (MeetsSeq.list_pop_at l its.toArray n i t k w (fitsIndex_both h1 h2) (by rw[zzH,<-hl];exact hk) (by rw[<-Array.getElem?_toList];exact hw)<|by rw[zzH];omega) ⟨e, ?_⟩
 refine⟨y,_,I.lset (its':=its.eraseIdx k) hH e ?_ (r.eraseIdx k) ?_,rw',q⟩
 . show _=_;rw[List.eraseIdxIfInBounds_toArray]
 . have:=RB xs k;omega
def CS:V->List V->Hp->VK->Prop:=λx vs H Q=>∃l xs,x = .ref l/\vs=[]/\H l=some (.lst xs)/\Q .non (upd H l<|.lst [])
def Eo:Jy X "list.clear" CS:=by
 intro pins s σ H x vs v us Q I rx rv h;obtain⟨l,xs,rfl,rfl,hH,q⟩:=h;cases rx;have hus:=rv.zero;subst hus;obtain⟨z,its,n,r,hl,e⟩:=I.lstM hH;refine call_meets F.slot_list_clear ⟨_,e,rfl⟩ F.entry_list_clear (F.args_list_clear_1 _) (AutoSeq1.list_clear_list_0 l its.toArray n<|by rw[zzH];omega) ⟨e, ?_⟩;exact⟨.non,_,I.lset (its':=[]) hH e rfl .nil<|Nat.zero_le _,rfl,q⟩
def len_rep(xs:List α)(k:Nat):(List.replicate k xs).flatten.length=k*xs.length:=by
 induction k with
 |zero=>simp
 |succ k ih=>rw[List.replicate_succ,List.flatten_cons,zzJ,ih,Nat.succ_mul,Nat.add_comm]
end
end L2
namespace Att
open PySem PySem.W PySem.Calls PyProof.Rows
def Qm:∀(ns:List Int) (vs:List Value),WellAll P h vs (ns.map WData.int)->IntsAre vs ns:=by
 intro ns
 induction ns with
 |nil=>
  intro vs w;rw[List.map_nil]at w;cases w;exact .nil
 |cons n ns ih=>
  intro vs w;rw[zyR]at w;cases w with
  |cons a b=>
   cases a;exact .cons _ _<|ih _ b
def Nr{l:OpenLaw}{n:Nat}(hn:l.most=some n){P h args vals}
 (hpre:l.row.toRowW.claim.pre args=true) (hwl:WellAll P h vals args):
 ∃a vs ns,vals=[Value.ref a]/\args=[WData.list<|ns.map WData.int]/\h.get? a=some {cls:=.type "list",data:=.seq vs.toArray}/\IntsAre vs ns/\ns.length<=n:=by
 have hsh:=(pre_splitW hpre).1;have hc:l.pre.holds [] {args:=args}=true:=(pre_splitW hpre).2;obtain⟨d,r,rfl,h1,h2⟩:=hasAllW_cons hsh;obtain rfl:=hasAllW_nil h2;obtain⟨xs,rfl,h3⟩:=hasW_list h1;obtain⟨ns,rfl⟩:=items_int h3;have hlen:ns.length<=n:=by
  unfold OpenLaw.pre at hc;have h4:(WTm.not<|.lt (.lit<|.int (n:Int))<|.len<|.arg 0).holds [] {args:=[.list<|ns.map .int]}=true:=by
   have h4:=(holds_andW hc).1;rw[hn]at h4;exact h4
  have h5:=condW_of h4<|w_not<|w_lt w_lit<|w_len_list<|w_arg rfl;rw[zzB]at h5;refine Nat.le_of_not_lt λq=>?_;have q':n<(ns.length:Int):=by omega
  first
   |(rw[zyN q']at h5;exact absurd h5 (by decide))
   |(simp at h5;omega)
 cases hwl with
 |cons w1 w2=>
  cases w2;cases w1 with
  |list ho hall=>exact⟨_,_,ns,rfl,rfl,ho,Qm ns _ hall,hlen⟩
def Mb(l:OpenLaw)(args):l.row.toRowW.claim.post args (.bool true) args=true:=
 postW_of
  (show WShape.has [] _ .bool=true by first|rfl|decide|simp[WShape.has,WShape.arms,WShape.armsAll])
  (w_eq_bool (w_res rfl) w_lit) rfl
def Tu{l:OpenLaw}{n:Nat}{q loose XP YP d}
 (hn:l.most=some n) (hdf:d.params.defaults=[])
 (call:∀(w:World) (s₀ s₁:Shared) (mg mb:Str->Option Value) (fa:Addr) (o:Obj) (pm cd doc:Value) (a:Addr) (vs:List Value) (ns:List Int),
  Ground q loose [] XP w s₀ mg mb s₁.heap->YP w s₁.heap->
  s₁.heap.get? fa=some o->o.data = .func (docDef d.name d.params d.body d.scope pm cd doc)->s₁.heap.CodeRec cd d.name->mg d.name=some (.ref fa)->
  s₁.heap.get? a=some {cls:=.type "list",data:=.seq vs.toArray}->IntsAre vs ns->ns.length<=n->s₁.gens = #[]->
  codeAny (model l.prog w) callerA (.call (.ref fa) ⟨[.ref a],[]⟩) (λr s'=>r = .ok (.ret<|.bool true)/\OldK s₁.heap s'.heap/\s'.os=s₁.os/\AllBare s'.gens) s₁):
 WalkO q loose XP YP l.row.toRowW d [] (λf vs=>PySem.call f vs):=by
 intro w s₀ s₁ mg mb G Y fa o pm cd doc dV kV ho hd hcd hD hmg hg args vals as hpre hlay hrd hwl hlo;obtain rfl:dV = .none:=Dflts.none hD hdf;obtain rfl:kV = .none:=Dflts.noKw hD;obtain⟨a,vs,ns,rfl,rfl,hobj,hints,hlen⟩:=Nr hn hpre hwl;refine enter_call<|codeAny_mono (call w s₀ s₁ mg mb fa o pm cd doc a vs ns G Y ho (fd_plain hd) hcd hmg hobj hints hlen hg) λr s' hq=>?_;obtain⟨rfl,h2,h3,h4⟩:=hq;exact⟨.inl ⟨.bool true,.bool true,[],rfl,λ_=>rfl,.bool true,Mb l _,λ_=>⟨List.Pairwise.nil,λ_ hm=>(nomatch hm)⟩⟩,h2,h3,h4⟩
end Att
namespace L2
open PySem PySem.Spec PyProof.Rows
theorem vg:∀{vs:List Value}{ns:List Int},IntsAre vs ns->zG (ns.map V.int) vs
 |_,_,.nil=>.nil
 |_,_,.cons n t h=>.cons ⟨t,rfl⟩<|vg h
def HU(H:Hp):Prop:=∀b,H b=none\/∃o xs,H b=some (.frz o<|.lst xs)
def EU{P w K mg mb CX}{k:Nat}{fa a fd x sp s₁ vs ns}
 (KX:K.In s₁.heap) (hns:s₁.heap.Ns mainGlobals mg) (hb:s₁.heap.Ns builtinsNs mb) (hbb:∀x:Str,x≠"__name__"->mb x=bootBuiltins x) (hlim:s₁.heap.NoLimit) (hg:s₁.gens = #[])
 (ha:s₁.heap.get? a=some {cls:=.type "list",data:=.seq vs.toArray}) (hi:IntsAre vs ns) (hl:ns.length<=sizeLine) (hr:Room k callerA)
 (F:∀base:Heap,K.In base->base.Ns mainGlobals mg->FnOk P w K mg base CX k fa fd [x] sp) (hbind:∀(s:Shared) (u:Value),BindsTo s fd ⟨[u],[]⟩ [(x,u)])
 (hsp:∀H:Hp,HU H->E7 K H a (ns.map V.int)->sp [.ref a] H (λv _=>v = .bl true) λ_ _ _=>False)
 (hCX:∀H e s',CX [] H s₁ (λ_ _ _=>False) e s'->False):
 codeAny (model P w) callerA (.call (.ref fa) ⟨[.ref a],[]⟩) (λr s'=>r = .ok (.ret<|.bool true)/\OldK s₁.heap s'.heap/\s'.os=s₁.os/\AllBare s'.gens) s₁:=by
 have rv:=vg hi;have lenV:=hi.length;have core:∀H:Hp,HU H->E7 K H a (ns.map V.int)->Wi P w H s₁.heap->(∀b,H b≠none->b=a)->(H a≠none->K.lookup a=none)->
  codeAny (model P w) callerA (.call (.ref fa) ⟨[.ref a],[]⟩) (λr s'=>r = .ok (.ret<|.bool true)/\OldK s₁.heap s'.heap/\s'.os=s₁.os/\AllBare s'.gens) s₁:=by
  intro H hO hS hok hA hK;have base_of:∀{b:Addr}{o:Obj},s₁.heap.get? b=some o->H b=none->(NN s₁.heap H).get? b=some o:=λe n=>ET e n;have noA:∀{b:Addr}{o:Obj}{es:Array DictEntry}{ep:Nat},s₁.heap.get? b=some o->o.data = .dict es ep->H b=none:=λ{b o es ep} e d=>by
   cases q:H b with
   |none=>rfl
   |some u=>
    have e':b=a:=hA b (by rw[q];simp);subst e';rw[ha]at e;cases e;have d':Data.seq vs.toArray _=Data.dict es ep:=d;cases d'
  have nsK:∀{b:Addr}{m:Str->Option Value},s₁.heap.Ns b m->(NN s₁.heap H).Ns b m:=λ{b m} ⟨o,es,ep,e,d,r⟩=>⟨o,es,ep,base_of e<|noA e d,d,r⟩;have hKb:=λb o e=>base_of (KX b o e) (by
   cases q:H b with
   |none=>rfl
   |some u=>
    have e':b=a:=hA b (by rw[q];simp);subst e';rw[hK<|by rw[q];simp]at e;cases e)
  have hM:Mod K mg _:=⟨hKb,nsK hns,⟨mb,nsK hb,hbb⟩,let⟨mc,h1,h2⟩:=hlim;⟨mc,nsK h1,h2⟩⟩;have e0:Env0 P w K mg _ callerA [] s₁ H:=⟨rfl,hM,λb o e=>SE e,Nat.le_of_eq<|NF _ _,trivial,λb hb=>absurd (show b ∈ ([]:List Addr)from hb) (by simp),hok,.of_eq hg⟩;refine codeAny_mono ((F _ hKb<|nsK hns).run callerA [] s₁ H ⟨_,[]⟩ [.ref a] [.ref a] _ _ hr e0 (hbind s₁<|.ref a) (.cons rfl .nil)<|hsp H hO hS) λr s' h=>?_;cases r with
  |error e=>exact(hCX H e s' h).elim
  |ok fl=>
   cases fl with
   |next=>exact False.elim h
   |brk=>exact False.elim h
   |cont=>exact False.elim h
   |ret u=>
    obtain⟨v,H',os,bare,un,hok',r',q⟩:=h;have q':v = .bl true:=q;subst q';obtain rfl:u=Value.bool true:=r';refine⟨rfl,OldK.of_keep λb o e=>?_,os,bare⟩;cases q:H b with
    |none=>exact un.keep b o e q (by intro z;exact absurd (show b ∈ ([]:List Addr)from z)<|by simp) (by simp)
    |some u=>
     rcases hO b with z|⟨ob,xs,z⟩
     . rw[q]at z;cases z
     . have z2:=un.frzs b ob _ z;obtain⟨e1,_⟩:=hok b _ z;obtain⟨e2,_⟩:=hok' b _ z2;rw[e]at e1;cases e1;exact e2
 cases hk:K.lookup a with
 |some o=>
  have e:=KX a o hk;rw[ha]at e;cases e;refine core (λ_=>none) (λ_=>.inl rfl) (.inr ⟨vs.toArray,_,hk,by rw[zzH,lenV];exact hl,by simpa using rv⟩) (λb u z=>by have z':none=some u:=z;cases z') (λb z=>absurd rfl z) λz=>absurd rfl z
 |none=>
  refine core (λb=>if b=a then some _ else none) (λb=>?_) (.inl<|.inr ⟨{cls:=.type "list",data:=.seq vs.toArray},if_pos rfl⟩) (λb u z=>?_) (λb z=>?_) λ_=>hk
  . by_cases hb:b=a
    . exact .inr ⟨_,_,if_pos hb⟩
    . exact .inl<|if_neg hb
  . by_cases hb:b=a
    . have z':=(if_pos hb).symm.trans z;cases z';subst hb;exact⟨ha,by rw[zzB];exact hl,vs,_,rv,ha⟩
    . have z':=(if_neg hb).symm.trans z;cases z'
  . by_cases hb:b=a
    . exact hb
    . exact absurd (if_neg hb) z
end L2
namespace L2
open PySem PySem.Spec PyProof.Rows
def walk_of{l:PySem.W.OpenLaw}{n k:Nat}{q loose XP YP d}{K:Params->zzA}{CX:World->Hi}{sp:World->Sp}{x}
 (hn:l.most=some n) (hn2:n<=sizeLine) (hdf:d.params.defaults=[]) (hr:Room k callerA)
 (hY:∀(w:World) (h:Heap),YP w h->(K w.params).In h)
 (F:∀(w:World) (mg:Str->Option Value) (fa:Addr) (h:Heap),(K w.params).In h->h.Ns mainGlobals mg->mg d.name=some (.ref fa)->
  ∃fd:FuncData,(∀(s:Shared) (u:Value),BindsTo s fd ⟨[u],[]⟩ [(x,u)])/\
   ∀base:Heap,(K w.params).In base->base.Ns mainGlobals mg->FnOk l.prog w (K w.params) mg base (CX w) k fa fd [x] (sp w))
 (hsp:∀(w:World) (H:Hp) (a:Addr) (ns:List Int),ns.length<=n->HU H->E7 (K w.params) H a (ns.map V.int)->sp w [.ref a] H (λv _=>v = .bl true) λ_ _ _=>False)
 (hCX:∀(w:World) (H:Hp) (s:Shared) (e:Value) (s':Shared),CX w [] H s (λ_ _ _=>False) e s'->False):
 PySem.W.WalkO q loose XP YP l.row.toRowW d [] (λf vs=>PySem.call f vs):=by
 refine Att.Tu hn hdf λw s₀ s₁ mg mb fa o pm cd doc a vs ns G Y ho hd hcd hmg hobj hints hlen hg=>?_;have KX:=hY w _ Y;obtain⟨fd,hb,hF⟩:=F w mg fa _ KX G.T.g hmg;exact EU KX G.T.g G.T.b G.T.builtins G.T.nolimit hg hobj hints (zzO hlen hn2) hr hF hb (λH hO hS=>hsp w H a ns hlen hO hS) λH e s'=>hCX w H s₁ e s'
end L2
namespace L2
open PySem PySem.Spec PyProof.Rows
def QC(s:Stmt):Arguments:=match s with
 | .FunctionDef _ a _ _ _ _ _ _ _ _=>a
 |_=>{posonlyargs:=[],args:=[],vararg:=none,kwonlyargs:=[],kw_defaults:=[],kwarg:=none,defaults:=[]}
def vF(s:Stmt):List Stmt:=match s with
 | .FunctionDef _ _ b _ _ _ _ _ _ _=>b
 |_=>[]
def zj(s:Stmt):Scope:=match s with
 | .FunctionDef _ _ _ _ _ _ sc _ _ _=>sc
 |_=>{kind:=.function,names:=[],isGenerator:=false,isCoroutine:=false}
abbrev Tf:Hi:=λ_ _ _ _ _ _=>False
abbrev E0:XK:=λ_ _ _=>False
def LM:QL Tf X E0:=λ_ _ _ _ _ _ _ h=>h.elim
structure Fun(K:zzA)(x qual:Str)(st:Stmt)(f:Addr)(fd:FuncData):Prop where
 ex:∃(oc:Value) (od:Option Addr) (kV doc pm:Value) (an:Option Addr) (cdv ct:Value) (osl:Array (Option Value)),
  fd=W.fnOf x qual (QC st) (vF st) (zj st) .none kV doc pm an cdv ct/\K.lookup f=some ⟨oc,od,.func fd,osl⟩/\W.codeIn K cdv qual=true
 kp:W.keepIn K (.ref f)=true
section
variable{P:Program}{w:World}{K:zzA}{mg:Str->Option Value}{base:Heap}
def Fun.ok{x qual st f fd N ps}{k:Nat}{sp}(F:Fun K x qual st f fd)(S:FnScope N ps (zj st))(len:∀vs H Q E,sp vs H Q E->vs.length=ps.length)
 (hbody:∀(cdv:Value) (A:Around) (outer:List Env) (s:Shared) (H:Hp) (vs:List V) (Q:VK) (E:XK),Room k (A.deeper<|envOfC qual (zj st) s.heap.objs.size f cdv)->sp vs H Q E->
  ∃t,Gd (PQ Tf P w K mg base N qual (zj st) f cdv A outer s H E).nox (vF st) t/\t {nx:=λ_ H'=>Q .non H',rt:=Q} (start N vs) H):FnOk P w K mg base Tf (k+1) f fd ps sp:=by
 obtain⟨oc,od,kV,doc,pm,an,cdv,ct,osl,rfl,lk,hcd⟩:=F.ex;refine JM lk hcd S len λA outer s H vs Q E hr hsp=>?_;obtain⟨t,h,q⟩:=hbody cdv A outer s H vs Q E hr hsp;exact⟨t,h.nox,q⟩
def Fun.binds{x qual st f fd ps}(F:Fun K x qual st f fd)
 (h:∀(kV doc pm:Value) (an:Option Addr) (cdv ct:Value) (us:List Value),us.length=ps.length->bindArgs (W.fnOf x qual (QC st) (vF st) (zj st) .none kV doc pm an cdv ct) ⟨us,[]⟩=pure (ps.zip us)):Binds K fd ps []:=by
 obtain⟨oc,od,kV,doc,pm,an,cdv,ct,osl,rfl,lk,hcd⟩:=F.ex;exact .all<|h kV doc pm an cdv ct
end
def JV(hr:Room k A):A.units+1<cLine:=Nat.lt_of_le_of_lt (Nat.add_le_add_left (by decide:1<=64) _) hr.units
def zM(h:n<=1000):n<sizeLine:=Nat.lt_of_le_of_lt h (by decide)
section
variable{X:Cx}
def pv(i:Nat)(hN:X.N[i]? = some x:=by rfl)(hv:Ja X.env.scope x:=by first|exact Or.inl rfl|exact Or.inr (Or.inl rfl)|exact Or.inr (Or.inr rfl))(hd:(x==("__debug__":Str))=false:=by decide)
 (hcd:(x==("__classdict__":Str))=false:=by decide):PE X (.Name x pos) (YZ i):=Fw hN hv hd hcd
end
end L2
end
section
namespace G63
open PySem PySem.W PyProof.Rows L2
def top(i:Nat):Stmt:=PySem.Challenge.pw_stretchdeeds_k63_whether_a_sign_comes.main.body.getD i<|.Pass ⟨0,0,0,0⟩
abbrev xC:Stmt:=top 4
abbrev xF:Stmt:=top 5
abbrev wg:Stmt:=top 6
abbrev wV:Stmt:=top 7
abbrev w_:Stmt:=top 8
abbrev xW:Stmt:=top 9
abbrev WC:Stmt:=top 11
abbrev vG:Stmt:=top 12
abbrev ZC:Stmt:=top 13
abbrev Yx:Stmt:=top 14
abbrev Qy:Stmt:=top 15
abbrev wo:Stmt:=top 17
abbrev vM:Stmt:=top 18
abbrev vR:Stmt:=top 19
abbrev vN:Stmt:=top 20
abbrev wZ:Stmt:=top 21
abbrev xD:Stmt:=top 22
abbrev wY:Stmt:=top 23
abbrev we:Stmt:=top 24
abbrev vZ:Stmt:=top 25
abbrev wX:Stmt:=top 26
abbrev yG:Stmt:=top 27
abbrev Zw:Stmt:=top 28
abbrev wW:Stmt:=top 29
abbrev YN:Stmt:=top 30
abbrev vI:Stmt:=top 31
abbrev xk:Stmt:=top 32
abbrev Gg:Stmt:=top 33
abbrev hpg:=PySem.Challenge.pw_stretchdeeds_k63_whether_a_sign_comes
abbrev hva:Value:=.str "stretchdeeds.errors" 187
abbrev hvb:Value:=.str "stretchdeeds.algebras" 232
abbrev hvc:Value:=.str "stretchdeeds.coming" 299
abbrev hvd:Value:=.str "law_stretchdeeds_k63_whether_a_sign_comes" 349
abbrev hem:List Value:=[(.type "ValueError"), (.type "Exception"), (.type "BaseException"), (.type "object")]
abbrev kF(n q:Str)(s:Stmt)(pm hcd:Value):Obj:=⟨.type "function",none,.func<|fnOf n q (QC s) (vF s) (zj s) .none .none .none pm none hcd .none,#[]⟩
abbrev kD(es:List DictEntry)(n:Nat):Obj:=⟨.type "dict",none,.dict es.toArray n,#[]⟩
abbrev kE(P:Params)(x:Str)(t:Nat)(v:Value):DictEntry:=⟨PyData.keyHash P x,.str x t,v⟩
abbrev kR(P:Params)(x:Str)(t:Nat)(a:Addr):DictEntry:=kE P x t<|.ref a
abbrev hfl(c:Value)(l:List Value):Obj:=⟨c,none,.fields l.toArray,#[]⟩
abbrev hco(n q:Str)(t u:Nat)(l k g:Int)(b:Bool)(a:Nat)(r s v:Value):Obj:=hfl (.type "code") [.str n t,.str q<|t+1,.str "/claim/cut.py" (t+2),.int l 0,.int k 0,.int 0 0,.int 0 0,.int g 0,.ref a,.bool b,.int 181 0,.ref<|a+1,.none,r,s,v,.int u 0,.int l 0,.str "/claim/cut.py" (u+1)]
abbrev hc7(n q:Str)(t u:Nat)(l k:Int)(a:Nat):=hco n q t u l k 3 true a (.ref<|a+2) (.ref<|a+3)<|.ref<|a+4
abbrev hc5(n q:Str)(t:Nat)(l k:Int)(a:Nat):=hco n q t (t+3) l k 3 true a .none .none<|.ref<|a+2
noncomputable abbrev hen(P:Params):List DictEntry:=[kE P "__doc__" 166 .none,kE P "__package__" 167 .none,kE P "__loader__" 168<|.builtin "__main__.__loader__#opaque",kE P "__spec__" 169 .none,kR P "__annotations__" 170 6,kR P "__builtins__" 171 4,kE P "__file__" 173<|.str "/claim/cut.py" 172,kE P "__cached__" 174 .none,kR P "StretchError" 206 24,kR P "NotLetBy" 231 44,kR P "nothing_fails" 243 53,kR P "parting_fails" 255 60,kR P "doing_fails" 271 67,kR P "deeds_fail" 282 74,kR P "what_fails" 290 81,kR P "check_let_by" 298 88,kR P "two_of" 312 95,kR P "following" 318 100,kR P "take_new" 329 107,kR P "coming" 335 112,kR P "comes" 348 119,kR P "_law_cell_at" 358 126,kR P "_law_mixed" 367 133,kR P "_law_whole" 374 140,kR P "_law_words" 380 145,kR P "_law_common" 388 152,kR P "_law_joined_by" 399 159,kR P "_law_images" 405 164,kR P "_law_done_by" 411 169,kR P "_law_kinds" 421 176,kR P "_law_stream" 432 183,kR P "_law_algebra" 438 188,kR P "_law_copy" 444 193,kR P "_law_values" 457 200,kR P "_law_all" 463 205,kR P "_law_ahead" 471 212,kR P "_law_right" 477 217,kR P "law" 483 222]
def K(P:Params):Frag:=
 (nat_lit 3,kD (kE P "__name__" 165 hvd::hen P) 39)::
 (nat_lit 52,hc7 "nothing_fails" "nothing_fails" 234 241 10 1 47)::
 (nat_lit 53,kF "nothing_fails" "nothing_fails" xC hvb<|.ref 52)::
 (nat_lit 59,hc7 "parting_fails" "parting_fails" 244 253 17 1 54)::
 (nat_lit 60,kF "parting_fails" "parting_fails" xF hvb<|.ref 59)::
 (nat_lit 66,hc7 "doing_fails" "doing_fails" 256 269 26 3 61)::
 (nat_lit 67,kF "doing_fails" "doing_fails" wg hvb<|.ref 66)::
 (nat_lit 73,hc7 "deeds_fail" "deeds_fail" 272 280 37 1 68)::
 (nat_lit 74,kF "deeds_fail" "deeds_fail" wV hvb<|.ref 73)::
 (nat_lit 80,hc7 "what_fails" "what_fails" 283 288 46 1 75)::
 (nat_lit 81,kF "what_fails" "what_fails" w_ hvb<|.ref 80)::
 (nat_lit 87,hc7 "check_let_by" "check_let_by" 291 296 53 1 82)::
 (nat_lit 88,kF "check_let_by" "check_let_by" xW hvb<|.ref 87)::
 (nat_lit 94,hc7 "two_of" "two_of" 301 310 58 4 89)::
 (nat_lit 95,kF "two_of" "two_of" WC hvc<|.ref 94)::
 (nat_lit 99,hc5 "following" "following" 313 62 3 96)::
 (nat_lit 100,kF "following" "following" vG hvc<|.ref 99)::
 (nat_lit 106,hc7 "take_new" "take_new" 319 327 69 3 101)::
 (nat_lit 107,kF "take_new" "take_new" ZC hvc<|.ref 106)::
 (nat_lit 111,hc5 "coming" "coming" 330 75 2 108)::
 (nat_lit 112,kF "coming" "coming" Yx hvc<|.ref 111)::
 (nat_lit 118,hc7 "comes" "comes" 336 346 86 3 113)::
 (nat_lit 119,kF "comes" "comes" Qy hvc<|.ref 118)::
 (nat_lit 125,hc7 "_law_cell_at" "_law_cell_at" 351 356 94 2 120)::
 (nat_lit 126,kF "_law_cell_at" "_law_cell_at" wo hvd<|.ref 125)::
 (nat_lit 132,hc7 "_law_mixed" "_law_mixed" 359 365 98 2 127)::
 (nat_lit 133,kF "_law_mixed" "_law_mixed" vM hvd<|.ref 132)::
 (nat_lit 139,hc7 "_law_whole" "_law_whole" 368 372 101 1 134)::
 (nat_lit 140,kF "_law_whole" "_law_whole" vR hvd<|.ref 139)::
 (nat_lit 144,hc5 "_law_words" "_law_words" 375 103 2 141)::
 (nat_lit 145,kF "_law_words" "_law_words" vN hvd<|.ref 144)::
 (nat_lit 151,hc7 "_law_common" "_law_common" 381 386 112 2 146)::
 (nat_lit 152,kF "_law_common" "_law_common" wZ hvd<|.ref 151)::
 (nat_lit 158,hc7 "_law_joined_by" "_law_joined_by" 389 397 116 4 153)::
 (nat_lit 159,kF "_law_joined_by" "_law_joined_by" xD hvd<|.ref 158)::
 (nat_lit 163,hc5 "_law_images" "_law_images" 400 125 3 160)::
 (nat_lit 164,kF "_law_images" "_law_images" wY hvd<|.ref 163)::
 (nat_lit 168,hc5 "_law_done_by" "_law_done_by" 406 135 4 165)::
 (nat_lit 169,kF "_law_done_by" "_law_done_by" we hvd<|.ref 168)::
 (nat_lit 175,hc7 "_law_kinds" "_law_kinds" 412 419 141 1 170)::
 (nat_lit 176,kF "_law_kinds" "_law_kinds" vZ hvd<|.ref 175)::
 (nat_lit 182,hc7 "_law_stream" "_law_stream" 422 430 150 2 177)::
 (nat_lit 183,kF "_law_stream" "_law_stream" wX hvd<|.ref 182)::
 (nat_lit 187,hc5 "_law_algebra" "_law_algebra" 433 160 3 184)::
 (nat_lit 188,kF "_law_algebra" "_law_algebra" yG hvd<|.ref 187)::
 (nat_lit 192,hc5 "_law_copy" "_law_copy" 439 195 1 189)::
 (nat_lit 193,kF "_law_copy" "_law_copy" Zw hvd<|.ref 192)::
 (nat_lit 199,hc7 "_law_values" "_law_values" 445 455 200 5 194)::
 (nat_lit 200,kF "_law_values" "_law_values" wW hvd<|.ref 199)::
 (nat_lit 204,hc5 "_law_all" "_law_all" 458 205 2 201)::
 (nat_lit 205,kF "_law_all" "_law_all" YN hvd<|.ref 204)::
 (nat_lit 211,hc7 "_law_ahead" "_law_ahead" 464 469 219 2 206)::
 (nat_lit 212,kF "_law_ahead" "_law_ahead" vI hvd<|.ref 211)::
 (nat_lit 216,hc5 "_law_right" "_law_right" 472 225 5 213)::
 (nat_lit 217,kF "_law_right" "_law_right" xk hvd<|.ref 216)::
 (nat_lit 221,hc5 "law" "law" 478 242 1 218)::
 (nat_lit 222,kF "law" "law" Gg hvd<|.ref 221)::
 []
def kA:List Addr:=[3,52,53,59,60,66,67,73,74,80,81,87,88,94,95,99,100,106,107,111,112,118,119,125,126,132,133,139,140,144,145,151,152,158,159,163,164,168,169,175,176,182,183,187,188,192,193,199,200,204,205,211,212,216,217,221,222]
def qv:Program:={hpg with main:={hpg.main with body:=[1,2,4,5,6,7,8,9,11,12,13,14,15,17,18,19,20,21,22,23,24,25,26,27,28,29,30,31,32,33].map top}}
theorem kAe(P:Params):kA=(K P).map (·.1):=by kernel_rfl
set_option maxRecDepth 100000
theorem ws:PySem.Challenge.rw_stretchdeeds_k63_whether_a_sign_comes.wellSaid=true:=by kernel_rfl
abbrev Xt(s:Shared):Bool:=xlAt qv [] s&&recOk (RowW.records<|OpenRow.toRowW PySem.Challenge.rw_stretchdeeds_k63_whether_a_sign_comes.row) s
abbrev hk:Hook:=kHook K kA kAe
def htp(l:List Value):Obj:=⟨.type "tuple",none,.seq l.toArray 0,#[]⟩
def htx:Nat->List Str->List Value
 |_,[]=>[]
 |t,x::l=>.str x t::htx (t+1) l
noncomputable def hfO(a t:Nat)(r:Str)(v:Value)(s:Stmt):List Obj:=match s with
 | .FunctionDef n p b _ _ _ c _ _ o=>
  let q:=r++n;let S:Obj:=⟨.none,none,.func {name:=n,qualname:=q,params:=p,body:=.stmts b,scope:=c,globals:=0,closure:=[],defaults:=.none,kwdefaults:=.none},#[]⟩
  match localNames p c (.stmts b) with
  |some (x,_)=>[htp [],hfl .none [],htp<|htx (t+3) x,htp [],S,hc7 n q t (t+3+x.length) o.line p.args.length a,kF n q s v<|.ref<|a+5]
  |none=>[htp [],hfl .none [],S,hc5 n q t o.line p.args.length a,kF n q s v<|.ref<|a+3]
 |_=>[]
noncomputable def htk(s:Stmt):Nat:=match s with
 | .FunctionDef _ p b _ _ _ c _ _ _=>match localNames p c (.stmts b) with
  |some (x,_)=>6+x.length
  |none=>6
 |_=>0
noncomputable def hms(P:Params)(c:Str)(v:Value):Nat->Nat->List Stmt->List Obj×List DictEntry×List Value×Nat
 |_,t,[]=>([],[],[],t)
 |a,t,s::r=>match s with
  | .FunctionDef n _ _ _ _ _ _ _ _ o=>let f:=hfO a t (c++".") v s;let l:=a+f.length;let u:=t+htk s;let z:=hms P c v l u r;(f++z.1,kR P n (u-1) (l-1)::z.2.1,.int o.line 0:: .int 4 0:: .ref (l-2)::z.2.2.1,z.2.2.2)
  |_=>hms P c v a t r
def hfm(a b:Addr)(v:Value):Obj:=⟨.type "frame",none,.plain,#[some<|.ref a,some<|.ref 3,some<|.ref b,none,some v,none,some<|.ref 0]⟩
def hbf(x:String)(v:Value):Obj:=hfl (.type "builtin_function_or_method") [.builtin x,v]
def hgd(x:Str)(t:Nat)(c:Addr)(g s:Value):Obj:=hfl (.type "getset_descriptor") [.str x t,.ref c,g,s]
noncomputable def hcO(P:Params)(a t:Nat)(v:Value)(bv mr sb:List Value)(nw:String)(d:Nat)(s:Stmt):List Obj:=match s with
 | .ClassDef n _ _ b _ _ _ _ _ sa o=>
  let m:=hms P n v (a+7) (t+12) b;let e:=a+7+m.1.length;let k:=m.2.2.2+sa.length;let z:=k+1;let C:=e+2
  let x:=kE P "__module__" (t+7) v;let f:=kE P "__firstlineno__" (t+11)<|.int o.line<|t+10;let y:=kR P "__static_attributes__" k e
  let W:=λt:Nat=>hgd "__weakref__" t C (.builtin "ExceptionGroup.__weakref__") .none
  let D:List DictEntry×List Obj:=match d with
   |0=>([],[])
   |1=>([kR P "__weakref__" (z+1)<|C+1],[W z])
   |_=>([kR P "__dict__" (z+1)<|C+1,kR P "__weakref__" (z+3)<|C+2],[hgd "__dict__" z C (.builtin "function.__dict__")<|.builtin "function.__dict__#set",W<|z+2])
  [htp bv,hbf "type.__prepare__" (.type "type"),kD (x::kE P "__qualname__" (t+9) (.str n<|t+8)::f::m.2.1++[y])<|4+m.2.1.length,htp [],hfl .none m.2.2.1,hco n n (t+2) (t+5) o.line 0 0 false (a+3) .none .none .none,hfm (a+5) (a+2) v]++m.1++[htp<|htx m.2.2.2 sa,kD (x::f::m.2.1++y::D.1++[kE P "__doc__" (z+2*d) .none])<|2+d,⟨.type "type",none,.cls {name:=n,bases:=if bv.isEmpty then [.type "object"] else bv,mro:=.ref C::mr,ns:=e+1,qualname:=n,hasDict:=true,slotNames:=[],subclasses:=sb},#[if bv.isEmpty then none else some<|.ref a,none,some<|.str n t,some<|.str n<|t+8,some<|.builtin nw,some<|.bool true]⟩]++D.2++[hfl (.type "super") [.ref C,.ref C,.ref C],hbf "object.__init_subclass__" (.ref C)]
 |_=>[]
def hcs:List (Int×Addr):=[(2,20),(4,33),(10,52),(17,59),(26,66),(37,73),(46,80),(53,87),(58,94),(62,99),(69,106),(75,111),(86,118),(94,125),(98,132),(101,139),(103,144),(112,151),(116,158),(125,163),(135,168),(141,175),(150,182),(160,187),(195,192),(200,199),(205,204),(219,211),(225,216),(242,221)]
noncomputable def hhp(P:Params)(v:Value)(g c:Nat)(l:List Obj):Heap:=⟨⟨boot_o_0 P::boot_o_1 P::boot_o_2 P::kD (kE P "__name__" 165 v::(hen P).take g) (g+1)::boot_o_4 P::boot_o_5 P::boot_o_6 P::boot_o_7 P::boot_o_8 P::boot_o_9 P::boot_o_10 P::htp []::hfl .none ((hcs.take c).flatMap λp=>[.int p.1 0,.int 0 0,.ref p.2])::hco "<module>" "<module>" 182 185 1 0 0 false 11 .none .none .none::hfm 13 3 (.str "__main__" 164)::l⟩,(boot_heap P).life⟩
abbrev hbd:=behindTheImports hpg
abbrev hev:Env:={scope:=hpg.main.scope,locals:=mainNs,globals:=mainNs,cells:=[],code:=.ref 13,frame:=some 14}
abbrev hcd:Code:=.body hbd hev
noncomputable abbrev hSh(t:Nat)(h:Heap)(o:OsState):Shared:=⟨h,⟨[]⟩,boot_drawn,t,o⟩
def hl0(P:Params):List Obj:=hcO P 15 189 hva [(.type "ValueError")] hem [(.ref 44)] "ValueError.__new__" 1 (top 1)++hcO P 28 207 hva [(.ref 24)] ((.ref 24)::hem) [] "ValueError.__new__" 0 (top 2)++hfO 47 234 "" hvb (top 4)++hfO 54 244 "" hvb (top 5)++hfO 61 256 "" hvb (top 6)++hfO 68 272 "" hvb (top 7)++hfO 75 283 "" hvb (top 8)++hfO 82 291 "" hvb (top 9)++hfO 89 301 "" hvc (top 11)++hfO 96 313 "" hvc (top 12)++hfO 101 319 "" hvc (top 13)++hfO 108 330 "" hvc (top 14)++hfO 113 336 "" hvc (top 15)++hfO 120 351 "" hvd (top 17)++hfO 127 359 "" hvd (top 18)++hfO 134 368 "" hvd (top 19)++hfO 141 375 "" hvd (top 20)++hfO 146 381 "" hvd (top 21)++hfO 153 389 "" hvd (top 22)
def hl1(P:Params):List Obj:=hl0 P++hfO 160 400 "" hvd (top 23)++hfO 165 406 "" hvd (top 24)++hfO 170 412 "" hvd (top 25)++hfO 177 422 "" hvd (top 26)++hfO 184 433 "" hvd (top 27)++hfO 189 439 "" hvd (top 28)++hfO 194 445 "" hvd (top 29)++hfO 201 458 "" hvd (top 30)++hfO 206 464 "" hvd (top 31)++hfO 213 472 "" hvd (top 32)++hfO 218 478 "" hvd (top 33)
theorem hr0(w:World)(o:OsState):topGo treeTable hpg w 11 (some<|.ref 6) 12 (hSh boot_toks (boot_heap w.params) o) (topStub hpg)=some (hSh 187 (hhp w.params (.str "__main__" 164) 8 0 []) o,⟨denote treeTable hcd,hcd,⟨0,0,0,0⟩,[topFrame ⟨0,0,0,0⟩]⟩):=by kernel_rfl
theorem hr1(w:World)(o:OsState):segRun treeTable hpg w 11 (some<|.ref 6) 1 1 (hSh 187 (hhp w.params (.str "__main__" 164) 8 0 []) o) (blockOf hbd hev hcd ⟨0,0,0,0⟩ [topFrame ⟨0,0,0,0⟩])=some (.next,hSh 187 (hhp w.params (.str "__main__" 164) 8 0 []) o,hcd,⟨0,0,0,0⟩):=by kernel_rfl
theorem hs0(w:World)(o:OsState):segRun treeTable hpg w 11 (some<|.ref 6) 1 998 (hSh 187 (hhp w.params (.str "__main__" 164) 8 0 []) o) (piecesOf (hbd.take 23) hev hcd ⟨0,0,0,0⟩ [topFrame ⟨0,0,0,0⟩])=some (.next,hSh 400 (hhp w.params hvd 27 19<|hl0 w.params) o,hcd,⟨116,0,124,75⟩):=by kernel_rfl
abbrev hb0:=hbd.drop 23
theorem hs1(w:World)(o:OsState):topRun treeTable hpg w 11 (some<|.ref 6) 315 (hSh 400 (hhp w.params hvd 27 19<|hl0 w.params) o) (restOf hb0 hev hcd ⟨116,0,124,75⟩ [topFrame ⟨0,0,0,0⟩])=some (hSh 484 (hhp w.params hvd 38 30<|hl1 w.params) o):=by kernel_rfl
theorem hpa{w:World}{n N t t':Nat}{h h':Heap}{o:OsState}{r:Shared}{b:List Stmt}(m:Nat){p p':Pos}(x:segRun treeTable hpg w 11 (some<|.ref 6) 1 n (hSh t h o) (piecesOf (b.take m) hev hcd p [topFrame ⟨0,0,0,0⟩])=some (.next,hSh t' h' o,hcd,p'))(y:topRun treeTable hpg w 11 (some<|.ref 6) N (hSh t' h' o) (restOf (b.drop m) hev hcd p' [topFrame ⟨0,0,0,0⟩])=some r):topRun treeTable hpg w 11 (some<|.ref 6) (n+N) (hSh t h o) (restOf b hev hcd p [topFrame ⟨0,0,0,0⟩])=some r:=by
 have z:=piece_app x y;rwa[List.take_append_drop] at z
theorem hhr(w:World)(o:OsState):topRun treeTable hpg w 11 (some<|.ref 6) (12+(1+(998+315))) (hSh boot_toks (boot_heap w.params) o) (topStub hpg)=some (hSh 484 (hhp w.params hvd 38 30<|hl1 w.params) o):=go_top (hr0 w o)<|piece_block (hr1 w o)<|hpa _ (hs0 w o)<|hs1 w o
def hhf(P:Params):Heap:=hhp P hvd 38 30<|hl1 P
theorem hhq(w:World):(λo=>((staticsOk (importedModules hpg.main.body) (boot_heap w.params) (hhf w.params)&&namesBound hpg (hhf w.params)&&gensDone (hSh 484 (hhf w.params) o)&&laidKept (boot_heap w.params) (hhf w.params)),openSeen qv [] (importedModules hpg.main.body) Xt true<|hSh 484 (hhf w.params) o,hk.obs<|hSh 484 (hhf w.params) o))=λ_=>(true,openGood qv [],hk.val w):=by kernel_rfl
theorem hl:LeftO PySem.Challenge.pw_stretchdeeds_k63_whether_a_sign_comes qv [] Xt hk.obs hk.val 4000:=LeftO.of_pieces (H₀:=boot_heap) (H₁:=hhf) (boot_open (by kernel_rfl) rfl λ_=>by kernel_rfl) (λ_=>by kernel_rfl) hhr rfl hhq
end G63
end
section
namespace PF
open PySem PySem.Spec PyProof.Rows L2
abbrev St:=L2.St
structure KD where
 d:Addr->List (Key×V)->Prop
 c:Str->Addr
instance:CoeFun KD (λ_=>Addr->List (Key×V)->Prop):=⟨KD.d⟩
inductive D where
 |non|bl (b:Bool)|int (i:Int)|str (x:Str)|tup (ds:List D)|lst (ds:List D)|dct (kvs:List (Key×D))|cl (c:Str)|ob (c:Str) (ns:List Str) (ds:List D)|dt (ks:List (List Key)) (ds:List D)|er (c an:Str) (d:D)
def XB(a C dx:Addr):Heap->Prop:=λh=>∃o,h.get? a=some o/\o.cls = .ref C/\o.dict=some dx/\∃vs,o.data = .fields vs
mutual
inductive Rp(K:zzA)(kd:KD)(O:Addr->Prop)(H:Hp):V->D->Prop
 |non:Rp K kd O H .non .non
 |bl (b:Bool):Rp K kd O H (.bl b) (.bl b)
 |int (i:Int):Rp K kd O H (.int i) (.int i)
 |str (x:Str):Rp K kd O H (.str x) (.str x)
 |tup {a:Addr}{vs:List V}{ds:List D}:¬O a->H a=some (.tup vs)->RpL K kd O H vs ds->Rp K kd O H (.ref a) (.tup ds)
 |lst {a:Addr}{vs:List V}{ds:List D}:¬O a->Rd H a (.lst vs)->RpL K kd O H vs ds->Rp K kd O H (.ref a) (.lst ds)
 |lstK {a:Addr}{its:Array Value}{n:Nat}{vs:List V}{ds:List D}:K.lookup a=some {cls:=.type "list",data:=.seq its n}->its.size<=sizeLine->zG vs its.toList->RpL K kd O H vs ds->Rp K kd O H (.ref a) (.lst ds)
 |dct {a:Addr}{kvs:List (Key×V)}{ds:List (Key×D)}:¬O a->Rd H a (.dK kvs)->RpM K kd O H kvs ds->Rp K kd O H (.ref a) (.dct ds)
 |dctK {a:Addr}{kvs:List (Key×V)}{ds:List (Key×D)}:kd a kvs->RpM K kd O H kvs ds->Rp K kd O H (.ref a) (.dct ds)
 |cl (c:Str):Rp K kd O H (.ref (kd.c c)) (.cl c)
 |ob {a dx:Addr}{c:Str}{ns:List Str}{vs:List V}{ds:List D}:¬O a->H a=some (.ins (kd.c c) dx (ns.zip vs))->ns.length=vs.length->RpL K kd O H vs ds->Rp K kd O H (.ref a) (.ob c ns ds)
 |dt {a:Addr}{ks:List (List Key)}{vs:List V}{ds:List D}:¬O a->H a=some (.dT (ks.zip vs))->ks.length=vs.length->RpL K kd O H vs ds->Rp K kd O H (.ref a) (.dt ks ds)
 |er {a dx:Addr}{c an:Str}{v:V}{d:D}:¬O a->¬O dx->H a=some (.ext (XB a (kd.c c) dx))->H dx=some (.xd [(an,v)])->Rp K kd O H v d->Rp K kd O H (.ref a) (.er c an d)
inductive RpL(K:zzA)(kd:KD)(O:Addr->Prop)(H:Hp):List V->List D->Prop
 |nil:RpL K kd O H [] []
 |cons {v:V}{d:D}{vs:List V}{ds:List D}:Rp K kd O H v d->RpL K kd O H vs ds->RpL K kd O H (v::vs) (d::ds)
inductive RpM(K:zzA)(kd:KD)(O:Addr->Prop)(H:Hp):List (Key×V)->List (Key×D)->Prop
 |nil:RpM K kd O H [] []
 |cons {k:Key}{v:V}{d:D}{vs:List (Key×V)}{ds:List (Key×D)}:Rp K kd O H v d->RpM K kd O H vs ds->RpM K kd O H ((k,v)::vs) ((k,d)::ds)
end
structure Grow(W:Addr->Prop)(H:Hp)(W':Addr->Prop)(H':Hp):Prop where
 keep:∀b o,H b=some o->¬W b->H' b=some o
 own:∀b,W' b->W b\/H b=none
def Grow.refl:Grow W H W H:=⟨λ_ _ h _=>h,λ_ h=>.inl h⟩
def Grow.trans(a:Grow W H W1 H1)(b:Grow W1 H1 W2 H2):Grow W H W2 H2 where
 keep:=λx o h n=>b.keep x o (a.keep x o h n) λq=>(a.own x q).elim n λz=>by rw[z]at h;cases h
 own:=λx q=>by
  rcases b.own x q with h|h
  . exact a.own x h
  . cases e:H x with
    |none=>exact .inr rfl
    |some o=>
     refine .inl<|Classical.byContradiction λn=>?_;rw[a.keep x o e n]at h;cases h
def Grow.less(h:∀a,W' a->W a):Grow W H W' H:=⟨λ_ _ q _=>q,λb q=>.inl<|h b q⟩
def Grow.wr(h:W p):Grow W H W (upd H p o):=
 ⟨λb u q n=>by rw[zy λe=>n<|by rw[e];exact h];exact q,λ_ q=>.inl q⟩
abbrev Xs(F W:Addr->Prop):Addr->Prop:=λa=>F a\/W a
section
variable{K:zzA}{kd:KD}{F W W':Addr->Prop}{H H':Hp}
def X2(g:Grow W H W' H')(n:¬W a)(h:Rd H a u):Rd H' a u:=by
 rcases h with h|⟨o,h⟩
 . exact .inl<|g.keep _ _ h n
 . exact .inr ⟨o,g.keep _ _ h n⟩
def B_(h:Rd H a u):H a≠none:=by
 rcases h with h|⟨o,h⟩<;>(rw[h];simp)
def vE(g:Grow W H W' H')(n:¬Xs F W a)(h:Rd H a u):¬Xs F W' a:=λq=>
 q.elim (λz=>n<|.inl z) λz=>(g.own a z).elim (λy=>n<|.inr y) λy=>B_ h y
def Rp.grow(g:Grow W H W' H')(h:Rp K kd (Xs F W) H v d):Rp K kd (Xs F W') H' v d:=
 Rp.rec .non .bl .int .str (λn h _ r=>.tup (vE g n<|.inl h) (g.keep _ _ h λz=>n<|.inr z) r) (λn h _ r=>.lst (vE g n h) (X2 g (λz=>n<|.inr z) h) r) (λa e f _ r=>.lstK a e f r) (λn h _ r=>.dct (vE g n h) (X2 g (λz=>n<|.inr z) h) r) (λh _ r=>.dctK h r) .cl (λn h l _ r=>.ob (vE g n<|.inl h) (g.keep _ _ h λz=>n<|.inr z) l r) (λn h l _ r=>.dt (vE g n<|.inl h) (g.keep _ _ h λz=>n<|.inr z) l r) (λn m h k _ r=>.er (vE g n<|.inl h) (vE g m<|.inl k) (g.keep _ _ h λz=>n<|.inr z) (g.keep _ _ k λz=>m<|.inr z) r) .nil (λ_ _ h r=>.cons h r) .nil (λ_ _ h r=>.cons h r) h
def RpL.ind{O}{P:List V->List D->Prop}(h0:P [] [])(h1:∀{v d vs ds},Rp K kd O H v d->RpL K kd O H vs ds->P vs ds->P (v::vs) (d::ds)){vs}{ds}(h:RpL K kd O H vs ds):P vs ds:=
 RpL.rec (motive_1:=λ_ _ _=>True) (motive_3:=λ_ _ _=>True) ⟨⟩ (λ_=>⟨⟩) (λ_=>⟨⟩) (λ_=>⟨⟩) (λ_ _ _ _=>⟨⟩) (λ_ _ _ _=>⟨⟩) (λ_ _ _ _ _=>⟨⟩) (λ_ _ _ _=>⟨⟩) (λ_ _ _=>⟨⟩) (λ_=>⟨⟩) (λ_ _ _ _ _=>⟨⟩) (λ_ _ _ _ _=>⟨⟩) (λ_ _ _ _ _ _=>⟨⟩) h0 (λa r _ ih=>h1 a r ih) ⟨⟩ (λ_ _ _ _=>⟨⟩) h
def RpM.ind{O}{P:List (Key×V)->List (Key×D)->Prop}(h0:P [] [])(h1:∀{k v d vs ds},Rp K kd O H v d->RpM K kd O H vs ds->P vs ds->P ((k,v)::vs) ((k,d)::ds)){vs}{ds}(h:RpM K kd O H vs ds):P vs ds:=
 RpM.rec (motive_1:=λ_ _ _=>True) (motive_2:=λ_ _ _=>True) ⟨⟩ (λ_=>⟨⟩) (λ_=>⟨⟩) (λ_=>⟨⟩) (λ_ _ _ _=>⟨⟩) (λ_ _ _ _=>⟨⟩) (λ_ _ _ _ _=>⟨⟩) (λ_ _ _ _=>⟨⟩) (λ_ _ _=>⟨⟩) (λ_=>⟨⟩) (λ_ _ _ _ _=>⟨⟩) (λ_ _ _ _ _=>⟨⟩) (λ_ _ _ _ _ _=>⟨⟩) ⟨⟩ (λ_ _ _ _=>⟨⟩) h0 (λa r _ ih=>h1 a r ih) h
theorem RpL.grow(g:Grow W H W' H'){vs:List V}{ds}(h:RpL K kd (Xs F W) H vs ds):RpL K kd (Xs F W') H' vs ds:=RpL.ind .nil (λa _ r=>.cons (Rp.grow g a) r) h
theorem RpM.grow(g:Grow W H W' H'){vs:List (Key×V)}{ds}(h:RpM K kd (Xs F W) H vs ds):RpM K kd (Xs F W') H' vs ds:=RpM.ind .nil (λa _ r=>.cons (Rp.grow g a) r) h
def Rp.less(g:∀a,O' a->O a)(h:Rp K kd O H v d):Rp K kd O' H v d:=
 Rp.rec .non .bl .int .str (λn h _ r=>.tup (λz=>n<|g _ z) h r) (λn h _ r=>.lst (λz=>n<|g _ z) h r) (λa e f _ r=>.lstK a e f r) (λn h _ r=>.dct (λz=>n<|g _ z) h r) (λh _ r=>.dctK h r) .cl (λn h l _ r=>.ob (λz=>n<|g _ z) h l r) (λn h l _ r=>.dt (λz=>n<|g _ z) h l r) (λn m h k _ r=>.er (λz=>n<|g _ z) (λz=>m<|g _ z) h k r) .nil (λ_ _ h r=>.cons h r) .nil (λ_ _ h r=>.cons h r) h
theorem RpL.less{O O':Addr->Prop}(g:∀a,O' a->O a){vs}{ds}(h:RpL K kd O H vs ds):RpL K kd O' H vs ds:=RpL.ind .nil (λa _ r=>.cons (Rp.less g a) r) h
theorem RpM.less{O O':Addr->Prop}(g:∀a,O' a->O a){vs}{ds}(h:RpM K kd O H vs ds):RpM K kd O' H vs ds:=RpM.ind .nil (λa _ r=>.cons (Rp.less g a) r) h
theorem RpL.length{O:Addr->Prop}{vs}{ds}(h:RpL K kd O H vs ds):vs.length=ds.length:=RpL.ind (P:=λvs ds=>vs.length=ds.length) rfl (λ_ _ r=>congrArg (· + 1) r) h
theorem RpM.length{O:Addr->Prop}{vs}{ds}(h:RpM K kd O H vs ds):vs.length=ds.length:=RpM.ind (P:=λvs ds=>vs.length=ds.length) rfl (λ_ _ r=>congrArg (· + 1) r) h
def RpL.get{O}{vs:List V}{ds}{i:Nat}{d}(h:RpL K kd O H vs ds)(e:ds[i]? = some d):∃v,vs[i]? = some v/\Rp K kd O H v d:=
 RpL.ind (P:=λvs ds=>∀i,ds[i]? = some d->∃v,vs[i]? = some v/\Rp K kd O H v d) (λi e=>by rw[List.getElem?_nil]at e;cases e) (λa _ ih i e=>by
  cases i with
  |zero=>cases e;exact⟨_,rfl,a⟩
  |succ i=>exact ih i e) h i e
def RpL.append{O:Addr->Prop}{vs ws}{ds es}(h:RpL K kd O H vs ds)(r:RpL K kd O H ws es):RpL K kd O H (vs++ws) (ds++es):=RpL.ind (P:=λvs ds=>RpL K kd O H (vs++ws)<|ds++es) r (λa _ t=>.cons a t) h
theorem RpL.take{O:Addr->Prop}{vs}{ds}(n:Nat)(h:RpL K kd O H vs ds):RpL K kd O H (vs.take n) (ds.take n):=
 RpL.ind (P:=λvs ds=>∀n,RpL K kd O H (vs.take n)<|ds.take n) (λn=>by rw[List.take_nil,List.take_nil];exact .nil) (λa _ ih n=>by
  cases n with
  |zero=>exact .nil
  |succ n=>exact .cons a (ih n)) h n
theorem RpL.drop{O:Addr->Prop}{vs}{ds}(n:Nat)(h:RpL K kd O H vs ds):RpL K kd O H (vs.drop n) (ds.drop n):=
 RpL.ind (P:=λvs ds=>∀n,RpL K kd O H (vs.drop n)<|ds.drop n) (λn=>by rw[List.drop_nil,List.drop_nil];exact .nil) (λa b ih n=>by
  cases n with
  |zero=>exact .cons a b
  |succ n=>exact ih n) h n
theorem RpL.rep(h:RpL K kd O H vs ds):∀k:Nat,RpL K kd O H (List.replicate k vs).flatten (List.replicate k ds).flatten
 |0=>.nil
 |k+1=>by
  rw[List.replicate_succ,List.replicate_succ,List.flatten_cons,List.flatten_cons];exact h.append<|RpL.rep h k
end
inductive Vw(K:zzA)(kd:KD)(O:Addr->Prop)(H:Hp):V->D->Prop
 |non:Vw K kd O H .non .non
 |bl (b:Bool):Vw K kd O H (.bl b) (.bl b)
 |int (i:Int):Vw K kd O H (.int i) (.int i)
 |str (x:Str):Vw K kd O H (.str x) (.str x)
 |tup {a:Addr}{vs:List V}{ds:List D}:Rp K kd O H (.ref a) (.tup ds)->VZ K H a vs->RpL K kd O H vs ds->Vw K kd O H (.ref a) (.tup ds)
 |lst {a:Addr}{vs:List V}{ds:List D}:E7 K H a vs->RpL K kd O H vs ds->Vw K kd O H (.ref a) (.lst ds)
 |dct {a:Addr}{kvs:List (Key×V)}{ds:List (Key×D)}:(Rd H a (.dK kvs)\/kd a kvs)->RpM K kd O H kvs ds->Vw K kd O H (.ref a) (.dct ds)
 |cl (c:Str):Vw K kd O H (.ref (kd.c c)) (.cl c)
 |ob {a dx:Addr}{c:Str}{ns:List Str}{vs:List V}{ds:List D}:H a=some (.ins (kd.c c) dx (ns.zip vs))->ns.length=vs.length->RpL K kd O H vs ds->Vw K kd O H (.ref a) (.ob c ns ds)
 |dt {a:Addr}{ks:List (List Key)}{vs:List V}{ds:List D}:H a=some (.dT (ks.zip vs))->ks.length=vs.length->RpL K kd O H vs ds->Vw K kd O H (.ref a) (.dt ks ds)
 |er {a dx:Addr}{c an:Str}{v:V}{d:D}:H a=some (.ext (XB a (kd.c c) dx))->H dx=some (.xd [(an,v)])->Rp K kd O H v d->Vw K kd O H (.ref a) (.er c an d)
def Rp.vw{K}{kd}{O}{H}{v}{d}(h:Rp K kd O H v d):Vw K kd O H v d:=by
 cases h with
 |non=>exact .non
 |bl b=>exact .bl b
 |int i=>exact .int i
 |str x=>exact .str x
 |tup n h r=>exact .tup (.tup n h r) (.inl<|.inl h) r
 |lst n h r=>exact .lst (.inl h) r
 |lstK a e f r=>exact .lst (.inr ⟨_,_,a,e,f⟩) r
 |dct n h r=>exact .dct (.inl h) r
 |dctK h r=>exact .dct (.inr h) r
 |cl c=>exact .cl c
 |ob n h l r=>exact .ob h l r
 |dt n h l r=>exact .dt h l r
 |er n m h k r=>exact .er h k r
def _root_.L2.E7.sq{K}{H}{a}{xs}(h:E7 K H a xs):Qn K H a xs:=by
 rcases h with h|⟨its,n,k,z,r⟩
 . exact .inl h
 . exact .inr ⟨_,its,n,k,rfl,rfl,rfl,z,r⟩
def KP(I:Inv X pins σ H s)(h:E7 X.K H a xs):
 xs.length<=sizeLine/\∃(its:List Value) (n:Nat),zG xs its/\s.heap.get? a=some {cls:=.type "list",data:=.seq its.toArray n}:=by
 rcases h with h|⟨its,n,k,z,r⟩
 . exact h.ok I.hok
 . refine⟨by rw[r.length];simpa using z,its.toList,n,r,by simpa using I.kIn _ _ k⟩
def Rp.cl_eq{K}{kd}{O}{H}{C}{c}(h:Rp K kd O H (.ref C) (.cl c)):C=kd.c c:=by
 cases h;rfl
def zB:D->Bool
 | .non=>true | .bl _=>true | .int _=>true | .str _=>true|_=>false
def Rp.flat{K}{kd}{O O'}{H H'}{v}{d}(h:Rp K kd O H v d)(e:zB d=true):Rp K kd O' H' v d:=by
 cases h with
 |non=>exact .non
 |bl b=>exact .bl b
 |int i=>exact .int i
 |str x=>exact .str x
 |_=>cases e
inductive Kind where
 |ls|tp|dc (ks:List Key)|ob (c:Str) (ns:List Str)|dt (ks:List (List Key))
inductive O where
 |lf (st:Bool) (d:D)|nd (k:Kind) (os:List O)
abbrev Le(st:Bool)(d:D):O:=.lf (zB d||st) d
mutual
inductive Ro(L:Bool->V->D->Prop)(N:Addr->Prop)(H:Hp):V->O->List Addr->Prop
 |lf {st:Bool}{v:V}{d:D}:L st v d->Ro L N H v (.lf st d) []
 |ls {a:Addr}{vs:List V}{os:List O}{fp:List Addr}:H a=some (.lst vs)->RoL L N H vs os fp->Ro L N H (.ref a) (.nd .ls os) (a::fp)
 |dc {a:Addr}{ks:List Key}{vs:List V}{os:List O}{fp:List Addr}:H a=some (.dK (ks.zip vs))->ks.length=vs.length->RoL L N H vs os fp->Ro L N H (.ref a) (.nd (.dc ks) os) (a::fp)
 |ob {a dx C:Addr}{c:Str}{ns:List Str}{vs:List V}{os:List O}{fp:List Addr}:L true (.ref C) (.cl c)->H a=some (.ins C dx (ns.zip vs))->ns.length=vs.length->RoL L N H vs os fp->Ro L N H (.ref a) (.nd (.ob c ns) os) (a::fp)
 |dt {a:Addr}{ks:List (List Key)}{vs:List V}{os:List O}{fp:List Addr}:H a=some (.dT (ks.zip vs))->ks.length=vs.length->RoL L N H vs os fp->Ro L N H (.ref a) (.nd (.dt ks) os) (a::fp)
 |tp {a:Addr}{vs:List V}{os:List O}{fp:List Addr}:N a->H a=some (.tup vs)->RoL L N H vs os fp->Ro L N H (.ref a) (.nd .tp os) fp
inductive RoL(L:Bool->V->D->Prop)(N:Addr->Prop)(H:Hp):List V->List O->List Addr->Prop
 |nil:RoL L N H [] [] []
 |cons {v:V}{o:O}{vs:List V}{os:List O}{fp fq:List Addr}:Ro L N H v o fp->RoL L N H vs os fq->RoL L N H (v::vs) (o::os) (fp++fq)
end
mutual
def O.toD:O->D
 | .lf _ d=>d
 | .nd .ls os=>.lst<|O.toDs os
 | .nd .tp os=>.tup<|O.toDs os
 | .nd (.dc ks) os=>.dct<|ks.zip<|O.toDs os
 | .nd (.ob c ns) os=>.ob c ns<|O.toDs os
 | .nd (.dt ks) os=>.dt ks<|O.toDs os
def O.toDs:List O->List D
 | []=>[]
 |o::r=>o.toD::O.toDs r
end
mutual
def O.str:O->Bool
 | .lf st _=>st
 | .nd _ os=>O.strs os
def O.strs:List O->Bool
 | []=>true
 |o::r=>o.str&&O.strs r
end
section
variable{L L':Bool->V->D->Prop}{N N':Addr->Prop}{H H':Hp}{K:zzA}{kd:KD}{Ob:Addr->Prop}
def Ro.mono(hL:∀st v d,L st v d->L' st v d)(hN:∀a vs,N a->H a=some (.tup vs)->N' a/\H' a=some (.tup vs))(k:∀a ∈ fp,∀u,H a=some u->H' a=some u)(h:Ro L N H v o fp):Ro L' N' H' v o fp:=
 Ro.rec (motive_2:=λvs os fp _=>(∀a ∈ fp,∀u,H a=some u->H' a=some u)->RoL L' N' H' vs os fp)
  (λh _=>.lf<|hL _ _ _ h) (λh _ r k=>.ls (k _ zzF _ h)<|r λa m=>k a<|zzD _ m) (λh l _ r k=>.dc (k _ zzF _ h) l<|r λa m=>k a<|zzD _ m) (λc h l _ r k=>.ob (hL _ _ _ c) (k _ zzF _ h) l<|r λa m=>k a<|zzD _ m) (λh l _ r k=>.dt (k _ zzF _ h) l<|r λa m=>k a<|zzD _ m) (λn h _ r k=>.tp (hN _ _ n h).1 (hN _ _ n h).2<|r k)
  (λ_=>.nil) (λ_ _ h r k=>.cons (h λa m=>k a<|zzP _ m)<|r λa m=>k a<|zzL _ m) h k
def RoL.ind{P:List V->List O->List Addr->Prop}(h0:P [] [] [])(h1:∀{v o vs os fp fq},Ro L N H v o fp->RoL L N H vs os fq->P vs os fq->P (v::vs) (o::os) (fp++fq)){vs}{os}{fp}(h:RoL L N H vs os fp):P vs os fp:=
 RoL.rec (motive_1:=λ_ _ _ _=>True) (λ_=>⟨⟩) (λ_ _ _=>⟨⟩) (λ_ _ _ _=>⟨⟩) (λ_ _ _ _ _=>⟨⟩) (λ_ _ _ _=>⟨⟩) (λ_ _ _ _=>⟨⟩) h0 (λa r _ ih=>h1 a r ih) h
theorem RoL.mono(hL:∀st v d,L st v d->L' st v d)(hN:∀a vs,N a->H a=some (.tup vs)->N' a/\H' a=some (.tup vs)){vs:List V}{os}{fp}(k:∀a ∈ fp,∀u,H a=some u->H' a=some u)(h:RoL L N H vs os fp):RoL L' N' H' vs os fp:=
 RoL.ind (P:=λvs os fp=>(∀a ∈ fp,∀u,H a=some u->H' a=some u)->RoL L' N' H' vs os fp) (λ_=>.nil) (λh _ r k=>.cons (Ro.mono hL hN (λa m=>k a<|zzP _ m) h)<|r λa m=>k a<|zzL _ m) h k
theorem QA:∀{ks:List Key}{vs:List V}{ds:List D},RpL K kd Ob H vs ds->ks.length=vs.length->RpM K kd Ob H (ks.zip vs) (ks.zip ds)
 | [],_,_,_,_=>.nil
 |_::_,_,_,.nil,e=>by simp at e
 |_::_,_,_,.cons h r,e=>.cons h (QA r<|by simpa using e)
def Ro.rp(b)(hL:∀st v d,(b=true->st=true)->L st v d->Rp K kd Ob H v d)(hN:∀a,N a->¬Ob a){v}{o}{fp}(s:b=true->o.str=true)(k:∀a ∈ fp,¬Ob a)(h:Ro L N H v o fp):Rp K kd Ob H v o.toD:=
 Ro.rec (motive_2:=λvs os fp _=>(b=true->O.strs os=true)->(∀a ∈ fp,¬Ob a)->RpL K kd Ob H vs (O.toDs os))
  (λh s _=>hL _ _ _ s h) (λh _ r s k=>.lst (k _ zzF) (.inl h)<|r s λa m=>k a<|zzD _ m) (λh l _ r s k=>.dct (k _ zzF) (.inl h)<|QA (r s λa m=>k a<|zzD _ m) l) (λc h l _ r s k=>by
   have e:=(hL _ _ _ (λ_=>rfl) c).cl_eq;subst e;exact .ob (k _ zzF) h l<|r s λa m=>k a<|zzD _ m) (λh l _ r s k=>.dt (k _ zzF) h l<|r s λa m=>k a<|zzD _ m) (λn h _ r s k=>.tup (hN _ n) h<|r s k)
  (λ_ _=>.nil) (λ_ _ h r s k=>.cons (h (λz=>((zyB _ _).mp<|s z).1) λa m=>k a<|zzP _ m)<|r (λz=>((zyB _ _).mp<|s z).2) λa m=>k a<|zzL _ m) h s k
theorem RoL.rp(b:Bool)(hL:∀st v d,(b=true->st=true)->L st v d->Rp K kd Ob H v d)(hN:∀a,N a->¬Ob a){vs}{os}{fp}(s:b=true->O.strs os=true)(k:∀a ∈ fp,¬Ob a)(h:RoL L N H vs os fp):RpL K kd Ob H vs (O.toDs os):=
 RoL.ind (P:=λvs os fp=>(b=true->O.strs os=true)->(∀a ∈ fp,¬Ob a)->RpL K kd Ob H vs (O.toDs os)) (λ_ _=>.nil) (λh _ r s k=>.cons (Ro.rp b hL hN (λz=>((zyB _ _).mp<|s z).1) (λa m=>k a<|zzP _ m) h)<|r (λz=>((zyB _ _).mp<|s z).2) λa m=>k a<|zzL _ m) h s k
theorem RoL.length{vs:List V}{os}{fp}(h:RoL L N H vs os fp):vs.length=os.length:=RoL.ind (P:=λvs os _=>vs.length=os.length) rfl (λ_ _ r=>congrArg (· + 1) r) h
theorem Ys:∀os:List O,(O.toDs os).length=os.length
 | []=>rfl
 |_::r=>congrArg (· + 1)<|Ys r
def RoL.append{vs ws:List V}{os ps}{f g}(h:RoL L N H vs os f)(r:RoL L N H ws ps g):RoL L N H (vs++ws) (os++ps) (f++g):=RoL.ind (P:=λvs os f=>RoL L N H (vs++ws) (os++ps)<|f++g) r (λh _ t=>by rw[zxB];exact .cons h t) h
def RoL.one(h:Ro L N H v o f):RoL L N H [v] [o] f:=by
 have:=RoL.cons h<|RoL.nil;rw[zyD]at this;exact this
def RoL.at_:∀{vs:List V}{os:List O}{fp:List Addr},RoL L N H vs os fp->os[k]? = some o->∃v f fo g,vs[k]? = some v/\fp=f++(fo++g)/\Ro L N H v o fo/\RoL L N H (vs.take k) (os.take k) f/\RoL L N H (vs.drop<|k+1) (os.drop<|k+1) g:=by
 induction k with
 |zero=>
  intro vs os fp h e;cases h with
  |nil=>cases e
  |cons h r=>
   rw[List.getElem?_cons_zero]at e;cases e;exact⟨_,[],_,_,rfl,rfl,h,.nil,r⟩
 |succ k ih=>
  intro vs os fp h e;cases h with
  |nil=>cases e
  |cons h r=>
   rw[List.getElem?_cons_succ]at e;obtain⟨v,f,fo,g,e1,e2,h1,h2,h3⟩:=ih r e;subst e2;exact⟨v,_,fo,g,by rw[List.getElem?_cons_succ];exact e1,(zxB _ _ _).symm,h1,.cons h h2,h3⟩
def VD(l:List α)(k:Nat):l.eraseIdx k=l.take k++l.drop (k+1):=List.eraseIdx_eq_take_drop_succ l k
end
abbrev AS:=List<|Option O
abbrev Ad:=Nat->List Addr
def Gw(T:List Addr)(ad:Ad):Addr->Prop:=λa=>a ∈ T\/∃i,a ∈ ad i
abbrev Lv(F B G:Addr->Prop)(st:Bool):Addr->Prop:=Xs (λa=>(st=true/\F a)\/B a) G
abbrev Lf(K:zzA)(kd:KD)(F B G:Addr->Prop)(H:Hp):Bool->V->D->Prop:=λst v d=>Rp K kd (Lv F B G st) H v d
abbrev Nf(F B G:Addr->Prop):Addr->Prop:=λa=>¬Lv F B G true a
abbrev xt(K:zzA)(kd:KD)(F B G:Addr->Prop)(H:Hp):V->O->List Addr->Prop:=Ro (Lf K kd F B G H) (Nf F B G) H
abbrev x9(K:zzA)(kd:KD)(F B G:Addr->Prop)(H:Hp):List V->List O->List Addr->Prop:=RoL (Lf K kd F B G H) (Nf F B G) H
def UE(K:zzA)(kd:KD)(F B G:Addr->Prop)(H:Hp):Option O->Option (Option V)->List Addr->Prop
 |none,_,fp=>fp=[]
 |some o,s,fp=>∃v,s=some (some v)/\xt K kd F B G H v o fp
structure Rel(K:zzA)(kd:KD)(F B:Addr->Prop)(T:List Addr)(ad:Ad)(as:AS)(σ:St)(H:Hp):Prop where
 len:as.length=σ.length
 out:∀i,as.length<=i->ad i=[]
 nd:∀i,(ad i).Nodup
 inj:∀i j a,a ∈ ad i->a ∈ ad j->i=j
 tnd:T.Nodup
 dis:∀i a,a ∈ ad i->a ∉ T
 ftr:∀a,F a->H a≠none
 btr:∀a,B a->H a≠none/\¬F a/\¬Gw T ad a
 gtr:∀a,Gw T ad a->H a≠none/\¬F a
 sl:∀i s,as[i]? = some s->UE K kd F B (Gw T ad) H s σ[i]? (ad i)
inductive RV where
 |ow (o:O)|bo (i:Nat)
def yN(K:zzA)(kd:KD)(F B:Addr->Prop)(T:List Addr)(ad:Ad)(σ:St)(H:Hp)(v:V):RV->Prop
 | .ow o=>xt K kd F B (Gw T ad) H v o T
 | .bo i=>T=[]/\σ[i]? = some (some v)
def O.frz(o:O):O:=.lf o.str o.toD
def RV.frz:RV->RV
 | .ow o=>.ow o.frz
 | .bo i=>.bo i
def O.isLf:O->Bool
 | .lf _ _=>true
 |_=>false
def O.kl:O->Option Bool
 | .lf st _=>some st
 | .nd _ os=>if os.all O.isLf=true then some (O.strs os)else none
def RV.view(as:AS):RV->Option (D×Option Bool)
 | .ow o=>some (o.toD,some o.str)
 | .bo i=>match as[i]? with
  |some (some o)=>some (o.toD,o.kl)
  |_=>none
def Xq(F B G:Addr->Prop):Option Bool->Addr->Prop
 |some st=>Lv F B G st
 |none=>λ_=>False
section
variable{K:zzA}{kd:KD}{F B F' B':Addr->Prop}{G G':Addr->Prop}{T T':List Addr}{ad ad1:Ad}{as as1:AS}{σ:St}{H H1 H':Hp}{v:V}{r:RV}{o:O}{fp:List Addr}{vs:List V}{os:List O}
theorem xt.grow(g:Grow G H G' H')(k:∀a ∈ fp,∀u,H a=some u->H' a=some u)(h:xt K kd F B G H v o fp):xt K kd F B G' H' v o fp:=
 Ro.mono (λst v d r=>Rp.grow g r) (λa vs n e=>⟨λz=>z.elim (λy=>n<|.inl y) λy=>(g.own a y).elim (λw=>n<|.inr w) λw=>(by rw[w]at e;cases e),g.keep a _ e λw=>n<|.inr w⟩) k h
theorem x9.grow(g:Grow G H G' H')(k:∀a ∈ fp,∀u,H a=some u->H' a=some u)(h:x9 K kd F B G H vs os fp):x9 K kd F B G' H' vs os fp:=
 RoL.mono (λst v d r=>Rp.grow g r) (λa vs n e=>⟨λz=>z.elim (λy=>n<|.inl y) λy=>(g.own a y).elim (λw=>n<|.inr w) λw=>(by rw[w]at e;cases e),g.keep a _ e λw=>n<|.inr w⟩) k h
def xt.lv(g:∀st a,Lv F' B' G' st a->Lv F B G st a)(h:xt K kd F B G H v o fp):xt K kd F' B' G' H v o fp:=
 Ro.mono (λst v d r=>r.less<|g st) (λa vs n e=>⟨λz=>n<|g true a z,e⟩) (λ_ _ _ e=>e) h
def x9.lv(g:∀st a,Lv F' B' G' st a->Lv F B G st a)(h:x9 K kd F B G H vs os fp):x9 K kd F' B' G' H vs os fp:=
 RoL.mono (λst v d r=>r.less<|g st) (λa vs n e=>⟨λz=>n<|g true a z,e⟩) (λ_ _ _ e=>e) h
def xt.less(g:∀a,G' a->G a)(h:xt K kd F B G H v o fp):xt K kd F B G' H v o fp:=xt.lv (λ_ a z=>z.elim .inl λy=>.inr<|g a y) h
def Gw.drop:∀a,Gw [] ad a->Gw T ad a:=λ_ h=>h.elim (λz=>nomatch z) .inr
def Rel.trk(R:Rel K kd F B T ad as σ H)(st):∀a,Lv F B (Gw T ad) st a->H a≠none:=λa h=>by
 rcases h with(h|h)|h
 . exact R.ftr a h.2
 . exact(R.btr a h).1
 . exact(R.gtr a h).1
def Rel.tr(R:Rel K kd F B T ad as σ H)(lv):∀a,Xq F B (Gw T ad) lv a->H a≠none:=λa h=>by
 cases lv with
 |none=>exact h.elim
 |some st=>exact R.trk st a h
theorem UE.lv(g:∀st a,Lv F' B' G' st a->Lv F B G st a)(h:UE K kd F B G H s x fp):UE K kd F' B' G' H s x fp:=by
 cases s with
 |none=>exact h
 |some o=>obtain⟨v,e,r⟩:=h;exact⟨v,e,xt.lv g r⟩
def UE.less(g:∀a,G' a->G a)(h:UE K kd F B G H s x fp):UE K kd F B G' H s x fp:=h.lv λ_ a z=>z.elim .inl λy=>.inr<|g a y
theorem UE.grow(g:Grow G H G' H')(k:∀a ∈ fp,∀u,H a=some u->H' a=some u)(h:UE K kd F B G H s x fp):UE K kd F B G' H' s x fp:=by
 cases s with
 |none=>exact h
 |some o=>obtain⟨v,e,r⟩:=h;exact⟨v,e,xt.grow g k r⟩
theorem Rel.drop(R:Rel K kd F B T ad as σ H):Rel K kd F B [] ad as σ H where
 len:=R.len
 out:=R.out
 nd:=R.nd
 inj:=R.inj
 tnd:=zyI
 dis:=λ_ _ _ z=>nomatch z
 ftr:=R.ftr
 btr:=λa h=>let⟨h1,h2,h3⟩:=R.btr a h;⟨h1,h2,λz=>h3<|Gw.drop a z⟩
 gtr:=λa h=>R.gtr a (Gw.drop a h)
 sl:=λi s e=>(R.sl i s e).less Gw.drop
def K5(R:Rel K kd F B T ad as σ H)(h:xt K kd F B (Gw T ad) H v o T):Rp K kd (Lv F B (Gw [] ad) o.str) H v o.toD:=
 Ro.rp o.str (λst v d hs r=>r.less λa z=>z.elim (λy=>.inl<|y.elim (λx=>.inl ⟨hs x.1,x.2⟩) .inr) λy=>.inr<|Gw.drop a y)
  (λa n z=>n<|z.elim (λy=>.inl<|y.elim (λx=>.inl ⟨rfl,x.2⟩) .inr) λy=>.inr<|Gw.drop a y) id
  (λa m z=>by
   rcases z with(z|z)|z|⟨i,z⟩
   . exact(R.gtr a<|.inl m).2 z.2
   . exact(R.btr a z).2.2<|.inl m
   . cases z
   . exact R.dis i a z m) h
def yN.drop(R:Rel K kd F B T ad as σ H)(h:yN K kd F B T ad σ H v r):yN K kd F B [] ad σ H v r.frz:=by
 cases r with
 |ow o=>exact .lf (K5 R h)
 |bo i=>exact⟨rfl,h.2⟩
theorem yN.grow(g:Grow (Gw [] ad) H (Gw [] ad1) H1)(h:yN K kd F B [] ad σ H v r):yN K kd F B [] ad1 σ H1 v r:=by
 cases r with
 |ow o=>exact xt.grow g (λ_ m=>nomatch m) h
 |bo i=>exact h
def FR(h:x9 K kd F B G H vs os fp):os.all O.isLf=true->fp=[]:=
 RoL.ind (P:=λ_ os fp=>os.all O.isLf=true->fp=[]) (λ_=>rfl) (λh _ ih e=>by
  rw[List.all_cons,zyB]at e;rw[ih e.2,zyD];cases h with
  |lf=>rfl
  |ls=>cases e.1
  |dc=>cases e.1
  |ob=>cases e.1
  |dt=>cases e.1
  |tp=>cases e.1) h
def Ue{st}{b}(hs:b=true->st=true):∀a,Lv F B G b a->Lv F B G st a:=λa z=>z.elim (λy=>.inl<|y.elim (λx=>.inl ⟨hs x.1,x.2⟩) .inr) .inr
def WY(h:x9 K kd F B G H vs os fp)(e:os.all O.isLf=true):RpL K kd (Lv F B G<|O.strs os) H vs (O.toDs os):=by
 have:=FR h e;subst this;exact RoL.rp (O.strs os) (λst v d hs r=>r.less<|Ue hs) (λa n z=>n<|Ue (λ_=>rfl) a z) id (by intro a m;cases m) h
def YQ(h:x9 K kd F B G H vs os fp):RpL K kd (λ_=>False) H vs (O.toDs os):=RoL.rp false (λst v d _ r=>r.less λ_ z=>z.elim) (λ_ _ z=>z) (λz=>Bool.noConfusion z) (λ_ _ z=>z) h
def PC(h:xt K kd F B G H v o fp):Rp K kd (λ_=>False) H v o.toD:=Ro.rp false (λst v d _ r=>r.less λ_ z=>z.elim) (λ_ _ z=>z) (λz=>Bool.noConfusion z) (λ_ _ z=>z) h
def Pj(h:xt K kd F B G H v o []):Rp K kd (Lv F B G o.str) H v o.toD:=
 Ro.rp o.str (λst v d hs r=>r.less<|Ue hs) (λa n z=>n<|Ue (λ_=>rfl) a z) id (by intro a m;cases m) h
theorem xt.vw(h:xt K kd F B G H v o fp):Vw K kd (Xq F B G o.kl) H v o.toD:=by
 cases h with
 |lf h=>exact h.vw
 |ls hH r=>
  rename_i a vs' os' fp';show Vw K kd (Xq F B G (if os'.all O.isLf=true then some _ else none)) H _ _
  by_cases e:os'.all O.isLf=true
  . rw[if_pos e];exact .lst (.inl<|.inl hH)<|WY r e
  . rw[if_neg e];exact .lst (.inl<|.inl hH) (YQ r)
 |dc hH l r=>
  rename_i a ks vs' os' fp';show Vw K kd (Xq F B G (if os'.all O.isLf=true then some _ else none)) H _ _
  by_cases e:os'.all O.isLf=true
  . rw[if_pos e];exact .dct (.inl<|.inl hH)<|QA (WY r e) l
  . rw[if_neg e];exact .dct (.inl<|.inl hH) (QA (YQ r) l)
 |ob hc hH l r=>
  rename_i a dx C c ns vs' os' fp';have ec:=hc.cl_eq;subst ec;show Vw K kd (Xq F B G (if os'.all O.isLf=true then some _ else none)) H _ _
  by_cases e:os'.all O.isLf=true
  . rw[if_pos e];exact .ob hH l<|WY r e
  . rw[if_neg e];exact .ob hH l (YQ r)
 |dt hH l r=>
  rename_i a ks vs' os' fp';show Vw K kd (Xq F B G (if os'.all O.isLf=true then some _ else none)) H _ _
  by_cases e:os'.all O.isLf=true
  . rw[if_pos e];exact .dt hH l<|WY r e
  . rw[if_neg e];exact .dt hH l (YQ r)
 |tp n hH r=>
  rename_i a vs' os';show Vw K kd (Xq F B G (if os'.all O.isLf=true then some _ else none)) H _ _
  by_cases e:os'.all O.isLf=true
  . rw[if_pos e];have rl:=WY r e;exact .tup (.tup (λz=>n<|Ue (λ_=>rfl) _ z) hH rl) (.inl<|.inl hH) rl
  . rw[if_neg e];exact .tup (.tup (λz=>z) hH<|YQ r) (.inl<|.inl hH)<|YQ r
theorem yN.vw(R:Rel K kd F B [] ad as σ H)(h:yN K kd F B [] ad σ H v r)(e:r.view as=some (d,lv)):Vw K kd (Xq F B (Gw [] ad) lv) H v d:=by
 cases r with
 |ow o=>
  cases e;exact(Pj h).vw
 |bo i=>
  have e:(match as[i]? with|some (some o)=>some (o.toD,o.kl)|_=>none)=some (d,lv):=e;cases k:as[i]? with
  |none=>rw[k]at e;cases e
  |some s=>
   cases s with
   |none=>rw[k]at e;cases e
   |some o=>
    rw[k]at e;cases e;obtain⟨w,hw,ro⟩:=R.sl i _ k;rw[h.2]at hw;cases hw;exact ro.vw
def Rel.add(R:Rel K kd F B T ad as σ H)(hn:N.Nodup)(hl:∀a ∈ N,H a=none)(k:∀b u,H b=some u->H' b=some u)(h1:∀a ∈ N,H' a≠none):Rel K kd F B (N++T) ad as σ H'/\Grow (Gw T ad) H (Gw (N++T) ad) H':=by
 have g:Grow (Gw T ad) H (Gw (N++T) ad) H':=⟨λb u h _=>k b u h,λb h=>by
  rcases h with h|h
  . rcases zzM.mp h with h|h
    . exact .inr<|hl b h
    . exact .inl<|.inl h
  . exact .inl<|.inr h⟩
 have kn:∀a,H a≠none->H' a≠none:=λa z=>by
  cases e:H a with
  |none=>exact absurd e z
  |some u=>rw[k a u e];simp
 refine⟨⟨R.len,R.out,R.nd,R.inj, ?_,λi a m z=>?_,λa z=>kn a<|R.ftr a z,λa z=>?_,λa z=>?_,λi s e=>(R.sl i s e).grow g λa _ u h=>k a u h⟩,g⟩
 . refine zxD.mpr ⟨hn,R.tnd,λa m b m' e=>?_⟩;subst e;exact(R.gtr a<|.inl m').1<|hl a m
 . rcases zzM.mp z with z|z
   . exact(R.gtr a<|.inr ⟨i,m⟩).1<|hl a z
   . exact R.dis i a m z
 . obtain⟨b1,b2,b3⟩:=R.btr a z;refine⟨kn a b1,b2,λy=>?_⟩
   rcases y with y|y
   . rcases zzM.mp y with y|y
     . exact b1<|hl a y
     . exact b3<|.inl y
   . exact b3<|.inr y
 . rcases z with z|z
   . rcases zzM.mp z with z|z
     . exact⟨h1 a z,λf=>R.ftr a f<|hl a z⟩
     . exact⟨kn a (R.gtr a<|.inl z).1,(R.gtr a<|.inl z).2⟩
   . exact⟨kn a (R.gtr a<|.inr z).1,(R.gtr a<|.inr z).2⟩
def Rel.more(R:Rel K kd F B T ad as σ H)(k:∀b u,H b=some u->H' b=some u):Rel K kd F B T ad as σ H'/\Grow (Gw T ad) H (Gw T ad) H':=
 R.add zyI (λ_ m=>nomatch m) k (λ_ m=>nomatch m)
def Rel.news(R:Rel K kd F B [] ad as σ H)(hn:T'.Nodup)(hl:∀a ∈ T',H a=none)(k:∀b u,H b=some u->H' b=some u)(h1:∀a ∈ T',H' a≠none):Rel K kd F B T' ad as σ H'/\Grow (Gw [] ad) H (Gw T' ad) H':=by
 have:=R.add hn hl k h1;rw[zyD]at this;exact this
end
inductive R0 where
 |im (d:D)|fl (ds:List D)|fd (kvs:List (Key×D))
def RQ(K:zzA)(kd:KD)(O:Addr->Prop)(H:Hp)(Q:VK):R0->Prop
 | .im d=>∀v H',(∀b o,H b=some o->H' b=some o)->Rp K kd O H' v d->Q v H'
 | .fl ds=>∀l vs H',H l=none->(∀b o,H b=some o->H' b=some o)->H' l=some (.lst vs)->RpL K kd (Xs O (· = l)) H' vs ds->Q (.ref l) H'
 | .fd ds=>∀l vs H',H l=none->(∀b o,H b=some o->H' b=some o)->H' l=some (.dK vs)->RpM K kd (Xs O (· = l)) H' vs ds->Q (.ref l) H'
def wrap(lv:Option Bool):R0->Option RV
 | .im d=>if(zB d||lv.isSome)=true then some (.ow<|Le (lv.getD false) d)else none
 | .fl ds=>if(ds.all zB||lv.isSome)=true then some (.ow<|.nd .ls<|ds.map<|Le<|lv.getD false)else none
 | .fd kvs=>if((kvs.map (·.2)).all zB||lv.isSome)=true then some (.ow (.nd (.dc (kvs.map (·.1))) ((kvs.map (·.2)).map<|Le<|lv.getD false)))else none
def bS_(h:o.bind f=some b):∃a,o=some a/\f a=some b:=by
 cases o with
 |none=>cases h
 |some a=>exact⟨a,rfl,h⟩
def ite_some'[Decidable c](h:(if c then a else none)=some b):c/\a=some b:=by
 by_cases hc:c
 . rw[if_pos hc]at h;exact⟨hc,h⟩
 . rw[if_neg hc]at h;cases h
def zu[Decidable c](h:(if c then some a else none)=some b):c/\a=b:=by
 by_cases hc:c
 . rw[if_pos hc]at h;cases h;exact⟨hc,rfl⟩
 . rw[if_neg hc]at h;cases h
section
variable{K:zzA}{kd:KD}{F B:Addr->Prop}{G:Addr->Prop}{ad:Ad}{as:AS}{σ:St}{H H':Hp}{v:V}{r:R0}{rv:RV}{Q:VK}{lv:Option Bool}
def Ho(h:zB d=true\/lv.isSome=true)(hO:∀st,lv=some st->∀a,Lv F B G st a->Ob a)(rp:Rp K kd Ob H v d):Lf K kd F B G H (zB d||lv.getD false) v d:=by
 cases e:zB d with
 |true=>exact rp.flat e
 |false=>
  rw[e]at h;cases lv with
  |none=>rcases h with h|h<;>cases h
  |some st=>exact rp.less (hO st rfl)
def MR(hO:∀st,lv=some st->∀a,Lv F B G st a->Ob a)(e:(ds.all zB||lv.isSome)=true)(h:RpL K kd Ob H vs ds):RoL (Lf K kd F B G H) N H vs (ds.map<|Le<|lv.getD false) []:=
 RpL.ind (P:=λvs ds=>(ds.all zB||lv.isSome)=true->RoL (Lf K kd F B G H) N H vs (ds.map<|Le<|lv.getD false) []) (λ_=>.nil) (λ{v d vs ds} h _ ih e=>by
  rw[List.all_cons]at e;have e1:zB d=true\/lv.isSome=true:=by
   cases h1:lv.isSome<;>cases h2:zB d<;>simp[h1,h2]at e ⊢
  have e2:(ds.all zB||lv.isSome)=true:=by
   cases h1:lv.isSome with
   |true=>simp
   |false=>
    rw[h1,Bool.or_false,zyB]at e;rw[Bool.or_false];exact e.2
  exact RoL.cons (.lf<|Ho e1 hO h)<|ih e2) h e
def NK{O}{vs}{ds}(h:RpM K kd O H vs ds):vs=(ds.map (·.1)).zip (vs.map (·.2))/\RpL K kd O H (vs.map (·.2)) (ds.map (·.2)):=
 RpM.ind (P:=λvs ds=>vs=(ds.map (·.1)).zip (vs.map (·.2))/\RpL K kd O H (vs.map (·.2)) (ds.map (·.2))) ⟨rfl,.nil⟩ (λh _ ih=>by
  obtain⟨h1,h2⟩:=ih;refine⟨?_,.cons h h2⟩
  conv=>lhs;rw[h1]
  rfl) h
def vO(R:Rel K kd F B [] ad as σ H)(e:wrap lv r=some rv)(q:∀v T' H',Rel K kd F B T' ad as σ H'->yN K kd F B T' ad σ H' v rv->Grow (Gw [] ad) H (Gw T' ad) H'->Q v H'):RQ K kd (Xq F B (Gw [] ad) lv) H Q r:=by
 have hO:∀(l:List Addr) st,lv=some st->∀a,Lv F B (Gw l ad) st a->Xs (Xq F B (Gw [] ad) lv) (· ∈ l) a:=by
  intro l st e a z;subst e
  rcases z with z|z|z
  . exact .inl<|.inl z
  . exact .inr z
  . exact .inl<|.inr<|.inr z
 cases r with
 |im d=>
  obtain⟨c,rfl⟩:=zu e;intro v H' k rp;obtain⟨R',g⟩:=R.more k;refine q v [] H' R' (.lf<|Ho ((Bool.or_eq_true _ _).mp c) (λst e a z=>?_) rp) g;exact(hO [] st e a z).elim id λm=>nomatch m
 |fl ds=>
  obtain⟨c,rfl⟩:=zu e;intro l vs H' hl k hl' rp;obtain⟨R',g⟩:=R.news (T':=[l]) (by simp) (λa m=>by rw[zzR.mp m];exact hl) k (λa m=>by rw[zzR.mp m,hl'];simp);exact q _ [l] H' R' (.ls hl'<|MR (λst e a z=>(hO [l] st e a z).elim .inl λm=>.inr<|zzR.mp m) c rp) g
 |fd ds=>
  obtain⟨c,rfl⟩:=zu e;intro l vs H' hl k hl' rp;obtain⟨R',g⟩:=R.news (T':=[l]) (by simp) (λa m=>by rw[zzR.mp m];exact hl) k (λa m=>by rw[zzR.mp m,hl'];simp);obtain⟨e1,r1⟩:=NK rp;refine q _ [l] H' R' (.dc (by rw[hl',<-e1]) (by rw[zzB,zzB,rp.length])<|MR (λst e a z=>(hO [l] st e a z).elim .inl λm=>.inr<|zzR.mp m) c r1) g
end
abbrev EF:=AS->Option (RV×AS)
def al(K:zzA)(kd:KD)(f:EF):TE:=λσ H Q=>∃F B ad as r as',Rel K kd F B [] ad as σ H/\f as=some (r,as')/\
 ∀v T' ad' H',Rel K kd F B T' ad' as' σ H'->yN K kd F B T' ad' σ H' v r->Grow (Gw [] ad) H (Gw T' ad') H'->Q v H'
@[irreducible] def AE(X:Cx)(kd:KD)(e:Expr)(f:EF):Prop:=PE X e<|al X.K kd f
def yr(h:PE X e t)(k:∀σ H Q,t' σ H Q->t σ H Q):PE X e t':=λpins s σ H Q I q=>h pins s σ H Q I<|k σ H Q q
section
variable{K:zzA}{kd:KD}{F B:Addr->Prop}{ad:Ad}{as as1:AS}{σ:St}{H:Hp}{r:RV}{f:EF}{P:VK}
def xJ(R:Rel K kd F B [] ad as σ H)(e:f as=some (r,as1))(k:∀v ad1 H1,Rel K kd F B [] ad1 as1 σ H1->yN K kd F B [] ad1 σ H1 v r.frz->Grow (Gw [] ad) H (Gw [] ad1) H1->P v H1):al K kd f σ H P:=
 ⟨F,B,ad,as,r,as1,R,e,λv T' ad' H' R' rv g=>k v ad' H' R'.drop (yN.drop R' rv)<|g.trans<|Grow.less Gw.drop⟩
end
def MQ(X:Cx)(kd:KD)(f:Value->Value->Sem Value)(g:D->D->Option R0):Prop:=
 XU X f (λx y H Q=>∃O d e r,(∀a,O a->H a≠none)/\Vw X.K kd O H x d/\Vw X.K kd O H y e/\g d e=some r/\RQ X.K kd O H Q r)
inductive VwL(K:zzA)(kd:KD)(O:Addr->Prop)(H:Hp):List V->List D->Prop
 |nil:VwL K kd O H [] []
 |cons {v:V}{d:D}{vs:List V}{ds:List D}:Vw K kd O H v d->VwL K kd O H vs ds->VwL K kd O H (v::vs) (d::ds)
def ZU(X:Cx)(kd:KD)(f:Value)(g:List D->Option R0):Prop:=
 WM X f (λxs H Q=>∃O ds r,(∀a,O a->H a≠none)/\VwL X.K kd O H xs ds/\g ds=some r/\RQ X.K kd O H Q r)
def D7(X:Cx)(kd:KD)(g:D->D->Option R0):Prop:=
 IB X (λx y H Q=>∃O d e r,(∀a,O a->H a≠none)/\Vw X.K kd O H x d/\Vw X.K kd O H y e/\g d e=some r/\RQ X.K kd O H Q r)
def meet:Option Bool->Option Bool->Option Bool
 |some a,some b=>some (a&&b)
 |_,_=>none
def Xq.meet1:∀x,Xq F B G (meet a b) x->Xq F B G a x:=λx h=>by
 cases a with
 |none=>cases b<;>exact h.elim
 |some p=>
  cases b with
  |none=>exact h.elim
  |some q=>exact Ue (λz=>((zyB _ _).mp z).1) x h
def Xq.meet2:∀x,Xq F B G (meet a b) x->Xq F B G b x:=λx h=>by
 cases a with
 |none=>cases b<;>exact h.elim
 |some p=>
  cases b with
  |none=>exact h.elim
  |some q=>exact Ue (λz=>((zyB _ _).mp z).2) x h
theorem Vw.less{K}{kd}{O O'}{H}{v}{d}(g:∀a,O' a->O a)(h:Vw K kd O H v d):Vw K kd O' H v d:=by
 cases h with
 |non=>exact .non
 |bl b=>exact .bl b
 |int i=>exact .int i
 |str x=>exact .str x
 |tup r s l=>exact .tup (r.less g) s (l.less g)
 |lst h l=>exact .lst h (l.less g)
 |dct h l=>exact .dct h (l.less g)
 |cl c=>exact .cl c
 |ob h k l=>exact .ob h k (l.less g)
 |dt h k l=>exact .dt h k (l.less g)
 |er h k l=>exact .er h k (l.less g)
def f2(fa fb:EF)(g:D->D->Option R0):EF:=λas=>(fa as).bind λp=>(fb p.2).bind λq=>(p.1.frz.view q.2).bind λx=>(q.1.frz.view q.2).bind λy=>(g x.1 y.1).bind λr=>(wrap (meet x.2 y.2) r).bind λz=>some (z,q.2)
def LI(h:f2 fa fb g as=some (rv,as')):
 ∃p as1 q x y lx ly r,fa as=some (p,as1)/\fb as1=some (q,as')/\p.frz.view as'=some (x,lx)/\q.frz.view as'=some (y,ly)/\g x y=some r/\wrap (meet lx ly) r=some rv:=by
 unfold f2 at h;obtain⟨⟨p,as1⟩,h1,h⟩:=bS_ h;obtain⟨⟨q,as2⟩,h2,h⟩:=bS_ h;obtain⟨⟨x,lx⟩,h3,h⟩:=bS_ h;obtain⟨⟨y,ly⟩,h4,h⟩:=bS_ h;obtain⟨r,h5,h⟩:=bS_ h;obtain⟨z,h6,h⟩:=bS_ h;cases h;exact⟨p,as1,q,x,y,lx,ly,r,h1,h2,h3,h4,h5,h6⟩
section
variable{X:Cx}{kd:KD}{a b c:Expr}{fa fb fc:EF}{pos:Pos}
def J2(hr:∀x y H Q,(∃O d e r,(∀a,O a->H a≠none)/\Vw X.K kd O H x d/\Vw X.K kd O H y e/\g d e=some r/\RQ X.K kd O H Q r)->R2' x y H Q)
 (h:al X.K kd (f2 fa fb g) σ H Q):JI R2' (al X.K kd fa) (al X.K kd fb) σ H Q:=by
 obtain⟨F,B,ad,as,r,as',R,e,q⟩:=h;obtain⟨p,as1,z,x,y,lx,ly,r0,h1,h2,h3,h4,h5,h6⟩:=LI e;refine xJ R h1 λv ad1 H1 R1 rv1 g1=>xJ R1 h2 λu ad2 H2 R2 rv2 g2=>hr _ _ _ _ ?_;exact⟨_,x,y,r0,R2.tr _,(yN.vw R2 (rv1.grow g2) h3).less Xq.meet1,(yN.vw R2 rv2 h4).less Xq.meet2,h5,vO R2 h6 λw T' H' R' rv' g'=>q w T' ad2 H' R' rv'<|(g1.trans g2).trans g'⟩
def G9(ho:MQ X kd (binaryOp op) g)(ha:AE X kd a fa)(hb':AE X kd b fb):AE X kd (.BinOp a op b pos) (f2 fa fb g):=by with_unfolding_all exact(yr (JU ho ha hb') λσ H Q h=>J2 (λ_ _ _ _ z=>z) h)
def Mn(ho:MQ X kd (compareOp op) g)(ha:AE X kd a fa)(hb':AE X kd b fb)(hm:behindInMarks op b=false):AE X kd (.Compare a [op] [b] pos) (f2 fa fb g):=by with_unfolding_all exact(yr (Bw ho ha hb' hm) λσ H Q h=>J2 (λ_ _ _ _ z=>z) h)
def IK(ho:D7 X kd g)(ha:AE X kd a fa)(hb':AE X kd b fb)(hm:vY b):AE X kd (.Subscript a b pos) (f2 fa fb g):=by with_unfolding_all exact(yr (RJ ho ha hb' hm) λσ H Q h=>J2 (λ_ _ _ _ z=>z) h)
def fC(d:D):EF:=λas=>some (.ow<|.lf true d,as)
noncomputable def fV(i:Nat):EF:=λas=>match as[i]? with
 |some (some (.lf st d))=>some (.ow<|.lf st d,as)
 |some (some (.nd _ _))=>some (.bo i,as)
 |_=>none
def Pa(h:PE X a (tC v))(hr:∀O H,Rp X.K kd O H v d):AE X kd a (fC d):=by with_unfolding_all exact(yr h λσ H Q h=>by
 obtain⟨F,B,ad,as,r,as',R,e,q⟩:=h;cases e;exact q v [] ad H R (.lf<|hr _ _) Grow.refl)
def CD(h:PE X a (YZ i)):AE X kd a (fV i):=by with_unfolding_all exact(yr h λσ H Q h=>by
 obtain⟨F,B,ad,as,r,as',R,e,q⟩:=h;unfold fV at e;cases k:as[i]? with
 |none=>rw[k]at e;cases e
 |some s=>
  rw[k]at e;cases s with
  |none=>cases e
  |some o=>
   obtain⟨v,h1,h2⟩:=R.sl i _ k;cases o with
   |lf st d=>
    cases e;have e0 : ad i=[]:=by
            generalize hfp:ad i=fp at h2;cases h2;rfl
    rw[e0]at h2;exact⟨v,h1,q v [] ad H R h2 Grow.refl⟩
   |nd kk os=>
    cases e;exact⟨_,h1,q _ [] ad H R ⟨rfl,h1⟩ Grow.refl⟩)
end
def yq(ad:Ad)(i:Nat)(x:List Addr):Ad:=λj=>if j=i then x else ad j
section
variable{K:zzA}{kd:KD}{F B:Addr->Prop}{T T1 T2:List Addr}{ad ad1:Ad}{as as1:AS}{σ:St}{H H1:Hp}{v:V}{r:RV}{o:O}{i:Nat}
def zx:yq ad i x i=x:=if_pos rfl
def zw(h:j≠i):yq ad i x j=ad j:=if_neg h
def yz:∀a,Gw T (yq ad i []) a->Gw T ad a:=λa h=>by
 rcases h with h|⟨j,h⟩
 . exact .inl h
 . by_cases e:j=i
   . subst e;rw[zx]at h;cases h
   . rw[zw e]at h;exact .inr ⟨j,h⟩
def ZG:∀a,Gw [] (yq ad i T) a->Gw T ad a:=λa h=>by
 rcases h with h|⟨j,h⟩
 . cases h
 . by_cases e:j=i
   . subst e;rw[zx]at h;exact .inl h
   . rw[zw e]at h;exact .inr ⟨j,h⟩
def Nk:∀st a,Lv F (λa=>B a\/a ∈ T) (Gw [] ad) st a->Lv F B (Gw T ad) st a:=λst a z=>by
 rcases z with(z|z|z)|z
 . exact .inl<|.inl z
 . exact .inl<|.inr z
 . exact .inr<|.inl z
 . exact .inr<|Gw.drop a z
def Vt:∀st a,Lv F B (Gw (T1++T2) ad) st a->Lv F (λa=>B a\/a ∈ T1) (Gw T2 ad) st a:=λst a z=>by
 rcases z with(z|z)|z|z
 . exact .inl<|.inl z
 . exact .inl<|.inr<|.inl z
 . rcases zzM.mp z with z|z
   . exact .inl<|.inr<|.inr z
   . exact .inr<|.inl z
 . exact .inr<|.inr z
def Rel.hide(R:Rel K kd F B T ad as σ H):Rel K kd F (λa=>B a\/a ∈ T) [] ad as σ H where
 len:=R.len
 out:=R.out
 nd:=R.nd
 inj:=R.inj
 tnd:=zyI
 dis:=λ_ _ _ z=>nomatch z
 ftr:=R.ftr
 btr:=λa h=>by
  rcases h with h|h
  . obtain⟨h1,h2,h3⟩:=R.btr a h;exact⟨h1,h2,λz=>h3<|Gw.drop a z⟩
  . exact⟨(R.gtr a<|.inl h).1,(R.gtr a<|.inl h).2,λz=>z.elim (λm=>nomatch m) λ⟨j,y⟩=>R.dis j a y h⟩
 gtr:=λa h=>R.gtr a (Gw.drop a h)
 sl:=λi s e=>(R.sl i s e).lv Nk
def Rel.unhide(hn:T1.Nodup)(hb:∀a ∈ T1,¬B a)(R:Rel K kd F (λa=>B a\/a ∈ T1) T2 ad as σ H):Rel K kd F B (T1++T2) ad as σ H where
 len:=R.len
 out:=R.out
 nd:=R.nd
 inj:=R.inj
 tnd:=zxD.mpr ⟨hn,R.tnd,λa m b m' e=>by subst e;exact(R.btr a<|.inr m).2.2<|.inl m'⟩
 dis:=λi a m z=>by
  rcases zzM.mp z with z|z
  . exact(R.btr a<|.inr z).2.2<|.inr ⟨i,m⟩
  . exact R.dis i a m z
 ftr:=R.ftr
 btr:=λa h=>by
  obtain⟨h1,h2,h3⟩:=R.btr a<|.inl h;refine⟨h1,h2,λz=>?_⟩
  rcases z with z|z
  . rcases zzM.mp z with z|z
    . exact hb a z h
    . exact h3<|.inl z
  . exact h3 (.inr z)
 gtr:=λa h=>by
  rcases h with h|h
  . rcases zzM.mp h with h|h
    . exact⟨(R.btr a<|.inr h).1,(R.btr a<|.inr h).2.1⟩
    . exact R.gtr a<|.inl h
  . exact R.gtr a (.inr h)
 sl:=λi s e=>(R.sl i s e).lv Vt
theorem Rel.frz(R:Rel K kd F B T ad as σ H)(h:as[i]? = some (some o)):
 Rel K kd F B T (yq ad i []) (as.set i<|some o.frz) σ H/\∃v,σ[i]? = some (some v)/\Rp K kd (Lv F B (Gw T<|yq ad i []) o.str) H v o.toD:=by
 obtain⟨v,hv,ro⟩:=R.sl i _ h;have rp:Rp K kd (Lv F B (Gw T<|yq ad i []) o.str) H v o.toD:=
  Ro.rp o.str (λst v d hs r=>r.less λa z=>z.elim (λy=>.inl<|y.elim (λx=>.inl ⟨hs x.1,x.2⟩) .inr) λy=>.inr<|yz a y)
   (λa n z=>n<|z.elim (λy=>.inl<|y.elim (λx=>.inl ⟨rfl,x.2⟩) .inr) λy=>.inr<|yz a y) id
   (λa m z=>by
    rcases z with(z|z)|z|⟨j,z⟩
    . exact(R.gtr a<|.inr ⟨i,m⟩).2 z.2
    . exact(R.btr a z).2.2<|.inr ⟨i,m⟩
    . exact R.dis i a m z
    . by_cases e:j=i
      . subst e;rw[zx]at z;cases z
      . rw[zw e]at z;exact e<|R.inj j i a z m) ro
 have hi:=(zzG.mp h).1;refine⟨⟨by rw[zzU];exact R.len,λj hj=>?_,λj=>?_,λj k a h1 h2=>?_,R.tnd,λj a h1=>?_,R.ftr,λa h1=>?_,λa h1=>R.gtr a<|yz a h1,λj s e=>?_⟩,v,hv,rp⟩
 . rw[zzU]at hj;rw[zw<|by omega];exact R.out j hj
 . by_cases e:j=i
   . subst e;rw[zx];exact zyI
   . rw[zw e];exact R.nd j
 . by_cases e:j=i
   . subst e;rw[zx]at h1;cases h1
   . by_cases e':k=i
     . subst e';rw[zx]at h2;cases h2
     . rw[zw e]at h1;rw[zw e']at h2;exact R.inj j k a h1 h2
 . by_cases e:j=i
   . subst e;rw[zx]at h1;cases h1
   . rw[zw e]at h1;exact R.dis j a h1
 . obtain⟨b1,b2,b3⟩:=R.btr a h1;exact⟨b1,b2,λz=>b3<|yz a z⟩
 . by_cases q:j=i
   . subst q;rw[zyJ hi]at e;cases e;rw[zx];exact⟨v,hv,.lf rp⟩
   . rw[zzX<|Ne.symm q]at e;rw[zw q];exact(R.sl j s e).less yz
def Rel.put(R:Rel K kd F B T ad as σ H)(hi:i<as.length)(h:xt K kd F B (Gw T ad) H v o T):Rel K kd F B [] (yq ad i T) (as.set i<|some o) (σ.set i<|some v) H:=by
 have hi':i<σ.length:=by rw[<-R.len];exact hi
 refine⟨by rw[zzU,zzU];exact R.len,λj hj=>?_,λj=>?_,λj k a h1 h2=>?_,zyI,(λ_ _ _ z=>nomatch z),R.ftr,λa h1=>?_,λa h1=>R.gtr a<|ZG a h1,λj s e=>?_⟩
 . rw[zzU]at hj;rw[zw<|by omega];exact R.out j hj
 . by_cases e:j=i
   . subst e;rw[zx];exact R.tnd
   . rw[zw e];exact R.nd j
 . by_cases e:j=i
   . subst e;rw[zx]at h1
     by_cases e':k=j
     . exact e'.symm
     . rw[zw e']at h2;exact(R.dis k a h2 h1).elim
   . rw[zw e]at h1
     by_cases e':k=i
     . subst e';rw[zx]at h2;exact(R.dis j a h1 h2).elim
     . rw[zw e']at h2;exact R.inj j k a h1 h2
 . obtain⟨b1,b2,b3⟩:=R.btr a h1;exact⟨b1,b2,λz=>b3<|ZG a z⟩
 . by_cases q:j=i
   . subst q;rw[zyJ hi]at e;cases e;rw[zx,zyJ hi'];exact⟨v,rfl,h.less ZG⟩
   . rw[zzX<|Ne.symm q]at e;rw[zw q,zzX<|Ne.symm q];exact(R.sl j s e).less ZG
def SR(as:AS):RV->Option (O×AS)
 | .ow o=>some (o,as)
 | .bo i=>match as[i]? with
  |some (some o)=>some (o.frz,as.set i<|some o.frz)
  |_=>none
def Q9(R:Rel K kd F B T ad as σ H)(h:yN K kd F B T ad σ H v r)(e:SR as r=some (o,as')):∃ad',Rel K kd F B T ad' as' σ H/\xt K kd F B (Gw T ad') H v o T/\∀a,Gw T ad' a->Gw T ad a:=by
 cases r with
 |ow o'=>cases e;exact⟨ad,R,h,λ_ z=>z⟩
 |bo i=>
  have e:(match as[i]? with|some (some o)=>some (o.frz,as.set i<|some o.frz)|_=>none)=some (o,as'):=e;cases k:as[i]? with
  |none=>rw[k]at e;cases e
  |some s=>
   cases s with
   |none=>rw[k]at e;cases e
   |some o1=>
    rw[k]at e;cases e;obtain⟨hT,hs⟩:=h;subst hT;obtain⟨R',w,hw,rp⟩:=R.frz k;rw[hs]at hw;cases hw;exact⟨_,R',.lf rp,yz⟩
end
abbrev TF:=AS->Option (Bool×AS)
def Nv(K:zzA)(kd:KD)(f:TF):TT:=λσ H Q=>∃F B ad as b as',Rel K kd F B [] ad as σ H/\f as=some (b,as')/\
 ∀ad' H',Rel K kd F B [] ad' as' σ H'->Grow (Gw [] ad) H (Gw [] ad') H'->Q b H'
@[irreducible] def AT(X:Cx)(kd:KD)(e:Expr)(f:TF):Prop:=PT X e<|Nv X.K kd f
@[irreducible] def AW(X:Cx)(kd:KD)(e:Expr)(f:TF):Prop:=PW X e<|Nv X.K kd f
def truth:D->Option Bool
 | .non=>some false
 | .bl b=>some b
 | .int i=>some<|i != 0
 | .str x=>if x.length<=sizeLine then some ((x.length:Int) != 0)else none
 | .tup ds=>some<|!ds.isEmpty
 | .lst ds=>some (!ds.isEmpty)
 |_=>none
def fT(f:EF):TF:=λas=>(f as).bind λp=>(p.1.frz.view p.2).bind λx=>(truth x.1).bind λb=>some (b,p.2)
def VE(f g:TF):TF:=λas=>(f as).bind λp=>if p.1=true then g p.2 else some (false,p.2)
def Vn(f g:TF):TF:=λas=>(f as).bind λp=>if p.1=true then some (true,p.2)else g p.2
def vq(f:TF):TF:=λas=>(f as).bind λp=>some (!p.1,p.2)
def P3:D->Option Int
 | .int i=>some i
 |_=>none
def ui:D->Option Str
 | .str i=>some i
 |_=>none
def Sk:D->Option (List D)
 | .lst i=>some i
 |_=>none
def An:D->Option (List D)
 | .tup i=>some i
 |_=>none
def VB(e:Sk d=some i):d = .lst i:=by
 cases d with
 |lst j=>cases e;rfl
 |_=>cases e
def FO(e:An d=some i):d = .tup i:=by
 cases d with
 |tup j=>cases e;rfl
 |_=>cases e
def Tc(h:P3 d=some c):d = .int c:=by
 cases d with
 |int i=>cases h;rfl
 |_=>cases h
def IV:D->Option Bool
 | .bl i=>some i
 |_=>none
def OZ(h:IV d=some c):d = .bl c:=by
 cases d with
 |bl i=>cases h;rfl
 |_=>cases h
def A9:RV->Option D
 | .ow (.lf _ d)=>some d
 |_=>none
def MO(h:A9 r=some d):∃st,r = .ow (.lf st d):=by
 cases r with
 |bo i=>cases h
 |ow o=>
  cases o with
  |nd k os=>cases h
  |lf st d=>cases h;exact⟨st,rfl⟩
def Di(r:RV):Option Bool:=(A9 r).bind IV
def Ep(h:Di r=some c):∃st,r = .ow (.lf st<|.bl c):=by
 obtain⟨d,h1,h⟩:=bS_ h;cases OZ h;exact MO h1
def DS(r:RV):Option Int:=(A9 r).bind P3
def CT(h:DS r=some c):∃st,r = .ow (.lf st<|.int c):=by
 obtain⟨d,h1,h⟩:=bS_ h;cases Tc h;exact MO h1
def OA{α:Type}:List α->Option (α×α)
 | [a,b]=>some (a,b)
 |_=>none
def K9{α:Type}{os}{p:α×α}(h:OA os=some p):os=[p.1,p.2]:=by
 cases os with
 |nil=>cases h
 |cons x r=>
  cases r with
  |nil=>cases h
  |cons y r=>
   cases r with
   |nil=>cases h;rfl
   |cons _ _=>cases h
def QP(f g:EF):EF:=λas=>(f as).bind λp=>(Di p.1).bind λc=>if c=true then g p.2 else some (.ow<|.lf true<|.bl false,p.2)
def BQ(f:EF):EF:=λas=>(f as).bind λp=>(Di p.1).bind λc=>some (.ow<|.lf true<|.bl<|!c,p.2)
section
variable{X:Cx}{kd:KD}{a b c:Expr}{fa fb:EF}{ta tb:TF}{pos:Pos}{es rest:List Expr}
def WW(h:PT X e t)(k:∀σ H Q,t' σ H Q->t σ H Q):PT X e t':=λpins s σ H Q I q=>h pins s σ H Q I<|k σ H Q q
def Mq(h:PW X e t)(k:∀σ H Q,t' σ H Q->t σ H Q):PW X e t':=λw pins s σ H Q I q=>h w pins s σ H Q I<|k σ H Q q
def OL{O}{H}{v}{d}{k}(h:Vw X.K kd O H v d)(e:truth d=some k):C3 X.K v H k:=by
 cases h with
 |non=>cases e;rfl
 |bl b=>cases e;rfl
 |int i=>cases e;rfl
 |str x=>
  have e:(if x.length<=sizeLine then some ((x.length:Int) != 0)else none)=some k:=e
  by_cases hl:x.length<=sizeLine
  . rw[if_pos hl]at e;cases e;exact⟨hl,rfl⟩
  . rw[if_neg hl]at e;cases e
 |tup r hs hr=>
  cases e;refine .inr<|.inl ⟨_,hs, ?_⟩;cases hr<;>rfl
 |lst hs hr=>
  cases e;refine .inl ⟨_,hs.sq, ?_⟩;cases hr<;>rfl
 |dct=>cases e
 |cl=>cases e
 |ob=>cases e
 |dt=>cases e
 |er=>cases e
def Yl(ha:AE X kd a fa)(he:∀whole,isTrue a X.env whole=(do let v <-whole;standAt a.pos;holding [v] (truthy v))):AT X kd a (fT fa):=by with_unfolding_all exact(WW (MX ha he) λσ H Q h=>by
 obtain⟨F,B,ad,as,bb,as',R,e,q⟩:=h;obtain⟨⟨p,as1⟩,h1,e⟩:=bS_<|e;obtain⟨⟨d,lv⟩,h2,e⟩:=bS_ e;obtain⟨k,h3,e⟩:=bS_ e;cases e;exact xJ R h1 λv ad1 H1 R1 rv1 g1=>⟨_,OL (yN.vw R1 rv1 h2) h3,q ad1 H1 R1 g1⟩)
def QU(ho:MQ X kd (compareOp op) g)(hg:∀x y r,g x y=some r->∃k,r = .im (.bl k))(ha:AE X kd a fa)(hb:AE X kd b fb)(hm:behindInMarks op b=false):
 AT X kd (.Compare a [op] [b] pos) (fT<|f2 fa fb g):=by with_unfolding_all exact(WW (Lz ho ha hb hm) λσ H Q h=>by
 obtain⟨F,B,ad,as,bb,as',R,e,q⟩:=h;obtain⟨⟨p,as1⟩,h1,e⟩:=bS_<|e;obtain⟨⟨d,lv⟩,h2,e⟩:=bS_ e;obtain⟨k,h3,e⟩:=bS_ e;cases e;obtain⟨_,_,_,x,y,_,_,r0,_,_,_,_,hp,hw⟩:=LI h1;obtain⟨k',rfl⟩:=hg _ _ _ hp;cases hw;cases h2;cases h3;refine J2 (λ_ _ _ _ z=>z) ⟨F,B,ad,as,_,_,R,h1,λv T' ad' H' R' rv g'=>?_⟩;generalize hT:T'=T2 at rv R' g';cases rv with
 |lf rp=>
  cases rp;exact⟨_,rfl,q ad' H' R' g'⟩)
def XT(ha:AT X kd a ta):AT X kd (.UnaryOp .Not a pos) (vq ta):=by with_unfolding_all exact(WW (OV ha) λσ H Q h=>by
 obtain⟨F,B,ad,as,bb,as',R,e,q⟩:=h;obtain⟨⟨p,as1⟩,h1,e⟩:=bS_<|e;cases e;exact⟨F,B,ad,as,p,_,R,h1,λad' H' R' g=>q ad' H' R' g⟩)
def XJ(ha:AT X kd a ta):AW X kd (.BoolOp .And [a] pos) ta:=by with_unfolding_all exact(SV ha)
def YT(ha:AT X kd a ta):AW X kd (.BoolOp .Or [a] pos) ta:=by with_unfolding_all exact(C4 ha)
def GX(ha:AT X kd a ta)(hb:AW X kd (.BoolOp .And (b::rest) pos) tb):AW X kd (.BoolOp .And (a::b::rest) pos) (VE ta tb):=by with_unfolding_all exact(Mq (CF ha hb) λσ H Q h=>by
 obtain⟨F,B,ad,as,bb,as',R,e,q⟩:=h;obtain⟨⟨p,as1⟩,h1,e⟩:=bS_<|e;refine⟨F,B,ad,as,p,as1,R,h1,λad' H' R' g=>?_⟩;cases p with
 |true=>exact⟨F,B,ad',as1,bb,as',R',e,λad2 H2 R2 g2=>q ad2 H2 R2<|g.trans g2⟩
 |false=>cases e;exact q ad' H' R' g)
def GH(ha:AT X kd a ta)(hb:AW X kd (.BoolOp .Or (b::rest) pos) tb):AW X kd (.BoolOp .Or (a::b::rest) pos) (Vn ta tb):=by with_unfolding_all exact(Mq (JC ha hb) λσ H Q h=>by
 obtain⟨F,B,ad,as,bb,as',R,e,q⟩:=h;obtain⟨⟨p,as1⟩,h1,e⟩:=bS_<|e;refine⟨F,B,ad,as,p,as1,R,h1,λad' H' R' g=>?_⟩;cases p with
 |false=>exact⟨F,B,ad',as1,bb,as',R',e,λad2 H2 R2 g2=>q ad2 H2 R2<|g.trans g2⟩
 |true=>cases e;exact q ad' H' R' g)
def AW.at_(h:AW X kd e ta):AT X kd e ta:=by with_unfolding_all exact(PW.pt h)
def Hv{K}{F B}{T}{ad}{σ}{H}{v}{st c}(h:yN K kd F B T ad σ H v (.ow<|.lf st<|.bl c)):T=[]/\v = .bl c:=by
 have h:=h;generalize hT:Gw T ad=G at h;cases h with
 |lf rp=>cases rp;exact⟨rfl,rfl⟩
def QJ(ha:AE X kd a fa):AE X kd (.BoolOp op [a] pos) fa:=by with_unfolding_all exact(CM ha)
def Xu(ha:AE X kd a fa)(hb:AE X kd (.BoolOp .And (b::rest) pos) fb):AE X kd (.BoolOp .And (a::b::rest) pos) (QP fa fb):=by with_unfolding_all exact(yr (HP ha hb) λσ H Q h=>by
 obtain⟨F,B,ad,as,r,as',R,e,q⟩:=h;obtain⟨⟨p,as1⟩,h1,e⟩:=bS_<|e;refine⟨F,B,ad,as,p,as1,R,h1,λv T' ad' H' R' rv g=>?_⟩;obtain⟨k,e1,e⟩:=bS_ e;obtain⟨st,rfl⟩:=Ep e1;obtain⟨rfl,rfl⟩:=Hv rv;cases k with
 |true=>exact⟨true,rfl,⟨F,B,ad',as1,r,as',R',e,λv T2 ad2 H2 R2 rv g2=>q v T2 ad2 H2 R2 rv<|g.trans g2⟩⟩
 |false=>
  cases e;exact⟨false,rfl,q _ [] ad' H' R' (.lf<|.bl false) g⟩)
def OB(ha:AE X kd a fa):AE X kd (.UnaryOp .Not a pos) (BQ fa):=by with_unfolding_all exact(yr (OR ha) λσ H Q h=>by
 obtain⟨F,B,ad,as,r,as',R,e,q⟩:=h;obtain⟨⟨p,as1⟩,h1,e⟩:=bS_<|e;refine⟨F,B,ad,as,p,as1,R,h1,λv T' ad' H' R' rv g=>?_⟩;obtain⟨k,e1,e⟩:=bS_ e;obtain⟨st,rfl⟩:=Ep e1;obtain⟨rfl,rfl⟩:=Hv rv;cases e;exact⟨k,rfl,q _ [] ad' H' R' (.lf<|.bl _) g⟩)
end
abbrev AF:=AS->Option (List RV×AS)
inductive RVs(K:zzA)(kd:KD)(F B:Addr->Prop)(ad:Ad)(σ:St)(H:Hp):List V->List RV->Prop
 |nil:RVs K kd F B ad σ H [] []
 |cons {v:V}{r:RV}{vs:List V}{rs:List RV}:yN K kd F B [] ad σ H v r->RVs K kd F B ad σ H vs rs->RVs K kd F B ad σ H (v::vs) (r::rs)
def J9(K:zzA)(kd:KD)(f:AF):TA:=λσ H Q=>∃F B ad as rs as',Rel K kd F B [] ad as σ H/\f as=some (rs,as')/\
 ∀vs ad' H',Rel K kd F B [] ad' as' σ H'->RVs K kd F B ad' σ H' vs rs->Grow (Gw [] ad) H (Gw [] ad') H'->Q vs H'
@[irreducible] def AA(X:Cx)(kd:KD)(es:List Expr)(f:AF):Prop:=PA X es<|J9 X.K kd f
def aN:AF:=λas=>some ([],as)
def aC(fa:EF)(fr:AF):AF:=λas=>(fa as).bind λp=>(fr p.2).bind λq=>some (p.1.frz::q.1,q.2)
def Pz(h:PA X e t)(k:∀σ H Q,t' σ H Q->t σ H Q):PA X e t':=λpos pins s σ H Q I q=>h pos pins s σ H Q I<|k σ H Q q
abbrev DF:=AS->Option (List O×AS)
def DW(K:zzA)(kd:KD)(f:DF):TA:=λσ H Q=>∃F B ad as os as',Rel K kd F B [] ad as σ H/\f as=some (os,as')/\
 ∀vs T' ad' H',Rel K kd F B T' ad' as' σ H'->x9 K kd F B (Gw T' ad') H' vs os T'->Grow (Gw [] ad) H (Gw T' ad') H'->Q vs H'
@[irreducible] def AD(X:Cx)(kd:KD)(es:List Expr)(f:DF):Prop:=PA X es<|DW X.K kd f
def dN:DF:=λas=>some ([],as)
def dC(fa:EF)(fr:DF):DF:=λas=>(fa as).bind λp=>(SR p.2 p.1).bind λx=>(fr x.2).bind λq=>some (x.1::q.1,q.2)
def views(as:AS):List RV->Option (List D×Option Bool)
 | []=>some ([],some true)
 |r::rs=>(r.view as).bind λx=>(views as rs).bind λy=>some (x.1::y.1,meet x.2 y.2)
def fP(fr:AF)(g:List D->Option R0):EF:=λas=>(fr as).bind λp=>(views p.2 p.1).bind λx=>(g x.1).bind λr=>(wrap x.2 r).bind λz=>some (z,p.2)
def Iz(as:AS):RV->Option (Bool×D)
 | .ow o=>some (zB o.toD||o.str,o.toD)
 | .bo i=>match as[i]? with
  |some (some o)=>some (false,o.toD)
  |_=>none
def Zn(as:AS):List RV->Option (List<|Bool×D)
 | []=>some []
 |r::rs=>(Iz as r).bind λx=>(Zn as rs).bind λy=>some (x::y)
def zp(fr:AF)(g:List (Bool×D)->Option O):EF:=λas=>(fr as).bind λp=>(Zn p.2 p.1).bind λx=>(g x).bind λo=>some (.ow o,p.2)
def DH(K:zzA)(kd:KD)(F:Addr->Prop)(H:Hp)(Q:VK)(o:O):Prop:=
 ∀v T H',T.Nodup->(∀a ∈ T,H a=none)->(∀b u,H b=some u->H' b=some u)->(∀a ∈ T,H' a≠none)->Ro (λ_ v d=>Rp K kd (Xs F (· ∈ T)) H' v d) (λa=>¬Xs F (· ∈ T) a) H' v o T->Q v H'
inductive RpA(K:zzA)(kd:KD)(F:Addr->Prop)(H:Hp):List V->List (Bool×D)->Prop
 |nil:RpA K kd F H [] []
 |cons {v:V}{st:Bool}{d:D}{vs:List V}{ds:List (Bool×D)}:Rp K kd (λa=>st=true/\F a) H v d->RpA K kd F H vs ds->RpA K kd F H (v::vs) ((st,d)::ds)
def HY(K:zzA)(kd:KD)(g:List (Bool×D)->Option O):Sp:=λvs H Q _=>∃F ds o,(∀a,F a->H a≠none)/\RpA K kd F H vs ds/\g ds=some o/\DH K kd F H Q o
def Zf(os:List O):O:=if os.all O.isLf=true then .lf (O.strs os) (.tup<|O.toDs os)else .nd .tp os
def yb(fr:DF):EF:=λas=>(fr as).bind λp=>if p.1.length<=sizeLine then some (.ow<|Zf p.1,p.2)else none
def yR(fr:DF):EF:=λas=>(fr as).bind λp=>if p.1.length<=sizeLine then some (.ow<|.nd .ls p.1,p.2)else none
section
variable{X:Cx}{kd:KD}{a b c:Expr}{fa fb:EF}{ta tb:TF}{pos:Pos}{es rest:List Expr}{fr:AF}{fd:DF}
theorem RpA.length{K}{F}{H}{vs}{ds}(h:RpA K kd F H vs ds):vs.length=ds.length:=by
 induction h with
 |nil=>rfl
 |cons _ _ ih=>exact congrArg (· + 1) ih
def zz:AA X kd [] aN:=by with_unfolding_all exact(Pz Vq λσ H Q h=>by
 obtain⟨F,B,ad,as,rs,as',R,e,q⟩:=h;cases e;exact q [] ad H R .nil Grow.refl)
def BE(ha:AE X kd a fa)(hr:AA X kd es fr)(hs:starEach (a::es) X.env=(false,eval a X.env)::starEach es X.env):AA X kd (a::es) (aC fa fr):=by with_unfolding_all exact(Pz (wQ ha hr hs) λσ H Q h=>by
 obtain⟨F,B,ad,as,rs,as',R,e,q⟩:=h;obtain⟨⟨p,as1⟩,h1,e⟩:=bS_<|e;obtain⟨⟨z,as2⟩,h2,e⟩:=bS_ e;cases e;refine xJ R h1 λv ad1 H1 R1 rv1 g1=>⟨F,B,ad1,as1,z,_,R1,h2,λvs ad2 H2 R2 rv2 g2=>?_⟩;exact q _ ad2 H2 R2 (.cons (rv1.grow g2) rv2)<|g1.trans g2)
def yp:AD X kd [] dN:=by with_unfolding_all exact(Pz Vq λσ H Q h=>by
 obtain⟨F,B,ad,as,rs,as',R,e,q⟩:=h;cases e;exact q [] [] ad H R .nil Grow.refl)
def Sl(ha:AE X kd a fa)(hr:AD X kd es fd)(hs:starEach (a::es) X.env=(false,eval a X.env)::starEach es X.env):AD X kd (a::es) (dC fa fd):=by with_unfolding_all exact(Pz (wQ ha hr hs) λσ H Q h=>by
 obtain⟨F,B,ad,as,rs,as',R,e,q⟩:=h;obtain⟨⟨p,as1⟩,h1,e⟩:=bS_<|e;obtain⟨⟨o,as2⟩,h2,e⟩:=bS_ e;obtain⟨⟨os,as3⟩,h3,e⟩:=bS_ e;cases e;refine⟨F,B,ad,as,p,as1,R,h1,λv T1 ad1 H1 R1 rv1 g1=>?_⟩;obtain⟨ad2,R2,ro2,le2⟩:=Q9 R1 rv1 h2;refine⟨F,_,ad2,as2,os,_,R2.hide,h3,λvs T3 ad3 H3 R3 ro3 g3=>?_⟩;have kT:=λa m u e=>g3.keep a u e λz=>z.elim (λy=>nomatch y) λ⟨i,y⟩=>R2.dis i a y m;have r1:=xt.lv Vt<|xt.grow g3 kT<|xt.lv Nk ro2;have r3:=x9.lv Vt ro3;refine q _ (T1++T3) ad3 H3 (R3.unhide R2.tnd λa m z=>(R2.btr a z).2.2<|.inl m) (.cons r1 r3)<|(g1.trans<|Grow.less le2).trans ⟨λb u e n=>g3.keep b u e λz=>n<|Gw.drop b z,λb z=>?_⟩
 rcases z with z|z
 . rcases zzM.mp z with z|z
   . exact .inl<|.inl z
   . exact(g3.own b<|.inl z).elim (λy=>.inl<|Gw.drop b y) .inr
 . exact(g3.own b<|.inr z).elim (λy=>.inl<|Gw.drop b y) .inr)
def x8(h:AD X kd es fd):AE X kd (.Tuple es x1 pos) (yb fd):=by with_unfolding_all exact(yr (Cg h) λσ H Q h=>by
 obtain⟨F,B,ad,as,r,as',R,e,q⟩:=h;obtain⟨⟨os,as1⟩,h1,e⟩:=bS_<|e;obtain⟨hz,e⟩:=zu e;cases e;refine⟨F,B,ad,as,os,_,R,h1,λvs T1 ad1 H1 R1 ro1 g1=>⟨by rw[ro1.length];exact hz,λp hp=>?_⟩⟩;have k:∀b o,H1 b=some o->upd H1 p (.tup vs) b=some o:=λb o hb=>by rw[zy<|zU hb hp];exact hb
 obtain⟨R2,g2⟩:=R1.more k;have ro2:=x9.grow g2 (λa _ u h=>k a u h) ro1;have np:=λst z=>R1.trk st p z hp;refine q _ T1 ad1 _ R2 ?_<|g1.trans g2;unfold Zf
 by_cases hl:os.all O.isLf=true
 . rw[if_pos hl];have:=FR ro2 hl;subst this;exact .lf<|.tup (np _) zO<|WY ro2 hl
 . rw[if_neg hl];exact .tp (np _) zO ro2)
def Zo(h:AD X kd es fd):AE X kd (.List es pos) (yR fd):=by with_unfolding_all exact(yr (OJ h) λσ H Q h=>by
 obtain⟨F,B,ad,as,r,as',R,e,q⟩:=h;obtain⟨⟨os,as1⟩,h1,e⟩:=bS_<|e;obtain⟨hz,e⟩:=zu e;cases e;refine⟨F,B,ad,as,os,_,R,h1,λvs T1 ad1 H1 R1 ro1 g1=>⟨by rw[ro1.length];exact hz,λp hp=>?_⟩⟩;have k:∀b o,H1 b=some o->upd H1 p (.lst vs) b=some o:=λb o hb=>by rw[zy<|zU hb hp];exact hb
 obtain⟨R2,g2⟩:=R1.add (N:=[p]) (by simp) (λa m=>by rw[zzR.mp m];exact hp) k (λa m=>by rw[zzR.mp m,zO];simp);exact q _ _ ad1 _ R2 (.ls zO<|x9.grow g2 (λa _ u h=>k a u h) ro1)<|g1.trans g2)
theorem VwL.less{K}{O O'}{H}(g:∀a,O' a->O a){vs}{ds}(h:VwL K kd O H vs ds):VwL K kd O' H vs ds:=by
 induction h with
 |nil=>exact .nil
 |cons h _ ih=>exact .cons (h.less g) ih
def Zy{K}{F B}{ad}{as}{σ}{H}(R:Rel K kd F B [] ad as σ H){vs}{rs}{ds}{lv}(h:RVs K kd F B ad σ H vs rs)(e:views as rs=some (ds,lv)):VwL K kd (Xq F B (Gw [] ad) lv) H vs ds:=by
 induction h generalizing ds lv with
 |nil=>cases e;exact .nil
 |cons h t ih=>
  obtain⟨⟨d,l⟩,h1,e⟩:=bS_<|e;obtain⟨⟨ds,l2⟩,h2,e⟩:=bS_ e;cases e;exact .cons ((yN.vw R h h1).less Xq.meet1)<|(ih h2).less Xq.meet2
def D4{g}{σ}{H}{Q}{R':List V->Hp->VK->Prop}(hr:∀vs H Q,(∃O ds r,(∀a,O a->H a≠none)/\VwL X.K kd O H vs ds/\g ds=some r/\RQ X.K kd O H Q r)->R' vs H Q)
 (h:al X.K kd (fP fr g) σ H Q):J9 X.K kd fr σ H λvs H1=>R' vs H1 Q:=by
 obtain⟨F,B,ad,as,r,as',R,e,q⟩:=h;obtain⟨⟨p,as1⟩,h1,e⟩:=bS_<|e;obtain⟨⟨ds,lv⟩,h2,e⟩:=bS_ e;obtain⟨z,h3,e⟩:=bS_ e;obtain⟨y,h4,e⟩:=bS_ e;cases e;exact⟨F,B,ad,as,p,_,R,h1,λvs ad1 H1 R1 rv1 g1=>hr _ _ _ ⟨_,ds,z,R1.tr _,Zy R1 rv1 h2,h3,vO R1 h4 λw T' H' R' rv' g'=>q w T' ad1 H' R' rv'<|g1.trans g'⟩⟩
def SJ{K}{F B}{ad}{as}{σ}{H}(R:Rel K kd F B [] ad as σ H){vs}{rs}{ds}(h:RVs K kd F B ad σ H vs rs)(e:Zn as rs=some ds):RpA K kd (Lv F B (Gw [] ad) true) H vs ds:=by
 induction h generalizing ds with
 |nil=>cases e;exact .nil
 |cons h t ih=>
  rename_i v r vs rs;obtain⟨⟨st,d⟩,h1,e⟩:=bS_<|e;obtain⟨ds,h2,e⟩:=bS_ e;cases e;refine .cons ?_<|ih h2;cases r with
  |ow o=>
   cases h1;cases hf:zB o.toD with
   |true=>exact(PC h).flat hf
   |false=>
    refine(Pj h).less λa z=>?_;have zs:o.str=true:=z.1;rw[zs];exact z.2
  |bo i=>
   have e:(match as[i]? with|some (some o)=>some (false,o.toD)|_=>none)=some (st,d):=h1;cases k:as[i]? with
   |none=>rw[k]at e;cases e
   |some s=>
    cases s with
    |none=>rw[k]at e;cases e
    |some o=>
     rw[k]at e;cases e;obtain⟨w,hw,ro⟩:=R.sl i _ k;rw[h.2]at hw;cases hw;exact(PC ro).less λa z=>nomatch z.1
def CL{K}{F B}{ad}{as}{σ}{H}{Q}{o}(R:Rel K kd F B [] ad as σ H)(q:∀v T' H',Rel K kd F B T' ad as σ H'->yN K kd F B T' ad σ H' v (.ow o)->Grow (Gw [] ad) H (Gw T' ad) H'->Q v H'):
 DH K kd (Lv F B (Gw [] ad) true) H Q o:=λv T H' hn hl k h1 ro=>by
 obtain⟨R',g⟩:=R.news hn hl k h1;have le:∀st a,Lv F B (Gw T ad) st a->Xs (Lv F B (Gw [] ad) true) (· ∈ T) a:=λst a z=>by
  rcases z with(z|z)|z|z
  . exact .inl<|.inl<|.inl ⟨rfl,z.2⟩
  . exact .inl<|.inl<|.inr z
  . exact .inr z
  . exact .inl<|.inr<|.inr z
 exact q v T H' R' (Ro.mono (λst v d r=>r.less<|le st) (λa vs n e=>⟨λz=>n<|le true a z,e⟩) (λ_ _ _ e=>e) ro) g
def O8(h:al X.K kd (zp fr g) σ H Q):Ha (HY X.K kd g) [] E (J9 X.K kd fr) σ H Q:=by
 obtain⟨F,B,ad,as,r,as',R,e,q⟩:=h;obtain⟨⟨p,as1⟩,h1,e⟩:=bS_<|e;obtain⟨ds,h2,e⟩:=bS_ e;obtain⟨o,h3,e⟩:=bS_ e;cases e;refine⟨F,B,ad,as,p,_,R,h1,λvs ad1 H1 R1 rv1 g1=>?_⟩;show HY X.K kd g _ H1 Q E;rw[zyD];exact⟨_,ds,o,R1.trk true,SJ R1 rv1 h2,h3,CL R1 λw T' H' R' rv' g'=>q w T' ad1 H' R' rv'<|g1.trans g'⟩
end
inductive Out where
 |nx (as:AS)|rt (o:O)|bk (as:AS)|ct (as:AS)
abbrev SF:=AS->Option Out
structure RetOk(K:zzA)(kd:KD)(F:Addr->Prop)(T:List Addr)(H:Hp)(v:V)(o:O):Prop where
 nd:T.Nodup
 tr:∀a ∈ T,H a≠none
 ro:Ro (λ_ v d=>Rp K kd (Xs F (· ∈ T)) H v d) (λa=>¬Xs F (· ∈ T) a) H v o T
def Rb(K:zzA)(kd:KD)(F B:Addr->Prop)(ad:Ad)(H:Hp)(D:Ends):Out->Prop
 | .nx as'=>∀σ' ad' H',Rel K kd F B [] ad' as' σ' H'->Grow (Gw [] ad) H (Gw [] ad') H'->D.nx σ' H'
 | .bk as'=>∀σ' ad' H',Rel K kd F B [] ad' as' σ' H'->Grow (Gw [] ad) H (Gw [] ad') H'->D.bk σ' H'
 | .ct as'=>∀σ' ad' H',Rel K kd F B [] ad' as' σ' H'->Grow (Gw [] ad) H (Gw [] ad') H'->D.ct σ' H'
 | .rt o=>∀v T H',RetOk K kd F T H' v o->Grow (Gw [] ad) H (· ∈ T) H'->D.rt v H'
def be(K:zzA)(kd:KD)(f:SF):TS:=λD σ H=>∃F B ad as o,Rel K kd F B [] ad as σ H/\f as=some o/\Rb K kd F B ad H D o
@[irreducible] def QM(X:Cx)(kd:KD)(st:Stmt)(f:SF):Prop:=PS X st<|be X.K kd f
@[irreducible] def Gq(X:Cx)(kd:KD)(st:List Stmt)(f:SF):Prop:=Gd X st<|be X.K kd f
def yU(h:PS X e t)(k:∀D σ H,t' D σ H->t D σ H):PS X e t':=λpins s σ H D I q=>h pins s σ H D I<|k D σ H q
def XX(h:Gd X e t)(k:∀D σ H,t' D σ H->t D σ H):Gd X e t':=λpins s σ H D I q=>h pins s σ H D I<|k D σ H q
def Rb.pre{K}{kd}{F B}{ad ad1}{H H1}{D}{o}(g:Grow (Gw [] ad) H (Gw [] ad1) H1)(h:Rb K kd F B ad H D o):Rb K kd F B ad1 H1 D o:=by
 cases o with
 |nx as=>exact λσ' ad' H' R g'=>h σ' ad' H' R (g.trans g')
 |bk as=>exact λσ' ad' H' R g'=>h σ' ad' H' R (g.trans g')
 |ct as=>exact λσ' ad' H' R g'=>h σ' ad' H' R (g.trans g')
 |rt r=>exact λv T H' R g'=>h v T H' R<|g.trans g'
noncomputable def vS:SF:=λas=>some<|.nx as
def zf(f g:SF):SF:=λas=>(f as).bind λo=>match o with | .nx as'=>g as'|o=>some o
def wJ(c:TF)(f g:SF):SF:=λas=>(c as).bind λp=>if p.1=true then f p.2 else g p.2
def yy(f:EF):SF:=λas=>(f as).bind λp=>some<|.nx p.2
def Ee(as:AS):RV->Option O
 | .ow o=>if o.str=true then some o else none
 | .bo i=>match as[i]? with
  |some (some o)=>if o.str=true then some o else none
  |_=>none
def zX(f:EF):SF:=λas=>(f as).bind λp=>(Ee p.2 p.1).bind λo=>some<|.rt o
def zm(z:Bool)(i:Nat)(f:EF):SF:=λas=>(f as).bind λp=>(SR p.2 (if z=true then p.1.frz else p.1)).bind λx=>if i<x.2.length then some (.nx<|x.2.set i<|some x.1)else none
def Ro.strong(h:Ro L N H v o fp)(e:o.str=true):Ro (λst v d=>st=true/\L st v d) N H v o fp:=
 Ro.rec (motive_2:=λvs os fp _=>O.strs os=true->RoL (λst v d=>st=true/\L st v d) N H vs os fp)
  (λh e=>.lf ⟨e,h⟩) (λh _ r e=>.ls h<|r e) (λh l _ r e=>.dc h l<|r e) (λc h l _ r e=>.ob ⟨rfl,c⟩ h l<|r e) (λh l _ r e=>.dt h l<|r e) (λn h _ r e=>.tp n h<|r e) (λ_=>.nil) (λ_ _ h r e=>.cons (h ((zyB _ _).mp e).1)<|r ((zyB _ _).mp e).2) h e
section
variable{K:zzA}{kd:KD}{F B:Addr->Prop}{T:List Addr}{ad ad1:Ad}{as as1:AS}{σ:St}{H H1:Hp}{v:V}{r:RV}{o:O}
def Kg(R:Rel K kd F B T ad as σ H)(hn:T'.Nodup)(hs:∀a ∈ T',Gw T ad a)(h:xt K kd F B (Gw T ad) H v o T')(e:o.str=true):RetOk K kd F T' H v o:=by
 have le:∀a,Xs F (· ∈ T') a->Lv F B (Gw T ad) true a:=λa z=>z.elim (λy=>.inl<|.inl ⟨rfl,y⟩) λy=>.inr<|hs a y;exact⟨hn,λa m=>(R.gtr a<|hs a m).1,Ro.mono (λst v d r=>by obtain⟨rfl,r⟩:=r;exact r.less le) (λa vs n e=>⟨λz=>n<|le a z,e⟩) (λ_ _ _ e=>e)<|Ro.strong h e⟩
def Rel.ret(R:Rel K kd F B T ad as σ H)(hr:yN K kd F B T ad σ H v r)(e:Ee as r=some o):∃T',RetOk K kd F T' H v o/\∀b ∈ T',Gw T ad b:=by
 cases r with
 |ow o'=>
  obtain⟨hs,rfl⟩:=zu e;exact⟨T,Kg R R.tnd (λa m=>.inl m) hr hs,λa m=>.inl m⟩
 |bo i=>
  have e:(match as[i]? with|some (some o)=>if o.str=true then some o else none|_=>none)=some o:=e;cases k:as[i]? with
  |none=>rw[k]at e;cases e
  |some s=>
   cases s with
   |none=>rw[k]at e;cases e
   |some o1=>
    rw[k]at e;obtain⟨hs,rfl⟩:=zu e;obtain⟨w,hw,ro⟩:=R.sl i _ k;rw[hr.2]at hw;cases hw;exact⟨ad i,Kg R (R.nd i) (λa m=>.inr ⟨i,m⟩) ro hs,λa m=>.inr ⟨i,m⟩⟩
end
section
variable{X:Cx}{kd:KD}{st:Stmt}{sts rest:List Stmt}{a b c e:Expr}{fa fb:EF}{ta:TF}{pos:Pos}{f g:SF}
def wk:Gq X kd [] vS:=by with_unfolding_all exact(XX RX λD σ H h=>by
 obtain⟨F,B,ad,as,o,R,e,q⟩:=h;cases e;exact q σ ad H R Grow.refl)
def zK(h1:QM X kd st f)(h2:Gq X kd rest g):Gq X kd (st::rest) (zf f g):=by with_unfolding_all exact(XX (Tq h1 h2) λD σ H h=>by
 obtain⟨F,B,ad,as,o,R,e,q⟩:=h;obtain⟨o1,e1,e⟩:=bS_<|show(f as).bind _=_ from e;refine⟨F,B,ad,as,o1,R,e1, ?_⟩;cases o1 with
 |nx as1=>exact λσ' ad' H' R' g'=>⟨F,B,ad',as1,o,R',e,q.pre g'⟩
 |bk as1=>cases e;exact q
 |ct as1=>cases e;exact q
 |rt r=>cases e;exact q)
def z_(h1:QM X kd st f):Gq X kd [st] f:=by with_unfolding_all exact(Pg h1)
def DT:SF:=λ_=>none
def Jt:QM X kd st DT:=by with_unfolding_all exact(λpins s σ H D I h=>by obtain⟨F,B,ad,as,o,R,e,q⟩:=h;cases e)
def Xn(hc:AT X kd c ta)(ha:Gq X kd sts f)(hb:Gq X kd rest g):QM X kd (.If c sts rest pos) (wJ ta f g):=by with_unfolding_all exact(yU (ML hc ha hb) λD σ H h=>by
 obtain⟨F,B,ad,as,o,R,e,q⟩:=h;obtain⟨⟨p,as1⟩,h1,e⟩:=bS_<|show(ta as).bind _=_ from e;refine⟨F,B,ad,as,p,as1,R,h1,λad' H' R' g=>?_⟩;cases p with
 |true=>exact⟨F,B,ad',as1,o,R',e,q.pre g⟩
 |false=>exact⟨F,B,ad',as1,o,R',e,q.pre g⟩)
def QD(he:AE X kd e fa)(hs:swapsWith e none pos.line X.env=pure false):QM X kd (.Expr e pos) (yy fa):=by with_unfolding_all exact(yU (Wh he hs) λD σ H h=>by
 obtain⟨F,B,ad,as,o,R,e,q⟩:=h;obtain⟨⟨p,as1⟩,h1,e⟩:=bS_<|show(fa as).bind _=_ from e;cases e;exact⟨F,B,ad,as,p,as1,R,h1,λv T' ad' H' R' rv g=>q σ ad' H' R'.drop<|g.trans<|Grow.less Gw.drop⟩)
def xu(he:AE X kd e fa):QM X kd (.Return (some e) pos) (zX fa):=by with_unfolding_all exact(yU (CU he) λD σ H h=>by
 obtain⟨F,B,ad,as,o,R,e,q⟩:=h;obtain⟨⟨p,as1⟩,h1,e⟩:=bS_<|show(fa as).bind _=_ from e;obtain⟨r,h2,e⟩:=bS_ e;cases e;refine⟨F,B,ad,as,p,as1,R,h1,λv T' ad' H' R' rv g=>?_⟩;obtain⟨T2,ro,le⟩:=R'.ret rv h2;exact q v T2 H' ro<|g.trans<|Grow.less le)
def P2{K}{F B}{T}{ad}{as as2}{σ}{H}{v}{r}{z}{o}{i:Nat}(R:Rel K kd F B T ad as σ H)(rv:yN K kd F B T ad σ H v r)
 (h2:SR as (if z=true then r.frz else r)=some (o,as2)) (hl:i<as2.length):∃ad',Rel K kd F B [] ad' (as2.set i<|some o) (σ.set i<|some v) H/\∀a,Gw [] ad' a->Gw T ad a:=by
 cases z with
 |true=>
  obtain⟨ad1,R1,ro,le⟩:=Q9 R.drop (yN.drop R rv) h2;exact⟨_,R1.put hl ro,λa y=>Gw.drop a<|le a<|ZG a y⟩
 |false=>
  obtain⟨ad1,R1,ro,le⟩:=Q9 R rv h2;exact⟨_,R1.put hl ro,λa y=>le a<|ZG a y⟩
def EG(hN:X.N.Nodup)(hi:X.N[i]? = some x)(hx:Loc X.env.scope x)(he:AE X kd e fa)(hs:swapsWith e (some<|.Name x pos') pos.line X.env=pure false)(hf:X.fn x=true\/X.env.scope.names.lookup x=some .local):
 QM X kd (.Assign [.Name x pos'] e pos) (zm z i fa):=by with_unfolding_all exact(yU (FB hN hi hx he hs hf) λD σ H h=>by
 obtain⟨F,B,ad,as,o,R,e,q⟩:=h;obtain⟨⟨p,as1⟩,h1,e⟩:=bS_<|show(fa as).bind _=_ from e;obtain⟨⟨y,as2⟩,h2,e⟩:=bS_ e;obtain⟨hl,e⟩:=zu e;cases e;refine⟨F,B,ad,as,p,as1,R,h1,λv T' ad' H' R' rv g=>?_⟩;obtain⟨ad2,R2,le⟩:=P2 R' rv h2 hl;exact q _ ad2 H' R2<|g.trans<|Grow.less le)
end
def yF(n:Nat)(ds:List (Bool×D)):AS:=ds.map (λx=>some<|.lf x.1 x.2)++List.replicate (n-ds.length) none
def Ak:Out->Option O
 | .nx _=>some<|.lf true .non
 | .rt o=>some o
 |_=>none
def Yr(n m:Nat)(f:SF)(ds:List (Bool×D)):Option O:=if ds.length=m then(f<|yF n ds).bind Ak else none
theorem RpA.get{K}{kd}{F}{H}:∀{vs:List V}{ds:List (Bool×D)}{i:Nat}{x:Bool×D},RpA K kd F H vs ds->ds[i]? = some x->∃v,vs[i]? = some v/\Rp K kd (λa=>x.1=true/\F a) H v x.2
 |_,_,_,_,.nil,e=>by simp at e
 |_,_,0,_,.cons h _,e=>by simp at e;subst e;exact⟨_,rfl,h⟩
 |_,_,i+1,_,.cons _ r,e=>by
  obtain⟨v,h1,h2⟩:=RpA.get (i:=i) r (by simpa using e);exact⟨v,by simpa using h1,h2⟩
def Nt{K}{kd}{F}{H}{N}{vs}{ds}(ht:∀a,F a->H a≠none)(rp:RpA K kd F H vs ds):
 Rel K kd F (λ_=>False) [] (λ_=>[]) (yF N.length ds) (L2.start N vs) H:=by
 have hl:=rp.length;have no:∀a,¬Gw [] (λ_=>[]) a:=λa z=>z.elim (λy=>nomatch y) λ⟨_,y⟩=>nomatch y;refine⟨by unfold yF L2.start;simp[hl],λ_ _=>rfl,λ_=>zyI,(λ_ _ _ z=>nomatch z),zyI,(λ_ _ _ z=>nomatch z),ht,(λ_ z=>z.elim),λa z=>(no a z).elim,λi s e=>?_⟩;unfold yF at e;unfold L2.start
 by_cases hi:i<ds.length
 . rw[zyO (by rw[zzB];exact hi),zzI]at e;obtain⟨d,hd,ea⟩:=Option.map_eq_some_iff.mp e;subst ea;obtain⟨v,hv,rv⟩:=rp.get hd;rw[zyO (by rw[zzB,hl];exact hi),zzI,hv];refine⟨v,rfl,.lf<|rv.less λa z=>?_⟩
   rcases z with(z|z)|z
   . exact z
   . exact z.elim
   . exact(no a z).elim
 . rw[zyQ<|by rw[zzB];omega]at e;have:=zzZ e;have ea:=(List.mem_replicate.mp this).2;subst ea;rfl
section
variable{P:Program}{w:World}{K:zzA}{mg:Str->Option Value}{base:Heap}
def EJ(q:DH K kd F H Q o)(ro:RetOk K kd F T H' v o)(g:Grow (Gw [] λ_=>[]) H (· ∈ T) H'):Q v H':=by
 have no:∀a,¬Gw [] (λ_=>[]) a:=λa z=>z.elim (λy=>nomatch y) λ⟨_,y⟩=>nomatch y;exact q v T H' ro.nd (λa m=>(g.own a m).resolve_left<|no a) (λb u h=>g.keep b u h<|no b) ro.tr ro.ro
def IA{kd}{x qual}{st}{f}{fd}{N ps}{k:Nat}{c}(Fn:Fun K x qual st f fd)(S:FnScope N ps (zj st))
 (hb:∀(cdv:Value) (A:Around) (outer:List Env) (s:Shared) (H:Hp) (E:XK),Room k (A.deeper<|envOfC qual (zj st) s.heap.objs.size f cdv)->Gq (PQ Tf P w K mg base N qual (zj st) f cdv A outer s H E).nox kd (vF st) c):
 FnOk P w K mg base Tf (k+1) f fd ps (HY K kd<|Yr N.length ps.length c):=by
 with_unfolding_all (
 refine Fn.ok S (λvs H Q E h=>?_) λcdv A outer s H vs Q E hr h=>⟨_,hb cdv A outer s H E hr, ?_⟩
 . obtain⟨F,ds,r,_,rp,e,_⟩:=h;unfold Yr at e
   by_cases hl:ds.length=ps.length
   . rw[rp.length,hl]
   . rw[if_neg hl]at e;cases e
 . obtain⟨F,ds,r,ht,rp,e,q⟩:=h;unfold Yr at e
   by_cases hl:ds.length=ps.length
   . rw[if_pos hl]at e;obtain⟨o,e1,e⟩:=bS_ e;refine⟨F,λ_=>False,λ_=>[],yF N.length ds,o,Nt ht rp,e1, ?_⟩;cases o with
     |nx as=>cases e;exact λσ' ad' H' R g=>EJ q (T:=[]) ⟨zyI,(λ_ m=>nomatch m),.lf .non⟩ (g.trans<|Grow.less (λ_ z=>nomatch z))
     |rt o=>cases e;exact λv T H' ro g=>EJ q ro g
     |bk=>cases e
     |ct=>cases e
   . rw[if_neg hl]at e;cases e)
end
abbrev ZV:=Bool×D
abbrev GF:=ZV->AS->Option AS
abbrev Hs:=List ZV->AS->Option AS
def kids(st:Bool)(ds:List D):List ZV:=ds.map λd=>(zB d||st,d)
inductive RpI(K:zzA)(kd:KD)(F B G:Addr->Prop)(H:Hp):List V->List ZV->Prop
 |nil:RpI K kd F B G H [] []
 |cons {v:V}{x:ZV}{vs:List V}{ds:List ZV}:Rp K kd (Lv F B G x.1) H v x.2->RpI K kd F B G H vs ds->RpI K kd F B G H (v::vs) (x::ds)
def J0(K:zzA)(kd:KD)(S:List Nat)(g:GF):TG:=λv σ H Q=>∃F B ad as x as',Rel K kd F B [] ad as σ H/\Rp K kd (Lv F B (Gw [] ad) x.1) H v x.2/\g x as=some as'/\
 ∀σ' ad' H',Rel K kd F B [] ad' as' σ' H'->Grow (Gw [] ad) H (Gw [] ad') H'->(∀j,j ∉ S->σ'[j]? = σ[j]?)->Q σ' H'
def Ai(K:zzA)(kd:KD)(S:List Nat)(g:Hs):Cn:=λvs σ H Q=>∃F B ad as ds as',Rel K kd F B [] ad as σ H/\RpI K kd F B (Gw [] ad) H vs ds/\g ds as=some as'/\
 ∀σ' ad' H',Rel K kd F B [] ad' as' σ' H'->Grow (Gw [] ad) H (Gw [] ad') H'->(∀j,j ∉ S->σ'[j]? = σ[j]?)->Q σ' H'
@[irreducible] def AG(X:Cx)(kd:KD)(tg:Expr)(S:List Nat)(g:GF):Prop:=PG X tg<|J0 X.K kd S g
@[irreducible] def Hd(X:Cx)(kd:KD)(tg:List Expr)(S:List Nat)(g:Hs):Prop:=Hj X tg<|Ai X.K kd S g
def Om(h:PG X e t)(k:∀v σ H Q,t' v σ H Q->t v σ H Q):PG X e t':=λpins s σ H v u Q I r q=>h pins s σ H v u Q I r<|k v σ H Q q
def Lk(h:Hj X e t)(k:∀v σ H Q,t' v σ H Q->t v σ H Q):Hj X e t':=λpins s σ H v u Q I r q=>h pins s σ H v u Q I r<|k v σ H Q q
def gN(i:Nat):GF:=λx as=>if i<as.length then some (as.set i<|some<|.lf x.1 x.2)else none
def YS:Hs:=λds as=>match ds with | []=>some as|_::_=>none
def yT(g:GF)(gs:Hs):Hs:=λds as=>match ds with | []=>none|d::r=>(g d as).bind λas1=>gs r as1
def gT(n:Nat)(gs:Hs):GF:=λx as=>match x.2 with
 | .tup ds=>if ds.length=n then gs (kids x.1 ds) as else none
 | .lst ds=>if ds.length=n then gs (kids x.1 ds) as else none
 |_=>none
section
variable{K:zzA}{kd:KD}{F B G G':Addr->Prop}{H H':Hp}
theorem RpI.length(h:RpI K kd F B G H vs ds):vs.length=ds.length:=by
 induction h with
 |nil=>rfl
 |cons _ _ ih=>exact congrArg (· + 1) ih
theorem RpI.grow(g:Grow G H G' H')(h:RpI K kd F B G H vs ds):RpI K kd F B G' H' vs ds:=by
 induction h with
 |nil=>exact .nil
 |cons h _ ih=>exact .cons (Rp.grow g h) ih
def RpI.get{vs}{ds}{i:Nat}{x}(h:RpI K kd F B G H vs ds)(e:ds[i]? = some x):∃v,vs[i]? = some v/\Rp K kd (Lv F B G x.1) H v x.2:=by
 induction h generalizing i with
 |nil=>simp at e
 |cons h r ih=>
  cases i with
  |zero=>simp at e;subst e;exact⟨_,rfl,h⟩
  |succ i=>
   obtain⟨v,h1,h2⟩:=ih (by simpa using e);exact⟨v,by simpa using h1,h2⟩
def YH{st}{vs}{ds}(h:RpL K kd (Lv F B G st) H vs ds):RpI K kd F B G H vs (kids st ds):=
 RpL.ind (P:=λvs ds=>RpI K kd F B G H vs<|kids st ds) .nil (λ{v d vs ds} h _ ih=>by
  refine .cons (x:=(zB d||st,d)) ?_ ih;cases e:zB d with
  |true=>exact h.flat e
  |false=>exact h) h
end
section
variable{prog:Program}{w:World}{A:Around}{E:Value->Shared->Prop}{s:Shared}
theorem U3(hne:l≠it):∀(n i:Nat) (s:Shared) (Q:List Value->Shared->Prop),s.heap.IsListIter it l i->s.heap.IsList l items->i+n<=items.size->
 (∀h',h'.IsListIter it l (i+n)->Heap.SameBut it s.heap h'->Q ((items.toList.drop i).take n) {s with heap:=h'})->wpAny (model prog w) A (draw (.ref it) n) Q E s
 |0,i,s,Q,hit,_,_,hQ=>by
  exact zxF (by simpa using hQ s.heap hit (Heap.SameBut.refl ..))
 |n+1,i,s,Q,hit,ht,hle,hQ=>by
  have hlt:i<items.size:=by omega
  refine zxE<|wpAny_pyNext_list_item hit ht (x:=items[i]) (by simp[hlt]) λh₁ hit₁ hs₁=>?_;refine zxE<|zxL<|U3 hne n (i+1) _ _ hit₁ (ht.extBut hs₁.extBut hne) (by omega) λh₂ hit₂ hs₂=>zxF ?_;have hd:items.toList.drop i=items[i]::items.toList.drop (i+1):=by simp[zyP,hlt]
  have:=hQ h₂ (by rw[show i+(n+1)=i+1+n by omega];exact hit₂)<|hs₁.trans hs₂;rw[hd,List.take_succ_cons]at this;exact this
def Gm(hh:A.handled=none)(ht:s.heap.IsList l items)
 (hn:targets.length=items.size) (hstar:targets.findIdx? (·.1)=none)
 (h:∀h',Heap.ExtBut s.heap.objs.size s.heap h'->wpAny (model prog w) A (assignInOrder (targets.map (·.2)) items.toList) Q E {s with heap:=h'}):
 wpAny (model prog w) A (unpack (.ref l) targets) Q E s:=by
 unfold unpack;rw[hn,hstar];refine zxE<|zxL ?_;have hlt:l≠s.heap.objs.size:=by obtain⟨o,ho,_⟩:=ht;exact zzQ<|zxH ho
 unfold unpackItems;refine zxE ?_;unfold notIterableAtAll;refine zxE<|wpAny_specialOf ht.typeIs PySem.F.slot_list_iter.lookup ?_;refine zxF ?_;simp only[Bool.false_eq_true,if_false];refine zxE<|zxL<|wpAny_pyIter_list ht ?_;refine zxE<|zxL<|U3 hlt items.size 0 _ _ ⟨_,zxI _ rfl,rfl,rfl⟩ (ht.push _) (by omega) λh₁ hit₁ hs₁=>?_;have hall:List.take items.size (List.drop 0 items.toList)=items.toList:=by
  rw[List.drop_zero];exact List.take_of_length_le (by simp)
 rw[hall];rw[if_neg<|by simp];have ht₁:=(ht.push _).extBut hs₁.extBut hlt;refine zxE<|zxL<|wpAny_pyNext_list_end hh hit₁ ht₁ (by simp) λh₂ he₂=>?_;simp only[Option.isSome_none,Bool.false_eq_true,if_false];exact zxF<|h h₂ λb o hb e=>he₂ b o hb<|hs₁.extBut b o hb<|zxG _ e
end
section
variable{X:Cx}{kd:KD}{a b c e tg iter:Expr}{es:List Expr}{body:List Stmt}{fa fb:EF}{pos:Pos}{g:GF}{gs:Hs}{f:SF}{ta:TF}{S S1 S2:List Nat}
def Dr(K:zzA)(n:Nat)(t:Cn):TG:=λv σ H Q=>∃a xs,v = .ref a/\Qn K H a xs/\xs.length=n/\t xs σ H Q
def Er(hc:X.calm=true)(h:Hj X es t)(hn:(assignEach es X.env).length=n)(hst:(assignEach es X.env).findIdx? (·.1)=none):PG X (.Tuple es k pos) (Dr X.K n t):=by
 intro pins s σ H v u Q I r hw;obtain⟨a,xs,e1,hq,hl,hw⟩:=hw;subst e1;cases r;obtain⟨its,rv,ht,hz⟩:=I.list hq;rw[assign_Tuple];refine zxE<|wpAny_standAt<|Gm (I.ok.hd hc) ht.isList (by simp[hn,<-hl,rv.length]) hst λh' hx=>?_;have I1:=I.kept (t':=s.toks) λb o e=>hx b o (zzQ<|zxH e) e;exact h pins _ σ H xs _ Q I1 (by simpa using rv) hw
def L4(hN:X.N.Nodup)(hi:X.N[i]? = some x)(hx:Loc X.env.scope x)(hf:X.fn x=true\/X.env.scope.names.lookup x=some .local):AG X kd (.Name x pos) [i] (gN i):=by with_unfolding_all exact(Om (Bj hN hi hx hf) λv σ H Q h=>by
 obtain⟨F,B,ad,as,y,as',R,rp,e,q⟩:=h;obtain⟨hl,e⟩:=zu e;cases e;exact q _ _ H (R.put hl<|.lf rp) (Grow.less ZG) λj hj=>zzX λz=>hj<|by rw[z];simp)
def WN:Hd X kd [] [] YS:=by with_unfolding_all exact(Lk Br λvs σ H Q h=>by
 obtain⟨F,B,ad,as,ds,as',R,rp,e,q⟩:=h;cases rp with
 |nil=>cases e;exact⟨rfl,q σ ad H R Grow.refl λ_ _=>rfl⟩
 |cons=>cases e)
def xB(h1:AG X kd a S1 g)(h2:Hd X kd es S2 gs)(hs:(assignEach (a::es) X.env).map (·.2)=assign a X.env::(assignEach es X.env).map (·.2)):Hd X kd (a::es) (S1++S2) (yT g gs):=by with_unfolding_all exact(Lk (Fg h1 h2 hs) λvs σ H Q h=>by
 obtain⟨F,B,ad,as,ds,as',R,rp,e,q⟩:=h;cases rp with
 |nil=>cases e
 |cons r rr=>
  obtain⟨as1,e1,e⟩:=bS_<|e;refine⟨_,_,rfl,F,B,ad,as,_,as1,R,r,e1,λσ' ad' H' R' g' k'=>?_⟩;exact⟨F,B,ad',as1,_,as',R',rr.grow g',e,λσ2 ad2 H2 R2 g2 k2=>q σ2 ad2 H2 R2 (g'.trans g2) λj hj=>(k2 j λz=>hj<|zzL _ z).trans<|k' j λz=>hj<|zzP _ z⟩)
def Ur{k n:Nat}(hc:X.calm=true)(h:Hd X kd es S gs)(hn:(assignEach es X.env).length=n)(hst:(assignEach es X.env).findIdx? (·.1)=none):AG X kd (.Tuple es k pos) S (gT n gs):=by
 with_unfolding_all (
 intro pins s σ H v u Q I r hw;obtain⟨F,B,ad,as,⟨st,d⟩,as',R,rp,e,q⟩:=hw;cases d with
 |tup ds=>
  have e:(if ds.length=n then gs (kids st ds) as else none)=some as':=e
  by_cases hl:ds.length=n
  . rw[if_pos hl]at e;have go:∃a xs,v = .ref a/\VZ X.K H a xs/\RpL X.K kd (Lv F B (Gw [] ad) st) H xs ds:=by
     cases rp with
     |tup n h r=>exact⟨_,_,rfl,.inl<|.inl h,r⟩
    obtain⟨a,xs,rfl,hs,rl⟩:=go;exact Ou hc h hn hst pins s σ H _ u Q I r ⟨a,xs,rfl,hs,by rw[rl.length,hl],F,B,ad,as,_,as',R,YH rl,e,q⟩
  . rw[if_neg hl]at e;cases e
 |lst ds=>
  have e:(if ds.length=n then gs (kids st ds) as else none)=some as':=e
  by_cases hl:ds.length=n
  . rw[if_pos hl]at e;cases rp with
    |lstK a b c r'=>exact Er hc h hn hst pins s σ H _ u Q I r ⟨_,_,rfl,.inr ⟨_,_,_,a,rfl,rfl,rfl,b,c⟩,by rw[r'.length,hl],F,B,ad,as,_,as',R,YH r',e,q⟩
    |lst n h' r'=>exact Er hc h hn hst pins s σ H _ u Q I r ⟨_,_,rfl,.inl h',by rw[r'.length,hl],F,B,ad,as,_,as',R,YH r',e,q⟩
  . rw[if_neg hl]at e;cases e
 |_=>cases e)
def Zv(as:AS)(r:RV):Option (ZV×AS):=(SR as r.frz).bind λx=>match x.1 with | .lf st d=>some ((st,d),x.2)|_=>none
def Zk{K}{F B}{T}{ad}{as as'}{σ}{H}{v}{r}{x}(R:Rel K kd F B T ad as σ H)(h:yN K kd F B T ad σ H v r)(e:Zv as r=some (x,as')):
 ∃ad',Rel K kd F B [] ad' as' σ H/\Rp K kd (Lv F B (Gw [] ad') x.1) H v x.2/\∀a,Gw [] ad' a->Gw T ad a:=by
 obtain⟨⟨o,as1⟩,h1,e⟩:=bS_ e;obtain⟨ad1,R1,ro,le⟩:=Q9 R.drop (yN.drop R h) h1;cases o with
 |lf st d=>
  cases e;refine⟨ad1,R1, ?_,λa y=>Gw.drop a<|le a y⟩;have:=Pj ro;exact this
 |nd k os=>cases e
def W6(f:EF)(g:GF):SF:=λas=>(f as).bind λp=>(Zv p.2 p.1).bind λq=>(g q.1 q.2).bind λas'=>some<|.nx as'
def M8(he:AE X kd e fa)(hg:AG X kd tg S g)(hs:swapsWithSole [tg] e pos.line X.env=pure false)(hw:swappedStores [tg] e X.env=pure none)(h1:(assignEach [tg] X.env).map (·.2)=[assign tg X.env]):
 QM X kd (.Assign [tg] e pos) (W6 fa g):=by with_unfolding_all exact(yU (MT he hg hs hw h1) λD σ H h=>by
 obtain⟨F,B,ad,as,o,R,e,q⟩:=h;obtain⟨⟨p,as1⟩,h1,e⟩:=bS_<|e;obtain⟨⟨x,as2⟩,h2,e⟩:=bS_ e;obtain⟨as3,h3,e⟩:=bS_ e;cases e;refine⟨F,B,ad,as,p,as1,R,h1,λv T' ad' H' R' rv g1=>?_⟩;obtain⟨ad2,R2,rp,le⟩:=Zk R' rv h2;exact⟨F,B,ad2,as2,_,as3,R2,rp,h3,λσ' ad' H' R' g' _=>q σ' ad' H' R'<|(g1.trans<|Grow.less le).trans g'⟩)
structure ItOk(K:zzA)(kd:KD)(F B:Addr->Prop)(ad:Ad)(H:Hp)(J:It)(ds:List ZV):Prop where
 all:∀(ad2:Ad) (H2:Hp),Grow (Gw [] ad) H (Gw [] ad2) H2->(∀st a,Lv F B (Gw [] ad2) st a->H2 a≠none)->∀i,(i<ds.length->J.go i H2)/\(ds.length<=i->J.stop i H2)/\
  ∀v H3,J.yld i H2 v H3->(∀b o,H2 b=some o->H3 b=some o)/\∀x,ds[i]? = some x->Rp K kd (Lv F B (Gw [] ad2) x.1) H3 v x.2
abbrev IF:=AS->Option (List ZV×AS)
def uO(K:zzA)(kd:KD)(f:IF):TI:=λσ H R=>∃F B ad as ds as',Rel K kd F B [] ad as σ H/\f as=some (ds,as')/\
 ∀J ad' H',Rel K kd F B [] ad' as' σ H'->Grow (Gw [] ad) H (Gw [] ad') H'->ItOk K kd F B ad' H' J ds->R J H'
@[irreducible] def AI(X:Cx)(kd:KD)(tg iter:Expr)(f:IF):Prop:=PI X tg iter<|uO X.K kd f
def forL(g:GF)(f:SF):List ZV->AS->Option Out
 | [],as=>some (.nx as)
 |d::r,as=>(g d as).bind λas1=>(f as1).bind λo=>match o with
  | .nx as'=>forL g f r as'
  | .ct as'=>forL g f r as'
  | .bk as'=>some<|.nx as'
  | .rt r=>some<|.rt r
def yw(fi:IF)(g:GF)(f:SF):SF:=λas=>(fi as).bind λp=>forL g f p.1 p.2
def v9(hp:PassesOwn (model X.prog X.w) X.A X.env X.xe)(hc:X.calm=true)(hi:AI X kd tg iter fi)(hg:AG X kd tg S g)(hb:Gq X kd body f)(hs:∀x,foldedSetIterable iter X.env x=pure x):
 QM X kd (.For tg iter body [] pos) (yw fi g f):=by with_unfolding_all exact(yU (GS hp hc hi hg hb hs) λD σ H h=>by
 obtain⟨F,B,ad,as,o,R,e,q⟩:=h;obtain⟨⟨ds,as1⟩,h1,e⟩:=bS_<|e;refine⟨F,B,ad,as,ds,as1,R,h1,λJ ad1 H1 R1 g1 it=>?_⟩;refine⟨λi m σ2 H2=>m+i=ds.length/\∃ad2 as2,Rel X.K kd F B [] ad2 as2 σ2 H2/\Grow (Gw [] ad1) H1 (Gw [] ad2) H2/\forL g f (ds.drop i) as2=some o,⟨ds.length,rfl,ad1,as1,R1,Grow.refl,e⟩, ?_⟩
 rintro i m σ2 H2 ⟨hm,ad2,as2,R2,g2,e2⟩
 obtain⟨k1,k2,k3⟩:=it.all ad2 H2 g2 R2.trk i
 by_cases hi:i<ds.length
 . refine .inr ⟨k1 hi,λσ3 H3=>∃ad3 as3,Rel X.K kd F B [] ad3 as3 σ3 H3/\Grow (Gw [] ad1) H1 (Gw [] ad3) H3/\forL g f (ds.drop<|i+1) as3=some o,λσ3 H3 ⟨ad3,as3,R3,g3,e3⟩=>⟨m-1,by omega,by omega,ad3,as3,R3,g3,e3⟩,λv H3 hy=>?_⟩;obtain⟨kp,rp⟩:=k3 v H3 hy;rw[zyP hi]at e2;obtain⟨as3,e3,e2⟩:=bS_<|e2;obtain⟨o3,e4,e2⟩:=bS_ e2;obtain⟨R3,g3⟩:=R2.more kp;refine⟨F,B,ad2,as2,_,as3,R3,rp _<|zzE hi,e3,λσ4 ad4 H4 R4 g4 _=>?_⟩;refine⟨F,B,ad4,as3,o3,R4,e4, ?_⟩;have gg:=(g2.trans g3).trans g4;cases o3 with
   |nx as5=>exact λσ5 ad5 H5 R5 g5=>⟨ad5,as5,R5,gg.trans g5,e2⟩
   |ct as5=>exact λσ5 ad5 H5 R5 g5=>⟨ad5,as5,R5,gg.trans g5,e2⟩
   |bk as5=>
    cases e2;exact λσ5 ad5 H5 R5 g5=>q σ5 ad5 H5 R5 (g1.trans<|gg.trans g5)
   |rt r=>
    cases e2;exact λv T H5 ro g5=>q v T H5 ro<|g1.trans<|gg.trans g5
 . refine .inl ⟨k2 (by omega), ?_⟩;rw[List.drop_eq_nil_of_le<|by omega]at e2;cases e2;exact q σ2 ad2 H2 R2<|g1.trans g2)
def LX(c:TF)(f:SF):Nat->AS->Option Out
 |0,_=>none
 |n+1,as=>(c as).bind λp=>if p.1=true then(f p.2).bind λo=>match o with
  | .nx as'=>LX c f n as'
  | .ct as'=>LX c f n as'
  | .bk as'=>some<|.nx as'
  | .rt r=>some (.rt r)else some<|.nx p.2
def TC(hp:PassesOwn (model X.prog X.w) X.A X.env X.xe)(hc:AT X kd c ta)(hb:Gq X kd body f):QM X kd (.While c body [] pos) (LX ta f n):=by with_unfolding_all exact(yU (Ey hp hc hb) λD σ H h=>by
 obtain⟨F,B,ad,as,o,R,e,q⟩:=h;refine⟨λm σ2 H2=>∃ad2 as2,Rel X.K kd F B [] ad2 as2 σ2 H2/\Grow (Gw [] ad) H (Gw [] ad2) H2/\LX ta f m as2=some o,⟨n,ad,as,R,Grow.refl,e⟩, ?_⟩
 rintro m σ2 H2 ⟨ad2,as2,R2,g2,e2⟩
 cases m with
 |zero=>cases e2
 |succ m=>
  obtain⟨⟨p,as3⟩,e3,e2⟩:=bS_<|e2;refine⟨F,B,ad2,as2,p,as3,R2,e3,λad3 H3 R3 g3=>?_⟩;cases p with
  |true=>
   rw[if_pos rfl]at e2 ⊢;obtain⟨o3,e4,e2⟩:=bS_ e2;refine⟨λσ3 H3=>∃ad3 as3,Rel X.K kd F B [] ad3 as3 σ3 H3/\Grow (Gw [] ad) H (Gw [] ad3) H3/\LX ta f m as3=some o,λσ3 H3 h=>⟨m,by omega,h⟩,F,B,ad3,as3,o3,R3,e4, ?_⟩;have gg:=g2.trans g3;cases o3 with
   |nx as5=>exact λσ5 ad5 H5 R5 g5=>⟨ad5,as5,R5,gg.trans g5,e2⟩
   |ct as5=>exact λσ5 ad5 H5 R5 g5=>⟨ad5,as5,R5,gg.trans g5,e2⟩
   |bk as5=>
    cases e2;exact λσ5 ad5 H5 R5 g5=>q σ5 ad5 H5 R5 (gg.trans g5)
   |rt r=>
    cases e2;exact λv T H5 ro g5=>q v T H5 ro (gg.trans g5)
  |false=>
   rw[if_neg zyU]at e2 ⊢;cases e2;exact q σ2 ad3 H3 R3<|g2.trans g3)
def Gs:ZV->Option (List ZV)
 |(st,.lst ds)=>some (kids st ds)
 |(st,.tup ds)=>some (kids st ds)
 |_=>none
def Qk(f:EF):IF:=λas=>(f as).bind λp=>(Zv p.2 p.1).bind λq=>(Gs q.1).bind λds=>some (ds,q.2)
def L3{K}{F B}{ad}{H}{a}{vs}{ds}(hs:∀(ad3:Ad) (H3:Hp),Grow (Gw [] ad) H (Gw [] ad3) H3->Qn K H3 a vs)(r:RpI K kd F B (Gw [] ad) H vs ds):ItOk K kd F B ad H (J1 K a) ds:=⟨λad3 H3 g3 _ i=>by
 have hr3:=hs ad3 H3 g3;have rl3:=r.grow g3;refine⟨λhi=>?_,λhi=>⟨_,hr3,by rw[r.length];exact hi⟩,λv H4 hy=>?_⟩
 . obtain⟨u,hu,_⟩:=r.get<|zzE hi;exact⟨_,u,hr3,hu⟩
 . obtain⟨rfl,hv⟩:=hy;refine⟨λ_ _ z=>z,λd hd=>?_⟩;obtain⟨u,hu,ru⟩:=rl3.get hd;have:=hv _ hr3;rw[hu]at this;cases this;exact ru⟩
def HQ{K}{F B}{ad}{H}{a}{vs}{ds}(hs:∀(ad3:Ad) (H3:Hp),Grow (Gw [] ad) H (Gw [] ad3) H3->VZ K H3 a vs)(r:RpI K kd F B (Gw [] ad) H vs ds):ItOk K kd F B ad H (J6 K a) ds:=⟨λad3 H3 g3 _ i=>by
 have hr3:=hs ad3 H3 g3;have rl3:=r.grow g3;refine⟨λhi=>?_,λhi=>⟨_,hr3,by rw[r.length];exact hi⟩,λv H4 hy=>?_⟩
 . obtain⟨u,hu,_⟩:=r.get<|zzE hi;exact⟨_,u,hr3,hu⟩
 . obtain⟨rfl,hv⟩:=hy;refine⟨λ_ _ z=>z,λd hd=>?_⟩;obtain⟨u,hu,ru⟩:=rl3.get hd;have:=hv _ hr3;rw[hu]at this;cases this;exact ru⟩
def Ka(he:AE X kd e fa):AI X kd tg e (Qk fa):=by
 with_unfolding_all (
 intro pins s σ H R I h;obtain⟨F,B,ad,as,ds,as',Rl,e,q⟩:=h;obtain⟨⟨p,as1⟩,h1,e⟩:=bS_<|e;obtain⟨⟨⟨st,x⟩,as2⟩,h2,e⟩:=bS_ e;obtain⟨ys,h3,e⟩:=bS_ e;cases e;cases x with
 |lst xs=>
  cases h3;refine PZ he pins s σ H R I ⟨F,B,ad,as,p,as1,Rl,h1,λv T1 ad1 H1 R1 rv1 g1=>?_⟩;obtain⟨ad2,R2,rp,le⟩:=Zk R1 rv1 h2;cases rp with
  |lst hn hr rl=>exact⟨_,rfl,⟨_,.inl hr⟩,q _ ad2 H1 R2 (g1.trans<|Grow.less le)<|L3 (λad3 H3 g3=>.inl<|X2 g3 (λz=>hn<|.inr z) hr)<|YH rl⟩
  |lstK a b c rl=>exact⟨_,rfl,⟨_,.inr ⟨_,_,_,a,rfl,rfl,rfl,b,c⟩⟩,q _ ad2 H1 R2 (g1.trans<|Grow.less le)<|L3 (λad3 H3 g3=>.inr ⟨_,_,_,a,rfl,rfl,rfl,b,c⟩)<|YH rl⟩
 |tup xs=>
  cases h3;refine Kx he pins s σ H R I ⟨F,B,ad,as,p,as1,Rl,h1,λv T1 ad1 H1 R1 rv1 g1=>?_⟩;obtain⟨ad2,R2,rp,le⟩:=Zk R1 rv1 h2;have go:∃a ys,v = .ref a/\(∀(ad3:Ad) (H3:Hp),Grow (Gw [] ad2) H1 (Gw [] ad3) H3->VZ X.K H3 a ys)/\RpL X.K kd (Lv F B (Gw [] ad2) st) H1 ys xs:=by
   cases rp with
   |tup n h r=>exact⟨_,_,rfl,λad3 H3 g3=>.inl<|X2 g3 (λz=>n<|.inr z)<|.inl h,r⟩
  obtain⟨a,ys,rfl,hs,rl⟩:=go;exact⟨_,rfl,⟨_,hs ad2 H1 Grow.refl⟩,q _ ad2 H1 R2 (g1.trans<|Grow.less le)<|HQ hs<|YH rl⟩
 |_=>cases h3)
def yJ(lo:Int)(n:Nat):List ZV:=(List.range n).map λ(i:Nat)=>(true,D.int<|lo+(i:Int))
def EO{K}{F B}{ad}{H}(lo)(n:Nat):ItOk K kd F B ad H (Ig lo n) (yJ lo n):=⟨λad2 H2 g _ i=>by
 have hl:(yJ lo n).length=n:=by unfold yJ;simp
 refine⟨λhi=>by rw[hl]at hi;exact hi,λhi=>by rw[hl]at hi;exact hi,λv H3 hy=>?_⟩;obtain⟨rfl,rfl⟩:=hy;refine⟨λ_ _ z=>z,λd hd=>?_⟩;have hi:i<n:=by rw[<-hl];exact(zzG.mp hd).1
 unfold yJ at hd;rw[zzI,List.getElem?_range hi]at hd;cases hd;exact .int _⟩
def JO:List D->Option D
 | [x]=>some x
 |_=>none
def BZ(h:JO ds=some d):ds=[d]:=by
 cases ds with
 |nil=>cases h
 |cons x r=>
  cases r with
  |nil=>cases h;rfl
  |cons _ _=>cases h
def yn(ds:List D):Option (List ZV):=((JO ds).bind P3).bind λj=>if -(2 ^ 62)<=j/\j<2 ^ 62 then some (yJ 0 j.toNat)else none
def Nj(h:yn ds=some xs):∃j,ds=[.int j]/\(if -(2 ^ 62)<=j/\j<2 ^ 62 then some (yJ 0 j.toNat)else none)=some xs:=by
 obtain⟨j,h1,h⟩:=bS_ h;obtain⟨d,h2,h1⟩:=bS_ h1;cases Tc h1;exact⟨j,BZ h2,h⟩
def OP:List D->Option (List ZV)
 | [.int i,.int j]=>if -(2 ^ 62)<=i/\i<2 ^ 62 /\ -(2 ^ 62)<=j/\j<2 ^ 62 then some (yJ i (j-i).toNat)else none
 |_=>none
def yk(fr:AF)(h:List D->Option (List ZV)):IF:=λas=>(fr as).bind λp=>(views p.2 p.1).bind λds=>(h ds.1).bind λxs=>some (xs,p.2)
def xp(hg:Gl X "range")(hm:X.mg "range"=none)(ha:AA X kd [a] fr)(hs:starEach [a] X.env=[(false,eval a X.env)]):AI X kd tg (.Call (.Name "range" p) [a] [] pos) (yk fr yn):=by
 with_unfolding_all (
 intro pins s σ H R I h;obtain⟨F,B,ad,as,ds,as',Rl,e,q⟩:=h;obtain⟨⟨ps,as1⟩,h1,e⟩:=bS_<|e;obtain⟨⟨xs,lv⟩,h2,e⟩:=bS_ e;obtain⟨ys,h3,e⟩:=bS_ e;cases e;obtain⟨j,rfl,h3⟩:=Nj h3
 . obtain⟨hj,e3⟩:=zu h3;cases e3;refine Re hg hm ha hs pins s σ H R I ⟨F,B,ad,as,ps,_,Rl,h1,λvs ad1 H1 R1 rv1 g1=>?_⟩;have vl:=Zy R1 rv1 h2;cases vl with
   |cons v1 v2=>
    cases v2;cases v1;exact⟨j,rfl,hj.1,hj.2,q _ ad1 H1 R1 g1<|EO 0 _⟩)
def NA(hg:Gl X "range")(hm:X.mg "range"=none)(ha:AA X kd [a,b] fr)(hs:starEach [a,b] X.env=[(false,eval a X.env),(false,eval b X.env)])(hs2:starEach [b] X.env=[(false,eval b X.env)]):AI X kd tg (.Call (.Name "range" p) [a,b] [] pos) (yk fr OP):=by
 with_unfolding_all (
 intro pins s σ H R I h;obtain⟨F,B,ad,as,ds,as',Rl,e,q⟩:=h;obtain⟨⟨ps,as1⟩,h1,e⟩:=bS_<|e;obtain⟨⟨xs,lv⟩,h2,e⟩:=bS_ e;obtain⟨ys,h3,e⟩:=bS_ e;cases e
 match xs,h3,h2 with
 | [.int i,.int j],h3,h2=>
  obtain⟨hj,e3⟩:=zu<|h3;cases e3;refine NQ hg hm ha hs hs2 pins s σ H R I ⟨F,B,ad,as,ps,_,Rl,h1,λvs ad1 H1 R1 rv1 g1=>?_⟩;have vl:=Zy R1 rv1 h2;cases vl with
  |cons v1 v2=>
   cases v2 with
   |cons v2 v3=>
    cases v3;cases v1;cases v2;exact⟨i,j,rfl,hj,q _ ad1 H1 R1 g1<|EO i _⟩)
def Rel.mut{K}{F B}{T fo}{ad}{as}{σ}{H}{i:Nat}{l}{fp fp'}{n}{u}(R:Rel K kd F B T ad as σ H)(hi:i<as.length)(hl:ad i=l::fp)(hs:σ[i]? = some (some<|.ref l))
 (hsub:∀a ∈ fp'++fo,a ∈ fp++T) (hnd:(fp'++fo).Nodup) (hu:H l≠none)
 (ro:∀(H':Hp) (G':Addr->Prop),H' l=some u->Grow (Gw T ad) H G' H'->(∀a ∈ fp',∀w,H a=some w->H' a=some w)->xt K kd F B G' H' (.ref l) n (l::fp')):
 Rel K kd F B fo (yq ad i (l::fp')) (as.set i<|some n) σ (upd H l u)/\Grow (Gw T ad) H (Gw fo<|yq ad i (l::fp')) (upd H l u):=by
 have hli:l ∈ ad i:=by rw[hl];exact zzF
 have lT:=R.dis i l hli;have lfp:l ∉ fp:=by have:=R.nd i;rw[hl]at this;exact(zzW.mp this).1
 have lsub:∀a ∈ fp'++fo,a≠l:=λa m e=>by
  subst e
  rcases zzM.mp (hsub _ m)with z|z
  . exact lfp z
  . exact lT z
 have sub:∀a ∈ fp'++fo,Gw T ad a:=λa m=>by
  rcases zzM.mp (hsub a m)with z|z
  . exact .inr ⟨i,by rw[hl];exact zzD _ z⟩
  . exact .inl z
 have gsub:∀a,Gw fo (yq ad i (l::fp')) a->Gw T ad a:=λa z=>by
  rcases z with z|⟨j,z⟩
  . exact sub a<|zzL _ z
  . by_cases e:j=i
    . subst e;rw[zx]at z
      rcases zzC.mp z with z|z
      . subst z;exact .inr ⟨j,hli⟩
      . exact sub a<|zzP _ z
    . rw[zw e]at z;exact .inr ⟨j,z⟩
 have g:Grow (Gw T ad) H (Gw fo<|yq ad i (l::fp')) (upd H l u):=⟨λb w h n=>by rw[zy λe=>n<|by subst e;exact .inr ⟨i,hli⟩];exact h,λb z=>.inl<|gsub b z⟩;have kn:∀a,H a≠none->upd H l u a≠none:=λa z=>by
  by_cases e:a=l
  . subst e;rw[zO];simp
  . rw[zy e];exact z
 obtain⟨hnd1,hnd2,hnd3⟩:=zxD.mp hnd;have Ij:∀j a,j≠i->a ∈ ad j->a ∈ fp'++fo->False:=λj a hj m m'=>by
  rcases zzM.mp (hsub a m')with z|z
  . exact hj (R.inj j i a m<|by rw[hl];exact zzD _ z)
  . exact R.dis j a m z
 refine⟨⟨by rw[zzU];exact R.len,λj hj=>?_,λj=>?_,λj k a h1 h2=>?_,hnd2,λj a h1 h2=>?_,λa z=>kn a<|R.ftr a z,λa z=>?_,λa z=>⟨kn a (R.gtr a<|gsub a z).1,(R.gtr a<|gsub a z).2⟩,λj s e=>?_⟩,g⟩
 . rw[zzU]at hj;rw[zw<|by omega];exact R.out j hj
 . by_cases e:j=i
   . subst e;rw[zx];exact zzW.mpr ⟨λm=>lsub l (zzP _ m) rfl,hnd1⟩
   . rw[zw e];exact R.nd j
 . by_cases e:j=i
   . subst e
     by_cases e':k=j
     . exact e'.symm
     . rw[zx]at h1;rw[zw e']at h2
       rcases zzC.mp h1 with z|z
       . subst z;exact R.inj j k a hli h2
       . exact(Ij k a e' h2<|zzP _ z).elim
   . rw[zw e]at h1
     by_cases e':k=i
     . subst e';rw[zx]at h2
       rcases zzC.mp h2 with z|z
       . subst z;exact R.inj j k a h1 hli
       . exact(Ij j a e h1<|zzP _ z).elim
     . rw[zw e']at h2;exact R.inj j k a h1 h2
 . by_cases e:j=i
   . subst e;rw[zx]at h1
     rcases zzC.mp h1 with z|z
     . subst z;exact lsub a (zzL _ h2) rfl
     . exact hnd3 a z a h2 rfl
   . rw[zw e]at h1;exact Ij j a e h1<|zzL _ h2
 . obtain⟨b1,b2,b3⟩:=R.btr a z;exact⟨kn a b1,b2,λy=>b3<|gsub a y⟩
 . by_cases q:j=i
   . subst q;rw[zyJ hi]at e;cases e;rw[zx];refine⟨_,hs,ro _ _ zO g λa m w h=>?_⟩;rw[zy<|lsub a<|zzP _ m];exact h
   . rw[zzX<|Ne.symm q]at e;rw[zw q];refine(R.sl j s e).grow g λa m w h=>?_;rw[zy λz=>q<|R.inj j i l (by rw[<-z];exact m) hli];exact h
abbrev MG:=List O->List O->Option (List O×O)
def xo(i:Nat)(fr:DF)(g:MG):EF:=λas=>match as[i]? with
 |some (some (.nd .ls _))=>(fr as).bind λp=>match p.2[i]? with
  |some (some (.nd .ls os))=>(g os p.1).bind λz=>some (.ow z.2,p.2.set i<|some<|.nd .ls z.1)
  |_=>none
 |_=>none
def IP(X:Cx)(kd:KD)(r:V->List V->Hp->VK->Prop)(g:MG):Prop:=
 ∀(F B G:Addr->Prop) (l:Addr) (vs ws:List V) (os es os':List O) (o:O) (fp fq:List Addr) (H:Hp) (Q:VK),H l=some (.lst vs)->x9 X.K kd F B G H vs os fp->x9 X.K kd F B G H ws es fq->(fp++fq).Nodup->g os es=some (os',o)->
  (∀v vs' fp' fo,x9 X.K kd F B G H vs' os' fp'->xt X.K kd F B G H v o fo->(∀a ∈ fp'++fo,a ∈ fp++fq)->(fp'++fo).Nodup->Q v (upd H l<|.lst vs'))->r (.ref l) ws H Q
def JL{i:Nat}{fr}{g}{r}(hr:IP X kd r g)
 {σ}{H}{Q}(h:al X.K kd (xo i fr g) σ H Q):uf X.K "list" r (YZ i) (DW X.K kd fr) σ H Q:=by
 obtain⟨F,B,ad,as,z,as',R,e,q⟩:=h;unfold xo at e;cases k:as[i]? with
 |none=>rw[k]at e;cases e
 |some a0=>
  rw[k]at e
  match a0,e,k with
  |some (.nd .ls os0),e,k=>
   obtain⟨⟨es,as1⟩,h1,e⟩:=bS_<|e;obtain⟨v0,hs0,ro0⟩:=R.sl i _ k;generalize hfp0:ad i=fp0 at ro0;cases ro0 with
   |ls hH0 rl0=>
   rename_i l vs0 fp00;refine⟨_,hs0,.inl ⟨rfl,_,.inl<|.inl hH0⟩,F,B,ad,as,es,as1,R,h1,λws T1 ad1 H1 R1 ro1 g1=>?_⟩;cases k2:as1[i]? with
   |none=>rw[k2]at e;cases e
   |some a2=>
    rw[k2]at e
    match a2,e,k2 with
    |some (.nd .ls os),e,k2=>
     obtain⟨⟨os',o⟩,h3,e⟩:=bS_<|e;cases e;obtain⟨v1,hs1,ro2⟩:=R1.sl i _ k2;rw[hs0]at hs1;cases hs1;generalize hfp:ad1 i=fp1 at ro2;cases ro2 with
     |ls hH rl=>
     rename_i vs fp;have hnd:=zxD.mpr ⟨by have:=R1.nd i;rw[hfp]at this;exact(zzW.mp this).2,R1.tnd,λa m b m' e=>by
          subst e;exact R1.dis i a (by rw[hfp];exact zzD _ m) m'⟩
     refine hr F B (Gw T1 ad1) _ vs ws os es os' o fp T1 H1 Q hH rl ro1 hnd h3 λv vs' fp' fo rl' ro' hsub hnd'=>?_;obtain⟨R3,g3⟩:=R1.mut (zzG.mp k2).1 hfp hs0 hsub hnd' (by rw[hH];simp) λH' G' hl' gr kp=>.ls hl'<|x9.grow gr kp rl';have lno:∀a ∈ fo,∀w,H1 a=some w->upd H1 l (.lst vs') a=some w:=λa m w h=>by
          rw[zy λe=>?_]
          . exact h
          . subst e
            rcases zzM.mp (hsub _<|zzL _ m)with z|z
            . have:=R1.nd i;rw[hfp]at this;exact(zzW.mp this).1 z
            . exact R1.dis i _ (by rw[hfp];exact zzF) z
     exact q v fo _ _ R3 (xt.grow g3 lno ro')<|g1.trans g3
end
end PF
end
section
set_option exponentiation.threshold 5000
namespace PF
open PySem PySem.Spec PyProof.Rows L2
section
variable{K:zzA}{kd:KD}{O:Addr->Prop}{H:Hp}{Q:VK}
def zS(q:RQ K kd O H Q (.im d))(r:Rp K kd O H v d):Q v H:=q v H (λ_ _ z=>z) r
def Lg(hp:H p=none)(r:RpL K kd O H vs ds):RpL K kd (Xs O (· = p)) (upd H p o) vs ds:=
 RpL.grow ⟨λb u q _=>by rw[zy<|zU q hp];exact q,λb z=>.inr<|by rw[z];exact hp⟩ (r.less λa z=>z.elim id False.elim)
def BA(hp:H p=none)(r:RpM K kd O H vs ds):RpM K kd (Xs O (· = p)) (upd H p o) vs ds:=
 RpM.grow ⟨λb u q _=>by rw[zy<|zU q hp];exact q,λb z=>.inr<|by rw[z];exact hp⟩ (r.less λa z=>z.elim id False.elim)
def vv(hp:H p=none):∀b u,H b=some u->upd H p o b=some u:=λb u q=>by rw[zy<|zU q hp];exact q
def YA(q:RQ K kd O H Q (.fl ds))(r:RpL K kd O H vs ds):∀p,H p=none->Q (.ref p) (upd H p<|.lst vs):=λp hp=>
 q p vs _ hp (vv hp) zO (Lg hp r)
def Ft(q:RQ K kd O H Q (.fd ds))(r:RpM K kd O H vs ds):∀p,H p=none->Q (.ref p) (upd H p<|.dK vs):=λp hp=>
 q p vs _ hp (vv hp) zO (BA hp r)
def KA(ht:∀a,O a->H a≠none)(q:RQ K kd O H Q (.im<|.tup ds))(r:RpL K kd O H vs ds):∀p,H p=none->Q (.ref p) (upd H p<|.tup vs):=λp hp=>
 q _ _ (vv hp) (.tup (λz=>ht p z hp) zO<|(Lg hp r).less λa z=>.inl z)
end
def big:Nat:=2 ^ 4000
def T4(h:i.natAbs<big):Builtin.Int.intBits i<=2 ^ 20:=by
 unfold Builtin.Int.intBits
 split
 . exact Nat.zero_le _
 . have:i.natAbs.log2<4000:=by
    rcases Nat.eq_zero_or_pos i.natAbs with h0|hp
    . rw[h0];decide
    . exact(Nat.log2_lt<|Nat.ne_of_gt hp).mpr h
   have e:(2:Nat) ^ 20=1048576:=by decide
   omega
def FX(f:Int->Int->Option R0)(x y:D):Option R0:=(P3 x).bind λi=>(P3 y).bind λj=>f i j
def Dk(x y:D):Option R0:=match x with
 | .int i=>(P3 y).bind λj=>some<|.im<|.int<|i+j
 | .str x=>(ui y).bind λy=>if x.length+y.length<=sizeLine then some (.im<|.str<|x++y)else none
 | .lst xs=>(Sk y).bind λys=>if xs.length+ys.length<=sizeLine then some (.fl<|xs++ys)else none
 | .tup xs=>(An y).bind λys=>if xs.length+ys.length<=sizeLine then some (.im<|.tup<|xs++ys)else none
 |_=>none
def A4(x y:D):Option R0:=match x with
 | .int i=>(P3 y).bind λj=>if i.natAbs<big/\j.natAbs<big then some (.im<|.int<|i*j)else none
 | .lst xs=>(P3 y).bind λk=>if -(2 ^ 63)<=k/\k<2 ^ 63/\xs.length*k.toNat<=sizeLine then some (.fl (List.replicate k.toNat xs).flatten)else none
 | .tup xs=>(P3 y).bind λk=>if 1<=k/\k<2 ^ 63/\xs.length≠0/\xs.length*k.toNat<=sizeLine then some (.im<|.tup (List.replicate k.toNat xs).flatten)else none
 |_=>none
def Yc(o:Operator)(x y:D):Option R0:=match o with
 | .Add=>Dk x y
 | .Sub=>FX (λi j=>some<|.im<|.int<|i-j) x y
 | .Mult=>A4 x y
 | .FloorDiv=>FX (λi j=>if 0<j/\j.natAbs<big then some (.im<|.int<|i/j)else none) x y
 | .Mod=>FX (λi j=>if 0<j then some (.im<|.int<|i%j)else none) x y
 | .Pow=>FX (λi j=>if 0<=j/\j<=1000000/\i.natAbs<2 ^ 64 then some (.im<|.int<|i ^ j.toNat)else none) x y
 |_=>none
def Zu{K}{kd}{O}{H}{v}{d}{i}(h:Vw K kd O H v d)(e:P3 d=some i):d = .int i/\v = .int i:=by
 cases h with
 |int j=>cases e;exact⟨rfl,rfl⟩
 |_=>cases e
def Oi{K}{kd}{O}{H}{v}{d}{i}(h:Vw K kd O H v d)(e:ui d=some i):d = .str i/\v = .str i:=by
 cases h with
 |str j=>cases e;exact⟨rfl,rfl⟩
 |_=>cases e
def v_{K}{kd}{O}{H}{v w}{d e}{f}{r}(vx:Vw K kd O H v d)(vy:Vw K kd O H w e)(h:FX f d e=some r):∃i j,v = .int i/\w = .int j/\f i j=some r:=by
 obtain⟨i,h1,h⟩:=bS_<|h;obtain⟨j,h2,h⟩:=bS_ h;exact⟨i,j,(Zu vx h1).2,(Zu vy h2).2,h⟩
section
variable{X:Cx}{kd:KD}
def Sf:XU X (binaryOp .Add) (λx y H Q=>∃l b xs zs,x = .ref l/\y = .ref b/\E7 X.K H l xs/\E7 X.K H b zs/\xs.length+zs.length<=sizeLine/\∀p,H p=none->Q (.ref p) (upd H p<|.lst<|xs++zs)):=by
 intro pins s σ H x y v u Q I rx ry h;obtain⟨l,b,xs,zs,rfl,rfl,hH,hB,hz,q⟩:=h;cases rx;cases ry;obtain⟨z,its,n,r,e⟩:=KP I hH;obtain⟨z2,its2,n2,r2,e2⟩:=KP I hB;have hl:=r.length;have hl2:=r2.length;refine PySem.P.add_list e e2 ?_ (by rw[zzH,zzH];omega);have ea:its.toArray++its2.toArray=(its++its2).toArray:=by simp
 rw[ea];exact⟨.ref _,_,I.lnew (t':=s.toks) (r.append r2) (by rw[zzJ];omega),rfl,q _ I.fresh⟩
def SM:XU X (binaryOp .Mult) (λx y H Q=>∃l k xs,x = .ref l/\y = .int k/\E7 X.K H l xs /\ -(2 ^ 63)<=k/\k<2 ^ 63/\xs.length*k.toNat<=sizeLine/\
 ∀p,H p=none->Q (.ref p) (upd H p<|.lst (List.replicate k.toNat xs).flatten)):=by
 intro pins s σ H x y v u Q I rx ry h;obtain⟨l,k,xs,rfl,rfl,hH,h1,h2,hz,q⟩:=h;cases rx;obtain⟨t,rfl⟩:=ry;obtain⟨z,its,n,r,e⟩:=KP I hH;have hl:=r.length;have hlen:its.toArray.size*k.toNat<=sizeLine:=by rw[zzH,<-hl];exact hz
 have hcap:¬its.toArray.size*k.toNat > (2 ^ 63-1)/8:=by
  have:sizeLine<=(2 ^ 63-1)/8:=by decide
  omega
 have hfit:¬(!Builtin.List.listFitsIndex k)=true:=by
  rw[fitsIndex_both h1 h2];exact zyU
 have hlong:¬Builtin.List.listTooLong (its.toArray.size*k.toNat)=true:=by
  rw[T6 hlen];exact zyU
 have hnew:List.foldl (λx1 x2=>x1++x2) #[] (List.replicate (if its.toArray.isEmpty=true then 0 else k.toNat) its.toArray)=(List.replicate k.toNat its).flatten.toArray:=by
  have f0:=λm=>by
   have:=foldl_rep its m [];rw[List.nil_append]at this;exact this
  rw[f0];cases its with
  |nil=>simp
  |cons a r'=>rw[if_neg<|by simp]
 refine wpAny_binaryOp_repeat_ref (by decide) ⟨_,e,rfl⟩ (λs'=>typeIs_int s' k t) noFill_list_mul F.fills_int_mul F.slot_int_rmul repeat_list F.slot_int_index.lookup
  (call_meets F.slot_int_rmul (typeIs_int s k t) F.entry_int_rmul (F.args_int_rmul_2 _ _) (int___rmul___int_list k t l its.toArray n)
   ⟨e,rfl,⟨_,e,rfl⟩,call_meets F.slot_list_mul ⟨_,e,rfl⟩ F.entry_list_mul (F.args_list_mul_2 _ _) (AutoListH.list___mul___list_int_3 l its.toArray n k t hfit hcap hlong) ⟨e, ?_⟩⟩)
 rw[hnew];refine⟨.ref _,_,I.lnew (t':=s.toks) (r.rep k.toNat) ?_,rfl,q _ I.fresh⟩;rw[len_rep,Nat.mul_comm];exact hz
def tuple_addW0(l b)(items items2)(n n2:Nat)(dd dd2)(sl sl2)(h0:items.isEmpty=true):
 Meets (Builtin.«tuple.__add__» {pos:=[.ref l,.ref b]}) (λ_ R s=>s.heap.get? l=some {cls:=.type "tuple",dict:=dd,data:=.seq items n,slots:=sl}/\s.heap.get? b=some {cls:=.type "tuple",dict:=dd2,data:=.seq items2 n2,slots:=sl2}/\R (.ok<|.ret<|.ref b) s):=
 .of_wp λprog w A R s h=>by
  obtain⟨hp,g,d,tk,os⟩:=s;obtain⟨hl,hb,h⟩:=h;have f2:=AutoSeq1.sub_tuple_tuple
  wp_walk using wpAny_loadPart' hl,wpAny_loadPart' hb
  exact⟨_,rfl,h⟩
def To(l)(items)(n:Nat)(dd)(sl)(u):
 Meets (Builtin.«tuple.__mul__» {pos:=[.ref l,.int 1 u]}) (λ_ R s=>s.heap.get? l=some {cls:=.type "tuple",dict:=dd,data:=.seq items n,slots:=sl}/\R (.ok<|.ret<|.ref l) s):=
 .of_wp λprog w A R s h=>by
  obtain⟨hp,g,d,tk,os⟩:=s;obtain⟨hl,h⟩:=h;have f2:=AutoSeq1.sub_tuple_tuple
  wp_walk using wpAny_loadPart' hl
  exact⟨_,rfl,h⟩
def GN(l)(items its2:Array Value)(n:Nat)(dd)(sl)(x)(u)(c1:¬(decide (x < -2 ^ 63)||decide (x ≥ 2 ^ 63))=true)(c2:¬(items.isEmpty||x==1)=true)(c3:¬(decide (x<=0)||items.isEmpty)=true)
 (hcap:¬(items.size:Int)*x > (2 ^ 63-1)/8) (ht:¬Builtin.Tuple.tupleTooMany (items.size*x)=true) (hz:¬(List.foldl (λx1 x2=>x1++x2) #[] (List.replicate x.toNat items)).size > sizeLine):
 Meets (Builtin.«tuple.__mul__» {pos:=[.ref l,.int x u]}) (λ_ R s=>s.heap.get? l=some {cls:=.type "tuple",dict:=dd,data:=.seq items n,slots:=sl}/\R (.ok<|.ret<|.ref s.heap.objs.size) {s with heap:=s.heap.push {cls:=.type "tuple",data:=.seq (List.foldl (λx1 x2=>x1++x2) #[] (List.replicate x.toNat items))}}):=
 .of_wp λprog w A R s h=>by
  obtain⟨hp,g,d,tk,os⟩:=s;obtain⟨hl,h⟩:=h;have f2:=AutoSeq1.sub_tuple_tuple
  wp_walk using wpAny_loadPart' hl
  rw[if_neg c1]
  wp_walk using wpAny_loadPart' hl
  rw[if_neg hcap]
  wp_walk
  exact⟨_,rfl,h⟩
def W_:fillsNumberSlot (Value.type "tuple") "mul"=pure false:=PySem.fillsNumberSlot_seq rfl rfl rfl rfl
def PK:seqRepeat? (Value.type "tuple")=pure (some<|Value.builtin "tuple.__mul__"):=W.of_pureOf rfl
def QQ(a)(t)(l)(items)(n:Nat)(dd)(sl):
 Meets (Builtin.«int.__rmul__» {pos:=[.int a t,.ref l]}) (λ_ R s=>s.heap.get? l=some {cls:=.type "tuple",dict:=dd,data:=.seq items n,slots:=sl}/\R (.ok<|.ret .notImplemented) s):=
 .of_wp λprog w A R s h=>by
  obtain⟨hp,g,d,tk,os⟩:=s;obtain⟨hl,h⟩:=h
  wp_walk using wpAny_load' hl,wpAny_loadPart' hl
  exact⟨_,rfl,h⟩
def Sw:XU X (binaryOp .Add) (λx y H Q=>∃a b ys,x = .ref a/\y = .ref b/\VZ X.K H a []/\VZ X.K H b ys/\Q (.ref b) H):=by
 intro pins s σ H x y v u Q I rx ry h;obtain⟨a,b,ys,rfl,rfl,ha,hb,q⟩:=h;cases rx;cases ry;obtain⟨its,r1,p1,_⟩:=I.tuple ha;obtain⟨its2,r2,p2,_⟩:=I.tuple hb;cases r1;obtain⟨⟨cls,dd,data,sl⟩,ho,hc,n,hd⟩:=id p1;obtain⟨⟨cls2,dd2,data2,sl2⟩,ho2,hc2,n2,hd2⟩:=id p2;simp only at hc hd hc2 hd2;subst hc hd hc2 hd2;exact concat_meets ⟨_,ho,rfl⟩ ⟨_,ho2,rfl⟩ noFill_tuple_add seq_tuple_add PySem.F.slot_tuple_add PySem.F.entry_tuple_add (PySem.F.args_tuple_add_2 _ _) (tuple_addW0 a b _ _ n n2 dd dd2 sl sl2 rfl) ⟨ho,ho2,⟨.ref b,H,I,rfl,q⟩⟩
def BO:XU X (binaryOp .Mult) (λx y H Q=>∃l k xs,x = .ref l/\y = .int k/\VZ X.K H l xs/\xs≠[]/\1<=k/\k<2 ^ 63/\xs.length*k.toNat<=sizeLine/\(k=1->Q (.ref l) H)/\
 (2<=k->∀p,H p=none->Q (.ref p) (upd H p<|.tup (List.replicate k.toNat xs).flatten))):=by
 intro pins s σ H x y v u Q I rx ry h;obtain⟨l,k,xs,rfl,rfl,hH,hne,h1,h2,hz,q1,q2⟩:=h;cases rx;obtain⟨t,rfl⟩:=ry;obtain⟨its,r,p,_⟩:=I.tuple hH;have hl:=r.length;have hlen:its.toArray.size*k.toNat<=sizeLine:=by rw[zzH,<-hl];exact hz
 have hki:((its.toArray.size:Int)*k)=((its.toArray.size*k.toNat:Nat):Int):=by
  rw[zzV,zyX<|by omega]
 have he:its.toArray.isEmpty=false:=by
  cases its with
  |nil=>rw[List.length_nil]at hl;exact absurd (List.length_eq_zero_iff.mp hl) hne
  |cons a r'=>rfl
 have hnew:List.foldl (λx1 x2=>x1++x2) #[] (List.replicate k.toNat its.toArray)=(List.replicate k.toNat its).flatten.toArray:=by
  have:=foldl_rep its k.toNat [];rw[List.nil_append]at this;exact this
 obtain⟨⟨cls,dd,data,sl⟩,ho,hc,n,hd⟩:=id p;simp only at hc hd;subst hc hd;refine wpAny_binaryOp_repeat_ref (by decide) ⟨_,ho,rfl⟩ (λs'=>typeIs_int s' k t) W_ F.fills_int_mul F.slot_int_rmul PK F.slot_int_index.lookup
  (call_meets F.slot_int_rmul (typeIs_int s k t) F.entry_int_rmul (F.args_int_rmul_2 _ _) (QQ k t l its.toArray n dd sl) ⟨ho,rfl,⟨_,ho,rfl⟩, ?_⟩)
 by_cases hk:k=1
 . subst hk;exact call_meets F.slot_tuple_mul ⟨_,ho,rfl⟩ F.entry_tuple_mul (F.args_tuple_mul_2 _ _) (To l its.toArray n dd sl t) ⟨ho,⟨.ref l,H,I,rfl,q1 rfl⟩⟩
 . have hfl:(List.replicate k.toNat xs).flatten.length<=sizeLine:=by rw[len_rep,Nat.mul_comm];exact hz
   refine call_meets F.slot_tuple_mul ⟨_,ho,rfl⟩ F.entry_tuple_mul (F.args_tuple_mul_2 _ _) (GN l its.toArray #[] n dd sl k t (by simp;omega) (by rw[he];simpa using hk) (by rw[he];simp;omega) ?_ ?_ ?_) ⟨ho, ?_⟩
   . rw[hki];have:(sizeLine:Int)<=(2 ^ 63-1)/8:=by decide
     omega
   . unfold Builtin.Tuple.tupleTooMany;rw[hki];simp only[gt_iff_lt,decide_eq_true_eq];omega
   . rw[hnew,zzH,len_rep,Nat.mul_comm];rw[zzH]at hlen;omega
   . rw[hnew];refine⟨.ref s.heap.objs.size,_,I.laid (t':=s.toks) (λb ob q=>zxG _ q) (zzN _) ?_,rfl,q2 (by omega) _<|I.hok.fresh<|zzN _⟩;exact⟨hfl,_,r.rep k.toNat,IsTup.new _ _⟩
def Ct(op):MQ X kd (binaryOp op) (Yc op):=by
 intro pins s σ H x y v u Q I rx ry h;obtain⟨O,d,e,r,ht,vx,vy,he,q⟩:=h;cases op with
 |Add=>
  cases vx with
  |int i=>
   obtain⟨j,h1,he⟩:=bS_<|he;obtain⟨rfl,rfl⟩:=Zu vy h1;cases he;exact C6 pins s σ H _ _ v u Q I rx ry ⟨_,_,rfl,rfl,zS q<|.int _⟩
  |str i=>
   obtain⟨j,h1,he⟩:=bS_<|he;obtain⟨rfl,rfl⟩:=Oi vy h1;obtain⟨c,rfl⟩:=zu he;exact K0 pins s σ H _ _ v u Q I rx ry ⟨_,_,rfl,rfl,c,zS q<|.str _⟩
  |lst hx rx'=>
   obtain⟨j,h1,he⟩:=bS_<|he;cases VB h1;obtain⟨c,rfl⟩:=zu he;cases vy with
   |lst hy ry'=>exact Sf pins s σ H _ _ v u Q I rx ry ⟨_,_,_,_,rfl,rfl,hx,hy,by rw[rx'.length,ry'.length];exact c,YA q<|rx'.append ry'⟩
  | @tup a1 vs1 ds1 r1 hx rx'=>
   obtain⟨j,h1,he⟩:=bS_<|he;cases FO h1;obtain⟨c,rfl⟩:=zu he;cases vy with
   |tup r2 hy ry'=>
    by_cases h0:vs1=([]:List V)
    . subst h0;cases rx';exact Sw pins s σ H _ _ v u Q I rx ry ⟨_,_,_,rfl,rfl,hx,hy,zS q r2⟩
    refine B4 pins s σ H _ _ v u Q I rx ry ⟨_,_,_,_,rfl,rfl,hx,hy,h0,by rw[rx'.length,ry'.length];exact c,λhn=>?_,λhn=>KA ht q<|rx'.append ry'⟩
    . subst hn;cases ry';rw[zyD]at q;exact zS q r1
  |_=>cases he
 |Sub=>
  obtain⟨i,j,rfl,rfl,he⟩:=v_ vx vy he;cases he;exact HW pins s σ H _ _ v u Q I rx ry ⟨_,_,rfl,rfl,zS q<|.int _⟩
 |Mult=>
  cases vx with
  |int i=>
   obtain⟨j,h1,he⟩:=bS_<|he;obtain⟨rfl,rfl⟩:=Zu vy h1;obtain⟨c,rfl⟩:=zu he;obtain⟨t,rfl⟩:=rx;obtain⟨t',rfl⟩:=ry;exact mul_int ⟨.int _,H,I.tok _,⟨_,rfl⟩,zS q<|.int _⟩ (IntMulOk.of_bits (T4 c.1)<|T4 c.2)
  |lst hx rx'=>
   obtain⟨j,h1,he⟩:=bS_<|he;obtain⟨rfl,rfl⟩:=Zu vy h1;obtain⟨c,rfl⟩:=zu he;exact SM pins s σ H _ _ v u Q I rx ry ⟨_,_,_,rfl,rfl,hx,c.1,c.2.1,by rw[rx'.length];exact c.2.2,YA q<|rx'.rep _⟩
  |tup r1 hx rx'=>
   obtain⟨j,h1,he⟩:=bS_<|he;obtain⟨rfl,rfl⟩:=Zu vy h1;obtain⟨c,rfl⟩:=zu he;refine BO pins s σ H _ _ v u Q I rx ry ⟨_,_,_,rfl,rfl,hx,λe=>?_,c.1,c.2.1,by rw[rx'.length];exact c.2.2.2,λe=>?_,λ_=>KA ht q<|rx'.rep _⟩
   . have:=rx'.length;rw[e]at this;exact c.2.2.1 this.symm
   . subst e;refine zS q ?_;rw[show(1:Int).toNat=1 from rfl,List.replicate_one,List.flatten_cons,List.flatten_nil,zyD];exact r1
  |_=>cases he
 |FloorDiv=>
  obtain⟨i,j,rfl,rfl,he⟩:=v_ vx vy he;obtain⟨c,rfl⟩:=zu he;obtain⟨t,rfl⟩:=rx;obtain⟨t',rfl⟩:=ry;refine floordiv_int (by omega) ?_<|.inl<|PyProof.noPylong_of_log2 ?_
  . rw[Int.fdiv_eq_ediv_of_nonneg _<|by omega];exact⟨.int _,H,I.tok _,⟨_,rfl⟩,zS q<|.int _⟩
  . exact zzK ((Nat.log2_lt<|by have:=c.1;omega).mpr<|c.2) (by decide)
 |Mod=>
  obtain⟨i,j,rfl,rfl,he⟩:=v_ vx vy he;obtain⟨c,rfl⟩:=zu he;exact O_ pins s σ H _ _ v u Q I rx ry ⟨_,_,rfl,rfl,c,zS q<|.int _⟩
 |Pow=>
  obtain⟨i,j,rfl,rfl,he⟩:=v_ vx vy he;obtain⟨c,rfl⟩:=zu he;exact Oc pins s σ H _ _ v u Q I rx ry ⟨_,_,rfl,rfl,c,zS q<|.int _⟩
 |_=>cases he
end
def E8(f:D->D->Option Bool):List D->List D->Option Bool
 | [],[]=>some true
 |x::r,y::t=>(f x y).bind λb=>(E8 f r t).bind λc=>some (b&&c)
 |_,_=>some false
def wI:Nat->D->D->Option Bool
 |0,_,_=>none
 |_+1,.non,.non=>some true
 |_+1,.bl a,.bl b=>some (a==b)
 |_+1,.int a,.int b=>some (a==b)
 |_+1,.str a,.str b=>some (a==b)
 |_+1,.bl a,.int b=>some ((if a then 1 else 0)==b)
 |_+1,.int a,.bl b=>some (a==(if b then 1 else 0))
 |n+1,.lst xs,.lst ys=>E8 (wI n) xs ys
 |n+1,.tup xs,.tup ys=>E8 (wI n) xs ys
 |_+1,.dct _,_=>none
 |_+1,.cl _,_=>none
 |_+1,.ob _ _ _,_=>none
 |_+1,.dt _ _,_=>none
 |_+1,.er _ _ _,_=>none
 |_+1,_,.dct _=>none
 |_+1,_,.cl _=>none
 |_+1,_,.ob _ _ _=>none
 |_+1,_,.dt _ _=>none
 |_+1,_,.er _ _ _=>none
 |_+1,_,_=>some false
def FZ(f:D->D->Option Bool)(xs ys:List D)(j:Nat):Bool:=match xs[j]?,ys[j]? with
 |some d,some e=>(f d e).getD false
 |_,_=>false
theorem Uk:∀{xs ys:List D}{b:Bool},E8 f xs ys=some b->(∀(j:Nat) d e,xs[j]? = some d->ys[j]? = some e->∃c,f d e=some c)/\
 b=((List.range<|min xs.length ys.length).all (FZ f xs ys)&&xs.length==ys.length)
 | [],[],b,h=>by cases h;exact⟨λj d e h=>by simp at h,by simp⟩
 | [],y::t,b,h=>by cases h;exact⟨λj d e h=>by simp at h,by simp⟩
 |x::r,[],b,h=>by cases h;exact⟨λj d e _ h=>by simp at h,by simp⟩
 |x::r,y::t,b,h=>by
  obtain⟨b1,h1,h⟩:=bS_<|h;obtain⟨c1,h2,h⟩:=bS_ h;cases h;obtain⟨k1,k2⟩:=Uk h2;refine⟨λj d e hd he=>?_, ?_⟩
  . cases j with
    |zero=>simp at hd he;subst hd he;exact⟨b1,h1⟩
    |succ j=>exact k1 j d e (by simpa using hd) (by simpa using he)
  . have e0:min (x::r).length (y::t).length=min r.length t.length+1:=by simp only[zzT];omega
    rw[e0,List.range_succ_eq_map,List.all_cons,List.all_map,k2];have e1:FZ f (x::r) (y::t) 0=b1:=by show(f x y).getD false=b1;rw[h1];rfl
    have e2:(FZ f (x::r) (y::t)∘Nat.succ)=FZ f r t:=by
     funext j;unfold FZ;simp
    have e3:((x::r).length==(y::t).length)=(r.length==t.length):=by
     by_cases hh:r.length=t.length<;>simp[hh]
    rw[e1,e2,e3,Bool.and_assoc]
structure EqAll(A:Around)(s:Shared)(u v:Value)(b:Bool):Prop where
 rc:SeqAt.RcAt A s u v b
 ne:SeqAt.RcNeAt A s u v (!b)
 eq:SeqAt.EqAt A s u v b
section
variable{X:Cx}{kd:KD}{pins:List (Addr×Obj)}{σ:St}{H:Hp}{s:Shared}{O:Addr->Prop}
def LS(I:Inv X pins σ H s)(h:VZ X.K H a xs)(h':Qn X.K H a ys):False:=by
 obtain⟨_,_,⟨o,e,c,_⟩,_⟩:=I.tuple h;obtain⟨_,_,⟨o',n,e',c',_⟩,_⟩:=I.list h';rw[e]at e';cases e';rw[c]at c';exact absurd c' (by decide)
theorem K_(I:Inv X pins σ H s):∀(n:Nat) (v:V) (d e:D) (b:Bool),Vw X.K kd O H v d->Vw X.K kd O H v e->wI n d e=some b->b=true
 |0,_,_,_,_,_,_,h=>by cases h
 |n+1,v,d,e,b,h1,h2,h=>by
  have lst:∀(vs:List V) (ds es:List D) (b:Bool),RpL X.K kd O H vs ds->RpL X.K kd O H vs es->E8 (wI n) ds es=some b->b=true:=by
   intro vs
   induction vs with
   |nil=>intro ds es b r1 r2 h;cases r1;cases r2;cases h;rfl
   |cons v vs ih=>
    intro ds es b r1 r2 h;cases r1 with
    |cons a1 r1=>
     cases r2 with
     | cons a2 r2=>
            obtain⟨b1,k1,h⟩:=bS_<|h;obtain⟨c1,k2,h⟩:=bS_ h;cases h;rw[K_ I n _ _ _ _ a1.vw a2.vw k1,ih _ _ _ r1 r2 k2];rfl
  cases h1 with
  |non=>cases h2;cases h;rfl
  |bl x=>cases h2;cases h;simp
  |int x=>cases h2;cases h;simp
  |str x=>cases h2;cases h;simp
  |tup r1 s1 l1=>
   cases h2 with
   |tup r2 s2 l2=>
    have:=I.tuple_inj s1 s2;subst this;exact lst _ _ _ _ l1 l2 h
   |lst s2 l2=>exact(LS I s1 s2.sq).elim
   |_=>cases h
  |lst s1 l1=>
   cases h2 with
   |tup r2 s2 l2=>exact(LS I s2 s1.sq).elim
   |lst s2 l2=>
    have:=I.list_inj s1.sq s2.sq;subst this;exact lst _ _ _ _ l1 l2 h
   |_=>cases h
  |_=>cases h
theorem P5(I:Inv X pins σ H s):∀(n:Nat) (A:Around) (x y:V) (d e:D) (u v:Value) (b:Bool),A.units+n<cLine->Vw X.K kd O H x d->Vw X.K kd O H y e->RelV x u->RelV y v->wI n d e=some b->EqAll A s u v b
 |0,_,_,_,_,_,_,_,_,_,_,_,_,_,h=>by cases h
 |n+1,A,x,y,d,e,u,v,b,hu,h1,h2,r1,r2,h=>by
  have hu0:A.units<cLine:=by omega
  have itm:∀{vs ws:List V}{its its2:List Value}{ds es:List D},RpL X.K kd O H vs ds->RpL X.K kd O H ws es->zG vs its->zG ws its2->(∀(j:Nat) d e,ds[j]? = some d->es[j]? = some e->∃c,wI n d e=some c)->
   ∀j h1 (h2:j<its2.toArray.size),SeqAt.EqAt A.in1 s its.toArray[j] its2.toArray[j] (FZ (wI n) ds es j):=by
   intro vs ws its its2 ds es l1 l2 v1 v2 hd j j1 j2;have q1:j<ds.length:=by rw[<-l1.length,v1.length];simpa using j1
   have q2:j<es.length:=by rw[<-l2.length,v2.length];simpa using j2
   obtain⟨a1,ha1,ra1⟩:=l1.get<|zzE q1;obtain⟨a2,ha2,ra2⟩:=l2.get<|zzE q2;obtain⟨u1,hu1,ru1⟩:=v1.get ha1;obtain⟨u2,hu2,ru2⟩:=v2.get ha2;obtain⟨c,hc⟩:=hd j _ _ (zzE q1)<|zzE q2;have e1:its.toArray[j]=u1:=by
    have:=(zzG.mp hu1).2;simpa using this
   have e2:its2.toArray[j]=u2:=by
    have:=(zzG.mp hu2).2;simpa using this
   rw[e1,e2];have e3:FZ (wI n) ds es j=c:=by
    unfold FZ;rw[zzE q1,zzE q2];show(wI n _ _).getD false=c;rw[hc];rfl
   rw[e3];exact(P5 I n A.in1 a1 a2 _ _ u1 u2 c (by show A.units+1+n<cLine;omega) ra1.vw ra2.vw ru1 ru2 hc).eq
  have same:∀{a a':Addr},x = .ref a->y = .ref a'->a=a'->b=true:=by
   intro a a' e1 e2 e3;subst e1 e2 e3;exact K_ I (n+1) _ _ _ _ h1 h2 h
  cases h1 with
  |non=>
   cases r1;cases h2 with
   |non=>cases r2;cases h;exact⟨SeqAt.RcAt.none_none,SeqAt.RcNeAt.none_none,SeqAt.EqAt.same _⟩
   |bl=>cases r2;cases h;exact⟨SeqAt.RcAt.none_bool _,SeqAt.RcNeAt.none_bool _,SeqAt.EqAt.none_bool _⟩
   |int=>obtain⟨t,rfl⟩:=r2;cases h;exact⟨SeqAt.RcAt.none_int _ _,SeqAt.RcNeAt.none_int _ _,SeqAt.EqAt.none_int _ _⟩
   |str=>obtain⟨t,rfl⟩:=r2;cases h;exact⟨SeqAt.RcAt.none_str _ _,SeqAt.RcNeAt.none_str _ _,SeqAt.EqAt.none_str _ _⟩
   |tup r s2 l2=>
    cases r2;cases h;obtain⟨its,rv,p,_⟩:=I.tuple s2;exact⟨SeqAt.RcAt.none_tuple p hu0,SeqAt.RcNeAt.none_tuple p hu0,SeqAt.EqAt.none_tuple p hu0⟩
   |lst s2 l2=>
    cases r2;cases h;obtain⟨its,rv,p,_⟩:=I.list s2.sq;exact⟨SeqAt.RcAt.none_list p.isList hu0,SeqAt.RcNeAt.none_list p.isList hu0,SeqAt.EqAt.none_list p.isList hu0⟩
   |_=>cases h
  |bl c=>
   cases r1;cases h2 with
   |non=>cases r2;cases h;exact⟨SeqAt.RcAt.bool_none _,SeqAt.RcNeAt.bool_none _,SeqAt.EqAt.bool_none _⟩
   |bl=>cases r2;cases h;exact⟨SeqAt.RcAt.bool_bool _ _,SeqAt.RcNeAt.bool_bool _ _,SeqAt.EqAt.bool_bool _ _⟩
   |int=>obtain⟨t,rfl⟩:=r2;cases h;exact⟨SeqAt.RcAt.bool_int _ _ _,SeqAt.RcNeAt.bool_int _ _ _,SeqAt.EqAt.bool_int _ _ _⟩
   |str=>obtain⟨t,rfl⟩:=r2;cases h;exact⟨SeqAt.RcAt.bool_str _ _ _,SeqAt.RcNeAt.bool_str _ _ _,SeqAt.EqAt.bool_str _ _ _⟩
   |tup r s2 l2=>
    cases r2;cases h;obtain⟨its,rv,p,_⟩:=I.tuple s2;exact⟨SeqAt.RcAt.bool_tuple _ p hu0,SeqAt.RcNeAt.bool_tuple _ p hu0,SeqAt.EqAt.bool_tuple _ p hu0⟩
   |lst s2 l2=>
    cases r2;cases h;obtain⟨its,rv,p,_⟩:=I.list s2.sq;exact⟨SeqAt.RcAt.bool_list _ p.isList hu0,SeqAt.RcNeAt.bool_list _ p.isList hu0,SeqAt.EqAt.bool_list _ p.isList hu0⟩
   |_=>cases h
  |int c=>
   obtain⟨t0,rfl⟩:=r1;cases h2 with
   |non=>cases r2;cases h;exact⟨SeqAt.RcAt.int_none _ _,SeqAt.RcNeAt.int_none _ _,SeqAt.EqAt.int_none _ _⟩
   |bl=>cases r2;cases h;exact⟨SeqAt.RcAt.int_bool _ _ _,SeqAt.RcNeAt.int_bool _ _ _,SeqAt.EqAt.int_bool _ _ _⟩
   |int=>obtain⟨t,rfl⟩:=r2;cases h;exact⟨SeqAt.RcAt.int_int _ _ _ _,SeqAt.RcNeAt.int_int _ _ _ _,SeqAt.EqAt.int_int _ _ _ _⟩
   |str=>obtain⟨t,rfl⟩:=r2;cases h;exact⟨SeqAt.RcAt.int_str _ _ _ _,SeqAt.RcNeAt.int_str _ _ _ _,SeqAt.EqAt.int_str _ _ _ _⟩
   |tup r s2 l2=>
    cases r2;cases h;obtain⟨its,rv,p,_⟩:=I.tuple s2;exact⟨SeqAt.RcAt.int_tuple _ _ p hu0,SeqAt.RcNeAt.int_tuple _ _ p hu0,SeqAt.EqAt.int_tuple _ _ p hu0⟩
   |lst s2 l2=>
    cases r2;cases h;obtain⟨its,rv,p,_⟩:=I.list s2.sq;exact⟨SeqAt.RcAt.int_list _ _ p.isList hu0,SeqAt.RcNeAt.int_list _ _ p.isList hu0,SeqAt.EqAt.int_list _ _ p.isList hu0⟩
   |_=>cases h
  |str c=>
   obtain⟨t0,rfl⟩:=r1;cases h2 with
   |non=>cases r2;cases h;exact⟨SeqAt.RcAt.str_none _ _,SeqAt.RcNeAt.str_none _ _,SeqAt.EqAt.str_none _ _⟩
   |bl=>cases r2;cases h;exact⟨SeqAt.RcAt.str_bool _ _ _,SeqAt.RcNeAt.str_bool _ _ _,SeqAt.EqAt.str_bool _ _ _⟩
   |int=>obtain⟨t,rfl⟩:=r2;cases h;exact⟨SeqAt.RcAt.str_int _ _ _ _,SeqAt.RcNeAt.str_int _ _ _ _,SeqAt.EqAt.str_int _ _ _ _⟩
   |str=>obtain⟨t,rfl⟩:=r2;cases h;exact⟨SeqAt.RcAt.str_str _ _ _ _,SeqAt.RcNeAt.str_str _ _ _ _,SeqAt.EqAt.str_str _ _ _ _⟩
   |tup r s2 l2=>
    cases r2;cases h;obtain⟨its,rv,p,_⟩:=I.tuple s2;exact⟨SeqAt.RcAt.str_tuple _ _ p hu0,SeqAt.RcNeAt.str_tuple _ _ p hu0,SeqAt.EqAt.str_tuple _ _ p hu0⟩
   |lst s2 l2=>
    cases r2;cases h;obtain⟨its,rv,p,_⟩:=I.list s2.sq;exact⟨SeqAt.RcAt.str_list _ _ p.isList hu0,SeqAt.RcNeAt.str_list _ _ p.isList hu0,SeqAt.EqAt.str_list _ _ p.isList hu0⟩
   |_=>cases h
  | @tup a1 vs1 ds1 r s1 l1=>
   cases r1;obtain⟨its1,rv1,p1,_⟩:=I.tuple s1;cases h2 with
   |non=>cases r2;cases h;exact⟨SeqAt.RcAt.tuple_none p1 hu0,SeqAt.RcNeAt.tuple_none p1 hu0,SeqAt.EqAt.tuple_none p1 hu0⟩
   |bl=>cases r2;cases h;exact⟨SeqAt.RcAt.tuple_bool _ p1 hu0,SeqAt.RcNeAt.tuple_bool _ p1 hu0,SeqAt.EqAt.tuple_bool _ p1 hu0⟩
   |int=>obtain⟨t,rfl⟩:=r2;cases h;exact⟨SeqAt.RcAt.tuple_int _ _ p1 hu0,SeqAt.RcNeAt.tuple_int _ _ p1 hu0,SeqAt.EqAt.tuple_int _ _ p1 hu0⟩
   |str=>obtain⟨t,rfl⟩:=r2;cases h;exact⟨SeqAt.RcAt.tuple_str _ _ p1 hu0,SeqAt.RcNeAt.tuple_str _ _ p1 hu0,SeqAt.EqAt.tuple_str _ _ p1 hu0⟩
   | @tup a2 vs2 ds2 r' s2 l2=>
    cases r2;obtain⟨its2,rv2,p2,_⟩:=I.tuple s2;obtain⟨k1,k2⟩:=Uk h;have he:=itm l1 l2 rv1 rv2 k1;have eb:((List.range<|min its1.toArray.size its2.toArray.size).all (FZ (wI n) ds1 ds2)&&its1.toArray.size==its2.toArray.size)=b:=by
     rw[k2,zzH,zzH,<-rv1.length,<-rv2.length,l1.length,l2.length]
    have b1:=SeqAt.RcAt.tuples p1 p2 hu0 he;have b2:=SeqAt.RcNeAt.tuples p1 p2 hu0 he;rw[eb]at b1 b2;refine⟨b1,b2, ?_⟩
    by_cases ha:a1=a2
    . have hb:=same rfl rfl ha;subst ha;rw[hb];exact SeqAt.EqAt.same _
    . exact SeqAt.EqAt.of_refs ha b1
   |lst s2 l2=>
    cases r2;cases h;obtain⟨its,rv,p,_⟩:=I.list s2.sq;exact⟨SeqAt.RcAt.tuple_list p1 p.isList hu0,SeqAt.RcNeAt.tuple_list p1 p.isList hu0,SeqAt.EqAt.tuple_list p1 p.isList hu0⟩
   |_=>cases h
  | @lst a1 vs1 ds1 s1 l1=>
   cases r1;obtain⟨its1,rv1,p1,_⟩:=I.list s1.sq;cases h2 with
   |non=>cases r2;cases h;exact⟨SeqAt.RcAt.list_none p1.isList hu0,SeqAt.RcNeAt.list_none p1.isList hu0,SeqAt.EqAt.list_none p1.isList hu0⟩
   |bl=>cases r2;cases h;exact⟨SeqAt.RcAt.list_bool _ p1.isList hu0,SeqAt.RcNeAt.list_bool _ p1.isList hu0,SeqAt.EqAt.list_bool _ p1.isList hu0⟩
   |int=>obtain⟨t,rfl⟩:=r2;cases h;exact⟨SeqAt.RcAt.list_int _ _ p1.isList hu0,SeqAt.RcNeAt.list_int _ _ p1.isList hu0,SeqAt.EqAt.list_int _ _ p1.isList hu0⟩
   |str=>obtain⟨t,rfl⟩:=r2;cases h;exact⟨SeqAt.RcAt.list_str _ _ p1.isList hu0,SeqAt.RcNeAt.list_str _ _ p1.isList hu0,SeqAt.EqAt.list_str _ _ p1.isList hu0⟩
   |tup r' s2 l2=>
    cases r2;cases h;obtain⟨its2,rv2,p2,_⟩:=I.tuple s2;exact⟨SeqAt.RcAt.list_tuple p1.isList p2 hu0,SeqAt.RcNeAt.list_tuple p1.isList p2 hu0,SeqAt.EqAt.list_tuple p1.isList p2 hu0⟩
   | @lst a2 vs2 ds2 s2 l2=>
    cases r2;obtain⟨its2,rv2,p2,_⟩:=I.list s2.sq;obtain⟨k1,k2⟩:=Uk h;have he:=itm l1 l2 rv1 rv2 k1;have ez1:=zzH.trans<|rv1.length.symm.trans l1.length;have ez2:=zzH.trans<|rv2.length.symm.trans l2.length;have both:SeqAt.RcAt A s (.ref a1) (.ref a2) b/\SeqAt.RcNeAt A s (.ref a1) (.ref a2) (!b):=by
     by_cases hz:its1.toArray.size=its2.toArray.size
     . have b1:=SeqAt.RcAt.lists p1.isList p2.isList hz hu0 he;have b2:=SeqAt.RcNeAt.lists p1.isList p2.isList hz hu0 he;have eb:(List.range its1.toArray.size).all (FZ (wI n) ds1 ds2)=b:=by
        rw[k2,<-ez1,<-ez2,<-hz,Nat.min_self];simp
       rw[eb]at b1 b2;exact⟨b1,b2⟩
     . have hz':(its1.toArray.size != its2.toArray.size)=true:=by simpa using hz
       have eb:b=false:=by
        rw[k2,<-ez1,<-ez2];have:(its1.toArray.size==its2.toArray.size)=false:=by simpa using hz
        rw[this,Bool.and_false]
       rw[eb];exact⟨SeqAt.RcAt.lists_lengths p1.isList p2.isList hz' hu0,SeqAt.RcNeAt.lists_lengths p1.isList p2.isList hz' hu0⟩
    refine⟨both.1,both.2, ?_⟩
    by_cases ha:a1=a2
    . have hb:=same rfl rfl ha;subst ha;rw[hb];exact SeqAt.EqAt.same _
    . exact SeqAt.EqAt.of_refs ha both.1
   |_=>cases h
  |_=>cases h
end
structure DkAt(P:Program)(w:World)(h:Heap)(a:Addr)(kvs:List (Key×V)):Prop where
 le:kvs.length<=sizeLine
 ns:(a==sysModules)=false
 ex:∃vs,KV kvs vs/\h.DictOf (yx P w) a vs
structure KdOk(X:Cx)(kd:KD):Prop where
 inj:∀a k k',kd a k->kd a k'->k=k'
 inK:∀a k,kd a k->∃o,X.K.lookup a=some o
 at_:∀a k h,kd a k->X.K.In h->DkAt X.prog X.w h a k
section
variable{X:Cx}{kd:KD}{pins:List (Addr×Obj)}{σ:St}{H:Hp}{s:Shared}{O:Addr->Prop}
def Q2(I:Inv X pins σ H s)(hk:KdOk X kd)(h:Rd H a (.dK kvs)\/kd a kvs):DkAt X.prog X.w s.heap a kvs:=by
 rcases h with h|h
 . obtain⟨z,hd,vs,rel,dd⟩:=L_ I.hok h;exact⟨z,hd,vs,rel,dd⟩
 . exact hk.at_ _ _ _ h I.kIn
theorem EY(I:Inv X pins σ H s):∀(n:Nat) (v:V) (d e x:D) (b c:Bool),Vw X.K kd O H v d->Vw X.K kd O H v e->wI n d x=some b->wI n e x=some c->b=c
 |0,_,_,_,_,_,_,_,_,h,_=>by cases h
 |n+1,v,d,e,x,b,c,h1,h2,h,h'=>by
  have lst:∀(vs:List V) (ds es xs:List D) (b c:Bool),RpL X.K kd O H vs ds->RpL X.K kd O H vs es->E8 (wI n) ds xs=some b->E8 (wI n) es xs=some c->b=c:=by
   intro vs
   induction vs with
   |nil=>intro ds es xs b c r1 r2 h h';cases r1;cases r2;exact zzY (h.symm.trans h')
   |cons v vs ih=>
    intro ds es xs b c r1 r2 h h';cases r1 with
    |cons a1 r1=>
     cases r2 with
     | cons a2 r2=>
            cases xs with
            |nil=>cases h;cases h';rfl
            |cons x xs=>
             obtain⟨b1,k1,h⟩:=bS_<|h;obtain⟨c1,k2,h⟩:=bS_ h;obtain⟨b2,k3,h'⟩:=bS_<|h';obtain⟨c2,k4,h'⟩:=bS_ h';cases h;cases h';rw[EY I n _ _ _ _ _ _ a1.vw a2.vw k1 k3,ih _ _ _ _ _ r1 r2 k2 k4]
  cases h1 with
  |tup r1 s1 l1=>
   cases h2 with
   |tup r2 s2 l2=>
    have:=I.tuple_inj s1 s2;subst this;cases x with
    |tup xs=>exact lst _ _ _ _ _ _ l1 l2 h h'
    |_=>exact zzY (h.symm.trans h')
   |lst s2 l2=>exact(LS I s1 s2.sq).elim
   |_=>cases h'
  |lst s1 l1=>
   cases h2 with
   |tup r2 s2 l2=>exact(LS I s2 s1.sq).elim
   |lst s2 l2=>
    have:=I.list_inj s1.sq s2.sq;subst this;cases x with
    |lst xs=>exact lst _ _ _ _ _ _ l1 l2 h h'
    |_=>exact zzY (h.symm.trans h')
   |_=>cases h'
  |dct s1 l1=>cases h
  |cl=>cases h
  |ob=>cases h
  |dt=>cases h
  |er=>cases h
  |_=>cases h2;exact zzY<|h.symm.trans h'
end
def MV:D->Option Key
 | .int i=>some<|.inl i
 | .str x=>some (.inr x)
 |_=>none
def WZ(kvs:List (Key×D))(k:Key):Option D:=(kvs.find? λkv=>decide (kv.1=k)).map (·.2)
def PB{K}{kd}{O}{H}(k){vs}{ds}(h:RpM K kd O H vs ds):(∃v d,vA vs k=some v/\WZ ds k=some d/\Rp K kd O H v d)\/(vA vs k=none/\WZ ds k=none):=
 RpM.ind (P:=λvs ds=>(∃v d,vA vs k=some v/\WZ ds k=some d/\Rp K kd O H v d)\/(vA vs k=none/\WZ ds k=none)) (.inr ⟨rfl,rfl⟩) (λ{k' v d vs ds} a _ ih=>by
  by_cases e:k'=k
  . left;refine⟨_,_, ?_, ?_,a⟩
    . unfold vA;simp[e]
    . unfold WZ;simp[e]
  . rcases ih with⟨v,d,h1,h2,h3⟩|⟨h1,h2⟩
    . left;refine⟨v,d, ?_, ?_,h3⟩
      . unfold vA at h1 ⊢;simpa[e]using h1
      . unfold WZ at h2 ⊢;simpa[e]using h2
    . right;refine⟨?_, ?_⟩
      . unfold vA at h1 ⊢;simpa[e]using h1
      . unfold WZ at h2 ⊢;simpa[e]using h2) h
def LL:List D->Option (List Key)
 | []=>some []
 |d::r=>(MV d).bind λk=>(LL r).bind λks=>some (k::ks)
def SQ:D->Option (List Key)
 | .tup ds=>LL ds
 |_=>none
def QS(ks:List (List Key))(ds:List D)(k:List Key):Option D:=((ks.zip ds).find? λkv=>decide (kv.1=k)).map (·.2)
def FI{K}{kd}{O}{H}{vs}{ds}(h:RpL K kd O H vs ds):∀{k:List Key},LL ds=some k->vs=k.map kV:=
 RpL.ind (P:=λvs ds=>∀{k:List Key},LL ds=some k->vs=k.map kV) (λe=>by cases e;rfl) (λ{v d vs ds} a _ ih k e=>by
  obtain⟨k1,h1,e⟩:=bS_<|e;obtain⟨k2,h2,e⟩:=bS_ e;cases e;have hv:v=kV k1:=by
   cases a with
   |int i=>cases h1;rfl
   |str i=>cases h1;rfl
   |_=>cases h1
  rw[hv,ih h2];rfl) h
def RZ{K}{kd}{O}{H}{v}{d}{k}(h:Vw K kd O H v d)(e:SQ d=some k):∃b,v = .ref b/\H b=some (.tup<|k.map kV):=by
 cases h with
 |tup rp hs rl=>
  cases rp with
  |tup n h r=>exact⟨_,rfl,by rw[h,FI r e]⟩
 |_=>cases e
def TY{K}{kd}{O}{H}(k){vs}{ds}(h:RpL K kd O H vs ds):∀{ks:List (List Key)},ks.length=vs.length->(∃v d,vA (ks.zip vs) k=some v/\QS ks ds k=some d/\Rp K kd O H v d)\/(vA (ks.zip vs) k=none/\QS ks ds k=none):=
 RpL.ind (P:=λvs ds=>∀{ks:List (List Key)},ks.length=vs.length->(∃v d,vA (ks.zip vs) k=some v/\QS ks ds k=some d/\Rp K kd O H v d)\/(vA (ks.zip vs) k=none/\QS ks ds k=none)) (λ{ks} e=>by
  cases ks with
  |nil=>exact .inr ⟨rfl,rfl⟩
  |cons=>simp at e) (λ{v d vs ds} a _ ih ks e=>by
  cases ks with
  |nil=>simp at e
  |cons k1 ks=>
   have e':ks.length=vs.length:=by simpa using e
   unfold vA QS;rw[List.zip_cons_cons,List.zip_cons_cons]
   by_cases hk:k1=k
   . rw[List.find?_cons_of_pos (by simpa using hk),List.find?_cons_of_pos<|by simpa using hk];exact .inl ⟨_,_,rfl,rfl,a⟩
   . rw[List.find?_cons_of_neg (by simpa using hk),List.find?_cons_of_neg<|by simpa using hk];exact ih e') h
def anyF(f:D->Option Bool):List D->Option Bool
 | []=>some false
 |x::r=>(f x).bind λb=>(anyF f r).bind λc=>some (b||c)
def MF(b:Bool):R0:=.im<|.bl b
def AB(x:D):D->Option Bool
 | .lst ys=>anyF (λy=>wI 50 y x) ys
 | .tup ys=>anyF (λy=>wI 50 y x) ys
 | .str y=>match x with | .str i=>some (!(Builtin.Str.occurrences y i 0 y.length 1).isEmpty)|_=>none
 | .dct kvs=>(MV x).bind λk=>some (WZ kvs k).isSome
 | .dt ks ds=>(SQ x).bind λk=>some (QS ks ds k).isSome
 |_=>none
def AU:D->D->Option Bool
 |d,.non=>some (match d with | .non=>true|_=>false)
 |d,.bl b=>match d with | .bl c=>some (c==b)|_=>some false
 |_,_=>none
def GY(f:Int->Int->Bool):D->D->Option R0:=FX λi j=>some<|MF<|f i j
def zr(o:CmpOp)(d e:D):Option R0:=match o with
 | .Eq=>(wI 60 d e).bind λb=>some<|MF b
 | .NotEq=>(wI 60 d e).bind λb=>some<|MF !b
 | .Lt=>GY (λi j=>decide (i<j)) d e
 | .LtE=>GY (λi j=>decide (i<=j)) d e
 | .Gt=>GY (λi j=>decide (j<i)) d e
 | .GtE=>GY (λi j=>decide (j<=i)) d e
 | .In=>(AB d e).bind λb=>some<|MF b
 | .NotIn=>(AB d e).bind λb=>some<|MF !b
 | .Is=>(AU d e).bind λb=>some<|MF b
 | .IsNot=>(AU d e).bind λb=>some<|MF !b
def YM{o:Option Bool}{f:Bool->Bool}{r}(h:(o.bind λb=>some<|MF<|f b)=some r):∃k,r = .im (.bl k):=by
 obtain⟨b,_,h⟩:=bS_ h;cases h;exact⟨_,rfl⟩
def Qw(h:GY f x y=some r):∃k,r = .im (.bl k):=by
 obtain⟨i,_,h⟩:=bS_<|h;obtain⟨j,_,h⟩:=bS_ h;cases h;exact⟨_,rfl⟩
def ZI(op:CmpOp)(x y:D)(r)(h:zr op x y=some r):∃k,r = .im (.bl k):=by
 cases op with
 |Eq=>exact YM h
 |NotEq=>exact YM h
 |Lt=>exact Qw h
 |LtE=>exact Qw h
 |Gt=>exact Qw h
 |GtE=>exact Qw h
 |In=>exact YM h
 |NotIn=>exact YM h
 |Is=>exact YM h
 |IsNot=>exact YM h
section
variable{X:Cx}{kd:KD}{pins:List (Addr×Obj)}{σ:St}{H:Hp}{s:Shared}{O:Addr->Prop}
noncomputable def Ln(K:zzA)(kd:KD)(O:Addr->Prop)(H:Hp)(n:Nat)(x:D)(u:Value):Bool:=@decide (∃v d,RelV v u/\Rp K kd O H v d/\wI n d x=some true)<|Classical.propDecidable _
def ES(I:Inv X pins σ H s)(hk:KdOk X kd)(r:RelV v u)(p:Rp X.K kd O H v d)(e:wI n d x=some b):Ln X.K kd O H n x u=b:=by
 unfold Ln;cases b with
 |true=>exact @zyN _ (Classical.propDecidable _) ⟨v,d,r,p,e⟩
 |false=>
  refine @zyF _ (Classical.propDecidable _) λ⟨v',d',r',p',e'⟩=>?_;have:=r.inj r';subst this;exact Bool.noConfusion<|EY I n _ _ _ _ _ _ p.vw p'.vw e e'
def Qx(I:Inv X pins σ H s)(hk:KdOk X kd)(hv:zG vs us)(h:RpL X.K kd O H vs ds)(e:anyF (λy=>wI n y x) ds=some b):us.any (Ln X.K kd O H n x)=b:=
 RpL.ind (P:=λvs ds=>∀us b,zG vs us->anyF (λy=>wI n y x) ds=some b->us.any (Ln X.K kd O H n x)=b) (λus b hv e=>by cases e;cases hv;rfl) (λ{v d vs ds} a _ ih us b hv h=>by
  cases hv with
  |cons r t=>
   obtain⟨b1,h1,h⟩:=bS_<|h;obtain⟨c1,h2,h⟩:=bS_ h;cases h;rw[List.any_cons,ES I hk r a h1,ih _ _ t h2]) h us b hv e
theorem YF:∀{ds:List D}{b:Bool},anyF f ds=some b->∀d ∈ ds,∃c,f d=some c
 | [],_,_,d,hd=>by simp at hd
 |x::r,b,h,d,hd=>by
  obtain⟨b1,h1,h⟩:=bS_<|h;obtain⟨c1,h2,h⟩:=bS_ h
  rcases zzC.mp hd with e|e
  . subst e;exact⟨b1,h1⟩
  . exact YF h2 d e
def Qz(I:Inv X pins σ H s)(hk:KdOk X kd)(hu:A.units+n<cLine)(vx:Vw X.K kd O H x d)(rx:RelV x v)(hv:zG vs us)(h:RpL X.K kd O H vs ds)(k:∀e ∈ ds,∃c,wI n e d=some c):∀u ∈ us,SeqAt.EqAt A s u v (Ln X.K kd O H n d u):=
 RpL.ind (P:=λvs ds=>∀us,zG vs us->(∀e ∈ ds,∃c,wI n e d=some c)->∀u ∈ us,SeqAt.EqAt A s u v<|Ln X.K kd O H n d u) (λus hv _ u hu=>by cases hv;simp at hu) (λa q ih us hv h u hm=>by
  cases hv with
  |cons r t=>
   rcases zzC.mp hm with e|e
   . subst e;obtain⟨c,hc⟩:=h _ zzF;rw[ES I hk r a hc];exact(P5 I n A _ _ _ _ _ _ _ hu a.vw vx r rx hc).eq
   . exact ih _ t (λe he=>h e<|zzD _ he) u e) h us hv k
def Q4(vx:Vw X.K kd O H x d)(rx:RelV x v)(e:AU d (.bl b)=some c)(h:Q c s):wpAny (model X.prog X.w) A (isSame v<|.bool b) Q E s:=by
 cases vx with
 |non=>cases rx;cases e;exact zxF h
 |bl k=>
  cases rx;have e:=e;cases e;refine zxF ?_;cases k<;>cases b<;>exact h
 |int=>obtain⟨t,rfl⟩:=rx;cases e;exact zxF h
 |str=>obtain⟨t,rfl⟩:=rx;cases e;exact zxF h
 |tup=>cases rx;cases e;exact zxF h
 |lst=>cases rx;cases e;exact zxF h
 |dct=>cases rx;cases e;exact zxF h
 |cl=>cases rx;cases e;exact zxF h
 |ob=>cases rx;cases e;exact zxF h
 |dt=>cases rx;cases e;exact zxF h
 |er=>cases rx;cases e;exact zxF h
def yQ(hk:KdOk X kd)(hu:X.A.units+100<cLine)(op):MQ X kd (compareOp op) (zr op):=by
 intro pins s σ H x y v u Q I rx ry h;obtain⟨O,d,e,r,ht,vx,vy,he,q⟩:=h;cases op with
 |Eq=>
  obtain⟨b,h1,he⟩:=bS_<|he;cases he;exact(P5 I 60 X.A x y d e v u b (by omega) vx vy rx ry h1).rc _ _ _ _ (yO I (zS q<|.bl _) rfl)
 |NotEq=>
  obtain⟨b,h1,he⟩:=bS_<|he;cases he;exact(P5 I 60 X.A x y d e v u b (by omega) vx vy rx ry h1).ne _ _ _ _ (yO I (zS q<|.bl _) rfl)
 |Lt=>
  obtain⟨i,j,rfl,rfl,he⟩:=v_ vx vy he;cases he;exact IH pins s σ H _ _ v u Q I rx ry ⟨_,_,rfl,rfl,zS q<|.bl _⟩
 |LtE=>
  obtain⟨i,j,rfl,rfl,he⟩:=v_ vx vy he;cases he;exact IX pins s σ H _ _ v u Q I rx ry ⟨_,_,rfl,rfl,zS q<|.bl _⟩
 |Gt=>
  obtain⟨i,j,rfl,rfl,he⟩:=v_ vx vy he;cases he;exact JE pins s σ H _ _ v u Q I rx ry ⟨_,_,rfl,rfl,zS q<|.bl _⟩
 |GtE=>
  obtain⟨i,j,rfl,rfl,he⟩:=v_ vx vy he;cases he;exact IS pins s σ H _ _ v u Q I rx ry ⟨_,_,rfl,rfl,zS q<|.bl _⟩
 |In=>
  obtain⟨b,h1,he⟩:=bS_<|he;cases he;cases vy with
  |lst hs rl=>
   cases ry;obtain⟨its,rv,p,_⟩:=I.list hs.sq;refine SeqAt.in_listAt (Ln X.K kd O H 50 d) p.isList (λw hw=>Qz I hk (by show X.A.units+1+50<cLine;omega) vx rx rv rl (YF h1) w<|by simpa using hw) ?_;have:=Qx I hk rv rl h1;rw[show its.toArray.any (Ln X.K kd O H 50 d)=b by rw[<-this];simp];exact yO (I) (zS q<|.bl _) rfl
  |tup rp hs rl=>
   cases ry;obtain⟨its,rv,p,_⟩:=I.tuple hs;refine SeqAt.in_tupleAt (Ln X.K kd O H 50 d) p (λw hw=>Qz I hk (by show X.A.units+1+50<cLine;omega) vx rx rv rl (YF h1) w<|by simpa using hw) ?_;have:=Qx I hk rv rl h1;rw[show its.toArray.any (Ln X.K kd O H 50 d)=b by rw[<-this];simp];exact yO (I) (zS q<|.bl _) rfl
  |str z=>
   cases vx with
   |str i=>cases h1;exact N0 pins s σ H _ _ v u Q I rx ry ⟨_,_,rfl,rfl,zS q<|.bl _⟩
   |_=>cases h1
  |dct hs rm=>
   cases ry;obtain⟨k,k1,h1⟩:=bS_ h1;cases h1;obtain⟨z,hd,vs,rel,dd⟩:=Q2 I hk hs;have ek:x=kV k:=by
    cases vx with
    |int i=>cases k1;rfl
    |str i=>cases k1;rfl
    |_=>cases k1
   subst ek;refine wpAny_in_of (Qd rx) hd dd.mapOf ?_;rw[<-(rel.val k).isSome_eq]
   rcases PB k rm with⟨v1,d1,e1,e2,_⟩|⟨e1,e2⟩
   . rw[e1];rw[e2]at q;exact yO (I.tok _) (zS q<|.bl _) rfl
   . rw[e1];rw[e2]at q;exact yO (I.tok _) (zS q<|.bl _) rfl
  |dt hH l rl=>
   cases ry;obtain⟨k,k1,h1⟩:=bS_ h1;cases h1;obtain⟨b,rfl,hb⟩:=RZ vx k1;refine DG (by show X.A.units+1<cLine;omega) I (Mf.t hH hb) rx λs' I'=>?_
   rcases TY k rl l with⟨v1,d1,e1,e2,_⟩|⟨e1,e2⟩
   . rw[e1];rw[e2]at q;exact yO I' (zS q<|.bl _) rfl
   . rw[e1];rw[e2]at q;exact yO I' (zS q<|.bl _) rfl
  |_=>cases h1
 |NotIn=>
  obtain⟨b,h1,he⟩:=bS_<|he;cases he;cases vy with
  |lst hs rl=>
   cases ry;obtain⟨its,rv,p,_⟩:=I.list hs.sq;refine SeqAt.notIn_listAt (Ln X.K kd O H 50 d) p.isList (λw hw=>Qz I hk (by show X.A.units+1+50<cLine;omega) vx rx rv rl (YF h1) w<|by simpa using hw) ?_;have:=Qx I hk rv rl h1;rw[show its.toArray.any (Ln X.K kd O H 50 d)=b by rw[<-this];simp];exact yO (I) (zS q<|.bl _) rfl
  |tup rp hs rl=>
   cases ry;obtain⟨its,rv,p,_⟩:=I.tuple hs;refine SeqAt.notIn_tupleAt (Ln X.K kd O H 50 d) p (λw hw=>Qz I hk (by show X.A.units+1+50<cLine;omega) vx rx rv rl (YF h1) w<|by simpa using hw) ?_;have:=Qx I hk rv rl h1;rw[show its.toArray.any (Ln X.K kd O H 50 d)=b by rw[<-this];simp];exact yO (I) (zS q<|.bl _) rfl
  |str z=>
   cases vx with
   |str i=>cases h1;exact P4 pins s σ H _ _ v u Q I rx ry ⟨_,_,rfl,rfl,zS q<|.bl _⟩
   |_=>cases h1
  |dct hs rm=>
   cases ry;obtain⟨k,k1,h1⟩:=bS_ h1;cases h1;obtain⟨z,hd,vs,rel,dd⟩:=Q2 I hk hs;have ek:x=kV k:=by
    cases vx with
    |int i=>cases k1;rfl
    |str i=>cases k1;rfl
    |_=>cases k1
   subst ek;refine wpAny_notIn_of (Qd rx) hd dd.mapOf ?_;rw[<-(rel.val k).isSome_eq]
   rcases PB k rm with⟨v1,d1,e1,e2,_⟩|⟨e1,e2⟩
   . rw[e1];rw[e2]at q;exact yO (I.tok _) (zS q<|.bl _) rfl
   . rw[e1];rw[e2]at q;exact yO (I.tok _) (zS q<|.bl _) rfl
  |dt hH l rl=>
   cases ry;obtain⟨k,k1,h1⟩:=bS_ h1;cases h1;obtain⟨b,rfl,hb⟩:=RZ vx k1;refine Sg (by show X.A.units+1<cLine;omega) I (Mf.t hH hb) rx λs' I'=>?_
   rcases TY k rl l with⟨v1,d1,e1,e2,_⟩|⟨e1,e2⟩
   . rw[e1];rw[e2]at q;exact yO I' (zS q<|.bl _) rfl
   . rw[e1];rw[e2]at q;exact yO I' (zS q<|.bl _) rfl
  |_=>cases h1
 |Is=>
  obtain⟨b,h1,he⟩:=bS_<|he;cases he;cases vy with
  |non=>
   refine O7 pins s σ H _ _ v u Q I rx ry ⟨rfl, ?_⟩;have:decide (x=V.non)=b:=by cases vx<;>(cases h1;rfl)
   rw[this];exact zS q (.bl b)
  |bl c=>
   cases ry;exact zxE (Q4 vx rx h1<|zxF<|yO I (zS q<|.bl _) rfl)
  |_=>cases h1
 |IsNot=>
  obtain⟨b,h1,he⟩:=bS_<|he;cases he;cases vy with
  |non=>
   refine Bq pins s σ H _ _ v u Q I rx ry ⟨rfl, ?_⟩;have:decide (x=V.non)=b:=by cases vx<;>(cases h1;rfl)
   rw[this];exact zS q (.bl _)
  |bl c=>
   cases ry;exact zxE (Q4 vx rx h1<|zxF<|yO I (zS q<|.bl _) rfl)
  |_=>cases h1
end
def Nl{K}{kd}{O}{H}{vs}{ds}{i}{d}(r:RpL K kd O H vs ds)(h:Tn ds i=some d):∃v,Tn vs i=some v/\Rp K kd O H v d:=by
 unfold Tn at h ⊢;obtain⟨j,h1,h2⟩:=bS_ h;rw[r.length,h1];exact r.get h2
def Mm(o:Option D):Option R0:=o.bind λd=>some<|.im d
def zo(x y:D):Option R0:=match x with
 | .lst xs=>(P3 y).bind λi=>Mm<|Tn xs i
 | .tup xs=>(P3 y).bind λi=>Mm<|Tn xs i
 | .str x=>(P3 y).bind λi=>if x.length<=sizeLine then(Tn x.cps.toList i).bind λc=>some (.im<|.str ⟨#[c]⟩)else none
 | .dct kvs=>(MV y).bind λk=>Mm (WZ kvs k)
 |_=>none
def Up(h:Mm o=some r):∃d,o=some d/\r = .im d:=by
 obtain⟨d,h1,h2⟩:=bS_<|h;cases h2;exact⟨d,h1,rfl⟩
section
variable{X:Cx}{kd:KD}
def FG{K}{O}{H}{x}{d}{k}(vx:Vw K kd O H x d)(e:MV d=some k):x=kV k:=by
 cases vx with
 |int i=>cases e;rfl
 |str i=>cases e;rfl
 |_=>cases e
def DJ(hk:KdOk X kd):D7 X kd zo:=by
 intro value slice pins s σ H x y v u Q I rx ry h hs;obtain⟨O,d,e,r,ht,vx,vy,he,q⟩:=h;cases vx with
 |lst hr rl=>
  obtain⟨i,h0,he⟩:=bS_<|he;obtain⟨rfl,rfl⟩:=Zu vy h0;obtain⟨d,h1,rfl⟩:=Up he;obtain⟨w,hw,rw'⟩:=Nl rl h1;exact Pt value slice pins s σ H _ _ v u Q I rx ry ⟨_,_,_,w,rfl,rfl,hr.sq,hw,zS q rw'⟩ hs
 |tup rp hr rl=>
  obtain⟨i,h0,he⟩:=bS_<|he;obtain⟨rfl,rfl⟩:=Zu vy h0;obtain⟨d,h1,rfl⟩:=Up he;obtain⟨w,hw,rw'⟩:=Nl rl h1;exact Pe value slice pins s σ H _ _ v u Q I rx ry ⟨_,_,_,w,rfl,rfl,hr,hw,zS q rw'⟩ hs
 |str z=>
  obtain⟨i,h0,he⟩:=bS_<|he;obtain⟨rfl,rfl⟩:=Zu vy h0;obtain⟨hz,he⟩:=ite_some' he;obtain⟨c,h1,he⟩:=bS_ he;cases he;exact OS value slice pins s σ H _ _ v u Q I rx ry ⟨_,_,c,rfl,rfl,hz,h1,zS q<|.str _⟩ hs
 |dct hr rm=>
  obtain⟨k,h1,he⟩:=bS_<|he;obtain⟨d,h2,rfl⟩:=Up he;cases rx;obtain⟨z,hd,vs,rel,dd⟩:=Q2 I hk hr;have:=FG vy h1;subst this
  rcases PB k rm with⟨v1,d1,e1,e2,rp⟩|⟨e1,e2⟩
  . rw[h2]at e2;cases e2;obtain⟨w',hw,rw'⟩:=UL.some_of (by rw[<-e1];exact rel.val k);exact tail_any dd.typeIs PySem.F.slot_dict_getitem.lookup (wpAny_getItem_of (Qd ry) dd.mapOf hw ⟨v1,H,I.tok _,rw',zS q rp⟩) hs
  . rw[h2]at e2;cases e2
 |_=>cases he
def cutD(xs:List D)(lo hi:Option Int):List D:=(xs.drop<|HT.sIx xs.length 0 lo).take<|HT.sIx xs.length xs.length hi-HT.sIx xs.length 0 lo
def K7{K}{O}{H}{vs}{ds}(r:RpL K kd O H vs ds)(lo hi):RpL K kd O H (Mj vs lo hi) (cutD ds lo hi):=by
 unfold Mj cutD;rw[r.length];exact(r.drop _).take _
def LH(x:D)(lo hi:Option Int):Option R0:=match x with
 | .lst xs=>some<|.fl<|cutD xs lo hi
 | .tup xs=>if HT.sIx xs.length 0 lo=0/\HT.sIx xs.length xs.length hi=xs.length then none else some (.im<|.tup<|cutD xs lo hi)
 |_=>none
abbrev OF:=AS->Option (Option Int×AS)
def oN:OF:=λas=>some (none,as)
def oS(f:EF):OF:=λas=>(f as).bind λp=>(DS p.1).bind λi=>some (some i,p.2)
def GR(fa:EF)(fl fh:OF)(g:D->Option Int->Option Int->Option R0):EF:=λas=>(fa as).bind λp=>(fl p.2).bind λl=>(fh l.2).bind λh=>(p.1.frz.view h.2).bind λx=>(g x.1 l.1 h.1).bind λr=>(wrap x.2 r).bind λz=>some (z,h.2)
def u_(K:zzA)(kd:KD)(f:OF):TO:=λσ H Q=>∃F B ad as o as',Rel K kd F B [] ad as σ H/\f as=some (o,as')/\
 ∀ad' H',Rel K kd F B [] ad' as' σ H'->Grow (Gw [] ad) H (Gw [] ad') H'->Q o H'
@[irreducible] def AO(X:Cx)(kd:KD)(e:Option Expr)(f:OF):Prop:=PO X e<|u_ X.K kd f
def Fd(h:PO X e t)(k:∀σ H Q,t' σ H Q->t σ H Q):PO X e t':=λpins s σ H Q I q=>h pins s σ H Q I<|k σ H Q q
def Qt:AO X kd none oN:=by with_unfolding_all exact(Fd BS λσ H Q h=>by
 obtain⟨F,B,ad,as,o,as',R,e,q⟩:=h;cases e;exact q ad H R Grow.refl)
def HX{K}{F B}{T}{ad}{σ}{H}{v}{st}{c}(h:yN K kd F B T ad σ H v (.ow<|.lf st<|.int c)):T=[]/\v = .int c:=by
 have h:=h;generalize hT:Gw T ad=G at h;cases h with
 |lf rp=>cases rp;exact⟨rfl,rfl⟩
def QF{a}{fa}(ha:AE X kd a fa):AO X kd (some a) (oS fa):=by with_unfolding_all exact(Fd (Be ha) λσ H Q h=>by
 obtain⟨F,B,ad,as,o,as',R,e,q⟩:=h;obtain⟨⟨p,as1⟩,h1,e⟩:=bS_<|e;obtain⟨i,e1,e⟩:=bS_ e;obtain⟨st,rfl⟩:=CT e1;cases e;refine⟨F,B,ad,as,_,_,R,h1,λv T' ad1 H1 R1 rv1 g1=>?_⟩;obtain⟨rfl,rfl⟩:=HX rv1;exact⟨i,rfl,q ad1 H1 R1 g1⟩)
def Dv:J5 X (λx lo hi H Q=>∃O d r,(∀a,O a->H a≠none)/\Vw X.K kd O H x d/\LH d lo hi=some r/\RQ X.K kd O H Q r):=by
 intro pins s σ H x v vl vu lo hi sl Q I rx hs pl pu h;obtain⟨O,d,r,ht,vx,he,q⟩:=h;cases vx with
 |lst hr rl=>cases he;exact SZ pins s σ H _ v vl vu lo hi sl Q I rx hs pl pu ⟨_,_,rfl,hr.sq,YA q<|K7 rl lo hi⟩
 |tup rp hr rl=>
  have he:(if _ then none else some _:Option R0)=_:=he
  split at he
  . cases he
  . rename_i hw;cases he;exact Og pins s σ H _ v vl vu lo hi sl Q I rx hs pl pu ⟨_,_,rfl,hr,by rw[rl.length];exact hw,KA ht q<|K7 rl lo hi⟩
 |_=>cases he
def Wb{a}{lo hi}{fa}{fl fh}{pos p2}(ha:AE X kd a fa)(hl:AO X kd lo fl)(hh:AO X kd hi fh):AE X kd (.Subscript a (.Slice lo hi none p2) pos) (GR fa fl fh LH):=by with_unfolding_all exact(yr (FL Dv ha hl hh) λσ H Q h=>by
 obtain⟨F,B,ad,as,r,as',R,e,q⟩:=h;obtain⟨⟨p,as1⟩,h1,e⟩:=bS_<|e;obtain⟨⟨l,as2⟩,h2,e⟩:=bS_ e;obtain⟨⟨u,as3⟩,h3,e⟩:=bS_ e;obtain⟨⟨d,lv⟩,h4,e⟩:=bS_ e;obtain⟨r',h5,e⟩:=bS_ e;obtain⟨z,h6,e⟩:=bS_ e;cases e;refine xJ R h1 λv ad1 H1 R1 rv1 g1=>⟨F,B,ad1,as1,l,as2,R1,h2,λad2 H2 R2 g2=>⟨F,B,ad2,as2,u,_,R2,h3,λad3 H3 R3 g3=>?_⟩⟩;exact⟨_,d,r',R3.tr _,yN.vw R3 ((rv1.grow g2).grow g3) h4,h5,vO R3 h6 λw T' H' R' rv' g'=>q w T' ad3 H' R' rv'<|((g1.trans g2).trans g3).trans g'⟩)
def Oz:D->String
 | .non=>"NoneType" | .bl _=>"bool" | .int _=>"int" | .str _=>"str" | .tup _=>"tuple" | .lst _=>"list" | .dct _=>"dict"|_=>""
def G6:D->Bool
 | .cl _=>false | .ob _ _ _=>false | .dt _ _=>false | .er _ _ _=>false|_=>true
def Rf(t c:String):Bool:=t==c||(t=="bool"&&c=="int")
def Wg(c:String):Bool:=c=="int"||c=="bool"||c=="str"||c=="list"||c=="tuple"||c=="dict"
def Of(K)(d)(c)(h:Wg c=true)(ho:G6 d=true):W.kitOne K (.type<|Oz d) (.type c)=some (Rf (Oz d) c):=by
 have:c="int"\/c="bool"\/c="str"\/c="list"\/c="tuple"\/c="dict":=by
  unfold Wg at h;simp only[Bool.or_eq_true,beq_iff_eq]at h
  rcases h with((((h|h)|h)|h)|h)|h<;>simp[h]
 rcases this with rfl|rfl|rfl|rfl|rfl|rfl<;>cases d<;>first|rfl|cases ho
def O9(hk:KdOk X kd){pins}{σ}{H}{s}{O}{A}{E}{Q}{c}{x}{u}{d}(I:Inv X pins σ H s)(rx:RelV x u)(vx:Vw X.K kd O H x d)(hc:Wg c=true)(ho:G6 d=true)
 (h:∀tk,Q (.bool<|Rf (Oz d) c) {s with toks:=tk}):wpAny (model X.prog X.w) A (call (.builtin "isinstance") [u,.type c]) Q E s:=by
 have e:=Of X.K d c hc ho;cases vx with
 |non=>cases rx;exact W.kia_one W.kitx_none I.kIn True.intro e (λz=>nomatch z) h
 |bl y=>cases rx;exact W.kia_one W.kitx_bool I.kIn True.intro e (λz=>nomatch z) h
 |int i=>obtain⟨t,rfl⟩:=rx;exact W.kia_one W.kitx_int I.kIn True.intro e (λz=>nomatch z) h
 |str y=>obtain⟨t,rfl⟩:=rx;exact W.kia_one W.kitx_str I.kIn True.intro e (λz=>nomatch z) h
 |lst hr rl=>
  cases rx;obtain⟨its,rv,⟨o,n,h1,h2,_⟩,_⟩:=I.list hr.sq;exact W.kia_one W.kitx_list I.kIn ⟨o,h1,h2⟩ e (λz=>nomatch z) h
 |tup rp hr rl=>
  cases rx;obtain⟨its,rv,⟨o,h1,h2,_⟩,_⟩:=I.tuple hr;exact W.kia_one W.kitx_tuple I.kIn ⟨o,h1,h2⟩ e (λz=>nomatch z) h
 |dct hr rm=>
  cases rx;obtain⟨z,hd,vs,rel,⟨o,es,ep,h1,h2,_⟩⟩:=Q2 I hk hr;exact W.kia_one W.kitx_dict I.kIn ⟨o,h1,h2.1⟩ e (λz=>nomatch z) h
 |cl=>cases ho
 |ob=>cases ho
 |dt=>cases ho
 |er=>cases ho
end
def vQ:List D->Option (List Int)
 | []=>some []
 | .int i::r=>(vQ r).bind λs=>some (i::s)
 |_::_=>none
def Oy:List Int->Int
 | []=>0
 |x::r=>r.foldl (λa b=>if a<b then b else a) x
theorem Rz:∀(r:List Int) (x:Int),r.foldl (λa b=>if a<b then b else a) x ∈ x::r/\∀a ∈ x::r,a<=r.foldl (λa b=>if a<b then b else a) x
 | [],x=>⟨by simp,by simp⟩
 |y::r,x=>by
  rw[List.foldl_cons];obtain⟨h1,h2⟩:=Rz r (if x<y then y else x);refine⟨?_,λa ha=>?_⟩
  . rcases zzC.mp h1 with e|e
    . rw[e];split<;>simp
    . exact zzD _<|zzD _ e
  . have h3:=h2 _ zzF
    rcases zzC.mp ha with e|e
    . subst e;exact Int.le_trans (by split<;>omega) h3
    . rcases zzC.mp e with e|e
      . subst e;exact Int.le_trans (by split<;>omega) h3
      . exact h2 a<|zzD _ e
def Sy(h1:M ∈ ns)(h2:∀a ∈ ns,a<=M):Oy ns=M:=by
 cases ns with
 |nil=>simp at h1
 |cons x r=>
  obtain⟨k1,k2⟩:=Rz r x;have a1:=k2 M h1;have a2:=h2 _ k1;show r.foldl _ x=M;omega
def HG(f:D->Option R0)(ds:List D):Option R0:=match ds with
 | [x]=>f x
 |_=>none
def XD{K}{kd}{O}{H}{f}{xs}{ds}{r}(vl:VwL K kd O H xs ds)(h:HG f ds=some r):∃x d,xs=[x]/\Vw K kd O H x d/\f d=some r:=by
 cases vl with
 |nil=>cases h
 |cons a b=>
  cases b with
  |nil=>exact⟨_,_,rfl,a,h⟩
  |cons _ _=>cases h
def Dl:D->Option R0
 | .lst ds=>some<|.im<|.int ds.length
 | .tup ds=>some<|.im<|.int ds.length
 | .str x=>if x.length<=sizeLine then some (.im<|.int x.length)else none
 | .dct kvs=>some<|.im<|.int kvs.length
 | .dt _ ds=>some (.im<|.int ds.length)
 |_=>none
def Z3:List D->Option R0:=HG Dl
def Dh:D->Option R0
 | .int i=>some<|.im<|.int i
 | .bl b=>some (.im<|.int (if b then 1 else 0))
 |_=>none
def Ci:D->Option R0
 | .lst ds=>some<|.fl ds
 | .tup ds=>some (.fl ds)
 |_=>none
def lstP:List D->Option R0:=HG Ci
def dctP:List D->Option R0
 | [.dct kvs]=>some (.fd kvs)
 |_=>none
def Ju(ds:List D):Option R0:=match ds with
 | [x,y]=>FX (λi j=>some<|.im<|.int (if j > i then j else i)) x y
 | [x]=>(Sk x).bind λds=>(vQ ds).bind λns=>if 0<ns.length then some (.im<|.int<|Oy ns)else none
 |_=>none
def Nc{K}{kd}{O}{H}{xs}{d}(h:VwL K kd O H xs [d]):∃x,xs=[x]/\Vw K kd O H x d:=by
 cases h with
 |cons a b=>cases b;exact⟨_,rfl,a⟩
def MP{K}{kd}{O}{H}{vs}{ds}{ns}(h:RpL K kd O H vs ds)(e:vQ ds=some ns):vs=ns.map V.int:=
 RpL.ind (P:=λvs ds=>∀ns,vQ ds=some ns->vs=ns.map V.int) (λns e=>by cases e;rfl) (λ{v d vs ds} a _ ih ns e=>by
  cases d with
  |int i=>
   obtain⟨s,h1,h2⟩:=bS_<|e;cases h2;cases a;rw[ih _ h1];rfl
  |_=>cases e) h ns e
section
variable{X:Cx}{kd:KD}
def OO(I:Inv X pins σ H s)(hH:H a=some (.dT kvs))(q:∀t s',Inv X pins σ H s'->Q (.int kvs.length t) s'):wpAny (model X.prog X.w) A (call (.builtin "len") [.ref a]) Q E s:=by
 obtain⟨hz,hd,xs,rel,dd⟩:=Hm I.hok hH;have ty:=dd.typeIs;obtain⟨o,es,ep,ho,_,hdat,h4,_,_⟩:=dd;have sz:es.size=kvs.length:=by rw[show kvs.length=xs.length from Paired.length rel,<-zyS,h4,zzB]
 have body:MeetsIn X.prog X.w (Builtin.«dict.__len__» ⟨[.ref a],[]⟩) (λ_ R s'=>s'=s/\R (.ok<|.ret<|.int kvs.length s.toks) {s with toks:=s.toks+1}):=.of_wp λA' R s' z=>by
  obtain⟨rfl,z⟩:=z;show wpAny _ _ (dictSize a >>= _) _ _ s';unfold dictSize;exact zxE (zxE<|wpAny_dictEntries ho hdat<|zxF<|zxE<|wpAny_pendingCount_other hd<|wpAny_ret_mkInt<|by rw[Nat.add_zero,sz];exact z)
 refine Calls.call_function_entry kind_len plain_len entry_len (args_len1 _) ?_;unfold Builtin.«len»;exact zxE<|zxF<|zxE<|wpAny_callSpecial?_slot ty PySem.F.slot_dict_len<|call_meetsIn PySem.F.slot_dict_len ty PySem.F.entry_dict_len (PySem.F.args_dict_len_1 _) body ⟨rfl,show wpAny _ _ _ _ _ {s with toks:=s.toks+1}from zxE<|zxL<|zxF<|zxE<|wpAny_letGo<|by
  rw[if_neg<|by omega];rw[if_neg<|by rw[sizeLine_eq]at hz;omega];exact zxE<|wpAny_mkInt<|zxF ⟨_,rfl,q _ _<|(I.tok _).tok _⟩⟩
def vk(hk:KdOk X kd):ZU X kd (.builtin "len") Z3:=by
 intro pins s σ H xs us Q I r h;obtain⟨O,ds,z,ht,vl,he,q⟩:=h;obtain⟨x,d,rfl,vx,he⟩:=XD vl he;cases vx with
 |lst hr rl=>cases he;exact X1 pins s σ H _ us Q I r ⟨_,_,rfl,.inl hr.sq,by rw[rl.length];exact zS q<|.int _⟩
 |tup rp hr rl=>cases he;exact X1 pins s σ H _ us Q I r ⟨_,_,rfl,.inr hr,by rw[rl.length];exact zS q<|.int _⟩
 |str y=>
  obtain⟨c,rfl⟩:=zu he;exact RT pins s σ H _ us Q I r ⟨_,rfl,c,zS q<|.int _⟩
 |dct hr rm=>
  cases he;obtain⟨u,rfl,ru⟩:=vals1 r;cases ru;obtain⟨z,hd,vs,rel,dd⟩:=Q2 I hk hr;refine call_len_dict hd dd (by rw[<-rel.length];rw[sizeLine_eq]at z;omega) ?_;rw[<-rel.length,rm.length];exact⟨.int _,H,I.tok _,⟨_,rfl⟩,zS q<|.int _⟩
 |dt hH l rl=>
  cases he;obtain⟨u,rfl,ru⟩:=vals1 r;cases ru;refine OO I hH λt s' I'=>⟨.int _,H,I',⟨_,rfl⟩, ?_⟩;rw[List.length_zip,l,Nat.min_self,rl.length];exact zS q (.int _)
 |_=>cases he
def RH:ZU X kd (.type "list") lstP:=by
 intro pins s σ H xs us Q I r h;obtain⟨O,ds,z,ht,vl,he,q⟩:=h;obtain⟨x,d,rfl,vx,he⟩:=XD vl he;cases vx with
 |lst hr rl=>cases he;exact Wl pins s σ H _ us Q I r ⟨_,_,rfl,.inl hr.sq,YA q rl⟩
 |tup rp hr rl=>cases he;exact Wl pins s σ H _ us Q I r ⟨_,_,rfl,.inr hr,YA q rl⟩
 |_=>cases he
def Nz(hk:KdOk X kd):ZU X kd (.type "dict") dctP:=by
 intro pins s σ H xs us Q I r h;obtain⟨O,ds,z,ht,vl,he,q⟩:=h;unfold dctP at he
 split at he
 . cases he;obtain⟨x,rfl,vx⟩:=Nc vl;cases vx with
   |dct hr rm=>
    obtain⟨u,rfl,ru⟩:=vals1 r;cases ru;obtain⟨z,hd,vs,rel,dd⟩:=Q2 I hk hr;refine kt_call_dict hd dd (by rw[<-rel.length];exact z) λh' dd' hs=>?_;refine⟨.ref _,_,(I.laid (t':=s.toks) (λb q hq=>?_) (zzN _)<|Km z (beq_eq_false_iff_ne.mpr<|Ne.symm<|zzQ I.big) rel dd'),rfl,Ft q rm _<|I.hok.fresh<|zzN _⟩;exact(hs.2 b<|zzQ<|zxH hq).trans<|zxG _ hq
 . cases he
def N_(hc:X.calm=true):ZU X kd (.builtin "max") Ju:=by
 intro pins s σ H xs us Q I r h;obtain⟨O,ds,z,ht,vl,he,q⟩:=h;cases vl with
 |nil=>cases he
 |cons vx vl=>
  cases vl with
  |nil=>
   obtain⟨ds,h0,he⟩:=bS_<|he;cases VB h0;obtain⟨ns,h1,he⟩:=bS_ he;obtain⟨c,rfl⟩:=zu he;cases vx with
   |lst hr rl=>
    obtain⟨u,rfl,ru⟩:=vals1 r;cases ru;obtain⟨its,rv,p,_⟩:=I.list hr.sq;rw[MP rl h1]at rv;have hi:=intsAre_of rv;obtain⟨ys,e⟩:=hi.allInts.items;have hns:ns=ys.toList.map (·.1):=by rw[<-hi.numsOf,<-nums_intItems,<-e]
    have hsz:0<ys.size:=by
     have h3:=c;rw[hns,zzB,zyS]at h3;exact h3
    have hl:=p.isList;rw[e]at hl;refine max_intList (I.ok.hd hc) hl hsz λv h' tk hv kp=>?_;obtain⟨t,rfl⟩:=intItems_at hv;obtain⟨k1,k2⟩:=argBest_gt (numAt ys)<|ys.size-1;refine⟨.int<|Oy ns,H,I.kept kp,⟨t, ?_⟩,zS q<|.int _⟩
    congr 1
    refine(Sy ?_ λa ha=>?_).symm
    . rw[hns,numAt_eq];have hlt:argBest (λi j=>decide (numAt ys i > numAt ys j)) (ys.size-1)<(ys.toList.map (·.1)).length:=by rw[zzB,zyS];omega
      rw[zyE,zzE hlt];exact zyY hlt
    . rw[hns]at ha;obtain⟨j,hj,rfl⟩:=List.getElem_of_mem ha;have hj':=hj;rw[zzB,zyS]at hj;have:=k2 j (by omega);rw[numAt_eq ys j,zyE,zzE hj']at this;exact this
  |cons vy vl=>
   cases vl with
   |nil=>
    obtain⟨i,j,rfl,rfl,he⟩:=v_ vx vy he;cases he;exact Md hc pins s σ H _ us Q I r ⟨_,_,rfl,zS q<|.int _⟩
   |cons _ _=>cases he
end
def x4(env:Env):List (Str×NameKind)->List (Str×Addr)->List (Str×Addr)
 | [],cs=>cs
 |(n,k)::r,cs=>x4 env r (if k == .free then((n,(env.cells.lookup n).getD 0)::cs)else cs)
def Xi(h:∀x ∈ scope.names,x.2 = .free->∃c,env.cells.lookup x.1=some c):closureFor scope env=pure (x4 env scope.names []):=by
 have s:∀b i f,
  (∀d g i,f (d,g) i=if g == .free then(do let a <-cellOf env d;pure (.yield ((d,a)::i)))else pure<|.yield i)->
  (∀x ∈ b,x.2 = .free->∃c,env.cells.lookup x.1=some c)->(forIn b i f:Sem _)=pure (x4 env b i):=by
  intro b
  induction b with
  |nil=>intro i f _ _;rfl
  |cons x r p=>
   intro i f l m;obtain⟨n,k⟩:=x;rw[List.forIn_cons,l];unfold x4
   by_cases j:(k == .free)=true
   . obtain⟨c,q⟩:=m (n,k) zzF (by simpa using j);rw[if_pos j,if_pos j];have e:cellOf env n=pure c:=by unfold cellOf;rw[q]
     rw[e,q];exact p _ f l λy o=>m y<|zzD _ o
   . rw[if_neg j,if_neg j];exact p _ f l λy o=>m y<|zzD _ o
 simp only[closureFor];rw[s scope.names [] _ (λd g i=>?_) h]
 . rfl
 . rfl
theorem Ra:∀(names:List (Str×NameKind)) (cs:List (Str×Addr)) (p:Str×Addr),p ∈ x4 env names cs->p ∈ cs\/((p.1,NameKind.free) ∈ names/\p.2=(env.cells.lookup p.1).getD 0)
 | [],_,_,h=>.inl h
 |(n,k)::r,b,p,h=>by
  unfold x4 at h
  rcases Ra r _ p h with h|h
  . by_cases a:(k == .free)=true
    . rw[if_pos a]at h
      rcases zzC.mp h with e|h
      . subst e;have:k = .free:=by simpa using a
        subst this;exact .inr ⟨zzF,rfl⟩
      . exact .inl h
    . rw[if_neg a]at h;exact .inl h
  . exact .inr ⟨zzD _ h.1,h.2⟩
theorem QV:∀(names:List (Str×NameKind)) (cs:List (Str×Addr)) (p:Str×Addr),p ∈ cs->p ∈ x4 env names cs
 | [],_,_,h=>h
 |(n,k)::r,a,p,h=>by
  unfold x4;refine QV r _ p ?_
  split
  . exact zzD _ h
  . exact h
theorem RN:∀(names:List (Str×NameKind)) (cs:List (Str×Addr)) (x:Str),(x,NameKind.free) ∈ names->(x,(env.cells.lookup x).getD 0) ∈ x4 env names cs
 |(n,k)::r,a,x,h=>by
  unfold x4
  rcases zzC.mp h with e|h
  . cases e;exact QV r _ _ (by simp)
  . exact RN r _ x h
theorem Zc:∀{l:List (Str×α)},(∀p ∈ l,p.1=x->p.2=a)->(∃b,(x,b) ∈ l)->l.lookup x=some a
 | [],_,h=>by obtain⟨_,h⟩:=h;cases h
 |(k,v)::r,u,h=>by
  rw[List.lookup_cons];cases hb:x==k with
  |true=>
   have:=u (k,v) zzF (beq_iff_eq.mp hb).symm;exact congrArg some this
  |false=>
   refine Zc (λp c=>u p<|zzD _ c) ?_;obtain⟨b,h⟩:=h
   rcases zzC.mp h with e|h
   . cases e;simp at hb
   . exact⟨b,h⟩
theorem Vj:∀(names:List (Str×NameKind)) (h:Heap) (acc:List (Str×Addr)) (p:Str×Addr),p ∈ cellsFrom h.objs.size names acc->
 p ∈ acc\/((p.1,NameKind.cell) ∈ names/\(pushCells h names).IsCell p.2 none/\h.objs.size<=p.2)
 | [],_,_,_,m=>.inl m
 |(n,k)::r,h,b,p,m=>by
  unfold cellsFrom at m;unfold pushCells
  split at m
  . rename_i a;rw[if_pos a];have e:(h.push {cls:=.type "cell",data:=.cell none}).objs.size=h.objs.size+1:=zxP ..;rw[<-e]at m
    rcases Vj r _ _ p m with m|⟨c,d,f⟩
    . rcases zzC.mp m with g|m
      . subst g;have:k = .cell:=by simpa using a
        subst this;refine .inr ⟨zzF, ?_,zzN _⟩;have z:(h.push {cls:=.type "cell",data:=.cell none}).IsCell h.objs.size none:=⟨_,zxI _ rfl,rfl⟩;exact z.keeps<|pushCells_keeps r _
      . exact .inl m
    . exact .inr ⟨zzD _ c,d,by rw[e]at f;omega⟩
  . rename_i a;rw[if_neg a]
    rcases Vj r h b p m with m|⟨c,d,f⟩
    . exact .inl m
    . exact .inr ⟨zzD _ c,d,f⟩
theorem Zq:∀(names:List (Str×NameKind)) (n:Nat) (acc:List (Str×Addr)) (p:Str×Addr),p ∈ acc->p ∈ cellsFrom n names acc
 | [],_,_,_,m=>m
 |(_,k)::r,n,a,p,m=>by
  unfold cellsFrom
  split
  . exact Zq r _ _ p<|zzD _ m
  . exact Zq r _ _ p m
theorem Va:∀(names:List (Str×NameKind)) (n:Nat) (acc:List (Str×Addr)) (x:Str),(x,NameKind.cell) ∈ names->∃c,(x,c) ∈ cellsFrom n names acc
 |(y,k)::r,n,a,x,m=>by
  unfold cellsFrom
  rcases zzC.mp m with e|m
  . cases e;rw[if_pos<|by decide];exact⟨n,Zq r _ _ _ zzF⟩
  . split
    . exact Va r _ _ x m
    . exact Va r _ _ x m
theorem Vo:∀(names:List (Str×NameKind)) (n:Nat) (acc:List (Str×Addr)),(∀p ∈ acc,p.2<n)->(∀p ∈ acc,∀q ∈ acc,p.2=q.2->p.1=q.1)->∀p ∈ cellsFrom n names acc,∀q ∈ cellsFrom n names acc,p.2=q.2->p.1=q.1
 | [],_,_,_,h=>h
 |(y,k)::r,n,c,b,h=>by
  unfold cellsFrom
  split
  . refine Vo r (n+1) _ (λp m=>?_) λp m q a e=>?_
    . rcases zzC.mp m with z|m
      . subst z;exact Nat.lt_succ_self _
      . exact zyZ<|b p m
    . rcases zzC.mp m with z|m
      . rcases zzC.mp a with d|a
        . rw[z,d]
        . subst z;have:=b q a;rw[<-e]at this;exact absurd this<|Nat.lt_irrefl _
      . rcases zzC.mp a with d|a
        . subst d;have:=b p m;rw[e]at this;exact absurd this<|Nat.lt_irrefl _
        . exact h p m q a e
  . exact Vo r n c b h
section
variable{M:Model}{A:Around}{E:Value->Shared->Prop}{s:Shared}
def Z8(scope:Scope)(env:Env)(cl:List (Str×Addr))(L:Addr):Env:=
 {scope:=relabel scope env,locals:=L,globals:=env.globals,cells:=cellsFrom (L+1) scope.names cl,qual:=env.qual,func:=none,code:=env.code,frame:=env.frame,builtins:=env.builtins}
def Pv
 (h:∀h' env',{env' with scope:=relabel scope env}=Z8 scope env cl s.heap.objs.size->env'.locals=s.heap.objs.size->(∀b o,s.heap.get? b=some o->h'.get? b=some o)->h'.Ns s.heap.objs.size (λ_=>none)->
  (∀p ∈ cellsFrom (s.heap.objs.size+1) scope.names cl,p ∈ cl\/((p.1,NameKind.cell) ∈ scope.names/\h'.IsCell p.2 none/\s.heap.objs.size+1<=p.2))->Q env' {s with heap:=h'}):
 wpAny M A (newFunctionEnv scope env.globals cl [] env.qual none .none<|some env) Q E s:=by
 simp only[newFunctionEnv,Option.isSome_some,if_true];refine zxE<|wpAny_alloc ?_;refine zxE<|wpAny_layCells _ (λd a c=>by cases hkc:a==NameKind.cell<;>simp[hkc]) _ _ _ _ ?_;have e:(s.heap.push {cls:=.type "dict",data:=.dict #[]}).objs.size=s.heap.objs.size+1:=zxP ..;refine zxE<|zxF<|zxF<|h _ _ ?_ rfl (λb o q=>pushCells_keeps _ _ b o<|zxG _ q) ((Heap.Ns.new s.heap _).keeps<|pushCells_keeps _ _) λp m=>?_
 . unfold Z8;rw[<-e]
 . rw[<-e]at m
   rcases Vj _ _ _ p m with m|⟨g,i,f⟩
   . exact .inl m
   . exact .inr ⟨g,i,by rw[e]at f;exact f⟩
end
abbrev yA(X:Cx)(N:List Str)(scope:Scope)(cl:List (Str×Addr))(s:Shared)(H:Hp)(fp:List Addr):Cx:=
 {X with N:=N,s₀:=s,H₀:=H,env:=Z8 scope X.env cl<|s.heap.objs.size+1,outer:=X.stack,ex:=fp,fn:=λx=>scope.names.lookup x==some .cell,pn:=[],xe:=λ_ _=>False}
def JA(σ:St):Option Nat->Option V
 |none=>none
 |some j=>(σ[j]?).getD none
def wO(cap:List (Option Nat))(σ:St):St:=cap.map<|JA σ
def wN(N XN:List Str)(names:List (Str×NameKind))(envNames:List (Str×NameKind))(cap:List (Option Nat)):Bool:=
 N.length==cap.length&&(N.zip cap).all (λp=>match p.2 with|none=>true|some j=>XN[j]? == some p.1&&names.contains (p.1,NameKind.free)) &&
 names.all (λp=>p.2 != .free||envNames.lookup p.1==some .cell||envNames.lookup p.1==some .free)&&decide (names.map (·.1)).Nodup
def Ml(X:Cx)(ifs:List Expr)(t:TT):Prop:=
 ∀(pins:List (Addr×Obj)) (s:Shared) (σ:St) (H:Hp) (Q:Bool->Hp->Prop),Inv X pins σ H s->t σ H Q->
  wpAny (model X.prog X.w) X.A (forIn ifs true λc r=>if r=true then do let ok <-isTrue c X.env (eval c X.env);pure (ForInStep.yield ok)else pure<|ForInStep.yield r) (TP X pins σ Q) X.xe s
def Bs:Ml X [] (λ_ H Q=>Q true H):=λa s σ H Q I h=>wpAny_tests_nil ⟨H,I,h⟩
def SU(h:PT X c t):Ml X [c] t:=λa s σ H Q I q=>wpAny_tests_one<|h a s σ H Q I q
def MC(wi:TI)(cap:List (Option Nat))(g:TG)(tt:TT)(te:TE):TE:=λσ H Q=>wi σ H λJ H1=>∃W:Nat->Nat->List V->Hp->Prop,(∃m,W 0 m [] H1)/\∀i m ys H,W i m ys H->ys.length<=sizeLine/\
 ((J.stop i H/\∀p,H p=none->Q (.ref p) (upd H p<|.lst ys))\/(J.go i H/\∀x H',J.yld i H x H'->g x (wO cap σ) H' λσ2 H2=>(∀(j:Nat) v,(wO cap σ)[j]? = some (some v)->σ2[j]? = some (some v))/\
   tt σ2 H2 λb H3=>if b=true then ys.length<sizeLine/\te σ2 H3 λy H4=>∃m',m'<m/\W (i+1) m' (ys++[y]) H4 else ∃m',m'<m/\W (i+1) m' ys H3))
section
variable{prog:Program}{w:World}{A:Around}{E:Value->Shared->Prop}{R:Result->Shared->Prop}{s:Shared}
def Pc(I:Nat->Shared->Prop)
 (turn:∀n s (E:Value->Shared->Prop),I n s->wpAny (model prog w) A (pyNext it) (λr s₁=>match r with
  |none=>R (.ok .next) s₁
  |some v=>wpAny (model prog w) A (letOwnedTupleGo target it v) (λ_ s₁=>wpAny (model prog w) A (assign target env v) (λ_ s₂=>
   wpAny (model prog w) A (forIn ifs true λc r=>if r=true then do let ok <-isTrue c env (eval c env);pure (ForInStep.yield ok)else pure<|ForInStep.yield r) (λok s₃=>
            if ok=true then wpAny (model prog w) A (eval elt env) (λx s₄=>
             wpAny (model prog w) A (call (.builtin "list.append") [acc,x]) (λ_ s₅=>∃m,m<n/\I m s₅) E s₄) E s₃
            else ∃m,m<n/\I m s₃) E s₂) E s₁) E s₁) E s)
 (n:Nat) (h:I n s):
 codeAny (model prog w) A (.compLoop (.ListComp elt [⟨target,iter,ifs,0⟩] scope pos) 0 it acc env) R s:=by
 refine codeAny_loop rfl I (λn s e=>?_) n h;refine wpAny_noted ?_;rw[compTurn_list];refine zxE<|wpAny_standAt<|zxE<|zxR (turn n s _ e) (λr f b=>?_) λ_ _ a=>a;cases r with
 |none=>exact zxF b
 |some v=>
  refine zxE<|zxR b (λ_ f b=>?_) λ_ _ a=>a;refine zxE<|zxR b (λ_ k g=>zxE<|zxR g (λok l d=>?_) λ_ _ a=>a) λ_ _ a=>a;cases ok with
  |false=>exact zxF ⟨rfl,d⟩
  |true=>
   exact zxE<|zxE<|zxR d (λx o i=>zxE<|zxR i (λ_ p j=>zxF<|zxF ⟨rfl,j⟩) λ_ _ a=>a) λ_ _ a=>a
end
structure CapOk(N XN:List Str)(names:List (Str×NameKind))(envNames:List (Str×NameKind))(cap:List (Option Nat)):Prop where
 len:N.length=cap.length
 at_:∀(i:Nat) x (j:Nat),N[i]? = some x->cap[i]? = some (some j)->XN[j]? = some x/\(x,NameKind.free) ∈ names
 fr:∀p ∈ names,p.2 = .free->envNames.lookup p.1=some .cell\/envNames.lookup p.1=some .free
 nd:(names.map (·.1)).Nodup
def Gj(h:wN N XN names envNames cap=true):CapOk N XN names envNames cap:=by
 unfold wN at h;simp only[zyB,beq_iff_eq,List.all_eq_true,decide_eq_true_eq]at h;obtain⟨⟨⟨a,b⟩,c⟩,d⟩:=h;refine⟨a,λi x j f g=>?_,λp k e=>?_,d⟩
 . have m:(x,some j) ∈ N.zip cap:=zzZ (by rw[List.getElem?_zip_eq_some];exact⟨f,g⟩);have:=b _ m;simp only[zyB,beq_iff_eq]at this;exact⟨this.1,by simpa using this.2⟩
 . have:=c p k;rw[e]at this;simpa using this
def Ph{names:List (Str×NameKind)}(h:(names.map (·.1)).Nodup)(m:(x,k) ∈ names)(m':(x,k') ∈ names):k=k':=by
 induction names with
 |nil=>cases m
 |cons p r ih=>
  obtain⟨h1,h2⟩:=zzW.mp<|h
  rcases zzC.mp m with e|m
  . rcases zzC.mp m' with e'|m'
    . rw[<-e]at e';cases e';rfl
    . exact absurd (zxC.mpr ⟨_,m',by rw[<-e]⟩) h1
  . rcases zzC.mp m' with e'|m'
    . exact absurd (zxC.mpr ⟨_,m,by rw[<-e']⟩) h1
    . exact ih h2 m m'
def WU{names:List (Str×NameKind)}(h:(names.map (·.1)).Nodup)(m:(x,k) ∈ names):names.lookup x=some k:=
 Zc (λp a e=>by obtain⟨y,b⟩:=p;cases(e);exact Ph h a m) ⟨k,m⟩
def Z_(x):(relabel scope env).names.lookup x=(scope.names.lookup x).map λk=>if(k == .free&&env.scope.kind == .function&&env.kindOf x==some .cell)=true then NameKind.cell else k:=by
 unfold relabel;generalize scope.names=a
 induction a with
 |nil=>rfl
 |cons p r b=>
  obtain⟨n,k⟩:=p;rw[zyR,List.lookup_cons (k:=n)];cases hb:x==n with
  |true=>
   have e:=beq_iff_eq.mp hb;subst e;show List.lookup x ((if _=true then _ else _)::_)=_;show _=some (if _=true then NameKind.cell else k)
   split
   . rw[List.lookup_cons,hb]
   . rw[List.lookup_cons,hb]
  |false=>
   show List.lookup x ((if _=true then _ else _)::_)=_
   split
   . rw[List.lookup_cons,hb];exact b
   . rw[List.lookup_cons,hb];exact b
def Kq(I:Inv X pins σ H s)(C:CapOk N X.N scope.names X.env.scope.names cap)(hk:scope.kind = .function)
 (hf:∀b ∈ fp,Uv X pins H b) (ho:∀b ∈ fp,∃o,s.heap.get? b=some o)
 (old:∀b o,s.heap.get? b=some o->h'.get? b=some o) (ns:h'.Ns (s.heap.objs.size+1) (λ_=>none))
 (hc:∀p ∈ cellsFrom (s.heap.objs.size+1+1) scope.names (x4 X.env scope.names []),p ∈ x4 X.env scope.names []\/((p.1,NameKind.cell) ∈ scope.names/\h'.IsCell p.2 none/\s.heap.objs.size+1+1<=p.2)):
 Inv (yA X N scope (x4 X.env scope.names []) s H fp) [] (wO cap σ) H {s with heap:=h'}:=by
 have has:∀x,(x,NameKind.free) ∈ scope.names->∃c,X.env.cells.lookup x=some c:=λx m=>I.ok.has x<|C.fr _ m rfl;have clo:∀p ∈ x4 X.env scope.names [],X.env.cells.lookup p.1=some p.2/\(p.1,NameKind.free) ∈ scope.names:=λp m=>by
  rcases Ra _ _ p m with z|⟨z1,z2⟩
  . cases z
  . obtain⟨c,e⟩:=has _ z1;rw[e]at z2;exact⟨by rw[e];exact congrArg some z2.symm,z1⟩
 have look:∀x c,(cellsFrom _ scope.names _).lookup x=some c->_\/_:=λx c e=>by
  rcases hc _ (mem_of_lookup e)with m|m
  . exact .inl<|clo _ m
  . exact .inr m
 have lt:∀x c,X.env.cells.lookup x=some c->c<s.heap.objs.size:=λx c e=>by obtain⟨v,z⟩:=I.cell x c e;exact z.lt
 have lookF:∀x,(x,NameKind.free) ∈ scope.names->∃c,(cellsFrom _ scope.names _).lookup x=some c/\X.env.cells.lookup x=some c:=λx m=>by
  obtain⟨c,e⟩:=has x m;have m1:=Zq scope.names (s.heap.objs.size+1+1) _ _<|RN (env:=X.env) scope.names [] x m;refine⟨c,Zc (λp hp ep=>?_) ⟨_,m1⟩,e⟩
  rcases hc p hp with z|z
  . have:=(clo p z).1;rw[ep,e]at this;exact(zzY this).symm
  . rw[ep]at z;exact absurd (Ph C.nd z.1 m) (by decide)
 have kinds:∀x,((relabel scope X.env).names.lookup x=some .cell\/(relabel scope X.env).names.lookup x=some .free)->(x,NameKind.free) ∈ scope.names\/(x,NameKind.cell) ∈ scope.names:=λx h=>by
  rw[Z_]at h;cases e:scope.names.lookup x with
  |none=>rw[e]at h;rcases h with h|h<;>cases h
  |some k=>
   have m:=mem_of_lookup e;cases k with
   |free=>exact .inl m
   |cell=>exact .inr m
   |_=>rw[e]at h;rcases h with h|h<;>(simp at h)
 have lsz:=ns.lt;refine⟨⟨I.ok.mod,hk,I.ok.glob,I.ok.blt,zyV _, ?_, ?_, ?_,I.ok.hd,I.ok.frames,.inl rfl, ?_,I.bs,zzO I.ok.bsz I.sz, ?_, ?_,I.stack,I.stkFree⟩,rfl,I.bare,(Un.kept old),⟨_,ns, ?_⟩, ?_,I.hok.fresh<|zyV _, ?_,(λ_ z=>nomatch z),I.hok.kept old, ?_⟩
 . intro x y c e1 e2;refine Vo scope.names _ _ (λp m=>?_) (λp m q m' e=>?_) (x,c) (mem_of_lookup e1) (y,c) (mem_of_lookup e2) rfl
   . exact zyZ<|zyZ<|lt _ _ (clo p m).1
   . refine I.ok.inj _ _ _ (clo p m).1 ?_;rw[e];exact(clo q m').1
 . intro x h
   rcases kinds x h with m|m
   . obtain⟨c,e,_⟩:=lookF x m;exact⟨c,e⟩
   . obtain⟨c,e⟩:=Va scope.names _ _ x m;cases q:(cellsFrom _ scope.names _).lookup x with
     |some c'=>exact⟨c',q⟩
     |none=>
      exfalso;have:=List.lookup_eq_none_iff.mp q (x,c) e;simp at this
 . intro x c hx e;have hx:=hx;have m:=mem_of_lookup<|beq_iff_eq.mp hx
   rcases look x c e with z|z
   . exact absurd (Ph C.nd z.2 m) (by decide)
   . exact zzO (zzO (zyV _)<|zyV _) z.2.2
 . intro b hb;obtain⟨o,e⟩:=ho b hb;refine⟨zzQ<|zyZ<|zxH e,λx c ec=>?_⟩
   rcases look x c ec with z|z
   . exact(hf b hb).2.2.2.2.1 x c z.1
   . have:=zxH e;intro q;subst q;exact absurd (zzK this<|zzO (zzO (zyV _)<|zyV _) z.2.2)<|Nat.lt_irrefl _
 . intro b o e hb
   rcases(hf b hb).2.2.2.1 with z|z
   . exact I.ok.noex b o e z
   . exact absurd (zzK (zxH e)<|zzO I.ok.bsz z)<|Nat.lt_irrefl _
 . intro b hb hm
   rcases zzC.mp (I.stkSub b hm)with z|z
   . exact(hf b hb).2.1 z
   . exact(hf b hb).2.2.1 z
 . intro i x v e1 e2 e3;have e2:=e2;unfold wO at e2;rw[zzI]at e2;cases ec:cap[i]? with
   |none=>rw[ec]at e2;cases e2
   |some c=>
    cases c with
    |none=>rw[ec]at e2;cases e2
    |some j=>
     rw[ec]at e2;have e2:(σ[j]?).getD none=some v:=zzY e2;obtain⟨xn,m⟩:=C.at_ i x j e1 ec;have es:σ[j]? = some (some v):=by
      cases q:σ[j]? with
      |none=>rw[q]at e2;cases e2
      |some y=>rw[q]at e2;exact congrArg some e2
     have kf:=C.fr _ m rfl;obtain⟨mm,hn,hl⟩:=I.loc;obtain⟨u,r,l⟩:=hl j x v xn es (by rcases kf with k|k;exact .inr<|.inl k;exact .inr<|.inr k);refine⟨u,r,.inr ⟨?_, ?_⟩⟩
     . show(relabel scope X.env).names.lookup x=some .cell\/(relabel scope X.env).names.lookup x=some .free;rw[Z_,WU C.nd m];show some (if _ then _ else _)=_\/some (if _ then _ else _)=_
       split
       . exact .inl rfl
       . exact .inr rfl
     . obtain⟨c,ec,eo⟩:=lookF x m;refine⟨c,ec, ?_⟩
       rcases l with⟨k1,_⟩|⟨_,c2,e4,z⟩
       . have k1:X.env.scope.names.lookup x=some .local:=k1
         rcases kf with k|k<;>(rw[k1]at k;cases k)
       . rw[eo]at e4;cases e4;exact z.keeps old
 . intro x c e
   rcases look x c e with z|z
   . obtain⟨v,q⟩:=I.cell x c z.1;exact⟨v,q.keeps old⟩
   . exact⟨none,z.2.1⟩
 . intro x c e
   rcases look x c e with z|z
   . exact I.freeC x c z.1
   . exact I.hok.fresh<|zzO (zzO (zyV _)<|zyV _) z.2.2
 . show _=_;unfold wO;rw[zzB,C.len]
abbrev lobj(its:List Value):Obj:={cls:=.type "list",data:=.seq its.toArray its.length}
section
variable{X:Cx}{pins:List (Addr×Obj)}{σ:St}{H2:Hp}{s2:Shared}{elt tg iter:Expr}{ifs:List Expr}{scope:Scope}{pos:Pos}{N:List Str}{cap:List (Option Nat)}{g:TG}{tt:TT}{te:TE}{wi:TI}
set_option maxHeartbeats 1000000
def QX{Q:VK}{R:Value->Addr->Result->Shared->Prop}
 (hc:X.calm=true) (C:CapOk N X.N scope.names X.env.scope.names cap) (hk:scope.kind = .function)
 (hg:∀cl s H fp,PG (yA X N scope cl s H fp) tg g) (ht:∀cl s H fp,Ml (yA X N scope cl s H fp) ifs tt) (he:∀cl s H fp,PE (yA X N scope cl s H fp) elt te)
 (I2:Inv X pins σ H2 s2) (T:Turn X.prog X.w X.K tg J fp it tn) (st2:tn 0 s2.heap) (f2:∀b ∈ fp,Uv X pins H2 b)
 (W:Nat->Nat->List V->Hp->Prop) (m0:Nat) (w0:W 0 m0 [] H2)
 (turn:∀i m ys H,W i m ys H->ys.length<=sizeLine/\((J.stop i H/\∀p,H p=none->Q (.ref p) (upd H p<|.lst ys))\/(J.go i H/\∀x H',J.yld i H x H'->g x (wO cap σ) H' λσ2 H2=>(∀(j:Nat) v,(wO cap σ)[j]? = some (some v)->σ2[j]? = some (some v))/\
  tt σ2 H2 λb H3=>if b=true then ys.length<sizeLine/\te σ2 H3 λy H4=>∃m',m'<m/\W (i+1) m' (ys++[y]) H4 else ∃m',m'<m/\W (i+1) m' ys H3)))
 (fin:∀ys H3 s1 m,Inv X pins σ (upd H3 s2.heap.objs.size<|.lst ys) s1->s1.heap.Ns (s2.heap.objs.size+1) m->Uv X pins (upd H3 s2.heap.objs.size<|.lst ys) (s2.heap.objs.size+1)->
  Q (.ref s2.heap.objs.size) (upd H3 s2.heap.objs.size<|.lst ys)->R (.ref s2.heap.objs.size) (s2.heap.objs.size+1) (.ok .next) s1):
 wpAny (model X.prog X.w) X.A (newList []) (λacc s₃=>wpAny (model X.prog X.w) X.A (newFunctionEnv scope X.env.globals (x4 X.env scope.names []) [] X.env.qual none .none<|some X.env) (λcenv s₄=>
  codeAny (model X.prog X.w) X.A (.compStart (.ListComp elt [⟨tg,iter,ifs,0⟩] scope pos) 0 (.ref it) acc {cenv with scope:=relabel scope X.env}) (R acc cenv.locals) s₄) E s₃) E s2:=by
 refine zxJ<|Pv λh' env' eE eL old hns hcells=>?_;have e1:(s2.heap.push {cls:=.type "list",dict:=none,data:=.seq ([]:List Value).toArray}).objs.size=s2.heap.objs.size+1:=zxP ..;dsimp only at eE eL old hns hcells;rw[e1]at eE eL hns hcells;have hD0:(s2.heap.push {cls:=.type "list",dict:=none,data:=.seq ([]:List Value).toArray}).get? s2.heap.objs.size=some (lobj []):=zxI _ rfl;have hD:=old _ _ hD0;have old':∀b o,s2.heap.get? b=some o->h'.get? b=some o:=λb o q=>old b o<|zxG _ q;have fex:∀b ∈ fp,∃o,s2.heap.get? b=some o:=λb hb=>by obtain⟨o,e,_⟩:=T.obj _ _ st2 b hb;exact⟨o,e⟩
 have flt:∀b ∈ fp,b<s2.heap.objs.size:=λb hb=>by obtain⟨o,e⟩:=fex b hb;exact zxH e
 have I':=Kq I2 C hk f2 fex old' hns hcells;rw[eE,eL];generalize hX:yA X N scope (x4 X.env scope.names []) s2 H2 fp=X' at I';have xP:X'.prog=X.prog:=by rw[<-hX]
 have xw:X'.w=X.w:=by rw[<-hX]
 have xK:X'.K=X.K:=by rw[<-hX]
 have xA:X'.A=X.A:=by rw[<-hX]
 have xe:X'.env=Z8 scope X.env (x4 X.env scope.names []) (s2.heap.objs.size+1):=by rw[<-hX]
 have xL:X'.env.locals=s2.heap.objs.size+1:=by rw[xe];rfl
 have xfs:X'.fs=Lx X.stack:=by rw[<-hX]
 have xex:X'.ex=fp:=by rw[<-hX]
 have xs:X'.s₀=s2:=by rw[<-hX]
 have xH:X'.H₀=H2:=by rw[<-hX]
 have xpn:X'.pn=[]:=by rw[<-hX]
 have xc:X'.calm=true:=by rw[<-hX];exact hc
 have xE:X'.xe=λ_ _=>False:=by rw[<-hX]
 have hg':PG X' tg g:=by rw[<-hX];exact hg _ _ _ _
 have ht':Ml X' ifs tt:=by rw[<-hX];exact ht _ _ _ _
 have he':PE X' elt te:=by rw[<-hX];exact he _ _ _ _
 have H2D:=I2.hok.fresh<|zzN _;have Dfs:s2.heap.objs.size ∉ X'.fs:=by
  rw[xfs];intro hm
  rcases zzC.mp (I2.stkSub _ hm)with z|z
  . exact absurd I2.lt (by rw[<-z];exact Nat.lt_irrefl _)
  . exact I2.nofs (zzN _) z
 have DL:s2.heap.objs.size≠X'.env.locals:=by rw[xL];exact zzQ<|Nat.lt_succ_self _
 have pinD:∀{σ':St}{H':Hp}{s':Shared}{its:List Value}{ps:List (Addr×Obj)},Inv X' ps σ' H' s'->s'.heap.get? s2.heap.objs.size=some (lobj its)->H' s2.heap.objs.size=none->Inv X' [(s2.heap.objs.size,lobj its)] σ' H' s':=λI e n=>
  I.pins_of λp hp=>by
   cases zzR.mp hp;exact⟨e,n,DL,Dfs,λv z=>by cases z⟩
 have stat:∀{H':Hp}{its:List Value},(∀b ∈ fp,H' b=none)->∀b ∈ fp,Uv X' [(s2.heap.objs.size,lobj its)] H' b:=λhn b hb=>by
  refine⟨hn b hb, ?_, ?_,.inl (by rw[xex];exact hb),(I'.ok.exf b<|by rw[xex];exact hb).2,λp hp=>?_⟩
  . exact(I'.ok.exf b<|by rw[xex];exact hb).1
  . exact I'.ok.exfs b (by rw[xex];exact hb)
  . rw[xpn,List.nil_append]at hp;cases zzR.mp hp;exact Nat.ne_of_gt<|flt b hb
 have loop:∀n s',(∃i ys its H3,Inv X' [(s2.heap.objs.size,lobj its)] (wO cap σ) H3 s'/\tn i s'.heap/\(∀b ∈ fp,H3 b=none)/\zG ys its/\W i n ys H3)->
  codeAny (model X.prog X.w) X.A (.compLoop (.ListComp elt [⟨tg,iter,ifs,0⟩] scope pos) 0 (.ref it) (.ref s2.heap.objs.size)<|Z8 scope X.env (x4 X.env scope.names [])<|s2.heap.objs.size+1)
   (R (.ref s2.heap.objs.size)<|s2.heap.objs.size+1) s':=by
  intro n s' h0;refine Pc (λn s'=>∃i ys its H3,Inv X' [(s2.heap.objs.size,lobj its)] (wO cap σ) H3 s'/\tn i s'.heap/\(∀b ∈ fp,H3 b=none)/\zG ys its/\W i n ys H3) ?_ n h0;clear h0 n s'
  rintro n s3 E' ⟨i,ys,its,H3,I3,st3,fr3,rv3,w3⟩
  obtain⟨hz,hstep⟩:=turn i n ys H3 w3
  rcases hstep with⟨stop,qn⟩|⟨go,step⟩
  . have:=T.done X' xP xw xK xc i _ s3 _ H3 E' I3 (stat fr3) st3 stop;rw[xA]at this;refine zxR this (λr s4 ⟨hr,I4⟩=>?_) λ_ _ z=>z;subst hr;obtain⟨gD,nD,_⟩:=I4.pin (s2.heap.objs.size,lobj its) (by rw[xpn];simp);obtain⟨m,hn,_⟩:=I4.loc;rw[xL]at hn;have b4:=I4.base;rw[xfs,xex,xH,xs]at b4;have nL:H3 (s2.heap.objs.size+1)=none:=by have:=I4.free;rw[xL]at this;exact this
    have neD:∀b o,s2.heap.get? b=some o->b≠s2.heap.objs.size:=λb o e=>zzQ<|zxH e;have neH:∀b u,H2 b=some u->b≠s2.heap.objs.size:=λb u e z=>by rw[z,H2D]at e;cases e
    have ne3:∀b u,H3 b=some u->b≠s2.heap.objs.size:=λb u e z=>by rw[z,nD]at e;cases e
    have hok4:=I4.hok;rw[xP,xw]at hok4;refine fin ys H3 s4 m (I2.call' ?_ ⟨b4.keep,b4.slot,λb o e n hx=>?_,b4.there,λb xs e=>?_,λb o u e=>?_,λb ps e=>?_⟩ ?_ I4.bare λb hb=>?_) hn (I2.fpOk (zyV _)<|by rw[zy<|Nat.ne_of_gt<|Nat.lt_succ_self _];exact nL)<|qn _ nD
    . have:=I4.os;rw[xs]at this;exact this
    . rw[zy<|neD b o e];exact b4.free b o e n hx
    . rw[zy<|neH b _ e];exact b4.tups b xs e
    . rw[zy<|neH b _ e];exact b4.frzs b o u e
    . rw[zy<|neH b _ e];exact b4.tbls b ps e
    . intro b u e
      by_cases hb:b=s2.heap.objs.size
      . subst hb;rw[zO]at e;cases e;exact⟨hz,its,its.length,rv3,gD⟩
      . rw[zy hb]at e;exact(hok4 b u e).stay (λc v _ q=>q) (λc q=>by rw[zy<|ne3 c _ q];exact q) λc xs q=>by rw[zy<|ne3 c _ q];exact q
    . obtain⟨f0,f1,f3,f4,f5,f6⟩:=f2 b hb;exact⟨f4,f1,f5,f6⟩
  . have:=T.item X' xP xw xK xc i _ s3 _ H3 E' I3 (stat fr3) st3 go;rw[xA]at this;refine zxR this (λr s4 ⟨u,hr,h4⟩=>?_) λ_ _ z=>z;subst hr;refine zxR h4 (λ_ s5 ⟨x,H5,I5,r5,y5,st5,fr5⟩=>?_) λ_ _ z=>z;have I5':=I5.pinned (stat fr5)<|T.obj _ _ st5;have h6:=hg' _ s5 _ H5 x u _ I5' r5<|step x H5 y5;rw[xP,xw,xA,xe,xE]at h6;refine zxR h6 (λ_ s6 ⟨σ6,H6,I6,cap6,q6⟩=>?_) λ_ _ z=>z.elim;have h7:=ht' _ s6 σ6 H6 _ I6 q6;rw[xP,xw,xA,xe,xE]at h7;refine zxR h7 (λb s7 ⟨H7,I7,q7⟩=>?_) λ_ _ z=>z.elim;have keep:∀{H8:Hp}{s8:Shared},Inv X' _ σ6 H8 s8->Inv X' [(s2.heap.objs.size,lobj its)] (wO cap σ) H8 s8/\tn (i+1) s8.heap/\∀b ∈ fp,H8 b=none:=λ{H8 s8} I8=>by
     refine⟨I8.unpinned.weak ?_ cap6,T.keep _ _ _ st5 λb hb o e=>(I8.pin (b,o)<|zzL _<|zzL _<|ZK hb e).1,λb hb=>?_⟩
     . rw[I3.len];exact I8.len.symm
     . obtain⟨o,e,d⟩:=T.obj _ _ st5 b hb;exact(I8.pin (b,o)<|zzL _<|zzL _<|ZK hb e).2.1
    cases b with
    |false=>
     obtain⟨m',hm,w7⟩:=q7;obtain⟨k1,k2,k3⟩:=keep I7;exact⟨m',hm,i+1,ys,its,H7,k1,k2,k3,rv3,w7⟩
    |true=>
     obtain⟨hz2,q7⟩:=q7;have h8:=he' _ s7 σ6 H7 _ I7 q7;rw[xP,xw,xA,xe,xE]at h8;refine zxR h8 (λyv s8 ⟨y,H8,I8,ry,m',hm,w8⟩=>?_) λ_ _ z=>z.elim;obtain⟨k1,k2,k3⟩:=keep I8;obtain⟨gD,nD,_⟩:=k1.pin (s2.heap.objs.size,lobj its) (by rw[xpn];simp);have hl:=rv3.length;refine append_at gD (λh9 sb gD9=>?_) (by rw[zzH];omega);have I9:=(k1.pins_of (pins':=[]) (λ_ z=>nomatch z)).turned (t':=s8.toks) (λb o hb e=>(sb.2 b hb).trans e) nD DL (.inr<|by rw[xs];exact zzN _) (λx c ec z=>by
      obtain⟨v,o,ho,hd⟩:=k1.cell x c ec;rw[z,gD]at ho;cases ho;cases hd) (λp hp=>by rw[xpn]at hp;cases hp)
     have gD9':h9.get? s2.heap.objs.size=some (lobj<|its++[yv]):=by
      rw[gD9]
      congr 1
      show({cls:=.type "list",data:=.seq _ _}:Obj)={cls:=.type "list",data:=.seq (its++[yv]).toArray (its++[yv]).length};rw[zzJ,List.length_singleton,List.push_toArray]
     refine⟨m',hm,i+1,ys++[y],its++[yv],H8,pinD I9 gD9' nD,T.keep _ _ _ k2 λb hb o e=>(sb.2 b<|zzQ<|flt b hb).trans e,k3,rv3.append<|.cons ry .nil,w8⟩
 have start:∃i ys its H3,Inv X' [(s2.heap.objs.size,lobj its)] (wO cap σ) H3 {s2 with heap:=h'}/\tn i h'/\(∀b ∈ fp,H3 b=none)/\zG ys its/\W i m0 ys H3:=
  ⟨0,[],[],H2,pinD I' hD H2D,T.keep _ _ _ st2 λb hb o e=>old' b o e,λb hb=>(f2 b hb).1,.nil,w0⟩
 exact codeAny_compStart_list (loop m0 _ start)<|T.self _ 0 _ _ _ (T.keep _ _ _ st2 λb hb o e=>old' b o e)<|loop m0 _ start
def Si(hc:X.calm=true)(hi:PI X tg iter wi)(hk:scope.kind = .function)(hcap:wN N X.N scope.names X.env.scope.names cap=true)
 (hg:∀cl s H fp,PG (yA X N scope cl s H fp) tg g) (ht:∀cl s H fp,Ml (yA X N scope cl s H fp) ifs tt) (he:∀cl s H fp,PE (yA X N scope cl s H fp) elt te)
 (hs:∀x,foldedSetIterable iter X.env x=pure x):PE X (.ListComp elt [⟨tg,iter,ifs,0⟩] scope pos) (MC wi cap g tt te):=by
 intro a s σ H Q I h;have C:=Gj hcap;rw[eval_ListComp];refine wpAny_comprehension_free rfl hs (Xi λx m e=>I.ok.has x.1<|C.fr x m e) hk (λy m e=>WU C.nd<|by rw[<-e];exact m) ?_;refine thn (hi a s σ H _ I h) λv O i=>thn i λj k l=>?_;obtain⟨P,S,U,J,V,e,n,T,d,f2,W,⟨p,t⟩,c⟩:=l;subst e;refine QX hc C hk hg ht he n T d f2 W p t c λY Z z m B D fl q=>?_;refine⟨m,D,λh' E=>?_⟩;obtain⟨F,f1,f3,G,K,L⟩:=fl;exact⟨.ref k.heap.objs.size,_,B.turned (t':=z.toks) (λb o M e=>(E.2 b M).trans e) F f1 G K L,rfl,q⟩
def S6(hN:X.N.Nodup)(hiy:X.N[i]? = some y)(hy:Loc X.env.scope y)(hf:X.fn y=true\/X.env.scope.names.lookup y=some .local)
 (hsw:swapsWith (.ListComp elt [⟨tg,iter,ifs,0⟩] scope pos) (some<|.Name y py) spos.line X.env=pure true)
 (hc:X.calm=true) (hi:PI X tg iter wi) (hk:scope.kind = .function) (hcap:wN N X.N scope.names X.env.scope.names cap=true)
 (hg:∀cl s H fp,PG (yA X N scope cl s H fp) tg g) (ht:∀cl s H fp,Ml (yA X N scope cl s H fp) ifs tt) (he:∀cl s H fp,PE (yA X N scope cl s H fp) elt te)
 (hs:∀x,foldedSetIterable iter X.env x=pure x):PS X (.Assign [.Name y py] (.ListComp elt [⟨tg,iter,ifs,0⟩] scope pos) spos) (CB (MC wi cap g tt te)<|LP i):=by
 intro c s σ H D I h;have C:=Gj hcap;rw[exec_Assign_Name_used _ _ _ _ hsw];refine zxE<|wpAny_standAt<|zxE ?_;refine zxE<|zxR (wpAny_comprehension_free rfl hs (Xi λx m e=>I.ok.has x.1<|C.fr x m e) hk (λy m e=>WU C.nd<|by rw[<-e];exact m) ?_) (λ_ d t=>zxF<|zxF t) λ_ _ e=>e;refine thn (hi c s σ H _ I h) λv s1 u=>thn u λB E F=>?_;obtain⟨it,fp,tn,J,H2,e,G,T,k,f2,W,⟨K,L⟩,f⟩:=F;subst e;refine QX (Q:=λx M=>LP i x σ M D.nx) hc C hk hg ht he G T k f2 W K L f λys H3 s3 m O P fl q=>?_;obtain⟨S,f1,f3,U,p,V⟩:=fl;refine wpAny_assign_Name<|Rr O hN hiy hy (v:=.ref E.heap.objs.size) rfl (λY Z ⟨a,sb,j⟩=>?_) hf;refine⟨m,P.sameBut sb λz=>?_,λh' n=>?_⟩
 . rcases j with j|j
   . exact f1<|z.trans j
   . exact p y a j z.symm
 . exact⟨_,_,Z.turned (t':=Y.toks) (λb o hb e=>(n.2 b hb).trans e) S f1 U p V,q⟩
end
structure ItC(K:zzA)(kd:KD)(F:Addr->Prop)(H:Hp)(J:It)(ds:List ZV):Prop where
 all:∀(H2:Hp) (T:Addr->Prop),(∀b u,H b=some u->H2 b=some u)->(∀a,T a->H a=none/\H2 a≠none)->∀i,(i<ds.length->J.go i H2)/\(ds.length<=i->J.stop i H2)/\
  ∀v H3,J.yld i H2 v H3->(∀b o,H2 b=some o->H3 b=some o)/\∀x,ds[i]? = some x->Rp K kd (λa=>x.1=true/\(F a\/T a)) H3 v x.2
def ud(K:zzA)(kd:KD)(f:IF):TI:=λσ H R=>∃F B ad as ds as',Rel K kd F B [] ad as σ H/\f as=some (ds,as')/\
 ∀J ad' H',Rel K kd F B [] ad' as' σ H'->Grow (Gw [] ad) H (Gw [] ad') H'->ItC K kd (Lv F B (Gw [] ad') true) H' J ds->R J H'
@[irreducible] def HZ(X:Cx)(kd:KD)(tg iter:Expr)(f:IF):Prop:=PI X tg iter<|ud X.K kd f
def Vc(os:List O):List ZV:=os.map λo=>match o with | .lf st d=>(st,d)|o=>(false,o.toD)
def Dw(as:AS):RV->Option (List ZV)
 | .ow o=>Gs (o.str,o.toD)
 | .bo i=>match as[i]? with
  |some (some (.nd .ls os))=>some (Vc os)
  |some (some (.nd .tp os))=>some (Vc os)
  |_=>none
def xX(f:EF):IF:=λas=>(f as).bind λp=>(Dw p.2 p.1).bind λds=>some (ds,p.2)
section
variable{K:zzA}{kd:KD}{F B:Addr->Prop}{G:Addr->Prop}{T:List Addr}{ad:Ad}{as:AS}{σ:St}{H H':Hp}
inductive RpC(K:zzA)(kd:KD)(F:Addr->Prop)(H:Hp):List V->List ZV->Prop
 |nil:RpC K kd F H [] []
 |cons {v:V}{x:ZV}{vs:List V}{ds:List ZV}:Rp K kd (λa=>x.1=true/\F a) H v x.2->RpC K kd F H vs ds->RpC K kd F H (v::vs) (x::ds)
theorem RpC.length(h:RpC K kd F H vs ds):vs.length=ds.length:=by
 induction h with
 |nil=>rfl
 |cons _ _ ih=>exact congrArg (· + 1) ih
def RpC.get{vs}{ds}{i:Nat}{x}(h:RpC K kd F H vs ds)(e:ds[i]? = some x):∃v,vs[i]? = some v/\Rp K kd (λa=>x.1=true/\F a) H v x.2:=by
 induction h generalizing i with
 |nil=>simp at e
 |cons h r ih=>
  cases i with
  |zero=>simp at e;subst e;exact⟨_,rfl,h⟩
  |succ i=>
   obtain⟨v,h1,h2⟩:=ih (by simpa using e);exact⟨v,by simpa using h1,h2⟩
def Rp.since{Ob}{v}{d}{T}(k:∀b u,H b=some u->H' b=some u)(hT:∀a,T a->H a=none)(h:Rp K kd Ob H v d):Rp K kd (Xs Ob T) H' v d:=
 Rp.grow (W':=T) (H':=H') ⟨λb u q _=>k b u q,λb z=>.inr<|hT b z⟩ (h.less λa z=>z.elim id False.elim)
def UD{st}{vs}{ds}(h:RpL K kd (Lv F B G st) H vs ds):RpC K kd (Lv F B G true) H vs (kids st ds):=
 RpL.ind (P:=λvs ds=>RpC K kd (Lv F B G true) H vs<|kids st ds) .nil (λ{v d vs ds} h _ ih=>by
  refine .cons (x:=(zB d||st,d)) ?_ ih;cases e:zB d with
  |true=>exact h.flat e
  |false=>
   refine h.less λa z=>?_;have zs:st=true:=z.1;rw[zs];exact z.2) h
def HE{vs}{os}{fp}(h:x9 K kd F B G H vs os fp):RpC K kd (Lv F B G true) H vs (Vc os):=
 RoL.ind (P:=λvs os _=>RpC K kd (Lv F B G true) H vs<|Vc os) .nil (λ{v o vs os fp fq} h _ ih=>by
  have ha:=PC h;refine .cons ?_ ih;cases h with
  |lf rp=>exact rp.less λa z=>(by have zs:=z.1;dsimp only at zs;rw[zs];exact z.2)
  |ls=>exact ha.less λa z=>nomatch z.1
  |dc=>exact ha.less λa z=>nomatch z.1
  |ob=>exact ha.less λa z=>nomatch z.1
  |dt=>exact ha.less λa z=>nomatch z.1
  |tp=>exact ha.less λa z=>nomatch z.1) h
def Q6{a}{vs}{ds}(h:Qn K H a vs)(r:RpC K kd F H vs ds):ItC K kd F H (J1 K a) ds:=⟨λH3 T k hT i=>by
 have hr3:Qn K H3 a vs:=by
  rcases h with(h|⟨o,h⟩)|h
  . exact .inl<|.inl<|k _ _ h
  . exact .inl<|.inr ⟨o,k _ _ h⟩
  . exact .inr h
 refine⟨λhi=>?_,λhi=>⟨_,hr3,by rw[r.length];exact hi⟩,λv H4 hy=>?_⟩
 . obtain⟨u,hu,_⟩:=r.get<|zzE hi;exact⟨_,u,hr3,hu⟩
 . obtain⟨rfl,hv⟩:=hy;refine⟨λ_ _ z=>z,λd hd=>?_⟩;obtain⟨u,hu,ru⟩:=r.get hd;have:=hv _ hr3;rw[hu]at this;cases this;exact(ru.since k λa z=>(hT a z).1).less λa z=>z.2.elim (λy=>.inl ⟨z.1,y⟩) .inr⟩
def Lj{a}{vs}{ds}(h:VZ K H a vs)(r:RpC K kd F H vs ds):ItC K kd F H (J6 K a) ds:=⟨λH3 T k hT i=>by
 have hr3:VZ K H3 a vs:=by
  rcases h with(h|⟨o,h⟩)|h
  . exact .inl<|.inl<|k _ _ h
  . exact .inl<|.inr ⟨o,k _ _ h⟩
  . exact .inr h
 refine⟨λhi=>?_,λhi=>⟨_,hr3,by rw[r.length];exact hi⟩,λv H4 hy=>?_⟩
 . obtain⟨u,hu,_⟩:=r.get<|zzE hi;exact⟨_,u,hr3,hu⟩
 . obtain⟨rfl,hv⟩:=hy;refine⟨λ_ _ z=>z,λd hd=>?_⟩;obtain⟨u,hu,ru⟩:=r.get hd;have:=hv _ hr3;rw[hu]at this;cases this;exact(ru.since k λa z=>(hT a z).1).less λa z=>z.2.elim (λy=>.inl ⟨z.1,y⟩) .inr⟩
def BK(lo)(n:Nat):ItC K kd F H (Ig lo n) (yJ lo n):=⟨λH2 T k hT i=>by
 have hl:(yJ lo n).length=n:=by unfold yJ;simp
 refine⟨λhi=>by rw[hl]at hi;exact hi,λhi=>by rw[hl]at hi;exact hi,λv H3 hy=>?_⟩;obtain⟨rfl,rfl⟩:=hy;refine⟨λ_ _ z=>z,λd hd=>?_⟩;have hi:i<n:=by rw[<-hl];exact(zzG.mp hd).1
 unfold yJ at hd;rw[zzI,List.getElem?_range hi]at hd;cases hd;exact .int _⟩
end
def Z9(he:AE X kd e fa):HZ X kd tg e (xX fa):=by
 with_unfolding_all (
 intro pins s σ H R I h;obtain⟨F,B,ad,as,ds,as',Rl,e,q⟩:=h;obtain⟨⟨p,as1⟩,h1,e⟩:=bS_<|e;obtain⟨ys,h2,e⟩:=bS_ e;cases e;cases p with
 |ow o=>
  have h2:Gs (o.str,o.toD)=some ds:=h2;generalize hd:o.toD=d at h2;cases d with
  |lst xs=>
   cases h2;refine PZ he pins s σ H R I ⟨F,B,ad,as,_,as1,Rl,h1,λv T1 ad1 H1 R1 rv1 g1=>?_⟩;have rp:=K5 R1 rv1;rw[hd]at rp;cases rp with
   |lst hn hr rl=>exact⟨_,rfl,⟨_,.inl hr⟩,q _ ad1 H1 R1.drop (g1.trans<|Grow.less Gw.drop)<|Q6 (.inl hr)<|UD rl⟩
   |lstK a b c rl=>exact⟨_,rfl,⟨_,.inr ⟨_,_,_,a,rfl,rfl,rfl,b,c⟩⟩,q _ ad1 H1 R1.drop (g1.trans<|Grow.less Gw.drop)<|Q6 (.inr ⟨_,_,_,a,rfl,rfl,rfl,b,c⟩)<|UD rl⟩
  |tup xs=>
   cases h2;refine Kx he pins s σ H R I ⟨F,B,ad,as,_,as1,Rl,h1,λv T1 ad1 H1 R1 rv1 g1=>?_⟩;have rp:=K5 R1 rv1;rw[hd]at rp;have go:∃a ys,v = .ref a/\VZ X.K H1 a ys/\RpL X.K kd (Lv F B (Gw [] ad1) o.str) H1 ys xs:=by
    cases rp with
    |tup n h r=>exact⟨_,_,rfl,.inl<|.inl h,r⟩
   obtain⟨a,ys,rfl,hs,rl⟩:=go;exact⟨_,rfl,⟨_,hs⟩,q _ ad1 H1 R1.drop (g1.trans<|Grow.less Gw.drop)<|Lj hs<|UD rl⟩
  |_=>cases h2
 |bo i=>
  have h2:(match as1[i]? with|some (some<|.nd .ls os)=>some (Vc os)|some (some<|.nd .tp os)=>some (Vc os)|_=>none)=some ds:=h2;cases k:as1[i]? with
  |none=>rw[k]at h2;cases h2
  |some s0=>
   rw[k]at h2
   match s0,h2,k with
   |some (.nd .ls os),h2,k=>
    cases h2;refine PZ he pins s σ H R I ⟨F,B,ad,as,_,as1,Rl,h1,λv T1 ad1 H1 R1 rv1 g1=>?_⟩;obtain⟨rfl,hs⟩:=rv1;obtain⟨w,hw,ro⟩:=R1.sl i _ k;rw[hs]at hw;cases hw;generalize hfp:ad1 i=fp at ro;cases ro with
    |ls hH rl=>exact⟨_,rfl,⟨_,.inl<|.inl hH⟩,q _ ad1 H1 R1 g1<|Q6 (.inl<|.inl hH)<|HE rl⟩
   |some (.nd .tp os),h2,k=>
    cases h2;refine Kx he pins s σ H R I ⟨F,B,ad,as,_,as1,Rl,h1,λv T1 ad1 H1 R1 rv1 g1=>?_⟩;obtain⟨rfl,hs⟩:=rv1;obtain⟨w,hw,ro⟩:=R1.sl i _ k;rw[hs]at hw;cases hw;generalize hfp:ad1 i=fp at ro;cases ro with
    |tp n hH rl=>exact⟨_,rfl,⟨_,.inl<|.inl hH⟩,q _ ad1 H1 R1 g1<|Lj (.inl<|.inl hH)<|HE rl⟩)
def YR(hg:Gl X "range")(hm:X.mg "range"=none)(ha:AA X kd [a] fr)(hs:starEach [a] X.env=[(false,eval a X.env)]):HZ X kd tg (.Call (.Name "range" p) [a] [] pos) (yk fr yn):=by
 with_unfolding_all (
 intro pins s σ H R I h;obtain⟨F,B,ad,as,ds,as',Rl,e,q⟩:=h;obtain⟨⟨ps,as1⟩,h1,e⟩:=bS_<|e;obtain⟨⟨xs,lv⟩,h2,e⟩:=bS_ e;obtain⟨ys,h3,e⟩:=bS_ e;cases e;obtain⟨j,rfl,h3⟩:=Nj h3
 . obtain⟨hj,e3⟩:=zu h3;cases e3;refine Re hg hm ha hs pins s σ H R I ⟨F,B,ad,as,ps,_,Rl,h1,λvs ad1 H1 R1 rv1 g1=>?_⟩;have vl:=Zy R1 rv1 h2;cases vl with
   |cons v1 v2=>
    cases v2;cases v1;exact⟨j,rfl,hj.1,hj.2,q _ ad1 H1 R1 g1<|BK 0 _⟩)
def Aw(as:AS):Option Nat->Option O
 |none=>none
 |some j=>match as[j]? with
  |some (some (.lf st d))=>some (.lf st d)
  |some (some o)=>some (.lf false o.toD)
  |_=>none
def Yt(cap:List (Option Nat))(as:AS):AS:=cap.map<|Aw as
def xg(g:GF)(tt:TF)(fe:EF)(as0:AS):List ZV->Option (List O)
 | []=>some []
 |x::r=>(g x as0).bind λas1=>(tt as1).bind λb=>if b.1=true then(fe b.2).bind λp=>(SR p.2 p.1).bind λq=>if q.1.str=true then(xg g tt fe as0 r).bind λos=>some (q.1::os)else none
  else xg g tt fe as0 r
def zN(fi:IF)(cap:List (Option Nat))(g:GF)(tt:TF)(fe:EF):EF:=λas=>(fi as).bind λp=>if p.1.length<=sizeLine then(xg g tt fe (Yt cap p.2) p.1).bind λos=>some (.ow<|.nd .ls os,p.2)else none
def yB:TF:=λas=>some (true,as)
section
variable{K:zzA}{kd:KD}{F B:Addr->Prop}{T:List Addr}{ad:Ad}{as:AS}{σ:St}{H H':Hp}{cap:List (Option Nat)}
def Sj(R:Rel K kd F B [] ad as σ H)(k:∀b u,H b=some u->H' b=some u)(hT:∀a ∈ T,H a=none)(hT':∀a ∈ T,H' a≠none):
 Rel K kd (Xs (Lv F B (Gw [] ad) true) (· ∈ T)) (λ_=>False) [] (λ_=>[]) (Yt cap as) (wO cap σ) H':=by
 have no:∀a,¬Gw [] (λ_=>[]) a:=λa z=>z.elim (λy=>nomatch y) λ⟨_,y⟩=>nomatch y;have kn:∀a,H a≠none->H' a≠none:=λa z=>by
  cases e:H a with
  |none=>exact absurd e z
  |some u=>rw[k a u e];simp
 have up:∀{st:Bool}{v:V}{d:D},Rp K kd (λa=>st=true/\Lv F B (Gw [] ad) true a) H v d->Rp K kd (Lv (Xs (Lv F B (Gw [] ad) true) (· ∈ T)) (λ_=>False) (Gw [] λ_=>[]) st) H' v d:=λ{st v d} h=>by
  have:=Rp.grow (W':=(· ∈ T)) (H':=H') ⟨λb u q _=>k b u q,λb z=>.inr<|hT b z⟩<|h.less λa z=>z.elim id False.elim;refine this.less λa z=>?_
  rcases z with(⟨z1,z2⟩|z)|z
  . rcases z2 with z2|z2
    . exact .inl ⟨z1,z2⟩
    . exact .inr z2
  . exact z.elim
  . exact(no a z).elim
 refine⟨by unfold Yt wO;rw[zzB,zzB],λ_ _=>rfl,λ_=>zyI,(λ_ _ _ z=>nomatch z),zyI,(λ_ _ _ z=>nomatch z),λa z=>z.elim (λy=>kn a<|R.trk true a y)<|hT' a,(λ_ z=>z.elim),λa z=>(no a z).elim,λi s e=>?_⟩;unfold Yt at e;rw[zzI]at e;obtain⟨c,hc,rfl⟩:=Option.map_eq_some_iff.mp e;have es:(wO cap σ)[i]? = some (JA σ c):=by
  unfold wO;rw[zzI,hc];rfl
 rw[es];cases c with
 |none=>rfl
 |some j=>
  show UE _ _ _ _ _ _ (match as[j]? with|some (some<|.lf st d)=>some _|some (some o)=>some _|_=>none) _ _;cases k2:as[j]? with
  |none=>rfl
  |some s0=>
   cases s0 with
   |none=>rfl
   |some o=>
    obtain⟨v,hv,ro⟩:=R.sl j _ k2;cases o with
    |lf st d=>
     have e0:ad j=[]:=by
            generalize hfp:ad j=fp at ro;cases ro;rfl
     rw[e0]at ro;refine⟨v,by show some ((σ[j]?).getD none)=_;rw[hv];rfl,.lf<|up ?_⟩;exact(Pj ro).less λa z=>by have zs:=z.1;rw[zs];exact z.2
    |nd kk os=>exact⟨v,by show some ((σ[j]?).getD none)=_;rw[hv];rfl,.lf<|up ((PC ro).less λa z=>nomatch z.1)⟩
def FJ{S}{fi}{g}{tt}{fe}{Q}(hS:∀i ∈ S,cap[i]? = some none)(h:al K kd (zN fi cap g tt fe) σ H Q):
 MC (ud K kd fi) cap (J0 K kd S g) (Nv K kd tt) (al K kd fe) σ H Q:=by
 obtain⟨F,B,ad,as,r,as',R,e,q⟩:=h;obtain⟨⟨ds,as1⟩,h1,e⟩:=bS_<|e
 by_cases hz:ds.length<=sizeLine
 . have e:(if ds.length<=sizeLine then(xg g tt fe (Yt cap as1) ds).bind λos=>some (RV.ow<|.nd .ls os,as1)else none)=some (r,as'):=e;rw[if_pos hz]at e;obtain⟨os,h2,e⟩:=bS_ e;cases e;refine⟨F,B,ad,as,ds,as',R,h1,λJ ad1 H1 R1 g1 it=>?_⟩;refine⟨λi m ys H3=>m+i=ds.length/\∃T os1 os2,os=os1++os2/\xg g tt fe (Yt cap as') (ds.drop i)=some os2/\os1.length<=i/\T.Nodup/\(∀a ∈ T,H1 a=none/\H3 a≠none)/\(∀b u,H1 b=some u->H3 b=some u)/\
    RoL (λ_ v d=>Rp K kd (Xs (Lv F B (Gw [] ad1) true) (· ∈ T)) H3 v d) (λa=>¬Xs (Lv F B (Gw [] ad1) true) (· ∈ T) a) H3 ys os1 T,⟨ds.length,rfl,[],[],os,rfl,h2,zzN _,zyI,(λ_ m=>nomatch m),(λ_ _ z=>z),.nil⟩, ?_⟩
   rintro i m ys H3 ⟨hm,T,os1,os2,eo,ec,hl,tnd,tf,k3,rl⟩
   obtain⟨i1,i2,i3⟩:=it.all H3 (· ∈ T) k3 tf i;have yl:=rl.length;refine⟨by omega, ?_⟩
   by_cases hi:i<ds.length
   . refine .inr ⟨i1 hi,λv H4 hy=>?_⟩;obtain⟨k4,rp⟩:=i3 v H4 hy;rw[zyP hi]at ec;obtain⟨as2,e2,ec⟩:=bS_<|ec;obtain⟨⟨b,as3⟩,e3,ec⟩:=bS_ ec;have k14:=λb u h=>k4 b u<|k3 b u h;have kn4:∀a,H3 a≠none->H4 a≠none:=λa z=>by
      cases e:H3 a with
      |none=>exact absurd e z
      |some u=>rw[k4 a u e];simp
     have R4:=Sj (cap:=cap) R1 k14 (λa z=>(tf a z).1) λa z=>kn4 a (tf a z).2;have no:∀a,¬Gw [] (λ_=>[]) a:=λa z=>z.elim (λy=>nomatch y) λ⟨_,y⟩=>nomatch y;refine⟨_,_,_,_,ds[i],as2,R4,(rp _<|zzE hi).less λa z=>?_,e2,λσ5 ad5 H5 R5 g5 keep5=>⟨λj w hw=>?_,_,_,ad5,as2,b,as3,R5,e3,λad6 H6 R6 g6=>?_⟩⟩
     . rcases z with(z|z)|z
       . exact z
       . exact z.elim
       . exact(no a z).elim
     . rw[keep5 j λz=>?_]
       . exact hw
       . have:=hS j z;unfold wO at hw;rw[zzI,this]at hw;cases hw
     . -- what stood is kept
       have g46:=g5.trans g6;have k46:=λb u h=>g46.keep b u h<|no b;have k36:=λb u h=>k46 b u<|k4 b u h;have kn6:∀a,H3 a≠none->H6 a≠none:=λa z=>by
        cases e:H3 a with
        |none=>exact absurd e z
        |some u=>rw[k36 a u e];simp
       have up:∀{H7:Hp}{T2:List Addr},(∀b u,H3 b=some u->H7 b=some u)->(∀a ∈ T2,H3 a=none)->RoL (λ_ v d=>Rp K kd (Xs (Lv F B (Gw [] ad1) true) (· ∈ T++T2)) H7 v d) (λa=>¬Xs (Lv F B (Gw [] ad1) true) (· ∈ T++T2) a) H7 ys os1 T:=λ{H7 T2} k7 f7=>
        RoL.mono (λst v d r=>(r.since k7 f7).less λa z=>z.elim (λy=>.inl<|.inl y) λy=>(zzM.mp y).elim (λx=>.inl<|.inr x) .inr)
         (λa vs n e=>⟨λz=>z.elim (λy=>n<|.inl y) λy=>(zzM.mp y).elim (λx=>n<|.inr x) λx=>(by have:=f7 a x;rw[this]at e;cases e),k7 _ _ e⟩) (λa _ u h=>k7 a u h) rl
       cases b with
       |false=>
        have:=up (T2:=[]) k36 (λ_ m=>nomatch m);rw[zyD]at this;exact⟨m-1,by omega,by omega,T,os1,os2,eo,ec,Nat.le_succ_of_le hl,tnd,λa z=>⟨(tf a z).1,kn6 a (tf a z).2⟩,λb u h=>k36 b u<|k3 b u h,this⟩
       |true=>
        rw[if_pos rfl]at ec;obtain⟨⟨p,as7⟩,e7,ec⟩:=bS_ ec;obtain⟨⟨o,as8⟩,e8,ec⟩:=bS_ ec
        by_cases hs:o.str=true
        . have ec:=ec;rw[if_pos hs]at ec;obtain⟨os3,e9,ec⟩:=bS_ ec;cases ec;refine⟨by omega,_,_,ad6,as3,p,as7,R6,e7,λy T2 ad7 H7 R7 rv7 g7=>?_⟩;obtain⟨ad8,R8,ro8,le8⟩:=Q9 R7 rv7 e8;have g47:=g46.trans g7;have k47:=λb u h=>g47.keep b u h<|no b;have k37:=λb u h=>k47 b u<|k4 b u h;have f42:=λa z=>(g47.own a<|.inl z).resolve_left<|no a;have f32:∀a ∈ T2,H3 a=none:=λa z=>by
             cases e:H3 a with
             |none=>rfl
             |some u=>have:=k4 a u e;rw[f42 a z]at this;cases this
          have rt:=Kg R8 R8.tnd (λa z=>.inl z) ro8 hs;have ro9:Ro (λ_ v d=>Rp K kd (Xs (Lv F B (Gw [] ad1) true) (· ∈ T++T2)) H7 v d) (λa=>¬Xs (Lv F B (Gw [] ad1) true) (· ∈ T++T2) a) H7 y o T2:=
             Ro.mono (λst v d r=>r.less λa z=>z.elim (λy=>.inl<|.inl y) λy=>(zzM.mp y).elim (λx=>.inl<|.inr x) .inr)
              (λa vs n e=>⟨λz=>n<|z.elim (λy=>.inl<|.inl y) λy=>(zzM.mp y).elim (λx=>.inl<|.inr x) .inr,e⟩) (λ_ _ _ h=>h) rt.ro
          refine⟨m-1,by omega,by omega,T++T2,os1++[o],os3,by rw[eo,zxB];rfl,e9,by rw[zzJ,List.length_singleton];omega,zxD.mpr ⟨tnd,rt.nd,λa z b z' e=>?_⟩,λa z=>?_,λb u h=>k37 b u<|k3 b u h,(up k37 f32).append<|RoL.one ro9⟩
          . subst e;exact(tf a z).2<|f32 a z'
          . rcases zzM.mp z with z|z
            . refine⟨(tf a z).1, ?_⟩;cases e:H3 a with
              |none=>exact absurd e (tf a z).2
              |some u=>rw[k37 a u e];simp
            . refine⟨?_,rt.tr a z⟩;cases e:H1 a with
              |none=>rfl
              |some u=>have:=k3 a u e;rw[f32 a z]at this;cases this
        . have ec:=ec;rw[if_neg hs]at ec;cases ec
   . refine .inl ⟨i2 (by omega),λp hp=>?_⟩;rw[List.drop_eq_nil_of_le<|by omega]at ec;cases ec;rw[zyD]at eo;subst eo;have pT:=λz=>(tf p z).2 hp;have H1p:H1 p=none:=by
      cases e:H1 p with
      |none=>rfl
      |some u=>have:=k3 p u e;rw[hp]at this;cases this
     have kp:∀b u,H3 b=some u->upd H3 p (.lst ys) b=some u:=λb u h=>by rw[zy<|zU h hp];exact h
     obtain⟨R9,g9⟩:=R1.news (T':=p::T) (H':=upd H3 p<|.lst ys) (zzW.mpr ⟨pT,tnd⟩) (λa z=>(zzC.mp z).elim (λe=>by rw[e];exact H1p) λz=>(tf a z).1) (λb u h=>kp b u<|k3 b u h) (λa z=>by
      rcases zzC.mp z with e|z
      . rw[e,zO];simp
      . cases e:H3 a with
        |none=>exact absurd e (tf a z).2
        |some u=>rw[kp a u e];simp)
     refine q _ (p::T) ad1 _ R9 (.ls zO ?_)<|g1.trans g9;have le:∀st a,Lv F B (Gw (p::T) ad1) st a->Xs (Xs (Lv F B (Gw [] ad1) true) (· ∈ T)) (· = p) a:=λst a z=>by
      rcases z with(z|z)|z|z
      . exact .inl<|.inl<|.inl<|.inl ⟨rfl,z.2⟩
      . exact .inl<|.inl<|.inl<|.inr z
      . exact(zzC.mp z).elim .inr λy=>.inl<|.inr y
      . exact .inl<|.inl<|.inr<|.inr z
     exact RoL.mono (λst v d r=>(r.since kp λa z=>by rw[z];exact hp).less<|le st) (λa vs n e=>⟨λz=>(le true a z).elim n λy=>(by rw[y,hp]at e;cases e),kp _ _ e⟩) (λa _ u h=>kp a u h) rl
 . have e:=e;rw[if_neg hz]at e;cases e
end
section
variable{X:Cx}{kd:KD}{elt tg iter e a b c:Expr}{es ifs:List Expr}{scope:Scope}{pos:Pos}{N:List Str}{cap:List (Option Nat)}{g:GF}{tt:TF}{fe fa fb:EF}{fi:IF}{S:List Nat}{fr:AF}{fd:DF}
def vK:Ml X [] (Nv X.K kd yB):=λa s σ H Q I h=>by
 obtain⟨F,B,c,as,b,d,R,e,q⟩:=h;cases e;exact Bs a s σ H Q I<|q c H R Grow.refl
def Qs(h:AT X kd c tt):Ml X [c] (Nv X.K kd tt):=by with_unfolding_all exact(SU h)
def vX(hc:X.calm=true)(hi:HZ X kd tg iter fi)(hk:scope.kind = .function)(hcap:wN N X.N scope.names X.env.scope.names cap=true)(hS:S.all (λi=>cap[i]? == some none)=true)
 (hg:∀cl s H fp,AG (yA X N scope cl s H fp) kd tg S g) (ht:∀cl s H fp,Ml (yA X N scope cl s H fp) ifs<|Nv X.K kd tt) (he:∀cl s H fp,AE (yA X N scope cl s H fp) kd elt fe)
 (hs:∀x,foldedSetIterable iter X.env x=pure x):AE X kd (.ListComp elt [⟨tg,iter,ifs,0⟩] scope pos) (zN fi cap g tt fe):=by with_unfolding_all exact(yr (Si (g:=J0 X.K kd S g) (te:=al X.K kd fe) hc hi hk hcap hg ht he hs) λσ H Q h=>FJ (λi m=>by simpa using List.all_eq_true.mp hS i m) h)
def Qu(hN:X.N.Nodup)(hiy:X.N[i]? = some y)(hy:Loc X.env.scope y)(hf:X.fn y=true\/X.env.scope.names.lookup y=some .local)
 (hsw:swapsWith (.ListComp elt [⟨tg,iter,ifs,0⟩] scope pos) (some<|.Name y py) spos.line X.env=pure true)
 (hc:X.calm=true) (hi:HZ X kd tg iter fi) (hk:scope.kind = .function) (hcap:wN N X.N scope.names X.env.scope.names cap=true) (hS:S.all (λi=>cap[i]? == some none)=true)
 (hg:∀cl s H fp,AG (yA X N scope cl s H fp) kd tg S g) (ht:∀cl s H fp,Ml (yA X N scope cl s H fp) ifs<|Nv X.K kd tt) (he:∀cl s H fp,AE (yA X N scope cl s H fp) kd elt fe)
 (hs:∀x,foldedSetIterable iter X.env x=pure x):QM X kd (.Assign [.Name y py] (.ListComp elt [⟨tg,iter,ifs,0⟩] scope pos) spos) (zm z i<|zN fi cap g tt fe):=by with_unfolding_all exact(yU (S6 (g:=J0 X.K kd S g) (te:=al X.K kd fe) hN hiy hy hf hsw hc hi hk hcap hg ht he hs) λD σ H h=>by
 obtain⟨F,B,c,as,o,R,e,q⟩:=h;obtain⟨⟨p,a⟩,d,e⟩:=bS_<|e;obtain⟨⟨y,f⟩,j,e⟩:=bS_ e;obtain⟨k,e⟩:=zu e;cases e;refine FJ (λi m=>by simpa using List.all_eq_true.mp hS i m) ⟨F,B,c,as,p,a,R,d,λv A n r t u g=>?_⟩;obtain⟨b,R2,w⟩:=P2 t u j k;exact q _ b r R2<|g.trans<|Grow.less w)
def B5(F:FnOk X.prog X.w X.K X.mg X.base Tf k f fdt ps (HY X.K kd gg))(hr:Room k X.A)(hg:Gl X x)(hm:X.mg x=some (.ref f))(hk:W.keepIn X.K (.ref f)=true)
 (hb:Binds X.K fdt ps []) (hx:QL Tf X (λ_ _ _=>False)) (ha:AA X kd (e::es) fr) (hdb:(x==("__debug__":Str))=false) (he:starEach (e::es) X.env=(false,eval e X.env)::starEach es X.env) (hpl:(backTo pos<|starEach es X.env).any (·.1)=false):
 AE X kd (.Call (.Name x p) (e::es) [] pos) (zp fr gg):=by with_unfolding_all exact(yr (Lr F hr hg hm hk hb .nil hx ha hdb he hpl) λσ H Q h=>O8 h)
def CA{id}(hc:ZU X kd (.builtin id) gg)(hg:Gl X x)(hm:X.mg x=none)(hv:bootBuiltins x=some (.builtin id))(ha:AA X kd (e::es) fr)(hn:x≠"__name__")(hdb:(x==("__debug__":Str))=false)
 (he:starEach (e::es) X.env=(false,eval e X.env)::starEach es X.env) (hpl:(backTo pos<|starEach es X.env).any (·.1)=false):AE X kd (.Call (.Name x p) (e::es) [] pos) (fP fr gg):=by with_unfolding_all exact(yr (GO hc hg hm hv ha hn hdb he hpl) λσ H Q h=>D4 (λ_ _ _ z=>z) h)
def CK(hc:ZU X kd (.type T) gg)(hg:Gl X x)(hm:X.mg x=none)(hv:bootBuiltins x=some (.type T))(ha:AA X kd (e::es) fr)(hn:x≠"__name__")(hdb:(x==("__debug__":Str))=false)
 (he:starEach (e::es) X.env=(false,eval e X.env)::starEach es X.env) (hpl:(backTo pos<|starEach es X.env).any (·.1)=false):AE X kd (.Call (.Name x p) (e::es) [] pos) (fP fr gg):=by with_unfolding_all exact(yr (NL hc hg hm hv ha hn hdb he hpl) λσ H Q h=>D4 (λ_ _ _ z=>z) h)
def UX(fa:EF)(c:String):EF:=λas=>(fa as).bind λp=>(p.1.frz.view p.2).bind λx=>if G6 x.1=true then some (.ow<|.lf true<|.bl<|Rf (Oz x.1) c,p.2)else none
def EA(hk:KdOk X kd):WM X (.builtin "isinstance") (λxs H Q=>∃x c O d,xs=[x,.ty c]/\Wg c=true/\Vw X.K kd O H x d/\G6 d=true/\Q (.bl<|Rf (Oz d) c) H):=by
 intro b s σ H l m Q I r h;obtain⟨x,c,O,d,rfl,e,f,g,q⟩:=h;cases r with
 |cons i a=>
  cases a with
  |cons a j=>
   cases j;cases(a);exact O9 hk I i f e g λk=>⟨.bl _,H,I.tok k,rfl,q⟩
def Vy{c}(hkd:KdOk X kd)(hc:Wg c=true)(hg:Gl X x)(hm:X.mg x=none)(hv:bootBuiltins x=some (.builtin "isinstance"))(hg2:Gl X y)(hm2:X.mg y=none)(hv2:bootBuiltins y=some (.type c))(ha:AE X kd a fa)
 (hn:x≠"__name__") (hdb:(x==("__debug__":Str))=false) (hn2:y≠"__name__") (hdb2:(y==("__debug__":Str))=false)
 (he:starEach [a,.Name y p2] X.env=(false,eval a X.env)::starEach [.Name y p2] X.env) (he2:starEach [.Name y p2] X.env=(false,eval (.Name y p2) X.env)::starEach [] X.env) (hpl:(backTo pos<|starEach [.Name y p2] X.env).any (·.1)=false):
 AE X kd (.Call (.Name x p) [a,.Name y p2] [] pos) (UX fa c):=by with_unfolding_all exact(yr (GO (EA hkd) hg hm hv (wQ ha (wQ (Bu (v:=.ty c) hg2 hm2 hv2 rfl hn2 hdb2) Vq he2) he) hn hdb he hpl) λσ H Q h=>by
 obtain⟨F,B,s,as,r,i,R,e,q⟩:=h;obtain⟨⟨p,j⟩,k,e⟩:=bS_<|e;obtain⟨⟨d,t⟩,l,e⟩:=bS_ e;obtain⟨m,e⟩:=zu e;cases e;exact xJ R k λv b n g f o=>⟨v,c,_,d,rfl,hc,yN.vw g f l,m,q _ [] b n g (.lf<|.bl _) o⟩)
def xQ:MG:=λos es=>match es with | [o]=>if os.length<sizeLine then some (os++[o],.lf true .non)else none|_=>none
def YD:MG:=λos es=>match es with | [.lf _<|.int i]=>if -(2 ^ 63)<=i/\i<2 ^ 63 then(seqIndex? i os.length).bind λk=>(os[k]?).bind λo=>some (os.eraseIdx k,o)else none|_=>none
def NU:MG:=λos es=>match es with | [.nd .ls ps]=>if os.length+ps.length<=sizeLine then some (os++ps,.lf true .non)else none|_=>none
def SI{l f fo g:List Addr}(h:l.Nodup)(e:l=f++(fo++g)):((f++g)++fo).Nodup/\∀a ∈ (f++g)++fo,a ∈ l:=by
 subst e;have p:(f++(fo++g)).Perm ((f++g)++fo):=by
  rw[zxB];exact(List.perm_append_comm).append_left f
 exact⟨p.nodup_iff.mp h,λa m=>p.mem_iff.mpr m⟩
def UF:IP X kd Lb xQ:=by
 intro F B G l f p q r g o s t H Q h c b d e k;unfold xQ at e
 split at e
 . obtain⟨i,e⟩:=zu e;cases e;cases b with
   |cons j n=>
    cases n;rw[zyD]at d k;exact⟨l,f,_,rfl,rfl,h,by rw[c.length];exact i,k _ _ _ [] (c.append<|RoL.one j) (.lf .non) (λa m=>by rwa [zyD]at m)<|by rw[zyD];exact d⟩
 . cases e
def Tr:IP X kd EK YD:=by
 intro F B G l g E I J h o K L H Q m b a c e k;unfold YD at e
 split at e
 . rename_i M i
   split at e
   . rename_i d;obtain⟨j,n,e⟩:=bS_ e;obtain⟨N,p,e⟩:=bS_ e;cases e;obtain⟨v,f,q,r,s,t,u,w,x⟩:=b.at_ p;cases a with
     |cons y z=>
      cases z;cases y with
      |lf A=>
       cases A;rw[zyD,zyD]at c k;obtain⟨C,D⟩:=SI c t;refine⟨l,g,i,j,v,rfl,rfl,m,d.1,d.2,by rw[b.length];exact n,s,k v _ (f++r) q ?_ u D C⟩;rw[VD,VD];exact w.append x
   . cases e
 . cases e
def O6:IP X kd LF NU:=by
 intro F B G l h y z A i o C D H Q j d c f e k;unfold NU at e
 split at e
 . rename_i E;obtain⟨n,e⟩:=zu e;cases e;cases c with
   |cons p q=>
    cases q;cases p with
    |ls r g=>
     rename_i b s I;rw[zyD]at f k;obtain⟨t,u,v⟩:=zxD.mp f;obtain⟨J,w⟩:=zzW.mp u;refine⟨l,b,h,s,rfl,rfl,j,r,by rw[d.length,g.length];exact n,k .non _ _ [] (d.append g) (.lf .non) (λa m=>?_) ?_⟩
     . rw[zyD]at m
       rcases zzM.mp m with m|m
       . exact zzP _ m
       . exact zzL _<|zzD _ m
     . rw[zyD];exact zxD.mpr ⟨t,w,λa m b x=>v a m b<|zzD _ x⟩
 . cases e
def Yp{i:Nat}{id}(hm:Jy X id r)(hr:IP X kd r gg)(slot:Slot "list" name id)(hty:typeOf (.builtin id)=pure (.type "method_descriptor"))(ho:PE X (.Name x p) (YZ i))(ha:AD X kd (e::es) fd)
 (hbase:attributeBase (.Name x p) name X.env (eval (.Name x p) X.env)=eval (.Name x p) X.env)
 (hfew:((backTo cpos<|starEach (e::es) X.env).all (λx=>!x.1)&&(backToKw cpos<|keywordEach [] X.env).all (λx=>x.1.isSome)
  && decide ((e::es).length+([]:List Keyword).length+(if([]:List Keyword).isEmpty then 0 else 1)<30))=true)
 (hline:(apos.endLine==cpos.line)=true) (hs:starEach (e::es) X.env=(false,eval e X.env)::starEach es X.env) (hplain:(backTo cpos<|starEach es X.env).any (·.1)=false):
 AE X kd (.Call (.Attribute (.Name x p) name apos) (e::es) [] cpos) (xo i fd gg):=by with_unfolding_all exact(yr (HA PySem.F.plainAttrs_list slot hty hm ho ha hbase hfew hline hs hplain) λσ H Q h=>JL hr h)
end
inductive Ty where
 |str|lst|dct|int
def Ty.nm:Ty->String
 | .str=>"str" | .lst=>"list" | .dct=>"dict" | .int=>"int"
def B1:Ty->D->Bool
 | .str,.str _=>true
 | .lst,.lst _=>true
 | .dct,.dct _=>true
 | .int,.int _=>true
 |_,_=>false
def DQ(X:Cx)(T:String)(x:V)(H:Hp):Prop:=∀(pins:List (Addr×Obj)) (σ:St) (s:Shared) (v:Value),Inv X pins σ H s->RelV x v->s.TypeIs v T/\∀a,v = .ref a->∃ob,s.heap.get? a=some ob/\ob.dict=none
def DV(X:Cx)(T:String)(r:V->List V->Hp->VK->Prop)(to:TE)(t:TA):TE:=λσ H Q=>to σ H λx H1=>DQ X T x H1/\t σ H1 λxs H2=>r x xs H2 Q
section
variable{X:Cx}{kd:KD}{o e:Expr}{es:List Expr}{to:TE}{t:TA}{name:Str}{apos cpos:Pos}{T id:String}{r:V->List V->Hp->VK->Prop}
def JX(pa:PlainAttrs T)(slot:Slot T name id)(hty:typeOf (.builtin id)=pure (.type "method_descriptor"))(hm:Aa X id r)(ho:PE X o to)(ha:PA X (e::es) t)
 (hbase:attributeBase o name X.env (eval o X.env)=eval o X.env)
 (hfew:((backTo cpos<|starEach (e::es) X.env).all (λx=>!x.1)&&(backToKw cpos<|keywordEach [] X.env).all (λx=>x.1.isSome)
  && decide ((e::es).length+([]:List Keyword).length+(if([]:List Keyword).isEmpty then 0 else 1)<30))=true)
 (hline:(apos.endLine==cpos.line)=true) (hs:starEach (e::es) X.env=(false,eval e X.env)::starEach es X.env) (hplain:(backTo cpos<|starEach es X.env).any (·.1)=false):
 PE X (.Call (.Attribute o name apos) (e::es) [] cpos) (DV X T r to t):=by
 intro pins s σ H Q I h;refine wpAny_Call_method_late hbase hfew hline rfl<|thn (ho pins s σ H _ I h) λv s1 ⟨x,H1,I1,r1,ty,q1⟩=>?_;obtain⟨h1,h2⟩:=ty _ _ _ _ I1 r1;refine⟨T,id,pa,slot,hty,h1,h2, ?_⟩;have hA:=ha cpos pins s1 σ H1 _ I1 q1;rw[hs]at hA ⊢;refine Calls.callWith_builtin (by show(false||(backTo cpos<|starEach es X.env).any (·.1))=false;rw[hplain]<;>rfl)<|Calls.evalArgs_plain ?_;exact thn hA λus s2 ⟨vs,H2,I2,r2,q2⟩=>hm pins s2 σ H2 x vs v us Q I2 r1 r2 q2
def uc(X:Cx)(kd:KD)(id:String)(g:D->List D->Option R0):Prop:=
 Aa X id (λx xs H Q=>∃O d ds r,(∀a,O a->H a≠none)/\Vw X.K kd O H x d/\VwL X.K kd O H xs ds/\g d ds=some r/\RQ X.K kd O H Q r)
def IY(hk:KdOk X kd){O}{H}{x}{d}{ty}(h:Vw X.K kd O H x d)(e:B1 ty d=true):DQ X ty.nm x H:=by
 intro pins σ s v I rx;cases h with
 |str z=>
  obtain⟨t,rfl⟩:=rx;cases ty<;>first|(cases e;done)|exact⟨typeIs_str s z t,λ_ e=>nomatch e⟩
 |int z=>
  obtain⟨t,rfl⟩:=rx;cases ty<;>first|(cases e;done)|exact⟨typeIs_int s z t,λ_ e=>nomatch e⟩
 |lst hr rl=>
  cases rx;obtain⟨its,_,pl,_⟩:=I.list hr.sq;cases ty<;>first|(cases e;done)|skip
  refine⟨pl.isList.typeIs,λa e=>?_⟩;cases e;obtain⟨o,n,e,c,hd,_⟩:=pl;exact⟨o,e,hd⟩
 |dct hr rm=>
  cases rx;obtain⟨z,hd,vs,rel,dd⟩:=Q2 I hk hr;cases ty<;>first|(cases e;done)|skip
  refine⟨dd.typeIs,λb q=>?_⟩;cases q;obtain⟨ob,_,_,h1,h2,_⟩:=dd;exact⟨ob,h1,h2.2.1⟩
 |non=>cases ty<;>cases e
 |bl=>cases ty<;>cases e
 |tup=>cases ty<;>cases e
 |cl=>cases ty<;>cases e
 |er=>cases ty<;>cases e
 |ob=>cases ty<;>cases e
 |dt=>cases ty<;>cases e
def U9(ty:Ty)(fa:EF)(fr:AF)(g:D->List D->Option R0):EF:=λas=>(fa as).bind λp=>(p.1.frz.view p.2).bind λw=>if B1 ty w.1=true then(fr p.2).bind λq=>(p.1.frz.view q.2).bind λx=>(views q.2 q.1).bind λy=>(g x.1 y.1).bind λr=>(wrap (meet x.2 y.2) r).bind λz=>some (z,q.2)else none
def H0(hk:KdOk X kd)(h:al X.K kd (U9 ty fa fr g) σ H Q):
 DV X ty.nm (λx xs H Q=>∃O d ds r,(∀a,O a->H a≠none)/\Vw X.K kd O H x d/\VwL X.K kd O H xs ds/\g d ds=some r/\RQ X.K kd O H Q r) (al X.K kd fa) (J9 X.K kd fr) σ H Q:=by
 obtain⟨F,B,ad,as,r,as',R,e,q⟩:=h;obtain⟨⟨p,as1⟩,h1,e⟩:=bS_<|e;obtain⟨⟨d0,l0⟩,h0,e⟩:=bS_ e;obtain⟨hty,e⟩:=ite_some' e;obtain⟨⟨ps,as2⟩,h2,e⟩:=bS_ e;obtain⟨⟨d,lv⟩,h3,e⟩:=bS_ e;obtain⟨⟨ds,lv2⟩,h4,e⟩:=bS_ e;obtain⟨r0,h5,e⟩:=bS_ e;obtain⟨z,h6,e⟩:=bS_ e;cases e;refine xJ R h1 λv ad1 H1 R1 rv1 g1=>⟨IY hk (yN.vw R1 rv1 h0) hty,F,B,ad1,as1,ps,_,R1,h2,λvs ad2 H2 R2 rv2 g2=>?_⟩;exact⟨_,d,ds,r0,R2.tr _,(yN.vw R2 (rv1.grow g2) h3).less Xq.meet1,(Zy R2 rv2 h4).less Xq.meet2,h5,vO R2 h6 λw T' H' R' rv' g'=>q w T' ad2 H' R' rv'<|(g1.trans g2).trans g'⟩
def SK(hk:KdOk X kd)(hm:uc X kd id g)(pa:PlainAttrs ty.nm)(slot:Slot ty.nm name id)(hty:typeOf (.builtin id)=pure (.type "method_descriptor"))(ho:AE X kd a fa)(ha:AA X kd (e::es) fr)
 (hbase:attributeBase a name X.env (eval a X.env)=eval a X.env)
 (hfew:((backTo cpos<|starEach (e::es) X.env).all (λx=>!x.1)&&(backToKw cpos<|keywordEach [] X.env).all (λx=>x.1.isSome)
  && decide ((e::es).length+([]:List Keyword).length+(if([]:List Keyword).isEmpty then 0 else 1)<30))=true)
 (hline:(apos.endLine==cpos.line)=true) (hs:starEach (e::es) X.env=(false,eval e X.env)::starEach es X.env) (hplain:(backTo cpos<|starEach es X.env).any (·.1)=false):
 AE X kd (.Call (.Attribute a name apos) (e::es) [] cpos) (U9 ty fa fr g):=by with_unfolding_all exact(yr (JX pa slot hty hm ho ha hbase hfew hline hs hplain) λσ H Q h=>H0 hk h)
end
section
variable{K:zzA}{kd:KD}{F B G:Addr->Prop}{T:List Addr}{ad:Ad}{as:AS}{σ:St}{H H':Hp}
def Rel.wrT(R:Rel K kd F B T ad as σ H)(hp:p ∈ T):Rel K kd F B T ad as σ (upd H p u)/\Grow (Gw T ad) H (Gw T ad) (upd H p u):=by
 have g:Grow (Gw T ad) H (Gw T ad) (upd H p u):=Grow.wr<|.inl hp;have kn:∀a,H a≠none->upd H p u a≠none:=λa z=>by
  by_cases e:a=p
  . subst e;rw[zO];simp
  . rw[zy e];exact z
 exact⟨⟨R.len,R.out,R.nd,R.inj,R.tnd,R.dis,λa z=>kn a<|R.ftr a z,λa z=>⟨kn a (R.btr a z).1,(R.btr a z).2⟩,λa z=>⟨kn a (R.gtr a z).1,(R.gtr a z).2⟩,λi s e=>(R.sl i s e).grow g λa m w h=>by
  rw[zy λz=>R.dis i a m<|by rw[z];exact hp];exact h⟩,g⟩
inductive RPs(K:zzA)(kd:KD)(F B G:Addr->Prop)(H:Hp):List (V×V)->List (Key×O)->Prop
 |nil:RPs K kd F B G H [] []
 |cons {k:Key}{v:V}{o:O}{ps:List (V×V)}{kos:List (Key×O)}:xt K kd F B G H v o []->RPs K kd F B G H ps kos->RPs K kd F B G H ((kV k,v)::ps) ((k,o)::kos)
end
section
variable{X:Cx}{kd:KD}{e a b c o i:Expr}{pos pos':Pos}{fa fb fk fv:EF}
def M0{κ:Type}[DecidableEq κ](ks:List κ)(k:κ):Bool:=ks.any λx=>decide (x=k)
def RG{κ:Type}[DecidableEq κ](ks:List κ)(k:κ):List κ:=if M0 ks k=true then ks else ks++[k]
def Wv{κ α:Type}[DecidableEq κ](ks:List κ)(os:List α)(k:κ)(o:α):List α:=if M0 ks k=true then(ks.zip os).map (λp=>if p.1=k then o else p.2)else os++[o]
theorem Lh[DecidableEq κ](k):∀(ks:List κ) (vs:List α),ks.length=vs.length->((ks.zip vs).any λkv=>decide (kv.1=k))=M0 ks k
 | [],_,_=>rfl
 |x::r,[],h=>by simp at h
 |x::r,v::vs,h=>by
  show(decide _||(r.zip vs).any _)=_;rw[Lh k r vs<|by simpa using h];rfl
theorem Lc[DecidableEq κ]:∀(ks:List κ) (vs:List V),ks.length=vs.length->(ks.zip vs).map (λkv=>if kv.1=k then(kv.1,v)else kv)=ks.zip ((ks.zip vs).map λp=>if p.1=k then v else p.2)
 | [],_,_=>rfl
 |x::r,[],h=>by simp at h
 |x::r,w::vs,h=>by
  show _::(r.zip vs).map _=_;rw[Lc r vs<|by simpa using h]
  congr 1
  by_cases e:x=k
  . simp[e]
  . simp[e]
def Mt{κ:Type}[DecidableEq κ]{ks}{vs}{k:κ}{v}(h:ks.length=vs.length):putK (ks.zip vs) k v=(RG ks k).zip (Wv ks vs k v):=by
 unfold putK RG Wv;rw[Lh k ks vs h]
 split
 . exact Lc ks vs h
 . rw[List.zip_append h];rfl
def Px{κ α:Type}[DecidableEq κ]{ks}{os}{k:κ}{o:α}(h:ks.length=os.length):(RG ks k).length=(Wv ks os k o).length:=by
 unfold RG Wv
 split
 . rw[zzB,List.length_zip,h];simp
 . rw[zzJ,zzJ,h];rfl
theorem EV{L}{Nn}{κ:Type}[DecidableEq κ]{H}{k}{v}{o}(ho:Ro L Nn H v o []):∀{ks:List κ}{vs:List V}{os:List O}{fp:List Addr},ks.length=vs.length->RoL L Nn H vs os fp->
 ∃fp',fp'.Sublist fp/\RoL L Nn H ((ks.zip vs).map λp=>if p.1=k then v else p.2) ((ks.zip os).map λp=>if p.1=k then o else p.2) fp'
 | [],[],_,_,_,.nil=>⟨[],.slnil,.nil⟩
 |x::r,_,_,_,hl,.cons (fp:=f) h t=>by
  obtain⟨fp',s,q⟩:=EV ho (by simpa using hl) t
  by_cases e:x=k
  . refine⟨fp',s.trans<|List.sublist_append_right _ _, ?_⟩;have:=RoL.cons ho q;simpa[e]using this
  . refine⟨f++fp',List.Sublist.append (List.Sublist.refl _) s, ?_⟩;have:=RoL.cons h q;simpa[e]using this
 | [],_::_,_,_,hl,_=>by simp at hl
end
abbrev Fn:=List (Bool×D)->Option O
section
variable{P:Program}{w:World}{K:zzA}{mg:Str->Option Value}{base:Heap}{kd:KD}
def xM(hr:Room k A):A.units+100<cLine:=by have:=hr.un;omega
def YU(P:Program)(w:World)(K:zzA)(kd:KD):Prop:=∀X:Cx,X.prog=P->X.w=w->X.K=K->KdOk X kd
theorem Yo{O}:∀ns:List Int,RpL K kd O H (ns.map V.int)<|ns.map D.int
 | []=>.nil
 |_::r=>.cons (.int _)<|Yo r
def O3{ns:List Int}(hg:g [(true,.lst<|ns.map D.int)]=some (.lf true<|.bl true))(hS:E7 K H a (ns.map V.int)):HY K kd g [.ref a] H (λv _=>v = .bl true) E:=by
 refine⟨λ_=>False,[(true,.lst _)],.lf true _,(λ_ z=>z.elim),.cons ?_ .nil,hg,λv T e _ _ _ _ b=>?_⟩
 . rcases hS with h|⟨c,n,k,z,r⟩
   . exact .lst (λz=>z.2) h<|Yo ns
   . exact .lstK k z r<|Yo ns
 . cases b with
   |lf d=>cases d;rfl
end
namespace Bt
theorem len:bootBuiltins "len"=some (.builtin "len"):=by decide +kernel
theorem max:bootBuiltins "max"=some (.builtin "max"):=by decide +kernel
theorem sorted:bootBuiltins "sorted"=some (.builtin "sorted"):=by decide +kernel
theorem isinstance:bootBuiltins "isinstance"=some (.builtin "isinstance"):=by decide +kernel
theorem int:bootBuiltins "int"=some (.type "int"):=by decide +kernel
theorem bool:bootBuiltins "bool"=some (.type "bool"):=by decide +kernel
theorem list:bootBuiltins "list"=some (.type "list"):=by decide +kernel
theorem tuple:bootBuiltins "tuple"=some (.type "tuple"):=by decide +kernel
theorem dict:bootBuiltins "dict"=some (.type "dict"):=by decide +kernel
def n(x)(h:(x==("__name__":Str))=false):x≠"__name__":=λe=>by subst e;simp at h
end Bt
def WD(f:EF)(as:AS)(st:Bool)(d:D):Prop:=f as=some (.ow<|.lf st d,as)
def WT(f:TF)(as:AS)(b:Bool):Prop:=f as=some (b,as)
def WA(f:AF)(as:AS)(rs:List (Bool×D)):Prop:=f as=some (rs.map λx=>.ow<|.lf x.1 x.2,as)
def WO(f:DF)(as:AS)(os:List O):Prop:=f as=some (os,as)
section
variable{as:AS}{f a b:EF}{s t:Bool}{x y z:D}{i j:Int}
def zb:WD (fC x) as true x:=rfl
def za{i:Nat}(h:as[i]? = some (some<|.lf s x)):WD (fV i) as s x:=by unfold WD fV;rw[h]
def EX(ha:WD a as s x)(hb:WD b as t y)(hg:g x y=some (.im z)):WD (f2 a b g) as (zB z||(s&&t)) z:=by
 unfold WD f2 at *;rw[ha];show((b as).bind _)=_;rw[hb];show((g x y).bind _)=_;rw[hg];show(if _=true then _ else _:Option RV).bind _=_;rw[if_pos<|by unfold meet;simp];rfl
def Jq(ha:a as=some (.ow oa,as))(hb:b as=some (.ow ob,as))(hg:g oa.toD ob.toD=some (.im z)):WD (f2 a b g) as (zB z||(oa.str&&ob.str)) z:=by
 unfold WD f2 at *;rw[ha];show((b as).bind _)=_;rw[hb];show((g oa.toD ob.toD).bind _)=_;rw[hg];show(if _=true then _ else _:Option RV).bind _=_;rw[if_pos<|by unfold meet;simp];rfl
def yj(ha:WD a as s x)(hb:WD b as t y)(hg:g x y=some (.im z))(e:zB z=true):WD (f2 a b g) as true z:=by
 have:=EX ha hb hg;rw[e]at this;exact this
def zZ(ha:WD a as s (.int i))(hb:WD b as t (.int j)):WD (f2 a b<|Yc .Add) as true (.int<|i+j):=yj ha hb rfl rfl
def P9(ha:WD a as s (.int i))(hb:WD b as t (.int j)):WD (f2 a b<|Yc .Sub) as true (.int<|i-j):=yj ha hb rfl rfl
def yZ(ha:WD a as s (.int i))(hb:WD b as t (.int j))(h1:i.natAbs<big)(h2:j.natAbs<big):WD (f2 a b<|Yc .Mult) as true (.int<|i*j):=yj ha hb (by show(if _ then _ else _)=_;rw[if_pos ⟨h1,h2⟩]) rfl
def yH(ha:WD a as s (.int i))(hb:WD b as t (.int j))(h1:0<j)(h2:j.natAbs<big):WD (f2 a b<|Yc .FloorDiv) as true (.int<|i/j):=yj ha hb (by show(if _ then _ else _)=_;rw[if_pos ⟨h1,h2⟩]) rfl
def zL(ha:WD a as s (.int i))(hb:WD b as t (.int j))(h1:0<j):WD (f2 a b<|Yc .Mod) as true (.int<|i%j):=yj ha hb (by show(if _ then _ else _)=_;rw[if_pos h1]) rfl
def vJ(ha:WD a as s x)(hb:WD b as t y)(h:wI 60 x y=some c):WD (f2 a b<|zr .Eq) as true (.bl c):=yj ha hb (by show(wI 60 x y).bind _=_;rw[h];rfl) rfl
def Jw(ha:WD a as s x)(hb:WD b as t y)(h:wI 60 x y=some c):WD (f2 a b<|zr .NotEq) as true (.bl<|!c):=yj ha hb (by show(wI 60 x y).bind _=_;rw[h];rfl) rfl
def Lw(ha:WD a as s (.int i))(hb:WD b as t (.int j)):WD (f2 a b<|zr .Lt) as true (.bl<|decide (i<j)):=yj ha hb rfl rfl
def GB(ha:WD a as s (.int i))(hb:WD b as t (.int j)):WD (f2 a b<|zr .Gt) as true (.bl<|decide (j<i)):=yj ha hb rfl rfl
def ya(h:WD f as s x)(e:truth x=some c):WT (fT f) as c:=by
 unfold WT fT;unfold WD at h;rw[h];show((truth x).bind _)=_;rw[e];rfl
def Xz(h:WT c as k):WT (vq c) as (!k):=by unfold WT vq at *;rw[h];rfl
def KC(h:WT c as k)(h2:k=true->WT e as l)(h3:k=false->l=false):WT (VE c e) as l:=by
 unfold WT VE at *;rw[h];cases k with
 |true=>exact h2 rfl
 |false=>rw[h3 rfl];rfl
def Uq(h:WT c as k)(h2:k=false->WT e as l)(h3:k=true->l=true):WT (Vn c e) as l:=by
 unfold WT Vn at *;rw[h];cases k with
 |false=>exact h2 rfl
 |true=>rw[h3 rfl];rfl
def Xx(h:WD a as s (.bl k))(h2:k=true->WD b as true (.bl l))(h3:k=false->l=false):WD (QP a b) as true (.bl l):=by
 unfold WD QP at *;rw[h];cases k with
 |true=>exact h2 rfl
 |false=>rw[h3 rfl];rfl
def zA:WA aN as []:=rfl
def ze(ha:WD a as s x)(hr:WA fr as rs):WA (aC a fr) as ((s,x)::rs):=by
 unfold WA aC at *;unfold WD at ha;rw[ha];show((fr as).bind _)=_;rw[hr];rfl
theorem Vf:∀rs:List (Bool×D),Zn as (rs.map λx=>.ow<|.lf x.1 x.2)=some (rs.map λx=>(zB x.2||x.1,x.2))
 | []=>rfl
 |r::rs=>by
  show(Zn as _).bind _=_;rw[Vf rs];rfl
theorem vz:∀rs:List (Bool×D),views as (rs.map λx=>.ow<|.lf x.1 x.2)=some (rs.map (·.2),some (rs.all (·.1)))
 | []=>rfl
 |r::rs=>by
  show(views as _).bind _=_;rw[vz rs];rfl
def xU(ha:WA fr as rs)(hg:g (rs.map λx=>(zB x.2||x.1,x.2))=some (.lf s x)):WD (zp fr g) as s x:=by
 unfold WD zp;unfold WA at ha;rw[ha];show(Zn as _).bind _=_;rw[Vf];show(g _).bind _=_;rw[hg];rfl
def wA(ha:WA fr as rs)(hg:g (rs.map λx=>(zB x.2||x.1,x.2))=some o):zp fr g as=some (.ow o,as):=by
 unfold zp;unfold WA at ha;rw[ha];show(Zn as _).bind _=_;rw[Vf];show(g _).bind _=_;rw[hg];rfl
def Nh(ha:WA fr as rs)(hg:g (rs.map (·.2))=some (.im x)):WD (fP fr g) as (zB x||rs.all (·.1)) x:=by
 unfold WD fP;unfold WA at ha;rw[ha];show(views as _).bind _=_;rw[vz];show(g _).bind _=_;rw[hg];show(if _=true then _ else _:Option RV).bind _=_;rw[if_pos<|by simp];rfl
def wC(ha:WA fr as rs)(hg:g (rs.map (·.2))=some (.im x))(e:zB x=true):WD (fP fr g) as true x:=by
 have:=Nh ha hg;rw[e]at this;exact this
def zT:WO dN as []:=rfl
def zC{fr}{os}(ha:WD a as s x)(hr:WO fr as os):WO (dC a fr) as (.lf s x::os):=by
 unfold WO dC at *;unfold WD at ha;rw[ha];show((fr as).bind _)=_;rw[hr];rfl
def vD{fr}{os}(h:WO fr as os)(hl:os.length<=sizeLine):yR fr as=some (.ow<|.nd .ls os,as):=by
 unfold yR;unfold WO at h;rw[h];show(if os.length<=sizeLine then _ else _)=_;rw[if_pos hl]
def zk{f g}{as1}{o}(h1:f as=some (.nx as1))(h2:g as1=o):zf f g as=o:=by unfold zf;rw[h1];exact h2
def vH{f g}{o}(h1:f as=some (.rt o)):zf f g as=some (.rt o):=by unfold zf;rw[h1];rfl
def xG{c}{f g}{o}(h:WT c as true)(h1:f as=o):wJ c f g as=o:=by unfold wJ;unfold WT at h;rw[h];exact h1
def yc{c}{f g}{o}(h:WT c as false)(h1:g as=o):wJ c f g as=o:=by unfold wJ;unfold WT at h;rw[h];exact h1
def yd{i:Nat}{st}(h:WD f as s x)(hi:i<as.length):zm st i f as=some (.nx<|as.set i<|some<|.lf s x):=by
 unfold zm;unfold WD at h;rw[h];cases st<;>exact if_pos hi
def yt{i:Nat}{o}(h:f as=some (.ow o,as))(hi:i<as.length):zm false i f as=some (.nx<|as.set i<|some o):=by
 unfold zm;rw[h];exact if_pos hi
def SX{i:Nat}{o}(h:f as=some (.ow o,as))(hi:i<as.length):zm true i f as=some (.nx<|as.set i<|some o.frz):=by
 unfold zm;rw[h];exact if_pos hi
def XR(h:WD f as true x):zX f as=some (.rt<|.lf true x):=by unfold zX;unfold WD at h;rw[h];rfl
def xx(hl:ds.length=m)(h:c (yF n ds)=some (.rt o)):Yr n m c ds=some o:=by unfold Yr;rw[if_pos hl,h];rfl
theorem yV{g}{f}(I:Nat->AS->Prop):∀(xs:List ZV) (k:Nat) (as:AS),(∀i x as,xs[i]? = some x->I (k+i) as->∃as1,g x as=some as1/\∃as2,f as1=some (.nx as2)/\I (k+i+1) as2)->I k as->∃as',forL g f xs as=some (.nx as')/\I (k+xs.length) as'
 | [],k,as,_,h=>⟨as,rfl,h⟩
 |x::r,k,as,st,h=>by
  obtain⟨as1,h1,as2,h2,h3⟩:=st 0 x as rfl h;obtain⟨as',h4,h5⟩:=yV I r (k+1) as2 (λi y as e q=>by
   obtain⟨u,k1,v,k2,k3⟩:=st (i+1) y as e (by rw[show k+(i+1)=k+1+i by omega];exact q);exact⟨u,k1,v,k2,by rw[show k+1+i+1=k+(i+1)+1 by omega];exact k3⟩) h3
  refine⟨as', ?_,by rw[zzT,show k+(r.length+1)=k+1+r.length by omega];exact h5⟩;show(g x as).bind _=_;rw[h1];show(f as1).bind _=_;rw[h2];exact h4
def xb{fi}{g}{f}{xs}{as'}{o}(h:fi as=some (xs,as'))(h2:forL g f xs as'=o):yw fi g f as=o:=by unfold yw;rw[h];exact h2
def yD{lo}{n i:Nat}{x}(h:(yJ lo n)[i]? = some x):x=(true,.int<|lo+i)/\i<n:=by
 unfold yJ at h;rw[zzI]at h;cases e:(List.range n)[i]? with
 |none=>rw[e]at h;cases h
 |some k=>
  rw[e]at h;obtain⟨h1,h2⟩:=zzG.mp e;rw[zyT]at h1;rw[List.getElem_range]at h2;subst h2;exact⟨(zzY h).symm,h1⟩
def yK(h:WA fr as [(u,.int j)])(h0:0<=j)(h1:j<1000000):yk fr yn as=some (yJ 0 j.toNat,as):=by
 unfold yk;unfold WA at h;rw[h];simp only[zyK,vz];show((if -_<=j/\j<2 ^ 62 then some _ else none).bind _)=_;rw[if_pos ⟨by omega,by omega⟩];rfl
def El(ha:a as=some (.ow o,as))(hr:WA fr as rs):WA (aC a fr) as ((o.str,o.toD)::rs):=by
 unfold WA aC at *;rw[ha];show((fr as).bind _)=_;rw[hr];rfl
def YJ{i:Nat}{o}(h:as[i]? = some (some o)):RV.view as (.bo i)=some (o.toD,o.kl):=by simp only[RV.view,h]
def CC{i:Nat}{o}(h:as[i]? = some (some o)):SR as (.bo i)=some (o.frz,as.set i<|some o.frz):=by simp only[SR,h]
def SW{i:Nat}{o}(h:as[i]? = some (some o))(hs:o.str=true):Ee as (.bo i)=some o:=by simp only[Ee,h,hs,if_true]
def V9{i:Nat}{k}{os}(h:as[i]? = some (some<|.nd k os)):fV i as=some (.bo i,as):=by unfold fV;rw[h]
def Oq{i:Nat}{os}(h:as[i]? = some (some<|.nd .ls os)):WD (fP (aC (fV i) aN) Z3) as true (.int os.length):=by
 have e:views as [.bo i]=some ([.lst<|O.toDs os],meet (O.nd .ls os).kl<|some true):=by
  show(RV.view as _).bind _=_;rw[YJ h];rfl
 unfold WD fP aC;rw[V9 h];simp only[zyK,aN,RV.frz,e];rw[show Z3 [.lst<|O.toDs os]=some (.im<|.int os.length) by show some (R0.im<|.int ((O.toDs os).length:Nat))=_;rw[Ys]];rfl
def wa{g}{f}{d}{r}{as1 as2}{o}(h1:g d as=some as1)(h2:f as1=some (.nx as2))(h3:forL g f r as2=o):forL g f (d::r) as=o:=by
 show(g d as).bind _=_;rw[h1];show(f as1).bind _=_;rw[h2];exact h3
def Mu{g}{f}{d}{r}{as1}{o}(h1:g d as=some as1)(h2:f as1=some (.rt o)):forL g f (d::r) as=some (.rt o):=by
 show(g d as).bind _=_;rw[h1];show(f as1).bind _=_;rw[h2];rfl
def Vd{i:Nat}{os}(h:as[i]? = some (some<|.nd .ls os))(hl:os.length<sizeLine)(ha:WD a as s x):yy (xo i (dC a dN) xQ) as=some (.nx<|as.set i<|some<|.nd .ls<|os++[.lf s x]):=by
 unfold yy xo;rw[h];have e:=zC ha zT;rw[e];show(Option.bind (match as[i]? with|some (some<|.nd .ls os)=>_|_=>none) _)=_;rw[h];show((xQ os _).bind _).bind _=_;have e2:xQ os [.lf s x]=some (os++[.lf s x],.lf true .non):=by unfold xQ;exact if_pos hl
 rw[e2];rfl
def MW{i:Nat}{os}{k}{o}(h:as[i]? = some (some<|.nd .ls os))(ha:WD a as s (.int k))(h0:0<=k)(h1:k<os.length)(hs:os.length<2 ^ 60)(ho:os[k.toNat]? = some o):xo i (dC a dN) YD as=some (.ow o,as.set i<|some<|.nd .ls<|os.eraseIdx k.toNat):=by
 unfold xo;rw[h];have e:=zC ha zT;rw[e];show(match as[i]? with|some (some<|.nd .ls os)=>_|_=>none)=_;rw[h];show((YD os _).bind _)=_;have e2:YD os [.lf s<|.int k]=some (os.eraseIdx k.toNat,o):=by
  unfold YD;show(if -_<=k/\k<2 ^ 63 then _ else _)=_;rw[if_pos ⟨by omega,by omega⟩];have e3:seqIndex? k os.length=some k.toNat:=by unfold seqIndex?;simp;omega
  rw[e3];show((os[k.toNat]?).bind _)=_;rw[ho];rfl
 rw[e2];rfl
def OU(h:f as=some (.ow o,as))(hg:g (o.str,o.toD) as=some as'):W6 f g as=some (.nx as'):=by
 unfold W6;rw[h];show(g _ as).bind _=_;rw[hg];rfl
def We{i:Nat}{o}(h:as[i]? = some (some o))(hs:o.str=true):zX (fV i) as=some (.rt o):=by
 cases o with
 |lf st d=>unfold zX fV;rw[h];have:st=true:=hs;subst this;rfl
 |nd k os=>
  unfold zX;rw[V9 h];show(Ee as _).bind _=_;rw[SW h hs];rfl
def Cb(ha:a as=some (.ow oa,as1))(hb:b as1=some (.ow ob,as2))(hg:g oa.toD ob.toD=some (.fl zs)):f2 a b g as=some (.ow<|.nd .ls<|zs.map<|Le<|oa.str&&ob.str,as2):=by
 unfold f2;rw[ha];show((b as1).bind _)=_;rw[hb];show((g oa.toD ob.toD).bind _)=_;rw[hg];show(if _=true then _ else _:Option RV).bind _=_;rw[if_pos<|by unfold meet;simp];rfl
def yi(ha:WD a as true x)(hb:WD b as true y)(hg:g x y=some (.im z)):WD (f2 a b g) as true z:=by
 have:=EX ha hb hg;rw[show(zB z||(true&&true))=true by simp]at this;exact this
theorem ZF:∀zs:List D,zs.map (Le true)=zs.map (O.lf true)
 | []=>rfl
 |z::r=>by
  show Le true z::r.map _=_;rw[ZF r];unfold Le;rw[zyC];rfl
def BF(ha:a as=some (.ow oa,as1))(hb:b as1=some (.ow ob,as2))(hg:g oa.toD ob.toD=some (.fl zs))(h1:oa.str=true)(h2:ob.str=true):f2 a b g as=some (.ow<|.nd .ls<|zs.map<|O.lf true,as2):=by
 have:=Cb ha hb hg;rw[h1,h2,show(true&&true)=true from rfl,ZF]at this;exact this
def xv{fr}{o}{os}{as1 as2}(ha:a as=some (.ow o,as1))(hr:fr as1=some (os,as2)):dC a fr as=some (o::os,as2):=by
 unfold dC;rw[ha];show((fr as1).bind _)=_;rw[hr];rfl
def add_lists(h:xs.length+ys.length<=sizeLine):Yc .Add (.lst xs) (.lst ys)=some (.fl<|xs++ys):=if_pos h
def RO(lo)(n:Nat):yJ lo (n+1)=(true,.int lo)::yJ (lo+1) n:=by
 unfold yJ;rw[List.range_succ_eq_map,zyR,zyA]
 congr 1
 . simp
 . apply List.map_congr_left;intro i _;show(true,D.int _)=_
   congr 2
   omega
def EE(ha:WA fr as rs)(hg:g (rs.map (·.2))=some (.im x))(e:rs.all (·.1)=true):WD (fP fr g) as true x:=by
 have:=Nh ha hg;rw[e,zyC]at this;exact this
def BV(ha:WD a as s y)(ht:B1 ty y=true)(hr:WA fr as rs)(hg:g y (rs.map (·.2))=some (.im x))(e:zB x=true):WD (U9 ty a fr g) as true x:=by
 unfold WD U9;unfold WD at ha;unfold WA at hr;rw[ha];show(if B1 ty y=true then _ else _:Option _)=_;rw[if_pos ht,hr];simp only[zyK,vz];show((g y _).bind _)=_;rw[hg];show(if _=true then _ else _:Option RV).bind _=_;rw[if_pos<|by rw[e];rfl];show some (RV.ow<|.lf _ x,as)=_;rw[e];rfl
def Mp{fl fh}{lo hi}{g}(ha:WD a as s y)(hl:fl as=some (lo,as))(hh:fh as=some (hi,as))(hg:g y lo hi=some (.im x)):WD (GR a fl fh g) as (zB x||s) x:=by
 unfold WD GR;unfold WD at ha;rw[ha];show((fl as).bind _)=_;rw[hl];show((fh as).bind _)=_;rw[hh];show((g y lo hi).bind _)=_;rw[hg];show(if _=true then _ else _:Option RV).bind _=_;rw[if_pos<|by simp];rfl
def Mh{g}{fe}{as0 as1}{y}{r}{os}(h1:g y as0=some as1)(h2:WD fe as1 true x)(h3:xg g yB fe as0 r=some os):xg g yB fe as0 (y::r)=some (.lf true x::os):=by
 show(g y as0).bind _=_;rw[h1];show(fe as1).bind _=_;unfold WD at h2;rw[h2];show _=_;rw[h3];rfl
def Wm{fi}{cap}{g}{tt}{fe}{xs}{os}(h1:fi as=some (xs,as))(hl:xs.length<=sizeLine)(h2:xg g tt fe (Yt cap as) xs=some os):zN fi cap g tt fe as=some (.ow<|.nd .ls os,as):=by
 unfold zN;rw[h1];show(if xs.length<=sizeLine then _ else _)=_;rw[if_pos hl];show _=_;rw[h2];rfl
def Mx(ha:fr as=some (rs,as))(hx:Zn as rs=some xs)(hg:g xs=some o):zp fr g as=some (.ow o,as):=by
 unfold zp;rw[ha];show(Zn as rs).bind _=_;rw[hx];show(g xs).bind _=_;rw[hg];rfl
end
def Y3(h:Nat.ble n 1000=true):n<=sizeLine:=Nat.le_of_lt<|zM<|Nat.le_of_ble_eq_true h
def zh(h:Nat.ble (a+1) b=true):a<b:=Nat.le_of_ble_eq_true h
def zD(h0 : -(10 ^ 200)<i)(h1:i<10 ^ 200):i.natAbs<big:=by
 have:10 ^ 200<big:=by unfold big;decide +kernel
 have e:((10 ^ 200:Nat):Int)=(10:Int) ^ 200:=by norm_cast
 have:i.natAbs<((10 ^ 200:Nat):Int):=by rw[e];omega
 omega
def B0{ns:List Int}{k:Int}(h0:0<=k)(h1:k<ns.length):∃x,zo (.lst<|ns.map D.int) (.int k)=some (.im<|.int x):=by
 have hk:k.toNat<ns.length:=by omega
 refine⟨ns[k.toNat], ?_⟩;have h:=y6 (xs:=ns.map D.int) (by rw[zzI,zzE hk];rfl);rw[show(k.toNat:Int)=k by omega]at h;show Mm _=_;rw[h];rfl
section
variable{X:Cx}{kd:KD}{K:zzA}{mg:Str->Option Value}
def Af(K:zzA)(g:Fn):Sp:=λvs H Q E=>∀kd:KD,HY K kd g vs H Q E
end
def x_(fa fb fc:EF)(g g':D->D->Option R0):EF:=λas=>(fa as).bind λp=>(fb p.2).bind λq=>(p.1.frz.view q.2).bind λx=>(q.1.frz.view q.2).bind λy=>(g x.1 y.1).bind λr=>match r with
 | .im (.bl true)=>(fc q.2).bind λt=>(q.1.frz.view t.2).bind λy'=>(t.1.frz.view t.2).bind λz=>(g' y'.1 z.1).bind λr'=>(wrap (meet y'.2 z.2) r').bind λo=>some (o,t.2)
 | .im (.bl false)=>some (.ow<|.lf true<|.bl false,q.2)
 |_=>none
section
variable{X:Cx}{kd:KD}{a b c:Expr}{fa fb fc:EF}{pos:Pos}
def Wy(ho:MQ X kd (compareOp op) g)(ho':MQ X kd (compareOp op') g')(ha:AE X kd a fa)(hb:AE X kd b fb)(hc:AE X kd c fc)(hm:lastMarks [op,op'] [b,c]=false):
 AE X kd (.Compare a [op,op'] [b,c] pos) (x_ fa fb fc g g'):=by with_unfolding_all exact(yr (Ea ho ho' ha hb hc hm) λσ H Q h=>by
 obtain⟨F,B,ad,as,r,as',R,e,q⟩:=h;obtain⟨⟨p,as1⟩,h1,e⟩:=bS_<|e;obtain⟨⟨z,as2⟩,h2,e⟩:=bS_ e;obtain⟨⟨x,lx⟩,h3,e⟩:=bS_ e;obtain⟨⟨y,ly⟩,h4,e⟩:=bS_ e;obtain⟨r0,h5,e⟩:=bS_ e;refine xJ R h1 λv ad1 H1 R1 rv1 g1=>xJ R1 h2 λu ad2 H2 R2 rv2 g2=>⟨_,x,y,r0,R2.tr<|meet lx ly,(yN.vw R2 (rv1.grow g2) h3).less Xq.meet1,(yN.vw R2 rv2 h4).less Xq.meet2,h5, ?_⟩
 match r0,e with
 | .im (.bl true),e=>
  obtain⟨⟨t,as3⟩,h6,e⟩:=bS_<|e;obtain⟨⟨y',ly'⟩,h7,e⟩:=bS_ e;obtain⟨⟨z',lz'⟩,h8,e⟩:=bS_ e;obtain⟨r1,h9,e⟩:=bS_ e;obtain⟨o,h10,e⟩:=bS_ e;cases e;intro w H3 kp rp;cases rp;obtain⟨R3,g3⟩:=R2.more kp;refine⟨true,rfl, ?_⟩;rw[if_pos rfl];refine xJ R3 h6 λw' ad4 H4 R4 rv4 g4=>⟨_,y',z',r1,R4.tr<|meet ly' lz',(yN.vw R4 ((rv2.grow g3).grow g4) h7).less Xq.meet1,(yN.vw R4 rv4 h8).less Xq.meet2,h9, ?_⟩;exact vO R4 h10 λw T' H' R' rv' g'=>q w T' ad4 H' R' rv'<|(((g1.trans g2).trans g3).trans g4).trans g'
 | .im (.bl false),e=>
  cases e;intro w H3 kp rp;cases rp;obtain⟨R3,g3⟩:=R2.more kp;refine⟨false,rfl, ?_⟩;rw[if_neg zyU];exact q _ [] ad2 H3 R3 (.lf<|.bl _)<|(g1.trans g2).trans g3)
end
def De:O->Option (Bool×D)
 | .lf s d=>some (s,d)
 |_=>none
def Mw(h:De o=some p):o = .lf p.1 p.2:=by
 cases o with
 |lf s d=>cases h;rfl
 |nd k os=>cases h
def FU(i j:Nat)(fd:DF):SF:=λas=>(fd as).bind λp=>(OA p.1).bind λo=>(De o.1).bind λa=>(De o.2).bind λb=>if i<p.2.length/\j<p.2.length then some (.nx<|(p.2.set i<|some<|.lf a.1 a.2).set j<|some<|.lf b.1 b.2)else none
section
variable{X:Cx}{kd:KD}{a b:Expr}{fd:DF}{pos:Pos}
def Od(hc:X.calm=true)(hN:X.N.Nodup)(hi:X.N[i]? = some x)(hj:X.N[j]? = some y)(hij:i≠j)
 (hx:X.env.scope.names.lookup x=some .local) (hy:X.env.scope.names.lookup y=some .local) (ha:AD X kd [a,b] fd)
 (hw:swappedStores [.Tuple [.Name x px,.Name y py] kt pt] (.Tuple [a,b] k2 pt2) X.env=pure (some [x,y]))
 (hs:swapsWithSole [.Tuple [.Name x px,.Name y py] kt pt] (.Tuple [a,b] k2 pt2) pos.line X.env=pure false):
 QM X kd (.Assign [.Tuple [.Name x px,.Name y py] kt pt] (.Tuple [a,b] k2 pt2) pos) (FU i j fd):=by with_unfolding_all exact(yU (Ce hc hN hi hj hij hx hy ha hw hs) λD σ H h=>by
 obtain⟨F,B,ad,as,o,R,e,q⟩:=h;obtain⟨⟨os,as1⟩,h1,e⟩:=bS_<|e;obtain⟨⟨o1,o2⟩,e1,e⟩:=bS_ e;obtain⟨⟨s1,d1⟩,e2,e⟩:=bS_ e;obtain⟨⟨s2,d2⟩,e3,e⟩:=bS_ e;cases K9 e1;cases Mw e2;cases Mw e3
 . obtain⟨⟨l1,l2⟩,e⟩:=zu e;cases e;refine⟨F,B,ad,as,_,as1,R,h1,λvs T' ad' H' R' rl g=>?_⟩;cases rl with
   |cons ra rb=>
    cases rb with
    |cons rb rn=>
     cases rn;cases ra with
     |lf ra=>
            cases rb with
            |lf rb=>
             refine⟨_,_,rfl, ?_⟩;have R2:=R'.put l1<|.lf ra;have R3:=R2.put (by rw[zzU];exact l2)<|xt.less yz<|.lf rb;exact q _ _ _ R3<|g.trans<|Grow.less λa z=>yz a<|yz a z)
end
inductive Ents(w:World):List DictEntry->List (Key×V)->Prop
 |nil:Ents w [] []
 |str {x:Str}{t:Tok}{v:V}{u:Value}{r:List DictEntry}{s:List (Key×V)}:RelV v u->Ents w r s->Ents w (⟨PyData.keyHash w.params x,.str x t,u⟩::r) ((.inr x,v)::s)
theorem Ents.keys:∀{es:List DictEntry}{kvs:List (Key×V)},Ents w es kvs->∀e ∈ es,∃k,(yx P w).is k e.key=true/\e.hash=(yx P w).hash k
 |_,_,.nil,_,m=>nomatch m
 |_,_,.str (x:=x) (t:=t) _ r,e,m=>by
  rcases zzC.mp m with rfl|m
  . exact⟨.inr x,Yh P w x t,rfl⟩
  . exact r.keys e m
theorem Ents.pairs:∀{es:List DictEntry}{kvs:List (Key×V)},Ents w es kvs->∃vs,KV kvs vs/\Pairs (yx P w) es vs/\vs.map (·.1)=kvs.map (·.1)
 |_,_,.nil=>⟨[],.nil,.nil,rfl⟩
 |_,_,.str (x:=x) (t:=t) (u:=u) h r=>by
  obtain⟨a,b,c,d⟩:=r.pairs;exact⟨(.inr x,u)::a,.cons ⟨rfl,h⟩ b,.cons (Yh P w x t) rfl c,by rw[zyR,zyR,d]⟩
structure DctAt(w:World)(K:zzA)(a:Addr)(kvs:List (Key×V)):Prop where
 ex:∃es ep,K.lookup a=some {cls:=.type "dict",data:=.dict es ep}/\Ents w es.toList kvs
 nd:(kvs.map (·.1)).Nodup
 le:kvs.length<=sizeLine
 ns:(a==sysModules)=false
def Dd(l:List (Addr×List (Key×V)))(c:Str->Addr:=λ_=>0):KD:=⟨λa k=>l.lookup a=some k,c⟩
def lookup_mem{l:List (Addr×List (Key×V))}(h:l.lookup a=some k):(a,k) ∈ l:=by
 induction l with
 |nil=>cases h
 |cons p r b=>
  rw[List.lookup_cons]at h
  by_cases e:a=p.1
  . subst e;rw[beq_self_eq_true]at h;cases h;exact zzF
  . rw[show _=false from beq_eq_false_iff_ne.mpr e]at h;exact zzD _<|b h
def CY{K}(h:∀p ∈ l,DctAt w K p.1 p.2):YU P w K (Dd l c):=λX n o r=>by
 subst n;subst o;subst r;refine⟨λa k v b d=>zzY<|b.symm.trans d,λa k b=>?_,λa k y b f=>?_⟩
 . obtain⟨g,i,e,_⟩:=(h _<|lookup_mem b).ex;exact⟨_,e⟩
 . have q:=h _<|lookup_mem b;obtain⟨g,i,e,j⟩:=q.ex;obtain⟨s,d,t,u⟩:=j.pairs;refine⟨q.le,q.ns,s,d,_,g,i,f _ _ e,⟨rfl,rfl,rfl⟩,rfl,λx m=>j.keys x (by simpa using m),t,by rw[u];exact q.nd⟩
def isStar:Expr->Bool
 | .Starred .. => true
 |_=>false
def yP(h:isStar a=false):starEach (a::es) env=(false,eval a env)::starEach es env:=by
 cases a<;>first|rfl|cases h
section
variable{as:AS}{f a b c:EF}{s t u:Bool}{x y z:D}{i j k:Int}
def Ot(h:WD f as s x)(ho:G6 x=true:=by rfl):WD (UX f cl) as true (.bl<|Rf (Oz x) cl):=by
 unfold WD UX at *;rw[h];show(if G6 x=true then _ else _)=_;rw[if_pos ho];rfl
def QT(h:WD f as s x)(e:Rf (Oz x) cl=q)(ho:G6 x=true:=by rfl):WD (UX f cl) as true (.bl q):=by subst e;exact Ot h ho
def Me{lo hi}(ha:WD a as true y)(hl:fl as=some (lo,as))(hh:fh as=some (hi,as))(hg:g y lo hi=some (.im x)):WD (GR a fl fh g) as true x:=by
 have:=Mp ha hl hh hg;rw[zyC]at this;exact this
def Ay:zo (.tup (x::ds)) (.int 0)=some (.im x):=by
 show Mm _=_;rw[show 0=((0:Nat):Int)from rfl,y6 rfl];rfl
def OG(h:WD f as s (.bl q)):WD (BQ f) as true (.bl<|!q):=by
 unfold WD BQ at *;rw[h];rfl
def S3(ha:WD a as s (.int i))(hb:WD b as t (.int j))(hc:WD c as u (.int k)):WD (x_ a b c (zr .LtE)<|zr .Lt) as true (.bl<|decide (i<=j)&&decide (j<k)):=by
 unfold WD at *
 by_cases h:i<=j
 . unfold x_;rw[ha];simp only[zyK];rw[hb];simp only[zyK];simp only[RV.frz,O.frz,RV.view,O.toD,O.str,zyK,zr,GY,FX,P3,MF,h,decide_true,hc,Bool.true_and];rfl
 . unfold x_;rw[ha];simp only[zyK];rw[hb];simp only[zyK];simp only[RV.frz,O.frz,RV.view,O.toD,O.str,zyK,zr,GY,FX,P3,MF,h,decide_false,Bool.false_and]
def G_(h:WT cc as true)(h1:g as=some (.nx as1))(h2:LX cc g n as1=o):LX cc g (n+1) as=o:=by
 unfold WT at h;show(cc as).bind _=_;rw[h];show(g as).bind _=_;rw[h1];exact h2
def GU(h:WT cc as false):LX cc g (n+1) as=some (.nx as):=by
 unfold WT at h;show(cc as).bind _=_;rw[h];rfl
def H_(h:WO fd as [.lf s x,.lf t y])(hi:p<as.length)(hj:q<as.length):FU p q fd as=some (.nx<|(as.set p<|some<|.lf s x).set q<|some<|.lf t y):=by
 unfold FU;unfold WO at h;rw[h];show(if _ then _ else _)=_;rw[if_pos ⟨hi,hj⟩]
def N3(h1:g w as0=some as1)(h2:WT tt as1 false)(h3:xg g tt fe as0 r=o):xg g tt fe as0 (w::r)=o:=by
 unfold WT at h2;show(g w as0).bind _=_;rw[h1];show(tt as1).bind _=_;rw[h2];exact h3
def WE(f:EF)(as:AS)(x:D):Prop:=∃o,f as=some (.ow o,as)/\o.str=true/\o.toD=x
def RE(r:Option O)(x:D):Prop:=∃o,r=some o/\o.str=true/\o.toD=x
def WD.e(h:WD f as true x):WE f as x:=⟨_,h,rfl,rfl⟩
def xR{os}(h:WO fr as os)(hl:os.length<=sizeLine)(hs:O.strs os=true)(e:D.lst (O.toDs os)=x):WE (yR fr) as x:=⟨_,vD h hl,hs,e⟩
def Z2(h:WE a as x)(hr:WA fr as rs):WA (aC a fr) as ((true,x)::rs):=by
 obtain⟨o,b,c,rfl⟩:=h;have:=El b hr;rw[c]at this;exact this
def WV(ha:WE a as x)(hg:RE (g [(true,x)]) z):WE (zp (aC a aN) g) as z:=by
 obtain⟨o,b,c,d⟩:=hg;exact⟨o,wA (Z2 ha zA) (by show g [(zB x||true,x)]=_;rw[zyC];exact b),c,d⟩
def KJ(ha:WE a as x)(hb:WE b as y)(hg:RE (g [(true,x),(true,y)]) z):WE (zp (aC a<|aC b aN) g) as z:=by
 obtain⟨o,c,d,e⟩:=hg;exact⟨o,wA (Z2 ha<|Z2 hb zA) (by show g [(zB x||true,x),(zB y||true,y)]=_;rw[zyC,zyC];exact c),d,e⟩
def Kr(ha:WE a as x)(hb:WE b as y)(hc:WE c as w)(hg:RE (g [(true,x),(true,y),(true,w)]) z):WE (zp (aC a<|aC b<|aC c aN) g) as z:=by
 obtain⟨o,d,e,f⟩:=hg;exact⟨o,wA (Z2 ha<|Z2 hb<|Z2 hc zA) (by show g [(zB x||true,x),(zB y||true,y),(zB w||true,w)]=_;rw[zyC,zyC,zyC];exact d),e,f⟩
def UZ(ha:WE a as x)(hb:WE b as y)(hg:g x y=some (.im z)):WD (f2 a b g) as true z:=by
 obtain⟨o,c,d,rfl⟩:=ha;obtain⟨p,e,f,rfl⟩:=hb;have:=Jq c e hg;rw[d,f,Bool.and_true,zyC]at this;exact this
def DR(ha:WE a as x)(hb:WE b as y)(hg:g x y=some (.fl zs)):f2 a b g as=some (.ow<|.nd .ls<|zs.map<|O.lf true,as):=by
 obtain⟨o,c,d,rfl⟩:=ha;obtain⟨p,e,f,rfl⟩:=hb;exact BF c e hg d f
theorem vB:∀zs:List D,O.strs (zs.map<|O.lf true)=true
 | []=>rfl
 |_::r=>vB r
theorem Um:∀zs:List D,O.toDs (zs.map<|O.lf true)=zs
 | []=>rfl
 |z::r=>congrArg (z :: ·)<|Um r
def xY(h:WE f as x)(hi:p<as.length):zm true p f as=some (.nx<|as.set p<|some<|.lf true x):=by
 obtain⟨o,a,b,rfl⟩:=h;have:=SX a hi;rw[show o.frz = .lf true o.toD by unfold O.frz;rw[b]]at this;exact this
def PY(ha:WE a as x)(hb:WE b as y)(h:wI 60 x y=some q):WD (f2 a b<|zr .Eq) as true (.bl q):=UZ ha hb (by show(wI 60 x y).bind _=_;rw[h];rfl)
def Vv(ha:WE a as x)(hb:WE b as y)(h:wI 60 x y=some q):WD (f2 a b<|zr .NotEq) as true (.bl<|!q):=UZ ha hb (by show(wI 60 x y).bind _=_;rw[h];rfl)
def Ve(ha:WE a as x)(hg:g [x]=some (.im z)):WD (fP (aC a aN) g) as true z:=EE (Z2 ha zA) hg rfl
def E9{os}(ha:a as=some (.ow o,as))(hr:WO fr as os):WO (dC a fr) as (o::os):=xv ha hr
def G7{os}(h:WO fr as os)(hl:os.length<=sizeLine):yb fr as=some (.ow<|Zf os,as):=by
 unfold yb;unfold WO at h;rw[h];show(if os.length<=sizeLine then some _ else _)=_;rw[if_pos hl]
theorem RY:∀ds:List D,kids true ds=ds.map λd=>(true,d)
 | []=>rfl
 |d::r=>by show(zB d||true,d)::kids true r=_;rw[RY r,zyC];rfl
def L8(h:WE f as (.lst ds)):xX f as=some (ds.map λd=>(true,d),as):=by
 obtain⟨o,a,b,c⟩:=h;unfold xX;rw[a];show(Gs _).bind _=_;rw[b,c];show some _=_;rw[RY]
def HK(h:WD f as true (.lst ds)):Qk f as=some (ds.map λd=>(true,d),as):=by
 unfold Qk;unfold WD at h;rw[h];show some (kids true ds,as)=_;rw[RY]
end
def UI:List D->Option (List Str)
 | []=>some []
 | .str x::r=>(UI r).bind λs=>some (x::s)
 |_::_=>none
def Ss{K O}(h:RpL K kd O H vs ds)(hv:zG vs us)(e:UI ds=some ns):StrsAre us ns:=
 RpL.ind (P:=λvs ds=>∀us ns,zG vs us->UI ds=some ns->StrsAre us ns) (λus ns hv e=>by cases e;cases hv;exact .nil) (λ{v d vs ds} a _ ih us ns hv e=>by
  cases hv with
  |cons b t=>
   cases a with
   |str x=>
    obtain⟨ys,h1,h2⟩:=bS_<|e;cases h2;obtain⟨tk,rfl⟩:=b;exact .cons _ _ (ih _ _ t h1)
   |_=>cases e) h us ns hv e
def LG:D->List D->Option R0
 | .str sep,[.lst ds]=>(UI ds).bind λys=>if(ys.map (·.length)).sum+ys.length*sep.length<=16777216 then some (.im<|.str<|Txt.join sep ys)else none
 |_,_=>none
section
variable{X:Cx}{kd:KD}
def B9:uc X kd "str.join" LG:=by
 intro b s σ H x B v C Q I c r h;obtain⟨O,d,D,E,F,e,f,a,q⟩:=h;unfold LG at a
 split at a
 . rename_i g G;obtain⟨J,i,a⟩:=bS_ a;obtain⟨j,a⟩:=zu a;cases a;cases e;obtain⟨t,rfl⟩:=c;obtain⟨y,rfl,l⟩:=Nc f;cases l with
   |lst m n=>
    obtain⟨u,rfl,o⟩:=vals1 r;cases o;obtain⟨p,w,z,_⟩:=I.list m.sq;exact join_list z.isList (Ss n (by simpa using w) i) j λA k=>⟨.str _,H,I.tok _,⟨A,rfl⟩,zS q<|.str _⟩
 . cases a
def AV:D->Option R0
 | .str x=>if x.length<=640 then(PySem.intText? x).bind λn=>some (.im<|.int n)else none
 |d=>Dh d
def x6:List D->Option R0:=HG AV
def vt:ZU X kd (.type "int") x6:=by
 intro c s σ H m e Q I r h;obtain⟨O,o,z,p,f,a,q⟩:=h;obtain⟨x,d,rfl,g,a⟩:=XD f a;cases g with
 |str y=>
  obtain⟨j,a⟩:=ite_some' a;obtain⟨n,k,a⟩:=bS_ a;cases a;obtain⟨u,rfl,l⟩:=vals1 r;obtain⟨t,rfl⟩:=l;exact PySem.W.KIN.call_text k j ⟨.int _,H,I.tok _,⟨_,rfl⟩,zS q<|.int _⟩
 |int i=>cases a;exact Ru c s σ H _ e Q I r (.inl ⟨_,rfl,zS q<|.int _⟩)
 |bl b=>cases a;exact Ru c s σ H _ e Q I r (.inr ⟨_,rfl,zS q<|.int _⟩)
 |_=>cases a
end
section
variable{X:Cx}{pins:List (Addr×Obj)}{σ:List (Option V)}{H:Hp}{s:Shared}{h':Heap}
def R_{t':Nat}{ch:List Addr}{T}{o}(I:Inv X pins σ H s)(hf:∀b ∈ ch,Uv X pins H b)(k:∀b u,b ∉ ch->s.heap.get? b=some u->h'.get? b=some u)(hp:s.heap.objs.size<=T)
 (new:xf X.prog X.w (upd H T o) h' T o):Inv X pins σ (upd H T o) {s with heap:=h',toks:=t'}:=by
 have hn:=I.hok.fresh hp;have nT:∀b u,s.heap.get? b=some u->b≠T:=λb u e z=>absurd (zzK (zxH e)<|by rw[z];exact hp)<|Nat.lt_irrefl _;have nc:∀b u,H b=some u->b ∉ ch:=λb u e z=>by have:=(hf b z).1;rw[e]at this;cases this
 refine I.step (g':=s.gens) (d':=s.drawn) (λb hb=>?_) (λb o _ _ hc e _=>k b o hc e) (λb o _ _ hc e _=>⟨o.slots,k b o hc e⟩) (λb o _ e n=>by rw[zy<|nT b o e];exact n)
  (λb o hc e=>⟨o,k b o hc e⟩) (λb xs e=>by rw[zy<|zU e hn];exact e) (λb o u e=>by rw[zy<|zU e hn];exact e) (λb ps e=>⟨#[],by rw[zy<|zU e hn,e];simp⟩) (λm hm=>?_) (λb u e=>?_) I.bare
 . obtain⟨f0,f1,f2,f3,f4,f5⟩:=hf b hb;exact⟨f3,f1,f4,f5⟩
 . obtain⟨o,es,ep,ho,r⟩:=hm;exact⟨o,es,ep,k _ o (λz=>(hf _ z).2.1 rfl) ho,r⟩
 . by_cases hb:b=T
   . subst hb;rw[zO]at e;cases e;exact new
   . rw[zy hb]at e;refine(I.hok b u e).stay (λc v hc q=>k c v ?_ q) (λc q=>by rw[zy<|zU q hn];exact q) λc xs q=>by rw[zy<|zU q hn];exact q
     rcases hc with z|z
     . rw[z];exact nc b u e
     . exact nc c _ z
end
def D1(K:zzA)(a:Addr):It:=
 ⟨λi H=>∃xs x,Qn K H a xs/\xs[i]? = some x,λi H v H'=>∃T x,H T=none/\v = .ref T/\H'=upd H T (.tup [.int i,x])/\∀xs,Qn K H a xs->xs[i]? = some x,λi H=>∃xs,Qn K H a xs/\xs.length<=i⟩
def Nx{P}{w}{K}{elts}{k:Nat}{pos}(a e it)(hei:e≠it):Turn P w K (.Tuple elts k pos) (D1 K a) [e,it] e (λi h=>(∃old,IsEnum h e it i old)/\h.IsListIter it a i)where
 mem:=by simp
 obj:=λi h st b hb=>by
  obtain⟨⟨old,he⟩,⟨o,e1,c,d⟩⟩:=st
  rcases zzC.mp hb with rfl|hb
  . exact⟨_,he,λv z=>by cases z⟩
  . rw[zzR.mp hb];exact⟨o,e1,λv z=>by rw[d]at z;cases z⟩
 keep:=λi h h' st kk=>⟨st.1.imp λold he=>kk e (by simp) _ he,st.2.at λo q=>kk it (by simp) o q⟩
 item:=by
  intro X hP hw hK hc i pins s σ H E I hf st hg;subst hP hw hK;obtain⟨xs,x,hq,hx⟩:=hg;obtain⟨its,rv,p,hz⟩:=I.list hq;obtain⟨u,hu,ru⟩:=rv.get hx;have hil:i<its.toArray.size:=by have:=(zzG.mp hu).1;simpa using this
  obtain⟨ol,hol,hcl,_⟩:=p.isList;have hae:a≠e:=λz=>by
   obtain⟨⟨old,he⟩,_⟩:=st;rw[z]at hol;rw[show s.heap.get? e=_ from he]at hol;cases hol;injection hcl with q;exact absurd q (by decide)
  have hai:a≠it:=λz=>by
   obtain⟨_,⟨o,e1,c,d⟩⟩:=st;rw[z,e1]at hol;cases hol;rw[c]at hcl;injection hcl with q;exact absurd q (by decide)
  have W:=WalksT.enumerate (prog:=X.prog) (w:=X.w) (I.ok.hd hc) e it a hei hae hai its.toArray;refine W.item i s _ _ hil ⟨st.1,st.2,p.isList⟩ λT vals h1 tk hP hT hTup hMid kk=>?_;obtain⟨t,v,hv,rfl⟩:=hP;have:v=u:=by rw[show its.toArray[i]? = its[i]? by simp,hu]at hv;cases hv;rfl
  subst this;refine⟨_,rfl,W.go elts k pos i T {s with heap:=h1,toks:=tk} _ _ hMid λh2 hSt kk2=>?_⟩;have hn:=I.hok.fresh hT;have hTw:=W.apart i T h1 hMid;have k2:=λb o hb q=>kk2 b o hb<|kk b o hb q;have hT2:IsTup h2 T #[.int i t,v]:=by
   obtain⟨o,q1,q2⟩:=hTup;exact⟨o,kk2 T o hTw q1,q2⟩
  refine⟨.ref T,upd H T<|.tup [.int i,x],R_ (s:=s) (t':=tk) I hf k2 hT ⟨by show 2<=sizeLine;decide,[.int i t,v],.cons ⟨t,rfl⟩<|.cons ru .nil,hT2⟩,rfl,⟨T,x,hn,rfl,rfl,λys hy=>by rw[I.list_inj hy hq];exact hx⟩,⟨hSt.1,hSt.2.1⟩,λb hb=>?_⟩;have hbT:b≠T:=λz=>hTw (by rw[<-z];exact hb);rw[zy hbT];exact(hf b hb).1
 done:=by
  intro X hP hw hK hc i pins s σ H E I hf st hg;subst hP hw hK;obtain⟨xs,hq,hx⟩:=hg;obtain⟨its,rv,p,hz⟩:=I.list hq;have hl:=rv.length;obtain⟨⟨old,he⟩,hit⟩:=st;obtain⟨f0,f1,f2,f3,f4,f5⟩:=hf it (by simp);exact wpAny_pyNext_enum_end (I.ok.hd hc) he hit p.isList (by simp;omega) λh' eb=>⟨rfl,I.turned (t':=s.toks) (λb o hb e=>eb b o hb e) f0 f1 f3 f4 f5⟩
 self:=λ_ _ _ _ _ st h=>by
  obtain⟨⟨old,he⟩,_⟩:=st;exact wpAny_pyIter_enum he h
section
variable{X:Cx}{tg:Expr}
def OT(K:zzA)(ta:TA):TI:=λσ H R=>ta σ H λvs H1=>∃a,vs=[.ref a]/\(∃xs,Qn K H1 a xs)/\R (D1 K a) H1
def SL{l}{ta}{p pos pos'}{elts}{k:Nat}(hg:Gl X "enumerate")(hm:X.mg "enumerate"=none)(ha:PA X [l] ta)(hs:starEach [l] X.env=[(false,eval l X.env)]):
 PI X (.Tuple elts k pos') (.Call (.Name "enumerate" p) [l] [] pos) (OT X.K ta):=by
 intro pins s σ H R I h;refine Call_<|Za I hg hm boot_enumerate<|PyProof.Rows.callWith_type1 (thn (ha pos pins s σ H _ I h) λus s1 ⟨vs,H1,I1,r1,q1⟩=>?_) hs rfl;obtain⟨a,rfl,⟨xs,hq⟩,q⟩:=q1;cases r1 with
 |cons r rr=>
  cases rr;cases r;obtain⟨its,rv,pl,hz⟩:=I1.list hq;refine call_enumerate_list pl.isList λh' he hit hsz hk=>?_;refine wpAny_pyIter_enum he ⟨s1.heap.objs.size+1,[s1.heap.objs.size+1,s1.heap.objs.size],_,_,H1,rfl,I1.kept (t':=s1.toks) hk,Nx a _ _<|Nat.succ_ne_self _,⟨⟨_,he⟩,hit⟩,λb hb=>?_,q⟩;have hb':s1.heap.objs.size<=b:=by
   rcases zzC.mp hb with rfl|hb
   . exact zyV _
   . rw[zzR.mp hb];exact zzN _
  exact I1.fpOk hb'<|I1.hok.fresh hb'
end
def M7(sep)(ys):Txt.join sep ys=Str.join sep ys:=StrLaws.glued_eq_join sep ys
section
variable{as:AS}{f a b:EF}{s t:Bool}{x y z:D}
def EC:LH (.lst<|xs++ys) none (some (xs.length:Int))=some (.fl xs):=by
 show some _=_
 congr 2
 unfold cutD;rw[HT.Bx,HT.Ec,zzJ,Nat.min_eq_left (by omega),List.drop_zero,Nat.sub_zero,List.take_left]
end
section
variable{X:Cx}{kd:KD}{tg e:Expr}{fa:EF}
def SN{K}{F B}{ad}{H}{v}{st q}{ds}(rp:Rp K kd (Lv F B (Gw [] ad) st) H v (.lst ds))(hq:q=true->st=true):∃a vs,v = .ref a/\(∀(ad3:Ad) (H3:Hp),Grow (Gw [] ad) H (Gw [] ad3) H3->Qn K H3 a vs)/\RpL K kd (Lv F B (Gw [] ad) q) H vs ds:=by
 have le:∀a,Lv F B (Gw [] ad) q a->Lv F B (Gw [] ad) st a:=λa z=>z.imp (λy=>y.imp (λx=>⟨hq x.1,x.2⟩) id) id;cases rp with
 |lst hn hr rl=>exact⟨_,_,rfl,λad3 H3 g3=>.inl<|X2 g3 (λz=>hn<|.inr z) hr,rl.less le⟩
 |lstK a b c rl=>exact⟨_,_,rfl,λad3 H3 g3=>.inr ⟨_,_,_,a,rfl,rfl,rfl,b,c⟩,rl.less le⟩
end
def insI(x:Int):List Int->List Int
 | []=>[x]
 |y::r=>if x<=y then x::y::r else y::insI x r
def sortI:List Int->List Int
 | []=>[]
 |x::r=>insI x<|sortI r
theorem insI_perm(x):∀l:List Int,(insI x l).Perm (x::l)
 | []=>List.Perm.refl _
 |y::r=>by
  unfold insI
  split
  . exact List.Perm.refl _
  . exact((insI_perm x r).cons y).trans<|List.Perm.swap x y r
theorem sortI_perm:∀l:List Int,(sortI l).Perm l
 | []=>List.Perm.refl _
 |x::r=>(insI_perm x _).trans<|(sortI_perm r).cons x
theorem VL(x):∀l:List Int,l.Pairwise (· <= ·)->(insI x l).Pairwise (· <= ·)
 | [],_=>by simp[insI]
 |y::r,h=>by
  unfold insI;rw[List.pairwise_cons]at h
  split
  . rename_i a;rw[List.pairwise_cons,List.pairwise_cons];refine⟨λz b=>?_,h⟩
    rcases zzC.mp b with rfl|b
    . exact a
    . exact Int.le_trans a<|h.1 z b
  . rename_i a;rw[List.pairwise_cons];refine⟨λz b=>?_,VL x r h.2⟩
    rcases zzC.mp ((insI_perm x r).mem_iff.mp b)with rfl|b
    . omega
    . exact h.1 z b
theorem yY:∀l:List Int,(sortI l).Pairwise (· <= ·)
 | []=>List.Pairwise.nil
 |x::r=>VL x _<|yY r
theorem Zj:∀(a b:List Int),a.Perm b->a.Pairwise (· <= ·)->b.Pairwise (· <= ·)->a=b
 | [],b,p,_,_=>by rw[List.nil_perm]at p;exact p.symm
 |x::r,[],p,_,_=>by rw[List.perm_nil]at p;cases p
 |x::r,y::t,p,c,d=>by
  rw[List.pairwise_cons]at c d;have f:x=y:=by
   have h:=p.mem_iff.mp<|zzF ..;have i:=p.mem_iff.mpr<|zzF ..
   rcases zzC.mp h with e|e
   . exact e
   . rcases zzC.mp i with g|g
     . exact g.symm
     . have:=d.1 x e;have:=c.1 y g;omega
  subst f;rw[Zj r t (List.Perm.cons_inv p) c.2 d.2]
def Ll{K O}(h:RpL K kd O H vs ds)(hv:zG vs us)(e:vQ ds=some ns):IntsAre us ns:=
 RpL.ind (P:=λvs ds=>∀us ns,zG vs us->vQ ds=some ns->IntsAre us ns) (λus ns hv e=>by cases e;cases hv;exact .nil) (λ{v d vs ds} a _ ih us ns hv e=>by
  cases hv with
  |cons b t=>
   cases a with
   |int x=>
    obtain⟨ys,h1,h2⟩:=bS_<|e;cases h2;obtain⟨tk,rfl⟩:=b;exact .cons _ _ (ih _ _ t h1)
   |_=>cases e) h us ns hv e
theorem vg:∀{us:List Value}{ns:List Int},IntsAre us ns->zG (ns.map V.int) us
 |_,_,.nil=>.nil
 |_,_,.cons n t r=>.cons ⟨t,rfl⟩<|vg r
theorem Us{K O}:∀ns:List Int,RpL K kd O H (ns.map V.int)<|ns.map D.int
 | []=>.nil
 |y::r=>.cons (.int y)<|Us r
def FQ:List D->Option R0:=HG λx=>(Sk x).bind λds=>(vQ ds).bind λns=>if ns.length<64 then some (.fl<|(sortI ns).map .int)else none
section
variable{X:Cx}{kd:KD}
def Ki:ZU X kd (.builtin "sorted") FQ:=by
 intro pins s σ H xs us Q I r h;obtain⟨O,ds,z,ht,vl,he,q⟩:=h;obtain⟨x,d,rfl,vx,he⟩:=XD vl he;obtain⟨ds,h0,he2⟩:=bS_<|he;cases VB h0
 . obtain⟨ns,h1,he⟩:=bS_ he2;obtain⟨hz,he⟩:=zu he;cases he;cases vx with
   |lst hr rl=>
    obtain⟨u,rfl,ru⟩:=vals1 r;cases ru;obtain⟨its,rv,pl,_⟩:=I.list hr.sq;have hI:=Ll rl rv h1;have hl:=hI.length;refine sorted_ints pl.isList hI (by omega) λout ns' a1 a2 a3=>?_;have e:=Zj _ _ (a2.trans (sortI_perm ns).symm) a3<|yY ns;subst e;obtain⟨ee,hob⟩:=sortedAll_at s.heap its out;have hn:=I.hok.fresh<|zyV _;refine⟨.ref _,_,I.laid (t':=s.toks) (λb o e=>sortedAll_old e) (zyV _) (show xf X.prog X.w _ _ _ (.lst _)from⟨?_,out.toList,ee,vg a1,by simpa[seqObj]using hob⟩),rfl,YA q (Us _) _ hn⟩;rw[zzB,(sortI_perm ns).length_eq];exact Nat.le_of_lt (zM<|by omega)
end
theorem V5:∀{vs:List V}{us:List Value},vs.length=us.length->(∀(i:Nat) v u,vs[i]? = some v->us[i]? = some u->RelV v u)->zG vs us
 | [],[],_,_=>.nil
 | [],_::_,h,_=>by simp at h
 |_::_,[],h,_=>by simp at h
 |v::c,u::d,h,k=>.cons (k 0 v u rfl rfl) (V5 (by simpa using h) λi a b x y=>k (i+1) a b (by simpa using x)<|by simpa using y)
section
variable{X:Cx}{tg:Expr}
def Jp(ta:TA):TE:=λσ H Q=>ta σ H λvs H1=>∃j:Int,vs=[.int j] /\ -(2 ^ 62)<=j/\j<2 ^ 62/\∀r,H1 r=none->Q (.ref r) (upd H1 r<|.rng 0 j)
def Fe(hg:Gl X "range")(hm:X.mg "range"=none)(ha:PA X [a] ta)(hs:starEach [a] X.env=[(false,eval a X.env)]):PE X (.Call (.Name "range" p) [a] [] pos) (Jp ta):=by
 intro c s σ H Q I h;refine Call_<|Za I hg hm boot_range<|PyProof.Rows.callWith_type1 (thn (ha pos c s σ H _ I h) λl f ⟨m,n,d,g,i⟩=>?_) hs rfl;obtain⟨j,e,u,v,q⟩:=i;subst e;cases g with
 |cons r k=>
  cases k;obtain⟨t,rfl⟩:=r;exact call_range_1 ⟨.ref f.heap.objs.size,_,d.laid (λb o e=>zxG _ e) (zzN _) (show xf X.prog X.w _ _ _ (.rng 0 j)from⟨_,_,_,zxI _ rfl⟩),rfl,q _<|d.hok.fresh<|zzN _⟩
def uZ(ta:TA):TE:=λσ H Q=>HL (Jp ta) TL σ H λvs H2=>∃r H1,∃j:Int,vs=[.ref r]/\H1 r=none/\H2=upd H1 r (.rng 0 j)/\0<=j/\j<=100000/\∀l,H2 l=none->Q (.ref l) (upd H2 l<|.lst<|(List.range j.toNat).map λ(i:Nat)=>V.int i)
def Mc(hc:X.calm=true)(hg:Gl X "range")(hm:X.mg "range"=none)(hgl:Gl X "list")(hml:X.mg "list"=none)(ha:PA X [a] ta)(hs:starEach [a] X.env=[(false,eval a X.env)])
 (hs':starEach [.Call (.Name "range" p) [a] [] pos] X.env=[(false,eval (.Call (.Name "range" p) [a] [] pos) X.env)]):PE X (.Call (.Name "list" p') [.Call (.Name "range" p) [a] [] pos] [] pos') (uZ ta):=by
 intro b s σ H Q I h;refine Call_<|Za I hgl hml Bt.list<|PyProof.Rows.callWith_type1 (thn ((wQ (Fe hg hm ha hs) Vq hs') pos' b s σ H (λD g=>∃r o,∃j:Int,D=[.ref r]/\o r=none/\g=upd o r (.rng 0 j)/\0<=j/\j<=100000/\∀l,g l=none->Q (.ref l) (upd g l<|.lst<|(List.range j.toNat).map λ(i:Nat)=>V.int i)) I ?_) λP E ⟨D,g,m,F,G⟩=>?_) hs' rfl
 . exact h
 obtain⟨r,o,j,rfl,R,rfl,S,T,q⟩:=G;cases F with
 |cons J K=>
  cases K;cases J;obtain⟨t,u,v,L⟩:=m.hok r _<|zO ..;have z:Builtin.Range.rangeSize 0 j 1=(j.toNat:Nat):=by rw[rangeSize_one];split<;>omega
  refine call_list_range (m.ok.hd hc) L (small_one (by omega) (by omega) (by omega)<|by omega) (by exact_mod_cast z) (by omega) λU W A M N B c=>?_;refine⟨.ref E.heap.objs.size,_,m.laid N (zzN _) (show xf X.prog X.w _ _ _ (.lst _)from⟨?_,A.toList,M, ?_,by simpa using B⟩),rfl,q _<|m.hok.fresh<|zzN _⟩
  . rw[zzB,zyT];exact zzO (show j.toNat<=100000 by omega) (by decide)
  . refine V5 (by rw[zzB,zyT];simpa using c.1.symm) λi x y d O=>?_;rw[zzI]at d;obtain⟨C,e⟩:=c.2 i y (by simpa using O);cases hr:(List.range j.toNat)[i]? with
    |none=>rw[hr]at d;cases d
    |some k=>
     rw[hr]at d;obtain⟨_,f⟩:=zzG.mp hr;rw[List.getElem_range]at f;subst f;cases d;exact⟨C,by rw[e];simp⟩
end
section
variable{X:Cx}{kd:KD}
def J3:List D->Option R0
 | [.int j]=>if 0<=j/\j<=100000 then some (.fl<|(List.range j.toNat).map λ(i:Nat)=>.int i)else none
 |_=>none
theorem Ng{K O}:∀l:List Nat,RpL K kd O H (l.map λ(i:Nat)=>V.int i)<|l.map λ(i:Nat)=>D.int i
 | []=>.nil
 |y::r=>.cons (.int y)<|Ng r
def Ry(hc:X.calm=true)(hg:Gl X "range")(hm:X.mg "range"=none)(hgl:Gl X "list")(hml:X.mg "list"=none)(ha:AA X kd [a] fr)(hs:starEach [a] X.env=[(false,eval a X.env)])
 (hs':starEach [.Call (.Name "range" p) [a] [] pos] X.env=[(false,eval (.Call (.Name "range" p) [a] [] pos) X.env)]):AE X kd (.Call (.Name "list" p') [.Call (.Name "range" p) [a] [] pos] [] pos') (fP fr J3):=by
 with_unfolding_all exact(yr (Mc hc hg hm hgl hml ha hs hs') λσ H Q h=>by
  obtain⟨F,B,y,as,r,A,R,e,q⟩:=h;obtain⟨⟨C,d⟩,D,e⟩:=bS_<|e;obtain⟨⟨E,Z⟩,f,e⟩:=bS_ e;obtain⟨G,g,e⟩:=bS_ e;obtain⟨z,I,e⟩:=bS_ e;cases e
  match E,g,f with
  | [.int j],g,f=>
   obtain⟨⟨J,L⟩,M⟩:=zu<|g;cases M;refine(⟨F,B,y,as,C,d,R,D,λvs k u v m N=>?_⟩);have O:=Zy v m f;have P:=vO v I λw S T U n V=>q w S k T U n<|N.trans V;cases O with
   |cons W Y=>
    cases Y;cases W;refine⟨j,rfl,by omega,by omega,λr x=>⟨r,u,j,rfl,x,rfl,J,L,λl c=>?_⟩⟩;have s:l≠r:=λe=>by rw[e,zO]at c;cases c
    have t:u l=none:=by rw[zy s]at c;exact c
    exact P l _ _ t (λb o q=>vv c b o<|vv x b o q) zO<|Ng _)
end
theorem LC:∀(ls:List O) {vs:List V}{fp:List Addr},ls.all O.isLf=true->RoL L N H vs ls fp->fp=[]
 | [],_,_,_,r=>by cases r;rfl
 |o::ls,_,_,h,r=>by
  rw[List.all_cons,zyB]at h;cases r with
  |cons a r=>
   cases a with
   |lf _=>rw[LC ls h.2 r];rfl
   |_=>exact absurd h.1 (by simp[O.isLf])
def Pi(h:RoL L N H vs ls fp):vs.length=ls.length:=RoL.length h
def PM(i:Nat)(f:SF):SF:=λas=>match as[i]? with
 |some (some o)=>f (as.set i<|some o.frz)
 |_=>none
def FD{K ad}{i:Nat}{D}:∀{o:Out},Rb K kd F B ad H D o->Rb K kd F B (yq ad i []) H D o
 | .nx _,q=>λc a b R g=>q c a b R<|(Grow.less yz).trans g
 | .ct _,q=>λc a b R g=>q c a b R<|(Grow.less yz).trans g
 | .bk _,q=>λc a b R g=>q c a b R<|(Grow.less yz).trans g
 | .rt _,q=>λv T b d g=>q v T b d<|(Grow.less yz).trans g
def QB(h:Gq X kd body f):Gq X kd body (PM i f):=by
 with_unfolding_all exact(XX h λD σ H h=>by
  obtain⟨F,B,a,as,o,R,e,q⟩:=h;unfold PM at e;cases k:as[i]? with
  |none=>rw[k]at e;cases e
  |some s=>
   rw[k]at e;cases s with
   |none=>cases e
   |some b=>
    exact⟨F,B,yq a i [],_,o,(R.frz k).1,e,FD q⟩)
section
variable{K:zzA}{kd:KD}{F B G:Addr->Prop}{H:Hp}
theorem Gc{st}(h:L st v d):∀(os:List O) {vs:List V}{fp:List Addr},RoL L N H vs os fp->RoL L N H (vs++[v]) (os++[.lf st d]) fp
 | [],_,_,r=>by cases r;exact .cons (.lf h) .nil
 |o::b,_,_,r=>by
  cases r with
  |cons a r=>
   exact .cons a<|Gc h b r
end
section
variable{K:zzA}{kd:KD}{F B G:Addr->Prop}{H:Hp}
def Zh(hp:G p):Grow G H G (upd H p u):=⟨λb w h n=>by rw[zy λe=>n<|by subst e;exact hp];exact h,λb z=>.inl z⟩
theorem Pl:∀(os:List O) {vs:List V}{fp:List Addr}{n:Nat}{o:O},x9 K kd F B G H vs os fp->fp.Nodup->(∀a ∈ fp,G a)->os[n]? = some o->
 ∃v f,vs[n]? = some v/\xt K kd F B G H v o f/\f.Nodup/\(∀a ∈ f,a ∈ fp)/\∀(p:Addr) (u:HO) (o':O),p ∈ f->xt K kd F B G (upd H p u) v o' f->x9 K kd F B G (upd H p u) vs (os.set n o') fp
 | [],_,_,_,_,_,_,_,e=>by simp at e
 |E::k,_,_,n,o,r,l,c,e=>by
  cases r with
  |cons a r=>
   rename_i v I q J;obtain⟨s,t,i⟩:=zxD.mp l;cases n with
   |zero=>
    simp at e;subst e;exact⟨v,q,rfl,a,s,λx m=>zzP _ m,λp u j b d=>.cons d<|x9.grow (Zh<|c p<|zzP _ b) (λx m w h=>by rw[zy λe=>i p b x m e.symm];exact h) r⟩
   |succ n=>
    obtain⟨y,f,z,A,C,g,D⟩:=Pl k r t (λx m=>c x<|zzL _ m) (by simpa using e);exact⟨y,f,by simpa using z,A,C,λx m=>zzL _<|g x m,λp u j b d=>.cons (xt.grow (Zh<|c p<|zzL _<|g p b) (λx m w h=>by rw[zy λe=>i x m p (g p b) e];exact h) a)<|D p u j b d⟩
theorem RM(h:L st' v d'):∀(os:List O) {vs:List V}{fp:List Addr}{n:Nat}{st:Bool}{d:D},RoL L N H vs os fp->os[n]? = some (.lf st d)->RoL L N H (vs.set n v) (os.set n<|.lf st' d') fp
 | [],_,_,_,_,_,_,e=>by simp at e
 |f::b,_,_,n,c,d,r,e=>by
  cases r with
  |cons a r=>
   cases n with
   |zero=>
    simp at e;subst e;cases a with
    |lf _=>exact .cons (.lf h) r
   |succ n=>exact .cons a (RM h b r<|by simpa using e)
def B6{n:Nat}{st}(c)(r:xt K kd F B G H v (.nd .ls inner) fp)(hn:fp.Nodup)(hG:∀a ∈ fp,G a)(e:inner[n]? = some (.lf st d)):
 ∃p ivs,v = .ref p/\p ∈ fp/\H p=some (.lst ivs)/\n<ivs.length/\xt K kd F B G (upd H p<|.lst<|ivs.set n<|.int c) v (.nd .ls<|inner.set n<|.lf true<|.int c) fp:=by
 cases r with
 |ls hp ir=>
  rename_i p ivs ifp;have hpfp:=(zzW.mp hn).1;refine⟨p,ivs,rfl,zzF ..,hp,by rw[Pi ir];exact(zzG.mp e).1,.ls zO<|RM (.int c) inner (x9.grow (Zh<|hG p<|zzF ..) (λx m w h=>by rw[zy λe=>hpfp<|by subst e;exact m];exact h) ir) e⟩
def C_{os}{n:Nat}(r:xt K kd F B G H v (.nd .ls os) fp)(hn:fp.Nodup)(hG:∀a ∈ fp,G a)(e:os[n]? = some o):
 ∃l vs w f,v = .ref l/\H l=some (.lst vs)/\vs[n]? = some w/\xt K kd F B G H w o f/\f.Nodup/\(∀a ∈ f,a ∈ fp)/\∀(p:Addr) (u:HO) (o':O),p ∈ f->xt K kd F B G (upd H p u) w o' f->xt K kd F B G (upd H p u) v (.nd .ls<|os.set n o') fp:=by
 cases r with
 |ls c g=>
  rename_i l h i;obtain⟨w,f,j,k,q,d,s⟩:=Pl os g (zzW.mp hn).2 (λa m=>hG a<|zzD _ m) e;exact⟨l,h,w,f,rfl,c,j,k,q,λa m=>zzD _<|d a m,λp u t b x=>.ls (by rw[zy λe=>(zzW.mp hn).1<|by rw[e];exact d p b];exact c)<|s p u t b x⟩
def Ug{os}{n:Nat}(r:xt K kd F B G H v (.nd .tp os) fp)(hn:fp.Nodup)(hG:∀a ∈ fp,G a)(e:os[n]? = some o):
 ∃l vs w f,v = .ref l/\H l=some (.tup vs)/\vs[n]? = some w/\xt K kd F B G H w o f/\f.Nodup/\(∀a ∈ f,a ∈ fp)/\∀(p:Addr) (u:HO) (o':O),p ∈ f->xt K kd F B G (upd H p u) w o' f->xt K kd F B G (upd H p u) v (.nd .tp<|os.set n o') fp:=by
 cases r with
 |tp c d h=>
  rename_i l i;obtain⟨w,f,j,k,m,g,q⟩:=Pl os h hn hG e;exact⟨l,i,w,f,rfl,d,j,k,m,g,λp u s b t=>.tp c (by rw[zy λe=>c<|.inr<|by rw[e];exact hG p<|g p b];exact d)<|q p u s b t⟩
end
section
variable{K:zzA}{kd:KD}{F B:Addr->Prop}{ad:Ad}{as:AS}{σ:St}{H:Hp}{i:Nat}{o:O}
def Rel.slotU(R:Rel K kd F B [] ad as σ H)(k:as[i]? = some (some o)):
 ∃v,σ[i]? = some (some v)/\xt K kd F B (Gw [] ad) H v o (ad i)/\(ad i).Nodup/\(∀a ∈ ad i,Gw [] ad a)/\
  ∀(p:Addr) (u:HO) (o':O),p ∈ ad i->xt K kd F B (Gw [] ad) (upd H p u) v o' (ad i)->Rel K kd F B [] ad (as.set i<|some o') σ (upd H p u)/\Grow (Gw [] ad) H (Gw [] ad) (upd H p u):=by
 obtain⟨v,d,n⟩:=R.sl i _ k;have r:=(zzG.mp k).1;refine⟨v,d,n,R.nd i,λa m=>.inr ⟨i,m⟩,λp u t f b=>?_⟩;have g:Grow _ H (Gw [] ad) (upd H p u):=Zh<|.inr ⟨i,f⟩;have c:∀a,H a≠none->upd H p u a≠none:=λa z=>by
  by_cases e:a=p
  . subst e;rw[zO];simp
  . rw[zy e];exact z
 refine⟨⟨by rw[zzU];exact R.len,λj l=>R.out j (by rw[zzU]at l;exact l),R.nd,R.inj,R.tnd,R.dis,λa z=>c a<|R.ftr a z,λa z=>⟨c a (R.btr a z).1,(R.btr a z).2⟩,λa z=>⟨c a (R.gtr a z).1,(R.gtr a z).2⟩,λj s e=>?_⟩,g⟩
 by_cases q:j=i
 . subst q;rw[zyJ r]at e;cases e;exact⟨v,d,b⟩
 . rw[zzX<|Ne.symm q]at e;exact(R.sl j s e).grow g λa m u h=>by rw[zy λe=>q<|R.inj j i a m<|by rw[e];exact f];exact h
end
abbrev Eg:=AS->Option Int
def uo(K:zzA)(kd:KD)(f:Eg):TE:=λσ H Q=>∃F B ad as k,Rel K kd F B [] ad as σ H/\f as=some k/\Q (.int k) H
@[irreducible] def AK(X:Cx)(kd:KD)(e:Expr)(f:Eg):Prop:=PE X e<|uo X.K kd f
def YY:O->Option (List O)
 | .nd .ls os=>some os
 |_=>none
def Pk:O->Option (List O)
 | .nd .tp os=>some os
 |_=>none
def UO:O->Option D
 | .lf _ d=>some d
 |_=>none
def GV{α:Type}(f:O->Option α)(os:List O)(k:Nat):Option α:=os[k]?.bind f
def XA{α:Type}(f:O->Option α)(as:AS)(i:Nat):Option α:=as[i]?.bind λs=>s.bind f
def LN{os}(h:YY o=some os):o = .nd .ls os:=by
 cases o with
 |lf s d=>cases h
 |nd k a=>cases k<;>cases h;rfl
def Sx{os}(h:Pk o=some os):o = .nd .tp os:=by
 cases o with
 |lf s d=>cases h
 |nd k a=>cases k<;>cases h;rfl
def L6(h:UO o=some d):∃st,o = .lf st d:=by
 cases o with
 |lf s d=>cases h;exact⟨s,rfl⟩
 |nd k a=>cases h
def Ei{α:Type}{f os}{k:Nat}{a:α}(h:GV f os k=some a):∃o,os[k]? = some o/\f o=some a:=bS_ h
def Q3(h:XA f as k=some a):∃o,as[k]? = some (some o)/\f o=some a:=by
 obtain⟨s,b,h⟩:=bS_ h;obtain⟨o,rfl,h⟩:=bS_ h;exact⟨o,b,h⟩
def N6{os inner:List O}{k:Nat}(h:GV YY os k=some inner):os[k]? = some (.nd .ls inner):=by
 obtain⟨o,a,h⟩:=Ei h;cases LN h;exact a
def Ao{os}{d:D}{k:Nat}(h:GV UO os k=some d):∃st,os[k]? = some (.lf st d):=by
 obtain⟨o,a,h⟩:=Ei h;obtain⟨b,rfl⟩:=L6 h;exact⟨b,a⟩
def CV{inner}{k:Nat}(h:XA YY as k=some inner):as[k]? = some (some<|.nd .ls inner):=by
 obtain⟨o,a,h⟩:=Q3 h;cases LN h;exact a
def Im(h:XA UO as k=some d):∃st,as[k]? = some (some<|.lf st d):=by
 obtain⟨o,a,h⟩:=Q3 h;obtain⟨b,rfl⟩:=L6 h;exact⟨b,a⟩
def L5{α:Type}{f os}{k:Nat}{a:α}(h:os[k]? = some o)(e:f o=some a):GV f os k=some a:=by unfold GV;rw[h];exact e
def LQ(h:as[k]? = some (some o))(e:f o=some a):XA f as k=some a:=by unfold XA;rw[h];exact e
def xV(i:Nat):Eg:=λas=>(XA UO as i).bind P3
def GQ(i:Nat)(f:Eg):Eg:=λas=>(f as).bind λk=>if 0<=k then(XA UO as i).bind λd=>(Sk d).bind λds=>ds[k.toNat]?.bind P3 else none
section
variable{X:Cx}{kd:KD}{f g:Eg}{a b:Expr}
def XM(hv:PE X (.Name x p) (YZ i)):AK X kd (.Name x p) (xV i):=by
 with_unfolding_all exact(yr hv λσ H Q h=>by
  obtain⟨F,B,ad,as,k,R,e,q⟩:=h;obtain⟨d,e1,e⟩:=bS_<|e;cases Tc e;obtain⟨st,k1⟩:=Im e1;obtain⟨v,hv,ro⟩:=R.sl i _ k1;generalize ad i=fp at ro;cases ro with
  |lf rp=>cases rp;exact⟨_,hv,q⟩)
def RR(hv:PE X (.Name x p) (YZ i))(hb:AK X kd b f)(hs:vY b):AK X kd (.Subscript (.Name x p) b pos) (GQ i f):=by
 with_unfolding_all exact(yr (RJ Pt hv hb hs) λσ H Q h=>by
  obtain⟨F,B,ad,as,c,R,e,q⟩:=h;obtain⟨k,h1,e⟩:=bS_<|e;obtain⟨hk,e⟩:=ite_some' e;obtain⟨d0,e1,e3⟩:=bS_ e;obtain⟨ds,e2,e4⟩:=bS_ e3;obtain⟨d,k2,e5⟩:=bS_ e4;cases VB e2;cases Tc e5;obtain⟨st,k1⟩:=Im e1;obtain⟨v,hv,ro⟩:=R.sl i _ k1;generalize ad i=fp at ro;cases ro with
  |lf rp=>
   obtain⟨l,vs,rfl,hq,rl⟩:=SN rp λz=>z;obtain⟨w,hw,rw'⟩:=rl.get k2;cases rw';refine⟨_,hv,F,B,ad,as,k,R,h1,l,vs,k,_,rfl,rfl,hq ad H Grow.refl, ?_,q⟩;have:=y6 hw;rw[zyX hk]at this;exact this)
end
def X3(i:Nat)(f1 f2 fv:Eg):SF:=λas=>(f1 as).bind λk1=>(f2 as).bind λk2=>(fv as).bind λc=>if 0<=k1/\0<=k2 then(XA YY as i).bind λos=>(GV YY os k1.toNat).bind λinner=>(GV UO inner k2.toNat).bind λ_=>some (.nx<|as.set i<|some<|.nd .ls<|os.set k1.toNat<|.nd .ls<|inner.set k2.toNat<|.lf true<|.int c)else none
def Bz(h:j<n):FV n (j:Int)=some j:=by
 unfold FV;rw[if_pos (by omega),if_pos<|by omega];simp
def SA(h0:0<=k)(h:k.toNat<n):FV n k=some k.toNat:=by
 have:=Bz h;rw[show(k.toNat:Int)=k by omega]at this;exact this
def BP(h0:0<=k)(h:xs[k.toNat]? = some v):Tn xs k=some v:=by
 have:=y6 h;rw[show(k.toNat:Int)=k by omega]at this;exact this
section
variable{X:Cx}{kd:KD}{f f1 f2 f3 fv:Eg}{e1 e2 e3 ev:Expr}{i y:Nat}
def Pq(ho:PE X (.Name x p) (YZ i))(h1:AK X kd e1 f1)(hp1:vY e1)(h2:AK X kd e2 f2)(hv:AK X kd ev fv)
 (ha:∀v,assign (.Subscript (.Subscript (.Name x p) e1 p1) e2 tpos) X.env v=(do
  let ov <-holding [v] (eval (.Subscript (.Name x p) e1 p1) X.env);let iv <-holding [v,ov] (eval e2 X.env)
  standAt tpos
  holding [v,ov,iv] (setItem ov iv v)
  release [v,ov,iv] []))
 (hs:swapsWithSole [.Subscript (.Subscript (.Name x p) e1 p1) e2 tpos] ev pos.line X.env=pure false) (hw:swappedStores [.Subscript (.Subscript (.Name x p) e1 p1) e2 tpos] ev X.env=pure none)
 (hm:(assignEach [.Subscript (.Subscript (.Name x p) e1 p1) e2 tpos] X.env).map (·.2)=[assign (.Subscript (.Subscript (.Name x p) e1 p1) e2 tpos) X.env]):
 QM X kd (.Assign [.Subscript (.Subscript (.Name x p) e1 p1) e2 tpos] ev pos) (X3 i f1 f2 fv):=by
 with_unfolding_all exact(yU (MT hv (Cd (RJ Pt ho h1 hp1) h2 set_list ha) hs hw hm) λD σ H h=>by
  obtain⟨F,B,b,as,o,R,e,q⟩:=h;obtain⟨z,G,e⟩:=bS_<|e;obtain⟨f,I,e⟩:=bS_ e;obtain⟨c,J,e⟩:=bS_ e;obtain⟨⟨g,j⟩,e⟩:=ite_some' e;obtain⟨os,K,e⟩:=bS_ e;obtain⟨k,L,e⟩:=bS_ e;obtain⟨d,M,e⟩:=bS_ e;have N:=CV K;have O:=N6 L;obtain⟨st,P⟩:=Ao M;cases e;obtain⟨v,sv,Q,S,A,T⟩:=R.slotU N;obtain⟨l,U,w,fw,rfl,V,n,r,W,C,s⟩:=C_ Q S A O;obtain⟨p,t,rfl,E,u,Y,y⟩:=B6 c r W (λa m=>A a<|C a m) P;obtain⟨R2,Z⟩:=T p _ _ (C p E)<|s p _ _ E y;exact⟨F,B,b,as,c,R,J,_,sv,F,B,b,as,z,R,G,l,U,z,_,rfl,rfl,.inl<|.inl V,BP g n,F,B,b,as,f,R,I,p,t,f,f.toNat,rfl,rfl,u,SA j Y,q σ b _ R2 Z⟩)
end
def Pw:typeLookup (.type "list") "keys"=pure none:=am_miss_of_fast (by decide +kernel)
def K4
 (hx:s.heap.get? a=some o) (hc:o.cls = .type "list") (hdat:o.data = .seq xs k) (hd:o.dict=none) (hA:A.handled=none)
 (h:∀h' tk,(∀b o,s.heap.get? b=some o->h'.get? b=some o)->Q none {s with heap:=h',toks:=tk}):
 wpAny (model prog w) A (getAttr? (.ref a) "keys") Q E s:=by
 obtain⟨c,dct,dat,sl⟩:=o;simp only at hc hdat hd;subst hc hdat hd;obtain⟨hp,g,d,tk,os⟩:=s;have hT:∀tk',(⟨hp,g,d,tk',os⟩:Shared).TypeIs (.ref a) "list":=λ_=>⟨_,hx,rfl⟩;have f1:=sub_AttributeError;have f3:=F.slot_list_getattribute.lookup;have f4:=F.slot_list_getattribute.bind<|.ref a;have f5:=am_list_getattr_none;unfold getAttr? getAttrBy? getAttrBy
 repeat (any_goals (first|assumption|exact hT _|((with_reducible show wpAny _ _ (call _ _ _) _ _ _);refine call_meets F.slot_list_getattribute (hT _) am_entry_list_getattribute (F.args_list_getattribute_2 _ _) (meets_getattribute_miss_list a xs k sl "keys" _ Pw<|by decide +kernel) ⟨hx,hA,λh' tk' e hx'=>?_⟩)|wp_step))
 obtain⟨t',u',he⟩:=hx'.there;unfold getattributeRaised
 repeat (any_goals (first|assumption|wp_step))
 exact h _ _ hx'.keeps
def xT:plainId "dict.update.loop"=true:=by decide +kernel
theorem Yg:entryFor table "dict.update.loop"=some Builtin.«dict.update.loop» := entryFor_of_fast (by kernel_rfl)
section
variable{prog:Program}{w:World}{κ:Type}[DecidableEq κ]{knd:KeyKind prog w κ}{A:Around}{R:Result->Shared->Prop}{d I l:Addr}{items:Array Value}{N:Nat}
def putAll(kvs:List (κ×Value)):List (κ×Value)->List (κ×Value)
 | []=>kvs
 |p::r=>putAll (stored kvs p.1 p.2) r
def KU(kvs)(k:κ)(v):(stored kvs k v).length<=kvs.length+1:=by
 unfold stored
 split
 . rw[zzB];omega
 . rw[zzJ];exact zzN _
def Uw(hh:A.handled=none)(hdN:N<=d)(hIN:N<=I)(hdI:d≠I)(hlN:l<N):∀(rest:List (κ×Value)) (i:Nat) (s:Shared) (kvs:List (κ×Value)),s.heap.IsListIter I l i->s.heap.IsList l items->s.heap.DictOf knd d kvs->kvs.length+rest.length<=sizeLine->
 (∀j p,rest[j]? = some p->∃q key,items[i+j]? = some (.ref q)/\q<N/\IsTup s.heap q #[key,p.2]/\knd.is p.1 key=true)->items[i+rest.length]? = none->
 (∀h' tk,h'.DictOf knd d (putAll kvs rest)->(∀b o,b<N->s.heap.get? b=some o->h'.get? b=some o)->R (.ok<|.ret .none) {s with heap:=h',toks:=tk})->
 codeAny (model prog w) A (.builtin "dict.update.loop" ⟨[.ref d,.ref I,rawInt i,.none],[]⟩) R s:=by
 intro rest
 induction rest with
 |nil=>
  intro i s kvs hit hl hm hz hp he hR;refine zxN Yg ?_;rw[zxK xT _];refine zxE<|wpAny_pyNext_list_end hh hit hl he λh' hx=>?_;refine zxE<|zxF<|zxF ?_;obtain⟨o,es,ep,ho,r⟩:=hm;exact hR h' s.toks ⟨o,es,ep,hx d o hdI ho,r⟩ λb o hb e=>hx b o (zzQ<|zzK hb hIN) e
 |cons p rest ih=>
  intro i s kvs hit hl hm hz hp he hR;obtain⟨q,key,hq,hqN,ht,hkey⟩:=hp 0 p rfl;refine zxN Yg ?_;rw[zxK xT _];refine zxE<|wpAny_pyNext_list_item hit hl hq λh' hit' hs=>?_;have sm:∀b o,b≠I->s.heap.get? b=some o->h'.get? b=some o:=λb o hb e=>(hs.2 b hb).trans e;obtain⟨oq,hoq,hcq,nq,hdq⟩:=ht;have hoq':=sm q oq (zzQ<|zzK hqN hIN) hoq;have hm':h'.DictOf knd d kvs:=let⟨o,es,ep,ho,r⟩:=hm;⟨o,es,ep,sm d o hdI ho,r⟩;have hl':h'.IsList l items:=let⟨o,ho,r⟩:=hl;⟨o,sm l o (zzQ<|zzK hlN hIN) ho,r⟩;have hT:({s with heap:=h'}:Shared).TypeIs (.ref q) "tuple":=⟨oq,hoq',hcq⟩;refine zxE<|zxL<|zxE<|wpAny_tryCatch ?_;unfold Builtin.Dict.pairItems;refine zxE<|wpAny_typeOf hT ?_;rw[if_pos<|by decide];refine zxE<|wpAny_seqItems hoq' hdq<|zxF ?_;refine zxL<|wpAny_dictSet_pairs hkey hm' λh'' hm'' hs''=>?_;have sm2:∀b o,b≠d->h'.get? b=some o->h''.get? b=some o:=λb o hb e=>(hs''.2 b hb).trans e;refine zxF ⟨zxO xT _, ?_⟩;have hit'':h''.IsListIter I l (i+1):=let⟨o,ho,r⟩:=hit';⟨o,sm2 I o (Ne.symm hdI) ho,r⟩;have hl'':h''.IsList l items:=let⟨o,ho,r⟩:=hl';⟨o,sm2 l o (zzQ<|zzK hlN hdN) ho,r⟩;have keep:=λb o hb e=>sm2 b o (zzQ<|zzK hb hdN)<|sm b o (zzQ<|zzK hb hIN) e;have:=ih (i+1) {s with heap:=h'',toks:=s.toks+1} _ hit'' hl'' hm'' (by have:=KU kvs p.1 p.2;simp only[zzT]at hz;omega)
   (λj p' hj=>by
    obtain⟨q',key',a1,a2,⟨o',a3,a4⟩,a5⟩:=hp (j+1) p' (by simpa using hj);exact⟨q',key',by rw[show i+1+j=i+(j+1) by omega];exact a1,a2,⟨o',keep q' o' a2 a3,a4⟩,a5⟩)
   (by rw[show i+1+rest.length=i+(p::rest).length by simp only[zzT];omega];exact he)
   (λh3 tk hm3 k3=>hR h3 tk hm3 λb o hb e=>k3 b o hb<|keep b o hb e)
  exact this
end
def QZ{κ:Type}[DecidableEq κ]{knd:KeyKind prog w κ}{n:Nat}{ps}(hh:A.handled=none)
 (ho:s.heap.get? l=some o) (hc:o.cls = .type "list") (hd:o.data = .seq items n) (hn:o.dict=none) (hsz:ps.length<=sizeLine)
 (hp:∀(j:Nat) (p:κ×Value),ps[j]? = some p->∃(q:Addr) (key:Value),items[j]? = some (Value.ref q)/\IsTup s.heap q #[key,p.2]/\knd.is p.1 key=true) (he:items[ps.length]? = none)
 (h:∀h' tk,h'.DictOf knd s.heap.objs.size (putAll [] ps)->(∀b o,s.heap.get? b=some o->h'.get? b=some o)->Q (.ref s.heap.objs.size) {s with heap:=h',toks:=tk}):wpAny (model prog w) A (call (.type "dict") [.ref l]) Q E s:=by
 refine callType_codes (Q₁:=λd z=>d = .ref s.heap.objs.size/\z={s with heap:=s.heap.push {cls:=.type "dict",data:=.dict #[]}}) F.kt_called_dict (F.kt_typeCall_dict_1 _) F.entry_dict_init (kt_code_dict_new _ ⟨rfl,rfl⟩) ?_
 rintro d z ⟨rfl,rfl⟩
 have a:(s.heap.push {cls:=.type "dict",data:=.dict #[]}).DictOf knd s.heap.objs.size []:=Heap.DictOf.new s.heap;have f:∀b o,s.heap.get? b=some o->(s.heap.push {cls:=.type "dict",data:=.dict #[]}).get? b=some o:=λb o e=>zxG _ e;have C:({s with heap:=s.heap.push {cls:=.type "dict",data:=.dict #[]}}:Shared).TypeIs (.ref l) "list":=⟨o,f l o ho,hc⟩;refine⟨a.typeIs,F.args_dict_init_2 _ _, ?_⟩;unfold Builtin.«dict.__init__»;refine zxE ?_;unfold Builtin.Dict.selfAndRest;refine zxE<|wpAny_notOrdered_dict a.typeIs ?_;refine zxF ?_;show wpAny _ _ (Builtin.Dict.updateFrom "dict.__init__" s.heap.objs.size _ [] .none) _ _ _;unfold Builtin.Dict.updateFrom;refine zxE<|wpAny_typeOf C ?_;rw[if_pos<|by decide];refine zxE<|K4 (f l o ho) hc hd hn hh λg v i=>?_;rw[if_pos<|by decide];refine zxE<|wpAny_rule ?_;have k:=i l o<|f l o ho;have x:g.IsList l items:=⟨o,k,hc,n,hd⟩;refine zxE<|wpAny_pyIter_list x ?_;have t:∀b o,g.get? b=some o->(g.push {cls:=.type "list_iterator",data:=.fields #[.ref l,.int 0 0]}).get? b=some o:=λb o e=>zxG _ e;have m:s.heap.objs.size<g.objs.size:=by
  obtain⟨u,_,_,c,_⟩:=a;exact zxH<|i _ _ c
 refine zxF ⟨zxO xT _, ?_⟩;refine Uw (A:=A.in1) (knd:=knd) hh (zzN _) (Nat.le_of_lt m) (zzQ m) (zxH ho) ps 0 {s with heap:=g.push {cls:=.type "list_iterator",data:=.fields #[.ref l,.int 0 0]},toks:=v} [] ⟨_,zxI _ rfl,rfl,rfl⟩ ⟨o,t l o k,hc,n,hd⟩ ?_ (by rw[List.length_nil];omega) (λj p D=>?_) (by rw[zyW];exact he) λG H I J=>?_
 . obtain⟨u,K,L,c,r⟩:=a;exact⟨u,K,L,t _ _<|i _ _ c,r⟩
 . obtain⟨q,y,M,⟨u,B,O⟩,P⟩:=hp j p D;exact⟨q,y,by rw[zyW];exact M,zxH B,⟨u,t _ _<|i _ _<|f _ _ B,O⟩,P⟩
 . exact⟨rfl,h G H I λb o e=>J b o (zxH e)<|t _ _<|i _ _<|f _ _ e⟩
def W8:List D->Option (List<|Key×D)
 | []=>some []
 |d::r=>(An d).bind λl=>(OA l).bind λp=>(MV p.1).bind λk=>(W8 r).bind λt=>some ((k,p.2)::t)
def Az:D->Option R0
 | .dct kvs=>some<|.fd kvs
 | .lst ds=>(W8 ds).bind λkvs=>if(kvs.map (·.1)).Nodup then some (.fd kvs)else none
 |_=>none
def TU:List D->Option R0:=HG Az
theorem UG[DecidableEq κ]:∀(ps acc:List (κ×Value)),((acc++ps).map (·.1)).Nodup->putAll acc ps=acc++ps
 | [],a,_=>(zyD a).symm
 |p::r,a,h=>by
  have b:stored a p.1 p.2=a++[p]:=by
   unfold stored;rw[if_neg];rw[zyL,zyR]at h;obtain⟨_,_,c⟩:=zxD.mp h;intro z;obtain⟨q,m,e⟩:=List.any_eq_true.mp z;exact c q.1 (List.mem_map_of_mem m) p.1 (zzF ..)<|of_decide_eq_true e
  show putAll _ r=_;rw[b,UG r _ (by rw[zxB];exact h),zxB];rfl
section
variable{X:Cx}{kd:KD}{O:Addr->Prop}{pins:List (Addr×Obj)}{σ:St}{H:Hp}{s:Shared}
theorem Uo(I:Inv X pins σ H s):∀{vs:List V}{us:List Value}{ds:List D}{dk:List (Key×D)},RpL X.K kd O H vs ds->zG vs us->W8 ds=some dk->
 ∃(kvs:List (Key×V)) (ps:List (Key×Value)),KV kvs ps/\RpM X.K kd O H kvs dk/\ps.length=us.length/\ps.map (·.1)=dk.map (·.1)/\kvs.length=ps.length/\
  ∀(j:Nat) (p:Key×Value),ps[j]? = some p->∃(q:Addr) (key:Value),us[j]? = some (Value.ref q)/\IsTup s.heap q #[key,p.2]/\(yx X.prog X.w).is p.1 key=true
 |_,_,[],_,b,r,e=>by
  cases b;cases r;cases e;exact⟨[],[],.nil,.nil,rfl,rfl,rfl,λj p h=>by simp at h⟩
 |_,_,d::i,dk,b,r,e=>by
  cases b with
  |cons l b=>
   rename_i v vs;cases r with
   |cons m r=>
    rename_i u us;obtain⟨l0,n,o⟩:=bS_<|e;obtain⟨⟨k,dv⟩,x,y⟩:=bS_ o;cases FO n;cases K9 x
    . obtain⟨c,z,e⟩:=bS_ y;obtain⟨t,A,e⟩:=bS_ e;cases e;obtain⟨f,B,C,E,F,G,J,L⟩:=Uo I b r A;cases l.vw with
      | tup M N a=>
            rename_i q ws;cases a with
            |cons P a=>
             cases a with
             |cons Q a=>
              cases a;rename_i R g;have S:=FG P.vw z;subst S;obtain⟨T,U,W,_⟩:=I.tuple N;obtain⟨Y,Z,rfl,r1,r2⟩:=vals2 U;cases m;refine⟨(c,g)::f,(c,Z)::B,.cons ⟨rfl,r2⟩ C,.cons Q E,congrArg (· + 1) F,congrArg (c :: ·) G,congrArg (· + 1) J,λj p h=>?_⟩;cases j with
              |zero=>
               simp at h;subst h;exact⟨q,Y,rfl,W,Qd r1⟩
              |succ j=>simpa using L j p (by simpa using h)
def Uy(hc:X.calm=true)(hk:KdOk X kd):ZU X kd (.type "dict") TU:=by
 intro c s σ H xs A Q I r h;obtain⟨O,ds,z,B,C,b,q⟩:=h;obtain⟨x,d,rfl,D,b⟩:=XD C b;cases D with
 |dct e E=>exact Nz hk c s σ H _ A Q I r ⟨O,[.dct _],z,B,.cons (.dct e E) .nil,b,q⟩
 |lst e F=>
  obtain⟨dk,G,b⟩:=bS_<|b;obtain⟨J,b⟩:=zu b;cases b;obtain⟨u,rfl,K⟩:=vals1 r;cases K;obtain⟨L,m,⟨o,n,M,f,g,i⟩,hz⟩:=I.list e.sq;obtain⟨k,t,N,P,R,S,a5,T⟩:=Uo I F m G;have v:=m.length;refine QZ (knd:=yx X.prog X.w) (ps:=t) (I.ok.hd hc) M f i g (by omega) (λj p U=>?_) (by rw[R];simp) λh' V y W=>?_
  . obtain⟨Y,l,Z,b2,b3⟩:=T j p U;exact⟨Y,l,by simpa using Z,b2,b3⟩
  . rw[UG t [] (by rw[List.nil_append,S];exact J),List.nil_append]at y;exact⟨.ref _,_,I.laid (t':=V) W (zzN _)<|Km (by omega) (beq_eq_false_iff_ne.mpr<|Ne.symm<|zzQ I.big) N y,rfl,Ft q P _<|I.hok.fresh<|zzN _⟩
 |_=>cases b
end
def uR{α:Type}{P:List α->Prop}(h:∀a,P [a]):∀us:List α,us.length=1->P us
 | [a],_=>h a
def uN{α:Type}{P:List α->Prop}(h:∀a b,P [a,b]):∀us:List α,us.length=2->P us
 | [a,b],_=>h a b
def uU{α:Type}{P:List α->Prop}(h:∀a b c,P [a,b,c]):∀us:List α,us.length=3->P us
 | [a,b,c],_=>h a b c
def uJ{α:Type}{P:List α->Prop}(h:∀a b c d,P [a,b,c,d]):∀us:List α,us.length=4->P us
 | [a,b,c,d],_=>h a b c d
def uQ{α:Type}{P:List α->Prop}(h:∀a b c d e,P [a,b,c,d,e]):∀us:List α,us.length=5->P us
 | [a,b,c,d,e],_=>h a b c d e
section
variable{X:Cx}{kd:KD}
def aI:AE X kd (.Constant (.int c) j pos) (fC<|.int c):=Pa Q8 λ_ _=>.int _
def aS:AE X kd (.Constant (.str c) j pos) (fC<|.str c):=Pa Cs λ_ _=>.str _
def aZ:AE X kd (.Constant .none j pos) (fC .non):=Pa Ck λ_ _=>.non
def aB:AE X kd (.Constant (.bool c) j pos) (fC<|.bl c):=Pa JW λ_ _=>.bl _
def ax{K}(hkd:YU P w K kd)(ha:AE X kd a fa)(hb:AE X kd b fb)(h1:X.prog=P:=by rfl)(h2:X.w=w:=by rfl)(h3:X.K=K:=by rfl)(hm:vY b:=by exact λ_ _=>rfl):AE X kd (.Subscript a b pos) (f2 fa fb zo):=IK (DJ<|hkd _ h1 h2 h3) ha hb hm
def sv(z)(i:Nat)(hN:X.N.Nodup)(he:AE X kd e fa)(hi:X.N[i]? = some x:=by rfl)(hx:Loc X.env.scope x:=by first|exact Or.inl rfl|exact Or.inr rfl)(hs:swapsWith e (some<|.Name x pos') pos.line X.env=pure false:=by rfl)(hf:X.fn x=true\/X.env.scope.names.lookup x=some .local:=by first|exact Or.inl rfl|exact Or.inr rfl):
 QM X kd (.Assign [.Name x pos'] e pos) (zm z i fa):=EG hN hi hx he hs hf
def an(i:Nat)(hN:X.N.Nodup)(hi:X.N[i]? = some x:=by rfl)(hx:Loc X.env.scope x:=by first|exact Or.inl rfl|exact Or.inr rfl)(hf:X.fn x=true\/X.env.scope.names.lookup x=some .local:=by first|exact Or.inl rfl|exact Or.inr rfl):AG X kd (.Name x pos) [i] (gN i):=L4 hN hi hx hf
def av(i:Nat)(hN:X.N[i]? = some x:=by rfl)(hv:Ja X.env.scope x:=by first|exact Or.inl rfl|exact Or.inr (Or.inl rfl)|exact Or.inr (Or.inr rfl))(hd:(x==("__debug__":Str))=false:=by decide)
 (hcd:(x==("__classdict__":Str))=false:=by decide):AE X kd (.Name x pos) (fV i):=CD<|Fw hN hv hd hcd
end
def Bb(h:n<=1000000):n<=sizeLine:=zzO h (by decide)
section
variable{as:AS}{f fo a b:EF}{fr:AF}{s t:Bool}{x y z d:D}{c m:Str}{ns cs:List Str}{ds:List D}{YV:List (Str×Fn)}{g:Fn}{o:O}
inductive SqD:D->List D->Prop
 |l (ds:List D):SqD (.lst ds) ds
 |t (ds:List D):SqD (.tup ds) ds
theorem Vr:∀(l:List α),(∀q ∈ l,∃as1,gg (it q) as0=some as1/\WE fe as1 (h q))->∃os,xg gg yB fe as0 (l.map it)=some os/\O.strs os=true/\O.toDs os=l.map h
 | [],_=>⟨[],rfl,rfl,rfl⟩
 |q::l,H=>by
  obtain⟨a,d,e,f⟩:=Vr l λp m=>H p<|zzD _ m;obtain⟨b,g,o,i,c,j⟩:=H q zzF;refine⟨o::a, ?_,by show(o.str&&O.strs a)=true;rw[c,e];rfl,by show o.toD::O.toDs a=_;rw[j,f];rfl⟩;show xg gg yB fe as0 (it q::l.map it)=_;unfold xg;rw[g];show((fe b).bind _)=_;rw[i];show(if o.str=true then _ else _)=_;rw[if_pos c,d];rfl
theorem RP:∀(l:List α),(∀q ∈ l,∃as1,gg (it q) as0=some as1/\WT tt as1 (p q)/\(p q=true->WE fe as1 (h q)))->∃os,xg gg tt fe as0 (l.map it)=some os/\O.strs os=true/\O.toDs os=(l.filter p).map h
 | [],_=>⟨[],rfl,rfl,rfl⟩
 |q::l,H=>by
  obtain⟨c,d,e,f⟩:=RP l λp m=>H p<|zzD _ m;obtain⟨a,g,b,j⟩:=H q zzF;cases hp:p q with
  |false=>
   rw[hp]at b;refine⟨c,N3 g b d,e, ?_⟩;rw[List.filter_cons_of_neg<|by simp[hp]];exact f
  |true=>
   rw[hp]at b;obtain⟨o,k,i,n⟩:=j hp;refine⟨o::c, ?_,by show(o.str&&O.strs c)=true;rw[i,e];rfl, ?_⟩
   . unfold WT at b;show xg gg tt fe as0 (it q::l.map it)=_;unfold xg;rw[g];show(tt a).bind _=_;rw[b];show((fe a).bind _)=_;rw[k];show(if o.str=true then _ else _)=_;rw[if_pos i,d];rfl
   . rw[List.filter_cons_of_pos hp];show o.toD::O.toDs c=_;rw[n,f];rfl
def TJ{os}(h1:fi as=some (xs,as))(hl:xs.length<=1000000)(h2:xg gg tt fe (Yt cap as) xs=some os)(hs:O.strs os=true)(e:O.toDs os=zs):WE (zN fi cap gg tt fe) as (.lst zs):=by
 refine⟨.nd .ls os, ?_,hs,congrArg D.lst e⟩;unfold zN;rw[h1];show(if xs.length<=sizeLine then _ else _)=_;rw[if_pos<|Bb hl,h2];rfl
def Q7(l:List α)(h1:fi as=some (l.map it,as))(hl:l.length<=1000000)(H:∀q ∈ l,∃as1,gg (it q) (Yt cap as)=some as1/\WE fe as1 (h q)):WE (zN fi cap gg yB fe) as (.lst<|l.map h):=by
 obtain⟨d,a,b,c⟩:=Vr l H;exact TJ h1 (by rw[zzB];exact hl) a b c
def Ks(l:List α)(h1:fi as=some (l.map it,as))(hl:l.length<=1000000)(H:∀q ∈ l,∃as1,gg (it q) (Yt cap as)=some as1/\WT tt as1 (p q)/\(p q=true->WE fe as1 (h q))):WE (zN fi cap gg tt fe) as (.lst<|(l.filter p).map h):=by
 obtain⟨d,a,b,c⟩:=RP l H;exact TJ h1 (by rw[zzB];exact hl) a b c
def Rt(r:Option Out)(x:D):Prop:=∃o,r=some (.rt o)/\o.str=true/\o.toD=x
def wF{n m:Nat}{c ds}(hl:ds.length=m)(h:Rt (c<|yF n ds) x):RE (Yr n m c ds) x:=by
 obtain⟨o,a,b,d⟩:=h;exact⟨o,xx hl a,b,d⟩
def zF{f g}(h1:f as=some (.nx as1))(h2:Rt (g as1) x):Rt (zf f g as) x:=by
 obtain⟨o,e,h⟩:=h2;exact⟨o,zk h1 e,h⟩
def Qv{f g}(h1:Rt (f as) x):Rt (zf f g as) x:=by
 obtain⟨o,e,h⟩:=h1;exact⟨o,vH e,h⟩
def Po{c f g}(h:WT c as true)(h1:Rt (f as) x):Rt (wJ c f g as) x:=by
 obtain⟨o,e,a⟩:=h1;exact⟨o,xG h e,a⟩
def xI(h:WE f as x):Rt (zX f as) x:=by
 obtain⟨o,b,a,c⟩:=h;refine⟨o, ?_,a,c⟩;unfold zX;rw[b];show((if o.str=true then some o else none).bind _)=_;rw[if_pos a];rfl
def Kl{os}(h:WO fd as os)(hl:os.length<=1000000)(hs:O.strs os=true)(e:O.toDs os=zs):WE (yb fd) as (.tup zs):=by
 refine⟨Zf os,G7 h<|Bb hl, ?_, ?_⟩
 . unfold Zf;split
   . exact hs
   . exact hs
 . subst e;unfold Zf;split
   . rfl
   . rfl
def Qp{os}(h:WE a as x)(hr:WO fd as os):∃o,o.str=true/\o.toD=x/\WO (dC a fd) as (o::os):=by
 obtain⟨o,b,c,d⟩:=h;exact⟨o,c,d,E9 b hr⟩
def BM(ha:WE a as x):WE (yb<|dC a dN) as (.tup [x]):=by
 obtain⟨o,b,rfl,c⟩:=Qp ha zT;exact Kl c (by show 1<=_;omega) (by show(o.str&&true)=true;rw[b];rfl) rfl
def xm(ha:WE a as x)(hb:WE b as y):WE (yb<|dC a<|dC b dN) as (.tup [x,y]):=by
 obtain⟨p,c,rfl,d⟩:=Qp hb zT;obtain⟨o,e,rfl,f⟩:=Qp ha d;exact Kl f (by show 2<=_;omega) (by show(o.str&&(p.str&&true))=true;rw[e,c];rfl) rfl
def HC{g}(ha:WE a as x)(hb:WE b as y)(hg:g x y=some (.im z)):WE (f2 a b g) as z:=WD.e<|UZ ha hb hg
end
open AutoSeq1 (wpAny_loadPart')
section
variable{X:Cx}{kd:KD}
def Th(x y:D):Option R0:=FX (λi j=>if 0<=j/\j<=1000000/\i.natAbs<2 ^ 64 then some (.im<|.int<|i*2 ^ j.toNat)else none) x y
def Nm:MQ X kd (binaryOp .LShift) Th:=by
 intro pins s σ H x y v u Q I rx ry h;obtain⟨O,d,e,r,ht,vx,vy,he,q⟩:=h;obtain⟨i,j,rfl,rfl,he⟩:=v_ vx vy he;obtain⟨c,rfl⟩:=zu he;exact Cf pins s σ H _ _ v u Q I rx ry ⟨_,_,rfl,rfl,c,zS q<|.int _⟩
end
def Gf(i:Nat)(fk fv:EF):SF:=λas=>(fv as).bind λp=>(Zv p.2 p.1).bind λx=>match x.2[i]? with
 |some (some (.nd (.dt _) _))=>(fk x.2).bind λq=>(q.1.frz.view q.2).bind λkd=>(SQ kd.1).bind λk=>match q.2[i]? with
  |some (some (.nd (.dt ks) os))=>if ks.length<sizeLine then some (.nx<|q.2.set i<|some<|.nd (.dt<|RG ks k)<|Wv ks os k<|.lf x.1.1 x.1.2)else none
  |_=>none
 |_=>none
def Mr(i:Nat)(k:Int):SF:=λas=>match as[i]? with
 |some (some (.lf _ (.int n)))=>some (.nx<|as.set i<|some<|.lf true<|.int<|n+k)
 |_=>none
section
variable{X:Cx}{kd:KD}{e:Expr}{fa:EF}{pos pos':Pos}
def M5(hN:X.N.Nodup)(hi:X.N[i]? = some x)(hx:Loc X.env.scope x)(hf:X.fn x=true\/X.env.scope.names.lookup x=some .local):
 QM X kd (.AugAssign (.Name x pos') .Add (.Constant (.int k) z p2) pos) (Mr i k):=by with_unfolding_all exact(yU (CP hN hi hx Q8 CW hf) λD σ H h=>by
 obtain⟨F,B,ad,as,o,R,e,q⟩:=h;cases k1:as[i]? with
 |none=>unfold Mr at e;rw[k1]at e;cases e
 |some a0=>
  unfold Mr at e;rw[k1]at e
  match a0,e,k1 with
  |some (.lf st (.int n)),e,k1=>
   cases e;obtain⟨v,hs,ro⟩:=R.sl i _ k1;generalize ad i=fp1 at ro;cases ro with
   |lf rp=>
    cases rp;obtain⟨ad2,R2,le⟩:=P2 (z:=true) (r:=.ow<|.lf true<|.int<|n+k) R (.lf<|.int _) rfl (zzG.mp k1).1;exact⟨_,hs,_,_,rfl,rfl,q _ ad2 H R2<|Grow.less le⟩)
end
section
variable{X:Cx}{kd:KD}{P:Program}{w:World}{K:zzA}{a b e o:Expr}{es:List Expr}{fa fb fo:EF}{fr:AF}{fd_:DF}{pos p apos:Pos}{k n:Nat}
def WS(h1:sc.kind = .function:=by rfl)(h2:sc.isCoroutine=false:=by rfl)(h3:sc.isGenerator=false:=by rfl)(h4:N.Nodup:=by decide +kernel)(h5:N.take Ps.length=Ps:=by rfl)(h6:∀x ∈ Ps,sc.names.lookup x=some .local\/sc.names.lookup x=some .cell:=by decide +kernel)(h7:∀y ∈ sc.names,y.2 ≠ .free:=by decide +kernel):FnScope N Ps sc:=⟨h1,h2,h3,h4,h5,h6,h7⟩
def bs{x qual}{st}{f}{fd}{ps}(F:Fun K x qual st f fd)
 (h:∀(kV doc pm:Value) (an:Option Addr) (cdv ct:Value) (us:List Value),us.length=ps.length->bindArgs (W.fnOf x qual (QC st) (vF st) (zj st) .none kV doc pm an cdv ct) ⟨us,[]⟩=pure (ps.zip us):=by first|exact λ_ _ _ _ _ _=>uR λ_=>rfl|exact λ_ _ _ _ _ _=>uN λ_ _=>rfl|exact λ_ _ _ _ _ _=>uU λ_ _ _=>rfl|exact λ_ _ _ _ _ _=>uJ λ_ _ _ _=>rfl|exact λ_ _ _ _ _ _=>uQ λ_ _ _ _ _=>rfl|exact λ_ _ _ _ _ _=>l6_ λ_ _ _ _ _ _=>rfl):Binds K fd ps []:=F.binds h
def bc(ha:AE X kd a fa)(hr:AA X kd es fr)(hs:isStar a=false:=by rfl):AA X kd (a::es) (aC fa fr):=BE ha hr<|yP hs
def bd(ha:AE X kd a fa)(hr:AD X kd es fd_)(hs:isStar a=false:=by rfl):AD X kd (a::es) (dC fa fd_):=Sl ha hr<|yP hs
def bn{op}(ha:AE X kd a fa)(hb:AE X kd b fb):AE X kd (.BinOp a op b pos) (f2 fa fb<|Yc op):=G9 (Ct op) ha hb
def tc{op}(hkd:YU P w K kd)(hr:Room k X.A)(ha:AE X kd a fa)(hb:AE X kd b fb)(h1:X.prog=P:=by rfl)(h2:X.w=w:=by rfl)(h3:X.K=K:=by rfl)(hm:behindInMarks op b=false:=by exact GW _):AT X kd (.Compare a [op] [b] pos) (fT<|f2 fa fb<|zr op):=QU (yQ (hkd _ h1 h2 h3) (xM hr) op) (ZI op) ha hb hm
def ec{op}(hkd:YU P w K kd)(hr:Room k X.A)(ha:AE X kd a fa)(hb:AE X kd b fb)(h1:X.prog=P:=by rfl)(h2:X.w=w:=by rfl)(h3:X.K=K:=by rfl)(hm:behindInMarks op b=false:=by exact GW _):AE X kd (.Compare a [op] [b] pos) (f2 fa fb<|zr op):=Mn (yQ (hkd _ h1 h2 h3) (xM hr) op) ha hb hm
def bi{id}{gg}{x}(hc:ZU X kd (.builtin id) gg)(hm:X.mg x=none)(hv:bootBuiltins x=some (.builtin id))(ha:AA X kd (e::es) fr)(hg:Gl X x:=by rfl)(hn:x≠"__name__":=by exact Bt.n _ rfl)(hdb:(x==("__debug__":Str))=false:=by decide)
 (he:starEach (e::es) X.env=(false,eval e X.env)::starEach es X.env:=by rfl) (hpl:(backTo pos<|starEach es X.env).any (·.1)=false:=by rfl):AE X kd (.Call (.Name x p) (e::es) [] pos) (fP fr gg):=CA hc hg hm hv ha hn hdb he hpl
def BX(hc:ZU X kd (.type T) gg)(hm:X.mg x=none)(hv:bootBuiltins x=some (.type T))(ha:AA X kd (e::es) fr)(hg:Gl X x:=by rfl)(hn:x≠"__name__":=by exact Bt.n _ rfl)(hdb:(x==("__debug__":Str))=false:=by decide)
 (he:starEach (e::es) X.env=(false,eval e X.env)::starEach es X.env:=by rfl) (hpl:(backTo pos<|starEach es X.env).any (·.1)=false:=by rfl):AE X kd (.Call (.Name x p) (e::es) [] pos) (fP fr gg):=CK hc hg hm hv ha hn hdb he hpl
def sj(i:Nat){z}{x}{pos'}{rest}{g}(hN:X.N.Nodup)(he:AE X kd e fa)(h2:Gq X kd rest g)(hi:X.N[i]? = some x:=by rfl)(hx:Loc X.env.scope x:=by first|exact Or.inl rfl|exact Or.inr rfl)(hs:swapsWith e (some<|.Name x pos') pos.line X.env=pure false:=by rfl)(hf:X.fn x=true\/X.env.scope.names.lookup x=some .local:=by first|exact Or.inl rfl|exact Or.inr rfl):
 Gq X kd (.Assign [.Name x pos'] e pos::rest) (zf (zm z i fa) g):=zK (EG hN hi hx he hs hf) h2
end
end PF
end
section
namespace PF
open PySem PySem.Spec PyProof.Rows L2
def HN:bootBuiltins "set"=some (.type "set"):=by decide +kernel
def Cy:EF:=λas=>some (.ow<|.nd (.dt []) [],as)
section
variable{X:Cx}{kd:KD}{n:Nat}
def Cr:AE X kd (.Dict [] [] pos) Cy:=by with_unfolding_all exact(yr E4 λσ H Q h=>by
 obtain⟨F,B,ad,as,r,as',R,e,q⟩:=h;cases e;intro p hp;have k:∀b o,H b=some o->upd H p (.dT []) b=some o:=λb o hb=>by rw[zy<|zU hb hp];exact hb
 obtain⟨R2,g2⟩:=R.news (T':=[p]) (by simp) (λa m=>by rw[zzR.mp m];exact hp) k (λa m=>by rw[zzR.mp m,zO];simp);exact q _ [p] ad _ R2 (.dt zO rfl .nil) g2)
end
structure Co(x:Str)(P:Program)(w:World)(K:zzA)(mg:Str->Option Value)(base:Heap)(kd:KD)(k:Nat)(f:Addr)(d:FuncData)(ps:List Str)(gg:List (Bool×D)->Option O):Prop where
 F:FnOk P w K mg base Tf k f d ps (HY K kd gg)
 m:mg x=some (.ref f)
 kp:W.keepIn K (.ref f)=true
 b:Binds K d ps []
def ED:List Str->List Str->List (Option Nat)->List Str
 |t::ts,XN,none::c=>t::ED ts XN c
 | [],XN,none::c=>""::ED [] XN c
 |ts,XN,some j::c=>XN.getD j ""::ED ts XN c
 |_,_,[]=>[]
def Jz:Expr->Str
 | .Name x _=>x
 |_=>""
def Hq:Expr->List Str
 | .Tuple es _ _=>es.map Jz
 |e=>[Jz e]
def Ih:Nat->List (Option Nat)->List Nat
 |_,[]=>[]
 |k,none::c=>k::Ih (k+1) c
 |k,some _::c=>Ih (k+1) c
theorem Kk:∀(c d:List (Option Nat)) (i:Nat),i ∈ Ih d.length c->(d++c)[i]? = some none
 | [],_,_,h=>nomatch h
 |none::c,d,i,h=>by
  have ih:=Kk c (d++[none]) i;rw[zzJ,zxB]at ih
  rcases zzC.mp (h)with rfl|h
  . simp
  . exact ih h
 |some x::c,d,i,h=>by
  have ih:=Kk c (d++[some x]) i;rw[zzJ,zxB]at ih;exact ih h
def Ej:(Ih 0 cap).all (λi=>cap[i]? == some none)=true:=List.all_eq_true.mpr λi m=>by
 have:=Kk cap [] i m;rw[List.nil_append]at this;rw[this];rfl
def ux{N:List Str}(h:decide N.Nodup=true):N.Nodup:=of_decide_eq_true h
section
variable{X:Cx}{kd:KD}{elt tg iter e:Expr}{es ifs:List Expr}{scope:Scope}{pos p:Pos}{cap:List (Option Nat)}{g:GF}{tt:TF}{fe:EF}{fi:IF}{S:List Nat}{fr:AF}{k n:Nat}
def cq(C:Co x X.prog X.w X.K X.mg X.base kd k f d ps gg)(hr:Room n X.A)(ha:AA X kd (e::es) fr)(hn:k<=n:=by omega)(hg:Gl X x:=by rfl)(hdb:(x==("__debug__":Str))=false:=by decide)(he:starEach (e::es) X.env=(false,eval e X.env)::starEach es X.env:=by rfl)(hpl:(backTo pos<|starEach es X.env).any (·.1)=false:=by rfl):
 AE X kd (.Call (.Name x p) (e::es) [] pos) (zp fr gg):=B5 C.F (hr.mono hn) hg C.m C.kp C.b LM ha hdb he hpl
def um(h1:AG X kd a [i] g)(h2:Hd X kd es S gs)(hs:(assignEach (a::es) X.env).map (·.2)=assign a X.env::(assignEach es X.env).map (·.2):=by rfl):Hd X kd (a::es) (i::S) (yT g gs):=xB h1 h2 hs
def Ii(X:Cx)(kd:KD)(tg:Expr)(g:GF):Prop:=∃S,AG X kd tg S g
def Ek(X:Cx)(kd:KD)(es:List Expr)(gs:Hs):Prop:=∃S,Hd X kd es S gs
def Da(i:Nat)(hN:X.N.Nodup)(hi:X.N[i]? = some x:=by rfl)(hx:Loc X.env.scope x:=by first|exact Or.inl rfl|exact Or.inr rfl)(hf:X.fn x=true\/X.env.scope.names.lookup x=some .local:=by first|exact Or.inl rfl|exact Or.inr rfl):Ii X kd (.Name x pos) (gN i):=⟨_,L4 hN hi hx hf⟩
def Aq(h:Ek X kd es gs)(hc:X.calm=true:=by rfl)(hn:(assignEach es X.env).length=m:=by rfl)(hst:(assignEach es X.env).findIdx? (·.1)=none:=by rfl):Ii X kd (.Tuple es j pos) (gT m gs):=h.elim λ_ h=>⟨_,Ur hc h hn hst⟩
def Df(h1:Ii X kd a g)(h2:Ek X kd es gs)(hs:(assignEach (a::es) X.env).map (·.2)=assign a X.env::(assignEach es X.env).map (·.2):=by rfl):Ek X kd (a::es) (yT g gs):=h1.elim λ_ h1=>h2.elim λ_ h2=>⟨_,xB h1 h2 hs⟩
def DA:Ek X kd [] YS:=⟨_,WN⟩
def uV(hi:AI X kd tg iter fi)(hg:Ii X kd tg g)(hb:Gq X kd body f)(hp:PassesOwn (model X.prog X.w) X.A X.env X.xe:=by exact PassesOwn.never)(hc:X.calm=true:=by rfl)(hs:∀x,foldedSetIterable iter X.env x=pure x:=by exact λ_=>rfl):QM X kd (.For tg iter body [] pos) (yw fi g f):=hg.elim λ_ hg=>v9 hp hc hi hg hb hs
def Dj(he:AE X kd e fe)(hg:Ii X kd tg g)(hs:swapsWithSole [tg] e pos.line X.env=pure false:=by rfl)(hw:swappedStores [tg] e X.env=pure none:=by rfl)(h1:(assignEach [tg] X.env).map (·.2)=[assign tg X.env]:=by rfl):QM X kd (.Assign [tg] e pos) (W6 fe g):=hg.elim λ_ hg=>M8 he hg hs hw h1
theorem cm(hi:HZ X kd tg iter fi)(hg:∀cl s H fp,AG (yA X (ED (Hq tg) X.N cap) scope cl s H fp) kd tg (Ih 0 cap) g)(ht:∀cl s H fp,Ml (yA X (ED (Hq tg) X.N cap) scope cl s H fp) ifs<|Nv X.K kd tt)(he:∀cl s H fp,AE (yA X (ED (Hq tg) X.N cap) scope cl s H fp) kd elt fe)
 (hc:X.calm=true:=by rfl) (hk:scope.kind = .function:=by rfl) (hcap:wN (ED (Hq tg) X.N cap) X.N scope.names X.env.scope.names cap=true:=by kernel_rfl) (hs:∀x,foldedSetIterable iter X.env x=pure x:=by exact λ_=>rfl):AE X kd (.ListComp elt [⟨tg,iter,ifs,0⟩] scope pos) (zN fi cap g tt fe):=vX hc hi hk hcap Ej hg ht he hs
theorem uT(hN:X.N.Nodup)(hi:HZ X kd tg iter fi)(hg:∀cl s H fp,AG (yA X (ED (Hq tg) X.N cap) scope cl s H fp) kd tg (Ih 0 cap) g)(ht:∀cl s H fp,Ml (yA X (ED (Hq tg) X.N cap) scope cl s H fp) ifs<|Nv X.K kd tt)(he:∀cl s H fp,AE (yA X (ED (Hq tg) X.N cap) scope cl s H fp) kd elt fe)
 (hiy:X.N[i]? = some y:=by rfl) (hy:Loc X.env.scope y:=by first|exact Or.inl rfl|exact Or.inr rfl) (hf:X.fn y=true\/X.env.scope.names.lookup y=some .local:=by first|exact Or.inl rfl|exact Or.inr rfl) (hsw:swapsWith (.ListComp elt [⟨tg,iter,ifs,0⟩] scope pos) (some<|.Name y py) spos.line X.env=pure true:=by rfl)
 (hc:X.calm=true:=by rfl) (hk:scope.kind = .function:=by rfl) (hcap:wN (ED (Hq tg) X.N cap) X.N scope.names X.env.scope.names cap=true:=by kernel_rfl) (hs:∀x,foldedSetIterable iter X.env x=pure x:=by exact λ_=>rfl):QM X kd (.Assign [.Name y py] (.ListComp elt [⟨tg,iter,ifs,0⟩] scope pos) spos) (zm z i<|zN fi cap g tt fe):=Qu hN hiy hy hf hsw hc hi hk hcap Ej hg ht he hs
end
section
variable{X:Cx}{pins:List (Addr×Obj)}{σ:St}{H:Hp}{s:Shared}{e C S f:Addr}{an:Str}{A:Around}{E:Value->Shared->Prop}
def Ab:D->Bool
 | .str x=>x.cps.toList.all (λc=>decide (c<16 ^ 8))&&decide (x.length<=100)
 | .int i=>decide (i.natAbs.log2<1920)
 |_=>false
end
section
variable{K:zzA}{kd:KD}{F B:Addr->Prop}{T:List Addr}{ad:Ad}{as:AS}{σ:St}{H:Hp}{i:Nat}{o:O}{v:V}
def RK:Gw (ad i) (yq ad i []) a ↔ Gw [] ad a:=by
 constructor
 . rintro(z|⟨j,z⟩)
   . exact .inr ⟨i,z⟩
   . by_cases e:j=i
     . subst e;rw[zx]at z;cases z
     . rw[zw e]at z;exact .inr ⟨j,z⟩
 . rintro(z|⟨j,z⟩)
   . cases z
   . by_cases e:j=i
     . subst e;exact .inl z
     . exact .inr ⟨j,by rw[zw e];exact z⟩
def Rel.mv(R:Rel K kd F B [] ad as σ H)(h:as[i]? = some (some o)):
 Rel K kd F B (ad i) (yq ad i []) (as.set i none) σ H/\∃v,σ[i]? = some (some v)/\xt K kd F B (Gw (ad i)<|yq ad i []) H v o (ad i):=by
 have hi:=(zzG.mp h).1;obtain⟨v,hv,ro⟩:=R.sl i _ h;refine⟨⟨by rw[zzU];exact R.len,λj hj=>?_,λj=>?_,λj k a h1 h2=>?_,R.nd i,λj a h1 h2=>?_,R.ftr,λa h1=>?_,λa h1=>R.gtr a<|RK.mp h1,λj s e=>?_⟩,v,hv,ro.less λa z=>RK.mp z⟩
 . rw[zzU]at hj;rw[zw<|by omega];exact R.out j hj
 . by_cases e:j=i
   . subst e;rw[zx];exact zyI
   . rw[zw e];exact R.nd j
 . by_cases e:j=i
   . subst e;rw[zx]at h1;cases h1
   . rw[zw e]at h1
     by_cases e':k=i
     . subst e';rw[zx]at h2;cases h2
     . rw[zw e']at h2;exact R.inj j k a h1 h2
 . by_cases e:j=i
   . subst e;rw[zx]at h1;cases h1
   . rw[zw e]at h1;exact e<|R.inj j i a h1 h2
 . obtain⟨b1,b2,b3⟩:=R.btr a h1;exact⟨b1,b2,λz=>b3<|RK.mp z⟩
 . by_cases q:j=i
   . subst q;rw[zyJ hi]at e;cases e;rw[zx];exact rfl
   . rw[zzX<|Ne.symm q]at e;rw[zw q];have:=R.sl j s e;cases s with
     |none=>exact this
     |some o'=>
      obtain⟨w,hw,rw'⟩:=this;exact⟨w,hw,rw'.less λa z=>RK.mp z⟩
end
def FY(i:Nat):EF:=λas=>match as[i]? with
 |some (some o)=>some (.ow o,as.set i none)
 |_=>none
def FF(hv:PE X (.Name x p) (YZ i)):AE X kd (.Name x p) (FY i):=by with_unfolding_all exact(yr hv λσ H Q h=>by
 obtain⟨F,B,ad,as,r,as',R,e,q⟩:=h;unfold FY at e;cases k:as[i]? with
 |none=>rw[k]at e;cases e
 |some s=>
  cases s with
  |none=>rw[k]at e;cases e
  |some o=>
   rw[k]at e;cases e;obtain⟨R',v,hv,ro⟩:=R.mv k;exact⟨v,hv,q v (ad i) _ H R' ro<|Grow.less λa z=>RK.mp z⟩)
def MS:List O->Option (Bool×D)
 | [.lf st d]=>some (st,d)
 |_=>none
def MH{os}{st}{d}(h:MS os=some (st,d)):os=[.lf st d]:=by
 match os,h with
 | [.lf _ _],h=>cases h;rfl
section
variable{X:Cx}{kd:KD}{i:Nat}{fr:DF}{e:Expr}
def Yz{K}{F B G}{H}{v}{es}{fp}(h:xt K kd F B G H v (.nd .ls es) fp):∃p vs fq,v = .ref p/\fp=p::fq/\H p=some (.lst vs)/\x9 K kd F B G H vs es fq:=by
 cases h with
 |ls hp r=>exact⟨_,_,_,rfl,rfl,hp,r⟩
end
section
variable{X:Cx}{kd:KD}{a b c:Expr}{fa fb fc:EF}{pos:Pos}{g g':D->D->Option R0}
def FA{K}{kd}{σ}{H}{Q}(h:al K kd (x_ fa fb fc g g') σ H Q):Ky (λx y H Q=>∃O d e r,(∀a,O a->H a≠none)/\Vw K kd O H x d/\Vw K kd O H y e/\g d e=some r/\RQ K kd O H Q r) (λx y H Q=>∃O d e r,(∀a,O a->H a≠none)/\Vw K kd O H x d/\Vw K kd O H y e/\g' d e=some r/\RQ K kd O H Q r) (al K kd fa) (al K kd fb) (al K kd fc) σ H Q:=by
 obtain⟨F,B,ad,as,r,as',R,e,q⟩:=h;obtain⟨⟨p,as1⟩,h1,e⟩:=bS_<|e;obtain⟨⟨z,as2⟩,h2,e⟩:=bS_ e;obtain⟨⟨x,lx⟩,h3,e⟩:=bS_ e;obtain⟨⟨y,ly⟩,h4,e⟩:=bS_ e;obtain⟨r0,h5,e⟩:=bS_ e;refine xJ R h1 λv ad1 H1 R1 rv1 g1=>xJ R1 h2 λu ad2 H2 R2 rv2 g2=>⟨_,x,y,r0,R2.tr<|meet lx ly,(yN.vw R2 (rv1.grow g2) h3).less Xq.meet1,(yN.vw R2 rv2 h4).less Xq.meet2,h5, ?_⟩
 match r0,e with
 | .im (.bl true),e=>
  obtain⟨⟨t,as3⟩,h6,e⟩:=bS_<|e;obtain⟨⟨y',ly'⟩,h7,e⟩:=bS_ e;obtain⟨⟨z',lz'⟩,h8,e⟩:=bS_ e;obtain⟨r1,h9,e⟩:=bS_ e;obtain⟨o,h10,e⟩:=bS_ e;cases e;intro w H3 kp rp;cases rp;obtain⟨R3,g3⟩:=R2.more kp;refine⟨true,rfl, ?_⟩;rw[if_pos rfl];refine xJ R3 h6 λw' ad4 H4 R4 rv4 g4=>⟨_,y',z',r1,R4.tr<|meet ly' lz',(yN.vw R4 ((rv2.grow g3).grow g4) h7).less Xq.meet1,(yN.vw R4 rv4 h8).less Xq.meet2,h9, ?_⟩;exact vO R4 h10 λw T' H' R' rv' g'=>q w T' ad4 H' R' rv'<|(((g1.trans g2).trans g3).trans g4).trans g'
 | .im (.bl false),e=>
  cases e;intro w H3 kp rp;cases rp;obtain⟨R3,g3⟩:=R2.more kp;refine⟨false,rfl, ?_⟩;rw[if_neg zyU];exact q _ [] ad2 H3 R3 (.lf<|.bl _)<|(g1.trans g2).trans g3
def M3(hg:∀x y r,g' x y=some r->∃k,r = .im (.bl k))(h:x_ fa fb fc g g' as=some (p,as1)):∃k,p = .ow (.lf true<|.bl k):=by
 obtain⟨_,_,h⟩:=bS_<|h;obtain⟨_,_,h⟩:=bS_ h;obtain⟨_,_,h⟩:=bS_ h;obtain⟨_,_,h⟩:=bS_ h;obtain⟨r0,_,h⟩:=bS_ h
 match r0,h with
 | .im (.bl true),h=>
  obtain⟨_,_,h⟩:=bS_ h;obtain⟨_,_,h⟩:=bS_ h;obtain⟨_,_,h⟩:=bS_ h;obtain⟨r1,h1,h⟩:=bS_ h;obtain⟨o,h2,h⟩:=bS_ h;cases h;obtain⟨k,rfl⟩:=hg _ _ _ h1;cases h2;exact⟨k,rfl⟩
 | .im (.bl false),h=>cases h;exact⟨false,rfl⟩
def Gv{op op'}(ho:MQ X kd (compareOp op) g)(ho':MQ X kd (compareOp op') g')(hg:∀x y r,g' x y=some r->∃k,r = .im (.bl k))(ha:AE X kd a fa)(hb:AE X kd b fb)(hc:AE X kd c fc)(hm:lastMarks [op,op'] [b,c]=false):
 AT X kd (.Compare a [op,op'] [b,c] pos) (fT<|x_ fa fb fc g g'):=by with_unfolding_all exact(WW (M6 ho ho' ha hb hc hm) λσ H Q h=>by
 obtain⟨F,B,ad,as,bb,as',R,e,q⟩:=h;obtain⟨⟨p,as1⟩,h1,e⟩:=bS_<|e;obtain⟨⟨d,lv⟩,h2,e⟩:=bS_ e;obtain⟨k,h3,e⟩:=bS_ e;cases e;obtain⟨k',rfl⟩:=M3 hg h1;cases h2;cases h3;refine FA ⟨F,B,ad,as,_,_,R,h1,λv T' ad' H' R' rv g'=>?_⟩;generalize hT:T'=T2 at rv R' g';cases rv with
 |lf rp=>
  cases rp;exact⟨_,rfl,q ad' H' R' g'⟩)
end
def UP(ns:List Int):List Int:=ns.foldl step_dedup []
def J_:List D->Option R0:=HG λx=>(Sk x).bind λds=>(vQ ds).bind λns=>if ns.length<64/\ns.all (λn=>decide (0<=n)&&decide (n<8))=true then some (.fl<|(sortI<|UP ns).map .int)else none
end PF
end
section
namespace L2
open PySem PySem.Spec PyProof.Rows
end L2
namespace PF
open PySem PySem.Spec PyProof.Rows L2
end PF
end
section
namespace L2
open PySem PySem.Spec PyProof.Rows
end L2
end
section
namespace PF
open PySem PySem.Spec PyProof.Rows L2
end PF
end
section
namespace L2
open PySem PySem.Spec PyProof.Rows
def ls(b:Nat):List Nat:=(List.range 8).filter b.testBit
def YV(led:Bool)(l:List Nat):SetTable:={mask:=if l.length<5 then 7 else 31,place:=l.toArray,dummies:=#[],finger:=0,led:=led,moves:=if l.length<5 then 0 else 1,plain:=true}
def Vu(led:Bool)(l:List Nat):SetTable:={mask:=if l.length<6 then 7 else 31,place:=l.toArray,dummies:=#[],finger:=0,led:=led,moves:=if l.length<6 then 0 else 1,plain:=true}
def Io:∀led:Bool,∀b,b<256->∀v:Nat,v<8->b.testBit v=false->(YV led<|ls b).freeSlot (v:Int)=some (v,false):=by decide +kernel
def HM:∀b,b<256->∀v,v<8->b.testBit v=false->(ls b).take (SetTable.below (ls b).toArray v)++v::(ls b).drop (SetTable.below (ls b).toArray v)=ls (b ||| 2 ^ v):=by decide +kernel
def ZS:∀b,b<256->∀v,v<8->(b.testBit v=true->b ||| 2 ^ v=b)/\b ||| 2 ^ v<256/\(b.testBit v=false->(ls (b ||| 2 ^ v)).length=(ls b).length+1)/\(ls b).length<=8/\(v ∈ ls b ↔ b.testBit v=true):=by decide +kernel
def IE:∀led:Bool,∀b,b<256->(ls b).length=5->SetTable.laid 31 0 1 led true ((ls b).map Int.ofNat).toArray=some (YV led<|ls b,(List.range 5).toArray):=by decide +kernel
def JH:∀b,b<256->∀i,i<(ls b).length->SetTable.below (ls b).toArray (match i with|0=>0|j+1=>(ls b).getD j 0+1)=i:=by decide +kernel
def Jx:∀b,b<256->SetTable.below (ls b).toArray (match(ls b).length with|0=>0|j+1=>(ls b).getD j 0+1)=(ls b).length:=by decide +kernel
def Jc:∀led:Bool,∀b,b<256->((ls b).length=5/\(Vu led<|ls b).tooFull=true)\/(Vu led (ls b)=YV led (ls b)/\(Vu led<|ls b).tooFull=false):=by decide +kernel
def U0:∀led:Bool,∀b,b<256->(YV led<|ls b).fits (ls b).length=true/\(Vu led<|ls b).fits (ls b).length=true:=by decide +kernel
def MM:∀v:Nat,v<8->hashInt v=(v:Int):=by decide +kernel
def Yv(h:Heap)(a:Addr)(led:Bool)(b:Nat):Prop:=∃o es ep,h.get? a=some o/\o.ExactSet/\o.data = .set es ep (YV led<|ls b)/\es.toList.map Prod.fst=(ls b).map Int.ofNat/\∀e ∈ es.toList,∃tk,e.2 = .int e.1 tk
end L2
namespace L2
open PySem PySem.Spec PyProof.Rows
section
variable{es:Array (Int×Value)}{led:Bool}{b v:Nat}{x:Value}
def YI(h:es.toList.map Prod.fst=(ls b).map Int.ofNat):es.size=(ls b).length:=by
 have:=congrArg List.length h
 rwa [zzB,zzB,zyS]at this
def Cw(h:es.toList.map Prod.fst=(ls b).map Int.ofNat)(hb:b<256)(hv:v<8)(hn:b.testBit v=false):
 ∃es',layNew (YV led<|ls b) es (v:Int) x=(es',Vu led<|ls (b ||| 2 ^ v),false,false)/\es'.toList.map Prod.fst=(ls (b ||| 2 ^ v)).map Int.ofNat/\List.Perm es'.toList (es.toList++[((v:Int),x)]):=by
 have hp:(SetTable.insertAt es (SetTable.below (ls b).toArray v) ((v:Int),x)).toList.map Prod.fst=(ls (b ||| 2 ^ v)).map Int.ofNat:=by
  rw[SetTable.toList_insertAt,<-HM b hb v hv hn,zyL,zyL,zyR,zyR,List.map_take,List.map_drop,List.map_take,List.map_drop,h];rfl
 have hz:=YI hp;have ht:(YV led<|ls b).put v=(Vu led<|ls (b ||| 2 ^ v),SetTable.below (ls b).toArray v):=by
  have e:SetTable.insertAt (ls b).toArray (SetTable.below (ls b).toArray v) v=(ls (b ||| 2 ^ v)).toArray:=by
   rw[<-HM b hb v hv hn];refine Array.ext' ?_;rw[SetTable.toList_insertAt]
  have el:=(ZS b hb v hv).2.2.1 hn;unfold SetTable.put YV Vu;dsimp only;rw[e,el];have q:((ls b).length+1<6)=((ls b).length<5):=propext ⟨λh=>by omega,λh=>by omega⟩;simp only[q];rfl
 refine⟨_, ?_,hp,by have:=SetTable.insertAt_perm es (SetTable.below (ls b).toArray v) ((v:Int),x);rwa [Array.toList_push]at this⟩;have f8:=(U0 led _ (ZS b hb v hv).2.1).2;unfold layNew;rw[Io led b hb v hv hn];dsimp only;rw[ht];dsimp only;rw[hz];unfold SetTable.orStandIn;rw[f8];rfl
def M9(h:es.toList.map Prod.fst=(ls b).map Int.ofNat)(hb:b<256)(h5:(ls b).length=5):
 relayAll (Vu led<|ls b) es (SetTable.grown es.size)=(es,YV led<|ls b,false):=by
 have hz:=(YI h).trans h5;have e1:(Vu led<|ls b).relaid (es.map (·.1)) (SetTable.grown es.size)=some (YV led<|ls b,(List.range 5).toArray):=by
  rw[<-IE led b hb h5,hz];have e2:es.map (·.1)=((ls b).map Int.ofNat).toArray:=by
   refine Array.ext' ?_;rw[Array.toList_map];exact h
  rw[e2];unfold SetTable.relaid Vu;rw[h5];rfl
 unfold relayAll;rw[e1];dsimp only;have e3:(List.range 5).toArray.filterMap (es[·]?)=es:=by
  refine Array.ext' ?_;rw[Array.toList_filterMap];rw[<-hz];exact filterMap_getElem?_range es
 rw[e3,hz];have f8:=(U0 led b hb).1;rw[h5]at f8;rw[f8,show coversAll (List.range 5).toArray 5=true by decide +kernel];rfl
end
section
variable{prog:Program}{w:World}{A:Around}{E:Value->Shared->Prop}{s:Shared}{a:Addr}{led:Bool}{b v:Nat}{tk:Tok}
def FK{es}(hf:es.map Prod.fst=(ls b).map Int.ofNat)(ht:∀e ∈ es,∃tk,e.2 = .int e.1 tk):ElemsOf (intKind prog w) es:=λe he=>by
 obtain⟨t,h⟩:=ht e he;have:e.1 ∈ (ls b).map Int.ofNat:=by rw[<-hf];exact zxC.mpr ⟨e,he,rfl⟩
 obtain⟨n,hn,hn'⟩:=zxC.mp this;have h8:=List.mem_range.mp (List.mem_filter.mp hn).1;exact⟨⟨e.1,by rw[h];exact intKind_is _ _ _ _,by rw[<-hn'];exact(MM n h8).symm⟩,by rw[h];rfl⟩
def Ge{h:Heap}{o}{es}{ep:Nat}{t}(ho:h.get? a=some o)(hd:o.data = .set es ep t)(es')(t'):
 (h.update a<|Obj.putSet es' t').get? a=some {o with data:=.set es' (ep+1) t'}:=by
 have:=zxQ (Obj.putSet es' t') ho (by rw[putSet_of es' t' hd];rfl)
 rwa [putSet_of es' t' hd]at this
def C1{Q:Bool->Shared->Prop}(hb:b<256)(hv:v<8)(hS:Yv s.heap a led b)
 (h:∀r h',Heap.SameBut a s.heap h'->Yv h' a led (b ||| 2 ^ v)->Q r {s with heap:=h'}):
 wpAny (model prog w) A (setAddHashed a (.int v tk) v) Q E s:=by
 obtain⟨o,es,ep,ho,hex,hd,hf,ht⟩:=hS;have hel:ElemsOf (intKind prog w) es.toList:=FK hf ht;have hz:=YI hf;have h8:=(ZS b hb v hv).2.2.2.1;have hfit:(YV led<|ls b).fits es.size=true:=by rw[hz];exact(U0 led b hb).1
 have hkey:(intKind prog w).is v (.int v tk)=true:=intKind_is _ _ _ _;unfold setAddHashed setAddHashedIn;refine zxL<|zxE<|wpAny_setState_of ho hd hfit ?_;dsimp only;rw[byScan_of rfl (by rw[hz];unfold scanBound;omega) hel];simp only[↓reduceIte];unfold setAddByScan;refine zxE ?_;refine zxE<|wpAny_rule ?_;have hh:=(MM v hv).symm;rw[show setScan a (.int v tk) v true es=setScan a (.int v tk) ((intKind prog w).hash v) true es from congrArg (λh=>setScan a (.int v tk) h true es) hh];refine zxE<|wpAny_setScan_of hkey ho hd hfit hel ?_;have mem:∀e ∈ es.toList,(intKind prog w).is v e.2=true->b.testBit v=true:=λe he hi=>by
  obtain⟨t,h⟩:=ht e he;rw[h]at hi;have e1:e.1=v:=by simpa[intKind,Value.isInt]using hi
  have:(v:Int) ∈ (ls b).map Int.ofNat:=by rw[<-hf,<-e1];exact zxC.mpr ⟨e,he,rfl⟩
  obtain⟨n,hn,hn'⟩:=zxC.mp this;have:n=v:=by exact Int.ofNat.inj hn'
  subst this;exact((ZS b hb n hv).2.2.2.2).mp hn
 cases hr:List.findIdx? (λe=>(intKind prog w).is v e.2) es.toList with
 |some j=>
  dsimp only;obtain⟨hj,hpj,_⟩:=List.findIdx?_eq_some_iff_getElem.mp hr;have hT:=mem _ (zyY hj) hpj;refine zxF<|zxF ?_;have:=h false s.heap (Heap.SameBut.refl a s.heap) (by rw[(ZS b hb v hv).1 hT];exact⟨o,es,ep,ho,hex,hd,hf,ht⟩);cases s;exact this
 |none=>
  dsimp only;have hn:b.testBit v=false:=by
   cases hk:b.testBit v with
   |false=>rfl
   |true=>
    have:(v:Int) ∈ es.toList.map Prod.fst:=by rw[hf];exact zxC.mpr ⟨v,((ZS b hb v hv).2.2.2.2).mpr hk,rfl⟩
    obtain⟨e,he,he1⟩:=zxC.mp this;obtain⟨t,h2⟩:=ht e he;have h3:=List.findIdx?_eq_none_iff.mp hr e he;rw[h2,he1]at h3;rw[intKind_is]at h3;cases h3
  obtain⟨es1,hl,hf1,hp⟩:=Cw hf hb hv hn;rw[hl];dsimp only;have ht1:∀e ∈ es1.toList,∃tk,e.2 = .int e.1 tk:=λe he=>by
   rcases zzM.mp (hp.mem_iff.mp he)with q|q
   . exact ht e q
   . rw[zzR.mp q];exact⟨_,rfl⟩
  have hb1:=(ZS b hb v hv).2.1;have hz1:es1.size<=8:=by rw[YI hf1,(ZS b hb v hv).2.2.1 hn,<-hz,<-zyS];have:=hp.length_eq;rw[zzJ]at this;have:=(ZS _ hb1 v hv).2.2.2.1;have:=YI hf1;rw[<-zyS]at this;simp at *;omega
  have hsz:es1.size<=sizeLine:=by rw[sizeLine_eq];omega
  refine zxE<|zxF ?_;rw[show(Vu led<|ls (b ||| 2 ^ v)).plain=true from rfl];simp only[↓reduceIte];refine zxE ?_;rw[hashByValue_scannable 8 rfl];refine zxF ?_;rw[show plainKind (.int v tk)=true from rfl];simp only[↓reduceIte];refine zxE<|wpAny_storeSet_of ho hd ?_ hsz;have ho1:=Ge ho hd es1<|Vu led<|ls (b ||| 2 ^ v);have hsb1:=Heap.SameBut.update s.heap a<|Obj.putSet es1<|Vu led<|ls (b ||| 2 ^ v)
  rcases Jc led _ hb1 with⟨h5,hF⟩|⟨hE,hF⟩
  . rw[hF];simp only[Bool.not_false,Bool.and_self,↓reduceIte];rw[M9 hf1 hb1 h5];dsimp only;refine zxE<|zxF ?_;refine zxE<|wpAny_storeSet_of ho1 rfl ?_ hsz;refine zxF<|zxF<|h true _ (hsb1.trans<|Heap.SameBut.update _ a _) ⟨_,es1,_,Ge ho1 rfl es1<|YV led<|ls (b ||| 2 ^ v),hex,rfl,hf1,ht1⟩
  . rw[hF];simp only[Bool.and_false,Bool.false_eq_true,↓reduceIte];rw[hE]at ho1 hsb1 ⊢;exact zxF<|zxF<|h true _ hsb1 ⟨_,es1,_,ho1,hex,rfl,hf1,ht1⟩
end
def vb(val:Nat->Nat):Nat->Nat
 |0=>0
 |i+1=>vb val i ||| 2 ^ val i
def Iu:ls 0=[]:=by decide +kernel
theorem MZ{val}{n:Nat}(h:∀i,i<n->val i<8):∀i,i<=n->vb val i<256
 |0,_=>by show 0<256;decide
 |i+1,hi=>(ZS _ (MZ h i<|Nat.le_of_succ_le hi) _<|h i hi).2.1
section
variable{prog:Program}{w:World}{A:Around}{R:Result->Shared->Prop}{I:Addr}{fp wr:List Addr}{G:Array GenState->Array GenState->Prop}{n:Nat}{P:Nat->Value->Prop}{St:Nat->Shared->Prop}
def Yv.keep{h h'}{a}{led}{b:Nat}(hS:Yv h a led b)(hk:∀o,h.get? a=some o->h'.get? a=some o):Yv h' a led b:=by
 obtain⟨o,es,ep,ho,r⟩:=hS;exact⟨o,es,ep,hk o ho,r⟩
def Uw(W:WalksS prog w A.in1 I fp wr G n P St){S}(hSf:S ∉ fp){led}{val}(hval:∀i v,P i v->∃t,v = .int (val i) t)(h8:∀i,i<n->val i<8):
 ∀(k i:Nat) (s:Shared),n-i=k->i<=n->St i s->Yv s.heap S led (vb val i)->
  (∀s',Moved (S::wr) G s s'->Yv s'.heap S led (vb val n)->R (.ok<|.ret .none) s')->
  codeAny (model prog w) A (.builtin "set.update.loop" ⟨[.ref S,.ref I],[]⟩) R s:=by
 have hSw:=λh=>hSf<|W.sub _ h;have hsub:∀b ∈ wr,b ∈ S::wr:=λb hb=>zzD _ hb;intro k
 induction k with
 |zero=>
  intro i s hk hi hst hS hR;have hin:i=n:=by omega
  subst hin;refine zxN F.entry_set_update_loop ?_;rw[zxK F.plain_set_update_loop _];refine zxE<|W.done s _ _ hst λs' hm=>?_;exact zxF (hR s' (hm.mono hsub)<|hS.keep λo=>hm.heap S _ hSw)
 |succ k ih=>
  intro i s hk hi hst hS hR;have hlt:i<n:=by omega
  refine zxN F.entry_set_update_loop ?_;rw[zxK F.plain_set_update_loop _];refine zxE<|W.item i s _ _ hlt hst λv s' hP hst' hm=>?_;obtain⟨t,rfl⟩:=hval i v hP;refine zxE<|zxL ?_;unfold setAdd;refine zxL<|zxE<|(intKind prog w).pyHash (intKind_is _ _ _ _) ?_;rw[show(intKind prog w).hash (val i:Int)=(val i:Int)from MM _<|h8 i hlt];refine C1 (MZ h8 i<|Nat.le_of_lt hlt) (h8 i hlt) (hS.keep λo=>hm.heap S _ hSw) λr h' hsb hS2=>?_;refine zxF ⟨zxO F.plain_set_update_loop _,ih (i+1) _ (by omega) hlt (W.frame _ s' _ _ hst' (zyV _) λb hb o e=>?_) hS2 λs'' hm'' hS''=>?_⟩
  . rw[hsb.2 b (λh:b=S=>hSf<|by rw[<-h];exact hb)];exact e
  . refine hR s'' (Moved.trans W.gtrans ((hm.mono hsub).then_heap (zyV _) λb o hb e=>?_) hm'') hS'';rw[hsb.2 b (λh:b=S=>hb<|by rw[h];exact zzF)];exact e
end
section
variable{prog:Program}{w:World}{A:Around}{E:Value->Shared->Prop}{s:Shared}
def wG(w:World):Bool:=!w.params.followText "set-order"
abbrev v8(w:World):Obj:={cls:=.type "set",dict:=none,data:=.set #[] 0 (.fresh 0 0<|wG w)}
def Sa(a){Q}(h:Q (.ref s.heap.objs.size) {s with heap:=s.heap.push (v8 w)}):
 codeAny (model prog w) A (.call (.builtin "set.__new__") ⟨[.type "set",a],[]⟩) (wants Q E) s:=by
 refine codeAny_of_tree ?_;refine zxE<|wpAny_of_eq (F.newCall_set_1 a)<|zxF ⟨zxO F.plain_set_new _,zxN F.entry_set_new ?_⟩;rw[zxK F.plain_set_new _];unfold Builtin.«set.__new__» Builtin.Frozenset.newClass;have hsub:=sub_set_self;obtain⟨hp,g,d,tk,os⟩:=s;dsimp only
 wp_walk
 refine wpAny_askSetting<|zxF ?_;dsimp only;simp only[newObj];refine zxE<|wpAny_alloc<|zxF ?_;exact zxF h
set_option maxHeartbeats 3200000 in
def IJ{l}{items}{val}{Q}
 (hh:A.handled=none) (hl:s.heap.IsList l items) (hv:∀i (v:Value),items[i]? = some v->∃t,v = .int (val i) t) (h8:∀i,i<items.size->val i<8)
 (h:∀(h':Heap) (tk:Nat),Yv h' s.heap.objs.size (wG w) (vb val items.size)->(∀b o,s.heap.get? b=some o->h'.get? b=some o)->Q (.ref s.heap.objs.size) {s with heap:=h',toks:=tk}):
 wpAny (model prog w) A (call (.type "set") [.ref l]) Q E s:=by
 obtain⟨c,tl,hmro⟩:=F.called_set.mro;have hmade:=F.called_set.made;have hsub:=F.called_set.sub;refine wpAny_call<|codeAny_of_tree ?_;refine zxF ⟨Code.quiet_builtin _ (by decide +kernel),zxN F.entry_type_call ?_⟩;rw[Around.under_plain (weight_type_call_type "set" [.ref l] []) rfl];have h1:=F.called_set.notType;have h2:=F.called_set.canCreate;have hct:=F.typeCall_set_1<|.ref l
 repeat (any_goals (first|assumption|wp_step))
 refine codeAny_mono (Sa (.ref l) (E:=E) (Q:=λobj s₁=>obj = .ref s.heap.objs.size/\s₁={s with heap:=s.heap.push (v8 w)}) ⟨rfl,rfl⟩) λr s₁ hr=>?_;cases r with
 |error e=>exact hr
 |ok fl=>
  cases fl with
  |ret obj=>
   obtain⟨rfl,rfl⟩:=hr;have hS:(s.heap.push<|v8 w).get? s.heap.objs.size=some (v8 w):=zxI _ rfl;have hT:Shared.TypeIs {s with heap:=s.heap.push (v8 w)} (.ref s.heap.objs.size) "set":=⟨_,hS,rfl⟩;have hli:=F.called_set.init.lookup;have hbi:=F.called_set.init.bind<|.ref s.heap.objs.size
   repeat (any_goals (first|assumption|wp_step))
   refine codeAny_mono (codeAny_call_builtin (R:=wants (λr s₂=>r = .none/\∃h' tk,s₂={s with heap:=h',toks:=tk}/\
    Yv h' s.heap.objs.size (wG w) (vb val items.size)/\(∀b o,s.heap.get? b=some o->h'.get? b=some o)) E) F.called_set.init.plain F.entry_set_init<|check_set_init_1 hT ?_) λr₂ s₂ hr₂=>?_
   . obtain⟨ol,hol,hcl,nl,hdl⟩:=hl;obtain⟨ocls,odict,odata,oslots⟩:=ol;simp only at hcl hdl;subst hcl;subst hdl;have hol':(s.heap.push<|v8 w).get? l=some {cls:=.type "list",dict:=odict,data:=.seq items nl,slots:=oslots}:=zxG _ hol;have hsls:=F.sub_list_set;have hslf:=F.sub_list_frozenset;have hne:(Value.type "list"==Value.type "dict")=false:=by decide
     have hl1:(s.heap.push<|v8 w).IsList l items:=⟨_,hol',rfl,nl,rfl⟩;unfold Builtin.«set.__init__» noKeywords Builtin.Frozenset.updateFrom;generalize hPI:pyIter=PI
     wp_walk
     subst hPI;refine wpAny_pyIter_list hl1 ?_;refine zxE<|wpAny_runValue ?_;have hlS:=zxH hol;have hh3:A.in1.in1.in1.handled=none:=by simp[hh]
     have hneI:l≠(s.heap.push<|v8 w).objs.size:=by rw[zxP];exact zzQ<|zyZ hlS
     have hSf:s.heap.objs.size ∉ [(s.heap.push<|v8 w).objs.size,l]:=by
      rw[zxP];simp only[zzC,zzR,zxA,or_false,not_or];exact⟨zzQ<|Nat.lt_succ_self _,Nat.ne_of_gt hlS⟩
     refine Uw (led:=wG w) ((Walks.list hh3 _ l hneI items).toS) hSf hv h8 (items.size-0) 0 _ (by omega) (Nat.zero_le _) ⟨⟨_,zxI _ rfl,rfl,rfl⟩,(hl1.push _)⟩
      ⟨v8 w,#[],0,zxG _ hS,⟨rfl,rfl,rfl⟩,(by show _=Data.set #[] 0 (YV (wG w)<|ls 0);rw[Iu];rfl),(by show[]=List.map Int.ofNat (ls 0);rw[Iu];rfl),λe he=>by simp at he⟩ λs' hm hS'=>?_
     obtain⟨h',g',d',tk',os'⟩:=s';have eg:g'=s.gens:=hm.gens;have ed:d'=s.drawn:=hm.drawn;have eo:os'=s.os:=hm.os;subst eg;subst ed;subst eo;show wpAny _ _ _ _ _ _;refine zxF ?_;refine zxF ⟨rfl,h',tk',rfl,hS',λb o e=>hm.heap b o ?_<|zxG _<|zxG _ e⟩;have hb:=zxH e;simp only[zzC,zzR,zxA,or_false,not_or];exact⟨zzQ hb,by rw[zxP];exact zzQ<|zyZ hb⟩
   . cases r₂ with
     |error e=>exact hr₂
     |ok fl₂=>
      cases fl₂ with
      |ret r=>
       obtain⟨rfl,h',tk,rfl,hS',hk'⟩:=hr₂
       repeat (any_goals (first|assumption|wp_step))
       exact h _ _ hS' hk'
      |_=>exact hr₂.elim
  |_=>exact hr.elim
end
theorem wR:Slot "set_iterator" "__next__" "set_iterator.__next__":=
 .of (owner:="set_iterator") (n:="__next__") (by rw[typeLookup_type,builtinLookup_eq_fast];kernel_rfl) (by decide +kernel) (by decide +kernel) (by decide +kernel) (by first|exact .inl (by decide +kernel)|exact .inr (by decide +kernel)) (by rw[isSubtype_type];kernel_rfl)
theorem UR:entryFor table "set_iterator.__next__"=some Builtin.«set_iterator.__next__» := entryFor_of_tree (by kernel_rfl)
theorem Pu(a):argsOk "set_iterator.__next__" ⟨[a],[]⟩:=by unfold argsOk;kernel_rfl
theorem X8:Slot "set_iterator" "__iter__" "set_iterator.__iter__":=
 .of (owner:="set_iterator") (n:="__iter__") (by rw[typeLookup_type,builtinLookup_eq_fast];kernel_rfl) (by decide +kernel) (by decide +kernel) (by decide +kernel) (by first|exact .inl (by decide +kernel)|exact .inr (by decide +kernel)) (by rw[isSubtype_type];kernel_rfl)
theorem UM:entryFor table "set_iterator.__iter__"=some Builtin.«dict_keyiterator.__iter__» := entryFor_alias (id':="dict_keyiterator.__iter__") (by kernel_rfl) rfl (by decide +kernel) (by kernel_rfl)
theorem PJ(a):argsOk "set_iterator.__iter__" ⟨[a],[]⟩:=by unfold argsOk;kernel_rfl
theorem Ui:entryFor table "set.__iter__"=some Builtin.«frozenset.__iter__» := entryFor_alias (id':="frozenset.__iter__") (by kernel_rfl) rfl (by decide +kernel) (by kernel_rfl)
theorem LK{α:Type}{next}:∀(f k:Nat) (l:List α) (out:Array α),l.length<=f->List.Perm (pickOrder.go next f k l out).toList (out.toList++l)
 |0,k,l,out,h=>by
  have:l=[]:=List.length_eq_zero_iff.mp (by omega);subst this;rw[zyD];exact .refl _
 |f+1,k,[],out,h=>by rw[zyD];exact .refl _
 |f+1,k,x::l,out,h=>by
  have hi:next k%(x::l).length<(x::l).length:=Nat.mod_lt _ (by simp);unfold pickOrder.go;rw[zzE hi];dsimp only;refine(LK f (k+1) _ _<|by rw[List.length_eraseIdx_of_lt hi];simp at h ⊢;omega).trans ?_;rw[Array.toList_push,zxB];refine List.Perm.append_left _ ?_;rw[List.eraseIdx_eq_take_drop_succ];refine(show List.Perm ((x::l)[next k%(x::l).length]::((x::l).take (next k%(x::l).length)++(x::l).drop (next k%(x::l).length+1))) _ from List.perm_middle.symm).trans ?_;rw[<-zyP hi,List.take_append_drop]
def N2{α:Type}(next)(xs:Array α):List.Perm (pickOrder next xs).toList xs.toList:=by
 have:=LK (next:=next) xs.size 0 xs.toList #[] (by rw[zyS];exact zzN _);rw[List.nil_append]at this;exact this
def ZJ(w:World)(a ep:Nat)(es:Array (Int×Value)):Array (Int×Value):=if w.params.followText "set-order"=true then pickOrder (w.params.setOrder a ep) es else es
def Yd(w)(a ep:Nat)(es:Array (Int×Value)):List.Perm (ZJ w a ep es).toList es.toList:=by
 unfold ZJ
 split
 . exact N2 _ _
 . exact .refl _
def sl(w:World)(b i:Nat):Nat:=if w.params.followText "set-order"=true then 0 else match i with|0=>0|j+1=>(ls b).getD j 0+1
abbrev Y4(f i a n ep:Nat):Obj:={cls:=.type "set_iterator",data:=.fields #[.int f 0,.int i 0,.ref a,.int n 0,.int ep 0]}
section
variable{prog:Program}{w:World}{A:Around}{E:Value->Shared->Prop}{s:Shared}{a I:Addr}{b i ep:Nat}{o:Obj}{es:Array (Int×Value)}
def Fv{Q}(ho:s.heap.get? a=some o)(hex:o.ExactSet)(hd:o.data = .set es ep (YV (wG w)<|ls b))(hf:(YV (wG w)<|ls b).fits es.size=true)
 (h:Q (.ref s.heap.objs.size) {s with heap:=s.heap.push (Y4 0 0 a es.size ep)}):wpAny (model prog w) A (pyIter<|.ref a) Q E s:=by
 have hT:s.TypeIs (.ref a) "set":=⟨o,ho,hex.1⟩;refine wpAny_pyIter_slot hT F.slot_set_iter<|zxS F.slot_set_iter hT Ui ?_<|F.args_set_iter_1 _;unfold Builtin.«frozenset.__iter__»;refine zxE ?_;refine(zxF ?_);refine zxE ?_;unfold Builtin.Frozenset.sizeOf;refine zxE<|wpAny_setEntries_of ho hd hf<|zxF ?_;refine zxE ?_;unfold setDrawn;refine zxE<|wpAny_setState_of ho hd hf ?_;dsimp only;unfold setsByText;refine zxE<|zxE<|wpAny_askSetting<|zxF ?_;refine zxF ?_;rw[if_neg<|by intro h;rw[zyB]at h;cases h.2];refine zxE<|zxF ?_;refine zxE<|wpAny_setEpoch_of ho hd hf ?_;refine zxE<|zxJ (zxF ⟨_,rfl,"set_iterator",_,⟨_,zxI _ rfl,rfl⟩,wR.lookup,h⟩) ?_;exact zzO (show 5<=1000 by decide)<|zzO (by decide:1000<=sizeLine)<|Nat.le_add_right _ _
def Bh{Q}(hb:b<256)(ho:s.heap.get? a=some o)(hd:o.data = .set es ep (YV (wG w)<|ls b))(hz:es.size=(ls b).length)(hi:i<=es.size)
 (h:Q ((ZJ w a ep es)[i]?.map λe=>(e.2,sl w b<|i+1)) s):wpAny (model prog w) A (setNext a (sl w b i) i ep) Q E s:=by
 have hf:(YV (wG w)<|ls b).fits es.size=true:=by rw[hz];exact(U0 _ b hb).1
 unfold setNext;refine zxE<|wpAny_setState_of ho hd hf ?_;dsimp only;unfold setsByText;refine zxE<|zxE<|wpAny_askSetting<|zxF ?_;show wpAny _ _ (if w.params.followText "set-order"=true then _ else _) _ _ _;cases hw:w.params.followText "set-order" with
 |true=>
  rw[if_pos rfl,if_neg<|by simp];unfold setWalk;refine zxE<|zxE<|wpAny_setState_of ho hd hf ?_;dsimp only;unfold setsByText;refine zxE<|zxE<|wpAny_askSetting<|zxF ?_;show wpAny _ _ (if w.params.followText "set-order"=true then _ else _) _ _ _;rw[if_pos hw];refine zxE<|wpAny_askSetting<|zxF<|zxF ?_;have e:(ZJ w a ep es)[i]?.map (λe=>(e.2,sl w b<|i+1))=((pickOrder ((model prog w).w.params.setOrder a ep) es)[i]?).map λe=>(e.2,sl w b i):=by unfold ZJ sl;rw[hw];rfl
  rw[<-e];exact h
 |false=>
  rw[if_neg<|by simp];rw[show wG w=true by unfold wG;rw[hw];rfl];refine(zxE<|zxF ?_);refine(zxE<|zxF ?_);have e1:SetTable.below (ls b).toArray (sl w b i)=i:=by
   unfold sl;rw[hw]
   rcases Nat.lt_or_ge i (ls b).length with q|q
   . exact JH b hb i q
   . have:i=(ls b).length:=by omega
     subst this;exact Jx b hb
  refine zxF ?_;show Q (match es[SetTable.below (ls b).toArray<|sl w b i]?,(ls b).toArray[SetTable.below (ls b).toArray<|sl w b i]? with|some (_,x),some j=>some (x,j+1)|_,_=>none) s;rw[e1];have e2:(ZJ w a ep es)[i]?.map (λe=>(e.2,sl w b<|i+1))=match es[i]?,(ls b).toArray[i]? with|some (_,x),some j=>some (x,j+1)|_,_=>none:=by
   have q1:ZJ w a ep es=es:=by unfold ZJ;rw[if_neg<|by rw[hw];simp]
   have q2:sl w b (i+1)=(ls b).getD i 0+1:=by unfold sl;rw[if_neg<|by rw[hw];simp]
   rw[q1,q2]
   rcases Nat.lt_or_ge i (ls b).length with q|q
   . rw[Array.getElem?_eq_getElem (by omega),List.getElem?_toArray,zzE q,zyE,zzE q];rfl
   . rw[Array.getElem?_eq_none<|by omega];rfl
  rw[<-e2];exact h
def HF{Q}(hh:A.handled=none)(hb:b<256)(ho:s.heap.get? a=some o)(hd:o.data = .set es ep (YV (wG w)<|ls b))(hz:es.size=(ls b).length)(hi:i<=es.size)
 (hit:s.heap.get? I=some (Y4 (sl w b i) i a es.size ep))
 (h1:∀x h',(ZJ w a ep es)[i]? = some x->h'.get? I=some (Y4 (sl w b<|i+1) (i+1) a es.size ep)->Heap.SameBut I s.heap h'->Q (some x.2) {s with heap:=h'})
 (h2:(ZJ w a ep es)[i]? = none->∀h',Heap.ExtBut I s.heap h'->Q none {s with heap:=h'}):wpAny (model prog w) A (pyNext<|.ref I) Q E s:=by
 have hf:(YV (wG w)<|ls b).fits es.size=true:=by rw[hz];exact(U0 _ b hb).1
 have hT:s.TypeIs (.ref I) "set_iterator":=⟨_,hit,rfl⟩;unfold pyNext;refine zxE<|wpAny_attempt<|wpAny_callSpecial?_slot hT wR<|zxS wR hT UR ?_<|Pu _;unfold Builtin.«set_iterator.__next__»;refine zxE<|zxF ?_;refine zxE<|wpAny_fieldsOf hit rfl ?_;dsimp only;refine zxE<|wpAny_setEntries_of ho hd hf ?_;rw[if_neg<|by simp];refine(zxE ?_);rw[zyH,zyH,zyH];refine Bh hb ho hd hz hi ?_;cases hx:(ZJ w a ep es)[i]? with
 |some x=>
  refine zxE<|wpAny_setField_rec hit (by show 0<5;decide) λk1 g1 sb1=>?_;refine zxE<|wpAny_setField_rec g1 (by show 1<5;decide) λk2 g2 sb2=>?_;exact zxF ⟨_,rfl,zxF<|h1 x k2 hx g2<|sb1.trans sb2⟩
 |none=>
  refine zxE<|wpAny_setField_rec hit (by show 2<5;decide) λk1 g1 sb1=>?_;refine zxE ?_;unfold newExc;refine zxE<|zxJ (zxE<|wpAny_of_eq (Eq.refl<|firstArgMember (Value.type "StopIteration") [])<|zxJ ?_<|sizeOk_excFields _ _ _ _ _ _ _ _) ?_
  . unfold raiseNew;refine zxE<|wpAny_handled ?_;have hh':A.in1.handled=none:=hh;rw[hh'];refine zxE<|zxF ?_;refine wpAny_throw<|zxE<|wpAny_isInstance ⟨_,zxI _ rfl,rfl⟩ isSubtype_stop<|zxF<|h2 hx _ λb u hb e=>zxG _<|zxG _ ?_;exact(sb1.2 b hb).trans e
  . exact Nat.zero_le _
end
end L2
namespace L2
open PySem PySem.Spec PyProof.Rows
def Nw{prog}{w}{A}{a I}{b ep:Nat}{o}{es}(hh:A.handled=none)(hne:a≠I)(hb:b<256)(hd:o.data = .set es ep (YV (wG w)<|ls b))(hz:es.size=(ls b).length):
 Walks prog w A I [I,a] [I] es.size (λi v=>∃x,(ZJ w a ep es)[i]? = some x/\v=x.2) (λi h=>h.get? I=some (Y4 (sl w b i) i a es.size ep)/\h.get? a=some o/\i<=es.size)where
 sub:=λb hb=>by simp at hb;simp[hb]
 frame:=λ_ _ _ st hk=>⟨hk I (by simp) _ st.1,hk a (by simp) _ st.2.1,st.2.2⟩
 item:=λi s Q E hi st hQ=>by
  refine HF hh hb st.2.1 hd hz st.2.2 st.1 (λx h' hx hg sb=>?_) λhx=>?_
  . exact hQ _ h' s.toks ⟨x,hx,rfl⟩ ⟨hg,(sb.2 a hne).trans st.2.1,hi⟩ λc u hc e=>sb.extBut c u (λq=>hc<|by simp[q]) e
  . have e:(ZJ w a ep es).size=es.size:=by have:=(Yd w a ep es).length_eq;simpa using this
    rw[Array.getElem?_eq_none_iff]at hx;omega
 done:=λs Q E st hQ=>by
  refine HF hh hb st.2.1 hd hz st.2.2 st.1 (λx h' hx hg sb=>?_) λhx h' he=>hQ h' s.toks λc u hc e=>he c u (λq=>hc<|by simp[q]) e;have e:(ZJ w a ep es).size=es.size:=by have:=(Yd w a ep es).length_eq;simpa using this
  rw[Array.getElem?_eq_none<|by omega]at hx;cases hx
 self:=λi s Q E st hQ=>by
  have hT:s.TypeIs (.ref I) "set_iterator":=⟨_,st.1,rfl⟩;refine wpAny_pyIter_slot hT X8<|zxS X8 hT UM ?_<|PJ _;exact zxF ⟨_,rfl,"set_iterator",_,hT,wR.lookup,hQ⟩
def G3:typeLookup (.type "set") "__len__"=pure (some<|.builtin "set.__len__"):=F.slot_set_len.lookup
section
variable{prog:Program}{w:World}{A:Around}{E:Value->Shared->Prop}{s:Shared}{a:Addr}{b:Nat}
theorem Gk{Q}(hh:A.handled=none)(hb:b<256)(hS:Yv s.heap a (wG w) b)
 (h:∀h' tk vs,s.heap.objs.size<h'.objs.size->(∀c u,s.heap.get? c=some u->h'.get? c=some u)->(∃ns,IntsAre vs ns/\ns.Perm ((ls b).map Int.ofNat))->Q vs {s with heap:=h',toks:=tk}):
 wpAny (model prog w) A (collect<|.ref a) Q E s:=by
 obtain⟨o,es,ep,ho,hex,hd,hf,ht⟩:=hS;have hz:=YI hf;have hfit:(YV (wG w)<|ls b).fits es.size=true:=by rw[hz];exact(U0 _ b hb).1
 have h8:es.size<=8:=by rw[hz];exact(ZS b hb 0<|by decide).2.2.2.1
 have hsz:s.heap.objs.size≠a:=Nat.ne_of_gt<|zxH ho;unfold collect;refine zxE<|wpAny_runValue<|zxN F.entry_proto_collect ?_;rw[zxK F.plain_proto_collect _];refine zxE<|zxJ ?_;refine zxF ⟨zxO F.plain_list_iadd _,zxN F.entry_list_iadd ?_⟩;rw[zxK F.plain_list_iadd _];show wpAny _ A.in1 (Builtin.List.listExtendWith (.ref s.heap.objs.size) (.ref a)<|.ref s.heap.objs.size) _ _ _;have ho1:(s.heap.push {cls:=.type "list",data:=.seq ([]:List Value).toArray}).get? a=some o:=zxG _ ho;unfold Builtin.List.listExtendWith;refine zxE<|wpAny_typeOf (T:="set") ⟨o,ho1,hex.1⟩ ?_;have h1:Builtin.List.listSameRef (.ref s.heap.objs.size) (.ref a)=false:=by simp[Builtin.List.listSameRef,hsz]
 have h2:(Value.type "set"==Value.type "list")=false:=by decide
 have h3:(Value.type "set"==Value.type "tuple")=false:=by decide
 simp only[h1,h2,h3,Bool.or_false,Bool.false_eq_true,if_false];refine zxE<|Fv ho1 hex hd hfit ?_;generalize hH:s.heap.push {cls:=.type "list",data:=.seq ([]:List Value).toArray}=H at ho1 ⊢;have hHs:H.objs.size=s.heap.objs.size+1:=by rw[<-hH,zxP]
 have ho2:(H.push<|Y4 0 0 a es.size ep).get? a=some o:=zxG _ ho1;refine zxE<|zxL ?_;unfold Builtin.List.listLengthHint;refine zxE (wpAny_specialOf (T:="set") ⟨o,ho2,hex.1⟩ G3 ?_)
 wp_delta
 refine zxE<|wpAny_isInstance (T:="set") (b:=true) ⟨o,ho2,hex.1⟩ (by rw[isSubtype_type];kernel_rfl) ?_;refine zxE<|wpAny_typeOf (T:="set") ⟨o,ho2,hex.1⟩ ?_;refine zxF ?_;rw[if_pos<|by decide];refine zxE<|wpAny_rule ?_;have hS₁:(H.push<|Y4 0 0 a es.size ep).get? s.heap.objs.size=some {cls:=.type "list",data:=.seq ([]:List Value).toArray}:=zxG _<|hH ▸ zxI _ rfl;refine zxE ?_;refine zxE<|wpAny_updateSeq hS₁ rfl ?_;have hS₂:=zxQ (Obj.mapSeq (·.push Value.none)) hS₁ rfl;refine wpAny_updateSeq hS₂ rfl ?_;have hS₃:=zxQ (Obj.mapSeq (·.pop)) hS₂ rfl;generalize hK:(H.push<|Y4 0 0 a es.size ep).update s.heap.objs.size (Obj.mapSeq (·.push Value.none))=K1 at hS₂ hS₃ ⊢;have oth:∀c u,c≠s.heap.objs.size->(H.push<|Y4 0 0 a es.size ep).get? c=some u->(K1.update s.heap.objs.size (Obj.mapSeq (·.pop))).get? c=some u:=
  λc u hc e=>by rw[<-hK];exact(zxM _ _<|Ne.symm hc).trans<|(zxM _ _<|Ne.symm hc).trans e
 have hne:a≠H.objs.size:=by rw[hHs];exact zzQ<|zyZ<|zxH ho
 have hSf:s.heap.objs.size ∉ [H.objs.size,a]:=by
  simp only[zzC,zxA,or_false,not_or];exact⟨by omega,hsz⟩
 have hI:(H.push<|Y4 0 0 a es.size ep).get? H.objs.size=some (Y4 0 0 a es.size ep):=zxI _ rfl;have s0:sl w b 0=0:=by unfold sl;split<;>rfl
 refine zxF ⟨zxO F.plain_extend_loop _,codeAny_extend_loopS (Nw (w:=w) (by simpa using hh) hne hb hd hz).toS (by rw[sizeLine_eq];omega) _ hSf _ es.size 0 _ _ _ rfl (Nat.zero_le _)
  ⟨by rw[s0];exact oth _ _ (by omega) hI,oth _ _ (Ne.symm hsz) ho2,Nat.zero_le _⟩ hS₃ (ItemsOf.nil _) λs' acc' c' hm hS' hacc=>?_⟩
 refine zxE<|wpAny_load hS' ?_;obtain⟨h',g',d',tk',os'⟩:=s';have eg:g'=s.gens:=hm.gens;have ed:d'=s.drawn:=hm.drawn;have eo:os'=s.os:=hm.os;subst eg;subst ed;subst eo;refine zxF<|h h' tk' _ (zxH hS') (λc u e=>?_) ?_
 . have hc:=zxH e;refine hm.heap c u (λq=>?_)<|oth c u (zzQ hc)<|zxG _<|hH ▸ zxG _ e
   rcases zzC.mp q with q|q
   . exact absurd hc<|q ▸ Nat.lt_irrefl _
   . rw[zzR.mp q,hHs]at hc;exact absurd hc<|Nat.not_lt.mpr<|zyV _
 . have el:(ZJ w a ep es).size=es.size:=by have:=(Yd w a ep es).length_eq;simpa using this
   have e1:acc'.toList=(ZJ w a ep es).toList.map Prod.snd:=by
    refine List.ext_getElem? λj=>?_;rw[zzI,Array.getElem?_toList,Array.getElem?_toList]
    rcases Nat.lt_or_ge j es.size with q|q
    . have hj:j<acc'.size:=by rw[hacc.1];exact q
      obtain⟨x,hx,hx'⟩:=hacc.2 j _<|Array.getElem?_eq_getElem hj;rw[Array.getElem?_eq_getElem hj,hx,hx'];rfl
    . rw[Array.getElem?_eq_none (by rw[hacc.1];exact q),Array.getElem?_eq_none<|by omega];rfl
   refine⟨(ZJ w a ep es).toList.map Prod.fst, ?_, ?_⟩
   . rw[e1];have ht':∀e ∈ (ZJ w a ep es).toList,∃tk,e.2 = .int e.1 tk:=λe he=>ht e<|(Yd w a ep es).mem_iff.mp he;generalize (ZJ w a ep es).toList=L at ht'
     induction L with
     |nil=>exact .nil
     |cons e L ih=>
      obtain⟨tk,h⟩:=ht' e<|zzF ..;show IntsAre (e.2::_) (e.1::_);rw[h];exact .cons _ _<|ih λe' he'=>ht' e'<|zzD _ he'
   . rw[<-hf];exact(Yd w a ep es).map _
def KY{Q}(hh:A.handled=none)(hb:b<256)(hS:Yv s.heap a (wG w) b)
 (h:∀h' tk c (out:Array Value) (ns:List Int) e,s.heap.objs.size<=c->(∀c u,s.heap.get? c=some u->h'.get? c=some u)->h'.get? c=some (seqObj "list" out e)->IntsAre out.toList ns->ns.Perm ((ls b).map Int.ofNat)->ns.Pairwise (· <= ·)->Q (.ref c) {s with heap:=h',toks:=tk}):
 wpAny (model prog w) A (call (.builtin "sorted") [.ref a]) Q E s:=by
 refine Calls.call_function_entry kind_sorted plain_sorted entry_sorted (args_sorted1 _) ?_;unfold Builtin.«sorted»;refine zxE<|zxF ?_;refine zxE<|Gk (by simpa using hh) hb hS λh1 tk vs hle hk ⟨ns,hI,hp⟩=>?_;have hoL:(h1.push<|seqObj "list" vs.toArray 0).get? h1.objs.size=some (seqObj "list" vs.toArray 0):=zxI _ rfl;have h64:vs.length<64:=by
  have e1:=hI.length;have e2:=hp.length_eq;have e3:=(ZS b hb 0<|by decide).2.2.2.1;rw[zzB]at e2;omega
 refine zxE<|wpAny_newList ?_;refine zxE<|zxL<|zxS slot_list_sort ⟨_,hoL,rfl⟩ entry_list_sort (list_sort_tree hoL hI h64 λout ns' a1 a2 a3=>⟨_,rfl, ?_⟩)<|args_list_sort _;obtain⟨e,he⟩:=sortedHeap_at hoL;refine zxF ⟨_,rfl,h _ tk h1.objs.size out ns' e (Nat.le_of_lt hle) (λc u e=>?_) he a1 (a2.trans hp) a3⟩;have hc:=zxH<|hk c u e;rw[sortedHeap_old (zzQ hc)<|by rw[zxP];exact zyZ hc];exact zxG _<|hk c u e
end
end L2
end
section
namespace PF
open PySem PySem.Spec PyProof.Rows L2
theorem P0{v}:∀(ns acc:List Int),v ∈ ns.foldl step_dedup acc ↔ v ∈ acc\/v ∈ ns
 | [],acc=>by simp
 |n::ns,acc=>by
  rw[List.foldl_cons,P0 ns,zzC];unfold step_dedup
  split
  . rename_i h;obtain⟨y,h1,h2⟩:=List.any_eq_true.mp h;have:=of_decide_eq_true (show decide (y=n)=true by simpa using h2);subst this;exact⟨λz=>z.elim .inl λz=>.inr<|.inr z,λz=>z.elim .inl λz=>z.elim (λe=>.inl<|e ▸ h1) .inr⟩
  . rw[zzM,zzR,or_assoc]
theorem KI:∀(ns acc:List Int),acc.Nodup->(ns.foldl step_dedup acc).Nodup
 | [],acc,h=>h
 |n::ns,acc,h=>by
  rw[List.foldl_cons];refine KI ns _ ?_;unfold step_dedup
  split
  . exact h
  . rename_i q;refine zxD.mpr ⟨h,zzW.mpr ⟨zxA,zyI⟩,λa ha b hb=>?_⟩;rw[zzR.mp hb]
    rintro rfl
    exact q<|List.any_eq_true.mpr ⟨a,ha,by simp⟩
theorem Kd{val}{v:Nat}:∀n,(vb val n).testBit v=true ↔ ∃i,i<n/\val i=v
 |0=>by rw[show vb val 0=0 from rfl,Nat.zero_testBit];exact⟨λh=>Bool.noConfusion h,λ⟨i,h,_⟩=>absurd h<|Nat.not_lt_zero _⟩
 |n+1=>by
  rw[show vb val (n+1)=vb val n ||| 2 ^ val n from rfl,Nat.testBit_or,Bool.or_eq_true,Kd n,Nat.testBit_two_pow,decide_eq_true_eq];constructor
  . rintro(⟨i,h1,h2⟩|h)
    . exact⟨i,by omega,h2⟩
    . exact⟨n,by omega,h⟩
  . rintro⟨i,h1,h2⟩
    rcases Nat.lt_or_ge i n with q|q
    . exact .inl ⟨i,q,h2⟩
    . have:i=n:=by omega
      exact .inr<|this ▸ h2
def valN(ns:List Int)(i:Nat):Nat:=(ns.getD i 0).toNat
def NG{ns}(h:∀n ∈ ns,0<=n/\n<8):List.Perm ((ls<|vb (valN ns) ns.length).map Int.ofNat) (UP ns):=by
 refine(List.perm_ext_iff_of_nodup ?_<|KI ns [] zyI).mpr λv=>?_
 . exact List.pairwise_map.mpr<|List.Pairwise.imp (λh e=>h<|Int.ofNat.inj e)<|List.Pairwise.filter _ List.nodup_range
 . show _ ↔ v ∈ ns.foldl step_dedup [];rw[P0,zxC];constructor
   . rintro⟨n,h1,rfl⟩
     obtain⟨i,hi,e⟩:=(Kd _).mp (List.mem_filter.mp h1).2;have hm:=zyY hi;unfold valN at e;rw[zyE,zzE hi]at e;have:=(h _ hm).1;exact .inr (by rw[show Int.ofNat n=ns[i]from by rw[<-e];exact zyX this];exact hm)
   . rintro(z|z)
     . cases z
     . obtain⟨i,hi,e⟩:=List.getElem_of_mem z;have hb:=h v z;refine⟨v.toNat,List.mem_filter.mpr ⟨List.mem_range.mpr (by omega),(Kd _).mpr ⟨i,hi, ?_⟩⟩,zyX hb.1⟩;unfold valN;rw[zyE,zzE hi];exact congrArg Int.toNat e
def NJ:bootBuiltins "sorted"=some (.builtin "sorted"):=by decide +kernel
section
variable{X:Cx}{kd:KD}
def uL(K:zzA)(ta:TA):TE:=λσ H Q=>ta σ H λvs H1=>∃r ys ns,vs=[.ref r]/\Qn K H1 r ys/\(∀us,zG ys us->IntsAre us ns)/\(∀n ∈ ns,0<=n/\n<8)/\ns.length<64/\∀c,H1 c=none->Q (.ref c) (upd H1 c<|.lst<|(sortI<|UP ns).map V.int)
def Nb(ns):(UP ns).length<=ns.length:=by
 have:∀(ns acc:List Int),(ns.foldl step_dedup acc).length<=acc.length+ns.length:=λns=>by
  induction ns with
  |nil=>intro acc;exact zzN _
  |cons n ns ih=>
   intro acc;rw[List.foldl_cons];refine zzO (ih _) ?_;unfold step_dedup
   split
   . rw[zzT];omega
   . rw[zzJ,zzT,zzT];simp;omega
 have h:=this ns [];simpa[UP]using h
def GT{a}{ta}{p p' pos pos'}(hc:X.calm=true)(hg:Gl X "set")(hm:X.mg "set"=none)(hgl:Gl X "sorted")(hml:X.mg "sorted"=none)(ha:PA X [a] ta)(hs:starEach [a] X.env=[(false,eval a X.env)])
 (hs':starEach [.Call (.Name "set" p) [a] [] pos] X.env=[(false,eval (.Call (.Name "set" p) [a] [] pos) X.env)]):PE X (.Call (.Name "sorted" p') [.Call (.Name "set" p) [a] [] pos] [] pos') (uL X.K ta):=by
 intro pins s σ H Q I h;refine wpAny_Call_Name_kw<|Za I hgl hml NJ<|PyProof.Rows.callWith_builtin1 ?_ hs' rfl;rw[hs'];refine Calls.spliced_cons ?_;refine wpAny_Call_Name_kw<|Za I hg hm HN<|PyProof.Rows.callWith_type1 (thn (ha pos pins s σ H _ I h) λus s1 ⟨vs,H1,I1,r1,q1⟩=>?_) hs rfl;obtain⟨r,ys,ns,rfl,sq,hss,h8,hz,q⟩:=q1;cases r1 with
 |cons rr rs=>
  cases rs;cases rr;obtain⟨its,rv,pl,_⟩:=I1.list sq;have hS:=hss its rv;have hl:=hS.length;refine IJ (val:=valN ns) (I1.ok.hd hc) pl.isList (λi v hv=>?_) (λi hi=>?_) λh' tk hSet hk=>?_
  . obtain⟨t,e⟩:=hS.int_at i v (by simpa using hv);have hi:i<ns.length:=by
     rw[<-hl];have:=(zzG.mp (show its[i]? = some v by simpa using hv)).1;exact this
    have hm:=zyY hi;refine⟨t, ?_⟩;rw[e];unfold valN;rw[zyE,zzE hi];exact congrArg (Value.int · t) (zyX (h8 _ hm).1).symm
  . have hi':i<ns.length:=by simpa[hl]using hi
    have hm:=zyY hi';unfold valN;rw[zyE,zzE hi'];have:=h8 _ hm;show(ns[i]).toNat<8;omega
  . refine Calls.spliced_nil ?_;rw[show its.toArray.size=ns.length by simpa using hl]at hSet;have hb:vb (valN ns) ns.length<256:=MZ (λi hi=>by
     have hm:=zyY hi;unfold valN;rw[zyE,zzE hi];have:=h8 _ hm;show(ns[i]).toNat<8;omega) _<|zzN _
    refine KY (I1.ok.hd hc) hb hSet λh2 tk2 c out ns' e hle hk2 hg hI hp hs=>?_;have en:=Zj _ _ ((hp.trans<|NG h8).trans (sortI_perm _).symm) hs<|yY _;subst en;obtain⟨nid,hob⟩:∃nid,h2.get? c=some (seqObj "list" out nid):=⟨e,hg⟩;have hsz:s1.heap.objs.size<=h'.objs.size:=by obtain⟨_,_,_,z,_⟩:=hSet;exact Nat.le_of_lt<|zxH z
    have hn:=I1.hok.fresh<|zzO hsz hle;refine⟨.ref c,_,I1.laid (t':=tk2) (λb o z=>hk2 b o<|hk b o z) (zzO hsz hle) (show xf X.prog X.w _ _ _ (.lst<|(sortI<|UP ns).map V.int)from⟨?_,out.toList,nid,vg hI,by simpa[seqObj]using hob⟩),rfl,q c hn⟩;rw[zzB,(sortI_perm _).length_eq];exact Nat.le_of_lt (zM<|by have:=Nb ns;omega)
def KO{a}{fr}{p p' pos pos'}(hc:X.calm=true)(hg:Gl X "set")(hm:X.mg "set"=none)(hgl:Gl X "sorted")(hml:X.mg "sorted"=none)(ha:AA X kd [a] fr)(hs:starEach [a] X.env=[(false,eval a X.env)])
 (hs':starEach [.Call (.Name "set" p) [a] [] pos] X.env=[(false,eval (.Call (.Name "set" p) [a] [] pos) X.env)]):AE X kd (.Call (.Name "sorted" p') [.Call (.Name "set" p) [a] [] pos] [] pos') (fP fr J_):=by
 with_unfolding_all exact(yr (GT hc hg hm hgl hml ha hs hs') λσ H Q h=>by
  obtain⟨F,B,ad,as,r,as',R,e,q⟩:=h;obtain⟨⟨rs,as1⟩,h1,e⟩:=bS_<|e;obtain⟨⟨ds,lv⟩,h2,e⟩:=bS_ e;obtain⟨r0,h3,e⟩:=bS_ e;obtain⟨z,h4,e⟩:=bS_ e;cases e;refine(⟨F,B,ad,as,rs,as1,R,h1,λvs ad1 H1 R1 rv1 g1=>?_⟩);have vl:=Zy R1 rv1 h2;have rq:=vO R1 h4 λw T' H' R' rv' g'=>q w T' ad1 H' R' rv'<|g1.trans g';obtain⟨x,d,rfl,vx,he⟩:=XD vl h3;obtain⟨ds',h0,he2⟩:=bS_<|he;cases VB h0;obtain⟨ns,k1,he3⟩:=bS_ he2;obtain⟨⟨hz,ha⟩,he4⟩:=zu he3;cases he4;cases vx with
  |lst hr rl=>exact⟨_,_,ns,rfl,hr.sq,λus hv=>Ll rl hv k1,λn hn=>by have:=List.all_eq_true.mp ha n hn;simpa using this,hz,YA rq<|Us _⟩)
end
section
variable{K:zzA}{kd:KD}{F B:Addr->Prop}{ad:Ad}{as:AS}{σ:St}{H H':Hp}
def G2(G:Addr->Prop)(T T':List Addr):Addr->Prop:=λa=>(G a/\a ∉ T)\/a ∈ T'
def Rel.chg2{i j:Nat}{o0 o1}{v0 v1}{T0 T1}(R:Rel K kd F B [] ad as σ H)(hij:i≠j)(hi:i<as.length)(hj:j<as.length)(s0:σ[i]? = some (some v0))(s1:σ[j]? = some (some v1))(nd:(T0++T1).Nodup)
 (sub:∀a ∈ T0++T1,a ∈ ad i++ad j\/H a=none) (kp:∀c u,H c=some u->c ∉ ad i++ad j->H' c=some u) (al:∀a ∈ T0++T1,H' a≠none)
 (r0:xt K kd F B (G2 (Gw [] ad) (ad i++ad j)<|T0++T1) H' v0 o0 T0) (r1:xt K kd F B (G2 (Gw [] ad) (ad i++ad j)<|T0++T1) H' v1 o1 T1):
 Rel K kd F B [] (yq (yq ad i T0) j T1) ((as.set i<|some o0).set j<|some o1) σ H'/\Grow (Gw [] ad) H (Gw []<|yq (yq ad i T0) j T1) H':=by
 have ai:yq (yq ad i T0) j T1 i=T0:=by rw[zw hij,zx]
 have aj:yq (yq ad i T0) j T1 j=T1:=zx;have ak:∀k,k≠i->k≠j->yq (yq ad i T0) j T1 k=ad k:=λk h1 h2=>by rw[zw h2,zw h1]
 have off:∀k a,k≠i->k≠j->a ∈ ad k->a ∉ ad i++ad j:=λk a h1 h2 m z=>(zzM.mp z).elim (λy=>h1<|R.inj k i a m y) λy=>h2<|R.inj k j a m y;have gw:∀a,Gw [] (yq (yq ad i T0) j T1) a->G2 (Gw [] ad) (ad i++ad j) (T0++T1) a:=λa z=>by
  rcases z with z|⟨k,z⟩
  . exact nomatch z
  . by_cases e:k=i
    . subst e;rw[ai]at z;exact .inr<|zzP _ z
    . by_cases e':k=j
      . subst e';rw[aj]at z;exact .inr<|zzL _ z
      . rw[ak k e e']at z;exact .inl ⟨.inr ⟨k,z⟩,off k a e e' z⟩
 have nin:=λk a h1 h2 m z=>(sub a z).elim (off k a h1 h2 m) λy=>(R.gtr a<|.inr ⟨k,m⟩).1 y;have g:Grow (Gw [] ad) H (Gw []<|yq (yq ad i T0) j T1) H':=⟨λb o h n=>kp b o h λz=>n<|(zzM.mp z).elim (λy=>.inr ⟨i,y⟩) λy=>.inr ⟨j,y⟩,λb z=>(gw b z).elim (λy=>.inl y.1) λy=>(sub b y).elim (λx=>.inl<|(zzM.mp x).elim (λy=>.inr ⟨i,y⟩) λy=>.inr ⟨j,y⟩) .inr⟩;have kn:∀a,H a≠none->a ∉ ad i++ad j->H' a≠none:=λa h n=>by
  cases e:H a with
  |none=>exact absurd e h
  |some u=>rw[kp a u e n];simp
 obtain⟨n0,n1,n2⟩:=zxD.mp nd;have own:∀a,a ∈ ad i++ad j->Gw [] ad a:=λa z=>(zzM.mp z).elim (λy=>.inr ⟨i,y⟩) λy=>.inr ⟨j,y⟩;refine⟨⟨by rw[zzU,zzU];exact R.len,λk hk=>?_,λk=>?_,λk l a h1 h2=>?_,zyI,(λ_ _ _ z=>nomatch z),λa z=>kn a (R.ftr a z) λy=>(R.gtr a<|own a y).2 z,λa z=>?_,λa z=>?_,λk s e=>?_⟩,g⟩
 . rw[zzU,zzU]at hk;rw[ak k (by omega)<|by omega];exact R.out k hk
 . by_cases e:k=i
   . subst e;rw[ai];exact n0
   . by_cases e':k=j
     . subst e';rw[aj];exact n1
     . rw[ak k e e'];exact R.nd k
 . by_cases e:k=i
   . subst e;rw[ai]at h1
     by_cases e':l=k
     . exact e'.symm
     . by_cases e2:l=j
       . subst e2;rw[aj]at h2;exact absurd rfl<|n2 a h1 a h2
       . rw[ak l e' e2]at h2;exact absurd (zzP _ h1)<|nin l a e' e2 h2
   . by_cases e':k=j
     . subst e';rw[aj]at h1
       by_cases e2:l=k
       . exact e2.symm
       . by_cases e3:l=i
         . subst e3;rw[ai]at h2;exact absurd rfl<|n2 a h2 a h1
         . rw[ak l e3 e2]at h2;exact absurd (zzL _ h1)<|nin l a e3 e2 h2
     . rw[ak k e e']at h1
       by_cases e2:l=i
       . subst e2;rw[ai]at h2;exact absurd (zzP _ h2)<|nin k a e e' h1
       . by_cases e3:l=j
         . subst e3;rw[aj]at h2;exact absurd (zzL _ h2)<|nin k a e e' h1
         . rw[ak l e2 e3]at h2;exact R.inj k l a h1 h2
 . obtain⟨h1,h2,h3⟩:=R.btr a z;refine⟨kn a h1 λy=>h3<|own a y,h2,λy=>(gw a y).elim (λx=>h3 x.1) λx=>(sub a x).elim (λw=>h3<|own a w) h1⟩
 . rcases gw a z with⟨y,n⟩|y
   . exact⟨kn a (R.gtr a y).1 n,(R.gtr a y).2⟩
   . exact⟨al a y,(sub a y).elim (λw=>(R.gtr a<|own a w).2) λw f=>R.ftr a f w⟩
 . by_cases e1:k=j
   . subst e1;rw[zyJ<|by rw[zzU];exact hj]at e;cases e;rw[aj];exact⟨v1,s1,xt.lv (λst a z=>z.imp id<|gw a) r1⟩
   . rw[zzX λz=>e1 z.symm]at e
     by_cases e2:k=i
     . subst e2;rw[zyJ hi]at e;cases e;rw[ai];exact⟨v0,s0,xt.lv (λst a z=>z.imp id<|gw a) r0⟩
     . rw[zzX λz=>e2 z.symm]at e;rw[ak k e2 e1];exact(R.sl k s e).grow g λa m u h=>kp a u h<|off k a e2 e1 m
end
def Dt(K:zzA)(kd:KD)(g:O->O->ZV->Option (O×O)):Sp:=λvs H Q _=>∃(F B G:Addr->Prop) (T0 T1:List Addr) (v0 v1 v2:V) (o0 o1:O) (x:ZV) (r:O×O),vs=[v0,v1,v2]/\(∀a,F a->H a≠none)/\(∀a,B a->H a≠none/\¬F a/\¬G a)/\(∀a,G a->H a≠none/\¬F a)/\
 (T0++T1).Nodup/\(∀a ∈ T0++T1,G a)/\xt K kd F B G H v0 o0 T0/\xt K kd F B G H v1 o1 T1/\Rp K kd (Lv F B G x.1) H v2 x.2/\g o0 o1 x=some r/\
 ∀(H':Hp) (T0' T1':List Addr),(∀c u,H c=some u->c ∉ T0++T1->H' c=some u)->(T0'++T1').Nodup->(∀a ∈ T0'++T1',a ∈ T0++T1\/H a=none)->(∀a ∈ T0'++T1',H' a≠none)->
  xt K kd F B (G2 G (T0++T1)<|T0'++T1') H' v0 r.1 T0'->xt K kd F B (G2 G (T0++T1)<|T0'++T1') H' v1 r.2 T1'->Q .non H'
def Xp(i j:Nat)(fe:EF)(g:O->O->ZV->Option (O×O)):SF:=λas=>(as[i]?).bind λa0=>a0.bind λ_=>(as[j]?).bind λb0=>b0.bind λ_=>(fe as).bind λp=>(Zv p.2 p.1).bind λx=>(x.2[i]?).bind λa=>(x.2[j]?).bind λb=>a.bind λo0=>b.bind λo1=>(g o0 o1 x.1).bind λr=>some<|.nx<|(x.2.set i<|some r.1).set j<|some r.2
section
variable{X:Cx}{kd:KD}{e:Expr}{fe:EF}{pos pos':Pos}
def Ud{i j k:Nat}{f}{fdt}{ps}{g}{x n0 n1}{p p0 p1}(F:FnOk X.prog X.w X.K X.mg X.base Tf k f fdt ps (Dt X.K kd g))(hr:Room k X.A)(hg:Gl X x)(hm:X.mg x=some (.ref f))(hk:W.keepIn X.K (.ref f)=true)
 (hb:Binds X.K fdt ps []) (hx:QL Tf X (λ_ _ _=>False)) (hij:i≠j) (h0:PE X (.Name n0 p0) (YZ i)) (h1:PE X (.Name n1 p1) (YZ j)) (he:AE X kd e fe) (hdb:(x==("__debug__":Str))=false)
 (hs0:starEach [.Name n0 p0,.Name n1 p1,e] X.env=(false,eval (.Name n0 p0) X.env)::starEach [.Name n1 p1,e] X.env) (hs1:starEach [.Name n1 p1,e] X.env=(false,eval (.Name n1 p1) X.env)::starEach [e] X.env) (hs2:starEach [e] X.env=(false,eval e X.env)::starEach [] X.env) (hpl:(backTo pos<|starEach [.Name n1 p1,e] X.env).any (·.1)=false)
 (hs:swapsWith (.Call (.Name x p) [.Name n0 p0,.Name n1 p1,e] [] pos) none pos'.line X.env=pure false):
 QM X kd (.Expr (.Call (.Name x p) [.Name n0 p0,.Name n1 p1,e] [] pos) pos') (Xp i j fe g):=by
 with_unfolding_all exact(yU (Wh (Lr F hr hg hm hk hb .nil hx (wQ h0 (wQ h1 (wQ he Vq hs2) hs1) hs0) hdb hs0 hpl) hs) λD σ H h=>by
  obtain⟨F,B,ad,as,o,R,e,q⟩:=h;obtain⟨a0,k0,e1⟩:=bS_<|e;obtain⟨c0,q0,e2⟩:=bS_ e1;obtain⟨b0,k1,e3⟩:=bS_ e2;obtain⟨c1,q1,e4⟩:=bS_ e3;obtain⟨⟨pv,as1⟩,h1,e5⟩:=bS_ e4;obtain⟨⟨it,as2⟩,h2,e6⟩:=bS_ e5;obtain⟨a,ka,e7⟩:=bS_ e6;obtain⟨b,kb,e8⟩:=bS_ e7;obtain⟨o0,qa,e9⟩:=bS_ e8;obtain⟨o1,qb,e10⟩:=bS_ e9;obtain⟨r,hgr,e11⟩:=bS_ e10;subst q0 q1 qa qb;obtain⟨v0,s0,_⟩:=R.sl i _ k0;obtain⟨v1,s1,_⟩:=R.sl j _ k1;have e12:=zzY e11;refine⟨v0,s0,v1,s1,F,B,ad,as,pv,as1,R,h1,λv T ad1 H1 R1 rv1 g1=>?_⟩;obtain⟨ad2,R2,rp,le⟩:=Zk R1 rv1 h2;obtain⟨w0,t0,ro0⟩:=R2.sl i _ ka;obtain⟨w1,t1,ro1⟩:=R2.sl j _ kb;rw[s0]at t0;rw[s1]at t1;cases t0;cases t1;have dj:∀a ∈ ad2 i,∀b ∈ ad2 j,a≠b:=λa m b m' z=>hij<|R2.inj i j a m<|z ▸ m';refine⟨F,B,Gw [] ad2,ad2 i,ad2 j,v0,v1,v,o0,o1,it,r,rfl,R2.ftr,R2.btr,R2.gtr,zxD.mpr ⟨R2.nd i,R2.nd j,dj⟩,λa m=>(zzM.mp m).elim (λy=>.inr ⟨i,y⟩) λy=>.inr ⟨j,y⟩,ro0,ro1,rp,hgr,λH' T0 T1 kp nd sub al r0 r1=>?_⟩;obtain⟨R3,g3⟩:=R2.chg2 hij (zzG.mp ka).1 (zzG.mp kb).1 s0 s1 nd sub kp al r0 r1;subst e12;exact q σ _ _ R3<|(g1.trans<|Grow.less le).trans g3)
end
def SB(n:Nat)(K:zzA)(kd:KD)(F B:Addr->Prop)(ad:Ad)(σ:St)(H:Hp)(D:Ends):Out->Prop
 | .nx as'=>∀σ' ad' H',(∀i,i<n->σ'[i]? = σ[i]?)->Rel K kd F B [] ad' as' σ' H'->Grow (Gw [] ad) H (Gw [] ad') H'->D.nx σ' H'
 | .bk as'=>∀σ' ad' H',(∀i,i<n->σ'[i]? = σ[i]?)->Rel K kd F B [] ad' as' σ' H'->Grow (Gw [] ad) H (Gw [] ad') H'->D.bk σ' H'
 | .ct as'=>∀σ' ad' H',(∀i,i<n->σ'[i]? = σ[i]?)->Rel K kd F B [] ad' as' σ' H'->Grow (Gw [] ad) H (Gw [] ad') H'->D.ct σ' H'
 | .rt _=>False
def bp(n:Nat)(K:zzA)(kd:KD)(f:SF):TS:=λD σ H=>∃F B ad as o,Rel K kd F B [] ad as σ H/\f as=some o/\SB n K kd F B ad σ H D o
@[irreducible] def AP(X:Cx)(kd:KD)(n:Nat)(st:Stmt)(f:SF):Prop:=PS X st<|bp n X.K kd f
@[irreducible] def HH(X:Cx)(kd:KD)(n:Nat)(st:List Stmt)(f:SF):Prop:=Gd X st<|bp n X.K kd f
def SB.pre{n:Nat}{K}{kd}{F B}{ad ad1}{σ σ1}{H H1}{D}{o}(s:∀i,i<n->σ1[i]? = σ[i]?)(g:Grow (Gw [] ad) H (Gw [] ad1) H1)(h:SB n K kd F B ad σ H D o):SB n K kd F B ad1 σ1 H1 D o:=by
 cases o with
 |nx as=>exact λσ' ad' H' s' R g'=>h σ' ad' H' (λi hi=>(s' i hi).trans<|s i hi) R (g.trans g')
 |bk as=>exact λσ' ad' H' s' R g'=>h σ' ad' H' (λi hi=>(s' i hi).trans<|s i hi) R (g.trans g')
 |ct as=>exact λσ' ad' H' s' R g'=>h σ' ad' H' (λi hi=>(s' i hi).trans<|s i hi) R (g.trans g')
 |rt _=>exact h
section
variable{X:Cx}{kd:KD}{n:Nat}{e c tg iter:Expr}{st:Stmt}{rest sts body:List Stmt}{fa:EF}{ta:TF}{f g:SF}{pos pos':Pos}
def SH:HH X kd n [] vS:=by with_unfolding_all exact(XX RX λD σ H h=>by
 obtain⟨F,B,ad,as,o,R,e,q⟩:=h;cases e;exact q σ ad H (λ_ _=>rfl) R Grow.refl)
def GI(h1:AP X kd n st f)(h2:HH X kd n rest g):HH X kd n (st::rest) (zf f g):=by with_unfolding_all exact(XX (Tq h1 h2) λD σ H h=>by
 obtain⟨F,B,ad,as,o,R,e,q⟩:=h;obtain⟨o1,e1,e⟩:=bS_<|e;refine⟨F,B,ad,as,o1,R,e1, ?_⟩;cases o1 with
 |nx as1=>exact λσ' ad' H' s' R' g'=>⟨F,B,ad',as1,o,R',e,q.pre s' g'⟩
 |bk as1=>cases e;exact q
 |ct as1=>cases e;exact q
 |rt r=>cases e;exact q)
def PL(h1:AP X kd n st f):HH X kd n [st] f:=by with_unfolding_all exact(Pg h1)
def JN(hc:AT X kd c ta)(ha:HH X kd n sts f)(hb:HH X kd n rest g):AP X kd n (.If c sts rest pos) (wJ ta f g):=by with_unfolding_all exact(yU (ML hc ha hb) λD σ H h=>by
 obtain⟨F,B,ad,as,o,R,e,q⟩:=h;obtain⟨⟨p,as1⟩,h1,e⟩:=bS_<|e;refine⟨F,B,ad,as,p,as1,R,h1,λad' H' R' g=>?_⟩;cases p with
 |true=>exact⟨F,B,ad',as1,o,R',e,q.pre (λ_ _=>rfl) g⟩
 |false=>exact⟨F,B,ad',as1,o,R',e,q.pre (λ_ _=>rfl) g⟩)
def BB(he:AE X kd e fa)(hs:swapsWith e none pos.line X.env=pure false):AP X kd n (.Expr e pos) (yy fa):=by with_unfolding_all exact(yU (Wh he hs) λD σ H h=>by
 obtain⟨F,B,ad,as,o,R,e,q⟩:=h;obtain⟨⟨p,as1⟩,h1,e⟩:=bS_<|e;cases e;exact⟨F,B,ad,as,p,as1,R,h1,λv T' ad' H' R' rv g=>q σ ad' H' (λ_ _=>rfl) R'.drop<|g.trans<|Grow.less Gw.drop⟩)
def Oo{z}{i:Nat}{x}(hn:n<=i)(hN:X.N.Nodup)(hi:X.N[i]? = some x)(hx:Loc X.env.scope x)(he:AE X kd e fa)(hs:swapsWith e (some<|.Name x pos') pos.line X.env=pure false)(hf:X.fn x=true\/X.env.scope.names.lookup x=some .local):
 AP X kd n (.Assign [.Name x pos'] e pos) (zm z i fa):=by with_unfolding_all exact(yU (FB hN hi hx he hs hf) λD σ H h=>by
 obtain⟨F,B,ad,as,o,R,e,q⟩:=h;obtain⟨⟨p,as1⟩,h1,e⟩:=bS_<|e;obtain⟨⟨y,as2⟩,h2,e⟩:=bS_ e;obtain⟨hl,e⟩:=zu e;cases e;refine⟨F,B,ad,as,p,as1,R,h1,λv T' ad' H' R' rv g=>?_⟩;obtain⟨ad2,R2,le⟩:=P2 R' rv h2 hl;exact q _ ad2 H' (λk hk=>zzX<|by omega) R2<|g.trans<|Grow.less le)
def OD{fi}{S}{gt}(hS:∀i,i<n->i ∉ S)(hp:PassesOwn (model X.prog X.w) X.A X.env X.xe)(hc:X.calm=true)(hi:AI X kd tg iter fi)(hg:AG X kd tg S gt)(hb:HH X kd n body f)(hs:∀x,foldedSetIterable iter X.env x=pure x):
 AP X kd n (.For tg iter body [] pos) (yw fi gt f):=by with_unfolding_all exact(yU (GS hp hc hi hg hb hs) λD σ H h=>by
 obtain⟨F,B,ad,as,o,R,e,q⟩:=h;obtain⟨⟨ds,as1⟩,h1,e⟩:=bS_<|e;refine⟨F,B,ad,as,ds,as1,R,h1,λJ ad1 H1 R1 g1 it=>?_⟩;refine⟨λi m σ2 H2=>m+i=ds.length/\∃ad2 as2,(∀k,k<n->σ2[k]? = σ[k]?)/\Rel X.K kd F B [] ad2 as2 σ2 H2/\Grow (Gw [] ad1) H1 (Gw [] ad2) H2/\forL gt f (ds.drop i) as2=some o,⟨ds.length,rfl,ad1,as1,λ_ _=>rfl,R1,Grow.refl,e⟩, ?_⟩
 rintro i m σ2 H2 ⟨hm,ad2,as2,s2,R2,g2,e2⟩
 obtain⟨k1,k2,k3⟩:=it.all ad2 H2 g2 R2.trk i
 by_cases hi:i<ds.length
 . refine .inr ⟨k1 hi,λσ3 H3=>∃ad3 as3,(∀k,k<n->σ3[k]? = σ[k]?)/\Rel X.K kd F B [] ad3 as3 σ3 H3/\Grow (Gw [] ad1) H1 (Gw [] ad3) H3/\forL gt f (ds.drop<|i+1) as3=some o,λσ3 H3 ⟨ad3,as3,s3,R3,g3,e3⟩=>⟨m-1,by omega,by omega,ad3,as3,s3,R3,g3,e3⟩,λv H3 hy=>?_⟩;obtain⟨kp,rp⟩:=k3 v H3 hy;rw[zyP hi]at e2;obtain⟨as3,e3,e2⟩:=bS_<|e2;obtain⟨o3,e4,e2⟩:=bS_ e2;obtain⟨R3,g3⟩:=R2.more kp;refine⟨F,B,ad2,as2,_,as3,R3,rp _<|zzE hi,e3,λσ4 ad4 H4 R4 g4 s4=>?_⟩;refine⟨F,B,ad4,as3,o3,R4,e4, ?_⟩;have gg:=(g2.trans g3).trans g4;have s4':∀k,k<n->σ4[k]? = σ[k]? := λk hk=>(s4 k<|hS k hk).trans<|s2 k hk;cases o3 with
   |nx as5=>exact λσ5 ad5 H5 s5 R5 g5=>⟨ad5,as5,λk hk=>(s5 k hk).trans<|s4' k hk,R5,gg.trans g5,e2⟩
   |ct as5=>exact λσ5 ad5 H5 s5 R5 g5=>⟨ad5,as5,λk hk=>(s5 k hk).trans<|s4' k hk,R5,gg.trans g5,e2⟩
   |bk as5=>
    cases e2;exact λσ5 ad5 H5 s5 R5 g5=>q σ5 ad5 H5 (λk hk=>(s5 k hk).trans<|s4' k hk) R5 (g1.trans<|gg.trans g5)
   |rt r=>cases e2;exact q.elim
 . refine .inl ⟨k2 (by omega), ?_⟩;rw[List.drop_eq_nil_of_le<|by omega]at e2;cases e2;exact q σ2 ad2 H2 s2 R2<|g1.trans g2)
end
section
variable{X:Cx}{kd:KD}{e a b c o i:Expr}{pos pos':Pos}{fa fb fk fv:EF}
def Sn{n:Nat}{j:Nat}{x}{p}(hu:X.A.units+1<cLine)(ho:PE X (.Name x p) (YZ j))(hk:AE X kd i fk)(hv:AE X kd e fv)(hs:swapsWith e (some<|.Subscript (.Name x p) i pos') pos.line X.env=pure false):
 AP X kd n (.Assign [.Subscript (.Name x p) i pos'] e pos) (Gf j fk fv):=by with_unfolding_all exact(yU (BR hu ho hk hv hs) λD σ H h=>by
 obtain⟨F,B,ad,as,o,R,e,q⟩:=h;obtain⟨⟨p,as1⟩,h1,e⟩:=bS_<|e;obtain⟨⟨⟨st,d⟩,as2⟩,h2,e⟩:=bS_ e;cases k1:as2[j]? with
 |none=>rw[k1]at e;cases e
 |some a0=>
  rw[k1]at e
  match a0,e,k1 with
  |some (.nd (.dt ks0) os0),e,k1=>
   obtain⟨⟨pk,as3⟩,h3,e⟩:=bS_<|e;obtain⟨⟨dk,lk⟩,h4,e⟩:=bS_ e;obtain⟨k,h5,e⟩:=bS_ e;refine⟨F,B,ad,as,p,as1,R,h1,λv T1 ad1 H1 R1 rv1 g1=>?_⟩;obtain⟨ad2,R2,rp,le⟩:=Zk R1 rv1 h2;obtain⟨v0,hs0,ro0⟩:=R2.sl j _ k1;refine⟨v0,hs0,xJ R2 h3 λu ad3 H3 R3 rv3 g3=>?_⟩;cases k2:as3[j]? with
   |none=>rw[k2]at e;cases e
   |some a2=>
    rw[k2]at e
    match a2,e,k2 with
    |some (.nd (.dt ks) os),e,k2=>
     obtain⟨hz,e⟩:=zu e;cases e;obtain⟨v1,hs1,ro1⟩:=R3.sl j _ k2;rw[hs0]at hs1;cases hs1;generalize hfp:ad3 j=fp1 at ro1;cases ro1 with
     | dt hH hl rl=>
          rename_i l vs fp;obtain⟨bk,rfl,hbk⟩:=RZ (yN.vw R3 rv3 h4) h5;have ro:xt X.K kd F B (Gw [] ad3) H3 v (.lf st d) []:=.lf<|Rp.grow g3 rp;have hlo:ks.length=os.length:=by rw[hl,rl.length]
          have hex:∃fp',fp'.Sublist fp/\x9 X.K kd F B (Gw [] ad3) H3 (Wv ks vs k v) (Wv ks os k<|.lf st d) fp':=by
           unfold Wv
           split
           . exact EV ro hl rl
           . exact⟨fp,List.Sublist.refl _,by have:=rl.append<|RoL.one ro;rw[zyD]at this;exact this⟩
          obtain⟨fp',hsub,rl'⟩:=hex;have hnd:=R3.nd j;rw[hfp]at hnd;refine⟨l,_,rfl,.inr ⟨_,k,bk,hH,rfl,hbk,by rw[List.length_zip,hl,Nat.min_self,<-hl];exact hz,rfl⟩, ?_⟩;rw[Mt hl];obtain⟨R4,g4⟩:=R3.mut (zzG.mp k2).1 hfp hs0 (fp':=fp') (λa m=>by
           rw[zyD]at m ⊢;exact hsub.mem m) (by rw[zyD];exact(zzW.mp hnd).2.sublist hsub) (by rw[hH];simp) λH' G' hl' gr kp=>.dt hl' (Px hl)<|x9.grow gr kp rl'
          exact q σ _ _ (λ_ _=>rfl) R4<|((g1.trans<|Grow.less le).trans g3).trans g4)
end
def startM(n:Nat)(o0 o1:O)(x:ZV):AS:=[some o0,some o1,some<|.lf x.1 x.2]++List.replicate (n-3) none
def gM(n:Nat)(c:SF)(o0 o1:O)(x:ZV):Option (O×O):=(c<|startM n o0 o1 x).bind λo=>match o with
 | .nx as=>(as[0]?).bind λa=>(as[1]?).bind λb=>a.bind λr0=>b.bind λr1=>some (r0,r1)
 |_=>none
def AZ(T0 T1:List Addr):Ad:=λi=>if i=0 then T0 else if i=1 then T1 else[]
def Vs{T0 T1}{a}:Gw [] (AZ T0 T1) a ↔ a ∈ T0++T1:=by
 constructor
 . rintro(z|⟨i,z⟩)
   . exact nomatch z
   . match i,z with
     |0,z=>exact zzP _ z
     |1,z=>exact zzL _ z
     |i+2,z=>exact nomatch z
 . intro z
   rcases zzM.mp z with z|z
   . exact .inr ⟨0,z⟩
   . exact .inr ⟨1,z⟩
def Kc{K}{kd}{F B G}{T0 T1}{H}{N}{v0 v1 v2}{o0 o1}{x}(hN:3<=N.length)(ht:∀a,F a->H a≠none)(hB:∀a,B a->H a≠none/\¬F a/\¬G a)(hG:∀a,G a->H a≠none/\¬F a)(nd:(T0++T1).Nodup)(hT:∀a ∈ T0++T1,G a)
 (r0:xt K kd F B G H v0 o0 T0) (r1:xt K kd F B G H v1 o1 T1) (rp:Rp K kd (Lv F B G x.1) H v2 x.2):
 Rel K kd F (λa=>B a\/(G a/\a ∉ T0++T1)) [] (AZ T0 T1) (startM N.length o0 o1 x) (L2.start N [v0,v1,v2]) H:=by
 obtain⟨n0,n1,n2⟩:=zxD.mp nd;have lv:∀st a,Lv F (λa=>B a\/(G a/\a ∉ T0++T1)) (Gw []<|AZ T0 T1) st a->Lv F B G st a:=λst a z=>by
  rcases z with(z|z|z)|z
  . exact .inl<|.inl z
  . exact .inl<|.inr z
  . exact .inr z.1
  . exact .inr<|hT a<|Vs.mp z
 refine⟨by unfold startM L2.start;simp,λi hi=>?_,λi=>?_,λi j a x y=>?_,zyI,(λ_ _ _ z=>nomatch z),ht,λa z=>?_,λa z=>hG a<|hT a<|Vs.mp z,λi s e=>?_⟩
 . match i,hi with
   |0,hi=>simp[startM]at hi
   |1,hi=>simp[startM]at hi
   |i+2,_=>rfl
 . match i with
   |0=>exact n0
   |1=>exact n1
   |i+2=>exact zyI
 . match i,j,x,y with
   |0,0,_,_=>rfl
   |1,1,_,_=>rfl
   |0,1,x,y=>exact absurd rfl (n2 a x a y)
   |1,0,x,y=>exact absurd rfl (n2 a y a x)
   |i+2,_,x,_=>exact nomatch x
   |0,j+2,_,y=>exact nomatch y
   |1,j+2,_,y=>exact nomatch y
 . rcases z with z|z
   . exact⟨(hB a z).1,(hB a z).2.1,λy=>(hB a z).2.2<|hT a<|Vs.mp y⟩
   . exact⟨(hG a z.1).1,(hG a z.1).2,λy=>z.2<|Vs.mp y⟩
 . match i,e with
   |0,e=>cases e;exact⟨v0,rfl,xt.lv lv r0⟩
   |1,e=>cases e;exact⟨v1,rfl,xt.lv lv r1⟩
   |2,e=>cases e;exact⟨v2,rfl,.lf<|rp.less<|lv x.1⟩
   |i+3,e=>
    have e:=e;have ea:=(List.mem_replicate.mp<|zzZ e).2;subst ea;rfl
section
variable{P:Program}{w:World}{K:zzA}{mg:Str->Option Value}{base:Heap}
def Ic{kd}{x qual}{st}{f}{fd}{N ps}{k:Nat}{c}(Fn:Fun K x qual st f fd)(S:FnScope N ps (zj st))(hps:ps.length=3)(hN:3<=N.length)
 (hb:∀(cdv:Value) (A:Around) (outer:List Env) (s:Shared) (H:Hp) (E:XK),Room k (A.deeper<|envOfC qual (zj st) s.heap.objs.size f cdv)->HH (PQ Tf P w K mg base N qual (zj st) f cdv A outer s H E).nox kd 2 (vF st) c):
 FnOk P w K mg base Tf (k+1) f fd ps (Dt K kd<|gM N.length c):=by
 with_unfolding_all (
 refine Fn.ok S (λvs H Q E h=>?_) λcdv A outer s H vs Q E hr h=>⟨_,hb cdv A outer s H E hr, ?_⟩
 . obtain⟨_,_,_,_,_,_,_,_,_,_,_,_,rfl,_⟩:=h;exact hps.symm
 . obtain⟨F,B,G,T0,T1,v0,v1,v2,o0,o1,x,r,rfl,ht,hB,hG,nd,hT,r0,r1,rp,e,q⟩:=h;obtain⟨out,e1,e⟩:=bS_ e;refine⟨F,_,_,startM N.length o0 o1 x,out,Kc hN ht hB hG nd hT r0 r1 rp,e1, ?_⟩;cases out with
   |nx as=>
    obtain⟨a,k0,e⟩:=bS_ e;obtain⟨b,k1,e⟩:=bS_ e;obtain⟨w0,qa,e⟩:=bS_ e;obtain⟨w1,qb,e⟩:=bS_ e;subst qa qb;intro σ' ad' H' sp R g;obtain⟨u0,s0,t0⟩:=R.sl 0 _ k0;obtain⟨u1,s1,t1⟩:=R.sl 1 _ k1;rw[sp 0<|by omega]at s0;rw[sp 1<|by omega]at s1;cases(s0);cases(s1);cases(e);have own:∀a,a ∈ ad' 0++ad' 1->Gw [] ad' a:=λa z=>(zzM.mp z).elim (λy=>.inr ⟨0,y⟩) λy=>.inr ⟨1,y⟩;have lv:∀st a,Lv F B (G2 G (T0++T1)<|ad' 0++ad' 1) st a->Lv F (λa=>B a\/(G a/\a ∉ T0++T1)) (Gw [] ad') st a:=λst a z=>by
     rcases z with(z|z)|z|z
     . exact .inl<|.inl z
     . exact .inl<|.inr<|.inl z
     . exact .inl<|.inr<|.inr z
     . exact .inr<|own a z
    exact q H' (ad' 0) (ad' 1) (λc u h n=>g.keep c u h λz=>n<|Vs.mp z) (zxD.mpr ⟨R.nd 0,R.nd 1,λa m b m' z=>absurd (R.inj 0 1 a m<|z ▸ m')<|by decide⟩) (λa m=>(g.own a<|own a m).imp Vs.mp id) (λa m=>(R.gtr a<|own a m).1) (xt.lv lv t0) (xt.lv lv t1)
   |_=>cases e)
end
section
variable{X:Cx}{kd:KD}{n:Nat}
def uM(z)(i:Nat){x}{pos pos'}{e}{fa}(hn:n<=i)(hN:X.N.Nodup)(he:AE X kd e fa)(hi:X.N[i]? = some x:=by rfl)(hx:Loc X.env.scope x:=by first|exact Or.inl rfl|exact Or.inr rfl)(hs:swapsWith e (some<|.Name x pos') pos.line X.env=pure false:=by rfl)(hf:X.fn x=true\/X.env.scope.names.lookup x=some .local:=by first|exact Or.inl rfl|exact Or.inr rfl):
 AP X kd n (.Assign [.Name x pos'] e pos) (zm z i fa):=Oo hn hN hi hx he hs hf
end
def Nu{as}{inner}{k:Nat}(h:XA Pk as k=some inner):as[k]? = some (some<|.nd .tp inner):=by
 obtain⟨o,h1,h⟩:=Q3 h;cases Sx h;exact h1
def IQ(f:EF):EF:=λas=>(f as).bind λp=>some (p.1.frz,p.2)
def HB{X}{kd}{e}{fa}(h:AE X kd e fa):AE X kd e (IQ fa):=by with_unfolding_all exact(yr h λσ H Q q=>by
 obtain⟨F,B,ad,as,r,as',R,e,k⟩:=q;obtain⟨⟨p,as1⟩,h1,e⟩:=bS_<|e;cases e;exact⟨F,B,ad,as,p,as1,R,h1,λv T' ad' H' R' rv g=>k v [] ad' H' R'.drop (yN.drop R' rv)<|g.trans<|Grow.less Gw.drop⟩)
def uK{f}{as}{x}(h:WE f as x):WD (IQ f) as true x:=by
 obtain⟨o,h,h1,h2⟩:=h;unfold WD IQ;rw[h,<-h1,<-h2];rfl
def BL(i n:Nat)(fr:DF):SF:=λas=>(XA Pk as i).bind λos0=>(GV YY os0 n).bind λ_=>(fr as).bind λp=>(MS p.1).bind λx=>(XA Pk p.2 i).bind λos=>(GV YY os n).bind λinner=>if inner.length<sizeLine/\i<p.2.length then some (.nx<|p.2.set i<|some<|.nd .tp<|os.set n<|.nd .ls<|inner++[.lf x.1 x.2])else none
section
variable{X:Cx}{kd:KD}{i:Nat}{fr:DF}{e:Expr}
def Em{K}{F B G}{H}{l}{os}{fp}(h:xt K kd F B G H (.ref l) (.nd .tp os) fp):¬Lv F B G true l:=by
 cases h with
 |tp n _ _=>exact n
def O4{xi}{j n:Nat}{p1 p2 p3 apos cpos pos'}(h1:PE X (.Name xi p1) (YZ i))(h2:PE X (.Constant (.int (n:Int)) j p2) (tC<|.int (n:Int)))(hp:vY (.Constant (.int (n:Int)) j p2))(ha:AD X kd [e] fr)
 (hbase:attributeBase (.Subscript (.Name xi p1) (.Constant (.int (n:Int)) j p2) p3) "append" X.env (eval (.Subscript (.Name xi p1) (.Constant (.int (n:Int)) j p2) p3) X.env)=eval (.Subscript (.Name xi p1) (.Constant (.int (n:Int)) j p2) p3) X.env)
 (hfew:((backTo cpos<|starEach [e] X.env).all (λx=>!x.1)&&(backToKw cpos<|keywordEach [] X.env).all (λx=>x.1.isSome)
  && decide (([e]:List Expr).length+([]:List Keyword).length+(if([]:List Keyword).isEmpty then 0 else 1)<30))=true)
 (hline:(apos.endLine==cpos.line)=true) (hs:starEach [e] X.env=(false,eval e X.env)::starEach [] X.env) (hplain:(backTo cpos<|starEach [] X.env).any (·.1)=false)
 (hsw:swapsWith (.Call (.Attribute (.Subscript (.Name xi p1) (.Constant (.int (n:Int)) j p2) p3) "append" apos) [e] [] cpos) none pos'.line X.env=pure false):
 QM X kd (.Expr (.Call (.Attribute (.Subscript (.Name xi p1) (.Constant (.int (n:Int)) j p2) p3) "append" apos) [e] [] cpos) pos') (BL i n fr):=by
 with_unfolding_all exact(yU (Wh (HA PySem.F.plainAttrs_list PySem.F.slot_list_append PySem.F.type_list_append vi (RJ Pe h1 h2 hp) ha hbase hfew hline hs hplain) hsw) λD σ H h=>by
  obtain⟨F,B,ad,as,o,R,e,q⟩:=h;obtain⟨os0,e1,e⟩:=bS_<|e;obtain⟨in0,e2,e⟩:=bS_ e;obtain⟨⟨os1,as1⟩,g1,e⟩:=bS_ e;obtain⟨⟨st,d⟩,e3,e⟩:=bS_ e;obtain⟨os,e4,e⟩:=bS_ e;obtain⟨inner,e5,e⟩:=bS_ e;obtain⟨⟨z1,z2⟩,e⟩:=zu e;cases e;cases MH e3;obtain⟨v0,s0,r0⟩:=R.sl i _<|Nu e1;obtain⟨l,vs,w,f,rfl,hH,hvs,rw0,fn,fs,_⟩:=Ug r0 (R.nd i) (λa m=>.inr ⟨i,m⟩)<|N6 e2;obtain⟨L,ivs,fq,rfl,ef,hL,_⟩:=Yz rw0;refine⟨_,s0,l,vs,n,.ref L,rfl,rfl,.inl<|.inl hH,y6 hvs,.inl ⟨rfl,ivs,.inl<|.inl hL⟩,F,B,ad,as,_,as1,R,g1,λws1 T1 ad1 H1 R1 ro1 gr1=>?_⟩;cases ro1 with
  |cons a r=>
   cases r;cases a with
   |lf rp=>
    rename_i w1;have R1:=R1;have gr1:=gr1;have rp:=rp;obtain⟨R3,v2,s2,r2⟩:=R1.mv<|Nu e4;rw[s0]at s2;cases s2;have hc1:=gr1.keep l _ hH λz=>Em r0<|.inr z;have hn:=R1.nd i;obtain⟨l',vs',w',f',el,hH',hvs',rw1,fn',fs',up1⟩:=Ug r2 hn (λa m=>.inl m)<|N6 e5;cases el;rw[hc1]at hH';cases hH';rw[hvs]at hvs';cases hvs';obtain⟨L',ivs',fq',eL,ef',hL',ir⟩:=Yz rw1;cases eL;have hLi:=fs' L (by rw[ef'];exact zzF ..);have gL:Gw (ad1 i) (yq ad1 i []) L:=.inl hLi;have rp2:Rp X.K kd (Lv F B (Gw (ad1 i)<|yq ad1 i []) st) H1 w1 d:=rp.less λa z=>z.imp id RK.mp;have hLq:L ∉ fq':=by rw[ef']at fn';exact(zzW.mp fn').1
    have rw2:xt X.K kd F B (Gw (ad1 i)<|yq ad1 i []) (upd H1 L<|.lst<|ivs'++[w1]) (.ref L) (.nd .ls<|inner++[.lf st d]) f':=by
     rw[ef'];exact .ls zO<|Gc (Rp.grow (Zh gL) rp2) inner<|x9.grow (Zh gL) (λx m w h=>by rw[zy λe=>hLq<|by subst e;exact m];exact h) ir
    have ro3:=up1 L _ _ (by rw[ef'];exact zzF ..) rw2;obtain⟨R4,g4⟩:=R3.wrT hLi;have R5:=R4.put (by rw[zzU];exact z2) ro3;have es:σ.set i (some<|.ref l)=σ:=by
     refine List.ext_getElem? λj=>?_
     by_cases q:i=j
     . subst q;rw[zyJ (zzG.mp s0).1,s0]
     . rw[zzX q]
    rw[es,List.set_set]at R5;refine⟨L,ivs',w1,rfl,rfl,hL', ?_,q σ _ _ R5 ⟨λb u hb nb=>?_,λb z=>?_⟩⟩
    . rw[Pi ir];exact z1
    . have k1:=gr1.keep b u hb nb
      by_cases e:b=L
      . subst e;exact((gr1.own b<|.inr ⟨i,hLi⟩).elim (λz=>absurd z nb) λy=>by rw[hb]at y;cases y)
      . rw[zy e];exact k1
    . rcases z with z|⟨j,z⟩
      . exact nomatch z
      . by_cases e:j=i
        . subst e;rw[zx]at z;exact gr1.own b<|.inr ⟨j,z⟩
        . rw[zw e,zw e]at z;exact gr1.own b<|.inr ⟨j,z⟩)
def TL(i n:Nat):TF:=λas=>(XA Pk as i).bind λos=>(GV YY os n).bind λinner=>some (inner.isEmpty,as)
def Ia{b}{xi}{j n:Nat}{p1 p2 p3 pos}(ho:MQ X kd (compareOp .Eq) (zr .Eq))(h1:PE X (.Name xi p1) (YZ i))(h2:PE X (.Constant (.int (n:Int)) j p2) (tC<|.int (n:Int)))(hp:vY (.Constant (.int (n:Int)) j p2))(hb:AE X kd b (yR dN))(hm:behindInMarks .Eq b=false):
 AT X kd (.Compare (.Subscript (.Name xi p1) (.Constant (.int (n:Int)) j p2) p3) [.Eq] [b] pos) (TL i n):=by
 with_unfolding_all exact(WW (Lz ho (RJ Pe h1 h2 hp) hb hm) λσ H Q h=>by
  obtain⟨F,B,ad,as,bb,as',R,e,q⟩:=h;obtain⟨os,e1,e⟩:=bS_<|e;obtain⟨inner,e2,e⟩:=bS_ e;cases e;obtain⟨v0,s0,r0⟩:=R.sl i _<|Nu e1;obtain⟨l,vs,w,f,rfl,hH,hvs,rw0,fn,fs,_⟩:=Ug r0 (R.nd i) (λa m=>.inr ⟨i,m⟩)<|N6 e2;refine⟨_,s0,l,vs,n,w,rfl,rfl,.inl<|.inl hH,y6 hvs,xJ R (rfl) λu ad1 H1 R1 rv1 g1=>?_⟩;obtain⟨v1,s1,r1⟩:=R1.sl i _<|Nu e1;rw[s0]at s1;cases s1;have hc1:=g1.keep l _ hH λz=>Em r0<|.inr z;obtain⟨l',vs',w',f',el,hH',hvs',rw1,_,_,_⟩:=Ug r1 (R1.nd i) (λa m=>.inr ⟨i,m⟩)<|N6 e2;cases el;rw[hc1]at hH';cases hH';rw[hvs]at hvs';cases hvs';refine⟨λ_=>False,.lst<|O.toDs inner,.lst [],.im<|.bl inner.isEmpty,(λ_ z=>z.elim),rw1.vw.less λ_ z=>z.elim,(yN.vw R1 rv1 rfl).less λ_ z=>z.elim,by cases inner<;>rfl,λw H3 kp rp=>?_⟩;cases rp;obtain⟨R3,g3⟩:=R1.more kp;exact⟨_,rfl,q ad1 H3 R3<|g1.trans g3⟩)
end
abbrev vC(f:Value->Int)(xs:Array Keyed)(i:Nat):Int:=((xs[i]?).map λp=>f p.1).getD 0
abbrev UU(f:Value->Int)(xs:Array Keyed)(n:Nat):Prop:=∀i j,i<j->j<n->vC f xs i<vC f xs j
abbrev HJ(f:Value->Int)(xs:Array Keyed)(n:Nat):Prop:=∀i j,i<j->j<n->vC f xs j<vC f xs i
structure Sb9(k:SortKind)(a:Array Keyed)(st:SortSt):Prop where
 p:(arrOf st).Perm a
 k:kindOf st=k
 f:failedOf st=none
 q:pendingOf st = #[]
section
variable{P:Program}{w:World}{A:Around}{E:Value->Shared->Prop}{s:Shared}{k:SortKind}{f:Value->Int}{a:Array Keyed}{st:SortSt}
abbrev Bd(P:Program)(w:World)(A:Around)(s:Shared)(k:SortKind)(f:Value->Int)(a:Array Keyed):Prop:=
 ∀p ∈ a.toList,∀q ∈ a.toList,∀(Q:Bool->Shared->Prop) (E:Value->Shared->Prop),Q (decide (f p.1<f q.1)) s->wpAny (model P w) A (keyLt' k p.1 q.1) Q E s
abbrev Hz(f:Value->Int)(a:Array Keyed):Prop:=(a.toList.map λp=>f p.1).Nodup
def TQ{xs:Array Keyed}{i:Nat}(h:i<xs.size):vC f xs i=f (xs[i]).1:=by unfold vC;rw[getElem?_pos xs i h];rfl
def Sb9.z(B:Sb9 k a st):(arrOf st).size=a.size:=B.p.size_eq
def Sb9.ne(B:Sb9 k a st)(d:Hz f a){i j:Nat}(hi:i<a.size)(hj:j<a.size)(n:i≠j):vC f (arrOf st) i≠vC f (arrOf st) j:=by
 have d':((arrOf st).toList.map λp=>f p.1).Nodup:=(((Array.perm_iff_toList_perm.mp B.p).map _).nodup_iff).mpr d;have hi':i<(arrOf st).size:=by rw[B.z];exact hi
 have hj':j<(arrOf st).size:=by rw[B.z];exact hj
 rw[TQ hi',TQ hj'];intro e;refine n<|(List.getElem_inj d' (i:=i) (j:=j) (h₀:=by simpa using hi') (h₁:=by simpa using hj')).mp ?_;simpa using e
def Sb9.set(B:Sb9 k a st){xs:Array Keyed}(h:xs.Perm (arrOf st)):Sb9 k a (setArr st xs):=⟨h.trans B.p,B.k,B.f,B.q⟩
def T8(B:Sb9 k a st)(L:Bd P w A s k f a){i j:Nat}(hi:i<a.size)(hj:j<a.size){Q:Option Bool->SortSt->Prop}(h:Q (some<|decide (vC f (arrOf st) i<vC f (arrOf st) j)) st):wpS (model P w) A E s (ltAt' i j) Q st:=by
 have mm:∀{i:Nat},i<a.size->∃p,(arrOf st)[i]? = some p/\p ∈ a.toList/\vC f (arrOf st) i=f p.1:=λ{i} hi=>by
  have hi':i<(arrOf st).size:=by rw[B.z];exact hi
  exact⟨_,getElem?_pos _ i hi',(Array.perm_iff_toList_perm.mp B.p).mem_iff.mp (by simp),TQ hi'⟩
 obtain⟨p,e1,m1,k1⟩:=mm hi;obtain⟨q,e2,m2,k2⟩:=mm hj;rw[k1,k2]at h;rw[ltAt'_eq];refine wpS_bind<|wpS_get (?_:wpS _ _ _ _ (do let x <-elem' (arrOf st) i;let y <-elem' (arrOf st) j;lt' x y) Q st);rw[elem'_eq,elem'_eq,e1,e2];refine wpS_bind<|wpS_pure<|wpS_bind<|wpS_pure ?_;rw[lt'_eq];refine wpS_bind<|wpS_get ?_;rw[B.k];exact wpS_bind<|wpS_lift<|wpAny_attempt<|L p m1 q m2 _ _ ⟨rfl,wpS_pure h⟩
def UU.more{xs:Array Keyed}{n:Nat}(h:UU f xs n)(l:1<=n)(z:vC f xs (n-1)<vC f xs n):UU f xs (n+1):=λi j hij hj=>by
 by_cases e:j=n
 . subst e
   by_cases e2:i=j-1
   . subst e2;exact z
   . exact Int.lt_trans (h i (j-1) (by omega)<|by omega) z
 . exact h i j hij (by omega)
def HJ.more{xs:Array Keyed}{n:Nat}(h:HJ f xs n)(l:1<=n)(z:vC f xs n<vC f xs (n-1)):HJ f xs (n+1):=λi j hij hj=>by
 by_cases e:j=n
 . subst e
   by_cases e2:i=j-1
   . subst e2;exact z
   . exact Int.lt_trans z (h i (j-1) (by omega)<|by omega)
 . exact h i j hij (by omega)
def EI{l n:Nat}{Q:AscSt->SortSt->Prop}(B:Sb9 k a st)(L:Bd P w A s k f a)(d:Hz f a)(hn:n<=a.size)(h1:1<=l)(hl:l<=n)(u:UU f (arrOf st) l)
 (h:∀m,l<=m->m<=n->UU f (arrOf st) m->(m=n\/vC f (arrOf st) m<vC f (arrOf st) (m-1))->Q (none,m) st):wpS (model P w) A E s (ascLoop l n) Q st:=by
 unfold ascLoop;refine wpS_mono (wpS_forRange (I:=λx c t=>t=st/\c=(none,x)/\UU f (arrOf st) x) (Q:=λc t=>t=st/\∃m,c=(none,m)/\l<=m/\m<=n/\UU f (arrOf st) m/\(m=n\/vC f (arrOf st) m<vC f (arrOf st) (m-1))) (λx c t g1 g2 I=>?_) (λc t I=>?_) ⟨rfl,rfl,u⟩) λc t ⟨e,m,e1,g⟩=>by
  subst e e1;exact h m g.1 g.2.1 g.2.2.1 g.2.2.2
 . obtain⟨e1,e2,u⟩:=I;subst e1 e2;refine wpS_bind<|T8 B L (by omega) (by omega) ?_
   by_cases z:vC f (arrOf t) x<vC f (arrOf t) (x-1)
   . rw[zyN z];exact wpS_pure ⟨rfl,x,rfl,g1,by omega,u,.inr z⟩
   . rw[zyF z];have:=B.ne d (i:=x-1) (j:=x) (by omega) (by omega) (by omega);exact wpS_pure ⟨rfl,rfl,u.more (by omega)<|by omega⟩
 . obtain⟨e1,e2,u⟩:=I;rw[show max l n=n by omega]at e2 u;exact⟨e1,n,e2,hl,zzN _,u,.inl rfl⟩
def So{l n:Nat}{Q:DescSt->SortSt->Prop}(B:Sb9 k a st)(L:Bd P w A s k f a)(d:Hz f a)(hn:n<=a.size)(h1:1<=l)(hl:l<=n)(u:HJ f (arrOf st) l)
 (h:∀m,l<=m->m<=n->HJ f (arrOf st) m->Q (none,m,0) st):wpS (model P w) A E s (descLoop l n) Q st:=by
 unfold descLoop;refine wpS_mono (wpS_forRange (I:=λx c t=>t=st/\c=(none,x,0)/\HJ f (arrOf st) x) (Q:=λc t=>t=st/\∃m,c=(none,m,0)/\l<=m/\m<=n/\HJ f (arrOf st) m) (λx c t g1 g2 I=>?_) (λc t I=>?_) ⟨rfl,rfl,u⟩) λc t ⟨e,m,e1,g⟩=>by
  subst e e1;exact h m g.1 g.2.1 g.2.2
 . obtain⟨e1,e2,u⟩:=I;subst e1 e2;refine wpS_bind<|T8 (i:=x) (j:=x-1) B L (by omega) (by omega) ?_
   by_cases z:vC f (arrOf t) x<vC f (arrOf t) (x-1)
   . rw[zyN z];exact wpS_pure ⟨rfl,rfl,u.more (by omega) z⟩
   . rw[zyF z];have:=B.ne d (i:=x-1) (j:=x) (by omega) (by omega) (by omega);refine wpS_bind<|T8 (i:=x-1) (j:=x) B L (by omega) (by omega) ?_;rw[zyN (show vC f (arrOf t) (x-1)<vC f (arrOf t) x by omega)];exact wpS_pure ⟨rfl,x,rfl,g1,by omega,u⟩
 . obtain⟨e1,e2,u⟩:=I;rw[show max l n=n by omega]at e2 u;exact⟨e1,n,e2,hl,zzN _,u⟩
def Rh{xs:Array Keyed}{m i:Nat}(hm:m<=xs.size)(hi:i<m):vC f (mirror xs 0 m<|(m-0)/2) i=vC f xs (m-1-i):=by
 unfold vC;rw[getElem?_mirror_all hm,if_pos ⟨Nat.zero_le _,hi⟩,zyW]
def Bl{m n:Nat}{Q:Option Nat->SortSt->Prop}(B:Sb9 k a st)(L:Bd P w A s k f a)(d:Hz f a)(hn:n<=a.size)(h1:1<=m)(hl:m<=n)(u:HJ f (arrOf st) m)
 (h:∀m t,Sb9 k a t->1<=m->m<=n->UU f (arrOf t) m->Q (some m) t):wpS (model P w) A E s (tail3 m n) Q st:=by
 unfold tail3;have B':=B.set<|mirror_perm (arrOf st) 0 m<|(m-0)/2;refine wpS_bind<|wpS_reverse<|wpS_bind<|EI B' L d hn h1 hl (λi j hij hj=>?_) λx x1 x2 x3 _=>wpS_pure<|h x _ B' (by omega) x2 x3;have hm:m<=(arrOf st).size:=by rw[B.z];omega
 show vC f (mirror (arrOf st) 0 m<|(m-0)/2) i<vC f (mirror (arrOf st) 0 m<|(m-0)/2) j;rw[Rh hm (by omega),Rh hm hj];exact u _ _ (by omega) (by omega)
def MY{n:Nat}{Q:Option Nat->SortSt->Prop}(B:Sb9 k a st)(L:Bd P w A s k f a)(d:Hz f a)(hn:n<=a.size)(h1:1<=n)
 (h:∀m t,Sb9 k a t->1<=m->m<=n->UU f (arrOf t) m->Q (some m) t):wpS (model P w) A E s (countRun' 0 n) Q st:=by
 rw[countRun0_eq];refine wpS_bind<|EI B L d hn (zzN 1) h1 (λi j hij hj=>by omega) λm m1 m2 u o=>?_;dsimp only
 by_cases e:m=n
 . rw[if_pos<|by simpa using e];exact wpS_pure<|h m st B m1 m2 u
 rw[if_neg<|by simpa using e]
 by_cases g:m > 1
 . rw[if_pos g];refine wpS_bind<|T8 B L (by omega) (by omega) ?_;rw[zyN<|u 0 (m-1) (by omega)<|by omega];exact wpS_pure<|h m st B m1 m2 u
 rw[if_neg g];have em:m=1:=by omega
 subst em;unfold descPart;refine wpS_bind<|wpS_lift<|wpAny_rule ⟨rfl,wpS_bind<|So B L d hn (by omega) (by omega) (λi j hij hj=>?_) λm m1 m2 u=>?_⟩
 . have:i=0/\j=1:=by omega
   rw[this.1,this.2];exact o.resolve_left e
 . dsimp only;rw[if_neg<|Nat.lt_irrefl 0];exact Bl B L d hn (by omega) m2 u h
end
section
variable{P:Program}{w:World}{A:Around}{E:Value->Shared->Prop}{s:Shared}{k:SortKind}{f:Value->Int}{a:Array Keyed}{st:SortSt}
def U1{xs:Array Keyed}{x l i:Nat}(hx:x<xs.size)(hl:l<=x):vC f (bubble xs x<|x-l) i=if i=l then vC f xs x else if l<i/\i<=x then vC f xs (i-1)else vC f xs i:=by
 unfold vC;rw[getElem?_bubble hx (x-l) (by omega),show x-(x-l)=l by omega]
 split
 . rfl
 . split<;>rfl
def Ol{n m:Nat}{Q:Bool->SortSt->Prop}(B:Sb9 k a st)(L:Bd P w A s k f a)(d:Hz f a)(hn:n<=a.size)(hm:m<=n)(u:UU f (arrOf st) m)
 (h:∀t,Sb9 k a t->UU f (arrOf t) n->Q true t):wpS (model P w) A E s (binarySort' 0 n m) Q st:=by
 rw[binarySort'_eq];simp only[zyW];refine wpS_bind<|wpS_mono (wpS_forRange (I:=λx c t=>c=(none,())/\Sb9 k a t/\(x<=n->UU f (arrOf t) x)) (Q:=λc t=>c=(none,())/\Sb9 k a t/\UU f (arrOf t) n) (λx c t x1 x2 I=>?_) (λc t I=>?_) ⟨rfl,B,λ_ i j hij hj=>?_⟩) λc t I=>?_
 . obtain⟨e,B,u⟩:=I;subst e;have u:=u (by omega);refine wpS_bind<|wpS_mono (wpS_forRange (I:=λy c t'=>t'=t/\∃l r,c=(none,l,r)/\l<=r/\r<=x/\r-l<=x-y/\(∀i,i<l->vC f (arrOf t) i<vC f (arrOf t) x)/\∀i,r<=i->i<x->vC f (arrOf t) x<vC f (arrOf t) i)
    (Q:=λc t'=>t'=t/\∃l r,c=(none,l,r)/\l<=x/\(∀i,i<l->vC f (arrOf t) i<vC f (arrOf t) x)/\∀i,l<=i->i<x->vC f (arrOf t) x<vC f (arrOf t) i) (λy c t' _ y2 J=>?_) (λc t' J=>?_) ⟨rfl,0,x,rfl,by omega,by omega,by omega,λi z=>by omega,λi z1 z2=>by omega⟩) λc t' J=>?_
   . obtain⟨e,l,r,e2,g1,g2,g3,g4,g5⟩:=J;subst e e2;dsimp only
     by_cases z:l ≥ r
     . rw[if_pos z];exact wpS_pure ⟨rfl,l,r,rfl,by omega,g4,λi z1 z2=>g5 i (by omega) z2⟩
     rw[if_neg z];refine wpS_bind<|T8 B L (by omega) (by omega) ?_
     by_cases y3:vC f (arrOf t') x<vC f (arrOf t') ((l+r)/2)
     . rw[zyN y3];refine wpS_pure ⟨rfl,l,(l+r)/2,rfl,by omega,by omega,by omega,g4,λi z1 z2=>?_⟩
       by_cases e:i=(l+r)/2
       . subst e;exact y3
       . exact Int.lt_trans y3<|u _ _ (by omega) z2
     . rw[zyF y3];have:=B.ne d (i:=(l+r)/2) (j:=x) (by omega) (by omega) (by omega);refine wpS_pure ⟨rfl,(l+r)/2+1,r,rfl,by omega,by omega,by omega,λi z1=>?_,g5⟩
       by_cases e:i=(l+r)/2
       . subst e;omega
       . exact Int.lt_trans (u i ((l+r)/2) (by omega)<|by omega) (by omega)
   . obtain⟨e,l,r,e2,g1,g2,g3,g4,g5⟩:=J;exact⟨e,l,r,e2,by omega,g4,λi z1 z2=>g5 i (by omega) z2⟩
   . obtain⟨e,l,r,e2,g1,g4,g5⟩:=J;subst e e2;show wpS _ _ _ _ (do moveDown' x l;pure (ForInStep.yield (none,()))) _ _;rw[moveDown'_eq];refine wpS_bind<|wpS_modify<|wpS_pure ⟨rfl,B.set<|bubble_perm _ _ _,λ_ i j hij hj=>?_⟩;have hx:x<(arrOf t').size:=by rw[B.z];omega
     show vC f (bubble (arrOf t') x<|x-l) i<vC f (bubble (arrOf t') x<|x-l) j;rw[U1 hx g1,U1 hx g1]
     by_cases i1:i=l
     . rw[if_pos i1,if_neg (by omega),if_pos<|by omega];exact g5 _ (by omega) (by omega)
     rw[if_neg i1]
     by_cases j1:j=l
     . rw[if_pos j1,if_neg<|by omega];exact g4 _ (by omega)
     rw[if_neg j1]
     by_cases i2:l<i/\i<=x
     . rw[if_pos i2,if_pos<|by omega];exact u _ _ (by omega) (by omega)
     rw[if_neg i2]
     by_cases j2:l<j/\j<=x
     . rw[if_pos j2];exact u _ _ (by omega) (by omega)
     . rw[if_neg j2];exact u _ _ hij (by omega)
 . obtain⟨e,B,u⟩:=I;refine⟨e,B, ?_⟩
   by_cases z:n=0
   . subst z;exact λi j _ hj=>by omega
   . have:=u (by omega)
     rwa [show max (max m 1) n=n by omega]at this
 . exact u i j hij (by omega)
 . obtain⟨e,B,u⟩:=I;subst e;exact wpS_pure<|h t B u
def BI{Q:Unit->SortSt->Prop}(B:Sb9 k a st)(L:Bd P w A s k f a)(d:Hz f a)(h2:2<=a.size)(h64:a.size<64)
 (h:∀t,(arrOf t).Perm a->failedOf t=none->UU f (arrOf t) a.size->Q () t):wpS (model P w) A E s sortRuns' Q st:=by
 rw[sortRuns'_eq];refine wpS_bind<|wpS_get ?_;dsimp only;have hr:minRun' a.size a.size 0=a.size:=by
  obtain⟨g,hg⟩:∃g,a.size=g+1:=⟨a.size-1,by omega⟩;have:minRun' (g+1) a.size 0=a.size:=by rw[minRun'_succ,if_pos h64];rfl
  rwa [<-hg]at this
 simp only[B.z,hr];refine wpS_bind<|wpS_mono (wpS_forRange (I:=λx c t=>(x=0/\c=(none,0)/\Sb9 k a t)\/(1<=x/\c=(none,a.size)/\(arrOf t).Perm a/\failedOf t=none/\(pendingOf t).size=1/\UU f (arrOf t) a.size))
  (Q:=λc t=>c=(none,a.size)/\(arrOf t).Perm a/\failedOf t=none/\(pendingOf t).size=1/\UU f (arrOf t) a.size) (λx c t _ x2 I=>?_) (λc t I=>?_) (.inl ⟨rfl,rfl,B⟩)) λc t I=>?_
 . rcases I with⟨e,e2,B⟩|⟨x1,e2,g⟩
   . subst e e2;dsimp only;rw[if_neg<|by omega];simp only[Nat.sub_zero,Nat.min_self,zyW];have fin:∀t,Sb9 k a t->UU f (arrOf t) a.size->(a.size:Nat)=a.size->(1<=1/\(none,a.size)=((none,a.size):Option Unit×Nat)/\(arrOf<|setPending t<|(pendingOf t).push (0,a.size,0)).Perm a/\failedOf (setPending t<|(pendingOf t).push (0,a.size,0))=none/\(pendingOf<|setPending t<|(pendingOf t).push (0,a.size,0)).size=1/\UU f (arrOf<|setPending t<|(pendingOf t).push (0,a.size,0)) a.size):=λt B u _=>⟨zzN _,rfl,B.p,B.f,by show((pendingOf t).push _).size=1;rw[B.q];rfl,u⟩;refine wpS_bind<|MY B L d (zzN _) (by omega) λm t2 B2 m1 m2 u=>?_;dsimp only
     by_cases z:m<a.size
     . rw[if_pos z];refine wpS_bind<|wpS_lift<|wpAny_rule ⟨rfl,wpS_bind<|Ol B2 L d (zzN _) m2 u λt3 B3 u3=>?_⟩;simp only[Bool.not_true,Bool.false_eq_true,if_false];refine wpS_bind<|wpS_get ?_;rw[show(pendingOf t3).back? = none by rw[B3.q];rfl];dsimp only;exact wpS_bind<|wpS_modify<|wpS_pure<|.inr<|fin t3 B3 u3 rfl
     . rw[if_neg z];have em:m=a.size:=by omega
       subst em;refine wpS_bind<|wpS_get ?_;rw[show(pendingOf t2).back? = none by rw[B2.q];rfl];dsimp only;exact wpS_bind<|wpS_modify<|wpS_pure<|.inr<|fin t2 B2 u rfl
   . subst e2;dsimp only;rw[if_pos<|zzN _];exact wpS_pure ⟨rfl,g⟩
 . rcases I with⟨e,_⟩|⟨_,e2,g⟩
   . omega
   . exact⟨e2,g⟩
 . obtain⟨e,g1,g2,g3,g4⟩:=I;subst e;dsimp only;refine wpS_bind<|wpS_mono (wpS_forRange (I:=λx c t'=>c=(none,())/\t'=t) (Q:=λc t'=>c=(none,())/\t'=t) (λx c t' _ _ J=>?_) (λc t' J=>J) ⟨rfl,rfl⟩) λc t' J=>?_
   . obtain⟨e,e2⟩:=J;subst e e2;refine wpS_bind<|wpS_get ?_;rw[if_pos<|by omega];exact wpS_pure ⟨rfl,rfl⟩
   . obtain⟨e,e2⟩:=J;subst e e2;exact wpS_pure<|h t' g1 g2 g4
end
section
variable{P:Program}{w:World}{A:Around}{E:Value->Shared->Prop}{s:Shared}{k:SortKind}{f:Value->Int}
abbrev Yq(h:Heap)(b:Addr)(vs:List Value):Heap:=((h.update b<|Obj.mapSeq λ_=>#[]).push<|seqObj "tuple" vs.toArray 0).push<|seqObj "list" #[] 0
theorem Q0:∀vs:List Value,vs.zip vs=vs.map λx=>(x,x)
 | []=>rfl
 |x::r=>congrArg ((x,x) :: ·)<|Q0 r
def Cm{vs:List Value}{xs:Array Keyed}(hp:xs.Perm (pairsOf vs))(u:UU f xs (pairsOf vs).size):(xs.map (·.2)).toList.Perm vs/\((xs.map (·.2)).toList.map f).Pairwise (· < ·):=by
 have hl:xs.toList.Perm (vs.zip vs):=by rw[<-pairsOf_toList];exact Array.perm_iff_toList_perm.mp hp
 have same:∀p ∈ xs.toList,p.1=p.2:=λp mp=>by
  have:=hl.mem_iff.mp mp;rw[Q0]at this;obtain⟨x,_,rfl⟩:=zxC.mp this;rfl
 have hz:xs.size=vs.length:=by rw[hp.size_eq,pairsOf_size]
 refine⟨?_, ?_⟩
 . have:=hl.map (·.2);rw[Q0,zyA,show vs.map ((λx:Keyed=>x.2)∘λx=>(x,x))=vs from List.map_id' vs]at this;simpa using this
 . rw[Array.toList_map,zyA,List.pairwise_iff_getElem];intro i j hi hj hij;rw[zzB]at hi hj;have hi':i<xs.size:=by simpa using hi
   have hj':j<xs.size:=by simpa using hj
   have:=u i j hij (by rw[pairsOf_size,<-hz];exact hj');rw[TQ hi',TQ hj']at this;rw[List.getElem_map,List.getElem_map];show f xs.toList[i].2<f xs.toList[j].2;rw[<-same _ (zyY hi),<-same _ (zyY hj)];simpa using this
def Sz{b:Addr}{vs:List Value}{n:Nat}{Q:Fin->Shared->Prop}(ho:s.heap.get? b=some (seqObj "list" vs.toArray n))(h64:vs.length<64)(d:(vs.map f).Nodup)
 (hk:2<=vs.length->∀(Q:SortKind->Shared->Prop) (E:Value->Shared->Prop),Q k {s with heap:=Yq s.heap b vs}->wpAny (model P w) A (keyKind' vs.toArray) Q E {s with heap:=Yq s.heap b vs})
 (L:2<=vs.length->Bd P w A {s with heap:=Yq s.heap b vs} k f (pairsOf vs))
 (h:∀out:List Value,out.Perm vs->(out.map f).Pairwise (· < ·)->Q (.done<|.ret .none) {s with heap:=sortedHeap s.heap b vs out.toArray}):
 wpAny (model P w) A (Builtin.«list.sort» ⟨[.ref b],[]⟩) Q E s:=by
 rw[list_sort_plain];have hb:=zxH ho;refine zxE<|listItems_at ho rfl<|zxE<|listUpdate_at ho rfl ?_;obtain⟨e1,ho1⟩:∃e1,(s.heap.update b<|Obj.mapSeq λ_=>#[]).get? b=some (seqObj "list" #[] e1):=⟨_,get?_update_seq ho λ_=>#[]⟩;refine zxE<|seqEpoch_at ho1 rfl<|zxE<|wpAny_newTuple<|zxE<|wpAny_newList<|zxL ?_;have ho6:(Yq s.heap b vs).get? b=some (seqObj "list" #[] e1):=by
  rw[Heap.get?_push_ne _ _ _ (by rw[size_push',Heap.size_update];exact zzQ<|zyZ hb),Heap.get?_push_ne _ _ _<|by rw[Heap.size_update];exact zzQ hb];exact ho1
 show wpAny (model P w) A _ Q E {s with heap:=Yq s.heap b vs};dsimp only;have hz:vs.toArray.size=vs.length:=by simp
 have go:∀st:SortSt,(arrOf st).Perm (pairsOf vs)->failedOf st=none->UU f (arrOf st) (pairsOf vs).size->wpAny (model P w) A (do
  let touched:=(<-seqEpoch b) != e1
  Builtin.List.listUpdate (.ref b) λ_=>(arrOf st).map (·.2)
  if let some e:=failedOf st then rule "list.sort.comparison-raised";throw e
  if touched then rule "list.sort.modified";raiseError "ValueError" "list modified during sort"
  ret .none) Q E {s with heap:=Yq s.heap b vs}:=λst p1 p2 p3=>by
  obtain⟨o1,o2⟩:=Cm p1 p3;refine zxE<|seqEpoch_at ho6 rfl<|zxE<|listUpdate_at ho6 rfl ?_ (hsz2:=by refine zzO (Nat.le_of_eq<|(Array.size_map ..).trans<|p1.size_eq.trans<|pairsOf_size _) ?_;rw[sizeLine_eq];omega);rw[p2];simp only[bne_self_eq_false,Bool.false_eq_true,if_false];have:=h _ o1 o2;rw[Array.toArray_toList]at this;exact zxF this
 by_cases h2:vs.toArray.size<2
 . rw[if_pos h2,if_pos h2];refine zxE<|zxF ?_;rw[StateT.run_pure];exact zxE (zxF<|go (SortSt.mk' general' (vs.toArray.zip vs.toArray) #[] 7 none) (Array.Perm.refl _) rfl λi j hij hj=>by rw[pairsOf_size]at hj;omega)
 . rw[if_neg h2,if_neg h2];refine zxE<|hk (by omega) _ _ ?_;have dd:Hz f (pairsOf vs):=by
    show((pairsOf vs).toList.map λp=>f p.1).Nodup;rw[pairsOf_toList,Q0,zyA];exact d
   refine zxE<|zxR (BI (a:=pairsOf vs) (st:=SortSt.mk' k (vs.toArray.zip vs.toArray) #[] 7 none) (Q:=λ_ t=>(arrOf t).Perm (pairsOf vs)/\failedOf t=none/\UU f (arrOf t) (pairsOf vs).size) ⟨Array.Perm.refl _,rfl,rfl,rfl⟩ (L<|by omega) dd (by rw[pairsOf_size];omega) (by rw[pairsOf_size];exact h64) λt a1 a2 a3=>⟨a1,a2,a3⟩) ?_ λ_ _ e=>e
   rintro⟨⟨⟩,t⟩ s' ⟨rfl,g1,g2,g3⟩
   exact go t g1 g2 g3
abbrev Xy(h:Heap)(vs:List Value):Heap:=((h.push<|seqObj "list" #[] 0).update h.objs.size (Obj.mapSeq (· ++ vs.toArray))).push<|seqObj "list" vs.toArray 0
def NW{l:Addr}{vs:List Value}{Q:Value->Shared->Prop}(hl:s.heap.IsList l vs.toArray)(h64:vs.length<64)(d:(vs.map f).Nodup)
 (hk:2<=vs.length->∀(s':Shared),(∀c o,s.heap.get? c=some o->s'.heap.get? c=some o)->(∀(Q:SortKind->Shared->Prop) (E:Value->Shared->Prop),Q k s'->wpAny (model P w) A.in1.in1 (keyKind' vs.toArray) Q E s')/\Bd P w A.in1.in1 s' k f (pairsOf vs))
 (h:∀out:List Value,out.Perm vs->(out.map f).Pairwise (· < ·)->Q (.ref<|s.heap.objs.size+1) {s with heap:=sortedAll s.heap vs out.toArray}):
 wpAny (model P w) A (call (.builtin "sorted") [.ref l]) Q E s:=by
 refine Calls.call_function_entry kind_sorted plain_sorted entry_sorted (args_sorted1 _) ?_;unfold Builtin.«sorted»;refine zxE (m:=checkCount "sorted" 1 1 _)<|zxF<|zxE<|collect_list hl<|zxE<|wpAny_newList ?_;have hz:((s.heap.push<|seqObj "list" #[] 0).update s.heap.objs.size (Obj.mapSeq (· ++ vs.toArray))).objs.size=s.heap.objs.size+1:=by rw[Heap.size_update,size_push']
 have hoL:(Xy s.heap vs).get? (s.heap.objs.size+1)=some (seqObj "list" vs.toArray 0):=by
  rw[<-hz];exact zxI _ rfl
 show wpAny _ _ _ _ _ {s with heap:=Xy s.heap vs};rw[hz];have old:∀c o,s.heap.get? c=some o->(Yq (Xy s.heap vs) (s.heap.objs.size+1) vs).get? c=some o:=λc o e=>by
  have hc:=zxH e;have z1:(s.heap.push<|seqObj "list" #[] 0).get? c=some o:=zxG _ e;have z2:((s.heap.push<|seqObj "list" #[] 0).update s.heap.objs.size (Obj.mapSeq (· ++ vs.toArray))).get? c=some o:=by rw[Heap.get?_update_ne _ _ _ _<|zzQ hc];exact z1
  have z3:(Xy s.heap vs).get? c=some o:=zxG _ z2;have z4:((Xy s.heap vs).update (s.heap.objs.size+1)<|Obj.mapSeq λ_=>#[]).get? c=some o:=by rw[Heap.get?_update_ne _ _ _ _<|zzQ<|zyZ hc];exact z3
  exact zxG _<|zxG _ z4
 refine zxE<|zxL<|zxS (Q:=λ_ s'=>wpAny (model P w) A.in1 (ret<|Value.ref<|s.heap.objs.size+1) (λfin s'=>∃v,fin=Fin.done (Flow.ret v)/\Q v s') E s') slot_list_sort ⟨_,hoL,rfl⟩ entry_list_sort ?_<|args_list_sort _;have hk':=λz=>hk z {s with heap:=Yq (Xy s.heap vs) (s.heap.objs.size+1) vs} old;refine Sz (P:=P) (w:=w) (A:=A.in1.in1) (s:={s with heap:=Xy s.heap vs}) (b:=s.heap.objs.size+1) (n:=0) hoL h64 d (λz=>(hk' z).1) (λz=>(hk' z).2) λout a1 a2=>⟨_,rfl, ?_⟩;exact zxF ⟨_,rfl,h out a1 a2⟩
end
section
variable{P:Program}{w:World}{A:Around}{E:Value->Shared->Prop}{s:Shared}
abbrev W9(h:Heap)(v:Value)(x y:Int):Prop:=∃c o n t u,v = .ref c/\h.get? c=some o/\o.cls = .type "tuple"/\o.data = .seq #[.int x t,.int y u] n
def NV{a b:Int}{t u:Tok}{Q:Bool->Shared->Prop}(h:Q (decide (a<b)) s):wpAny (model P w) A (oneLt' false (.int a t)<|.int b u) Q E s:=by
 rw[oneLt'_eq];simp only[Bool.false_eq_true,if_false];exact zxE<|wpAny_richCompare_same (typeIs_int s a t) (typeIs_int s b u) slot_int_lt<|call_int_lt ⟨by simp,wpAny_truthy_bool h⟩
def N5(b:Bool)(x y:Value):keyLt' (tuples' b) x y=(do
 let xs <-Builtin.List.listItems x;let ys <-Builtin.List.listItems y
 for ((p,q),i)in (xs.toList.zip ys.toList).zipIdx do
  if !(<-eqBool p q)then return <-oneLt' (b&&i==0) p q
 return xs.size<ys.size):=rfl
def Sd{u v:Value}{a b c d:Int}(hu:W9 s.heap u a b)(hv:W9 s.heap v c d){Q:Bool->Shared->Prop}(h:Q (decide (a<c\/(a=c/\b<d))) s):wpAny (model P w) A (keyLt' (tuples' true) u v) Q E s:=by
 obtain⟨x,ox,nx,t1,t2,rfl,h1,_,h2⟩:=hu;obtain⟨y,oy,ny,u1,u2,rfl,g1,_,g2⟩:=hv;rw[N5];refine zxE<|listItems_at h1 h2<|zxE<|listItems_at g1 g2 ?_;show wpAny _ _ (do
  let r <-forIn [(((Value.int a t1,Value.int c u1):Value×Value),0),((Value.int b t2,Value.int d u2),1)] _ _
  _) Q E s
 rw[List.forIn_cons];refine zxE<|zxE<|zxE<|wpAny_eqBool_int ?_
 by_cases e:a=c
 . subst e;simp only[beq_self_eq_true,Bool.not_true,Bool.false_eq_true,if_false];refine zxF ?_;dsimp only;rw[List.forIn_cons];refine zxE<|zxE<|wpAny_eqBool_int ?_
   by_cases e2:b=d
   . subst e2;simp only[beq_self_eq_true,Bool.not_true,Bool.false_eq_true,if_false];refine zxF ?_;dsimp only;rw[List.forIn_nil];refine zxF<|zxF ?_;have:decide (a<a\/(a=a/\b<b))=decide ((#[Value.int a t1,Value.int b t2]:Array Value).size<(#[Value.int a u1,Value.int b u2]:Array Value).size):=by
      rw[zyF<|by omega];rfl
     rw[this]at h;exact h
   . rw[show(b==d)=false by simpa using e2];simp only[Bool.not_false,if_true];refine zxE<|NV<|zxF<|zxF<|zxF ?_;rw[show decide (a<a\/(a=a/\b<d))=decide (b<d) by simp]at h;exact h
 . rw[show(a==c)=false by simpa using e];simp only[Bool.not_false,if_true];refine zxE<|oneLt_int<|zxF<|zxF<|zxF ?_;rw[show decide (a<c\/(a=c/\b<d))=decide (a<c) by simp[e]]at h;exact h
theorem Pp{α β:Type}{m:α->Sem β}{g:α->β}:∀{l:List α}{Q:List β->Shared->Prop},(∀x ∈ l,∀Q:β->Shared->Prop,Q (g x) s->wpAny (model P w) A (m x) Q E s)->Q (l.map g) s->wpAny (model P w) A (l.mapM m) Q E s
 | [],Q,_,h=>by rw[List.mapM_nil];exact zxF h
 |x::l,Q,H,h=>by
  rw[List.mapM_cons];exact zxE<|H x zzF _<|zxE<|Pp (l:=l) (λy my=>H y<|zzD _ my)<|zxF h
def Mz{v:Value}{x y:Int}(h:W9 s.heap v x y):∃t,∀Q:Option Value->Shared->Prop,Q (some<|.int x t) s->wpAny (model P w) A (firstOfTuple' v) Q E s:=by
 obtain⟨c,o,n,t,u,rfl,h1,h2,h3⟩:=h;refine⟨t,λQ q=>?_⟩;show wpAny _ _ (do
  if(<-typeOf (.ref c)) != .type "tuple" then return none
  return(<-Builtin.List.listItems (.ref c))[0]?) Q E s
 refine zxE<|wpAny_typeOf (T:="tuple") ⟨o,h1,h2⟩ ?_;rw[if_neg<|by simp];exact zxE<|listItems_at h1 h3<|zxF q
def S8{vs:List Value}(h0:vs≠[])(h:∀v ∈ vs,∃x y,W9 s.heap v x y){Q:SortKind->Shared->Prop}(q:Q (tuples' true) s):wpAny (model P w) A (keyKind' vs.toArray) Q E s:=by
 rw[keyKind'_eq];have hg:∃g:Value->Option Value,∀v ∈ vs,(∃x t,g v=some (.int x t))/\∀Q:Option Value->Shared->Prop,Q (g v) s->wpAny (model P w) A (firstOfTuple' v) Q E s:=by
  clear h0 q
  induction vs with
  |nil=>exact⟨λ_=>none,λv m=>nomatch m⟩
  |cons v r ih=>
   obtain⟨g,hg⟩:=ih λv m=>h v<|zzD _ m;obtain⟨x,y,hp⟩:=h v zzF;obtain⟨t,ht⟩:=Mz (P:=P) (w:=w) (A:=A) (E:=E) hp;refine⟨λz=>if z=v then some (.int x t)else g z,λz mz=>?_⟩
   by_cases e:z=v
   . subst e;simp only[if_true];exact⟨⟨x,t,rfl⟩,ht⟩
   . simp only[if_neg e];exact hg z<|(zzC.mp mz).resolve_left e
 obtain⟨g,hg⟩:=hg;rw[Array.mapM_eq_mapM_toList];refine zxE<|wpAny_map<|Pp (g:=g) (λv m=>(hg v<|by simpa using m).2) ?_;have a1:(((vs.toArray.toList.map g).toArray).all λx=>x.isSome)=true:=by
  rw[List.all_toArray,List.all_eq_true];intro x mx;obtain⟨v,mv,rfl⟩:=zxC.mp mx;obtain⟨y,t,e⟩:=(hg v<|by simpa using mv).1;rw[e];rfl
 rw[if_pos a1];refine zxE<|wpAny_rule<|zxE ?_;rw[oneTypeOnly'_eq,Array.mapM_eq_mapM_toList];refine zxE<|wpAny_map<|Pp (g:=λ_=>Value.type "int") (λv m=>?_) ?_
 . have m:v ∈ (vs.map g).filterMap id:=by simpa using m
   obtain⟨o,mo,e⟩:=List.mem_filterMap.mp m;obtain⟨z,mz,rfl⟩:=zxC.mp mo;obtain⟨y,t,e2⟩:=(hg z mz).1;have e:g z=some v:=e;rw[e2]at e;cases e;exact λQ q=>wpAny_typeOf (typeIs_int s y t) q
 . obtain⟨v,r,rfl⟩:=List.exists_cons_of_ne_nil h0;obtain⟨y,t,e⟩:=(hg v zzF).1;have e3:(Array.filterMap id<|((v::r).toArray.toList.map g).toArray).toList = .int y t::(r.map g).filterMap id:=by simp[e]
   rw[e3];refine zxF<|zxF ?_;have e4:(((Value.int y t::(r.map g).filterMap id).map λ_=>Value.type "int").toArray.all (· == Value.type "int"))=true:=by
    rw[List.all_toArray,List.all_eq_true];intro x mx;obtain⟨_,_,rfl⟩:=zxC.mp mx;rfl
   show Q (tuples' (Option.any (λx=>x != Value.type "tuple") (if(((Value.int y t::(r.map g).filterMap id).map λ_=>Value.type "int").toArray.all (· == Value.type "int"))=true then some (Value.type "int")else none))) s;rw[if_pos e4];exact q
end
def Rv:D->Option Int
 | .tup [.int a,.int b]=>if 0<=b/\b<1000 then some (a*1000+b)else none
 |_=>none
def Vx:List D->Option (List Int)
 | []=>some []
 |d::r=>(Rv d).bind λk=>(Vx r).bind λks=>some (k::ks)
def P_(k:Int):D:=.tup [.int<|k/1000,.int<|k%1000]
def Ku{d:D}{k:Int}(e:Rv d=some k):∃a b,d = .tup [.int a,.int b]/\0<=b/\b<1000/\k=a*1000+b:=by
 unfold Rv at e
 split at e
 . obtain⟨⟨h1,h2⟩,e⟩:=zu e;cases e;exact⟨_,_,rfl,h1,h2,rfl⟩
 . cases e
def NH{a b:Int}(h0:0<=b)(h1:b<1000):P_ (a*1000+b) = .tup [.int a,.int b]:=by
 unfold P_;rw[show(a*1000+b)/1000=a by omega,show(a*1000+b)%1000=b by omega]
def ZH:List D->Option R0:=HG λx=>(Sk x).bind λds=>(Vx ds).bind λks=>if ks.length<64/\ks.Nodup then some (.fl<|(sortI ks).map P_)else none
def S9:Option HO->Int
 |some (.tup [.int a,.int b])=>a*1000+b
 |_=>0
def fk(H:Hp):Value->Int
 | .ref c=>S9 (H c)
 |_=>0
def vr:Value->V
 | .ref c=>.ref c
 |_=>.non
section
variable{X:Cx}{kd:KD}{pins:List (Addr×Obj)}{σ:St}{H:Hp}{s:Shared}{O:Addr->Prop}
abbrev J8(K:zzA)(kd:KD)(O:Addr->Prop)(H:Hp)(h:Heap)(u:Value):Prop:=∃c a b,u = .ref c/\0<=b/\b<1000/\fk H u=a*1000+b/\W9 h u a b/\Rp K kd O H (.ref c) (.tup [.int a,.int b])
def JS(I:Inv X pins σ H s){vs:List V}{us:List Value}{ds:List D}{ks:List Int}(h:RpL X.K kd O H vs ds)(hv:zG vs us)(e:Vx ds=some ks):us.map (fk H)=ks/\∀u ∈ us,J8 X.K kd O H s.heap u:=
 RpL.ind (P:=λvs ds=>∀us ks,zG vs us->Vx ds=some ks->us.map (fk H)=ks/\∀u ∈ us,J8 X.K kd O H s.heap u) (λus ks hv e=>by cases e;cases hv;exact⟨rfl,λ_ m=>nomatch m⟩) (λ{v d vs ds} r _ ih us ks hv e=>by
  obtain⟨k,h1,e⟩:=bS_<|show(Rv d).bind _=_ from e;obtain⟨ks,h2,e⟩:=bS_ e;cases e;obtain⟨a,b,rfl,b0,b1,rfl⟩:=Ku h1;cases hv with
  |cons q t=>
   obtain⟨i1,i2⟩:=ih _ _ t h2;have r':=r;cases r with
   |tup n hH rl=>
    rename_i c vs2;cases rl with
    |cons ra rl=>
     cases rl with
     | cons rb rl=>
            cases rl;cases ra;cases rb;obtain rfl:_=Value.ref c:=q;have ek:fk H (.ref c)=a*1000+b:=by show S9 (H c)=_;rw[hH];rfl
            obtain⟨its,rv,⟨o,g1,g2,n,g3⟩,_⟩:=I.tuple<|.inl<|.inl hH;refine⟨by rw[zyR,ek,i1],λu mu=>?_⟩
            rcases zzC.mp mu with rfl|mu
            . obtain⟨u1,u2,rfl,⟨t1,rfl⟩,⟨t2,rfl⟩⟩:=vals2 rv;exact⟨c,a,b,rfl,b0,b1,ek,⟨c,o,n,t1,t2,rfl,g1,g2,g3⟩,r'⟩
            . exact i2 u mu) h us ks hv e
def vW:ZU X kd (.builtin "sorted") ZH:=by
 intro pins s σ H xs us Q I r h;obtain⟨O,ds,z,ht,vl,he,q⟩:=h;obtain⟨x,d,rfl,vx,he⟩:=XD vl he;obtain⟨ds,h0,he2⟩:=bS_<|show(Sk d).bind _=_ from he;cases VB h0
 . obtain⟨ks,h1,he⟩:=bS_ he2;obtain⟨⟨hz,hnd⟩,he⟩:=zu he;cases he;cases vx with
   |lst hr rl=>
    obtain⟨u,rfl,ru⟩:=vals1 r;cases ru;obtain⟨its,rv,pl,_⟩:=I.list hr.sq;obtain⟨m1,m2⟩:=JS I rl rv h1;have hl:its.length=ks.length:=by rw[<-m1,zzB]
    refine NW (f:=fk H) (k:=tuples' true) pl.isList (by omega) (by rw[m1];exact hnd) (λz2 s' old=>?_) λout o1 o2=>?_
    . have pa:∀u ∈ its,∃a b,0<=b/\b<1000/\fk H u=a*1000+b/\W9 s'.heap u a b:=λu mu=>by
       obtain⟨c,a,b,e,b0,b1,ek,⟨c',o,n,t1,t2,e',g1,g2,g3⟩,_⟩:=m2 u mu;exact⟨a,b,b0,b1,ek,c',o,n,t1,t2,e',old _ _ g1,g2,g3⟩
      refine⟨λQ E q=>S8 (λe=>by subst e;simp at z2) (λu mu=>?_) q,λp mp p' mp' Q E qq=>?_⟩
      . obtain⟨a,b,_,_,_,h⟩:=pa u mu;exact⟨a,b,h⟩
      . have mz:∀p ∈ (pairsOf its).toList,p.1 ∈ its:=λp mp=>by
         rw[pairsOf_toList,Q0]at mp;obtain⟨x,mx,rfl⟩:=zxC.mp mp;exact mx
        obtain⟨a,b,b0,b1,ek,h⟩:=pa _<|mz p mp;obtain⟨a',b',b0',b1',ek',h'⟩:=pa _<|mz p' mp';refine Sd h h' ?_;rw[ek,ek']at qq;rw[show decide (a<a'\/(a=a'/\b<b'))=decide (a*1000+b<a'*1000+b')from decide_eq_decide.mpr<|by omega];exact qq
    . have e:out.map (fk H)=sortI ks:=Zj _ _ (((o1.map _).trans<|by rw[m1]).trans (sortI_perm ks).symm) (o2.imp λh=>Int.le_of_lt h)<|yY ks;have m3:∀u ∈ out,J8 X.K kd O H s.heap u:=λu mu=>m2 u<|o1.mem_iff.mp mu;obtain⟨ee,hob⟩:=sortedAll_at s.heap its out.toArray;have hn:H (s.heap.objs.size+1)=none:=I.hok.fresh<|zyV _;have both:∀l:List Value,(∀u ∈ l,J8 X.K kd O H s.heap u)->zG (l.map vr) l/\RpL X.K kd O H (l.map vr) ((l.map<|fk H).map P_):=λl=>by
       induction l with
       |nil=>exact λ_=>⟨.nil,.nil⟩
       |cons u l ih=>
        intro hm;obtain⟨v1,v2⟩:=ih λu mu=>hm u<|zzD _ mu;obtain⟨c,a,b,rfl,b0,b1,ek,_,rp⟩:=hm u zzF;refine⟨.cons rfl v1,.cons ?_ v2⟩;rw[ek,NH b0 b1];exact rp
      obtain⟨v1,v2⟩:=both out m3;rw[e]at v2;refine⟨.ref<|s.heap.objs.size+1,_,I.laid (t':=s.toks) (λb o e=>sortedAll_old e) (zyV _) (show xf X.prog X.w _ _ _ (.lst<|out.map vr)from⟨?_,out,ee,v1,by simpa[seqObj]using hob⟩),rfl,YA q v2 _ hn⟩;rw[zzB,o1.length_eq];exact Nat.le_of_lt (zM<|by omega)
end
def Os:Option O->Bool
 |some o=>o.isLf
 |none=>true
def UK(i:Nat):Nat->AS->Bool
 |_,[]=>true
 |j,s::r=>(j==i||Os s)&&UK i (j+1) r
theorem LW{i:Nat}:∀{k:Nat}{as:AS},UK i k as=true->∀{j:Nat}{s:Option O},as[j]? = some s->k+j≠i->Os s=true
 |k,[],_,j,s,h,_=>by simp at h
 |k,t::r,h,0,s,e,n=>by
  cases e;have:=(Bool.and_eq_true_iff.mp h).1;rw[show(k==i)=false by simpa using n,Bool.false_or]at this;exact this
 |k,t::r,h,j+1,s,e,n=>LW (Bool.and_eq_true_iff.mp h).2 (show r[j]? = some s from e) (by omega)
def Rel.lend{K:zzA}{kd:KD}{F B:Addr->Prop}{ad:Ad}{as:AS}{σ:St}{H:Hp}{i:Nat}{o:O}(R:Rel K kd F B [] ad as σ H)(k:as[i]? = some (some o))(ho:UK i 0 as=true):Rel K kd F B [] (λ_=>[]) (as.set i<|some o.frz) σ H:=by
 obtain⟨R',v,hv,rp⟩:=R.frz k;have e1:yq ad i []=λ_=>[]:=funext λj=>by
  by_cases e:j=i
  . subst e;exact zx
  rw[zw e];cases hj:as[j]? with
  |none=>exact R.out j (List.getElem?_eq_none_iff.mp hj)
  |some s=>
   have z:=R.sl j s hj;cases s with
   |none=>exact z
   |some o'=>
    have hl:o'.isLf=true:=LW ho hj (by omega);obtain⟨v,_,ro⟩:=z;generalize ad j=fp at ro;cases o' with
    |lf st d=>cases ro;rfl
    |nd kk os=>cases hl
 rwa [e1]at R'
def uD:RV->Option D
 | .ow (.lf _ d)=>if zB d=true then some d else none
 |_=>none
def vV(i:Nat)(f:EF):EF:=λas=>(XA some as i).bind λo=>if UK i 0 as=true then(f<|as.set i<|some o.frz).bind λp=>(uD p.1).bind λd=>some (.ow<|.lf true d,as)else none
section
variable{X:Cx}{kd:KD}{i:Nat}{e:Expr}{f:EF}
def Ww(he:AE X kd e f):AE X kd e (vV i f):=by
 with_unfolding_all exact(yr he λσ H Q h=>by
  obtain⟨F,B,ad,as,r,as',R,e,q⟩:=h;obtain⟨o,k,e⟩:=bS_<|show(XA some as i).bind _=_ from e;obtain⟨ho,e⟩:=ite_some' e;obtain⟨⟨r1,as1⟩,h1,e⟩:=bS_ e;obtain⟨d,h2,e⟩:=bS_ e;cases e;obtain⟨o',k',e'⟩:=Q3 k;cases e';refine⟨F,B,λ_=>[],_,r1,as1,R.lend k' ho,h1,λv T ad' H' R' rv g=>?_⟩;obtain⟨R2,g2⟩:=R.more λb u hb=>g.keep b u hb λz=>z.elim (λy=>nomatch y) λ⟨j,y⟩=>nomatch y
  match r1,h2,rv with
  | .ow (.lf st d0),h2,rv=>
   obtain⟨hf,e⟩:=zu<|show(if zB d0=true then some d0 else none)=some d from h2;cases e;have rv:xt X.K kd F B (Gw T ad') H' v (.lf st d) T:=rv;cases rv with
   |lf rp=>exact q v [] ad H' R2 (.lf<|rp.flat hf) g2)
end
def CJ:O->Option ZV
 | .lf st d=>some (st,d)
 |_=>none
def JT:Out->Option Out
 | .rt r=>some (.rt r)
 |_=>none
def Bc(i:Nat)(g:GF)(ta:TF)(f:SF):Nat->Nat->AS->Option Out
 |0,_,_=>none
 |n+1,k,as=>(XA YY as i).bind λos=>match os[k]? with
  |none=>some (.nx as)
  |some o=>(CJ o).bind λx=>(g (x.1,.tup [.int k,x.2]) as).bind λas1=>(ta as1).bind λp=>if p.1=true then(f p.2).bind JT else Bc i g ta f n (k+1) p.2
def Jm(i:Nat)(g:GF)(ta:TF)(f:SF):SF:=Bc i g ta f 1000 0
theorem E3{K:zzA}{kd:KD}{F B G:Addr->Prop}{H:Hp}:∀{os:List O}{vs:List V}{fp:List Addr}{k:Nat}{st:Bool}{d:D},x9 K kd F B G H vs os fp->os[k]? = some (.lf st d)->∃u,vs[k]? = some u/\Rp K kd (Lv F B G st) H u d
 | [],_,_,_,_,_,_,e=>by simp at e
 |o::os,_,_,0,st,d,h,e=>by
  cases e;cases h with
  |cons a r=>cases a with
   |lf rp=>exact⟨_,rfl,rp⟩
 |o::os,_,_,k+1,st,d,h,e=>by
  cases h with
  |cons a r=>
   obtain⟨u,h1,h2⟩:=E3 r (show os[k]? = _ from e);exact⟨u,h1,h2⟩
section
variable{X:Cx}{kd:KD}{i:Nat}{c:Expr}{sts:List Stmt}{elts:List Expr}{g:GF}{ta:TF}{f:SF}{S:List Nat}
def On{x:Str}{kk:Nat}{p p' pos pos' pos2 pi:Pos}(hp:PassesOwn (model X.prog X.w) X.A X.env X.xe)(hcl:X.calm=true)(hg:Gl X "enumerate")(hm:X.mg "enumerate"=none)(ho:PE X (.Name x p') (YZ i))(hs:starEach [.Name x p'] X.env=[(false,eval (.Name x p') X.env)])
 (hgt:AG X kd (.Tuple elts kk pos2) S g) (hS:i ∉ S) (hcd:AT X kd c ta) (hb:Gq X kd sts f) (hf:∀y,foldedSetIterable (.Call (.Name "enumerate" p) [.Name x p'] [] pos') X.env y=pure y):
 QM X kd (.For (.Tuple elts kk pos2) (.Call (.Name "enumerate" p) [.Name x p'] [] pos') [.If c sts [] pi] [] pos) (Jm i g ta f):=by
 with_unfolding_all exact(yU (GS hp hcl (SL hg hm (wQ ho Vq hs) hs) hgt (Pg<|ML hcd hb RX) hf) λD σ H h=>by
  obtain⟨F,B,ad,as,o,R,e,q⟩:=h;obtain⟨os,k0,_⟩:=bS_<|show(XA YY as i).bind _=_ from e;obtain⟨v0,s0,r0⟩:=R.sl i _<|CV k0;obtain⟨l,vs,fq,rfl,_,hL,rl⟩:=Yz r0;refine⟨.ref l,s0,l,rfl,⟨vs,.inl<|.inl hL⟩,λk m σ2 H2=>m+k=1000/\∃ad2 as2,Rel X.K kd F B [] ad2 as2 σ2 H2/\σ2[i]? = some (some<|.ref l)/\Grow (Gw [] ad) H (Gw [] ad2) H2/\Bc i g ta f m k as2=some o,⟨1000,rfl,ad,as,R,s0,Grow.refl,e⟩, ?_⟩
  rintro k m σ2 H2 ⟨hmk,ad2,as2,R2,s2,g2,e2⟩
  cases m with
  |zero=>cases e2
  |succ m=>
   obtain⟨os2,k2,e2⟩:=bS_<|show(XA YY as2 i).bind _=_ from e2;obtain⟨v2,s2',r2⟩:=R2.sl i _<|CV k2;rw[s2]at s2';cases s2';obtain⟨l2,vs2,fq2,el,_,hL2,rl2⟩:=Yz r2;cases el;have hlen:=Pi rl2;cases ho2:os2[k]? with
   |none=>
    rw[ho2]at e2;cases e2;have:=List.getElem?_eq_none_iff.mp ho2;exact .inl ⟨⟨vs2,.inl<|.inl hL2,by omega⟩,q σ2 ad2 H2 R2 g2⟩
   |some o2=>
    rw[ho2]at e2;obtain⟨x,hx,e3⟩:=bS_<|show(CJ o2).bind _=_ from e2;obtain⟨as3,e4,e5⟩:=bS_ e3;obtain⟨⟨b,as4⟩,e6,e7⟩:=bS_ e5;cases o2 with
    |nd a b=>cases hx
    |lf st d=>
     cases hx;obtain⟨u,hu,ru⟩:=E3 rl2 ho2;refine .inr ⟨⟨vs2,u,.inl<|.inl hL2,hu⟩,λσ3 H3=>∃ad3 as3,Rel X.K kd F B [] ad3 as3 σ3 H3/\σ3[i]? = some (some<|.ref l)/\Grow (Gw [] ad) H (Gw [] ad3) H3/\Bc i g ta f m (k+1) as3=some o,λσ3 H3 ⟨ad3,as3,R3,s3,g3,e3⟩=>⟨m,by omega,by omega,ad3,as3,R3,s3,g3,e3⟩,λv H3 hy=>?_⟩;obtain⟨T,x',hn,rfl,rfl,hv⟩:=hy;have hx':=hv _<|.inl<|.inl hL2;rw[hu]at hx';cases hx';obtain⟨R3,g3⟩:=R2.more<|vv hn;have rp:Rp X.K kd (Lv F B (Gw [] ad2) st) (upd H2 T<|.tup [.int k,u]) (.ref T) (.tup [.int k,d]):=.tup (λz=>R2.trk st T z hn) zO<|.cons (.int _)<|.cons (Rp.grow ⟨λb o q _=>vv hn b o q,λb z=>.inl z⟩ ru) .nil;refine⟨F,B,ad2,as2,_,as3,R3,rp,e4,λσ4 ad4 H4 R4 g4 s4=>?_⟩;refine⟨F,B,ad4,as3,b,as4,R4,e6,λad5 H5 R5 g5=>?_⟩;have gg:=((g2.trans g3).trans g4).trans g5;cases b with
     |true=>
      obtain⟨o5,e8,e9⟩:=bS_<|show(f as4).bind JT=_ from e7;refine⟨F,B,ad5,as4,o5,R5,e8, ?_⟩;cases o5 with
      |rt r=>cases e9;exact λv T H6 ro g6=>q v T H6 ro (gg.trans g6)
      |_=>cases e9
     |false=>exact⟨ad5,as4,R5,by rw[s4 i hS];exact s2,gg,e7⟩)
end
def Bo(i n:Nat):SF:=λas=>(XA Pk as i).bind λos=>(GV YY os n).bind λinner=>if inner.all O.isLf=true/\i<as.length then some (.nx<|as.set i<|some<|.nd .tp<|os.set n<|.nd .ls [])else none
section
variable{X:Cx}{kd:KD}{i:Nat}
def Ox{xi:Str}{j n:Nat}{p1 p2 p3 apos cpos pos':Pos}(h1:PE X (.Name xi p1) (YZ i))(h2:PE X (.Constant (.int (n:Int)) j p2) (tC<|.int (n:Int)))(hp:vY (.Constant (.int (n:Int)) j p2))
 (hbase:attributeBase (.Subscript (.Name xi p1) (.Constant (.int (n:Int)) j p2) p3) "clear" X.env (eval (.Subscript (.Name xi p1) (.Constant (.int (n:Int)) j p2) p3) X.env)=eval (.Subscript (.Name xi p1) (.Constant (.int (n:Int)) j p2) p3) X.env)
 (hline:(apos.endLine==cpos.line)=true)
 (hsw:swapsWith (.Call (.Attribute (.Subscript (.Name xi p1) (.Constant (.int (n:Int)) j p2) p3) "clear" apos) [] [] cpos) none pos'.line X.env=pure false):
 QM X kd (.Expr (.Call (.Attribute (.Subscript (.Name xi p1) (.Constant (.int (n:Int)) j p2) p3) "clear" apos) [] [] cpos) pos') (Bo i n):=by
 with_unfolding_all exact(yU (Wh (ON PySem.F.plainAttrs_list PySem.F.slot_list_clear PySem.F.type_list_clear Eo (RJ Pe h1 h2 hp) hbase hline) hsw) λD σ H h=>by
  obtain⟨F,B,ad,as,o,R,e,q⟩:=h;obtain⟨os,e1,e⟩:=bS_<|show(XA Pk as i).bind _=_ from e;obtain⟨inner,e2,e⟩:=bS_ e;obtain⟨⟨z1,z2⟩,e⟩:=zu e;cases e;obtain⟨v0,s0,r0⟩:=R.sl i _<|Nu e1;obtain⟨R3,v2,s2,r2⟩:=R.mv<|Nu e1;rw[s0]at s2;cases s2;obtain⟨l,vs,w,f,rfl,hH,hvs,rw0,fn,fs,up1⟩:=Ug r2 (R.nd i) (λa m=>.inl m)<|N6 e2;obtain⟨L,ivs,fq,rfl,ef,hL,ir⟩:=Yz rw0;have e0:fq=[]:=LC inner z1 ir;subst e0;have hLi:L ∈ ad i:=fs L (by rw[ef];exact zzF ..);have rw2:xt X.K kd F B (Gw (ad i)<|yq ad i []) (upd H L<|.lst []) (.ref L) (.nd .ls []) f:=by
   rw[ef];exact .ls zO .nil
  have ro3:=up1 L _ _ (by rw[ef];exact zzF ..) rw2;obtain⟨R4,g4⟩:=R3.wrT (u:=.lst []) hLi;have R5:=R4.put (by rw[zzU];exact z2) ro3;have es:σ.set i (some<|.ref l)=σ:=by
   refine List.ext_getElem? λj=>?_
   by_cases q:i=j
   . subst q;rw[zyJ (zzG.mp s0).1,s0]
   . rw[zzX q]
  rw[es,List.set_set]at R5;refine⟨_,s0,l,vs,(n:Int),.ref L,rfl,rfl,.inl<|.inl hH,y6 (j:=n) hvs,.inl ⟨rfl,ivs,.inl<|.inl hL⟩,L,ivs,rfl,rfl,hL,q σ _ _ R5 ⟨λb u hb nb=>?_,λb z=>?_⟩⟩
  . by_cases e:b=L
    . subst e;exact absurd (.inr ⟨i,hLi⟩) nb
    . rw[zy e];exact hb
  . rcases z with z|⟨j,z⟩
    . exact nomatch z
    . by_cases e:j=i
      . subst e;rw[zx]at z;exact .inl<|.inr ⟨j,z⟩
      . rw[zw e,zw e]at z;exact .inl<|.inr ⟨j,z⟩)
end
def Zi(i:Nat)(t:TF):TF:=λas=>(XA some as i).bind λo=>if UK i 0 as=true then(t<|as.set i<|some o.frz).bind λp=>some (p.1,as)else none
def Wx{X:Cx}{kd:KD}{i:Nat}{e:Expr}{t:TF}(he:AT X kd e t):AT X kd e (Zi i t):=by
 with_unfolding_all exact(WW he λσ H Q h=>by
  obtain⟨F,B,ad,as,b,as',R,e,q⟩:=h;obtain⟨o,k,e⟩:=bS_<|show(XA some as i).bind _=_ from e;obtain⟨ho,e⟩:=ite_some' e;obtain⟨⟨b1,as1⟩,h1,e⟩:=bS_ e;cases e;obtain⟨o',k',e'⟩:=Q3 k;cases e';refine⟨F,B,λ_=>[],_,_,as1,R.lend k' ho,h1,λad' H' R' g=>?_⟩;obtain⟨R2,g2⟩:=R.more λb u hb=>g.keep b u hb λz=>z.elim (λy=>nomatch y) λ⟨j,y⟩=>nomatch y;exact q ad H' R2 g2)
abbrev zJ(n:Nat)(x:Int):Prop:=0<=x/\x<(n:Int)
structure LJ(n:Nat)(j:Int->Int->Int)(e:Int):Prop where
 cl:∀a b,zJ n a->zJ n b->zJ n (j a b)
 ce:zJ n e
 ul:∀a,zJ n a->j e a=a
 ur:∀a,zJ n a->j a e=a
 as:∀a b c,zJ n a->zJ n b->zJ n c->j (j a b) c=j a (j b c)
structure LD(n m:Nat)(j:Int->Int->Int)(e:Int)(d:Int->Int->Int):Prop where
 cl:∀c a,zJ m c->zJ n a->zJ n (d c a)
 em:d 0 e=e
 dn:∀a i b k,zJ n a->zJ m i->zJ n b->zJ m k->d ((i+k)%m) (j a b)=j (d i a) (d k b)
def WX{n:Nat}(hn:0<n):zJ n (x%n):=⟨zyM _ (by omega),zyG _<|by omega⟩
def LD.congr{n m:Nat}(hm:0<m)(hj:LJ n j e)(h:LD n m j e d)(q:∀a b,zJ n a->zJ n b->j' a b=j a b)(p:∀c a,zJ m c->zJ n a->d' c a=d c a):LD n m j' e d':=by
 refine⟨λc a r f=>by rw[p c a r f];exact h.cl c a r f,by rw[p 0 e ⟨by omega,by omega⟩ hj.ce];exact h.em,λa i b k f l g o=>?_⟩;rw[q a b f g,p _ _ (WX hm)<|hj.cl a b f g,p i a l f,p k b o g,q _ _ (h.cl i a l f)<|h.cl k b o g];exact h.dn a i b k f l g o
def jS(n:Nat)(a b:Int):Int:=(a+b)%n
def jM(a b:Int):Int:=if b > a then b else a
def jL(a b:Int):Int:=if b=0 then a else b
def DY{n:Nat}(hn:0<n):LJ n (jS n) 0:=by
 refine⟨λa b _ _=>WX hn,⟨by omega,by omega⟩,λa d=>?_,λa d=>?_,λa b c _ _ _=>?_⟩
 . unfold jS;rw[Int.zero_add,Int.emod_eq_of_lt d.1 d.2]
 . unfold jS;rw[Int.add_zero,Int.emod_eq_of_lt d.1 d.2]
 . unfold jS;rw[Int.emod_add_emod,Int.add_emod_emod,Int.add_assoc]
def uz{n:Nat}(hn:0<n):LJ n jM 0:=by
 refine⟨λa b d e=>?_,⟨by omega,by omega⟩,λa d=>?_,λa d=>?_,λa b c _ _ _=>?_⟩<;>unfold jM<;>(try unfold jM)<;>grind
def uH{n:Nat}(hn:0<n):LJ n jL 0:=by
 refine⟨λa b d e=>?_,⟨by omega,by omega⟩,λa d=>?_,λa d=>?_,λa b c _ _ _=>?_⟩<;>unfold jL<;>grind
def four{P:Int->Prop}(h0:P 0)(h1:P 1)(h2:P 2)(h3:P 3)(h:zJ 4 a):P a:=by
 rcases(show a=0\/a=1\/a=2\/a=3 by have:=h.1;have:=h.2;omega)with rfl|rfl|rfl|rfl<;>assumption
def f4{P:Int->Prop}(h:∀a ∈ ([0,1,2,3]:List Int),P a){a:Int}(ha:zJ 4 a):P a:=four (h 0<|by decide) (h 1<|by decide) (h 2<|by decide) (h 3<|by decide) ha
def uP{n m:Nat}{g x0 x1:Int}(hn:0<n)(hm:0<m)(g0:0<g)(gn:g ∣ n)(gm:g ∣ m):LD n m (jS n) 0 (λc a=>(a*x0+c*((n:Int)/g)*x1)%n):=by
 refine⟨λc a _ _=>WX hn,by simp,λa i b k _ _ _ _=>?_⟩;obtain⟨t,e⟩:=gm;have h:(m:Int)*((n:Int)/g)=n*t:=by
  obtain⟨s,f⟩:=gn;rw[f,Int.mul_ediv_cancel_left _ (by omega),e];grind
 unfold jS;rw[<-Int.add_emod];generalize n/g=d at h;rw[Int.emod_def (i+k) m,Int.emod_def (a+b) n];generalize (i+k)/m=q;generalize (a+b)/n=p;rw[show _*x0+_*d*x1=(a*x0+i*d*x1+(b*x0+k*d*x1))+n*(-(p*x0)-t*q*x1) by grind,Int.add_mul_emod_self_left]
def u6{n m:Nat}{r:Int->Int}(hm:0<m)(h0:r 0=0)(hc:∀a,zJ n a->zJ n (r a))(hr:∀a b,zJ n a->zJ n b->a<=b->r a<=r b):LD n m jM 0 (λ_ a=>r a):=by
 refine⟨λc a _ d=>hc a d,h0,λa i b k d _ e _=>?_⟩;unfold jM;have f:=hr a b d e;have g:=hr b a e d
 split<;>split<;>grind
def uE{n m:Nat}{r:Int->Int}(h0:r 0=0)(hc:∀a,zJ n a->zJ n (r a))(hr:∀a,zJ n a->a≠0->r a≠0):LD n m jL 0 (λ_ a=>r a):=by
 refine⟨λc a _ d=>hc a d,h0,λa i b k d _ e _=>?_⟩;unfold jL;have f:=hr b e
 split<;>split<;>grind
def Cv{n1 n2:Nat}(hx:zJ n1 x)(hy:zJ n2 y):zJ (n1*n2) (x*n2+y):=by
 have b:0<=x*n2:=Int.mul_nonneg hx.1 (by omega);have a:x*n2<=(n1-1)*n2:=Int.mul_le_mul_of_nonneg_right (by have:=hx.2;omega) (by omega);rw[Int.sub_mul,Int.one_mul]at a;refine⟨by have:=hy.1;omega, ?_⟩;rw[zzV];have:=hy.2;omega
def zR{n1 n2:Nat}(h2:0<n2)(h:zJ (n1*n2) p):zJ n1 (p/n2)/\zJ n2 (p%n2):=
 ⟨⟨Int.ediv_nonneg h.1 (by omega),Int.ediv_lt_of_lt_mul (by omega)<|by have:=h.2;rw[zzV]at this;exact this⟩,WX h2⟩
def YW{n2:Nat}(hy:zJ n2 y):(x*n2+y)/n2=x/\(x*n2+y)%n2=y:=by
 have a:(n2:Int)≠0:=by have:=hy.1;have:=hy.2;omega
 constructor
 . rw[Int.add_comm,Int.add_mul_ediv_right _ _ a,Int.ediv_eq_zero_of_lt hy.1 hy.2,Int.zero_add]
 . rw[Int.add_comm,Int.add_mul_emod_self_right,Int.emod_eq_of_lt hy.1 hy.2]
def JK{n2:Nat}{p:Int}:(p/n2)*n2+p%n2=p:=by rw[Int.mul_comm];exact Int.mul_ediv_add_emod p n2
def jB(n2:Nat)(j1 j2:Int->Int->Int)(p q:Int):Int:=j1 (p/n2) (q/n2)*n2+j2 (p%n2) (q%n2)
def dB(n2:Nat)(d1 d2:Int->Int->Int)(c p:Int):Int:=d1 c (p/n2)*n2+d2 c (p%n2)
def GK{n k:Nat}(h:n<=8)(hk:8<=k:=by decide):n<=k:=zzO h hk
def Tj{n:Nat}(h:1<=n):(0:Int)<n:=Int.natCast_pos.mpr h
def tS{a:Int}{n:Nat}(h0:0<=a)(h1:a<n):a.toNat<n:=Int.ofNat_lt.mp (by rw[zyX h0];exact h1)
def mU{n:Nat}(h:n<=8)(hk:8<k:=by decide):(n:Int)<k:=Int.lt_of_le_of_lt (Int.ofNat_le.mpr h) hk
def iT{n:Nat}(h:zJ n x):x.toNat<n:=Int.ofNat_lt.mp (by rw[zyX h.1];exact h.2)
def iC{n:Nat}(h:zJ n x):((x.toNat:Nat):Int)=x:=zyX h.1
def zI(i:Nat):(0:Int)<=0+i:=by rw[Int.zero_add];exact Int.natCast_nonneg i
def v7(r:List Int)(v:Int):Int:=(r[v.toNat]?).getD 0
def yL(J:List (List Int))(w v:Int):Int:=v7 ((J[w.toNat]?).getD []) v
local macro_rules | `(tactic| trivial)=>`(tactic| first|with_reducible first|assumption|exact Int.natCast_nonneg _|exact Nat.le_refl _|exact Int.le_refl _|exact rfl|exact GK (by assumption)|exact Tj (by assumption)|exact np2 (by assumption)|exact nq1 (by assumption)|exact nq2 (by assumption)|exact Int.natCast_pos.mpr (by assumption)|exact Nat.le_trans (by assumption) (by decide)|exact bgL _|exact bgU (by assumption)|exact mU (by assumption)|exact zI _|exact bL0 (by assumption)|exact bU0 (by assumption) (by assumption)|exact iL (by assumption)|exact iU (by assumption) (by assumption)|exact iC (by assumption)|exact iT (by assumption)|exact stL (by assumption)|exact stU (by assumption)|exact lnK (by assumption) (by assumption) (by assumption)|exact zi1 _|exact lnE (by assumption)|exact ltL (by assumption)|exact Int.toNat_of_nonneg (by assumption)|exact tS (by assumption) (by assumption)|exact b6 (by assumption)|exact Int.emod_nonneg _ (by decide)|exact Int.emod_lt_of_pos _ (by decide)|decide|omega)
abbrev xO(x:Int):O:=.lf true<|.int x
abbrev sI(x:Int):Option O:=some<|xO x
abbrev sT(d:D):Option O:=some<|.lf true d
abbrev sN(os:List O):Option O:=some<|.nd .ls os
abbrev TZ:Type:=List<|List Int
abbrev DD:Type:=List<|Str×TZ
abbrev SS:Type:=List<|Str×List Int
def wc{f as as1 o}(h:f as=some (.ow o,as1))(hs:o.str=true):zX f as=some (.rt o):=by
 unfold zX;rw[h];show((if o.str=true then some o else none).bind _)=_;rw[if_pos hs];rfl
theorem y9:∀xs:List Int,(xs.map xO).all O.isLf=true/\O.strs (xs.map xO)=true/\O.toDs (xs.map xO)=xs.map D.int
 | []=>⟨rfl,rfl,rfl⟩
 |x::r=>⟨(y9 r).1,(y9 r).2.1,congrArg _ (y9 r).2.2⟩
def La(xs:List Int):(xs.map D.int).map (O.lf true)=xs.map xO:=by rw[zyA];rfl
def Yb(ys)(w):(ys++[w]).map xO=ys.map xO++[O.lf true<|.int w]:=by rw[zyL];rfl
def Yu(xs:List Int):(O.nd .ls<|xs.map xO).str=true/\(O.nd .ls<|xs.map xO).toD = .lst (xs.map D.int):=⟨(y9 xs).2.1,congrArg D.lst (y9 xs).2.2⟩
abbrev Vm(r:List Int):O:=.nd .ls<|r.map xO
abbrev zi(r:List Int):D:=.lst<|r.map D.int
theorem YG:∀T:TZ,O.strs (T.map Vm)=true/\O.toDs (T.map Vm)=T.map zi
 | []=>⟨rfl,rfl⟩
 |r::T=>⟨by show(O.strs _&&O.strs _)=true;rw[(y9 r).2.1,(YG T).1];rfl,by
  show D.lst _::O.toDs _=_;rw[(y9 r).2.2,(YG T).2];rfl⟩
def QY{g fe as0 as1 y r o os}(h1:g y as0=some as1)(h2:fe as1=some (.ow o,as1))(hs:o.str=true)(h3:xg g yB fe as0 r=some os):xg g yB fe as0 (y::r)=some (o::os):=by
 unfold xg;rw[h1];show((fe as1).bind _)=_;rw[h2];show(if o.str=true then _ else _)=_;rw[if_pos hs,h3];rfl
theorem ym:∀(n:Nat) (k:Int),(yJ k n).length=n
 |0,_=>rfl
 |n+1,k=>by rw[RO];exact congrArg (· + 1)<|ym n<|k+1
theorem LR:∀{n:Nat}{k:Int}{y:ZV},y ∈ yJ k n->∃b:Int,y=(true,.int b)/\k<=b/\b<k+n
 |0,_,_,h=>nomatch h
 |n+1,k,y,h=>by
  rw[RO]at h
  rcases zzC.mp h with rfl|h
  . exact⟨k,rfl,by trivial,by trivial⟩
  . obtain⟨b,e,a,c⟩:=LR h;exact⟨b,e,by trivial,by trivial⟩
def Row(n:Nat)(r:List Int):Prop:=r.length=n/\∀x ∈ r,0<=x/\x<(n:Int)
def Tab(k n:Nat)(T:TZ):Prop:=T.length=k/\∀r ∈ T,Row n r
abbrev zY(T:TZ):D:=.lst<|T.map zi
def O5{r}{P:Int->Prop}{k}(h0:0<=k)(h1:k<r.length)(hp:∀x ∈ r,P x):∃x,zo (zi r) (.int k)=some (.im<|.int x)/\P x:=by
 have a:k.toNat<r.length:=by trivial
 refine⟨r[k.toNat], ?_,hp _<|zyY a⟩;have h:=y6 (xs:=r.map D.int) (by rw[zzI,zzE a];rfl);rw[show(k.toNat:Int)=k by trivial]at h;show Mm _=_;rw[h];rfl
def YB{α:Type}{f}{l:List α}{i:Nat}{p}(h:l[i]? = some p):zo (.lst<|l.map f) (.int (i:Int))=some (.im<|f p):=by
 have h:=y6 (v:=f p) (by rw[zzI,h];rfl);show Mm _=_;rw[h];rfl
def O1{n k:Nat}{r}{v:Int}(hl:r.length=k)(hr:∀x ∈ r,zJ n x)(hv:zJ k v):zo (zi r) (.int v)=some (.im<|.int<|v7 r v)/\zJ n (v7 r v):=by
 have a:v.toNat<r.length:=by rw[hl];have:=hv.1;have:=hv.2;trivial
 have g:=zzE a;have e:v7 r v=r[v.toNat]:=by unfold v7;rw[g];rfl
 rw[e];refine⟨?_,hr _<|zyY a⟩;have:=YB (f:=D.int) g;rw[show(v.toNat:Int)=v by have:=hv.1;trivial]at this;exact this
abbrev NP(T:TZ)(w:Int):List Int:=(T[w.toNat]?).getD []
def Zb{k n:Nat}{T}{w:Int}(hT:Tab k n T)(hw:zJ k w):zo (zY T) (.int w)=some (.im<|zi<|NP T w)/\Row n (NP T w):=by
 have a:w.toNat<T.length:=by rw[hT.1];have:=hw.1;have:=hw.2;trivial
 have g:=zzE a;unfold NP;rw[g];refine⟨?_,hT.2 _<|zyY a⟩;have:=YB (f:=zi) g;rw[show(w.toNat:Int)=w by have:=hw.1;trivial]at this;exact this
def rowAt{n:Nat}{r v}(hr:Row n r)(hv:zJ n v):zo (zi r) (.int v)=some (.im<|.int<|v7 r v)/\zJ n (v7 r v):=O1 hr.1 hr.2 hv
theorem L1{α:Type}(toD){Q:Nat->α->Prop}{g fe as0}:∀{xs:List ZV}(k:Nat),(∀i y,xs[i]? = some y->∃as1 a,g y as0=some as1/\WE fe as1 (toD a)/\Q (k+i) a)->∃(os:List O) (l:List α),xg g yB fe as0 xs=some os/\O.strs os=true/\O.toDs os=l.map toD/\l.length=xs.length/\∀i a,l[i]? = some a->Q (k+i) a
 | [],k,_=>⟨[],[],rfl,rfl,rfl,rfl,λi a h=>by simp at h⟩
 |y::e,k,H=>by
  obtain⟨f,a,j,⟨o,n,d,p⟩,q⟩:=H 0 y rfl;obtain⟨c,l,r,s,t,u,v⟩:=L1 toD (k+1) λi z m=>by
   have:=H (i+1) z (by simpa using m)
   rwa [show k+(i+1)=k+1+i by trivial]at this
  refine⟨o::c,a::l,QY j n d r,by show(o.str&&O.strs c)=true;rw[d,s];rfl,by show o.toD::O.toDs c=_;rw[p,t];rfl,congrArg (· + 1) u,λi b m=>?_⟩;cases i with
  |zero=>simp at m;subst m;exact q
  |succ i=>
   have:=v i b (by simpa using m)
   rwa [show k+1+i=k+(i+1) by trivial]at this
def EM{α:Type}(toD:α->D){Q:Nat->α->Prop}{fi cap g fe as xs}(h1:fi as=some (xs,as))(hl:xs.length<=1000)(H:∀i y,xs[i]? = some y->∃as1 a,g y (Yt cap as)=some as1/\WE fe as1 (toD a)/\Q i a):
 ∃l:List α,l.length=xs.length/\(∀i a,l[i]? = some a->Q i a)/\WE (zN fi cap g yB fe) as (.lst<|l.map toD):=by
 obtain⟨j,l,b,c,d,e,f⟩:=L1 toD 0 (λi y h=>by rw[zyW];exact H i y h);exact⟨l,e,(λi a h=>by have:=f i a h;rwa [zyW]at this),_,Wm h1 (Bb<|by trivial) b,c,congrArg D.lst d⟩
abbrev Sv(N n:Nat)(f:Int->Int)(r:List Int):Prop:=r.length=n/\(∀x ∈ r,zJ N x)/\∀b,zJ n b->v7 r b=f b
abbrev OX(k n:Nat)(f:Int->Int->Int)(T:TZ):Prop:=Tab k n T/\∀a b,zJ k a->zJ n b->yL T a b=f a b
def BG{N n:Nat}{f l}(hl:l.length=n)(h:∀(i:Nat) a,l[i]? = some a->a=f i/\zJ N a):Sv N n f l:=by
 refine⟨hl,λx m=>?_,λb c=>?_⟩
 . obtain⟨i,d⟩:=List.getElem?_of_mem m;exact(h i x d).2
 . have e:b.toNat<l.length:=by rw[hl];have:=c.1;have:=c.2;trivial
   have g:=zzE e;unfold v7;rw[g];show l[b.toNat]=_;rw[(h _ _ g).1,show(b.toNat:Int)=b by have:=c.1;trivial]
def Sq{k n:Nat}{f l}(hl:l.length=k)(h:∀(i:Nat) r,l[i]? = some r->Sv n n (f i) r):OX k n f l:=by
 refine⟨⟨hl,λx m=>?_⟩,λa b c e=>?_⟩
 . obtain⟨i,d⟩:=List.getElem?_of_mem m;exact⟨(h i x d).1,(h i x d).2.1⟩
 . have j:a.toNat<l.length:=by rw[hl];have:=c.1;have:=c.2;trivial
   have g:=zzE j;unfold yL;rw[g];have:=(h _ _ g).2.2 b e;rw[show(a.toNat:Int)=a by have:=c.1;trivial]at this;exact this
def Ly{f:Int->Int}{N:Nat}{fr cap fe as}{n:Nat}{u}(h1:WA fr as [(u,.int n)])(hl:n<=1000)(H:∀b:Int,zJ n b->∃as1,gN 0 (true,.int b) (Yt cap as)=some as1/\WE fe as1 (.int<|f b)/\zJ N (f b)):
 ∃r:List Int,Sv N n f r/\WE (zN (yk fr yn) cap (gN 0) yB fe) as (zi r):=by
 obtain⟨l,d,e,h⟩:=EM D.int (Q:=λi a=>a=f i/\zJ N a) (yK h1 (by trivial)<|by trivial) (by rw[ym];trivial) (λi y m=>by
  obtain⟨rfl,p⟩:=yD m;obtain⟨c,j,k,o⟩:=H (0+i) ⟨by trivial,by trivial⟩;exact⟨c,f<|0+i,j,k,by rw[Int.zero_add],o⟩)
 rw[ym]at d;exact⟨l,BG (by trivial) e,h⟩
def Ls{f:Int->Int->Int}{n:Nat}{fr cap fe as}{k:Nat}{u}(h1:WA fr as [(u,.int k)])(hl:k<=1000)(H:∀b:Int,zJ k b->∃as1 r,gN 0 (true,.int b) (Yt cap as)=some as1/\WE fe as1 (zi r)/\Sv n n (f b) r):
 ∃T:TZ,OX k n f T/\WE (zN (yk fr yn) cap (gN 0) yB fe) as (zY T):=by
 obtain⟨l,d,e,h⟩:=EM zi (yK h1 (by trivial)<|by trivial) (by rw[ym];trivial) (λi y m=>by
  obtain⟨rfl,p⟩:=yD m;obtain⟨a,r,j,o,c⟩:=H (0+i) ⟨by trivial,by trivial⟩;rw[Int.zero_add]at c;exact⟨a,r,j,o,c⟩)
 rw[ym]at d;exact⟨l,Sq (by trivial) e,h⟩
def Kh:∀(b:Nat) (a:Int) (f:Nat),b<f->0<a->a<1000->b<1000->∃g e,0<g/\g<1000/\g ∣ a/\g ∣ (b:Int)/\LX (fT<|f2 (fV 1) (fC<|.int 0)<|zr .Gt) (FU 0 1<|dC (fV 1)<|dC (f2 (fV 0) (fV 1)<|Yc .Mod) dN) f [sI a,sI b]=some (.nx [sI g,e]):=by
 intro b
 induction b using Nat.strongRecOn with
 |ind b ih=>
  intro a f hf ha ha2 hb2;cases f with
  |zero=>trivial
  |succ f=>
   by_cases hb:b=0
   . subst hb;exact⟨a,_,ha,ha2,Int.dvd_refl a,Int.dvd_zero a,GU<|ya (GB (za rfl) zb) rfl⟩
   . have m0:=zyM a (show(b:Int)≠0 by trivial);have m1:=zyG a (show(0:Int)<b by trivial);obtain⟨g,e,g0,g1,d1,d2,hg⟩:=ih (a%b).toNat (by trivial) b f (by trivial) (by trivial) (by trivial) (by trivial);rw[show(((a%b).toNat:Nat):Int)=a%b by trivial]at hg d2;refine⟨g,e,g0,g1, ?_,d1,G_ (ya (GB (za rfl) zb)<|congrArg some<|zyN<|show(0:Int)<b by trivial) (H_ (zC (za rfl)<|zC (zL (za rfl) (za rfl)<|by trivial) zT) (zh rfl)<|zh rfl) hg⟩;rw[<-Int.mul_ediv_add_emod a b];exact Int.dvd_add (Int.dvd_trans d1<|Int.dvd_mul_right _ _) d2
theorem strs_snoc:∀(os:List O) (o:O),O.strs os=true->o.str=true->O.strs (os++[o])=true
 | [],o,_,h=>by show(o.str&&true)=true;rw[h];rfl
 |p::r,o,h,a=>by
  have h:=(zyB _ _).mp<|h;show(p.str&&O.strs (r++[o]))=_;rw[h.1,strs_snoc r o h.2 a];rfl
theorem U8:∀(os:List O) (o:O),O.toDs (os++[o])=O.toDs os++[o.toD]
 | [],o=>rfl
 |p::r,o=>congrArg _<|U8 r o
structure Ows{α:Type}(toD:α->D)(Q:α->Prop)(os:List O)(l:List α):Prop where
 st:O.strs os=true
 ds:O.toDs os=l.map toD
 al:∀a ∈ l,Q a
 ln:os.length=l.length
def Ows.nil{α:Type}{toD}{Q:α->Prop}:Ows toD Q [] []:=⟨rfl,rfl,(λ_ m=>nomatch m),rfl⟩
def Ows.snoc{α:Type}{toD Q os l o}{a:α}(h:Ows toD Q os l)(h1:o.str=true)(h2:o.toD=toD a)(h3:Q a):Ows toD Q (os++[o]) (l++[a]):=
 ⟨strs_snoc os o h.st h1,(by rw[U8,h.ds,h2,zyL];rfl),(λb m=>(zzM.mp m).elim (h.al b) λm=>(by rw[zzR.mp m];exact h3)),(by rw[zzJ,zzJ,h.ln];rfl)⟩
def QG{as as1 a}{i:Nat}{os0 os o}(h:as[i]? = some (sN os0))(ha:a as=some (.ow o,as1))(h1:as1[i]? = some (sN os))(hl:os.length<sizeLine):yy (xo i (dC a dN) xQ) as=some (.nx<|as1.set i<|sN<|os++[o]):=by
 unfold yy xo;rw[h];have e:dC a dN as=some _:=xv ha rfl;rw[e];show(Option.bind (match as1[i]? with|some (some<|.nd .ls os)=>_|_=>none) _)=_;rw[h1];show((xQ os [o]).bind _).bind _=_;have e2:xQ os [o]=some (os++[o],.lf true .non):=by unfold xQ;exact if_pos hl
 rw[e2];rfl
def A3{α:Type}{toD Q as a}{i:Nat}{os l}{x:α}(h:as[i]? = some (sN os))(ho:Ows toD Q os l)(hl:l.length<1000)(ha:WE a as (toD x))(hx:Q x):
 ∃os',Ows toD Q os' (l++[x])/\yy (xo i (dC a dN) xQ) as=some (.nx<|as.set i<|sN os'):=by
 obtain⟨o,b,c,d⟩:=ha;exact⟨os++[o],ho.snoc c d hx,QG h b h<|by rw[ho.ln];exact zM<|by trivial⟩
def Ows.retB{α:Type}{toD Q as}{i:Nat}{os}{l:List α}(h:as[i]? = some (sN os))(ho:Ows toD Q os l):Rt (zX (fV i) as) (.lst<|l.map toD):=
 ⟨_,We h ho.st,ho.st,congrArg D.lst ho.ds⟩
structure OwsX{α:Type}(toD:α->D)(Q:Nat->α->Prop)(os:List O)(l:List α):Prop where
 st:O.strs os=true
 ds:O.toDs os=l.map toD
 al:∀i a,l[i]? = some a->Q i a
 ln:os.length=l.length
def Hx{fr as rs g zs}(ha:WA fr as rs)(hg:g (rs.map (·.2))=some (.fl zs)):fP fr g as=some (.ow (.nd .ls (zs.map (Le (rs.all (·.1))))),as):=by
 unfold fP;unfold WA at ha;rw[ha];show(views as _).bind _=_;rw[vz];show(g _).bind _=_;rw[hg];show(if _=true then _ else _:Option RV).bind _=_;rw[if_pos<|by simp];rfl
def Kf{a as x g zs}(ha:WE a as x)(hg:g [x]=some (.fl zs)):fP (aC a aN) g as=some (.ow<|.nd .ls<|zs.map<|O.lf true,as):=by
 have:=Hx (Z2 ha<|zA) hg;rw[show([(true,x)].all (·.1))=true from rfl,ZF]at this;exact this
def Hw{a as s r}(h:WD a as s (zi r)):fP (aC a aN) lstP as=some (.ow<|Vm r,as):=by
 have:=Hx (g:=lstP) (ze h<|zA) rfl;rw[zyA]at this;exact this
def K2{a as s r}(h:WD a as s (zi r)):WE (fP (aC a aN) lstP) as (zi r):=⟨_,Hw h,(Yu r).1,(Yu r).2⟩
def ME{a b c d as x y z u w g}(ha:WE a as x)(hb:WE b as y)(hc:WE c as z)(hd:WE d as u)(hg:RE (g [(true,x),(true,y),(true,z),(true,u)]) w):WE (zp (aC a<|aC b<|aC c<|aC d aN) g) as w:=by
 obtain⟨o,e,f⟩:=hg;exact⟨o,wA (Z2 ha<|Z2 hb<|Z2 hc<|Z2 hd zA) (by show g [(zB x||true,x),(zB y||true,y),(zB z||true,z),(zB u||true,u)]=_;rw[zyC,zyC,zyC,zyC];exact e),f⟩
def NZ{fr as os x}(h:WO fr as os)(hl:os.length<=sizeLine)(hs:O.strs os=true)(e:D.tup (O.toDs os)=x):WE (yb fr) as x:=by
 refine⟨_,G7 h hl, ?_, ?_⟩
 . unfold Zf
   split
   . exact hs
   . exact hs
 . unfold Zf
   split
   . exact e
   . exact e
def O0{n m:Nat}{fr cap as u s r}(hr:Row n r)(hm:m<=8)(h1:WA fr as [(u,.int m)])(h2:∀b:Int,∃as1,gN 0 (true,.int b) (Yt cap as)=some as1/\WD (fV 1) as1 s (zi r)):
 ∃T,OX m n (λ_ a=>v7 r a) T/\WE (zN (yk fr yn) cap (gN 0) yB<|fP (aC (fV 1) aN) lstP) as (zY T):=
 Ls h1 (by trivial) λb _=>by
  obtain⟨c,d,e⟩:=h2 b;exact⟨c,r,d,K2 e,hr.1,hr.2,λ_ _=>rfl⟩
def NM{l:List Int}(h:l.Pairwise (· <= ·)){i j:Nat}(hij:i<j)(hj:j<l.length):l[i]<=l[j]:=List.pairwise_iff_getElem.mp h i j (by trivial) hj hij
def Zz{r a}(h:a.toNat<r.length):v7 r a=r[a.toNat]:=by unfold v7;rw[zzE h];rfl
theorem Gi:∀l:List Int,vQ (l.map D.int)=some l
 | []=>rfl
 |x::r=>by
  show(vQ _).bind _=_;rw[Gi r];rfl
def Fm{as}{i:Nat}{os fl fh lo hi}(h:as[i]? = some (sN os))(hl:os.all O.isLf=true)(hs:O.strs os=true)(h1:fl as=some (lo,as))(h2:fh as=some (hi,as)):
 GR (fV i) fl fh LH as=some (.ow<|.nd .ls<|(cutD (O.toDs os) lo hi).map<|O.lf true,as):=by
 unfold GR;rw[V9 h];show((fl as).bind _)=_;rw[h1];show((fh as).bind _)=_;rw[h2];show((RV.view as<|.bo i).bind _)=_;rw[YJ h];have e:(O.nd .ls os).kl=some true:=by simp only[O.kl,hl,if_true,hs]
 rw[e];show(if _=true then some (RV.ow<|.nd .ls<|(cutD _ lo hi).map<|Le true)else none:Option RV).bind _=_;rw[if_pos (by simp),ZF];rfl
theorem Ows.frz{α:Type}{toD:α->D}{Q:α->Prop}{os:List O}{l:List α}(h:Ows toD Q os l):(O.nd .ls os).frz = .lf true (.lst<|l.map toD):=by
 show O.lf (O.strs os) (.lst _)=_;rw[h.st,h.ds]
def KQ{as as2}{j:Nat}{ps fr os}(hj:as[j]? = some (sN ps))(hr:fr (as.set j<|some (O.nd .ls ps).frz)=some (os,as2)):dC (fV j) fr as=some ((O.nd .ls ps).frz::os,as2):=by
 unfold dC;rw[V9 hj];show((SR as _).bind _)=_;rw[CC hj];show(fr _).bind _=_;rw[hr];rfl
def QE{as as1 fr os}(h:fr as=some (os,as1))(hl:os.length<=sizeLine):yb fr as=some (.ow<|Zf os,as1):=by
 unfold yb;rw[h];show(if os.length<=sizeLine then _ else _)=_;rw[if_pos hl]
def Ko{f as ds}(h:WE f as (.lst ds)):Qk f as=some (ds.map λd=>(true,d),as):=by
 obtain⟨o,h1,h2,h3⟩:=h;unfold Qk;rw[h1];have e:Zv as (.ow o)=some _:=rfl;show(Zv as<|RV.ow o).bind (λq=>(Gs q.1).bind λds=>some (ds,q.2))=_;rw[e,h2,h3];show some _=_;rw[RY]
theorem Ux:∀(l:List Int) (k:Nat) (h:k<l.length),(l[k]::l.eraseIdx k).Perm l
 |x::r,0,_=>List.Perm.refl _
 |x::r,k+1,h=>(List.Perm.swap _ _ _).trans<|(Ux r k<|by simpa using h).cons x
abbrev VA(n:Nat):List Int:=(List.range n).map λ(i:Nat)=>(i:Int)
abbrev yE(p:Str×List Int):D:=.tup [.str p.1,zi p.2]
def Fj{x y c}:zo (.lst [.int x,.int y]) (.int (if c=true then 1 else 0))=some (.im<|.int (if c=true then y else x)):=by cases c<;>rfl
abbrev MI:Str:="abcdefghijklmnopqrstuvwxyz"
def S5:∀k,k<26->MI.cps.toList[k]? = some (97+k):=by decide +kernel
def CN{i}(h0:0<=i)(h1:i<26):zo (.str MI) (.int i)=some (.im<|.str ⟨#[97+i.toNat]⟩):=by
 show(if MI.length<=sizeLine then(Tn MI.cps.toList i).bind _ else none)=_;rw[if_pos (show MI.length<=sizeLine by decide +kernel)];have:=y6 (S5 i.toNat<|by trivial);rw[show(i.toNat:Int)=i by trivial]at this;rw[this];rfl
theorem Gy:∀l:List Str,UI (l.map D.str)=some l
 | []=>rfl
 |x::r=>by
  show(UI _).bind _=_;rw[Gy r];rfl
theorem Ip:∀l:List Str,(∀s ∈ l,s.length=1)->(l.map (·.length)).sum=l.length
 | [],_=>rfl
 |x::r,h=>by
  show x.length+(r.map _).sum=r.length+1;rw[h x<|zzF ..,Ip r λs m=>h s<|zzD _ m];trivial
def BJ{α:Type}(toD:α->D){Q:Nat->α->Prop}{fr:AF}{cap:List (Option Nat)}{fe:EF}{as:AS}{n:Nat}{u:Bool}(h1:WA fr as [(u,.int n)])(hl:n<=1000)(H:∀i:Nat,i<n->∃as1 a,gN 0 (true,.int (i:Int)) (Yt cap as)=some as1/\WE fe as1 (toD a)/\Q i a):
 ∃l:List α,l.length=n/\(∀i a,l[i]? = some a->Q i a)/\WE (zN (yk fr yn) cap (gN 0) yB fe) as (.lst<|l.map toD):=by
 obtain⟨l,b,c,d⟩:=EM toD (yK h1 (by trivial)<|by trivial) (by rw[ym];trivial) (λi y m=>by
  obtain⟨rfl,e⟩:=yD m;rw[Int.zero_add];exact H i<|by trivial)
 rw[ym]at b;exact⟨l,by trivial,c,d⟩
def vo{F}{n:Nat}(h:F.Perm (VA n)):Row n F/\∀b:Int,0<=b->b<n->b ∈ F:=by
 refine⟨⟨by rw[h.length_eq,zzB,zyT],λx m=>?_⟩,λb c d=>h.mem_iff.mpr ?_⟩
 . obtain⟨i,a,rfl⟩:=zxC.mp<|h.mem_iff.mp m;have:=List.mem_range.mp a;trivial
 . exact zxC.mpr ⟨b.toNat,List.mem_range.mpr (by trivial),by trivial⟩
def Tw{F}{n:Nat}(h:F.Perm (VA n)){v w}(hv:zJ n v)(hw:zJ n w)(e:v7 F v=v7 F w):v=w:=by
 have a:=(vo h).1.1;have b:=hv.1;have c:=hv.2;have d:=hw.1;have f:=hw.2;have nd:F.Nodup:=by
  refine h.nodup_iff.mpr (List.pairwise_map.mpr<|List.nodup_range.imp λz q=>z<|by trivial)
 rw[Zz (by trivial),Zz<|by trivial]at e;have:=(List.getElem_inj nd).mp e;trivial
def Bf{f g as as' x}(h:WE f as x)(hg:g (true,x) as=some as'):W6 f g as=some (.nx as'):=by
 obtain⟨o,a,b,c⟩:=h;exact OU a (by rw[b,c];exact hg)
abbrev y8(p:Str×TZ):D:=.tup [.str p.1,zY p.2]
structure Alg(n m:Nat)(J:TZ)(e:Int)(Ds:DD):Prop where
 n1:1<=n
 n8:n<=8
 m1:1<=m
 m6:m<=6
 j:Tab n n J
 e0:0<=e
 en:e<n
 dl:Ds.length<=6
 ds:∀p ∈ Ds,Tab m n p.2
 nd:(Ds.map (·.1)).Nodup
structure LawA(n m:Nat)(J:TZ)(e:Int)(Ds:DD):Prop where
 lj:LJ n (yL J) e
 ld:∀p ∈ Ds,LD n m (yL J) e<|yL p.2
abbrev zt(n m:Nat)(J:TZ)(e:Int)(Ds:DD)(S:SS):D:=.tup [.int n,.int m,zY J,.int e,.lst<|Ds.map y8,.lst<|S.map yE]
def Ke{f as k}(h:WD f as true (.int k)):oS f as=some (some k,as):=by
 unfold oS;unfold WD at h;rw[h];rfl
abbrev wM(T:TZ):O:=.nd .ls<|T.map Vm
def Vi{as}{i:Nat}{k s}(h:as[i]? = some (some<|.lf s<|.int k)):xV i as=some k:=by
 unfold xV;rw[LQ (f:=UO) h rfl];rfl
def Ie{r:List Int}{k:Int}(h:k.toNat<r.length):(r.map xO)[k.toNat]? = sT (.int r[k.toNat]):=by
 rw[zzI,zzE h];rfl
def NO{as:AS}{i:Nat}{f1 f2 fv:Eg}{k1 k2 c:Int}{T:TZ}{r:List Int}(h1:f1 as=some k1)(h2:f2 as=some k2)(hv:fv as=some c)(p1:0<=k1)(p2:0<=k2)(hi:as[i]? = some (some<|wM T))(hr:T[k1.toNat]? = some r)(hk:k2.toNat<r.length):
 X3 i f1 f2 fv as=some (.nx<|as.set i<|some<|wM<|T.set k1.toNat<|r.set k2.toNat c):=by
 have a:(T.map Vm)[k1.toNat]? = sN (r.map xO):=by rw[zzI,hr];rfl
 have b:=Ie hk;have d:(T.map Vm).set k1.toNat (.nd .ls<|(r.map xO).set k2.toNat<|.lf true<|.int c)=(T.set k1.toNat<|r.set k2.toNat c).map Vm:=by
  rw[List.map_set];show _=(T.map Vm).set k1.toNat (.nd .ls _);rw[List.map_set]
 unfold X3;simp only[h1,h2,hv,zyK,if_pos (show 0<=k1/\0<=k2 from⟨p1,p2⟩),(LQ hi rfl:XA YY as i=some _),(L5 a rfl:GV YY _ _=some _),(L5 b rfl:GV UO _ _=some _),d]
def Bm{n i:Nat}{r c}(hr:Row n r)(hc:zJ n c):Row n (r.set i c):=by
 refine⟨by rw[zzU];exact hr.1,λx m=>?_⟩
 rcases List.mem_or_eq_of_mem_set m with m|rfl
 . exact hr.2 x m
 . exact hc
def Bn{k n i:Nat}{T r}(hT:Tab k n T)(hr:Row n r):Tab k n (T.set i r):=by
 refine⟨by rw[zzU];exact hT.1,λx m=>?_⟩
 rcases List.mem_or_eq_of_mem_set m with m|rfl
 . exact hT.2 x m
 . exact hr
def LV(T):(wM T).frz = .lf true (zY T):=by
 show O.lf (O.strs _) (.lst _)=_;rw[(YG T).1,(YG T).2]
def Vz{n:Nat}{J w v}(hJ:Tab n n J)(hw:zJ n w)(hv:zJ n v):zJ n (yL J w v):=(rowAt (Zb hJ hw).2 hv).2
def vm{a b c as}{n:Nat}{J w v}(hJ:Tab n n J)(hw:zJ n w)(hv:zJ n v)(ha:WD a as true (zY J))(hb:WD b as true (.int w))(hc:WD c as true (.int v)):WD (f2 (f2 a b zo) c zo) as true (.int<|yL J w v):=
 yj (yi ha hb (Zb hJ hw).1) hc (rowAt (Zb hJ hw).2 hv).1 rfl
def Jd{fr as rs g kvs}(ha:WA fr as rs)(hg:g (rs.map (·.2))=some (.fd kvs)):fP fr g as=some (.ow (.nd (.dc (kvs.map (·.1))) ((kvs.map (·.2)).map (Le (rs.all (·.1))))),as):=by
 unfold fP;unfold WA at ha;rw[ha];show(views as _).bind _=_;rw[vz];show(g _).bind _=_;rw[hg];show(if _=true then _ else _:Option RV).bind _=_;rw[if_pos<|by simp];rfl
def wq{v n:Nat}(h:as[v]? = some (some<|.lf s<|.int n))(hn:n<=1000):yw (yk (aC (fV v) aN) yn) g f as=forL g f (yJ 0 n) as:=
 xb (yK (ze (za h) zA) (by trivial)<|by trivial) (by rw[zyH])
def E5(ha:WD a as s (.int x))(hb:WD b as t (.int y)):WT (fT<|f2 a b<|zr .NotEq) as (!(x==y)):=ya (Jw ha hb rfl) rfl
section
variable{n m:Nat}{J T:TZ}{e:Int}{Ds:DD}{S:SS}
def Z6(hT:Tab m n T)(hw:zJ m w)(hv:zJ n v)(ha:WD a as true (zY T))(hb:WD b as true (.int w))(hc:WD c as true (.int v)):WD (f2 (f2 a b zo) c zo) as true (.int<|yL T w v)/\zJ n (yL T w v):=
 ⟨yj (yi ha hb (Zb hT hw).1) hc (rowAt (Zb hT hw).2 hv).1 rfl,(rowAt (Zb hT hw).2 hv).2⟩
end
def iP(b k:Int):Int:=if k=0 then b/2 else b%2
def jP(a b:Int):Int:=2*iP b (a/2)+iP b (a%2)
def sP(a:Int):Int:=2*(1-a%2)+1-a/2
def DB:LJ 4 jP 1:=by
 refine⟨λa b d e=>?_,⟨by decide,by decide⟩,λa d=>?_,λa d=>?_,λa b c d e f=>?_⟩
 . revert b;refine f4 (P:=λa=>∀b,zJ 4 b->zJ 4 (jP a b)) ?_ d
   have:∀a ∈ ([0,1,2,3]:List Int),∀b ∈ ([0,1,2,3]:List Int),zJ 4 (jP a b):=by decide
   exact λa m b e=>f4 (this a m) e
 . exact f4 (P:=λa=>jP 1 a=a) (by decide) d
 . exact f4 (P:=λa=>jP a 1=a) (by decide) d
 . have:∀a ∈ ([0,1,2,3]:List Int),∀b ∈ ([0,1,2,3]:List Int),∀c ∈ ([0,1,2,3]:List Int),jP (jP a b) c=jP a (jP b c):=by decide
   refine f4 (λa m=>f4 (λb g=>f4 (this a m b g) f) e) d
def u5{m:Nat}{r:Int->Int}(h:(∀a,zJ 4 a->r a=a)\/(∀a,zJ 4 a->r a=sP a)):LD 4 m jP 1 (λ_ a=>r a):=by
 rcases h with h|h
 . refine⟨λc a _ d=>by show zJ 4 (r a);rw[h a d];exact d,h 1 ⟨by decide,by decide⟩,λa i b k d _ e _=>?_⟩;rw[h a d,h b e,h _<|DB.cl a b d e]
 . refine⟨λc a _ d=>by show zJ 4 (r a);rw[h a d];exact f4 (P:=λa=>zJ 4<|sP a) (by decide) d,h 1 ⟨by decide,by decide⟩,λa i b k d _ e _=>?_⟩;rw[h a d,h b e,h _<|DB.cl a b d e];have:∀a ∈ ([0,1,2,3]:List Int),∀b ∈ ([0,1,2,3]:List Int),sP (jP a b)=jP (sP a) (sP b):=by decide
   exact f4 (λa m=>f4 (this a m) e) d
def uX{n1 n2:Nat}(h1:LJ n1 j1 e1)(h2:LJ n2 j2 e2)(p2:0<n2):LJ (n1*n2) (jB n2 j1 j2) (e1*n2+e2):=by
 refine⟨λa b d e=>?_,Cv h1.ce h2.ce,λa d=>?_,λa d=>?_,λa b c d e f=>?_⟩
 . exact Cv (h1.cl _ _ (zR p2 d).1 (zR p2 e).1)<|h2.cl _ _ (zR p2 d).2 (zR p2 e).2
 . unfold jB;rw[(YW h2.ce).1,(YW h2.ce).2,h1.ul _ (zR p2 d).1,h2.ul _ (zR p2 d).2,JK]
 . unfold jB;rw[(YW h2.ce).1,(YW h2.ce).2,h1.ur _ (zR p2 d).1,h2.ur _ (zR p2 d).2,JK]
 . unfold jB;rw[(YW<|h2.cl _ _ (zR p2 d).2 (zR p2 e).2).1,(YW<|h2.cl _ _ (zR p2 d).2 (zR p2 e).2).2,(YW<|h2.cl _ _ (zR p2 e).2 (zR p2 f).2).1,(YW<|h2.cl _ _ (zR p2 e).2 (zR p2 f).2).2,h1.as _ _ _ (zR p2 d).1 (zR p2 e).1 (zR p2 f).1,h2.as _ _ _ (zR p2 d).2 (zR p2 e).2 (zR p2 f).2]
def D6{n1 n2 m:Nat}(h1:LJ n1 j1 u1)(h2:LJ n2 j2 u2)(p2:0<n2)(e1:LD n1 m j1 u1 d1)(e2:LD n2 m j2 u2 d2):LD (n1*n2) m (jB n2 j1 j2) (u1*n2+u2) (dB n2 d1 d2):=by
 refine⟨λc a h d=>Cv (e1.cl _ _ h (zR p2 d).1)<|e2.cl _ _ h (zR p2 d).2, ?_,λa i b k d f e g=>?_⟩
 . unfold dB;rw[(YW h2.ce).1,(YW h2.ce).2,e1.em,e2.em]
 . unfold jB dB;rw[(YW<|h2.cl _ _ (zR p2 d).2 (zR p2 e).2).1,(YW<|h2.cl _ _ (zR p2 d).2 (zR p2 e).2).2,(YW<|e2.cl i _ f (zR p2 d).2).1,(YW<|e2.cl i _ f (zR p2 d).2).2,(YW<|e2.cl k _ g (zR p2 e).2).1,(YW<|e2.cl k _ g (zR p2 e).2).2,e1.dn _ _ _ _ (zR p2 d).1 f (zR p2 e).1 g,e2.dn _ _ _ _ (zR p2 d).2 f (zR p2 e).2 g]
def uF{n:Nat}{F B:Int->Int}(h:LJ n j e)(hF:∀a,zJ n a->zJ n (F a))(hB:∀a,zJ n a->zJ n (B a))(hFB:∀a,zJ n a->F (B a)=a)(q:∀a b,zJ n a->zJ n b->j' (F a) (F b)=F (j a b)):LJ n j' (F e):=by
 have g:=λa b d f=>by
  have:=q (B a) (B b) (hB a d)<|hB b f;rw[hFB a d,hFB b f]at this;exact this
 refine⟨λa b d f=>by rw[g a b d f];exact hF _<|h.cl _ _ (hB a d)<|hB b f,hF e h.ce,λa d=>?_,λa d=>?_,λa b c d f i=>?_⟩
 . have:=q e (B a) h.ce<|hB a d;rw[hFB a d,h.ul _<|hB a d,hFB a d]at this;exact this
 . have:=q (B a) e (hB a d) h.ce;rw[hFB a d,h.ur _<|hB a d,hFB a d]at this;exact this
 . have k:=hB a d;have l:=hB b f;have m:=hB c i;rw[g a b d f,g b c f i];have x:=q _ (B c) (h.cl _ _ k l) m;have y:=q (B a) _ k<|h.cl _ _ l m;rw[hFB c i]at x;rw[hFB a d]at y;rw[x,y,h.as _ _ _ k l m]
def uG{n m:Nat}{F B:Int->Int}(hm:0<m)(h:LJ n j e)(k:LD n m j e d)(hF:∀a,zJ n a->zJ n (F a))(hB:∀a,zJ n a->zJ n (B a))(hFB:∀a,zJ n a->F (B a)=a)
 (q:∀a b,zJ n a->zJ n b->j' (F a) (F b)=F (j a b)) (p:∀c a,zJ m c->zJ n a->d' c (F a)=F (d c a)):LD n m j' (F e) d':=by
 refine⟨λc a t f=>?_, ?_,λa i b l f r u s=>?_⟩
 . have:=p c (B a) t<|hB a f;rw[hFB a f]at this;rw[this];exact hF _<|k.cl _ _ t<|hB a f
 . rw[p 0 e ⟨by omega,by omega⟩ h.ce,k.em]
 . have g:=hB a f;have o:=hB b u;have x:=q (B a) (B b) g o;have y:=p i (B a) r g;have z:=p l (B b) s o;rw[hFB a f]at x y;rw[hFB b u]at x z;rw[x,y,z,p _ _ (WX hm)<|h.cl _ _ g o,q _ _ (k.cl _ _ r g)<|k.cl _ _ s o,k.dn _ _ _ _ g r o s]
def KN(k:Int)(n:Nat):Prop:=(k=0/\1<=n)\/(k=1/\1<=n)\/(k=2/\1<=n)\/(k=3/\n=4)
def jK(k:Int)(n:Nat):Int->Int->Int:=if k=0 then jS n else if k=1 then jM else if k=2 then jL else jP
def eK(k:Int):Int:=if k=3 then 1 else 0
def Bv{n:Nat}(h:KN k n):LJ n (jK k n) (eK k):=by
 rcases h with⟨rfl,h⟩|⟨rfl,h⟩|⟨rfl,h⟩|⟨rfl,rfl⟩
 . exact DY h
 . exact uz h
 . exact uH h
 . exact DB
def KN.n1{n:Nat}(h:KN k n):1<=n:=by rcases h with⟨_,h⟩|⟨_,h⟩|⟨_,h⟩|⟨_,h⟩<;>omega
def Oh{i:Nat}(h:as[i]? = some (sN<|xs.map xO))(hg:g [zi xs]=some (.fl zs)):fP (aC (fV i) aN) g as=some (.ow<|.nd .ls<|zs.map<|O.lf true,as):=by
 obtain⟨a,b,c⟩:=y9 xs;have e:views as [.bo i]=some ([zi xs],some true):=by
  show(RV.view as _).bind _=_;rw[YJ h];have k:(O.nd .ls<|xs.map xO).kl=some true:=by simp only[O.kl,a,if_true,b]
  rw[k,(Yu xs).2];rfl
 unfold fP aC;rw[V9 h];simp only[zyK,aN,RV.frz,e,hg];show(if _=true then some (RV.ow<|.nd .ls<|zs.map<|Le true)else none:Option RV).bind _=_;rw[if_pos (by simp),ZF];rfl
def He{i:Nat}{xs:List Int}(ha:WE a as (.lst ds))(h:as[i]? = some (sN<|xs.map xO))(hl:ds.length+xs.length<=1000):WE (f2 a (fV i)<|Yc .Add) as (.lst<|ds++xs.map D.int):=by
 obtain⟨b,c,m⟩:=y9 xs;obtain⟨o,d,f,g⟩:=ha;have k:(O.nd .ls<|xs.map xO).kl=some true:=by simp only[O.kl,b,if_true,c]
 have e:f2 a (fV i) (Yc .Add) as=some (.ow<|.nd .ls<|(ds++xs.map D.int).map<|O.lf true,as):=by
  have j:RV.view as (.ow o.frz)=some (.lst ds,some true):=by
   show some (o.toD,some o.str)=_;rw[f,g]
  have l:RV.view as (.bo i)=some (.lst<|xs.map D.int,some true):=by rw[YJ h,k,(Yu xs).2]
  unfold f2;simp only[d,V9 h,zyK,RV.frz,j,l];rw[add_lists<|by rw[zzB];exact Bb<|by omega];show(if((ds++xs.map D.int).all zB||true)=true then some (RV.ow<|.nd .ls<|(ds++xs.map D.int).map<|Le true)else none:Option RV).bind _=_;rw[if_pos (by simp),ZF];rfl
 exact⟨_,e,vB _,congrArg D.lst<|Um _⟩
def GM(h:WA fr as [(u,.int i),(v,.int j)])(h0:0<=i)(h1:i<=1000)(h2:0<=j)(h3:j<=1000):yk fr OP as=some (yJ i (j-i).toNat,as):=by
 unfold yk;unfold WA at h;rw[h];simp only[zyK,vz];show((if -_<=i/\i<2 ^ 62 /\ -_<=j/\j<2 ^ 62 then some _ else none).bind _)=_;rw[if_pos ⟨by omega,by omega,by omega,by omega⟩];rfl
def Mg:zo (.lst [.int p,.int q]) (.int<|x%2)=some (.im<|.int (if x%2=0 then p else q)):=by
 rcases Int.emod_two_eq x with h|h<;>rw[h]<;>rfl
def put(T:TZ)(p q c:Int):TZ:=T.set p.toNat<|(NP T p).set q.toNat c
def Sm{k n:Nat}(hT:Tab k n T)(hp:zJ k p)(hc:zJ n c):Tab k n (put T p q c):=Bn hT<|Bm (Zb hT hp).2 hc
def LO{k n:Nat}(hT:Tab k n T)(hp:zJ k p)(hq:zJ n q)(ha:zJ k a)(hb:zJ n b):yL (put T p q c) a b=if a=p/\b=q then c else yL T a b:=by
 have d:=iT hp;have h:=iT ha;have f:=iT hq;have i:=iT hb;have j:=(Zb hT hp).2.1;unfold yL put
 by_cases e:a=p
 . subst e;rw[zyJ<|by rw[hT.1];exact d];show v7 ((NP T a).set q.toNat c) b=_;unfold v7
   by_cases g:b=q
   . subst g;rw[zyJ (by rw[j];exact f),if_pos ⟨rfl,rfl⟩];rfl
   . rw[zzX (λz=>g<|by have:=hb.1;have:=hq.1;omega),if_neg λz=>g z.2]
 . rw[zzX (λz=>e<|by have:=ha.1;have:=hp.1;omega),if_neg λz=>e z.1]
def Ms{v K n L:Nat}{S:TZ->Option O->Option O->AS}{g w:Int->Int}(hp:zJ K p)(hg:∀b,zJ L b->zJ n (g b))(gi:∀b b',zJ L b->zJ L b'->g b=g b'->b=b')(hw:∀b,zJ L b->zJ n (w b))
 (h1:∀T d x y,gN v (true,d) (S T x y)=some (S T (sT d) y)) (h2:∀T b y,Tab K n T->zJ L b->∃y',f (S T (sI b) y)=some (.nx<|S (put T p (g b)<|w b) (sI b) y')) (hT:Tab K n T0):
 ∃T' x y,forL (gN v) f (yJ 0 L) (S T0 x0 y0)=some (.nx<|S T' x y)/\Tab K n T'/\(∀b,zJ L b->yL T' p (g b)=w b)/\(∀a b,zJ K a->zJ n b->a≠p->yL T' a b=yL T0 a b):=by
 obtain⟨r,s,t,x,y,rfl,k,m,o⟩:=yV
  (λi as=>∃(T:TZ) (x y:Option O),as=S T x y/\Tab K n T/\(∀b,zJ L b->b<i->yL T p (g b)=w b)/\(∀a b,zJ K a->zJ n b->a≠p->yL T a b=yL T0 a b))
  (yJ 0 L) 0 _ (λi y as u A=>by
   obtain⟨T,x,z,rfl,k,m,o⟩:=A;obtain⟨rfl,C⟩:=yD u;have j:zJ L (0+i):=⟨by omega,by omega⟩;obtain⟨D,h⟩:=h2 T (0+i) z k j;refine⟨_,h1 _ _ _ _,_,h,_,_,_,rfl,Sm k hp<|hw _ j,λb c B=>?_,λa b q c l=>?_⟩
   . rw[LO k hp (hg _ j) hp<|hg _ c]
     by_cases e:g b=g (0+i)
     . have:=gi _ _ c j e;subst this;rw[if_pos ⟨rfl,rfl⟩]
     . rw[if_neg λz=>e z.2];refine m b c ?_;have:b≠0+i:=λz=>e (by rw[z]);omega
   . rw[LO k hp (hg _ j) q c,if_neg λz=>l z.1];exact o a b q c l)
  ⟨T0,x0,y0,rfl,hT,λb j h=>absurd h (by have:=j.1;omega),λ_ _ _ _ _=>rfl⟩
 rw[ym]at m;exact⟨t,x,y,s,k,λb j=>m b j (by have:=j.2;omega),o⟩
def LU{v K n L M:Nat}{S:TZ->Option O->Option O->Option O->AS}{f g:Int->Int}{w:Int->Int->Int}(hf':∀a,zJ M a->zJ K (f a))(fi:∀a a',zJ M a->zJ M a'->f a=f a'->a=a')(hg:∀b,zJ L b->zJ n (g b))
 (h1:∀T d x y z,gN v (true,d) (S T x y z)=some (S T (sT d) y z)) (h2:∀T a y z,Tab K n T->zJ M a->∃T' y' z',F (S T (sI a) y z)=some (.nx<|S T' (sI a) y' z')/\Tab K n T'/\(∀b,zJ L b->yL T' (f a) (g b)=w a b)/\(∀a' b,zJ K a'->zJ n b->a'≠f a->yL T' a' b=yL T a' b)) (hT:Tab K n T0):
 ∃T' x y z,forL (gN v) F (yJ 0 M) (S T0 x0 y0 z0)=some (.nx<|S T' x y z)/\Tab K n T'/\∀a b,zJ M a->zJ L b->yL T' (f a) (g b)=w a b:=by
 obtain⟨p,q,o,x,y,z,rfl,m,l⟩:=yV
  (λi as=>∃(T:TZ) (x y z:Option O),as=S T x y z/\Tab K n T/\∀a b,zJ M a->a<i->zJ L b->yL T (f a) (g b)=w a b)
  (yJ 0 M) 0 _ (λi y as r s=>by
   obtain⟨T,x,y,z,rfl,m,l⟩:=s;obtain⟨rfl,C⟩:=yD r;have c:zJ M (0+i):=⟨by omega,by omega⟩;obtain⟨o,D,E,h,t,u,A⟩:=h2 T (0+i) y z m c;refine⟨_,h1 _ _ _ _ _,_,h,_,_,_,_,rfl,t,λa b j B k=>?_⟩
   by_cases e:a=0+i
   . subst e;exact u b k
   . rw[A (f a) (g b) (hf' a j) (hg b k) λz=>e<|fi _ _ j c z];exact l a b j (by omega) k)
  ⟨T0,x0,y0,z0,rfl,hT,λa b c h=>absurd h<|by have:=c.1;omega⟩
 rw[ym]at l;exact⟨o,x,y,z,q,m,λa b c k=>l a b c (by have:=c.2;omega) k⟩
def ER{i:Nat}{n:Nat}(h:as[i]? = some (some<|.lf s<|zi r))(hf:f as=some k)(hr:Row n r)(hk:zJ n k):GQ i f as=some (v7 r k):=by
 have e:=(rowAt hr hk).1;unfold GQ;rw[hf];show(if 0<=k then(XA UO as i).bind λd=>(Sk d).bind λb=>b[k.toNat]?.bind P3 else none)=_;rw[if_pos hk.1];have c:XA UO as i=some (zi r):=by unfold XA;rw[h];rfl
 rw[c];show(_[k.toNat]?).bind P3=_;have a:=iT hk;rw[zzI,zzE (by rw[hr.1];exact a),Zz<|by rw[hr.1];exact a];rfl
def Lp{i k n:Nat}{f1 f2 fv}(hT:Tab k n T)(hp:zJ k p)(hq:zJ n q)(h1:f1 as=some p)(h2:f2 as=some q)(hv:fv as=some c)(hi:as[i]? = some (some<|wM T)):X3 i f1 f2 fv as=some (.nx<|as.set i<|some<|wM<|put T p q c):=by
 have b:=iT hp;have a:=iT hq;refine NO h1 h2 hv hp.1 hq.1 hi ?_ (by rw[(Zb hT hp).2.1];exact a);unfold NP;rw[zzE<|by rw[hT.1];exact b];rfl
theorem Ga:∀(ds:List D),(∀d,∃as1,gN 0 (true,d) as0=some as1)->xg (gN 0) yB (fC<|.int 0) as0 (ds.map λd=>(true,d))=some ((List.replicate ds.length (0:Int)).map xO)
 | [],_=>rfl
 |d::r,H=>by
  obtain⟨a,b⟩:=H d;exact Mh b zb<|Ga r H
theorem GC:∀(xs:List ZV),(∀y ∈ xs,∃as1,g y as0=some as1/\fe as1=some (.ow<|Vm r,as1))->xg g yB fe as0 xs=some ((List.replicate xs.length r).map Vm)
 | [],_=>rfl
 |y::a,H=>by
  obtain⟨b,c,d⟩:=H y<|zzF ..;exact QY c d (Yu r).1<|GC a λz m=>H z<|zzD _ m
def GA{k n:Nat}(hn:1<=n):Tab k n (List.replicate k<|List.replicate n (0:Int)):=
 ⟨List.length_replicate ..,λr m=>by rw[List.eq_of_mem_replicate m];exact⟨List.length_replicate ..,λx m=>by rw[List.eq_of_mem_replicate m];omega⟩⟩
section
variable{α:Type}{kf:α->Str}{vf:α->D}
theorem U5:∀l:List α,W8 (l.map λp=>.tup [.str<|kf p,vf p])=some (l.map λp=>(.inr<|kf p,vf p))
 | []=>rfl
 |p::l=>by
  show(W8 _).bind _=_;rw[U5 l];rfl
theorem LA:∀{l:List α},p ∈ l->(l.map kf).Nodup->WZ (l.map λp=>(.inr<|kf p,vf p)) (.inr<|kf p)=some (vf p)
 | [],h,_=>nomatch h
 |q::l,h,nd=>by
  have a:=zzW.mp<|nd
  rcases zzC.mp h with rfl|h
  . unfold WZ;simp
  . have e:kf q≠kf p:=λe=>a.1<|e ▸ List.mem_map_of_mem h;have b:=LA h a.2;unfold WZ at b ⊢;rw[zyR,List.find?_cons_of_neg<|by simp[e]];exact b
theorem Fz:∀(kvs:List (Key×D)),(kvs.map (·.1)).zip (kvs.map (·.2))=kvs
 | []=>rfl
 |p::r=>congrArg (p :: ·)<|Fz r
def DM{l:List α}(nd:(l.map kf).Nodup)(h:WE a as (.lst<|l.map λp=>.tup [.str<|kf p,vf p])):WE (fP (aC a aN) TU) as (.dct<|l.map λp=>(.inr<|kf p,vf p)):=by
 have c:TU [.lst<|l.map λp=>.tup [.str<|kf p,vf p]]=some (.fd<|l.map λp=>(.inr<|kf p,vf p)):=by
  show(W8 _).bind _=_;rw[U5];refine if_pos ?_;rw[zyA];exact List.pairwise_map.mpr<|(List.pairwise_map.mp nd).imp λh e=>h<|Sum.inr.inj e
 have k:=Jd (Z2 h<|zA) c;rw[show([(true,D.lst _)].all (·.1))=true from rfl,ZF]at k;generalize _=b at k;refine⟨_,k,vB _, ?_⟩;show D.dct _=_;rw[Um,Fz]
end
end PF
end
section
namespace G63
open PySem PySem.Spec PyProof.Rows L2 PF
abbrev zE:EF:=fV 1
abbrev zP:EF:=fC<|.int 0
abbrev zl:EF:=fV 0
abbrev ye:EF:=fC<|.int 2
abbrev zH:EF:=fC<|.int 1
abbrev zW:EF:=fV 2
abbrev wU:EF:=fC<|.int 4
abbrev G4:GF:=gN 4
abbrev yh:EF:=fV 4
abbrev yf:EF:=fV 3
abbrev yI:GF:=gN 0
abbrev zq:=Yc .Add
abbrev yo:EF:=fV 5
abbrev Qh:EF:=fC<|.int 5
abbrev y7:EF:=fV 6
abbrev Z4:EF:=fV 7
abbrev UJ:EF:=fV 11
abbrev zg:=Yc .Mod
abbrev zQ:=Yc .Mult
abbrev Ua:EF:=fC<|.int 8
abbrev zc:=Yc .FloorDiv
abbrev Z5:EF:=fC<|.int 3
abbrev VC:=Yc .Sub
abbrev QK:AF:=aC (fV 3) aN
abbrev Vl:AF:=aC (fV 0) aN
abbrev XE:AF:=aC (fV 1) aN
abbrev Xr:AF:=aC (fV 2) aN
abbrev JR:AF:=aC (fV 5) aN
abbrev By:AF:=aC (fV 7) aN
abbrev ZY:List Str:=["algebra","join","nothing","a"]
def Ze:FnScope ZY ["algebra"] (zj xC):=WS
def ZT:SF:=
 (zf (zm true 1<|f2 zl ye zo)
  (zf (zm true 2<|f2 zl Z5 zo)
  (zf (yw (yk (aC (f2 zl zP zo) aN) yn) (gN 3)<|wJ (Vn (fT<|f2 (f2 (f2 zE zW zo) yf zo) yf<|zr .NotEq)<|fT<|f2 (f2 (f2 zE yf zo) zW zo) yf<|zr .NotEq) (zX<|yb<|dC (fC<|.str "nothing")<|dC yf dN) vS)
  (zX<|fC .non))))
def wL:Fn:=Yr 4 1 ZT
abbrev Z1:List Str:=["algebra","n","join","a","b","c"]
def Zd:FnScope Z1 ["algebra"] (zj xF):=WS
def ZO:SF:=
 (zf (zm true 1<|f2 zl zP zo)
  (zf (zm true 2<|f2 zl ye zo)
  (zf (yw (yk XE yn) (gN 3)<|yw (yk XE yn) G4<|yw (yk XE yn) (gN 5)<|wJ (fT<|f2 (f2 (f2 zW (f2 (f2 zW yf zo) yh zo) zo) yo zo) (f2 (f2 zW yf zo) (f2 (f2 zW yh zo) yo zo) zo)<|zr .NotEq) (zX<|yb<|dC (fC<|.str "parting")<|dC yf<|dC yh<|dC yo dN) vS)
  (zX<|fC .non))))
def wK:Fn:=Yr 6 1 ZO
abbrev Y8:List Str:=["algebra","name","rows","n","m","join","a","i","b","j"]
def YE:FnScope Y8 ["algebra","name","rows"] (zj wg):=WS
def Xc:SF:=
 (zf (zm true 3<|f2 zl zP zo)
  (zf (zm true 4<|f2 zl zH zo)
  (zf (zm true 5<|f2 zl ye zo)
  (zf (yw (yk QK yn) (gN 6)<|yw (yk (aC yh aN) yn) (gN 7)<|yw (yk QK yn) (gN 8)<|yw (yk (aC yh aN) yn) (gN 9)<|wJ (fT<|f2 (f2 (f2 zW (f2 (f2 Z4 (fV 9) zq) yh zg) zo) (f2 (f2 yo y7 zo) (fV 8) zo) zo) (f2 (f2 yo (f2 (f2 zW Z4 zo) y7 zo) zo) (f2 (f2 zW (fV 9) zo) (fV 8) zo) zo)<|zr .NotEq) (zX<|yb<|dC (fC<|.str "doing")<|dC zE<|dC y7<|dC Z4<|dC (fV 8)<|dC (fV 9) dN) vS)
  (zX<|fC .non)))))
def wu:Fn:=Yr 10 3 Xc
abbrev Wd:List Str:=["algebra","nothing","name","rows","fault"]
def Xk:FnScope Wd ["algebra"] (zj wV):=WS
def X0:SF:=
 (zf (zm true 1<|f2 zl Z5 zo)
  (zf (yw (Qk<|f2 zl wU zo) (gT 2<|yT (gN 2)<|yT (gN 3) YS)<|zf (wJ (fT<|f2 (f2 (f2 yf zP zo) zE zo) zE<|zr .NotEq) (zX<|yb<|dC (fC<|.str "empty")<|dC zW dN) vS)
  (zf (zm true 4<|zp (aC zl<|aC zW QK) wu)
  (wJ (fT<|f2 yh (fC .non)<|zr .IsNot) (zX yh) vS)))
  (zX<|fC .non)))
def ZD:Fn:=Yr 5 1 X0
abbrev Wk:List Str:=["algebra","fault"]
def Y2:FnScope Wk ["algebra"] (zj w_):=WS
def X6:SF:=
 (zf (zm true 1<|zp Vl wL)
  (zf (wJ (fT<|f2 zE (fC .non)<|zr .Is) (zm true 1<|zp Vl wK) vS)
  (zf (wJ (fT<|f2 zE (fC .non)<|zr .Is) (zm true 1<|zp Vl ZD) vS)
  (zX zE))))
def Zp:Fn:=Yr 2 1 X6
abbrev Ym:List Str:=["algebra","fault"]
def ZZ:FnScope Ym ["algebra"] (zj xW):=WS
def vp:SF:=
 (zf (zm true 1<|zp Vl Zp)
  (wJ (fT<|f2 zE (fC .non)<|zr .IsNot) DT vS))
def xj:Fn:=Yr 2 1 vp
abbrev Gz:List Str:=["algebra","entries","p","q","one","other"]
def Rk:FnScope Gz ["algebra","entries","p","q"] (zj WC):=WS
def Gp:SF:=
 (zf (zm true 4<|f2 zE zW zo)
  (zf (zm true 5<|f2 zE yf zo)
  (zX<|yb<|dC (f2 (f2 (f2 zl ye zo) (f2 yh zP zo) zo) (f2 yo zP zo) zo)<|dC (f2 (f2 (f2 yh zH zo) (f2 yo zH zo) zq) (f2 zl zH zo) zg)<|dC (yb<|dC (fC<|.str "two")<|dC zW<|dC yf dN) dN)))
def Zg:Fn:=Yr 6 4 Gp
abbrev V_:List Str:=["algebra","entries","at","value","c","found","p"]
def X_:FnScope V_ ["algebra","entries","at"] (zj vG):=WS
def Qg:SF:=
 (zf (zm true 3<|f2 (f2 zE zW zo) zP zo)
  (zf (zm true 4<|f2 (f2 zE zW zo) zH zo)
  (zf (zm false 5<|zN (xX<|f2 zl wU zo) [none,none,some 4,some 3,some 2] (gT 2<|yT yI<|yT (gN 1) YS) yB<|yb<|dC (f2 (f2 zE zW zo) yf zo)<|dC zW<|dC (yb<|dC (fC<|.str "deed")<|dC zl<|dC yh dN) dN)
  (zf (yw (yk (aC (f2 zW zH zq) aN) yn) (gN 6)<|yy<|xo 5 (dC (yR<|dC (zp (aC zl<|aC zE<|aC y7 Xr) Zg)<|dC (zp (aC zl<|aC zE<|aC zW<|aC y7 aN) Zg) dN) dN) NU)
  (zX yo)))))
def wD:Fn:=Yr 7 3 Qg
abbrev QO:List Str:=["entries","known","found","entry","pair"]
def Yk:FnScope QO ["entries","known","found"] (zj ZC):=WS
def XF:SF:=
 (yw (Qk zW) (gN 3)<|zf (zm true 4<|yb<|dC (f2 yf zP zo)<|dC (f2 yf zH zo) dN)
  (wJ (fT<|f2 yh zE<|zr .NotIn) (zf (Gf 1 yh<|fC<|.bl true)
  (yy<|xo 0 (dC yf dN) xQ)) vS))
def yu:O->O->ZV->Option (O×O):=gM 5 XF
abbrev Uz:List Str:=["algebra","row","entries","known","at"]
def vh:FnScope Uz ["algebra","row"] (zj Yx):=WS
def GE:(["value","algebra"]:List Str).Nodup:=by decide +kernel
def TM:SF:=
 (zf (yy<|zp Vl xj)
  (zf (zm false 2<|yR dN)
  (zf (zm false 3 Cy)
  (zf (Xp 2 3 (yR<|dC (yb<|dC (f2 zl Z5 zo)<|dC zP<|dC (yb<|dC (fC<|.str "none") dN) dN) dN) yu)
  (zf (Xp 2 3 (zN (xX zE) [none,some 0] yI yB<|yb<|dC zl<|dC (f2 zH (f2 zE zH zo) zg)<|dC (yb<|dC (fC<|.str "one")<|dC zl dN) dN) yu)
  (zf (zm true 4 zP)
  (zf (LX (fT<|f2 yh (fP Xr Z3)<|zr .Lt) (zf (Xp 2 3 (zp (aC zl<|aC zW<|aC yh aN) wD) yu)
  (Mr 4 1)) 10000)
  (zX zW))))))))
def WK:Fn:=Yr 5 2 TM
abbrev Ld:List Str:=["algebra","row","name","entries","values","at","entry"]
def Yi:FnScope Ld ["algebra","row","name"] (zj Qy):=WS
def Nd:SF:=
 (zf (zm false 3<|zp (aC zl XE) WK)
  (zf (zm true 4<|f2 (fP (aC (f2 zl Qh zo) aN) TU) zW zo)
  (zf (Jm 3 (gT 2<|yT (gN 5)<|yT (gN 6) YS) (fT<|f2 (f2 y7 zP zo) yh<|zr .In)<|zX<|yb<|dC (fC<|.str "comes")<|dC (FY 3)<|dC yo dN)
  (zX<|yb<|dC (fC<|.str "never")<|dC (FY 3) dN))))
def wb:Fn:=Yr 7 3 Nd
abbrev Xl:List Str:=["_law_script","_law_k"]
def Yw:FnScope Xl ["_law_script","_law_k"] (zj wo):=WS
def Xo:SF:=
 (zf (wJ (fT<|f2 zE (fP Vl Z3)<|zr .Lt) (zX<|f2 zl zE zo) vS)
  (zX zP))
def zV:Fn:=Yr 2 2 Xo
abbrev VV:List Str:=["_law_cell","_law_k","_law_number"]
def Wt:FnScope VV ["_law_cell","_law_k"] (zj vM):=WS
def Qc:SF:=
 (zf (zm true 2<|f2 (f2 (f2 (f2 (f2 zl (fC<|.int 2147483647) zg) (fC<|.int 48271) zQ) (f2 (f2 zE zE zQ) (fC<|.int 69621) zQ) zq) (fC<|.int 7919) zq) (fC<|.int 2147483647) zg)
  (zX<|f2 (f2 (f2 (f2 zW zW zQ) (f2 (fC<|.int 16807) zW zQ) zq) zE zq) (fC<|.int 2147483629) zg))
def xh:Fn:=Yr 3 2 Qc
abbrev VW:List Str:=["_law_found"]
def Wj:FnScope VW ["_law_found"] (zj vR):=WS
def VG:SF:=
 (zX<|QP (UX zl "int")<|BQ<|UX zl "bool")
def yW:Fn:=Yr 1 1 VG
abbrev Qe:List Str:=["_law_cell","_law_many","_law_letters","_law_size","_law_at","_law_words_here","_law_k","_law_some"]
def WL:FnScope Qe ["_law_cell","_law_many"] (zj vN):=WS
def VQ:SF:=
 (zf (zm true 2<|fC<|.str "abcdefghijklmnopqrstuvwxyz")
  (zf (zm true 3<|f2 zH (f2 zl Ua zg) zq)
  (zf (zm true 4<|f2 (f2 zl Ua zc) yf zg)
  (zf (zm false 5<|yR dN)
  (zf (yw (yk XE yn) (gN 6)<|zf (zm true 7<|zN (yk QK yn) [none,some 2,some 6,some 0,some 4] yI yB<|f2 zE (f2 (f2 (f2 (zp (aC yf Vl) xh) (fC<|.int 64) zc) (f2 zW (fP (aC (f2 zl yh<|zr .Eq) aN) x6) zQ) zq) (fC<|.int 26) zg) zo)
  (yy<|xo 5 (dC (U9 .str (fC<|.str "") By LG) dN) xQ))
  (zX yo))))))
def vU:Fn:=Yr 8 2 VQ
abbrev Wc:List Str:=["_law_n","_law_m"]
def Y7:FnScope Wc ["_law_n","_law_m"] (zj wZ):=WS
def Wz:SF:=
 (zf (LX (fT<|f2 zE zP<|zr .Gt) (FU 0 1<|dC zE<|dC (f2 zl zE zg) dN) 10000)
  (zX zl))
def vd:Fn:=Yr 2 2 Wz
abbrev ZX:List Str:=["_law_kind","_law_n","_law_a","_law_b","_law_images_here"]
def Zl:FnScope ZX ["_law_kind","_law_n","_law_a","_law_b"] (zj xD):=WS
def ZM:SF:=
 (zf (wJ (fT<|f2 zl zP<|zr .Eq) (zX<|f2 (f2 zW yf zq) zE zg) vS)
  (zf (wJ (fT<|f2 zl zH<|zr .Eq) (zX<|fP (aC zW QK) Ju) vS)
  (zf (wJ (fT<|f2 zl ye<|zr .Eq) (zX<|f2 (yR<|dC yf<|dC zW dN) (fP (aC (f2 yf zP<|zr .Eq) aN) x6) zo) vS)
  (zf (zm true 4<|yR<|dC (f2 yf ye zc)<|dC (f2 yf ye zg) dN)
  (zX<|f2 (f2 ye (f2 yh (f2 zW ye zc) zo) zQ) (f2 yh (f2 zW ye zg) zo) zq)))))
def yg:Fn:=Yr 5 4 ZM
abbrev WB:List Str:=["_law_kind","_law_n","_law_x","_law_some","_law_k"]
def Y0:FnScope WB ["_law_kind","_law_n","_law_x"] (zj wY):=WS
def WQ:SF:=
 (zf (wJ (fT<|f2 zl Z5<|zr .Eq) (zX<|zN (yk XE yn) [none,some 2] yI yB<|f2 (yR<|dC zl<|dC (f2 (f2 (f2 ye (f2 zH (f2 zl ye zg) VC) zQ) zH zq) (f2 zl ye zc) VC) dN) (f2 zE ye zg) zo) vS)
  (zf (zm false 3<|yR dN)
  (zf (yw (yk (aC zH XE) OP) G4<|zf (zm true 2<|f2 zW zE zc)
  (yy<|xo 3 (dC (f2 (yR<|dC (f2 zW zE zg)<|dC (f2 zH (f2 zW (f2 zE zH VC) zg) zq) dN) (f2 zl zH VC) zo) dN) xQ))
  (zf (wJ (fT<|f2 zl zH<|zr .Eq) (zm false 3<|fP QK FQ) vS)
  (zX<|f2 (yR<|dC zP dN) yf zq)))))
def Zs:Fn:=Yr 5 3 WQ
abbrev Xb:List Str:=["_law_kind","_law_n","_law_m","_law_x","_law_images_here","_law_step"]
def Yn:FnScope Xb ["_law_kind","_law_n","_law_m","_law_x"] (zj we):=WS
def Y9:SF:=
 (zf (wJ (fT<|f2 zl zP<|zr .Gt) (zf (zm true 4<|zp (aC zl<|aC zE QK) Zs)
  (zX<|zN (yk Xr yn) [none,some 4] yI yB<|fP XE lstP)) vS)
  (zf (zm true 5<|f2 (f2 zE (zp (aC zE Xr) vd) zc) (f2 (f2 yf Ua zc) Ua zg) zQ)
  (zX<|zN (yk Xr yn) [none,some 1,some 5,some 3] yI yB<|zN (yk XE yn) [none,some 1,some 2,some 0,some 3] yI yB<|f2 (f2 (f2 (f2 yh Ua zg) zl zQ) (f2 zW yf zQ) zq) zE zg)))
def xa:Fn:=Yr 6 4 Y9
abbrev VX:List Str:=["_law_x","_law_first","_law_size","_law_other"]
def WJ:FnScope VX ["_law_x"] (zj vZ):=WS
def VT:SF:=
 (zf (zm true 1<|f2 zl wU zg)
  (zf (zm true 2<|f2 (yR<|dC (f2 zH (f2 (f2 zl wU zc) Qh zg) zq)<|dC (f2 zH (f2 (f2 zl wU zc) Ua zg) zq) dN) (fP (aC (f2 (f2 (f2 zl (fC<|.int 40) zc) wU zg) zH<|zr .Eq) aN) x6) zo)
  (zf (wJ (fT<|f2 zE Z5<|zr .Eq) (zm true 2 wU) vS)
  (zf (zm true 3<|f2 zH (f2 (f2 zl (fC<|.int 160) zc) Z5 zg) zq)
  (zf (wJ (fT<|f2 (f2 zW yf zQ) Ua<|zr .Gt) (zm true 3 zH) vS)
  (zX<|yb<|dC zE<|dC zW<|dC (f2 (f2 zl (fC<|.int 480) zc) Z5 zg)<|dC yf dN))))))
def vP:Fn:=Yr 4 1 VT
abbrev X4:List Str:=["_law_cell","_law_many","_law_found","_law_rest","_law_k"]
def Y1:FnScope X4 ["_law_cell","_law_many"] (zj wX):=WS
def Wa:SF:=
 (zf (zm false 2<|yR dN)
  (zf (zm true 3<|f2 zl ye zc)
  (zf (yw (yk XE yn) G4<|wJ (fT<|f2 (f2 zl ye zg) zP<|zr .Eq) (zf (yy<|xo 2 (dC (f2 yf (fC<|.int 1000000007) zg) dN) xQ)
  (zm true 3<|f2 yf (fC<|.int 1000000007) zc))<|yy<|xo 2 (dC (zp (aC yf<|aC yh aN) xh) dN) xQ)
  (zX zW))))
def yX:Fn:=Yr 5 2 Wa
abbrev xy:List Str:=["_law_cell","_law_head","_law_many","_law_xs","_law_ys","_law_kind","_law_n","_law_more","_law_times","_law_m","_law_size","_law_left","_law_order","_law_k","_law_join","_law_a","_law_b","_law_there","_law_names","_law_deeds","_law_rows","_law_beside","_law_made","_law_c","_law_signs","_law_bits","_law_held","_law_nothing"]
def zd:FnScope xy ["_law_cell","_law_head","_law_many"] (zj yG):=WS
def Vg:(["_law_a","_law_order"]:List Str).Nodup:=by decide +kernel
def Vb:(["_law_b"]:List Str).Nodup:=by decide +kernel
def W3:(["_law_c","_law_order"]:List Str).Nodup:=by decide +kernel
def W5:(["_law_a"]:List Str).Nodup:=by decide +kernel
def W0:(["_law_a","_law_bits"]:List Str).Nodup:=by decide +kernel
def v5:SF:=
 (zf (zm true 3<|zp (aC zl<|aC (f2 zH (f2 ye zW zQ) zq) aN) yX)
  (zf (zm true 4<|zp (aC zE<|aC (fC<|.int 13) aN) yX)
  (zf (W6 (zp (aC (f2 yf zP zo) aN) vP)<|gT 4<|yT (gN 5)<|yT (gN 6)<|yT (gN 7)<|yT (gN 8) YS)
  (zf (zm true 9<|f2 (f2 zH (f2 (f2 yh zP zo) wU zg) zq) (f2 ye (fP (aC (f2 (f2 (f2 (f2 yh zP zo) wU zc) Ua zg) Qh<|zr .Eq) aN) x6) zQ) zq)
  (zf (zm true 10<|f2 y7 (fV 8) zQ)
  (zf (zm false 11<|fP (aC (fV 10) aN) J3)
  (zf (zm false 12<|yR dN)
  (zf (yw (yk (aC (fV 10) aN) yn) (gN 13)<|yy<|xo 12 (dC (xo 11 (dC (f2 (f2 yh (f2 zH (fV 13) zq) zo) (fP (aC UJ aN) Z3) zg) dN) YD) dN) xQ)
  (PM 12<|zf (zm false 14<|zN (xX<|fV 12) [none,some 12] yI yB<|zN (xX zE) [none] yI yB zP)
  (zf (yw (yk (aC (fV 10) aN) yn) (gN 15)<|yw (yk (aC (fV 10) aN) yn) (gN 16)<|zf (zm true 17<|f2 (zp (aC yo<|aC y7<|aC (f2 (fV 15) (fV 8) zc)<|aC (f2 (fV 16) (fV 8) zc) aN) yg) (fV 8) zQ)
  (zf (zm true 17<|f2 (fV 17) (zp (aC Z4<|aC (fV 8)<|aC (f2 (fV 15) (fV 8) zg)<|aC (f2 (fV 16) (fV 8) zg) aN) yg) zq)
  (X3 14 (GQ 12<|xV 15) (GQ 12<|xV 16)<|GQ 12<|xV 17)))
  (zf (zm true 18<|zp (aC (f2 zE (fC<|.int 7) zc)<|aC (fC<|.int 10) aN) vU)
  (zf (zm false 19<|yR dN)
  (zf (yw (yk Xr yn) (gN 13)<|zf (zm true 20<|zp (aC yo<|aC y7<|aC (fV 9)<|aC (f2 yf (f2 zH (f2 ye (fV 13) zQ) zq) zo) aN) xa)
  (zf (zm true 21<|zp (aC Z4<|aC (fV 8)<|aC (fV 9)<|aC (f2 yf (f2 ye (f2 ye (fV 13) zQ) zq) zo) aN) xa)
  (zf (zm false 22<|zN (yk (aC (fV 9) aN) yn) [none,some 12] yI yB<|zN (xX zE) [none] yI yB zP)
  (zf (yw (yk (aC (fV 9) aN) yn) (gN 23)<|yw (yk (aC (fV 10) aN) yn) (gN 15)<|zf (zm true 17<|f2 (f2 (fV 20) (fV 23) zo) (f2 (fV 15) (fV 8) zc) zo)
  (zf (zm true 17<|f2 (f2 (fV 17) (fV 8) zQ) (f2 (f2 (fV 21) (fV 23) zo) (f2 (fV 15) (fV 8) zg) zo) zq)
  (X3 22 (xV 23) (GQ 12<|xV 15)<|GQ 12<|xV 17)))
  (yy<|xo 19 (dC (yb<|dC (f2 (fV 18) (fV 13) zo)<|dC (fV 22) dN) dN) xQ)))))
  (zf (zm false 24<|yR dN)
  (zf (yw (yk (aC Z5 aN) yn) (gN 13)<|zf (zm true 25<|f2 yh (f2 (fC<|.int 9) (fV 13) zq) zo)
  (zf (zm true 26<|zN (yk (aC (fV 10) aN) yn) [none,some 25] yI (fT<|f2 (f2 (f2 zE (f2 zH zl Th) zc) ye zg) zH<|zr .Eq) zl)
  (yy<|xo 24 (dC (yb<|dC (f2 (fV 18) (f2 (fV 13) (f2 wU (f2 (f2 (fV 25) (fC<|.int 512) zc) ye zg) zQ) zq) zo)<|dC (fV 26) dN) dN) xQ)))
  (zf (zm true 27<|f2 (fV 12) (f2 (yR<|dC zP<|dC (fV 8) dN) (fP (aC (f2 yo Z5<|zr .Eq) aN) x6) zo) zo)
  (zX<|yb<|dC (fV 10)<|dC (fV 9)<|dC (fV 14)<|dC (fV 27)<|dC (fV 19)<|dC (GR (fV 24) oN (oS<|f2 (f2 yh (fC<|.int 12) zo) wU zg) LH) dN)))))))))))))))))
def wz:Fn:=Yr 28 3 v5
abbrev Ub:List Str:=["_law_algebra_here","_law_n","_law_m","_law_join","_law_nothing","_law_deeds","_law_signs","_law_rows","_law_held"]
def V0:FnScope Ub ["_law_algebra_here"] (zj Zw):=WS
def QW:SF:=
 (zf (W6 zl<|gT 6<|yT (gN 1)<|yT (gN 2)<|yT (gN 3)<|yT G4<|yT (gN 5)<|yT (gN 6) YS)
  (zf (zm true 7<|zN (xX yo) [none,none] (gT 2<|yT yI<|yT (gN 1) YS) yB<|yb<|dC zl<|dC (zN (xX zE) [none] yI yB<|fP Vl lstP) dN)
  (zf (zm true 8<|zN (xX y7) [none,none] (gT 2<|yT yI<|yT (gN 1) YS) yB<|yb<|dC zl<|dC (fP XE lstP) dN)
  (zX<|yb<|dC zE<|dC zW<|dC (zN (xX yf) [none] yI yB<|fP Vl lstP)<|dC yh<|dC Z4<|dC (fV 8) dN))))
def XO:Fn:=Yr 9 1 QW
abbrev X9:List Str:=["_law_script","_law_start","_law_most","_law_size","_law_number","_law_row","_law_k"]
def Y_:FnScope X9 ["_law_script","_law_start","_law_most","_law_size","_law_number"] (zj wW):=WS
def XY:SF:=
 (zf (zm false 5<|yR dN)
  (zf (yw (yk (aC (f2 yh (f2 zW zH zq) zg) aN) yn) (gN 6)<|yy<|xo 5 (dC (f2 (zp (aC (zp (aC zl<|aC (f2 zE y7 zq) aN) zV)<|aC (f2 y7 (fC<|.int 80) zq) aN) xh) yf zg) dN) xQ)
  (zX yo)))
def Zt:Fn:=Yr 7 5 XY
abbrev Rc:List Str:=["_law_algebra_here","_law_row","_law_n","_law_m","_law_join","_law_nothing","_law_deeds","_law_signs","_law_known","_law_at","_law_value","_law_count","_law_more","_law_other","_law_many","_law_pair"]
def Ul:FnScope Rc ["_law_algebra_here","_law_row"] (zj YN):=WS
def Rg:SF:=
 (zf (W6 zl<|gT 6<|yT (gN 2)<|yT (gN 3)<|yT G4<|yT (gN 5)<|yT (gN 6)<|yT (gN 7) YS)
  (zf (zm false 8<|f2 (yR<|dC (yb<|dC yo<|dC zP dN) dN) (zN (xX<|fP XE J_) [none,some 3,some 5] yI (fT<|f2 (yb<|dC zl<|dC (f2 zH zE zg) dN) (yb<|dC zW<|dC zP dN)<|zr .NotEq)<|yb<|dC zl<|dC (f2 zH zE zg) dN) zq)
  (zf (zm true 9 zP)
  (zf (LX (fT<|f2 (fV 9) (fP (aC (fV 8) aN) Z3)<|zr .Lt) (zf (W6 (f2 (fV 8) (fV 9) zo)<|gT 2<|yT (gN 10)<|yT (gN 11) YS)
  (zf (zm true 12<|zN (xX y7) [none,none,some 11,some 10] (gT 2<|yT yI<|yT (gN 1) YS) yB<|yb<|dC (f2 (f2 zE zW zo) yf zo)<|dC zW dN)
  (zf (yw (Qk<|GR (fV 8) oN (oS<|f2 (fV 9) zH zq) LH) (gT 2<|yT (gN 13)<|yT (gN 14) YS)<|zm true 12<|f2 (fV 12) (yR<|dC (yb<|dC (f2 (f2 yh (fV 10) zo) (fV 13) zo)<|dC (f2 (f2 UJ (fV 14) zq) yf zg) dN)<|dC (yb<|dC (f2 (f2 yh (fV 13) zo) (fV 10) zo)<|dC (f2 (f2 UJ (fV 14) zq) yf zg) dN) dN) zq)
  (zf (yw (Qk<|fV 12) (gN 15)<|wJ (fT<|f2 (fV 15) (fV 8)<|zr .NotIn) (yy<|xo 8 (dC (fV 15) dN) xQ) vS)
  (zm true 9<|f2 (fV 9) zH zq))))) 10000)
  (zX<|fV 8)))))
def YK:Fn:=Yr 16 2 Rg
abbrev V2:List Str:=["_law_how","_law_at"]
def Pb:FnScope V2 ["_law_how","_law_at"] (zj vI):=WS
def V3:SF:=
 (zf (wJ (fT<|f2 (f2 zl zP zo) (fC<|.str "deed")<|zr .Eq) (zX<|QP (zp (aC (f2 zl ye zo) aN) yW)<|x_ zP (f2 zl ye zo) zE (zr .LtE)<|zr .Lt) vS)
  (zf (wJ (fT<|f2 (f2 zl zP zo) (fC<|.str "two")<|zr .Eq) (zX<|QP (zp (aC (f2 zl zH zo) aN) yW)<|QP (zp (aC (f2 zl ye zo) aN) yW)<|QP (x_ zP (f2 zl zH zo) zE (zr .LtE)<|zr .Lt)<|x_ zP (f2 zl ye zo) zE (zr .LtE)<|zr .Lt) vS)
  (zX<|f2 (f2 zl zP zo) (yb<|dC (fC<|.str "none")<|dC (fC<|.str "one") dN)<|zr .In)))
def xN:Fn:=Yr 2 2 V3
abbrev wH:List Str:=["_law_algebra_here","_law_row","_law_name","_law_values_here","_law_known","_law_found","_law_due","_law_at","_law_again"]
def xZ:FnScope wH ["_law_algebra_here","_law_row","_law_name","_law_values_here","_law_known"] (zj xk):=WS
def Q_:(["_law_pair","_law_values_here"]:List Str).Nodup:=by decide +kernel
def QI:(["_law_entry"]:List Str).Nodup:=by decide +kernel
def UA:(["_law_entry"]:List Str).Nodup:=by decide +kernel
def V4:SF:=
 (zf (zm false 5<|zp (aC zl<|aC zE Xr) wb)
  (zf (zm true 6<|f2 (zN (xX yh) [none,some 3] yI (fT<|f2 (f2 zl zP zo) zE<|zr .In) zl) (yR dN)<|zr .NotEq)
  (zf (wJ (Vn (vq<|fT<|vV 5<|UX yo "tuple")<|Vn (Zi 5<|fT<|f2 (fP JR Z3) (f2 ye (fP (aC y7 aN) x6) zq)<|zr .NotEq)<|Zi 5<|fT<|f2 (f2 yo zP zo) (f2 (yR<|dC (fC<|.str "never")<|dC (fC<|.str "comes") dN) (fP (aC y7 aN) x6) zo)<|zr .NotEq) (zX<|fC<|.bl false) vS)
  (zf (wJ (Vn (vq<|fT<|vV 5<|UX (f2 yo zH zo) "list")<|Zi 5<|fT<|f2 (fP (aC (zN (xX<|f2 yo zH zo) [none] yI yB<|GR zl oN (oS ye) LH) aN) ZH) (fP (aC yh aN) ZH)<|zr .NotEq) (zX<|fC<|.bl false) vS)
  (zf (yw (yk (aC (vV 5<|fP (aC (f2 yo zH zo) aN) Z3) aN) yn) (gN 7)<|wJ (vq<|fT<|vV 5<|zp (aC (f2 (f2 (f2 yo zH zo) Z4 zo) ye zo) By) xN) (zX<|fC<|.bl false) vS)
  (zf (wJ (VE (fT y7)<|Vn (vq<|fT<|vV 5<|zp (aC (f2 yo ye zo) aN) yW)<|vq<|Zi 5<|fT<|x_ zP (f2 yo ye zo) (fP (aC (f2 yo zH zo) aN) Z3) (zr .LtE)<|zr .Lt) (zX<|fC<|.bl false) vS)
  (zf (wJ (VE (fT y7)<|Zi 5<|fT<|f2 (f2 (f2 (f2 yo zH zo) (f2 yo ye zo) zo) zP zo) yf<|zr .NotIn) (zX<|fC<|.bl false) vS)
  (zf (Bo 5 1)
  (PM 5<|zf (zm true 8<|zp (aC zl<|aC zE Xr) wb)
  (zX<|QP (f2 (f2 (fV 8) zP zo) (f2 yo zP zo)<|zr .Eq)<|f2 (fP (aC (zN (xX<|f2 (fV 8) zH zo) [none] yI yB<|GR zl oN (oS ye) LH) aN) ZH) (fP (aC yh aN) ZH)<|zr .Eq))))))))))
def wB:Fn:=Yr 9 5 V4
abbrev Ef:List Str:=["_law_script","_law_algebra_here","_law_bits","_law_row","_law_handed","_law_kept","_law_known","_law_name","_law_values_here"]
def Zr:FnScope Ef ["_law_script"] (zj Gg):=WS
def Mo:(["_law_a","_law_bits"]:List Str).Nodup:=by decide +kernel
def S_:SF:=
 (zf (zm false 1<|zp (aC (zp (aC zl<|aC zP aN) zV)<|aC (zp (aC zl<|aC zH aN) zV)<|aC (f2 (zp (aC zl<|aC ye aN) zV) Qh zg) aN) wz)
  (zf (wJ (TL 1 5) (zf (zm true 2<|f2 (zp (aC zl<|aC (fC<|.int 9) aN) zV) (fC<|.int 256) zg)
  (BL 1 5<|dC (IQ<|yb<|dC (fC<|.str "sign")<|dC (zN (yk (aC (f2 zE zP zo) aN) yn) [none,some 2] yI (fT<|f2 (f2 (f2 zE (f2 zH zl Th) zc) ye zg) zH<|zr .Eq) zl) dN) dN)) vS)
  (PM 1<|zf (zm true 3<|zp (aC zl<|aC Z5<|aC Qh<|aC (f2 zE zP zo)<|aC (f2 (zp (aC zl<|aC ye aN) zV) Qh zc) aN) Zt)
  (zf (zm true 4<|zp XE XO)
  (zf (zm true 5<|fP QK lstP)
  (zf (zm true 6<|zp (aC zE QK) YK)
  (zf (yw (Qk<|f2 zE Qh zo) (gT 2<|yT (gN 7)<|yT (gN 8) YS)<|wJ (vq<|fT<|zp (aC yh<|aC yf<|aC Z4<|aC (fV 8)<|aC y7 aN) wB) (zX<|fC<|.bl false) vS)
  (zX<|QP (f2 yh zE<|zr .Eq)<|f2 yf yo<|zr .Eq))))))))
def RF:Fn:=Yr 9 1 S_
structure Fq(K:zzA)(mg:Str->Option Value)(x:Str)(st:Stmt)(f:Addr)(d:FuncData)(ps:List Str):Prop where
 F:Fun K x x st f d
 b:Binds K d ps []
 m:mg x=some (.ref f)
def Vk{P:Program}{w:World}{K:zzA}{mg:Str->Option Value}{base:Heap}{kd:KD}{x:Str}{st:Stmt}{f:Addr}{d:FuncData}{N ps:List Str}{k:Nat}{c:SF}(Q:Fq K mg x st f d ps)(S:FnScope N ps (zj st))
 (hb:∀(cdv:Value) (A:Around) (outer:List Env) (s:Shared) (H:Hp) (E:XK),Room k (A.deeper<|envOfC x (zj st) s.heap.objs.size f cdv)->Gq (PQ Tf P w K mg base N x (zj st) f cdv A outer s H E).nox kd (vF st) c):
 Co x P w K mg base kd (k+1) f d ps (Yr N.length ps.length c):=⟨IA Q.F S hb,Q.m,Q.F.kp,Q.b⟩
set_option genInjectivity false in
set_option genSizeOf false in
structure Adr where
 ZN:Addr
 ZW:FuncData
 ZQ:Addr
 ZL:FuncData
 Xh:Addr
 Xa:FuncData
 X5:Addr
 WH:FuncData
 Wo:Addr
 Wp:FuncData
 Ye:Addr
 Yy:FuncData
 TH:Addr
 Gn:FuncData
 VP:Addr
 VO:FuncData
 Xv:Addr
 XG:FuncData
 Ti:Addr
 TX:FuncData
 LZ:Addr
 K8:FuncData
 Y6:Addr
 Xe:FuncData
 Qb:Addr
 VN:FuncData
 VM:Addr
 VI:FuncData
 VH:Addr
 V6:FuncData
 WR:Addr
 Wr:FuncData
 ZP:Addr
 ZR:FuncData
 WG:Addr
 Wf:FuncData
 Xm:Addr
 Xd:FuncData
 VS:Addr
 Qf:FuncData
 Wq:Addr
 WI:FuncData
 Xg:Addr
 Y5:FuncData
 Uu:Addr
 UC:FuncData
 Wn:Addr
 X7:FuncData
 Rw:Addr
 RA:FuncData
 VU:Addr
 VF:FuncData
 V1:Addr
 VJ:FuncData
 Hg:Addr
 Hk:FuncData
structure Txt(K:zzA)(kd:KD)(mg:Str->Option Value)(t:Adr):Prop where
 Qo:Fq K mg "nothing_fails" xC t.ZN t.ZW ["algebra"]
 Qi:Fq K mg "parting_fails" xF t.ZQ t.ZL ["algebra"]
 UY:Fq K mg "doing_fails" wg t.Xh t.Xa ["algebra","name","rows"]
 Pf:Fq K mg "deeds_fail" wV t.X5 t.WH ["algebra"]
 Py:Fq K mg "what_fails" w_ t.Wo t.Wp ["algebra"]
 Q1:Fq K mg "check_let_by" xW t.Ye t.Yy ["algebra"]
 FN:Fq K mg "two_of" WC t.TH t.Gn ["algebra","entries","p","q"]
 GL:Fq K mg "following" vG t.VP t.VO ["algebra","entries","at"]
 Zx:Fun K "take_new" "take_new" ZC t.Xv t.XG
 XH:Binds K t.XG ["entries","known","found"] []
 yu:mg "take_new"=some (.ref t.Xv)
 EW:Fq K mg "coming" Yx t.Ti t.TX ["algebra","row"]
 S4:Fq K mg "comes" Qy t.LZ t.K8 ["algebra","row","name"]
 UV:Fq K mg "_law_cell_at" wo t.Y6 t.Xe ["_law_script","_law_k"]
 GJ:Fq K mg "_law_mixed" vM t.Qb t.VN ["_law_cell","_law_k"]
 Tp:Fq K mg "_law_whole" vR t.VM t.VI ["_law_found"]
 Tv:Fq K mg "_law_words" vN t.VH t.V6 ["_law_cell","_law_many"]
 PX:Fq K mg "_law_common" wZ t.WR t.Wr ["_law_n","_law_m"]
 Qq:Fq K mg "_law_joined_by" xD t.ZP t.ZR ["_law_kind","_law_n","_law_a","_law_b"]
 P7:Fq K mg "_law_images" wY t.WG t.Wf ["_law_kind","_law_n","_law_x"]
 UW:Fq K mg "_law_done_by" we t.Xm t.Xd ["_law_kind","_law_n","_law_m","_law_x"]
 TB:Fq K mg "_law_kinds" vZ t.VS t.Qf ["_law_x"]
 RU:Fq K mg "_law_stream" wX t.Wq t.WI ["_law_cell","_law_many"]
 US:Fq K mg "_law_algebra" yG t.Xg t.Y5 ["_law_cell","_law_head","_law_many"]
 K3:Fq K mg "_law_copy" Zw t.Uu t.UC ["_law_algebra_here"]
 PU:Fq K mg "_law_values" wW t.Wn t.X7 ["_law_script","_law_start","_law_most","_law_size","_law_number"]
 N9:Fq K mg "_law_all" YN t.Rw t.RA ["_law_algebra_here","_law_row"]
 T7:Fq K mg "_law_ahead" vI t.VU t.VF ["_law_how","_law_at"]
 TR:Fq K mg "_law_right" xk t.V1 t.VJ ["_law_algebra_here","_law_row","_law_name","_law_values_here","_law_known"]
 II:Fq K mg "law" Gg t.Hg t.Hk ["_law_script"]
 OI:mg "bool"=none
 Ex:mg "dict"=none
 TN:mg "enumerate"=none
 RI:mg "int"=none
 xq:mg "isinstance"=none
 Rn:mg "len"=none
 W4:mg "list"=none
 JP:mg "max"=none
 yM:mg "range"=none
 Jn:mg "set"=none
 Zm:mg "sorted"=none
 L7:mg "tuple"=none
set_option maxHeartbeats 8000000
section
variable{P:Program}{w:World}{K:zzA}{mg:Str->Option Value}{base:Heap}{kd:KD}{t:Adr}
local macro_rules | `(tactic| trivial)=>do let T:=Lean.mkIdent `T;let h:=Lean.mkIdent `hkd;let r:=Lean.mkIdent `hr;`(tactic| first|(show AE _ _ _ _;first|exact av _|exact aI|(refine ax $h ?_ ?_<;>trivial)|(refine bn ?_ ?_<;>trivial)|exact aS|exact aZ|exact aB|(refine ec $h $r ?_ ?_<;>trivial)|(refine ec $h $r ?_ ?_ (hm:=rfl)<;>trivial)|(refine cq (by assumption) $r ?_<;>trivial)|(refine x8 ?_;trivial)|(refine Zo ?_;trivial)|(refine cm ?_ ?_ ?_ ?_<;>trivial)|(refine Wb ?_ ?_ ?_<;>trivial)|(refine bi (vk ($h _ rfl rfl rfl)) (Txt.Rn $T) Bt.len ?_;trivial)|(refine bi (N_ rfl) (Txt.JP $T) Bt.max ?_;trivial)|(refine bi Ki (Txt.Zm $T) Bt.sorted ?_;trivial)|(refine BX vt (Txt.RI $T) Bt.int ?_;trivial)|(refine Vy ($h _ rfl rfl rfl) rfl rfl (Txt.xq $T) Bt.isinstance rfl (Txt.RI $T) Bt.int ?_ (Bt.n _ rfl) (by decide) (Bt.n _ rfl) (by decide) rfl rfl rfl;trivial)|(refine Vy ($h _ rfl rfl rfl) rfl rfl (Txt.xq $T) Bt.isinstance rfl (Txt.L7 $T) Bt.tuple ?_ (Bt.n _ rfl) (by decide) (Bt.n _ rfl) (by decide) rfl rfl rfl;trivial)|(refine BX RH (Txt.W4 $T) Bt.list ?_;trivial)|(refine Vy ($h _ rfl rfl rfl) rfl rfl (Txt.xq $T) Bt.isinstance rfl (Txt.W4 $T) Bt.list ?_ (Bt.n _ rfl) (by decide) (Bt.n _ rfl) (by decide) rfl rfl rfl;trivial)|(refine BX (Uy rfl ($h _ rfl rfl rfl)) (Txt.Ex $T) Bt.dict ?_;trivial)|(refine Vy ($h _ rfl rfl rfl) rfl rfl (Txt.xq $T) Bt.isinstance rfl (Txt.OI $T) Bt.bool ?_ (Bt.n _ rfl) (by decide) (Bt.n _ rfl) (by decide) rfl rfl rfl;trivial)|(refine Ry rfl rfl (Txt.yM $T) rfl (Txt.W4 $T) ?_ rfl rfl;trivial)|(refine KO rfl rfl (Txt.Jn $T) rfl (Txt.Zm $T) ?_ rfl rfl;trivial)|(refine OB ?_;trivial)|(refine Xu ?_ ?_<;>trivial)|(refine QJ ?_;trivial)|(refine Wy (yQ ($h _ rfl rfl rfl) (xM $r) _) (yQ ($h _ rfl rfl rfl) (xM $r) _) ?_ ?_ ?_ (by with_unfolding_all rfl)<;>trivial)|exact Cr|exact ae_d0|(refine Yp vi UF PySem.F.slot_list_append PySem.F.type_list_append (pv _) ?_ rfl rfl rfl rfl rfl;trivial)|(refine Yp Gu Tr PySem.F.slot_list_pop PySem.F.type_list_pop (pv _) ?_ rfl rfl rfl rfl rfl;trivial)|(refine Yp ND O6 PySem.F.slot_list_extend PySem.F.type_list_extend (pv _) ?_ rfl rfl rfl rfl rfl;trivial)|(refine SK (ty:=.str) ($h _ rfl rfl rfl) B9 PySem.F.plainAttrs_str PySem.F.slot_str_join PySem.F.type_str_join ?_ ?_ rfl rfl rfl rfl rfl<;>trivial)|(refine HB ?_;trivial)|exact FF (pv _))|(show AA _ _ _ _;first|(refine bc ?_ ?_<;>trivial)|exact zz)|exact vK|(refine Qs ?_;trivial)|(intro _;trivial)|(show QM _ _ _ _;first|(refine uT (by assumption) ?_ ?_ ?_ ?_<;>trivial)|(refine xu ?_;trivial)|(refine Xn ?_ ?_ ?_<;>trivial)|(refine uV ?_ ?_ ?_<;>trivial)|(refine TC PassesOwn.never ?_ ?_<;>trivial)|(refine QD ?_ rfl;trivial)|(refine sv _ _ (by assumption) ?_;trivial)|(refine Od rfl (by assumption) rfl rfl (by decide) rfl rfl ?_ rfl rfl;trivial)|(refine Dj ?_ ?_<;>trivial)|(refine Pq (pv _) ?_ (λ_ _=>rfl) ?_ ?_ (λ_=>rfl) rfl rfl rfl<;>trivial)|exact M5 (by assumption) rfl (.inl rfl) (by first|exact Or.inl rfl|exact Or.inr rfl)|exact Jt)|(show Gq _ _ _ _;first|(refine sj _ (by assumption) ?_ ?_<;>trivial)|(refine QB ?_;trivial)|(refine zK ?_ ?_<;>trivial)|(refine z_ ?_;trivial)|exact wk)|(show AT _ _ _ _;first|(refine tc $h $r ?_ ?_<;>trivial)|(refine tc $h $r ?_ ?_ (hm:=rfl)<;>trivial)|(refine Gv (yQ ($h _ rfl rfl rfl) (xM $r) _) (yQ ($h _ rfl rfl rfl) (xM $r) _) (ZI _) ?_ ?_ ?_ (by with_unfolding_all rfl)<;>trivial)|(refine XT ?_;trivial)|(refine Yl ?_ (λ_=>rfl);trivial)|(refine AW.at_ ?_;trivial))|(show AD _ _ _ _;first|(refine bd ?_ ?_<;>trivial)|exact yp)|(show AO _ _ _ _;first|(refine QF ?_;trivial)|exact Qt)|(show AG _ _ _ _ _;first|exact an _ (by assumption)|exact an _ (ux (by kernel_rfl))|(refine Ur rfl ?_ rfl rfl;trivial))|(show Hd _ _ _ _ _;first|(refine um ?_ ?_<;>trivial)|exact WN)|(show Ii _ _ _ _;first|exact Da _ (by assumption)|(refine Aq ?_;trivial))|(show Ek _ _ _ _;first|(refine Df ?_ ?_<;>trivial)|exact DA)|(show HZ _ _ _ _ _;first|(refine YR rfl (Txt.yM $T) ?_ rfl;trivial)|(refine Z9 ?_;trivial))|(show AI _ _ _ _ _;first|(refine xp rfl (Txt.yM $T) ?_ rfl;trivial)|(refine NA rfl (Txt.yM $T) ?_ rfl rfl;trivial)|(refine Ka ?_;trivial))|(show AW _ _ _ _;first|(refine GH ?_ ?_<;>trivial)|(refine GX ?_ ?_<;>trivial)|(refine YT ?_;trivial)|(refine XJ ?_;trivial))|(show AK _ _ _ _;first|exact XM (pv _)|(refine RR (pv _) ?_ (λ_ _=>rfl);trivial)))
def Ql(T:Txt K kd mg t)(hkd:YU P w K kd):Co "nothing_fails" P w K mg base kd 1 t.ZN t.ZW ["algebra"] wL:=by
 refine Vk (N:=ZY) (k:=0) (c:=ZT) T.Qo Ze λ_ _ _ _ _ _ hr=>?_;have:=Ze.nd;conv=>arg 3;whnf
 trivial
def Qj(T:Txt K kd mg t)(hkd:YU P w K kd):Co "parting_fails" P w K mg base kd 1 t.ZQ t.ZL ["algebra"] wK:=by
 refine Vk (N:=Z1) (k:=0) (c:=ZO) T.Qi Zd λ_ _ _ _ _ _ hr=>?_;have:=Zd.nd;conv=>arg 3;whnf
 trivial
def UN(T:Txt K kd mg t)(hkd:YU P w K kd):Co "doing_fails" P w K mg base kd 1 t.Xh t.Xa ["algebra","name","rows"] wu:=by
 refine Vk (N:=Y8) (k:=0) (c:=Xc) T.UY YE λ_ _ _ _ _ _ hr=>?_;have:=YE.nd;conv=>arg 3;whnf
 trivial
def PH(T:Txt K kd mg t)(hkd:YU P w K kd):Co "deeds_fail" P w K mg base kd 2 t.X5 t.WH ["algebra"] ZD:=by
 refine Vk (N:=Wd) (k:=1) (c:=X0) T.Pf Xk λ_ _ _ _ _ _ hr=>?_;have:=Xk.nd;have:=UN (base:=base) T hkd;conv=>arg 3;whnf
 trivial
def P6(T:Txt K kd mg t)(hkd:YU P w K kd):Co "what_fails" P w K mg base kd 3 t.Wo t.Wp ["algebra"] Zp:=by
 refine Vk (N:=Wk) (k:=2) (c:=X6) T.Py Y2 λ_ _ _ _ _ _ hr=>?_;have:=Y2.nd;have:=Ql (base:=base) T hkd;have:=Qj (base:=base) T hkd;have:=PH (base:=base) T hkd;conv=>arg 3;whnf
 trivial
def Uj(T:Txt K kd mg t)(hkd:YU P w K kd):Co "check_let_by" P w K mg base kd 4 t.Ye t.Yy ["algebra"] xj:=by
 refine Vk (N:=Ym) (k:=3) (c:=vp) T.Q1 ZZ λ_ _ _ _ _ _ hr=>?_;have:=ZZ.nd;have:=P6 (base:=base) T hkd;conv=>arg 3;whnf
 trivial
def EH(T:Txt K kd mg t)(hkd:YU P w K kd):Co "two_of" P w K mg base kd 1 t.TH t.Gn ["algebra","entries","p","q"] Zg:=by
 refine Vk (N:=Gz) (k:=0) (c:=Gp) T.FN Rk λ_ _ _ _ _ _ hr=>?_;have:=Rk.nd;conv=>arg 3;whnf
 trivial
def V8(T:Txt K kd mg t)(hkd:YU P w K kd):Co "following" P w K mg base kd 2 t.VP t.VO ["algebra","entries","at"] wD:=by
 refine Vk (N:=V_) (k:=1) (c:=Qg) T.GL X_ λ_ _ _ _ _ _ hr=>?_;have:=X_.nd;have:=EH (base:=base) T hkd;conv=>arg 3;whnf
 trivial
def ZA(T:Txt K kd mg t)(hkd:YU P w K kd):FnOk P w K mg base Tf 1 t.Xv t.XG ["entries","known","found"] (Dt K kd yu):=by
 refine Ic (N:=QO) (k:=0) (c:=XF) T.Zx Yk rfl (by decide) λcdv A outer s H E hr=>?_;exact(PL<|OD (by decide) PassesOwn.never rfl (Ka<|av 2) (an 3 Yk.nd) (by
  refine GI (uM _ 4 (by decide) Yk.nd ?_) ?_;exact(x8<|bd (ax hkd (av 3) aI)<|bd (ax hkd (av 3) aI) yp);exact PL<|JN (QU (yQ (hkd _ rfl rfl rfl) (xM hr) .NotIn) (ZI .NotIn) (av 4) (av 1) rfl) (by
  refine GI ?_ ?_;exact(Sn (JV hr) (pv 1) (av 4) aB rfl);exact PL<|BB (Yp vi UF PySem.F.slot_list_append PySem.F.type_list_append (pv 0) (bd (av 3) yp) rfl rfl rfl rfl rfl) rfl) SH) λ_=>rfl)
def FH(T:Txt K kd mg t)(hkd:YU P w K kd):Co "coming" P w K mg base kd 5 t.Ti t.TX ["algebra","row"] WK:=by
 refine Vk (N:=Uz) (k:=4) (c:=TM) T.EW vh λ_ _ _ _ _ _ hr=>?_;have:=vh.nd;have:=Uj (base:=base) T hkd;have:=ZA (base:=base) T hkd;have:=V8 (base:=base) T hkd;conv=>arg 3;whnf
 exact(by
  refine zK ?_ ?_;trivial;refine sj 2 vh.nd ?_ ?_;trivial;refine sj 3 vh.nd ?_ ?_;trivial;refine zK ?_ ?_;exact(Ud (ZA T hkd) (hr.mono<|by omega) rfl T.yu T.Zx.kp T.XH LM (by decide) (pv 2) (pv 3) (Zo<|bd (x8<|bd (ax hkd (av 0) aI)<|bd aI<|bd (x8<|bd aS yp) yp) yp) (by decide) (yP rfl) (yP rfl) (yP rfl) rfl rfl);refine zK ?_ ?_;exact(Ud (ZA T hkd) (hr.mono<|by omega) rfl T.yu T.Zx.kp T.XH LM (by decide) (pv 2) (pv 3) (vX (N:=["value","algebra"]) (cap:=[none,some 0]) (S:=[0]) rfl (Z9<|av 1) rfl (by change wN _ Uz _ (zj Yx).names _=true;decide +kernel) (by decide) (λcl s H fp=>(an 0 GE)) (λcl s H fp=>vK) (λcl s H fp=>(x8<|bd (av 0)<|bd (bn aI<|ax hkd (av 1) aI)<|bd (x8<|bd aS<|bd (av 0) yp) yp)) λ_=>rfl) (by decide) (yP rfl) (yP rfl) (yP rfl) rfl rfl);refine sj 4 vh.nd ?_ ?_;trivial;refine zK ?_ ?_;exact(TC (n:=10000) PassesOwn.never (tc hkd hr (av 4)<|bi (vk<|hkd _ rfl rfl rfl) T.Rn Bt.len<|bc (av 2) zz)<|by
  refine zK ?_ ?_;exact(Ud (ZA T hkd) (hr.mono<|by omega) rfl T.yu T.Zx.kp T.XH LM (by decide) (pv 2) (pv 3) (cq (V8 T hkd) hr<|bc (av 0)<|bc (av 2)<|bc (av 4) zz) (by decide) (yP rfl) (yP rfl) (yP rfl) rfl rfl);exact z_<|M5 (i:=4) vh.nd rfl (.inl rfl) (by first|exact Or.inl rfl|exact Or.inr rfl))
  exact z_<|xu<|av 2)
def Lm(T:Txt K kd mg t)(hkd:YU P w K kd):Co "comes" P w K mg base kd 6 t.LZ t.K8 ["algebra","row","name"] wb:=by
 refine Vk (N:=Ld) (k:=5) (c:=Nd) T.S4 Yi λcdv A outer s H E hr=>?_;exact(by
  refine sj 3 Yi.nd ?_ ?_;exact(cq (FH T hkd) hr<|bc (av 0)<|bc (av 1) zz);refine sj 4 Yi.nd ?_ ?_;exact(ax hkd (BX (Uy rfl<|hkd _ rfl rfl rfl) T.Ex Bt.dict<|bc (ax hkd (av 0) aI) zz)<|av 2);refine zK ?_ ?_;exact(On PassesOwn.never rfl rfl T.TN (pv 3) rfl (Ur rfl (xB (an 5 Yi.nd) (xB (an 6 Yi.nd) WN rfl) rfl) rfl rfl) (by decide) (QU (yQ (hkd _ rfl rfl rfl) (xM hr) .In) (ZI .In) (ax hkd (av 6) aI) (av 4) rfl) (z_<|xu<|x8<|bd aS<|bd (FF<|pv 3)<|bd (av 5) yp) λ_=>rfl);exact z_<|xu<|x8<|bd aS<|bd (FF<|pv 3) yp)
def y_(T:Txt K kd mg t)(hkd:YU P w K kd):Co "_law_cell_at" P w K mg base kd 1 t.Y6 t.Xe ["_law_script","_law_k"] zV:=by
 refine Vk (N:=Xl) (k:=0) (c:=Xo) T.UV Yw λ_ _ _ _ _ _ hr=>?_;have:=Yw.nd;conv=>arg 3;whnf
 trivial
def Z7(T:Txt K kd mg t)(hkd:YU P w K kd):Co "_law_mixed" P w K mg base kd 1 t.Qb t.VN ["_law_cell","_law_k"] xh:=by
 refine Vk (N:=VV) (k:=0) (c:=Qc) T.GJ Wt λ_ _ _ _ _ _ hr=>?_;have:=Wt.nd;conv=>arg 3;whnf
 trivial
def vL(T:Txt K kd mg t)(hkd:YU P w K kd):Co "_law_whole" P w K mg base kd 1 t.VM t.VI ["_law_found"] yW:=by
 refine Vk (N:=VW) (k:=0) (c:=VG) T.Tp Wj λ_ _ _ _ _ _ hr=>?_;have:=Wj.nd;conv=>arg 3;whnf
 trivial
def Tz(T:Txt K kd mg t)(hkd:YU P w K kd):Co "_law_words" P w K mg base kd 2 t.VH t.V6 ["_law_cell","_law_many"] vU:=by
 refine Vk (N:=Qe) (k:=1) (c:=VQ) T.Tv WL λ_ _ _ _ _ _ hr=>?_;have:=WL.nd;have:=Z7 (base:=base) T hkd;conv=>arg 3;whnf
 trivial
def Tb(T:Txt K kd mg t)(hkd:YU P w K kd):Co "_law_common" P w K mg base kd 1 t.WR t.Wr ["_law_n","_law_m"] vd:=by
 refine Vk (N:=Wc) (k:=0) (c:=Wz) T.PX Y7 λ_ _ _ _ _ _ hr=>?_;have:=Y7.nd;conv=>arg 3;whnf
 trivial
def Z0(T:Txt K kd mg t)(hkd:YU P w K kd):Co "_law_joined_by" P w K mg base kd 1 t.ZP t.ZR ["_law_kind","_law_n","_law_a","_law_b"] yg:=by
 refine Vk (N:=ZX) (k:=0) (c:=ZM) T.Qq Zl λ_ _ _ _ _ _ hr=>?_;have:=Zl.nd;conv=>arg 3;whnf
 trivial
def P8(T:Txt K kd mg t)(hkd:YU P w K kd):Co "_law_images" P w K mg base kd 1 t.WG t.Wf ["_law_kind","_law_n","_law_x"] Zs:=by
 refine Vk (N:=WB) (k:=0) (c:=WQ) T.P7 Y0 λ_ _ _ _ _ _ hr=>?_;have:=Y0.nd;conv=>arg 3;whnf
 trivial
def Xf(T:Txt K kd mg t)(hkd:YU P w K kd):Co "_law_done_by" P w K mg base kd 2 t.Xm t.Xd ["_law_kind","_law_n","_law_m","_law_x"] xa:=by
 refine Vk (N:=Xb) (k:=1) (c:=Y9) T.UW Yn λ_ _ _ _ _ _ hr=>?_;have:=Yn.nd;have:=P8 (base:=base) T hkd;have:=Tb (base:=base) T hkd;conv=>arg 3;whnf
 trivial
def Tx(T:Txt K kd mg t)(hkd:YU P w K kd):Co "_law_kinds" P w K mg base kd 1 t.VS t.Qf ["_law_x"] vP:=by
 refine Vk (N:=VX) (k:=0) (c:=VT) T.TB WJ λ_ _ _ _ _ _ hr=>?_;have:=WJ.nd;conv=>arg 3;whnf
 trivial
def XW(T:Txt K kd mg t)(hkd:YU P w K kd):Co "_law_stream" P w K mg base kd 2 t.Wq t.WI ["_law_cell","_law_many"] yX:=by
 refine Vk (N:=X4) (k:=1) (c:=Wa) T.RU Y1 λ_ _ _ _ _ _ hr=>?_;have:=Y1.nd;have:=Z7 (base:=base) T hkd;conv=>arg 3;whnf
 trivial
def UT(T:Txt K kd mg t)(hkd:YU P w K kd):Co "_law_algebra" P w K mg base kd 3 t.Xg t.Y5 ["_law_cell","_law_head","_law_many"] wz:=by
 refine Vk (N:=xy) (k:=2) (c:=v5) T.US zd λcdv A outer s H E hr=>?_;exact(by
  refine sj 3 zd.nd ?_ ?_;exact(cq (XW T hkd) hr<|bc (av 0)<|bc (bn aI<|bn aI<|av 2) zz);refine sj 4 zd.nd ?_ ?_;exact(cq (XW T hkd) hr<|bc (av 1)<|bc aI zz);refine zK ?_ ?_;exact(M8 (cq (Tx T hkd) hr<|bc (ax hkd (av 3) aI) zz) (Ur rfl (xB (an 5 zd.nd) (xB (an 6 zd.nd) (xB (an 7 zd.nd) (xB (an 8 zd.nd) WN rfl) rfl) rfl) rfl) rfl rfl) rfl rfl rfl);refine sj 9 zd.nd ?_ ?_;exact(bn (bn aI<|bn (ax hkd (av 4) aI) aI)<|bn aI<|BX vt T.RI Bt.int<|bc (ec hkd hr (bn (bn (ax hkd (av 4) aI) aI) aI) aI) zz);refine sj 10 zd.nd ?_ ?_;exact(bn (av 6)<|av 8);refine sj 11 zd.nd ?_ ?_;exact(Ry rfl rfl T.yM rfl T.W4 (bc (av 10) zz) rfl rfl);refine sj 12 zd.nd ?_ ?_;exact(Zo yp);refine zK ?_ ?_;exact(v9 PassesOwn.never rfl (xp rfl T.yM (bc (av 10) zz) rfl) (an 13 zd.nd) (z_<|QD (Yp vi UF PySem.F.slot_list_append PySem.F.type_list_append (pv 12) (bd (Yp Gu Tr PySem.F.slot_list_pop PySem.F.type_list_pop (pv 11) (bd (bn (ax hkd (av 4)<|bn aI<|av 13)<|bi (vk<|hkd _ rfl rfl rfl) T.Rn Bt.len<|bc (av 11) zz) yp) rfl rfl rfl rfl rfl) yp) rfl rfl rfl rfl rfl) rfl) λ_=>rfl);refine QB ?_;refine zK ?_ ?_;exact(Qu (z:=false) (i:=14) (N:=["_law_a","_law_order"]) (cap:=[none,some 12]) (S:=[0]) zd.nd rfl (by exact Or.inl rfl) (by exact Or.inr rfl) rfl rfl (Z9<|av 12) rfl (by change wN _ xy _ (zj yG).names _=true;decide +kernel) (by decide) (λcl s H fp=>(an 0 Vg)) (λcl s H fp=>vK) (λcl s H fp=>(vX (N:=["_law_b"]) (cap:=[none]) (S:=[0]) rfl (Z9<|av 1) rfl (by with_unfolding_all rfl) (by decide) (λcl s H fp=>(an 0 Vb)) (λcl s H fp=>vK) (λcl s H fp=>aI) λ_=>rfl)) λ_=>rfl);refine zK ?_ ?_;exact(v9 PassesOwn.never rfl (xp rfl T.yM (bc (av 10) zz) rfl) (an 15 zd.nd) (z_<|v9 PassesOwn.never rfl (xp rfl T.yM (bc (av 10) zz) rfl) (an 16 zd.nd) (by
  refine sj 17 zd.nd ?_ ?_;exact(bn (cq (Z0 T hkd) hr<|bc (av 5)<|bc (av 6)<|bc (bn (av 15)<|av 8)<|bc (bn (av 16)<|av 8) zz)<|av 8);refine sj 17 zd.nd ?_ ?_;exact(bn (av 17)<|cq (Z0 T hkd) hr<|bc (av 7)<|bc (av 8)<|bc (bn (av 15)<|av 8)<|bc (bn (av 16)<|av 8) zz);exact z_<|Pq (pv 14) (RR (pv 12) (XM<|pv 15) λ_ _=>rfl) (λ_ _=>rfl) (RR (pv 12) (XM<|pv 16) λ_ _=>rfl) (RR (pv 12) (XM<|pv 17) λ_ _=>rfl) (λ_=>rfl) rfl rfl rfl) λ_=>rfl) λ_=>rfl)
  refine sj 18 zd.nd ?_ ?_;exact(cq (Tz T hkd) hr<|bc (bn (av 1) aI)<|bc aI zz);refine sj 19 zd.nd ?_ ?_;exact(Zo yp);refine zK ?_ ?_;exact(v9 PassesOwn.never rfl (xp rfl T.yM (bc (av 2) zz) rfl) (an 13 zd.nd) (by
  refine sj 20 zd.nd ?_ ?_;exact(cq (Xf T hkd) hr<|bc (av 5)<|bc (av 6)<|bc (av 9)<|bc (ax hkd (av 3)<|bn aI<|bn aI<|av 13) zz);refine sj 21 zd.nd ?_ ?_;exact(cq (Xf T hkd) hr<|bc (av 7)<|bc (av 8)<|bc (av 9)<|bc (ax hkd (av 3)<|bn aI<|bn aI<|av 13) zz);refine zK ?_ ?_;exact(Qu (z:=false) (i:=22) (N:=["_law_c","_law_order"]) (cap:=[none,some 12]) (S:=[0]) zd.nd rfl (by exact Or.inl rfl) (by exact Or.inr rfl) rfl rfl (YR rfl T.yM (bc (av 9) zz) rfl) rfl (by change wN _ xy _ (zj yG).names _=true;decide +kernel) (by decide) (λcl s H fp=>(an 0 W3)) (λcl s H fp=>vK) (λcl s H fp=>(vX (N:=["_law_a"]) (cap:=[none]) (S:=[0]) rfl (Z9<|av 1) rfl (by with_unfolding_all rfl) (by decide) (λcl s H fp=>(an 0 W5)) (λcl s H fp=>vK) (λcl s H fp=>aI) λ_=>rfl)) λ_=>rfl);refine zK ?_ ?_;exact(v9 PassesOwn.never rfl (xp rfl T.yM (bc (av 9) zz) rfl) (an 23 zd.nd) (z_<|v9 PassesOwn.never rfl (xp rfl T.yM (bc (av 10) zz) rfl) (an 15 zd.nd) (by
  refine sj 17 zd.nd ?_ ?_;exact(ax hkd (ax hkd (av 20)<|av 23)<|bn (av 15)<|av 8);refine sj 17 zd.nd ?_ ?_;exact(bn (bn (av 17)<|av 8)<|ax hkd (ax hkd (av 21)<|av 23)<|bn (av 15)<|av 8);exact z_<|Pq (pv 22) (XM<|pv 23) (λ_ _=>rfl) (RR (pv 12) (XM<|pv 15) λ_ _=>rfl) (RR (pv 12) (XM<|pv 17) λ_ _=>rfl) (λ_=>rfl) rfl rfl rfl) λ_=>rfl) λ_=>rfl)
  exact z_<|QD (Yp vi UF PySem.F.slot_list_append PySem.F.type_list_append (pv 19) (bd (x8<|bd (ax hkd (av 18)<|av 13)<|bd (av 22) yp) yp) rfl rfl rfl rfl rfl) rfl) λ_=>rfl)
  refine sj 24 zd.nd ?_ ?_;exact(Zo yp);refine zK ?_ ?_;exact(v9 PassesOwn.never rfl (xp rfl T.yM (bc aI zz) rfl) (an 13 zd.nd) (by
  refine sj 25 zd.nd ?_ ?_;exact(ax hkd (av 4)<|bn aI<|av 13);refine zK ?_ ?_;exact(Qu (z:=true) (i:=26) (N:=["_law_a","_law_bits"]) (cap:=[none,some 25]) (S:=[0]) zd.nd rfl (by exact Or.inl rfl) (by exact Or.inr rfl) rfl rfl (YR rfl T.yM (bc (av 10) zz) rfl) rfl (by change wN _ xy _ (zj yG).names _=true;decide +kernel) (by decide) (λcl s H fp=>(an 0 W0)) (λcl s H fp=>(Qs<|tc hkd hr (bn (bn (av 1)<|G9 Nm aI<|av 0) aI) aI)) (λcl s H fp=>(av 0)) λ_=>rfl);exact z_<|QD (Yp vi UF PySem.F.slot_list_append PySem.F.type_list_append (pv 24) (bd (x8<|bd (ax hkd (av 18)<|bn (av 13)<|bn aI<|bn (bn (av 25) aI) aI)<|bd (av 26) yp) yp) rfl rfl rfl rfl rfl) rfl) λ_=>rfl)
  refine sj 27 zd.nd ?_ ?_;exact(ax hkd (av 12)<|ax hkd (Zo<|bd aI<|bd (av 8) yp)<|BX vt T.RI Bt.int<|bc (ec hkd hr (av 5) aI) zz);exact z_<|xu<|x8<|bd (av 10)<|bd (av 9)<|bd (av 14)<|bd (av 27)<|bd (av 19)<|bd (Wb (av 24) Qt<|QF<|bn (ax hkd (av 4) aI) aI) yp)
def G1(T:Txt K kd mg t)(hkd:YU P w K kd):Co "_law_copy" P w K mg base kd 1 t.Uu t.UC ["_law_algebra_here"] XO:=by
 refine Vk (N:=Ub) (k:=0) (c:=QW) T.K3 V0 λ_ _ _ _ _ _ hr=>?_;have:=V0.nd;conv=>arg 3;whnf
 trivial
def PP(T:Txt K kd mg t)(hkd:YU P w K kd):Co "_law_values" P w K mg base kd 2 t.Wn t.X7 ["_law_script","_law_start","_law_most","_law_size","_law_number"] Zt:=by
 refine Vk (N:=X9) (k:=1) (c:=XY) T.PU Y_ λ_ _ _ _ _ _ hr=>?_;have:=Y_.nd;have:=Z7 (base:=base) T hkd;have:=y_ (base:=base) T hkd;conv=>arg 3;whnf
 trivial
def Np(T:Txt K kd mg t)(hkd:YU P w K kd):Co "_law_all" P w K mg base kd 1 t.Rw t.RA ["_law_algebra_here","_law_row"] YK:=by
 refine Vk (N:=Rc) (k:=0) (c:=Rg) T.N9 Ul λ_ _ _ _ _ _ hr=>?_;have:=Ul.nd;conv=>arg 3;whnf
 trivial
def Tt(T:Txt K kd mg t)(hkd:YU P w K kd):Co "_law_ahead" P w K mg base kd 2 t.VU t.VF ["_law_how","_law_at"] xN:=by
 refine Vk (N:=V2) (k:=1) (c:=V3) T.T7 Pb λcdv A outer s H E hr=>?_;exact(by
  refine zK ?_ ?_;exact(Xn (tc hkd hr (ax hkd (av 0) aI) aS) (z_<|xu<|Xu (cq (vL T hkd) hr<|bc (ax hkd (av 0) aI) zz)<|QJ<|Wy (yQ (hkd _ rfl rfl rfl) (xM hr) .LtE) (yQ (hkd _ rfl rfl rfl) (xM hr) .Lt) aI (ax hkd (av 0) aI) (av 1)<|by with_unfolding_all rfl) wk);refine zK ?_ ?_;exact(Xn (tc hkd hr (ax hkd (av 0) aI) aS) (z_<|xu<|Xu (cq (vL T hkd) hr<|bc (ax hkd (av 0) aI) zz)<|Xu (cq (vL T hkd) hr<|bc (ax hkd (av 0) aI) zz)<|Xu (Wy (yQ (hkd _ rfl rfl rfl) (xM hr) .LtE) (yQ (hkd _ rfl rfl rfl) (xM hr) .Lt) aI (ax hkd (av 0) aI) (av 1)<|by with_unfolding_all rfl)<|QJ<|Wy (yQ (hkd _ rfl rfl rfl) (xM hr) .LtE) (yQ (hkd _ rfl rfl rfl) (xM hr) .Lt) aI (ax hkd (av 0) aI) (av 1)<|by with_unfolding_all rfl) wk);exact z_<|xu<|Mn (yQ (hkd _ rfl rfl rfl) (xM hr) .In) (ax hkd (av 0) aI) (x8<|bd aS<|bd aS yp) rfl)
def TK(T:Txt K kd mg t)(hkd:YU P w K kd):Co "_law_right" P w K mg base kd 7 t.V1 t.VJ ["_law_algebra_here","_law_row","_law_name","_law_values_here","_law_known"] wB:=by
 refine Vk (N:=wH) (k:=6) (c:=V4) T.TR xZ λcdv A outer s H E hr=>?_;exact(by
  refine sj 5 xZ.nd ?_ ?_;exact(cq (Lm T hkd) hr<|bc (av 0)<|bc (av 1)<|bc (av 2) zz);refine sj 6 xZ.nd ?_ ?_;exact(ec hkd hr (vX (N:=["_law_pair","_law_values_here"]) (cap:=[none,some 3]) (S:=[0]) rfl (Z9<|av 4) rfl (by change wN _ wH _ (zj xk).names _=true;decide +kernel) (by decide) (λcl s H fp=>(an 0 Q_)) (λcl s H fp=>(Qs<|QU (yQ (hkd _ rfl rfl rfl) (xM hr) .In) (ZI .In) (ax hkd (av 0) aI) (av 1) rfl)) (λcl s H fp=>(av 0)) λ_=>rfl)<|Zo yp);refine zK ?_ ?_;exact(Xn (AW.at_<|GH (XT<|Yl (Ww<|Vy (hkd _ rfl rfl rfl) rfl rfl T.xq Bt.isinstance rfl T.L7 Bt.tuple (av 5) (Bt.n _ rfl) (by decide) (Bt.n _ rfl) (by decide) rfl rfl rfl) λ_=>rfl)<|GH (Wx<|tc hkd hr (bi (vk<|hkd _ rfl rfl rfl) T.Rn Bt.len<|bc (av 5) zz)<|bn aI<|BX vt T.RI Bt.int<|bc (av 6) zz)<|YT<|Wx<|tc hkd hr (ax hkd (av 5) aI)<|ax hkd (Zo<|bd aS<|bd aS yp)<|BX vt T.RI Bt.int<|bc (av 6) zz) (z_<|xu aB) wk);refine zK ?_ ?_;exact(Xn (AW.at_<|GH (XT<|Yl (Ww<|Vy (hkd _ rfl rfl rfl) rfl rfl T.xq Bt.isinstance rfl T.W4 Bt.list (ax hkd (av 5) aI) (Bt.n _ rfl) (by decide) (Bt.n _ rfl) (by decide) rfl rfl rfl) λ_=>rfl)<|YT<|Wx<|tc hkd hr (bi vW T.Zm Bt.sorted<|bc (vX (N:=["_law_entry"]) (cap:=[none]) (S:=[0]) rfl (Z9<|ax hkd (av 5) aI) rfl (by change wN _ wH _ (zj xk).names _=true;decide +kernel) (by decide) (λcl s H fp=>(an 0 QI)) (λcl s H fp=>vK) (λcl s H fp=>(Wb (av 0) Qt<|QF aI)) λ_=>rfl) zz)<|bi vW T.Zm Bt.sorted<|bc (av 4) zz) (z_<|xu aB) wk);refine zK ?_ ?_;exact(v9 PassesOwn.never rfl (xp rfl T.yM (bc (Ww<|bi (vk<|hkd _ rfl rfl rfl) T.Rn Bt.len<|bc (ax hkd (av 5) aI) zz) zz) rfl) (an 7 xZ.nd) (z_<|Xn (XT<|Yl (Ww<|cq (Tt T hkd) hr<|bc (ax hkd (ax hkd (ax hkd (av 5) aI)<|av 7) aI)<|bc (av 7) zz) λ_=>rfl) (z_<|xu aB) wk) λ_=>rfl);refine zK ?_ ?_;exact(Xn (AW.at_<|GX (Yl (av 6) λ_=>rfl)<|XJ<|AW.at_<|GH (XT<|Yl (Ww<|cq (vL T hkd) hr<|bc (ax hkd (av 5) aI) zz) λ_=>rfl)<|YT<|XT<|Wx<|Gv (yQ (hkd _ rfl rfl rfl) (xM hr) .LtE) (yQ (hkd _ rfl rfl rfl) (xM hr) .Lt) (ZI .Lt) aI (ax hkd (av 5) aI) (bi (vk<|hkd _ rfl rfl rfl) T.Rn Bt.len<|bc (ax hkd (av 5) aI) zz)<|by with_unfolding_all rfl) (z_<|xu aB) wk);refine zK ?_ ?_;exact(Xn (AW.at_<|GX (Yl (av 6) λ_=>rfl)<|XJ<|Wx<|QU (yQ (hkd _ rfl rfl rfl) (xM hr) .NotIn) (ZI .NotIn) (ax hkd (ax hkd (ax hkd (av 5) aI)<|ax hkd (av 5) aI) aI) (av 3) rfl) (z_<|xu aB) wk);refine zK ?_ ?_;exact(Ox (n:=1) (pv 5) Q8 (λ_ _=>rfl) rfl rfl rfl);refine QB ?_;refine sj 8 xZ.nd ?_ ?_;exact(cq (Lm T hkd) hr<|bc (av 0)<|bc (av 1)<|bc (av 2) zz);exact z_<|xu<|Xu (ec hkd hr (ax hkd (av 8) aI)<|ax hkd (av 5) aI)<|QJ<|ec hkd hr (bi vW T.Zm Bt.sorted<|bc (vX (N:=["_law_entry"]) (cap:=[none]) (S:=[0]) rfl (Z9<|ax hkd (av 8) aI) rfl (by change wN _ wH _ (zj xk).names _=true;decide +kernel) (by decide) (λcl s H fp=>(an 0 UA)) (λcl s H fp=>vK) (λcl s H fp=>(Wb (av 0) Qt<|QF aI)) λ_=>rfl) zz)<|bi vW T.Zm Bt.sorted<|bc (av 4) zz)
def Iv(T:Txt K kd mg t)(hkd:YU P w K kd):Co "law" P w K mg base kd 8 t.Hg t.Hk ["_law_script"] RF:=by
 refine Vk (N:=Ef) (k:=7) (c:=S_) T.II Zr λcdv A outer s H E hr=>?_;exact(by
  refine sj 1 Zr.nd ?_ ?_;exact(cq (UT T hkd) hr<|bc (cq (y_ T hkd) hr<|bc (av 0)<|bc aI zz)<|bc (cq (y_ T hkd) hr<|bc (av 0)<|bc aI zz)<|bc (bn (cq (y_ T hkd) hr<|bc (av 0)<|bc aI zz) aI) zz);refine zK ?_ ?_;exact(Xn (Ia (n:=5) (yQ (hkd _ rfl rfl rfl) (xM hr) .Eq) (pv 1) Q8 (λ_ _=>rfl) (Zo yp)<|GW _) (by
  refine sj 2 Zr.nd ?_ ?_;exact(bn (cq (y_ T hkd) hr<|bc (av 0)<|bc aI zz) aI);exact z_<|O4 (n:=5) (pv 1) Q8 (λ_ _=>rfl) (bd (HB<|x8<|bd aS<|bd (vX (N:=["_law_a","_law_bits"]) (cap:=[none,some 2]) (S:=[0]) rfl (YR rfl T.yM (bc (ax hkd (av 1) aI) zz) rfl) rfl (by change wN _ Ef _ (zj Gg).names _=true;decide +kernel) (by decide) (λcl s H fp=>(an 0 Mo)) (λcl s H fp=>(Qs<|tc hkd hr (bn (bn (av 1)<|G9 Nm aI<|av 0) aI) aI)) (λcl s H fp=>(av 0)) λ_=>rfl) yp) yp) rfl rfl rfl rfl rfl rfl) wk)
  refine QB ?_;refine sj 3 Zr.nd ?_ ?_;exact(cq (PP T hkd) hr<|bc (av 0)<|bc aI<|bc aI<|bc (ax hkd (av 1) aI)<|bc (bn (cq (y_ T hkd) hr<|bc (av 0)<|bc aI zz) aI) zz);refine sj 4 Zr.nd ?_ ?_;exact(cq (G1 T hkd) hr<|bc (av 1) zz);refine sj 5 Zr.nd ?_ ?_;exact(BX RH T.W4 Bt.list<|bc (av 3) zz);refine sj 6 Zr.nd ?_ ?_;exact(cq (Np T hkd) hr<|bc (av 1)<|bc (av 3) zz);refine zK ?_ ?_;exact(v9 PassesOwn.never rfl (Ka<|ax hkd (av 1) aI) (Ur rfl (xB (an 7 Zr.nd) (xB (an 8 Zr.nd) WN rfl) rfl) rfl rfl) (z_<|Xn (XT<|Yl (cq (TK T hkd) hr<|bc (av 4)<|bc (av 3)<|bc (av 7)<|bc (av 8)<|bc (av 6) zz) λ_=>rfl) (z_<|xu aB) wk) λ_=>rfl);exact z_<|xu<|Xu (ec hkd hr (av 4)<|av 1)<|QJ<|ec hkd hr (av 3)<|av 5)
end
abbrev uk(K:zzA)(x:Str)(f:Addr):Prop:=W.nsIn K mainGlobals x=some (some<|.ref f)
abbrev FnAt(K:zzA)(x q:Str)(s:Stmt)(f:Addr):Prop:=∃d,Fun K x q s f d
abbrev Fk(K:zzA)(x:Str)(s:Stmt)(f:Addr):Prop:=uk K x f/\FnAt K x x s f
def OQ{l:PySem.W.OpenLaw}{w:World}{K:zzA}{h:Heap}{mg:Str->Option Value}{fa:Addr}(X:K.In h)(G:h.Ns mainGlobals mg)(hfa:mg "law"=some (.ref fa))
 {f0 f1 f2 f3 f4 f5 f6 f7 f8 f9 f10 f11 f12 f13 f14 f15 f16 f17 f18 f19 f20 f21 f22 f23 f24 f25 f26 f27:Addr}
 (a0:Fk K "nothing_fails" xC f0)
 (a1:Fk K "parting_fails" xF f1)
 (a2:Fk K "doing_fails" wg f2)
 (a3:Fk K "deeds_fail" wV f3)
 (a4:Fk K "what_fails" w_ f4)
 (a5:Fk K "check_let_by" xW f5)
 (a6:Fk K "two_of" WC f6)
 (a7:Fk K "following" vG f7)
 (a8:uk K "take_new" f8) (l8:FnAt K "take_new" "take_new" ZC f8)
 (a9:Fk K "coming" Yx f9)
 (a10:Fk K "comes" Qy f10)
 (a11:Fk K "_law_cell_at" wo f11)
 (a12:Fk K "_law_mixed" vM f12)
 (a13:Fk K "_law_whole" vR f13)
 (a14:Fk K "_law_words" vN f14)
 (a15:Fk K "_law_common" wZ f15)
 (a16:Fk K "_law_joined_by" xD f16)
 (a17:Fk K "_law_images" wY f17)
 (a18:Fk K "_law_done_by" we f18)
 (a19:Fk K "_law_kinds" vZ f19)
 (a20:Fk K "_law_stream" wX f20)
 (a21:Fk K "_law_algebra" yG f21)
 (a22:Fk K "_law_copy" Zw f22)
 (a23:Fk K "_law_values" wW f23)
 (a24:Fk K "_law_all" YN f24)
 (a25:Fk K "_law_ahead" vI f25)
 (a26:Fk K "_law_right" xk f26)
 (a27:Fk K "law" Gg f27)
 (z0:W.nsIn K mainGlobals "bool"=some none) (z1:W.nsIn K mainGlobals "dict"=some none) (z2:W.nsIn K mainGlobals "enumerate"=some none) (z3:W.nsIn K mainGlobals "int"=some none) (z4:W.nsIn K mainGlobals "isinstance"=some none) (z5:W.nsIn K mainGlobals "len"=some none) (z6:W.nsIn K mainGlobals "list"=some none) (z7:W.nsIn K mainGlobals "max"=some none) (z8:W.nsIn K mainGlobals "range"=some none) (z9:W.nsIn K mainGlobals "set"=some none) (z10:W.nsIn K mainGlobals "sorted"=some none) (z11:W.nsIn K mainGlobals "tuple"=some none):
 ∃fd:FuncData,(∀(s:Shared) (v:Value),BindsTo s fd ⟨[v],[]⟩ [("_law_script",v)])/\∀base:Heap,K.In base->base.Ns mainGlobals mg->FnOk l.prog w K mg base Tf 8 fa fd ["_law_script"] (Af K RF):=by
 have e:=hfa.symm.trans<|W.mg_of X G a27.1;cases e;obtain⟨a0,_,F0⟩:=a0;obtain⟨a1,_,F1⟩:=a1;obtain⟨a2,_,F2⟩:=a2;obtain⟨a3,_,F3⟩:=a3;obtain⟨a4,_,F4⟩:=a4;obtain⟨a5,_,F5⟩:=a5;obtain⟨a6,_,F6⟩:=a6;obtain⟨a7,_,F7⟩:=a7;obtain⟨_,F8⟩:=l8;obtain⟨a9,_,F9⟩:=a9;obtain⟨a10,_,F10⟩:=a10;obtain⟨a11,_,F11⟩:=a11;obtain⟨a12,_,F12⟩:=a12;obtain⟨a13,_,F13⟩:=a13;obtain⟨a14,_,F14⟩:=a14;obtain⟨a15,_,F15⟩:=a15;obtain⟨a16,_,F16⟩:=a16;obtain⟨a17,_,F17⟩:=a17;obtain⟨a18,_,F18⟩:=a18;obtain⟨a19,_,F19⟩:=a19;obtain⟨a20,_,F20⟩:=a20;obtain⟨a21,_,F21⟩:=a21;obtain⟨a22,_,F22⟩:=a22;obtain⟨a23,_,F23⟩:=a23;obtain⟨a24,_,F24⟩:=a24;obtain⟨a25,_,F25⟩:=a25;obtain⟨a26,_,F26⟩:=a26;obtain⟨a27,_,F27⟩:=a27;obtain⟨_,_,_,_,_,_,_,_,_,rfl,_,_⟩:=F27.ex;let KL:List (Addr×List (Key×V)):=[];have hkd:YU l.prog w K (Dd KL):=CY λp m=>by
  exact absurd (show p ∈ ([]:List (Addr×List (Key×V)))from m) zxA
 have T:Txt K (Dd KL) mg ⟨_,_,_,_,_,_,_,_,_,_,_,_,_,_,_,_,_,_,_,_,_,_,_,_,_,_,_,_,_,_,_,_,_,_,_,_,_,_,_,_,_,_,_,_,_,_,_,_,_,_,_,_,_,_,_,_⟩:=⟨⟨F0,bs F0,W.mg_of X G a0⟩,⟨F1,bs F1,W.mg_of X G a1⟩,⟨F2,bs F2,W.mg_of X G a2⟩,⟨F3,bs F3,W.mg_of X G a3⟩,⟨F4,bs F4,W.mg_of X G a4⟩,⟨F5,bs F5,W.mg_of X G a5⟩,⟨F6,bs F6,W.mg_of X G a6⟩,⟨F7,bs F7,W.mg_of X G a7⟩,F8,bs F8,W.mg_of X G a8,⟨F9,bs F9,W.mg_of X G a9⟩,⟨F10,bs F10,W.mg_of X G a10⟩,⟨F11,bs F11,W.mg_of X G a11⟩,⟨F12,bs F12,W.mg_of X G a12⟩,⟨F13,bs F13,W.mg_of X G a13⟩,⟨F14,bs F14,W.mg_of X G a14⟩,⟨F15,bs F15,W.mg_of X G a15⟩,⟨F16,bs F16,W.mg_of X G a16⟩,⟨F17,bs F17,W.mg_of X G a17⟩,⟨F18,bs F18,W.mg_of X G a18⟩,⟨F19,bs F19,W.mg_of X G a19⟩,⟨F20,bs F20,W.mg_of X G a20⟩,⟨F21,bs F21,W.mg_of X G a21⟩,⟨F22,bs F22,W.mg_of X G a22⟩,⟨F23,bs F23,W.mg_of X G a23⟩,⟨F24,bs F24,W.mg_of X G a24⟩,⟨F25,bs F25,W.mg_of X G a25⟩,⟨F26,bs F26,W.mg_of X G a26⟩,⟨F27,bs F27,W.mg_of X G a27⟩,W.mg_none_of X G z0,W.mg_none_of X G z1,W.mg_none_of X G z2,W.mg_none_of X G z3,W.mg_none_of X G z4,W.mg_none_of X G z5,W.mg_none_of X G z6,W.mg_none_of X G z7,W.mg_none_of X G z8,W.mg_none_of X G z9,W.mg_none_of X G z10,W.mg_none_of X G z11⟩;exact⟨_,λs v=>.of_eq rfl,λbase _ _=>(Iv T hkd).F.imp λvs H Q E h=>h _⟩
def walk{l:PySem.W.OpenLaw}{q:Program}{loose:List Str}{XP:(Str->Option Value)->Heap->Prop}{YP:World->Heap->Prop}{d:DefRec}{K:Params->zzA}(hn:l.most=some 63)(hdf:d.params.defaults=[])
 (hY:∀(w:World) (h:Heap),YP w h->(K w.params).In h) (hm:∀ns:List Int,ns.length<=63->RF [(true,.lst<|ns.map D.int)]=some (.lf true<|.bl true))
 (F:∀(w:World) (mg:Str->Option Value) (fa:Addr) (h:Heap),(K w.params).In h->h.Ns mainGlobals mg->mg d.name=some (.ref fa)->
  ∃fd:FuncData,(∀(s:Shared) (u:Value),BindsTo s fd ⟨[u],[]⟩ [("_law_script",u)])/\∀base:Heap,(K w.params).In base->base.Ns mainGlobals mg->FnOk l.prog w (K w.params) mg base Tf 8 fa fd ["_law_script"] (Af (K w.params) RF)):
 PySem.W.WalkO q loose XP YP l.row.toRowW d [] (λf vs=>PySem.call f vs):=
 L2.walk_of (n:=63) (k:=8) (x:="_law_script") (CX:=λ_=>Tf) (sp:=λw=>Af (K w.params) RF) hn (by decide) hdf ⟨rfl,by decide,by decide,rfl⟩ hY F (λ_ _ a ns hl _ hS kd=>O3 (hm ns hl) hS) λ_ _ _ _ _ z=>z
local macro_rules | `(tactic| trivial)=>`(tactic| first|with_reducible first|assumption|exact Int.natCast_nonneg _|exact Nat.le_refl _|exact Int.le_refl _|exact rfl|exact GK (by assumption)|exact Tj (by assumption)|exact np2 (by assumption)|exact nq1 (by assumption)|exact nq2 (by assumption)|exact Int.natCast_pos.mpr (by assumption)|exact Nat.le_trans (by assumption) (by decide)|exact bgL _|exact bgU (by assumption)|exact mU (by assumption)|exact zI _|exact bL0 (by assumption)|exact bU0 (by assumption) (by assumption)|exact iL (by assumption)|exact iU (by assumption) (by assumption)|exact iC (by assumption)|exact iT (by assumption)|exact stL (by assumption)|exact stU (by assumption)|exact lnK (by assumption) (by assumption) (by assumption)|exact zi1 _|exact lnE (by assumption)|exact ltL (by assumption)|exact Int.toNat_of_nonneg (by assumption)|exact tS (by assumption) (by assumption)|exact b6 (by assumption)|exact Int.emod_nonneg _ (by decide)|exact Int.emod_lt_of_pos _ (by decide)|decide|omega)
abbrev FT:=Option<|List D
def oD:FT->D
 |none=>.non
 |some ds=>.tup ds
def fs(n:Nat)(t:Int->FT):FT:=(List.range n).findSome? λi:Nat=>t (i:Int)
abbrev R4(r:Option Out)(I:AS->Prop)(t:FT):Prop:=(t=none/\∃as',r=some (.nx as')/\I as')\/∃ds,t=some ds/\Rt r (.tup ds)
def Sr{g:GF}{f:SF}{d:ZV}{r:List ZV}{as as1:AS}{x:D}(h1:g d as=some as1)(h2:Rt (f as1) x):Rt (forL g f (d::r) as) x:=by
 obtain⟨o,e1,e2⟩:=h2;exact⟨o,Mu h1 e1,e2⟩
theorem A0{α:Type}{g:GF}{f:SF}{it:α->ZV}(I:AS->Prop)(t:α->FT):∀(l:List α),(∀x ∈ l,∀as,I as->∃as1,g (it x) as=some as1/\R4 (f as1) I (t x))->∀as,I as->R4 (forL g f (l.map it) as) I (l.findSome? t)
 | [],_,as,h=>.inl ⟨rfl,as,rfl,h⟩
 |x::l,H,as,h=>by
  obtain⟨as1,h1,h2⟩:=H x zzF as h
  rcases h2 with⟨e,as2,h2,h3⟩|⟨ds,e,h2⟩
  . have k:=A0 I t l (λy my=>H y<|zzD _ my) as2 h3;rw[List.findSome?_cons,e]
    rcases k with⟨e',as3,k1,k2⟩|⟨ds,e',o,k1,k2⟩
    . exact .inl ⟨e',as3,wa h1 h2 k1,k2⟩
    . exact .inr ⟨ds,e',o,wa h1 h2 k1,k2⟩
  . rw[List.findSome?_cons,e];exact .inr ⟨ds,rfl,Sr h1 h2⟩
def VR{v n:Nat}{f:SF}(I:AS->Prop)(t:Int->FT)(H:∀b,zJ n b->∀as,I as->∃as1,gN v (true,.int b) as=some as1/\R4 (f as1) I (t b)){as:AS}(h:I as):R4 (forL (gN v) f (yJ 0 n) as) I (fs n t):=by
 refine A0 I (λi:Nat=>t i) (List.range n) (λi mi as hI=>?_) as h;have:=List.mem_range.mp mi;rw[Int.zero_add];exact H i ⟨by omega,by omega⟩ as hI
def SG{c:TF}{f:EF}{as:AS}{q:Bool}{ds:List D}{I:AS->Prop}(ht:WT c as q)(hf:WE f as (.tup ds))(hI:I as):R4 (wJ c (zX f) vS as) I (if q=true then some ds else none):=by
 cases q with
 |true=>exact .inr ⟨ds,rfl,Po ht<|xI hf⟩
 |false=>exact .inl ⟨rfl,as,yc ht rfl,hI⟩
def R4.seq{f g:SF}{as as1:AS}{I:AS->Prop}{t:FT}(h:f as=some (.nx as1))(k:R4 (g as1) I t):R4 (zf f g as) I t:=by
 rcases k with⟨e,a,b,c⟩|⟨ds,e,b⟩
 . exact .inl ⟨e,a,zk h b,c⟩
 . exact .inr ⟨ds,e,zF h b⟩
theorem R4.imp{r:Option Out}{I I':AS->Prop}{t:FT}(h:R4 r I t)(k:∀as,I as->I' as):R4 r I' t:=Or.imp (λ⟨e,a,b,c⟩=>⟨e,a,b,k a c⟩) id h
def R4.rt{f g:SF}{as:AS}{I:AS->Prop}{t t':FT}(h:R4 (f as) I t)(k:∀as',I as'->Rt (g as') (oD t')):Rt (zf f g as) (oD<|t.or t'):=by
 rcases h with⟨rfl,as',h1,h2⟩|⟨ds,rfl,h1⟩
 . exact zF h1<|k as' h2
 . exact Qv h1
def or_none{t:FT}:t.or none=t:=by cases t<;>rfl
section
variable{S:Option O->Option O->Option O->AS}{vj vn ve:Nat}{J T:TZ}{n m:Nat}{e:Int}{Ds:DD}{SS':SS}
def tU(n:Nat)(J:TZ)(e:Int):FT:=fs n λa=>if(!(yL J e a==a) || !(yL J a e==a))=true then some [.str "nothing",.int a]else none
def tA(n:Nat)(J:TZ):FT:=fs n λa=>fs n λb=>fs n λc=>if(!(yL J (yL J a b) c==yL J a (yL J b c)))=true then some [.str "parting",.int a,.int b,.int c]else none
def tD(n m:Nat)(J T:TZ)(s:Str):FT:=fs n λa=>fs m λi=>fs n λb=>fs m λk=>if(!(yL T ((i+k)%m) (yL J a b)==yL J (yL T i a) (yL T k b)))=true then some [.str "doing",.str s,.int a,.int i,.int b,.int k]else none
def uY{va:Nat}{x y z:Option O}(hJ:Tab n n J)(he:zJ n e)(hj:∀x y z,(S x y z)[vj]? = some (sT<|zY J))(hv:∀x y z,(S x y z)[ve]? = some (sI e))(h3:∀x y z,(S x y z)[va]? = some x)(g3:∀d x y z,gN va (true,d) (S x y z)=some (S (sT d) y z)):
 R4 (forL (gN va) (wJ (Vn (fT<|f2 (f2 (f2 (fV vj) (fV ve) zo) (fV va) zo) (fV va)<|zr .NotEq)<|fT<|f2 (f2 (f2 (fV vj) (fV va) zo) (fV ve) zo) (fV va)<|zr .NotEq) (zX<|yb<|dC (fC<|.str "nothing")<|dC (fV va) dN) vS) (yJ 0 n)<|S x y z) (λas=>∃x,as=S x y z) (tU n J e):=by
 refine VR (λas=>∃x,as=S x y z) _ (λa ha as hI=>?_) ⟨x,rfl⟩;obtain⟨x,rfl⟩:=hI;have w3:WD (fV va) (S (sI a) y z) true (.int a):=za<|h3 _ _ _;have t1:=E5 (vm hJ he ha (za<|hj (sI a) y z) (za<|hv (sI a) y z) w3) w3;have t2:=E5 (vm hJ ha he (za<|hj (sI a) y z) w3<|za<|hv (sI a) y z) w3;exact⟨S (sI a) y z,g3 _ _ _ _,SG (Uq t1 (λh=>by rw[h,Bool.false_or];exact t2) λh=>by rw[h];rfl) (NZ (zC zb<|zC w3 zT) (Y3 rfl) rfl rfl) ⟨_,rfl⟩⟩
abbrev AY(vj va vb vc:Nat):SF:=wJ (fT<|f2 (f2 (f2 (fV vj) (f2 (f2 (fV vj) (fV va) zo) (fV vb) zo) zo) (fV vc) zo) (f2 (f2 (fV vj) (fV va) zo) (f2 (f2 (fV vj) (fV vb) zo) (fV vc) zo) zo)<|zr .NotEq) (zX<|yb<|dC (fC<|.str "parting")<|dC (fV va)<|dC (fV vb)<|dC (fV vc) dN) vS
abbrev IV(vj vn va vb vc:Nat):SF:=yw (yk (aC (fV vn) aN) yn) (gN vb)<|yw (yk (aC (fV vn) aN) yn) (gN vc)<|AY vj va vb vc
def uB{va vb vc:Nat}{x y z:Option O}(n8:n<=8)(hJ:Tab n n J)(hj:∀x y z,(S x y z)[vj]? = some (sT<|zY J))(hn:∀x y z,(S x y z)[vn]? = some (sI n))(h3:∀x y z,(S x y z)[va]? = some x)(h4:∀x y z,(S x y z)[vb]? = some y)(h5:∀x y z,(S x y z)[vc]? = some z)
 (g3:∀d x y z,gN va (true,d) (S x y z)=some (S (sT d) y z)) (g4:∀d x y z,gN vb (true,d) (S x y z)=some (S x (sT d) z)) (g5:∀d x y z,gN vc (true,d) (S x y z)=some (S x y<|sT d)):
 R4 (forL (gN va) (IV vj vn va vb vc) (yJ 0 n)<|S x y z) (λas=>∃x y z,as=S x y z) (tA n J):=by
 refine VR (λas=>∃x y z,as=S x y z) _ (λa ha as hI=>?_) ⟨x,y,z,rfl⟩;obtain⟨x,y,z,rfl⟩:=hI;refine⟨_,g3 _ _ _ _, ?_⟩;unfold IV;rw[wq (hn _ _ _)<|by trivial];refine(VR (λas=>∃y z,as=S (sI a) y z) _ (λb hb as hI=>?_) ⟨y,z,rfl⟩).imp λas ⟨y,z,e⟩=>⟨_,y,z,e⟩;obtain⟨y,z,rfl⟩:=hI;refine⟨_,g4 _ _ _ _, ?_⟩;rw[wq (hn _ _ _)<|by trivial];refine(VR (λas=>∃z,as=S (sI a) (sI b) z) _ (λc hc as hI=>?_) ⟨z,rfl⟩).imp λas ⟨z,e⟩=>⟨_,z,e⟩;obtain⟨z,rfl⟩:=hI;have w3:WD (fV va) (S (sI a) (sI b)<|sI c) true (.int a):=za<|h3 _ _ _;have w4:WD (fV vb) (S (sI a) (sI b)<|sI c) true (.int b):=za<|h4 _ _ _;have w5:WD (fV vc) (S (sI a) (sI b)<|sI c) true (.int c):=za<|h5 _ _ _;have wj:WD (fV vj) (S (sI a) (sI b)<|sI c) true (zY J):=za<|hj _ _ _;have ab:=Vz hJ ha hb;have bc:=Vz hJ hb hc;exact⟨_,g5 _ _ _ _,SG (E5 (vm hJ ab hc wj (vm hJ ha hb wj w3 w4) w5)<|vm hJ ha bc wj w3<|vm hJ hb hc wj w4 w5) (NZ (zC zb<|zC w3<|zC w4<|zC w5 zT) (Y3 rfl) rfl rfl) ⟨_,rfl⟩⟩
end
section
variable{n m:Nat}{J T:TZ}{e:Int}{Ds:DD}{S:SS}
def KG(n8:n<=8)(hJ:Tab n n J)(he:zJ n e):RE (wL [(true,zt n m J e Ds S)]) (oD<|tU n J e):=by
 have s1:zm true 1 (f2 zl ye zo) [sT<|zt n m J e Ds S,none,none,none]=some (.nx [sT<|zt n m J e Ds S,sT<|zY J,none,none]):=yd (yi (za rfl) zb rfl)<|zh rfl;have s2:zm true 2 (f2 zl Z5 zo) [sT<|zt n m J e Ds S,sT<|zY J,none,none]=some (.nx [sT<|zt n m J e Ds S,sT<|zY J,sI e,none]):=yd (yi (za rfl) zb rfl)<|zh rfl;have k:=uY (S:=λx _ _=>[sT<|zt n m J e Ds S,sT<|zY J,sI e,x]) (x:=none) (y:=none) (z:=none) (va:=3) (vj:=1) (ve:=2) hJ he (λ_ _ _=>rfl) (λ_ _ _=>rfl) (λ_ _ _=>rfl) λ_ _ _ _=>rfl;have hr:=yK (as:=[sT<|zt n m J e Ds S,sT<|zY J,sI e,none]) (ze (yi (g:=zo) (za (i:=0) rfl) (zb (x:=.int 0)) rfl) zA) (by trivial) (by trivial);rw[zyH]at hr;refine wF rfl<|zF s1<|zF s2 ?_;rw[<-or_none (t:=tU n J e)];refine R4.rt (I:=λas=>∃x,as=[sT<|zt n m J e Ds S,sT<|zY J,sI e,x]) ?_ λ_ _=>xI<|WD.e zb;rw[xb hr rfl];exact k
def Kv(n8:n<=8)(hJ:Tab n n J):RE (wK [(true,zt n m J e Ds S)]) (oD<|tA n J):=by
 have s1:zm true 1 (f2 zl zP zo) [sT<|zt n m J e Ds S,none,none,none,none,none]=some (.nx [sT<|zt n m J e Ds S,sI n,none,none,none,none]):=yd (yi (za rfl) zb rfl)<|zh rfl;have s2:zm true 2 (f2 zl ye zo) [sT<|zt n m J e Ds S,sI n,none,none,none,none]=some (.nx [sT<|zt n m J e Ds S,sI n,sT<|zY J,none,none,none]):=yd (yi (za rfl) zb rfl)<|zh rfl;have k:=uB (S:=λx y z=>[sT<|zt n m J e Ds S,sI n,sT<|zY J,x,y,z]) (x:=none) (y:=none) (z:=none) (va:=3) (vb:=4) (vc:=5) (vj:=2) (vn:=1) n8 hJ (λ_ _ _=>rfl) (λ_ _ _=>rfl) (λ_ _ _=>rfl) (λ_ _ _=>rfl) (λ_ _ _=>rfl) (λ_ _ _ _=>rfl) (λ_ _ _ _=>rfl) λ_ _ _ _=>rfl;rw[<-wq (v:=1) rfl (by trivial)]at k;refine wF rfl<|zF s1<|zF s2 ?_;rw[<-or_none (t:=tA n J)];exact k.rt λ_ _=>xI<|WD.e zb
end
section
variable{n m:Nat}{J T:TZ}{e:Int}{Ds:DD}{S:SS}
abbrev D3:SF:=(wJ (fT<|f2 (f2 (f2 zW (f2 (f2 Z4 (fV 9) zq) yh zg) zo) (f2 (f2 yo y7 zo) (fV 8) zo) zo) (f2 (f2 yo (f2 (f2 zW Z4 zo) y7 zo) zo) (f2 (f2 zW (fV 9) zo) (fV 8) zo) zo)<|zr .NotEq) (zX<|yb<|dC (fC<|.str "doing")<|dC zE<|dC y7<|dC Z4<|dC (fV 8)<|dC (fV 9) dN) vS)
abbrev Tg(n m:Nat)(J T:TZ)(e:Int)(Ds:DD)(S:SS)(s:Str)(x y z w:Option O):AS:=[sT<|zt n m J e Ds S,sT<|.str s,sT<|zY T,sI n,sI m,sT<|zY J,x,y,z,w]
def uv{s:Str}{a i b k:Int}(hJ:Tab n n J)(hT:Tab m n T)(m1:1<=m)(ha:zJ n a)(hi:zJ m i)(hb:zJ n b)(hk:zJ m k):R4 (D3<|Tg n m J T e Ds S s (sI a) (sI i) (sI b)<|sI k) (λas=>∃w,as=Tg n m J T e Ds S s (sI a) (sI i) (sI b) w) (if(!(yL T ((i+k)%m) (yL J a b)==yL J (yL T i a) (yL T k b)))=true then some [.str "doing",.str s,.int a,.int i,.int b,.int k]else none):=by
 have w2:WD zW (Tg n m J T e Ds S s (sI a) (sI i) (sI b)<|sI k) true (zY T):=za rfl;have w5:WD yo (Tg n m J T e Ds S s (sI a) (sI i) (sI b)<|sI k) true (zY J):=za rfl;have w6:WD y7 (Tg n m J T e Ds S s (sI a) (sI i) (sI b)<|sI k) true (.int a):=za rfl;have w7:WD Z4 (Tg n m J T e Ds S s (sI a) (sI i) (sI b)<|sI k) true (.int i):=za rfl;have w8:WD (fV 8) (Tg n m J T e Ds S s (sI a) (sI i) (sI b)<|sI k) true (.int b):=za rfl;have w9:WD (fV 9) (Tg n m J T e Ds S s (sI a) (sI i) (sI b)<|sI k) true (.int k):=za rfl;obtain⟨q1,q2⟩:=Z6 hT hi ha w2 w7 w6;obtain⟨q3,q4⟩:=Z6 hT hk hb w2 w9 w8;obtain⟨q5,q6⟩:=Z6 hT (WX m1) (Vz hJ ha hb) w2 (zL (zZ w7 w9) (za (i:=4) rfl)<|by trivial)<|vm hJ ha hb w5 w6 w8;exact SG (E5 q5<|vm hJ q2 q4 w5 q1 q3) (NZ (zC zb<|zC (za rfl)<|zC w6<|zC w7<|zC w8<|zC w9 zT) (Y3 rfl) rfl rfl) ⟨_,rfl⟩
def Fu{s:Str}(n8:n<=8)(m1:1<=m)(m6:m<=6)(hJ:Tab n n J)(hT:Tab m n T):RE (wu [(true,zt n m J e Ds S),(true,.str s),(true,zY T)]) (oD<|tD n m J T s):=by
 have k:R4 (forL (gN 6) (yw (yk (aC yh aN) yn) (gN 7)<|yw (yk QK yn) (gN 8)<|yw (yk (aC yh aN) yn) (gN 9) D3) (yJ 0 n)<|Tg n m J T e Ds S s none none none none) (λas=>∃x y z w,as=Tg n m J T e Ds S s x y z w) (tD n m J T s):=by
  refine VR (λas=>∃x y z w,as=Tg n m J T e Ds S s x y z w) _ (λa ha as hI=>?_) ⟨_,_,_,_,rfl⟩;obtain⟨x,y,z,w,rfl⟩:=hI;refine⟨Tg n m J T e Ds S s (sI a) y z w,rfl, ?_⟩;rw[wq rfl<|by trivial];refine(VR (λas=>∃y z w,as=Tg n m J T e Ds S s (sI a) y z w) _ (λi hi as hI=>?_) ⟨_,_,_,rfl⟩).imp λas ⟨y,z,w,e⟩=>⟨_,y,z,w,e⟩;obtain⟨y,z,w,rfl⟩:=hI;refine⟨Tg n m J T e Ds S s (sI a) (sI i) z w,rfl, ?_⟩;rw[wq rfl<|by trivial];refine(VR (λas=>∃z w,as=Tg n m J T e Ds S s (sI a) (sI i) z w) _ (λb hb as hI=>?_) ⟨_,_,rfl⟩).imp λas ⟨z,w,e⟩=>⟨_,z,w,e⟩;obtain⟨z,w,rfl⟩:=hI;refine⟨Tg n m J T e Ds S s (sI a) (sI i) (sI b) w,rfl, ?_⟩;rw[wq rfl<|by trivial];refine(VR (λas=>∃w,as=Tg n m J T e Ds S s (sI a) (sI i) (sI b) w) _ (λk hk as hI=>?_) ⟨_,rfl⟩).imp λas ⟨w,e⟩=>⟨_,w,e⟩;obtain⟨w,rfl⟩:=hI;exact⟨_,rfl,uv hJ hT m1 ha hi hb hk⟩
 rw[<-wq (v:=3) rfl (by trivial)]at k;have s3:zm true 3 (f2 zl zP zo) [sT<|zt n m J e Ds S,sT<|.str s,sT<|zY T,none,none,none,none,none,none,none]=some (.nx [sT<|zt n m J e Ds S,sT<|.str s,sT<|zY T,sI n,none,none,none,none,none,none]):=yd (yi (za rfl) zb rfl)<|zh rfl;have s4:zm true 4 (f2 zl zH zo) [sT<|zt n m J e Ds S,sT<|.str s,sT<|zY T,sI n,none,none,none,none,none,none]=some (.nx [sT<|zt n m J e Ds S,sT<|.str s,sT<|zY T,sI n,sI m,none,none,none,none,none]):=yd (yi (za rfl) zb rfl)<|zh rfl;have s5:zm true 5 (f2 zl ye zo) [sT<|zt n m J e Ds S,sT<|.str s,sT<|zY T,sI n,sI m,none,none,none,none,none]=some (.nx<|Tg n m J T e Ds S s none none none none):=yd (yi (za rfl) zb rfl)<|zh rfl;refine wF rfl<|zF s3<|zF s4<|zF s5 ?_;rw[<-or_none (t:=tD n m J T s)];exact k.rt λ_ _=>xI<|WD.e zb
end
section
variable{n m:Nat}{J T:TZ}{e:Int}{Ds:DD}{S:SS}
def R4.thn{f g:SF}{as:AS}{I I':AS->Prop}{t t':FT}(h:R4 (f as) I t)(k:∀as',I as'->R4 (g as') I' t'):R4 (zf f g as) I' (t.or t'):=by
 rcases h with⟨rfl,as',h1,h2⟩|⟨ds,rfl,h1⟩
 . rcases k as' h2 with⟨e,a,b,c⟩|⟨ds,e,b⟩
   . exact .inl ⟨e,a,zk h1 b,c⟩
   . exact .inr ⟨ds,e,zF h1 b⟩
 . exact .inr ⟨ds,rfl,Qv h1⟩
def tE(n m:Nat)(J:TZ)(e:Int)(p:Str×TZ):FT:=(if(!(yL p.2 0 e==e))=true then some [.str "empty",.str p.1]else none).or<|tD n m J p.2 p.1
def tW(n m:Nat)(J:TZ)(e:Int)(Ds:DD):FT:=((tU n J e).or<|tA n J).or<|Ds.findSome?<|tE n m J e
def OY{t:FT}:zr .Is (oD t) .non=some (.im<|.bl t.isNone):=by cases t<;>rfl
def BN{t:FT}:zr .IsNot (oD t) .non=some (.im<|.bl t.isSome):=by cases t<;>rfl
def u7{as:AS}{i:Nat}{t:FT}(h:as[i]? = some (sT<|oD t)):WT (fT<|f2 (fV i) (fC .non)<|zr .Is) as t.isNone:=ya (yj (za h) (zb) OY rfl) rfl
def DI{as:AS}{i:Nat}{t:FT}(h:as[i]? = some (sT<|oD t)):WT (fT<|f2 (fV i) (fC .non)<|zr .IsNot) as t.isSome:=ya (yj (za h) (zb) BN rfl) rfl
def Fh(A:Alg n m J e Ds):RE (ZD [(true,zt n m J e Ds S)]) (oD<|Ds.findSome?<|tE n m J e):=by
 have n8:=A.n8;have m1:=A.m1;have s1:zm true 1 (f2 zl Z5 zo) [sT<|zt n m J e Ds S,none,none,none,none]=some (.nx [sT<|zt n m J e Ds S,sI e,none,none,none]):=yd (yi (za rfl) zb rfl)<|zh rfl;have k:=A0 (g:=gT 2<|yT (gN 2)<|yT (gN 3) YS) (f:=(zf (wJ (fT<|f2 (f2 (f2 yf zP zo) zE zo) zE<|zr .NotEq) (zX<|yb<|dC (fC<|.str "empty")<|dC zW dN) vS)
  (zf (zm true 4<|zp (aC zl<|aC zW QK) wu)
  (wJ (fT<|f2 yh (fC .non)<|zr .IsNot) (zX yh) vS)))) (it:=λp:Str×TZ=>(true,y8 p)) (λas=>∃(x y z:Option O),as=[sT<|zt n m J e Ds S,sI e,x,y,z]) (tE n m J e) Ds (λp mp as hI=>by
   obtain⟨x,y,z,rfl⟩:=hI;have hT:=A.ds p mp;obtain⟨q1,_⟩:=Z6 (as:=[sT<|zt n m J e Ds S,sI e,sT<|.str p.1,sT<|zY p.2,z]) hT ⟨by trivial,by trivial⟩ ⟨A.e0,A.en⟩ (za (i:=3) rfl) (zb)<|za (i:=1) rfl;have t1:=E5 q1<|za (i:=1) rfl;refine⟨_,rfl, ?_⟩;refine(SG t1 (NZ (zC zb<|zC (za rfl) zT) (Y3 rfl) rfl rfl) rfl).thn λas' hI=>?_;subst hI;refine R4.seq (xY (Kr (WD.e<|za rfl) (WD.e<|za rfl) (WD.e<|za rfl)<|Fu n8 m1 A.m6 A.j hT)<|zh rfl) ?_;have tt:=DI (as:=[sT<|zt n m J e Ds S,sI e,sT<|.str p.1,sT<|zY p.2,sT<|oD<|tD n m J p.2 p.1]) (i:=4) rfl;generalize tD n m J p.2 p.1=t at tt;cases t with
   |none=>exact .inl ⟨rfl,_,yc tt rfl,_,_,_,rfl⟩
   |some ds=>exact .inr ⟨ds,rfl,Po tt<|xI<|WD.e<|za rfl⟩) [sT<|zt n m J e Ds S,sI e,none,none,none] ⟨_,_,_,rfl⟩
 refine wF rfl<|zF s1 ?_;rw[<-or_none (t:=Ds.findSome?<|tE n m J e)];refine R4.rt (I:=λas=>∃(x y z:Option O),as=[sT<|zt n m J e Ds S,sI e,x,y,z]) ?_ λ_ _=>xI<|WD.e zb;have hi:=HK (as:=[sT<|zt n m J e Ds S,sI e,none,none,none]) (f:=f2 zl wU zo)<|yi (za rfl) zb rfl;rw[zyA]at hi;rw[xb hi rfl];exact k
def S7(A:Alg n m J e Ds):RE (Zp [(true,zt n m J e Ds S)]) (oD<|tW n m J e Ds):=by
 have r1:=KG (m:=m) (Ds:=Ds) (S:=S) A.n8 A.j ⟨A.e0,A.en⟩;have r2:=Kv (m:=m) (e:=e) (Ds:=Ds) (S:=S) A.n8 A.j;have r3:=Fh (S:=S) A;have s1:=xY (as:=yF 2 [(true,zt n m J e Ds S)]) (p:=1) (WV (WD.e<|za (i:=0) rfl) r1)<|zh rfl;have st:∀(t t':FT) g,RE (g [(true,zt n m J e Ds S)]) (oD t')->wJ (fT<|f2 zE (fC .non)<|zr .Is) (zm true 1<|zp Vl g) vS [sT<|zt n m J e Ds S,sT<|oD t]=some (.nx [sT<|zt n m J e Ds S,sT<|oD<|t.or t']):=λt t' g hg=>by
  have tt:=u7 (as:=[sT<|zt n m J e Ds S,sT<|oD t]) (i:=1) rfl;cases t with
  |none=>exact xG tt (xY (WV (WD.e<|za rfl) hg)<|zh rfl)
  |some ds=>exact yc tt rfl
 exact wF rfl<|zF s1<|zF (st _ _ _ r2)<|zF (st _ _ _ r3)<|xI<|WD.e<|za rfl
end
section
variable{n m:Nat}{J T:TZ}{e:Int}{Ds:DD}{S:SS}
theorem Xj{f:D->D->Option Bool}:∀xs:List D,(∀x ∈ xs,f x x=some true)->E8 f xs xs=some true
 | [],_=>rfl
 |x::r,h=>by
  show((f x x).bind λb=>(E8 f r r).bind λc=>some _)=_;rw[h x zzF,Xj r λy my=>h y<|zzD _ my];rfl
end
def Fs{a b c d k:EF}{as:AS}{x y z u v w:D}{g:List (Bool×D)->Option O}(ha:WE a as x)(hb:WE b as y)(hc:WE c as z)(hd:WE d as u)(hk:WE k as v)(hg:RE (g [(true,x),(true,y),(true,z),(true,u),(true,v)]) w):WE (zp (aC a<|aC b<|aC c<|aC d<|aC k aN) g) as w:=by
 obtain⟨o,h1,h2⟩:=hg;exact⟨o,wA (Z2 ha<|Z2 hb<|Z2 hc<|Z2 hd<|Z2 hk zA) (by show g [(zB x||true,x),(zB y||true,y),(zB z||true,z),(zB u||true,u),(zB v||true,v)]=_;rw[zyC,zyC,zyC,zyC,zyC];exact h1),h2⟩
open L2 (zM)
def mx(c k:Int):Int:=((c%2147483647*48271+k*k*69621+7919)%2147483647*((c%2147483647*48271+k*k*69621+7919)%2147483647)+16807*((c%2147483647*48271+k*k*69621+7919)%2147483647)+k)%2147483629
abbrev St(x:Int):Prop:=0<=x/\x<2147483647
def IL(c k:Int):St (mx c k):=⟨zyM _ (by decide),Int.lt_trans (zyG _<|by decide)<|by decide⟩
def QN{c k:Int}{s t:Bool}(k0:0<=k)(k1:k<=1000):xh [(s,.int c),(t,.int k)]=sI (mx c k):=by
 have c0:=zyM c (show 2147483647≠0 by decide);have c1:=zyG c (show 0<2147483647 by decide);have kk0:=Int.mul_nonneg k0 k0;have kk1:=Int.mul_le_mul k1 k1 k0 (by decide);have u0:=zyM (c%2147483647*48271+k*k*69621+7919) (show 2147483647≠0 by decide);have u1:=zyG (c%2147483647*48271+k*k*69621+7919) (show 0<2147483647 by decide);have bk:k.natAbs<big:=zD (by omega) (by omega);have bu:((c%2147483647*48271+k*k*69621+7919)%2147483647).natAbs<big:=zD (by omega) (by omega);exact xx rfl<|zk (yd (zL (zZ (zZ (yZ (zL (za rfl) zb<|by decide) zb (zD (by omega)<|by omega)<|zD (by decide)<|by decide)<|yZ (yZ (za rfl) (za rfl) bk bk) zb (zD (by omega)<|by omega)<|zD (by decide)<|by decide) zb) zb<|by decide)<|zh rfl)
  (XR<|zL (zZ (zZ (yZ (za rfl) (za rfl) bu bu)<|yZ zb (za rfl) (zD (by decide)<|by decide) bu)<|za rfl) zb<|by decide)
def Ws{ns:List Int}{k:Int}{s t:Bool}(hk:0<=k):∃x,zV [(s,.lst<|ns.map .int),(t,.int k)]=sT (.int x):=by
 by_cases h:k<((ns.map D.int).length:Int)
 . obtain⟨x,hx⟩:=B0 hk (by rw[zzB]at h;exact h);exact⟨x,xx rfl<|vH<|xG (ya (Lw (za rfl)<|wC (ze (za rfl) zA) rfl rfl)<|congrArg some<|zyN h)<|XR<|yj (za rfl) (za rfl) hx rfl⟩
 . exact⟨0,xx rfl<|zk (yc (ya (Lw (za rfl)<|wC (ze (za rfl) zA) rfl rfl)<|congrArg some<|zyF h) rfl)<|XR zb⟩
def N7{c:Int}{m:Nat}(h1:m<=900):∃xs:List Int,xs.length=m/\(∀x ∈ xs,St x)/\RE (yX [(true,.int c),(true,.int m)]) (zi xs):=by
 obtain⟨as',hf,ys,r,e4,rfl,hl,hy⟩:=yV (g:=gN 4) (f:=wJ (fT<|f2 (f2 zl ye zg) zP<|zr .Eq) (zf (yy<|xo 2 (dC (f2 yf (fC<|.int 1000000007) zg) dN) xQ)<|zm true 3<|f2 yf (fC<|.int 1000000007) zc)<|yy<|xo 2 (dC (zp (aC yf<|aC yh aN) xh) dN) xQ)
  (λi as=>∃(ys:List Int) (r:Int) (e4:Option O),as=[sI c,sI m,sN<|ys.map xO,sI r,e4]/\ys.length=i/\∀y ∈ ys,St y)
  (yJ 0 m) 0 [sI c,sI m,sN [],sI<|c/2,none] (λi x as hx hI=>by
   obtain⟨ys,r,e4,rfl,hl,hy⟩:=hI;obtain⟨rfl,hi⟩:=yD hx;have tt:WT (fT<|f2 (f2 zl ye zg) zP<|zr .Eq) [sI c,sI m,sN<|ys.map xO,sI r,sI<|0+i] (c%2==0):=ya (vJ (zL (za rfl) zb<|by decide) zb rfl) rfl;refine⟨_,rfl, ?_⟩;have fin:∀w,St w->(ys++[w]).length=0+i+1/\∀y ∈ ys++[w],St y:=λw hw=>⟨by rw[zzJ,hl];rfl,λy m=>(zzM.mp m).elim (hy y) λm=>by rw[zzR.mp m];exact hw⟩;cases hb:(c%2==0)with
   |true=>
    rw[hb]at tt;have w0:=zyM r (show 1000000007≠0 by decide);have w1:=zyG r (show 0<1000000007 by decide);have ap:=Vd (i:=2) (as:=[sI c,sI m,sN<|ys.map xO,sI r,sI<|0+i]) rfl (by rw[zzB];exact zM<|by omega) (zL (za (i:=3) rfl) (zb (x:=.int 1000000007))<|by decide);rw[<-Yb]at ap;exact⟨_,xG tt<|zk ap<|yd (yH (za rfl) zb (by decide)<|zD (by decide)<|by decide)<|zh rfl,ys++[r%1000000007],_,_,rfl,fin _ ⟨w0,by omega⟩⟩
   |false=>
    rw[hb]at tt;have ap:=Vd (i:=2) (as:=[sI c,sI m,sN<|ys.map xO,sI r,sI<|0+i]) rfl (by rw[zzB];exact zM<|by omega) (xU (ze (za (i:=3) rfl)<|ze (za (i:=4) rfl) zA)<|QN (by omega)<|by omega);rw[<-Yb]at ap;exact⟨_,yc tt ap,ys++[mx r<|0+i],_,_,rfl,fin _<|IL _ _⟩)
  ⟨[],c/2,none,rfl,rfl,λ_ m=>nomatch m⟩
 rw[ym]at hl;refine⟨ys,by omega,hy,wF rfl<|zF (yt (vD zT<|Y3 rfl)<|zh rfl)<|zF (yd (yH (za rfl) zb (by decide)<|zD (by decide)<|by decide)<|zh rfl)<|zF (xb (yK (ze (za rfl) zA) (by omega)<|by omega) hf) ⟨_,We rfl (y9 ys).2.1,(Yu ys).1,(Yu ys).2⟩⟩
def D2{a b:EF}{as:AS}{c:Int}{m:Nat}(hm:m<=900)(ha:WE a as (.int c))(hb:WE b as (.int m)):∃xs:List Int,xs.length=m/\(∀x ∈ xs,St x)/\WE (zp (aC a<|aC b aN) yX) as (zi xs):=by
 obtain⟨xs,h1,h2,h3⟩:=N7 hm;exact⟨xs,h1,h2,KJ ha hb h3⟩
def at2{xs:List Int}(h:∀x ∈ xs,St x){k:Int}(h0:0<=k)(h1:k<xs.length):∃x,zo (zi xs) (.int k)=some (.im<|.int x)/\St x:=O5 h0 h1 h
def NR{n m:Nat}(hn:0<n)(hn2:n<=8)(hm:m<=8):∃g:Int,0<g/\g<1000/\g ∣ (n:Int)/\g ∣ (m:Int)/\vd [(true,.int n),(true,.int m)]=sI g:=by
 obtain⟨g,e,g0,g1,d1,d2,hg⟩:=Kh m n 10000 (by trivial) (by trivial) (by trivial) (by trivial);exact⟨g,g0,g1,d1,d2,xx rfl<|zk hg<|XR<|za rfl⟩
def eqT{a b:EF}{as:AS}{x y:Int}{s t q:Bool}(ha:WD a as s (.int x))(hb:WD b as t (.int y))(e:(x==y)=q):WT (fT<|f2 a b<|zr .Eq) as q:=ya (vJ ha hb<|congrArg some e) rfl
def XZ{k:Int}{n:Nat}{a b:Int}(h:KN k n)(ha:zJ n a)(hb:zJ n b):yg [(true,.int k),(true,.int n),(true,.int a),(true,.int b)]=sI (jK k n a b):=by
 rcases h with⟨rfl,hn⟩|⟨rfl,hn⟩|⟨rfl,hn⟩|⟨rfl,rfl⟩
 . exact xx rfl (vH<|xG (eqT (za rfl) zb rfl)<|XR<|zL (zZ (za rfl)<|za rfl) (za rfl)<|by omega)
 . exact xx rfl<|zk (yc (eqT (za rfl) zb rfl) rfl)<|vH<|xG (eqT (za rfl) zb rfl)<|XR<|wC (ze (za rfl)<|ze (za rfl) zA) rfl rfl
 . exact xx rfl<|zk (yc (eqT (za rfl) zb rfl) rfl)<|zk (yc (eqT (za rfl) zb rfl) rfl)<|vH<|xG (eqT (za rfl) zb rfl)<|XR<|UZ (xR (zC (za rfl)<|zC (za rfl) zT) (Y3 rfl) rfl rfl) (WD.e<|wC (ze (vJ (za rfl) zb rfl) zA) rfl rfl)<|Fj.trans (by show _=some (R0.im<|.int<|jL a b);unfold jL;by_cases h:b=0<;>simp[h])
 . have P:∀a ∈ ([0,1,2,3]:List Int),∀b ∈ ([0,1,2,3]:List Int),yg [(true,.int 3),(true,.int (4:Nat)),(true,.int a),(true,.int b)]=sI (jK 3 4 a b):=by
    intro a ma b mb;simp only[zzC,zxA,or_false]at ma mb
    rcases ma with rfl|rfl|rfl|rfl<;>rcases mb with rfl|rfl|rfl|rfl<;>rfl
   exact f4 (λa m=>f4 (P a m) hb) ha
open L2 (zM)
abbrev uh:SF:=(zf (zm true 2<|f2 zW zE zc)
 (yy<|xo 3 (dC (f2 (yR<|dC (f2 zW zE zg)<|dC (f2 zH (f2 zW (f2 zE zH VC) zg) zq) dN) (f2 zl zH VC) zo) dN) xQ))
def EB{k x:Int}{n:Nat}(hk:k=1\/k=2)(hn:1<=n)(hn2:n<=8):∃(ys:List Int) (z:Int) (e4:Option O),ys.length=n-1/\(∀y ∈ ys,zJ n y/\(k=2->1<=y))/\forL G4 uh (yJ 1<|n-1) [sI k,sI n,sI x,sN [],none]=some (.nx [sI k,sI n,sI z,sN<|ys.map xO,e4]):=by
 obtain⟨as',hf,ys,z,e4,rfl,hl,hy⟩:=yV (g:=gN 4) (f:=uh)
  (λi as=>∃(ys:List Int) (z:Int) (e4:Option O),as=[sI k,sI n,sI z,sN<|ys.map xO,e4]/\ys.length=i/\∀y ∈ ys,zJ n y/\(k=2->1<=y))
  (yJ 1<|n-1) 0 [sI k,sI n,sI x,sN [],none] (λi y as hx hI=>by
   obtain⟨ys,z,e4,rfl,hl,hy⟩:=hI;obtain⟨rfl,hi⟩:=yD hx;have m0:=zyM (z/n) (show(n:Int)≠0 by omega);have m1:=zyG (z/n) (show(0:Int)<n by omega);have q0:=zyM (z/n) (show(n:Int)-1≠0 by omega);have q1:=zyG (z/n) (show 0<(n:Int)-1 by omega);have hp:zo (.lst [.int<|z/n%n,.int<|1+z/n%(n-1)]) (.int<|k-1)=some (.im<|.int (if k=1 then z/n%n else 1+z/n%(n-1))):=by rcases hk with rfl|rfl<;>rfl
   have ap:=Vd (i:=3) (as:=[sI k,sI n,sI<|z/n,sN<|ys.map xO,sI<|1+i]) rfl (by rw[zzB];exact zM<|by omega)<|UZ (xR (zC (zL (za (i:=2) rfl) (za (i:=1) rfl)<|by omega)<|zC (zZ zb<|zL (za (i:=2) rfl) (P9 (za (i:=1) rfl) zb)<|by omega) zT) (Y3 rfl) rfl rfl) (WD.e<|P9 (za (i:=0) rfl) zb) hp;rw[<-Yb]at ap;refine⟨_,rfl,_,zk (yd (yH (za rfl) (za rfl) (by omega)<|zD (by omega)<|by omega)<|zh rfl) ap,_,_,_,rfl,by rw[zzJ,hl];rfl,λy m=>(zzM.mp m).elim (hy y) λm=>?_⟩;rw[zzR.mp m]
   rcases hk with rfl|rfl
   . rw[if_pos rfl];exact⟨⟨m0,m1⟩,λh=>nomatch h⟩
   . rw[if_neg<|by decide];exact⟨⟨by omega,by omega⟩,λ_=>by omega⟩)
  ⟨[],x,none,rfl,rfl,λ_ m=>nomatch m⟩
 rw[ym]at hl;exact⟨ys,z,e4,by omega,hy,hf⟩
def NC{k x:Int}{n m:Nat}(h:KN k n)(h0:k≠0)(hn2:n<=8)(hm:0<m):∃r,Row n r/\LD n m (jK k n) (eK k) (λ_ a=>v7 r a)/\RE (Zs [(true,.int k),(true,.int n),(true,.int x)]) (zi r):=by
 have n1:=h.n1
 rcases h with⟨rfl,hn⟩|⟨rfl,hn⟩|⟨rfl,hn⟩|⟨rfl,rfl⟩
 . exact absurd rfl h0
 . obtain⟨ys,z,e4,l1,l2,hf⟩:=EB (.inl rfl) hn hn2;have hp:=sortI_perm ys;have hlen:(sortI ys).length=n-1:=by rw[hp.length_eq,l1]
   have hr:Row n (0::sortI ys):=⟨by rw[zzT,hlen];omega,λy m=>by
    rcases zzC.mp m with rfl|m
    . omega
    . exact(l2 y<|hp.mem_iff.mp m).1⟩
   have s3:=yt (i:=3) (as:=[sI 1,sI n,sI z,sN<|ys.map xO,e4]) (Oh (i:=3) (g:=FQ) rfl<|by
    show(vQ _).bind _=_;rw[Gi];show(if ys.length<64 then _ else _)=_;rw[if_pos<|by omega])<|zh rfl
   rw[La]at s3;refine⟨_,hr,u6 hm rfl (λa ha=>(rowAt hr ha).2) λa b ha hb hab=>?_,wF rfl<|zF (yc (eqT (za rfl) zb rfl) rfl)<|zF (yt (vD zT<|Y3 rfl)<|zh rfl)<|zF (xb (GM (ze zb<|ze (za rfl) zA) (by omega) (by omega) (by omega)<|by omega)<|by rw[show((n:Int)-1).toNat=n-1 by omega];exact hf)<|zF (xG (eqT (za rfl) zb rfl) s3)<|xI<|He (xR (zC zb zT) (Y3 rfl) rfl rfl) rfl (by rw[hlen];show 1+_<=_;omega)⟩
   by_cases he:a=b
   . rw[he];exact Int.le_refl _
   have a0:=ha.1;have b1:=hb.2;have hs:=List.pairwise_cons.mpr ⟨λy m=>(l2 y<|hp.mem_iff.mp m).1.1,yY ys⟩;rw[Zz (by rw[hr.1];omega),Zz<|by rw[hr.1];omega];exact NM hs (by omega) (by rw[hr.1];omega)
 . obtain⟨ys,z,e4,l1,l2,hf⟩:=EB (.inr rfl) hn hn2;have hr:Row n (0::ys):=⟨by rw[zzT,l1];omega,λy m=>by
    rcases zzC.mp m with rfl|m
    . omega
    . exact(l2 y m).1⟩
   refine⟨_,hr,uE rfl (λa ha=>(rowAt hr ha).2) λa ha ha0=>?_,wF rfl<|zF (yc (eqT (za rfl) zb rfl) rfl)<|zF (yt (vD zT<|Y3 rfl)<|zh rfl)<|zF (xb (GM (ze zb<|ze (za rfl) zA) (by omega) (by omega) (by omega)<|by omega)<|by rw[show((n:Int)-1).toNat=n-1 by omega];exact hf)<|zF (yc (eqT (za rfl) zb rfl) rfl)<|xI<|He (xR (zC zb zT) (Y3 rfl) rfl rfl) rfl (by rw[l1];show 1+_<=_;omega)⟩;have a0:=ha.1;have a1:=ha.2;have hk:a.toNat<(0::ys).length:=by rw[hr.1];omega
   rw[Zz hk];obtain⟨j,ek⟩:∃j,a.toNat=j+1:=⟨a.toNat-1,by omega⟩;have:(0::ys)[a.toNat]=ys[j]'(by rw[zzT]at hk;omega):=by simp only[ek,List.getElem_cons_succ]
   rw[this];have:=(l2 _<|zyY (show j<ys.length by rw[zzT]at hk;omega)).2 rfl;omega
 . obtain⟨r,r1,r2⟩:=Ly (f:=λa=>if x%2=0 then a else sP a) (as:=[sI 3,sI (4:Nat),sI x,none,none]) (cap:=[none,some 2]) (fr:=aC zE aN) (ze (za rfl) zA) (by omega) λb hb=>by
    have b0:=hb.1;have b1:=hb.2;refine⟨[sI b,sI x],rfl,HC (xR (zC (za (i:=0) rfl)<|zC (P9 (zZ (yZ zb (P9 zb<|zL (za (i:=0) rfl) zb<|by decide) (zD (by decide)<|by decide)<|zD (by omega)<|by omega) zb)<|yH (za (i:=0) rfl) zb (by decide)<|zD (by decide)<|by decide) zT) (Y3 rfl) rfl rfl) (WD.e<|zL (za (i:=1) rfl) zb<|by decide) Mg, ?_⟩
    split
    . exact hb
    . exact f4 (P:=λa=>zJ 4<|sP a) (by decide) hb
   refine⟨r,⟨r1.1,r1.2.1⟩,u5 ?_,wF rfl<|Qv<|Po (eqT (za rfl) zb rfl)<|xI r2⟩
   by_cases hx:x%2=0
   . exact .inl λa ha=>(r1.2.2 a ha).trans<|if_pos hx
   . exact .inr λa ha=>(r1.2.2 a ha).trans<|if_neg hx
def UB{k x:Int}{n m:Nat}(h:KN k n)(hn2:n<=8)(hm0:0<m)(hm:m<=8)(hx:St x):∃T,Tab m n T/\LD n m (jK k n) (eK k) (yL T)/\RE (xa [(true,.int k),(true,.int n),(true,.int m),(true,.int x)]) (zY T):=by
 have n1:=h.n1;have hJ:=Bv h
 by_cases h0:k=0
 . subst h0;obtain⟨g,g0,g1,gn,gm,hg⟩:=NR n1 hn2 hm;have q0:0<=(n:Int)/g:=Int.ediv_nonneg (by omega) (by omega);have q1:(n:Int)/g<=n:=Int.ediv_le_self _ (by omega);have hLD:=uP (x0:=x%8) (x1:=x/8%8) n1 hm0 g0 gn gm;have hd:WD (f2 zE (zp (aC zE Xr) vd) zc) [sI 0,sI n,sI m,sI x,none,none] true (.int<|(n:Int)/g):=yH (za rfl) (xU (ze (za rfl)<|ze (za rfl) zA) hg) g0 (zD (by omega)<|by omega);generalize (n:Int)/g=q at q0 q1 hLD hd;have y0:=zyM (x/8) (show(8:Int)≠0 by decide);have y1:=zyG (x/8) (show(0:Int)<8 by decide);have z0:=zyM x (show(8:Int)≠0 by decide);have z1:=zyG x (show(0:Int)<8 by decide);have s5:=yd (st:=true) (i:=5) (yZ hd (zL (yH (za (i:=3) rfl) (zb (x:=.int 8)) (by decide)<|zD (by decide)<|by decide) (zb (x:=.int 8))<|by decide) (zD (by omega)<|by omega)<|zD (by omega)<|by omega)<|zh rfl;have st0:=Int.mul_nonneg q0 y0;have st1:q*(x/8%8)<=8*8:=Int.mul_le_mul (by omega) (by omega) y0 (by decide);obtain⟨T,t1,t2⟩:=Ls (as:=[sI 0,sI n,sI m,sI x,none,sI<|q*(x/8%8)]) (cap:=[none,some 1,some 5,some 3]) (fr:=aC zW aN)
    (ze (za rfl) zA) (by omega) λc hc=>by
     have c0:=hc.1;have c1:=hc.2;obtain⟨r,r1,r2⟩:=Ly (f:=λa=>(x%8*a+q*(x/8%8)*c)%n) (as:=[sI c,sI n,sI<|q*(x/8%8),sI x]) (cap:=[none,some 1,some 2,some 0,some 3]) (fr:=aC zE aN) (ze (za rfl) zA) (by omega) λb hb=>by
      have b0:=hb.1;have b1:=hb.2;exact⟨_,rfl,WD.e (zL (zZ (yZ (zL (za (i:=4) rfl) zb<|by decide) (za (i:=0) rfl) (zD (by omega)<|by omega)<|zD (by omega)<|by omega)<|yZ (za (i:=2) rfl) (za (i:=3) rfl) (zD (by omega)<|by omega)<|zD (by omega)<|by omega) (za (i:=1) rfl)<|by omega),WX n1⟩
     exact⟨_,r,rfl,r2,r1⟩
   refine⟨T,t1.1,hLD.congr hm0 (DY n1) (λ_ _ _ _=>rfl) λc a hc ha=>?_,wF rfl<|zF (yc (ya (GB (za rfl) zb) rfl) rfl)<|zF s5<|xI t2⟩;rw[t1.2 c a hc ha];show _%(n:Int)=_;rw[Int.mul_comm (x%8) a,Int.mul_comm (q*(x/8%8)) c,Int.mul_assoc c q]
 . have hk:0<k:=by rcases h with⟨rfl,_⟩|⟨rfl,_⟩|⟨rfl,_⟩|⟨rfl,_⟩<;>omega
   obtain⟨r,hr,hd,hi⟩:=NC h h0 hn2 hm0;obtain⟨T,t1,t2⟩:=O0 (cap:=[none,some 4]) (as:=[sI k,sI n,sI m,sI x,sT<|zi r,none]) (fr:=aC zW aN) hr hm (ze (za rfl) zA) λb=>⟨_,rfl,za rfl⟩;exact⟨T,t1.1,hd.congr hm0 hJ (λ_ _ _ _=>rfl) t1.2,wF rfl<|Qv<|Po (ya (GB (za rfl) zb)<|congrArg some<|zyN hk)<|zF (xY (Kr (WD.e<|za rfl) (WD.e<|za rfl) (WD.e<|za (i:=3) rfl) hi)<|zh rfl)<|xI t2⟩
open L2 (zM)
def Ff{x:Int}:∃(k:Int) (n:Nat) (k2:Int) (n2:Nat),KN k n/\KN k2 n2/\n*n2<=8/\eK k2=0/\RE (vP [(true,.int x)]) (.tup [.int k,.int n,.int k2,.int n2]):=by
 have s1:zm true 1 (f2 zl wU zg) [sI x,none,none,none]=some (.nx [sI x,sI<|x%4,none,none]):=yd (zL (za rfl) zb<|by decide)<|zh rfl;obtain⟨sz,z1,z8,s2⟩:∃sz:Int,1<=sz/\sz<=8/\zm true 2 (f2 (yR<|dC (f2 zH (f2 (f2 zl wU zc) Qh zg) zq)<|dC (f2 zH (f2 (f2 zl wU zc) Ua zg) zq) dN) (fP (aC (f2 (f2 (f2 zl (fC<|.int 40) zc) wU zg) zH<|zr .Eq) aN) x6) zo) [sI x,sI<|x%4,none,none]=some (.nx [sI x,sI<|x%4,sI sz,none]):=by
  have w5:=zZ (as:=[sI x,sI<|x%4,none,none]) (zb (x:=.int 1)) (zL (yH (za (i:=0) rfl) (zb (x:=.int 4)) (by decide)<|zD (by decide)<|by decide) (zb (x:=.int 5))<|by decide);have w8:=zZ (as:=[sI x,sI<|x%4,none,none]) (zb (x:=.int 1)) (zL (yH (za (i:=0) rfl) (zb (x:=.int 4)) (by decide)<|zD (by decide)<|by decide) (zb (x:=.int 8))<|by decide);refine⟨if(x/40%4==1)=true then 1+x/4%8 else 1+x/4%5,by split<;>omega,by split<;>omega,yd (UZ (xR (zC w5<|zC w8 zT) (Y3 rfl) rfl rfl) (WD.e<|wC (ze (vJ (zL (yH (za rfl) (zb) (by decide)<|zD (by decide)<|by decide) (zb)<|by decide) (zb) rfl) zA) rfl rfl) Fj)<|zh rfl⟩
 obtain⟨n,hk,n8,s3⟩:∃n:Nat,KN (x%4) n/\n<=8/\wJ (fT<|f2 zE Z5<|zr .Eq) (zm true 2 wU) vS [sI x,sI<|x%4,sI sz,none]=some (.nx [sI x,sI<|x%4,sI n,none]):=by
  by_cases h3:x%4=3
  . exact⟨4,by rw[h3];exact .inr<|.inr<|.inr ⟨rfl,rfl⟩,by decide,xG (eqT (za rfl) zb<|by simp[h3])<|yd zb<|zh rfl⟩
  . refine⟨sz.toNat, ?_,by omega,(yc (eqT (za rfl) zb<|by simp[h3]) rfl).trans<|by rw[show(sz.toNat:Int)=sz by omega];rfl⟩
    rcases(show x%4=0\/x%4=1\/x%4=2 by omega)with h|h|h<;>rw[h]
    . exact .inl ⟨rfl,by omega⟩
    . exact .inr<|.inl ⟨rfl,by omega⟩
    . exact .inr<|.inr<|.inl ⟨rfl,by omega⟩
 have s4:zm true 3 (f2 zH (f2 (f2 zl (fC<|.int 160) zc) Z5 zg) zq) [sI x,sI<|x%4,sI n,none]=some (.nx [sI x,sI<|x%4,sI n,sI<|1+x/160%3]):=yd (zZ zb<|zL (yH (za rfl) zb (by decide)<|zD (by decide)<|by decide) zb<|by decide)<|zh rfl;have n1:=hk.n1;obtain⟨n2,p2,q2,s5⟩:∃n2:Nat,1<=n2/\n*n2<=8/\wJ (fT<|f2 (f2 zW yf zQ) Ua<|zr .Gt) (zm true 3 zH) vS [sI x,sI<|x%4,sI n,sI<|1+x/160%3]=some (.nx [sI x,sI<|x%4,sI n,sI n2]):=by
  have wm:=GB (yZ (as:=[sI x,sI<|x%4,sI n,sI<|1+x/160%3]) (za (i:=2) rfl) (za (i:=3) rfl) (zD (by omega)<|by omega)<|zD (by omega)<|by omega)<|zb (x:=.int 8)
  by_cases h:8<n*(1+x/160%3)
  . exact⟨1,by decide,by omega,xG (ya wm<|congrArg some<|zyN h)<|yd zb<|zh rfl⟩
  . have e:(((1+x/160%3).toNat:Nat):Int)=1+x/160%3:=by omega
    refine⟨(1+x/160%3).toNat,by omega, ?_,(yc (ya wm<|congrArg some<|zyF h) rfl).trans<|by rw[e];rfl⟩;have:((n*(1+x/160%3).toNat:Nat):Int)<=8:=by rw[zzV,e];omega
    omega
 have w7:=zL (as:=[sI x,sI<|x%4,sI n,sI n2]) (yH (za (i:=0) rfl) (zb (x:=.int 480)) (by decide)<|zD (by decide)<|by decide) (zb (x:=.int 3)) (by decide);refine⟨x%4,n,x/480%3,n2,hk, ?_,q2, ?_,wF rfl<|zF s1<|zF s2<|zF s3<|zF s4<|zF s5<|xI<|NZ (zC (za rfl)<|zC (za rfl)<|zC w7<|zC (za rfl) zT) (Y3 rfl) rfl rfl⟩
 . rcases(show x/480%3=0\/x/480%3=1\/x/480%3=2 by omega)with h|h|h<;>rw[h]
   . exact .inl ⟨rfl,by omega⟩
   . exact .inr<|.inl ⟨rfl,by omega⟩
   . exact .inr<|.inr<|.inl ⟨rfl,by omega⟩
 . exact if_neg (by omega)
abbrev ch(c:Nat):Str:=⟨#[c]⟩
theorem Td:∀cs:List Nat,(Str.join "" (cs.map ch)).cps.toList=cs
 | []=>rfl
 | [x]=>rfl
 |x::y::r=>by
  show(ch x++""++Str.join "" _).cps.toList=_;rw[Str.cps_append,Str.cps_append,Array.toList_append,Array.toList_append,Td (y::r)];rfl
def lt(c:Int)(k:Nat)(at_:Int)(i:Nat):Nat:=97+((mx c i/64+(k:Int)*(if((i:Int)==at_)=true then 1 else 0))%26).toNat
def wd(c:Int)(n:Nat)(at_:Int)(k:Nat):Str:=Str.join "" (((List.range n).map<|lt c k at_).map ch)
def OC{c at_:Int}{n k j:Nat}(h0:0<=at_)(h1:at_<n)(hk:k<10)(hj:j<10)(h:wd c n at_ k=wd c n at_ j):k=j:=by
 have h:=congrArg (λs:Str=>s.cps.toList[at_.toNat]?) h;simp only[wd,Td,zzI]at h;rw[List.getElem?_range<|by omega]at h;have h:=h;injection h with h
 unfold lt at h;rw[show(at_.toNat:Int)=at_ by omega]at h;simp only[beq_self_eq_true,if_true,Int.mul_one]at h;omega
def HR{c at_:Int}{n k:Nat}(hn:n<=8):Ab (.str<|wd c n at_ k)=true:=by
 have e:=Td<|(List.range n).map<|lt c k at_;show((wd c n at_ k).cps.toList.all _&&decide _)=_;have e2:(wd c n at_ k).length=n:=by
  show(wd c n at_ k).cps.size=n;rw[<-zyS];unfold wd;rw[e,zzB,zyT]
 rw[e2,zyB];refine⟨?_,zyN<|by omega⟩;unfold wd;rw[e,List.all_eq_true];intro x hx;obtain⟨i,_,rfl⟩:=zxC.mp hx;refine zyN ?_;unfold lt;have:=zyG (mx c i/64+k*(if(i==at_)=true then 1 else 0)) (show 0<26 by decide);omega
def MB{c:Int}:∃ss:List Str,ss.length=10/\ss.Nodup/\(∀s ∈ ss,Ab (.str s)=true)/\RE (vU [(true,.int c),(true,.int (10:Nat))]) (.lst<|ss.map D.str):=by
 have z0:=zyM c (show(8:Int)≠0 by decide);have z1:=zyG c (show(0:Int)<8 by decide);obtain⟨n,hn,hn1,hn8⟩:∃n:Nat,(n:Int)=1+c%8/\1<=n/\n<=8:=⟨(1+c%8).toNat,by omega,by omega,by omega⟩;have t0:=zyM (c/8) (show(n:Int)≠0 by omega);have t1:=zyG (c/8) (show(0:Int)<n by omega);have s3:=yd (st:=true) (i:=3) (as:=[sI c,sI (10:Nat),sT<|.str MI,none,none,none,none,none]) (zZ (zb (x:=.int 1))<|zL (za (i:=0) rfl) (zb (x:=.int 8))<|by decide)<|zh rfl;rw[<-hn]at s3;have s4:=yd (st:=true) (i:=4) (as:=[sI c,sI (10:Nat),sT<|.str MI,sI n,none,none,none,none]) (zL (yH (za (i:=0) rfl) (zb (x:=.int 8)) (by decide)<|zD (by decide)<|by decide) (za (i:=3) rfl)<|by omega)<|zh rfl;generalize hat:c/8%(n:Int)=at_ at t0 t1 s4
 obtain⟨as',hf,os,e6,e7,rfl,ho⟩:=yV (g:=gN 6)
  (λi as=>∃(os:List O) (e6 e7:Option O),as=[sI c,sI (10:Nat),sT<|.str MI,sI n,sI at_,sN os,e6,e7]/\Ows D.str (λ_=>True) os ((List.range i).map<|wd c n at_))
  (yJ 0 10) 0 [sI c,sI (10:Nat),sT<|.str MI,sI n,sI at_,sN [],none,none] (λi x as hx' hI=>by
   obtain⟨os,e6,e7,rfl,ho⟩:=hI;obtain⟨rfl,hi⟩:=yD hx';rw[zyW]at ho;rw[Int.zero_add];obtain⟨l,l1,l2,l3⟩:=BJ (λc=>D.str<|ch c) (Q:=λj a=>a=lt c i at_ j) (as:=[sI c,sI (10:Nat),sT<|.str MI,sI n,sI at_,sN os,sI i,e7]) (cap:=[none,some 2,some 6,some 0,some 4]) (fr:=aC yf aN) (fe:=f2 zE (f2 (f2 (f2 (zp (aC yf Vl) xh) (fC<|.int 64) zc) (f2 zW (fP (aC (f2 zl yh<|zr .Eq) aN) x6) zQ) zq) (fC<|.int 26) zg) zo) (ze (za rfl) zA) (by omega) λj hj=>by
    have q0:=zyM (mx c j/64+(i:Int)*(if((j:Int)==at_)=true then 1 else 0)) (show(26:Int)≠0 by decide);have q1:=zyG (mx c j/64+(i:Int)*(if((j:Int)==at_)=true then 1 else 0)) (show(0:Int)<26 by decide);refine⟨_,_,rfl,WD.e<|yj (za rfl) (zL (zZ (yH (xU (ze (za rfl)<|ze (za rfl) zA)<|QN (by omega)<|by omega) zb (by decide)<|zD (by decide)<|by decide)<|yZ (za rfl) (wC (ze (vJ (za rfl) (za rfl) rfl) zA) rfl rfl) (zD (by omega)<|by omega)<|by split<;>exact zD (by decide) (by decide)) zb<|by decide) (CN q0 q1) rfl,rfl⟩
   have el:l=(List.range n).map (lt c i at_):=by
    refine List.ext_getElem? λj=>?_;rw[zzI]
    by_cases hj:j<n
    . rw[List.getElem?_range hj,zzE (by omega),l2 j _<|zzE<|by omega];rfl
    . rw[List.getElem?_eq_none (by omega),List.getElem?_eq_none<|by rw[zyT];omega];rfl
   have hm:WE (U9 .str (fC<|.str "") By LG) [sI c,sI (10:Nat),sT<|.str MI,sI n,sI at_,sN os,sI i,sT<|.lst<|l.map λc=>D.str<|ch c] (.str<|wd c n at_ i):=by
    refine WD.e<|BV zb rfl (ze (za rfl) zA) ?_ rfl;have e1:l.map (λc=>D.str<|ch c)=(l.map ch).map D.str:=by rw[zyA];rfl
    rw[e1];show(UI _).bind _=_;rw[Gy];show(if((l.map ch).map (·.length)).sum+(l.map ch).length*0<=16777216 then some _ else none)=_;have e2:=Ip (l.map ch) λs m=>by
     obtain⟨a,_,rfl⟩:=zxC.mp m;rfl
    rw[if_pos (by rw[e2,zzB];omega),M7,el];rfl
   obtain⟨os',o1,o2⟩:=A3 (i:=5) rfl ho (by rw[zzB,zyT];omega) hm trivial;refine⟨_,rfl,_,zk (xY (p:=7) l3<|zh rfl) o2,os',_,_,rfl, ?_⟩;rw[show 0+i+1=i+1 by omega,List.range_succ,zyL];exact o1)
  ⟨[],none,none,rfl,Ows.nil⟩
 rw[ym,zyW]at ho;refine⟨(List.range 10).map<|wd c n at_,by rw[zzB,zyT], ?_,λs ms=>?_,wF rfl<|zF (yd zb<|zh rfl)<|zF s3<|zF s4<|zF (yt (i:=5) (vD zT<|Y3 rfl)<|zh rfl)<|zF (xb (yK (ze (za (i:=1) rfl) zA) (by decide)<|by decide) hf)<|Ows.retB (i:=5) rfl ho⟩
 . exact List.pairwise_map.mpr<|(List.nodup_range).imp_of_mem λha hb hne he=>hne<|OC t0 t1 (List.mem_range.mp ha) (List.mem_range.mp hb) he
 . obtain⟨k,_,rfl⟩:=zxC.mp ms;exact HR hn8
open L2 (zM)
structure Par where
 c:Int
 h:Int
 w:Nat
 xs:List Int
 ys:List Int
 k:Int
 n:Nat
 k2:Int
 n2:Nat
 m:Nat
structure POk(P:Par):Prop where
 k1:KN P.k P.n
 k2:KN P.k2 P.n2
 n8:P.n*P.n2<=8
 e2:eK P.k2=0
 m1:1<=P.m
 m6:P.m<=6
 w4:P.w<=4
 xl:P.xs.length=1+2*P.w
 xS:∀x ∈ P.xs,St x
 yl:P.ys.length=13
 yS:∀x ∈ P.ys,St x
abbrev Par.N(P:Par):Nat:=P.n*P.n2
theorem POk.n1{P:Par}(h:POk P):1<=P.n:=h.k1.n1
def POk.p2{P:Par}(h:POk P):1<=P.n2:=h.k2.n1
def POk.a8{P:Par}(h:POk P):P.n<=8:=zzO (Nat.le_mul_of_pos_right _ h.p2) h.n8
def POk.b8{P:Par}(h:POk P):P.n2<=8:=zzO (Nat.le_mul_of_pos_left _ h.n1) h.n8
def POk.N1{P:Par}(h:POk P):1<=P.N:=Nat.mul_pos h.n1 h.p2
abbrev Z(P:Par)(e11 e12 e13 e14 e15 e16 e17 e18 e19 e20 e21 e22 e23 e24 e25 e26 e27:Option O):AS:=
 [sI P.c,sI P.h,sI P.w,sT<|zi P.xs,sT<|zi P.ys,sI P.k,sI P.n,sI P.k2,sI P.n2,sI P.m,sI P.N,e11,e12,e13,e14,e15,e16,e17,e18,e19,e20,e21,e22,e23,e24,e25,e26,e27]
def Rq(r:Option Out)(Q:O->Prop):Prop:=∃x,r=some (.rt x)/\Q x
def xr{f g:SF}{as as1:AS}{Q:O->Prop}(h1:f as=some (.nx as1))(h2:Rq (g as1) Q):Rq (zf f g as) Q:=by
 obtain⟨x,h,q⟩:=h2;exact⟨x,zk h1 h,q⟩
def C2{f:SF}{as:AS}{i:Nat}{o:O}{Q:O->Prop}(h:as[i]? = some (some o))(k:Rq (f<|as.set i<|some o.frz) Q):Rq (PM i f as) Q:=by
 unfold PM;rw[h];exact k
def Se{c h:Int}{w:Nat}(hw:w<=4){f:SF}{Q:O->Prop}(K:∀P:Par,POk P->P.w=w->P.h=h->Rq (f<|Z P none none none none none none none none none none none none none none none none none) Q):
 Rq ((zf (zm true 3<|zp (aC zl<|aC (f2 zH (f2 ye zW zQ) zq) aN) yX)
 (zf (zm true 4<|zp (aC zE<|aC (fC<|.int 13) aN) yX)
 (zf (W6 (zp (aC (f2 yf zP zo) aN) vP)<|gT 4<|yT (gN 5)<|yT (gN 6)<|yT (gN 7)<|yT (gN 8) YS)
 (zf (zm true 9<|f2 (f2 zH (f2 (f2 yh zP zo) wU zg) zq) (f2 ye (fP (aC (f2 (f2 (f2 (f2 yh zP zo) wU zc) Ua zg) Qh<|zr .Eq) aN) x6) zQ) zq)
 (zf (zm true 10<|f2 y7 (fV 8) zQ) f)))))<|yF 28 [(true,.int c),(true,.int h),(true,.int w)]) Q:=by
 have w1:=zZ (as:=yF 28 [(true,.int c),(true,.int h),(true,.int w)]) (zb (x:=.int 1)) (yZ (zb (x:=.int 2)) (za (i:=2) rfl) (zD (by decide)<|by decide)<|zD (by omega)<|by omega);rw[show 1+2*w=((1+2*w:Nat):Int) by omega]at w1;obtain⟨xs,xl,xS,wx⟩:=D2 (by omega) (WD.e<|za (i:=0) rfl)<|WD.e w1;obtain⟨ys,yl,yS,wy⟩:=D2 (m:=13) (as:=[sI c,sI h,sI w,sT<|zi xs,none,none,none,none,none,none,none,none,none,none,none,none,none,none,none,none,none,none,none,none,none,none,none,none]) (by omega) (WD.e<|za (i:=1) rfl)<|WD.e zb;obtain⟨x0,a0,b0⟩:=at2 xS (k:=0) (by omega) (by omega);obtain⟨y0,c0,d0⟩:=at2 yS (k:=0) (by omega) (by omega);obtain⟨k,n,k2,n2,h1,h2,h3,h4,h5⟩:=Ff;have hm0:1<=1+y0%4+2*(if(y0/4%8==5)=true then 1 else 0)/\1+y0%4+2*(if(y0/4%8==5)=true then 1 else 0)<=6:=by split<;>omega
 obtain⟨m,hm⟩:∃m:Nat,m=1+y0%4+2*(if(y0/4%8==5)=true then 1 else 0):=⟨(1+y0%4+2*(if(y0/4%8==5)=true then 1 else 0)).toNat,by omega⟩;have P1:POk ⟨c,h,w,xs,ys,k,n,k2,n2,m⟩:=⟨h1,h2,h3,h4,by show 1<=m;omega,by show m<=6;omega,hw,xl,xS,yl,yS⟩;have A8:n<=8:=P1.a8;have B8:n2<=8:=P1.b8;have y4:WD (f2 yh zP zo) [sI c,sI h,sI w,sT<|zi xs,sT<|zi ys,sI k,sI n,sI k2,sI n2,none,none,none,none,none,none,none,none,none,none,none,none,none,none,none,none,none,none,none] true (.int y0):=yj (za rfl) zb c0 rfl;have s9:=yd (st:=true) (i:=9) (zZ (zZ (zb (x:=.int 1))<|zL y4 (zb (x:=.int 4))<|by decide)<|yZ (zb (x:=.int 2)) (wC (g:=x6) (ze (vJ (zL (yH y4 (zb (x:=.int 4)) (by decide)<|zD (by decide)<|by decide) (zb (x:=.int 8))<|by decide) (zb (x:=.int 5)) rfl) zA) rfl rfl) (zD (by decide)<|by decide)<|by split<;>exact zD (by decide) (by decide))<|zh rfl;rw[<-hm]at s9;have s10:=yd (st:=true) (i:=10) (as:=[sI c,sI h,sI w,sT<|zi xs,sT<|zi ys,sI k,sI n,sI k2,sI n2,sI m,none,none,none,none,none,none,none,none,none,none,none,none,none,none,none,none,none,none]) (yZ (za (i:=6) rfl) (za (i:=8) rfl) (zD (by omega)<|by omega)<|zD (by omega)<|by omega)<|zh rfl;rw[<-zzV]at s10;exact xr (xY wx<|zh rfl)<|xr (xY wy<|zh rfl)<|xr (Bf (WV (HC (WD.e<|za rfl) (WD.e zb) a0) h5) rfl)<|xr s9<|xr s10<|K ⟨c,h,w,xs,ys,k,n,k2,n2,m⟩ P1 rfl rfl
def E_{P:Par}(h:POk P){f:SF}{Q:O->Prop}(K:∀(F:List Int) (e11 e13:Option O),F.Perm (VA P.N)->Rq (f<|Z P e11 (sT<|zi F) e13 none none none none none none none none none none none none none none) Q):
 Rq ((zf (zm false 11<|fP (aC (fV 10) aN) J3)
 (zf (zm false 12<|yR dN)
 (zf (yw (yk (aC (fV 10) aN) yn) (gN 13)<|yy<|xo 12 (dC (xo 11 (dC (f2 (f2 yh (f2 zH (fV 13) zq) zo) (fP (aC UJ aN) Z3) zg) dN) YD) dN) xQ)
 (PM 12 f))))<|Z P none none none none none none none none none none none none none none none none none) Q:=by
 have N8:=h.n8;obtain⟨as',hf,L,F,e13,rfl,hp,hlen⟩:=yV (g:=gN 13)
  (λi as=>∃(L F:List Int) (e13:Option O),as=Z P (sN<|L.map xO) (sN<|F.map xO) e13 none none none none none none none none none none none none none none/\(L++F).Perm (VA P.N)/\L.length+i=P.N)
  (yJ 0 P.N) 0 (Z P (sN<|(VA P.N).map xO) (sN []) none none none none none none none none none none none none none none none) (λi x as hx' hI=>by
   obtain⟨L,F,e13,rfl,hp,hlen⟩:=hI;obtain⟨rfl,hi⟩:=yD hx';obtain⟨y,a1,b1⟩:=at2 h.yS (k:=1+(0+i)) (by omega) (by rw[h.yl];have:i<P.n*P.n2:=hi;omega);have hL0:0<L.length:=by have:i<P.N:=hi;omega
   have hL8:=zzO (show L.length<=P.N by omega) N8;have l0:(0:Int)<((L.map xO).length:Int):=by rw[zzB];omega
   have z0:=zyM y (show((L.map xO).length:Int)≠0 by omega);have z1:=zyG y l0;have hk:(y%((L.map xO).length:Int)).toNat<L.length:=by rw[zzB]at z0 z1 ⊢;omega
   generalize hkk:(y%((L.map xO).length:Int)).toNat=k at hk;have pop:=MW (as:=Z P (sN<|L.map xO) (sN<|F.map xO) (sI<|0+i) none none none none none none none none none none none none none none) (i:=11) rfl (zL (yj (za (i:=4) rfl) (zZ zb<|za (i:=13) rfl) a1 rfl) (Oq (i:=11) rfl) l0) z0 z1 (by rw[zzB];exact Nat.lt_of_le_of_lt hL8<|by decide) (by rw[hkk,zzI,zzE hk];rfl);rw[hkk,show(L.map xO).eraseIdx k=(L.eraseIdx k).map xO by rw[List.eraseIdx_eq_take_drop_succ,List.eraseIdx_eq_take_drop_succ,zyL,List.map_take,List.map_drop]]at pop;have hF:F.length<=8:=by
    have e:=hp.length_eq;rw[zzJ,zzB,zyT]at e;have:P.N<=8:=N8;omega
   have ap:=QG (i:=12) rfl pop rfl (by rw[zzB];exact zM<|by omega);rw[<-Yb]at ap;refine⟨Z P (sN<|L.map xO) (sN<|F.map xO) (sI<|0+i) none none none none none none none none none none none none none none,rfl,_,ap,L.eraseIdx k,F++[L[k]],_,rfl, ?_,by rw[List.length_eraseIdx_of_lt hk];omega⟩;rw[<-zxB];refine(List.perm_append_singleton _ _).trans ?_;rw[<-List.cons_append];exact((Ux L k hk).append_right F).trans hp)
  ⟨VA P.N,[],none,rfl,by rw[zyD],by rw[zzB,zyT];rfl⟩
 rw[ym]at hlen;have hL:L=[]:=List.eq_nil_of_length_eq_zero (by omega);subst hL;have s2:=yt (i:=11) (as:=Z P none none none none none none none none none none none none none none none none none) (Kf (g:=J3) (zs:=(VA P.N).map D.int) (WD.e<|za (i:=10) rfl)<|by
  show(if(0:Int)<=P.N/\_<=100000 then _ else _)=_;rw[if_pos ⟨by omega,by have:P.N<=8:=N8;omega⟩,zyA];rfl)<|zh rfl
 rw[La]at s2;have hfz:(O.nd .ls<|F.map xO).frz = .lf true (zi F):=by
  show O.lf (O.nd .ls _).str (O.nd .ls _).toD=_;rw[(Yu F).1,(Yu F).2]
 refine xr s2<|xr (yt (vD zT<|Y3 rfl)<|zh rfl)<|xr (xb (yK (ze (za rfl) zA) (by omega) (by have:P.N<=8:=N8;omega))<|by rw[zyH];exact hf)<|C2 rfl ?_;rw[hfz];exact K F _ _ hp
open L2 (zM)
abbrev Par.j(P:Par):Int->Int->Int:=jB P.n2 (jK P.k P.n)<|jK P.k2 P.n2
abbrev Par.e(P:Par):Int:=eK P.k*P.n2+eK P.k2
def POk.lj{P:Par}(h:POk P):LJ P.N P.j P.e:=uX (Bv h.k1) (Bv h.k2) h.p2
def U_{as:AS}{F:List Int}{i:Nat}{fi:IF}{xs:List ZV}(hF:F.length<=8)(hx:xs.length<=8)(h1:fi as=some (xs,as))(h2:∀y ∈ xs,∃d,y=(true,d))(hc:∀d:D,gN 0 (true,d) (Yt [none,some i] as)=some [sT d,sT<|zi F]):
 zN fi [none,some i] yI yB (zN (xX zE) [none] yI yB zP) as=some (.ow<|wM<|List.replicate xs.length<|List.replicate F.length (0:Int),as):=by
 refine Wm h1 (Bb<|by omega)<|GC xs λy m=>?_;obtain⟨d,rfl⟩:=h2 y m;refine⟨_,hc d, ?_⟩;have e:=Ga (as0:=[none]) (F.map D.int) λd=>⟨_,rfl⟩;rw[zzB]at e;exact Wm (L8<|WD.e<|za rfl) (Bb<|by rw[zzB,zzB];omega) e
def Bg{P:Par}(h:POk P){F:List Int}(hF:F.Perm (VA P.N)){e11 e13:Option O}{f:SF}{Q:O->Prop}(K:∀(J:TZ) (e15 e16 e17:Option O),Tab P.N P.N J->(∀a b,zJ P.N a->zJ P.N b->yL J (v7 F a) (v7 F b)=v7 F (P.j a b))->Rq (f<|Z P e11 (sT<|zi F) e13 (some<|wM J) e15 e16 e17 none none none none none none none none none none) Q):
 Rq ((zf (zm false 14<|zN (xX<|fV 12) [none,some 12] yI yB<|zN (xX zE) [none] yI yB zP)
 (zf (yw (yk (aC (fV 10) aN) yn) (gN 15)<|yw (yk (aC (fV 10) aN) yn) (gN 16)<|zf (zm true 17<|f2 (zp (aC yo<|aC y7<|aC (f2 (fV 15) (fV 8) zc)<|aC (f2 (fV 16) (fV 8) zc) aN) yg) (fV 8) zQ)
 (zf (zm true 17<|f2 (fV 17) (zp (aC Z4<|aC (fV 8)<|aC (f2 (fV 15) (fV 8) zg)<|aC (f2 (fV 16) (fV 8) zg) aN) yg) zq)
 (X3 14 (GQ 12<|xV 15) (GQ 12<|xV 16)<|GQ 12<|xV 17)))
 f))<|Z P e11 (sT<|zi F) e13 none none none none none none none none none none none none none none) Q:=by
 have N8:P.N<=8:=h.n8;have N1:=h.N1;have p2:=h.p2;have b8:=h.b8;have a8:=h.a8;obtain⟨hR,_⟩:=vo hF;have hl:=hR.1;have hz:=U_ (as:=Z P e11 (sT<|zi F) e13 none none none none none none none none none none none none none none) (i:=12) (by omega) (by rw[zzB,zzB];omega) (L8<|WD.e<|za (i:=12) rfl) (λy m=>by
  obtain⟨d,_,rfl⟩:=zxC.mp m;exact⟨d,rfl⟩) λd=>rfl
 rw[zzB,zzB,hl]at hz;have lj:=h.lj;have lk1:=Bv h.k1;have lk2:=Bv h.k2;have pN:∀a,zJ P.N a->zJ P.N (v7 F a):=λa ha=>(rowAt hR ha).2;have pi:∀a a',zJ P.N a->zJ P.N a'->v7 F a=v7 F a'->a=a':=λa a' ha ha' e=>Tw hF ha ha' e;obtain⟨J,e15,e16,e17,hf,t1,t2⟩:=LU (v:=15) (S:=λT x y z=>Z P e11 (sT<|zi F) e13 (some<|wM T) x y z none none none none none none none none none none) (F:=yw (yk (aC (fV 10) aN) yn) (gN 16)<|zf (zm true 17<|f2 (zp (aC yo<|aC y7<|aC (f2 (fV 15) (fV 8) zc)<|aC (f2 (fV 16) (fV 8) zc) aN) yg) (fV 8) zQ)
  (zf (zm true 17<|f2 (fV 17) (zp (aC Z4<|aC (fV 8)<|aC (f2 (fV 15) (fV 8) zg)<|aC (f2 (fV 16) (fV 8) zg) aN) yg) zq)
  (X3 14 (GQ 12<|xV 15) (GQ 12<|xV 16)<|GQ 12<|xV 17))) pN pi pN (λ_ _ _ _ _=>rfl) (λT a y z hT ha=>by
   obtain⟨T',y',z',k1,k2,k3,k4⟩:=Ms (v:=16) (S:=λT y z=>Z P e11 (sT<|zi F) e13 (some<|wM T) (sI a) y z none none none none none none none none none none) (pN a ha) pN pi (λb hb=>pN _<|lj.cl a b ha hb) (λ_ _ _ _=>rfl) (λT b z hT hb=>by
    have ua:=zR p2 ha;have ub:=zR p2 hb;have c1:=lk1.cl _ _ ua.1 ub.1;have j1:=XZ h.k1 ua.1 ub.1;have j2:=XZ h.k2 ua.2 ub.2;have b2:(P.n2:Int).natAbs<big:=zD (by omega) (by omega);have s1:=yd (st:=true) (i:=17) (as:=Z P e11 (sT<|zi F) e13 (some<|wM T) (sI a) (sI b) z none none none none none none none none none none) (yZ (xU (ze (za (i:=5) rfl)<|ze (za (i:=6) rfl)<|ze (yH (za (i:=15) rfl) (za (i:=8) rfl) (by omega) b2)<|ze (yH (za (i:=16) rfl) (za (i:=8) rfl) (by omega) b2) zA) j1) (za (i:=8) rfl) (zD (by have:=c1.1;omega)<|by have:=c1.2;omega) b2)<|zh rfl;have s2:=yd (st:=true) (i:=17) (as:=Z P e11 (sT<|zi F) e13 (some<|wM T) (sI a) (sI b) (sI<|jK P.k P.n (a/P.n2) (b/P.n2)*P.n2) none none none none none none none none none none) (zZ (za (i:=17) rfl)<|xU (ze (za (i:=7) rfl)<|ze (za (i:=8) rfl)<|ze (zL (za (i:=15) rfl) (za (i:=8) rfl)<|by omega)<|ze (zL (za (i:=16) rfl) (za (i:=8) rfl)<|by omega) zA) j2)<|zh rfl;exact⟨_,zk s1<|zk s2<|Lp (i:=14) (T:=T) hT (pN a ha) (pN b hb) (ER (i:=12) rfl (Vi (i:=15) rfl) hR ha) (ER (i:=12) rfl (Vi (i:=16) rfl) hR hb) (ER (i:=12) rfl (Vi (i:=17) rfl) hR<|lj.cl a b ha hb) rfl⟩) hT
   refine⟨T',y',z', ?_,k2,k3,k4⟩;rw[wq rfl<|by omega];exact k1)<|GA N1
 refine xr (yt hz<|zh rfl)<|xr (xb (yK (ze (za rfl) zA) (by omega)<|by omega)<|by rw[zyH];exact hf)<|K J e15 e16 e17 t1 t2
open L2 (zM)
def perm_back{F:List Int}{n:Nat}(h:F.Perm (VA n)):∃B:Int->Int,(∀a,zJ n a->zJ n (B a))/\∀a,zJ n a->v7 F (B a)=a:=by
 obtain⟨hR,hm⟩:=vo h;refine⟨λa=>(F.idxOf a:Nat),λa ha=>?_,λa ha=>?_⟩
 . have:=List.idxOf_lt_length_of_mem<|hm a ha.1 ha.2;rw[hR.1]at this;exact⟨Int.natCast_nonneg _,Int.ofNat_lt.mpr this⟩
 . have hl:=List.idxOf_lt_length_of_mem<|hm a ha.1 ha.2;rw[Zz<|by rw[zyH];exact hl];simp only[zyH];exact List.getElem_idxOf hl
abbrev Good(P:Par)(F:List Int)(J:TZ)(p:Str×TZ):Prop:=Tab P.m P.N p.2/\LD P.N P.m (yL J) (v7 F P.e) (yL p.2)
abbrev Y(P:Par)(F:List Int)(J:TZ)(e11 e16:Option O)(ss:List Str)(os:List O)(e13 e15 e17 e20 e21 e22 e23:Option O):AS:=Z P e11 (sT<|zi F) e13 (some<|wM J) e15 e16 e17 (sT<|.lst<|ss.map D.str) (sN os) e20 e21 e22 e23 none none none none
abbrev D5:SF:=(zf (zm true 17<|f2 (f2 (fV 20) (fV 23) zo) (f2 (fV 15) (fV 8) zc) zo)
 (zf (zm true 17<|f2 (f2 (fV 17) (fV 8) zQ) (f2 (f2 (fV 21) (fV 23) zo) (f2 (fV 15) (fV 8) zg) zo) zq)
 (X3 22 (xV 23) (GQ 12<|xV 15)<|GQ 12<|xV 17)))
def Fl{P:Par}(h:POk P){F:List Int}(hF:F.Perm (VA P.N)){J T1 T2:TZ}{e11 e16:Option O}{ss:List Str}{os:List O}{e13 e15 e17 e23:Option O}(t1:Tab P.m P.n T1)(t2:Tab P.m P.n2 T2)(l1:LD P.n P.m (jK P.k P.n) (eK P.k) (yL T1))(l2:LD P.n2 P.m (jK P.k2 P.n2) (eK P.k2) (yL T2)):
 ∃(T:TZ) (x y z:Option O),forL (gN 23) (yw (yk (aC (fV 10) aN) yn) (gN 15) D5) (yJ 0 P.m) (Y P F J e11 e16 ss os e13 e15 e17 (sT<|zY T1) (sT<|zY T2) (some<|wM<|List.replicate P.m<|List.replicate P.N 0) e23)=some (.nx<|Y P F J e11 e16 ss os e13 y z (sT<|zY T1) (sT<|zY T2) (some<|wM T) x)/\Tab P.m P.N T/\∀c a,zJ P.m c->zJ P.N a->yL T c (v7 F a)=v7 F (dB P.n2 (yL T1) (yL T2) c a):=by
 have N8:P.N<=8:=h.n8;have N1:=h.N1;have p2:=h.p2;have b8:=h.b8;have a8:=h.a8;obtain⟨hR,_⟩:=vo hF;have ld:=D6 (Bv h.k1) (Bv h.k2) p2 l1 l2;have pN:∀a,zJ P.N a->zJ P.N (v7 F a):=λa ha=>(rowAt hR ha).2;have pi:∀a a',zJ P.N a->zJ P.N a'->v7 F a=v7 F a'->a=a':=λa a' ha ha' e=>Tw hF ha ha' e;exact LU (S:=λT x y z=>Y P F J e11 e16 ss os e13 y z (sT<|zY T1) (sT<|zY T2) (some<|wM T) x) (λ_ ha=>ha) (λ_ _ _ _ e=>e) pN (λ_ _ _ _ _=>rfl) (λT c y z hT hc=>by
  obtain⟨T',y',z',k1,k2,k3,k4⟩:=Ms (v:=15) (S:=λT y z=>Y P F J e11 e16 ss os e13 y z (sT<|zY T1) (sT<|zY T2) (some<|wM T)<|sI c) hc pN pi (λa ha=>pN _<|ld.cl c a hc ha) (λ_ _ _ _=>rfl) (λT a z hT ha=>by
   have ua:=zR p2 ha;have b2:(P.n2:Int).natAbs<big:=zD (by omega) (by omega);obtain⟨q1,r1⟩:=Z6 (as:=Y P F J e11 e16 ss os e13 (sI a) z (sT<|zY T1) (sT<|zY T2) (some<|wM T)<|sI c) t1 hc ua.1 (za (i:=20) rfl) (za (i:=23) rfl)<|yH (za (i:=15) rfl) (za (i:=8) rfl) (by omega) b2;have s1:=yd (st:=true) (i:=17) q1<|zh rfl;obtain⟨q2,r2⟩:=Z6 (as:=Y P F J e11 e16 ss os e13 (sI a) (sI<|yL T1 c<|a/P.n2) (sT<|zY T1) (sT<|zY T2) (some<|wM T)<|sI c) t2 hc ua.2 (za (i:=21) rfl) (za (i:=23) rfl) (zL (za (i:=15) rfl) (za (i:=8) rfl)<|by omega);have s2:=yd (st:=true) (i:=17) (zZ (yZ (za (i:=17) rfl) (za (i:=8) rfl) (zD (by have:=r1.1;omega)<|by have:=r1.2;omega) b2) q2)<|zh rfl;exact⟨_,zk s1<|zk s2<|Lp (i:=22) hT hc (pN a ha) (Vi (i:=23) rfl) (ER (i:=12) rfl (Vi (i:=15) rfl) hR ha) (ER (i:=12) rfl (Vi (i:=17) rfl) hR<|ld.cl c a hc ha) rfl⟩) hT
  refine⟨T',y',z', ?_,k2,k3,k4⟩;rw[wq rfl<|by omega];exact k1)<|GA N1
abbrev uj:SF:=(zf (zm true 20<|zp (aC yo<|aC y7<|aC (fV 9)<|aC (f2 yf (f2 zH (f2 ye (fV 13) zQ) zq) zo) aN) xa)
 (zf (zm true 21<|zp (aC Z4<|aC (fV 8)<|aC (fV 9)<|aC (f2 yf (f2 ye (f2 ye (fV 13) zQ) zq) zo) aN) xa)
 (zf (zm false 22<|zN (yk (aC (fV 9) aN) yn) [none,some 12] yI yB<|zN (xX zE) [none] yI yB zP)
 (zf (yw (yk (aC (fV 9) aN) yn) (gN 23)<|yw (yk (aC (fV 10) aN) yn) (gN 15) D5)
 (yy<|xo 19 (dC (yb<|dC (f2 (fV 18) (fV 13) zo)<|dC (fV 22) dN) dN) xQ)))))
def take_snoc{α:Type}{l:List α}{i:Nat}{a:α}(h:l[i]? = some a):l.take (i+1)=l.take i++[a]:=by rw[List.take_succ,h];rfl
def Fc{P:Par}(h:POk P){F:List Int}(hF:F.Perm (VA P.N)){J:TZ}(hJ:∀a b,zJ P.N a->zJ P.N b->yL J (v7 F a) (v7 F b)=v7 F (P.j a b)){e11 e16:Option O}{ss:List Str}(hs:ss.length=10){i:Nat}(hi:i<P.w){os:List O}{Ds:DD}(ho:Ows y8 (Good P F J) os Ds)(hD:Ds.map (·.1)=ss.take i){e15 e17 e20 e21 e22 e23:Option O}:
 ∃(os':List O) (Ds':DD) (e15' e17' e20' e21' e22' e23':Option O),uj (Y P F J e11 e16 ss os (sI i) e15 e17 e20 e21 e22 e23)=some (.nx<|Y P F J e11 e16 ss os' (sI i) e15' e17' e20' e21' e22' e23')/\Ows y8 (Good P F J) os' Ds'/\Ds'.map (·.1)=ss.take (i+1):=by
 have N8:=h.n8;have w4:=h.w4;have m1:=h.m1;have m6:=h.m6;obtain⟨hR,_⟩:=vo hF;have hxl:=h.xl;obtain⟨x1,a1,b1⟩:=at2 h.xS (k:=1+2*i) (by omega) (by omega);obtain⟨x2,a2,b2⟩:=at2 h.xS (k:=2+2*i) (by omega) (by omega);obtain⟨T1,t1,l1,r1⟩:=UB h.k1 h.a8 m1 (by omega) b1;obtain⟨T2,t2,l2,r2⟩:=UB h.k2 h.b8 m1 (by omega) b2;have bi:(i:Int).natAbs<big:=zD (by omega) (by omega);have s20:=xY (p:=20) (as:=Y P F J e11 e16 ss os (sI i) e15 e17 e20 e21 e22 e23) (ME (WD.e<|za (i:=5) rfl) (WD.e<|za (i:=6) rfl) (WD.e<|za (i:=9) rfl) (WD.e<|yj (za (i:=3) rfl) (zZ (zb)<|yZ (zb) (za (i:=13) rfl) (zD (by decide)<|by decide) bi) a1 rfl) r1)<|zh rfl;have s21:=xY (p:=21) (as:=Y P F J e11 e16 ss os (sI i) e15 e17 (sT<|zY T1) e21 e22 e23) (ME (WD.e<|za (i:=7) rfl) (WD.e<|za (i:=8) rfl) (WD.e<|za (i:=9) rfl) (WD.e<|yj (za (i:=3) rfl) (zZ (zb)<|yZ (zb) (za (i:=13) rfl) (zD (by decide)<|by decide) bi) a2 rfl) r2)<|zh rfl;have hz:=U_ (i:=12) (xs:=yJ 0 P.m) (by rw[hR.1];exact N8) (by rw[ym];omega) (by
  have:=yK (as:=Y P F J e11 e16 ss os (sI i) e15 e17 (sT<|zY T1) (sT<|zY T2) e22 e23) (ze (za (i:=9) rfl) zA) (by omega) (by omega);rw[zyH]at this;exact this) (λy m=>by
  obtain⟨b,rfl,_,_⟩:=LR m;exact⟨_,rfl⟩) λd=>rfl
 rw[ym,hR.1]at hz;have s22:=yt (i:=22) hz<|zh rfl;obtain⟨T,x,y,z,hf,q1,q2⟩:=Fl h hF t1 t2 l1 l2;rw[<-wq (v:=9) rfl (by omega)]at hf;obtain⟨s,hsi⟩:∃s,ss[i]? = some s:=⟨ss[i]'(by omega),zzE<|by omega⟩;have wn:WD (f2 (fV 18) (fV 13) zo) (Y P F J e11 e16 ss os (sI i) y z (sT<|zY T1) (sT<|zY T2) (some<|wM T) x) true (.str s):=yi (za rfl) (za rfl)<|YB hsi;have hb:=KQ (j:=22) (as:=Y P F J e11 e16 ss os (sI i) y z (sT<|zY T1) (sT<|zY T2) (some<|wM T) x) (fr:=dN) rfl rfl;have ap:=QG (i:=19) rfl (QE (xv wn hb)<|Y3 rfl) rfl (by
  rw[ho.ln];have:=congrArg List.length hD;rw[zzB,zzS]at this;exact zM<|by omega)
 rw[LV]at ap;obtain⟨B,b1',b2'⟩:=perm_back hF;have ld:=D6 (Bv h.k1) (Bv h.k2) h.p2 l1 l2;have hg:Good P F J (s,T):=⟨q1,uG h.m1 h.lj ld (λa ha=>(rowAt hR ha).2) b1' b2' hJ q2⟩;refine⟨_,Ds++[(s,T)],_,_,_,_,_,_,zk s20<|zk s21<|zk s22<|zk hf ap,ho.snoc rfl rfl hg, ?_⟩;rw[zyL,hD,take_snoc hsi];rfl
def E6{P:Par}(h:POk P){F:List Int}(hF:F.Perm (VA P.N)){J:TZ}(hJ:∀a b,zJ P.N a->zJ P.N b->yL J (v7 F a) (v7 F b)=v7 F (P.j a b)){e11 e13 e15 e16 e17:Option O}{f:SF}{Q:O->Prop}
 (K:∀(ss:List Str) (os:List O) (Ds:DD) (e13 e15 e17 e20 e21 e22 e23:Option O),ss.length=10->ss.Nodup->(∀s ∈ ss,Ab (.str s)=true)->Ows y8 (Good P F J) os Ds->Ds.map (·.1)=ss.take P.w->Rq (f<|Y P F J e11 e16 ss os e13 e15 e17 e20 e21 e22 e23) Q):
 Rq ((zf (zm true 18<|zp (aC (f2 zE (fC<|.int 7) zc)<|aC (fC<|.int 10) aN) vU)
 (zf (zm false 19<|yR dN)
 (zf (yw (yk Xr yn) (gN 13) uj)
 f)))<|Z P e11 (sT<|zi F) e13 (some<|wM J) e15 e16 e17 none none none none none none none none none none) Q:=by
 have w4:=h.w4;obtain⟨ss,s1,s2,s2p,s3⟩:=MB;obtain⟨as',hf,os,Ds,e13',e15',e17',e20',e21',e22',e23',rfl,ho,hD⟩:=yV (g:=gN 13)
  (λi as=>∃(os:List O) (Ds:DD) (e13 e15 e17 e20 e21 e22 e23:Option O),as=Y P F J e11 e16 ss os e13 e15 e17 e20 e21 e22 e23/\Ows y8 (Good P F J) os Ds/\Ds.map (·.1)=ss.take i)
  (yJ 0 P.w) 0 (Y P F J e11 e16 ss [] e13 e15 e17 none none none none) (λi x as hx hI=>by
   obtain⟨os,Ds,e13,e15,e17,e20,e21,e22,e23,rfl,ho,hD⟩:=hI;obtain⟨rfl,hi⟩:=yD hx;rw[zyW]at hD;rw[Int.zero_add,zyW];obtain⟨os',Ds',a15,a17,a20,a21,a22,a23,k1,k2,k3⟩:=Fc h hF hJ s1 hi ho hD;exact⟨_,rfl,_,k1,os',Ds',_,_,_,_,_,_,_,rfl,k2,k3⟩)
  ⟨[],[],_,_,_,_,_,_,_,rfl,Ows.nil,rfl⟩
 rw[ym,zyW]at hD;exact xr (xY (KJ (WD.e<|yH (za rfl) (zb) (by decide)<|zD (by decide)<|by decide) (WD.e<|zb) s3)<|zh rfl)<|xr (yt (vD zT<|Y3 rfl)<|zh rfl)<|xr (xb (yK (ze (za rfl) zA) (by omega)<|by omega)<|by rw[zyH];exact hf)<|K ss os Ds _ _ _ _ _ _ _ s1 s2 s2p ho hD
open L2 (zM)
def held(n:Nat)(b:Int):List Int:=((List.range n).filter λi=>b/2 ^ i%2==1).map λ(i:Nat)=>(i:Int)
abbrev SO(p:Str×List Int):O:=.lf true<|yE p
theorem PN:∀S:SS,(S.map SO).all O.isLf=true/\O.strs (S.map SO)=true/\O.toDs (S.map SO)=S.map yE
 | []=>⟨rfl,rfl,rfl⟩
 |p::r=>⟨(PN r).1,(PN r).2.1,congrArg (yE p :: ·) (PN r).2.2⟩
def Fx{os:List O}(hs:O.strs os=true):(Zf os).str=true/\(Zf os).toD = .tup (O.toDs os):=by
 unfold Zf
 split
 . exact⟨hs,rfl⟩
 . exact⟨hs,rfl⟩
def Hr{N c:Nat}(N8:N<=8){b:Int}{as:AS}{fn:EF}(h1:WD fn as true (.int N))(h2:∀d:D,gN 0 (true,d) (Yt [none,some c] as)=some [sT d,sI b]):
 WE (zN (yk (aC fn aN) yn) [none,some c] yI (fT<|f2 (f2 (f2 zE (f2 zH zl Th) zc) ye zg) zH<|zr .Eq) zl) as (zi<|held N b):=by
 have:=Ks (as:=as) (h:=λ(i:Nat)=>D.int i) (p:=λi=>b/2 ^ i%2==1) (it:=λ(i:Nat)=>(true,D.int<|0+(i:Int))) (fi:=yk (aC fn aN) yn) (cap:=[none,some c]) (gg:=gN 0) (tt:=fT<|f2 (f2 (f2 zE (f2 zH zl Th) zc) ye zg) zH<|zr .Eq) (fe:=fV 0) (List.range N) (by
  have:=yK (ze h1 zA) (show(0:Int)<=N by omega) (by omega);rw[zyH]at this;exact this) (by rw[zyT];omega) (λi hi=>by
   have hi:=List.mem_range.mp hi;rw[Int.zero_add];have p0:(0:Int)<2 ^ i:=Int.pow_pos (by decide);have p1:(2:Int) ^ i<1000:=by
    rcases(show i=0\/i=1\/i=2\/i=3\/i=4\/i=5\/i=6\/i=7 by omega)with rfl|rfl|rfl|rfl|rfl|rfl|rfl|rfl<;>decide
   have ws:WD (f2 zH zl Th) [sI i,sI b] true (.int<|2 ^ i):=yj zb (za (i:=0) rfl) (by
    show(if(0:Int)<=i/\(i:Int)<=1000000/\(1:Int).natAbs<2 ^ 64 then some (R0.im<|.int<|1*2 ^ (i:Int).toNat)else none)=_;rw[if_pos ⟨by omega,by omega,by decide⟩,zyH,Int.one_mul]) rfl
   exact⟨[sI i,sI b],h2 _,eqT (zL (yH (za (i:=1) rfl) ws p0<|zD (by omega)<|by omega) zb<|by decide) zb rfl,λ_=>WD.e<|za (i:=0) rfl⟩)
 unfold held;rw[show D.lst (((List.range N).filter λi=>b/2 ^ i%2==1).map λ(i:Nat)=>D.int i)=zi (((List.range N).filter λi=>b/2 ^ i%2==1).map λ(i:Nat)=>(i:Int)) by show _=D.lst _;rw[zyA];rfl]at this;exact this
abbrev V(P:Par)(F:List Int)(J:TZ)(ss:List Str)(os:List O)(e11 e15 e16 e17 e20 e21 e22 e23:Option O)(S:SS)(e13 e25 e26 e27:Option O):AS:=Z P e11 (sT<|zi F) e13 (some<|wM J) e15 e16 e17 (sT<|.lst<|ss.map D.str) (sN os) e20 e21 e22 e23 (sN<|S.map SO) e25 e26 e27
abbrev Ar:SF:=(zf (zm true 25<|f2 yh (f2 (fC<|.int 9) (fV 13) zq) zo)
 (zf (zm true 26<|zN (yk (aC (fV 10) aN) yn) [none,some 25] yI (fT<|f2 (f2 (f2 zE (f2 zH zl Th) zc) ye zg) zH<|zr .Eq) zl)
 (yy<|xo 24 (dC (yb<|dC (f2 (fV 18) (f2 (fV 13) (f2 wU (f2 (f2 (fV 25) (fC<|.int 512) zc) ye zg) zQ) zq) zo)<|dC (fV 26) dN) dN) xQ)))
abbrev Aj(P:Par)(ss:List Str)(i:Nat)(S:SS):Prop:=S.length=i/\(S.map (·.1)).Nodup/\∀p ∈ S,(∃b,p.2=held P.N b)/\∃j,j%4<i/\j<7/\ss[j]? = some p.1
def Fp{P:Par}(h:POk P){F:List Int}{J:TZ}{ss:List Str}(hs:ss.length=10)(hn:ss.Nodup){os:List O}{e11 e15 e16 e17 e20 e21 e22 e23 e25 e26 e27:Option O}{S:SS}{i:Nat}(hi:i<3)(hI:Aj P ss i S):
 ∃(S':SS) (e25' e26':Option O),Ar (V P F J ss os e11 e15 e16 e17 e20 e21 e22 e23 S (sI i) e25 e26 e27)=some (.nx<|V P F J ss os e11 e15 e16 e17 e20 e21 e22 e23 S' (sI i) e25' e26' e27)/\Aj P ss (i+1) S':=by
 obtain⟨i1,i2,i3⟩:=hI;obtain⟨b,a1,b1⟩:=at2 h.yS (k:=9+i) (by omega) (by rw[h.yl];omega);have q0:=zyM (b/512) (show(2:Int)≠0 by decide);have q1:=zyG (b/512) (show(0:Int)<2 by decide);have hw:=Hr h.n8 (c:=25) (b:=b) (as:=V P F J ss os e11 e15 e16 e17 e20 e21 e22 e23 S (sI i) (sI b) e26 e27) (za (i:=10) rfl) λd=>rfl;obtain⟨j,ej⟩:∃j:Nat,(j:Int)=(i:Int)+4*(b/512%2):=⟨((i:Int)+4*(b/512%2)).toNat,by omega⟩;have hj:ss[j]? = some (ss[j]'(by omega)):=zzE (by omega);have wi:=zZ (as:=V P F J ss os e11 e15 e16 e17 e20 e21 e22 e23 S (sI i) (sI b) (sT<|zi<|held P.N b) e27) (za (i:=13) (x:=.int i) (s:=true) rfl) (yZ (zb (x:=.int 4)) (zL (yH (za (i:=25) rfl) (zb (x:=.int 512)) (by decide)<|zD (by decide)<|by decide) (zb (x:=.int 2))<|by decide) (zD (by decide)<|by decide)<|zD (by omega)<|by omega);rw[<-ej]at wi;have ap:=QG (i:=24) (os0:=S.map SO) (os:=S.map SO) (as:=V P F J ss os e11 e15 e16 e17 e20 e21 e22 e23 S (sI i) (sI b) (sT<|zi<|held P.N b) e27) rfl (G7 (zC (yi (za (i:=18) rfl) wi<|YB hj)<|zC (za (i:=26) rfl) zT)<|Y3 rfl) rfl (by rw[zzB,i1];exact zM<|by omega);rw[show S.map SO++[Zf [O.lf true<|.str<|ss[j]'(by omega),O.lf true<|zi<|held P.N b]]=(S++[((ss[j]'(by omega)),held P.N b)]).map SO by rw[zyL];rfl]at ap;refine⟨_,_,_,zk (yd (i:=25) (yj (za (i:=4) rfl) (zZ zb<|za (i:=13) rfl) a1 rfl)<|zh rfl)<|zk (xY (p:=26) hw<|zh rfl) ap,by rw[zzJ,i1];rfl, ?_,λp m=>?_⟩
 . rw[zyL];refine zxD.mpr ⟨i2,zzW.mpr ⟨zxA,zyI⟩,λx mx y my e=>?_⟩;obtain⟨p,mp,rfl⟩:=zxC.mp mx;obtain⟨_,j',j1,j2,j3⟩:=i3 p mp;have my:=zzR.mp my;subst my;have hj':=zzG.mp j3;obtain⟨l',e'⟩:=hj';have:ss[j']=ss[j]'(by omega):=e'.trans e;have:=(List.getElem_inj hn).mp this;omega
 . rcases zzM.mp m with m|m
   . obtain⟨z1,j',j1,j2,j3⟩:=i3 p m;exact⟨z1,j',by omega,j2,j3⟩
   . rw[zzR.mp m];exact⟨⟨b,rfl⟩,j,by omega,by omega,hj⟩
def YX(n m:Nat)(J:TZ)(e:Int)(Ds:DD)(S:SS):O:=.nd .tp [xO n,xO m,.lf true<|zY J,xO e,.lf true<|.lst<|Ds.map y8,.nd .ls<|S.map λp=>O.lf true<|yE p]
theorem Qr:∀S:SS,O.strs (S.map λp=>O.lf true<|yE p)=true/\O.toDs (S.map λp=>O.lf true<|yE p)=S.map yE
 | []=>⟨rfl,rfl⟩
 |p::r=>⟨(Qr r).1,congrArg (yE p :: ·) (Qr r).2⟩
def LY(n m:Nat)(J:TZ)(e:Int)(Ds:DD)(S:SS):(YX n m J e Ds S).str=true/\(YX n m J e Ds S).toD=zt n m J e Ds S:=by
 constructor
 . show(O.strs (S.map λp=>O.lf true<|yE p)&&true)=true;rw[(Qr S).1];rfl
 . show D.tup [.int n,.int m,zY J,.int e,.lst<|Ds.map y8,.lst<|O.toDs<|S.map λp=>O.lf true<|yE p]=_;rw[(Qr S).2]
def FM{P:Par}(h:POk P){F:List Int}(hF:F.Perm (VA P.N)){J:TZ}{ss:List Str}(hs:ss.length=10)(hn:ss.Nodup){os:List O}{Ds:DD}(ho:Ows y8 (Good P F J) os Ds){e11 e13 e15 e16 e17 e20 e21 e22 e23:Option O}:
 ∃S:SS,S.length<=3/\(S.map (·.1)).Nodup/\(∀p ∈ S,∃b,p.2=held P.N b)/\Rq ((zf (zm false 24<|yR dN)
 (zf (yw (yk (aC Z5 aN) yn) (gN 13) Ar)
 (zf (zm true 27<|f2 (fV 12) (f2 (yR<|dC zP<|dC (fV 8) dN) (fP (aC (f2 yo Z5<|zr .Eq) aN) x6) zo) zo)
 (zX<|yb<|dC (fV 10)<|dC (fV 9)<|dC (fV 14)<|dC (fV 27)<|dC (fV 19)<|dC (GR (fV 24) oN (oS<|f2 (f2 yh (fC<|.int 12) zo) wU zg) LH) dN))))
 (Y P F J e11 e16 ss os e13 e15 e17 e20 e21 e22 e23)) (λo=>o=YX P.N P.m J (v7 F P.e) Ds S):=by
 obtain⟨hR,_⟩:=vo hF;obtain⟨as',hf,S,a13,a25,a26,rfl,i1,i2,i3⟩:=yV (g:=gN 13) (f:=Ar)
  (λi as=>∃(S:SS) (e13 e25 e26:Option O),as=V P F J ss os e11 e15 e16 e17 e20 e21 e22 e23 S e13 e25 e26 none/\Aj P ss i S)
  (yJ 0 3) 0 (V P F J ss os e11 e15 e16 e17 e20 e21 e22 e23 [] e13 none none none) (λi x as hx hI=>by
   obtain⟨S,e13,e25,e26,rfl,hI⟩:=hI;obtain⟨rfl,hi⟩:=yD hx;rw[zyW]at hI;rw[Int.zero_add,zyW];obtain⟨S',a,b,k1,k2⟩:=Fp (F:=F) (J:=J) (os:=os) (e11:=e11) (e15:=e15) (e16:=e16) (e17:=e17) (e20:=e20) (e21:=e21) (e22:=e22) (e23:=e23) (e25:=e25) (e26:=e26) (e27:=none) h hs hn hi hI;exact⟨_,rfl,_,k1,S',_,_,_,rfl,k2⟩)
  ⟨[],_,_,_,rfl,rfl,zyI,λ_ m=>nomatch m⟩
 rw[ym]at i1;obtain⟨y,y1,y2⟩:=at2 h.yS (k:=12) (by omega) (by rw[h.yl];omega);have q0:=zyM y (show(4:Int)≠0 by decide);have q1:=zyG y (show(0:Int)<4 by decide);obtain⟨g1,g2,g3⟩:=PN S;have ce:=h.lj.ce;have ee:(if(P.k==3)=true then(P.n2:Int)else 0)=P.e:=by
  show _=eK P.k*P.n2+eK P.k2;rw[h.e2];unfold eK
  by_cases hk:P.k=3<;>simp[hk]
 have wE:WD (f2 (yR<|dC zP<|dC (fV 8) dN) (fP (aC (f2 yo Z5<|zr .Eq) aN) x6) zo) (V P F J ss os e11 e15 e16 e17 e20 e21 e22 e23 S a13 a25 a26 none) true (.int P.e):=by
  rw[<-ee];exact UZ (xR (os:=[xO 0,xO P.n2]) (zC zb<|zC (za (i:=8) rfl) zT) (Y3 rfl) rfl rfl) (WD.e<|wC (x:=.int<|if(P.k==3)=true then 1 else 0) (ze (vJ (c:=P.k==3) (za (i:=5) rfl) zb rfl) zA) rfl rfl) Fj
 have s27:=yd (st:=true) (i:=27) (yj (za (i:=12) rfl) wE (rowAt hR ce).1 rfl)<|zh rfl;have hfJ:=LV J;have hfD:=ho.frz;have wy:oS (f2 (f2 yh (fC<|.int 12) zo) wU zg) ((V P F (J) ss os e11 e15 e16 e17 e20 e21 e22 e23 S a13 a25 a26<|sI<|v7 F P.e).set 14 (some (wM J).frz) |>.set 19 (some (O.nd .ls os).frz))=some (some<|y%4,_):=Ke (zL (yj (za (i:=4) rfl) zb y1 rfl) zb<|by decide);have sl:=Fm (as:=(V P F (J) ss os e11 e15 e16 e17 e20 e21 e22 e23 S a13 a25 a26<|sI<|v7 F P.e).set 14 (some (wM J).frz) |>.set 19 (some (O.nd .ls os).frz)) (i:=24) (os:=S.map SO) (fl:=oN) (lo:=none) rfl g1 g2 rfl wy;have ct:=EC (xs:=(S.take (y%4).toNat).map yE) (ys:=(S.drop (y%4).toNat).map yE);rw[<-zyL,List.take_append_drop,zzB,zzS,Nat.min_eq_left (by omega),show(((y%4).toNat:Nat):Int)=y%4 by omega]at ct;have ct:cutD (S.map yE) none (some<|y%4)=(S.take (y%4).toNat).map yE:=by
  injection ct with ct
  injection ct
 rw[g3,ct]at sl;have w0:(dC (fV 10)<|dC (fV 9)<|dC (fV 14)<|dC (fV 27)<|dC (fV 19)<|dC (GR (fV 24) oN (oS<|f2 (f2 yh (fC<|.int 12) zo) wU zg) LH) dN) (V P F J ss os e11 e15 e16 e17 e20 e21 e22 e23 S a13 a25 a26<|sI<|v7 F P.e)=some (_,_):=
  xv (za (i:=10) rfl) (xv (za (i:=9) rfl)<|KQ (j:=14) (ps:=J.map Vm) rfl<|xv (za (i:=27) rfl)<|KQ (j:=19) (ps:=os) rfl<|xv sl rfl)
 have hfin:=QE w0<|Y3 rfl;rw[hfJ,hfD]at hfin;have ms:=Fx (os:=[xO P.N,xO P.m,.lf true<|zY J,xO<|v7 F P.e,.lf true<|.lst<|Ds.map y8,.nd .ls<|((S.take (y%4).toNat).map yE).map<|O.lf true]) (by
  show(O.strs (((S.take (y%4).toNat).map yE).map<|O.lf true)&&true)=true;rw[vB];rfl)
 have rt:=wc hfin ms.1;refine⟨S.take (y%4).toNat,by rw[zzS];omega, ?_,λp m=>(i3 p<|List.mem_of_mem_take m).1,xr (yt (i:=24) (vD zT<|Y3 rfl)<|zh rfl)<|xr (xb (yK (j:=3) (ze zb zA) (by decide)<|by decide) hf)<|xr s27 ⟨_,rt, ?_⟩⟩
 . rw[List.map_take];exact i2.sublist<|List.take_sublist _ _
 . unfold YX;rw[zyA];rfl
structure Made(n m:Nat)(J:TZ)(e:Int)(Ds:DD)(S:SS):Prop where
 al:Alg n m J e Ds
 la:LawA n m J e Ds
 s3:S.length<=3
 sn:(S.map (·.1)).Nodup
 sh:∀p ∈ S,∃b,p.2=held n b
 nk:∀p ∈ Ds,Ab (.str p.1)=true
def G0{c h:Int}{w:Nat}(hw:w<=4):∃n m J e Ds S,Made n m J e Ds S/\Ds.length=w/\wz [(true,.int c),(true,.int h),(true,.int w)]=some (YX n m J e Ds S):=by
 obtain⟨x,hr,n,m,J,e,Ds,S,h1,h2,rfl⟩:Rq (v5<|yF 28 [(true,.int c),(true,.int h),(true,.int w)]) (λx=>∃n m J e Ds S,Made n m J e Ds S/\Ds.length=w/\x=YX n m J e Ds S):=by
  refine Se hw λP hP hw' hh=>E_ hP λF e11 e13 hF=>Bg hP hF λJ e15 e16 e17 hJ hJ2=>E6 hP hF hJ2 λss os Ds e13 e15 e17 e20 e21 e22 e23 s1 s2 s2p ho hD=>?_;obtain⟨S,q1,q2,q3,q4⟩:=FM hP hF (J:=J) s1 s2 ho (e11:=e11) (e13:=e13) (e15:=e15) (e16:=e16) (e17:=e17) (e20:=e20) (e21:=e21) (e22:=e22) (e23:=e23);obtain⟨hR,_⟩:=vo hF;obtain⟨B,b1,b2⟩:=perm_back hF;have hl:Ds.length=P.w:=by
   have:=congrArg List.length hD;rw[zzB,zzS,s1]at this;have:=hP.w4;omega
  have ce:=(rowAt hR hP.lj.ce).2;obtain⟨o4,q4,q5⟩:=q4;exact⟨_,q4,P.N,P.m,J,v7 F P.e,Ds,S,⟨⟨hP.N1,hP.n8,hP.m1,hP.m6,hJ,ce.1,ce.2,by have:=hP.w4;omega,λp m=>(ho.al p m).1,by rw[hD];exact s2.sublist<|List.take_sublist _ _⟩,⟨uF hP.lj (λa ha=>(rowAt hR ha).2) b1 b2 hJ2,λp m=>(ho.al p m).2⟩,q1,q2,q3,λp m=>s2p _<|List.mem_of_mem_take<|by rw[<-hD];exact List.mem_map_of_mem m⟩,by omega,q5⟩
 exact⟨n,m,J,e,Ds,S,h1,h2,xx rfl hr⟩
open L2 (zM)
def V7{α:Type}{f:EF}{as:AS}{g:α->D}{l:List α}(h:WE f as (.lst<|l.map g)):xX f as=some (l.map λa=>(true,g a),as):=by
 have:=L8 h;rw[zyA]at this;exact this
abbrev SC:EF:=fP Vl lstP
theorem U6:∀T:TZ,xg yI yB SC [none] ((T.map zi).map λd=>(true,d))=some (T.map Vm)
 | []=>rfl
 |r::T=>QY (as1:=[sT<|zi r]) rfl (Hw<|za rfl) (y9 r).2.1<|U6 T
def C8{f:EF}{as:AS}{T:TZ}(hl:T.length<=1000)(h:WE f as (zY T)):zN (xX f) [none] yI yB SC as=some (.ow<|wM T,as):=
 Wm (L8 h) (by rw[zzB,zzB];exact Bb<|by trivial) (U6 T)
def E1{f:EF}{as:AS}{T:TZ}(hl:T.length<=1000)(h:WE f as (zY T)):WE (zN (xX f) [none] yI yB SC) as (zY T):=⟨_,C8 hl h,(YG T).1,by show D.lst (O.toDs<|T.map Vm)=_;rw[(YG T).2]⟩
section
variable{n m:Nat}{J:TZ}{e:Int}{Ds:DD}{S:SS}
abbrev C9(n m:Nat)(J:TZ)(e:Int)(Ds:DD)(S:SS)(x y:Option O):AS:=[sT<|zt n m J e Ds S,sI n,sI m,sT<|zY J,sI e,sT<|.lst<|Ds.map y8,sT<|.lst<|S.map yE,x,y]
def BC(A:Alg n m J e Ds)(sl:S.length<=3):RE (XO [(true,zt n m J e Ds S)]) (zt n m J e Ds S):=by
 have n8:=A.n8;have m6:=A.m6;have dl:=A.dl;have s7:=xY (p:=7) (as:=C9 n m J e Ds S none none) (Q7 (gg:=gT 2<|yT yI<|yT (gN 1) YS) (fe:=yb<|dC zl<|dC (zN (xX zE) [none] yI yB SC) dN) (cap:=[none,none]) (h:=y8) (it:=λp=>(true,y8 p)) Ds (V7 (g:=y8) (f:=fV 5)<|WD.e<|za (i:=5) rfl) (by omega) λp mp=>⟨[sT<|.str p.1,sT<|zY p.2],rfl,xm (WD.e<|za (i:=0) rfl)<|E1 (by rw[(A.ds p mp).1];omega)<|WD.e<|za (i:=1) rfl⟩)<|zh rfl;have s8:=xY (p:=8) (as:=C9 n m J e Ds S (sT<|.lst<|Ds.map y8) none) (Q7 (gg:=gT 2<|yT yI<|yT (gN 1) YS) (fe:=yb<|dC zl<|dC (fP XE lstP) dN) (cap:=[none,none]) (h:=yE) (it:=λp=>(true,yE p)) S (V7 (g:=yE) (f:=fV 6)<|WD.e<|za (i:=6) rfl) (by omega) λp _=>⟨[sT<|.str p.1,sT<|zi p.2],rfl,xm (WD.e<|za (i:=0) rfl)<|K2<|za (i:=1) (s:=true) rfl⟩)<|zh rfl;obtain⟨o,g1,g2,g3⟩:=E1 (f:=fV 3) (as:=C9 n m J e Ds S (sT<|.lst<|Ds.map y8)<|sT<|.lst<|S.map yE) (T:=J) (by rw[A.j.1];omega)<|WD.e<|za (i:=3) rfl;exact wF rfl<|zF (as1:=C9 n m J e Ds S none none) (Bf (WD.e<|za (i:=0) rfl) rfl)<|zF s7<|zF s8<|xI<|NZ (os:=[xO n,xO m,o,xO e,.lf true<|.lst<|Ds.map y8,.lf true<|.lst<|S.map yE]) (zC (za (i:=1) rfl)<|zC (za (i:=2) rfl)<|E9 g1<|zC (za (i:=4) rfl)<|zC (za (i:=7) rfl)<|zC (za (i:=8) rfl) zT) (Y3 rfl) (by show(true&&(true&&(o.str&&_)))=true;rw[g2];rfl) (by show D.tup [_,_,o.toD,_,_,_]=_;rw[g3];rfl)
end
section
variable{n m:Nat}{J:TZ}{e:Int}{Ds:DD}{S:SS}
def MD(A:Alg n m J e Ds)(L:tW n m J e Ds=none):RE (xj [(true,zt n m J e Ds S)]) .non:=by
 have h:vp (yF 2 [(true,zt n m J e Ds S)])=some (.nx [sT<|zt n m J e Ds S,sT .non]):=zk (xY (p:=1) (WV (WD.e<|za (i:=0) rfl)<|by have z:=S7 (S:=S) A;rw[L]at z;exact z)<|zh rfl)<|yc (ya (yj (za (i:=1) rfl) zb rfl rfl) rfl) rfl;refine⟨.lf true .non, ?_,rfl,rfl⟩;unfold xj Yr;rw[if_pos (by rfl),h];rfl
end
abbrev En:Type:=Int×Int×D
abbrev ky(x:En):Int×Int:=(x.1,x.2.1)
def tk(es:List En):List En->List En
 | []=>es
 |x::r=>tk (if ky x ∈ es.map ky then es else es++[x]) r
theorem RS:∀(xs es:List En),∃t,tk es xs=es++t
 | [],es=>⟨[],(zyD _).symm⟩
 |x::r,es=>by
  unfold tk;obtain⟨t,h⟩:=RS r (if ky x ∈ es.map ky then es else es++[x]);rw[h]
  split
  . exact⟨t,rfl⟩
  . exact⟨x::t,by rw[zxB];rfl⟩
theorem QH{Q:En->Prop}:∀(xs es:List En),(∀x ∈ es,Q x)->(∀x ∈ xs,Q x)->∀x ∈ tk es xs,Q x
 | [],es,h,_=>h
 |x::r,es,h,g=>by
  unfold tk;refine QH r _ (λy m=>?_) λy m=>g y<|zzD _ m
  split at m
  . exact h y m
  . rcases zzM.mp m with m|m
    . exact h y m
    . rw[zzR.mp m];exact g x zzF
theorem GG:∀(xs es:List En),(es.map ky).Nodup->((tk es xs).map ky).Nodup
 | [],es,h=>h
 |x::r,es,h=>by
  unfold tk;refine GG r _ ?_
  split
  . exact h
  . rename_i hn;rw[zyL];refine zxD.mpr ⟨h,zzW.mpr ⟨zxA,zyI⟩,λa m b m' e=>?_⟩;have:b=ky x:=zzR.mp m';subst e this;exact hn m
def YO{xs es:List En}{k:Int×Int}(h:k ∈ es.map ky):k ∈ (tk es xs).map ky:=by
 obtain⟨t,e⟩:=RS xs es;rw[e,zyL];exact zzP _ h
theorem Uh:∀(xs es:List En) (x:En),x ∈ xs->ky x ∈ (tk es xs).map ky
 |y::r,es,x,m=>by
  unfold tk
  rcases zzC.mp m with rfl|m
  . refine YO ?_
    split
    . assumption
    . rw[zyL];exact zzL _ zzF
  . exact Uh r _ x m
def two(m:Nat)(J:TZ)(es:List En)(p q:Nat):En:=(yL J (es.getD p (0,0,.non)).1 (es.getD q (0,0,.non)).1,((es.getD p (0,0,.non)).2.1+(es.getD q (0,0,.non)).2.1)%m,.tup [.str "two",.int p,.int q])
def fol(m:Nat)(J:TZ)(Ds:DD)(es:List En)(k:Nat):List En:=
 (Ds.map λp=>(yL p.2 (es.getD k (0,0,.non)).2.1 (es.getD k (0,0,.non)).1,(es.getD k (0,0,.non)).2.1,D.tup [.str "deed",.str p.1,.int k]))++(List.range<|k+1).flatMap λp=>[two m J es p k,two m J es k p]
def Ok(n m:Nat)(x:En):Prop:=zJ n x.1/\zJ m x.2.1
structure Cl(n m:Nat)(J:TZ)(Ds:DD)(es:List En)(at_:Nat):Prop where
 nd:(es.map ky).Nodup
 ok:∀x ∈ es,Ok n m x
 dd:∀k,k<at_->∀x,es[k]? = some x->∀p ∈ Ds,(yL p.2 x.2.1 x.1,x.2.1) ∈ es.map ky
 tw:∀p q,p<at_->q<at_->∀x y,es[p]? = some x->es[q]? = some y->(yL J x.1 y.1,(x.2.1+y.2.1)%m) ∈ es.map ky
variable{n m:Nat}{J:TZ}{e:Int}{Ds:DD}{es:List En}
def tabIn{a b:Nat}{T:TZ}{w v:Int}(hT:Tab a b T)(hw:zJ a w)(hv:zJ b v):zJ b (yL T w v):=(rowAt (Zb hT hw).2 hv).2
def gd{k:Nat}{x:En}(h:es[k]? = some x):es.getD k (0,0,.non)=x:=by rw[zyE,h];rfl
def Ew(L:Alg n m J e Ds)(m1:1<=m){p q:Nat}{x y:En}(hx:es[p]? = some x)(hy:es[q]? = some y)(ox:Ok n m x)(oy:Ok n m y):Ok n m (two m J es p q):=by
 unfold two;rw[gd hx,gd hy];exact⟨Vz L.j ox.1 oy.1,WX<|by omega⟩
def Cl.fol_ok{k:Nat}(L:Alg n m J e Ds)(m1:1<=m)(h:Cl n m J Ds es k)(hk:k<es.length):∀x ∈ fol m J Ds es k,Ok n m x:=λx mx=>by
 have ek:=zzE hk;have ok:=h.ok _<|zyY hk
 rcases zzM.mp mx with mx|mx
 . obtain⟨p,mp,rfl⟩:=zxC.mp mx;rw[gd ek];exact⟨tabIn (L.ds p mp) ok.2 ok.1,ok.2⟩
 . obtain⟨p,mp,mx⟩:=List.mem_flatMap.mp mx;have hp:p<es.length:=by have:=List.mem_range.mp mp;omega
   have ep:=zzE hp;have op:=h.ok _<|zyY hp
   rcases zzC.mp mx with rfl|mx
   . exact Ew L m1 ep ek op ok
   . rw[zzR.mp mx];exact Ew L m1 ek ep ok op
def Cl.step{k:Nat}(L:Alg n m J e Ds)(m1:1<=m)(h:Cl n m J Ds es k)(hk:k<es.length):Cl n m J Ds (tk es<|fol m J Ds es k) (k+1):=by
 obtain⟨t,et⟩:=RS (fol m J Ds es k) es;have at_:∀{i:Nat}{x:En},i<k+1->(tk es<|fol m J Ds es k)[i]? = some x->es[i]? = some x:=λhi hx=>by
  rw[et,zyO<|by omega]at hx;exact hx
 refine⟨GG _ _ h.nd,QH _ _ h.ok<|h.fol_ok L m1 hk,λi hi x hx p mp=>?_,λp q hp hq x y hx hy=>?_⟩
 . have ex:=at_ hi hx
   by_cases e1:i<k
   . exact YO<|h.dd i e1 x ex p mp
   . have:i=k:=by omega
     subst this;have:=Uh (fol m J Ds es i) es _<|zzP _<|zxC.mpr ⟨p,mp,rfl⟩;rw[gd ex]at this;exact this
 . have ex:=at_ hp hx
   have ey:=at_ hq hy
   by_cases e1:p<k/\q<k
   . exact YO<|h.tw p q e1.1 e1.2 x y ex ey
   . by_cases e2:q=k
     . subst e2;have:=Uh (fol m J Ds es q) es _<|zzL _<|List.mem_flatMap.mpr ⟨p,List.mem_range.mpr (by omega),zzF⟩;unfold two at this;rw[gd ex,gd ey]at this;exact this
     . have:p=k:=by omega
       subst this;have:=Uh (fol m J Ds es p) es _<|zzL _<|List.mem_flatMap.mpr ⟨q,List.mem_range.mpr (by omega),zzD _ zzF⟩;unfold two at this;rw[gd ex,gd ey]at this;exact this
structure Kn(n m:Nat)(J:TZ)(e:Int)(Ds:DD)(ks:List (Int×Int)):Prop where
 o:(e,0) ∈ ks
 d:∀v c,(v,c) ∈ ks->∀p ∈ Ds,(yL p.2 c v,c) ∈ ks
 t:∀v c v' c',(v,c) ∈ ks->(v',c') ∈ ks->(yL J v v',(c+c')%m) ∈ ks
def Cl.kn(h:Cl n m J Ds es es.length)(h0:(e,0) ∈ es.map ky):Kn n m J e Ds (es.map ky):=by
 have ix:∀{v c:Int},(v,c) ∈ es.map ky->∃i x,i<es.length/\es[i]? = some x/\x.1=v/\x.2.1=c:=λhm=>by
  obtain⟨x,mx,ex⟩:=zxC.mp hm;obtain⟨i,hi,hx⟩:=List.getElem_of_mem mx;cases ex;exact⟨i,x,hi,by rw[zzE hi,hx],rfl,rfl⟩
 refine⟨h0,λv c hm p mp=>?_,λv c v' c' h1 h2=>?_⟩
 . obtain⟨i,x,hi,hx,rfl,rfl⟩:=ix hm;exact h.dd i hi x hx p mp
 . obtain⟨i,x,hi,hx,rfl,rfl⟩:=ix h1;obtain⟨j,y,hj,hy,rfl,rfl⟩:=ix h2;exact h.tw i j hi hj x y hx hy
def Ri{ps:List (Int×Int)}(nd:ps.Nodup)(h:∀p ∈ ps,zJ n p.1/\zJ m p.2):ps.length<=n*m:=by
 have hs:ps ⊆ (List.range<|n*m).map λk=>(((k/m:Nat):Int),((k%m:Nat):Int)):=λp mp=>by
  obtain⟨⟨a,b⟩,c,d⟩:=h p mp;have hm:0<m:=by omega
  refine zxC.mpr ⟨p.1.toNat*m+p.2.toNat,List.mem_range.mpr ?_, ?_⟩
  . calc p.1.toNat*m+p.2.toNat<p.1.toNat*m+m:=by omega
     _=(p.1.toNat+1)*m:=by rw[Nat.add_mul,Nat.one_mul]
     _<=n*m:=Nat.mul_le_mul_right _ (by omega)
  . have e1:(p.1.toNat*m+p.2.toNat)/m=p.1.toNat:=by
     rw[Nat.mul_comm,Nat.mul_add_div hm,Nat.div_eq_of_lt<|by omega];rfl
    have e2:(p.1.toNat*m+p.2.toNat)%m=p.2.toNat:=by
     rw[Nat.mul_comm,Nat.mul_add_mod,Nat.mod_eq_of_lt<|by omega]
    rw[e1,e2];exact Prod.ext (by show(p.1.toNat:Int)=p.1;omega) (by show(p.2.toNat:Int)=p.2;omega)
 have:=nd.length_le_of_subset hs;rw[zzB,zyT]at this;exact this
abbrev pD(p:Int×Int):D:=.tup [.int p.1,.int p.2]
abbrev kP(p:Int×Int):List Key:=[.inl p.1,.inl p.2]
def KR(ds:List D):(ds.map<|O.lf true).all O.isLf=true:=by
 rw[List.all_eq_true];intro x mx;obtain⟨d,_,rfl⟩:=zxC.mp mx;rfl
def Hl{k:PF.Kind}(ds:List D):(O.nd k<|ds.map<|O.lf true).kl=some true:=by
 show(if(ds.map _).all O.isLf=true then some _ else none)=_;rw[if_pos<|KR ds,vB]
def O2{as:AS}{i:Nat}{b:EF}{g:D->D->Option R0}{k:PF.Kind}{ds:List D}{X y z:D}(h:as[i]? = some (some<|.nd k<|ds.map<|O.lf true))(hX:(O.nd k<|ds.map<|O.lf true).toD=X)(hb:WD b as true y)(hg:g X y=some (.im z)):WE (f2 (fV i) b g) as z:=by
 have e2:RV.view as (.bo i)=some (X,some true):=by rw[YJ h,Hl,hX]
 refine⟨.lf (zB z||true) z, ?_,zyC _,rfl⟩;unfold WD at hb;unfold f2;simp only[V9 h,hb,zyK,RV.frz,e2];show((g X y).bind _)=_;rw[hg];show((if(zB z||true)=true then some _ else none:Option RV).bind _)=_;rw[if_pos<|zyC _];rfl
def Eb{as:AS}{i:Nat}{a:EF}{g:D->D->Option R0}{k:PF.Kind}{ds:List D}{X x z:D}(ha:WD a as true x)(h:as[i]? = some (some<|.nd k<|ds.map<|O.lf true))(hX:(O.nd k<|ds.map<|O.lf true).toD=X)(hg:g x X=some (.im z)):WE (f2 a (fV i) g) as z:=by
 have e2:RV.view as (.bo i)=some (X,some true):=by rw[YJ h,Hl,hX]
 refine⟨.lf (zB z||true) z, ?_,zyC _,rfl⟩;unfold WD at ha;unfold f2;simp only[V9 h,ha,zyK,RV.frz,e2];show((g x X).bind _)=_;rw[hg];show((if(zB z||true)=true then some _ else none:Option RV).bind _)=_;rw[if_pos<|zyC _];rfl
def K6{p q:Int×Int}(h:kP p=kP q):p=q:=by
 obtain⟨a,b⟩:=p;obtain⟨c,d⟩:=q;have h1:=(List.cons.inj h).1;have h2:=(List.cons.inj (List.cons.inj h).2).1;have e1:a=c:=Sum.inl.inj h1;have e2:b=d:=Sum.inl.inj h2;rw[e1,e2]
theorem Ni{p:Int×Int}:∀{ps:List (Int×Int)}{fs:List D},ps.length=fs.length->p ∈ ps->∃x ∈ fs,QS (ps.map kP) fs (kP p)=some x
 | [],_,_,h=>nomatch h
 |q::ps,[],h,_=>by simp at h
 |q::ps,f::fs,hl,h=>by
  unfold QS;rw[zyR,List.zip_cons_cons]
  by_cases e:q=p
  . rw[List.find?_cons_of_pos<|by simp[e]];exact⟨f,zzF ..,rfl⟩
  . rw[List.find?_cons_of_neg (by simpa using λz:kP q=kP p=>e<|K6 z)];obtain⟨x,mx,hx⟩:=Ni (by simpa using hl)<|(zzC.mp h).resolve_left λz=>e z.symm;exact⟨x,zzD _ mx,hx⟩
theorem TV{p:Int×Int}:∀{ps:List (Int×Int)}{fs:List D},p ∉ ps->QS (ps.map kP) fs (kP p)=none
 | [],_,_=>rfl
 |q::ps,[],_=>rfl
 |q::ps,f::fs,h=>by
  unfold QS;rw[zyR,List.zip_cons_cons,List.find?_cons_of_neg (by simpa using λz:kP q=kP p=>h<|by rw[<-K6 z];exact zzF ..)];exact TV λz=>h<|zzD _ z
def Jf{p:Int×Int}{ps:List (Int×Int)}{fs:List D}(hl:ps.length=fs.length):AB (pD p) (.dt (ps.map kP) fs)=some (decide (p ∈ ps)):=by
 show some (QS _ fs _).isSome=_
 by_cases h:p ∈ ps
 . obtain⟨x,_,hx⟩:=Ni hl h;rw[hx,zyN h];rfl
 . rw[TV h,zyF h];rfl
abbrev lP(ps:List (Int×Int)):Option O:=sN<|(ps.map pD).map<|O.lf true
abbrev dP(ps:List (Int×Int))(fs:List D):Option O:=some<|.nd (.dt<|ps.map kP)<|fs.map<|O.lf true
def HV{ks:List (List Key)}(fs:List D):(O.nd (.dt ks)<|fs.map<|O.lf true).toD = .dt ks fs:=by
 show D.dt ks _=_;rw[Um]
def ZE(ds:List D):(O.nd .ls<|ds.map<|O.lf true).toD = .lst ds:=by
 show D.lst _=_;rw[Um]
def BY{p:Int×Int}{ps:List (Int×Int)}(h:p ∉ ps):M0 (ps.map kP) (kP p)=false:=by
 unfold M0;rw[List.any_eq_false];intro k mk;obtain⟨q,mq,rfl⟩:=zxC.mp mk;simpa using λz:kP q=kP p=>h (by rw[<-K6 z];exact mq)
def Sb{as:AS}{j k:Nat}{fv:EF}{p:Int×Int}{ps:List (Int×Int)}{fs:List D}{x:D}(h5:as[j]? = some (dP ps fs))(h11:as[k]? = some (sT<|pD p))(hv:WE fv as x)(hn:p ∉ ps)(hl:ps.length<=1000):
 Gf j (fV k) fv as=some (.nx<|as.set j<|dP (ps++[p])<|fs++[x]):=by
 obtain⟨o,h1,h2,h3⟩:=hv;have e:Zv as (.ow o)=some ((o.str,o.toD),as):=rfl;have e1:fV k as=some (.ow<|.lf true<|pD p,as):=za h11;have e3:(RV.ow<|.lf true<|pD p).frz.view as=some (pD p,some true):=rfl;have e4:SQ (pD p)=some (kP p):=rfl;unfold Gf;simp only[h1,zyK,e,h5,e1,e3,e4,zzB,if_pos (show ps.length<sizeLine from Nat.lt_of_le_of_lt hl<|by decide)];unfold RG Wv;rw[BY hn,h2,h3];simp only[Bool.false_eq_true,if_false,dP,zyL,zyR,List.map_nil]
def Es{f:EF}{as:AS}{c:Bool}(h:WE f as (.bl c)):WD f as true (.bl c):=by
 obtain⟨o,h1,h2,h3⟩:=h;cases o with
 |lf st d=>
  have e1:=h2;have e2:=h3;subst e1 e2;exact h1
 |nd k os=>cases k<;>cases h3
def Oj{p:Int×Int}{ps:List (Int×Int)}{fs:List D}(hl:ps.length=fs.length):zr .NotIn (pD p) (.dt (ps.map kP) fs)=some (.im<|.bl<|!decide (p ∈ ps)):=by
 unfold zr;simp only[Jf hl];rfl
abbrev eD(x:En):D:=.tup [.int x.1,.int x.2.1,x.2.2]
abbrev eO(es:List En):O:=.nd .ls<|(es.map eD).map<|O.lf true
abbrev yes(es:List En):List D:=es.map λ_=>.bl true
abbrev kO(es:List En):O:=.nd (.dt<|(es.map ky).map kP)<|(yes es).map<|O.lf true
abbrev T5(es xs:List En)(e3 e4:Option O):AS:=[some<|eO es,some<|kO es,sT<|.lst<|xs.map eD,e3,e4]
abbrev uW:SF:=(zf (zm true 4<|yb<|dC (f2 yf zP zo)<|dC (f2 yf zH zo) dN)
 (wJ (fT<|f2 yh zE<|zr .NotIn) (zf (Gf 1 yh<|fC<|.bl true)
 (yy<|xo 0 (dC yf dN) xQ)) vS))
theorem KB{xs:List En}:∀(r es:List En) (e3 e4:Option O),es.length+r.length<=1000->
 ∃e3' e4',forL (gN 3) uW ((r.map eD).map λd=>(true,d)) (T5 es xs e3 e4)=some (.nx<|T5 (tk es r) xs e3' e4')
 | [],es,e3,e4,_=>⟨e3,e4,rfl⟩
 |x::r,es,e3,e4,hl=>by
  have hl':es.length+(r.length+1)<=1000:=hl;have w1:WD (f2 yf zP zo) (T5 es xs (sT<|eD x) e4) true (.int x.1):=yj (za rfl) (zb) rfl rfl;have w2:WD (f2 yf zH zo) (T5 es xs (sT<|eD x) e4) true (.int x.2.1):=yj (za rfl) (zb) rfl rfl;have s4:=xY (p:=4) (xm (WD.e w1)<|WD.e w2)<|zh rfl;have fl:(es.map ky).length=(yes es).length:=by rw[zzB,zzB]
  have tn:=ya (Es<|Eb (as:=T5 es xs (sT<|eD x)<|sT<|pD<|ky x) (i:=1) (za (i:=4) rfl) rfl (HV<|yes es)<|Oj fl) rfl
  by_cases hc:ky x ∈ es.map ky
  . rw[zyN hc]at tn;obtain⟨e3',e4',hf⟩:=KB r es (sT<|eD x) (sT<|pD<|ky x) (by omega);refine⟨e3',e4', ?_⟩;have ht:tk es (x::r)=tk es r:=by unfold tk;rw[if_pos hc];cases r<;>rfl
    rw[ht];exact wa rfl (zk s4<|yc tn rfl) hf
  . rw[zyF hc]at tn;have sd:=Sb (as:=T5 es xs (sT<|eD x)<|sT<|pD<|ky x) (j:=1) (k:=4) rfl rfl (WD.e<|zb (x:=.bl true)) hc (by rw[zzB];omega);have sa:=Vd (as:=(T5 es xs (sT<|eD x)<|sT<|pD<|ky x).set 1<|dP (es.map ky++[ky x])<|yes es++[.bl true]) (i:=0) rfl (by rw[zzB,zzB];exact Nat.lt_of_le_of_lt (show es.length<=1000 by omega)<|by decide)<|za (i:=3) rfl;obtain⟨e3',e4',hf⟩:=KB r (es++[x]) (sT<|eD x) (sT<|pD<|ky x) (by rw[zzJ];show es.length+1+r.length<=1000;omega);refine⟨e3',e4', ?_⟩;have ht:tk es (x::r)=tk (es++[x]) r:=by
     show tk _ r=_;rw[if_neg hc]
    rw[ht];have el:(es.map eD).map (O.lf true)++[O.lf true<|eD x]=((es++[x]).map eD).map (O.lf true):=by rw[zyL,zyL];rfl
    have e5:dP (es.map ky++[ky x]) (yes es++[.bl true])=some (kO<|es++[x]):=by
     rw[show es.map ky++[ky x]=(es++[x]).map ky by rw[zyL];rfl,show yes es++[.bl true]=yes (es++[x]) by show _=(es++[x]).map _;rw[zyL];rfl]
    rw[el]at sa;rw[e5]at sd sa;exact wa rfl (zk s4<|xG tn<|zk sd sa) hf
def SD{es xs:List En}(hl:es.length+xs.length<=1000):yu (eO es) (kO es) (true,.lst<|xs.map eD)=some (eO<|tk es xs,kO<|tk es xs):=by
 obtain⟨e3',e4',hf⟩:=KB xs es none none hl;have h:XF (startM 5 (eO es) (kO es) (true,.lst<|xs.map eD))=some (.nx<|T5 (tk es xs) xs e3' e4'):=
  xb (HK<|za rfl) hf
 unfold yu gM;rw[h];rfl
variable{n m:Nat}{J:PF.TZ}{e:Int}{Ds:PF.DD}{S:PF.SS}{es:List En}
def JZ{s:Bool}{a b:EF}{as:AS}{k:Nat}{x:En}(h:es[k]? = some x)(ha:WD a as s (.lst<|es.map eD))(hb:WD b as true (.int k)):WD (f2 a b zo) as (zB (eD x)||(s&&true)) (eD x):=EX ha hb<|YB h
def J7{s:Bool}{a b:EF}{as:AS}{x:En}(ha:WD a as s (eD x))(hb:WD b as true (.int 0)):WD (f2 a b zo) as true (.int x.1):=yj ha hb rfl rfl
def Ax{s:Bool}{a b:EF}{as:AS}{x:En}(ha:WD a as s (eD x))(hb:WD b as true (.int 1)):WD (f2 a b zo) as true (.int x.2.1):=yj ha hb rfl rfl
def YL{a b c:EF}{as:AS}{x y z:D}(ha:WE a as x)(hb:WE b as y)(hc:WE c as z):WE (yb<|dC a<|dC b<|dC c dN) as (.tup [x,y,z]):=by
 obtain⟨q,j1,rfl,j3⟩:=Qp hc zT;obtain⟨p,k1,rfl,k3⟩:=Qp hb j3;obtain⟨o,h1,rfl,h3⟩:=Qp ha k3;exact Kl h3 (by show 3<=_;omega) (by show(o.str&&(p.str&&(q.str&&true)))=true;rw[h1,k1,j1];rfl) rfl
def Rj(A:Alg n m J e Ds)(m1:1<=m){s:Bool}{p q:Nat}{x y:En}(hx:es[p]? = some x)(hy:es[q]? = some y)(ox:Ok n m x)(oy:Ok n m y):RE (Zg [(true,zt n m J e Ds S),(s,.lst<|es.map eD),(true,.int p),(true,.int q)]) (eD<|two m J es p q):=by
 have s4:=yd (st:=true) (as:=yF 6 [(true,zt n m J e Ds S),(s,.lst<|es.map eD),(true,.int p),(true,.int q)]) (i:=4) (JZ hx (za (i:=1) rfl)<|za (i:=2) rfl)<|zh rfl;have s5:=yd (st:=true) (as:=[sT<|zt n m J e Ds S,some<|.lf s<|.lst<|es.map eD,sI p,sI q,some<|.lf (zB (eD x)||(s&&true))<|eD x,none]) (i:=5) (JZ hy (za (i:=1) rfl)<|za (i:=3) rfl)<|zh rfl;have w1:WD (f2 (f2 (f2 zl ye zo) (f2 yh zP zo) zo) (f2 yo zP zo) zo) [sT<|zt n m J e Ds S,some<|.lf s<|.lst<|es.map eD,sI p,sI q,some<|.lf (zB (eD x)||(s&&true))<|eD x,some<|.lf (zB (eD y)||(s&&true))<|eD y] true (.int<|yL J x.1 y.1):=
  vm A.j ox.1 oy.1 (UZ (WD.e<|za rfl) (WD.e zb) rfl) (J7 (za rfl) zb) (J7 (za rfl) zb)
 have w2:WD (f2 (f2 (f2 yh zH zo) (f2 yo zH zo) zq) (f2 zl zH zo) zg) [sT<|zt n m J e Ds S,some<|.lf s<|.lst<|es.map eD,sI p,sI q,some<|.lf (zB (eD x)||(s&&true))<|eD x,some<|.lf (zB (eD y)||(s&&true))<|eD y] true (.int<|(x.2.1+y.2.1)%m):=
  zL (zZ (Ax (za rfl) zb)<|Ax (za rfl) zb) (UZ (WD.e<|za rfl) (WD.e zb) rfl) (by omega)
 have w3:WE (yb<|dC (fC<|.str "two")<|dC zW<|dC yf dN) [sT<|zt n m J e Ds S,some<|.lf s<|.lst<|es.map eD,sI p,sI q,some<|.lf (zB (eD x)||(s&&true))<|eD x,some<|.lf (zB (eD y)||(s&&true))<|eD y] (.tup [.str "two",.int p,.int q]):=YL (WD.e zb) (WD.e<|za rfl)<|WD.e<|za rfl;have e1:eD (two m J es p q) = .tup [.int<|yL J x.1 y.1,.int<|(x.2.1+y.2.1)%m,.tup [.str "two",.int p,.int q]]:=by unfold two;rw[gd hx,gd hy]
 rw[e1];exact wF rfl<|zF s4<|zF s5<|xI<|YL (WD.e w1) (WD.e w2) w3
def Hf{a b c d:EF}{as:AS}{s:Bool}{x l z:D}{p q:Int}{g:List (Bool×D)->Option O}(ha:WD a as true x)(hb:WD b as s l)(hc:WD c as true (.int p))(hd:WD d as true (.int q))(hg:RE (g [(true,x),(zB l||s,l),(true,.int p),(true,.int q)]) z):WE (zp (aC a<|aC b<|aC c<|aC d aN) g) as z:=by
 obtain⟨o,h1,h2,h3⟩:=hg;exact⟨o,wA (ze ha<|ze hb<|ze hc<|ze hd zA) (by show g [(zB x||true,x),(zB l||s,l),(true,.int p),(true,.int q)]=_;rw[zyC];exact h1),h2,h3⟩
variable{n m:Nat}{J:PF.TZ}{e:Int}{Ds:PF.DD}{S:PF.SS}{es:List En}
def AC{as:AS}{i:Nat}{fe:EF}{os ps:List O}(h:as[i]? = some (sN os))(e1:fe as=some (.ow<|.nd .ls ps,as))(hl:os.length+ps.length<=1000):
 yy (xo i (dC fe dN) NU) as=some (.nx<|as.set i<|sN<|os++ps):=by
 unfold yy xo;rw[h];unfold dC;rw[e1];show((match as[i]? with|some (some<|.nd .ls os)=>(NU os _).bind λz=>some _|_=>none).bind _)=_;rw[h];show(((if os.length+ps.length<=sizeLine then some _ else none:Option _).bind _).bind _)=_;rw[if_pos<|Bb<|by omega];rfl
theorem GP:∀(a b:List O),O.toDs (a++b)=O.toDs a++O.toDs b
 | [],_=>rfl
 |x::a,b=>congrArg (x.toD :: ·)<|GP a b
theorem Ts:∀{a b:List O},O.strs a=true->O.strs b=true->O.strs (a++b)=true
 | [],_,_,h=>h
 |x::a,b,h,h'=>by
  have h:=(zyB _ _).mp<|h;show(x.str&&O.strs (a++b))=_;rw[h.1,Ts h.2 h'];rfl
def Oe(os:List O)(l:List En):Prop:=O.strs os=true/\O.toDs os=l.map eD
def Oe.len{os:List O}{l:List En}(h:Oe os l):os.length=l.length:=by have:=congrArg List.length h.2;rw[Ys,zzB]at this;exact this
abbrev B7(s:Bool)(A:D)(es:List En)(k:Nat)(v c:Int)(os:List O)(e6:Option O):AS:=[sT A,some<|.lf s<|.lst<|es.map eD,sI k,sI v,sI c,sN os,e6]
abbrev uw:SF:=(yy<|xo 5 (dC (yR<|dC (zp (aC zl<|aC zE<|aC y7 Xr) Zg)<|dC (zp (aC zl<|aC zE<|aC zW<|aC y7 aN) Zg) dN) dN) NU)
abbrev Bi(m:Nat)(J:PF.TZ)(es:List En)(k i:Nat):List En:=(List.range i).flatMap λp=>[two m J es p k,two m J es k p]
def T_{k i:Nat}:Bi m J es k (i+1)=Bi m J es k i++[two m J es i k,two m J es k i]:=by
 show(List.range _).flatMap _=_;rw[List.range_succ,List.flatMap_append];rfl
theorem Te{k:Nat}:∀i,(Bi m J es k i).length=2*i
 |0=>rfl
 |i+1=>by rw[T_,zzJ,Te i];show 2*i+2=_;omega
def OW(A:Alg n m J e Ds)(m1:1<=m){s:Bool}{k:Nat}{x:En}(hk:es[k]? = some x)(ok:∀y ∈ es,Ok n m y)(hl:k<100){v c:Int}{os0:List O}{l0:List En}(h0:Oe os0 l0)(ll:l0.length<=10):
 ∃os e6,forL (gN 6) uw (yJ 0<|k+1) (B7 s (zt n m J e Ds S) es k v c os0 none)=some (.nx<|B7 s (zt n m J e Ds S) es k v c os e6)/\Oe os (l0++Bi m J es k (k+1)):=by
 have ox:=ok x<|zzZ hk;have hke:=(zzG.mp hk).1;obtain⟨as',hf,os,e6,rfl,ho⟩:=yV (g:=gN 6) (λi as=>∃os e6,as=B7 s (zt n m J e Ds S) es k v c os e6/\Oe os (l0++Bi m J es k i)) (yJ 0<|k+1) 0 (B7 s (zt n m J e Ds S) es k v c os0 none) (λi y as hy hI=>by
  obtain⟨os,e6,rfl,ho⟩:=hI;obtain⟨rfl,hi⟩:=yD hy;rw[zyW]at ho;have hp:i<es.length:=by omega
  have ep:=zzE hp;have op:=ok _<|zyY hp;refine⟨B7 s (zt n m J e Ds S) es k v c os<|sI<|0+i,rfl, ?_⟩;rw[show(0+i)=(i:Int) by omega];obtain⟨o2,j1,j2,j3⟩:=Qp (Hf (as:=B7 s (zt n m J e Ds S) es k v c os<|sI i) (za (i:=0) rfl) (za (i:=1) rfl) (za (i:=2) rfl) (za (i:=6) rfl)<|Rj A m1 hk ep ox op) zT;obtain⟨o1,k1,k2,k3⟩:=Qp (Hf (za (i:=0) rfl) (za (i:=1) rfl) (za (i:=6) rfl) (za (i:=2) rfl)<|Rj A m1 ep hk op ox) j3;have e1:=vD k3<|Y3 rfl;have ln:=ho.len;rw[zzJ,Te]at ln;refine⟨_,AC (i:=5) rfl e1 (by show os.length+2<=1000;omega),os++[o1,o2],sI i,rfl, ?_⟩;rw[zyW,T_,<-zxB];refine⟨Ts ho.1 (by show(o1.str&&(o2.str&&true))=true;rw[k1,j1];rfl), ?_⟩;rw[GP,ho.2];show _++[o1.toD,o2.toD]=_;rw[k2,j2,zyL (l₁:=l0++Bi m J es k i)];rfl) ⟨os0,none,rfl,by rw[show Bi m J es k 0=[]from rfl,zyD];exact h0⟩
 rw[ym,zyW]at ho;exact⟨os,e6,hf,ho⟩
variable{n m:Nat}{J:PF.TZ}{e:Int}{Ds:PF.DD}{S:PF.SS}{es:List En}
def Sh{p:Str×PF.TZ}{a b c:Option O}:gT 2 (yT yI<|yT (gN 1) YS) (true,y8 p) [none,none,a,b,c]=some [sT<|.str p.1,sT<|zY p.2,a,b,c]:=by
 have k:kids true [.str p.1,zY p.2]=[(true,.str p.1),(true,zY p.2)]:=by
  show[(zB _||true,.str p.1),(zB _||true,zY p.2)]=_;rw[zyC,zyC]
 unfold gT;simp only[y8,k];rfl
def Pd(A:Alg n m J e Ds)(L:Alg n m J e Ds){s:Bool}{k:Nat}{x:En}(hk:es[k]? = some x)(ok:∀y ∈ es,Ok n m y)(hl:k<100):RE (wD [(true,zt n m J e Ds S),(s,.lst<|es.map eD),(true,.int k)]) (.lst<|(fol m J Ds es k).map eD):=by
 have ox:=ok x<|zzZ hk;have s3:=xY (as:=yF 7 [(true,zt n m J e Ds S),(s,.lst<|es.map eD),(true,.int k)]) (p:=3) (WD.e<|J7 (JZ hk (za (i:=1) rfl)<|za (i:=2) rfl) zb)<|zh rfl;have s4:=xY (as:=[sT<|zt n m J e Ds S,some<|.lf s<|.lst<|es.map eD,sI k,sI x.1,none,none,none]) (p:=4) (WD.e<|Ax (JZ hk (za (i:=1) rfl)<|za (i:=2) rfl) zb)<|zh rfl;have hi:=V7 (as:=[sT<|zt n m J e Ds S,some<|.lf s<|.lst<|es.map eD,sI k,sI x.1,sI x.2.1,none,none]) (f:=f2 zl wU zo)<|WD.e<|UZ (WD.e<|za rfl) (WD.e zb) rfl;obtain⟨os,c1,c2,c3⟩:=Vr Ds λp mp=>
  ⟨_,Sh,YL (WD.e (Z6 (A.ds p mp) ox.2 ox.1 (za (i:=1) rfl) (za (i:=2) rfl)<|za (i:=3) rfl).1) (WD.e<|za (i:=2) rfl)<|YL (WD.e zb) (WD.e<|za (i:=0) rfl)<|WD.e<|za (i:=4) rfl⟩
 have dl:=A.dl;have s5:=yt (i:=5) (Wm (cap:=[none,none,some 4,some 3,some 2]) hi (Bb<|by rw[zzB];omega) c1)<|zh rfl;have h0:Oe os (Ds.map λp=>(yL p.2 x.2.1 x.1,x.2.1,D.tup [.str "deed",.str p.1,.int k])):=⟨c2,by rw[c3,zyA];rfl⟩;obtain⟨os',e6,hf,ho⟩:=OW A A.m1 hk ok hl h0 (by rw[zzB];omega);have hr:=yK (as:=B7 s (zt n m J e Ds S) es k x.1 x.2.1 os none) (ze (zZ (za (i:=2) rfl)<|zb (x:=.int 1)) zA) (by omega) (by omega);rw[show((k:Int)+1).toNat=k+1 by omega]at hr;have ef:(fol m J Ds es k)=(Ds.map λp=>(yL p.2 x.2.1 x.1,x.2.1,D.tup [.str "deed",.str p.1,.int k]))++Bi m J es k (k+1):=by unfold fol;rw[gd hk]
 rw[ef];refine wF rfl<|zF s3<|zF s4<|zF s5<|zF (xb hr hf) ?_;exact Ows.retB rfl ⟨ho.1,ho.2,λ_ _=>True.intro,ho.len⟩
variable{n m:Nat}{J:PF.TZ}{e:Int}{Ds:PF.DD}{S:PF.SS}{es:List En}
def W7{as:AS}{i j:Nat}{fe:EF}{xs:List En}(hi:as[i]? = some (some<|eO es))(hj:as[j]? = some (some<|kO es))(h:WE fe as (.lst<|xs.map eD))(hl:es.length+xs.length<=1000):
 Xp i j fe yu as=some (.nx<|(as.set i<|some<|eO<|tk es xs).set j<|some<|kO<|tk es xs):=by
 obtain⟨o,h1,h2,h3⟩:=h;have e:Zv as (.ow o)=some ((o.str,o.toD),as):=rfl;unfold Xp;simp only[hi,hj,h1,e,zyK,h2,h3,SD hl]
abbrev C5(A r:D)(es:List En)(k:Nat):AS:=[sT A,sT r,some<|eO es,some<|kO es,sI k]
abbrev Dy:TF:=fT<|f2 yh (fP Xr Z3)<|zr .Lt
abbrev uq:SF:=(zf (Xp 2 3 (zp (aC zl<|aC zW<|aC yh aN) wD) yu)<|Mr 4 1)
def AL(A:Alg n m J e Ds)(L:Alg n m J e Ds){r:D}{k:Nat}{x:En}(hk:es[k]? = some x)(ok:∀y ∈ es,Ok n m y)(hl:k<100):WE (zp (aC zl<|aC zW<|aC yh aN) wD) (C5 (zt n m J e Ds S) r es k) (.lst<|(fol m J Ds es k).map eD):=by
 obtain⟨o,h1,h2,h3⟩:=Pd (S:=S) (s:=false) A L hk ok hl;refine⟨o,Mx (rs:=[.ow<|.lf true<|zt n m J e Ds S,.bo 2,.ow<|.lf true<|.int k]) (xs:=[(zB (zt n m J e Ds S)||true,zt n m J e Ds S),(false,(eO es).toD),(true,.int k)]) rfl rfl ?_,h2,h3⟩;rw[zyC,ZE];exact h1
def Bp{k:Nat}(A:Alg n m J e Ds):(fol m J Ds es k).length<=6+2*(k+1):=by
 have:=A.dl;unfold fol;rw[zzJ,zzB];have:=Te (m:=m) (J:=J) (es:=es) (k:=k)<|k+1;unfold Bi at this;rw[this];omega
def Cl.le{k:Nat}(A:Alg n m J e Ds)(h:Cl n m J Ds es k):es.length<=48:=by
 have:=Ri h.nd λp mp=>by
  obtain⟨x,mx,rfl⟩:=zxC.mp mp;exact h.ok x mx
 rw[zzB]at this;exact zzO this (zzO (Nat.mul_le_mul A.n8 A.m6)<|by decide)
theorem Hu(A:Alg n m J e Ds)(L:Alg n m J e Ds){r:D}{I:List En->Prop}(hI:∀es k,k<es.length->I es->I (tk es<|fol m J Ds es k)):∀(d k f:Nat) (es:List En),I es->Cl n m J Ds es k->k<=es.length->d+k=49->d<f->∃es',LX Dy uq f (C5 (zt n m J e Ds S) r es k)=some (.nx<|C5 (zt n m J e Ds S) r es' es'.length)/\Cl n m J Ds es' es'.length/\(∀q ∈ es.map ky,q ∈ es'.map ky)/\I es'
 |0,k,f,es,hi,h,hk,hd,hf=>by have:=h.le A;omega
 |d+1,k,f,es,hi,h,hk,hd,hf=>by
  obtain⟨f,rfl⟩:∃g,f=g+1:=⟨f-1,by omega⟩;have le:=h.le A;have lt:=Lw (za (as:=C5 (zt n m J e Ds S) r es k) (i:=4) rfl)<|Oq (as:=C5 (zt n m J e Ds S) r es k) (i:=2) rfl;rw[zzB,zzB]at lt
  by_cases hc:k<es.length
  . have tt:WT Dy (C5 (zt n m J e Ds S) r es k) true:=ya lt (congrArg some<|zyN<|by omega);have ek:=zzE hc;have fl:=Bp (es:=es) (k:=k) A;have s1:=W7 (as:=C5 (zt n m J e Ds S) r es k) (i:=2) (j:=3) rfl rfl (AL A L ek h.ok<|by omega) (by omega);obtain⟨t,et⟩:=RS (fol m J Ds es k) es;obtain⟨es',h1,h2,h3,h4⟩:=Hu A L hI d (k+1) f (tk es<|fol m J Ds es k) (hI es k hc hi) (h.step L A.m1 hc) (by rw[et,zzJ];omega) (by omega) (by omega);exact⟨es',G_ tt (zk s1 rfl) h1,h2,λq mq=>h3 q<|YO mq,h4⟩
  . have ee:k=es.length:=by omega
    subst ee;have tt:WT Dy (C5 (zt n m J e Ds S) r es es.length) false:=ya lt (congrArg some<|zyF<|by omega);exact⟨es,GU tt,h,λq mq=>mq,hi⟩
variable{n m:Nat}{J:PF.TZ}{e:Int}{Ds:PF.DD}{S:PF.SS}
abbrev Kj(m:Nat)(v:Int):En:=(v,1%(m:Int),.tup [.str "one",.int v])
def Ah(i:Nat)(h:D):Prop:=h = .tup [.str "none"]\/(∃v:Int,h = .tup [.str "one",.int v])\/(∃(s:Str) (k:Nat),k<i/\h = .tup [.str "deed",.str s,.int k])\/∃p q:Nat,p<i/\q<i/\h = .tup [.str "two",.int p,.int q]
theorem HI:∀(xs es:List En) {i:Nat}{x:En},(tk es xs)[i]? = some x->es[i]? = some x\/(es.length<=i/\x ∈ xs)
 | [],es,i,x,h=>.inl h
 |y::r,es,i,x,h=>by
  unfold tk at h
  rcases HI r _ h with h|⟨h1,h2⟩
  . split at h
    . exact .inl h
    . by_cases z:i<es.length
      . rw[zyO z]at h;exact .inl h
      . rw[zyQ<|by omega]at h;have e0:i-es.length=0:=by
         have:=(zzG.mp h).1;simp only[zzT,List.length_nil]at this;omega
        rw[e0]at h;cases h;exact .inr ⟨by omega,zzF⟩
  . refine .inr ⟨?_,zzD _ h2⟩
    split at h1
    . exact h1
    . rw[zzJ]at h1;omega
structure Mi(n m:Nat)(J:TZ)(e:Int)(Ds:DD)(row:List Int)(es:List En):Prop where
 mn:∀ks,Kn n m J e Ds ks->(∀v ∈ row,(v,1%(m:Int)) ∈ ks)->∀q ∈ es.map ky,q ∈ ks
 ah:∀i x,es[i]? = some x->Ah i x.2.2
def Mi.take{row:List Int}{es xs:List En}(h:Mi n m J e Ds row es)(h1:∀ks,Kn n m J e Ds ks->(∀v ∈ row,(v,1%(m:Int)) ∈ ks)->(∀q ∈ es.map ky,q ∈ ks)->∀x ∈ xs,ky x ∈ ks)(h2:∀x ∈ xs,∀i,es.length<=i->Ah i x.2.2):Mi n m J e Ds row (tk es xs):=by
 refine⟨λks k r q mq=>?_,λi x hx=>?_⟩
 . obtain⟨x,mx,rfl⟩:=zxC.mp mq;exact QH (Q:=λx=>ky x ∈ ks) xs es (λx mx=>h.mn ks k r _<|zxC.mpr ⟨x,mx,rfl⟩) (h1 ks k r<|h.mn ks k r) x mx
 . rcases HI xs es hx with hx|⟨z,mx⟩
   . exact h.ah i x hx
   . exact h2 x mx i z
theorem Mi.fol{row:List Int}{es:List En}{k:Nat}(hk:k<es.length)(h:Mi n m J e Ds row es):Mi n m J e Ds row (tk es<|fol m J Ds es k):=by
 have key:∀{j:Nat},j<es.length->∀{ks:List (Int×Int)},(∀q ∈ es.map ky,q ∈ ks)->((es.getD j (0,0,.non)).1,(es.getD j (0,0,.non)).2.1) ∈ ks:=λ{j} hj {ks} g=>by
  rw[gd<|zzE hj];exact g _<|zxC.mpr ⟨_,zyY hj,rfl⟩
 refine h.take (λks kn r g x mx=>?_) λx mx i hi=>?_
 . rcases zzM.mp mx with mx|mx
   . obtain⟨p,mp,rfl⟩:=zxC.mp mx;exact kn.d _ _ (key hk g) p mp
   . obtain⟨p,mp,mx⟩:=List.mem_flatMap.mp mx;have hp:p<es.length:=by have:=List.mem_range.mp mp;omega
     rcases zzC.mp mx with rfl|mx
     . exact kn.t _ _ _ _ (key hp g)<|key hk g
     . rw[zzR.mp mx];exact kn.t _ _ _ _ (key hk g)<|key hp g
 . rcases zzM.mp mx with mx|mx
   . obtain⟨p,mp,rfl⟩:=zxC.mp mx;exact .inr<|.inr<|.inl ⟨p.1,k,by omega,rfl⟩
   . obtain⟨p,mp,mx⟩:=List.mem_flatMap.mp mx;have hp:=List.mem_range.mp mp
     rcases zzC.mp mx with rfl|mx
     . exact .inr<|.inr<|.inr ⟨p,k,by omega,by omega,rfl⟩
     . rw[zzR.mp mx];exact .inr<|.inr<|.inr ⟨k,p,by omega,by omega,rfl⟩
def NS(A:Alg n m J e Ds)(L:tW n m J e Ds=none){row:List Int}(hr:∀v ∈ row,zJ n v)(hl:row.length<=10):
 ∃es:List En,WK [(true,zt n m J e Ds S),(true,zi row)]=some (eO es)/\Kn n m J e Ds (es.map ky)/\(∀v ∈ row,(v,1%(m:Int)) ∈ es.map ky)/\es.length<=48/\(es.map ky).Nodup/\(∀x ∈ es,Ok n m x)/\Mi n m J e Ds row es:=by
 have m1:=A.m1;have s0:yy (zp Vl xj) (yF 5 [(true,zt n m J e Ds S),(true,zi row)])=some (.nx<|yF 5 [(true,zt n m J e Ds S),(true,zi row)]):=by
  obtain⟨o,h1,_⟩:=WV (as:=yF 5 [(true,zt n m J e Ds S),(true,zi row)]) (WD.e<|za (i:=0) rfl)<|MD (S:=S) A L;unfold yy;rw[h1];rfl
 have s2:=yt (as:=yF 5 [(true,zt n m J e Ds S),(true,zi row)]) (i:=2) (vD zT<|Y3 rfl)<|zh rfl;have s3:=yt (as:=[sT<|zt n m J e Ds S,sT<|zi row,sN [],none,none]) (f:=Cy) (o:=.nd (.dt []) []) (i:=3) rfl<|zh rfl;have w0:WE (yR<|dC (yb<|dC (f2 zl Z5 zo)<|dC zP<|dC (yb<|dC (fC<|.str "none") dN) dN) dN) [sT<|zt n m J e Ds S,sT<|zi row,some<|eO [],some<|kO [],none] (.lst<|[((e,0,.tup [.str "none"]):En)].map eD):=by
  obtain⟨o,h1,h2,h3⟩:=Qp (as:=[sT<|zt n m J e Ds S,sT<|zi row,some<|eO [],some<|kO [],none]) (YL (WD.e<|UZ (a:=fV 0) (b:=fC<|.int 3) (g:=zo) (z:=.int e) (WD.e<|za (i:=0) rfl) (WD.e zb) rfl) (WD.e<|zb (x:=.int 0))<|BM<|WD.e<|zb (x:=.str "none")) zT;exact xR h3 (Y3 rfl) (by show(o.str&&true)=true;rw[h1];rfl) (by show D.lst [o.toD]=_;rw[h2];rfl)
 have c1:=W7 (i:=2) (j:=3) rfl rfl w0 (by show 0+1<=1000;decide);have w1:WE (zN (xX zE) [none,some 0] yI yB<|yb<|dC zl<|dC (f2 zH (f2 zE zH zo) zg)<|dC (yb<|dC (fC<|.str "one")<|dC zl dN) dN) [sT<|zt n m J e Ds S,sT<|zi row,some<|eO<|tk [] [((e,0,.tup [.str "none"]):En)],some<|kO<|tk [] [((e,0,.tup [.str "none"]):En)],none] (.lst<|(row.map<|Kj m).map eD):=by
  have:=Q7 (h:=λv=>eD<|Kj m v) (it:=λv=>(true,D.int v)) (as:=[sT<|zt n m J e Ds S,sT<|zi row,some<|eO<|tk [] [((e,0,.tup [.str "none"]):En)],some<|kO<|tk [] [((e,0,.tup [.str "none"]):En)],none]) (cap:=[none,some 0]) (gg:=gN 0) (fe:=yb<|dC zl<|dC (f2 zH (f2 zE zH zo) zg)<|dC (yb<|dC (fC<|.str "one")<|dC zl dN) dN) row (V7 (f:=fV 1) (g:=D.int)<|WD.e<|za (i:=1) rfl) (by omega) λv _=>⟨[sI v,sT<|zt n m J e Ds S],rfl,YL (WD.e<|za (i:=0) rfl) (WD.e<|zL (zb (x:=.int 1)) (UZ (a:=fV 1) (b:=fC<|.int 1) (g:=zo) (z:=.int m) (WD.e<|za (i:=1) rfl) (WD.e zb) rfl)<|by omega)<|xm (WD.e<|zb (x:=.str "one"))<|WD.e<|za (i:=0) rfl⟩;rw[zyA];exact this
 have c2:=W7 (i:=2) (j:=3) rfl rfl w1 (by rw[zzB];show 1+row.length<=1000;omega);have s4:=yd (st:=true) (as:=[sT<|zt n m J e Ds S,sT<|zi row,some<|eO<|tk (tk [] [((e,0,.tup [.str "none"]):En)])<|row.map<|Kj m,some<|kO<|tk (tk [] [((e,0,.tup [.str "none"]):En)])<|row.map<|Kj m,none]) (i:=4) (zb (x:=.int 0))<|zh rfl;have cl:Cl n m J Ds (tk (tk [] [((e,0,.tup [.str "none"]):En)])<|row.map<|Kj m) 0:=⟨GG _ _<|GG _ _ zyI,QH _ _ (QH _ _ (λ_ z=>nomatch z) λx mx=>by rw[zzR.mp mx];exact⟨⟨A.e0,A.en⟩,⟨Int.le_refl _,by show(0:Int)<m;omega⟩⟩) λx mx=>by
  obtain⟨v,mv,rfl⟩:=zxC.mp mx;exact⟨hr v mv,WX<|by omega⟩,λk hk=>absurd hk (by omega),λp q hp=>absurd hp<|by omega⟩
 have mi0:Mi n m J e Ds row []:=⟨λ_ _ _ _ mq=>(nomatch mq),λi x hx=>(nomatch hx)⟩;have mi1:Mi n m J e Ds row (tk [] [((e,0,.tup [.str "none"]):En)]):=mi0.take (λks kn r g x mx=>by rw[zzR.mp mx];exact kn.o) λx mx i _=>by rw[zzR.mp mx];exact .inl rfl
 have mi2:=mi1.take (xs:=row.map<|Kj m) (λks kn r g x mx=>by obtain⟨v,mv,rfl⟩:=zxC.mp mx;exact r v mv) λx mx i _=>by obtain⟨v,mv,rfl⟩:=zxC.mp mx;exact .inr<|.inl ⟨v,rfl⟩
 obtain⟨es,h1,h2,h3,h4⟩:=Hu (S:=S) (r:=zi row) (I:=Mi n m J e Ds row) A A (λes k hk h=>h.fol hk) 49 0 10000 _ mi2 cl (Nat.zero_le _) rfl (by decide);have hret:zX zW (C5 (zt n m J e Ds S) (zi row) es es.length)=some (.rt<|eO es):=We (i:=2) rfl<|vB _;exact⟨es,xx rfl<|zk s0<|zk s2<|zk s3<|zk c1<|zk c2<|zk s4<|zk h1 hret,h2.kn<|h3 _<|YO<|Uh _ _ ((e,0,.tup [.str "none"]):En) zzF,λv mv=>h3 _<|Uh _ _ (Kj m v)<|zxC.mpr ⟨v,mv,rfl⟩,h2.le A,h2.nd,h2.ok,h4⟩
open L2 (zM Key Tn y6)
abbrev F_(row:List Int):List Int:=sortI<|UP row
def Kb{row:List Int}{x:Int}:x ∈ F_ row ↔ x ∈ row:=by
 rw[(sortI_perm<|UP row).mem_iff];unfold UP;rw[P0];simp
def JF(row:List Int):(F_ row).Nodup:=(sortI_perm<|UP row).nodup_iff.mpr<|KI row [] zyI
theorem ints_of':∀l:List Int,vQ (l.map D.int)=some l
 | []=>rfl
 |x::r=>by
  show(vQ<|r.map D.int).bind _=_;rw[ints_of' r];rfl
def OK{as:AS}{a:EF}{n:Nat}{row:List Int}(n8:n<=8)(h:∀x ∈ row,zJ n x)(hl:row.length<64)(ha:WE a as (zi row)):WE (fP (aC a aN) J_) as (zi<|F_ row):=by
 have hg:J_ [zi row]=some (.fl<|(F_ row).map D.int):=by
  show(vQ<|row.map D.int).bind _=_;rw[ints_of'];refine if_pos ⟨hl,List.all_eq_true.mpr λx mx=>?_⟩;have:=h x mx;rw[zyN this.1,zyN (show x<8 by have:=this.2;omega)];rfl
 exact⟨_,Kf ha hg,vB _,congrArg D.lst<|Um _⟩
theorem KH{x:Int}:∀l:List Int,anyF (λy=>wI 50 y<|.int x) (l.map D.int)=some (decide (x ∈ l))
 | []=>rfl
 |y::l=>by
  show(some<|y==x).bind _=_;rw[zyK,KH l];show some ((y==x)||decide (x ∈ l))=_
  by_cases e:y=x
  . subst e;simp
  . have:(y==x)=false:=by simp[e]
    rw[this];simp[Ne.symm e]
def Ij{as:AS}{a b:EF}{x:Int}{l:List Int}(ha:WE a as (.int x))(hb:WE b as (zi l)):WT (fT<|f2 a b<|zr .In) as (decide (x ∈ l)):=
 ya (UZ (g:=zr .In) (z:=.bl<|decide (x ∈ l)) ha hb<|by show(anyF (λy=>wI 50 y<|.int x)<|l.map D.int).bind _=_;rw[KH];rfl) rfl
section
variable{n m:Nat}{J:TZ}{e:Int}{Ds:DD}{S:SS}{row:List Int}
def uC{as:AS}{p:Str×List Int}(sn:(S.map (·.1)).Nodup)(hp:p ∈ S)(h0:as[0]? = some (sT<|zt n m J e Ds S))(h2:as[2]? = some (sT<|.str p.1)):WE (f2 (fP (aC (f2 zl Qh zo) aN) TU) zW zo) as (zi p.2):=by
 have d:=DM (kf:=λp:Str×List Int=>p.1) (vf:=λp=>zi p.2) (as:=as) (a:=f2 zl Qh zo) (l:=S) sn<|WD.e<|yi (za (i:=0) h0) zb rfl;exact WD.e<|UZ (g:=zo) d (WD.e<|za (i:=2) h2) (by show Mm (WZ _<|.inr p.1)=_;rw[LA (kf:=λp:Str×List Int=>p.1) (vf:=λp=>zi p.2) hp sn];rfl)
abbrev C7(A r nm:D)(es:List En)(held:List Int)(e5 e6:Option O):AS:=[sT A,sT r,sT nm,some<|eO es,sT<|zi held,e5,e6]
abbrev FW:TF:=fT<|f2 (f2 y7 zP zo) yh<|zr .In
abbrev Ba:SF:=zX<|yb<|dC (fC<|.str "comes")<|dC (FY 3)<|dC yo dN
abbrev cO(es:List En)(k:Nat):O:=.nd .tp [.lf true<|.str "comes",eO es,xO k]
abbrev nO(es:List En):O:=.nd .tp [.lf true<|.str "never",eO es]
def KF(es:List En)(k:Nat):(cO es k).str=true:=by show(true&&(O.strs _&&(true&&true)))=true;rw[vB];rfl
def KS(es:List En):(nO es).str=true:=by show(true&&(O.strs _&&true))=true;rw[vB];rfl
def Hh{as as':AS}{j:Nat}{o:O}{fr:DF}{os:List O}(h:as[j]? = some (some o))(hr:fr (as.set j none)=some (os,as')):dC (FY j) fr as=some (o::os,as'):=by
 have e:FY j as=some (.ow o,as.set j none):=by unfold FY;rw[h]
 unfold dC;rw[e];show(fr<|as.set j none).bind _=_;rw[hr];rfl
theorem MN{A r nm:D}{es:List En}{held:List Int}:∀(d k f:Nat) (e5 e6:Option O),d+k=es.length->d<f->(∀j x,j<k->es[j]? = some x->x.1 ∉ held)->
 (∃k' x,es[k']? = some x/\x.1 ∈ held/\Bc 3 (gT 2<|yT (gN 5)<|yT (gN 6) YS) FW Ba f k (C7 A r nm es held e5 e6)=some (.rt<|cO es k'))\/((∀x ∈ es,x.1 ∉ held)/\∃e5' e6',Bc 3 (gT 2<|yT (gN 5)<|yT (gN 6) YS) FW Ba f k (C7 A r nm es held e5 e6)=some (.nx<|C7 A r nm es held e5' e6'))
 |d,k,0,e5,e6,_,h,_=>by omega
 |d,k,f+1,e5,e6,hd,hf,hn=>by
  have e1:Bc 3 (gT 2<|yT (gN 5)<|yT (gN 6) YS) FW Ba (f+1) k (C7 A r nm es held e5 e6)=(match((es.map eD).map<|O.lf true)[k]? with
   |none=>some (.nx<|C7 A r nm es held e5 e6)
   |some o=>(CJ o).bind λx=>(gT 2 (yT (gN 5)<|yT (gN 6) YS) (x.1,.tup [.int k,x.2])<|C7 A r nm es held e5 e6).bind λas1=>(FW as1).bind λp=>if p.1=true then(Ba p.2).bind JT else Bc 3 (gT 2<|yT (gN 5)<|yT (gN 6) YS) FW Ba f (k+1) p.2):=rfl
  rw[zzI,zzI]at e1;cases hk:es[k]? with
  |none=>
   rw[hk]at e1;have:=List.getElem?_eq_none_iff.mp hk;refine .inr ⟨λx mx=>?_,e5,e6,e1⟩;obtain⟨j,hj,hx⟩:=List.getElem_of_mem mx;exact hn j x (by omega) (by rw[zzE hj,hx])
  |some x=>
   rw[hk]at e1;have e2:Bc 3 (gT 2<|yT (gN 5)<|yT (gN 6) YS) FW Ba (f+1) k (C7 A r nm es held e5 e6)=(FW<|C7 A r nm es held (sI k)<|sT<|eD x).bind λp=>if p.1=true then(Ba p.2).bind JT else Bc 3 (gT 2<|yT (gN 5)<|yT (gN 6) YS) FW Ba f (k+1) p.2:=e1
   have t:=Ij (as:=C7 A r nm es held (sI k)<|sT<|eD x) (a:=f2 y7 zP zo) (b:=fV 4) (x:=x.1) (l:=held) (WD.e<|yj (za (i:=6) rfl) zb rfl rfl)<|WD.e<|za (i:=4) rfl;unfold WT at t;rw[e2]
   by_cases hin:x.1 ∈ held
   . rw[zyN hin]at t;refine .inl ⟨k,x,rfl.trans hk,hin, ?_⟩;rw[show FW (C7 A r nm es held (sI k)<|sT<|eD x)=_ from t];have w0:(dC (fC<|.str "comes")<|dC (FY 3)<|dC yo dN) (C7 A r nm es held (sI k)<|sT<|eD x)=some ([.lf true<|.str "comes",eO es,xO k],_):=xv (zb (x:=.str "comes"))<|Hh (j:=3) rfl<|xv (za (i:=5) rfl) rfl;show(Ba<|C7 A r nm es held (sI k)<|sT<|eD x).bind JT=_;rw[show Ba (C7 A r nm es held (sI k)<|sT<|eD x)=some (.rt<|cO es k)from wc (o:=cO es k) (QE w0<|Y3 rfl)<|KF es k];rfl
   . rw[zyF hin]at t;have ih:=MN (A:=A) (r:=r) (nm:=nm) (es:=es) (held:=held) (d-1) (k+1) f (sI k) (sT<|eD x) (by have:=(zzG.mp hk).1;omega) (by have:=(zzG.mp hk).1;omega) λj y hj hy=>by
      by_cases e:j=k
      . subst e;rw[hk]at hy;cases hy;exact hin
      . exact hn j y (by omega) hy
     rw[show FW (C7 A r nm es held (sI k)<|sT<|eD x)=_ from t];exact ih
def E2{p:Str×List Int}(A:Alg n m J e Ds)(L:tW n m J e Ds=none)(sn:(S.map (·.1)).Nodup)(hp:p ∈ S)(hr:∀x ∈ row,zJ n x)(hl:row.length<=10):∃es:List En,(Kn n m J e Ds (es.map ky)/\(∀v ∈ row,(v,1%(m:Int)) ∈ es.map ky)/\es.length<=48/\(es.map ky).Nodup/\(∀x ∈ es,Ok n m x)/\Mi n m J e Ds row es)/\
 ((∃k x,es[k]? = some x/\x.1 ∈ p.2/\wb [(true,zt n m J e Ds S),(true,zi row),(true,.str p.1)]=some (cO es k))\/((∀x ∈ es,x.1 ∉ p.2)/\wb [(true,zt n m J e Ds S),(true,zi row),(true,.str p.1)]=some (nO es))):=by
 obtain⟨es,hc,h1,h2,h3,h4,h5,h6⟩:=NS (S:=S) A L hr hl;refine⟨es,⟨h1,h2,h3,h4,h5,h6⟩, ?_⟩;have s3:zm false 3 (zp (aC zl XE) WK) [sT<|zt n m J e Ds S,sT<|zi row,sT<|.str p.1,none,none,none,none]=some (.nx [sT<|zt n m J e Ds S,sT<|zi row,sT<|.str p.1,some<|eO es,none,none,none]):=yt (i:=3) (wA (ze (za (i:=0) rfl)<|ze (za (i:=1) rfl) zA) hc)<|zh rfl;have s4:=xY (p:=4) (as:=[sT<|zt n m J e Ds S,sT<|zi row,sT<|.str p.1,some<|eO es,none,none,none]) (uC sn hp rfl rfl)<|zh rfl
 rcases MN (A:=zt n m J e Ds S) (r:=zi row) (nm:=.str p.1) (es:=es) (held:=p.2) es.length 0 1000 none none rfl (by omega) (λj x hj=>by omega)with⟨k,x,hk,hx,hh⟩|⟨hx,e5,e6,hh⟩
 . exact .inl ⟨k,x,hk,hx,xx rfl<|zk s3<|zk s4<|vH hh⟩
 . refine .inr ⟨hx,xx rfl<|zk s3<|zk s4<|zk hh ?_⟩;have w0:(dC (fC<|.str "never")<|dC (FY 3) dN) (C7 (zt n m J e Ds S) (zi row) (.str p.1) es p.2 e5 e6)=some ([.lf true<|.str "never",eO es],_):=xv (zb (x:=.str "never"))<|Hh (j:=3) rfl rfl;exact wc (o:=nO es) (QE w0<|Y3 rfl)<|KS es
end
abbrev Pr:Type:=Int×Int
def tp(ps:List Pr):List Pr->List Pr
 | []=>ps
 |x::r=>tp (if x ∈ ps then ps else ps++[x]) r
abbrev Na(p:Pr):En:=(p.1,p.2,.non)
def Ta(ps:List Pr):(ps.map Na).map ky=ps:=by rw[zyA];exact List.map_id' ps
theorem Hy:∀(xs ps:List Pr),tk (ps.map Na) (xs.map Na)=(tp ps xs).map Na
 | [],ps=>rfl
 |x::r,ps=>by
  show tk (if ky (Na x) ∈ (ps.map Na).map ky then ps.map Na else ps.map Na++[Na x]) (r.map Na)=(tp (if x ∈ ps then ps else ps++[x]) r).map Na;rw[Ta,<-Hy r]
  by_cases h:x ∈ ps
  . rw[if_pos h,if_pos h]
  . rw[if_neg h,if_neg h,zyL];rfl
def FS(xs ps:List Pr):tp ps xs=(tk (ps.map Na)<|xs.map Na).map ky:=by rw[Hy,Ta]
def IG{xs ps:List Pr}(h:ps.Nodup):(tp ps xs).Nodup:=by rw[FS];exact GG _ _ (by rw[Ta];exact h)
def PV{xs ps:List Pr}{k:Pr}(h:k ∈ ps):k ∈ tp ps xs:=by rw[FS];exact YO (by rw[Ta];exact h)
def EL{xs ps:List Pr}{x:Pr}(h:x ∈ xs):x ∈ tp ps xs:=by rw[FS];exact Uh _ _ (Na x)<|zxC.mpr ⟨x,h,rfl⟩
theorem Kw:∀(xs ps:List Pr),∃t,tp ps xs=ps++t
 | [],ps=>⟨[],(zyD _).symm⟩
 |x::r,ps=>by
  obtain⟨t,h⟩:=Kw r (if x ∈ ps then ps else ps++[x]);show ∃t,tp (if x ∈ ps then ps else ps++[x]) r=_;rw[h]
  split
  . exact⟨t,rfl⟩
  . exact⟨x::t,by rw[zxB];rfl⟩
theorem G8{Q:Pr->Prop}:∀(xs ps:List Pr),(∀x ∈ ps,Q x)->(∀x ∈ xs,Q x)->∀x ∈ tp ps xs,Q x
 | [],ps,h,_=>h
 |x::r,ps,h,g=>by
  refine G8 r (if x ∈ ps then ps else ps++[x]) (λy m=>?_) λy m=>g y<|zzD _ m
  split at m
  . exact h y m
  . rcases zzM.mp m with m|m
    . exact h y m
    . rw[zzR.mp m];exact g x zzF
abbrev gp(ps:List Pr)(k:Nat):Pr:=ps.getD k (0,0)
def NT(m:Nat)(J:TZ)(ps:List Pr)(k j:Nat):List Pr:=[(yL J (gp ps k).1 (gp ps j).1,((gp ps k).2+(gp ps j).2)%m),(yL J (gp ps j).1 (gp ps k).1,((gp ps k).2+(gp ps j).2)%m)]
def Xw(m:Nat)(J:TZ)(Ds:DD)(ps:List Pr)(k:Nat):List Pr:=(Ds.map λp=>(yL p.2 (gp ps k).2 (gp ps k).1,(gp ps k).2))++(List.range<|k+1).flatMap (NT m J ps k)
structure Cp(n m:Nat)(J:TZ)(e:Int)(Ds:DD)(row:List Int)(ps:List Pr)(at_:Nat):Prop where
 nd:ps.Nodup
 ok:∀q ∈ ps,zJ n q.1/\zJ m q.2
 dd:∀k,k<at_->∀q,ps[k]? = some q->∀p ∈ Ds,(yL p.2 q.2 q.1,q.2) ∈ ps
 tw:∀i j,i<at_->j<at_->∀q r,ps[i]? = some q->ps[j]? = some r->(yL J q.1 r.1,(q.2+r.2)%(m:Int)) ∈ ps
 mn:∀ks,Kn n m J e Ds ks->(∀v ∈ row,(v,1%(m:Int)) ∈ ks)->∀q ∈ ps,q ∈ ks
section
variable{n m:Nat}{J:TZ}{e:Int}{Ds:DD}{S:SS}{row:List Int}{ps:List Pr}
def YC{k:Nat}{q:Pr}(h:ps[k]? = some q):gp ps k=q:=by unfold gp;rw[zyE,h];rfl
def Cp.step{k:Nat}(A:Alg n m J e Ds)(h:Cp n m J e Ds row ps k)(hk:k<ps.length):Cp n m J e Ds row (tp ps<|Xw m J Ds ps k) (k+1):=by
 have m1:=A.m1;have ek:=zzE hk;have okk:=h.ok _<|zyY hk;obtain⟨t,et⟩:=Kw (Xw m J Ds ps k) ps;have at_:∀{i:Nat}{x:Pr},i<k+1->(tp ps<|Xw m J Ds ps k)[i]? = some x->ps[i]? = some x:=λhi hx=>by
  rw[et,zyO<|by omega]at hx;exact hx
 have mem2:∀{j:Nat},j<k+1->∀x ∈ NT m J ps k j,x ∈ Xw m J Ds ps k:=λ{j} hj x mx=>zzL _<|List.mem_flatMap.mpr ⟨j,List.mem_range.mpr hj,mx⟩;refine⟨IG h.nd,G8 _ _ h.ok λx mx=>?_,λi hi q hq p mp=>?_,λi j hi hj q r hq hr=>?_,λks kn rr=>G8 _ _ (h.mn ks kn rr) λx mx=>?_⟩
 . rcases zzM.mp mx with mx|mx
   . obtain⟨p,mp,rfl⟩:=zxC.mp mx;rw[YC ek];exact⟨tabIn (A.ds p mp) okk.2 okk.1,okk.2⟩
   . obtain⟨j,mj,mx⟩:=List.mem_flatMap.mp mx;have hj:j<ps.length:=by have:=List.mem_range.mp mj;omega
     have ej:=zzE hj;have oj:=h.ok _<|zyY hj;unfold NT at mx;rw[YC ek,YC ej]at mx
     rcases zzC.mp mx with rfl|mx
     . exact⟨Vz A.j okk.1 oj.1,WX<|by omega⟩
     . rw[zzR.mp mx];exact⟨Vz A.j oj.1 okk.1,WX<|by omega⟩
 . have ex:=at_ hi hq
   by_cases e1:i<k
   . exact PV<|h.dd i e1 q ex p mp
   . have:i=k:=by omega
     subst this;have:=EL (ps:=ps) (xs:=Xw m J Ds ps i) (x:=(yL p.2 (gp ps i).2 (gp ps i).1,(gp ps i).2))<|zzP _<|zxC.mpr ⟨p,mp,rfl⟩;rw[YC ex]at this;exact this
 . have eq:=at_ hi hq
   have er:=at_ hj hr
   by_cases e1:i<k/\j<k
   . exact PV<|h.tw i j e1.1 e1.2 q r eq er
   . by_cases e2:i=k
     . subst e2;have:=EL (ps:=ps)<|mem2 hj _ (show _ ∈ NT m J ps i j from zzF);rw[YC eq,YC er]at this;exact this
     . have:j=k:=by omega
       subst this;have:=EL (ps:=ps)<|mem2 hi _ (show _ ∈ NT m J ps j i from zzD _ zzF);rw[YC eq,YC er,Int.add_comm r.2]at this;exact this
 . have key:∀{j:Nat},j<ps.length->gp ps j ∈ ks:=λ{j} hj=>by rw[YC<|zzE hj];exact h.mn ks kn rr _<|zyY hj
   rcases zzM.mp mx with mx|mx
   . obtain⟨p,mp,rfl⟩:=zxC.mp mx;exact kn.d _ _ (key hk) p mp
   . obtain⟨j,mj,mx⟩:=List.mem_flatMap.mp mx;have hj:j<ps.length:=by have:=List.mem_range.mp mj;omega
     rcases zzC.mp mx with rfl|mx
     . exact kn.t _ _ _ _ (key hk)<|key hj
     . rw[zzR.mp mx,Int.add_comm];exact kn.t _ _ _ _ (key hj)<|key hk
def Cp.kn(h:Cp n m J e Ds row ps ps.length)(h0:(e,0) ∈ ps):Kn n m J e Ds ps:=by
 refine⟨h0,λv c hm p mp=>?_,λv c v' c' h1 h2=>?_⟩
 . obtain⟨i,hi,hx⟩:=List.getElem_of_mem hm;exact h.dd i hi _ (by rw[zzE hi,hx]) p mp
 . obtain⟨i,hi,hx⟩:=List.getElem_of_mem h1;obtain⟨j,hj,hy⟩:=List.getElem_of_mem h2;exact h.tw i j hi hj _ _ (by rw[zzE hi,hx]) (by rw[zzE hj,hy])
def Cp.le{k:Nat}(A:Alg n m J e Ds)(h:Cp n m J e Ds row ps k):ps.length<=48:=zzO (Ri h.nd h.ok) (zzO (Nat.mul_le_mul A.n8 A.m6)<|by decide)
end
section
variable{n m:Nat}{J:TZ}{e:Int}{Ds:DD}{S:SS}{row:List Int}{ps:List Pr}
def Hb(p q:Pr)(f:Nat):wI (f+2) (pD p) (pD q)=some (decide (p=q)):=by
 obtain⟨a,b⟩:=p;obtain⟨c,d⟩:=q;show E8 (wI<|f+1) [.int a,.int b] [.int c,.int d]=_;have e1:wI (f+1) (.int a) (.int c)=some (a==c):=rfl;have e2:wI (f+1) (.int b) (.int d)=some (b==d):=rfl;simp only[E8,e1,e2,zyK]
 by_cases h1:a=c<;>by_cases h2:b=d<;>simp[h1,h2]
theorem EZ{q:Pr}:∀l:List Pr,anyF (λy=>wI 50 y<|pD q) (l.map pD)=some (decide (q ∈ l))
 | []=>rfl
 |p::l=>by
  show(wI 50 (pD p)<|pD q).bind _=_;rw[Hb p q 48,zyK,EZ l];show some (decide (p=q)||decide (q ∈ l))=_
  by_cases e:p=q
  . subst e;simp
  . have:decide (p=q)=false:=by simp[e]
    rw[this];simp[Ne.symm e]
def CH{q:Pr}{l:List Pr}:zr .NotIn (pD q) (.lst<|l.map pD)=some (.im<|.bl<|!decide (q ∈ l)):=by
 show(anyF (λy=>wI 50 y<|pD q)<|l.map pD).bind _=_;rw[EZ];rfl
abbrev Ca(n m:Nat)(J:TZ)(e:Int)(Ds:DD)(S:SS)(r:D)(ps:List Pr)(k:Nat)(e10 e11 e12 e13 e14 e15:Option O):AS:=[sT<|zt n m J e Ds S,sT r,sI n,sI m,sT<|zY J,sI e,sT<|.lst<|Ds.map y8,sT<|.lst<|S.map yE,lP ps,sI k,e10,e11,e12,e13,e14,e15]
abbrev D0:SF:=(zm true 12<|f2 (fV 12) (yR<|dC (yb<|dC (f2 (f2 yh (fV 10) zo) (fV 13) zo)<|dC (f2 (f2 UJ (fV 14) zq) yf zg) dN)<|dC (yb<|dC (f2 (f2 yh (fV 13) zo) (fV 10) zo)<|dC (f2 (f2 UJ (fV 14) zq) yf zg) dN) dN) zq)
abbrev D8:SF:=(wJ (fT<|f2 (fV 15) (fV 8)<|zr .NotIn) (yy<|xo 8 (dC (fV 15) dN) xQ) vS)
theorem KM{r:D}{k:Nat}{e10 e11 e12 e13 e14:Option O}:∀(xs ps:List Pr) (e15:Option O),ps.length+xs.length<=1000->∃e15',forL (gN 15) D8 ((xs.map pD).map λd=>(true,d)) (Ca n m J e Ds S r ps k e10 e11 e12 e13 e14 e15)=some (.nx<|Ca n m J e Ds S r (tp ps xs) k e10 e11 e12 e13 e14 e15')
 | [],ps,e15,_=>⟨e15,rfl⟩
 |x::xs,ps,e15,hl=>by
  have hl':ps.length+(xs.length+1)<=1000:=hl;have tn:=ya (Es<|Eb (as:=Ca n m J e Ds S r ps k e10 e11 e12 e13 e14<|sT<|pD x) (i:=8) (g:=zr .NotIn) (z:=.bl<|!decide (x ∈ ps)) (za (i:=15) rfl) rfl (ZE _) CH) rfl
  by_cases hc:x ∈ ps
  . rw[zyN hc]at tn;obtain⟨e15',hf⟩:=KM xs ps (sT<|pD x) (by omega);refine⟨e15', ?_⟩;rw[show tp ps (x::xs)=tp ps xs by show tp (if x ∈ ps then ps else ps++[x]) xs=_;rw[if_pos hc]];exact wa (as1:=Ca n m J e Ds S r ps k e10 e11 e12 e13 e14<|sT<|pD x) rfl (yc tn rfl) hf
  . rw[zyF hc]at tn;have sa:=Vd (as:=Ca n m J e Ds S r ps k e10 e11 e12 e13 e14<|sT<|pD x) (i:=8) (a:=fV 15) (os:=(ps.map pD).map<|O.lf true) rfl (by rw[zzB,zzB];exact Nat.lt_of_le_of_lt (show ps.length<=1000 by omega)<|by decide)<|za (i:=15) rfl;obtain⟨e15',hf⟩:=KM xs (ps++[x]) (sT<|pD x) (by rw[zzJ];show ps.length+1+xs.length<=1000;omega);refine⟨e15', ?_⟩;rw[show tp ps (x::xs)=tp (ps++[x]) xs by show tp (if x ∈ ps then ps else ps++[x]) xs=_;rw[if_neg hc]];have el:(ps.map pD).map (O.lf true)++[O.lf true<|pD x]=((ps++[x]).map pD).map (O.lf true):=by rw[zyL,zyL];rfl
    rw[el]at sa;exact wa (as1:=Ca n m J e Ds S r ps k e10 e11 e12 e13 e14<|sT<|pD x) rfl (xG tn sa) hf
def FC{a b:List D}(h:a.length+b.length<=100000):Yc .Add (.lst a) (.lst b)=some (.fl<|a++b):=if_pos (Bb<|by omega)
def Ap{as:AS}{f g:EF}{a b:List D}(ha:WE f as (.lst a))(hb:WE g as (.lst b))(h:a.length+b.length<=100000):WE (f2 f g zq) as (.lst<|a++b):=⟨_,DR ha hb<|FC h,vB _,ZE _⟩
def Je{as:AS}{a b:EF}{x y:D}(ha:WE a as x)(hb:WE b as y):WE (yR<|dC a<|dC b dN) as (.lst [x,y]):=by
 obtain⟨q,j1,j2,j3⟩:=Qp hb zT;obtain⟨p,k1,k2,k3⟩:=Qp ha j3;exact xR k3 (Y3 rfl) (by show(p.str&&(q.str&&true))=true;rw[k1,j1];rfl) (by show D.lst [p.toD,q.toD]=_;rw[k2,j2])
theorem M_(A:Alg n m J e Ds){r:D}{k:Nat}{q:Pr}{e15:Option O}(oq:zJ n q.1/\zJ m q.2):∀(xs ys:List Pr) (e13 e14:Option O),ys.length+2*xs.length<=1000->(∀x ∈ xs,zJ n x.1/\zJ m x.2)->∃e13' e14',forL (gT 2<|yT (gN 13)<|yT (gN 14) YS) D0 ((xs.map pD).map λd=>(true,d)) (Ca n m J e Ds S r ps k (sI q.1) (sI q.2) (sT<|.lst<|ys.map pD) e13 e14 e15)=some (.nx<|Ca n m J e Ds S r ps k (sI q.1) (sI q.2) (sT<|.lst<|(ys++xs.flatMap λx=>[(yL J q.1 x.1,(q.2+x.2)%m),(yL J x.1 q.1,(q.2+x.2)%m)]).map pD) e13' e14' e15)
 | [],ys,e13,e14,_,_=>⟨e13,e14,by rw[List.flatMap_nil,zyD];rfl⟩
 |x::xs,ys,e13,e14,hl,ok=>by
  have m1:=A.m1;have hl':ys.length+2*(xs.length+1)<=1000:=hl;have ox:=ok x zzF;have w2:WE (f2 (f2 UJ (fV 14) zq) yf zg) (Ca n m J e Ds S r ps k (sI q.1) (sI q.2) (sT<|.lst<|ys.map pD) (sI x.1) (sI x.2) e15) (.int<|(q.2+x.2)%m):=WD.e (zL (zZ (za (i:=11) rfl)<|za (i:=14) rfl) (za (i:=3) rfl)<|by omega);have w1:=vm (as:=Ca n m J e Ds S r ps k (sI q.1) (sI q.2) (sT<|.lst<|ys.map pD) (sI x.1) (sI x.2) e15) A.j oq.1 ox.1 (za (i:=4) rfl) (za (i:=10) rfl)<|za (i:=13) rfl;have w3:=vm (as:=Ca n m J e Ds S r ps k (sI q.1) (sI q.2) (sT<|.lst<|ys.map pD) (sI x.1) (sI x.2) e15) A.j ox.1 oq.1 (za (i:=4) rfl) (za (i:=13) rfl)<|za (i:=10) rfl;have s:=xY (p:=12) (Ap (as:=Ca n m J e Ds S r ps k (sI q.1) (sI q.2) (sT<|.lst<|ys.map pD) (sI x.1) (sI x.2) e15) (f:=fV 12) (WD.e<|za (i:=12) rfl) (Je (xm (WD.e w1) w2)<|xm (WD.e w3) w2) (by rw[zzB];show ys.length+2<=_;omega))<|zh rfl;have el:ys.map pD++[.tup [.int<|yL J q.1 x.1,.int<|(q.2+x.2)%m],.tup [.int<|yL J x.1 q.1,.int<|(q.2+x.2)%m]]=(ys++[(yL J q.1 x.1,(q.2+x.2)%m),(yL J x.1 q.1,(q.2+x.2)%m)]).map pD:=by rw[zyL];rfl
  rw[el]at s;obtain⟨e13',e14',hf⟩:=M_ A (r:=r) (k:=k) (e15:=e15) oq xs (ys++[(yL J q.1 x.1,(q.2+x.2)%m),(yL J x.1 q.1,(q.2+x.2)%m)]) (sI x.1) (sI x.2) (by rw[zzJ];show ys.length+2+_<=_;omega) λy my=>ok y<|zzD _ my;refine⟨e13',e14', ?_⟩;rw[List.flatMap_cons,<-zxB];exact wa (as1:=Ca n m J e Ds S r ps k (sI q.1) (sI q.2) (sT<|.lst<|ys.map pD) (sI x.1) (sI x.2) e15) rfl s hf
end
open L2 (zM Key Tn y6)
section
variable{n m:Nat}{J:TZ}{e:Int}{Ds:DD}{S:SS}{row:List Int}{ps:List Pr}
abbrev Nv:TF:=fT<|f2 (fV 9) (fP (aC (fV 8) aN) Z3)<|zr .Lt
abbrev uS:EF:=zN (xX y7) [none,none,some 11,some 10] (gT 2<|yT yI<|yT (gN 1) YS) yB<|yb<|dC (f2 (f2 zE zW zo) yf zo)<|dC zW dN
abbrev DZ:SF:=(zf (W6 (f2 (fV 8) (fV 9) zo)<|gT 2<|yT (gN 10)<|yT (gN 11) YS)
 (zf (zm true 12 uS)
 (zf (yw (Qk<|GR (fV 8) oN (oS<|f2 (fV 9) zH zq) LH) (gT 2<|yT (gN 13)<|yT (gN 14) YS) D0)
 (zf (yw (Qk<|fV 12) (gN 15) D8)
 (zm true 9<|f2 (fV 9) zH zq)))))
theorem IZ{α β:Type}{f g:α->β}:∀l:List α,(l.flatMap λx=>[f x,g x]).length=2*l.length
 | []=>rfl
 |x::l=>by rw[List.flatMap_cons,zzJ,IZ l];show 2+_=2*(l.length+1);omega
def SY{k:Nat}(hk:k<ps.length):(ps.take<|k+1)=(List.range<|k+1).map (gp ps):=by
 apply List.ext_getElem
 . rw[zzS,zzB,zyT];omega
 . intro i h1 h2;rw[zzS]at h1;rw[List.getElem_take,List.getElem_map,List.getElem_range,YC<|zzE (show i<ps.length by omega)]
def OM{as:AS}{k:Nat}(h8:as[8]? = some (lP ps))(h9:as[9]? = some (sI k))(hk:k<ps.length):WE (GR (fV 8) oN (oS<|f2 (fV 9) zH zq) LH) as (.lst<|(ps.take<|k+1).map pD):=by
 have h:=Fm (i:=8) (os:=(ps.map pD).map<|O.lf true) h8 (KR _) (vB _) (fl:=oN) (lo:=none) rfl<|Ke<|zZ (za (i:=9) h9)<|zb (x:=.int 1);refine⟨_,h,vB _, ?_⟩;rw[ZE,Um];have:=EC (xs:=(ps.take<|k+1).map pD) (ys:=(ps.drop<|k+1).map pD);rw[<-zyL,List.take_append_drop,zzB,zzS,Nat.min_eq_left<|by omega]at this;have h2:some (R0.fl<|cutD (ps.map pD) none<|some ((k+1:Nat):Int))=some (.fl<|(ps.take<|k+1).map pD):=this;injection h2 with h2
 injection h2 with h2
 exact congrArg D.lst h2
def Ow(A:Alg n m J e Ds){r:D}{k:Nat}(h:Cp n m J e Ds row ps k)(hk:k<ps.length)(e10 e11 e12 e13 e14 e15:Option O):∃e10' e11' e12' e13' e14' e15',DZ (Ca n m J e Ds S r ps k e10 e11 e12 e13 e14 e15)=some (.nx<|Ca n m J e Ds S r (tp ps<|Xw m J Ds ps k) (k+1) e10' e11' e12' e13' e14' e15'):=by
 have m1:=A.m1;have dl:=A.dl;have le:=h.le A;have ek:=zzE hk;have oq:=h.ok _<|zyY hk;generalize hq:ps[k]=q at ek oq;have s1:W6 (f2 (fV 8) (fV 9) zo) (gT 2<|yT (gN 10)<|yT (gN 11) YS) (Ca n m J e Ds S r ps k e10 e11 e12 e13 e14 e15)=some (.nx<|Ca n m J e Ds S r ps k (sI q.1) (sI q.2) e12 e13 e14 e15):=Bf (O2 (i:=8) rfl (ZE _) (za (i:=9) rfl)<|YB ek) rfl;have s2:=xY (p:=12) (as:=Ca n m J e Ds S r ps k (sI q.1) (sI q.2) e12 e13 e14 e15) (Q7 (h:=λp:Str×TZ=>pD (yL p.2 q.2 q.1,q.2)) (it:=λp=>(true,y8 p)) (gg:=gT 2<|yT yI<|yT (gN 1) YS) (fe:=yb<|dC (f2 (f2 zE zW zo) yf zo)<|dC zW dN) (cap:=[none,none,some 11,some 10]) Ds (V7 (g:=y8) (f:=fV 6)<|WD.e<|za (i:=6) rfl) (by omega) λp mp=>⟨[sT<|.str p.1,sT<|zY p.2,sI q.2,sI q.1],rfl,xm (WD.e (Z6 (A.ds p mp) oq.2 oq.1 (za (i:=1) rfl) (za (i:=2) rfl)<|za (i:=3) rfl).1)<|WD.e<|za (i:=2) rfl⟩)<|zh rfl;have em:Ds.map (λp:Str×TZ=>pD (yL p.2 q.2 q.1,q.2))=(Ds.map λp=>(yL p.2 q.2 q.1,q.2)).map pD:=by rw[zyA];rfl
 rw[em]at s2;obtain⟨e13',e14',s3⟩:=M_ (ps:=ps) (S:=S) A (r:=r) (k:=k) (e15:=e15) oq (ps.take<|k+1) (Ds.map λp=>(yL p.2 q.2 q.1,q.2)) e13 e14 (by rw[zzB,zzS];omega) λx mx=>h.ok x<|List.mem_of_mem_take mx;have ef:((Ds.map λp=>(yL p.2 q.2 q.1,q.2))++(ps.take<|k+1).flatMap λx=>[(yL J q.1 x.1,(q.2+x.2)%(m:Int)),(yL J x.1 q.1,(q.2+x.2)%(m:Int))])=Xw m J Ds ps k:=by
  unfold Xw;rw[SY hk,List.flatMap_map];unfold NT;rw[YC ek]
 rw[ef]at s3;have fl:(Xw m J Ds ps k).length<=200:=by
  rw[<-ef,zzJ,zzB,IZ,zzS];omega
 obtain⟨e15',s4⟩:=KM (S:=S) (n:=n) (m:=m) (J:=J) (e:=e) (Ds:=Ds) (r:=r) (k:=k) (e10:=sI q.1) (e11:=sI q.2) (e12:=sT<|.lst<|(Xw m J Ds ps k).map pD) (e13:=e13') (e14:=e14') (Xw m J Ds ps k) ps e15 (by omega);have s5:=xY (p:=9) (as:=Ca n m J e Ds S r (tp ps<|Xw m J Ds ps k) k (sI q.1) (sI q.2) (sT<|.lst<|(Xw m J Ds ps k).map pD) e13' e14' e15') (WD.e<|zZ (za (i:=9) rfl)<|zb (x:=.int 1))<|zh rfl;refine⟨_,_,_,_,_,_,zk s1<|zk s2<|zk (xb (Ko<|OM rfl rfl hk) s3)<|zk (xb (Ko<|WD.e<|za (i:=12) rfl) s4) s5⟩
theorem Ir(A:Alg n m J e Ds){r:D}:∀(d k f:Nat) (ps:List Pr) (e10 e11 e12 e13 e14 e15:Option O),Cp n m J e Ds row ps k->k<=ps.length->d+k=49->d<f->∃ps' e10' e11' e12' e13' e14' e15',LX Nv DZ f (Ca n m J e Ds S r ps k e10 e11 e12 e13 e14 e15)=some (.nx<|Ca n m J e Ds S r ps' ps'.length e10' e11' e12' e13' e14' e15')/\Cp n m J e Ds row ps' ps'.length/\∀q ∈ ps,q ∈ ps'
 |0,k,f,ps,_,_,_,_,_,_,h,hk,hd,hf=>by have:=h.le A;omega
 |d+1,k,f,ps,e10,e11,e12,e13,e14,e15,h,hk,hd,hf=>by
  obtain⟨f,rfl⟩:∃g,f=g+1:=⟨f-1,by omega⟩;have le:=h.le A;have lt:=Lw (za (as:=Ca n m J e Ds S r ps k e10 e11 e12 e13 e14 e15) (i:=9) rfl)<|Oq (as:=Ca n m J e Ds S r ps k e10 e11 e12 e13 e14 e15) (i:=8) rfl;rw[zzB,zzB]at lt
  by_cases hc:k<ps.length
  . have tt:WT Nv (Ca n m J e Ds S r ps k e10 e11 e12 e13 e14 e15) true:=ya lt (congrArg some<|zyN<|by omega);obtain⟨_,_,_,_,_,_,s1⟩:=Ow (S:=S) A (r:=r) h hc e10 e11 e12 e13 e14 e15;obtain⟨t,et⟩:=Kw (Xw m J Ds ps k) ps;obtain⟨ps',e1,e2,e3,e4,e5,e6,h1,h2,h3⟩:=Ir A (r:=r) d (k+1) f (tp ps<|Xw m J Ds ps k) _ _ _ _ _ _ (h.step A hc) (by rw[et,zzJ];omega) (by omega) (by omega);exact⟨ps',e1,e2,e3,e4,e5,e6,G_ tt s1 h1,h2,λq mq=>h3 q<|PV mq⟩
  . have ee:k=ps.length:=by omega
    subst ee;have tt:WT Nv (Ca n m J e Ds S r ps ps.length e10 e11 e12 e13 e14 e15) false:=ya lt (congrArg some<|zyF<|by omega);exact⟨ps,e10,e11,e12,e13,e14,e15,GU tt,h,λq mq=>mq⟩
end
section
variable{n m:Nat}{J:TZ}{e:Int}{Ds:DD}{S:SS}{row:List Int}
abbrev JD(m:Nat)(e v:Int):Bool:=!decide ((v,1%(m:Int))=(e,(0:Int)))
abbrev a0(m:Nat)(e:Int)(row:List Int):List Pr:=(e,0)::((F_ row).filter<|JD m e).map λv=>(v,1%(m:Int))
def Cz{v:Int}(h:v ∈ row):(v,1%(m:Int)) ∈ a0 m e row:=by
 by_cases c:(v,1%(m:Int))=(e,(0:Int))
 . rw[c];exact zzF
 . refine zzD _<|zxC.mpr ⟨v,List.mem_filter.mpr ⟨Kb.mpr h, ?_⟩,rfl⟩;show(!decide _)=true;rw[zyF c];rfl
def JQ(A:Alg n m J e Ds)(hr:∀v ∈ row,zJ n v):Cp n m J e Ds row (a0 m e row) 0:=by
 have m1:=A.m1;refine⟨zzW.mpr ⟨λmm=>?_, ?_⟩,λq mq=>?_,λk hk=>absurd hk (by omega),λi j hi=>absurd hi (by omega),λks kn rr q mq=>?_⟩
 . obtain⟨v,mv,hv⟩:=zxC.mp mm;have:=(List.mem_filter.mp mv).2;rw[show JD m e v = !decide ((v,1%(m:Int))=(e,(0:Int)))from rfl,zyN hv]at this;exact nomatch this
 . exact List.Pairwise.map _ (λa b hab hh=>hab<|congrArg Prod.fst hh)<|(JF row).filter _
 . rcases zzC.mp mq with rfl|mq
   . exact⟨⟨A.e0,A.en⟩,⟨Int.le_refl _,by show(0:Int)<m;omega⟩⟩
   . obtain⟨v,mv,rfl⟩:=zxC.mp mq;exact⟨hr v<|Kb.mp (List.mem_filter.mp mv).1,WX<|by omega⟩
 . rcases zzC.mp mq with rfl|mq
   . exact kn.o
   . obtain⟨v,mv,rfl⟩:=zxC.mp mq;exact rr v<|Kb.mp (List.mem_filter.mp mv).1
def Ci{as:AS}{a:EF}{x:D}(ha:WE a as x):WE (yR<|dC a dN) as (.lst [x]):=by
 obtain⟨p,k1,k2,k3⟩:=Qp ha zT;exact xR k3 (Y3 rfl) (by show(p.str&&true)=true;rw[k1];rfl) (by show D.lst [p.toD]=_;rw[k2])
def Jg(p q:Pr):zr .NotEq (pD p) (pD q)=some (.im<|.bl<|!decide (p=q)):=by
 have z:zr .NotEq (pD p) (pD q)=(wI 60 (pD p)<|pD q).bind λb=>some (MF !b):=rfl;rw[z,Hb p q 58];rfl
def IW{as:AS}{a b:EF}{p q:Pr}(ha:WE a as (pD p))(hb:WE b as (pD q)):WT (fT<|f2 a b<|zr .NotEq) as (!decide (p=q)):=
 ya (UZ (g:=zr .NotEq) ha hb<|Jg p q) rfl
abbrev Jo(n m:Nat)(J:TZ)(e:Int)(Ds:DD)(S:SS)(r:D)(x y:Option O):AS:=[sT<|zt n m J e Ds S,sT r,sI n,sI m,sT<|zY J,sI e,sT<|.lst<|Ds.map y8,sT<|.lst<|S.map yE,x,y,none,none,none,none,none,none]
def H9(A:Alg n m J e Ds)(hr:∀x ∈ row,zJ n x)(hl:row.length<=10):∃ps:List Pr,YK [(true,zt n m J e Ds S),(true,zi row)]=sN ((ps.map pD).map<|O.lf true)/\Kn n m J e Ds ps/\(∀v ∈ row,(v,1%(m:Int)) ∈ ps)/\ps.length<=48/\ps.Nodup/\(∀q ∈ ps,zJ n q.1/\zJ m q.2)/\∀ks,Kn n m J e Ds ks->(∀v ∈ row,(v,1%(m:Int)) ∈ ks)->∀q ∈ ps,q ∈ ks:=by
 have m1:=A.m1;have m6:=A.m6;have hv:(F_ row).length<=10:=zzO (zzO (Nat.le_of_eq (sortI_perm _).length_eq)<|Nb row) hl;have s0:W6 zl (gT 6<|yT (gN 2)<|yT (gN 3)<|yT G4<|yT (gN 5)<|yT (gN 6)<|yT (gN 7) YS) (yF 16 [(true,zt n m J e Ds S),(true,zi row)])=some (.nx<|Jo n m J e Ds S (zi row) none none):=Bf (WD.e<|za (i:=0) rfl) rfl;have hi:=V7 (as:=Jo n m J e Ds S (zi row) none none) (g:=D.int) (l:=F_ row)<|OK (a:=fV 1) A.n8 hr (by omega)<|WD.e<|za (i:=1) rfl;have w1:=Ci (as:=Jo n m J e Ds S (zi row) none none)<|xm (WD.e<|za (i:=5) rfl)<|WD.e<|zb (x:=.int 0);have w2:=Ks (as:=Jo n m J e Ds S (zi row) none none) (cap:=[none,some 3,some 5]) (gg:=gN 0) (tt:=fT<|f2 (yb<|dC zl<|dC (f2 zH zE zg) dN) (yb<|dC zW<|dC zP dN)<|zr .NotEq) (fe:=yb<|dC zl<|dC (f2 zH zE zg) dN) (p:=JD m e) (h:=λv=>pD (v,1%(m:Int))) (it:=λv=>(true,D.int v)) (F_ row) hi (by omega) λv mv=>by
  have wt:WE (yb<|dC zl<|dC (f2 zH zE zg) dN) [sI v,sI m,sI e] (pD (v,1%(m:Int))):=xm (WD.e<|za (i:=0) rfl) (WD.e<|zL (zb (x:=.int 1)) (za (i:=1) rfl)<|by omega);exact⟨[sI v,sI m,sI e],rfl,IW (q:=(e,0)) wt<|xm (WD.e<|za (i:=2) rfl)<|WD.e<|zb (x:=.int 0),λ_=>wt⟩
 have s8:=yt (i:=8) (DR w1 w2<|FC (by rw[zzB];have:=List.length_filter_le (JD m e)<|F_ row;show 1+_<=_;omega))<|zh rfl;have e8 : [D.tup [.int e,.int 0]]++((F_ row).filter<|JD m e).map (λv=>pD (v,1%(m:Int)))=(a0 m e row).map pD:=by rw[zyR,zyA];rfl
 rw[e8]at s8;have s9:=xY (p:=9) (as:=Jo n m J e Ds S (zi row) (lP<|a0 m e row) none) (WD.e<|zb (x:=.int 0))<|zh rfl;obtain⟨ps,e1,e2,e3,e4,e5,e6,h1,h2,h3⟩:=Ir (S:=S) (row:=row) A (r:=zi row) 49 0 10000 (a0 m e row) none none none none none none (JQ A hr) (Nat.zero_le _) rfl (by decide);have hret:zX (fV 8) (Ca n m J e Ds S (zi row) ps ps.length e1 e2 e3 e4 e5 e6)=some (.rt<|.nd .ls<|(ps.map pD).map<|O.lf true):=We (i:=8) rfl<|vB _;exact⟨ps,xx rfl<|zk s0<|zk s8<|zk s9<|zk h1 hret,h2.kn<|h3 _ zzF,λv mv=>h3 _<|Cz mv,h2.le A,h2.nd,h2.ok,h2.mn⟩
end
section
variable{n m:Nat}{J:TZ}{e:Int}{Ds:DD}{S:SS}{row:List Int}
def vT{n:Nat}{t:Int->FT}(h:∀a,zJ n a->t a=none):fs n t=none:=by
 unfold fs;rw[List.findSome?_eq_none_iff];intro i mi;have:=List.mem_range.mp mi;exact h i ⟨by omega,by omega⟩
def T9{a b:Int}(h:a=b):(!(a==b))=false:=by rw[h,beq_self_eq_true];rfl
def BD(L:LawA n m J e Ds):tW n m J e Ds=none:=by
 have h1:tU n J e=none:=vT λa ha=>if_neg (by rw[T9<|L.lj.ul a ha,T9<|L.lj.ur a ha];decide);have h2:tA n J=none:=vT λa ha=>vT λb hb=>vT λc hc=>if_neg (by rw[T9<|L.lj.as a b c ha hb hc];decide);have h3:Ds.findSome? (tE n m J e)=none:=by
  rw[List.findSome?_eq_none_iff];intro p mp;have D:=L.ld p mp;unfold tE;rw[if_neg (by rw[T9 D.em];decide),show tD n m J p.2 p.1=none from vT λa ha=>vT λi hi=>vT λb hb=>vT λk hk=>if_neg<|by rw[T9<|D.dn a i b k ha hi hb hk];decide];rfl
 unfold tW;rw[h1,h2,h3];rfl
end
abbrev HD(q:Pr):Int:=q.1*1000+q.2
theorem M4:∀{l:List Pr},(∀q ∈ l,0<=q.2/\q.2<1000)->Vx (l.map pD)=some (l.map HD)
 | [],_=>rfl
 |q::l,h=>by
  show(Rv<|pD q).bind _=_;rw[show Rv (pD q)=some (HD q)from if_pos<|h q zzF,zyK,M4 λy my=>h y<|zzD _ my];rfl
def Eu{l:List Pr}(h:∀q ∈ l,0<=q.2/\q.2<1000)(nd:l.Nodup):(l.map HD).Nodup:=by
 induction l with
 |nil=>exact zyI
 |cons x l ih=>
  obtain⟨h1,h2⟩:=zzW.mp nd;refine zzW.mpr ⟨λmx=>?_,ih (λy my=>h y<|zzD _ my) h2⟩;obtain⟨y,my,e⟩:=zxC.mp mx;have a:=h x zzF;have b:=h y<|zzD _ my;have e:y.1*1000+y.2=x.1*1000+x.2:=e;have:y=x:=Prod.ext (by omega) (by omega);exact h1<|this ▸ my
def FP{as:AS}{a:EF}{l:List Pr}(h:∀q ∈ l,0<=q.2/\q.2<1000)(nd:l.Nodup)(hl:l.length<=48)(ha:WE a as (.lst<|l.map pD)):WE (fP (aC a aN) ZH) as (.lst<|(sortI<|l.map HD).map P_):=by
 refine⟨_,Kf (zs:=(sortI<|l.map HD).map P_) ha ?_,vB _,ZE _⟩;show(Vx<|l.map pD).bind _=_;rw[M4 h];exact if_pos ⟨by rw[zzB];omega,Eu h nd⟩
def Et{l l':List Pr}(h1:l.Nodup)(h2:l'.Nodup)(h:∀q,q ∈ l ↔ q ∈ l'):l.Perm l':=(List.perm_ext_iff_of_nodup h1 h2).mpr h
def RD{l l':List Pr}(p:l.Perm l'):sortI (l.map HD)=sortI (l'.map HD):=Zj _ _ (((sortI_perm _).trans<|p.map _).trans (sortI_perm _).symm) (yY _)<|yY _
def EN(l:List Int):wI 60 (.lst<|l.map P_) (.lst<|l.map P_)=some true:=Xj _ λx mx=>by
 obtain⟨k,_,rfl⟩:=zxC.mp mx;exact Xj _ λx mx=>by
  rcases zzC.mp mx with rfl|mx
  . show some (_==_)=_;rw[beq_self_eq_true]
  . rw[zzR.mp mx];show some (_==_)=_;rw[beq_self_eq_true]
def Fy{i:Int}{s:Bool}:yW [(s,.int i)]=sT (.bl true):=by
 have v:WD zl [some<|.lf s<|.int i] s (.int i):=za (i:=0) rfl;exact xx (rfl)<|wc (o:=.lf true<|.bl true) (Xx (k:=true) (QT v rfl) (λ_=>OG<|QT v (q:=false) rfl) λz=>nomatch z) rfl
def Pm{as:AS}{a:EF}{i:Int}(h:WD a as true (.int i)):WD (zp (aC a aN) yW) as true (.bl true):=xU (ze h zA) Fy
def J4{as:AS}{a b:EF}{i k:Int}(h0:0<=i)(h1:i<k)(ha:WD a as true (.int i))(hb:WD b as true (.int k)):WD (x_ zP a b (zr .LtE)<|zr .Lt) as true (.bl true):=by
 have:=S3 (zb (x:=.int 0) (as:=as)) ha hb;rw[zyN h0,zyN h1]at this;exact this
def MJ{i:Nat}{h:D}(H:Ah i h):xN [(true,h),(true,.int i)]=sT (.bl true):=by
 have v0:WD zl [sT h,sI i] true h:=za (i:=0) rfl;have v1:WD zE [sT h,sI i] true (.int i):=za (i:=1) rfl
 rcases H with rfl|⟨v,rfl⟩|⟨s,k,hk,rfl⟩|⟨p,q,hp,hq,rfl⟩
 . have w:WD (f2 zl zP zo) [sT<|.tup [.str "none"],sI i] true (.str "none"):=yi v0 zb rfl;exact xx rfl<|zk (yc (ya (vJ w zb rfl) rfl) rfl)<|zk (yc (ya (vJ w zb rfl) rfl) rfl)<|wc (o:=.lf true<|.bl true) (UZ (WD.e w) (xm (WD.e<|zb (x:=.str "none"))<|WD.e<|zb (x:=.str "one")) rfl) rfl
 . have w:WD (f2 zl zP zo) [sT<|.tup [.str "one",.int v],sI i] true (.str "one"):=yi v0 zb rfl;exact xx rfl<|zk (yc (ya (vJ w zb rfl) rfl) rfl)<|zk (yc (ya (vJ w zb rfl) rfl) rfl)<|wc (o:=.lf true<|.bl true) (UZ (WD.e w) (xm (WD.e<|zb (x:=.str "none"))<|WD.e<|zb (x:=.str "one")) rfl) rfl
 . have w:WD (f2 zl zP zo) [sT<|.tup [.str "deed",.str s,.int k],sI i] true (.str "deed"):=yi v0 zb rfl;have w2:WD (f2 zl ye zo) [sT<|.tup [.str "deed",.str s,.int k],sI i] true (.int k):=yi v0 zb rfl;exact xx rfl<|vH<|xG (ya (vJ w zb rfl) rfl)<|wc (o:=.lf true<|.bl true) (Xx (k:=true) (Pm w2) (λ_=>J4 (by omega) (by omega) w2 v1) λz=>nomatch z) rfl
 . have w:WD (f2 zl zP zo) [sT<|.tup [.str "two",.int p,.int q],sI i] true (.str "two"):=yi v0 zb rfl;have w1:WD (f2 zl zH zo) [sT<|.tup [.str "two",.int p,.int q],sI i] true (.int p):=yi v0 zb rfl;have w2:WD (f2 zl ye zo) [sT<|.tup [.str "two",.int p,.int q],sI i] true (.int q):=yi v0 zb rfl;exact xx rfl<|zk (yc (ya (vJ w zb rfl) rfl) rfl)<|vH<|xG (ya (vJ w zb rfl) rfl)<|wc (o:=.lf true<|.bl true) (Xx (k:=true) (Pm w1) (λ_=>Xx (k:=true) (Pm w2) (λ_=>Xx (k:=true) (J4 (by omega) (by omega) w1 v1) (λ_=>J4 (by omega) (by omega) w2 v1) λz=>nomatch z) λz=>nomatch z) λz=>nomatch z) rfl
def Rm{as:AS}{i:Nat}{o:O}{f:EF}{z:D}{s:Bool}(h:as[i]? = some (some o))(ho:UK i 0 as=true)(hf:WD f (as.set i<|some o.frz) s z)(fl:zB z=true):WD (vV i f) as true z:=by
 unfold WD at hf ⊢;unfold vV;have e1:XA some as i=some o:=by unfold XA;rw[h];rfl
 simp only[e1,zyK,if_pos ho,hf];show((if zB z=true then some z else none:Option D).bind _)=_;rw[if_pos fl];rfl
def QR{as:AS}{i:Nat}{o:O}{t:TF}{b:Bool}(h:as[i]? = some (some o))(ho:UK i 0 as=true)(ht:WT t (as.set i<|some o.frz) b):WT (Zi i t) as b:=by
 unfold WT at ht ⊢;unfold Zi;have e1:XA some as i=some o:=by unfold XA;rw[h];rfl
 simp only[e1,zyK,if_pos ho,ht]
abbrev R9(A r nm vs kn:D)(o:O)(e6 e7 e8:Option O):AS:=[sT A,sT r,sT nm,sT vs,sT kn,some o,e6,e7,e8]
abbrev NI(w:Str)(es:List En)(tl:List D):D:=.tup (.str w :: .lst (es.map eD)::tl)
section
variable{A r nm kn:D}{vs:List Int}{es:List En}{w:Str}{tl:List D}{o:O}{e6 e7 e8:Option O}
def ix1'{w x:D}{tl:List D}:zo (.tup (w::x::tl)) (.int 1)=some (.im x):=by
 show Mm _=_;rw[show(1:Int)=((1:Nat):Int)from rfl,L2.y6 rfl];rfl
def Ik{as:AS}{i:Nat}(h:as[i]? = some (sT<|NI w es tl)):WD (f2 (fV i) zH zo) as true (.lst<|es.map eD):=yi (za h) zb ix1'
def ix0'{as:AS}{i:Nat}(h:as[i]? = some (sT<|NI w es tl)):WD (f2 (fV i) zP zo) as true (.str w):=yi (za h) zb Ay
abbrev AJ(i:Nat):EF:=fP (aC (zN (xX<|f2 (fV i) zH zo) [none] yI yB<|GR zl oN (oS ye) LH) aN) ZH
def FE{as:AS}{i:Nat}{n m:Nat}(h:as[i]? = some (sT<|NI w es tl))(m6:m<=6)(ok:∀x ∈ es,Ok n m x)(nd:(es.map ky).Nodup)(hl:es.length<=48):WE (AJ i) as (.lst<|(sortI<|(es.map ky).map HD).map P_):=by
 refine FP (l:=es.map ky) (λq mq=>?_) nd (by rw[zzB];exact hl) ?_
 . obtain⟨x,mx,rfl⟩:=zxC.mp mq;have:=(ok x mx).2;exact⟨this.1,by have:=this.2;show x.2.1<1000;omega⟩
 . have:=Q7 (h:=λx:En=>pD<|ky x) (it:=λx=>(true,eD x)) (as:=as) (cap:=[none]) (gg:=gN 0) (fe:=GR zl oN (oS ye) LH) es (V7 (g:=eD)<|WD.e<|Ik h) (by omega) λx _=>⟨[sT<|eD x],rfl,WD.e<|Me (lo:=none) (hi:=some 2) (za (i:=0) rfl) rfl (Ke<|zb (x:=.int 2)) rfl⟩;rw[zyA];exact this
abbrev Dn:TF:=Vn (vq<|fT<|vV 5<|UX (f2 yo zH zo) "list")<|Zi 5<|fT<|f2 (AJ 5) (fP (aC yh aN) ZH)<|zr .NotEq
def DO{n m:Nat}{ps:List Pr}(ho:UK 5 0 (R9 A r nm (zi vs) (.lst<|ps.map pD) o e6 e7 e8)=true)(hf:o.frz = .lf true (NI w es tl))(m6:m<=6)(ok:∀x ∈ es,Ok n m x)(nd:(es.map ky).Nodup)(hl:es.length<=48)(pp:(es.map ky).Perm ps):WT Dn (R9 A r nm (zi vs) (.lst<|ps.map pD) o e6 e7 e8) false:=by
 have e5:((R9 A r nm (zi vs) (.lst<|ps.map pD) o e6 e7 e8).set 5<|some o.frz)[5]? = some (sT<|NI w es tl):=by rw[hf];rfl
 have h4:((R9 A r nm (zi vs) (.lst<|ps.map pD) o e6 e7 e8).set 5<|some o.frz)[4]? = some (sT<|.lst<|ps.map pD):=rfl;have okp:∀q ∈ ps,0<=q.2/\q.2<1000:=λq mq=>by
  obtain⟨x,mx,rfl⟩:=zxC.mp<|pp.mem_iff.mpr mq;have:=(ok x mx).2;exact⟨this.1,by have:=this.2;show x.2.1<1000;omega⟩
 have w1:=FE e5 m6 ok nd hl;have w2:=FP (a:=fV 4) okp (pp.nodup_iff.mp nd) (by rw[<-pp.length_eq,zzB];exact hl)<|WD.e<|za (i:=4) h4;rw[<-RD pp]at w2;exact Uq (k:=false) (Xz (k:=true)<|ya (Rm rfl ho (QT (Ik e5) (q:=true) rfl) rfl) rfl) (λ_=>QR rfl ho<|ya (Vv w1 w2<|EN _) rfl) λz=>nomatch z
abbrev Js:SF:=(wJ (vq<|fT<|vV 5<|zp (aC (f2 (f2 (f2 yo zH zo) Z4 zo) ye zo) By) xN) (zX<|fC<|.bl false) vS)
def DX{kn:D}{b:Bool}(hf:o.frz = .lf true (NI w es tl))(hl:es.length<=48)(ah:∀i x,es[i]? = some x->Ah i x.2.2):∃e7',yw (yk (aC (vV 5<|fP (aC (f2 yo zH zo) aN) Z3) aN) yn) (gN 7) Js (R9 A r nm (zi vs) kn o (sT<|.bl b) none none)=some (.nx<|R9 A r nm (zi vs) kn o (sT<|.bl b) e7' none)/\(e7'=none\/∃d,e7'=sT d):=by
 have e5:∀e7,((R9 A r nm (zi vs) kn o (sT<|.bl b) e7 none).set 5<|some o.frz)[5]? = some (sT<|NI w es tl):=λ_=>by rw[hf];rfl
 have wl:WD (vV 5<|fP (aC (f2 yo zH zo) aN) Z3) (R9 A r nm (zi vs) kn o (sT<|.bl b) none none) true (.int es.length):=Rm rfl rfl (Ve (z:=.int es.length) (WD.e<|Ik<|e5 none) (by show some (R0.im<|.int (es.map eD).length)=_;rw[zzB])) rfl;have hr:=yK (ze wl zA) (by omega) (by omega);rw[zyH]at hr;obtain⟨as',hh,e7',rfl,h7⟩:=yV (g:=gN 7) (f:=Js) (λ_ as=>∃e7',as=R9 A r nm (zi vs) kn o (sT<|.bl b) e7' none/\(e7'=none\/∃d,e7'=sT d)) (yJ 0 es.length) 0 (R9 A r nm (zi vs) kn o (sT<|.bl b) none none) (λi x as hx hI=>by
  obtain⟨e7,rfl,_⟩:=hI;obtain⟨rfl,hi⟩:=yD hx;rw[Int.zero_add];refine⟨R9 A r nm (zi vs) kn o (sT<|.bl b) (sI i) none,rfl,_, ?_,sI i,rfl,.inr ⟨_,rfl⟩⟩;have ei:=zzE hi;have w1:=yi (Ik<|e5<|sI i) (za (i:=7) rfl)<|YB (f:=eD) ei;have w2:WD (f2 (f2 (f2 yo zH zo) Z4 zo) ye zo) ((R9 A r nm (zi vs) kn o (sT<|.bl b) (sI i) none).set 5<|some o.frz) true es[i].2.2:=yi w1 (zb (x:=.int 2)) rfl;have w3:=xU (g:=xN) (s:=true) (x:=.bl true) (ze w2<|ze (za (i:=7) rfl) zA) (by show xN [(zB _||true,_),(true,.int i)]=_;rw[zyC];exact MJ<|ah i _ ei);exact yc (Xz (k:=true)<|ya (Rm rfl rfl w3 rfl) rfl) rfl) ⟨none,rfl,.inl rfl⟩
 exact⟨e7',xb hr hh,h7⟩
end
section
variable{A r nm:D}{vs:List Int}{es:List En}{ps:List Pr}{o:O}
abbrev Ez(vs:List Int)(ps:List Pr):Bool:=!(ps.filter λq=>decide (q.1 ∈ vs)).isEmpty
def Cu(l:List D):wI 60 (.lst l) (.lst [])=some l.isEmpty:=by
 cases l with
 |nil=>rfl
 |cons x l=>rfl
def Lq(hl:ps.length<=48):zm true 6 (f2 (zN (xX yh) [none,some 3] yI (fT<|f2 (f2 zl zP zo) zE<|zr .In) zl) (yR dN)<|zr .NotEq) (R9 A r nm (zi vs) (.lst<|ps.map pD) o none none none)=some (.nx<|R9 A r nm (zi vs) (.lst<|ps.map pD) o (sT<|.bl<|Ez vs ps) none none):=by
 have w:=Ks (as:=R9 A r nm (zi vs) (.lst<|ps.map pD) o none none none) (cap:=[none,some 3]) (gg:=gN 0) (tt:=fT<|f2 (f2 zl zP zo) zE<|zr .In) (fe:=fV 0) (p:=λq:Pr=>decide (q.1 ∈ vs)) (h:=pD) (it:=λq=>(true,pD q)) ps (V7 (g:=pD)<|WD.e<|za (i:=4) rfl) (by omega) λq _=>⟨[sT<|pD q,sT<|zi vs],rfl,Ij (WD.e<|yj (za (i:=0) rfl) (zb (x:=.int 0)) rfl rfl)<|WD.e<|za (i:=1) rfl,λ_=>WD.e<|za (i:=0) rfl⟩;have w2:=Vv w (xR (os:=[]) zT (Y3 rfl) rfl rfl)<|Cu _;rw[List.isEmpty_map]at w2;exact xY (p:=6) (WD.e w2)<|zh rfl
def Li:Ez vs ps=true ↔ ∃q ∈ ps,q.1 ∈ vs:=by
 show(!(ps.filter λq=>decide (q.1 ∈ vs)).isEmpty)=true ↔ _;constructor
 . intro h;cases hf:ps.filter λq=>decide (q.1 ∈ vs)with
   |nil=>rw[hf]at h;exact nomatch h
   |cons q l=>
    have:q ∈ ps.filter λq=>decide (q.1 ∈ vs):=by rw[hf];exact zzF
    have:=List.mem_filter.mp this;exact⟨q,this.1,of_decide_eq_true this.2⟩
 . rintro⟨q,m1,m2⟩
   have:q ∈ ps.filter λq=>decide (q.1 ∈ vs):=List.mem_filter.mpr ⟨m1,zyN m2⟩;cases hf:ps.filter λq=>decide (q.1 ∈ vs)with
   |nil=>rw[hf]at this;exact nomatch this
   |cons q l=>rfl
abbrev ID:TF:=Vn (vq<|fT<|vV 5<|UX yo "tuple")<|Vn (Zi 5<|fT<|f2 (fP JR Z3) (f2 ye (fP (aC y7 aN) x6) zq)<|zr .NotEq)<|Zi 5<|fT<|f2 (f2 yo zP zo) (f2 (yR<|dC (fC<|.str "never")<|dC (fC<|.str "comes") dN) (fP (aC y7 aN) x6) zo)<|zr .NotEq
abbrev Jj(es:List En)(k:Nat):D:=NI "comes" es [.int k]
abbrev DU(es:List En):D:=NI "never" es []
def Vh(es:List En)(k:Nat):(cO es k).frz = .lf true (Jj es k):=by
 have h:(cO es k).frz = .lf (cO es k).str (cO es k).toD:=rfl;rw[h,KF];show O.lf true (.tup [.str "comes",(eO es).toD,.int k])=_;rw[ZE]
def RW(es:List En):(nO es).frz = .lf true (DU es):=by
 have h:(nO es).frz = .lf (nO es).str (nO es).toD:=rfl;rw[h,KS];show O.lf true (.tup [.str "never",(eO es).toD])=_;rw[ZE]
def A6{w x:D}{tl:List D}:zo (.lst (w::x::tl)) (.int 1)=some (.im x):=by
 show Mm _=_;rw[show(1:Int)=((1:Nat):Int)from rfl,L2.y6 rfl];rfl
def AN{w:D}{tl:List D}:zo (.lst (w::tl)) (.int 0)=some (.im w):=by
 show Mm _=_;rw[show(0:Int)=((0:Nat):Int)from rfl,L2.y6 rfl];rfl
def DP{as:AS}:WE (yR<|dC (fC<|.str "never")<|dC (fC<|.str "comes") dN) as (.lst [.str "never",.str "comes"]):=Je (WD.e zb)<|WD.e zb
def JJ{k:Nat}(x:Str):wI (k+1) (.str x) (.str x)=some true:=by
 show some (x==x)=_;rw[beq_self_eq_true]
def JB{k:Nat}(x:Int):wI (k+1) (.int x) (.int x)=some true:=by
 show some (x==x)=_;rw[beq_self_eq_true]
def Dg{kn:D}{k:Nat}:WT ID (R9 A r nm (zi vs) kn (cO es k) (sT<|.bl true) none none) false:=by
 have e5:((R9 A r nm (zi vs) kn (cO es k) (sT<|.bl true) none none).set 5<|some (cO es k).frz)[5]? = some (sT<|Jj es k):=by rw[Vh];rfl
 have w6:WD (fP (aC y7 aN) x6) ((R9 A r nm (zi vs) kn (cO es k) (sT<|.bl true) none none).set 5<|some (cO es k).frz) true (.int 1):=Ve (WD.e<|za (i:=6) rfl) rfl;refine Uq (k:=false) (Xz (k:=true)<|ya (Rm rfl rfl (QT (za (i:=5) e5) (q:=true) rfl) rfl) rfl) (λ_=>Uq (k:=false) (QR rfl rfl<|ya (Vv (x:=.int 3) (y:=.int<|2+1) (WD.e<|Ve (WD.e<|za (i:=5) e5) rfl) (WD.e<|zZ (zb (x:=.int 2)) w6)<|JB 3) rfl) (λ_=>?_) λz=>nomatch z) λz=>nomatch z;exact QR rfl rfl<|ya (Vv (x:=.str "comes") (y:=.str "comes") (WD.e<|ix0' e5) (WD.e<|UZ DP (WD.e w6) A6)<|JJ _) rfl
def Ag{kn:D}:WT ID (R9 A r nm (zi vs) kn (nO es) (sT<|.bl false) none none) false:=by
 have e5:((R9 A r nm (zi vs) kn (nO es) (sT<|.bl false) none none).set 5<|some (nO es).frz)[5]? = some (sT<|DU es):=by rw[RW];rfl
 have w6:WD (fP (aC y7 aN) x6) ((R9 A r nm (zi vs) kn (nO es) (sT<|.bl false) none none).set 5<|some (nO es).frz) true (.int 0):=Ve (WD.e<|za (i:=6) rfl) rfl;refine Uq (k:=false) (Xz (k:=true)<|ya (Rm rfl rfl (QT (za (i:=5) e5) (q:=true) rfl) rfl) rfl) (λ_=>Uq (k:=false) (QR rfl rfl<|ya (Vv (x:=.int 2) (y:=.int<|2+0) (WD.e<|Ve (WD.e<|za (i:=5) e5) rfl) (WD.e<|zZ (zb (x:=.int 2)) w6)<|JB 2) rfl) (λ_=>?_) λz=>nomatch z) λz=>nomatch z;exact QR rfl rfl<|ya (Vv (x:=.str "never") (y:=.str "never") (WD.e<|ix0' e5) (WD.e<|UZ DP (WD.e w6) AN)<|JJ _) rfl
abbrev AR:TF:=VE (fT y7)<|Vn (vq<|fT<|vV 5<|zp (aC (f2 yo ye zo) aN) yW)<|vq<|Zi 5<|fT<|x_ zP (f2 yo ye zo) (fP (aC (f2 yo zH zo) aN) Z3) (zr .LtE)<|zr .Lt
abbrev AX:TF:=VE (fT y7)<|Zi 5<|fT<|f2 (f2 (f2 (f2 yo zH zo) (f2 yo ye zo) zo) zP zo) yf<|zr .NotIn
def D_{kn:D}{e7:Option O}{t:TF}:WT (VE (fT y7) t) (R9 A r nm (zi vs) kn o (sT<|.bl false) e7 none) false:=KC (k:=false) (ya (za (i:=6) rfl) rfl) (λz=>nomatch z) λ_=>rfl
def Ib{as:AS}{k:Nat}(h:as[5]? = some (sT<|Jj es k)):WD (f2 yo ye zo) as true (.int k):=yi (za h) zb rfl
def DE{as:AS}{a b:EF}{x:Int}{l:List Int}(ha:WE a as (.int x))(hb:WE b as (zi l)):WT (fT<|f2 a b<|zr .NotIn) as (!decide (x ∈ l)):=
 ya (UZ (g:=zr .NotIn) (z:=.bl<|!decide (x ∈ l)) ha hb<|by show(anyF (λy=>wI 50 y<|.int x)<|l.map D.int).bind _=_;rw[KH];rfl) rfl
def uy{kn:D}{e7:Option O}{k:Nat}(h7:Os e7=true)(hk:k<es.length):WT AR (R9 A r nm (zi vs) kn (cO es k) (sT<|.bl true) e7 none) false:=by
 have e5:((R9 A r nm (zi vs) kn (cO es k) (sT<|.bl true) e7 none).set 5<|some (cO es k).frz)[5]? = some (sT<|Jj es k):=by rw[Vh];rfl
 have ho:UK 5 0 (R9 A r nm (zi vs) kn (cO es k) (sT<|.bl true) e7 none)=true:=by
  show(true&&(Os e7&&true))=true;rw[h7];rfl
 have wl:WD (fP (aC (f2 yo zH zo) aN) Z3) ((R9 A r nm (zi vs) kn (cO es k) (sT<|.bl true) e7 none).set 5<|some (cO es k).frz) true (.int es.length):=Ve (z:=.int es.length) (WD.e<|Ik e5) (by show some (R0.im<|.int (es.map eD).length)=_;rw[zzB]);exact KC (k:=true) (ya (za (i:=6) rfl) rfl) (λ_=>Uq (k:=false) (Xz (k:=true)<|ya (Rm rfl ho (Pm<|Ib e5) rfl) rfl) (λ_=>Xz (k:=true)<|QR rfl ho<|ya (J4 (by omega) (by omega) (Ib e5) wl) rfl) λz=>nomatch z) λz=>nomatch z
def uu{kn:D}{e7:Option O}{k:Nat}{x:En}(h7:Os e7=true)(hk:es[k]? = some x)(hx:x.1 ∈ vs):WT AX (R9 A r nm (zi vs) kn (cO es k) (sT<|.bl true) e7 none) false:=by
 have e5:((R9 A r nm (zi vs) kn (cO es k) (sT<|.bl true) e7 none).set 5<|some (cO es k).frz)[5]? = some (sT<|Jj es k):=by rw[Vh];rfl
 have e3:((R9 A r nm (zi vs) kn (cO es k) (sT<|.bl true) e7 none).set 5<|some (cO es k).frz)[3]? = some (sT<|zi vs):=rfl;have ho:UK 5 0 (R9 A r nm (zi vs) kn (cO es k) (sT<|.bl true) e7 none)=true:=by
  show(true&&(Os e7&&true))=true;rw[h7];rfl
 have w1:=yi (Ik e5) (Ib e5)<|YB (f:=eD) hk;have w2:=J7 w1<|zb (x:=.int 0);have:=DE (WD.e w2)<|WD.e<|za (i:=3) e3;rw[zyN hx]at this;exact KC (k:=true) (ya (za (i:=6) rfl) rfl) (λ_=>QR rfl ho this) λz=>nomatch z
end
section
variable{n m:Nat}{J:TZ}{e:Int}{Ds:DD}{S:SS}{row:List Int}{ps:List Pr}
abbrev u4:SF:=(zf (zm true 8<|zp (aC zl<|aC zE Xr) wb)
 (zX<|QP (f2 (f2 (fV 8) zP zo) (f2 yo zP zo)<|zr .Eq)<|f2 (AJ 8) (fP (aC yh aN) ZH)<|zr .Eq))
def Fo{A r nm x5:D}{vs:List Int}{es:List En}{w:Str}{tl:List D}{o:O}{b:Bool}{e7:Option O}(hc:wb [(true,A),(true,r),(true,nm)]=some o)(hs:o.str=true)(hd:o.toD=NI w es tl)(m6:m<=6)(ok:∀x ∈ es,Ok n m x)(nd:(es.map ky).Nodup)(hl:es.length<=48)(pp:(es.map ky).Perm ps)(h5:zo x5 (.int 0)=some (.im<|.str w)):
 u4 [sT A,sT r,sT nm,sT<|zi vs,sT<|.lst<|ps.map pD,sT x5,sT<|.bl b,e7,none]=some (.rt<|.lf true<|.bl true):=by
 have s8:=xY (as:=[sT A,sT r,sT nm,sT<|zi vs,sT<|.lst<|ps.map pD,sT x5,sT<|.bl b,e7,none]) (p:=8) (Kr (g:=wb) (WD.e<|za (i:=0) rfl) (WD.e<|za (i:=1) rfl) (WD.e<|za (i:=2) rfl) ⟨o,hc,hs,hd⟩)<|zh rfl;have e8 : [sT A,sT r,sT nm,sT<|zi vs,sT<|.lst<|ps.map pD,sT x5,sT<|.bl b,e7,sT<|NI w es tl][8]? = some (sT<|NI w es tl):=rfl;have okp:∀q ∈ ps,0<=q.2/\q.2<1000:=λq mq=>by
  obtain⟨x,mx,rfl⟩:=zxC.mp<|pp.mem_iff.mpr mq;have:=(ok x mx).2;exact⟨this.1,by have:=this.2;show x.2.1<1000;omega⟩
 have w1:=FE e8 m6 ok nd hl;have w2:=FP (a:=fV 4) okp (pp.nodup_iff.mp nd) (by rw[<-pp.length_eq,zzB];exact hl)<|WD.e<|za (as:=[sT A,sT r,sT nm,sT<|zi vs,sT<|.lst<|ps.map pD,sT x5,sT<|.bl b,e7,sT<|NI w es tl]) (i:=4) rfl;rw[<-RD pp]at w2;refine zk s8<|wc (o:=.lf true<|.bl true) (Xx (k:=true) (PY (WD.e<|ix0' e8) (WD.e<|yi (za (i:=5) rfl) (zb (x:=.int 0)) h5)<|JJ _) (λ_=>PY w1 w2<|EN _) λz=>nomatch z) rfl
def L0{A r nm kn vs:D}{es:List En}{w:D}{tl:List O}{e6 e7:Option O}:Bo 5 1 (R9 A r nm vs kn (.nd .tp (.lf true w::eO es::tl)) e6 e7 none)=some (.nx<|R9 A r nm vs kn (.nd .tp (.lf true w :: .nd .ls []::tl)) e6 e7 none):=by
 have e1:XA Pk (R9 A r nm vs kn (.nd .tp (.lf true w::eO es::tl)) e6 e7 none) 5=some (.lf true w::eO es::tl):=rfl;have e2:GV YY (.lf true w::eO es::tl) 1=some ((es.map eD).map<|O.lf true):=rfl;unfold Bo;simp only[e1,e2,zyK];rw[if_pos ⟨KR _,zh rfl⟩];rfl
def MK{p:Str×List Int}(A:Alg n m J e Ds)(L:tW n m J e Ds=none)(sn:(S.map (·.1)).Nodup)(hp:p ∈ S)(hr:∀x ∈ row,zJ n x)(hl:row.length<=10)(kp:Kn n m J e Ds ps)(rp:∀v ∈ row,(v,1%(m:Int)) ∈ ps)(np:ps.Nodup)(lp:ps.length<=48)(mp:∀ks,Kn n m J e Ds ks->(∀v ∈ row,(v,1%(m:Int)) ∈ ks)->∀q ∈ ps,q ∈ ks):
 wB [(true,zt n m J e Ds S),(true,zi row),(true,.str p.1),(true,zi p.2),(true,.lst<|ps.map pD)]=sT (.bl true):=by
 have m6:=A.m6;obtain⟨es,⟨k1,k2,k3,k4,k5,k6⟩,hc⟩:=E2 (S:=S) A L sn hp hr hl;have pp:(es.map ky).Perm ps:=Et k4 np λq=>⟨k6.mn ps kp rp q,mp _ k1 k2 q⟩
 rcases hc with⟨k,x,hk,hx,hc⟩|⟨hx,hc⟩
 . have hke:=(zzG.mp hk).1;have du:Ez p.2 ps=true:=Li.mpr ⟨ky x,pp.mem_iff.mp<|zxC.mpr ⟨x,zzZ hk,rfl⟩,hx⟩;have s5:zm false 5 (zp (aC zl<|aC zE Xr) wb) (yF 9 [(true,zt n m J e Ds S),(true,zi row),(true,.str p.1),(true,zi p.2),(true,.lst<|ps.map pD)])=some (.nx<|R9 (zt n m J e Ds S) (zi row) (.str p.1) (zi p.2) (.lst<|ps.map pD) (cO es k) none none none):=yt (i:=5) (wA (ze (za (i:=0) rfl)<|ze (za (i:=1) rfl)<|ze (za (i:=2) rfl) zA) hc)<|zh rfl;have s6:=Lq (A:=zt n m J e Ds S) (r:=zi row) (nm:=.str p.1) (vs:=p.2) (o:=cO es k) lp;rw[du]at s6;obtain⟨e7,s9,h7⟩:=DX (A:=zt n m J e Ds S) (r:=zi row) (nm:=.str p.1) (vs:=p.2) (kn:=.lst<|ps.map pD) (b:=true) (Vh es k) k3 k6.ah;have l7:Os e7=true:=by rcases h7 with rfl|⟨d,rfl⟩<;>rfl
   refine xx rfl<|zk s5<|zk s6<|zk (yc Dg rfl)<|zk (yc (DO rfl (Vh es k) m6 k5 k4 k3 pp) rfl)<|zk s9<|zk (yc (uy l7 hke) rfl)<|zk (yc (uu l7 hk hx) rfl)<|zk L0 ?_;exact Fo (o:=cO es k) (w:="comes") (tl:=[.int k]) (x5:=.tup [.str "comes",.lst [],.int k]) hc (KF es k) (by have:=Vh es k;injection this) m6 k5 k4 k3 pp Ay
 . have du:Ez p.2 ps=false:=by
    cases hb:Ez p.2 ps with
    |false=>rfl
    |true=>
     obtain⟨q,mq,hq⟩:=Li.mp hb;obtain⟨x,mx,rfl⟩:=zxC.mp<|pp.mem_iff.mpr mq;exact absurd hq<|hx x mx
   have s5:zm false 5 (zp (aC zl<|aC zE Xr) wb) (yF 9 [(true,zt n m J e Ds S),(true,zi row),(true,.str p.1),(true,zi p.2),(true,.lst<|ps.map pD)])=some (.nx<|R9 (zt n m J e Ds S) (zi row) (.str p.1) (zi p.2) (.lst<|ps.map pD) (nO es) none none none):=yt (i:=5) (wA (ze (za (i:=0) rfl)<|ze (za (i:=1) rfl)<|ze (za (i:=2) rfl) zA) hc)<|zh rfl;have s6:=Lq (A:=zt n m J e Ds S) (r:=zi row) (nm:=.str p.1) (vs:=p.2) (o:=nO es) lp;rw[du]at s6;obtain⟨e7,s9,h7⟩:=DX (A:=zt n m J e Ds S) (r:=zi row) (nm:=.str p.1) (vs:=p.2) (kn:=.lst<|ps.map pD) (b:=false) (RW es) k3 k6.ah;refine xx rfl<|zk s5<|zk s6<|zk (yc Ag rfl)<|zk (yc (DO rfl (RW es) m6 k5 k4 k3 pp) rfl)<|zk s9<|zk (yc D_ rfl)<|zk (yc D_ rfl)<|zk L0 ?_;exact Fo (o:=nO es) (w:="never") (tl:=[]) (x5:=.tup [.str "never",.lst []]) hc (KS es) (by have:=RW es;injection this) m6 k5 k4 k3 pp Ay
end
def Nq{ns:List Int}{st w n:Nat}{num:Int}(hn:1<=n)(hw:w<=20):∃row:List Int,row.length<=w/\(∀v ∈ row,zJ n v)/\RE (Zt [(true,.lst<|ns.map D.int),(true,.int st),(true,.int w),(true,.int n),(true,.int num)]) (zi row):=by
 have m0:=zyM num (show((w:Int)+1)≠0 by omega);have m1:=zyG num (show 0<(w:Int)+1 by omega);obtain⟨as',hf,ys,e6,rfl,hl,hy⟩:=yV (g:=gN 6) (λi as=>∃(ys:List Int) (e6:Option O),as=[sT<|.lst<|ns.map D.int,sI st,sI w,sI n,sI num,sN<|ys.map xO,e6]/\ys.length=i/\∀y ∈ ys,zJ n y)
  (yJ 0 (num%(w+1)).toNat) 0 [sT<|.lst<|ns.map D.int,sI st,sI w,sI n,sI num,sN [],none] (λi x as hx hI=>by
   obtain⟨ys,e6,rfl,hl,hy⟩:=hI;obtain⟨rfl,hi⟩:=yD hx;refine⟨_,rfl, ?_⟩;obtain⟨c,hc⟩:=Ws (k:=st+(0+i)) (by omega);have wm:=xU (as:=[sT<|.lst<|ns.map D.int,sI st,sI w,sI n,sI num,sN<|ys.map xO,sI<|0+i]) (ze (xU (ze (za (i:=0) rfl)<|ze (zZ (za (i:=1) rfl)<|za (i:=6) rfl) zA) hc)<|ze (zZ (za (i:=6) rfl)<|zb (x:=.int 80)) zA) (QN (by omega)<|by omega);have ap:=Vd (i:=5) rfl (by rw[zzB];exact zM<|by omega) (zL wm (za (i:=3) rfl)<|by omega);rw[<-Yb]at ap;exact⟨_,ap,ys++[_],_,rfl,by rw[zzJ,hl];rfl,λy my=>(zzM.mp my).elim (hy y) λmy=>by rw[zzR.mp my];exact WX<|by omega⟩)
  ⟨[],none,rfl,rfl,λ_ z=>nomatch z⟩
 rw[ym]at hl;have hr:=yK (as:=[sT<|.lst<|ns.map D.int,sI st,sI w,sI n,sI num,sN [],none]) (ze (zL (za (i:=4) rfl) (zZ (za (i:=2) rfl)<|zb)<|by omega) zA) m0 (by omega);refine⟨ys,by omega,hy,wF rfl<|zF (yt (vD zT<|Y3 rfl)<|zh rfl)<|zF (xb hr hf) ?_⟩;exact⟨_,We rfl (y9 ys).2.1,(Yu ys).1,(Yu ys).2⟩
def HS{k:Nat}(r:List Int):wI (k+2) (zi r) (zi r)=some true:=Xj _ λx mx=>by
 obtain⟨v,_,rfl⟩:=zxC.mp mx;show some (v==v)=_;rw[beq_self_eq_true]
def Fb{k:Nat}(T:TZ):wI (k+3) (zY T) (zY T)=some true:=Xj _ λx mx=>by
 obtain⟨v,_,rfl⟩:=zxC.mp mx;exact HS v
def all2{f:D->D->Option Bool}{a b:D}(ha:f a a=some true)(hb:f b b=some true):∀x ∈ [a,b],f x x=some true:=λx mx=>by
 rcases zzC.mp mx with rfl|mx
 . exact ha
 . rw[zzR.mp mx];exact hb
section
variable{n m:Nat}{J T:TZ}{e:Int}{Ds:DD}{S:SS}
def Cj:wI 60 (zt n m J e Ds S) (zt n m J e Ds S)=some true:=Xj _ λx mx=>by
 rcases zzC.mp mx with rfl|mx
 . exact JB _
 rcases zzC.mp mx with rfl|mx
 . exact JB _
 rcases zzC.mp mx with rfl|mx
 . exact Fb (k:=56) J
 rcases zzC.mp mx with rfl|mx
 . exact JB _
 rcases zzC.mp mx with rfl|mx
 . refine Xj _ λx mx=>?_;obtain⟨p,_,rfl⟩:=zxC.mp mx;exact Xj _<|all2 (JJ _)<|Fb (k:=54) p.2
 . rw[zzR.mp mx];refine Xj _ λx mx=>?_;obtain⟨p,_,rfl⟩:=zxC.mp mx;exact Xj _<|all2 (JJ _)<|HS (k:=55) p.2
abbrev L9(a0 a1 a2 a3 a4 a5 a6 a7 a8:Option O):AS:=[a0,a1,a2,a3,a4,a5,a6,a7,a8]
def BH{ns:List Int}(n8:n<=8):∃(S':SS) (a2:Option O),wJ (TL 1 5) (zf (zm true 2<|f2 (zp (aC zl<|aC (fC<|.int 9) aN) zV) (fC<|.int 256) zg)
 (BL 1 5<|dC (IQ<|yb<|dC (fC<|.str "sign")<|dC (zN (yk (aC (f2 zE zP zo) aN) yn) [none,some 2] yI (fT<|f2 (f2 (f2 zE (f2 zH zl Th) zc) ye zg) zH<|zr .Eq) zl) dN) dN)) vS (L9 (sT<|.lst<|ns.map .int) (some<|YX n m J e Ds S) none none none none none none none)=some (.nx<|L9 (sT<|.lst<|ns.map .int) (some<|YX n m J e Ds S') a2 none none none none none none)/\(S'=S\/∃l:List Int,S'=[(("sign":Str),l)]):=by
 cases S with
 |cons p r=>
  have t:WT (TL 1 5) (L9 (sT<|.lst<|ns.map .int) (some<|YX n m J e Ds (p::r)) none none none none none none none) false:=rfl;exact⟨p::r,none,yc t rfl,.inl rfl⟩
 |nil=>
  obtain⟨c,hc⟩:=Ws (ns:=ns) (k:=9) (s:=true) (t:=true) (by omega);have t:WT (TL 1 5) (L9 (sT<|.lst<|ns.map .int) (some<|YX n m J e Ds []) none none none none none none none) true:=rfl;have s2:zm true 2 (f2 (zp (aC zl<|aC (fC<|.int 9) aN) zV) (fC<|.int 256) zg) (L9 (sT<|.lst<|ns.map .int) (some<|YX n m J e Ds []) none none none none none none none)=some (.nx<|L9 (sT<|.lst<|ns.map .int) (some<|YX n m J e Ds []) (sI<|c%256) none none none none none none):=xY (p:=2) (WD.e<|zL (xU (ze (za (i:=0) rfl)<|ze (zb (x:=.int 9)) zA) hc) zb<|by decide)<|zh rfl;have w1:WD (f2 zE zP zo) (L9 (sT<|.lst<|ns.map .int) (some<|YX n m J e Ds []) (sI<|c%256) none none none none none none) true (.int n):=rfl;have w:=Hr (c:=2) (b:=c%256) n8 w1 λd=>rfl;have w:=xm (WD.e<|zb (x:=.str "sign")) w;have h:=zC (uK w) zT;refine⟨[("sign",held n<|c%256)],sI<|c%256,xG t<|zk s2 ?_,.inr ⟨_,rfl⟩⟩;have e1:XA Pk (L9 (sT<|.lst<|ns.map .int) (some<|YX n m J e Ds []) (sI<|c%256) none none none none none none) 1=some [xO n,xO m,.lf true<|zY J,xO e,.lf true<|.lst<|Ds.map y8,.nd .ls []]:=rfl;have e2:GV YY [xO n,xO m,.lf true<|zY J,xO e,.lf true<|.lst<|Ds.map y8,.nd .ls []] 5=some []:=rfl;have e3:MS [O.lf true<|yE ("sign",held n<|c%256)]=some (true,yE ("sign",held n<|c%256)):=rfl;unfold WO at h;unfold BL;simp only[e1,e2,e3,h,zyK];rw[if_pos ⟨L2.zM<|Nat.zero_le _,zh rfl⟩];rfl
def My(ns:List Int)(hns:ns.length<=63):RF [(true,.lst<|ns.map .int)]=sT (.bl true):=by
 obtain⟨c0,h0⟩:=Ws (ns:=ns) (k:=0) (s:=true) (t:=true) (by omega);obtain⟨c1,h1⟩:=Ws (ns:=ns) (k:=1) (s:=true) (t:=true) (by omega);obtain⟨c2,h2⟩:=Ws (ns:=ns) (k:=2) (s:=true) (t:=true) (by omega);have z0:=zyM c2 (show(5:Int)≠0 by decide);have z1:=zyG c2 (show(0:Int)<5 by decide);obtain⟨w,ew⟩:∃w:Nat,(w:Int)=c2%5:=⟨(c2%5).toNat,by omega⟩;obtain⟨n,m,J,e,Ds,S0,M,hw,ha⟩:=G0 (c:=c0) (h:=c1) (w:=w) (by omega);rw[ew]at ha;have cl:∀(as:AS) (k:Int) (x:Int),as[0]? = some (sT<|.lst<|ns.map .int)->zV [(true,.lst<|ns.map .int),(true,.int k)]=sT (.int x)->WD (zp (aC zl<|aC (fC<|.int k) aN) zV) as true (.int x):=λas k x h hh=>xU (ze (za h)<|ze zb zA) hh;have L:=BD M.la;have A:=M.al;obtain⟨row,rl,hr,hv⟩:=Nq (ns:=ns) (st:=3) (w:=5) (n:=n) (num:=c2/5) A.n1 (by decide);have rl':row.length<=10:=by omega
 obtain⟨S,a2,s2,hS⟩:=BH (n:=n) (m:=m) (J:=J) (e:=e) (Ds:=Ds) (S:=S0) (ns:=ns) A.n8;have sl:S.length<=3:=by
  rcases hS with rfl|⟨l,rfl⟩
  . exact M.s3
  . show 1<=3;omega
 have sn:(S.map (·.1)).Nodup:=by
  rcases hS with rfl|⟨l,rfl⟩
  . exact M.sn
  . exact zzW.mpr ⟨zxA,zyI⟩
 have s1:=yt (as:=L9 (sT<|.lst<|ns.map .int) none none none none none none none none) (i:=1) (wA (g:=wz) (ze (cl _ 0 c0 rfl h0)<|ze (cl _ 1 c1 rfl h1)<|ze (zL (cl _ 2 c2 rfl h2) zb<|by decide) zA) ha)<|zh rfl;have fz:(YX n m J e Ds S).frz = .lf true (zt n m J e Ds S):=by
  show O.lf _ _=_;rw[(LY n m J e Ds S).1,(LY n m J e Ds S).2]
 have s3:=xY (as:=L9 (sT<|.lst<|ns.map .int) (sT<|zt n m J e Ds S) a2 none none none none none none) (p:=3) (Fs (WD.e<|za (i:=0) rfl) (WD.e<|zb (x:=.int 3)) (WD.e<|zb (x:=.int 5)) (WD.e<|yi (za (i:=1) rfl) (zb (x:=.int 0)) (show zo (zt n m J e Ds S) (.int 0)=some (.im<|.int n)from rfl)) (WD.e<|yH (cl _ 2 c2 rfl h2) (zb (x:=.int 5)) (by decide)<|zD (by decide)<|by decide) hv)<|zh rfl;have s4:=xY (as:=L9 (sT<|.lst<|ns.map .int) (sT<|zt n m J e Ds S) a2 (sT<|zi row) none none none none none) (p:=4) (WV (WD.e<|za (i:=1) rfl)<|BC (S:=S) A sl)<|zh rfl;have s5:=xY (as:=L9 (sT<|.lst<|ns.map .int) (sT<|zt n m J e Ds S) a2 (sT<|zi row) (sT<|zt n m J e Ds S) none none none none) (p:=5) (K2<|za (i:=3) (s:=true) rfl)<|zh rfl;obtain⟨ps,ap,k1,k2,k3,k4,k5,k6⟩:=H9 (S:=S) A hr rl';have s6:=xY (as:=L9 (sT<|.lst<|ns.map .int) (sT<|zt n m J e Ds S) a2 (sT<|zi row) (sT<|zt n m J e Ds S) (sT<|zi row) none none none) (p:=6) (KJ (g:=YK) (WD.e<|za (i:=1) rfl) (WD.e<|za (i:=3) rfl) ⟨_,ap,vB _,ZE _⟩)<|zh rfl;have hi:=Ko (as:=L9 (sT<|.lst<|ns.map .int) (sT<|zt n m J e Ds S) a2 (sT<|zi row) (sT<|zt n m J e Ds S) (sT<|zi row) (sT<|.lst<|ps.map pD) none none) (f:=f2 zE Qh zo) (ds:=S.map yE)<|WD.e<|yi (za (i:=1) rfl) zb rfl;obtain⟨as',hf,a7,a8,rfl⟩:=yV (g:=gT 2<|yT (gN 7)<|yT (gN 8) YS) (f:=wJ (vq<|fT<|zp (aC yh<|aC yf<|aC Z4<|aC (fV 8)<|aC y7 aN) wB) (zX<|fC<|.bl false) vS)
  (λ_ as=>∃a7 a8,as=L9 (sT<|.lst<|ns.map .int) (sT<|zt n m J e Ds S) a2 (sT<|zi row) (sT<|zt n m J e Ds S) (sT<|zi row) (sT<|.lst<|ps.map pD) a7 a8)
  ((S.map yE).map λd=>(true,d)) 0 (L9 (sT<|.lst<|ns.map .int) (sT<|zt n m J e Ds S) a2 (sT<|zi row) (sT<|zt n m J e Ds S) (sT<|zi row) (sT<|.lst<|ps.map pD) none none) (λi x as hx hI=>by
    obtain⟨a7,a8,rfl⟩:=hI;have mx:=zzZ hx;obtain⟨d,md,rfl⟩:=zxC.mp mx;obtain⟨p,mp,rfl⟩:=zxC.mp md;refine⟨L9 (sT<|.lst<|ns.map .int) (sT<|zt n m J e Ds S) a2 (sT<|zi row) (sT<|zt n m J e Ds S) (sT<|zi row) (sT<|.lst<|ps.map pD) (sT<|.str p.1)<|sT<|zi p.2,rfl,_, ?_,sT<|.str p.1,sT<|zi p.2,rfl⟩;have r0:=MK (S:=S) A L sn mp hr rl' k1 k2 k4 k3 k6;have u:=Fs (g:=wB) (w:=.bl true) (as:=L9 (sT<|.lst<|ns.map .int) (sT<|zt n m J e Ds S) a2 (sT<|zi row) (sT<|zt n m J e Ds S) (sT<|zi row) (sT<|.lst<|ps.map pD) (sT<|.str p.1)<|sT<|zi p.2) (WD.e<|za (i:=4) rfl) (WD.e<|za (i:=3) rfl) (WD.e<|za (i:=7) rfl) (WD.e<|za (i:=8) rfl) (WD.e<|za (i:=6) rfl) ⟨.lf true<|.bl true,r0,rfl,rfl⟩;exact yc (Xz<|ya (c:=true) (Es u) rfl) rfl) ⟨none,none,rfl⟩
 refine xx rfl<|zk s1<|zk s2 ?_;unfold PM;show zf _ _ (L9 (sT<|.lst<|ns.map .int) (some (YX n m J e Ds S).frz) a2 none none none none none none)=_;rw[fz];exact zk s3<|zk s4<|zk s5<|zk s6<|zk (xb hi hf)<|wc (o:=.lf true<|.bl true) (Xx (k:=true) (PY (WD.e<|za (i:=4) rfl) (WD.e<|za (i:=1) rfl) Cj) (λ_=>PY (WD.e<|za (i:=3) rfl) (WD.e<|za (i:=5) rfl)<|HS (k:=58) row) λz=>nomatch z) rfl
end
end G63
end
end
open PySem PySem.W PyProof.Rows
set_option maxRecDepth 100000 in
set_option maxHeartbeats 0 in
theorem PySem.Challenge.cw_stretchdeeds_k63_whether_a_sign_comes_holds : PySem.Challenge.rw_stretchdeeds_k63_whether_a_sign_comes.Holds := by
 w_on;refine holds_law G63.ws λsaid=>?_
 refine holds_open (q:=G63.qv) (loose:=[]) (Xt:=G63.Xt) (XP:=XL G63.qv []) (Yf:=Hook.obs<|kHook G63.K G63.kA G63.kAe) (Ya:=Hook.val<|kHook G63.K G63.kA G63.kAe) (YP:=Hook.says<|kHook G63.K G63.kA G63.kAe) (N:=4000) G63.hl (Hook.of<|kHook G63.K G63.kA G63.kAe) (Hook.keeps<|kHook G63.K G63.kA G63.kAe) (λs e=>xl_of s (Bool.and_eq_true_iff.mp e).1) XL.keeps (by rfl) (by rfl) (by rfl) (λs e=>recFacts_of (Bool.and_eq_true_iff.mp e).2) (by rfl) (by first|assumption|decide +kernel) (by decide +kernel) ⟨rfl,rfl,rfl,rfl,rfl,by decide +kernel⟩ ?hw ?hc
 (case hw=>w_witness2)
 k_fill
 refine G63.walk (l:=PySem.Challenge.rw_stretchdeeds_k63_whether_a_sign_comes) rfl rfl (λw h Y=>W.kIn_of Y) G63.My ?F
 case F=>
  intro w mg fa h KX G hmg;refine' G63.OQ KX G hmg ?_ ?_ ?_ ?_ ?_ ?_ ?_ ?_ ?_ ?_ ?_ ?_ ?_ ?_ ?_ ?_ ?_ ?_ ?_ ?_ ?_ ?_ ?_ ?_ ?_ ?_ ?_ ?_ ?_ ?_ ?_ ?_ ?_ ?_ ?_ ?_ ?_ ?_ ?_ ?_ ?_
  all_goals try first|k_is|(change _=_;k_is)|exact⟨_,⟨_,_,_,_,_,_,_,_,_,rfl,by k_is,by k_is⟩,by k_is⟩|(refine⟨?_, ?_⟩;(change _=_;k_is);exact⟨_,⟨_,_,_,_,_,_,_,_,_,rfl,by k_is,by k_is⟩,by k_is⟩)|rfl
#print axioms PySem.Challenge.cw_stretchdeeds_k63_whether_a_sign_comes_holds
