import PyProof.Rows.All
import Wide.All
import OpenK.AllK
import PySem.Challenge.RW_stretchdeeds_k35_whole_wide_trees
set_option Elab.async false
set_option linter.all false
set_option maxRecDepth 100000
set_option genSizeOf false
set_option compiler.extract_closed false
set_option bootstrap.genMatcherCode false
local macro_rules |`(⋯)=>`(by first|with_reducible rfl|assumption|omega|rfl|simp)
noncomputable section
abbrev zzA:=PySem.W.Frag
abbrev zzB:=@List.length_map
abbrev zzC:=@List.mem_cons
abbrev zzD:=@List.mem_cons_of_mem
abbrev zzE:=@List.getElem?_eq_getElem
abbrev zzF:=@List.mem_cons_self
abbrev zzG:=@List.getElem?_eq_some_iff
abbrev zzH:=@List.size_toArray
abbrev zzI:=@List.getElem?_map
abbrev zzJ:=@List.length_append
abbrev zzK:=@Nat.lt_of_lt_of_le
abbrev zzL:=@List.mem_append_right
abbrev zzM:=@List.mem_append
abbrev zzN:=@Nat.le_refl
abbrev zzO:=@Nat.le_trans
abbrev zzP:=@List.mem_append_left
abbrev zzQ:=@Nat.ne_of_lt
abbrev zzR:=@List.mem_singleton
abbrev zzS:=@List.length_take
abbrev zzT:=@List.length_cons
abbrev zzU:=@List.length_set
abbrev zzV:=@List.nodup_cons
abbrev zzW:=@Option.map_eq_some_iff
abbrev zzX:=@List.getElem?_set_ne
abbrev zzY:=@Option.some.inj
abbrev zzZ:=@List.mem_of_getElem?
abbrev zyA:=@List.map_map
abbrev zyB:=@Bool.and_eq_true
abbrev zyC:=@Bool.or_true
abbrev zyD:=@List.append_nil
abbrev zyE:=@List.getD_eq_getElem?_getD
abbrev zyF:=@decide_eq_false
abbrev zyG:=@Int.emod_lt_of_pos
abbrev zyH:=@Int.toNat_natCast
abbrev zyI:=@List.nodup_nil
abbrev zyJ:=@List.getElem?_set_self
abbrev zyK:=@List.map_append
abbrev zyL:=@Int.emod_nonneg
abbrev zyM:=@decide_eq_true
abbrev zyN:=@List.getElem?_append_left
abbrev zyO:=@List.drop_eq_getElem_cons
abbrev zyP:=@List.getElem?_append_right
abbrev zyQ:=@List.map_cons
abbrev zyR:=@Array.length_toList
abbrev zyS:=@List.length_range
abbrev zyT:=@Bool.false_ne_true
abbrev zyU:=@Nat.le_succ
abbrev zyV:=@Nat.zero_add
abbrev zyW:=@List.getElem_mem
abbrev zyX:=@Nat.lt_succ_of_lt
abbrev zyY:=@List.append_assoc
abbrev zyZ:=@List.mem_map
abbrev zxA:=@List.nodup_append
abbrev zxB:=@PySem.wpAny_bind
abbrev zxC:=@PySem.wpAny_pure
abbrev zxD:=@PySem.Heap.get?_push_of_some
abbrev zxE:=@PySem.Heap.lt_size
abbrev zxF:=@PySem.Heap.get?_push_size
abbrev zxG:=@PySem.wpAny_holding
abbrev zxH:=@PySem.Heap.size_push
abbrev zxI:=@PySem.wpAny_mono
abbrev zxJ:=@PySem.wpAny_call_entry
section
namespace L2
open PySem PySem.Spec PyProof.Rows
abbrev Key:=Sum Int Str
def Ke:Key->Value->Bool
 | .inl k,v=>Value.isInt k v
 | .inr x,v=>Value.isStrOf x v
def uP(w:World):Key->Int
 | .inl k=>hashInt k
 | .inr x=>hashStr w x
def yG:∀{k:Key}{v:Value},Ke k v=true->(∃i t,k=Sum.inl i/\v=Value.int i t)\/(∃x t,k=Sum.inr x/\v=Value.str x t)
 | .inl i,v,h=>by
  obtain⟨t,e⟩:=Value.isInt_shape h;exact .inl ⟨i,t,rfl,e⟩
 | .inr x,v,h=>by
  obtain⟨t,e⟩:=Value.isStrOf_shape h;exact .inr ⟨x,t,rfl,e⟩
def Bk(i)(t):Ke (.inl i) (.int i t)=true:=by simp[Ke,Value.isInt]
def FU(x)(t):Ke (.inr x) (.str x t)=true:=by simp[Ke,Value.isStrOf]
def C9(a b):decide ((Sum.inl a:Key)=Sum.inl b)=(a==b):=by
 by_cases e:a=b
 . subst e;simp
 . have h:¬(Sum.inl a:Key)=Sum.inl b:=λq=>e<|Sum.inl.inj q;rw[zyF h];exact(beq_eq_false_iff_ne.mpr e).symm
def IS(a b):decide ((Sum.inr a:Key)=Sum.inr b)=decide (a=b):=⋯
def J0(a)(b):decide ((Sum.inl a:Key)=Sum.inr b)=false:=⋯
def JG(a)(b):decide ((Sum.inr a:Key)=Sum.inl b)=false:=⋯
def wZ(prog:Program)(w:World):PySem.KeyKind prog w Key where
 is:=Ke
 hash:=uP w
 inj:=λv a b ha hb=>by
  rcases yG ha with⟨i,t,rfl,rfl⟩|⟨x,t,rfl,rfl⟩
  . rcases yG hb with⟨j,u,rfl,e⟩|⟨y,u,rfl,e⟩
    . injection e with e1 _;rw[e1]
    . exact nomatch e
  . rcases yG hb with⟨j,u,rfl,e⟩|⟨y,u,rfl,e⟩
    . exact nomatch e
    . injection e with e1 _;rw[e1]
 byValue:=λk v h=>by
  rcases yG h with⟨i,t,rfl,rfl⟩|⟨x,t,rfl,rfl⟩<;>rfl
 pyHash:=λhv h=>by
  rcases yG hv with⟨i,t,rfl,rfl⟩|⟨x,t,rfl,rfl⟩
  . exact wpAny_pyHash_int h
  . exact wpAny_pyHash_str h
 eqBool:=λhu hv h=>by
  rcases yG hu with⟨i,t,rfl,rfl⟩|⟨x,t,rfl,rfl⟩
  . rcases yG hv with⟨j,u,rfl,rfl⟩|⟨y,u,rfl,rfl⟩
    . rw[C9]at h;exact wpAny_eqBool_int h
    . rw[J0]at h;exact SeqAt.EqAt.int_str i t y u _ _ _ _ h
  . rcases yG hv with⟨j,u,rfl,rfl⟩|⟨y,u,rfl,rfl⟩
    . rw[JG]at h;exact SeqAt.EqAt.str_int x t j u _ _ _ _ h
    . rw[IS]at h;exact wpAny_eqBool_str h
 «strs» := λk x t v h=>by
  rcases yG h with⟨i,u,rfl,e⟩|⟨y,u,rfl,e⟩
  . exact nomatch e
  . injection e with e1 _
    subst e1;cases v<;>rfl
def NZ(prog)(w)(i)(t):(wZ prog w).is (.inl i) (.int i t)=true:=Bk i t
def XR(prog)(w)(x)(t):(wZ prog w).is (.inr x) (.str x t)=true:=FU x t
end L2
namespace L2
open PySem PySem.Spec PyProof.Rows
inductive V where
 |non|bl (b:Bool)|int (i:Int)|str (x:Str)|byt (b:Array UInt8)|flt (b:UInt64)|ref (a:Addr)|ty (n:String)
 deriving DecidableEq
def RelV:V->Value->Prop
 | .non,u=>u=Value.none
 | .bl b,u=>u=Value.bool b
 | .int i,u=>∃t,u=Value.int i t
 | .str x,u=>∃t,u=Value.str x t
 | .byt b,u=>∃t,u=Value.bytes b t
 | .flt b,u=>∃t,u=Value.float b t
 | .ref a,u=>u=Value.ref a
 | .ty n,u=>u=Value.type n
abbrev zM:List V->List Value->Prop:=Paired RelV
theorem zM.length(r:zM xs us):xs.length=us.length:=Paired.length r
theorem zM.get:∀{xs:List V}{us:List Value}{i:Nat}{x:V},zM xs us->xs[i]? = some x->∃u,us[i]? = some u/\RelV x u
 |_,_,_,_,.nil,e=>by simp at e
 |_,_,0,_,.cons r _,e=>by simp at e;subst e;exact⟨_,rfl,r⟩
 |_,_,i+1,x,.cons _ t,e=>by
  obtain⟨u,h1,h2⟩:=zM.get t (by simpa using e);exact⟨u,by simpa using h1,h2⟩
theorem zM.append:∀{xs ys:List V}{us ws:List Value},zM xs us->zM ys ws->zM (xs++ys) (us++ws)
 |_,_,_,_,.nil,s=>s
 |_,_,_,_,.cons r t,s=>.cons r<|zM.append t s
theorem zM.take:∀{xs:List V}{us:List Value}(n:Nat),zM xs us->zM (xs.take n) (us.take n)
 |_,_,0,_=>.nil
 |_,_,_+1,.nil=>.nil
 |_,_,n+1,.cons r t=>.cons r<|zM.take n t
theorem zM.drop:∀{xs:List V}{us:List Value}(n:Nat),zM xs us->zM (xs.drop n) (us.drop n)
 |_,_,0,r=>r
 |_,_,_+1,.nil=>.nil
 |_,_,n+1,.cons _ t=>zM.drop n t
def Qt:Option V->Option Value->Prop
 |some v,some u=>RelV v u
 |none,none=>True
 |_,_=>False
def KV{κ:Type}:List (κ×V)->List (κ×Value)->Prop:=Paired λ(p:κ×V) (q:κ×Value)=>p.1=q.1/\RelV p.2 q.2
def kV:Key->V
 | .inl i=>.int i
 | .inr x=>.str x
inductive HO where
 |lst (xs:List V)
 |tup (xs:List V)
 |dK (kvs:List (Key×V))|dT (kvs:List (List Key×V))
 |set (S:Int->Bool) (n:Nat)
 |ins (C dx:Addr) (fs:List (Str×V))
 |own (x:Addr)
 |xd (fs:List (Str×V))
 |met (f x:Addr)
 |rng (lo hi:Int)
 |frz (o:Obj) (u:HO)
 |tbl (ps:Array Value)
 |ext (φ:Heap->Prop)
abbrev Hp:=Addr->Option HO
def upd(H:Hp)(a:Addr)(o:HO):Hp:=λb=>if b=a then some o else H b
def yn:upd H a o a=some o:=by unfold upd;rw[if_pos rfl]
def zH(h:b≠a):upd H a o b=H b:=by unfold upd;rw[if_neg h]
def zR{H:Hp}{a b o}(h:H a=some o)(h':H b=none):a≠b:=by
 intro e;subst e;rw[h]at h';cases h'
section
variable(P:Program)(w:World)
def Za(H:Hp)(h:Heap)(a:Addr):HO->Prop
 | .lst xs=>xs.length<=sizeLine/\∃(its:List Value) (n:Nat),zM xs its/\h.get? a=some {cls:=.type "list",data:=.seq its.toArray n}
 | .tup xs=>xs.length<=sizeLine/\∃its:List Value,zM xs its/\IsTup h a its.toArray
 | .dK kvs=>kvs.length<=sizeLine/\(a==sysModules)=false/\∃vs,KV kvs vs/\h.DictOf (wZ P w) a vs
 | .dT kvs=>kvs.length<=sizeLine/\(a==sysModules)=false/\∃xs:List (List Key×Addr×Value),
  Paired (λ(p:List Key×V) (q:List Key×Addr×Value)=>p.1=q.1/\H q.2.1=some (.tup<|p.1.map kV)/\RelV p.2 q.2.2) kvs xs/\
  ∃o es ep,h.get? a=some o/\o.ExactDict/\o.data = .dict es ep/\es.toList=xs.map (entryOfKey<|tupleKind<|wZ P w)/\(xs.map (·.1)).Nodup
 | .set S n=>h.SetOf (intKind P w) a S n
 | .ins C dx fs=>H dx=some (.own a)/\fs.length<=1000/\dx≠a/\h.get? a=some (W.instObj C dx)/\
  ∃mA,h.Ns1 dx mA/\(∀f,Qt (fs.lookup f)<|mA f)/\PySem.Within mA (fs.map (·.1))
 | .own _=>∃o,h.get? a=some o
 | .xd fs=>∃mA,h.Ns1 a mA/\∀f,Qt (fs.lookup f)<|mA f
 | .rng lo hi=>∃t u v,h.get? a=some {cls:=.type "range",data:=.fields #[.int lo t,.int hi u,.int 1 v]}
 | .frz o u=>h.get? a=some o/\Za H h a u
 | .tbl ps=>h.get? a=some {cls:=.none,data:=.fields ps}
 | .met f x=>h.get? a=some (W.methodObj (.ref f)<|.ref x)
 | .ext φ=>φ h/\(∃o,h.get? a=some o)/\∀h1 h2:Heap,φ h1->(∀o,h1.get? a=some o->h2.get? a=some o)->φ h2
def UQ(H:Hp)(h:Heap):Prop:=∀a o,H a=some o->Za P w H h a o
end
section
variable{P:Program}{w:World}{H H':Hp}{h h':Heap}{a:Addr}{o:HO}
theorem Za.lt(x:Za P w H h a o):a<h.objs.size:=by
 cases o with
 |lst xs=>obtain⟨_,_,_,_,e⟩:=x;exact zxE e
 |tup xs=>obtain⟨_,_,_,p⟩:=x;exact p.lt
 |dK kvs=>obtain⟨_,_,_,_,o,_,_,e,_⟩:=x;exact zxE e
 |dT kvs=>obtain⟨_,_,_,_,o,_,_,e,_⟩:=x;exact zxE e
 |set S n=>obtain⟨o,_,_,_,e,_⟩:=x;exact zxE e
 |ins C dx fs=>obtain⟨_,_,_,e,_⟩:=x;exact zxE e
 |own y=>obtain⟨_,e⟩:=x;exact zxE e
 |xd fs=>obtain⟨_,⟨_,_,_,e,_⟩,_⟩:=x;exact zxE e
 |rng lo hi=>obtain⟨_,_,_,e⟩:=x;exact zxE e
 |frz ob u=>obtain⟨e,_⟩:=x;exact zxE e
 |tbl ps=>exact zxE (x)
 |met f y=>exact zxE (x)
 |ext φ=>obtain⟨_,⟨_,e⟩,_⟩:=x;exact zxE e
theorem Paired.mapP:∀{l₁:List α}{l₂:List β},Paired F l₁ l₂->(∀a b,F a b->G a b)->Paired G l₁ l₂
 |_,_,.nil,_=>.nil
 |_,_,.cons r t,f=>.cons (f _ _ r)<|Paired.mapP t f
def Za.stay(x:Za P w H h a o)(k:∀b u,(b=a\/H b=some (.own a))->h.get? b=some u->h'.get? b=some u)
 (ho:∀b,H b=some (.own a)->H' b=some (.own a)) (ht:∀b xs,H b=some (.tup xs)->H' b=some (.tup xs)):Za P w H' h' a o:=by
 induction o with
 |lst xs=>obtain⟨z,its,n,r,e⟩:=x;exact⟨z,its,n,r,k _ _ (.inl rfl) e⟩
 |tup xs=>obtain⟨z,its,r,ob,e,c⟩:=x;exact⟨z,its,r,ob,k _ _ (.inl rfl) e,c⟩
 |dK kvs=>obtain⟨z,y,vs,r,ob,es,ep,e,c⟩:=x;exact⟨z,y,vs,r,ob,es,ep,k _ _ (.inl rfl) e,c⟩
 |dT kvs=>
  obtain⟨z,y,xs,r,ob,es,ep,e,c⟩:=x;exact⟨z,y,xs,Paired.mapP r λp q z=>⟨z.1,ht _ _ z.2.1,z.2.2⟩,ob,es,ep,k _ _ (.inl rfl) e,c⟩
 |set S n=>obtain⟨ob,es,ep,t,e,c⟩:=x;exact⟨ob,es,ep,t,k _ _ (.inl rfl) e,c⟩
 |ins C dx fs=>
  obtain⟨d,z,ne,e,mA,⟨od,es,ep,e2,c⟩,r⟩:=x;exact⟨ho _ d,z,ne,k _ _ (.inl rfl) e,mA,⟨od,es,ep,k _ _ (.inr d) e2,c⟩,r⟩
 |own y=>obtain⟨ob,e⟩:=x;exact⟨ob,k _ _ (.inl rfl) e⟩
 |xd fs=>obtain⟨mA,⟨od,es,ep,e,c⟩,r⟩:=x;exact⟨mA,⟨od,es,ep,k _ _ (.inl rfl) e,c⟩,r⟩
 |rng lo hi=>obtain⟨t,u,v,e⟩:=x;exact⟨t,u,v,k _ _ (.inl rfl) e⟩
 |frz ob u ih=>obtain⟨e,q⟩:=x;exact⟨k _ _ (.inl rfl) e,ih q⟩
 |tbl ps=>
  have e:=x;exact k a _ (.inl rfl) e
 |met f y=>
  have e:=x;exact k a _ (.inl rfl) e
 |ext φ=>obtain⟨p,⟨o,e⟩,st⟩:=x;exact⟨st _ _ p λo q=>k _ _ (.inl rfl) q,⟨o,k _ _ (.inl rfl) e⟩,st⟩
theorem UQ.lt(x:UQ P w H h)(e:H a=some o):a<h.objs.size:=(x a o e).lt
def UQ.fresh(x:UQ P w H h)(e:h.objs.size<=a):H a=none:=by
 cases q:H a with
 |none=>rfl
 |some u=>exact absurd (zzK (x.lt q) e) (Nat.lt_irrefl _)
def UQ.kept(x:UQ P w H h)(k:∀b u,h.get? b=some u->h'.get? b=some u):UQ P w H h':=λa o e=>
 (x a o e).stay (λb u _ q=>k b u q) (λ_ q=>q) λ_ _ q=>q
def UQ.laid(x:UQ P w H h)(k:∀b u,h.get? b=some u->h'.get? b=some u)(hp:h.objs.size<=a)(new:Za P w (upd H a o) h' a o):UQ P w (upd H a o) h':=λb u e=>by
 have hn:=x.fresh hp
 by_cases hb:b=a
 . subst hb;rw[yn]at e;cases e;exact new
 . rw[zH hb]at e;exact(x b u e).stay (λc v _ q=>k c v q) (λc q=>by rwa [zH<|zR q hn]) λc xs q=>by rwa [zH<|zR q hn]
end
def Rd(H:Hp)(a:Addr)(u:HO):Prop:=H a=some u\/∃o,H a=some (.frz o u)
def Rd.ok(r:Rd H a u)(x:UQ P w H h):Za P w H h a u:=by
 rcases r with r|⟨o,r⟩
 . exact x a u r
 . obtain⟨_,q⟩:=x a _ r;exact q
def D4:Option HO->Prop
 |some (.lst _)=>True
 |some (.dK _)=>True
 |some (.dT _)=>True
 |some (.set _ _)=>True
 |some (.ins _ _ _)=>True
 |some (.ext _)=>True
 |_=>False
section
variable{P:Program}{w:World}{H:Hp}{h h':Heap}{x e:Addr}{o':HO}
def UQ.write(ok:UQ P w H h)(mu:D4 (H x))(he:e=x\/H e=some (.own x))(k:∀b u,b≠e->h.get? b=some u->h'.get? b=some u)(heo:∃u,h'.get? e=some u)
 (new:Za P w (upd H x o') h' x o'):UQ P w (upd H x o') h':=λb u q=>by
 have nown:∀c y,H c=some (.own y)->c≠x:=λc y r z=>by subst z;rwa [r]at mu
 have ntup:∀c xs,H c=some (.tup xs)->c≠x:=λc xs r z=>by subst z;rwa [r]at mu
 by_cases hb:b=x
 . subst hb;rw[yn]at q;cases q;exact new
 . rw[zH hb]at q
   by_cases hbe:b=e
   . have q':H b=some (.own x):=by
      rcases he with z|z
      . exact absurd (hbe.trans z) hb
      . rwa [hbe]
     rw[q]at q';cases q';obtain⟨v,hv⟩:=heo;exact⟨v,by rwa [hbe]⟩
   . refine(ok b u q).stay (λc v hc r=>k c v ?_ r) (λc r=>by rwa [zH<|nown c b r]) λc xs r=>by rwa [zH<|ntup c xs r]
     rcases hc with rfl|hc
     . exact hbe
     . rintro rfl
       rcases he with z|z
       . exact nown c b hc z
       . rw[hc]at z;cases z;exact hb rfl
end
structure Un(fs ex:List Addr)(H H':Hp)(h h':Heap):Prop where
 keep:∀b o,h.get? b=some o->H b=none->b ∉ fs->b ∉ ex->h'.get? b=some o
 slot:∀b o,h.get? b=some o->H b=none->b ∈ fs->b ∉ ex->∃sl,h'.get? b=some {o with slots:=sl}
 free:∀b o,h.get? b=some o->H b=none->b ∉ ex->H' b=none
 there:∀b o,h.get? b=some o->b ∉ ex->∃o',h'.get? b=some o'
 tups:∀b xs,H b=some (.tup xs)->H' b=some (.tup xs)
 frzs:∀b o u,H b=some (.frz o u)->H' b=some (.frz o u)
 tbls:∀b ps,H b=some (.tbl ps)->∃more,H' b=some (.tbl<|ps++more)
section
variable{fs fs' ex ex':List Addr}{H H1 H2:Hp}{h h1 h2 h':Heap}{a x e:Addr}{o:HO}
def Un.any(u:Un fs ex H H1 h h1)(q:h.get? b=some ob)(n:H b=none)(hx:b ∉ ex):∃sl,h1.get? b=some {ob with slots:=sl}:=by
 by_cases hb:b ∈ fs
 . exact u.slot b ob q n hb hx
 . exact⟨ob.slots,u.keep b ob q n hb hx⟩
def Un.kept(k:∀b u,h.get? b=some u->h'.get? b=some u):Un fs ex H H h h':=
 ⟨λb ob q _ _ _=>k b ob q,λb ob q _ _ _=>⟨ob.slots,k b ob q⟩,λ_ _ _ n _=>n,λb ob q _=>⟨ob,k b ob q⟩,λ_ _ q=>q,λ_ _ _ q=>q,λ_ ps q=>⟨#[],by rw[q];simp⟩⟩
def Un.refl:Un fs ex H H h h:=Un.kept λ_ _ q=>q
def Un.laid(k:∀b u,h.get? b=some u->h'.get? b=some u)(hp:h.objs.size<=a)(hn:H a=none):Un fs ex H (upd H a o) h h' where
 keep:=λb u q _ _ _=>k b u q
 slot:=λb u q _ _ _=>⟨u.slots,k b u q⟩
 free:=λb u q n _=>by rwa [zH<|zzQ<|zzK (zxE q) hp]
 there:=λb u q _=>⟨u,k b u q⟩
 tups:=λb xs q=>by rwa [zH<|zR q hn]
 frzs:=λb u xs q=>by rwa [zH<|zR q hn]
 tbls:=λb ps q=>⟨#[],by rw[zH<|zR q hn,q];simp⟩
def Un.write(mu:D4 (H x))(he:e=x\/H e=some (.own x))(k:∀b u,b≠e->h.get? b=some u->h'.get? b=some u)(heo:∃u,h'.get? e=some u):Un fs ex H (upd H x o) h h':=by
 have hx:∀b,H b=none->b≠x:=λb n z=>by subst z;rwa [n]at mu
 have hb:∀b,H b=none->b≠e:=λb n z=>by
  subst z
  rcases he with r|r
  . exact hx b n r
  . rw[n]at r;cases r
 have hm:∀b u,H b=some u->¬D4 (some u)->b≠x:=λb u q nm z=>by subst z;rw[q]at mu;exact nm mu
 refine⟨λb u q n _ _=>k b u (hb b n) q,λb u q n _ _=>⟨u.slots,k b u (hb b n) q⟩,λb u q n _=>by rw[zH<|hx b n];exact n,λb u q _=>?_,
  λb xs q=>by rw[zH<|hm b _ q λz=>z];exact q,λb u xs q=>by rw[zH<|hm b _ q λz=>z];exact q,λb ps q=>⟨#[],by rw[zH<|hm b _ q λz=>z,q];simp⟩⟩
 by_cases hbe:b=e
 . subst hbe;exact heo
 . exact⟨u,k b u hbe q⟩
end
def trk(h:Heap)(H:Hp):List Addr:=(List.range h.objs.size).filter λa=>(H a).isSome
def F_(h:Heap)(H:Hp):Heap:=W.hideAll h<|trk h H
def FY(h)(H):(F_ h H).objs.size=h.objs.size:=W.hideAll_size _ _
def BD(e:h.get? b=some o)(n:H b=none):(F_ h H).get? b=some o:=
 W.hideAll_get _ e λhm=>by
  have q:=(List.mem_filter.mp hm).2;rw[n]at q;simp at q
def HB(e:(F_ h H).get? b=some o):h.get? b=some o/\H b=none:=by
 have e':h.get? b=some o:=W.of_hideAll _ e;refine⟨e', ?_⟩;cases q:H b with
 |none=>rfl
 |some x=>
  have hm:b ∈ trk h H:=List.mem_filter.mpr ⟨List.mem_range.mpr<|zxE e',by simp[q]⟩;have z:(F_ h H).get? b=none:=W.hideAll_none _ hm;rw[z]at e;cases e
end L2
namespace L2
open PySem PySem.Spec PyProof.Rows
structure Mod(K:zzA)(mg:Str->Option Value)(base:Heap):Prop where
 kin:K.In base
 glob:base.Ns mainGlobals mg
 blt:∃mb,base.Ns builtinsNs mb/\∀x:Str,x≠"__name__"->mb x=bootBuiltins x
 nolimit:base.NoLimit
structure Cx where
 prog:Program
 w:World
 K:zzA
 mg:Str->Option Value
 base:Heap
 A:Around
 N:List Str
 s₀:Shared
 H₀:Hp
 env:Env
 outer:List Env
 stack:List Env
 ex:List Addr
 fn:Str->Bool
 calm:Bool
 pn:List (Addr×Obj)
 xe:Value->Shared->Prop
def By(l:List Env):List Addr:=l.filterMap (·.frame)
abbrev Cx.fs(X:Cx):List Addr:=By X.outer
def uh(sc:Scope)(x:Str):Prop:=sc.names.lookup x=some .local\/sc.names.lookup x=some .cell\/sc.names.lookup x=some .free
def Loc(sc:Scope)(x:Str):Prop:=sc.names.lookup x=some .local\/sc.names.lookup x=some .cell
def Look(env:Env)(h:Heap)(m:Str->Option Value)(x:Str)(u:Value):Prop:=
 (env.kindOf x=some .local/\m x=some u)\/((env.kindOf x=some .cell\/env.kindOf x=some .free)/\∃c,env.cells.lookup x=some c/\h.IsCell c (some u))
structure Cx.Ok(X:Cx):Prop where
 mod:Mod X.K X.mg X.base
 kind:X.env.scope.kind = .function
 glob:X.env.globals=mainGlobals
 blt:X.env.builtins=builtinsNs
 above:X.s₀.heap.objs.size<=X.env.locals
 inj:∀x y c,X.env.cells.lookup x=some c->X.env.cells.lookup y=some c->x=y
 has:∀x,(X.env.kindOf x=some .cell\/X.env.kindOf x=some .free)->∃c,X.env.cells.lookup x=some c
 cab:∀x c,X.fn x=true->X.env.cells.lookup x=some c->X.s₀.heap.objs.size<=c
 hd:X.calm=true->X.A.handled=none
 frames:X.A.frames=some X.stack
 stk:X.stack=X.outer\/(X.stack=X.env::X.outer/\X.env.frame=some X.env.locals)
 exf:∀b ∈ X.ex,b≠X.env.locals/\∀x c,X.env.cells.lookup x=some c->c≠b
 bs:∀b o,X.base.get? b=some o->X.s₀.heap.get? b=some o/\X.H₀ b=none
 bsz:X.base.objs.size<=X.s₀.heap.objs.size
 noex:∀b o,X.base.get? b=some o->b ∉ X.ex
 exfs:∀b ∈ X.ex,b ∉ X.fs
 funs:X.s₀.heap.FunFrames X.base X.outer
 frf:∀b ∈ X.fs,X.H₀ b=none
structure Inv(X:Cx)(pins:List (Addr×Obj))(σ:List (Option V))(H:Hp)(s:Shared):Prop where
 ok:X.Ok
 os:s.os=X.s₀.os
 bare:AllBare s.gens
 base:Un X.fs X.ex X.H₀ H X.s₀.heap s.heap
 loc:∃m,s.heap.Ns X.env.locals m/\∀(i:Nat) (x:Str) (v:V),X.N[i]? = some x->σ[i]? = some (some v)->uh X.env.scope x->∃u,RelV v u/\Look X.env s.heap m x u
 cell:∀x c,X.env.cells.lookup x=some c->∃v,s.heap.IsCell c v
 free:H X.env.locals=none
 freeC:∀x c,X.env.cells.lookup x=some c->H c=none
 pin:∀p ∈ X.pn++pins,s.heap.get? p.1=some p.2/\H p.1=none/\p.1≠X.env.locals/\p.1 ∉ X.fs/\∀v,p.2.data ≠ .cell v
 hok:UQ X.prog X.w H s.heap
 len:σ.length=X.N.length
section
variable{X:Cx}{pins:List (Addr×Obj)}{σ:List (Option V)}{H H':Hp}{s:Shared}{h':Heap}
def Cx.Ok.nofr(ok:X.Ok)(e:X.base.get? b=some o):b ∉ X.fs:=λhb=>by
 have:=(ok.funs.mem hb).1;rw[e]at this;cases this
theorem Inv.bs(I:Inv X pins σ H s):∀b o,X.base.get? b=some o->s.heap.get? b=some o/\H b=none:=λb o e=>
 ⟨I.base.keep b o (I.ok.bs b o e).1 (I.ok.bs b o e).2 (I.ok.nofr e)<|I.ok.noex b o e,I.base.free b o (I.ok.bs b o e).1 (I.ok.bs b o e).2<|I.ok.noex b o e⟩
def Inv.bk(I:Inv X pins σ H s):∀b o,X.base.get? b=some o->s.heap.get? b=some o:=λb o e=>(I.bs b o e).1
theorem Inv.mod(I:Inv X pins σ H s):Mod X.K X.mg X.base:=I.ok.mod
def Inv.kIn(I:Inv X pins σ H s):X.K.In s.heap:=I.ok.mod.kin.keeps I.bk
theorem Inv.lt(I:Inv X pins σ H s):X.env.locals<s.heap.objs.size:=let⟨_,hn,_⟩:=I.loc;hn.lt
def Inv.sz(I:Inv X pins σ H s):X.s₀.heap.objs.size<=s.heap.objs.size:=zzO I.ok.above<|Nat.le_of_lt I.lt
def Inv.nofs(I:Inv X pins σ H s)(h:s.heap.objs.size<=a):a ∉ X.fs:=λhb=>by
 obtain⟨_,o,ho,_⟩:=I.ok.funs.mem hb;exact absurd (zzK (zxE ho)<|zzO I.sz h)<|Nat.lt_irrefl _
def Inv.cne(I:Inv X pins σ H s):∀x c,X.env.cells.lookup x=some c->c≠X.env.locals:=λx c e z=>by
 obtain⟨v,o,ho,hd⟩:=I.cell x c e;obtain⟨m,⟨o',es,ep,ho',hd',_⟩,_⟩:=I.loc;rw[z,ho']at ho;cases ho;rw[hd']at hd;cases hd
theorem Inv.funs(I:Inv X pins σ H s):s.heap.FunFrames X.base X.outer:=by
 have all:∀l,(∀b ∈ By l,b ∈ X.fs)->X.s₀.heap.FunFrames X.base l->s.heap.FunFrames X.base l:=by
  intro l
  induction l with
  |nil=>intro _ _;trivial
  |cons env r ih=>
   intro hs hl;obtain⟨hk,⟨L,o,hf,hn,ho,hd⟩,hr⟩:=hl;have hL:=hs L (by unfold By;rw[List.filterMap_cons,hf];exact zzF);obtain⟨sl,e⟩:=I.base.slot L o ho (I.ok.frf L hL) hL λz=>I.ok.exfs L z hL;exact⟨hk,⟨L,_,hf,hn,e,hd⟩,ih (λb hb=>hs b<|by unfold By;rw[List.filterMap_cons,hf];exact zzD _ hb) hr⟩
 exact all X.outer (λ_ hb=>hb) I.ok.funs
theorem Inv.stack(I:Inv X pins σ H s):s.heap.FunFrames X.base X.stack:=by
 rcases I.ok.stk with e|⟨e,hf⟩
 . rw[e];exact I.funs
 . rw[e];obtain⟨m,hn,_⟩:=I.loc;refine .cons (by rw[I.ok.kind];decide) hf hn ?_ I.funs;exact Heap.get?_none_of_le<|zzO I.ok.bsz I.ok.above
def Inv.stkSub(I:Inv X pins σ H s):∀b ∈ By X.stack,b ∈ X.env.locals::X.fs:=λb hb=>by
 rcases I.ok.stk with e|⟨e,hf⟩
 . rw[e]at hb;exact zzD _ hb
 . rw[e]at hb;unfold By at hb
   rwa [List.filterMap_cons,hf]at hb
def Inv.stkFree(I:Inv X pins σ H s):∀b ∈ By X.stack,H b=none:=λb hb=>by
 rcases zzC.mp (I.stkSub b hb)with e|hb
 . rw[e];exact I.free
 . obtain⟨_,o,ho,_⟩:=I.ok.funs.mem hb;exact I.base.free b o ho (I.ok.frf b hb) λz=>I.ok.exfs b z hb
def Inv.step{g'}{t':Nat}{d'}{ch:List Addr}(I:Inv X pins σ H s)
 (hch:∀b ∈ ch,(b ∈ X.ex\/X.s₀.heap.objs.size<=b)/\b≠X.env.locals/\(∀x c,X.env.cells.lookup x=some c->c≠b)/\∀p ∈ X.pn++pins,p.1≠b)
 (keep:∀b o,b≠X.env.locals->b ∉ X.fs->b ∉ ch->s.heap.get? b=some o->H b=none->h'.get? b=some o)
 (slot:∀b o,b≠X.env.locals->b ∈ X.fs->b ∉ ch->s.heap.get? b=some o->H b=none->∃sl,h'.get? b=some {o with slots:=sl}) (free:∀b o,b ∉ ch->s.heap.get? b=some o->H b=none->H' b=none)
 (there:∀b o,b ∉ ch->s.heap.get? b=some o->∃o',h'.get? b=some o')
 (tups:∀b xs,H b=some (.tup xs)->H' b=some (.tup xs)) (frzs:∀b o u,H b=some (.frz o u)->H' b=some (.frz o u)) (tbls:∀b ps,H b=some (.tbl ps)->∃more,H' b=some (.tbl<|ps++more))
 (ns:∀m,s.heap.Ns X.env.locals m->h'.Ns X.env.locals m) (hok:UQ X.prog X.w H' h') (hg:AllBare g'):
 Inv X pins σ H' {s with heap:=h',gens:=g',drawn:=d',toks:=t'}:=by
 have neL:∀b o,X.s₀.heap.get? b=some o->b≠X.env.locals:=λb o e=>zzQ<|zzK (zxE e) I.ok.above;have neC:∀b o,X.s₀.heap.get? b=some o->b ∉ X.ex->b ∉ ch:=λb o e hx hb=>by
  rcases(hch b hb).1 with z|z
  . exact hx z
  . exact absurd (zzK (zxE e) z)<|Nat.lt_irrefl _
 have cellK:∀x c,X.env.cells.lookup x=some c->∀v,s.heap.IsCell c v->h'.IsCell c v:=λx c e v ⟨o,ho,hd⟩=>by
  have nch:=λz=>(hch c z).2.2.1 x c e rfl
  by_cases hc:c ∈ X.fs
  . obtain⟨sl,q⟩:=slot c o (I.cne x c e) hc nch ho<|I.freeC x c e;exact⟨_,q,hd⟩
  . exact⟨o,keep c o (I.cne x c e) hc nch ho<|I.freeC x c e,hd⟩
 refine⟨I.ok,I.os,hg,⟨λb o e n hb hx=>?_,λb o e n hb hx=>?_,λb o e n hx=>?_,λb o e hx=>?_,λb xs e=>tups b xs<|I.base.tups b xs e,λb o xs e=>frzs b o xs<|I.base.frzs b o xs e,λb ps e=>?_⟩, ?_,λx c e=>?_, ?_,λx c e=>?_,λp hp=>?_,hok,I.len⟩
 . exact keep b o (neL b o e) hb (neC b o e hx) (I.base.keep b o e n hb hx)<|I.base.free b o e n hx
 . obtain⟨sl,e1⟩:=I.base.slot b o e n hb hx;obtain⟨sl',e2⟩:=slot b _ (neL b o e) hb (neC b o e hx) e1<|I.base.free b o e n hx;exact⟨sl',e2⟩
 . obtain⟨o',e1⟩:=I.base.there b o e hx;exact free b o' (neC b o e hx) e1<|I.base.free b o e n hx
 . obtain⟨o',e1⟩:=I.base.there b o e hx;exact there b o' (neC b o e hx) e1
 . obtain⟨m1,e1⟩:=I.base.tbls b ps e;obtain⟨m2,e2⟩:=tbls b _ e1;exact⟨m1++m2,by rw[e2,Array.append_assoc]⟩
 . obtain⟨m,hn,hl⟩:=I.loc;refine⟨m,ns m hn,λi x v e1 e2 e3=>?_⟩;obtain⟨u,r,l⟩:=hl i x v e1 e2 e3;refine⟨u,r, ?_⟩
   rcases l with l|⟨k,c,e,z⟩
   . exact .inl l
   . exact .inr ⟨k,c,e,cellK x c e _ z⟩
 . obtain⟨v,z⟩:=I.cell x c e;exact⟨v,cellK x c e v z⟩
 . obtain⟨m,⟨o,_,_,ho,_⟩,_⟩:=I.loc;exact free _ o (λz=>(hch _ z).2.1 rfl) ho I.free
 . obtain⟨v,o,ho,hd⟩:=I.cell x c e;exact free c o (λz=>(hch c z).2.2.1 x c e rfl) ho<|I.freeC x c e
 . obtain⟨e,n,ne,nf,d⟩:=I.pin p hp;have nch:=λz=>(hch p.1 z).2.2.2 p hp rfl;exact⟨keep p.1 p.2 ne nf nch e n,free p.1 p.2 nch e n,ne,nf,d⟩
def Inv.un{t':Nat}(I:Inv X pins σ H s)(u:Un X.fs [] H H' s.heap h')(hok:UQ X.prog X.w H' h'):Inv X pins σ H' {s with heap:=h',toks:=t'}:=by
 obtain⟨m,⟨o,es,ep,ho,r⟩,_⟩:=id I.loc;obtain⟨sl,hL⟩:=u.any ho I.free (by simp);exact I.step (g':=s.gens) (d':=s.drawn) (ch:=[]) (λ_ z=>nomatch z) (λb o _ hb _ e n=>u.keep b o e n hb<|by simp) (λb o _ hb _ e n=>u.slot b o e n hb<|by simp) (λb o _ e n=>u.free b o e n<|by simp) (λb o _ e=>u.there b o e<|by simp) u.tups u.frzs u.tbls (λm' hm=>by
  obtain⟨o',es',ep',ho',r'⟩:=hm;rw[ho]at ho';cases ho';exact⟨_,es',ep',hL,r'⟩) hok I.bare
def Inv.call{g'}{t':Nat}{d'}{ch:List Addr}(I:Inv X pins σ H s)(u:Un (By X.stack) ch H H' s.heap h')(hok:UQ X.prog X.w H' h')(hg:AllBare g')
 (hch:∀b ∈ ch,(b ∈ X.ex\/X.s₀.heap.objs.size<=b)/\b≠X.env.locals/\(∀x c,X.env.cells.lookup x=some c->c≠b)/\∀p ∈ X.pn++pins,p.1≠b):
 Inv X pins σ H' {s with heap:=h',gens:=g',drawn:=d',toks:=t'}:=by
 obtain⟨m,⟨o,es,ep,ho,r⟩,_⟩:=id I.loc;obtain⟨sl,hL⟩:=u.any ho I.free λz=>(hch _ z).2.1 rfl;exact I.step hch (λb o hL hb hc e n=>u.keep b o e n (λz=>(zzC.mp<|I.stkSub b z).elim hL hb) hc) (λb o _ _ hc e n=>u.any e n hc) (λb o hc e n=>u.free b o e n hc) (λb o hc e=>u.there b o e hc) u.tups u.frzs u.tbls (λm' hm=>by
  obtain⟨o',es',ep',ho',r'⟩:=hm;rw[ho]at ho';cases ho';exact⟨_,es',ep',hL,r'⟩) hok hg
def Inv.turned{t':Nat}{it:Addr}(I:Inv X pins σ H s)(k:∀b o,b≠it->s.heap.get? b=some o->h'.get? b=some o)(hn:H it=none)(hL:it≠X.env.locals)
 (h1:it ∈ X.ex\/X.s₀.heap.objs.size<=it) (h2:∀x c,X.env.cells.lookup x=some c->c≠it) (h3:∀p ∈ X.pn++pins,p.1≠it):Inv X pins σ H {s with heap:=h',toks:=t'}:=by
 have nit:∀b u,H b=some u->b≠it:=λb u e z=>by rw[z,hn]at e;cases e
 refine I.step (g':=s.gens) (d':=s.drawn) (ch:=[it]) (λb hb=>?_) (λb o _ _ hc e _=>k b o (λz=>hc<|by simp[z]) e) (λb o _ _ hc e _=>⟨o.slots,k b o (λz=>hc<|by simp[z]) e⟩) (λ_ _ _ _ n=>n)
  (λb o hc e=>⟨o,k b o (λz=>hc<|by simp[z]) e⟩) (λ_ _ e=>e) (λ_ _ _ e=>e) (λb ps e=>⟨#[],by rw[e];simp⟩) (λm hm=>?_) (λb u e=>?_) I.bare
 . have e:b=it:=by simpa using hb
   subst e;exact⟨h1,hL,h2,h3⟩
 . obtain⟨o,es,ep,ho,r⟩:=hm;exact⟨o,es,ep,k _ o (Ne.symm hL) ho,r⟩
 . refine(I.hok b u e).stay (λc v hc q=>k c v ?_ q) (λ_ q=>q) λ_ _ q=>q
   rcases hc with z|z
   . rw[z];exact nit b u e
   . exact nit c _ z
def Inv.tok(I:Inv X pins σ H s)(t:Nat):Inv X pins σ H {s with toks:=t}:=I.un (h':=s.heap) (t':=t) Un.refl I.hok
theorem Inv.kept(I:Inv X pins σ H s)(k:∀b u,s.heap.get? b=some u->h'.get? b=some u):Inv X pins σ H {s with heap:=h',toks:=t'}:=I.un (Un.kept k)<|I.hok.kept k
theorem Inv.laid(I:Inv X pins σ H s)(k:∀b u,s.heap.get? b=some u->h'.get? b=some u)(hp:s.heap.objs.size<=a)(new:Za X.prog X.w (upd H a o) h' a o):
 Inv X pins σ (upd H a o) {s with heap:=h',toks:=t'}:=I.un (Un.laid k hp<|I.hok.fresh hp)<|I.hok.laid k hp new
theorem Inv.write(I:Inv X pins σ H s)(mu:D4 (H x))(he:e=x\/H e=some (.own x))(k:∀b u,b≠e->s.heap.get? b=some u->h'.get? b=some u)(heo:∃u,h'.get? e=some u)
 (new:Za X.prog X.w (upd H x o) h' x o):Inv X pins σ (upd H x o) {s with heap:=h',toks:=t'}:=I.un (Un.write mu he k heo)<|I.hok.write mu he k heo new
def Inv.weak(I:Inv X pins σ H s)(hl:σ'.length=σ.length)(w:∀(i:Nat) v,σ'[i]? = some (some v)->σ[i]? = some (some v)):Inv X pins σ' H s:=
 ⟨I.ok,I.os,I.bare,I.base,let⟨m,hn,hl'⟩:=I.loc;⟨m,hn,λi x v e1 e2 e3=>hl' i x v e1 (w i v e2) e3⟩,I.cell,I.free,I.freeC,I.pin,I.hok,hl.trans I.len⟩
def Inv.pins_of(I:Inv X pins σ H s)(h:∀p ∈ pins',s.heap.get? p.1=some p.2/\H p.1=none/\p.1≠X.env.locals/\p.1 ∉ X.fs/\∀v,p.2.data ≠ .cell v):Inv X pins' σ H s:=
 ⟨I.ok,I.os,I.bare,I.base,I.loc,I.cell,I.free,I.freeC,λp hp=>(zzM.mp hp).elim (λz=>I.pin p<|zzP _ z)<|h p,I.hok,I.len⟩
def Nz{N:List Str}(hN:N.Nodup){i j:Nat}{x}(a:N[i]? = some x)(b:N[j]? = some x):i=j:=by
 obtain⟨h1,e1⟩:=zzG.mp a;obtain⟨h2,e2⟩:=zzG.mp b;exact(List.getElem_inj hN).mp<|e1.trans e2.symm
def G7{M A E}{i:Nat}{x v u Q}(I:Inv X pins σ H s)(hN:X.N.Nodup)(hi:X.N[i]? = some x)(hx:Loc X.env.scope x)(r:RelV v u)
 (h:∀s',Inv X pins (σ.set i<|some v) H s'->(∃a,Heap.SameBut a s.heap s'.heap/\(a=X.env.locals\/X.env.cells.lookup x=some a))->Q () s') (hf:X.fn x=true\/X.env.scope.names.lookup x=some .local:=by first|exact .inl rfl|exact .inr rfl|assumption):wpAny M A (storeName X.env x u) Q E s:=by
 obtain⟨m,hn,hl⟩:=id I.loc;have hcls:(X.env.scope.kind == .class||(X.env.scope.kind == .module&&X.env.locals != X.env.globals))=false:=by rw[I.ok.kind];rfl
 have hiσ:i<σ.length:=by rw[I.len];exact(zzG.mp hi).1
 have cne:=I.cne;have tracked:∀{a:Addr}{h':Heap},(∃o,s.heap.get? a=some o/\H a=none)->Heap.SameBut a s.heap h'->UQ X.prog X.w H h':=λ{a h'} ha hs b ob e=>by
  obtain⟨_,_,hfree⟩:=ha;refine(I.hok b ob e).stay (λc w' hc q=>(hs.2 c ?_).trans q) (λ_ q=>q) λ_ _ q=>q
  rintro rfl
  rcases hc with rfl|hc
  . rw[hfree]at e;cases e
  . rw[hfree]at hc;cases hc
 rcases hx with hk|hk
 . refine wpAny_storeName_local hk hn (λh' hn' hs=>?_) hcls;obtain⟨oL,_,_,hoL,_⟩:=id hn;refine h _ ⟨I.ok,I.os,I.bare,⟨λb o e n hb hx=>?_,λb o e n hb hx=>?_,I.base.free,λb o e hx=>?_,I.base.tups,I.base.frzs,I.base.tbls⟩,⟨_,hn',λj y v' e1 e2 e3=>?_⟩,λy c e=>?_,I.free,I.freeC,λp hp=>?_,tracked ⟨oL,hoL,I.free⟩ hs,by simpa using I.len⟩ ⟨_,hs,.inl rfl⟩
   . exact(hs.2 b<|zzQ<|zzK (zxE e) I.ok.above).trans<|I.base.keep b o e n hb hx
   . obtain⟨sl,e1⟩:=I.base.slot b o e n hb hx;exact⟨sl,(hs.2 b<|zzQ<|zzK (zxE e) I.ok.above).trans e1⟩
   . obtain⟨o',e1⟩:=I.base.there b o e hx;exact⟨o',(hs.2 b<|zzQ<|zzK (zxE e) I.ok.above).trans e1⟩
   . by_cases hj:j=i
     . subst hj;rw[hi]at e1;cases e1;rw[zyJ hiσ]at e2;cases e2;exact⟨u,r,.inl ⟨hk,by simp⟩⟩
     . rw[zzX<|Ne.symm hj]at e2;obtain⟨u',r',q⟩:=hl j y v' e1 e2 e3;refine⟨u',r', ?_⟩
       rcases q with⟨k,e⟩|⟨k,c,e,z⟩
       . refine .inl ⟨k, ?_⟩;have:y≠x:=λe=>hj<|Nz hN e1<|e ▸ hi;simp[this,e]
       . exact .inr ⟨k,c,e,z.sameBut hs<|cne y c e⟩
   . obtain⟨w',z⟩:=I.cell y c e;exact⟨w',z.sameBut hs<|cne y c e⟩
   . obtain⟨e,n,ne,nf,d⟩:=I.pin p hp;exact⟨(hs.2 p.1 ne).trans e,n,ne,nf,d⟩
 . have hfn:X.fn x=true:=by
    rcases hf with z|z
    . exact z
    . rw[z]at hk;cases hk
   obtain⟨c,hc⟩:=I.ok.has x<|.inl hk;obtain⟨w',z⟩:=I.cell x c hc;refine wpAny_storeName_cell I.ok.kind hk hc z λh' hc' hs=>?_;obtain⟨oc,hoc,hocd⟩:=id z;refine h {s with heap:=h'} ⟨I.ok,I.os,I.bare,⟨λb o e n hb hx=>?_,λb o e n hb hx=>?_,I.base.free,λb o e hx=>?_,I.base.tups,I.base.frzs,I.base.tbls⟩,⟨m,hn.sameBut hs<|Ne.symm<|cne x c hc,λj y v' e1 e2 e3=>?_⟩,λy c' e=>?_,I.free,I.freeC,λp hp=>?_,tracked ⟨oc,hoc,I.freeC x c hc⟩ hs,by simpa using I.len⟩ ⟨c,hs,.inr hc⟩
   . exact(hs.2 b<|zzQ<|zzK (zxE e)<|I.ok.cab x c hfn hc).trans<|I.base.keep b o e n hb hx
   . obtain⟨sl,e1⟩:=I.base.slot b o e n hb hx;exact⟨sl,(hs.2 b<|zzQ<|zzK (zxE e)<|I.ok.cab x c hfn hc).trans e1⟩
   . obtain⟨o',e1⟩:=I.base.there b o e hx;exact⟨o',(hs.2 b<|zzQ<|zzK (zxE e)<|I.ok.cab x c hfn hc).trans e1⟩
   . by_cases hj:j=i
     . subst hj;rw[hi]at e1;cases e1;rw[zyJ hiσ]at e2;cases e2;exact⟨u,r,.inr ⟨.inl hk,c,hc,hc'⟩⟩
     . rw[zzX<|Ne.symm hj]at e2;obtain⟨u',r',q⟩:=hl j y v' e1 e2 e3;refine⟨u',r', ?_⟩
       rcases q with q|⟨k,c',e,z'⟩
       . exact .inl q
       . refine .inr ⟨k,c',e,z'.sameBut hs ?_⟩
         rintro rfl
         exact hj<|Nz hN e1<|I.ok.inj _ _ _ e hc ▸ hi
   . by_cases hcc:c'=c
     . subst hcc;exact⟨_,hc'⟩
     . obtain⟨w2,z2⟩:=I.cell y c' e;exact⟨w2,z2.sameBut hs hcc⟩
   . obtain⟨e,n,ne,nf,d⟩:=I.pin p hp;refine⟨(hs.2 p.1 ?_).trans e,n,ne,nf,d⟩;intro q;rw[q,hoc]at e;have q':oc=p.2:=zzY e;exact d w' (by rwa [<-q'])
def Nx(I:Inv X pins σ H s)(hN:X.N.Nodup)(hi:X.N[i]? = some x)(hx:Loc X.env.scope x)(r:RelV v u)
 (h:∀s',Inv X pins (σ.set i<|some v) H s'->Q () s') (hf:X.fn x=true\/X.env.scope.names.lookup x=some .local:=by first|exact .inl rfl|exact .inr rfl|assumption):wpAny M A (storeName X.env x u) Q E s:=
 G7 I hN hi hx r (λs' I' _=>h s' I') hf
def Inv.call'(I:Inv X pins σ H s)(ho:s'.os=s.os)(u:Un (By X.stack) ch H H' s.heap s'.heap)(hok:UQ X.prog X.w H' s'.heap)(hg:AllBare s'.gens)
 (hch:∀b ∈ ch,(b ∈ X.ex\/X.s₀.heap.objs.size<=b)/\b≠X.env.locals/\(∀x c,X.env.cells.lookup x=some c->c≠b)/\∀p ∈ X.pn++pins,p.1≠b):Inv X pins σ H' s':=by
 obtain⟨h',g',d',t',o'⟩:=s';have e:=ho;subst e;exact I.call (g':=g') (t':=t') (d':=d') u hok hg hch
end
abbrev XK:=Value->Option Addr->Hp->Prop
abbrev St:=List<|Option V
abbrev VK:=V->Hp->Prop
abbrev TE:=St->Hp->VK->Prop
abbrev TT:=St->Hp->(Bool->Hp->Prop)->Prop
abbrev TA:=St->Hp->(List V->Hp->Prop)->Prop
structure Ends where
 nx:St->Hp->Prop
 rt:VK
 bk:St->Hp->Prop:=λ_ _=>False
 ct:St->Hp->Prop:=λ_ _=>False
abbrev TS:=Ends->St->Hp->Prop
def EP(X:Cx)(pins:List (Addr×Obj))(σ:St)(Q:VK)(u:Value)(s':Shared):Prop:=∃v H',Inv X pins σ H' s'/\RelV v u/\Q v H'
def TP(X:Cx)(pins:List (Addr×Obj))(σ:St)(Q:Bool->Hp->Prop)(b:Bool)(s':Shared):Prop:=∃H',Inv X pins σ H' s'/\Q b H'
def AP(X:Cx)(pins:List (Addr×Obj))(σ:St)(Q:List V->Hp->Prop)(us:List Value)(s':Shared):Prop:=∃vs H',Inv X pins σ H' s'/\zM vs us/\Q vs H'
def SP(X:Cx)(pins:List (Addr×Obj))(D:Ends)(f:Flow)(s':Shared):Prop:=
 match f with
 | .next=>∃σ' H',Inv X pins σ' H' s'/\D.nx σ' H'
 | .brk=>∃σ' H',Inv X pins σ' H' s'/\D.bk σ' H'
 | .cont=>∃σ' H',Inv X pins σ' H' s'/\D.ct σ' H'
 | .ret u=>∃v σ' H',Inv X pins σ' H' s'/\RelV v u/\D.rt v H'
def PE(X:Cx)(e:Expr)(t:TE):Prop:=
 ∀(pins:List (Addr×Obj)) (s:Shared) (σ:St) (H:Hp) (Q:VK),Inv X pins σ H s->t σ H Q->wpAny (model X.prog X.w) X.A (eval e X.env) (EP X pins σ Q) X.xe s
def PT(X:Cx)(e:Expr)(t:TT):Prop:=
 ∀(pins:List (Addr×Obj)) (s:Shared) (σ:St) (H:Hp) (Q:Bool->Hp->Prop),Inv X pins σ H s->t σ H Q->wpAny (model X.prog X.w) X.A (isTrue e X.env<|eval e X.env) (TP X pins σ Q) X.xe s
def PW(X:Cx)(e:Expr)(t:TT):Prop:=
 ∀(whole:Sem Value) (pins:List (Addr×Obj)) (s:Shared) (σ:St) (H:Hp) (Q:Bool->Hp->Prop),Inv X pins σ H s->t σ H Q->wpAny (model X.prog X.w) X.A (isTrue e X.env whole) (TP X pins σ Q) X.xe s
def PW.pt(h:PW X e t):PT X e t:=h _
def PA(X:Cx)(es:List Expr)(t:TA):Prop:=
 ∀(pos:Pos) (pins:List (Addr×Obj)) (s:Shared) (σ:St) (H:Hp) (Q:List V->Hp->Prop),Inv X pins σ H s->t σ H Q->wpAny (model X.prog X.w) X.A (spliced<|backTo pos<|starEach es X.env) (AP X pins σ Q) X.xe s
def PS(X:Cx)(st:Stmt)(t:TS):Prop:=
 ∀(pins:List (Addr×Obj)) (s:Shared) (σ:St) (H:Hp) (D:Ends),Inv X pins σ H s->t D σ H->wpAny (model X.prog X.w) X.A (exec st X.env) (SP X pins D) X.xe s
def L3(X:Cx)(st:List Stmt)(t:TS):Prop:=
 ∀(pins:List (Addr×Obj)) (s:Shared) (σ:St) (H:Hp) (D:Ends),Inv X pins σ H s->t D σ H->wpAny (model X.prog X.w) X.A (execs st X.env) (SP X pins D) X.xe s
def xX(h:wpAny M A t Q E s)(hQ:∀a s,Q a s->Q' a s):wpAny M A t Q' E s:=zxI h hQ λ_ _ x=>x
end L2
namespace L2
open PySem PySem.Spec PyProof.Rows
section
variable{X:Cx}
def Bd(i:Nat):TE:=λσ H Q=>∃v,σ[i]? = some (some v)/\Q v H
def tC(v:V):TE:=λ_ H Q=>Q v H
def Bz(hN:X.N[i]? = some x)(hv:uh X.env.scope x)(hd:(x==("__debug__":Str))=false:=by decide)(hcd:(x==("__classdict__":Str))=false:=by decide):PE X (.Name x pos) (Bd i):=by
 intro pins s σ H Q I h;obtain⟨v,e,h⟩:=h;obtain⟨m,hn,hl⟩:=I.loc;obtain⟨u,r,l⟩:=hl i x v hN e hv;have fin:EP X pins σ Q u s:=⟨v,H,I,r,h⟩
 rcases l with⟨hk,hm⟩|⟨hk,c,hc,hcell⟩
 . exact wpAny_Name (wpAny_loadName_local I.ok.kind hk hn hm fin) hd
 . rcases hk with hk|hk
   . exact wpAny_Name (wpAny_loadName_cell I.ok.kind hk hc hcell fin) hd
   . exact wpAny_Name (wpAny_loadName_free I.ok.kind hk hc hcell fin hcd) hd
def I_:PE X (.Constant (.int i) j pos) (tC<|.int i):=λ_ _ _ H _ I h=>wpAny_Constant_int ⟨.int i,H,I.tok _,⟨_,rfl⟩,h⟩
def Dj:PE X (.Constant (.bool b) j pos) (tC<|.bl b):=λ_ _ _ H _ I h=>Constant_bool ⟨.bl b,H,I,rfl,h⟩
def Jt:PE X (.Constant .none j pos) (tC .non):=λ_ _ _ H _ I h=>Constant_none ⟨.non,H,I,rfl,h⟩
def Jw:PE X (.Constant (.str x) j pos) (tC<|.str x):=λ_ _ _ H _ I h=>Calls.Constant_str ⟨.str x,H,I.tok _,⟨_,rfl⟩,h⟩
def Gl(X:Cx)(x:Str):Prop:=X.env.kindOf x=some .globalImplicit
def ET(I:Inv X pins σ H s)(hg:Gl X x)(hm:X.mg x=some u)(h:Q u s)
 (hd:(x==("__debug__":Str))=false:=by decide):wpAny (model X.prog X.w) X.A (eval (.Name x pos) X.env) Q E s:=
 Calls.Name_function_global I.ok.kind hg (Calls.loadGlobal_global (by rw[I.ok.glob];exact I.mod.glob.keeps I.bk) hm h) hd
def Tn(I:Inv X pins σ H s)(hg:Gl X x)(hm:X.mg x=none)(hv:bootBuiltins x=some u)(h:Q u s)
 (hn:x≠"__name__":=by decide) (hd:(x==("__debug__":Str))=false:=by decide):wpAny (model X.prog X.w) X.A (eval (.Name x pos) X.env) Q E s:=by
 obtain⟨mb,h1,h2⟩:=I.mod.blt;exact Calls.Name_function_global I.ok.kind hg (Calls.loadGlobal_builtin (by rw[I.ok.glob];exact I.mod.glob.keeps I.bk) hm (by rw[I.ok.blt];exact h1.keeps I.bk) ((h2 x hn).trans hv) h) hd
def Cf(hg:Gl X x)(hm:X.mg x=none)(hv:bootBuiltins x=some u)(r:RelV v u)(hn:x≠"__name__":=by decide)(hd:(x==("__debug__":Str))=false:=by decide):PE X (.Name x pos) (tC v):=
 λ_ _ _ H _ I h=>Tn I hg hm hv ⟨v,H,I,r,h⟩ hn hd
variable{a b:Expr}{ta tb:TE}{pos:Pos}
variable{tA tB':TT}{rest:List Expr}
def tJ(t u:TT):TT:=λσ H Q=>t σ H λc H1=>if c=true then u σ H1 Q else Q false H1
def sG(t u:TT):TT:=λσ H Q=>t σ H λc H1=>if c=true then Q true H1 else u σ H1 Q
def uk(t:TT):TT:=λσ H Q=>t σ H λc H1=>Q (!c) H1
def H0(ha:PT X a tA):PW X (.BoolOp .And [a] pos) tA:=by
 intro wh pins s σ H Q I h;refine isTrue_and<|xX (ha pins s σ H Q I h) λc s1 e=>?_;cases c with
 |true=>exact isTrue_and_nil e
 |false=>exact e
def JP(ha:PT X a tA):PW X (.BoolOp .Or [a] pos) tA:=by
 intro wh pins s σ H Q I h;refine isTrue_or<|xX (ha pins s σ H Q I h) λc s1 e=>?_;cases c with
 |false=>exact isTrue_or_nil e
 |true=>exact e
def IG(ha:PT X a tA)(hb:PW X (.BoolOp .And (b::rest) pos) tB'):PW X (.BoolOp .And (a::b::rest) pos) (tJ tA tB'):=by
 intro wh pins s σ H Q I h;refine isTrue_and<|xX (ha pins s σ H _ I h) λc s1 ⟨H1,I1,q1⟩=>?_;cases c with
 |true=>exact hb wh pins s1 σ H1 Q I1 q1
 |false=>exact⟨H1,I1,q1⟩
def Dy(ha:PT X a tA)(hb:PW X (.BoolOp .Or (b::rest) pos) tB'):PW X (.BoolOp .Or (a::b::rest) pos) (sG tA tB'):=by
 intro wh pins s σ H Q I h;refine isTrue_or<|xX (ha pins s σ H _ I h) λc s1 ⟨H1,I1,q1⟩=>?_;cases c with
 |true=>exact⟨H1,I1,q1⟩
 |false=>exact hb wh pins s1 σ H1 Q I1 q1
def Ae(ha:PT X a tA):PT X (.UnaryOp .Not a pos) (uk tA):=by
 intro pins s σ H Q I h;exact isTrue_not<|ha pins s σ H _ I h
def DY(ta tb:TE):TE:=λσ H Q=>ta σ H λx H1=>∃c,x = .bl c/\if c=true then tb σ H1 Q else Q (.bl false) H1
def DB(ta:TE):TE:=λσ H Q=>ta σ H λx H1=>∃c,x = .bl c/\Q (.bl<|!c) H1
def IR(ha:PE X a ta)(hb:PE X (.BoolOp .And (b::rest) pos) tb):PE X (.BoolOp .And (a::b::rest) pos) (DY ta tb):=by
 intro pins s σ H Q I h;refine BoolOp_and<|xX (ha pins s σ H _ I h) λv s1 ⟨x,H1,I1,r1,q1⟩=>?_;obtain⟨c,rfl,q1⟩:=q1;cases r1;refine wpAny_truthy_bool ?_;cases c with
 |true=>exact hb pins s1 σ H1 Q I1 q1
 |false=>exact⟨.bl false,H1,I1,rfl,q1⟩
def J6(ha:PE X a ta):PE X (.UnaryOp .Not a pos) (DB ta):=by
 intro pins s σ H Q I h;refine UnaryOp_<|xX (ha pins s σ H _ I h) λv s1 ⟨x,H1,I1,r1,q1⟩=>?_;obtain⟨c,rfl,q1⟩:=q1;cases r1;exact not_of<|wpAny_truthy_bool ⟨.bl _,H1,I1,rfl,q1⟩
def sR(t:TT)(ta tb:TE):TE:=λσ H Q=>t σ H λc H1=>if c=true then ta σ H1 Q else tb σ H1 Q
def Hh(hc:PT X c tA)(ha:PE X a ta)(hb:PE X b tb):PE X (.IfExp c a b pos) (sR tA ta tb):=by
 intro pins s σ H Q I h;refine wpAny_IfExp<|xX (hc pins s σ H _ I h) λd s1 ⟨H1,I1,q1⟩=>?_;cases d with
 |true=>exact ha pins s1 σ H1 Q I1 q1
 |false=>exact hb pins s1 σ H1 Q I1 q1
end
end L2
namespace L2
open PySem PySem.Spec PyProof.Rows
def TX(K:zzA)(H:Hp)(a:Addr)(xs:List V):Prop:=
 Rd H a (.lst xs) \/
  ∃(o:Obj) (its:Array Value) (n:Nat),K.lookup a=some o/\o.cls = .type "list"/\o.dict=none/\o.data = .seq its n/\its.size<=sizeLine/\zM xs its.toList
def Sv(K:zzA)(H:Hp)(a:Addr)(xs:List V):Prop:=
 Rd H a (.lst xs)\/∃(its:Array Value) (n:Nat),K.lookup a=some {cls:=.type "list",data:=.seq its n}/\its.size<=sizeLine/\zM xs its.toList
def Uk(K:zzA)(H:Hp)(a:Addr)(xs:List V):Prop:=
 Rd H a (.tup xs) \/
  ∃(o:Obj) (its:Array Value) (n:Nat),K.lookup a=some o/\o.cls = .type "tuple"/\o.data = .seq its n/\its.size<=sizeLine/\zM xs its.toList
def uj:Value->Option V
 | .none=>some .non
 | .bool b=>some<|.bl b
 | .int i _=>some<|.int i
 | .str x _=>some<|.str x
 | .bytes b _=>some<|.byt b
 | .float b _=>some<|.flt b
 | .ref a=>some<|.ref a
 | .type n=>some (.ty n)
 |_=>none
def RelV.abs(r:RelV x u):uj u=some x:=by
 cases x with
 |non=>cases r;rfl
 |bl _=>cases r;rfl
 |int _=>obtain⟨t,rfl⟩:=r;rfl
 |str _=>obtain⟨t,rfl⟩:=r;rfl
 |byt _=>obtain⟨t,rfl⟩:=r;rfl
 |flt _=>obtain⟨t,rfl⟩:=r;rfl
 |ref _=>cases r;rfl
 |ty _=>cases r;rfl
def RelV.inj(r:RelV x u)(q:RelV y u):x=y:=zzY<|r.abs.symm.trans q.abs
theorem zM.inj:∀{xs ys:List V}{us:List Value},zM xs us->zM ys us->xs=ys
 |_,_,_,.nil,.nil=>rfl
 |_,_,_,.cons r t,.cons r' t'=>by rw[r.inj r',zM.inj t t']
section
variable{X:Cx}{pins:List (Addr×Obj)}{σ:St}{H:Hp}{s:Shared}{a:Addr}{xs ys:List V}
def Inv.list(I:Inv X pins σ H s)(h:TX X.K H a xs):∃its:List Value,zM xs its/\PlainL s.heap a its.toArray/\xs.length<=sizeLine:=by
 rcases h with h|⟨o,its,n,hk,hc,hd,hs,hz,r⟩
 . obtain⟨z,its,n,r,e⟩:=h.ok I.hok;exact⟨its,r,⟨_,n,e,rfl,rfl,rfl⟩,z⟩
 . refine⟨its.toList,r,⟨o,n,I.kIn a o hk,hc,hd,by simpa using hs⟩, ?_⟩;have e:=r.length;simp at e;omega
def Inv.tuple(I:Inv X pins σ H s)(h:Uk X.K H a xs):∃its:List Value,zM xs its/\IsTup s.heap a its.toArray/\xs.length<=sizeLine:=by
 rcases h with h|⟨o,its,n,hk,hc,hs,hz,r⟩
 . obtain⟨z,its,r,p⟩:=h.ok I.hok;exact⟨its,r,p,z⟩
 . refine⟨its.toList,r,⟨o,I.kIn a o hk,hc,n,by simpa using hs⟩, ?_⟩;have e:=r.length;simp at e;omega
def Inv.list_inj(I:Inv X pins σ H s)(h:TX X.K H a xs)(h':TX X.K H a ys):xs=ys:=by
 obtain⟨its,r,⟨o,n,e,_,_,d⟩,_⟩:=I.list h;obtain⟨its',r',⟨o',n',e',_,_,d'⟩,_⟩:=I.list h';rw[e]at e';cases e';rw[d]at d';injection d' with d1 _
 have:its=its':=by simpa using congrArg Array.toList d1
 subst this;exact r.inj r'
def Inv.tuple_inj(I:Inv X pins σ H s)(h:Uk X.K H a xs)(h':Uk X.K H a ys):xs=ys:=by
 obtain⟨its,r,⟨o,e,_,n,d⟩,_⟩:=I.tuple h;obtain⟨its',r',⟨o',e',_,n',d'⟩,_⟩:=I.tuple h';rw[e]at e';cases e';rw[d]at d';injection d' with d1 _
 have:its=its':=by simpa using congrArg Array.toList d1
 subst this;exact r.inj r'
end
abbrev Cx.wish(X:Cx)(E:Value->Shared->Prop):Cx:={X with xe:=E}
abbrev Cx.nox(X:Cx):Cx:=X.wish λ_ _=>False
theorem Cx.Ok.wish{X:Cx}(ok:X.Ok)(E):(X.wish E).Ok:=
 ⟨ok.mod,ok.kind,ok.glob,ok.blt,ok.above,ok.inj,ok.has,ok.cab,ok.hd,ok.frames,ok.stk,ok.exf,ok.bs,ok.bsz,ok.noex,ok.exfs,ok.funs,ok.frf⟩
def Cx.Ok.unwish{X:Cx}{E}(ok:(X.wish E).Ok):X.Ok:=
 ⟨ok.mod,ok.kind,ok.glob,ok.blt,ok.above,ok.inj,ok.has,ok.cab,ok.hd,ok.frames,ok.stk,ok.exf,ok.bs,ok.bsz,ok.noex,ok.exfs,ok.funs,ok.frf⟩
section
variable{X:Cx}{pins:List (Addr×Obj)}{σ:St}{H:Hp}{s:Shared}{E:Value->Shared->Prop}
theorem Inv.wish(I:Inv X pins σ H s)(E:Value->Shared->Prop):Inv (X.wish E) pins σ H s:=⟨I.ok.wish E,I.os,I.bare,I.base,I.loc,I.cell,I.free,I.freeC,I.pin,I.hok,I.len⟩
theorem Inv.unwish(I:Inv (X.wish E) pins σ H s):Inv X pins σ H s:=⟨I.ok.unwish,I.os,I.bare,I.base,I.loc,I.cell,I.free,I.freeC,I.pin,I.hok,I.len⟩
theorem SP.unwish(h:SP (X.wish E) pins D f s'):SP X pins D f s':=by
 cases f with
 |next=>obtain⟨σ',H',I,q⟩:=h;exact⟨σ',H',I.unwish,q⟩
 |brk=>obtain⟨σ',H',I,q⟩:=h;exact⟨σ',H',I.unwish,q⟩
 |cont=>obtain⟨σ',H',I,q⟩:=h;exact⟨σ',H',I.unwish,q⟩
 |ret u=>obtain⟨v,σ',H',I,r,q⟩:=h;exact⟨v,σ',H',I.unwish,r,q⟩
theorem L3.nox{st t}(h:L3 X.nox st t):L3 X st t:=λpins s σ H D I hw=>
 zxI (h pins s σ H D (I.wish _) hw) (λ_ _ q=>q.unwish) λ_ _ z=>False.elim z
end
section
variable{X:Cx}{st:Stmt}{rest:List Stmt}{t u:TS}{e:Expr}{te:TE}{pos:Pos}
def AK:TS:=λD σ H=>D.nx σ H
def u5(t u:TS):TS:=λD σ H=>t {D with nx:=u D} σ H
def E_:L3 X [] AK:=λ_ _ σ H _ I h=>wpAny_execs_nil ⟨σ,H,I,h⟩
def Wk(h1:PS X st t)(h2:L3 X rest u):L3 X (st::rest) (u5 t u):=by
 intro pins s σ H D I h;refine wpAny_execs_cons<|xX (h1 pins s σ H {D with nx:=u D} I h) λf s1 q=>?_;cases f with
 |next=>
  obtain⟨σ',H',I',q⟩:=q;exact h2 pins s1 σ' H' D I' q
 |ret v=>exact q
 |brk=>exact q
 |cont=>exact q
def Rv(h1:PS X st t):L3 X [st] t:=by
 intro pins s σ H D I h;refine wpAny_execs_cons<|xX (h1 pins s σ H D I h) λf s1 q=>?_;cases f with
 |next=>exact wpAny_execs_nil q
 |ret v=>exact q
 |brk=>exact q
 |cont=>exact q
def Inv.quiet(I:Inv X pins σ H s):interactive X.env=false:=by simp[interactive,I.ok.kind]
def Da(te:TE):TS:=λD σ H=>te σ H λ_ H1=>D.nx σ H1
def KN(he:PE X e te)(hs:swapsWith e none pos.line X.env=pure false:=by rfl):PS X (.Expr e pos) (Da te):=by
 intro pins s σ H D I h;exact wpAny_Expr_any (xX (he pins s σ H _ I h) λv s1 ⟨x,H1,I1,r1,q1⟩=>⟨σ,H1,I1,q1⟩) I.quiet hs
def uw(te:TE):TS:=λD σ H=>te σ H D.rt
def Jd(he:PE X e te):PS X (.Return (some e) pos) (uw te):=by
 intro pins s σ H D I h;exact wpAny_Return_some<|xX (he pins s σ H _ I h) λv s1 ⟨x,H1,I1,r1,q1⟩=>⟨x,σ,H1,I1,r1,q1⟩
def DQ:TS:=λD _ H=>D.rt .non H
def Oc:PS X (.Return none pos) DQ:=λ_ _ σ H _ I h=>wpAny_Return_none ⟨.non,σ,H,I,rfl,h⟩
def uG(c:TT)(t u:TS):TS:=λD σ H=>c σ H λb H1=>if b=true then t D σ H1 else u D σ H1
def Cu(hc:PT X c tc)(ha:L3 X a t)(hb:L3 X b u):PS X (.If c a b pos) (uG tc t u):=by
 intro pins s σ H D I h;refine wpAny_If<|xX (hc pins s σ H _ I h) λd s1 ⟨H1,I1,q1⟩=>?_;cases d with
 |true=>exact ha pins s1 σ H1 D I1 q1
 |false=>exact hb pins s1 σ H1 D I1 q1
end
abbrev TG:=V->St->Hp->(St->Hp->Prop)->Prop
abbrev Jx:=List V->St->Hp->(St->Hp->Prop)->Prop
def PG(X:Cx)(target:Expr)(t:TG):Prop:=
 ∀(pins:List (Addr×Obj)) (s:Shared) (σ:St) (H:Hp) (v:V) (u:Value) (Q:St->Hp->Prop),Inv X pins σ H s->RelV v u->t v σ H Q->
  wpAny (model X.prog X.w) X.A (assign target X.env u) (λ_ s'=>∃σ' H',Inv X pins σ' H' s'/\Q σ' H') X.xe s
def Cr(X:Cx)(ts:List Expr)(t:Jx):Prop:=
 ∀(pins:List (Addr×Obj)) (s:Shared) (σ:St) (H:Hp) (vs:List V) (us:List Value) (Q:St->Hp->Prop),Inv X pins σ H s->zM vs us->t vs σ H Q->
  wpAny (model X.prog X.w) X.A (assignInOrder ((assignEach ts X.env).map (·.2)) us) (λ_ s'=>∃σ' H',Inv X pins σ' H' s'/\Q σ' H') X.xe s
section
variable{X:Cx}{pos:Pos}
def Fi(i:Nat):TG:=λv σ H Q=>Q (σ.set i<|some v) H
def HF(hN:X.N.Nodup)(hi:X.N[i]? = some x)(hx:Loc X.env.scope x)(hf:X.fn x=true\/X.env.scope.names.lookup x=some .local:=by first|exact .inl rfl|exact .inr rfl|assumption):PG X (.Name x pos) (Fi i):=by
 intro pins s σ H v u Q I r h;exact wpAny_assign_Name<|Nx I hN hi hx r (λs' I'=>⟨_,H,I',h⟩) hf
def tq:Jx:=λvs σ H Q=>vs=[]/\Q σ H
def Dq(t:TG)(u:Jx):Jx:=λvs σ H Q=>∃v r,vs=v::r/\t v σ H λσ' H'=>u r σ' H' Q
def OY:Cr X [] tq:=by
 intro pins s σ H vs us Q I r h;obtain⟨e,h⟩:=h;subst e;exact assignInOrder_nil ⟨σ,H,I,h⟩
def SC(h1:PG X e t)(h2:Cr X es u)
 (hs:(assignEach (e::es) X.env).map (·.2)=assign e X.env::(assignEach es X.env).map (·.2):=by rfl):Cr X (e::es) (Dq t u):=by
 intro pins s σ H vs us Q I r h;obtain⟨v,vr,e1,h⟩:=h;subst e1;cases r with
 |cons r rr=>
  rw[hs];refine assignInOrder_cons<|xX (h1 pins s σ H _ _ _ I r h) λ_ s1 ⟨σ1,H1,I1,q1⟩=>?_;exact h2 pins s1 σ1 H1 _ _ Q I1 rr q1
def uY(K:zzA)(n:Nat)(t:Jx):TG:=λv σ H Q=>∃a xs,v = .ref a/\Uk K H a xs/\xs.length=n/\t xs σ H Q
def IE(hc:X.calm=true)(h:Cr X es t)
 (hn:(assignEach es X.env).length=n:=by rfl) (hst:(assignEach es X.env).findIdx? (·.1)=none:=by rfl):PG X (.Tuple es k pos) (uY X.K n t):=by
 intro pins s σ H v u Q I r hw;obtain⟨a,xs,e1,hq,hl,hw⟩:=hw;subst e1;cases r;obtain⟨its,rv,ht,hz⟩:=I.tuple hq;refine assign_Tuple_tuple (I.ok.hd hc) ht (by simp[hn,<-hl,rv.length]) hst λh' hx=>?_;have I1:=I.kept (t':=s.toks) λb o e=>hx b o (zzQ<|zxE e) e;exact h pins _ σ H xs _ Q I1 (by simpa using rv) hw
def JA(te:TE)(g:TG):TS:=λD σ H=>te σ H λx H1=>g x σ H1 D.nx
def Ji(he:PE X e te)(hg:PG X tg g)(hs:swapsWithSole [tg] e pos.line X.env=pure false:=by rfl)(hw:swappedStores [tg] e X.env=pure none:=by rfl)
 (h1:(assignEach [tg] X.env).map (·.2)=[assign tg X.env]:=by rfl):PS X (.Assign [tg] e pos) (JA te g):=by
 intro pins s σ H D I h;refine wpAny_Assign_stores (xX (he pins s σ H _ I h) λv s1 ⟨x,H1,I1,r1,q1⟩=>?_) hs hw;rw[h1];exact xX (hg pins s1 σ H1 x v _ I1 r1 q1) λ_ s2 q=>q
def B7(hN:X.N.Nodup)(hi:X.N[i]? = some x)(hx:Loc X.env.scope x)(he:PE X e te)(hs:swapsWith e (some<|.Name x pos') pos.line X.env=pure false:=by rfl)(hf:X.fn x=true\/X.env.scope.names.lookup x=some .local:=by first|exact .inl rfl|exact .inr rfl|assumption):
 PS X (.Assign [.Name x pos'] e pos) (JA te<|Fi i):=by
 intro pins s σ H D I h;refine wpAny_Assign_Name (xX (he pins s σ H _ I h) λv s1 ⟨y,H1,I1,r1,q1⟩=>?_) hs;exact Nx I1 hN hi hx r1 (λs2 I2=>⟨_,H1,I2,q1⟩) hf
end
structure It where
 go:Nat->Hp->Prop
 yld:Nat->Hp->V->Hp->Prop
 stop:Nat->Hp->Prop
def U2(X:Cx)(pins:List (Addr×Obj))(H:Hp)(b:Addr):Prop:=
 H b=none/\b≠X.env.locals/\b ∉ X.fs/\(b ∈ X.ex\/X.s₀.heap.objs.size<=b)/\(∀x c,X.env.cells.lookup x=some c->c≠b)/\∀p ∈ X.pn++pins,p.1≠b
def Inv.fpOk(I:Inv X pins σ H s)(hb:s.heap.objs.size<=b)(hn:H' b=none):U2 X pins H' b:=by
 refine⟨hn,Nat.ne_of_gt<|zzK I.lt hb,I.nofs hb,.inr<|zzO I.sz hb,λx c e z=>?_,λp hp z=>?_⟩
 . obtain⟨v,q⟩:=I.cell x c e;exact absurd (zzK q.lt<|by rwa [z])<|Nat.lt_irrefl _
 . exact absurd (zzK (zxE (I.pin p hp).1)<|by rwa [z])<|Nat.lt_irrefl _
structure Turn(P:Program)(w:World)(K:zzA)(tg:Expr)(J:It)(fp:List Addr)(it:Addr)(tn:Nat->Heap->Prop):Prop where
 mem:it ∈ fp
 obj:∀i h,tn i h->∀b ∈ fp,∃o,h.get? b=some o/\∀v,o.data ≠ .cell v
 keep:∀i h h',tn i h->(∀b ∈ fp,∀o,h.get? b=some o->h'.get? b=some o)->tn i h'
 item:∀(X:Cx),X.prog=P->X.w=w->X.K=K->X.calm=true->∀(i:Nat) (pins:List (Addr×Obj)) (s:Shared) (σ:St) (H:Hp) (E:Value->Shared->Prop),Inv X pins σ H s->(∀b ∈ fp,U2 X pins H b)->tn i s.heap->J.go i H->
  wpAny (model P w) X.A (pyNext<|.ref it) (λr s1=>∃u,r=some u/\
   wpAny (model P w) X.A (letOwnedTupleGo tg (.ref it) u) (λ_ s2=>∃x H',Inv X pins σ H' s2/\RelV x u/\J.yld i H x H'/\tn (i+1) s2.heap/\∀b ∈ fp,H' b=none) E s1) E s
 done:∀(X:Cx),X.prog=P->X.w=w->X.K=K->X.calm=true->∀(i:Nat) (pins:List (Addr×Obj)) (s:Shared) (σ:St) (H:Hp) (E:Value->Shared->Prop),Inv X pins σ H s->(∀b ∈ fp,U2 X pins H b)->tn i s.heap->J.stop i H->
  wpAny (model P w) X.A (pyNext<|.ref it) (λr s1=>r=none/\Inv X pins σ H s1) E s
 self:∀(A:Around) (i:Nat) (s:Shared) (Q:Value->Shared->Prop) (E:Value->Shared->Prop),tn i s.heap->Q (.ref it) s->wpAny (model P w) A (pyIter<|.ref it) Q E s
abbrev TI:=St->Hp->(It->Hp->Prop)->Prop
def su(X:Cx)(pins:List (Addr×Obj))(σ:St)(tg:Expr)(R:It->Hp->Prop)(itv:Value)(s2:Shared):Prop:=
 ∃(it:Addr) (fp:List Addr) (tn:Nat->Heap->Prop) (J:It) (H':Hp),itv = .ref it/\Inv X pins σ H' s2/\Turn X.prog X.w X.K tg J fp it tn/\tn 0 s2.heap/\(∀b ∈ fp,U2 X pins H' b)/\R J H'
def PI(X:Cx)(tg iter:Expr)(wi:TI):Prop:=
 ∀(pins:List (Addr×Obj)) (s:Shared) (σ:St) (H:Hp) (R:It->Hp->Prop),Inv X pins σ H s->wi σ H R->
  wpAny (model X.prog X.w) X.A (eval iter X.env) (λv s1=>wpAny (model X.prog X.w) X.A (pyIter v) (su X pins σ tg R) X.xe s1) X.xe s
def Sq(ho:s.heap.get? it=some o)(hc:o.cls = .type n)(hd:o.data = .fields vs)
 (hn : ["enumerate","zip","dict_itemiterator","dict_reverseitemiterator","odict_iterator","itertools.zip_longest","itertools.pairwise"].contains n=false) (hQ:Q () s):wpAny M A (letOwnedTupleGo tg (.ref it) u) Q E s:=by
 cases tg<;>first
  |exact zxC hQ
  |(cases u<;>first
   |exact zxC hQ
   | (refine zxB (wpAny_load ho ?_)
      rw[hc,hd];show wpAny M A (if _=true then _ else _) Q E s;rw[if_neg (by intro h;rw[hn]at h;cases h)];exact zxC hQ))
def D5(K:zzA)(a:Addr):It:=
 ⟨λi H=>∃xs x,TX K H a xs/\xs[i]? = some x,λi H x H'=>H'=H/\∀xs,TX K H a xs->xs[i]? = some x,λi H=>∃xs,TX K H a xs/\xs.length<=i⟩
def uc(K:zzA)(a:Addr):It:=
 ⟨λi H=>∃xs x,Uk K H a xs/\xs[i]? = some x,λi H x H'=>H'=H/\∀xs,Uk K H a xs->xs[i]? = some x,λi H=>∃xs,Uk K H a xs/\xs.length<=i⟩
def D2(lo:Int)(n:Nat):It:=⟨λi _=>i<n,λi H x H'=>H'=H/\x = .int (lo+i),λi _=>n<=i⟩
def Be{P w K tg}(a it):Turn P w K tg (D5 K a) [it] it (λi h=>h.IsListIter it a i)where
 mem:=by simp
 obj:=λi h st b hb=>by
  have e:b=it:=by simpa using hb
  subst e;obtain⟨o,e,c,d⟩:=st;exact⟨o,e,λv z=>by rw[d]at z;cases z⟩
 keep:=λi h h' st k=>st.at λo e=>k it (by simp) o e
 item:=by
  intro X hP hw hK hc i pins s σ H E I hf st hg;subst hP hw hK;obtain⟨xs,x,hq,hx⟩:=hg;obtain⟨its,rv,p,hz⟩:=I.list hq;obtain⟨u,hu,ru⟩:=rv.get hx;obtain⟨f0,f1,f2,f3,f4,f5⟩:=hf it (by simp);refine wpAny_pyNext_list_item st p.isList (by simpa using hu) λh' st' sb=>?_;have I1:=I.turned (t':=s.toks) (λb o hb e=>(sb.2 b hb).trans e) f0 f1 f3 f4 f5;obtain⟨o,e,c,d⟩:=id st';exact⟨u,rfl,Sq e c d (by decide) ⟨x,H,I1,ru,⟨rfl,λys hy=>by rwa [I.list_inj hy hq]⟩,st',λb hb=>(hf b hb).1⟩⟩
 done:=by
  intro X hP hw hK hc i pins s σ H E I hf st hg;subst hP hw hK;obtain⟨xs,hq,hx⟩:=hg;obtain⟨its,rv,p,hz⟩:=I.list hq;obtain⟨f0,f1,f2,f3,f4,f5⟩:=hf it (by simp);have hl:=rv.length;exact wpAny_pyNext_list_end (I.ok.hd hc) st p.isList (by simp;omega) λh' eb=>⟨rfl,I.turned (t':=s.toks) (λb o hb e=>eb b o hb e) f0 f1 f3 f4 f5⟩
 self:=λ_ _ _ _ _ st h=>wpAny_pyIter_listiter st h
def MC{P w K tg}(a it):Turn P w K tg (uc K a) [it] it (λi h=>h.IsTupleIter it a i)where
 mem:=by simp
 obj:=λi h st b hb=>by
  have e:b=it:=by simpa using hb
  subst e;obtain⟨o,e,c,d⟩:=st;exact⟨o,e,λv z=>by rw[d]at z;cases z⟩
 keep:=λi h h' st k=>st.at λo e=>k it (by simp) o e
 item:=by
  intro X hP hw hK hc i pins s σ H E I hf st hg;subst hP hw hK;obtain⟨xs,x,hq,hx⟩:=hg;obtain⟨its,rv,p,hz⟩:=I.tuple hq;obtain⟨u,hu,ru⟩:=rv.get hx;obtain⟨f0,f1,f2,f3,f4,f5⟩:=hf it (by simp);refine wpAny_pyNext_tuple_item st (p) (by simpa using hu) λh' st' sb=>?_;have I1:=I.turned (t':=s.toks) (λb o hb e=>(sb.2 b hb).trans e) f0 f1 f3 f4 f5;obtain⟨o,e,c,d⟩:=id st';exact⟨u,rfl,Sq e c d (by decide) ⟨x,H,I1,ru,⟨rfl,λys hy=>by rwa [I.tuple_inj hy hq]⟩,st',λb hb=>(hf b hb).1⟩⟩
 done:=by
  intro X hP hw hK hc i pins s σ H E I hf st hg;subst hP hw hK;obtain⟨xs,hq,hx⟩:=hg;obtain⟨its,rv,p,hz⟩:=I.tuple hq;obtain⟨f0,f1,f2,f3,f4,f5⟩:=hf it (by simp);have hl:=rv.length;exact wpAny_pyNext_tuple_end (I.ok.hd hc) st (p) (by simp;omega) λh' eb=>⟨rfl,I.turned (t':=s.toks) (λb o hb e=>eb b o hb e) f0 f1 f3 f4 f5⟩
 self:=λ_ _ _ _ _ st h=>wpAny_pyIter_tupleiter st h
def En{P w K tg}(it)(lo)(n:Nat):Turn P w K tg (D2 lo n) [it] it (λi h=>IsRangeIter h it (lo+(i:Nat)*1) ((n:Int)-(i:Nat)) 1)where
 mem:=by simp
 obj:=λi h st b hb=>by
  have e:b=it:=by simpa using hb
  subst e;exact⟨_,st,λv z=>by
   have z':Data.fields _=Data.cell v:=z;cases z'⟩
 keep:=λi h h' st k=>k it (by simp) _ st
 item:=by
  intro X hP hw hK hc i pins s σ H E I hf st hg;subst hP hw hK;obtain⟨f0,f1,f2,f3,f4,f5⟩:=hf it (by simp);have W:=Walks.range (prog:=X.prog) (w:=X.w) (I.ok.hd hc) it lo 1 n;refine W.item i s _ _ hg st λv h' tk hv st' kk=>?_;obtain⟨t,rfl⟩:=hv;have I1:Inv X pins σ H {s with heap:=h',toks:=tk}:=I.turned (λb o hb e=>kk b o (by simpa using hb) e) f0 f1 f3 f4 f5;refine⟨_,rfl,Sq st' rfl rfl (by decide) ⟨.int _,H,I1,⟨t, ?_⟩,⟨rfl,rfl⟩,st',λb hb=>(hf b hb).1⟩⟩;rw[Int.mul_one]
 done:=by
  intro X hP hw hK hc i pins s σ H E I hf st hg;subst hP hw hK;obtain⟨f0,f1,f2,f3,f4,f5⟩:=hf it (by simp);exact wpAny_pyNext_range_end (I.ok.hd hc) st (by have:n<=i:=hg;omega) λh' eb=>⟨rfl,I.turned (t':=s.toks) (λb o hb e=>eb b o hb e) f0 f1 f3 f4 f5⟩
 self:=λ_ _ _ _ _ st h=>wpAny_pyIter_rangeiter st h
end L2
namespace L2
open PySem PySem.Spec PyProof.Rows
section
variable{X:Cx}{tg:Expr}
def A9(K:zzA)(tl:TE):TI:=λσ H R=>tl σ H λx H1=>∃a,x = .ref a/\(∃xs,TX K H1 a xs)/\R (D5 K a) H1
def uN(K:zzA)(tl:TE):TI:=λσ H R=>tl σ H λx H1=>∃a,x = .ref a/\(∃xs,Uk K H1 a xs)/\R (uc K a) H1
def LV{l tl}(hl:PE X l tl):PI X tg l (A9 X.K tl):=by
 intro pins s σ H R I h;refine xX (hl pins s σ H _ I h) λv s1 ⟨x,H1,I1,r1,q1⟩=>?_;obtain⟨a,e,⟨xs,hq⟩,q⟩:=q1;subst e;cases r1;obtain⟨its,rv,p,hz⟩:=I1.list hq;refine wpAny_pyIter_list p.isList ?_;refine⟨s1.heap.objs.size,[s1.heap.objs.size],_,_,H1,rfl,I1.kept (t':=s1.toks) λb o e=>zxD _ e,Be a _,⟨_,zxF _ rfl,rfl,rfl⟩,λb hb=>?_,q⟩;have e:b=s1.heap.objs.size:=by simpa using hb
 subst e;exact I1.fpOk (zzN _)<|I1.hok.fresh<|zzN _
def MO{l tl}(hl:PE X l tl):PI X tg l (uN X.K tl):=by
 intro pins s σ H R I h;refine xX (hl pins s σ H _ I h) λv s1 ⟨x,H1,I1,r1,q1⟩=>?_;obtain⟨a,e,⟨xs,hq⟩,q⟩:=q1;subst e;cases r1;obtain⟨its,rv,p,hz⟩:=I1.tuple hq;refine wpAny_pyIter_tuple (p) ?_;refine⟨s1.heap.objs.size,[s1.heap.objs.size],_,_,H1,rfl,I1.kept (t':=s1.toks) λb o e=>zxD _ e,MC a _,⟨_,zxF _ rfl,rfl,rfl⟩,λb hb=>?_,q⟩;have e:b=s1.heap.objs.size:=by simpa using hb
 subst e;exact I1.fpOk (zzN _)<|I1.hok.fresh<|zzN _
def SD{pins σ H s R E lo hi t u v}{tk:Nat}(I:Inv X pins σ H s)(h1 : -(2 ^ 62)<=lo)(h2:lo<2 ^ 62)(h3 : -(2 ^ 62)<=hi)(h4:hi<2 ^ 62)
 (q:R (D2 lo (hi-lo).toNat) H):wpAny (model X.prog X.w) X.A (pyIter<|.ref s.heap.objs.size) (su X pins σ tg R) E {s with heap:=s.heap.push {cls:=.type "range",data:=.fields #[.int lo t,.int hi u,.int 1 v]},toks:=tk}:=by
 refine wpAny_pyIter_range (IsRange.new ..) (small_one h1 h2 h3 h4) ?_;have I1:Inv X pins σ H {s with heap:=s.heap.push {cls:=.type "range",data:=.fields #[.int lo t,.int hi u,.int 1 v]},toks:=tk}:=I.kept λb o e=>zxD _ e;refine⟨(s.heap.push {cls:=.type "range",data:=.fields #[.int lo t,.int hi u,.int 1 v]}).objs.size,[(s.heap.push {cls:=.type "range",data:=.fields #[.int lo t,.int hi u,.int 1 v]}).objs.size],_,_,H,rfl,
  I1.kept (t':=tk) λb o e=>zxD _ e,En _ lo (hi-lo).toNat, ?_,λb hb=>?_,q⟩
 . have e1:lo+((0:Nat):Int)*1=lo:=by simp
   have e2:(((hi-lo).toNat:Nat):Int)-((0:Nat):Int)=Builtin.Range.rangeSize lo hi 1:=by rw[rangeSize_one];split<;>omega
   rw[e1,e2];exact zxF _ rfl
 . have e:b=(s.heap.push {cls:=.type "range",data:=.fields #[.int lo t,.int hi u,.int 1 v]}).objs.size:=by simpa using hb
   subst e;exact I1.fpOk (zzN _)<|I1.hok.fresh<|zzN _
def DK(ta:TA):TI:=λσ H R=>ta σ H λvs H1=>∃j:Int,vs=[.int j] /\ -(2 ^ 62)<=j/\j<2 ^ 62/\R (D2 0 j.toNat) H1
def GL{a ta p pos}(hg:Gl X "range")(hm:X.mg "range"=none)(ha:PA X [a] ta)(hs:starEach [a] X.env=[(false,eval a X.env)]:=by rfl):PI X tg (.Call (.Name "range" p) [a] [] pos) (DK ta):=by
 intro pins s σ H R I h;refine Call_<|Tn I hg hm boot_range<|PyProof.Rows.callWith_type1 (xX (ha pos pins s σ H _ I h) λus s1 ⟨vs,H1,I1,r1,q1⟩=>?_) hs rfl;obtain⟨j,e,q1,q2,q⟩:=q1;subst e;cases r1 with
 |cons r rr=>
  cases rr;obtain⟨t,rfl⟩:=r;exact call_range_1 (SD I1 (by omega) (by omega) q1 q2<|by simpa using q)
def uU(wi:TI)(g:TG)(tb:TS):TS:=λD σ H=>wi σ H λJ H1=>∃W:Nat->Nat->St->Hp->Prop,(∃m,W 0 m σ H1)/\∀i m σ H,W i m σ H->
 (J.stop i H/\D.nx σ H)\/(J.go i H/\∃N:St->Hp->Prop,(∀σ' H',N σ' H'->∃m',m'<m/\W (i+1) m' σ' H')/\∀x H',J.yld i H x H'->g x σ H' λσ2 H2=>tb {D with nx:=N,ct:=N,bk:=D.nx} σ2 H2)
def MB(fp:List Addr)(h:Heap):List (Addr×Obj):=fp.filterMap λb=>(h.get? b).map λo=>(b,o)
def YR(hb:b ∈ fp)(e:h.get? b=some o):(b,o) ∈ MB fp h:=List.mem_filterMap.mpr ⟨b,hb,by rw[e];rfl⟩
def Bc(hp:p ∈ MB fp h):p.1 ∈ fp/\h.get? p.1=some p.2:=by
 obtain⟨b,hb,e⟩:=List.mem_filterMap.mp hp;cases q:h.get? b with
 |none=>rw[q]at e;cases e
 |some o=>
  rw[q]at e;have e':_=p:=zzY e;subst e';exact⟨hb,q⟩
def Inv.pinned(I:Inv X pins σ H s)(hf:∀b ∈ fp,U2 X pins H b)(ho:∀b ∈ fp,∃o,s.heap.get? b=some o/\∀v,o.data ≠ .cell v):Inv X (pins++MB fp s.heap) σ H s:=
 I.pins_of λp hp=>(zzM.mp hp).elim (λz=>I.pin p<|zzL _ z) λz=>by
  obtain⟨hb,e⟩:=Bc z;obtain⟨f0,f1,f2,_⟩:=hf p.1 hb;obtain⟨o,e',d⟩:=ho p.1 hb;rw[e]at e';cases e';exact⟨e,f0,f1,f2,d⟩
def Inv.unpinned(I:Inv X (pins++pl) σ H s):Inv X pins σ H s:=I.pins_of λp hp=>I.pin p<|zzL _<|zzP _ hp
def Hi(hp:PassesOwn (model X.prog X.w) X.A X.env X.xe)(hc:X.calm=true)(hi:PI X tg iter wi)(hg:PG X tg g)(hb:L3 X body tb)
 (hs:∀x,foldedSetIterable iter X.env x=pure x:=by intro _;rfl):PS X (.For tg iter body [] pos) (uU wi g tb):=by
 intro pins s σ H D I h;refine wpAny_For (xX (hi pins s σ H _ I h) λv s1 h1=>xX h1 λitv s2 h2=>?_) hs;obtain⟨it,fp,tn,J,H2,e,I2,T,st2,f2,W,⟨m0,w0⟩,turn⟩:=h2;subst e;have stat:∀{H':Hp},(∀b ∈ fp,H' b=none)->∀b ∈ fp,U2 X pins H' b:=λhn b hb=>⟨hn b hb,(f2 b hb).2⟩;refine codeAny_forLoop_any (λn s'=>∃i σ' H',Inv X pins σ' H' s'/\tn i s'.heap/\(∀b ∈ fp,H' b=none)/\W i n σ' H') ?_ m0 ⟨0,σ,H2,I2,st2,λb hb=>(f2 b hb).1,w0⟩
 rintro n s3 ⟨i,σ3,H3,I3,st3,fr3,w3⟩
 rcases turn i n σ3 H3 w3 with⟨stop,qn⟩|⟨go,N,hN,step⟩
 . refine wpAny_passesOwn hp<|xX (T.done X rfl rfl rfl hc i pins s3 σ3 H3 X.xe I3 (stat fr3) st3 stop) λr s4 ⟨hr,I4⟩=>?_;subst hr;exact wpAny_execs_nil ⟨σ3,H3,I4,qn⟩
 . refine wpAny_passesOwn hp<|xX (T.item X rfl rfl rfl hc i pins s3 σ3 H3 X.xe I3 (stat fr3) st3 go) λr s4 ⟨u,hr,h4⟩=>?_;subst hr;refine wpAny_passesOwn hp<|xX h4 λ_ s5 ⟨x,H5,I5,r5,y5,st5,fr5⟩=>?_;have I5':=I5.pinned (stat fr5)<|T.obj _ _ st5;refine wpAny_passesOwn hp<|xX (hg _ s5 σ3 H5 x u _ I5' r5<|step x H5 y5) λ_ s6 ⟨σ6,H6,I6,q6⟩=>?_;refine wpAny_passesOwn hp<|xX (hb _ s6 σ6 H6 _ I6 q6) λf s7 q7=>?_;have again:∀{σ7:St}{H7:Hp},Inv X _ σ7 H7 s7->N σ7 H7->∃m,m<n/\∃i σ' H',Inv X pins σ' H' s7/\tn i s7.heap/\(∀b ∈ fp,H' b=none)/\W i m σ' H':=λ{σ7 H7} I7 n7=>by
    obtain⟨m',hm,w7⟩:=hN σ7 H7 n7;refine⟨m',hm,i+1,σ7,H7,I7.unpinned,T.keep _ _ _ st5 λb hb o e=>(I7.pin (b,o)<|zzL _<|zzL _<|YR hb e).1,λb hb=>?_,w7⟩;obtain⟨o,e,d⟩:=T.obj _ _ st5 b hb;exact(I7.pin (b,o)<|zzL _<|zzL _<|YR hb e).2.1
   cases f with
   |next=>obtain⟨σ7,H7,I7,n7⟩:=q7;exact again I7 n7
   |cont=>obtain⟨σ7,H7,I7,n7⟩:=q7;exact again I7 n7
   |brk=>obtain⟨σ7,H7,I7,q7⟩:=q7;exact⟨σ7,H7,I7.unpinned,q7⟩
   |ret v=>obtain⟨x7,σ7,H7,I7,r7,q7⟩:=q7;exact⟨x7,σ7,H7,I7.unpinned,r7,q7⟩
end
end L2
namespace L2
open PySem PySem.Spec PyProof.Rows
abbrev R2:=V->V->Hp->VK->Prop
def Uu(X:Cx)(f:Value->Value->Sem Value)(r:R2):Prop:=
 ∀(pins:List (Addr×Obj)) (s:Shared) (σ:St) (H:Hp) (x y:V) (v u:Value) (Q:VK),Inv X pins σ H s->RelV x v->RelV y u->r x y H Q->
  wpAny (model X.prog X.w) X.A (f v u) (EP X pins σ Q) X.xe s
def D8(X:Cx)(f:Value->Sem Value)(r:V->Hp->VK->Prop):Prop:=
 ∀(pins:List (Addr×Obj)) (s:Shared) (σ:St) (H:Hp) (x:V) (v:Value) (Q:VK),Inv X pins σ H s->RelV x v->r x H Q->
  wpAny (model X.prog X.w) X.A (f v) (EP X pins σ Q) X.xe s
def Vk(X:Cx)(f:Value)(r:List V->Hp->VK->Prop):Prop:=
 ∀(pins:List (Addr×Obj)) (s:Shared) (σ:St) (H:Hp) (xs:List V) (us:List Value) (Q:VK),Inv X pins σ H s->zM xs us->r xs H Q->
  wpAny (model X.prog X.w) X.A (call f us) (EP X pins σ Q) X.xe s
def uF(X:Cx)(r:V->Hp->(Bool->Hp->Prop)->Prop):Prop:=
 ∀(pins:List (Addr×Obj)) (s:Shared) (σ:St) (H:Hp) (x:V) (v:Value) (Q:Bool->Hp->Prop),Inv X pins σ H s->RelV x v->r x H Q->
  wpAny (model X.prog X.w) X.A (truthy v) (TP X pins σ Q) X.xe s
def DP(r:R2)(ta tb:TE):TE:=λσ H Q=>ta σ H λx H1=>tb σ H1 λy H2=>r x y H2 Q
def sD(r:V->Hp->VK->Prop)(ta:TE):TE:=λσ H Q=>ta σ H λx H1=>r x H1 Q
def rI(C:Int->Int->Prop)(g:Int->Int->V):R2:=λx y H Q=>∃i j,x = .int i/\y = .int j/\C i j/\Q (g i j) H
def CO(g:Int->Int->V):R2:=λx y H Q=>∃i j,x = .int i/\y = .int j/\Q (g i j) H
def rU(g:Int->V):V->Hp->VK->Prop:=λx H Q=>∃i,x = .int i/\Q (g i) H
section
variable{X:Cx}{a b c:Expr}{ta tb tc:TE}{pos:Pos}
def IH(ha:PE X a ta)(hb:PE X b tb){pins s σ H}{R:V->V->Hp->Prop}(I:Inv X pins σ H s)
 (h:ta σ H λx H1=>tb σ H1 λy H2=>R x y H2) {Q:Value->Shared->Prop}{f:Value->Value->Sem Value}
 (hf:∀v u s2 x y H2,Inv X pins σ H2 s2->RelV x v->RelV y u->R x y H2->wpAny (model X.prog X.w) X.A (f v u) Q X.xe s2):
 wpAny (model X.prog X.w) X.A (eval a X.env) (λv s₁=>wpAny (model X.prog X.w) X.A (eval b X.env) (λu s₂=>wpAny (model X.prog X.w) X.A (f v u) Q X.xe s₂) X.xe s₁) X.xe s:=by
 refine xX (ha pins s σ H _ I h) λv s1 ⟨x,H1,I1,r1,q1⟩=>?_;refine xX (hb pins s1 σ H1 _ I1 q1) λu s2 ⟨y,H2,I2,r2,q2⟩=>?_;exact hf v u s2 x y H2 I2 r1 r2 q2
def A4{op}{r:R2}(ho:Uu X (binaryOp op) r)(ha:PE X a ta)(hb:PE X b tb):PE X (.BinOp a op b pos) (DP r ta tb):=by
 intro pins s σ H Q I h;exact wpAny_BinOp<|IH ha hb I h λv u s2 x y H2 I2 rx ry q=>ho pins s2 σ H2 x y v u Q I2 rx ry q
def A0(ho:D8 X (unaryOp op) r)(ha:PE X a ta):PE X (.UnaryOp op a pos) (sD r ta):=by
 intro pins s σ H Q I h;exact UnaryOp_<|xX (ha pins s σ H _ I h) λv s1 ⟨x,H1,I1,r1,q1⟩=>ho pins s1 σ H1 x v Q I1 r1 q1
def uX{f C}{g:Int->Int->Int}
 (rule:∀(i j:Int) (t u:Tok) (s:Shared) (Q:Value->Shared->Prop) (E:Value->Shared->Prop),C i j->Q (.int (g i j) s.toks) {s with toks:=s.toks+1}->wpAny (model X.prog X.w) X.A (f (.int i t)<|.int j u) Q E s):
 Uu X f (rI C λi j=>.int<|g i j):=by
 intro pins s σ H x y v u Q I rx ry h;obtain⟨i,j,rfl,rfl,hc,q⟩:=h;obtain⟨t,rfl⟩:=rx;obtain⟨t',rfl⟩:=ry;exact rule i j t t' s _ _ hc ⟨.int _,H,I.tok _,⟨_,rfl⟩,q⟩
def Do{f}{g:Int->Int->Int}
 (rule:∀(i j:Int) (t u:Tok) (s:Shared) (Q:Value->Shared->Prop) (E:Value->Shared->Prop),Q (.int (g i j) s.toks) {s with toks:=s.toks+1}->wpAny (model X.prog X.w) X.A (f (.int i t)<|.int j u) Q E s):
 Uu X f (CO λi j=>.int<|g i j):=by
 intro pins s σ H x y v u Q I rx ry h;obtain⟨i,j,rfl,rfl,q⟩:=h;obtain⟨t,rfl⟩:=rx;obtain⟨t',rfl⟩:=ry;exact rule i j t t' s _ _ ⟨.int _,H,I.tok _,⟨_,rfl⟩,q⟩
def Os{f}{g:Int->Int->Bool}
 (rule:∀(i j:Int) (t u:Tok) (s:Shared) (Q:Value->Shared->Prop) (E:Value->Shared->Prop),Q (.bool<|g i j) s->wpAny (model X.prog X.w) X.A (f (.int i t)<|.int j u) Q E s):
 Uu X f (CO λi j=>.bl<|g i j):=by
 intro pins s σ H x y v u Q I rx ry h;obtain⟨i,j,rfl,rfl,q⟩:=h;obtain⟨t,rfl⟩:=rx;obtain⟨t',rfl⟩:=ry;exact rule i j t t' s _ _ ⟨.bl _,H,I,rfl,q⟩
def DA(i j:Int):Prop:=0<=j/\j<=1000000/\i.natAbs<2 ^ 64
def MW:Uu X (binaryOp .Add) (CO λi j=>.int<|i+j):=Do λ_ _ _ _ _ _ _ q=>add_int q
def JL:Uu X (binaryOp .Sub) (CO λi j=>.int<|i-j):=Do λ_ _ _ _ _ _ _ q=>sub_int q
def Jf:Uu X (binaryOp .Mod) (rI (λ_ j=>0<j) λi j=>.int<|i%j):=uX λi j _ _ _ _ _ hc q=>mod_int' (by omega) (by rwa [Int.fmod_eq_emod_of_nonneg i<|by omega])
def J7:Uu X (binaryOp .Pow) (rI DA λi j=>.int<|i ^ j.toNat):=uX λ_ _ _ _ _ _ _ hc q=>pow_int_small hc.1 hc.2.1 hc.2.2 q
def Ab:Uu X (binaryOp .LShift) (rI DA λi j=>.int<|i*2 ^ j.toNat):=uX λ_ _ _ _ _ _ _ hc q=>lshift_int_small hc.1 hc.2.1 hc.2.2 q
def rd{f}{g:Int->Int}
 (rule:∀(i:Int) (t:Tok) (s:Shared) (Q:Value->Shared->Prop) (E:Value->Shared->Prop),Q (.int (g i) s.toks) {s with toks:=s.toks+1}->wpAny (model X.prog X.w) X.A (f<|.int i t) Q E s):
 D8 X f (rU λi=>.int<|g i):=by
 intro pins s σ H x v Q I rx h;obtain⟨i,rfl,q⟩:=h;obtain⟨t,rfl⟩:=rx;exact rule i t s _ _ ⟨.int _,H,I.tok _,⟨_,rfl⟩,q⟩
def Jq:D8 X (unaryOp .USub) (rU λi=>.int (-i)):=rd λ_ _ _ _ _ q=>neg_int q
end
section
variable{X:Cx}{a b c:Expr}{ta tb tc:TE}{pos:Pos}
def xC(I:Inv X pins σ H s)(q:Q (.bl k) H)(e:k=k'):EP X pins σ Q (.bool k') s:=by
 subst e;exact⟨.bl k,H,I,rfl,q⟩
def A3:Uu X (compareOp .Lt) (CO λi j=>.bl<|decide (i<j)):=Os λ_ _ _ _ _ _ _ q=>lt_int q
def AV:Uu X (compareOp .LtE) (CO λi j=>.bl<|decide (i<=j)):=Os λ_ _ _ _ _ _ _ q=>le_int q
def D0:Uu X (compareOp .Gt) (CO λi j=>.bl<|decide (j<i)):=Os λ_ _ _ _ _ _ _ q=>gt_int q
def Av:Uu X (compareOp .GtE) (CO λi j=>.bl<|decide (j<=i)):=Os λ_ _ _ _ _ _ _ q=>ge_int q
def Bu:Uu X (compareOp .In) (λx y H Q=>∃i j,x = .str i/\y = .str j/\Q (.bl<|!(Builtin.Str.occurrences j i 0 j.length 1).isEmpty) H):=by
 intro pins s σ H x y v u Q I rx ry h;obtain⟨i,j,rfl,rfl,q⟩:=h;obtain⟨t,rfl⟩:=rx;obtain⟨t',rfl⟩:=ry;exact in_str<|xC I q rfl
def JW:Uu X (compareOp .Is) (λx y H Q=>y = .non/\Q (.bl<|decide (x = .non)) H):=by
 intro pins s σ H x y v u Q I rx ry h;obtain⟨rfl,q⟩:=h;cases ry;refine is_none_gen<|xC I q ?_;cases x<;>first
  |(cases rx;rfl)
  |(obtain⟨t,rfl⟩:=rx;rfl)
def OG:Uu X (compareOp .IsNot) (λx y H Q=>y = .non/\Q (.bl<|!decide (x = .non)) H):=by
 intro pins s σ H x y v u Q I rx ry h;obtain⟨rfl,q⟩:=h;cases ry;refine isnot_none_gen<|xC I q ?_;cases x<;>first
  |(cases rx;rfl)
  |(obtain⟨t,rfl⟩:=rx;rfl)
def KF:Uu X (compareOp .NotIn) (λx y H Q=>∃i j,x = .str i/\y = .str j/\Q (.bl<|!(!(Builtin.Str.occurrences j i 0 j.length 1).isEmpty)) H):=by
 intro pins s σ H x y v u Q I rx ry h;obtain⟨i,j,rfl,rfl,q⟩:=h;obtain⟨t,rfl⟩:=rx;obtain⟨t',rfl⟩:=ry;exact notIn_str<|xC I q rfl
def Si(b)(h:op ≠ .In:=by decide)(h2:op ≠ .NotIn:=by decide):behindInMarks op b=false:=by
 have e1:(op==CmpOp.In)=false:=by cases op<;>first|rfl|exact absurd rfl h
 have e2:(op==CmpOp.NotIn)=false:=by cases op<;>first|rfl|exact absurd rfl h2
 cases b<;>simp[behindInMarks,e1,e2]
def OB{op}{r:R2}(ho:Uu X (compareOp op) r)(ha:PE X a ta)(hb:PE X b tb)(hm:behindInMarks op b=false):PE X (.Compare a [op] [b] pos) (DP r ta tb):=by
 intro pins s σ H Q I h;exact wpAny_Compare1 (IH ha hb I h λv u s2 x y H2 I2 rx ry q=>ho pins s2 σ H2 x y v u Q I2 rx ry q) hm
def Dv(t:TE):TT:=λσ H Q=>t σ H λx H'=>∃k,x = .bl k/\Q k H'
def Ow(ho:Uu X (compareOp op) r)(ha:PE X a ta)(hb:PE X b tb)(hm:behindInMarks op b=false):PT X (.Compare a [op] [b] pos) (Dv<|DP r ta tb):=by
 intro pins s σ H Q I h;refine wpAny_isTrue_Compare1 (xX (ha pins s σ H _ I h) λv s1 ⟨x,H1,I1,r1,q1⟩=>xX (hb pins s1 σ H1 _ I1 q1) λu s2 ⟨y,H2,I2,r2,q2⟩=>
  xX (ho pins s2 σ H2 x y v u _ I2 r1 r2 q2) λc s3 ⟨z,H3,I3,r3,k,e,q3⟩=>?_) hm
 subst e;cases r3;exact wpAny_truthy_bool ⟨H3,I3,q3⟩
def Il(K:zzA)(x:V)(H:Hp)(k:Bool):Prop:=
 match x with
 | .non=>k=false
 | .bl b=>k=b
 | .int i=>k=(i != 0)
 | .str y=>y.length<=sizeLine/\k=((y.length:Int) != 0)
 | .byt y=>y.size<=sizeLine/\k=((y.size:Int) != 0)
 | .ref p=>(∃xs,TX K H p xs/\k = !xs.isEmpty)\/(∃xs,Uk K H p xs/\k = !xs.isEmpty)\/∃kvs,H p=some (.dK kvs)/\k = !kvs.isEmpty
 |_=>False
def Ei(r:KV kvs vs):(!vs.isEmpty) = !kvs.isEmpty:=by
 cases r<;>rfl
def RA(r:zM xs its):(!its.toArray.isEmpty) = !xs.isEmpty:=by
 cases r<;>simp
def QX:(sizeLine:Nat)<2 ^ 63:=by decide
def Ag:uF X (λx H Q=>∃k,Il X.K x H k/\Q k H):=by
 intro pins s σ H x v Q I rx h;obtain⟨k,e,q⟩:=h;have hl:=QX;have hs:=sizeLine_eq;cases x with
 |non=>
  cases rx;have e':k=false:=e;subst e';exact truthy_none ⟨H,I,q⟩
 |bl b=>
  cases rx;have e':k=b:=e;subst e';exact wpAny_truthy_bool ⟨H,I,q⟩
 |int i=>
  obtain⟨t,rfl⟩:=rx;have e':k=(i != 0):=e;subst e';exact PySem.P.truthy_int ⟨H,I,q⟩
 |str y=>
  obtain⟨t,rfl⟩:=rx;obtain⟨hy,e'⟩:y.length<=sizeLine/\k=_:=e;subst e';exact PySem.P.truthy_str (by omega) ⟨H,I.tok _,q⟩
 |byt y=>
  obtain⟨t,rfl⟩:=rx;obtain⟨hy,e'⟩:y.size<=sizeLine/\k=_:=e;subst e';exact W.truthy_bytes (by omega) ⟨H,I.tok _,q⟩
 |ref p=>
  cases rx;have e':_\/_\/∃kvs,H p=some (.dK kvs)/\k = !kvs.isEmpty:=e
  rcases e' with⟨xs,hx,e'⟩|⟨xs,hx,e'⟩|⟨kvs,hx,e'⟩
  . subst e';obtain⟨its,r,pl,hz⟩:=I.list hx;have hlen:=r.length;exact wpAny_truthy_list pl.isList (by simp only[zzH];omega) ⟨H,I.tok _,by rw[RA r];exact q⟩
  . subst e';obtain⟨its,r,pl,hz⟩:=I.tuple hx;have hlen:=r.length;exact truthy_tuple pl (by simp only[zzH];omega) ⟨H,I.tok _,by rw[RA r];exact q⟩
  . subst e';obtain⟨hz,hS,vs,r,m⟩:kvs.length<=sizeLine/\_=false/\∃vs,KV kvs vs/\s.heap.DictOf _ p vs:=I.hok p _ hx;have hlen:=Paired.length r;exact wpAny_truthy_dict hS m (by omega) ⟨H,I.tok _,by rw[Ei r];exact q⟩
 |_=>exact(e).elim
def Sy(ha:PE X a ta)(he:∀whole,isTrue a X.env whole=(do let v <-whole;standAt a.pos;holding [v] (truthy v))):
 PT X a (λσ H Q=>ta σ H λx H'=>∃k,Il X.K x H' k/\Q k H'):=by
 intro pins s σ H Q I h;exact isTrue_plain (xX (ha pins s σ H _ I h) λv s1 ⟨x,H1,I1,r1,q1⟩=>Ag pins s1 σ H1 x v Q I1 r1 q1)<|he _
def MS:Uu X (binaryOp .Add) (λx y H Q=>∃i j,x = .str i/\y = .str j/\i.length+j.length<=sizeLine/\Q (.str<|i++j) H):=by
 intro pins s σ H x y v u Q I rx ry h;obtain⟨i,j,rfl,rfl,hz,q⟩:=h;obtain⟨t,rfl⟩:=rx;obtain⟨t',rfl⟩:=ry;exact add_str (λt' tk=>⟨.str _,H,I.tok _,⟨_,rfl⟩,q⟩) hz
def vals1(r:zM [x] us):∃u,us=[u]/\RelV x u:=by
 cases r with
 |cons r1 r2=>cases r2;exact⟨_,rfl,r1⟩
def vals2(r:zM [x,y] us):∃u w',us=[u,w']/\RelV x u/\RelV y w':=by
 cases r with
 |cons r1 r2=>
  cases r2 with
  |cons r3 r4=>cases r4;exact⟨_,_,rfl,r1,r3⟩
def S6:Vk X (.builtin "abs") (λxs H Q=>∃i,xs=[.int i]/\Q (.int (if i<0 then -i else i)) H):=by
 intro pins s σ H xs us Q I r h;obtain⟨i,rfl,q⟩:=h;obtain⟨u,rfl,t,rfl⟩:=vals1 r;exact call_abs_int λu tk=>⟨.int _,H,I.tok _,⟨_,rfl⟩,q⟩
def Bj(hc:X.calm=true):Vk X (.builtin "max") (λxs H Q=>∃i j,xs=[.int i,.int j]/\Q (.int (if j > i then j else i)) H):=by
 intro pins s σ H xs us Q I r h;obtain⟨i,j,rfl,q⟩:=h;obtain⟨u,w',rfl,⟨t,rfl⟩,⟨t',rfl⟩⟩:=vals2 r;refine max_two_ints (I.ok.hd hc) λh' tk k=>⟨_,H,I.kept k, ?_,q⟩
 by_cases hj:j > i
 . rw[if_pos hj,if_pos hj];exact⟨_,rfl⟩
 . rw[if_neg hj,if_neg hj];exact⟨_,rfl⟩
def Bm(hc:X.calm=true):Vk X (.builtin "min") (λxs H Q=>∃i j,xs=[.int i,.int j]/\Q (.int (if j<i then j else i)) H):=by
 intro pins s σ H xs us Q I r h;obtain⟨i,j,rfl,q⟩:=h;obtain⟨u,w',rfl,⟨t,rfl⟩,⟨t',rfl⟩⟩:=vals2 r;refine min_two_ints (I.ok.hd hc) λh' tk k=>⟨_,H,I.kept k, ?_,q⟩
 by_cases hj:j<i
 . rw[if_pos hj,if_pos hj];exact⟨_,rfl⟩
 . rw[if_neg hj,if_neg hj];exact⟨_,rfl⟩
end
end L2
namespace L2
open PySem PySem.Spec PyProof.Rows
structure ObjM(h:Heap)(x dx C:Addr)(mA:Str->Option Value):Prop where
 obj:h.get? x=some (W.instObj C dx)
 ns:h.Ns1 dx mA
 ne:dx≠x
def Br{h:Heap}{dx mA}(n:h.Ns1 dx mA):∃od,h.get? dx=some od/\∀name,W.lookIn name od=some (mA name):=by
 obtain⟨o,es,ep,ho,hd,hk,_,hm⟩:=n;refine⟨o,ho,λname=>?_⟩;have e:=hm name;unfold nsFind findBy at e;rw[<-Array.find?_toList]at e;unfold W.lookIn;rw[hd];dsimp only
 split
 . rename_i y q;rw[q]at e;exact congrArg some e
 . rename_i q;rw[q]at e;have a:es.toList.any (·.refKey)=false:=by
    rw[List.any_eq_false];intro y hy;obtain⟨z,t,hkey⟩:=hk y<|Array.mem_toList_iff.mp hy;simp[DictEntry.refKey,hkey]
   have a':¬es.toList.any (·.refKey)=true:=by rw[a];exact zyT
   rw[if_neg a'];exact congrArg some e
def ObjM.look(I:ObjM h x dx C mA):∃od,PySem.W.InstAt h x (W.instObj C dx) C (some od)/\∀name,W.lookIn name od=some (mA name):=
 let⟨od,ho,hl⟩:=Br I.ns
 ⟨od,⟨I.obj,rfl,rfl,ho⟩,hl⟩
section
variable{prog:Program}{w:World}{A:Around}{E:Value->Shared->Prop}{s:Shared}{K:zzA}{x dx C f:Addr}{mA:Str->Option Value}{name:Str}{v:Value}
def OD(X:K.In s.heap)(I:ObjM s.heap x dx C mA)(hg:W.plainGet K C name=true)(hh:W.hasDictIn K C=true)
 (ha:W.findIn K (.ref C) name=some none) (hv:mA name=some v) (hv':W.handedIn v=true) (h:Q v {s with toks:=s.toks+1}):
 wpAny (model prog w) A (getAttr (.ref x) name expr) Q E s:=by
 obtain⟨od,J,hl⟩:=I.look;exact W.get_value X J (W.plainGet_of hg).1 (W.findObj_own hh ha rfl<|by rw[hl,hv]) hv' h
def Hn(X:K.In s.heap)(I:ObjM s.heap x dx C mA)(hg:W.plainGet K C name=true)
 (hf:W.findIn K (.ref C) name=some (some<|.ref f)) (ht:W.isFn K (.ref f)=true) (hv:mA name=none) (h:Q (.ref f,[.ref x]) s):
 wpAny (model prog w) A (getMethod (.ref x) name pl) Q E s:=by
 obtain⟨od,J,hl⟩:=I.look;exact W.method_fn X J (W.plainGet_of hg).1 (W.plainGet_of hg).2 hf (beq_iff_eq.mp ht) (by show(W.lookIn name od).map _=_;rw[hl,hv];rfl) h
def HP(X:K.In s.heap)(I:ObjM s.heap x dx C mA)
 (hs:W.findIn K (.ref C) "__setattr__"=some (some<|.builtin "object.__setattr__")) (hp:W.plainOver K C=true) (ht:W.takerIn K C name=some none) (hh:W.hasDictIn K C=true)
 (hw:PySem.Within mA ns) (hsz:ns.length<=sizeLine)
 (h:∀h',ObjM h' x dx C (λy=>if y=name then some v else mA y)->Heap.SameBut dx s.heap h'->Q () {s with heap:=h',toks:=s.toks+2}):
 wpAny (model prog w) A (setAttr (.ref x) name v) Q E s:=by
 obtain⟨od,J,hl⟩:=I.look;refine W.set_plain X J hs<|W.osa_open X J hp ht λb=>?_;obtain⟨cd,hc,hd'⟩:=W.any_some hh;have hx:=I.obj;refine zxB<|zxC<|zxB<|zxB<|wpAny_loadPart hx<|zxB<|PySem.W.Looks.here (W.looks_clsIn X hc) ?_;rw[hd'];refine zxC<|zxB<|zxC<|zxB ?_;refine wpAny_nsSet1 I.ns λh' hn2 hs2=>?_;obtain⟨oD,esD,epD,hoD,hdD,hcD⟩:=hn2.count<|PySem.Within.cons name v hw;refine zxB<|wpAny_lookBehind hoD (by rw[hdD];exact pastItsLine_dict<|zzO hcD<|by rw[zzT];omega) ?_;exact zxC<|h _ ⟨(hs2.2 _<|Ne.symm I.ne).trans I.obj,hn2,I.ne⟩ hs2
def SH(X:K.In s.heap)(hm:W.makesIn K C=true)
 (hi:W.findIn K (.ref C) "__init__"=some (some<|.ref f)) (hf:W.typeIn K (.ref f)=some (.type "function"))
 (h:codeAny (model prog w) (A.under<|.builtin "type.__call__" ⟨.ref C::vs,kw⟩) (.call (.ref f) ⟨.ref (s.heap.objs.size+1)::vs,kw⟩) (PySem.W.InitBack (s.heap.objs.size+1) R)
  {s with heap:=(s.heap.push W.emptyDict).push (W.instObj C s.heap.objs.size)}):
 codeAny (model prog w) A (.call (.ref C) ⟨vs,kw⟩) R s:=W.make_core (W.makes_of X hm) (W.looks_findIn X hi) (λself=>W.bind_fn X self hf) (.inl rfl) h
end
def X4(f:Str)(v:V):List (Str×V)->List (Str×V)
 | []=>[(f,v)]
 |(g,x)::r=>if g=f then(g,v)::r else(g,x)::X4 f v r
theorem UP(f g)(v):∀fs:List (Str×V),(X4 f v fs).lookup g=if g=f then some v else fs.lookup g
 | []=>by
  show List.lookup g [_]=_
  by_cases h:g=f
  . have hb:=beq_iff_eq.mpr h;simp only[List.lookup,hb,if_pos h]
  . have hb:=beq_eq_false_iff_ne.mpr h;simp only[List.lookup,hb,if_neg h]
 |(k,x)::r=>by
  have ih:=UP f g v r;rw[show X4 f v _=(if k=f then _::r else _::X4 f v r)from rfl]
  by_cases hk:k=f
  . rw[if_pos hk]
    by_cases h:g=k
    . have hb:=beq_iff_eq.mpr h;simp only[List.lookup,hb,if_pos<|h.trans hk]
    . have hb:=beq_eq_false_iff_ne.mpr h;simp only[List.lookup,hb,if_neg (λe:g=f=>h<|e.trans hk.symm)]
  . rw[if_neg hk]
    by_cases h:g=k
    . have hb:=beq_iff_eq.mpr h;simp only[List.lookup,hb,if_neg (λe:g=f=>hk<|h.symm.trans e)]
    . have hb:=beq_eq_false_iff_ne.mpr h;simp only[List.lookup,hb];exact ih
theorem QS(f)(v):∀fs:List (Str×V),f ∈ (X4 f v fs).map (·.1)/\∀g,g ∈ fs.map (·.1)->g ∈ (X4 f v fs).map (·.1)
 | []=>⟨by simp[X4],λg h=>by simp at h⟩
 |(k,x)::r=>by
  obtain⟨i1,i2⟩:=QS f v r;rw[show X4 f v _=(if k=f then _::r else _::X4 f v r)from rfl]
  by_cases hk:k=f
  . rw[if_pos hk];subst hk;exact⟨by simp,λg h=>by simpa using h⟩
  . rw[if_neg hk];refine⟨?_,λg h=>?_⟩
    . rw[zyQ];exact zzD _ i1
    . rw[zyQ]at h ⊢
      rcases zzC.mp h with e|e
      . exact zzC.mpr<|.inl e
      . exact zzD _<|i2 g e
theorem US(f)(v):∀fs:List (Str×V),(X4 f v fs).length<=fs.length+1
 | []=>by simp[X4]
 |(k,x)::r=>by
  have ih:=US f v r;rw[show X4 f v _=(if k=f then _::r else _::X4 f v r)from rfl]
  by_cases hk:k=f
  . rw[if_pos hk,zzT,zzT];omega
  . rw[if_neg hk,zzT,zzT];omega
def Qt.some_of(r:Qt (some v) o):∃u,o=some u/\RelV v u:=by
 cases o with
 |none=>exact(r).elim
 |some u=>exact⟨u,rfl,r⟩
def Qt.none_of(r:Qt none o):o=none:=by
 cases o with
 |none=>rfl
 |some u=>exact(r).elim
def Bv(r:RelV v u):W.handedIn u=true:=by
 cases v with
 |non=>cases(r);rfl
 |bl b=>cases(r);rfl
 |int i=>obtain⟨t,e⟩:=(r);cases e;rfl
 |str x=>obtain⟨t,e⟩:=(r);cases e;rfl
 |byt b=>obtain⟨t,e⟩:=(r);cases e;rfl
 |flt b=>obtain⟨t,e⟩:=(r);cases e;rfl
 |ref a=>cases(r);rfl
 |ty n=>cases(r);rfl
section
variable{P:Program}{w:World}{H H':Hp}{h h':Heap}{a C dx:Addr}{fs fs':List (Str×V)}
def K5(hok:UQ P w H h)(e:H a=some (.ins C dx fs)):∃mA,ObjM h a dx C mA/\(∀f,Qt (fs.lookup f)<|mA f)/\PySem.Within mA (fs.map (·.1))/\fs.length<=1000/\H dx=some (.own a):=by
 obtain⟨d,z,ne,ob,mA,n,r,q⟩:=(hok a _ e);exact⟨mA,⟨ob,n,ne⟩,r,q,z,d⟩
end
structure Cls(K:zzA)(C:Addr):Prop where
 pg:W.plainGet K C Str.empty=true
 hd:W.hasDictIn K C=true
 po:W.plainOver K C=true
 sa:W.findIn K (.ref C) "__setattr__"=some (some<|.builtin "object.__setattr__")
def Cls.get{K C}(c:Cls K C)(f):W.plainGet K C f=true:=c.pg
def yS(K:zzA)(C:Addr)(f:Str):Prop:=W.findIn K (.ref C) f=some none
def yS.taker{K C f}(n:yS K C f):W.takerIn K C f=some none:=by
 unfold W.takerIn;rw[show W.findIn K _ f=some none from n];rfl
structure Meth(K:zzA)(C:Addr)(m:Str)(f:Addr):Prop where
 at_:W.findIn K (.ref C) m=some (some<|.ref f)
 fn:W.isFn K (.ref f)=true
 kp:W.keepIn K (.ref f)=true
section
variable{X:Cx}{pins:List (Addr×Obj)}{σ:St}{H:Hp}{s:Shared}{a C dx:Addr}{fs:List (Str×V)}{f:Str}{v:V}{A:Around}{E:Value->Shared->Prop}
def My(I:Inv X pins σ H s)(e:H a=some (.ins C dx fs))(c:Cls X.K C)(n:yS X.K C f)(l:fs.lookup f=some v)
 (h:∀u s',Inv X pins σ H s'->RelV v u->Q u s'):wpAny (model X.prog X.w) A (getAttr (.ref a) f b) Q E s:=by
 obtain⟨mA,O,r,_,_,_⟩:=K5 I.hok e;obtain⟨u,hu,ru⟩:=Qt.some_of (by rw[<-l];exact r f);exact OD I.kIn O (c.get f) c.hd n hu (Bv ru)<|h u _ (I.tok _) ru
def RL(I:Inv X pins σ H s)(e:H a=some (.ins C dx fs))(c:Cls X.K C)(k:Meth X.K C m g)(l:fs.lookup m=none)
 (h:Q (.ref g,[.ref a]) s):wpAny (model X.prog X.w) A (getMethod (.ref a) m pl) Q E s:=by
 obtain⟨mA,O,r,_,_,_⟩:=K5 I.hok e;have hn:=Qt.none_of (by rw[<-l];exact r m);exact Hn I.kIn O (c.get m) k.at_ k.fn hn h
def ME(I:Inv X pins σ H s)(e:H a=some (.ins C dx fs))(c:Cls X.K C)(n:yS X.K C f)(hl:fs.length<1000)(ry:RelV y u)
 (h:∀s',Inv X pins σ (upd H a<|.ins C dx<|X4 f y fs) s'->Q () s'):wpAny (model X.prog X.w) A (setAttr (.ref a) f u) Q E s:=by
 obtain⟨mA,O,r,wi,_,ho⟩:=K5 I.hok e;have hz:(fs.map (·.1)).length<=sizeLine:=by rw[zzB,sizeLine_eq];omega
 refine HP I.kIn O c.sa c.po n.taker c.hd wi hz λh' O' sb=>h _ ?_;have hd:∃o,h'.get? dx=some o:=let⟨o,_,_,e',_⟩:=O'.ns;⟨o,e'⟩;refine I.write (by rw[e];exact True.intro) (.inr ho) (λb q hb z=>(sb.2 b hb).trans z) hd ?_;refine⟨by rw[zH O.ne];exact ho, ?_,O.ne,O'.obj,_,O'.ns,λg=>?_,λg hg=>?_⟩
 . have:=US f y fs;omega
 . show Qt _ _;rw[UP]
   by_cases q:g=f
   . rwa [if_pos q,if_pos q]
   . rw[if_neg q,if_neg q];exact r g
 . by_cases q:g=f
   . rw[q];exact(QS f y fs).1
   . refine(QS f y fs).2 g<|wi g λz=>hg ?_;show(if g=f then some u else mA g)=_
     rwa [if_neg q]
def Inv.made(I:Inv X pins σ H s):Inv X pins σ (upd (upd H s.heap.objs.size<|.own<|s.heap.objs.size+1) (s.heap.objs.size+1)<|.ins C s.heap.objs.size [])
 {s with heap:=(s.heap.push W.emptyDict).push (W.instObj C s.heap.objs.size)}:=by
 have e1:(s.heap.push W.emptyDict).get? s.heap.objs.size=some W.emptyDict:=zxF s.heap rfl;have e2:((s.heap.push W.emptyDict).push<|W.instObj C s.heap.objs.size).get? (s.heap.objs.size+1)=some (W.instObj C s.heap.objs.size):=by
  have:=zxF (s.heap.push W.emptyDict) (o:=W.instObj C s.heap.objs.size) rfl
  rwa [zxH]at this
 have e3:(s.heap.push W.emptyDict).Ns s.heap.objs.size _:=⟨W.emptyDict,#[],_,e1,rfl,(λe he=>absurd he<|by simp),λ_=>rfl⟩;have I1:=I.laid (o:=.own<|s.heap.objs.size+1) (h':=s.heap.push W.emptyDict) (t':=s.toks) (λb u q=>zxD _ q) (zzN _) ⟨_,e1⟩;refine I1.laid (t':=s.toks) (λb u q=>zxD _ q) (Nat.le_of_eq<|zxH _ _) ?_;have ne:s.heap.objs.size≠s.heap.objs.size+1:=zzQ<|Nat.lt_succ_self _;refine⟨by rw[zH ne,yn],Nat.zero_le _,ne,e2,λ_=>none,(Heap.Ns1.of_empty e3).at λo q=>zxD _ q,λ_=>True.intro,λy hy=>absurd rfl hy⟩
def O3(hb:attributeBase e f env (eval e env)=eval e env)
 (h:wpAny (model prog w) A (eval e env) (λo s₁=>wpAny (model prog w) A (getAttr o f true) Q E s₁) E s):wpAny (model prog w) A (eval (.Attribute e f pos) env) Q E s:=
 Attribute_any_ h (by rw[arm_eval_Attribute,hb])
end
def tN(K:zzA)(ta:TE)(f:Str):TE:=λσ H Q=>ta σ H λx H1=>∃a C dx fs v,x = .ref a/\H1 a=some (.ins C dx fs)/\Cls K C/\yS K C f/\fs.lookup f=some v/\Q v H1
def uL(K:zzA)(ta tv:TE)(f:Str):TS:=λD σ H=>tv σ H λy H1=>ta σ H1 λx H2=>∃a C dx fs,x = .ref a/\H2 a=some (.ins C dx fs)/\Cls K C/\yS K C f/\fs.length<1000/\
 D.nx σ (upd H2 a<|.ins C dx<|X4 f y fs)
section
variable{X:Cx}{o e value:Expr}{f:Str}{pos pos' tpos:Pos}{ta tv:TE}
def Ja(he:PE X e ta)(hb:attributeBase e f X.env (eval e X.env)=eval e X.env):PE X (.Attribute e f pos) (tN X.K ta f):=by
 intro pins s σ H Q I h;refine O3 hb<|xX (he pins s σ H _ I h) λu s1 hq0=>?_;obtain⟨x,H1,I1,rx,a,C,dx,fs,v,ex,ea,c,n,l,q⟩:=hq0;subst ex;obtain rfl:u=Value.ref a:=rx;exact My I1 ea c n l λu' s2 I2 ru=>⟨v,H1,I2,ru,q⟩
def Io(ha:PE X o ta)(hv:PE X value tv)(hs:swapsWith value (some<|.Attribute o f pos') pos.line X.env=pure false):PS X (.Assign [.Attribute o f pos'] value pos) (uL X.K ta tv f):=by
 intro pins s σ H D I h;refine plainObj_wpAny_Assign_Attribute (xX (hv pins s σ H _ I h) λu s1 ⟨y,H1,I1,ry,q⟩=>xX (ha pins s1 σ H1 _ I1 q) λov s2 hq0=>?_) hs;obtain⟨x,H2,I2,rx,a,C,dx,fs,ex,ea,c,n,l,q2⟩:=hq0;subst ex;obtain rfl:ov=Value.ref a:=rx;exact ME I2 ea c n l ry λs3 I3=>⟨σ,_,I3,q2⟩
end
section
variable{X:Cx}{pins:List (Addr×Obj)}{σ:St}{H:Hp}{s:Shared}{A:Around}{E:Value->Shared->Prop}{Q:Value->Shared->Prop}{c:Value}{b:Bool}
inductive TyOf(K:zzA)(H:Hp):V->Value->Prop where
 |non:TyOf K H .non (.type "NoneType")
 |bl (x:Bool):TyOf K H (.bl x) (.type "bool")
 |int (i:Int):TyOf K H (.int i) (.type "int")
 |str (x:Str):TyOf K H (.str x) (.type "str")
 |flt (x:UInt64):TyOf K H (.flt x) (.type "float")
 |lst {a:Addr}{xs:List V}(e:H a=some (.lst xs)):TyOf K H (.ref a) (.type "list")
 |frz {a:Addr}{o:Obj}{xs:List V}(e:H a=some (.frz o (.lst xs))):TyOf K H (.ref a) (.type "list")
 |tup {a:Addr}{xs:List V}(e:H a=some (.tup xs)):TyOf K H (.ref a) (.type "tuple")
 |dK {a:Addr}{kvs:List (Key×V)}(e:H a=some (.dK kvs)):TyOf K H (.ref a) (.type "dict")
 |dT {a:Addr}{kvs:List (List Key×V)}(e:H a=some (.dT kvs)):TyOf K H (.ref a) (.type "dict")
 |ins {a C dx:Addr}{fs:List (Str×V)}(e:H a=some (.ins C dx fs)) (cl:Cls K C) (ha:W.findIn K (.ref C) "__class__"=some (some (.builtin "object.__class__")))
  (hn:W.specialIn K (.builtin "object.__class__") "__get__"=some (some<|.builtin "getset_descriptor.__get__")) (htk:W.takesIn K (.builtin "object.__class__")=some true)
  (hm:W.mroIn K C (.type "object")=some true):TyOf K H (.ref a) (.ref C)
end
end L2
namespace L2
open PySem PySem.Spec PyProof.Rows
structure Room(k:Nat)(A:Around):Prop where
 hd:A.handled=none
 dp:A.depth+3*k+5<recursionLimit
 un:A.units+16*k+200<cLine
 gd:A.guards=some []
def Room.mono(r:Room k A)(h:j<=k):Room j A:=⟨r.hd,by have:=r.dp;omega,by have:=r.un;omega,r.gd⟩
theorem Room.deeper(r:Room (k+1) A)(env):Room k (A.deeper env):=
 ⟨r.hd,by have:=r.dp;show A.depth+1+3*k+5<_;omega,by have:=r.un;show A.units+3+16*k+200<_;omega,r.gd⟩
def MN{A:Around}{C us kw}:(A.under<|.builtin "type.__call__" ⟨.ref C::us,kw⟩).depth=A.depth+1:=rfl
def Em{A:Around}{C us kw}:(A.under<|.builtin "type.__call__" ⟨.ref C::us,kw⟩).units=A.units+1:=rfl
def Room.make{k:Nat}{A:Around}(r:Room (k+1) A)(C)(us)(kw):Room k (A.under<|.builtin "type.__call__" ⟨.ref C::us,kw⟩):=
 ⟨r.hd,by have:=r.dp;rw[MN];omega,by have:=r.un;rw[Em];omega,r.gd⟩
theorem Room.depth(r:Room k A):A.depth<recursionLimit:=by have:=r.dp;omega
def As:TA:=λ_ H Q=>Q [] H
def DJ(ta:TE)(tr:TA):TA:=λσ H Q=>ta σ H λx H1=>tr σ H1 λxs H2=>Q (x::xs) H2
section
variable{X:Cx}{e:Expr}{es:List Expr}{te:TE}{t:TA}{pos:Pos}
def MK:PA X [] As:=λ_ _ _ _ H Q I h=>Calls.spliced_nil ⟨[],H,I,.nil,h⟩
def Rr(ha:PE X e te)(hr:PA X es t)(hs:starEach (e::es) X.env=(false,eval e X.env)::starEach es X.env:=by rfl):PA X (e::es) (DJ te t):=by
 intro pos pins s σ H Q I h;rw[hs];refine Calls.spliced_cons<|xX (ha pins s σ H _ I h) λu s1 ⟨x,H1,I1,r1,q1⟩=>?_;exact xX (hr pos pins s1 σ H1 _ I1 q1) λus s2 ⟨xs,H2,I2,r2,q2⟩=>⟨x::xs,H2,I2,.cons r1 r2,q2⟩
def tD(t:TA):TE:=λσ H Q=>t σ H λxs H1=>xs.length<=sizeLine/\∀p,H1 p=none->Q (.ref p) (upd H1 p<|.tup xs)
def uO(t:TA):TE:=λσ H Q=>t σ H λxs H1=>xs.length<=sizeLine/\∀p,H1 p=none->Q (.ref p) (upd H1 p<|.lst xs)
def JF(h:PA X es t):PE X (.Tuple es x1 pos) (tD t):=by
 intro pins s σ H Q I hq;refine wpAny_Tuple_spliced<|xX (h pos pins s σ H _ I hq) λus s1 ⟨xs,H1,I1,r,z,q⟩=>⟨by rw[<-r.length];exact z, ?_⟩;have hf:=I1.hok.fresh<|zzN _;refine⟨.ref s1.heap.objs.size,upd H1 s1.heap.objs.size _,I1.laid (t':=s1.toks) (λb u e=>zxD _ e) (zzN _) ?_,rfl,q _ hf⟩;exact⟨z,us,r,⟨_,zxF _ rfl,rfl,_,rfl⟩⟩
def Ij(h:PA X es t):PE X (.List es pos) (uO t):=by
 intro pins s σ H Q I hq;refine wpAny_List_spliced<|xX (h pos pins s σ H _ I hq) λus s1 ⟨xs,H1,I1,r,z,q⟩=>⟨by rw[<-r.length];exact z, ?_⟩;have hf:=I1.hok.fresh<|zzN _;refine⟨.ref s1.heap.objs.size,upd H1 s1.heap.objs.size _,I1.laid (t':=s1.toks) (λb u e=>zxD _ e) (zzN _) ?_,rfl,q _ hf⟩;exact⟨z,us,0,r,zxF _ rfl⟩
end
abbrev Sp:=List V->Hp->VK->XK->Prop
abbrev CB:=List Env->Hp->Shared->XK->Value->Shared->Prop
structure Env0(P:Program)(w:World)(K:zzA)(mg:Str->Option Value)(base:Heap)(A:Around)(outer:List Env)(s:Shared)(H:Hp):Prop where
 frames:A.frames=some outer
 mod:Mod K mg base
 bs:∀b o,base.get? b=some o->s.heap.get? b=some o/\H b=none
 bsz:base.objs.size<=s.heap.objs.size
 funs:s.heap.FunFrames base outer
 frf:∀b ∈ By outer,H b=none
 hok:UQ P w H s.heap
 bare:AllBare s.gens
def CE(outer:List Env)(P:Program)(w:World)(H:Hp)(s:Shared)(Q:VK)(u:Value)(s':Shared):Prop:=
 ∃v H',s'.os=s.os/\AllBare s'.gens/\Un (By outer) [] H H' s.heap s'.heap/\UQ P w H' s'.heap/\RelV v u/\Q v H'
def CR(CX:CB)(outer:List Env)(P:Program)(w:World)(H:Hp)(s:Shared)(Q:VK)(E:XK)(r:Result)(s':Shared):Prop:=
 match r with
 | .ok (.ret u)=>CE outer P w H s Q u s'
 | .ok _=>False
 | .error e=>CX outer H s E e s'
structure FnOk(P:Program)(w:World)(K:zzA)(mg:Str->Option Value)(base:Heap)(CX:CB)(k:Nat)(f:Addr)(fd:FuncData)(ps:List Str)(sp:Sp):Prop where
 len:∀vs H Q E,sp vs H Q E->vs.length=ps.length
 run:∀(A:Around) (outer:List Env) (s:Shared) (H:Hp) (args:Args) (us:List Value) (vs:List V) (Q:VK) (E:XK),Room k A->Env0 P w K mg base A outer s H->BindsTo s fd args (ps.zip us)->zM vs us->sp vs H Q E->
  codeAny (model P w) A (.call (.ref f) args) (CR CX outer P w H s Q E) s
def FnOk.imp{P w K mg base CX}{k:Nat}{f fd ps sp sp'}(F:FnOk P w K mg base CX k f fd ps sp)
 (h:∀vs H Q E,sp' vs H Q E->sp vs H Q E):FnOk P w K mg base CX k f fd ps sp':=
 ⟨λvs H Q E q=>F.len vs H Q E<|h _ _ _ _ q,λA outer s H args us vs Q E hr he hb hv hs=>F.run A outer s H args us vs Q E hr he hb hv<|h _ _ _ _ hs⟩
def Env0.make{P w K mg base A outer s H}(e:Env0 P w K mg base A outer s H)(C)(us)(kw):
 Env0 P w K mg base (A.under<|.builtin "type.__call__" ⟨.ref C::us,kw⟩) outer s H:=⟨by first|exact e.frames|(simpa[Around.under,Code.envs,Code.isFrame,pushEnvs]using e.frames),e.mod,e.bs,e.bsz,e.funs,e.frf,e.hok,e.bare⟩
section
variable{X:Cx}{pins:List (Addr×Obj)}{σ:St}{H:Hp}{s s':Shared}
def Inv.env0(I:Inv X pins σ H s):Env0 X.prog X.w X.K X.mg X.base X.A X.stack s H:=
 ⟨I.ok.frames,I.ok.mod,I.bs,zzO I.ok.bsz I.sz,I.stack,I.stkFree,I.hok,I.bare⟩
def Inv.after(I:Inv X pins σ H s)(h:CE X.stack X.prog X.w H s Q u s'):EP X pins σ Q u s':=by
 obtain⟨v,H',os,bare,un,hok,r,q⟩:=h;obtain⟨hh,g,d,t,os'⟩:=s';obtain rfl:os'=s.os:=os;exact⟨v,H',I.call (h':=hh) (g':=g) (d':=d) (t':=t) un hok bare (λb z=>absurd z<|by simp),r,q⟩
end
def Sa(sp:Sp)(dvs:List V)(E:XK)(t:TA):TE:=λσ H Q=>t σ H λvs H1=>sp (vs++dvs) H1 Q E
def CP(C:Addr)(sp:Sp)(dvs:List V)(E:XK)(t:TA):TE:=λσ H Q=>t σ H λvs H1=>∀x dx,H1 x=none->H1 dx=none->dx≠x->
 sp (.ref x::(vs++dvs)) (upd (upd H1 dx<|.own x) x<|.ins C dx []) (λv H2=>v = .non/\Q (.ref x) H2) E
def Binds(K:zzA)(fd:FuncData)(ps:List Str)(ds:List Value):Prop:=
 ∀(s:Shared) (us:List Value),K.In s.heap->(us++ds).length=ps.length->BindsTo s fd ⟨us,[]⟩ (ps.zip<|us++ds)
def Binds.all{K fd ps}(h:∀us:List Value,us.length=ps.length->bindArgs fd ⟨us,[]⟩=pure (ps.zip us)):Binds K fd ps []:=λs us _ hl=>by
 rw[zyD]at hl ⊢;exact .of_eq<|h us hl
def wR(CX:CB)(X:Cx)(E:XK):Prop:=∀(pins:List (Addr×Obj)) (σ:St) (H:Hp) (s:Shared) (e:Value) (s':Shared),Inv X pins σ H s->CX X.stack H s E e s'->X.xe e s'
section
variable{X:Cx}{CX:CB}{k:Nat}{f C:Addr}{fd:FuncData}{ps:List Str}{sp:Sp}{dvs:List V}{ds:List Value}{E:XK}{x m:Str}{p pos apos:Pos}{e o:Expr}{es:List Expr}{ta:TE}{t:TA}
def Eb(F:FnOk X.prog X.w X.K X.mg X.base CX k f fd ps sp)(hr:Room k X.A)(hb:Binds X.K fd ps ds)(hd:zM dvs ds)(hx:wR CX X E)
 (I:Inv X pins σ H s) (r:zM vs us) (h:sp (vs++dvs) H Q E):wpAny (model X.prog X.w) X.A (call (.ref f) us) (EP X pins σ Q) X.xe s:=by
 have r2:=r.append hd;have hl:(us++ds).length=ps.length:=by rw[<-r2.length];exact F.len _ _ _ _ h
 refine wpAny_call<|codeAny_mono (F.run X.A X.stack s H _ _ _ Q E hr I.env0 (hb s us I.kIn hl) r2 h) λr s' hq=>?_;cases r with
 |error e=>exact hx pins σ H s e s' I hq
 |ok fl=>
  cases fl with
  |ret u=>exact I.after hq
  |next=>exact False.elim hq
  |brk=>exact False.elim hq
  |cont=>exact False.elim hq
def Lm(F:FnOk X.prog X.w X.K X.mg X.base CX k f fd ps sp)(hr:Room k X.A)(hg:Gl X x)(hm:X.mg x=some (.ref f))(hk:W.keepIn X.K (.ref f)=true)(hb:Binds X.K fd ps ds)(hd:zM dvs ds)(hx:wR CX X E)
 (ha:PA X (e::es) t) (hdb:(x==("__debug__":Str))=false:=by decide) (he:starEach (e::es) X.env=(false,eval e X.env)::starEach es X.env:=by rfl) (hpl:(backTo pos<|starEach es X.env).any (·.1)=false:=by rfl):
 PE X (.Call (.Name x p) (e::es) [] pos) (Sa sp dvs E t):=by
 intro pins s σ H Q I h;refine wpAny_Call_Name_kw<|ET I hg hm ?_ hdb;refine W.callWith_K I.ok.mod.kin hk (xX (ha pos pins s σ H _ I h) λus s1 ⟨vs,H1,I1,r,q⟩=>⟨I1.kIn, ?_⟩) he hpl;exact Eb F hr hb hd hx I1 r q
structure Mk(K:zzA)(C f:Addr):Prop where
 makes:W.makesIn K C=true
 init:W.findIn K (.ref C) "__init__"=some (some<|.ref f)
 fn:W.isFn K (.ref f)=true
 kp:W.keepIn K (.ref C)=true
def Sm(M:Mk X.K C f)(F:FnOk X.prog X.w X.K X.mg X.base CX k f fd ps sp)(hr:Room (k+1) X.A)(hb:Binds X.K fd ps ds)(hd:zM dvs ds)
 (hx:wR CX X E) (I:Inv X pins σ H s) (r:zM vs us)
 (h:∀x dx,H x=none->H dx=none->dx≠x->sp (.ref x::(vs++dvs)) (upd (upd H dx<|.own x) x<|.ins C dx []) (λv H2=>v = .non/\Q (.ref x) H2) E):
 wpAny (model X.prog X.w) X.A (call (.ref C) us) (EP X pins σ Q) X.xe s:=by
 have hq:=h _ s.heap.objs.size (I.hok.fresh<|zyU _) (I.hok.fresh<|zzN _)<|zzQ<|Nat.lt_succ_self _;have I2:=Inv.made (C:=C) I;have r2:zM (V.ref (s.heap.objs.size+1)::_) _:=.cons rfl<|r.append hd;have hl:(Value.ref (s.heap.objs.size+1)::us++ds).length=ps.length:=by
  have e:=r2.length;rw[F.len _ _ _ _ hq]at e;exact e.symm
 refine wpAny_call<|SH I.kIn M.makes M.init (beq_iff_eq.mp M.fn)<|codeAny_mono (F.run _ X.stack _ _ _ _ _ _ E (hr.make C us [])
  (I2.env0.make C us []) (hb _ _ I2.kIn hl) r2 hq) λr s' hq'=>?_
 cases r with
 |error e=>exact hx pins σ _ _ e s' I2 hq'
 |ok fl=>
  cases fl with
  |ret u=>
   obtain⟨v,H',I3,rv,ev,q3⟩:=I2.after hq';subst ev;exact⟨rv,⟨V.ref _,H',I3,rfl,q3⟩⟩
  |next=>exact False.elim hq'
  |brk=>exact False.elim hq'
  |cont=>exact False.elim hq'
def Ci(M:Mk X.K C f)(F:FnOk X.prog X.w X.K X.mg X.base CX k f fd ps sp)(hr:Room (k+1) X.A)(hg:Gl X x)(hm:X.mg x=some (.ref C))(hb:Binds X.K fd ps ds)(hd:zM dvs ds)(hx:wR CX X E)
 (ha:PA X (e::es) t) (hdb:(x==("__debug__":Str))=false:=by decide) (he:starEach (e::es) X.env=(false,eval e X.env)::starEach es X.env:=by rfl) (hpl:(backTo pos<|starEach es X.env).any (·.1)=false:=by rfl):
 PE X (.Call (.Name x p) (e::es) [] pos) (CP C sp dvs E t):=by
 intro pins s σ H Q I h;refine wpAny_Call_Name_kw<|ET I hg hm ?_ hdb;refine W.callWith_K I.ok.mod.kin M.kp (xX (ha pos pins s σ H _ I h) λus s1 ⟨vs,H1,I1,r,q⟩=>⟨I1.kIn, ?_⟩) he hpl;exact Sm M F hr hb hd hx I1 r q
end
section
variable{X:Cx}{CX:CB}{k:Nat}{f C:Addr}{fd:FuncData}{ps ks:List Str}{sp:Sp}{E:XK}{x m:Str}{p pos apos kpos:Pos}{e o:Expr}{es:List Expr}{kws:List Keyword}{te ta:TE}{t tk:TA}{nm:Option Str}
variable{g:List Value->List Value->List Value}{gV:List V->List V->List V}
end
structure FnScope(N P:List Str)(sc:Scope):Prop where
 kind:sc.kind = .function
 co:sc.isCoroutine=false
 gen:sc.isGenerator=false
 nd:N.Nodup
 pre:N.take P.length=P
 par:∀x ∈ P,sc.names.lookup x=some .local\/sc.names.lookup x=some .cell
 nofree:∀y ∈ sc.names,y.2 ≠ .free
theorem GH{kindOf x}:∀{binds:List (Str×Value)}{m:Str->Option Value},(∀v,(x,v) ∉ binds)->bindL kindOf binds m x=m x
 | [],_,_=>rfl
 |(n,v)::r,m,h=>by
  unfold bindL;rw[GH λw hw=>h w<|zzD _ hw]
  split
  . have:x≠n:=by rintro rfl;exact h v zzF
    simp[this]
  . rfl
theorem GX{kindOf x}:∀{binds:List (Str×Value)}{m:Str->Option Value},(∀v,(x,v) ∉ binds)->bindC kindOf binds m x=m x
 | [],_,_=>rfl
 |(n,v)::r,m,h=>by
  unfold bindC;rw[GX λw hw=>h w<|zzD _ hw]
  split
  . rfl
  . have:x≠n:=by rintro rfl;exact h v zzF
    simp[this]
theorem GJ{kindOf x v}:∀{P:List Str}{vs:List Value}{i:Nat}{m:Str->Option Value},P.Nodup->P[i]? = some x->vs[i]? = some v->kindOf x=some .local->
 bindL kindOf (P.zip vs) m x=some v
 | [],_,_,_,_,h,_,_=>by simp at h
 |_::_,[],_,_,_,_,h,_=>by simp at h
 |p::P,w::vs,0,m,nd,h1,h2,hk=>by
  simp at h1 h2;subst h1;subst h2;show bindL kindOf (_::P.zip vs) m p=_;unfold bindL;rw[GH λv hv=>(zzV.mp nd).1 (List.of_mem_zip hv).1,if_pos hk];simp
 |p::P,w::vs,i+1,m,nd,h1,h2,hk=>by
  unfold bindL;exact GJ (zzV.mp nd).2 (by simpa using h1) (by simpa using h2) hk
theorem GM{kindOf x v}:∀{P:List Str}{vs:List Value}{i:Nat}{m:Str->Option Value},P.Nodup->P[i]? = some x->vs[i]? = some v->kindOf x≠some .local->
 bindC kindOf (P.zip vs) m x=some v
 | [],_,_,_,_,h,_,_=>by simp at h
 |_::_,[],_,_,_,_,h,_=>by simp at h
 |p::P,w::vs,0,m,nd,h1,h2,hk=>by
  simp at h1 h2;subst h1;subst h2;show bindC kindOf (_::P.zip vs) m p=_;unfold bindC;rw[GX λv hv=>(zzV.mp nd).1 (List.of_mem_zip hv).1,if_neg hk];simp
 |p::P,w::vs,i+1,m,nd,h1,h2,hk=>by
  unfold bindC;exact GM (zzV.mp nd).2 (by simpa using h1) (by simpa using h2) hk
def start(N:List Str)(vs:List V):St:=vs.map some++List.replicate (N.length-vs.length) none
def T7(CX:CB)(P:Program)(w:World)(K:zzA)(mg:Str->Option Value)(base:Heap)(N:List Str)(qual:Str)(scope:Scope)(f:Addr)(cd:Value)(A:Around)(outer:List Env)(s:Shared)(H:Hp)(E:XK):Cx where
 prog:=P
 w:=w
 K:=K
 mg:=mg
 base:=base
 A:=A.deeper (envOfC qual scope s.heap.objs.size f cd)
 N:=N
 s₀:=s
 H₀:=H
 env:=envOfC qual scope s.heap.objs.size f cd
 outer:=outer
 stack:=envOfC qual scope s.heap.objs.size f cd::outer
 ex:=[]
 calm:=true
 fn:=λ_=>true
 pn:=[]
 xe:=λe s'=>wpAny (model P w) (A.deeper<|envOfC qual scope s.heap.objs.size f cd) (leaving (envOfC qual scope s.heap.objs.size f cd) e) (λ_ s''=>CX outer H s E e s'') (λe' s''=>CX outer H s E e' s'') s'
def Me{sc:Scope}{n:Nat}{x}(h:sc.names.lookup x=some .cell):∃c,(cellsFrom n sc.names []).lookup x=some c:=by
 have q:=W.cellsFrom_some sc.names n []<|.inl h;exact Option.isSome_iff_exists.mp q
def FM{CX P w K mg base N ps qual scope f cd A outer s s1 H E us vs}
 (S:FnScope N ps scope) (hd:A.handled=none) (e0:Env0 P w K mg base A outer s H) (hl:vs.length=ps.length) (r:zM vs us)
 (x:InCallC s s.heap.objs.size (bindL (envOfC qual scope s.heap.objs.size f cd).kindOf (ps.zip us) λ_=>none) (cellsFrom (s.heap.objs.size+1) scope.names []) (bindC (envOfC qual scope s.heap.objs.size f cd).kindOf (ps.zip us) λ_=>none) s1):
 Inv (T7 CX P w K mg base N qual scope f cd A outer s H E) [] (start N vs) H s1:=by
 have hpl:ps.length<=N.length:=by have:=congrArg List.length S.pre;rw[zzS]at this;omega
 obtain⟨h1,tk,rfl,hk⟩:=x.done;have noA:∀b:Addr,b ∉ (T7 CX P w K mg base N qual scope f cd A outer s H E).ex:=λb z=>absurd (show b ∈ ([]:List Addr)from z) (by simp);refine⟨⟨e0.mod,S.kind,rfl,rfl,zzN _,λy z c h1 h2=>?_,λy hy=>?_,λy c _ h=>?_,λ_=>hd,Around.frames_deeper e0.frames,.inr ⟨rfl,rfl⟩,λb z=>absurd z<|noA b,e0.bs,e0.bsz,λb _ _=>noA b,λb z=>absurd z<|noA b,e0.funs,e0.frf⟩,
  rfl,e0.bare,Un.kept hk,⟨_,x.toInCall.ns,λi y v h1 h2 h3=>?_⟩,λy c h=>⟨_,x.cell y c h⟩,e0.hok.fresh<|zzN _,λy c h=>?_,λp hp=>absurd (show p ∈ ([]:List _)from hp) (by simp),e0.hok.kept hk, ?_⟩
 . exact name_of_addr x.apart (PySem.mem_of_lookup h1)<|PySem.mem_of_lookup h2
 . have hy:=hy
   rcases hy with hy|hy
   . exact Me hy
   . exact absurd rfl<|S.nofree _<|PySem.mem_of_lookup hy
 . exact Nat.le_of_lt<|x.above y c<|PySem.mem_of_lookup h
 . have hi:i<vs.length:=by
    unfold start at h2
    by_cases hi:i<vs.length
    . exact hi
    . rw[zyP<|by simpa using hi]at h2;rw[List.getElem?_replicate]at h2
      split at h2<;>cases h2
   have ha:vs[i]? = some v:=by
    unfold start at h2;rw[zyN (by simpa using hi),zzI]at h2;cases e:vs[i]? with
    |none=>rw[e]at h2;cases h2
    |some a=>rw[e]at h2;cases h2;rfl
   obtain⟨u,hu,rv⟩:=r.get ha;have hp:ps[i]? = some y:=by
    rwa [<-S.pre,List.getElem?_take_of_lt<|by omega]
   have ndP:ps.Nodup:=by rw[<-S.pre];exact S.nd.sublist<|List.take_sublist _ _
   refine⟨u,rv, ?_⟩
   rcases S.par y (zzZ hp)with k|k
   . exact .inl ⟨k,GJ ndP hp hu k⟩
   . obtain⟨c,e⟩:=Me k;refine .inr ⟨.inl k,c,e, ?_⟩;have q:=x.cell y c e
     rwa [GM ndP hp hu (by show scope.names.lookup y≠_;rw[k];decide)]at q
 . exact e0.hok.fresh<|Nat.le_of_lt<|x.above y c<|PySem.mem_of_lookup h
 . unfold start;show _=N.length;rw[zzJ,zzB,List.length_replicate];omega
def DX{CX P w K mg base}{k:Nat}{f name qual params body scope dV kV doc pm cdv ct oc an od}
 {osl N ps sp}(lk:K.lookup f=some ⟨oc,od,.func<|W.fnOf name qual params body scope dV kV doc pm an cdv ct,osl⟩) (hcd:W.codeIn K cdv qual=true) (S:FnScope N ps scope)
 (len:∀vs H Q E,sp vs H Q E->vs.length=ps.length)
 (hbody:∀(A:Around) (outer:List Env) (s:Shared) (H:Hp) (vs:List V) (Q:VK) (E:XK),Room k (A.deeper<|envOfC qual scope s.heap.objs.size f cdv)->sp vs H Q E->
  ∃t,L3 (T7 CX P w K mg base N qual scope f cdv A outer s H E) body t/\t {nx:=λ_ H'=>Q .non H',rt:=Q} (start N vs) H):
 FnOk P w K mg base CX (k+1) f (W.fnOf name qual params body scope dV kV doc pm an cdv ct) ps sp:=by
 refine⟨len,λA outer s H args us vs Q E hr e0 hb r hsp=>?_⟩;have hl:=len _ _ _ _ hsp;have KX:=e0.mod.kin.keeps λb o e=>(e0.bs b o e).1;have lim:=e0.mod.nolimit.keeps λb o e=>(e0.bs b o e).1;have hkind:∀y ∈ ps.zip us,scope.names.lookup y.1=some .local\/(scope.names.lookup y.1=some .cell/\((cellsFrom (s.heap.objs.size+1) scope.names []).lookup y.1).isSome=true):=λ⟨n,v⟩ hy=>by
  rcases S.par n (List.of_mem_zip hy).1 with q|q
  . exact .inl q
  . exact .inr ⟨q,W.cellsFrom_some _ _ _<|.inl q⟩
 refine codeAny_call_function hr.depth (KX _ _ lk) rfl S.co S.gen rfl (W.codeRec_of KX hcd)<|hb _ _ _ _ ?_;refine wpAny_newFunctionEnv_cells S.kind hkind λenv he s1 x=>?_;subst he;refine⟨lim.keeps x.toInCall.keep,codeAny_func ?_⟩;obtain⟨t,ht,hq⟩:=hbody A outer s H vs Q E (hr.deeper _) hsp;have I:Inv (T7 CX P w K mg base N qual scope f cdv A outer s H E) [] _ H s1:=FM S hr.hd e0 hl r x;refine zxI (ht [] s1 _ H _ I hq) (λfl s' hs=>?_) λe s' hs=>hs;have fin:∀{σ':St}{H':Hp}{v:V}{u:Value},Inv (T7 CX P w K mg base N qual scope f cdv A outer s H E) [] σ' H' s'->RelV v u->Q v H'->CE outer P w H s Q u s':=
  λ{σ' H' v u} J rv q=>⟨v,H',J.os,J.bare,J.base,J.hok,rv,q⟩
 cases fl with
 |ret u=>
  obtain⟨v,σ',H',J,rv,q⟩:=hs;exact fin J rv q
 |next=>
  obtain⟨σ',H',J,q⟩:=hs;exact fin (v:=V.non) J rfl q
 |brk=>
  obtain⟨_,_,_,q⟩:=hs;exact False.elim q
 |cont=>
  obtain⟨_,_,_,q⟩:=hs;exact False.elim q
end L2
namespace L2
open PySem PySem.Spec PyProof.Rows
section
variable{X:Cx}{x:Str}{p pos:Pos}{e:Expr}{es:List Expr}{t:TA}{id T:String}{r:List V->Hp->VK->Prop}
def sy(r:List V->Hp->VK->Prop)(t:TA):TE:=λσ H Q=>t σ H λvs H1=>r vs H1 Q
def NN(hc:Vk X (.builtin id) r)(hg:Gl X x)(hm:X.mg x=none)(hv:bootBuiltins x=some (.builtin id))(ha:PA X (e::es) t)(hn:x≠"__name__":=by decide)(hdb:(x==("__debug__":Str))=false:=by decide)
 (he:starEach (e::es) X.env=(false,eval e X.env)::starEach es X.env:=by rfl) (hpl:(backTo pos<|starEach es X.env).any (·.1)=false:=by rfl):PE X (.Call (.Name x p) (e::es) [] pos) (sy r t):=by
 intro pins s σ H Q I h;refine wpAny_Call_Name_kw<|Tn I hg hm hv ?_ hn hdb;exact PyProof.Rows.callWith_builtin1 (xX (ha pos pins s σ H _ I h) λus s1 ⟨vs,H1,I1,r1,q1⟩=>hc pins s1 σ H1 vs us Q I1 r1 q1) he hpl
def Bl(hc:Vk X (.type T) r)(hg:Gl X x)(hm:X.mg x=none)(hv:bootBuiltins x=some (.type T))(ha:PA X (e::es) t)(hn:x≠"__name__":=by decide)(hdb:(x==("__debug__":Str))=false:=by decide)
 (he:starEach (e::es) X.env=(false,eval e X.env)::starEach es X.env:=by rfl) (hpl:(backTo pos<|starEach es X.env).any (·.1)=false:=by rfl):PE X (.Call (.Name x p) (e::es) [] pos) (sy r t):=by
 intro pins s σ H Q I h;refine wpAny_Call_Name_kw<|Tn I hg hm hv ?_ hn hdb;exact PyProof.Rows.callWith_type1 (xX (ha pos pins s σ H _ I h) λus s1 ⟨vs,H1,I1,r1,q1⟩=>hc pins s1 σ H1 vs us Q I1 r1 q1) he hpl
end
end L2
namespace L2
open PySem PySem.Spec PyProof.Rows
section
variable{κ:Type}[DecidableEq κ]
def Ud(kvs:List (κ×V))(k:κ):Option V:=(kvs.find? λkv=>decide (kv.1=k)).map (·.2)
def SJ{p r}{k:κ}(e:p.1=k):Ud (p::r) k=some p.2:=by simp[Ud,e]
def SQ{p r}{k:κ}(e:¬p.1=k):Ud (p::r) k=Ud r k:=by simp[Ud,e]
def Qt.isSome_eq(r:Qt o u):o.isSome=u.isSome:=by
 cases o with
 |none=>cases u with
  |none=>rfl
  |some _=>exact(r).elim
 |some _=>cases u with
  |none=>exact(r).elim
  |some _=>rfl
def KV.val{kvs vs}(r:KV kvs vs)(k:κ):Qt (Ud kvs k) (valueAt vs k):=by
 induction r with
 |nil=>exact True.intro
 | @cons p q ps qs h t ih=>
  obtain⟨h1,h2⟩:=h
  by_cases e:p.1=k
  . have e':q.1=k:=h1.symm.trans e;have b:valueAt (q::qs) k=some q.2:=by simp[valueAt,e']
    rwa [SJ e,b]
  . have e':¬q.1=k:=λz=>e<|h1.trans z;have b:valueAt (q::qs) k=valueAt qs k:=by simp[valueAt,e']
    rwa [SQ e,b]
theorem KV.length(r:KV kvs vs):kvs.length=vs.length:=Paired.length r
end
def Sg(r:RelV (kV k) u):(wZ P w).is k u=true:=by
 cases k with
 |inl i=>obtain⟨t,e⟩:=(r);subst e;exact NZ P w i t
 |inr x=>obtain⟨t,e⟩:=(r);subst e;exact XR P w x t
section
variable{P:Program}{w:World}{H:Hp}{h:Heap}{a:Addr}
def Au(ok:UQ P w H h)(e:Rd H a u):Za P w H h a u:=e.ok ok
def AN(ok:UQ P w H h)(e:Rd H a (.dK kvs)):kvs.length<=sizeLine/\(a==sysModules)=false/\∃vs,KV kvs vs/\h.DictOf (wZ P w) a vs:=
 show Za P w H h a _ from Au ok e
end
end L2
namespace HT
open PySem PyProof.Rows
section
variable{prog:Program}{w:World}{A:Around}{E:Value->Shared->Prop}{s:Shared}
def OU(ht:IsTup s.heap t vs.toArray)(hb:IsTup s.heap b ws.toArray)(hv:vs≠[])
 (h1:ws=[]->Q (.ref t) s) (h2:ws≠[]->Q (.ref s.heap.objs.size) {s with heap:=s.heap.push {cls:=.type "tuple",data:=.seq (vs++ws).toArray}})
 (hsz:vs.length+ws.length<=sizeLine):wpAny (model prog w) A (binaryOp .Add (.ref t)<|.ref b) Q E s:=by
 obtain⟨⟨cls,dd,data,sl⟩,ho,hc,n,hd⟩:=id ht;obtain⟨⟨cls2,dd2,data2,sl2⟩,ho2,hc2,n2,hd2⟩:=id hb;subst hc hd hc2 hd2;have e:vs.toArray++ws.toArray=(vs++ws).toArray:=by simp
 by_cases hw:ws=[]
 . exact concat_meets ⟨_,ho,rfl⟩ ⟨_,ho2,rfl⟩ noFill_tuple_add seq_tuple_add PySem.F.slot_tuple_add PySem.F.entry_tuple_add (PySem.F.args_tuple_add_2 _ _)
    (tuple_addW1 t b vs.toArray ws.toArray n n2 dd dd2 sl sl2 (by simpa using hv)<|by simp[hw]) ⟨ho,ho2,h1 hw⟩
 . refine concat_meets ⟨_,ho,rfl⟩ ⟨_,ho2,rfl⟩ noFill_tuple_add seq_tuple_add PySem.F.slot_tuple_add PySem.F.entry_tuple_add (PySem.F.args_tuple_add_2 _ _)
    (tuple_addW2 t b vs.toArray ws.toArray n n2 dd dd2 sl sl2 (by simpa using hv) (by simpa using hw)<|hsz) ⟨ho,ho2, ?_⟩
   rw[e];exact h2 hw
def sIx(n d:Nat):Option Int->Nat
 |none=>d
 |some v=>if v<0 then(v+(n:Int)).toNat else min v.toNat n
def N_(n d:Nat):sIx n d none=d:=rfl
def Fl(n d k:Nat):sIx n d (some (k:Int))=min k n:=rfl
def EK(v)(n d:Nat):(if v<0 then max (v+(n:Int)) 0 else min v (n:Int))=((sIx n d (some v):Nat):Int):=by
 show _=(((if v<0 then(v+_).toNat else min v.toNat n):Nat):Int)
 by_cases hv:v<0
 . simp only[if_pos hv];omega
 . simp only[if_neg hv];omega
def M9(lo hi)(n:Nat):Builtin.Slice.sliceAdjust lo hi 1 (n:Int)=(((sIx n 0 lo:Nat):Int),((sIx n n hi:Nat):Int)):=by
 refine Prod.ext ?_ ?_
 . cases lo with
   |none=>rfl
   |some v=>exact EK v n 0
 . cases hi with
   |none=>rfl
   |some v=>exact EK v n n
def MD(i j:Nat):Builtin.Slice.slicePlaces (i:Int) (j:Int) 1=j-i:=by
 unfold Builtin.Slice.slicePlaces;have h1:(1:Int) > 0:=by omega
 simp
 split<;>omega
def Tg(p:IsPart v o)(h:Q o s):wpAny (model prog w) A (Builtin.Slice.slicePartIndex v) Q E s:=by
 cases p with
 |none=>exact slicePart_none h
 |int i t=>exact slicePart_int h
def Q8{sl vl vu lo hi}{n:Nat}{Q}(hs:s.heap.IsSliceOf sl vl vu .none)(pl:IsPart vl lo)(pu:IsPart vu hi)
 (h:Q (((sIx n 0 lo:Nat):Int),1,sIx n n hi-sIx n 0 lo) s):wpAny (model prog w) A (Builtin.Slice.sliceApplied (.ref sl)<|pure (n:Int)) Q E s:=by
 obtain⟨os,hos,hcs,hds⟩:=id hs;refine zxB<|zxB<|wpAny_field hos hds rfl<|zxB<|wpAny_field hos hds rfl<|zxB<|wpAny_field hos hds rfl<|zxC ?_;refine zxB<|slicePart_none ?_;refine zxB<|Tg pl<|zxB<|Tg pu<|zxB<|zxC ?_;show wpAny _ _ (match Builtin.Slice.sliceAdjust lo hi 1 _ with|(lo,hi)=>pure (lo,_,Builtin.Slice.slicePlaces lo hi 1)) _ _ s;rw[M9 lo hi n];show wpAny _ _ (pure _) _ _ s;rw[MD];exact zxC h
def SX(xs:Array Value)(i k:Nat):((List.range k).filterMap λ(m:Nat)=>xs[((i:Int)+(m:Int)*1).toNat]?).toArray=((xs.toList.drop i).take k).toArray:=by
 have e:(λ(m:Nat)=>xs[(i+(m:Int)*1).toNat]?)=λm=>xs[i+m]? := by
  funext m;have:(i+(m:Int)*1).toNat=i+m:=by omega
  rw[this]
 rw[e];have:=pick_run xs i k;rw[List.filterMap_map]at this;have e2:(_∘λx=>i+x)=λm=>xs[i+m]? := rfl;rw[e2]at this;rw[this]
def V3{t sl items vl vu lo hi Q}(ht:IsTup s.heap t items)(hs:s.heap.IsSliceOf sl vl vu .none)(pl:IsPart vl lo)(pu:IsPart vu hi)
 (hw:¬(sIx items.size 0 lo=0/\sIx items.size items.size hi=items.size))
 (h:Q (.ref s.heap.objs.size) {s with heap:=s.heap.push {cls:=.type "tuple",data:=.seq ((items.toList.drop<|sIx items.size 0 lo).take<|sIx items.size items.size hi-sIx items.size 0 lo).toArray}})
 (hsz:items.size<=sizeLine):wpAny (model prog w) A (getItem (.ref t)<|.ref sl) Q E s:=by
 have htake:sizeOk (.seq ((items.toList.drop<|sIx items.size 0 lo).take<|sIx items.size items.size hi-sIx items.size 0 lo).toArray):=by
  show((items.toList.drop _).take _).toArray.size<=sizeLine;rw[zzH,zzS,List.length_drop,zyR];omega
 obtain⟨os,hos,hcs,hds⟩:=id hs;have hTs:s.TypeIs (.ref sl) "slice":=⟨os,hos,hcs⟩;unfold getItem
 try with_reducible refine zxG ?_
 first|refine zxB _|skip
 refine zxB<|wpAny_sequenceKey ht.typeIs (by decide) ?_;refine zxB<|wpAny_callSpecial?_slot ht.typeIs PyProof.Rows.slot_tuple_getitem
  (zxJ PyProof.Rows.slot_tuple_getitem ht.typeIs entry_tuple_getitem ?_<|args_tuple_getitem _ _)
 show wpAny _ _ (Builtin.Tuple.tupleItemsOf _ >>= _) _ _ s;refine zxB<|tupleItemsOf_ ht ?_;refine zxB<|wpAny_typeOf hTs ?_;refine zxB<|Q8 hs pl pu ?_;have hno:¬((((sIx items.size 0 lo:Nat):Int)==0&&(1:Int)==1&&(sIx items.size items.size hi-sIx items.size 0 lo)==items.size)=true):=by
  intro q;rw[zyB,zyB]at q;have q1:=eq_of_beq q.1.1;have q2:=eq_of_beq q.2;exact hw ⟨by omega,by omega⟩
 show wpAny _ _ (if _=true then _ else _) _ _ s;rw[if_neg hno,SX]
 first
  |exact zxB (wpAny_newObj_type (zxC ⟨_,rfl,zxC h⟩) htake)
  |exact zxB _
  |exact zxB _
  |exact zxB _
end
end HT
namespace L2
open PySem PySem.Spec PyProof.Rows
abbrev TO:=St->Hp->(Option Int->Hp->Prop)->Prop
def PO(X:Cx)(e:Option Expr)(t:TO):Prop:=
 ∀(pins:List (Addr×Obj)) (s:Shared) (σ:St) (H:Hp) (Q:Option Int->Hp->Prop),Inv X pins σ H s->t σ H Q->
  wpAny (model X.prog X.w) X.A (evalPart e X.env) (λu s'=>∃o H',Inv X pins σ H' s'/\IsPart u o/\Q o H') X.xe s
def EE:TO:=λ_ H Q=>Q none H
def Ay(t:TE):TO:=λσ H Q=>t σ H λx H1=>∃i,x = .int i/\Q (some i) H1
def intsAre_of:∀{us:List Value},zM (ns.map V.int) us->IntsAre us ns:=by
 induction ns with
 |nil=>intro us r;cases r;exact .nil
 |cons n ns ih=>
  intro us r;cases r with
  |cons r1 r2=>
   obtain⟨t,e⟩:=r1;subst e;exact .cons n t<|ih r2
section
variable{X:Cx}{e:Expr}{te:TE}{lo hi:Option Expr}{tl th:TO}{pos p2:Pos}
def Od:PO X none EE:=by
 intro pins s σ H Q I h;rw[evalPart_none];exact zxC ⟨none,H,I,.none,h⟩
def OO(h:PE X e te):PO X (some e) (Ay te):=by
 intro pins s σ H Q I hw;rw[evalPart_some];refine xX (h pins s σ H _ I hw) λu s1 ⟨x,H1,I1,r1,q1⟩=>?_;obtain⟨i,rfl,q⟩:=q1;obtain⟨t,rfl⟩:=r1;exact⟨some i,H1,I1,.int i t,q⟩
def uf(X:Cx)(r:V->Option Int->Option Int->Hp->VK->Prop):Prop:=
 ∀(pins:List (Addr×Obj)) (s:Shared) (σ:St) (H:Hp) (x:V) (v vl vu:Value) (lo hi:Option Int) (sl:Addr) (Q:VK),Inv X pins σ H s->RelV x v->s.heap.IsSliceOf sl vl vu .none->IsPart vl lo->IsPart vu hi->r x lo hi H Q->
  ∃T id,typeLookup (.type T) "__getitem__"=pure (some<|.builtin id)/\s.TypeIs v T/\wpAny (model X.prog X.w) X.A (getItem v<|.ref sl) (EP X pins σ Q) X.xe s
def t_(r:V->Option Int->Option Int->Hp->VK->Prop)(te:TE)(tl th:TO):TE:=λσ H Q=>te σ H λx H1=>tl σ H1 λl H2=>th σ H2 λu H3=>r x l u H3 Q
def Sd(hr:uf X r)(he:PE X e te)(hl:PO X lo tl)(hu:PO X hi th):PE X (.Subscript e (.Slice lo hi none p2) pos) (t_ r te tl th):=by
 intro pins s σ H Q I h;refine Subscript_<|xX (he pins s σ H _ I h) λv s1 ⟨x,H1,I1,r1,q1⟩=>?_;refine wpAny_Slice<|xX (hl pins s1 σ H1 _ I1 q1) λvl s2 ⟨l,H2,I2,pl,q2⟩=>xX (hu pins s2 σ H2 _ I2 q2) λvu s3 ⟨u,H3,I3,pu,q3⟩=>?_;rw[evalPart_none];refine zxC ?_;have I4:Inv X pins σ H3 {s3 with heap:=s3.heap.push {cls:=.type "slice",data:=.fields #[vl,vu,.none]}}:=I3.kept (t':=s3.toks) λb ob q=>zxD _ q;obtain⟨T,id,hT,ht,hg⟩:=hr pins {s3 with heap:=s3.heap.push {cls:=.type "slice",data:=.fields #[vl,vu,.none]}} σ H3 x v vl vu l u s3.heap.objs.size Q I4 r1 (Heap.IsSliceOf.new ..) pl pu q3;exact tail_any ht hT hg (by with_unfolding_all rfl)
def Bi(xs:List V)(lo hi:Option Int):List V:=(xs.drop<|HT.sIx xs.length 0 lo).take<|HT.sIx xs.length xs.length hi-HT.sIx xs.length 0 lo
def UW(xs)(lo hi):(Bi xs lo hi).length<=xs.length:=by
 unfold Bi;rw[zzS,List.length_drop];omega
def tM(K:zzA):V->Option Int->Option Int->Hp->VK->Prop:=λx lo hi H Q=>∃a xs,x = .ref a/\Uk K H a xs/\
 ¬(HT.sIx xs.length 0 lo=0/\HT.sIx xs.length xs.length hi=xs.length)/\∀p,H p=none->Q (.ref p) (upd H p<|.tup<|Bi xs lo hi)
def Ig:uf X (tM X.K):=by
 intro pins s σ H x v vl vu lo hi sl Q I rx hs pl pu h;obtain⟨a,xs,rfl,hx,hw,q⟩:=h;cases rx;obtain⟨its,r,ht,hz⟩:=I.tuple hx;have hlen:its.toArray.size=xs.length:=by rw[zzH];exact r.length.symm
 refine⟨"tuple",_,PyProof.Rows.slot_tuple_getitem.lookup,ht.typeIs, ?_⟩;refine HT.V3 ht hs pl pu (by rw[hlen];exact hw) ?_ (by rw[hlen];exact hz);rw[hlen];refine⟨.ref s.heap.objs.size,_,I.laid (t':=s.toks) (λb ob q=>zxD _ q) (zzN _) ?_,rfl,q _<|I.hok.fresh<|zzN _⟩;exact⟨zzO (UW xs lo hi) hz,_,(r.drop _).take _,IsTup.new _ _⟩
def Dn(K:zzA):R2:=λx y H Q=>∃a b xs ys,x = .ref a/\y = .ref b/\Uk K H a xs/\Uk K H b ys/\xs≠[]/\xs.length+ys.length<=sizeLine/\
 (ys=[]->Q (.ref a) H)/\(ys≠[]->∀p,H p=none->Q (.ref p) (upd H p<|.tup<|xs++ys))
def zM.nil_iff(r:zM xs us):us=[] ↔ xs=[]:=by
 cases r with
 |nil=>simp
 |cons _ _=>simp
def HL:Uu X (binaryOp .Add) (Dn X.K):=by
 intro pins s σ H x y v u Q I rx ry h;obtain⟨a,b,xs,ys,rfl,rfl,ha,hb,hx,hz,q1,q2⟩:=h;cases rx;cases ry;obtain⟨its,r1,p1,_⟩:=I.tuple ha;obtain⟨its2,r2,p2,_⟩:=I.tuple hb;refine HT.OU p1 p2 (λz=>hx<|r1.nil_iff.mp z) (λz=>⟨.ref a,H,I,rfl,q1<|r2.nil_iff.mp z⟩) (λz=>?_) (by rw[<-r1.length,<-r2.length];exact hz);refine⟨.ref s.heap.objs.size,_,I.laid (t':=s.toks) (λb ob q=>zxD _ q) (zzN _) ?_,rfl,q2 (λw=>z<|r2.nil_iff.mpr w) _<|I.hok.fresh<|zzN _⟩;exact⟨by rw[zzJ];exact hz,_,r1.append r2,IsTup.new _ _⟩
end
end L2
namespace L2
open PySem PySem.Spec PyProof.Rows
def ixN(n:Nat)(i:Int):Option Nat:=if 0<=i then(if i<n then some i.toNat else none)else if -(n:Int)<=i then some (i+n).toNat else none
def atI{α:Type}(xs:List α)(i:Int):Option α:=(ixN xs.length i).bind λj=>xs[j]?
def HY(h:ixN n i=some j):seqIndex? i n=some j/\j<n /\ -(n:Int)<=i/\i<n:=by
 unfold ixN at h
 by_cases h0:0<=i
 . rw[if_pos h0]at h
   by_cases h1:i<n
   . rw[if_pos h1]at h;have e:=zzY h;exact⟨by rw[seqIndex_of h0 h1,e],by omega,by omega,h1⟩
   . rw[if_neg h1]at h;cases h
 . rw[if_neg h0]at h
   by_cases h1 : -n<=i
   . rw[if_pos h1]at h;have e:=zzY h;exact⟨by rw[seqIndex_neg (by omega) h1,e],by omega,h1,by omega⟩
   . rw[if_neg h1]at h;cases h
def KU(h:atI xs i=some v):∃j,seqIndex? i xs.length=some j/\xs[j]? = some v/\j<xs.length /\ -(xs.length:Int)<=i/\i<xs.length:=by
 unfold atI at h;cases e:ixN xs.length i with
 |none=>rw[e]at h;cases h
 |some j=>
  rw[e]at h;obtain⟨h1,h2,h3,h4⟩:=HY e;exact⟨j,h1,h,h2,h3,h4⟩
def V8{α:Type}{xs}{j:Nat}{v:α}(h:xs[j]? = some v):atI xs (j:Int)=some v:=by
 have hj:=(zzG.mp h).1;have e:ixN xs.length (j:Int)=some j:=by
  unfold ixN;rw[if_pos (by omega),if_pos<|by omega];simp
 unfold atI;rw[e];exact h
def Ll(b:Expr):Prop:=∀o i,subscripted b false o i=operate [o,i] (getItem o i)
def DC(X:Cx)(r:R2):Prop:=
 ∀(value slice:Expr) (pins:List (Addr×Obj)) (s:Shared) (σ:St) (H:Hp) (x y:V) (v u:Value) (Q:VK),Inv X pins σ H s->RelV x v->RelV y u->r x y H Q->
  subscripted slice false v u=operate [v,u] (getItem v u)->wpAny (model X.prog X.w) X.A (subscriptTail value slice v u) (EP X pins σ Q) X.xe s
def sU(X:Cx)(id:String)(r:V->List V->Hp->VK->Prop):Prop:=
 ∀(pins:List (Addr×Obj)) (s:Shared) (σ:St) (H:Hp) (x:V) (xs:List V) (v:Value) (us:List Value) (Q:VK),Inv X pins σ H s->RelV x v->zM xs us->r x xs H Q->
  wpAny (model X.prog X.w) X.A (call (.builtin id) (v::us)) (EP X pins σ Q) X.xe s
section
variable{X:Cx}{a b:Expr}{ta tb:TE}{pos:Pos}
def DM(hr:DC X r)(ha:PE X a ta)(hb:PE X b tb)(hs:Ll b):PE X (.Subscript a b pos) (DP r ta tb):=by
 intro pins s σ H Q I h;exact Subscript_<|IH ha hb I h λv u s2 x y H2 I2 rx ry q=>hr a b pins s2 σ H2 x y v u Q I2 rx ry q<|hs _ _
def uT(K:zzA):R2:=λx y H Q=>∃p xs i v,x = .ref p/\y = .int i/\TX K H p xs/\atI xs i=some v/\Q v H
def uR(K:zzA):R2:=λx y H Q=>∃p xs i v,x = .ref p/\y = .int i/\Uk K H p xs/\atI xs i=some v/\Q v H
def uZ:R2:=λx y H Q=>∃z i c,x = .str z/\y = .int i/\z.length<=sizeLine/\atI z.cps.toList i=some c/\Q (.str ⟨#[c]⟩) H
def Cd:DC X (uT X.K):=by
 intro value slice pins s σ H x y v u Q I rx ry h hs;obtain⟨p,xs,i,z,rfl,rfl,hq,he,q⟩:=h;cases rx;obtain⟨t,rfl⟩:=ry;obtain⟨its,r,pl,hz⟩:=I.list hq;obtain⟨j,h1,h2,h3,h4,h5⟩:=KU he;obtain⟨w,ew,rw'⟩:=r.get h2;have hl:=r.length;have hn:=QX;have fin:EP X pins σ Q w s:=⟨z,H,I,rw',q⟩
 by_cases h0:0<=i
 . have hj:i.toNat=j:=by
    rw[seqIndex_of h0 h5]at h1;exact zzY h1
   exact item_listR pl.isList h0 (by omega) (by rw[hj];simpa using ew) fin hs
 . have hj:(i+(its.toArray.size:Int)).toNat=j:=by
    rw[seqIndex_neg (by omega) h4]at h1;rw[zzH,<-hl];exact zzY h1
   exact subscriptTail_builtinR pl.isList.typeIs slot_list_getitem.lookup
    (wpAny_getItem_list_neg pl.isList (by omega) (by rw[zzH]<;>omega) (by omega) (by rw[hj];simpa using ew) ⟨rfl,fin⟩) hs
def Ip:DC X (uR X.K):=by
 intro value slice pins s σ H x y v u Q I rx ry h hs;obtain⟨p,xs,i,z,rfl,rfl,hq,he,q⟩:=h;cases rx;obtain⟨t,rfl⟩:=ry;obtain⟨its,r,pl,hz⟩:=I.tuple hq;obtain⟨j,h1,h2,h3,h4,h5⟩:=KU he;obtain⟨w,ew,rw'⟩:=r.get h2;have hl:=r.length;have hn:=QX;have fin:EP X pins σ Q w s:=⟨z,H,I,rw',q⟩;exact subscriptTail_builtinR pl.typeIs slot_tuple_getitem.lookup
  (getItem_tuple pl (by omega) (by omega) (by rw[zzH,<-hl];exact h1) (by simpa using ew) ⟨rfl,fin⟩) hs
def Iu:DC X uZ:=by
 intro value slice pins s σ H x y v u Q I rx ry h hs;obtain⟨z,i,c,rfl,rfl,hz,he,q⟩:=h;obtain⟨t,rfl⟩:=rx;obtain⟨t',rfl⟩:=ry;obtain⟨j,h1,h2,h3,h4,h5⟩:=KU he;have hl:z.cps.toList.length=z.length:=by simp[Str.length]
 rw[hl]at h1 h4 h5;have hn:=QX;exact tail_any (typeIs_str s z t) slot_str_getitem.lookup (getItem_str (by
  have e1:decide (i < -(2 ^ 63:Int))=false:=zyF (by omega);have e2:decide (i ≥ 2 ^ 63)=false:=zyF (by omega);rw[e1,e2,Bool.or_false]) (by rw[h1];simpa using h2) ⟨.str ⟨#[c]⟩,H,I.tok _,⟨_,rfl⟩,q⟩) hs
def Lw(lo hi)(n:Nat):(sliceBounds lo hi none n).1=((HT.sIx n 0 lo:Nat):Int)/\(sliceBounds lo hi none n).2.1=((HT.sIx n n hi:Nat):Int)/\(sliceBounds lo hi none n).2.2=1:=by
 refine⟨?_, ?_,rfl⟩
 . cases lo with
   |none=>simp[sliceBounds,HT.sIx]
   |some i=>
    simp only[sliceBounds,HT.sIx,Option.getD_none,show 1 > 0 by decide,if_true]
    by_cases h:i<0
    . simp only[h,if_true]<;>omega
    . simp only[h,if_false]<;>omega
 . cases hi with
   |none=>simp[sliceBounds,HT.sIx]
   |some i=>
    simp only[sliceBounds,HT.sIx,Option.getD_none,show 1 > 0 by decide,if_true]
    by_cases h:i<0
    . simp only[h,if_true]<;>omega
    . simp only[h,if_false]<;>omega
def Gq(its:List Value)(lo hi):slicePick its.toArray lo hi none=((its.drop<|HT.sIx its.length 0 lo).take<|HT.sIx its.length its.length hi-HT.sIx its.length 0 lo).toArray:=by
 obtain⟨h1,h2,h3⟩:=Lw lo hi its.toArray.size;unfold slicePick;rw[h1,h2,h3];simp only[sliceRange_one,pick_run,zzH]<;>rfl
def uA(K:zzA):V->Option Int->Option Int->Hp->VK->Prop:=λx lo hi H Q=>∃a xs,x = .ref a/\TX K H a xs/\∀p,H p=none->Q (.ref p) (upd H p<|.lst<|Bi xs lo hi)
def Hx:uf X (uA X.K):=by
 intro pins s σ H x v vl vu lo hi sl Q I rx hs pl pu h;obtain⟨a,xs,rfl,hx,q⟩:=h;cases rx;obtain⟨its,r,ht,hz⟩:=I.list hx;have hlen:=r.length;refine⟨"list",_,slot_list_getitem.lookup,ht.isList.typeIs, ?_⟩;refine wpAny_getItem_list_slice ht.isList hs pl pu .none (by simp) ?_ (by rw[zzH]<;>omega);rw[Gq,<-hlen];refine⟨.ref s.heap.objs.size,_,I.laid (t':=s.toks) (λb ob q=>zxD _ q) (zzN _) ?_,rfl,q _<|I.hok.fresh<|zzN _⟩;exact⟨zzO (UW xs lo hi) hz,_,0,(r.drop _).take _,zxF _ rfl⟩
def Qq:Vk X (.builtin "len") (λxs H Q=>∃p ys,xs=[.ref p]/\(TX X.K H p ys\/Uk X.K H p ys)/\Q (.int ys.length) H):=by
 intro pins s σ H xs us Q I r h;obtain⟨p,ys,rfl,hq,q⟩:=h;obtain⟨u,rfl,rx⟩:=vals1 r;cases rx;have hn:=QX
 rcases hq with hq|hq
 . obtain⟨its,r',pl,hz⟩:=I.list hq;have hlen:=r'.length;exact Calls.call_len_list pl.isList (by simp only[zzH]<;>omega) ⟨.int ys.length,H,I.tok _,⟨s.toks+1,by rw[zzH,hlen]⟩,q⟩
 . obtain⟨its,r',pl,hz⟩:=I.tuple hq;have hlen:=r'.length;exact len_tuple pl (by simp only[zzH]<;>omega) ⟨.int ys.length,H,I.tok _,⟨s.toks+1,by rw[zzH,hlen]⟩,q⟩
def KG:Vk X (.builtin "len") (λxs H Q=>∃z,xs=[.str z]/\z.length<=sizeLine/\Q (.int z.length) H):=by
 intro pins s σ H xs us Q I r h;obtain⟨z,rfl,hz,q⟩:=h;obtain⟨u,rfl,t,rfl⟩:=vals1 r;have hn:=QX;exact len_str (by omega) ⟨.int z.length,H,I.tok _,⟨_,rfl⟩,q⟩
def Vf:Vk X (.type "tuple") (λxs H Q=>∃p ys,xs=[.ref p]/\((TX X.K H p ys/\∀l,H l=none->Q (.ref l) (upd H l<|.tup ys))\/(Uk X.K H p ys/\Q (.ref p) H))):=by
 intro pins s σ H xs us Q I r h;obtain⟨p,ys,rfl,h⟩:=h;obtain⟨u,rfl,rx⟩:=vals1 r;cases rx
 rcases h with⟨hq,q⟩|⟨hq,q⟩
 . obtain⟨its,r',pl,hz⟩:=I.list hq;have hlen:=r'.length;refine call_tuple_list pl.isList (λh' kp=>?_) (by simp only[zzH]<;>omega);have I1:=I.kept (t':=s.toks) kp;have I2:=
    I1.laid (t':=s.toks) (λb o e=>zxD _ e) (zzN _) (show Za X.prog X.w _ _ _ (.tup ys)from⟨hz,its,r',IsTup.new _ _⟩)
   exact⟨.ref h'.objs.size,_,I2,rfl,q _<|I1.hok.fresh<|zzN _⟩
 . obtain⟨its,r',pl,hz⟩:=I.tuple hq;exact call_tuple_same pl ⟨.ref p,H,I,rfl,q⟩
def tP(K:zzA)(T:String)(x:V)(H:Hp):Prop:=match x with
 | .str _=>T="str"
 | .int _=>T="int"
 | .ref p=>(T="list"/\∃xs,TX K H p xs)\/(T="tuple"/\∃o,K.lookup p=some o/\o.cls = .type "tuple"/\o.dict=none) \/
  (T="dict"/\((∃kvs,H p=some (.dK kvs))\/∃kvs,H p=some (.dT kvs)))\/(T="set"/\∃S n,H p=some (.set S n))
 |_=>False
def Iq(I:Inv X pins σ H s)(r:RelV x v)(ty:tP X.K T x H):
 s.TypeIs v T/\∀a,v = .ref a->∃ob,s.heap.get? a=some ob/\ob.dict=none:=by
 cases x with
 |str z=>
  obtain⟨t,rfl⟩:=r;cases(ty);exact⟨typeIs_str s z t,λ_ e=>nomatch e⟩
 |int i=>
  obtain⟨t,rfl⟩:=r;cases(ty);exact⟨typeIs_int s i t,λ_ e=>nomatch e⟩
 |ref p=>
  cases r
  rcases ty with⟨rfl,xs,hq⟩|⟨rfl,o,hk,hc,hd⟩|⟨rfl,hk⟩|⟨rfl,S,n,hk⟩
  . obtain⟨its,_,pl,_⟩:=I.list hq;refine⟨pl.isList.typeIs,λa e=>?_⟩;cases e;obtain⟨o,n,e,c,hd,_⟩:=pl;exact⟨o,e,hd⟩
  . refine⟨⟨o,I.kIn p o hk,hc⟩,λa e=>?_⟩;cases e;exact⟨o,I.kIn _ o hk,hd⟩
  . have z:∃o,s.heap.get? p=some o/\o.ExactDict:=by
     rcases hk with⟨kvs,hk⟩|⟨kvs,hk⟩
     . obtain⟨_,_,_,_,o,_,_,e,ex,_⟩:=I.hok p _ hk;exact⟨o,e,ex⟩
     . obtain⟨_,_,_,_,o,_,_,e,ex,_⟩:=I.hok p _ hk;exact⟨o,e,ex⟩
    obtain⟨o,e,ex⟩:=z;refine⟨⟨o,e,ex.1⟩,λa e2=>?_⟩;cases e2;exact⟨o,e,ex.2.1⟩
  . obtain⟨o,_,_,_,e,ex,_⟩:=I.hok p _ hk;refine⟨⟨o,e,ex.1⟩,λa e2=>?_⟩;cases e2;exact⟨o,e,ex.2.1⟩
 |_=>exact False.elim ty
def tO(K:zzA)(T:String)(r:V->List V->Hp->VK->Prop)(to:TE)(t:TA):TE:=λσ H Q=>to σ H λx H1=>tP K T x H1/\t σ H1 λxs H2=>r x xs H2 Q
variable{o e:Expr}{es:List Expr}{to:TE}{t:TA}{name:Str}{apos cpos:Pos}{T id:String}{r:V->List V->Hp->VK->Prop}
def AQ(pa:PlainAttrs T)(slot:Slot T name id)(hty:typeOf (.builtin id)=pure (.type "method_descriptor"))(hm:sU X id r)(ho:PE X o to)(ha:PA X (e::es) t)
 (hbase:attributeBase o name X.env (eval o X.env)=eval o X.env:=by rfl)
 (hfew:((backTo cpos<|starEach (e::es) X.env).all (λx=>!x.1)&&(backToKw cpos<|keywordEach [] X.env).all (λx=>x.1.isSome)
  && decide ((e::es).length+([]:List Keyword).length+(if([]:List Keyword).isEmpty then 0 else 1)<30))=true:=by rfl)
 (hline:(apos.endLine==cpos.line)=true:=by rfl) (hs:starEach (e::es) X.env=(false,eval e X.env)::starEach es X.env:=by rfl) (hplain:(backTo cpos<|starEach es X.env).any (·.1)=false:=by rfl):
 PE X (.Call (.Attribute o name apos) (e::es) [] cpos) (tO X.K T r to t):=by
 intro pins s σ H Q I h;refine wpAny_Call_method_late hbase hfew hline rfl<|xX (ho pins s σ H _ I h) λv s1 ⟨x,H1,I1,r1,ty,q1⟩=>?_;obtain⟨h1,h2⟩:=Iq I1 r1 ty;refine⟨T,id,pa,slot,hty,h1,h2, ?_⟩;have hA:=ha cpos pins s1 σ H1 _ I1 q1;rw[hs]at hA ⊢;refine Calls.callWith_builtin (by show(false||(backTo cpos _).any (·.1))=false;rw[hplain]<;>rfl)<|Calls.evalArgs_plain ?_;exact xX hA λus s2 ⟨vs,H2,I2,r2,q2⟩=>hm pins s2 σ H2 x vs v us Q I2 r1 r2 q2
end
end L2
namespace L2
open PySem PySem.Spec PyProof.Rows
def sg(X:Cx)(id:String)(r:V->List V->Hp->VK->Prop):Prop:=
 ∀(pins:List (Addr×Obj)) (s:Shared) (σ:St) (H:Hp) (x:V) (xs:List V) (v:Value) (us:List Value) (Q:VK),Inv X pins σ H s->RelV x v->zM xs us->r x xs H Q->
  wpAny (model X.prog X.w) X.A (call (.builtin id) (v::us)) (EP X pins σ Q) X.xe s
def zM.one:∀{x:V}{us:List Value},zM [x] us->∃u,us=[u]/\RelV x u:=by
 intro x us h;cases h with
 |cons r t=>cases t;exact⟨_,rfl,r⟩
theorem zM.reverse(h:zM xs us):zM xs.reverse us.reverse:=by
 induction h with
 |nil=>exact .nil
 |cons r t ih=>rw[List.reverse_cons,List.reverse_cons];exact zM.append ih<|.cons r .nil
theorem zM.rep(h:zM xs us):∀k:Nat,zM (List.replicate k xs).flatten (List.replicate k us).flatten
 |0=>.nil
 |k+1=>by
  rw[List.replicate_succ,List.replicate_succ,List.flatten_cons,List.flatten_cons];exact zM.append h<|zM.rep h k
theorem foldl_rep(its):∀(k:Nat) (acc:List Value),
 List.foldl (λx1 x2=>x1++x2) acc.toArray (List.replicate k its.toArray)=(acc++(List.replicate k its).flatten).toArray
 |0,acc=>by simp
 |k+1,acc=>by
  have e:acc.toArray++its.toArray=(acc++its).toArray:=by simp
  have e2:(acc++its)++(List.replicate k its).flatten=acc++(List.replicate (k+1) its).flatten:=by
   rw[List.replicate_succ,List.flatten_cons,zyY]
  rw[<-e2,<-foldl_rep its k _,<-e,List.replicate_succ,List.foldl_cons]
section
variable{X:Cx}{pins:List (Addr×Obj)}{σ:St}{H:Hp}{s:Shared}{l b:Addr}{xs ys zs:List V}
def Inv.lset{its its':List Value}{n:Nat}{f}{t':Nat}(I:Inv X pins σ H s)(hH:H l=some (.lst xs))
 (e:s.heap.get? l=some {cls:=.type "list",data:=.seq its.toArray n}) (hf:f its.toArray=its'.toArray) (hv:zM ys its') (hz:ys.length<=sizeLine):
 Inv X pins σ (upd H l<|.lst ys) {s with heap:=s.heap.update l<|Obj.mapSeq f,toks:=t'}:=by
 have q:=PySem.IsL.update e f;rw[hf]at q;refine I.write (by rw[hH];exact trivial) (.inl rfl) (λb' u hb hu=>(Heap.get?_update_other s.heap _<|Ne.symm hb).trans hu) ⟨_,q⟩ ?_;exact⟨hz,its',_,hv,q⟩
def Inv.lnew(I:Inv X pins σ H s)(hv:zM ys its)(hz:ys.length<=sizeLine):
 Inv X pins σ (upd H s.heap.objs.size<|.lst ys) {s with heap:=s.heap.push {cls:=.type "list",data:=.seq its.toArray},toks:=t'}:=
 I.laid (λ_ _ q=>zxD _ q) (zzN _) ⟨hz,its,0,hv,zxF _ rfl⟩
theorem Inv.fresh(I:Inv X pins σ H s):H s.heap.objs.size=none:=I.hok.fresh<|zzN _
def Inv.lstM(I:Inv X pins σ H s)(hH:H l=some (.lst xs)):xs.length<=sizeLine/\∃(its:List Value) (n:Nat),zM xs its/\xs.length=its.length/\s.heap.get? l=some {cls:=.type "list",data:=.seq its.toArray n}:=by
 obtain⟨z,its,n,r,e⟩:=I.hok l _ hH;exact⟨z,its,n,r,r.length,e⟩
def S_(h:n<=sizeLine):Builtin.List.listTooLong n=false:=by
 unfold Builtin.List.listTooLong;exact zyF (by omega)
end
section
variable{X:Cx}
def Fw:V->List V->Hp->VK->Prop:=λx vs H Q=>∃l xs y,x = .ref l/\vs=[y]/\H l=some (.lst xs)/\xs.length<sizeLine/\Q .non (upd H l<|.lst<|xs++[y])
def Uj:sg X "list.append" Fw:=by
 intro pins s σ H x vs v us Q I rx rv h;obtain⟨l,xs,y,rfl,rfl,hH,hz,q⟩:=h;cases rx;obtain⟨u,rfl,ru⟩:=rv.one;obtain⟨z,its,n,r,hl,e⟩:=I.lstM hH;refine call_meets F.slot_list_append ⟨_,e,rfl⟩ F.entry_list_append (F.args_list_append_2 _ _) (PySem.list_append l its.toArray n u<|by rw[zzH];omega) ⟨e, ?_⟩;refine⟨.non,_,I.lset (its':=its++[u]) hH e (by simp) (r.append<|.cons ru .nil) ?_,rfl,q⟩;rw[zzJ,List.length_singleton];omega
def len_rep(xs:List α)(k:Nat):(List.replicate k xs).flatten.length=k*xs.length:=by
 induction k with
 |zero=>simp
 |succ k ih=>rw[List.replicate_succ,List.flatten_cons,zzJ,ih,Nat.succ_mul,Nat.add_comm]
end
end L2
namespace Att
open PySem PySem.W PySem.Calls PyProof.Rows
def U4:∀(ns:List Int) (vs:List Value),WellAll P h vs (ns.map WData.int)->IntsAre vs ns:=by
 intro ns
 induction ns with
 |nil=>
  intro vs w;rw[List.map_nil]at w;cases w;exact .nil
 |cons n ns ih=>
  intro vs w;rw[zyQ]at w;cases w with
  |cons a b=>
   cases a;exact .cons _ _<|ih _ b
def Bs{l:OpenLaw}{n:Nat}(hn:l.most=some n){P h args vals}
 (hpre:l.row.toRowW.claim.pre args=true) (hwl:WellAll P h vals args):
 ∃a vs ns,vals=[Value.ref a]/\args=[WData.list<|ns.map WData.int]/\h.get? a=some {cls:=.type "list",data:=.seq vs.toArray}/\IntsAre vs ns/\ns.length<=n:=by
 have hsh:=(pre_splitW hpre).1;have hc:l.pre.holds [] {args:=args}=true:=(pre_splitW hpre).2;obtain⟨d,r,rfl,h1,h2⟩:=hasAllW_cons hsh;obtain rfl:=hasAllW_nil h2;obtain⟨xs,rfl,h3⟩:=hasW_list h1;obtain⟨ns,rfl⟩:=items_int h3;have hlen:ns.length<=n:=by
  unfold OpenLaw.pre at hc;have h4:(WTm.not<|.lt (.lit<|.int (n:Int))<|.len<|.arg 0).holds [] {args:=[.list<|ns.map .int]}=true:=by
   have h4:=(holds_andW hc).1;rw[hn]at h4;exact h4
  have h5:=condW_of h4<|w_not<|w_lt w_lit<|w_len_list<|w_arg rfl;rw[zzB]at h5;refine Nat.le_of_not_lt λq=>?_;have q':n<(ns.length:Int):=by omega
  first
   |(rw[zyM q']at h5;exact absurd h5 (by decide))
   |(simp at h5;omega)
 cases hwl with
 |cons w1 w2=>
  cases w2;cases w1 with
  |list ho hall=>exact⟨_,_,ns,rfl,rfl,ho,U4 ns _ hall,hlen⟩
def Bb(l:OpenLaw)(args):l.row.toRowW.claim.post args (.bool true) args=true:=
 postW_of
  (show WShape.has [] _ .bool=true by first|rfl|decide|simp[WShape.has,WShape.arms,WShape.armsAll])
  (w_eq_bool (w_res rfl) w_lit) rfl
@[irreducible] def bg:Nat:=2 ^ 1048576
theorem BQ{i:Int}:∀{ns:List Int},i ∈ ns->Builtin.Int.intBits i<=WData.weightAll (ns.map WData.int)
 |a::r,h=>by
  show _<=WData.weight (.int a)+1+WData.weightAll (r.map WData.int)
  rcases zzC.mp h with rfl|h
  . exact zzO (Nat.le_of_eq rfl)<|zzO (Nat.le_add_right _ 1)<|Nat.le_add_right _ _
  . exact zzO (BQ h)<|Nat.le_add_left _ _
def J4{ns:List Int}(h:WData.layableAll [.list<|ns.map .int]=true):∀i ∈ ns,i.natAbs<bg:=λi m=>by
 have h:=of_decide_eq_true (Bool.and_eq_true_iff.mp (Bool.and_eq_true_iff.mp h).1).2;have g:Builtin.Int.intBits i<=1048576:=zzO (BQ m) h;unfold Builtin.Int.intBits at g;unfold bg
 by_cases z:i=0
 . subst z;exact Nat.two_pow_pos _
 . rw[if_neg<|by simpa using z]at g;exact(Nat.log2_lt<|by omega).mp g
def NH{l:OpenLaw}{n:Nat}{q loose XP YP d}
 (hn:l.most=some n) (hdf:d.params.defaults=[])
 (call:∀(w:World) (s₀ s₁:Shared) (mg mb:Str->Option Value) (fa:Addr) (o:Obj) (pm cd doc:Value) (a:Addr) (vs:List Value) (ns:List Int),
  Ground q loose [] XP w s₀ mg mb s₁.heap->YP w s₁.heap->
  s₁.heap.get? fa=some o->o.data = .func (docDef d.name d.params d.body d.scope pm cd doc)->s₁.heap.CodeRec cd d.name->mg d.name=some (.ref fa)->
  s₁.heap.get? a=some {cls:=.type "list",data:=.seq vs.toArray}->IntsAre vs ns->ns.length<=n->s₁.gens = #[]->(∀i ∈ ns,i.natAbs<bg)->
  codeAny (model l.prog w) callerA (.call (.ref fa) ⟨[.ref a],[]⟩) (λr s'=>r = .ok (.ret<|.bool true)/\OldK s₁.heap s'.heap/\s'.os=s₁.os/\AllBare s'.gens) s₁):
 WalkO q loose XP YP l.row.toRowW d [] (λf vs=>PySem.call f vs):=by
 intro w s₀ s₁ mg mb G Y fa o pm cd doc dV kV ho hd hcd hD hmg hg args vals as hpre hlay hrd hwl hlo;obtain rfl:dV = .none:=Dflts.none hD hdf;obtain rfl:kV = .none:=Dflts.noKw hD;obtain⟨a,vs,ns,rfl,rfl,hobj,hints,hlen⟩:=Bs hn hpre hwl;refine enter_call<|codeAny_mono (call w s₀ s₁ mg mb fa o pm cd doc a vs ns G Y ho (fd_plain hd) hcd hmg hobj hints hlen hg<|J4 hlay) λr s' hq=>?_;obtain⟨rfl,h2,h3,h4⟩:=hq;exact⟨.inl ⟨.bool true,.bool true,[],rfl,λ_=>rfl,.bool true,Bb l _,λ_=>⟨List.Pairwise.nil,λ_ hm=>(nomatch hm)⟩⟩,h2,h3,h4⟩
end Att
namespace L2
open PySem PySem.Spec PyProof.Rows
theorem Kd:∀{vs:List Value}{ns:List Int},IntsAre vs ns->zM (ns.map V.int) vs
 |_,_,.nil=>.nil
 |_,_,.cons n t h=>.cons ⟨t,rfl⟩<|Kd h
def Jj(H:Hp):Prop:=∀b,H b=none\/∃o xs,H b=some (.frz o<|.lst xs)
def Sk{P w K mg mb CX}{k:Nat}{fa a fd x sp s₁ vs ns}
 (KX:K.In s₁.heap) (hns:s₁.heap.Ns mainGlobals mg) (hb:s₁.heap.Ns builtinsNs mb) (hbb:∀x:Str,x≠"__name__"->mb x=bootBuiltins x) (hlim:s₁.heap.NoLimit) (hg:s₁.gens = #[])
 (ha:s₁.heap.get? a=some {cls:=.type "list",data:=.seq vs.toArray}) (hi:IntsAre vs ns) (hl:ns.length<=sizeLine) (hr:Room k callerA)
 (F:∀base:Heap,K.In base->base.Ns mainGlobals mg->FnOk P w K mg base CX k fa fd [x] sp) (hbind:∀(s:Shared) (u:Value),BindsTo s fd ⟨[u],[]⟩ [(x,u)])
 (hsp:∀H:Hp,Jj H->Sv K H a (ns.map V.int)->sp [.ref a] H (λv _=>v = .bl true) λ_ _ _=>False)
 (hCX:∀H e s',CX [] H s₁ (λ_ _ _=>False) e s'->False):
 codeAny (model P w) callerA (.call (.ref fa) ⟨[.ref a],[]⟩) (λr s'=>r = .ok (.ret<|.bool true)/\OldK s₁.heap s'.heap/\s'.os=s₁.os/\AllBare s'.gens) s₁:=by
 have rv:=Kd hi;have Hz:=hi.length;have core:∀H:Hp,Jj H->Sv K H a (ns.map V.int)->UQ P w H s₁.heap->(∀b,H b≠none->b=a)->(H a≠none->K.lookup a=none)->
  codeAny (model P w) callerA (.call (.ref fa) ⟨[.ref a],[]⟩) (λr s'=>r = .ok (.ret<|.bool true)/\OldK s₁.heap s'.heap/\s'.os=s₁.os/\AllBare s'.gens) s₁:=by
  intro H hO hS hok hA hK;have base_of:∀{b:Addr}{o:Obj},s₁.heap.get? b=some o->H b=none->(F_ s₁.heap H).get? b=some o:=λe n=>BD e n;have noA:∀{b:Addr}{o:Obj}{es:Array DictEntry}{ep:Nat},s₁.heap.get? b=some o->o.data = .dict es ep->H b=none:=λ{b o es ep} e d=>by
   cases q:H b with
   |none=>rfl
   |some u=>
    have e':b=a:=hA b (by rw[q];simp);subst e';rw[ha]at e;cases e;have d':Data.seq vs.toArray _=Data.dict es ep:=d;cases d'
  have nsK:∀{b:Addr}{m:Str->Option Value},s₁.heap.Ns b m->(F_ s₁.heap H).Ns b m:=λ{b m} ⟨o,es,ep,e,d,r⟩=>⟨o,es,ep,base_of e<|noA e d,d,r⟩;have hKb:=λb o e=>base_of (KX b o e) (by
   cases q:H b with
   |none=>rfl
   |some u=>
    have e':b=a:=hA b (by rw[q];simp);subst e';rw[hK<|by rw[q];simp]at e;cases e)
  have hM:Mod K mg _:=⟨hKb,nsK hns,⟨mb,nsK hb,hbb⟩,let⟨mc,h1,h2⟩:=hlim;⟨mc,nsK h1,h2⟩⟩;have e0:Env0 P w K mg _ callerA [] s₁ H:=⟨rfl,hM,λb o e=>HB e,Nat.le_of_eq<|FY _ _,trivial,λb hb=>absurd (show b ∈ ([]:List Addr)from hb) (by simp),hok,.of_eq hg⟩;refine codeAny_mono ((F _ hKb<|nsK hns).run callerA [] s₁ H ⟨_,[]⟩ [.ref a] [.ref a] _ _ hr e0 (hbind s₁<|.ref a) (.cons rfl .nil)<|hsp H hO hS) λr s' h=>?_;cases r with
  |error e=>exact(hCX H e s' h).elim
  |ok fl=>
   cases fl with
   |next=>exact False.elim h
   |brk=>exact False.elim h
   |cont=>exact False.elim h
   |ret u=>
    obtain⟨v,H',os,bare,un,hok',r',q⟩:=h;have q':v = .bl true:=q;subst q';obtain rfl:u=Value.bool true:=r';refine⟨rfl,OldK.of_keep λb o e=>?_,os,bare⟩;cases q:H b with
    |none=>exact un.keep b o e q (by intro z;exact absurd (show b ∈ ([]:List Addr)from z)<|by simp) (by simp)
    |some u=>
     rcases hO b with z|⟨ob,xs,z⟩
     . rw[q]at z;cases z
     . have z2:=un.frzs b ob _ z;obtain⟨e1,_⟩:=hok b _ z;obtain⟨e2,_⟩:=hok' b _ z2;rw[e]at e1;cases e1;exact e2
 cases hk:K.lookup a with
 |some o=>
  have e:=KX a o hk;rw[ha]at e;cases e;refine core (λ_=>none) (λ_=>.inl rfl) (.inr ⟨vs.toArray,_,hk,by rw[zzH,Hz];exact hl,by simpa using rv⟩) (λb u z=>by have z':none=some u:=z;cases z') (λb z=>absurd rfl z) λz=>absurd rfl z
 |none=>
  refine core (λb=>if b=a then some _ else none) (λb=>?_) (.inl<|.inr ⟨{cls:=.type "list",data:=.seq vs.toArray},if_pos rfl⟩) (λb u z=>?_) (λb z=>?_) λ_=>hk
  . by_cases hb:b=a
    . exact .inr ⟨_,_,if_pos hb⟩
    . exact .inl<|if_neg hb
  . by_cases hb:b=a
    . have z':=(if_pos hb).symm.trans z;cases z';subst hb;exact⟨ha,by rw[zzB];exact hl,vs,_,rv,ha⟩
    . have z':=(if_neg hb).symm.trans z;cases z'
  . by_cases hb:b=a
    . exact hb
    . exact absurd (if_neg hb) z
end L2
namespace L2
open PySem PySem.Spec PyProof.Rows
def walk_of{l:PySem.W.OpenLaw}{n k:Nat}{q loose XP YP d}{K:Params->zzA}{CX:World->CB}{sp:World->Sp}{x}
 (hn:l.most=some n) (hn2:n<=sizeLine) (hdf:d.params.defaults=[]) (hr:Room k callerA)
 (hY:∀(w:World) (h:Heap),YP w h->(K w.params).In h)
 (F:∀(w:World) (mg:Str->Option Value) (fa:Addr) (h:Heap),(K w.params).In h->h.Ns mainGlobals mg->mg d.name=some (.ref fa)->
  ∃fd:FuncData,(∀(s:Shared) (u:Value),BindsTo s fd ⟨[u],[]⟩ [(x,u)])/\
   ∀base:Heap,(K w.params).In base->base.Ns mainGlobals mg->FnOk l.prog w (K w.params) mg base (CX w) k fa fd [x] (sp w))
 (hsp:∀(w:World) (H:Hp) (a:Addr) (ns:List Int),ns.length<=n->(∀i ∈ ns,i.natAbs<Att.bg)->Jj H->Sv (K w.params) H a (ns.map V.int)->sp w [.ref a] H (λv _=>v = .bl true) λ_ _ _=>False)
 (hCX:∀(w:World) (H:Hp) (s:Shared) (e:Value) (s':Shared),CX w [] H s (λ_ _ _=>False) e s'->False):
 PySem.W.WalkO q loose XP YP l.row.toRowW d [] (λf vs=>PySem.call f vs):=by
 refine Att.NH hn hdf λw s₀ s₁ mg mb fa o pm cd doc a vs ns G Y ho hd hcd hmg hobj hints hlen hg hb'=>?_;have KX:=hY w _ Y;obtain⟨fd,hb,hF⟩:=F w mg fa _ KX G.T.g hmg;exact Sk KX G.T.g G.T.b G.T.builtins G.T.nolimit hg hobj hints (zzO hlen hn2) hr hF hb (λH hO hS=>hsp w H a ns hlen hb' hO hS) λH e s'=>hCX w H s₁ e s'
end L2
namespace L2
open PySem PySem.Spec PyProof.Rows
def inClass(s:Stmt)(j:Nat):Stmt:=match s with
 | .ClassDef _ _ _ body _ _ _ _ _ _ _=>body.getD j (.Pass ⟨0,0,0,0⟩)
 |_=>.Pass ⟨0,0,0,0⟩
def Ru(s:Stmt):Arguments:=match s with
 | .FunctionDef _ a _ _ _ _ _ _ _ _=>a
 |_=>{posonlyargs:=[],args:=[],vararg:=none,kwonlyargs:=[],kw_defaults:=[],kwarg:=none,defaults:=[]}
def Zs(s:Stmt):List Stmt:=match s with
 | .FunctionDef _ _ b _ _ _ _ _ _ _=>b
 |_=>[]
def zh(s:Stmt):Scope:=match s with
 | .FunctionDef _ _ _ _ _ _ sc _ _ _=>sc
 |_=>{kind:=.function,names:=[],isGenerator:=false,isCoroutine:=false}
abbrev wH:CB:=λ_ _ _ _ _ _=>False
abbrev E0:XK:=λ_ _ _=>False
def UD:wR wH X E0:=λ_ _ _ _ _ _ _ h=>h.elim
structure Fun(K:zzA)(x qual:Str)(st:Stmt)(f:Addr)(fd:FuncData):Prop where
 ex:∃(oc:Value) (od:Option Addr) (kV doc pm:Value) (an:Option Addr) (cdv ct:Value) (osl:Array (Option Value)),
  fd=W.fnOf x qual (Ru st) (Zs st) (zh st) .none kV doc pm an cdv ct/\K.lookup f=some ⟨oc,od,.func fd,osl⟩/\W.codeIn K cdv qual=true
 kp:W.keepIn K (.ref f)=true
section
variable{P:Program}{w:World}{K:zzA}{mg:Str->Option Value}{base:Heap}
def Fun.ok{x qual st f fd N ps}{k:Nat}{sp}(F:Fun K x qual st f fd)(S:FnScope N ps (zh st))(len:∀vs H Q E,sp vs H Q E->vs.length=ps.length)
 (hbody:∀(cdv:Value) (A:Around) (outer:List Env) (s:Shared) (H:Hp) (vs:List V) (Q:VK) (E:XK),Room k (A.deeper<|envOfC qual (zh st) s.heap.objs.size f cdv)->sp vs H Q E->
  ∃t,L3 (T7 wH P w K mg base N qual (zh st) f cdv A outer s H E).nox (Zs st) t/\t {nx:=λ_ H'=>Q .non H',rt:=Q} (start N vs) H):FnOk P w K mg base wH (k+1) f fd ps sp:=by
 obtain⟨oc,od,kV,doc,pm,an,cdv,ct,osl,rfl,lk,hcd⟩:=F.ex;refine DX lk hcd S len λA outer s H vs Q E hr hsp=>?_;obtain⟨t,h,q⟩:=hbody cdv A outer s H vs Q E hr hsp;exact⟨t,h.nox,q⟩
def Fun.binds{x qual st f fd ps}(F:Fun K x qual st f fd)
 (h:∀(kV doc pm:Value) (an:Option Addr) (cdv ct:Value) (us:List Value),us.length=ps.length->bindArgs (W.fnOf x qual (Ru st) (Zs st) (zh st) .none kV doc pm an cdv ct) ⟨us,[]⟩=pure (ps.zip us)):Binds K fd ps []:=by
 obtain⟨oc,od,kV,doc,pm,an,cdv,ct,osl,rfl,lk,hcd⟩:=F.ex;exact .all<|h kV doc pm an cdv ct
end
def FL(h:n<=1000):n<sizeLine:=Nat.lt_of_le_of_lt h (by decide)
section
variable{X:Cx}
def pv(i:Nat)(hN:X.N[i]? = some x:=by rfl)(hv:uh X.env.scope x:=by first|exact Or.inl rfl|exact Or.inr (Or.inl rfl)|exact Or.inr (Or.inr rfl))(hd:(x==("__debug__":Str))=false:=by decide)
 (hcd:(x==("__classdict__":Str))=false:=by decide):PE X (.Name x pos) (Bd i):=Bz hN hv hd hcd
end
end L2
end
section
namespace G35
open PySem PySem.W PyProof.Rows L2
def top(i:Nat):Stmt:=PySem.Challenge.pw_stretchdeeds_k35_whole_wide_trees.main.body.getD i<|.Pass ⟨0,0,0,0⟩
abbrev xI:Stmt:=inClass (top 2) 0
abbrev Ww:Stmt:=top 3
abbrev ZY:Stmt:=inClass (top 22) 3
abbrev Zm:Stmt:=inClass (top 24) 0
abbrev wW:Stmt:=inClass (top 25) 0
abbrev Zr:Stmt:=inClass (top 23) 3
abbrev WJ:Stmt:=top 4
abbrev Wy:Stmt:=top 5
abbrev WN:Stmt:=top 6
abbrev Z8:Stmt:=inClass (top 22) 1
abbrev Zh:Stmt:=inClass (top 23) 1
abbrev xN:Stmt:=inClass (top 21) 4
abbrev YG:Stmt:=top 7
abbrev vE:Stmt:=inClass (top 22) 4
abbrev wj:Stmt:=inClass (top 23) 4
abbrev wu:Stmt:=inClass (top 21) 8
abbrev Zo:Stmt:=top 8
abbrev Zd:Stmt:=inClass (top 22) 5
abbrev w_:Stmt:=inClass (top 23) 5
abbrev Zn:Stmt:=inClass (top 21) 9
abbrev YW:Stmt:=top 9
abbrev Zi:Stmt:=top 10
abbrev YK:Stmt:=top 11
abbrev Qw:Stmt:=top 12
abbrev V1:Stmt:=top 13
abbrev WV:Stmt:=top 14
abbrev wX:Stmt:=top 15
abbrev wc:Stmt:=top 16
abbrev VW:Stmt:=top 17
abbrev wx:Stmt:=top 18
abbrev ZZ:Stmt:=top 19
abbrev vB:Stmt:=top 27
abbrev Z6:Stmt:=top 28
abbrev Zg:Stmt:=top 29
abbrev Y2:Stmt:=top 30
abbrev Z0:Stmt:=top 31
abbrev Xc:Stmt:=top 32
abbrev YE:Stmt:=top 33
abbrev Y9:Stmt:=top 34
abbrev xZ:Stmt:=top 35
abbrev YV:Stmt:=top 36
abbrev wF:Stmt:=top 37
abbrev YC:Stmt:=top 38
abbrev wY:Stmt:=top 39
abbrev xJ:Stmt:=inClass (top 21) 7
abbrev WG:Stmt:=top 40
abbrev xv:Stmt:=inClass (top 21) 0
abbrev N7:Stmt:=top 41
abbrev hpg:=PySem.Challenge.pw_stretchdeeds_k35_whole_wide_trees
abbrev hva:Value:=.str "__main__" 164
abbrev hvb:Value:=.str "stretchdeeds.trees" 194
abbrev hvc:Value:=.str "stretchdeeds.wides" 401
abbrev hvd:Value:=.str "law_stretchdeeds_k35_whole_wide_trees" 662
abbrev kF(n q:Str)(s:Stmt)(pm hcd:Value):Obj:=⟨.type "function",none,.func<|fnOf n q (Ru s) (Zs s) (zh s) .none .none .none pm none hcd .none,#[]⟩
abbrev kD(es:List DictEntry)(n:Nat):Obj:=⟨.type "dict",none,.dict es.toArray n,#[]⟩
abbrev kE(P:Params)(x:Str)(t:Nat)(v:Value):DictEntry:=⟨PyData.keyHash P x,.str x t,v⟩
abbrev kR(P:Params)(x:Str)(t:Nat)(a:Addr):DictEntry:=kE P x t<|.ref a
abbrev hfl(c:Value)(l:List Value):Obj:=⟨c,none,.fields l.toArray,#[]⟩
abbrev hco(n q:Str)(t u:Nat)(l k g:Int)(b:Bool)(a:Nat)(r s v:Value):Obj:=hfl (.type "code") [.str n t,.str q<|t+1,.str "/claim/cut.py" (t+2),.int l 0,.int k 0,.int 0 0,.int 0 0,.int g 0,.ref a,.bool b,.int 181 0,.ref<|a+1,.none,r,s,v,.int u 0,.int l 0,.str "/claim/cut.py" (u+1)]
abbrev hc7(n q:Str)(t u:Nat)(l k:Int)(a:Nat):=hco n q t u l k 3 true a (.ref<|a+2) (.ref<|a+3)<|.ref<|a+4
abbrev hc5(n q:Str)(t:Nat)(l k:Int)(a:Nat):=hco n q t (t+3) l k 3 true a .none .none<|.ref<|a+2
noncomputable abbrev hen(P:Params):List DictEntry:=[kE P "__doc__" 166 .none,kE P "__package__" 167 .none,kE P "__loader__" 168<|.builtin "__main__.__loader__#opaque",kE P "__spec__" 169 .none,kR P "__annotations__" 170 6,kR P "__builtins__" 171 4,kE P "__file__" 173<|.str "/claim/cut.py" 172,kE P "__cached__" 174 .none,kR P "_wall" 193 21,kR P "Knot" 236 38,kR P "leaf_of" 243 49,kR P "knot_of" 252 56,kR P "tree_of" 261 63,kR P "size_of" 268 70,kR P "whole_of" 276 77,kR P "both_waits" 285 84,kR P "done_all" 296 91,kR P "turned_all" 304 98,kR P "parts_of" 314 105,kR P "gather" 329 112,kR P "row_of" 338 119,kR P "walk_of" 347 126,kR P "leaned_left" 358 133,kR P "leaned_right" 369 140,kR P "evened" 378 147,kR P "put_together" 388 154,kR P "parted_at" 400 161,kR P "Wides" 498 237,kR P "Sums" 554 287,kR P "Picks" 613 337,kR P "Mosts" 637 356,kR P "Leasts" 661 375,kR P "_law_cell_at" 671 384,kR P "_law_mixed" 680 391,kR P "_law_number" 688 398,kR P "_law_part" 697 405,kR P "_law_value" 703 410,kR P "_law_deed" 709 415,kR P "_law_best" 715 420,kR P "_law_come" 721 425,kR P "_law_made_one" 727 430,kR P "_law_made" 733 435,kR P "_law_is_value" 743 442,kR P "_law_gone" 755 449,kR P "_law_is_tree" 769 456,kR P "_law_new" 792 463,kR P "law" 798 468]
def K(P:Params):Frag:=
 (nat_lit 3,kD (kE P "__name__" 165 hvd::hen P) 48)::
 (nat_lit 34,hc7 "__init__" "Knot.__init__" 208 218 7 7 29)::
 (nat_lit 35,kF "__init__" "Knot.__init__" xI hvb<|.ref 34)::
 (nat_lit 37,kD [kE P "__module__" 203 hvb,kE P "__firstlineno__" 207<|.int (5) 206,kR P "__init__" 220 35,kR P "__static_attributes__" 229 36,kR P "__dict__" 231 39,kR P "__weakref__" 233 40,kE P "__doc__" 234 .none] 4)::
 (nat_lit 38,⟨(.type "type"),none,.cls {name:="Knot",bases:=[(.type "object")],mro:=[(.ref 38),(.type "object")],ns:=37,qualname:="Knot",hasDict:=true,slotNames:=[],subclasses:=[],abstract:=false,collection:=none,hasDel:=false},#[none,none,some<|.str "Knot" 196,some<|.str "Knot" 204,some<|.builtin "object.__new__",some<|.bool true]⟩)::
 (nat_lit 48,hc7 "leaf_of" "leaf_of" 237 241 16 1 43)::
 (nat_lit 49,kF "leaf_of" "leaf_of" Ww hvb<|.ref 48)::
 (nat_lit 55,hc7 "knot_of" "knot_of" 244 250 18 3 50)::
 (nat_lit 56,kF "knot_of" "knot_of" WJ hvb<|.ref 55)::
 (nat_lit 62,hc7 "tree_of" "tree_of" 253 259 20 2 57)::
 (nat_lit 63,kF "tree_of" "tree_of" Wy hvb<|.ref 62)::
 (nat_lit 69,hc7 "size_of" "size_of" 262 266 27 1 64)::
 (nat_lit 70,kF "size_of" "size_of" WN hvb<|.ref 69)::
 (nat_lit 76,hc7 "whole_of" "whole_of" 269 274 29 2 71)::
 (nat_lit 77,kF "whole_of" "whole_of" YG hvb<|.ref 76)::
 (nat_lit 83,hc7 "both_waits" "both_waits" 277 283 31 3 78)::
 (nat_lit 84,kF "both_waits" "both_waits" Zo hvb<|.ref 83)::
 (nat_lit 90,hc7 "done_all" "done_all" 286 294 37 3 85)::
 (nat_lit 91,kF "done_all" "done_all" YW hvb<|.ref 90)::
 (nat_lit 97,hc7 "turned_all" "turned_all" 297 302 45 2 92)::
 (nat_lit 98,kF "turned_all" "turned_all" Zi hvb<|.ref 97)::
 (nat_lit 104,hc7 "parts_of" "parts_of" 305 312 49 2 99)::
 (nat_lit 105,kF "parts_of" "parts_of" YK hvb<|.ref 104)::
 (nat_lit 111,hc7 "gather" "gather" 315 327 58 5 106)::
 (nat_lit 112,kF "gather" "gather" Qw hvb<|.ref 111)::
 (nat_lit 118,hc7 "row_of" "row_of" 330 336 67 2 113)::
 (nat_lit 119,kF "row_of" "row_of" V1 hvb<|.ref 118)::
 (nat_lit 125,hc7 "walk_of" "walk_of" 339 345 72 2 120)::
 (nat_lit 126,kF "walk_of" "walk_of" WV hvb<|.ref 125)::
 (nat_lit 132,hc7 "leaned_left" "leaned_left" 348 356 79 3 127)::
 (nat_lit 133,kF "leaned_left" "leaned_left" wX hvb<|.ref 132)::
 (nat_lit 139,hc7 "leaned_right" "leaned_right" 359 367 85 3 134)::
 (nat_lit 140,kF "leaned_right" "leaned_right" wc hvb<|.ref 139)::
 (nat_lit 146,hc7 "evened" "evened" 370 376 91 3 141)::
 (nat_lit 147,kF "evened" "evened" VW hvb<|.ref 146)::
 (nat_lit 153,hc7 "put_together" "put_together" 379 386 97 3 148)::
 (nat_lit 154,kF "put_together" "put_together" wx hvb<|.ref 153)::
 (nat_lit 160,hc7 "parted_at" "parted_at" 389 398 109 3 155)::
 (nat_lit 161,kF "parted_at" "parted_at" ZZ hvb<|.ref 160)::
 (nat_lit 174,hc7 "__init__" "Wides.__init__" 415 420 124 2 169)::
 (nat_lit 175,kF "__init__" "Wides.__init__" xv hvc<|.ref 174)::
 (nat_lit 202,hc7 "nothing" "Wides.nothing" 447 451 136 1 197)::
 (nat_lit 203,kF "nothing" "Wides.nothing" xN hvc<|.ref 202)::
 (nat_lit 223,hc7 "wait_of" "Wides.wait_of" 470 475 145 2 218)::
 (nat_lit 224,kF "wait_of" "Wides.wait_of" xJ hvc<|.ref 223)::
 (nat_lit 228,hc5 "behind" "Wides.behind" 478 148 3 225)::
 (nat_lit 229,kF "behind" "Wides.behind" wu hvc<|.ref 228)::
 (nat_lit 233,hc5 "made" "Wides.made" 484 154 4 230)::
 (nat_lit 234,kF "made" "Wides.made" Zn hvc<|.ref 233)::
 (nat_lit 236,kD [kE P "__module__" 410 hvc,kE P "__firstlineno__" 414<|.int (122) 413,kR P "__init__" 422 175,kR P "is_value" 430 182,kR P "is_deed" 438 189,kR P "is_sign" 446 196,kR P "nothing" 453 203,kR P "has_sign" 462 210,kR P "idle" 469 217,kR P "wait_of" 477 224,kR P "behind" 483 229,kR P "made" 489 234,kR P "__static_attributes__" 491 235,kR P "__dict__" 493 238,kR P "__weakref__" 495 239,kE P "__doc__" 496 .none] 4)::
 (nat_lit 237,⟨(.type "type"),none,.cls {name:="Wides",bases:=[(.type "object")],mro:=[(.ref 237),(.type "object")],ns:=236,qualname:="Wides",hasDict:=true,slotNames:=[],subclasses:=[(.ref 287),(.ref 337)],abstract:=false,collection:=none,hasDel:=false},#[none,none,some<|.str "Wides" 403,some<|.str "Wides" 411,some<|.builtin "object.__new__",some<|.bool true]⟩)::
 (nat_lit 261,hc7 "zero" "Sums.zero" 519 523 164 1 256)::
 (nat_lit 262,kF "zero" "Sums.zero" Z8 hvc<|.ref 261)::
 (nat_lit 273,hc5 "join" "Sums.join" 533 170 3 270)::
 (nat_lit 274,kF "join" "Sums.join" ZY hvc<|.ref 273)::
 (nat_lit 278,hc5 "across" "Sums.across" 539 173 3 275)::
 (nat_lit 279,kF "across" "Sums.across" vE hvc<|.ref 278)::
 (nat_lit 283,hc5 "often" "Sums.often" 545 176 3 280)::
 (nat_lit 284,kF "often" "Sums.often" Zd hvc<|.ref 283)::
 (nat_lit 286,kD [kE P "__module__" 506 hvc,kE P "__firstlineno__" 510<|.int (159) 509,kR P "is_part" 518 255,kR P "zero" 525 262,kR P "unit" 532 269,kR P "join" 538 274,kR P "across" 544 279,kR P "often" 550 284,kR P "__static_attributes__" 551 285,kE P "__doc__" 552 .none] 2)::
 (nat_lit 287,⟨(.type "type"),none,.cls {name:="Sums",bases:=[(.ref 237)],mro:=[(.ref 287),(.ref 237),(.type "object")],ns:=286,qualname:="Sums",hasDict:=true,slotNames:=[],subclasses:=[],abstract:=false,collection:=none,hasDel:=false},#[some<|.ref 242,none,some<|.str "Sums" 499,some<|.str "Sums" 507,some<|.builtin "object.__new__",some<|.bool true]⟩)::
 (nat_lit 309,hc7 "zero" "Picks.zero" 575 579 183 1 304)::
 (nat_lit 310,kF "zero" "Picks.zero" Zh hvc<|.ref 309)::
 (nat_lit 321,hc5 "join" "Picks.join" 589 189 3 318)::
 (nat_lit 322,kF "join" "Picks.join" Zr hvc<|.ref 321)::
 (nat_lit 326,hc5 "across" "Picks.across" 595 192 3 323)::
 (nat_lit 327,kF "across" "Picks.across" wj hvc<|.ref 326)::
 (nat_lit 333,hc7 "often" "Picks.often" 601 607 195 3 328)::
 (nat_lit 334,kF "often" "Picks.often" w_ hvc<|.ref 333)::
 (nat_lit 336,kD [kE P "__module__" 562 hvc,kE P "__firstlineno__" 566<|.int (178) 565,kR P "is_part" 574 303,kR P "zero" 581 310,kR P "unit" 588 317,kR P "join" 594 322,kR P "across" 600 327,kR P "often" 609 334,kR P "__static_attributes__" 610 335,kE P "__doc__" 611 .none] 2)::
 (nat_lit 337,⟨(.type "type"),none,.cls {name:="Picks",bases:=[(.ref 237)],mro:=[(.ref 337),(.ref 237),(.type "object")],ns:=336,qualname:="Picks",hasDict:=true,slotNames:=[],subclasses:=[(.ref 356),(.ref 375)],abstract:=false,collection:=none,hasDel:=false},#[some<|.ref 290,none,some<|.str "Picks" 555,some<|.str "Picks" 563,some<|.builtin "object.__new__",some<|.bool true]⟩)::
 (nat_lit 352,hc7 "best" "Mosts.best" 626 631 199 2 347)::
 (nat_lit 353,kF "best" "Mosts.best" Zm hvc<|.ref 352)::
 (nat_lit 355,kD [kE P "__module__" 621 hvc,kE P "__firstlineno__" 625<|.int (197) 624,kR P "best" 633 353,kR P "__static_attributes__" 634 354,kE P "__doc__" 635 .none] 2)::
 (nat_lit 356,⟨(.type "type"),none,.cls {name:="Mosts",bases:=[(.ref 337)],mro:=[(.ref 356),(.ref 337),(.ref 237),(.type "object")],ns:=355,qualname:="Mosts",hasDict:=true,slotNames:=[],subclasses:=[],abstract:=false,collection:=none,hasDel:=false},#[some<|.ref 340,none,some<|.str "Mosts" 614,some<|.str "Mosts" 622,some<|.builtin "object.__new__",some<|.bool true]⟩)::
 (nat_lit 371,hc7 "best" "Leasts.best" 650 655 203 2 366)::
 (nat_lit 372,kF "best" "Leasts.best" wW hvc<|.ref 371)::
 (nat_lit 374,kD [kE P "__module__" 645 hvc,kE P "__firstlineno__" 649<|.int (201) 648,kR P "best" 657 372,kR P "__static_attributes__" 658 373,kE P "__doc__" 659 .none] 2)::
 (nat_lit 375,⟨(.type "type"),none,.cls {name:="Leasts",bases:=[(.ref 337)],mro:=[(.ref 375),(.ref 337),(.ref 237),(.type "object")],ns:=374,qualname:="Leasts",hasDict:=true,slotNames:=[],subclasses:=[],abstract:=false,collection:=none,hasDel:=false},#[some<|.ref 359,none,some<|.str "Leasts" 638,some<|.str "Leasts" 646,some<|.builtin "object.__new__",some<|.bool true]⟩)::
 (nat_lit 383,hc7 "_law_cell_at" "_law_cell_at" 664 669 206 2 378)::
 (nat_lit 384,kF "_law_cell_at" "_law_cell_at" vB hvd<|.ref 383)::
 (nat_lit 390,hc7 "_law_mixed" "_law_mixed" 672 678 210 2 385)::
 (nat_lit 391,kF "_law_mixed" "_law_mixed" Z6 hvd<|.ref 390)::
 (nat_lit 397,hc7 "_law_number" "_law_number" 681 686 216 2 392)::
 (nat_lit 398,kF "_law_number" "_law_number" Zg hvd<|.ref 397)::
 (nat_lit 404,hc7 "_law_part" "_law_part" 689 695 220 3 399)::
 (nat_lit 405,kF "_law_part" "_law_part" Y2 hvd<|.ref 404)::
 (nat_lit 409,hc5 "_law_value" "_law_value" 698 224 3 406)::
 (nat_lit 410,kF "_law_value" "_law_value" Z0 hvd<|.ref 409)::
 (nat_lit 414,hc5 "_law_deed" "_law_deed" 704 226 3 411)::
 (nat_lit 415,kF "_law_deed" "_law_deed" Xc hvd<|.ref 414)::
 (nat_lit 419,hc5 "_law_best" "_law_best" 710 237 2 416)::
 (nat_lit 420,kF "_law_best" "_law_best" YE hvd<|.ref 419)::
 (nat_lit 424,hc5 "_law_come" "_law_come" 716 244 3 421)::
 (nat_lit 425,kF "_law_come" "_law_come" Y9 hvd<|.ref 424)::
 (nat_lit 429,hc5 "_law_made_one" "_law_made_one" 722 248 3 426)::
 (nat_lit 430,kF "_law_made_one" "_law_made_one" xZ hvd<|.ref 429)::
 (nat_lit 434,hc5 "_law_made" "_law_made" 728 258 3 431)::
 (nat_lit 435,kF "_law_made" "_law_made" YV hvd<|.ref 434)::
 (nat_lit 441,hc7 "_law_is_value" "_law_is_value" 734 741 260 3 436)::
 (nat_lit 442,kF "_law_is_value" "_law_is_value" wF hvd<|.ref 441)::
 (nat_lit 448,hc7 "_law_gone" "_law_gone" 744 753 267 3 443)::
 (nat_lit 449,kF "_law_gone" "_law_gone" YC hvd<|.ref 448)::
 (nat_lit 455,hc7 "_law_is_tree" "_law_is_tree" 756 767 280 5 450)::
 (nat_lit 456,kF "_law_is_tree" "_law_is_tree" wY hvd<|.ref 455)::
 (nat_lit 462,hc7 "_law_new" "_law_new" 770 790 289 5 457)::
 (nat_lit 463,kF "_law_new" "_law_new" WG hvd<|.ref 462)::
 (nat_lit 467,hc5 "law" "law" 793 314 1 464)::
 (nat_lit 468,kF "law" "law" N7 hvd<|.ref 467)::
 []
def kA:List Addr:=[3,34,35,37,38,48,49,55,56,62,63,69,70,76,77,83,84,90,91,97,98,104,105,111,112,118,119,125,126,132,133,139,140,146,147,153,154,160,161,174,175,202,203,223,224,228,229,233,234,236,237,261,262,273,274,278,279,283,284,286,287,309,310,321,322,326,327,333,334,336,337,352,353,355,356,371,372,374,375,383,384,390,391,397,398,404,405,409,410,414,415,419,420,424,425,429,430,434,435,441,442,448,449,455,456,462,463,467,468]
def qv:Program:={hpg with main:={hpg.main with body:=[0,2,3,4,5,6,7,8,9,10,11,12,13,14,15,16,17,18,19,21,22,23,24,25,27,28,29,30,31,32,33,34,35,36,37,38,39,40,41].map top}}
theorem kAe(P:Params):kA=(K P).map (·.1):=by kernel_rfl
set_option maxRecDepth 100000
theorem ws:PySem.Challenge.rw_stretchdeeds_k35_whole_wide_trees.wellSaid=true:=by kernel_rfl
abbrev Xt(s:Shared):Bool:=xlAt qv [] s&&recOk (RowW.records<|OpenRow.toRowW PySem.Challenge.rw_stretchdeeds_k35_whole_wide_trees.row) s
abbrev hk:Hook:=kHook K kA kAe
def htp(l:List Value):Obj:=⟨.type "tuple",none,.seq l.toArray 0,#[]⟩
def htx:Nat->List Str->List Value
 |_,[]=>[]
 |t,x::l=>.str x t::htx (t+1) l
noncomputable def hfO(a t:Nat)(r:Str)(v:Value)(s:Stmt):List Obj:=match s with
 | .FunctionDef n p b _ _ _ c _ _ o=>
  let q:=r++n;let S:Obj:=⟨.none,none,.func {name:=n,qualname:=q,params:=p,body:=.stmts b,scope:=c,globals:=0,closure:=[],defaults:=.none,kwdefaults:=.none},#[]⟩
  match localNames p c (.stmts b) with
  |some (x,_)=>[htp [],hfl .none [],htp<|htx (t+3) x,htp [],S,hc7 n q t (t+3+x.length) o.line p.args.length a,kF n q s v<|.ref<|a+5]
  |none=>[htp [],hfl .none [],S,hc5 n q t o.line p.args.length a,kF n q s v<|.ref<|a+3]
 |_=>[]
noncomputable def htk(s:Stmt):Nat:=match s with
 | .FunctionDef _ p b _ _ _ c _ _ _=>match localNames p c (.stmts b) with
  |some (x,_)=>6+x.length
  |none=>6
 |_=>0
noncomputable def hms(P:Params)(c:Str)(v:Value):Nat->Nat->List Stmt->List Obj×List DictEntry×List Value×Nat
 |_,t,[]=>([],[],[],t)
 |a,t,s::r=>match s with
  | .FunctionDef n _ _ _ _ _ _ _ _ o=>let f:=hfO a t (c++".") v s;let l:=a+f.length;let u:=t+htk s;let z:=hms P c v l u r;(f++z.1,kR P n (u-1) (l-1)::z.2.1,.int o.line 0:: .int 4 0:: .ref (l-2)::z.2.2.1,z.2.2.2)
  |_=>hms P c v a t r
def hfm(a b:Addr)(v:Value):Obj:=⟨.type "frame",none,.plain,#[some<|.ref a,some<|.ref 3,some<|.ref b,none,some v,none,some<|.ref 0]⟩
def hbf(x:String)(v:Value):Obj:=hfl (.type "builtin_function_or_method") [.builtin x,v]
def hgd(x:Str)(t:Nat)(c:Addr)(g s:Value):Obj:=hfl (.type "getset_descriptor") [.str x t,.ref c,g,s]
noncomputable def hcO(P:Params)(a t:Nat)(v:Value)(bv mr sb:List Value)(nw:String)(d:Nat)(s:Stmt):List Obj:=match s with
 | .ClassDef n _ _ b _ _ _ _ _ sa o=>
  let m:=hms P n v (a+7) (t+12) b;let e:=a+7+m.1.length;let k:=m.2.2.2+sa.length;let z:=k+1;let C:=e+2
  let x:=kE P "__module__" (t+7) v;let f:=kE P "__firstlineno__" (t+11)<|.int o.line<|t+10;let y:=kR P "__static_attributes__" k e
  let W:=λt:Nat=>hgd "__weakref__" t C (.builtin "ExceptionGroup.__weakref__") .none
  let D:List DictEntry×List Obj:=match d with
   |0=>([],[])
   |1=>([kR P "__weakref__" (z+1)<|C+1],[W z])
   |_=>([kR P "__dict__" (z+1)<|C+1,kR P "__weakref__" (z+3)<|C+2],[hgd "__dict__" z C (.builtin "function.__dict__")<|.builtin "function.__dict__#set",W<|z+2])
  [htp bv,hbf "type.__prepare__" (.type "type"),kD (x::kE P "__qualname__" (t+9) (.str n<|t+8)::f::m.2.1++[y])<|4+m.2.1.length,htp [],hfl .none m.2.2.1,hco n n (t+2) (t+5) o.line 0 0 false (a+3) .none .none .none,hfm (a+5) (a+2) v]++m.1++[htp<|htx m.2.2.2 sa,kD (x::f::m.2.1++y::D.1++[kE P "__doc__" (z+2*d) .none])<|2+d,⟨.type "type",none,.cls {name:=n,bases:=if bv.isEmpty then [.type "object"] else bv,mro:=.ref C::mr,ns:=e+1,qualname:=n,hasDict:=true,slotNames:=[],subclasses:=sb},#[if bv.isEmpty then none else some<|.ref a,none,some<|.str n t,some<|.str n<|t+8,some<|.builtin nw,some<|.bool true]⟩]++D.2++[hfl (.type "super") [.ref C,.ref C,.ref C],hbf "object.__init_subclass__" (.ref C)]
 |_=>[]
def hcs:List (Int×Addr):=[(1,20),(5,27),(16,48),(18,55),(20,62),(27,69),(29,76),(31,83),(37,90),(45,97),(49,104),(58,111),(67,118),(72,125),(79,132),(85,139),(91,146),(97,153),(109,160),(122,167),(159,247),(178,295),(197,345),(201,364),(206,383),(210,390),(216,397),(220,404),(224,409),(226,414),(237,419),(244,424),(248,429),(258,434),(260,441),(267,448),(280,455),(289,462),(314,467)]
noncomputable def hhp(P:Params)(v:Value)(g c:Nat)(l:List Obj):Heap:=⟨⟨boot_o_0 P::boot_o_1 P::boot_o_2 P::kD (kE P "__name__" 165 v::(hen P).take g) (g+1)::boot_o_4 P::boot_o_5 P::boot_o_6 P::boot_o_7 P::boot_o_8 P::boot_o_9 P::boot_o_10 P::htp []::hfl .none ((hcs.take c).flatMap λp=>[.int p.1 0,.int 0 0,.ref p.2])::hco "<module>" "<module>" 182 185 1 0 0 false 11 .none .none .none::hfm 13 3 (.str "__main__" 164)::l⟩,(boot_heap P).life⟩
abbrev hbd:=behindTheImports hpg
abbrev hev:Env:={scope:=hpg.main.scope,locals:=mainNs,globals:=mainNs,cells:=[],code:=.ref 13,frame:=some 14}
abbrev hcd:Code:=.body hbd hev
noncomputable abbrev hSh(t:Nat)(h:Heap)(o:OsState):Shared:=⟨h,⟨[]⟩,boot_drawn,t,o⟩
def hl0(P:Params):List Obj:=hfO 15 187 "" hva (top 0)++hcO P 22 196 hvb [] [(.type "object")] [] "object.__new__" 2 (top 2)++hfO 43 237 "" hvb (top 3)++hfO 50 244 "" hvb (top 4)++hfO 57 253 "" hvb (top 5)++hfO 64 262 "" hvb (top 6)++hfO 71 269 "" hvb (top 7)++hfO 78 277 "" hvb (top 8)++hfO 85 286 "" hvb (top 9)++hfO 92 297 "" hvb (top 10)++hfO 99 305 "" hvb (top 11)++hfO 106 315 "" hvb (top 12)++hfO 113 330 "" hvb (top 13)++hfO 120 339 "" hvb (top 14)++hfO 127 348 "" hvb (top 15)++hfO 134 359 "" hvb (top 16)++hfO 141 370 "" hvb (top 17)++hfO 148 379 "" hvb (top 18)++hfO 155 389 "" hvb (top 19)++hcO P 162 403 hvc [] [(.type "object")] [(.ref 287),(.ref 337)] "object.__new__" 2 (top 21)++hcO P 242 499 hvc [(.ref 237)] ((.ref 237)::[(.type "object")]) [] "object.__new__" 0 (top 22)++hcO P 290 555 hvc [(.ref 237)] ((.ref 237)::[(.type "object")]) [(.ref 356),(.ref 375)] "object.__new__" 0 (top 23)++hcO P 340 614 hvc [(.ref 337)] ((.ref 337)::[(.ref 237),(.type "object")]) [] "object.__new__" 0 (top 24)++hcO P 359 638 hvc [(.ref 337)] ((.ref 337)::[(.ref 237),(.type "object")]) [] "object.__new__" 0 (top 25)
def hl1(P:Params):List Obj:=hl0 P++hfO 378 664 "" hvd (top 27)++hfO 385 672 "" hvd (top 28)++hfO 392 681 "" hvd (top 29)++hfO 399 689 "" hvd (top 30)++hfO 406 698 "" hvd (top 31)++hfO 411 704 "" hvd (top 32)++hfO 416 710 "" hvd (top 33)++hfO 421 716 "" hvd (top 34)++hfO 426 722 "" hvd (top 35)++hfO 431 728 "" hvd (top 36)++hfO 436 734 "" hvd (top 37)++hfO 443 744 "" hvd (top 38)++hfO 450 756 "" hvd (top 39)++hfO 457 770 "" hvd (top 40)++hfO 464 793 "" hvd (top 41)
theorem hr0(w:World)(o:OsState):topGo treeTable hpg w 11 (some<|.ref 6) 12 (hSh boot_toks (boot_heap w.params) o) (topStub hpg)=some (hSh 187 (hhp w.params (.str "__main__" 164) 8 0 []) o,⟨denote treeTable hcd,hcd,⟨0,0,0,0⟩,[topFrame ⟨0,0,0,0⟩]⟩):=by kernel_rfl
theorem hr1(w:World)(o:OsState):segRun treeTable hpg w 11 (some<|.ref 6) 1 1 (hSh 187 (hhp w.params (.str "__main__" 164) 8 0 []) o) (blockOf hbd hev hcd ⟨0,0,0,0⟩ [topFrame ⟨0,0,0,0⟩])=some (.next,hSh 187 (hhp w.params (.str "__main__" 164) 8 0 []) o,hcd,⟨0,0,0,0⟩):=by kernel_rfl
theorem hs0(w:World)(o:OsState):segRun treeTable hpg w 11 (some<|.ref 6) 1 2622 (hSh 187 (hhp w.params (.str "__main__" 164) 8 0 []) o) (piecesOf (hbd.take 26) hev hcd ⟨0,0,0,0⟩ [topFrame ⟨0,0,0,0⟩])=some (.next,hSh 662 (hhp w.params hvc 32 24<|hl0 w.params) o,hcd,⟨201,0,204,48⟩):=by kernel_rfl
abbrev hb0:=hbd.drop 26
theorem hs1(w:World)(o:OsState):topRun treeTable hpg w 11 (some<|.ref 6) 463 (hSh 662 (hhp w.params hvc 32 24<|hl0 w.params) o) (restOf hb0 hev hcd ⟨201,0,204,48⟩ [topFrame ⟨0,0,0,0⟩])=some (hSh 799 (hhp w.params hvd 47 39<|hl1 w.params) o):=by kernel_rfl
theorem hpa{w:World}{n N t t':Nat}{h h':Heap}{o:OsState}{r:Shared}{b:List Stmt}(m:Nat){p p':Pos}(x:segRun treeTable hpg w 11 (some<|.ref 6) 1 n (hSh t h o) (piecesOf (b.take m) hev hcd p [topFrame ⟨0,0,0,0⟩])=some (.next,hSh t' h' o,hcd,p'))(y:topRun treeTable hpg w 11 (some<|.ref 6) N (hSh t' h' o) (restOf (b.drop m) hev hcd p' [topFrame ⟨0,0,0,0⟩])=some r):topRun treeTable hpg w 11 (some<|.ref 6) (n+N) (hSh t h o) (restOf b hev hcd p [topFrame ⟨0,0,0,0⟩])=some r:=by
 have z:=piece_app x y;rwa[List.take_append_drop] at z
theorem hhr(w:World)(o:OsState):topRun treeTable hpg w 11 (some<|.ref 6) (12+(1+(2622+463))) (hSh boot_toks (boot_heap w.params) o) (topStub hpg)=some (hSh 799 (hhp w.params hvd 47 39<|hl1 w.params) o):=go_top (hr0 w o)<|piece_block (hr1 w o)<|hpa _ (hs0 w o)<|hs1 w o
def hhf(P:Params):Heap:=hhp P hvd 47 39<|hl1 P
theorem hhq(w:World):(λo=>((staticsOk (importedModules hpg.main.body) (boot_heap w.params) (hhf w.params)&&namesBound hpg (hhf w.params)&&gensDone (hSh 799 (hhf w.params) o)&&laidKept (boot_heap w.params) (hhf w.params)),openSeen qv [] (importedModules hpg.main.body) Xt true<|hSh 799 (hhf w.params) o,hk.obs<|hSh 799 (hhf w.params) o))=λ_=>(true,openGood qv [],hk.val w):=by kernel_rfl
theorem hl:LeftO PySem.Challenge.pw_stretchdeeds_k35_whole_wide_trees qv [] Xt hk.obs hk.val 6000:=LeftO.of_pieces (H₀:=boot_heap) (H₁:=hhf) (boot_open (by kernel_rfl) rfl λ_=>by kernel_rfl) (λ_=>by kernel_rfl) hhr rfl hhq
end G35
end
section
namespace PF
open PySem PySem.Spec PyProof.Rows L2
abbrev St:=L2.St
structure KD where
 d:Addr->List (Key×V)->Prop
 c:Str->Addr
instance:CoeFun KD (λ_=>Addr->List (Key×V)->Prop):=⟨KD.d⟩
inductive D where
 |non|bl (b:Bool)|int (i:Int)|str (x:Str)|tup (ds:List D)|lst (ds:List D)|dct (kvs:List (Key×D))|cl (c:Str)|ob (c:Str) (ns:List Str) (ds:List D)
mutual
inductive Rp(K:zzA)(kd:KD)(O:Addr->Prop)(H:Hp):V->D->Prop
 |non:Rp K kd O H .non .non
 |bl (b:Bool):Rp K kd O H (.bl b) (.bl b)
 |int (i:Int):Rp K kd O H (.int i) (.int i)
 |str (x:Str):Rp K kd O H (.str x) (.str x)
 |tup {a:Addr}{vs:List V}{ds:List D}:¬O a->Rd H a (.tup vs)->RpL K kd O H vs ds->Rp K kd O H (.ref a) (.tup ds)
 |tupK {a:Addr}{o:Obj}{its:Array Value}{n:Nat}{vs:List V}{ds:List D}:K.lookup a=some o->o.cls = .type "tuple"->o.data = .seq its n->its.size<=sizeLine->zM vs its.toList->RpL K kd O H vs ds->Rp K kd O H (.ref a) (.tup ds)
 |lst {a:Addr}{vs:List V}{ds:List D}:¬O a->Rd H a (.lst vs)->RpL K kd O H vs ds->Rp K kd O H (.ref a) (.lst ds)
 |lstK {a:Addr}{its:Array Value}{n:Nat}{vs:List V}{ds:List D}:K.lookup a=some {cls:=.type "list",data:=.seq its n}->its.size<=sizeLine->zM vs its.toList->RpL K kd O H vs ds->Rp K kd O H (.ref a) (.lst ds)
 |dct {a:Addr}{kvs:List (Key×V)}{ds:List (Key×D)}:¬O a->Rd H a (.dK kvs)->RpM K kd O H kvs ds->Rp K kd O H (.ref a) (.dct ds)
 |dctK {a:Addr}{kvs:List (Key×V)}{ds:List (Key×D)}:kd a kvs->RpM K kd O H kvs ds->Rp K kd O H (.ref a) (.dct ds)
 |cl (c:Str):Rp K kd O H (.ref (kd.c c)) (.cl c)
 |ob {a dx:Addr}{c:Str}{ns:List Str}{vs:List V}{ds:List D}:¬O a->H a=some (.ins (kd.c c) dx (ns.zip vs))->ns.length=vs.length->RpL K kd O H vs ds->Rp K kd O H (.ref a) (.ob c ns ds)
inductive RpL(K:zzA)(kd:KD)(O:Addr->Prop)(H:Hp):List V->List D->Prop
 |nil:RpL K kd O H [] []
 |cons {v:V}{d:D}{vs:List V}{ds:List D}:Rp K kd O H v d->RpL K kd O H vs ds->RpL K kd O H (v::vs) (d::ds)
inductive RpM(K:zzA)(kd:KD)(O:Addr->Prop)(H:Hp):List (Key×V)->List (Key×D)->Prop
 |nil:RpM K kd O H [] []
 |cons {k:Key}{v:V}{d:D}{vs:List (Key×V)}{ds:List (Key×D)}:Rp K kd O H v d->RpM K kd O H vs ds->RpM K kd O H ((k,v)::vs) ((k,d)::ds)
end
structure Grow(W:Addr->Prop)(H:Hp)(W':Addr->Prop)(H':Hp):Prop where
 keep:∀b o,H b=some o->¬W b->H' b=some o
 own:∀b,W' b->W b\/H b=none
def Grow.refl:Grow W H W H:=⟨λ_ _ h _=>h,λ_ h=>.inl h⟩
def Grow.trans(a:Grow W H W1 H1)(b:Grow W1 H1 W2 H2):Grow W H W2 H2 where
 keep:=λx o h n=>b.keep x o (a.keep x o h n) λq=>(a.own x q).elim n λz=>by rw[z]at h;cases h
 own:=λx q=>by
  rcases b.own x q with h|h
  . exact a.own x h
  . cases e:H x with
    |none=>exact .inr rfl
    |some o=>
     refine .inl<|Classical.byContradiction λn=>?_;rw[a.keep x o e n]at h;cases h
def Grow.less(h:∀a,W' a->W a):Grow W H W' H:=⟨λ_ _ q _=>q,λb q=>.inl<|h b q⟩
abbrev VP(F W:Addr->Prop):Addr->Prop:=λa=>F a\/W a
section
variable{K:zzA}{kd:KD}{F W W':Addr->Prop}{H H':Hp}
def VQ(g:Grow W H W' H')(n:¬W a)(h:Rd H a u):Rd H' a u:=by
 rcases h with h|⟨o,h⟩
 . exact .inl<|g.keep _ _ h n
 . exact .inr ⟨o,g.keep _ _ h n⟩
def O0(h:Rd H a u):H a≠none:=by
 rcases h with h|⟨o,h⟩<;>(rw[h];simp)
def V7(g:Grow W H W' H')(n:¬VP F W a)(h:Rd H a u):¬VP F W' a:=λq=>
 q.elim (λz=>n<|.inl z) λz=>(g.own a z).elim (λy=>n<|.inr y) λy=>O0 h y
def Rp.grow(g:Grow W H W' H')(h:Rp K kd (VP F W) H v d):Rp K kd (VP F W') H' v d:=
 Rp.rec .non .bl .int .str (λn h _ r=>.tup (V7 g n h) (VQ g (λz=>n<|.inr z) h) r) (λa b c e f _ r=>.tupK a b c e f r) (λn h _ r=>.lst (V7 g n h) (VQ g (λz=>n<|.inr z) h) r) (λa e f _ r=>.lstK a e f r) (λn h _ r=>.dct (V7 g n h) (VQ g (λz=>n<|.inr z) h) r) (λh _ r=>.dctK h r) .cl (λn h l _ r=>.ob (V7 g n<|.inl h) (g.keep _ _ h λz=>n<|.inr z) l r) .nil (λ_ _ h r=>.cons h r) .nil (λ_ _ h r=>.cons h r) h
def RpL.ind{P:List V->List D->Prop}(h0:P [] [])(h1:∀{v d vs ds},Rp K kd O H v d->RpL K kd O H vs ds->P vs ds->P (v::vs) (d::ds))(h:RpL K kd O H vs ds):P vs ds:=
 RpL.rec (motive_1:=λ_ _ _=>True) (motive_3:=λ_ _ _=>True) ⋯ ⋯ ⋯ ⋯ (λ_ _ _ _=>⋯) (λ_ _ _ _ _ _ _=>⋯) (λ_ _ _ _=>⋯) (λ_ _ _ _ _=>⋯) (λ_ _ _ _=>⋯) (λ_ _ _=>⋯) ⋯ (λ_ _ _ _ _=>⋯) h0 (λa r _ ih=>h1 a r ih) ⋯ (λ_ _ _ _=>⋯) h
def RpM.ind{P:List (Key×V)->List (Key×D)->Prop}(h0:P [] [])(h1:∀{k v d vs ds},Rp K kd O H v d->RpM K kd O H vs ds->P vs ds->P ((k,v)::vs) ((k,d)::ds))(h:RpM K kd O H vs ds):P vs ds:=
 RpM.rec (motive_1:=λ_ _ _=>True) (motive_2:=λ_ _ _=>True) ⋯ ⋯ ⋯ ⋯ (λ_ _ _ _=>⋯) (λ_ _ _ _ _ _ _=>⋯) (λ_ _ _ _=>⋯) (λ_ _ _ _ _=>⋯) (λ_ _ _ _=>⋯) (λ_ _ _=>⋯) ⋯ (λ_ _ _ _ _=>⋯) ⋯ (λ_ _ _ _=>⋯) h0 (λa r _ ih=>h1 a r ih) h
theorem RpL.grow(g:Grow W H W' H'){vs:List V}(h:RpL K kd (VP F W) H vs ds):RpL K kd (VP F W') H' vs ds:=RpL.ind .nil (λa _ r=>.cons (Rp.grow g a) r) h
def Rp.less(g:∀a,O' a->O a)(h:Rp K kd O H v d):Rp K kd O' H v d:=
 Rp.rec .non .bl .int .str (λn h _ r=>.tup (λz=>n<|g _ z) h r) (λa b c e f _ r=>.tupK a b c e f r) (λn h _ r=>.lst (λz=>n<|g _ z) h r) (λa e f _ r=>.lstK a e f r) (λn h _ r=>.dct (λz=>n<|g _ z) h r) (λh _ r=>.dctK h r) .cl (λn h l _ r=>.ob (λz=>n<|g _ z) h l r) .nil (λ_ _ h r=>.cons h r) .nil (λ_ _ h r=>.cons h r) h
theorem RpL.less{O O':Addr->Prop}(g:∀a,O' a->O a)(h:RpL K kd O H vs ds):RpL K kd O' H vs ds:=RpL.ind .nil (λa _ r=>.cons (Rp.less g a) r) h
theorem RpM.less{O O':Addr->Prop}(g:∀a,O' a->O a)(h:RpM K kd O H vs ds):RpM K kd O' H vs ds:=RpM.ind .nil (λa _ r=>.cons (Rp.less g a) r) h
theorem RpL.length{O:Addr->Prop}(h:RpL K kd O H vs ds):vs.length=ds.length:=RpL.ind (P:=λa b=>a.length=b.length) rfl (λ_ _ r=>congrArg _ r) h
theorem RpM.length{O:Addr->Prop}(h:RpM K kd O H vs ds):vs.length=ds.length:=RpM.ind (P:=λa b=>a.length=b.length) rfl (λ_ _ r=>congrArg _ r) h
def RpL.get{vs:List V}{i:Nat}(h:RpL K kd O H vs ds)(e:ds[i]? = some d):∃v,vs[i]? = some v/\Rp K kd O H v d:=
 RpL.ind (P:=λb c=>∀i,c[i]? = some d->∃v,b[i]? = some v/\Rp K kd O H v d) (λi e=>by cases e) (λa _ f i e=>by
  cases i with
  |zero=>cases e;exact⟨_,rfl,a⟩
  |succ i=>exact f i e) h i e
def RpL.append{O:Addr->Prop}(h:RpL K kd O H vs ds)(r:RpL K kd O H ws es):RpL K kd O H (vs++ws) (ds++es):=RpL.ind (P:=λb c=>RpL K kd O H (b++ws)<|c++es) r (λa _ t=>.cons a t) h
theorem RpL.take{O:Addr->Prop}(n:Nat)(h:RpL K kd O H vs ds):RpL K kd O H (vs.take n) (ds.take n):=
 RpL.ind (P:=λb c=>∀n,RpL K kd O H (b.take n)<|c.take n) (λn=>by rw[List.take_nil,List.take_nil];exact .nil) (λa _ d n=>by
  cases n with
  |zero=>exact .nil
  |succ n=>exact .cons a (d n)) h n
theorem RpL.drop{O:Addr->Prop}(n:Nat)(h:RpL K kd O H vs ds):RpL K kd O H (vs.drop n) (ds.drop n):=
 RpL.ind (P:=λc d=>∀n,RpL K kd O H (c.drop n)<|d.drop n) (λn=>by rw[List.drop_nil,List.drop_nil];exact .nil) (λa b e n=>by
  cases n with
  |zero=>exact .cons a b
  |succ n=>exact e n) h n
theorem RpL.rep(h:RpL K kd O H vs ds):∀k:Nat,RpL K kd O H (List.replicate k vs).flatten (List.replicate k ds).flatten
 |0=>.nil
 |k+1=>h.append<|RpL.rep h k
end
inductive Vw(K:zzA)(kd:KD)(O:Addr->Prop)(H:Hp):V->D->Prop
 |non:Vw K kd O H .non .non
 |bl (b:Bool):Vw K kd O H (.bl b) (.bl b)
 |int (i:Int):Vw K kd O H (.int i) (.int i)
 |str (x:Str):Vw K kd O H (.str x) (.str x)
 |tup {a:Addr}{vs:List V}{ds:List D}:Rp K kd O H (.ref a) (.tup ds)->Uk K H a vs->RpL K kd O H vs ds->Vw K kd O H (.ref a) (.tup ds)
 |lst {a:Addr}{vs:List V}{ds:List D}:Sv K H a vs->RpL K kd O H vs ds->Vw K kd O H (.ref a) (.lst ds)
 |dct {a:Addr}{kvs:List (Key×V)}{ds:List (Key×D)}:(Rd H a (.dK kvs)\/kd a kvs)->RpM K kd O H kvs ds->Vw K kd O H (.ref a) (.dct ds)
 |cl (c:Str):Vw K kd O H (.ref (kd.c c)) (.cl c)
 |ob {a dx:Addr}{c:Str}{ns:List Str}{vs:List V}{ds:List D}:H a=some (.ins (kd.c c) dx (ns.zip vs))->ns.length=vs.length->RpL K kd O H vs ds->Vw K kd O H (.ref a) (.ob c ns ds)
def Rp.vw{K}(h:Rp K kd O H v d):Vw K kd O H v d:=by
 cases h with
 |non=>exact .non
 |bl b=>exact .bl b
 |int i=>exact .int i
 |str x=>exact .str x
 |tup n h r=>exact .tup (.tup n h r) (.inl h) r
 |tupK a b c e f r=>exact .tup (.tupK a b c e f r) (.inr ⟨_,_,_,a,b,c,e,f⟩) r
 |lst n h r=>exact .lst (.inl h) r
 |lstK a e f r=>exact .lst (.inr ⟨_,_,a,e,f⟩) r
 |dct n h r=>exact .dct (.inl h) r
 |dctK h r=>exact .dct (.inr h) r
 |cl c=>exact .cl c
 |ob n h l r=>exact .ob h l r
def _root_.L2.Sv.sq{K}(h:Sv K H a xs):TX K H a xs:=by
 rcases h with h|⟨b,n,k,z,r⟩
 . exact .inl h
 . exact .inr ⟨_,b,n,k,rfl,rfl,rfl,z,r⟩
def MU(I:Inv X pins σ H s)(h:Sv X.K H a xs):
 xs.length<=sizeLine/\∃(its:List Value) (n:Nat),zM xs its/\s.heap.get? a=some {cls:=.type "list",data:=.seq its.toArray n}:=by
 rcases h with h|⟨b,n,k,z,r⟩
 . exact h.ok I.hok
 . refine⟨by rw[r.length];simpa using z,b.toList,n,r,by simpa using I.kIn _ _ k⟩
def Rp.cl_eq{K}(h:Rp K kd O H (.ref C) (.cl c)):C=kd.c c:=by
 cases h;rfl
def zE:D->Bool
 | .non=>true | .bl _=>true | .int _=>true | .str _=>true|_=>false
def Rp.flat{K}(h:Rp K kd O H v d)(e:zE d=true):Rp K kd O' H' v d:=by
 cases h with
 |non=>exact .non
 |bl b=>exact .bl b
 |int i=>exact .int i
 |str x=>exact .str x
 |_=>cases e
inductive Kind where
 |ls|tp|dc (ks:List Key)|ob (c:Str) (ns:List Str)
inductive O where
 |lf (st:Bool) (d:D)|nd (k:Kind) (os:List O)
abbrev OW(st:Bool)(d:D):O:=.lf (zE d||st) d
mutual
inductive Ro(L:Bool->V->D->Prop)(N:Addr->Prop)(H:Hp):V->O->List Addr->Prop
 |lf {st:Bool}{v:V}{d:D}:L st v d->Ro L N H v (.lf st d) []
 |ls {a:Addr}{vs:List V}{os:List O}{fp:List Addr}:H a=some (.lst vs)->RoL L N H vs os fp->Ro L N H (.ref a) (.nd .ls os) (a::fp)
 |dc {a:Addr}{ks:List Key}{vs:List V}{os:List O}{fp:List Addr}:H a=some (.dK (ks.zip vs))->ks.length=vs.length->RoL L N H vs os fp->Ro L N H (.ref a) (.nd (.dc ks) os) (a::fp)
 |ob {a dx C:Addr}{c:Str}{ns:List Str}{vs:List V}{os:List O}{fp:List Addr}:L true (.ref C) (.cl c)->H a=some (.ins C dx (ns.zip vs))->ns.length=vs.length->RoL L N H vs os fp->Ro L N H (.ref a) (.nd (.ob c ns) os) (a::fp)
 |tp {a:Addr}{vs:List V}{os:List O}{fp:List Addr}:N a->H a=some (.tup vs)->RoL L N H vs os fp->Ro L N H (.ref a) (.nd .tp os) fp
inductive RoL(L:Bool->V->D->Prop)(N:Addr->Prop)(H:Hp):List V->List O->List Addr->Prop
 |nil:RoL L N H [] [] []
 |cons {v:V}{o:O}{vs:List V}{os:List O}{fp fq:List Addr}:Ro L N H v o fp->RoL L N H vs os fq->RoL L N H (v::vs) (o::os) (fp++fq)
end
mutual
def O.toD:O->D
 | .lf _ d=>d
 | .nd .ls os=>.lst<|O.toDs os
 | .nd .tp os=>.tup<|O.toDs os
 | .nd (.dc ks) os=>.dct<|ks.zip<|O.toDs os
 | .nd (.ob c ns) os=>.ob c ns<|O.toDs os
def O.toDs:List O->List D
 | []=>[]
 |o::r=>o.toD::O.toDs r
end
mutual
def O.str:O->Bool
 | .lf st _=>st
 | .nd _ os=>O.strs os
def O.strs:List O->Bool
 | []=>true
 |o::r=>o.str&&O.strs r
end
section
variable{L L':Bool->V->D->Prop}{N N':Addr->Prop}{H H':Hp}{K:zzA}{kd:KD}{Ob:Addr->Prop}
def Ro.mono(hL:∀st v d,L st v d->L' st v d)(hN:∀a vs,N a->H a=some (.tup vs)->N' a/\H' a=some (.tup vs))(k:∀a ∈ fp,∀u,H a=some u->H' a=some u)(h:Ro L N H v o fp):Ro L' N' H' v o fp:=
 Ro.rec (motive_2:=λvs os fp _=>_->RoL L' N' H' vs os fp)
  (λh _=>.lf<|hL _ _ _ h) (λh _ r k=>.ls (k _ zzF _ h)<|r λa m=>k a<|zzD _ m) (λh l _ r k=>.dc (k _ zzF _ h) l<|r λa m=>k a<|zzD _ m) (λc h l _ r k=>.ob (hL _ _ _ c) (k _ zzF _ h) l<|r λa m=>k a<|zzD _ m) (λn h _ r k=>.tp (hN _ _ n h).1 (hN _ _ n h).2<|r k)
  (λ_=>.nil) (λ_ _ h r k=>.cons (h λa m=>k a<|zzP _ m)<|r λa m=>k a<|zzL _ m) h k
def RoL.ind{P:List V->List O->List Addr->Prop}(h0:P [] [] [])(h1:∀{v o vs os fp fq},Ro L N H v o fp->RoL L N H vs os fq->P vs os fq->P (v::vs) (o::os) (fp++fq)){os}(h:RoL L N H vs os fp):P vs os fp:=
 RoL.rec (motive_1:=λ_ _ _ _=>True) (λ_=>⋯) (λ_ _ _=>⋯) (λ_ _ _ _=>⋯) (λ_ _ _ _ _=>⋯) (λ_ _ _ _=>⋯) h0 (λa r _ ih=>h1 a r ih) h
theorem RoL.mono(hL:∀st v d,L st v d->L' st v d)(hN:∀a vs,N a->H a=some (.tup vs)->N' a/\H' a=some (.tup vs)){vs:List V}{os}(k:∀a ∈ fp,∀u,H a=some u->H' a=some u)(h:RoL L N H vs os fp):RoL L' N' H' vs os fp:=
 RoL.ind (P:=λc e b=>(∀a ∈ b,∀u,H a=some u->H' a=some u)->RoL L' N' H' c e b) (λ_=>.nil) (λh _ r k=>.cons (Ro.mono hL hN (λa m=>k a<|zzP _ m) h)<|r λa m=>k a<|zzL _ m) h k
theorem Rx:∀{ks:List Key}{vs:List V}{ds:List D},RpL K kd Ob H vs ds->ks.length=vs.length->RpM K kd Ob H (ks.zip vs) (ks.zip ds)
 | [],_,_,_,_=>.nil
 |_::_,_,_,.nil,e=>by simp at e
 |_::_,_,_,.cons h r,e=>.cons h (Rx r<|by simpa using e)
def Ro.rp(b)(hL:∀st v d,(b=true->st=true)->L st v d->Rp K kd Ob H v d)(hN:∀a,N a->¬Ob a){v}(s:b=true->o.str=true)(k:∀a ∈ fp,¬Ob a)(h:Ro L N H v o fp):Rp K kd Ob H v o.toD:=
 Ro.rec (motive_2:=λi g f _=>_->_->RpL K kd Ob H i _)
  (λh s _=>hL _ _ _ s h) (λh _ r s k=>.lst (k _ zzF) (.inl h)<|r s λa m=>k a<|zzD _ m) (λh l _ r s k=>.dct (k _ zzF) (.inl h)<|Rx (r s λa m=>k a<|zzD _ m) l) (λc h l _ r s k=>by
   have e:=(hL _ _ _ (λ_=>rfl) c).cl_eq;subst e;exact .ob (k _ zzF) h l<|r s λa m=>k a<|zzD _ m) (λn h _ r s k=>.tup (hN _ n) (.inl h)<|r s k)
  (λ_ _=>.nil) (λ_ _ h r s k=>.cons (h (λz=>((zyB _ _).mp<|s z).1) λa m=>k a<|zzP _ m)<|r (λz=>((zyB _ _).mp<|s z).2) λa m=>k a<|zzL _ m) h s k
theorem RoL.rp(b:Bool)(hL:∀st v d,(b=true->st=true)->L st v d->Rp K kd Ob H v d)(hN:∀a,N a->¬Ob a){os}(s:b=true->O.strs os=true)(k:∀a ∈ fp,¬Ob a)(h:RoL L N H vs os fp):RpL K kd Ob H vs (O.toDs os):=
 RoL.ind (P:=λe c f=>(b=true->O.strs c=true)->(∀a ∈ f,¬Ob a)->RpL K kd Ob H e (O.toDs c)) (λ_ _=>.nil) (λh _ r s k=>.cons (Ro.rp b hL hN (λz=>((zyB _ _).mp<|s z).1) (λa m=>k a<|zzP _ m) h)<|r (λz=>((zyB _ _).mp<|s z).2) λa m=>k a<|zzL _ m) h s k
theorem RoL.length{vs:List V}{os}(h:RoL L N H vs os fp):vs.length=os.length:=RoL.ind (P:=λa b _=>a.length=b.length) rfl (λ_ _ r=>congrArg _ r) h
def RoL.append{vs ws:List V}{os ps}(h:RoL L N H vs os f)(r:RoL L N H ws ps g):RoL L N H (vs++ws) (os++ps) (f++g):=RoL.ind (P:=λa b f=>RoL L N H (a++ws) (b++ps)<|f++g) r (λh _ t=>by rw[zyY];exact .cons h t) h
def RoL.one(h:Ro L N H v o f):RoL L N H [v] [o] f:=by
 have:=RoL.cons h<|RoL.nil
 rwa [zyD]at this
end
abbrev AS:=List<|Option O
abbrev Ad:=Nat->List Addr
def Gw(T:List Addr)(ad:Ad):Addr->Prop:=λa=>a ∈ T\/∃i,a ∈ ad i
abbrev Lv(F B G:Addr->Prop)(st:Bool):Addr->Prop:=VP (λa=>(st=true/\F a)\/B a) G
abbrev Lf(K:zzA)(kd:KD)(F B G:Addr->Prop)(H:Hp):Bool->V->D->Prop:=λst v d=>Rp K kd (Lv F B G st) H v d
abbrev Nf(F B G:Addr->Prop):Addr->Prop:=λa=>¬Lv F B G true a
abbrev Xb(K:zzA)(kd:KD)(F B G:Addr->Prop)(H:Hp):V->O->List Addr->Prop:=Ro (Lf K kd F B G H) (Nf F B G) H
abbrev Zy(K:zzA)(kd:KD)(F B G:Addr->Prop)(H:Hp):List V->List O->List Addr->Prop:=RoL (Lf K kd F B G H) (Nf F B G) H
def TR(K:zzA)(kd:KD)(F B G:Addr->Prop)(H:Hp):Option O->Option (Option V)->List Addr->Prop
 |none,_,fp=>fp=[]
 |some o,s,fp=>∃v,s=some (some v)/\Xb K kd F B G H v o fp
structure Rel(K:zzA)(kd:KD)(F B:Addr->Prop)(T:List Addr)(ad:Ad)(as:AS)(σ:St)(H:Hp):Prop where
 len:as.length=σ.length
 out:∀i,as.length<=i->ad i=[]
 nd:∀i,(ad i).Nodup
 inj:∀i j a,a ∈ ad i->a ∈ ad j->i=j
 tnd:T.Nodup
 dis:∀i a,a ∈ ad i->a ∉ T
 ftr:∀a,F a->H a≠none
 btr:∀a,B a->H a≠none/\¬F a/\¬Gw T ad a
 gtr:∀a,Gw T ad a->H a≠none/\¬F a
 sl:∀i s,as[i]? = some s->TR K kd F B (Gw T ad) H s σ[i]? (ad i)
inductive RV where
 |ow (o:O)|bo (i:Nat)
def xu(K:zzA)(kd:KD)(F B:Addr->Prop)(T:List Addr)(ad:Ad)(σ:St)(H:Hp)(v:V):RV->Prop
 | .ow o=>Xb K kd F B (Gw T ad) H v o T
 | .bo i=>T=[]/\σ[i]? = some (some v)
def O.frz(o:O):O:=.lf o.str o.toD
def RV.frz:RV->RV
 | .ow o=>.ow o.frz
 | .bo i=>.bo i
def O.isLf:O->Bool
 | .lf _ _=>true
 |_=>false
def O.kl:O->Option Bool
 | .lf st _=>some st
 | .nd _ os=>if os.all O.isLf=true then some (O.strs os)else none
def RV.view(as:AS):RV->Option (D×Option Bool)
 | .ow o=>some (o.toD,some o.str)
 | .bo i=>match as[i]? with
  |some (some o)=>some (o.toD,o.kl)
  |_=>none
def Ka(F B G:Addr->Prop):Option Bool->Addr->Prop
 |some st=>Lv F B G st
 |none=>λ_=>False
section
variable{K:zzA}{kd:KD}{F B F' B':Addr->Prop}{G G':Addr->Prop}{T T':List Addr}{ad ad1:Ad}{as as1:AS}{σ:St}{H H1 H':Hp}{v:V}{r:RV}{o:O}{fp:List Addr}{vs:List V}{os:List O}
theorem Xb.grow(g:Grow G H G' H')(k:∀a ∈ fp,∀u,H a=some u->H' a=some u)(h:Xb K kd F B G H v o fp):Xb K kd F B G' H' v o fp:=
 Ro.mono (λst v d r=>Rp.grow g r) (λa vs n e=>⟨λz=>z.elim (λy=>n<|.inl y) λy=>(g.own a y).elim (λw=>n<|.inr w) λw=>(by rw[w]at e;cases e),g.keep a _ e λw=>n<|.inr w⟩) k h
theorem Zy.grow(g:Grow G H G' H')(k:∀a ∈ fp,∀u,H a=some u->H' a=some u)(h:Zy K kd F B G H vs os fp):Zy K kd F B G' H' vs os fp:=
 RoL.mono (λst v d r=>Rp.grow g r) (λa vs n e=>⟨λz=>z.elim (λy=>n<|.inl y) λy=>(g.own a y).elim (λw=>n<|.inr w) λw=>(by rw[w]at e;cases e),g.keep a _ e λw=>n<|.inr w⟩) k h
def Xb.lv(g:∀st a,Lv F' B' G' st a->Lv F B G st a)(h:Xb K kd F B G H v o fp):Xb K kd F' B' G' H v o fp:=
 Ro.mono (λst v d r=>r.less<|g st) (λa vs n e=>⟨λz=>n<|g true a z,e⟩) (λ_ _ _ e=>e) h
def Zy.lv(g:∀st a,Lv F' B' G' st a->Lv F B G st a)(h:Zy K kd F B G H vs os fp):Zy K kd F' B' G' H vs os fp:=
 RoL.mono (λst v d r=>r.less<|g st) (λa vs n e=>⟨λz=>n<|g true a z,e⟩) (λ_ _ _ e=>e) h
def Xb.less(g:∀a,G' a->G a)(h:Xb K kd F B G H v o fp):Xb K kd F B G' H v o fp:=Xb.lv (λ_ a z=>z.elim .inl λy=>.inr<|g a y) h
def Gw.drop:∀a,Gw [] ad a->Gw T ad a:=λ_ h=>h.elim ⋯ .inr
def Rel.trk(R:Rel K kd F B T ad as σ H)(st):∀a,Lv F B (Gw T ad) st a->H a≠none:=λa h=>by
 rcases h with(h|h)|h
 . exact R.ftr a h.2
 . exact(R.btr a h).1
 . exact(R.gtr a h).1
def Rel.tr(R:Rel K kd F B T ad as σ H)(lv):∀a,Ka F B (Gw T ad) lv a->H a≠none:=λa h=>by
 cases lv with
 |none=>exact h.elim
 |some st=>exact R.trk st a h
theorem TR.lv(g:∀st a,Lv F' B' G' st a->Lv F B G st a)(h:TR K kd F B G H s x fp):TR K kd F' B' G' H s x fp:=by
 cases s with
 |none=>exact h
 |some o=>obtain⟨v,e,r⟩:=h;exact⟨v,e,Xb.lv g r⟩
def TR.less(g:∀a,G' a->G a)(h:TR K kd F B G H s x fp):TR K kd F B G' H s x fp:=h.lv λ_ a z=>z.elim .inl λy=>.inr<|g a y
theorem TR.grow(g:Grow G H G' H')(k:∀a ∈ fp,∀u,H a=some u->H' a=some u)(h:TR K kd F B G H s x fp):TR K kd F B G' H' s x fp:=by
 cases s with
 |none=>exact h
 |some o=>obtain⟨v,e,r⟩:=h;exact⟨v,e,Xb.grow g k r⟩
theorem Rel.drop(R:Rel K kd F B T ad as σ H):Rel K kd F B [] ad as σ H where
 len:=R.len
 out:=R.out
 nd:=R.nd
 inj:=R.inj
 tnd:=zyI
 dis:=λ_ _ _ z=>nomatch z
 ftr:=R.ftr
 btr:=λa h=>let⟨h1,h2,h3⟩:=R.btr a h;⟨h1,h2,λz=>h3<|Gw.drop a z⟩
 gtr:=λa h=>R.gtr a (Gw.drop a h)
 sl:=λi s e=>(R.sl i s e).less Gw.drop
def MZ(R:Rel K kd F B T ad as σ H)(h:Xb K kd F B (Gw T ad) H v o T):Rp K kd (Lv F B (Gw [] ad) o.str) H v o.toD:=
 Ro.rp o.str (λst v d hs r=>r.less λa z=>z.elim (λy=>.inl<|y.elim (λx=>.inl ⟨hs x.1,x.2⟩) .inr) λy=>.inr<|Gw.drop a y)
  (λa n z=>n<|z.elim (λy=>.inl<|y.elim (λx=>.inl ⟨rfl,x.2⟩) .inr) λy=>.inr<|Gw.drop a y) id
  (λa m z=>by
   rcases z with(z|z)|z|⟨i,z⟩
   . exact(R.gtr a<|.inl m).2 z.2
   . exact(R.btr a z).2.2<|.inl m
   . cases z
   . exact R.dis i a z m) h
def xu.drop(R:Rel K kd F B T ad as σ H)(h:xu K kd F B T ad σ H v r):xu K kd F B [] ad σ H v r.frz:=by
 cases r with
 |ow o=>exact .lf (MZ R h)
 |bo i=>exact⟨rfl,h.2⟩
theorem xu.grow(g:Grow (Gw [] ad) H (Gw [] ad1) H1)(h:xu K kd F B [] ad σ H v r):xu K kd F B [] ad1 σ H1 v r:=by
 cases r with
 |ow o=>exact Xb.grow g ⋯ h
 |bo i=>exact h
def Mx(h:Zy K kd F B G H vs os fp):os.all O.isLf=true->fp=[]:=
 RoL.ind (P:=λ_ os fp=>os.all O.isLf=true->fp=[]) ⋯ (λh _ ih e=>by
  rw[List.all_cons,zyB]at e;rw[ih e.2];cases h with
  |lf=>rfl
  |ls=>cases e.1
  |dc=>cases e.1
  |ob=>cases e.1
  |tp=>cases e.1) h
def PB{st}(hs:b=true->st=true):∀a,Lv F B G b a->Lv F B G st a:=λa z=>z.elim (λy=>.inl<|y.elim (λx=>.inl ⟨hs x.1,x.2⟩) .inr) .inr
def To(h:Zy K kd F B G H vs os fp)(e:os.all O.isLf=true):RpL K kd (Lv F B G<|O.strs os) H vs (O.toDs os):=by
 have:=Mx h e;subst this;exact RoL.rp _ (λst v d hs r=>r.less<|PB hs) (λa n z=>n<|PB ⋯ a z) id ⋯ h
def Qk(h:Zy K kd F B G H vs os fp):RpL K kd (λ_=>False) H vs (O.toDs os):=RoL.rp false (λst v d _ r=>r.less λ_ z=>z.elim) (λ_ _ z=>z) ⋯ (λ_ _ z=>z) h
def RY(h:Xb K kd F B G H v o fp):Rp K kd (λ_=>False) H v o.toD:=Ro.rp false (λst v d _ r=>r.less λ_ z=>z.elim) (λ_ _ z=>z) ⋯ (λ_ _ z=>z) h
def Tf(h:Xb K kd F B G H v o []):Rp K kd (Lv F B G o.str) H v o.toD:=
 Ro.rp o.str (λst v d hs r=>r.less<|PB hs) (λa n z=>n<|PB ⋯ a z) id ⋯ h
theorem Xb.vw(h:Xb K kd F B G H v o fp):Vw K kd (Ka F B G o.kl) H v o.toD:=by
 cases h with
 |lf h=>exact h.vw
 |ls hH r=>
  rename_i a vs' os' fp';show Vw K kd (Ka F B G (if os'.all O.isLf=true then some _ else none)) H _ _
  by_cases e:os'.all O.isLf=true
  . rw[if_pos e];exact .lst (.inl<|.inl hH)<|To r e
  . rw[if_neg e];exact .lst (.inl<|.inl hH) (Qk r)
 |dc hH l r=>
  rename_i a ks vs' os' fp';show Vw K kd (Ka F B G (if os'.all O.isLf=true then some _ else none)) H _ _
  by_cases e:os'.all O.isLf=true
  . rw[if_pos e];exact .dct (.inl<|.inl hH)<|Rx (To r e) l
  . rw[if_neg e];exact .dct (.inl<|.inl hH) (Rx (Qk r) l)
 |ob hc hH l r=>
  rename_i a dx C c ns vs' os' fp';have ec:=hc.cl_eq;subst ec;show Vw K kd (Ka F B G (if os'.all O.isLf=true then some _ else none)) H _ _
  by_cases e:os'.all O.isLf=true
  . rw[if_pos e];exact .ob hH l<|To r e
  . rw[if_neg e];exact .ob hH l (Qk r)
 |tp n hH r=>
  rename_i a vs' os';show Vw K kd (Ka F B G (if os'.all O.isLf=true then some _ else none)) H _ _
  by_cases e:os'.all O.isLf=true
  . rw[if_pos e];have rl:=To r e;exact .tup (.tup (λz=>n<|PB (λ_=>rfl) _ z) (.inl hH) rl) (.inl<|.inl hH) rl
  . rw[if_neg e];exact .tup (.tup (λz=>z) (.inl hH)<|Qk r) (.inl<|.inl hH)<|Qk r
theorem xu.vw(R:Rel K kd F B [] ad as σ H)(h:xu K kd F B [] ad σ H v r)(e:r.view as=some (d,lv)):Vw K kd (Ka F B (Gw [] ad) lv) H v d:=by
 cases r with
 |ow o=>
  cases e;exact(Tf h).vw
 |bo i=>
  have e:(match as[i]? with|some (some o)=>some _|_=>none)=some _:=e;cases k:as[i]? with
  |none=>rw[k]at e;cases e
  |some s=>
   cases s with
   |none=>rw[k]at e;cases e
   |some o=>
    rw[k]at e;cases e;obtain⟨w,hw,ro⟩:=R.sl i _ k;rw[h.2]at hw;cases hw;exact ro.vw
def Rel.add(R:Rel K kd F B T ad as σ H)(hn:N.Nodup)(hl:∀a ∈ N,H a=none)(k:∀b u,H b=some u->H' b=some u)(h1:∀a ∈ N,H' a≠none):Rel K kd F B (N++T) ad as σ H'/\Grow (Gw T ad) H (Gw (N++T) ad) H':=by
 have g:Grow (Gw T ad) H (Gw _ ad) H':=⟨λb u h _=>k b u h,λb h=>by
  rcases h with h|h
  . rcases zzM.mp h with h|h
    . exact .inr<|hl b h
    . exact .inl<|.inl h
  . exact .inl<|.inr h⟩
 have kn:∀a,H a≠none->H' a≠none:=λa z=>by
  cases e:H a with
  |none=>exact absurd e z
  |some u=>rw[k a u e];simp
 refine⟨⟨R.len,R.out,R.nd,R.inj, ?_,λi a m z=>?_,λa z=>kn a<|R.ftr a z,λa z=>?_,λa z=>?_,λi s e=>(R.sl i s e).grow g λa _ u h=>k a u h⟩,g⟩
 . refine zxA.mpr ⟨hn,R.tnd,λa m b m' e=>?_⟩;subst e;exact(R.gtr a<|.inl m').1<|hl a m
 . rcases zzM.mp z with z|z
   . exact(R.gtr a<|.inr ⟨i,m⟩).1<|hl a z
   . exact R.dis i a m z
 . obtain⟨b1,b2,b3⟩:=R.btr a z;refine⟨kn a b1,b2,λy=>?_⟩
   rcases y with y|y
   . rcases zzM.mp y with y|y
     . exact b1<|hl a y
     . exact b3<|.inl y
   . exact b3<|.inr y
 . rcases z with z|z
   . rcases zzM.mp z with z|z
     . exact⟨h1 a z,λf=>R.ftr a f<|hl a z⟩
     . exact⟨kn a (R.gtr a<|.inl z).1,(R.gtr a<|.inl z).2⟩
   . exact⟨kn a (R.gtr a<|.inr z).1,(R.gtr a<|.inr z).2⟩
def Rel.more(R:Rel K kd F B T ad as σ H)(k:∀b u,H b=some u->H' b=some u):Rel K kd F B T ad as σ H'/\Grow (Gw T ad) H (Gw T ad) H':=
 R.add zyI ⋯ k ⋯
def Rel.news(R:Rel K kd F B [] ad as σ H)(hn:T'.Nodup)(hl:∀a ∈ T',H a=none)(k:∀b u,H b=some u->H' b=some u)(h1:∀a ∈ T',H' a≠none):Rel K kd F B T' ad as σ H'/\Grow (Gw [] ad) H (Gw T' ad) H':=by
 have:=R.add hn hl k h1
 rwa [zyD]at this
end
inductive R0 where
 |im (d:D)|fl (ds:List D)|fd (kvs:List (Key×D))
def RQ(K:zzA)(kd:KD)(O:Addr->Prop)(H:Hp)(Q:VK):R0->Prop
 | .im d=>∀v H',(∀b o,H b=some o->H' b=some o)->Rp K kd O H' v d->Q v H'
 | .fl ds=>∀l vs H',H l=none->(∀b o,H b=some o->H' b=some o)->H' l=some (.lst vs)->RpL K kd (VP O (· = l)) H' vs ds->Q (.ref l) H'
 | .fd ds=>∀l vs H',H l=none->(∀b o,H b=some o->H' b=some o)->H' l=some (.dK vs)->RpM K kd (VP O (· = l)) H' vs ds->Q (.ref l) H'
def wrap(lv:Option Bool):R0->Option RV
 | .im d=>if(zE d||lv.isSome)=true then some (.ow<|OW (lv.getD false) d)else none
 | .fl ds=>if(ds.all zE||lv.isSome)=true then some (.ow<|.nd .ls<|ds.map<|OW<|lv.getD false)else none
 | .fd kvs=>if((kvs.map (·.2)).all zE||lv.isSome)=true then some (.ow (.nd (.dc (kvs.map (·.1))) ((kvs.map (·.2)).map<|OW<|lv.getD false)))else none
def bS_{α β:Type}{o}{f:α->Option β}{b}(h:o.bind f=some b):∃a,o=some a/\f a=some b:=by
 cases o with
 |none=>cases h
 |some a=>exact⟨a,rfl,h⟩
def ite_some'{α:Type}{c:Prop}[Decidable c]{a}{b:α}(h:(if c then a else none)=some b):c/\a=some b:=by
 by_cases hc:c
 . rw[if_pos hc]at h;exact⟨hc,h⟩
 . rw[if_neg hc]at h;cases h
def zB{α:Type}{c:Prop}[Decidable c]{a b:α}(h:(if c then some a else none)=some b):c/\a=b:=by
 by_cases hc:c
 . rw[if_pos hc]at h;cases h;exact⟨hc,rfl⟩
 . rw[if_neg hc]at h;cases h
section
variable{K:zzA}{kd:KD}{F B:Addr->Prop}{G:Addr->Prop}{ad:Ad}{as:AS}{σ:St}{H H':Hp}{v:V}{r:R0}{rv:RV}{Q:VK}{lv:Option Bool}
def CS(h:zE d=true\/lv.isSome=true)(hO:∀st,lv=some st->∀a,Lv F B G st a->Ob a)(rp:Rp K kd Ob H v d):Lf K kd F B G H (zE d||lv.getD false) v d:=by
 cases e:zE d with
 |true=>exact rp.flat e
 |false=>
  rw[e]at h;cases lv with
  |none=>rcases h with h|h<;>cases h
  |some st=>exact rp.less (hO st rfl)
def S8(hO:∀st,lv=some st->∀a,Lv F B G st a->Ob a)(e:(ds.all zE||lv.isSome)=true)(h:RpL K kd Ob H vs ds):RoL (Lf K kd F B G H) N H vs (ds.map<|OW<|lv.getD false) []:=
 RpL.ind (P:=λvs ds=>(ds.all zE||lv.isSome)=true->RoL _ N H vs (ds.map _) []) (λ_=>.nil) (λ{v d vs ds} h _ ih e=>by
  rw[List.all_cons]at e;have e1:zE d=true\/lv.isSome=true:=by
   cases h1:lv.isSome<;>cases h2:zE d<;>simp[h1,h2]at e ⊢
  have e2:(ds.all zE||lv.isSome)=true:=by
   cases h1:lv.isSome with
   |true=>simp
   |false=>
    rw[h1,Bool.or_false,zyB]at e;rw[Bool.or_false];exact e.2
  exact RoL.cons (.lf<|CS e1 hO h)<|ih e2) h e
def Bo{O}(h:RpM K kd O H vs ds):vs=(ds.map (·.1)).zip (vs.map (·.2))/\RpL K kd O H (vs.map (·.2)) (ds.map (·.2)):=
 RpM.ind (P:=λvs ds=>vs=(ds.map _).zip (vs.map _)/\RpL K kd O H (vs.map _) (ds.map _)) ⟨rfl,.nil⟩ (λh _ ih=>by
  obtain⟨h1,h2⟩:=ih;refine⟨?_,.cons h h2⟩
  conv=>lhs;rw[h1]
  rfl) h
def WR(R:Rel K kd F B [] ad as σ H)(e:wrap lv r=some rv)(q:∀v T' H',Rel K kd F B T' ad as σ H'->xu K kd F B T' ad σ H' v rv->Grow (Gw [] ad) H (Gw T' ad) H'->Q v H'):RQ K kd (Ka F B (Gw [] ad) lv) H Q r:=by
 have hO:∀l st,lv=some st->∀a,Lv F B (Gw l ad) st a->VP (Ka F B (Gw [] ad) lv) (· ∈ l) a:=by
  intro l st e a z;subst e
  rcases z with z|z|z
  . exact .inl<|.inl z
  . exact .inr z
  . exact .inl<|.inr<|.inr z
 cases r with
 |im d=>
  obtain⟨c,rfl⟩:=zB e;intro v H' k rp;obtain⟨R',g⟩:=R.more k;refine q v [] H' R' (.lf<|CS ((Bool.or_eq_true _ _).mp c) (λst e a z=>?_) rp) g;exact(hO [] st e a z).elim id λm=>nomatch m
 |fl ds=>
  obtain⟨c,rfl⟩:=zB e;intro l vs H' hl k hl' rp;obtain⟨R',g⟩:=R.news (T':=[l]) ⋯ (λa m=>by rwa [zzR.mp m]) k (λa m=>by rw[zzR.mp m,hl'];simp);exact q _ [l] H' R' (.ls hl'<|S8 (λst e a z=>(hO [l] st e a z).elim .inl λm=>.inr<|zzR.mp m) c rp) g
 |fd ds=>
  obtain⟨c,rfl⟩:=zB e;intro l vs H' hl k hl' rp;obtain⟨R',g⟩:=R.news (T':=[l]) ⋯ (λa m=>by rwa [zzR.mp m]) k (λa m=>by rw[zzR.mp m,hl'];simp);obtain⟨e1,r1⟩:=Bo rp;refine q _ [l] H' R' (.dc (by rw[hl',<-e1]) (by rw[zzB,zzB,rp.length])<|S8 (λst e a z=>(hO [l] st e a z).elim .inl λm=>.inr<|zzR.mp m) c r1) g
end
abbrev EF:=AS->Option (RV×AS)
def al(K:zzA)(kd:KD)(f:EF):TE:=λσ H Q=>∃F B ad as r as',Rel K kd F B [] ad as σ H/\f as=some (r,as')/\
 ∀v T' ad' H',Rel K kd F B T' ad' as' σ H'->xu K kd F B T' ad' σ H' v r->Grow (Gw [] ad) H (Gw T' ad') H'->Q v H'
@[irreducible] def AE(X:Cx)(kd:KD)(e:Expr)(f:EF):Prop:=PE X e<|al X.K kd f
def yp(h:PE X e t)(k:∀σ H Q,t' σ H Q->t σ H Q):PE X e t':=λpins s σ H Q I q=>h pins s σ H Q I<|k σ H Q q
section
variable{K:zzA}{kd:KD}{F B:Addr->Prop}{ad:Ad}{as as1:AS}{σ:St}{H:Hp}{r:RV}{f:EF}{P:VK}
def Ym(R:Rel K kd F B [] ad as σ H)(e:f as=some (r,as1))(k:∀v ad1 H1,Rel K kd F B [] ad1 as1 σ H1->xu K kd F B [] ad1 σ H1 v r.frz->Grow (Gw [] ad) H (Gw [] ad1) H1->P v H1):al K kd f σ H P:=
 ⟨F,B,ad,as,r,as1,R,e,λv T' ad' H' R' rv g=>k v ad' H' R'.drop (xu.drop R' rv)<|g.trans<|Grow.less Gw.drop⟩
end
def Al(X:Cx)(kd:KD)(f:Value->Value->Sem Value)(g:D->D->Option R0):Prop:=
 Uu X f (λx y H Q=>∃O d e r,(∀a,O a->H a≠none)/\Vw X.K kd O H x d/\Vw X.K kd O H y e/\g d e=some r/\RQ X.K kd O H Q r)
def tX(X:Cx)(kd:KD)(f:Value->Sem Value)(g:D->Option R0):Prop:=
 D8 X f (λx H Q=>∃O d r,(∀a,O a->H a≠none)/\Vw X.K kd O H x d/\g d=some r/\RQ X.K kd O H Q r)
inductive VwL(K:zzA)(kd:KD)(O:Addr->Prop)(H:Hp):List V->List D->Prop
 |nil:VwL K kd O H [] []
 |cons {v:V}{d:D}{vs:List V}{ds:List D}:Vw K kd O H v d->VwL K kd O H vs ds->VwL K kd O H (v::vs) (d::ds)
def Vv(X:Cx)(kd:KD)(f:Value)(g:List D->Option R0):Prop:=
 Vk X f (λxs H Q=>∃O ds r,(∀a,O a->H a≠none)/\VwL X.K kd O H xs ds/\g ds=some r/\RQ X.K kd O H Q r)
def se(X:Cx)(kd:KD)(g:D->D->Option R0):Prop:=
 DC X (λx y H Q=>∃O d e r,(∀a,O a->H a≠none)/\Vw X.K kd O H x d/\Vw X.K kd O H y e/\g d e=some r/\RQ X.K kd O H Q r)
def meet:Option Bool->Option Bool->Option Bool
 |some a,some b=>some (a&&b)
 |_,_=>none
def Ka.meet1:∀x,Ka F B G (meet a b) x->Ka F B G a x:=λx h=>by
 cases a with
 |none=>cases b<;>exact h.elim
 |some p=>
  cases b with
  |none=>exact h.elim
  |some q=>exact PB (λz=>((zyB _ _).mp z).1) x h
def Ka.meet2:∀x,Ka F B G (meet a b) x->Ka F B G b x:=λx h=>by
 cases a with
 |none=>cases b<;>exact h.elim
 |some p=>
  cases b with
  |none=>exact h.elim
  |some q=>exact PB ⋯ x h
theorem Vw.less{K O O'}(g:∀a,O' a->O a)(h:Vw K kd O H v d):Vw K kd O' H v d:=by
 cases h with
 |non=>exact .non
 |bl b=>exact .bl b
 |int i=>exact .int i
 |str x=>exact .str x
 |tup r s l=>exact .tup (r.less g) s (l.less g)
 |lst h l=>exact .lst h (l.less g)
 |dct h l=>exact .dct h (l.less g)
 |cl c=>exact .cl c
 |ob h k l=>exact .ob h k (l.less g)
def f2(fa fb:EF)(g:D->D->Option R0):EF:=λas=>(fa as).bind λp=>(fb p.2).bind λq=>(p.1.frz.view q.2).bind λx=>(q.1.frz.view q.2).bind λy=>(g x.1 y.1).bind λr=>(wrap (meet x.2 y.2) r).bind λz=>some (z,q.2)
def E9{fa fb}{as as':AS}(h:f2 fa fb g as=some (rv,as')):
 ∃p as1 q x y lx ly r,fa as=some (p,as1)/\fb as1=some (q,as')/\p.frz.view as'=some (x,lx)/\q.frz.view as'=some (y,ly)/\g x y=some r/\wrap (meet lx ly) r=some rv:=by
 obtain⟨⟨p,as1⟩,h1,h⟩:=bS_ h;obtain⟨⟨q,as2⟩,h2,h⟩:=bS_ h;obtain⟨⟨x,lx⟩,h3,h⟩:=bS_ h;obtain⟨⟨y,ly⟩,h4,h⟩:=bS_ h;obtain⟨r,h5,h⟩:=bS_ h;obtain⟨z,h6,h⟩:=bS_ h;cases h;exact⟨p,as1,q,x,y,lx,ly,r,h1,h2,h3,h4,h5,h6⟩
section
variable{X:Cx}{kd:KD}{a b c:Expr}{fa fb fc:EF}{pos:Pos}
def ub(hr:∀x y H Q,(∃O d e r,(∀a,O a->H a≠none)/\Vw X.K kd O H x d/\Vw X.K kd O H y e/\g d e=some r/\RQ X.K kd O H Q r)->R2' x y H Q)
 (h:al X.K kd (f2 fa fb g) σ H Q):DP R2' (al X.K kd fa) (al X.K kd fb) σ H Q:=by
 obtain⟨F,B,ad,as,r,as',R,e,q⟩:=h;obtain⟨p,as1,z,x,y,lx,ly,r0,h1,h2,h3,h4,h5,h6⟩:=E9 e;refine Ym R h1 λv ad1 H1 R1 rv1 g1=>Ym R1 h2 λu ad2 H2 R2 rv2 g2=>hr _ _ _ _ ?_;exact⟨_,x,y,r0,R2.tr _,(xu.vw R2 (rv1.grow g2) h3).less Ka.meet1,(xu.vw R2 rv2 h4).less Ka.meet2,h5,WR R2 h6 λw T' H' R' rv' g'=>q w T' ad2 H' R' rv'<|(g1.trans g2).trans g'⟩
def SA(ho:Al X kd (binaryOp op) g)(ha:AE X kd a fa)(hb':AE X kd b fb):AE X kd (.BinOp a op b pos) (f2 fa fb g):=by with_unfolding_all exact(yp (A4 ho ha hb') λσ H Q h=>ub (λ_ _ _ _ z=>z) h)
def Jk(ho:Al X kd (compareOp op) g)(ha:AE X kd a fa)(hb':AE X kd b fb)(hm:behindInMarks op b=false):AE X kd (.Compare a [op] [b] pos) (f2 fa fb g):=by with_unfolding_all exact(yp (OB ho ha hb' hm) λσ H Q h=>ub (λ_ _ _ _ z=>z) h)
def AR(ho:se X kd g)(ha:AE X kd a fa)(hb':AE X kd b fb)(hm:Ll b):AE X kd (.Subscript a b pos) (f2 fa fb g):=by with_unfolding_all exact(yp (DM ho ha hb' hm) λσ H Q h=>ub (λ_ _ _ _ z=>z) h)
def fC(d:D):EF:=λas=>some (.ow<|.lf true d,as)
noncomputable def fV(i:Nat):EF:=λas=>match as[i]? with
 |some (some (.lf st d))=>some (.ow<|.lf st d,as)
 |some (some (.nd _ _))=>some (.bo i,as)
 |_=>none
def Lj(h:PE X a (tC v))(hr:∀O H,Rp X.K kd O H v d):AE X kd a (fC d):=by with_unfolding_all exact(yp h λσ H Q h=>by
 obtain⟨F,B,ad,as,r,as',R,e,q⟩:=h;cases e;exact q v [] ad H R (.lf<|hr _ _) Grow.refl)
def IX{i:Nat}(h:PE X a (Bd i)):AE X kd a (fV i):=by with_unfolding_all exact(yp h λσ H Q h=>by
 obtain⟨F,B,ad,as,r,as',R,e,q⟩:=h;unfold fV at e;cases k:as[i]? with
 |none=>rw[k]at e;cases e
 |some s=>
  rw[k]at e;cases s with
  |none=>cases e
  |some o=>
   obtain⟨v,h1,h2⟩:=R.sl i _ k;cases o with
   |lf st d=>
    cases e;have e0:ad i=[]:=by
     generalize hfp:ad i=fp at h2;cases h2;rfl
    rw[e0]at h2;exact⟨v,h1,q v [] ad H R h2 Grow.refl⟩
   |nd kk os=>
    cases e;exact⟨_,h1,q _ [] ad H R ⟨rfl,h1⟩ Grow.refl⟩)
end
def v_(ad:Ad)(i:Nat)(x:List Addr):Ad:=λj=>if j=i then x else ad j
section
variable{K:zzA}{kd:KD}{F B:Addr->Prop}{T T1 T2:List Addr}{ad ad1:Ad}{as as1:AS}{σ:St}{H H1:Hp}{v:V}{r:RV}{o:O}{i:Nat}
def zO:v_ ad i x i=x:=if_pos rfl
def zS{j:Nat}(h:j≠i):v_ ad i x j=ad j:=if_neg h
def Zv:∀a,Gw T (v_ ad i []) a->Gw T ad a:=λa h=>by
 rcases h with h|⟨j,h⟩
 . exact .inl h
 . by_cases e:j=i
   . subst e;rw[zO]at h;cases h
   . rw[zS e]at h;exact .inr ⟨j,h⟩
def YY:∀a,Gw [] (v_ ad i T) a->Gw T ad a:=λa h=>by
 rcases h with h|⟨j,h⟩
 . cases h
 . by_cases e:j=i
   . subst e;rw[zO]at h;exact .inl h
   . rw[zS e]at h;exact .inr ⟨j,h⟩
def Fb:∀st a,Lv F (λa=>B a\/a ∈ T) (Gw [] ad) st a->Lv F B (Gw T ad) st a:=λst a z=>by
 rcases z with(z|z|z)|z
 . exact .inl<|.inl z
 . exact .inl<|.inr z
 . exact .inr<|.inl z
 . exact .inr<|Gw.drop a z
def QZ:∀st a,Lv F B (Gw (T1++T2) ad) st a->Lv F (λa=>B a\/a ∈ T1) (Gw T2 ad) st a:=λst a z=>by
 rcases z with(z|z)|z|z
 . exact .inl<|.inl z
 . exact .inl<|.inr<|.inl z
 . rcases zzM.mp z with z|z
   . exact .inl<|.inr<|.inr z
   . exact .inr<|.inl z
 . exact .inr<|.inr z
def Rel.hide(R:Rel K kd F B T ad as σ H):Rel K kd F (λa=>B a\/a ∈ T) [] ad as σ H where
 len:=R.len
 out:=R.out
 nd:=R.nd
 inj:=R.inj
 tnd:=zyI
 dis:=λ_ _ _ z=>nomatch z
 ftr:=R.ftr
 btr:=λa h=>by
  rcases h with h|h
  . obtain⟨h1,h2,h3⟩:=R.btr a h;exact⟨h1,h2,λz=>h3<|Gw.drop a z⟩
  . exact⟨(R.gtr a<|.inl h).1,(R.gtr a<|.inl h).2,λz=>z.elim ⋯ λ⟨j,y⟩=>R.dis j a y h⟩
 gtr:=λa h=>R.gtr a (Gw.drop a h)
 sl:=λi s e=>(R.sl i s e).lv Fb
def Rel.unhide(hn:T1.Nodup)(hb:∀a ∈ T1,¬B a)(R:Rel K kd F (λa=>B a\/a ∈ T1) T2 ad as σ H):Rel K kd F B (T1++T2) ad as σ H where
 len:=R.len
 out:=R.out
 nd:=R.nd
 inj:=R.inj
 tnd:=zxA.mpr ⟨hn,R.tnd,λa m b m' e=>by subst e;exact(R.btr a<|.inr m).2.2<|.inl m'⟩
 dis:=λi a m z=>by
  rcases zzM.mp z with z|z
  . exact(R.btr a<|.inr z).2.2<|.inr ⟨i,m⟩
  . exact R.dis i a m z
 ftr:=R.ftr
 btr:=λa h=>by
  obtain⟨h1,h2,h3⟩:=R.btr a<|.inl h;refine⟨h1,h2,λz=>?_⟩
  rcases z with z|z
  . rcases zzM.mp z with z|z
    . exact hb a z h
    . exact h3<|.inl z
  . exact h3 (.inr z)
 gtr:=λa h=>by
  rcases h with h|h
  . rcases zzM.mp h with h|h
    . exact⟨(R.btr a<|.inr h).1,(R.btr a<|.inr h).2.1⟩
    . exact R.gtr a<|.inl h
  . exact R.gtr a (.inr h)
 sl:=λi s e=>(R.sl i s e).lv QZ
theorem Rel.frz(R:Rel K kd F B T ad as σ H)(h:as[i]? = some (some o)):
 Rel K kd F B T (v_ ad i []) (as.set i<|some o.frz) σ H/\∃v,σ[i]? = some (some v)/\Rp K kd (Lv F B (Gw T<|v_ ad i []) o.str) H v o.toD:=by
 obtain⟨v,hv,ro⟩:=R.sl i _ h;have rp:Rp K kd (Lv F B (Gw T<|v_ ad i []) o.str) H v o.toD:=
  Ro.rp o.str (λst v d hs r=>r.less λa z=>z.elim (λy=>.inl<|y.elim (λx=>.inl ⟨hs x.1,x.2⟩) .inr) λy=>.inr<|Zv a y)
   (λa n z=>n<|z.elim (λy=>.inl<|y.elim (λx=>.inl ⟨rfl,x.2⟩) .inr) λy=>.inr<|Zv a y) id
   (λa m z=>by
    rcases z with(z|z)|z|⟨j,z⟩
    . exact(R.gtr a<|.inr ⟨i,m⟩).2 z.2
    . exact(R.btr a z).2.2<|.inr ⟨i,m⟩
    . exact R.dis i a m z
    . by_cases e:j=i
      . subst e;rw[zO]at z;cases z
      . rw[zS e]at z;exact e<|R.inj j i a z m) ro
 have hi:=(zzG.mp h).1;refine⟨⟨by rw[zzU];exact R.len,λj hj=>?_,λj=>?_,λj k a h1 h2=>?_,R.tnd,λj a h1=>?_,R.ftr,λa h1=>?_,λa h1=>R.gtr a<|Zv a h1,λj s e=>?_⟩,v,hv,rp⟩
 . rw[zzU]at hj;rw[zS ⋯];exact R.out j hj
 . by_cases e:j=i
   . subst e;rw[zO];exact zyI
   . rw[zS e];exact R.nd j
 . by_cases e:j=i
   . subst e;rw[zO]at h1;cases h1
   . by_cases e':k=i
     . subst e';rw[zO]at h2;cases h2
     . rw[zS e]at h1;rw[zS e']at h2;exact R.inj j k a h1 h2
 . by_cases e:j=i
   . subst e;rw[zO]at h1;cases h1
   . rw[zS e]at h1;exact R.dis j a h1
 . obtain⟨b1,b2,b3⟩:=R.btr a h1;exact⟨b1,b2,λz=>b3<|Zv a z⟩
 . by_cases q:j=i
   . subst q;rw[zyJ hi]at e;cases e;rw[zO];exact⟨v,hv,.lf rp⟩
   . rw[zzX<|Ne.symm q]at e;rw[zS q];exact(R.sl j s e).less Zv
def Rel.put(R:Rel K kd F B T ad as σ H)(hi:i<as.length)(h:Xb K kd F B (Gw T ad) H v o T):Rel K kd F B [] (v_ ad i T) (as.set i<|some o) (σ.set i<|some v) H:=by
 have hi':i<σ.length:=by rwa [<-R.len]
 refine⟨by rw[zzU,zzU];exact R.len,λj hj=>?_,λj=>?_,λj k a h1 h2=>?_,zyI,(λ_ _ _ z=>nomatch z),R.ftr,λa h1=>?_,λa h1=>R.gtr a<|YY a h1,λj s e=>?_⟩
 . rw[zzU]at hj;rw[zS ⋯];exact R.out j hj
 . by_cases e:j=i
   . subst e;rw[zO];exact R.tnd
   . rw[zS e];exact R.nd j
 . by_cases e:j=i
   . subst e;rw[zO]at h1
     by_cases e':k=j
     . exact e'.symm
     . rw[zS e']at h2;exact(R.dis k a h2 h1).elim
   . rw[zS e]at h1
     by_cases e':k=i
     . subst e';rw[zO]at h2;exact(R.dis j a h1 h2).elim
     . rw[zS e']at h2;exact R.inj j k a h1 h2
 . obtain⟨b1,b2,b3⟩:=R.btr a h1;exact⟨b1,b2,λz=>b3<|YY a z⟩
 . by_cases q:j=i
   . subst q;rw[zyJ hi]at e;cases e;rw[zO,zyJ hi'];exact⟨v,rfl,h.less YY⟩
   . rw[zzX<|Ne.symm q]at e;rw[zS q,zzX<|Ne.symm q];exact(R.sl j s e).less YY
def Ce(as:AS):RV->Option (O×AS)
 | .ow o=>some (o,as)
 | .bo i=>match as[i]? with
  |some (some o)=>some (o.frz,as.set i<|some o.frz)
  |_=>none
def PJ(R:Rel K kd F B T ad as σ H)(h:xu K kd F B T ad σ H v r)(e:Ce as r=some (o,as')):∃ad',Rel K kd F B T ad' as' σ H/\Xb K kd F B (Gw T ad') H v o T/\∀a,Gw T ad' a->Gw T ad a:=by
 cases r with
 |ow o'=>cases e;exact⟨ad,R,h,λ_ z=>z⟩
 |bo i=>
  have e:(match as[i]? with|some (some o)=>some _|_=>none)=some _:=e;cases k:as[i]? with
  |none=>rw[k]at e;cases e
  |some s=>
   cases s with
   |none=>rw[k]at e;cases e
   |some o1=>
    rw[k]at e;cases e;obtain⟨hT,hs⟩:=h;subst hT;obtain⟨R',w,hw,rp⟩:=R.frz k;rw[hs]at hw;cases hw;exact⟨_,R',.lf rp,Zv⟩
end
abbrev TF:=AS->Option (Bool×AS)
def HK(K:zzA)(kd:KD)(f:TF):TT:=λσ H Q=>∃F B ad as b as',Rel K kd F B [] ad as σ H/\f as=some (b,as')/\
 ∀ad' H',Rel K kd F B [] ad' as' σ H'->Grow (Gw [] ad) H (Gw [] ad') H'->Q b H'
@[irreducible] def AT(X:Cx)(kd:KD)(e:Expr)(f:TF):Prop:=PT X e<|HK X.K kd f
@[irreducible] def AW(X:Cx)(kd:KD)(e:Expr)(f:TF):Prop:=PW X e<|HK X.K kd f
def truth:D->Option Bool
 | .non=>some false
 | .bl b=>some b
 | .int i=>some<|i != 0
 | .str x=>if x.length<=sizeLine then some ((x.length:Int) != 0)else none
 | .tup ds=>some<|!ds.isEmpty
 | .lst ds=>some (!ds.isEmpty)
 |_=>none
def fT(f:EF):TF:=λas=>(f as).bind λp=>(p.1.frz.view p.2).bind λx=>(truth x.1).bind λb=>some (b,p.2)
def ZV(f g:TF):TF:=λas=>(f as).bind λp=>if p.1=true then g p.2 else some (false,p.2)
def WX(f g:TF):TF:=λas=>(f as).bind λp=>if p.1=true then some (true,p.2)else g p.2
def v3(f:TF):TF:=λas=>(f as).bind λp=>some (!p.1,p.2)
def Mq(c:TF)(f g:EF):EF:=λas=>(c as).bind λp=>if p.1=true then f p.2 else g p.2
def FX:D->Option Int
 | .int i=>some i
 |_=>none
def tW:D->Option Str
 | .str i=>some i
 |_=>none
def Dk:D->Option (List D)
 | .lst i=>some i
 |_=>none
def tY:D->Option (List D)
 | .tup i=>some i
 |_=>none
def Kz(e:Dk d=some i):d = .lst i:=by
 cases d with
 |lst j=>cases e;rfl
 |_=>cases e
def JE(e:tY d=some i):d = .tup i:=by
 cases d with
 |tup j=>cases e;rfl
 |_=>cases e
def SU(h:FX d=some c):d = .int c:=by
 cases d with
 |int i=>cases h;rfl
 |_=>cases h
def sf:D->Option Bool
 | .bl i=>some i
 |_=>none
def IJ(h:sf d=some c):d = .bl c:=by
 cases d with
 |bl i=>cases h;rfl
 |_=>cases h
def uH:RV->Option D
 | .ow (.lf _ d)=>some d
 |_=>none
def Ho(h:uH r=some d):∃st,r = .ow (.lf st d):=by
 cases r with
 |bo i=>cases h
 |ow o=>
  cases o with
  |nd k os=>cases h
  |lf st d=>cases h;exact⟨st,rfl⟩
def uy(r:RV):Option Bool:=(uH r).bind sf
def Sl(h:uy r=some c):∃st,r = .ow (.lf st<|.bl c):=by
 obtain⟨d,h1,h⟩:=bS_ h;cases IJ h;exact Ho h1
def tQ(r:RV):Option Int:=(uH r).bind FX
def JX(h:tQ r=some c):∃st,r = .ow (.lf st<|.int c):=by
 obtain⟨d,h1,h⟩:=bS_ h;cases SU h;exact Ho h1
def Aw{α:Type}:List α->Option (α×α)
 | [a,b]=>some (a,b)
 |_=>none
def Oq{α:Type}{os}{p:α×α}(h:Aw os=some p):os=[p.1,p.2]:=by
 cases os with
 |nil=>cases h
 |cons x r=>
  cases r with
  |nil=>cases h
  |cons y r=>
   cases r with
   |nil=>cases h;rfl
   |cons _ _=>cases h
def H_(f g:EF):EF:=λas=>(f as).bind λp=>(uy p.1).bind λc=>if c=true then g p.2 else some (.ow<|.lf true<|.bl false,p.2)
def HW(f:EF):EF:=λas=>(f as).bind λp=>(uy p.1).bind λc=>some (.ow<|.lf true<|.bl<|!c,p.2)
def f1(fa:EF)(g:D->Option R0):EF:=λas=>(fa as).bind λp=>(p.1.frz.view p.2).bind λx=>(g x.1).bind λr=>(wrap x.2 r).bind λz=>some (z,p.2)
section
variable{X:Cx}{kd:KD}{a b c:Expr}{fa fb:EF}{ta tb:TF}{pos:Pos}{es rest:List Expr}
def Mt(h:PT X e t)(k:∀σ H Q,t' σ H Q->t σ H Q):PT X e t':=λpins s σ H Q I q=>h pins s σ H Q I<|k σ H Q q
def Hj(h:PW X e t)(k:∀σ H Q,t' σ H Q->t σ H Q):PW X e t':=λw pins s σ H Q I q=>h w pins s σ H Q I<|k σ H Q q
def IB{O}(h:Vw X.K kd O H v d)(e:truth d=some k):Il X.K v H k:=by
 cases h with
 |non=>cases e;rfl
 |bl b=>cases e;rfl
 |int i=>cases e;rfl
 |str x=>
  have e:(if x.length<=sizeLine then some _ else none)=some k:=e
  by_cases hl:x.length<=sizeLine
  . rw[if_pos hl]at e;cases e;exact⟨hl,rfl⟩
  . rw[if_neg hl]at e;cases e
 |tup r hs hr=>
  cases e;refine .inr<|.inl ⟨_,hs, ?_⟩;cases hr<;>rfl
 |lst hs hr=>
  cases e;refine .inl ⟨_,hs.sq, ?_⟩;cases hr<;>rfl
 |dct=>cases e
 |cl=>cases e
 |ob=>cases e
def Q3(ha:AE X kd a fa)(he:∀whole,isTrue a X.env whole=(do let v <-whole;standAt a.pos;holding [v] (truthy v))):AT X kd a (fT fa):=by with_unfolding_all exact(Mt (Sy ha he) λσ H Q h=>by
 obtain⟨F,B,ad,as,bb,as',R,e,q⟩:=h;obtain⟨_,h1,e⟩:=bS_<|e;obtain⟨_,h2,e⟩:=bS_ e;obtain⟨k,h3,e⟩:=bS_ e;cases e;exact Ym R h1 λv ad1 H1 R1 rv1 g1=>⟨_,IB (xu.vw R1 rv1 h2) h3,q ad1 H1 R1 g1⟩)
def IU(ho:Al X kd (compareOp op) g)(hg:∀x y r,g x y=some r->∃k,r = .im (.bl k))(ha:AE X kd a fa)(hb:AE X kd b fb)(hm:behindInMarks op b=false):
 AT X kd (.Compare a [op] [b] pos) (fT<|f2 fa fb g):=by with_unfolding_all exact(Mt (Ow ho ha hb hm) λσ H Q h=>by
 obtain⟨F,B,ad,as,bb,as',R,e,q⟩:=h;obtain⟨⟨p,as1⟩,h1,e⟩:=bS_<|e;obtain⟨_,h2,e⟩:=bS_ e;obtain⟨k,h3,e⟩:=bS_ e;cases e;obtain⟨_,_,_,x,y,_,_,r0,_,_,_,_,hp,hw⟩:=E9 h1;obtain⟨k',rfl⟩:=hg _ _ _ hp;cases hw;cases h2;cases h3;refine ub (λ_ _ _ _ z=>z) ⟨F,B,ad,as,_,_,R,h1,λv T' ad' H' R' rv g'=>?_⟩;cases rv with
 |lf rp=>
  cases rp;exact⟨_,rfl,q ad' H' R' g'⟩)
def PD(ha:AT X kd a ta):AT X kd (.UnaryOp .Not a pos) (v3 ta):=by with_unfolding_all exact(Mt (Ae ha) λσ H Q h=>by
 obtain⟨F,B,ad,as,bb,as',R,e,q⟩:=h;obtain⟨⟨p,as1⟩,h1,e⟩:=bS_<|e;cases e;exact⟨F,B,ad,as,p,_,R,h1,λad' H' R' g=>q ad' H' R' g⟩)
def TL(ha:AT X kd a ta):AW X kd (.BoolOp .And [a] pos) ta:=by with_unfolding_all exact(H0 ha)
def Q_(ha:AT X kd a ta):AW X kd (.BoolOp .Or [a] pos) ta:=by with_unfolding_all exact(JP ha)
def BE(ha:AT X kd a ta)(hb:AW X kd (.BoolOp .And (b::rest) pos) tb):AW X kd (.BoolOp .And (a::b::rest) pos) (ZV ta tb):=by with_unfolding_all exact(Hj (IG ha hb) λσ H Q h=>by
 obtain⟨F,B,ad,as,bb,as',R,e,q⟩:=h;obtain⟨⟨p,as1⟩,h1,e⟩:=bS_<|e;refine⟨F,B,ad,as,p,as1,R,h1,λad' H' R' g=>?_⟩;cases p with
 |true=>exact⟨F,B,ad',as1,bb,as',R',e,λad2 H2 R2 g2=>q ad2 H2 R2<|g.trans g2⟩
 |false=>cases e;exact q ad' H' R' g)
def E7(ha:AT X kd a ta)(hb:AW X kd (.BoolOp .Or (b::rest) pos) tb):AW X kd (.BoolOp .Or (a::b::rest) pos) (WX ta tb):=by with_unfolding_all exact(Hj (Dy ha hb) λσ H Q h=>by
 obtain⟨F,B,ad,as,bb,as',R,e,q⟩:=h;obtain⟨⟨p,as1⟩,h1,e⟩:=bS_<|e;refine⟨F,B,ad,as,p,as1,R,h1,λad' H' R' g=>?_⟩;cases p with
 |false=>exact⟨F,B,ad',as1,bb,as',R',e,λad2 H2 R2 g2=>q ad2 H2 R2<|g.trans g2⟩
 |true=>cases e;exact q ad' H' R' g)
def AW.at_(h:AW X kd e ta):AT X kd e ta:=by with_unfolding_all exact(PW.pt h)
def Nn(hc:AT X kd c ta)(ha:AE X kd a fa)(hb:AE X kd b fb):AE X kd (.IfExp c a b pos) (Mq ta fa fb):=by with_unfolding_all exact(yp (Hh hc ha hb) λσ H Q h=>by
 obtain⟨F,B,ad,as,r,as',R,e,q⟩:=h;obtain⟨⟨p,as1⟩,h1,e⟩:=bS_<|e;refine⟨F,B,ad,as,p,as1,R,h1,λad' H' R' g=>?_⟩;cases p with
 |true=>exact⟨F,B,ad',as1,r,as',R',e,λv T2 ad2 H2 R2 rv g2=>q v T2 ad2 H2 R2 rv<|g.trans g2⟩
 |false=>exact⟨F,B,ad',as1,r,as',R',e,λv T2 ad2 H2 R2 rv g2=>q v T2 ad2 H2 R2 rv<|g.trans g2⟩)
def C7{K ad st c}(h:xu K kd F B T ad σ H v (.ow<|.lf st<|.bl c)):T=[]/\v = .bl c:=by
 cases h with
 |lf rp=>cases rp;exact ⋯
def IA(ha:AE X kd a fa):AE X kd (.BoolOp op [a] pos) fa:=by with_unfolding_all exact ⋯
def Iy(ha:AE X kd a fa)(hb:AE X kd (.BoolOp .And (b::rest) pos) fb):AE X kd (.BoolOp .And (a::b::rest) pos) (H_ fa fb):=by with_unfolding_all exact(yp (IR ha hb) λσ H Q h=>by
 obtain⟨F,B,ad,as,r,as',R,e,q⟩:=h;obtain⟨⟨p,as1⟩,h1,e⟩:=bS_<|e;refine⟨F,B,ad,as,p,as1,R,h1,λv T' ad' H' R' rv g=>?_⟩;obtain⟨k,e1,e⟩:=bS_ e;obtain⟨st,rfl⟩:=Sl e1;obtain⟨rfl,rfl⟩:=C7 rv;cases k with
 |true=>exact⟨true,rfl,⟨F,B,ad',as1,r,as',R',e,λv T2 ad2 H2 R2 rv g2=>q v T2 ad2 H2 R2 rv<|g.trans g2⟩⟩
 |false=>
  cases e;exact⟨false,rfl,q _ [] ad' H' R' (.lf<|.bl false) g⟩)
def Ac(ha:AE X kd a fa):AE X kd (.UnaryOp .Not a pos) (HW fa):=by with_unfolding_all exact(yp (J6 ha) λσ H Q h=>by
 obtain⟨F,B,ad,as,r,as',R,e,q⟩:=h;obtain⟨⟨p,as1⟩,h1,e⟩:=bS_<|e;refine⟨F,B,ad,as,p,as1,R,h1,λv T' ad' H' R' rv g=>?_⟩;obtain⟨k,e1,e⟩:=bS_ e;obtain⟨st,rfl⟩:=Sl e1;obtain⟨rfl,rfl⟩:=C7 rv;cases e;exact⟨k,rfl,q _ [] ad' H' R' (.lf<|.bl _) g⟩)
def DN(ho:tX X kd (unaryOp op) g)(ha:AE X kd a fa):AE X kd (.UnaryOp op a pos) (f1 fa g):=by with_unfolding_all exact(yp (A0 ho ha) λσ H Q h=>by
 obtain⟨F,B,ad,as,r,as',R,e,q⟩:=h;obtain⟨_,h1,e⟩:=bS_<|e;obtain⟨⟨x,lv⟩,h2,e⟩:=bS_ e;obtain⟨z,h3,e⟩:=bS_ e;obtain⟨y,h4,e⟩:=bS_ e;cases e;refine Ym R h1 λv ad1 H1 R1 rv1 g1=>⟨_,x,z,R1.tr _,xu.vw R1 rv1 h2,h3,WR R1 h4 λw T' H' R' rv' g'=>q w T' ad1 H' R' rv'<|g1.trans g'⟩)
end
abbrev AF:=AS->Option (List RV×AS)
inductive RVs(K:zzA)(kd:KD)(F B:Addr->Prop)(ad:Ad)(σ:St)(H:Hp):List V->List RV->Prop
 |nil:RVs K kd F B ad σ H [] []
 |cons {v:V}{r:RV}{vs:List V}{rs:List RV}:xu K kd F B [] ad σ H v r->RVs K kd F B ad σ H vs rs->RVs K kd F B ad σ H (v::vs) (r::rs)
def Ak(K:zzA)(kd:KD)(f:AF):TA:=λσ H Q=>∃F B ad as rs as',Rel K kd F B [] ad as σ H/\f as=some (rs,as')/\
 ∀vs ad' H',Rel K kd F B [] ad' as' σ H'->RVs K kd F B ad' σ H' vs rs->Grow (Gw [] ad) H (Gw [] ad') H'->Q vs H'
@[irreducible] def AA(X:Cx)(kd:KD)(es:List Expr)(f:AF):Prop:=PA X es<|Ak X.K kd f
def aN:AF:=λas=>some ([],as)
def aC(fa:EF)(fr:AF):AF:=λas=>(fa as).bind λp=>(fr p.2).bind λq=>some (p.1.frz::q.1,q.2)
def Lp(h:PA X e t)(k:∀σ H Q,t' σ H Q->t σ H Q):PA X e t':=λpos pins s σ H Q I q=>h pos pins s σ H Q I<|k σ H Q q
abbrev DF:=AS->Option (List O×AS)
def sr(K:zzA)(kd:KD)(f:DF):TA:=λσ H Q=>∃F B ad as os as',Rel K kd F B [] ad as σ H/\f as=some (os,as')/\
 ∀vs T' ad' H',Rel K kd F B T' ad' as' σ H'->Zy K kd F B (Gw T' ad') H' vs os T'->Grow (Gw [] ad) H (Gw T' ad') H'->Q vs H'
@[irreducible] def AD(X:Cx)(kd:KD)(es:List Expr)(f:DF):Prop:=PA X es<|sr X.K kd f
def dN:DF:=λas=>some ([],as)
def dC(fa:EF)(fr:DF):DF:=λas=>(fa as).bind λp=>(Ce p.2 p.1).bind λx=>(fr x.2).bind λq=>some (x.1::q.1,q.2)
def views(as:AS):List RV->Option (List D×Option Bool)
 | []=>some ([],some true)
 |r::rs=>(r.view as).bind λx=>(views as rs).bind λy=>some (x.1::y.1,meet x.2 y.2)
def fP(fr:AF)(g:List D->Option R0):EF:=λas=>(fr as).bind λp=>(views p.2 p.1).bind λx=>(g x.1).bind λr=>(wrap x.2 r).bind λz=>some (z,p.2)
def DU(as:AS):RV->Option (Bool×D)
 | .ow o=>some (zE o.toD||o.str,o.toD)
 | .bo i=>match as[i]? with
  |some (some o)=>some (false,o.toD)
  |_=>none
def XD(as:AS):List RV->Option (List<|Bool×D)
 | []=>some []
 |r::rs=>(DU as r).bind λx=>(XD as rs).bind λy=>some (x::y)
def zd(fr:AF)(g:List (Bool×D)->Option O):EF:=λas=>(fr as).bind λp=>(XD p.2 p.1).bind λx=>(g x).bind λo=>some (.ow o,p.2)
def uK(K:zzA)(kd:KD)(F:Addr->Prop)(H:Hp)(Q:VK)(o:O):Prop:=
 ∀v T H',T.Nodup->(∀a ∈ T,H a=none)->(∀b u,H b=some u->H' b=some u)->(∀a ∈ T,H' a≠none)->Ro (λ_ v d=>Rp K kd (VP F (· ∈ T)) H' v d) (λa=>¬VP F (· ∈ T) a) H' v o T->Q v H'
inductive RpA(K:zzA)(kd:KD)(F:Addr->Prop)(H:Hp):List V->List (Bool×D)->Prop
 |nil:RpA K kd F H [] []
 |cons {v:V}{st:Bool}{d:D}{vs:List V}{ds:List (Bool×D)}:Rp K kd (λa=>st=true/\F a) H v d->RpA K kd F H vs ds->RpA K kd F H (v::vs) ((st,d)::ds)
def Wv(K:zzA)(kd:KD)(g:List (Bool×D)->Option O):Sp:=λvs H Q _=>∃F ds o,(∀a,F a->H a≠none)/\RpA K kd F H vs ds/\g ds=some o/\uK K kd F H Q o
def Qs(os:List O):O:=if os.all O.isLf=true then .lf (O.strs os) (.tup<|O.toDs os)else .nd .tp os
def yg(fr:DF):EF:=λas=>(fr as).bind λp=>if p.1.length<=sizeLine then some (.ow<|Qs p.1,p.2)else none
def yt(fr:DF):EF:=λas=>(fr as).bind λp=>if p.1.length<=sizeLine then some (.ow<|.nd .ls p.1,p.2)else none
section
variable{X:Cx}{kd:KD}{a b c:Expr}{fa fb:EF}{ta tb:TF}{pos:Pos}{es rest:List Expr}{fr:AF}{fd:DF}
theorem RpA.length{K}(h:RpA K kd F H vs ds):vs.length=ds.length:=by
 induction h with
 |nil=>rfl
 |cons _ _ ih=>exact congrArg _ ih
def zz:AA X kd [] aN:=by with_unfolding_all exact(Lp MK λσ H Q h=>by
 obtain⟨F,B,ad,as,rs,as',R,e,q⟩:=h;cases e;exact q [] ad H R .nil Grow.refl)
def OR(ha:AE X kd a fa)(hr:AA X kd es fr)(hs:starEach (a::es) X.env=(false,eval a X.env)::starEach es X.env):AA X kd (a::es) (aC fa fr):=by with_unfolding_all exact(Lp (Rr ha hr hs) λσ H Q h=>by
 obtain⟨F,B,ad,as,rs,as',R,e,q⟩:=h;obtain⟨⟨p,as1⟩,h1,e⟩:=bS_<|e;obtain⟨⟨z,as2⟩,h2,e⟩:=bS_ e;cases e;refine Ym R h1 λv ad1 H1 R1 rv1 g1=>⟨F,B,ad1,as1,z,_,R1,h2,λvs ad2 H2 R2 rv2 g2=>?_⟩;exact q _ ad2 H2 R2 (.cons (rv1.grow g2) rv2)<|g1.trans g2)
def yD:AD X kd [] dN:=by with_unfolding_all exact(Lp MK λσ H Q h=>by
 obtain⟨F,B,ad,as,rs,as',R,e,q⟩:=h;cases e;exact q [] [] ad H R .nil Grow.refl)
def OH(ha:AE X kd a fa)(hr:AD X kd es fd)(hs:starEach (a::es) X.env=(false,eval a X.env)::starEach es X.env):AD X kd (a::es) (dC fa fd):=by with_unfolding_all exact(Lp (Rr ha hr hs) λσ H Q h=>by
 obtain⟨F,B,ad,as,rs,as',R,e,q⟩:=h;obtain⟨⟨p,as1⟩,h1,e⟩:=bS_<|e;obtain⟨⟨o,as2⟩,h2,e⟩:=bS_ e;obtain⟨⟨os,as3⟩,h3,e⟩:=bS_ e;cases e;refine⟨F,B,ad,as,p,as1,R,h1,λv T1 ad1 H1 R1 rv1 g1=>?_⟩;obtain⟨ad2,R2,ro2,le2⟩:=PJ R1 rv1 h2;refine⟨F,_,ad2,as2,os,_,R2.hide,h3,λvs T3 ad3 H3 R3 ro3 g3=>?_⟩;have kT:=λa m u e=>g3.keep a u e λz=>z.elim ⋯ λ⟨i,y⟩=>R2.dis i a y m;have r1:=Xb.lv QZ<|Xb.grow g3 kT<|Xb.lv Fb ro2;have r3:=Zy.lv QZ ro3;refine q _ _ ad3 H3 (R3.unhide R2.tnd λa m z=>(R2.btr a z).2.2<|.inl m) (.cons r1 r3)<|(g1.trans<|Grow.less le2).trans ⟨λb u e n=>g3.keep b u e λz=>n<|Gw.drop b z,λb z=>?_⟩
 rcases z with z|z
 . rcases zzM.mp z with z|z
   . exact .inl<|.inl z
   . exact(g3.own b<|.inl z).elim (λy=>.inl<|Gw.drop b y) .inr
 . exact(g3.own b<|.inr z).elim (λy=>.inl<|Gw.drop b y) .inr)
def xO(h:AD X kd es fd):AE X kd (.Tuple es x1 pos) (yg fd):=by with_unfolding_all exact(yp (JF h) λσ H Q h=>by
 obtain⟨F,B,ad,as,r,as',R,e,q⟩:=h;obtain⟨⟨os,as1⟩,h1,e⟩:=bS_<|e;obtain⟨hz,e⟩:=zB e;cases e;refine⟨F,B,ad,as,os,_,R,h1,λvs T1 ad1 H1 R1 ro1 g1=>⟨by rw[ro1.length];exact hz,λp hp=>?_⟩⟩;have k:∀b o,H1 b=some o->upd H1 p (.tup vs) b=some o:=λb o hb=>by rwa [zH<|zR hb hp]
 obtain⟨R2,g2⟩:=R1.more k;have ro2:=Zy.grow g2 (λa _ u h=>k a u h) ro1;have np:=λst z=>R1.trk st p z hp;refine q _ T1 ad1 _ R2 ?_<|g1.trans g2;unfold Qs
 by_cases hl:os.all O.isLf=true
 . rw[if_pos hl];have:=Mx ro2 hl;subst this;exact .lf<|.tup (np _) (.inl yn)<|To ro2 hl
 . rw[if_neg hl];exact .tp (np _) yn ro2)
def Ue(h:AD X kd es fd):AE X kd (.List es pos) (yt fd):=by with_unfolding_all exact(yp (Ij h) λσ H Q h=>by
 obtain⟨F,B,ad,as,r,as',R,e,q⟩:=h;obtain⟨⟨os,as1⟩,h1,e⟩:=bS_<|e;obtain⟨hz,e⟩:=zB e;cases e;refine⟨F,B,ad,as,os,_,R,h1,λvs T1 ad1 H1 R1 ro1 g1=>⟨by rw[ro1.length];exact hz,λp hp=>?_⟩⟩;have k:∀b o,H1 b=some o->upd H1 p (.lst vs) b=some o:=λb o hb=>by rwa [zH<|zR hb hp]
 obtain⟨R2,g2⟩:=R1.add (N:=[p]) ⋯ (λa m=>by rwa [zzR.mp m]) k (λa m=>by rw[zzR.mp m,yn];simp);exact q _ _ ad1 _ R2 (.ls yn<|Zy.grow g2 (λa _ u h=>k a u h) ro1)<|g1.trans g2)
theorem VwL.less{K O O'}(g:∀a,O' a->O a)(h:VwL K kd O H vs ds):VwL K kd O' H vs ds:=by
 induction h with
 |nil=>exact .nil
 |cons h _ ih=>exact .cons (h.less g) ih
def LK{K ad}(R:Rel K kd F B [] ad as σ H)(h:RVs K kd F B ad σ H vs rs)(e:views as rs=some (ds,lv)):VwL K kd (Ka F B (Gw [] ad) lv) H vs ds:=by
 induction h generalizing ds lv with
 |nil=>cases e;exact .nil
 |cons h t ih=>
  obtain⟨_,h1,e⟩:=bS_<|e;obtain⟨_,h2,e⟩:=bS_ e;cases e;exact .cons ((xu.vw R h h1).less Ka.meet1)<|(ih h2).less Ka.meet2
def tZ{R':List V->Hp->VK->Prop}(hr:∀vs H Q,(∃O ds r,(∀a,O a->H a≠none)/\VwL X.K kd O H vs ds/\g ds=some r/\RQ X.K kd O H Q r)->R' vs H Q)
 (h:al X.K kd (fP fr g) σ H Q):Ak X.K kd fr σ H λvs H1=>R' vs H1 Q:=by
 obtain⟨F,B,ad,as,r,as',R,e,q⟩:=h;obtain⟨⟨p,as1⟩,h1,e⟩:=bS_<|e;obtain⟨⟨ds,lv⟩,h2,e⟩:=bS_ e;obtain⟨z,h3,e⟩:=bS_ e;obtain⟨y,h4,e⟩:=bS_ e;cases e;exact⟨F,B,ad,as,p,_,R,h1,λvs ad1 H1 R1 rv1 g1=>hr _ _ _ ⟨_,ds,z,R1.tr _,LK R1 rv1 h2,h3,WR R1 h4 λw T' H' R' rv' g'=>q w T' ad1 H' R' rv'<|g1.trans g'⟩⟩
def Ku{K ad}(R:Rel K kd F B [] ad as σ H)(h:RVs K kd F B ad σ H vs rs)(e:XD as rs=some ds):RpA K kd (Lv F B (Gw [] ad) true) H vs ds:=by
 induction h generalizing ds with
 |nil=>cases e;exact .nil
 |cons h t ih=>
  rename_i v r vs rs;obtain⟨_,h1,e⟩:=bS_<|e;obtain⟨ds,h2,e⟩:=bS_ e;cases e;refine .cons ?_<|ih h2;cases r with
  |ow o=>
   cases h1;cases hf:zE o.toD with
   |true=>exact(RY h).flat hf
   |false=>
    refine(Tf h).less λa z=>?_;have zs:o.str=true:=z.1;rw[zs];exact z.2
  |bo i=>
   have e:(match as[i]? with|some (some o)=>some _|_=>none)=some _:=h1;cases k:as[i]? with
   |none=>rw[k]at e;cases e
   |some s=>
    cases s with
    |none=>rw[k]at e;cases e
    |some o=>
     rw[k]at e;cases e;obtain⟨w,hw,ro⟩:=R.sl i _ k;rw[h.2]at hw;cases hw;exact(RY ro).less λa z=>nomatch z.1
def Mw{K ad}(R:Rel K kd F B [] ad as σ H)(q:∀v T' H',Rel K kd F B T' ad as σ H'->xu K kd F B T' ad σ H' v (.ow o)->Grow (Gw [] ad) H (Gw T' ad) H'->Q v H'):
 uK K kd (Lv F B (Gw [] ad) true) H Q o:=λv T H' hn hl k h1 ro=>by
 obtain⟨R',g⟩:=R.news hn hl k h1;have le:∀st a,Lv F B (Gw T ad) st a->VP (Lv F B (Gw [] ad) true) _ a:=λst a z=>by
  rcases z with(z|z)|z|z
  . exact .inl<|.inl<|.inl ⟨rfl,z.2⟩
  . exact .inl<|.inl<|.inr z
  . exact .inr z
  . exact .inl<|.inr<|.inr z
 exact q v T H' R' (Ro.mono (λst v d r=>r.less<|le st) (λa vs n e=>⟨λz=>n<|le true a z,e⟩) (λ_ _ _ e=>e) ro) g
def JI(h:al X.K kd (zd fr g) σ H Q):Sa (Wv X.K kd g) [] E (Ak X.K kd fr) σ H Q:=by
 obtain⟨F,B,ad,as,r,as',R,e,q⟩:=h;obtain⟨⟨p,as1⟩,h1,e⟩:=bS_<|e;obtain⟨ds,h2,e⟩:=bS_ e;obtain⟨o,h3,e⟩:=bS_ e;cases e;refine⟨F,B,ad,as,p,_,R,h1,λvs ad1 H1 R1 rv1 g1=>?_⟩;show Wv X.K kd g _ H1 Q E;rw[zyD];exact⟨_,ds,o,R1.trk true,Ku R1 rv1 h2,h3,Mw R1 λw T' H' R' rv' g'=>q w T' ad1 H' R' rv'<|g1.trans g'⟩
end
inductive Out where
 |nx (as:AS)|rt (o:O)|bk (as:AS)|ct (as:AS)
abbrev SF:=AS->Option Out
structure RetOk(K:zzA)(kd:KD)(F:Addr->Prop)(T:List Addr)(H:Hp)(v:V)(o:O):Prop where
 nd:T.Nodup
 tr:∀a ∈ T,H a≠none
 ro:Ro (λ_ v d=>Rp K kd (VP F (· ∈ T)) H v d) (λa=>¬VP F (· ∈ T) a) H v o T
def EN(K:zzA)(kd:KD)(F B:Addr->Prop)(ad:Ad)(H:Hp)(D:Ends):Out->Prop
 | .nx as'=>∀σ' ad' H',Rel K kd F B [] ad' as' σ' H'->Grow (Gw [] ad) H (Gw [] ad') H'->D.nx σ' H'
 | .bk as'=>∀σ' ad' H',Rel K kd F B [] ad' as' σ' H'->Grow (Gw [] ad) H (Gw [] ad') H'->D.bk σ' H'
 | .ct as'=>∀σ' ad' H',Rel K kd F B [] ad' as' σ' H'->Grow (Gw [] ad) H (Gw [] ad') H'->D.ct σ' H'
 | .rt o=>∀v T H',RetOk K kd F T H' v o->Grow (Gw [] ad) H (· ∈ T) H'->D.rt v H'
def be(K:zzA)(kd:KD)(f:SF):TS:=λD σ H=>∃F B ad as o,Rel K kd F B [] ad as σ H/\f as=some o/\EN K kd F B ad H D o
@[irreducible] def Ed(X:Cx)(kd:KD)(st:Stmt)(f:SF):Prop:=PS X st<|be X.K kd f
@[irreducible] def FW(X:Cx)(kd:KD)(st:List Stmt)(f:SF):Prop:=L3 X st<|be X.K kd f
def wU(h:PS X e t)(k:∀D σ H,t' D σ H->t D σ H):PS X e t':=λa s σ H D I q=>h a s σ H D I<|k D σ H q
def Qv(h:L3 X e t)(k:∀D σ H,t' D σ H->t D σ H):L3 X e t':=λa s σ H D I q=>h a s σ H D I<|k D σ H q
def EN.pre{K ad ad1 D}(g:Grow (Gw [] ad) H (Gw [] ad1) H1)(h:EN K kd F B ad H D o):EN K kd F B ad1 H1 D o:=by
 cases o with
 |nx as=>exact λσ' ad' H' R g'=>h σ' ad' H' R (g.trans g')
 |bk as=>exact λσ' ad' H' R g'=>h σ' ad' H' R (g.trans g')
 |ct as=>exact λσ' ad' H' R g'=>h σ' ad' H' R (g.trans g')
 |rt r=>exact λv T H' R g'=>h v T H' R<|g.trans g'
noncomputable def xD:SF:=λas=>some<|.nx as
def zt(f g:SF):SF:=λas=>(f as).bind λo=>match o with | .nx as'=>g as'|o=>some o
def yU(c:TF)(f g:SF):SF:=λas=>(c as).bind λp=>if p.1=true then f p.2 else g p.2
def xB(f:EF):SF:=λas=>(f as).bind λp=>some<|.nx p.2
def BU(as:AS):RV->Option O
 | .ow o=>if o.str=true then some o else none
 | .bo i=>match as[i]? with
  |some (some o)=>if o.str=true then some o else none
  |_=>none
def zv(f:EF):SF:=λas=>(f as).bind λp=>(BU p.2 p.1).bind λo=>some<|.rt o
def zL(z:Bool)(i:Nat)(f:EF):SF:=λas=>(f as).bind λp=>(Ce p.2 (if z=true then p.1.frz else p.1)).bind λx=>if i<x.2.length then some (.nx<|x.2.set i<|some x.1)else none
def Ro.strong(h:Ro L N H v o fp)(e:o.str=true):Ro (λst v d=>st=true/\L st v d) N H v o fp:=
 Ro.rec (motive_2:=λvs os fp _=>O.strs os=true->RoL _ N H vs os fp)
  (λh e=>.lf ⟨e,h⟩) (λh _ r e=>.ls h<|r e) (λh l _ r e=>.dc h l<|r e) (λc h l _ r e=>.ob ⟨rfl,c⟩ h l<|r e) (λn h _ r e=>.tp n h<|r e) (λ_=>.nil) (λ_ _ h r e=>.cons (h ((zyB _ _).mp e).1)<|r ((zyB _ _).mp e).2) h e
section
variable{K:zzA}{kd:KD}{F B:Addr->Prop}{T:List Addr}{ad ad1:Ad}{as as1:AS}{σ:St}{H H1:Hp}{v:V}{r:RV}{o:O}
def Ls(R:Rel K kd F B T ad as σ H)(hn:T'.Nodup)(hs:∀a ∈ T',Gw T ad a)(h:Xb K kd F B (Gw T ad) H v o T')(e:o.str=true):RetOk K kd F T' H v o:=by
 have b:∀a,VP F _ a->Lv F B _ true a:=λa z=>z.elim (λy=>.inl<|.inl ⟨rfl,y⟩) λy=>.inr<|hs a y;exact⟨hn,λa m=>(R.gtr a<|hs a m).1,Ro.mono (λc v d r=>by obtain⟨rfl,r⟩:=r;exact r.less b) (λa f n e=>⟨λz=>n<|b a z,e⟩) (λ_ _ _ e=>e)<|Ro.strong h e⟩
def Rel.ret(R:Rel K kd F B T ad as σ H)(hr:xu K kd F B T ad σ H v r)(e:BU as r=some o):∃T',RetOk K kd F T' H v o/\∀b ∈ T',Gw T ad b:=by
 cases r with
 |ow g=>
  obtain⟨c,rfl⟩:=zB e;exact⟨T,Ls R R.tnd (λa m=>.inl m) hr c,λa m=>.inl m⟩
 |bo i=>
  have e:(match as[i]? with|some (some o)=>if o.str=true then some o else none|_=>none)=some o:=e;cases k:as[i]? with
  |none=>rw[k]at e;cases e
  |some s=>
   cases s with
   |none=>rw[k]at e;cases e
   |some h=>
    rw[k]at e;obtain⟨c,rfl⟩:=zB e;obtain⟨w,d,f⟩:=R.sl i _ k;rw[hr.2]at d;cases d;exact⟨ad i,Ls R (R.nd i) (λa m=>.inr ⟨i,m⟩) f c,λa m=>.inr ⟨i,m⟩⟩
end
section
variable{X:Cx}{kd:KD}{st:Stmt}{sts rest:List Stmt}{a b c e:Expr}{fa fb:EF}{ta:TF}{pos:Pos}{f g:SF}
def ye:FW X kd [] xD:=by with_unfolding_all exact(Qv E_ λD σ H h=>by
 obtain⟨F,B,a,as,o,R,e,q⟩:=h;cases e;exact q σ a H R Grow.refl)
def zP(h1:Ed X kd st f)(h2:FW X kd rest g):FW X kd (st::rest) (zt f g):=by with_unfolding_all exact(Qv (Wk h1 h2) λD σ H h=>by
 obtain⟨F,B,ad,as,o,R,e,q⟩:=h;obtain⟨o1,e1,e⟩:=bS_<|e;refine⟨F,B,ad,as,o1,R,e1, ?_⟩;cases o1 with
 |nx as1=>exact λσ' ad' H' R' g'=>⟨F,B,ad',as1,o,R',e,q.pre g'⟩
 |bk as1=>cases e;exact q
 |ct as1=>cases e;exact q
 |rt r=>cases e;exact q)
def zG(h1:Ed X kd st f):FW X kd [st] f:=by with_unfolding_all exact(Rv h1)
def xh(hc:AT X kd c ta)(ha:FW X kd sts f)(hb:FW X kd rest g):Ed X kd (.If c sts rest pos) (yU ta f g):=by with_unfolding_all exact(wU (Cu hc ha hb) λD σ H h=>by
 obtain⟨F,B,i,as,o,R,e,q⟩:=h;obtain⟨⟨p,a⟩,j,e⟩:=bS_<|e;refine⟨F,B,i,as,p,a,R,j,λb k d g=>?_⟩;cases p with
 |true=>exact⟨F,B,b,a,o,d,e,q.pre g⟩
 |false=>exact⟨F,B,b,a,o,d,e,q.pre g⟩)
def Ez(he:AE X kd e fa)(hs:swapsWith e none pos.line X.env=pure false):Ed X kd (.Expr e pos) (xB fa):=by with_unfolding_all exact(wU (KN he hs) λD σ H h=>by
 obtain⟨F,B,c,as,o,R,e,q⟩:=h;obtain⟨⟨p,a⟩,d,e⟩:=bS_<|e;cases e;exact⟨F,B,c,as,p,a,R,d,λv j b f i k g=>q σ b f i.drop<|g.trans<|Grow.less Gw.drop⟩)
def yc(he:AE X kd e fa):Ed X kd (.Return (some e) pos) (zv fa):=by with_unfolding_all exact(wU (Jd he) λD σ H h=>by
 obtain⟨F,B,b,as,o,R,e,q⟩:=h;obtain⟨⟨p,a⟩,c,e⟩:=bS_<|e;obtain⟨r,d,e⟩:=bS_ e;cases e;refine⟨F,B,b,as,p,a,R,c,λv s f i j k g=>?_⟩;obtain⟨l,m,n⟩:=j.ret k d;exact q v l i m<|g.trans<|Grow.less n)
def MF{K ad}{i:Nat}(R:Rel K kd F B T ad as σ H)(rv:xu K kd F B T ad σ H v r)
 (h2:Ce as (if z=true then r.frz else r)=some (o,as2)) (hl:i<as2.length):∃ad',Rel K kd F B [] ad' (as2.set i<|some o) (σ.set i<|some v) H/\∀a,Gw [] ad' a->Gw T ad a:=by
 cases z with
 |true=>
  obtain⟨b,c,d,e⟩:=PJ R.drop (xu.drop R rv) h2;exact⟨_,c.put hl d,λa y=>Gw.drop a<|e a<|YY a y⟩
 |false=>
  obtain⟨b,c,d,e⟩:=PJ R rv h2;exact⟨_,c.put hl d,λa y=>e a<|YY a y⟩
def SE(hN:X.N.Nodup)(hi:X.N[i]? = some x)(hx:Loc X.env.scope x)(he:AE X kd e fa)(hs:swapsWith e (some<|.Name x pos') pos.line X.env=pure false)(hf:X.fn x=true\/X.env.scope.names.lookup x=some .local):
 Ed X kd (.Assign [.Name x pos'] e pos) (zL z i fa):=by with_unfolding_all exact(wU (B7 hN hi hx he hs hf) λD σ H h=>by
 obtain⟨F,B,c,as,o,R,e,q⟩:=h;obtain⟨⟨p,a⟩,d,e⟩:=bS_<|e;obtain⟨_,j,e⟩:=bS_ e;obtain⟨k,e⟩:=zB e;cases e;refine⟨F,B,c,as,p,a,R,d,λv t l m n r g=>?_⟩;obtain⟨b,R2,s⟩:=MF n r j k;exact q _ b m R2<|g.trans<|Grow.less s)
end
def VD(n:Nat)(ds:List (Bool×D)):AS:=ds.map (λx=>some<|.lf x.1 x.2)++List.replicate (n-ds.length) none
def tu:Out->Option O
 | .nx _=>some<|.lf true .non
 | .rt o=>some o
 |_=>none
def vL(n m:Nat)(f:SF)(ds:List (Bool×D)):Option O:=if ds.length=m then(f<|VD n ds).bind tu else none
theorem RpA.get{K}:∀{vs:List V}{ds:List (Bool×D)}{i:Nat}{x:Bool×D},RpA K kd F H vs ds->ds[i]? = some x->∃v,vs[i]? = some v/\Rp K kd (λa=>x.1=true/\F a) H v x.2
 |_,_,_,_,.nil,e=>by simp at e
 |_,_,0,_,.cons h _,e=>by simp at e;subst e;exact⟨_,rfl,h⟩
 |_,_,i+1,_,.cons _ r,e=>by
  obtain⟨v,b,c⟩:=RpA.get r ⋯;exact⟨v,⋯,c⟩
def FV{K}(ht:∀a,F a->H a≠none)(rp:RpA K kd F H vs ds):
 Rel K kd F (λ_=>False) [] (λ_=>[]) (VD N.length ds) (L2.start N vs) H:=by
 have c:=rp.length;have f:∀a,¬Gw [] (λ_=>[]) a:=λa z=>z.elim ⋯ λ⟨_,y⟩=>nomatch y;refine⟨by unfold VD L2.start;simp[c],λ_ _=>rfl,λ_=>zyI,(λ_ _ _ z=>nomatch z),zyI,(λ_ _ _ z=>nomatch z),ht,⋯,λa z=>(f a z).elim,λi s e=>?_⟩;unfold VD at e;unfold L2.start
 by_cases g:i<ds.length
 . rw[zyN (by rwa [zzB]),zzI]at e;obtain⟨d,h,b⟩:=zzW.mp e;subst b;obtain⟨v,j,k⟩:=rp.get h;rw[zyN (by rwa [zzB,c]),zzI,j];refine⟨v,rfl,.lf<|k.less λa z=>?_⟩
   rcases z with(z|z)|z
   . exact z
   . exact z.elim
   . exact(f a z).elim
 . rw[zyP<|by rw[zzB];omega]at e;have:=zzZ e;have b:=(List.mem_replicate.mp this).2;subst b;rfl
section
variable{P:Program}{w:World}{K:zzA}{mg:Str->Option Value}{base:Heap}
def Se(q:uK K kd F H Q o)(ro:RetOk K kd F T H' v o)(g:Grow (Gw [] λ_=>[]) H (· ∈ T) H'):Q v H':=by
 have c:∀a,¬Gw [] (λ_=>[]) a:=λa z=>z.elim ⋯ λ⟨_,y⟩=>nomatch y;exact q v T H' ro.nd (λa m=>(g.own a m).resolve_left<|c a) (λb u h=>g.keep b u h<|c b) ro.tr ro.ro
def xT{st}{k:Nat}(Fn:Fun K x qual st f fd)(S:FnScope N ps (zh st))
 (hb:∀(cdv:Value) (A:Around) (outer:List Env) (s:Shared) (H:Hp) (E:XK),Room k (A.deeper<|envOfC qual (zh st) s.heap.objs.size f cdv)->FW (T7 wH P w K mg base N qual (zh st) f cdv A outer s H E).nox kd (Zs st) c):
 FnOk P w K mg base wH (k+1) f fd ps (Wv K kd<|vL N.length ps.length c):=by
 with_unfolding_all (
 refine Fn.ok S (λvs H Q E h=>?_) λcdv A outer s H vs Q E hr h=>⟨_,hb cdv A outer s H E hr, ?_⟩
 . obtain⟨F,ds,r,_,rp,e,_⟩:=h;unfold vL at e
   by_cases hl:ds.length=ps.length
   . rw[rp.length,hl]
   . rw[if_neg hl]at e;cases e
 . obtain⟨F,ds,r,ht,rp,e,q⟩:=h;unfold vL at e
   by_cases hl:ds.length=ps.length
   . rw[if_pos hl]at e;obtain⟨o,e1,e⟩:=bS_ e;refine⟨F,λ_=>False,λ_=>[],VD N.length ds,o,FV ht rp,e1, ?_⟩;cases o with
     |nx as=>cases e;exact λσ' ad' H' R g=>Se q ⟨zyI,⋯,.lf .non⟩ (g.trans<|Grow.less ⋯)
     |rt o=>cases e;exact λv T H' ro g=>Se q ro g
     |bk=>cases e
     |ct=>cases e
   . rw[if_neg hl]at e;cases e)
end
abbrev ZX:=Bool×D
abbrev GF:=ZX->AS->Option AS
abbrev CJ:=List ZX->AS->Option AS
def kids(st:Bool)(ds:List D):List ZX:=ds.map λd=>(zE d||st,d)
inductive RpI(K:zzA)(kd:KD)(F B G:Addr->Prop)(H:Hp):List V->List ZX->Prop
 |nil:RpI K kd F B G H [] []
 |cons {v:V}{x:ZX}{vs:List V}{ds:List ZX}:Rp K kd (Lv F B G x.1) H v x.2->RpI K kd F B G H vs ds->RpI K kd F B G H (v::vs) (x::ds)
def ug(K:zzA)(kd:KD)(S:List Nat)(g:GF):TG:=λv σ H Q=>∃F B ad as x as',Rel K kd F B [] ad as σ H/\Rp K kd (Lv F B (Gw [] ad) x.1) H v x.2/\g x as=some as'/\
 ∀σ' ad' H',Rel K kd F B [] ad' as' σ' H'->Grow (Gw [] ad) H (Gw [] ad') H'->(∀j,j ∉ S->σ'[j]? = σ[j]?)->Q σ' H'
def uC(K:zzA)(kd:KD)(S:List Nat)(g:CJ):Jx:=λvs σ H Q=>∃F B ad as ds as',Rel K kd F B [] ad as σ H/\RpI K kd F B (Gw [] ad) H vs ds/\g ds as=some as'/\
 ∀σ' ad' H',Rel K kd F B [] ad' as' σ' H'->Grow (Gw [] ad) H (Gw [] ad') H'->(∀j,j ∉ S->σ'[j]? = σ[j]?)->Q σ' H'
@[irreducible] def AG(X:Cx)(kd:KD)(tg:Expr)(S:List Nat)(g:GF):Prop:=PG X tg<|ug X.K kd S g
@[irreducible] def C5(X:Cx)(kd:KD)(tg:List Expr)(S:List Nat)(g:CJ):Prop:=Cr X tg<|uC X.K kd S g
def IY(h:PG X e t)(k:∀v σ H Q,t' v σ H Q->t v σ H Q):PG X e t':=λa s σ H v u Q I r q=>h a s σ H v u Q I r<|k v σ H Q q
def EW(h:Cr X e t)(k:∀v σ H Q,t' v σ H Q->t v σ H Q):Cr X e t':=λa s σ H v u Q I r q=>h a s σ H v u Q I r<|k v σ H Q q
def gN(i:Nat):GF:=λx as=>if i<as.length then some (as.set i<|some<|.lf x.1 x.2)else none
def QM:CJ:=λds as=>match ds with | []=>some as|_::_=>none
def wL(g:GF)(gs:CJ):CJ:=λds as=>match ds with | []=>none|d::r=>(g d as).bind λas1=>gs r as1
def gT(n:Nat)(gs:CJ):GF:=λx as=>match x.2 with
 | .tup ds=>if ds.length=n then gs (kids x.1 ds) as else none
 | .lst ds=>if ds.length=n then gs (kids x.1 ds) as else none
 |_=>none
section
variable{K:zzA}{kd:KD}{F B G G':Addr->Prop}{H H':Hp}
theorem RpI.length(h:RpI K kd F B G H vs ds):vs.length=ds.length:=by
 induction h with
 |nil=>rfl
 |cons _ _ a=>exact congrArg _ a
theorem RpI.grow(g:Grow G H G' H')(h:RpI K kd F B G H vs ds):RpI K kd F B G' H' vs ds:=by
 induction h with
 |nil=>exact .nil
 |cons h _ a=>exact .cons (Rp.grow g h) a
def RpI.get{i:Nat}(h:RpI K kd F B G H vs ds)(e:ds[i]? = some x):∃v,vs[i]? = some v/\Rp K kd (Lv F B G x.1) H v x.2:=by
 induction h generalizing i with
 |nil=>simp at e
 |cons h r a=>
  cases i with
  |zero=>simp at e;subst e;exact⟨_,rfl,h⟩
  |succ i=>
   obtain⟨v,b,c⟩:=a ⋯;exact⟨v,⋯,c⟩
def WM{st}(h:RpL K kd (Lv F B G st) H vs ds):RpI K kd F B G H vs (kids st ds):=
 RpL.ind (P:=λa b=>RpI K kd F B G H a<|kids st b) .nil (λ{v d a b} h _ c=>by
  refine .cons (x:=(zE d||st,d)) ?_ c;cases e:zE d with
  |true=>exact h.flat e
  |false=>exact h) h
end
section
variable{prog:Program}{w:World}{A:Around}{E:Value->Shared->Prop}{s:Shared}
theorem GK(hne:l≠it):∀(n i:Nat) (s:Shared) (Q:List Value->Shared->Prop),s.heap.IsListIter it l i->s.heap.IsList l items->i+n<=items.size->
 (∀h',h'.IsListIter it l (i+n)->Heap.SameBut it s.heap h'->Q ((items.toList.drop i).take n) {s with heap:=h'})->wpAny (model prog w) A (draw (.ref it) n) Q E s
 |0,i,s,Q,a,_,_,f=>zxC (by simpa using f s.heap a (Heap.SameBut.refl ..))
 |n+1,i,s,Q,a,h,j,f=>by
  have b:i<items.size:=⋯;refine zxB<|wpAny_pyNext_list_item a h (x:=items[i]) ⋯ λo c d=>?_;refine zxB<|zxG<|GK hne n _ _ _ c (h.extBut d.extBut hne) ⋯ λk e g=>zxC ?_;have m:items.toList.drop i=items[i]::items.toList.drop (i+1):=by simp[zyO,b]
  have:=f k (by rwa [show i+_=i+1+n by omega])<|d.trans g
  rwa [m]at this
def NV(hh:A.handled=none)(ht:s.heap.IsList l items)
 (hn:targets.length=items.size) (hstar:targets.findIdx? (·.1)=none)
 (h:∀h',Heap.ExtBut s.heap.objs.size s.heap h'->wpAny (model prog w) A (assignInOrder (targets.map (·.2)) items.toList) Q E {s with heap:=h'}):
 wpAny (model prog w) A (unpack (.ref l) targets) Q E s:=by
 unfold unpack;rw[hn,hstar];refine zxB<|zxG ?_;have a:l≠s.heap.objs.size:=by obtain⟨o,k,_⟩:=ht;exact zzQ<|zxE k
 refine zxB ?_;refine zxB<|wpAny_specialOf ht.typeIs PySem.F.slot_list_iter.lookup ?_;refine zxC ?_;refine zxB<|zxG<|wpAny_pyIter_list ht ?_;refine zxB<|zxG<|GK a items.size 0 _ _ ⟨_,zxF _ rfl,rfl,rfl⟩ (ht.push _) ⋯ λm c d=>?_;have f:List.take items.size (List.drop 0 items.toList)=items.toList:=List.take_of_length_le ⋯;rw[f];rw[if_neg ⋯];have g:=(ht.push _).extBut d.extBut a;refine zxB<|zxG<|wpAny_pyNext_list_end hh c g ⋯ λn i=>?_;exact zxC<|h n λb o j e=>i b o j<|d.extBut b o j<|zxD _ e
end
section
variable{X:Cx}{kd:KD}{a b c e tg iter:Expr}{es:List Expr}{body:List Stmt}{fa fb:EF}{pos:Pos}{g:GF}{gs:CJ}{f:SF}{ta:TF}{S S1 S2:List Nat}
def u4(K:zzA)(n:Nat)(t:Jx):TG:=λv σ H Q=>∃a xs,v = .ref a/\TX K H a xs/\xs.length=n/\t xs σ H Q
def Sj(hc:X.calm=true)(h:Cr X es t)(hn:(assignEach es X.env).length=n)(hst:(assignEach es X.env).findIdx? (·.1)=none):PG X (.Tuple es k pos) (u4 X.K n t):=by
 intro c s σ H v u Q I r d;obtain⟨a,g,i,j,l,d⟩:=d;subst i;cases r;obtain⟨m,f,p,y⟩:=I.list j;refine zxB<|wpAny_standAt<|NV (I.ok.hd hc) p.isList (by simp[hn,<-l,f.length]) hst λq w=>?_;have x:=I.kept (t':=s.toks) λb o e=>w b o (zzQ<|zxE e) e;exact h c _ σ H g _ Q x ⋯ d
def ES(hN:X.N.Nodup)(hi:X.N[i]? = some x)(hx:Loc X.env.scope x)(hf:X.fn x=true\/X.env.scope.names.lookup x=some .local):AG X kd (.Name x pos) [i] (gN i):=by with_unfolding_all exact(IY (HF hN hi hx hf) λv σ H Q h=>by
 obtain⟨F,B,f,as,y,a,R,b,e,q⟩:=h;obtain⟨c,e⟩:=zB e;cases e;exact q _ _ H (R.put c<|.lf b) (Grow.less YY) λj d=>zzX λz=>d<|by rw[z];simp)
def Rn:C5 X kd [] [] QM:=by with_unfolding_all exact(EW OY λd σ H Q h=>by
 obtain⟨F,B,a,as,f,b,R,c,e,q⟩:=h;cases c with
 |nil=>cases e;exact⟨rfl,q σ a H R Grow.refl λ_ _=>rfl⟩
 |cons=>cases e)
def Yu(h1:AG X kd a S1 g)(h2:C5 X kd es S2 gs)(hs:(assignEach (a::es) X.env).map (·.2)=assign a X.env::(assignEach es X.env).map (·.2)):C5 X kd (a::es) (S1++S2) (wL g gs):=by with_unfolding_all exact(EW (SC h1 h2 hs) λx σ H Q h=>by
 obtain⟨F,B,l,as,y,c,R,m,e,q⟩:=h;cases m with
 |nil=>cases e
 |cons r n=>
  obtain⟨b,o,e⟩:=bS_<|e;refine⟨_,_,rfl,F,B,l,as,_,b,R,r,o,λA d C p i s=>?_⟩;exact⟨F,B,d,b,_,c,p,n.grow i,e,λt f u R2 v w=>q t f u R2 (i.trans v) λj k=>(w j λz=>k<|zzL _ z).trans<|s j λz=>k<|zzP _ z⟩)
def Kr{k n:Nat}(hc:X.calm=true)(h:C5 X kd es S gs)(hn:(assignEach es X.env).length=n)(hst:(assignEach es X.env).findIdx? (·.1)=none):AG X kd (.Tuple es k pos) S (gT n gs):=by
 with_unfolding_all (
 intro pins s σ H v u Q I r hw;obtain⟨F,B,ad,as,⟨st,d⟩,as',R,rp,e,q⟩:=hw;cases d with
 |tup ds=>
  have e:(if ds.length=n then gs _ as else none)=some as':=e
  by_cases hl:ds.length=n
  . rw[if_pos hl]at e;have go:∃a xs,v = .ref a/\Uk X.K H a xs/\RpL X.K kd (Lv F B (Gw [] ad) st) H xs ds:=by
     cases rp with
     |tup n h r=>exact⟨_,_,rfl,.inl h,r⟩
     |tupK a b c e f r=>exact⟨_,_,rfl,.inr ⟨_,_,_,a,b,c,e,f⟩,r⟩
    obtain⟨a,xs,rfl,hs,rl⟩:=go;exact IE hc h hn hst pins s σ H _ u Q I r ⟨a,xs,rfl,hs,by rw[rl.length,hl],F,B,ad,as,_,as',R,WM rl,e,q⟩
  . rw[if_neg hl]at e;cases e
 |lst ds=>
  have e:(if ds.length=n then gs _ as else none)=some as':=e
  by_cases hl:ds.length=n
  . rw[if_pos hl]at e;cases rp with
    |lstK a b c r'=>exact Sj hc h hn hst pins s σ H _ u Q I r ⟨_,_,rfl,.inr ⟨_,_,_,a,rfl,rfl,rfl,b,c⟩,by rw[r'.length,hl],F,B,ad,as,_,as',R,WM r',e,q⟩
    |lst n h' r'=>exact Sj hc h hn hst pins s σ H _ u Q I r ⟨_,_,rfl,.inl h',by rw[r'.length,hl],F,B,ad,as,_,as',R,WM r',e,q⟩
  . rw[if_neg hl]at e;cases e
 |_=>cases e)
def VB(as:AS)(r:RV):Option (ZX×AS):=(Ce as r.frz).bind λx=>match x.1 with | .lf st d=>some ((st,d),x.2)|_=>none
def WU{K ad}(R:Rel K kd F B T ad as σ H)(h:xu K kd F B T ad σ H v r)(e:VB as r=some (x,as')):
 ∃ad',Rel K kd F B [] ad' as' σ H/\Rp K kd (Lv F B (Gw [] ad') x.1) H v x.2/\∀a,Gw [] ad' a->Gw T ad a:=by
 obtain⟨⟨o,c⟩,f,e⟩:=bS_ e;obtain⟨b,g,i,j⟩:=PJ R.drop (xu.drop R h) f;cases o with
 |lf l d=>
  cases e;refine⟨b,g, ?_,λa y=>Gw.drop a<|j a y⟩;have:=Tf i;exact this
 |nd k m=>cases e
def KB(f:EF)(g:GF):SF:=λas=>(f as).bind λp=>(VB p.2 p.1).bind λq=>(g q.1 q.2).bind λas'=>some<|.nx as'
def J5(he:AE X kd e fa)(hg:AG X kd tg S g)(hs:swapsWithSole [tg] e pos.line X.env=pure false)(hw:swappedStores [tg] e X.env=pure none)(h1:(assignEach [tg] X.env).map (·.2)=[assign tg X.env]):
 Ed X kd (.Assign [tg] e pos) (KB fa g):=by with_unfolding_all exact(wU (Ji he hg hs hw h1) λD σ H h=>by
 obtain⟨F,B,ad,as,o,R,e,q⟩:=h;obtain⟨⟨p,as1⟩,h1,e⟩:=bS_<|e;obtain⟨⟨x,as2⟩,h2,e⟩:=bS_ e;obtain⟨as3,h3,e⟩:=bS_ e;cases e;refine⟨F,B,ad,as,p,as1,R,h1,λv T' ad' H' R' rv g1=>?_⟩;obtain⟨ad2,R2,rp,le⟩:=WU R' rv h2;exact⟨F,B,ad2,as2,_,as3,R2,rp,h3,λσ' ad' H' R' g' _=>q σ' ad' H' R'<|(g1.trans<|Grow.less le).trans g'⟩)
structure ItOk(K:zzA)(kd:KD)(F B:Addr->Prop)(ad:Ad)(H:Hp)(J:It)(ds:List ZX):Prop where
 all:∀(ad2:Ad) (H2:Hp),Grow (Gw [] ad) H (Gw [] ad2) H2->(∀st a,Lv F B (Gw [] ad2) st a->H2 a≠none)->∀i,(i<ds.length->J.go i H2)/\(ds.length<=i->J.stop i H2)/\
  ∀v H3,J.yld i H2 v H3->(∀b o,H2 b=some o->H3 b=some o)/\∀x,ds[i]? = some x->Rp K kd (Lv F B (Gw [] ad2) x.1) H3 v x.2
abbrev IF:=AS->Option (List ZX×AS)
def rf(K:zzA)(kd:KD)(f:IF):TI:=λσ H R=>∃F B ad as ds as',Rel K kd F B [] ad as σ H/\f as=some (ds,as')/\
 ∀J ad' H',Rel K kd F B [] ad' as' σ H'->Grow (Gw [] ad) H (Gw [] ad') H'->ItOk K kd F B ad' H' J ds->R J H'
@[irreducible] def AI(X:Cx)(kd:KD)(tg iter:Expr)(f:IF):Prop:=PI X tg iter<|rf X.K kd f
def forL(g:GF)(f:SF):List ZX->AS->Option Out
 | [],as=>some (.nx as)
 |d::r,as=>(g d as).bind λas1=>(f as1).bind λo=>match o with
  | .nx as'=>forL g f r as'
  | .ct as'=>forL g f r as'
  | .bk as'=>some<|.nx as'
  | .rt r=>some<|.rt r
def WW(fi:IF)(g:GF)(f:SF):SF:=λas=>(fi as).bind λp=>forL g f p.1 p.2
def Kv(hp:PassesOwn (model X.prog X.w) X.A X.env X.xe)(hc:X.calm=true)(hi:AI X kd tg iter fi)(hg:AG X kd tg S g)(hb:FW X kd body f)(hs:∀x,foldedSetIterable iter X.env x=pure x):
 Ed X kd (.For tg iter body [] pos) (WW fi g f):=by with_unfolding_all exact(wU (Hi hp hc hi hg hb hs) λD σ H h=>by
 obtain⟨F,B,ad,as,o,R,e,q⟩:=h;obtain⟨⟨ds,as1⟩,h1,e⟩:=bS_<|e;refine⟨F,B,ad,as,ds,as1,R,h1,λJ ad1 H1 R1 g1 it=>?_⟩;refine⟨λi m σ2 H2=>m+i=ds.length/\∃ad2 as2,Rel X.K kd F B [] ad2 as2 σ2 H2/\Grow _ H1 (Gw [] ad2) H2/\forL g f (ds.drop i) as2=some o,⟨ds.length,rfl,ad1,as1,R1,Grow.refl,e⟩, ?_⟩
 rintro i m σ2 H2 ⟨hm,ad2,as2,R2,g2,e2⟩
 obtain⟨k1,k2,k3⟩:=it.all ad2 H2 g2 R2.trk i
 by_cases hi:i<ds.length
 . refine .inr ⟨k1 hi,λσ3 H3=>∃ad3 as3,Rel X.K kd F B [] ad3 as3 σ3 H3/\Grow _ H1 _ H3/\forL g f _ as3=some o,λσ3 H3 ⟨ad3,as3,R3,g3,e3⟩=>⟨m-1,⋯,⋯,ad3,as3,R3,g3,e3⟩,λv H3 hy=>?_⟩;obtain⟨kp,rp⟩:=k3 v H3 hy;rw[zyO hi]at e2;obtain⟨as3,e3,e2⟩:=bS_<|e2;obtain⟨o3,e4,e2⟩:=bS_ e2;obtain⟨R3,g3⟩:=R2.more kp;refine⟨F,B,ad2,as2,_,as3,R3,rp _<|zzE hi,e3,λσ4 ad4 H4 R4 g4 _=>?_⟩;refine⟨F,B,ad4,as3,o3,R4,e4, ?_⟩;have gg:=(g2.trans g3).trans g4;cases o3 with
   |nx as5=>exact λσ5 ad5 H5 R5 g5=>⟨ad5,as5,R5,gg.trans g5,e2⟩
   |ct as5=>exact λσ5 ad5 H5 R5 g5=>⟨ad5,as5,R5,gg.trans g5,e2⟩
   |bk as5=>
    cases e2;exact λσ5 ad5 H5 R5 g5=>q σ5 ad5 H5 R5 (g1.trans<|gg.trans g5)
   |rt r=>
    cases e2;exact λv T H5 ro g5=>q v T H5 ro<|g1.trans<|gg.trans g5
 . refine .inl ⟨k2 ⋯, ?_⟩;rw[List.drop_eq_nil_of_le ⋯]at e2;cases e2;exact q σ2 ad2 H2 R2<|g1.trans g2)
def G3:ZX->Option (List ZX)
 |(st,.lst ds)=>some (kids st ds)
 |(st,.tup ds)=>some (kids st ds)
 |_=>none
def WY(f:EF):IF:=λas=>(f as).bind λp=>(VB p.2 p.1).bind λq=>(G3 q.1).bind λds=>some (ds,q.2)
def FB{K ad a}(hs:∀(ad3:Ad) (H3:Hp),Grow (Gw [] ad) H (Gw [] ad3) H3->TX K H3 a vs)(r:RpI K kd F B (Gw [] ad) H vs ds):ItOk K kd F B ad H (D5 K a) ds:=⟨λc j h _ i=>by
 have b:=hs c j h;have e:=r.grow h;refine⟨λf=>?_,λf=>⟨_,b,by rwa [r.length]⟩,λv o k=>?_⟩
 . obtain⟨u,g,_⟩:=r.get<|zzE f;exact⟨_,u,b,g⟩
 . obtain⟨rfl,l⟩:=k;refine⟨λ_ _ z=>z,λd m=>?_⟩;obtain⟨u,g,n⟩:=e.get m;have:=l _ b;rw[g]at this;cases this;exact n⟩
def JD{K ad a}(hs:∀(ad3:Ad) (H3:Hp),Grow (Gw [] ad) H (Gw [] ad3) H3->Uk K H3 a vs)(r:RpI K kd F B (Gw [] ad) H vs ds):ItOk K kd F B ad H (uc K a) ds:=⟨λc j h _ i=>by
 have b:=hs c j h;have e:=r.grow h;refine⟨λf=>?_,λf=>⟨_,b,by rwa [r.length]⟩,λv o k=>?_⟩
 . obtain⟨u,g,_⟩:=r.get<|zzE f;exact⟨_,u,b,g⟩
 . obtain⟨rfl,l⟩:=k;refine⟨λ_ _ z=>z,λd m=>?_⟩;obtain⟨u,g,n⟩:=e.get m;have:=l _ b;rw[g]at this;cases this;exact n⟩
def RC(he:AE X kd e fa):AI X kd tg e (WY fa):=by
 with_unfolding_all (
 intro pins s σ H R I h;obtain⟨F,B,ad,as,ds,as',Rl,e,q⟩:=h;obtain⟨⟨p,as1⟩,h1,e⟩:=bS_<|e;obtain⟨⟨⟨st,x⟩,as2⟩,h2,e⟩:=bS_ e;obtain⟨ys,h3,e⟩:=bS_ e;cases e;cases x with
 |lst xs=>
  cases h3;refine LV he pins s σ H R I ⟨F,B,ad,as,p,as1,Rl,h1,λv T1 ad1 H1 R1 rv1 g1=>?_⟩;obtain⟨ad2,R2,rp,le⟩:=WU R1 rv1 h2;cases rp with
  |lst hn hr rl=>exact⟨_,rfl,⟨_,.inl hr⟩,q _ ad2 H1 R2 (g1.trans<|Grow.less le)<|FB (λad3 H3 g3=>.inl<|VQ g3 (λz=>hn<|.inr z) hr)<|WM rl⟩
  |lstK a b c rl=>exact⟨_,rfl,⟨_,.inr ⟨_,_,_,a,rfl,rfl,rfl,b,c⟩⟩,q _ ad2 H1 R2 (g1.trans<|Grow.less le)<|FB (λad3 H3 g3=>.inr ⟨_,_,_,a,rfl,rfl,rfl,b,c⟩)<|WM rl⟩
 |tup xs=>
  cases h3;refine MO he pins s σ H R I ⟨F,B,ad,as,p,as1,Rl,h1,λv T1 ad1 H1 R1 rv1 g1=>?_⟩;obtain⟨ad2,R2,rp,le⟩:=WU R1 rv1 h2;have go:∃a ys,v = .ref a/\(∀ad3 H3,Grow (Gw [] ad2) H1 (Gw [] ad3) H3->Uk X.K H3 a ys)/\RpL X.K kd (Lv F B (Gw [] ad2) st) H1 ys xs:=by
   cases rp with
   |tup n h r=>exact⟨_,_,rfl,λad3 H3 g3=>.inl<|VQ g3 (λz=>n<|.inr z) h,r⟩
   |tupK a b c e f r=>exact⟨_,_,rfl,λad3 H3 g3=>.inr ⟨_,_,_,a,b,c,e,f⟩,r⟩
  obtain⟨a,ys,rfl,hs,rl⟩:=go;exact⟨_,rfl,⟨_,hs ad2 H1 Grow.refl⟩,q _ ad2 H1 R2 (g1.trans<|Grow.less le)<|JD hs<|WM rl⟩
 |_=>cases h3)
def Xs(lo:Int)(n:Nat):List ZX:=(List.range n).map λ(i:Nat)=>(true,D.int<|lo+(i:Int))
def IT{K ad}(lo)(n:Nat):ItOk K kd F B ad H (D2 lo n) (Xs lo n):=⟨λe h g _ i=>by
 have c:(Xs lo n).length=n:=by unfold Xs;simp
 refine⟨λa=>by rw[c]at a;exact a,λa=>by rw[c]at a;exact a,λv j f=>?_⟩;obtain⟨rfl,rfl⟩:=f;refine⟨λ_ _ z=>z,λd b=>?_⟩;have a:i<n:=by rw[<-c];exact(zzG.mp b).1
 unfold Xs at b;rw[zzI,List.getElem?_range a]at b;cases b;exact .int _⟩
def DG:List D->Option D
 | [x]=>some x
 |_=>none
def OK(h:DG ds=some d):ds=[d]:=by
 cases ds with
 |nil=>cases h
 |cons x r=>
  cases r with
  |nil=>cases h;rfl
  |cons _ _=>cases h
def ZC(ds:List D):Option (List ZX):=((DG ds).bind FX).bind λj=>if -(2 ^ 62)<=j/\j<2 ^ 62 then some (Xs 0 j.toNat)else none
def Fd(h:ZC ds=some xs):∃j,ds=[.int j]/\(if -(2 ^ 62)<=j/\j<2 ^ 62 then some (Xs 0 j.toNat)else none)=some xs:=by
 obtain⟨j,a,h⟩:=bS_ h;obtain⟨d,b,a⟩:=bS_ a;cases SU a;exact⟨j,OK b,h⟩
def ZP(fr:AF)(h:List D->Option (List ZX)):IF:=λas=>(fr as).bind λp=>(views p.2 p.1).bind λds=>(h ds.1).bind λxs=>some (xs,p.2)
def FC(hg:Gl X "range")(hm:X.mg "range"=none)(ha:AA X kd [a] fr)(hs:starEach [a] X.env=[(false,eval a X.env)]):AI X kd tg (.Call (.Name "range" p) [a] [] pos) (ZP fr ZC):=by
 with_unfolding_all (
 intro b s σ H R I h;obtain⟨F,B,k,as,A,l,m,e,q⟩:=h;obtain⟨⟨n,o⟩,r,e⟩:=bS_<|e;obtain⟨⟨C,D⟩,t,e⟩:=bS_ e;obtain⟨E,c,e⟩:=bS_ e;cases e;obtain⟨j,rfl,c⟩:=Fd c
 . obtain⟨g,u⟩:=zB c;cases u;refine GL hg hm ha hs b s σ H R I ⟨F,B,k,as,n,_,m,r,λG d v i f w=>?_⟩;have x:=LK i f t;cases x with
   |cons y z=>
    cases z;cases y;exact⟨j,rfl,g.1,g.2,q _ d v i w<|IT 0 _⟩)
def Rel.mut{K ad}{i:Nat}(R:Rel K kd F B T ad as σ H)(hi:i<as.length)(hl:ad i=l::fp)(hs:σ[i]? = some (some<|.ref l))
 (hsub:∀a ∈ fp'++fo,a ∈ fp++T) (hnd:(fp'++fo).Nodup) (hu:H l≠none)
 (ro:∀(H':Hp) (G':Addr->Prop),H' l=some u->Grow (Gw T ad) H G' H'->(∀a ∈ fp',∀w,H a=some w->H' a=some w)->Xb K kd F B G' H' (.ref l) n (l::fp')):
 Rel K kd F B fo (v_ ad i (l::fp')) (as.set i<|some n) σ (upd H l u)/\Grow (Gw T ad) H (Gw fo<|v_ ad i (l::fp')) (upd H l u):=by
 have hli:l ∈ ad i:=by rw[hl];exact zzF
 have lT:=R.dis i l hli;have lfp:l ∉ fp:=by have:=R.nd i;rw[hl]at this;exact(zzV.mp this).1
 have lsub:∀a ∈ fp'++fo,a≠l:=λa m e=>by
  subst e
  rcases zzM.mp (hsub _ m)with z|z
  . exact lfp z
  . exact lT z
 have sub:∀a ∈ fp'++fo,Gw T ad a:=λa m=>by
  rcases zzM.mp (hsub a m)with z|z
  . exact .inr ⟨i,by rw[hl];exact zzD _ z⟩
  . exact .inl z
 have gsub:∀a,Gw fo (v_ ad i (l::fp')) a->Gw T ad a:=λa z=>by
  rcases z with z|⟨j,z⟩
  . exact sub a<|zzL _ z
  . by_cases e:j=i
    . subst e;rw[zO]at z
      rcases zzC.mp z with z|z
      . subst z;exact .inr ⟨j,hli⟩
      . exact sub a<|zzP _ z
    . rw[zS e]at z;exact .inr ⟨j,z⟩
 have g:Grow _ H _ (upd H l u):=⟨λb w h n=>by rw[zH λe=>n<|by subst e;exact .inr ⟨i,hli⟩];exact h,λb z=>.inl<|gsub b z⟩;have kn:∀a,H a≠none->upd H l u a≠none:=λa z=>by
  by_cases e:a=l
  . subst e;rw[yn];simp
  . rwa [zH e]
 obtain⟨hnd1,hnd2,hnd3⟩:=zxA.mp hnd;have inT:∀j a,j≠i->a ∈ ad j->a ∈ fp'++fo->False:=λj a hj m m'=>by
  rcases zzM.mp (hsub a m')with z|z
  . exact hj (R.inj j i a m<|by rw[hl];exact zzD _ z)
  . exact R.dis j a m z
 refine⟨⟨by rw[zzU];exact R.len,λj hj=>?_,λj=>?_,λj k a h1 h2=>?_,hnd2,λj a h1 h2=>?_,λa z=>kn a<|R.ftr a z,λa z=>?_,λa z=>⟨kn a (R.gtr a<|gsub a z).1,(R.gtr a<|gsub a z).2⟩,λj s e=>?_⟩,g⟩
 . rw[zzU]at hj;rw[zS<|by omega];exact R.out j hj
 . by_cases e:j=i
   . subst e;rw[zO];exact zzV.mpr ⟨λm=>lsub l (zzP _ m) rfl,hnd1⟩
   . rw[zS e];exact R.nd j
 . by_cases e:j=i
   . subst e
     by_cases e':k=j
     . exact e'.symm
     . rw[zO]at h1;rw[zS e']at h2
       rcases zzC.mp h1 with z|z
       . subst z;exact R.inj j k a hli h2
       . exact(inT k a e' h2<|zzP _ z).elim
   . rw[zS e]at h1
     by_cases e':k=i
     . subst e';rw[zO]at h2
       rcases zzC.mp h2 with z|z
       . subst z;exact R.inj j k a h1 hli
       . exact(inT j a e h1<|zzP _ z).elim
     . rw[zS e']at h2;exact R.inj j k a h1 h2
 . by_cases e:j=i
   . subst e;rw[zO]at h1
     rcases zzC.mp h1 with z|z
     . subst z;exact lsub a (zzL _ h2) rfl
     . exact hnd3 a z a h2 rfl
   . rw[zS e]at h1;exact inT j a e h1<|zzL _ h2
 . obtain⟨b1,b2,b3⟩:=R.btr a z;exact⟨kn a b1,b2,λy=>b3<|gsub a y⟩
 . by_cases q:j=i
   . subst q;rw[zyJ hi]at e;cases e;rw[zO];refine⟨_,hs,ro _ _ yn g λa m w h=>?_⟩
     rwa [zH<|lsub a<|zzP _ m]
   . rw[zzX<|Ne.symm q]at e;rw[zS q];refine(R.sl j s e).grow g λa m w h=>?_
     rwa [zH λz=>q<|R.inj j i l (by rwa [<-z]) hli]
abbrev MG:=List O->List O->Option (List O×O)
def ZM(i:Nat)(fr:DF)(g:MG):EF:=λas=>match as[i]? with
 |some (some (.nd .ls _))=>(fr as).bind λp=>match p.2[i]? with
  |some (some (.nd .ls os))=>(g os p.1).bind λz=>some (.ow z.2,p.2.set i<|some<|.nd .ls z.1)
  |_=>none
 |_=>none
def tj(X:Cx)(kd:KD)(r:V->List V->Hp->VK->Prop)(g:MG):Prop:=
 ∀(F B G:Addr->Prop) (l:Addr) (vs ws:List V) (os es os':List O) (o:O) (fp fq:List Addr) (H:Hp) (Q:VK),H l=some (.lst vs)->Zy X.K kd F B G H vs os fp->Zy X.K kd F B G H ws es fq->(fp++fq).Nodup->g os es=some (os',o)->
  (∀v vs' fp' fo,Zy X.K kd F B G H vs' os' fp'->Xb X.K kd F B G H v o fo->(∀a ∈ fp'++fo,a ∈ fp++fq)->(fp'++fo).Nodup->Q v (upd H l<|.lst vs'))->r (.ref l) ws H Q
def AY{i:Nat}{fr g r}(hr:tj X kd r g)
 (h:al X.K kd (ZM i fr g) σ H Q):tO X.K "list" r (Bd i) (sr X.K kd fr) σ H Q:=by
 obtain⟨F,B,U,as,z,as',R,e,q⟩:=h;unfold ZM at e;cases k:as[i]? with
 |none=>rw[k]at e;cases e
 |some a0=>
  rw[k]at e
  match a0,e,k with
  |some (.nd .ls os0),e,k=>
   obtain⟨⟨G,s⟩,h1,e⟩:=bS_<|e;obtain⟨v0,f,t⟩:=R.sl i _ k;generalize W:U i=fp0 at t;cases t with
   |ls I rl0=>
   rename_i l vs0 Y;refine⟨_,f,.inl ⟨rfl,_,.inl<|.inl I⟩,F,B,U,as,G,s,R,h1,λws J x L j M g1=>?_⟩;cases p:s[i]? with
   |none=>rw[p]at e;cases e
   |some a2=>
    rw[p]at e
    match a2,e,p with
    |some (.nd .ls Z),e,p=>
     obtain⟨⟨y,o⟩,h3,e⟩:=bS_<|e;cases e;obtain⟨v1,A,C⟩:=j.sl i _ p;rw[f]at A;cases A;generalize c:x i=fp1 at C;cases C with
     |ls hH rl=>
     rename_i vs fp;have N:=zxA.mpr ⟨by have:=j.nd i;rw[c]at this;exact(zzV.mp this).2,j.tnd,λa m b m' e=>by
          subst e;exact j.dis i a (by rw[c];exact zzD _ m) m'⟩
     refine hr F B _ _ vs ws Z G y o fp J L Q hH rl M N h3 λv D fp' fo O P d E=>?_;obtain⟨R3,g3⟩:=j.mut (zzG.mp p).1 c f d E (by rw[hH];simp) λH' G' S gr kp=>.ls S<|Zy.grow gr kp O;have T:∀a ∈ fo,∀w,L a=some w->upd L l (.lst D) a=some w:=λa m w h=>by
          rw[zH λe=>?_]
          . exact h
          . subst e
            rcases zzM.mp (d _<|zzL _ m)with z|z
            . have:=j.nd i;rw[c]at this;exact(zzV.mp this).1 z
            . exact j.dis i _ (by rw[c];exact zzF) z
     exact q v fo _ _ R3 (Xb.grow g3 T P)<|g1.trans g3
end
end PF
end
section
set_option exponentiation.threshold 5000
namespace PF
open PySem PySem.Spec PyProof.Rows L2
section
variable{K:zzA}{kd:KD}{O:Addr->Prop}{H:Hp}{Q:VK}
def zU(q:RQ K kd O H Q (.im d))(r:Rp K kd O H v d):Q v H:=q v H (λ_ _ z=>z) r
def E5(hp:H p=none)(r:RpL K kd O H vs ds):RpL K kd (VP O (· = p)) (upd H p o) vs ds:=
 RpL.grow ⟨λb u q _=>by rw[zH<|zR q hp];exact q,λb z=>.inr<|by rwa [z]⟩ (r.less λa z=>z.elim id False.elim)
def Qd{p o}(hp:H p=none):∀b u,H b=some u->upd H p o b=some u:=λb u q=>by rwa [zH<|zR q hp]
def K_{vs ds}(q:RQ K kd O H Q (.fl ds))(r:RpL K kd O H vs ds):∀p,H p=none->Q (.ref p) (upd H p<|.lst vs):=λp hp=>
 q p vs _ hp (Qd hp) yn (E5 hp r)
def KM{vs ds}(ht:∀a,O a->H a≠none)(q:RQ K kd O H Q (.im<|.tup ds))(r:RpL K kd O H vs ds):∀p,H p=none->Q (.ref p) (upd H p<|.tup vs):=λp hp=>
 q _ _ (Qd hp) (.tup (λz=>ht p z hp) (.inl yn)<|(E5 hp r).less λa z=>.inl z)
end
def big:Nat:=2 ^ 4000
def Cn{i}(h:i.natAbs<2 ^ 64):Builtin.Int.intBits i<=64:=by
 unfold Builtin.Int.intBits
 split
 . exact Nat.zero_le _
 . rcases Nat.eq_zero_or_pos i.natAbs with h0|hp
   . rw[h0];decide
   . exact(Nat.log2_lt<|Nat.ne_of_gt hp).mpr h
abbrev bg:=Att.bg
def Ee:big<bg:=by
 unfold big bg Att.bg;exact Nat.pow_lt_pow_right (m:=4000) (n:=1048576) (by decide) (by decide)
def Ff(h:i.natAbs<bg):Builtin.Int.intBits i<=2 ^ 20:=by
 unfold bg Att.bg at h;exact zzO (intBits_le_iff.mpr h) (by decide)
def CQ(f:Int->Int->Option R0)(x y:D):Option R0:=(FX x).bind λi=>(FX y).bind λj=>f i j
def tI(x y:D):Option R0:=match x with
 | .int i=>(FX y).bind λj=>some<|.im<|.int<|i+j
 | .str x=>(tW y).bind λy=>if x.length+y.length<=sizeLine then some (.im<|.str<|x++y)else none
 | .lst xs=>(Dk y).bind λys=>if xs.length+ys.length<=sizeLine then some (.fl<|xs++ys)else none
 | .tup xs=>(tY y).bind λys=>if xs.length+ys.length<=sizeLine then some (.im<|.tup<|xs++ys)else none
 |_=>none
def u_(x y:D):Option R0:=match x with
 | .int i=>(FX y).bind λj=>if(i.natAbs<bg/\j.natAbs<bg)\/j.natAbs<2 ^ 64 then some (.im<|.int<|i*j)else none
 | .lst xs=>(FX y).bind λk=>if -(2 ^ 63)<=k/\k<2 ^ 63/\xs.length*k.toNat<=sizeLine then some (.fl (List.replicate k.toNat xs).flatten)else none
 | .tup xs=>(FX y).bind λk=>if 1<=k/\k<2 ^ 63/\xs.length≠0/\xs.length*k.toNat<=sizeLine then some (.im<|.tup (List.replicate k.toNat xs).flatten)else none
 |_=>none
def ZK(o:Operator)(x y:D):Option R0:=match o with
 | .Add=>tI x y
 | .Sub=>CQ (λi j=>some<|.im<|.int<|i-j) x y
 | .Mult=>u_ x y
 | .FloorDiv=>CQ (λi j=>if 0<j/\j.natAbs<big then some (.im<|.int<|i/j)else none) x y
 | .Mod=>CQ (λi j=>if 0<j then some (.im<|.int<|i%j)else none) x y
 | .Pow=>CQ (λi j=>if 0<=j/\j<=1000000/\i.natAbs<2 ^ 64 then some (.im<|.int<|i ^ j.toNat)else none) x y
 |_=>none
def Y0{K kd O H v d i}(h:Vw K kd O H v d)(e:FX d=some i):d = .int i/\v = .int i:=by
 cases h with
 |int j=>cases e;exact ⋯
 |_=>cases e
def Iw{K kd O H v d i}(h:Vw K kd O H v d)(e:tW d=some i):d = .str i/\v = .str i:=by
 cases h with
 |str j=>cases e;exact ⋯
 |_=>cases e
def Yc{K kd O H v w d e f r}(vx:Vw K kd O H v d)(vy:Vw K kd O H w e)(h:CQ f d e=some r):∃i j,v = .int i/\w = .int j/\f i j=some r:=by
 obtain⟨i,a,h⟩:=bS_<|h;obtain⟨j,b,h⟩:=bS_ h;exact⟨i,j,(Y0 vx a).2,(Y0 vy b).2,h⟩
section
variable{X:Cx}{kd:KD}
def HE:Uu X (binaryOp .Add) (λx y H Q=>∃l b xs zs,x = .ref l/\y = .ref b/\Sv X.K H l xs/\Sv X.K H b zs/\xs.length+zs.length<=sizeLine/\∀p,H p=none->Q (.ref p) (upd H p<|.lst<|xs++zs)):=by
 intro d s σ H x y v u Q I g i h;obtain⟨l,b,w,A,rfl,rfl,j,k,B,q⟩:=h;cases g;cases i;obtain⟨z,c,n,r,e⟩:=MU I j;obtain⟨C,a,D,f,m⟩:=MU I k;have E:=r.length;have o:=f.length;refine PySem.P.add_list e m ?_ (by rw[zzH,zzH];omega);have t:c.toArray++a.toArray=(c++a).toArray:=⋯;rw[t];exact⟨.ref _,_,I.lnew (t':=s.toks) (r.append f) (by rw[zzJ];omega),rfl,q _ I.fresh⟩
def Oj:Uu X (binaryOp .Mult) (λx y H Q=>∃l k xs,x = .ref l/\y = .int k/\Sv X.K H l xs /\ -(2 ^ 63)<=k/\k<2 ^ 63/\xs.length*k.toNat<=sizeLine/\
 ∀p,H p=none->Q (.ref p) (upd H p<|.lst (List.replicate k.toNat xs).flatten)):=by
 intro w s σ H x y v u Q I B C h;obtain⟨l,k,N,rfl,rfl,D,E,G,A,q⟩:=h;cases B;obtain⟨t,rfl⟩:=C;obtain⟨z,b,n,r,e⟩:=MU I D;have J:=r.length;have d:b.toArray.size*k.toNat<=sizeLine:=by rwa [zzH,<-J]
 have f:¬b.toArray.size*k.toNat > (2 ^ 63-1)/8:=by
  have:sizeLine<=(2 ^ 63-1)/8:=by decide
  omega
 have g:¬(!Builtin.List.listFitsIndex k)=true:=by
  rw[fitsIndex_both E G];exact zyT
 have c:¬Builtin.List.listTooLong (b.toArray.size*k.toNat)=true:=by
  rw[S_ d];exact zyT
 have i:List.foldl (λj o=>j++o) #[] (List.replicate (if b.toArray.isEmpty=true then 0 else k.toNat) b.toArray)=(List.replicate k.toNat b).flatten.toArray:=by
  have L:=λm=>by
   have:=foldl_rep b m []
   rwa [List.nil_append]at this
  rw[L];cases b with
  |nil=>simp
  |cons a O=>rw[if_neg<|by simp]
 refine wpAny_binaryOp_repeat_ref (by decide) ⟨_,e,rfl⟩ (λM=>typeIs_int M k t) noFill_list_mul F.fills_int_mul F.slot_int_rmul repeat_list F.slot_int_index.lookup
  (call_meets F.slot_int_rmul ⋯ F.entry_int_rmul ⋯ (int___rmul___int_list k t l b.toArray n)
   ⟨e,rfl,⟨_,e,rfl⟩,call_meets F.slot_list_mul ⟨_,e,rfl⟩ F.entry_list_mul (F.args_list_mul_2 _ _) (AutoListH.list___mul___list_int_3 l b.toArray n k t g f c) ⟨e, ?_⟩⟩)
 rw[i];refine⟨.ref _,_,I.lnew (t':=s.toks) (r.rep k.toNat) ?_,rfl,q _ I.fresh⟩
 rwa [len_rep,Nat.mul_comm]
def tuple_addW0(l b)(items items2)(n n2:Nat)(dd dd2)(sl sl2)(h0:items.isEmpty=true):
 Meets (Builtin.«tuple.__add__» {pos:=[.ref l,.ref b]}) (λ_ R s=>s.heap.get? l=some {cls:=.type "tuple",dict:=dd,data:=.seq items n,slots:=sl}/\s.heap.get? b=some {cls:=.type "tuple",dict:=dd2,data:=.seq items2 n2,slots:=sl2}/\R (.ok<|.ret<|.ref b) s):=
 .of_wp λa w A R s h=>by
  obtain⟨c,e,h⟩:=h;have f2:=AutoSeq1.sub_tuple_tuple
  wp_walk using wpAny_loadPart' c,wpAny_loadPart' e
  exact⟨_,rfl,h⟩
def N8(l)(items)(n:Nat)(dd)(sl)(u):
 Meets (Builtin.«tuple.__mul__» {pos:=[.ref l,.int 1 u]}) (λ_ R s=>s.heap.get? l=some {cls:=.type "tuple",dict:=dd,data:=.seq items n,slots:=sl}/\R (.ok<|.ret<|.ref l) s):=
 .of_wp λa w A R s h=>by
  obtain⟨b,h⟩:=h
  wp_walk using wpAny_loadPart' b
  exact⟨_,rfl,h⟩
def N0(l)(items its2:Array Value)(n:Nat)(dd)(sl)(x)(u)(c1:¬(decide (x < -2 ^ 63)||decide (x ≥ 2 ^ 63))=true)(c2:¬(items.isEmpty||x==1)=true)(c3:¬(decide (x<=0)||items.isEmpty)=true)
 (hcap:¬(items.size:Int)*x > (2 ^ 63-1)/8) (ht:¬Builtin.Tuple.tupleTooMany (items.size*x)=true) (hz:¬(List.foldl (λx1 x2=>x1++x2) #[] (List.replicate x.toNat items)).size > sizeLine):
 Meets (Builtin.«tuple.__mul__» {pos:=[.ref l,.int x u]}) (λ_ R s=>s.heap.get? l=some {cls:=.type "tuple",dict:=dd,data:=.seq items n,slots:=sl}/\R (.ok<|.ret<|.ref s.heap.objs.size) {s with heap:=s.heap.push {cls:=.type "tuple",data:=.seq (List.foldl (λx1 x2=>x1++x2) #[] (List.replicate x.toNat items))}}):=
 .of_wp λa w A R s h=>by
  obtain⟨b,h⟩:=h
  wp_walk using wpAny_loadPart' b
  rw[if_neg c1]
  wp_walk using wpAny_loadPart' b
  rw[if_neg hcap]
  wp_walk
  exact⟨_,rfl,h⟩
def Ul:fillsNumberSlot (Value.type "tuple") "mul"=pure false:=⋯
def KZ:seqRepeat? (Value.type "tuple")=pure (some<|Value.builtin "tuple.__mul__"):=⋯
def Tw(a)(t)(l)(items)(n:Nat)(dd)(sl):
 Meets (Builtin.«int.__rmul__» {pos:=[.int a t,.ref l]}) (λ_ R s=>s.heap.get? l=some {cls:=.type "tuple",dict:=dd,data:=.seq items n,slots:=sl}/\R (.ok<|.ret .notImplemented) s):=
 .of_wp λb w A R s h=>by
  obtain⟨c,h⟩:=h
  wp_walk using wpAny_load' c,wpAny_loadPart' c
  exact⟨_,rfl,h⟩
def HG:Uu X (binaryOp .Add) (λx y H Q=>∃a b ys,x = .ref a/\y = .ref b/\Uk X.K H a []/\Uk X.K H b ys/\Q (.ref b) H):=by
 intro j s σ H x y v u Q I t w h;obtain⟨a,b,M,rfl,rfl,z,A,q⟩:=h;cases t;cases w;obtain⟨B,C,D,_⟩:=I.tuple z;obtain⟨k,N,E,_⟩:=I.tuple A;cases C;obtain⟨⟨cls,G,l,J⟩,m,o,n,p⟩:=id D;obtain⟨⟨r,f,g,i⟩,c,d,L,e⟩:=id E;subst o p d e;exact concat_meets ⟨_,m,rfl⟩ ⟨_,c,rfl⟩ noFill_tuple_add seq_tuple_add PySem.F.slot_tuple_add PySem.F.entry_tuple_add (PySem.F.args_tuple_add_2 _ _) (tuple_addW0 a b _ _ n L G f J i rfl) ⟨m,c,⟨.ref b,H,I,rfl,q⟩⟩
def OM:Uu X (binaryOp .Mult) (λx y H Q=>∃l k xs,x = .ref l/\y = .int k/\Uk X.K H l xs/\xs≠[]/\1<=k/\k<2 ^ 63/\xs.length*k.toNat<=sizeLine/\(k=1->Q (.ref l) H)/\
 (2<=k->∀p,H p=none->Q (.ref p) (upd H p<|.tup (List.replicate k.toNat xs).flatten))):=by
 intro A s σ H x y v u Q I M N h;obtain⟨l,k,B,rfl,rfl,O,i,Y,Z,C,P,R⟩:=h;cases M;obtain⟨t,rfl⟩:=N;obtain⟨c,r,p,_⟩:=I.tuple O;have j:=r.length;have f:c.toArray.size*k.toNat<=sizeLine:=by rwa [zzH,<-j]
 have g:((c.toArray.size:Int)*k)=((c.toArray.size*k.toNat:Nat):Int):=by
  rw[Int.natCast_mul,Int.toNat_of_nonneg<|by omega]
 have D:c.toArray.isEmpty=false:=by
  cases c with
  |nil=>rw[List.length_nil]at j;exact absurd (List.length_eq_zero_iff.mp j) i
  |cons a r'=>rfl
 have d:List.foldl (λS V=>S++V) #[] (List.replicate k.toNat c.toArray)=(List.replicate k.toNat c).flatten.toArray:=by
  have:=foldl_rep c k.toNat [];exact this
 obtain⟨⟨cls,m,E,w⟩,e,G,n,J⟩:=id p;subst G J;refine wpAny_binaryOp_repeat_ref (by decide) ⟨_,e,rfl⟩ (λW=>typeIs_int W k t) Ul F.fills_int_mul F.slot_int_rmul KZ F.slot_int_index.lookup
  (call_meets F.slot_int_rmul (typeIs_int s k t) F.entry_int_rmul (F.args_int_rmul_2 _ _) (Tw k t l c.toArray n m w) ⟨e,rfl,⟨_,e,rfl⟩, ?_⟩)
 by_cases L:k=1
 . subst L;exact call_meets F.slot_tuple_mul ⟨_,e,rfl⟩ F.entry_tuple_mul ⋯ (N8 l c.toArray n m w t) ⟨e,⟨.ref l,H,I,rfl,P rfl⟩⟩
 . have z:(List.replicate k.toNat B).flatten.length<=sizeLine:=by rwa [len_rep,Nat.mul_comm]
   refine call_meets F.slot_tuple_mul ⟨_,e,rfl⟩ F.entry_tuple_mul (F.args_tuple_mul_2 _ _) (N0 l c.toArray #[] n m w k t (by simp;omega) (by rw[D];simpa using L) (by rw[D];simp;omega) ?_ ?_ ?_) ⟨e, ?_⟩
   . rw[g];have:(sizeLine:Int)<=(2 ^ 63-1)/8:=by decide
     omega
   . unfold Builtin.Tuple.tupleTooMany;rw[g];simp only[gt_iff_lt,decide_eq_true_eq];omega
   . rw[d,zzH,len_rep,Nat.mul_comm];rw[zzH]at f;omega
   . rw[d];refine⟨.ref s.heap.objs.size,_,I.laid (t':=s.toks) (λb ob q=>zxD _ q) (zzN _) ?_,rfl,R (by omega) _<|I.hok.fresh<|zzN _⟩;exact⟨z,_,r.rep k.toNat,IsTup.new _ _⟩
def Aa(op):Al X kd (binaryOp op) (ZK op):=by
 intro pins s σ H x y v u Q I rx ry h;obtain⟨O,d,e,r,ht,vx,vy,he,q⟩:=h;cases op with
 |Add=>
  cases vx with
  |int i=>
   obtain⟨j,h1,he⟩:=bS_<|he;obtain⟨rfl,rfl⟩:=Y0 vy h1;cases he;exact MW pins s σ H _ _ v u Q I rx ry ⟨_,_,rfl,rfl,zU q<|.int _⟩
  |str i=>
   obtain⟨j,h1,he⟩:=bS_<|he;obtain⟨rfl,rfl⟩:=Iw vy h1;obtain⟨c,rfl⟩:=zB he;exact MS pins s σ H _ _ v u Q I rx ry ⟨_,_,rfl,rfl,c,zU q<|.str _⟩
  |lst hx rx'=>
   obtain⟨j,h1,he⟩:=bS_<|he;cases Kz h1;obtain⟨c,rfl⟩:=zB he;cases vy with
   |lst hy ry'=>exact HE pins s σ H _ _ v u Q I rx ry ⟨_,_,_,_,rfl,rfl,hx,hy,by rw[rx'.length,ry'.length];exact c,K_ q<|rx'.append ry'⟩
  | @tup a1 vs1 ds1 r1 hx rx'=>
   obtain⟨j,h1,he⟩:=bS_<|he;cases JE h1;obtain⟨c,rfl⟩:=zB he;cases vy with
   |tup r2 hy ry'=>
    by_cases h0:vs1=([]:List V)
    . subst h0;cases rx';exact HG pins s σ H _ _ v u Q I rx ry ⟨_,_,_,rfl,rfl,hx,hy,zU q r2⟩
    refine HL pins s σ H _ _ v u Q I rx ry ⟨_,_,_,_,rfl,rfl,hx,hy,h0,by rw[rx'.length,ry'.length];exact c,λhn=>?_,λhn=>KM ht q<|rx'.append ry'⟩
    . subst hn;cases ry';rw[zyD]at q;exact zU q r1
  |_=>cases he
 |Sub=>
  obtain⟨i,j,rfl,rfl,he⟩:=Yc vx vy he;cases he;exact JL pins s σ H _ _ v u Q I rx ry ⟨_,_,rfl,rfl,zU q<|.int _⟩
 |Mult=>
  cases vx with
  |int i=>
   obtain⟨j,h1,he⟩:=bS_<|he;obtain⟨rfl,rfl⟩:=Y0 vy h1;obtain⟨c,rfl⟩:=zB he;obtain⟨t,rfl⟩:=rx;obtain⟨t',rfl⟩:=ry;exact mul_int ⟨.int _,H,I.tok _,⟨_,rfl⟩,zU q<|.int _⟩ (c.elim (λc=>IntMulOk.of_bits (Ff c.1)<|Ff c.2) λc=>IntMulOk.of_right<|Cn c)
  |lst hx rx'=>
   obtain⟨j,h1,he⟩:=bS_<|he;obtain⟨rfl,rfl⟩:=Y0 vy h1;obtain⟨c,rfl⟩:=zB he;exact Oj pins s σ H _ _ v u Q I rx ry ⟨_,_,_,rfl,rfl,hx,c.1,c.2.1,by rw[rx'.length];exact c.2.2,K_ q<|rx'.rep _⟩
  |tup r1 hx rx'=>
   obtain⟨j,h1,he⟩:=bS_<|he;obtain⟨rfl,rfl⟩:=Y0 vy h1;obtain⟨c,rfl⟩:=zB he;refine OM pins s σ H _ _ v u Q I rx ry ⟨_,_,_,rfl,rfl,hx,λe=>?_,c.1,c.2.1,by rw[rx'.length];exact c.2.2.2,λe=>?_,λ_=>KM ht q<|rx'.rep _⟩
   . have:=rx'.length;rw[e]at this;exact c.2.2.1 this.symm
   . subst e;refine zU q ?_;rw[show(1:Int).toNat=1 from rfl,List.replicate_one,List.flatten_cons,List.flatten_nil,zyD];exact r1
  |_=>cases he
 |FloorDiv=>
  obtain⟨i,j,rfl,rfl,he⟩:=Yc vx vy he;obtain⟨c,rfl⟩:=zB he;obtain⟨t,rfl⟩:=rx;obtain⟨t',rfl⟩:=ry;refine floordiv_int (by omega) ?_<|.inl<|PyProof.noPylong_of_log2 ?_
  . rw[Int.fdiv_eq_ediv_of_nonneg _<|by omega];exact⟨.int _,H,I.tok _,⟨_,rfl⟩,zU q<|.int _⟩
  . exact zzK ((Nat.log2_lt<|by have:=c.1;omega).mpr<|c.2) (by decide)
 |Mod=>
  obtain⟨i,j,rfl,rfl,he⟩:=Yc vx vy he;obtain⟨c,rfl⟩:=zB he;exact Jf pins s σ H _ _ v u Q I rx ry ⟨_,_,rfl,rfl,c,zU q<|.int _⟩
 |Pow=>
  obtain⟨i,j,rfl,rfl,he⟩:=Yc vx vy he;obtain⟨c,rfl⟩:=zB he;exact J7 pins s σ H _ _ v u Q I rx ry ⟨_,_,rfl,rfl,c,zU q<|.int _⟩
 |_=>cases he
end
def Om(f:D->D->Option Bool):List D->List D->Option Bool
 | [],[]=>some true
 |x::r,y::t=>(f x y).bind λb=>(Om f r t).bind λc=>some (b&&c)
 |_,_=>some false
def Wp:Nat->D->D->Option Bool
 |0,_,_=>none
 |_+1,.non,.non=>some true
 |_+1,.bl a,.bl b=>some (a==b)
 |_+1,.int a,.int b=>some (a==b)
 |_+1,.str a,.str b=>some (a==b)
 |_+1,.bl a,.int b=>some ((if a then 1 else 0)==b)
 |_+1,.int a,.bl b=>some (a==(if b then 1 else 0))
 |n+1,.lst xs,.lst ys=>Om (Wp n) xs ys
 |n+1,.tup xs,.tup ys=>Om (Wp n) xs ys
 |_+1,.dct _,_=>none
 |_+1,.cl _,_=>none
 |_+1,.ob _ _ _,_=>none
 |_+1,_,.dct _=>none
 |_+1,_,.cl _=>none
 |_+1,_,.ob _ _ _=>none
 |_+1,_,_=>some false
def HS(f:D->D->Option Bool)(xs ys:List D)(j:Nat):Bool:=match xs[j]?,ys[j]? with
 |some d,some e=>(f d e).getD false
 |_,_=>false
theorem PN:∀{xs ys:List D}{b:Bool},Om f xs ys=some b->(∀(j:Nat) d e,xs[j]? = some d->ys[j]? = some e->∃c,f d e=some c)/\
 b=((List.range<|min xs.length ys.length).all (HS f xs ys)&&xs.length==ys.length)
 | [],[],b,h=>by cases h;exact⟨λj d e h=>by simp at h,⋯⟩
 | [],y::t,b,h=>by cases h;exact⟨λj d e h=>by simp at h,⋯⟩
 |x::r,[],b,h=>by cases h;exact⟨λj d e _ h=>by simp at h,⋯⟩
 |x::r,y::t,b,h=>by
  obtain⟨b1,h1,h⟩:=bS_<|h;obtain⟨c1,h2,h⟩:=bS_ h;cases h;obtain⟨k1,k2⟩:=PN h2;refine⟨λj d e hd he=>?_, ?_⟩
  . cases j with
    |zero=>simp at hd he;subst hd he;exact⟨b1,h1⟩
    |succ j=>exact k1 j d e ⋯ ⋯
  . have e0:min (x::r).length (y::t).length=min r.length t.length+1:=by simp only[zzT];omega
    rw[e0,List.range_succ_eq_map,List.all_cons,List.all_map,k2];have e1:HS f (x::r) (y::t) 0=b1:=by show(f x y).getD false=b1;rw[h1];rfl
    have e2:(HS f (x::r) (y::t)∘Nat.succ)=HS f r t:=⋯;have e3:((x::r).length==(y::t).length)=(r.length==t.length):=⋯;rw[e1,e2,e3,Bool.and_assoc]
structure EqAll(A:Around)(s:Shared)(u v:Value)(b:Bool):Prop where
 rc:SeqAt.RcAt A s u v b
 ne:SeqAt.RcNeAt A s u v (!b)
 eq:SeqAt.EqAt A s u v b
def JV(hu:∀o w,u ≠ .frz o w)(hu':∀o w,u' ≠ .frz o w)(h:Rd H a u)(h':Rd H a u'):u=u':=by
 rcases h with h|⟨o,h⟩<;>rcases h' with h'|⟨o',h'⟩
 . rw[h]at h';cases h';rfl
 . rw[h]at h';cases h';exact absurd rfl<|hu _ _
 . rw[h]at h';cases h';exact absurd rfl<|hu' _ _
 . rw[h]at h';cases h';rfl
section
variable{X:Cx}{kd:KD}{pins:List (Addr×Obj)}{σ:St}{H:Hp}{s:Shared}{O:Addr->Prop}
def EU(I:Inv X pins σ H s)(h:Uk X.K H a xs)(h':TX X.K H a ys):False:=by
 obtain⟨_,_,⟨o,e,c,_⟩,_⟩:=I.tuple h;obtain⟨_,_,⟨f,n,b,d,_⟩,_⟩:=I.list h';rw[e]at b;cases b;rw[c]at d;exact absurd d (by decide)
theorem EO(I:Inv X pins σ H s):∀(n:Nat) (v:V) (d e:D) (b:Bool),Vw X.K kd O H v d->Vw X.K kd O H v e->Wp n d e=some b->b=true
 |0,_,_,_,_,_,_,h=>by cases h
 |n+1,v,d,e,b,p,f,h=>by
  have lst:∀i (l m:List D) b,RpL X.K kd O H i l->RpL X.K kd O H i m->Om (Wp n) l m=some b->b=true:=by
   intro i
   induction i with
   |nil=>intro l m b g a h;cases g;cases a;cases h;rfl
   |cons v i q=>
    intro l m b g a h;cases g with
    |cons r g=>
     cases a with
     | cons t a=>
            obtain⟨y,u,h⟩:=bS_<|h;obtain⟨z,w,h⟩:=bS_ h;cases h;rw[EO I n _ _ _ _ r.vw t.vw u,q _ _ _ g a w];rfl
  cases p with
  |non=>cases f;cases h;rfl
  |bl x=>cases f;cases h;simp
  |int x=>cases f;cases h;simp
  |str x=>cases f;cases h;simp
  |tup g j o=>
   cases f with
   |tup a c k=>
    have:=I.tuple_inj j c;subst this;exact lst _ _ _ _ o k h
   |lst c k=>exact(EU I j c.sq).elim
   |_=>cases h
  |lst j o=>
   cases f with
   |tup a c k=>exact(EU I c j.sq).elim
   |lst c k=>
    have:=I.list_inj j.sq c.sq;subst this;exact lst _ _ _ _ o k h
   |_=>cases h
  |_=>cases h
theorem K7(I:Inv X pins σ H s):∀(n:Nat) (A:Around) (x y:V) (d e:D) (u v:Value) (b:Bool),A.units+n<cLine->Vw X.K kd O H x d->Vw X.K kd O H y e->RelV x u->RelV y v->Wp n d e=some b->EqAll A s u v b
 |0,_,_,_,_,_,_,_,_,_,_,_,_,_,h=>by cases h
 |n+1,A,x,y,d,e,u,v,b,hu,h1,E,R,k,h=>by
  have f:A.units<cLine:=by omega
  have W:∀{vs ws:List V}{l g:List Value}{S T:List D},RpL X.K kd O H vs S->RpL X.K kd O H ws T->zM vs l->zM ws g->(∀(j:Nat) d e,S[j]? = some d->T[j]? = some e->∃c,Wp n d e=some c)->
   ∀j h1 (E:j<g.toArray.size),SeqAt.EqAt A.in1 s l.toArray[j] g.toArray[j] (HS (Wp n) S T j):=by
   intro vs ws l g S T F q v1 v2 hd j j1 j2;have q1:j<S.length:=by rw[<-F.length,v1.length];simpa using j1
   have q2:j<T.length:=by rw[<-q.length,v2.length];simpa using j2
   obtain⟨L,ha1,ra1⟩:=F.get<|zzE q1;obtain⟨M,ha2,ra2⟩:=q.get<|zzE q2;obtain⟨u1,hu1,ru1⟩:=v1.get ha1;obtain⟨u2,hu2,ru2⟩:=v2.get ha2;obtain⟨c,hc⟩:=hd j _ _ (zzE q1)<|zzE q2;have e1:l.toArray[j]=u1:=by
    have:=(zzG.mp hu1).2;simpa using this
   have e2:g.toArray[j]=u2:=by
    have:=(zzG.mp hu2).2;simpa using this
   rw[e1,e2];have e3:HS (Wp n) S T j=c:=by
    unfold HS;rw[zzE q1,zzE q2];show(Wp n _ _).getD false=c;rw[hc];rfl
   rw[e3];exact(K7 I n A.in1 L M _ _ u1 u2 c (by show A.units+1+n<cLine;omega) ra1.vw ra2.vw ru1 ru2 hc).eq
  have G:∀{a a':Addr},x = .ref a->y = .ref a'->a=a'->b=true:=by
   intro a a' e1 e2 e3;subst e1 e2 e3;exact EO I (n+1) _ _ _ _ h1 E h
  cases h1 with
  |non=>
   cases R;cases E with
   |non=>cases k;cases h;exact⟨SeqAt.RcAt.none_none,SeqAt.RcNeAt.none_none,SeqAt.EqAt.same _⟩
   |bl=>cases k;cases h;exact⟨SeqAt.RcAt.none_bool _,SeqAt.RcNeAt.none_bool _,SeqAt.EqAt.none_bool _⟩
   |int=>obtain⟨t,rfl⟩:=k;cases h;exact⟨SeqAt.RcAt.none_int _ _,SeqAt.RcNeAt.none_int _ _,SeqAt.EqAt.none_int _ _⟩
   |str=>obtain⟨t,rfl⟩:=k;cases h;exact⟨SeqAt.RcAt.none_str _ _,SeqAt.RcNeAt.none_str _ _,SeqAt.EqAt.none_str _ _⟩
   |tup r o q=>
    cases k;cases h;obtain⟨l,J,p,_⟩:=I.tuple o;exact⟨SeqAt.RcAt.none_tuple p f,SeqAt.RcNeAt.none_tuple p f,SeqAt.EqAt.none_tuple p f⟩
   |lst o q=>
    cases k;cases h;obtain⟨l,J,p,_⟩:=I.list o.sq;exact⟨SeqAt.RcAt.none_list p.isList f,SeqAt.RcNeAt.none_list p.isList f,SeqAt.EqAt.none_list p.isList f⟩
   |_=>cases h
  |bl c=>
   cases R;cases E with
   |non=>cases k;cases h;exact⟨SeqAt.RcAt.bool_none _,SeqAt.RcNeAt.bool_none _,SeqAt.EqAt.bool_none _⟩
   |bl=>cases k;cases h;exact⟨SeqAt.RcAt.bool_bool _ _,SeqAt.RcNeAt.bool_bool _ _,SeqAt.EqAt.bool_bool _ _⟩
   |int=>obtain⟨t,rfl⟩:=k;cases h;exact⟨SeqAt.RcAt.bool_int _ _ _,SeqAt.RcNeAt.bool_int _ _ _,SeqAt.EqAt.bool_int _ _ _⟩
   |str=>obtain⟨t,rfl⟩:=k;cases h;exact⟨SeqAt.RcAt.bool_str _ _ _,SeqAt.RcNeAt.bool_str _ _ _,SeqAt.EqAt.bool_str _ _ _⟩
   |tup r o q=>
    cases k;cases h;obtain⟨l,J,p,_⟩:=I.tuple o;exact⟨SeqAt.RcAt.bool_tuple _ p f,SeqAt.RcNeAt.bool_tuple _ p f,SeqAt.EqAt.bool_tuple _ p f⟩
   |lst o q=>
    cases k;cases h;obtain⟨l,J,p,_⟩:=I.list o.sq;exact⟨SeqAt.RcAt.bool_list _ p.isList f,SeqAt.RcNeAt.bool_list _ p.isList f,SeqAt.EqAt.bool_list _ p.isList f⟩
   |_=>cases h
  |int c=>
   obtain⟨t0,rfl⟩:=R;cases E with
   |non=>cases k;cases h;exact⟨SeqAt.RcAt.int_none _ _,SeqAt.RcNeAt.int_none _ _,SeqAt.EqAt.int_none _ _⟩
   |bl=>cases k;cases h;exact⟨SeqAt.RcAt.int_bool _ _ _,SeqAt.RcNeAt.int_bool _ _ _,SeqAt.EqAt.int_bool _ _ _⟩
   |int=>obtain⟨t,rfl⟩:=k;cases h;exact⟨SeqAt.RcAt.int_int _ _ _ _,SeqAt.RcNeAt.int_int _ _ _ _,SeqAt.EqAt.int_int _ _ _ _⟩
   |str=>obtain⟨t,rfl⟩:=k;cases h;exact⟨SeqAt.RcAt.int_str _ _ _ _,SeqAt.RcNeAt.int_str _ _ _ _,SeqAt.EqAt.int_str _ _ _ _⟩
   |tup r o q=>
    cases k;cases h;obtain⟨l,J,p,_⟩:=I.tuple o;exact⟨SeqAt.RcAt.int_tuple _ _ p f,SeqAt.RcNeAt.int_tuple _ _ p f,SeqAt.EqAt.int_tuple _ _ p f⟩
   |lst o q=>
    cases k;cases h;obtain⟨l,J,p,_⟩:=I.list o.sq;exact⟨SeqAt.RcAt.int_list _ _ p.isList f,SeqAt.RcNeAt.int_list _ _ p.isList f,SeqAt.EqAt.int_list _ _ p.isList f⟩
   |_=>cases h
  |str c=>
   obtain⟨t0,rfl⟩:=R;cases E with
   |non=>cases k;cases h;exact⟨SeqAt.RcAt.str_none _ _,SeqAt.RcNeAt.str_none _ _,SeqAt.EqAt.str_none _ _⟩
   |bl=>cases k;cases h;exact⟨SeqAt.RcAt.str_bool _ _ _,SeqAt.RcNeAt.str_bool _ _ _,SeqAt.EqAt.str_bool _ _ _⟩
   |int=>obtain⟨t,rfl⟩:=k;cases h;exact⟨SeqAt.RcAt.str_int _ _ _ _,SeqAt.RcNeAt.str_int _ _ _ _,SeqAt.EqAt.str_int _ _ _ _⟩
   |str=>obtain⟨t,rfl⟩:=k;cases h;exact⟨SeqAt.RcAt.str_str _ _ _ _,SeqAt.RcNeAt.str_str _ _ _ _,SeqAt.EqAt.str_str _ _ _ _⟩
   |tup r o q=>
    cases k;cases h;obtain⟨l,J,p,_⟩:=I.tuple o;exact⟨SeqAt.RcAt.str_tuple _ _ p f,SeqAt.RcNeAt.str_tuple _ _ p f,SeqAt.EqAt.str_tuple _ _ p f⟩
   |lst o q=>
    cases k;cases h;obtain⟨l,J,p,_⟩:=I.list o.sq;exact⟨SeqAt.RcAt.str_list _ _ p.isList f,SeqAt.RcNeAt.str_list _ _ p.isList f,SeqAt.EqAt.str_list _ _ p.isList f⟩
   |_=>cases h
  | @tup L vs1 N r s1 F=>
   cases R;obtain⟨m,z,i,_⟩:=I.tuple s1;cases E with
   |non=>cases k;cases h;exact⟨SeqAt.RcAt.tuple_none i f,SeqAt.RcNeAt.tuple_none i f,SeqAt.EqAt.tuple_none i f⟩
   |bl=>cases k;cases h;exact⟨SeqAt.RcAt.tuple_bool _ i f,SeqAt.RcNeAt.tuple_bool _ i f,SeqAt.EqAt.tuple_bool _ i f⟩
   |int=>obtain⟨t,rfl⟩:=k;cases h;exact⟨SeqAt.RcAt.tuple_int _ _ i f,SeqAt.RcNeAt.tuple_int _ _ i f,SeqAt.EqAt.tuple_int _ _ i f⟩
   |str=>obtain⟨t,rfl⟩:=k;cases h;exact⟨SeqAt.RcAt.tuple_str _ _ i f,SeqAt.RcNeAt.tuple_str _ _ i f,SeqAt.EqAt.tuple_str _ _ i f⟩
   | @tup M vs2 P r' o q=>
    cases k;obtain⟨g,w,B,_⟩:=I.tuple o;obtain⟨k1,k2⟩:=PN h;have Y:=W F q z w k1;have Z:((List.range<|min m.toArray.size g.toArray.size).all (HS (Wp n) N P)&&m.toArray.size==g.toArray.size)=b:=by
     rw[k2,zzH,zzH,<-z.length,<-w.length,F.length,q.length]
    have U:=SeqAt.RcAt.tuples i B f Y;have b2:=SeqAt.RcNeAt.tuples i B f Y;rw[Z]at U b2;refine⟨U,b2, ?_⟩
    by_cases Q:L=M
    . have hb:=G rfl rfl Q;subst Q;rw[hb];exact SeqAt.EqAt.same _
    . exact SeqAt.EqAt.of_refs Q U
   |lst o q=>
    cases k;cases h;obtain⟨l,J,p,_⟩:=I.list o.sq;exact⟨SeqAt.RcAt.tuple_list i p.isList f,SeqAt.RcNeAt.tuple_list i p.isList f,SeqAt.EqAt.tuple_list i p.isList f⟩
   |_=>cases h
  | @lst L vs1 N s1 F=>
   cases R;obtain⟨m,z,i,_⟩:=I.list s1.sq;cases E with
   |non=>cases k;cases h;exact⟨SeqAt.RcAt.list_none i.isList f,SeqAt.RcNeAt.list_none i.isList f,SeqAt.EqAt.list_none i.isList f⟩
   |bl=>cases k;cases h;exact⟨SeqAt.RcAt.list_bool _ i.isList f,SeqAt.RcNeAt.list_bool _ i.isList f,SeqAt.EqAt.list_bool _ i.isList f⟩
   |int=>obtain⟨t,rfl⟩:=k;cases h;exact⟨SeqAt.RcAt.list_int _ _ i.isList f,SeqAt.RcNeAt.list_int _ _ i.isList f,SeqAt.EqAt.list_int _ _ i.isList f⟩
   |str=>obtain⟨t,rfl⟩:=k;cases h;exact⟨SeqAt.RcAt.list_str _ _ i.isList f,SeqAt.RcNeAt.list_str _ _ i.isList f,SeqAt.EqAt.list_str _ _ i.isList f⟩
   |tup r' o q=>
    cases k;cases h;obtain⟨g,w,B,_⟩:=I.tuple o;exact⟨SeqAt.RcAt.list_tuple i.isList B f,SeqAt.RcNeAt.list_tuple i.isList B f,SeqAt.EqAt.list_tuple i.isList B f⟩
   | @lst M vs2 P o q=>
    cases k;obtain⟨g,w,B,_⟩:=I.list o.sq;obtain⟨k1,k2⟩:=PN h;have Y:=W F q z w k1;have ez1:=zzH.trans<|z.length.symm.trans F.length;have ez2:=zzH.trans<|w.length.symm.trans q.length;have C:SeqAt.RcAt A s (.ref L) (.ref M) b/\SeqAt.RcNeAt A s (.ref L) (.ref M) (!b):=by
     by_cases hz:m.toArray.size=g.toArray.size
     . have U:=SeqAt.RcAt.lists i.isList B.isList hz f Y;have b2:=SeqAt.RcNeAt.lists i.isList B.isList hz f Y;have Z:(List.range m.toArray.size).all (HS (Wp n) N P)=b:=by
        rw[k2,<-ez1,<-ez2,<-hz,Nat.min_self];simp
       rw[Z]at U b2;exact⟨U,b2⟩
     . have hz':(m.toArray.size != g.toArray.size)=true:=by simpa using hz
       have Z:b=false:=by
        rw[k2,<-ez1,<-ez2];have:(m.toArray.size==g.toArray.size)=false:=by simpa using hz
        rw[this,Bool.and_false]
       rw[Z];exact⟨SeqAt.RcAt.lists_lengths i.isList B.isList hz' f,SeqAt.RcNeAt.lists_lengths i.isList B.isList hz' f⟩
    refine⟨C.1,C.2, ?_⟩
    by_cases Q:L=M
    . have hb:=G rfl rfl Q;subst Q;rw[hb];exact SeqAt.EqAt.same _
    . exact SeqAt.EqAt.of_refs Q C.1
   |_=>cases h
  |_=>cases h
end
structure DkAt(P:Program)(w:World)(h:Heap)(a:Addr)(kvs:List (Key×V)):Prop where
 le:kvs.length<=sizeLine
 ns:(a==sysModules)=false
 ex:∃vs,KV kvs vs/\h.DictOf (wZ P w) a vs
structure KdOk(X:Cx)(kd:KD):Prop where
 inj:∀a k k',kd a k->kd a k'->k=k'
 inK:∀a k,kd a k->∃o,X.K.lookup a=some o
 at_:∀a k h,kd a k->X.K.In h->DkAt X.prog X.w h a k
section
variable{X:Cx}{kd:KD}{pins:List (Addr×Obj)}{σ:St}{H:Hp}{s:Shared}{O:Addr->Prop}
def Nj(I:Inv X pins σ H s)(hk:KdOk X kd)(h:Rd H a (.dK kvs)\/kd a kvs):DkAt X.prog X.w s.heap a kvs:=by
 rcases h with h|h
 . obtain⟨z,hd,vs,rel,dd⟩:=AN I.hok h;exact⟨z,hd,vs,rel,dd⟩
 . exact hk.at_ _ _ _ h I.kIn
theorem S3(I:Inv X pins σ H s):∀(n:Nat) (v:V) (d e x:D) (b c:Bool),Vw X.K kd O H v d->Vw X.K kd O H v e->Wp n d x=some b->Wp n e x=some c->b=c
 |0,_,_,_,_,_,_,_,_,h,_=>by cases h
 |n+1,v,d,e,x,b,c,h1,h2,h,h'=>by
  have lst:∀vs (ds es xs:List D) (b c:Bool),RpL X.K kd O H vs ds->RpL X.K kd O H vs es->Om (Wp n) ds xs=some b->Om (Wp n) es xs=some c->b=c:=by
   intro vs
   induction vs with
   |nil=>intro ds es xs b c r1 r2 h h';cases r1;cases r2;exact zzY (h.symm.trans h')
   |cons v vs ih=>
    intro ds es xs b c r1 r2 h h';cases r1 with
    |cons a1 r1=>
     cases r2 with
     | cons a2 r2=>
            cases xs with
            |nil=>cases h;cases h';rfl
            |cons x xs=>
             obtain⟨b1,k1,h⟩:=bS_<|h;obtain⟨c1,k2,h⟩:=bS_ h;obtain⟨b2,k3,h'⟩:=bS_<|h';obtain⟨c2,k4,h'⟩:=bS_ h';cases h;cases h';rw[S3 I n _ _ _ _ _ _ a1.vw a2.vw k1 k3,ih _ _ _ _ _ r1 r2 k2 k4]
  cases h1 with
  |tup r1 s1 l1=>
   cases h2 with
   |tup r2 s2 l2=>
    have:=I.tuple_inj s1 s2;subst this;cases x with
    |tup xs=>exact lst _ _ _ _ _ _ l1 l2 h h'
    |_=>exact zzY (h.symm.trans h')
   |lst s2 l2=>exact(EU I s1 s2.sq).elim
   |_=>cases h'
  |lst s1 l1=>
   cases h2 with
   |tup r2 s2 l2=>exact(EU I s2 s1.sq).elim
   |lst s2 l2=>
    have:=I.list_inj s1.sq s2.sq;subst this;cases x with
    |lst xs=>exact lst _ _ _ _ _ _ l1 l2 h h'
    |_=>exact zzY (h.symm.trans h')
   |_=>cases h'
  |dct s1 l1=>cases h
  |cl=>cases h
  |ob=>cases h
  |_=>cases h2;exact zzY<|h.symm.trans h'
end
def Js:D->Option Key
 | .int i=>some<|.inl i
 | .str x=>some (.inr x)
 |_=>none
def KI(kvs:List (Key×D))(k:Key):Option D:=(kvs.find? λkv=>decide (kv.1=k)).map (·.2)
def K9{K O}(k)(h:RpM K kd O H vs ds):(∃v d,Ud vs k=some v/\KI ds k=some d/\Rp K kd O H v d)\/(Ud vs k=none/\KI ds k=none):=
 RpM.ind (P:=λvs ds=>(∃v d,Ud vs k=some v/\KI ds k=some d/\Rp K kd O H v d)\/(Ud vs k=none/\KI ds k=none)) (.inr ⟨rfl,rfl⟩) (λ{k' v d vs ds} a _ ih=>by
  by_cases e:k'=k
  . left;refine⟨_,_, ?_, ?_,a⟩
    . unfold Ud;simp[e]
    . unfold KI;simp[e]
  . rcases ih with⟨v,d,h1,h2,h3⟩|⟨h1,h2⟩
    . left;refine⟨v,d, ?_, ?_,h3⟩
      . unfold Ud at h1 ⊢;simpa[e]using h1
      . unfold KI at h2 ⊢;simpa[e]using h2
    . right;refine⟨?_, ?_⟩
      . unfold Ud at h1 ⊢;simpa[e]using h1
      . unfold KI at h2 ⊢;simpa[e]using h2) h
def anyF(f:D->Option Bool):List D->Option Bool
 | []=>some false
 |x::r=>(f x).bind λb=>(anyF f r).bind λc=>some (b||c)
def Ct(b:Bool):R0:=.im<|.bl b
def sk(x:D):D->Option Bool
 | .lst ys=>anyF (λy=>Wp 50 y x) ys
 | .tup ys=>anyF (λy=>Wp 50 y x) ys
 | .str y=>match x with | .str i=>some (!(Builtin.Str.occurrences y i 0 y.length 1).isEmpty)|_=>none
 | .dct kvs=>(Js x).bind λk=>some (KI kvs k).isSome
 |_=>none
def u6:D->D->Option Bool
 |d,.non=>some (match d with | .non=>true|_=>false)
 |d,.bl b=>match d with | .bl c=>some (c==b)|_=>some false
 |_,_=>none
def SM(f:Int->Int->Bool):D->D->Option R0:=CQ λi j=>some<|Ct<|f i j
def zp(o:CmpOp)(d e:D):Option R0:=match o with
 | .Eq=>(Wp 60 d e).bind λb=>some<|Ct b
 | .NotEq=>(Wp 60 d e).bind λb=>some<|Ct !b
 | .Lt=>SM (λi j=>decide (i<j)) d e
 | .LtE=>SM (λi j=>decide (i<=j)) d e
 | .Gt=>SM (λi j=>decide (j<i)) d e
 | .GtE=>SM (λi j=>decide (j<=i)) d e
 | .In=>(sk d e).bind λb=>some<|Ct b
 | .NotIn=>(sk d e).bind λb=>some<|Ct !b
 | .Is=>(u6 d e).bind λb=>some<|Ct b
 | .IsNot=>(u6 d e).bind λb=>some<|Ct !b
def Wq{o:Option Bool}{f:Bool->Bool}(h:(o.bind λb=>some<|Ct<|f b)=some r):∃k,r = .im (.bl k):=by
 obtain⟨b,_,h⟩:=bS_ h;cases h;exact⟨_,rfl⟩
def Rf(h:SM f x y=some r):∃k,r = .im (.bl k):=by
 obtain⟨i,_,h⟩:=bS_<|h;obtain⟨j,_,h⟩:=bS_ h;cases h;exact⟨_,rfl⟩
def O8(op:CmpOp)(x y:D)(r)(h:zp op x y=some r):∃k,r = .im (.bl k):=by
 cases op with
 |Eq=>exact Wq h
 |NotEq=>exact Wq h
 |Lt=>exact Rf h
 |LtE=>exact Rf h
 |Gt=>exact Rf h
 |GtE=>exact Rf h
 |In=>exact Wq h
 |NotIn=>exact Wq h
 |Is=>exact Wq h
 |IsNot=>exact Wq h
section
variable{X:Cx}{kd:KD}{pins:List (Addr×Obj)}{σ:St}{H:Hp}{s:Shared}{O:Addr->Prop}
noncomputable def ua(K:zzA)(kd:KD)(O:Addr->Prop)(H:Hp)(n:Nat)(x:D)(u:Value):Bool:=@decide (∃v d,RelV v u/\Rp K kd O H v d/\Wp n d x=some true)<|Classical.propDecidable _
def B5(I:Inv X pins σ H s)(hk:KdOk X kd){n:Nat}(r:RelV v u)(p:Rp X.K kd O H v d)(e:Wp n d x=some b):ua X.K kd O H n x u=b:=by
 cases b with
 |true=>exact @zyM _ (Classical.propDecidable _) ⟨v,d,r,p,e⟩
 |false=>
  refine @zyF _ (Classical.propDecidable _) λ⟨v',d',r',p',e'⟩=>?_;have:=r.inj r';subst this;exact Bool.noConfusion<|S3 I n _ _ _ _ _ _ p.vw p'.vw e e'
def Rw(I:Inv X pins σ H s)(hk:KdOk X kd){n:Nat}(hv:zM vs us)(h:RpL X.K kd O H vs ds)(e:anyF (λy=>Wp n y x) ds=some b):us.any (ua X.K kd O H n x)=b:=
 RpL.ind (P:=λvs ds=>∀us b,zM vs us->anyF _ ds=some b->us.any _=b) (λus b hv e=>by cases e;cases hv;rfl) (λ{v d vs ds} a _ ih us b hv h=>by
  cases hv with
  |cons r t=>
   obtain⟨b1,h1,h⟩:=bS_<|h;obtain⟨c1,h2,h⟩:=bS_ h;cases h;rw[List.any_cons,B5 I hk r a h1,ih _ _ t h2]) h us b hv e
theorem Wa:∀{ds:List D}{b:Bool},anyF f ds=some b->∀d ∈ ds,∃c,f d=some c
 | [],_,_,d,hd=>by simp at hd
 |x::r,b,h,d,hd=>by
  obtain⟨b1,h1,h⟩:=bS_<|h;obtain⟨c1,h2,h⟩:=bS_ h
  rcases zzC.mp hd with e|e
  . subst e;exact⟨b1,h1⟩
  . exact Wa h2 d e
def Rk(I:Inv X pins σ H s)(hk:KdOk X kd){n:Nat}(hu:A.units+n<cLine)(vx:Vw X.K kd O H x d)(rx:RelV x v)(hv:zM vs us)(h:RpL X.K kd O H vs ds)(k:∀e ∈ ds,∃c,Wp n e d=some c):∀u ∈ us,SeqAt.EqAt A s u v (ua X.K kd O H n d u):=
 RpL.ind (P:=λvs ds=>∀us,zM vs us->(∀e ∈ ds,∃c,Wp n e d=some c)->∀u ∈ us,SeqAt.EqAt A s u v<|ua X.K kd O H n d u) (λus hv _ u hu=>by cases hv;simp at hu) (λa q ih us hv h u hm=>by
  cases hv with
  |cons r t=>
   rcases zzC.mp hm with e|e
   . subst e;obtain⟨c,hc⟩:=h _ zzF;rw[B5 I hk r a hc];exact(K7 I n A _ _ _ _ _ _ _ hu a.vw vx r rx hc).eq
   . exact ih _ t (λe he=>h e<|zzD _ he) u e) h us hv k
def PV(vx:Vw X.K kd O H x d)(rx:RelV x v)(e:u6 d (.bl b)=some c)(h:Q c s):wpAny (model X.prog X.w) A (isSame v<|.bool b) Q E s:=by
 cases vx with
 |non=>cases rx;cases e;exact zxC h
 |bl k=>
  cases rx;cases e;refine zxC ?_;cases k<;>cases b<;>exact h
 |int=>obtain⟨t,rfl⟩:=rx;cases e;exact zxC h
 |str=>obtain⟨t,rfl⟩:=rx;cases e;exact zxC h
 |tup=>cases rx;cases e;exact zxC h
 |lst=>cases rx;cases e;exact zxC h
 |dct=>cases rx;cases e;exact zxC h
 |cl=>cases rx;cases e;exact zxC h
 |ob=>cases rx;cases e;exact zxC h
def Hr(hk:KdOk X kd)(hu:X.A.units+100<cLine)(op):Al X kd (compareOp op) (zp op):=by
 intro pins s σ H x y v u Q I rx ry h;obtain⟨O,d,e,r,ht,vx,vy,he,q⟩:=h;cases op with
 |Eq=>
  obtain⟨b,h1,he⟩:=bS_<|he;cases he;exact(K7 I 60 X.A x y d e v u b (by omega) vx vy rx ry h1).rc _ _ _ _ (xC I (zU q<|.bl _) rfl)
 |NotEq=>
  obtain⟨b,h1,he⟩:=bS_<|he;cases he;exact(K7 I 60 X.A x y d e v u b (by omega) vx vy rx ry h1).ne _ _ _ _ (xC I (zU q<|.bl _) rfl)
 |Lt=>
  obtain⟨i,j,rfl,rfl,he⟩:=Yc vx vy he;cases he;exact A3 pins s σ H _ _ v u Q I rx ry ⟨_,_,rfl,rfl,zU q<|.bl _⟩
 |LtE=>
  obtain⟨i,j,rfl,rfl,he⟩:=Yc vx vy he;cases he;exact AV pins s σ H _ _ v u Q I rx ry ⟨_,_,rfl,rfl,zU q<|.bl _⟩
 |Gt=>
  obtain⟨i,j,rfl,rfl,he⟩:=Yc vx vy he;cases he;exact D0 pins s σ H _ _ v u Q I rx ry ⟨_,_,rfl,rfl,zU q<|.bl _⟩
 |GtE=>
  obtain⟨i,j,rfl,rfl,he⟩:=Yc vx vy he;cases he;exact Av pins s σ H _ _ v u Q I rx ry ⟨_,_,rfl,rfl,zU q<|.bl _⟩
 |In=>
  obtain⟨b,h1,he⟩:=bS_<|he;cases he;cases vy with
  |lst hs rl=>
   cases ry;obtain⟨its,rv,p,_⟩:=I.list hs.sq;refine SeqAt.in_listAt _ p.isList (λw hw=>Rk I hk (by show X.A.units+1+50<cLine;omega) vx rx rv rl (Wa h1) w<|by simpa using hw) ?_;have:=Rw I hk rv rl h1;rw[show its.toArray.any _=b by rw[<-this];simp];exact xC (I) (zU q<|.bl _) rfl
  |tup rp hs rl=>
   cases ry;obtain⟨its,rv,p,_⟩:=I.tuple hs;refine SeqAt.in_tupleAt _ p (λw hw=>Rk I hk (by show X.A.units+1+50<cLine;omega) vx rx rv rl (Wa h1) w<|by simpa using hw) ?_;have:=Rw I hk rv rl h1;rw[show its.toArray.any _=b by rw[<-this];simp];exact xC (I) (zU q<|.bl _) rfl
  |str z=>
   cases vx with
   |str i=>cases h1;exact Bu pins s σ H _ _ v u Q I rx ry ⟨_,_,rfl,rfl,zU q<|.bl _⟩
   |_=>cases h1
  |dct hs rm=>
   cases ry;obtain⟨k,k1,h1⟩:=bS_ h1;cases h1;obtain⟨z,hd,vs,rel,dd⟩:=Nj I hk hs;have ek:x=kV k:=by
    cases vx with
    |int i=>cases k1;rfl
    |str i=>cases k1;rfl
    |_=>cases k1
   subst ek;refine wpAny_in_of (Sg rx) hd dd.mapOf ?_;rw[<-(rel.val k).isSome_eq]
   rcases K9 k rm with⟨v1,d1,e1,e2,_⟩|⟨e1,e2⟩
   . rw[e1];rw[e2]at q;exact xC (I.tok _) (zU q<|.bl _) rfl
   . rw[e1];rw[e2]at q;exact xC (I.tok _) (zU q<|.bl _) rfl
  |_=>cases h1
 |NotIn=>
  obtain⟨b,h1,he⟩:=bS_<|he;cases he;cases vy with
  |lst hs rl=>
   cases ry;obtain⟨its,rv,p,_⟩:=I.list hs.sq;refine SeqAt.notIn_listAt _ p.isList (λw hw=>Rk I hk (by show X.A.units+1+50<cLine;omega) vx rx rv rl (Wa h1) w<|by simpa using hw) ?_;have:=Rw I hk rv rl h1;rw[show its.toArray.any _=b by rw[<-this];simp];exact xC (I) (zU q<|.bl _) rfl
  |tup rp hs rl=>
   cases ry;obtain⟨its,rv,p,_⟩:=I.tuple hs;refine SeqAt.notIn_tupleAt _ p (λw hw=>Rk I hk (by show X.A.units+1+50<cLine;omega) vx rx rv rl (Wa h1) w<|by simpa using hw) ?_;have:=Rw I hk rv rl h1;rw[show its.toArray.any _=b by rw[<-this];simp];exact xC (I) (zU q<|.bl _) rfl
  |str z=>
   cases vx with
   |str i=>cases h1;exact KF pins s σ H _ _ v u Q I rx ry ⟨_,_,rfl,rfl,zU q<|.bl _⟩
   |_=>cases h1
  |dct hs rm=>
   cases ry;obtain⟨k,k1,h1⟩:=bS_ h1;cases h1;obtain⟨z,hd,vs,rel,dd⟩:=Nj I hk hs;have ek:x=kV k:=by
    cases vx with
    |int i=>cases k1;rfl
    |str i=>cases k1;rfl
    |_=>cases k1
   subst ek;refine wpAny_notIn_of (Sg rx) hd dd.mapOf ?_;rw[<-(rel.val k).isSome_eq]
   rcases K9 k rm with⟨v1,d1,e1,e2,_⟩|⟨e1,e2⟩
   . rw[e1];rw[e2]at q;exact xC (I.tok _) (zU q<|.bl _) rfl
   . rw[e1];rw[e2]at q;exact xC (I.tok _) (zU q<|.bl _) rfl
  |_=>cases h1
 |Is=>
  obtain⟨b,h1,he⟩:=bS_<|he;cases he;cases vy with
  |non=>
   refine JW pins s σ H _ _ v u Q I rx ry ⟨rfl, ?_⟩;have:decide (x=V.non)=b:=by cases vx<;>(cases h1;rfl)
   rw[this];exact zU q (.bl b)
  |bl c=>
   cases ry;exact zxB (PV vx rx h1<|zxC<|xC I (zU q<|.bl _) rfl)
  |_=>cases h1
 |IsNot=>
  obtain⟨b,h1,he⟩:=bS_<|he;cases he;cases vy with
  |non=>
   refine OG pins s σ H _ _ v u Q I rx ry ⟨rfl, ?_⟩;have:decide (x=V.non)=b:=by cases vx<;>(cases h1;rfl)
   rw[this];exact zU q (.bl _)
  |bl c=>
   cases ry;exact zxB (PV vx rx h1<|zxC<|xC I (zU q<|.bl _) rfl)
  |_=>cases h1
end
def EM{K kd O H vs ds i d}(r:RpL K kd O H vs ds)(h:atI ds i=some d):∃v,atI vs i=some v/\Rp K kd O H v d:=by
 unfold atI at ⊢;obtain⟨j,a,b⟩:=bS_ h;rw[r.length,a];exact r.get b
def Hw(o:Option D):Option R0:=o.bind λd=>some<|.im d
def yj(x y:D):Option R0:=match x with
 | .lst xs=>(FX y).bind λi=>Hw<|atI xs i
 | .tup xs=>(FX y).bind λi=>Hw<|atI xs i
 | .str x=>(FX y).bind λi=>if x.length<=sizeLine then(atI x.cps.toList i).bind λc=>some (.im<|.str ⟨#[c]⟩)else none
 | .dct kvs=>(Js y).bind λk=>Hw (KI kvs k)
 |_=>none
def PZ(h:Hw o=some r):∃d,o=some d/\r = .im d:=by
 obtain⟨d,a,b⟩:=bS_<|h;cases b;exact⟨d,a,rfl⟩
section
variable{X:Cx}{kd:KD}
def IQ{K O H x d k}(vx:Vw K kd O H x d)(e:Js d=some k):x=kV k:=by
 cases vx with
 |int i=>cases e;rfl
 |str i=>cases e;rfl
 |_=>cases e
def uM(hk:KdOk X kd):se X kd yj:=by
 intro b f g s σ H x y v u Q I A B h C;obtain⟨O,d,e,r,U,P,D,a,q⟩:=h;cases P with
 |lst m E=>
  obtain⟨i,n,a⟩:=bS_<|a;obtain⟨rfl,rfl⟩:=Y0 D n;obtain⟨d,l,rfl⟩:=PZ a;obtain⟨w,p,j⟩:=EM E l;exact Cd b f g s σ H _ _ v u Q I A B ⟨_,_,_,w,rfl,rfl,m.sq,p,zU q j⟩ C
 |tup J m E=>
  obtain⟨i,n,a⟩:=bS_<|a;obtain⟨rfl,rfl⟩:=Y0 D n;obtain⟨d,l,rfl⟩:=PZ a;obtain⟨w,p,j⟩:=EM E l;exact Ip b f g s σ H _ _ v u Q I A B ⟨_,_,_,w,rfl,rfl,m,p,zU q j⟩ C
 |str z=>
  obtain⟨i,n,a⟩:=bS_<|a;obtain⟨rfl,rfl⟩:=Y0 D n;obtain⟨R,a⟩:=ite_some' a;obtain⟨c,l,a⟩:=bS_ a;cases a;exact Iu b f g s σ H _ _ v u Q I A B ⟨_,_,c,rfl,rfl,R,l,zU q<|.str _⟩ C
 |dct m S=>
  obtain⟨k,l,a⟩:=bS_<|a;obtain⟨d,K,rfl⟩:=PZ a;cases A;obtain⟨z,V,T,G,L⟩:=Nj I hk m;have:=IQ D l;subst this
  rcases K9 k S with⟨M,W,N,t,J⟩|⟨N,t⟩
  . rw[K]at t;cases t;obtain⟨Y,p,j⟩:=Qt.some_of (by rw[<-N];exact G.val k);exact tail_any L.typeIs PySem.F.slot_dict_getitem.lookup (wpAny_getItem_of (Sg B) L.mapOf p ⟨M,H,I.tok _,j,zU q J⟩) C
  . rw[K]at t;cases t
 |_=>cases a
def cutD(xs:List D)(lo hi:Option Int):List D:=(xs.drop<|HT.sIx xs.length 0 lo).take<|HT.sIx xs.length xs.length hi-HT.sIx xs.length 0 lo
def Et{K O H vs ds}(r:RpL K kd O H vs ds)(lo hi):RpL K kd O H (Bi vs lo hi) (cutD ds lo hi):=by
 unfold Bi;rw[r.length];exact(r.drop _).take _
def LY(x:D)(lo hi:Option Int):Option R0:=match x with
 | .lst xs=>some<|.fl<|cutD xs lo hi
 | .tup xs=>if HT.sIx xs.length 0 lo=0/\HT.sIx xs.length xs.length hi=xs.length then none else some (.im<|.tup<|cutD xs lo hi)
 |_=>none
abbrev OF:=AS->Option (Option Int×AS)
def oN:OF:=λas=>some (none,as)
def oS(f:EF):OF:=λas=>(f as).bind λp=>(tQ p.1).bind λi=>some (some i,p.2)
def Ga(fa:EF)(fl fh:OF)(g:D->Option Int->Option Int->Option R0):EF:=λas=>(fa as).bind λp=>(fl p.2).bind λl=>(fh l.2).bind λh=>(p.1.frz.view h.2).bind λx=>(g x.1 l.1 h.1).bind λr=>(wrap x.2 r).bind λz=>some (z,h.2)
def sJ(K:zzA)(kd:KD)(f:OF):TO:=λσ H Q=>∃F B ad as o as',Rel K kd F B [] ad as σ H/\f as=some (o,as')/\
 ∀ad' H',Rel K kd F B [] ad' as' σ H'->Grow (Gw [] ad) H (Gw [] ad') H'->Q o H'
@[irreducible] def AO(X:Cx)(kd:KD)(e:Option Expr)(f:OF):Prop:=PO X e<|sJ X.K kd f
def Sn(h:PO X e t)(k:∀σ H Q,t' σ H Q->t σ H Q):PO X e t':=λa s σ H Q I q=>h a s σ H Q I<|k σ H Q q
def Ln:AO X kd none oN:=by with_unfolding_all exact(Sn Od λσ H Q h=>by
 obtain⟨F,B,a,as,o,b,R,e,q⟩:=h;cases e;exact q a H R Grow.refl)
def Je{K F B T ad σ H v st c}(h:xu K kd F B T ad σ H v (.ow<|.lf st<|.int c)):T=[]/\v = .int c:=by
 cases h with
 |lf a=>cases a;exact ⋯
def Wx{a fa}(ha:AE X kd a fa):AO X kd (some a) (oS fa):=by with_unfolding_all exact(Sn (OO ha) λσ H Q h=>by
 obtain⟨F,B,d,as,o,f,R,e,q⟩:=h;obtain⟨⟨p,g⟩,j,e⟩:=bS_<|e;obtain⟨i,k,e⟩:=bS_ e;obtain⟨r,rfl⟩:=JX k;cases e;refine⟨F,B,d,as,_,_,R,j,λv s b l m c n=>?_⟩;obtain⟨rfl,rfl⟩:=Je c;exact⟨i,rfl,q b l m n⟩)
def uz:uf X (λx lo hi H Q=>∃O d r,(∀a,O a->H a≠none)/\Vw X.K kd O H x d/\LY d lo hi=some r/\RQ X.K kd O H Q r):=by
 intro b s σ H x v j k e f l Q I m n o p h;obtain⟨O,d,r,t,u,c,q⟩:=h;cases u with
 |lst i g=>cases c;exact Hx b s σ H _ v j k e f l Q I m n o p ⟨_,_,rfl,i.sq,K_ q<|Et g e f⟩
 |tup y i g=>
  have c:(if _ then none else some _:Option R0)=_:=c
  split at c
  . cases c
  . rename_i w;cases c;exact Ig b s σ H _ v j k e f l Q I m n o p ⟨_,_,rfl,i,by rw[g.length];exact w,KM t q<|Et g e f⟩
 |_=>cases c
def Qi{a lo hi fa fl fh pos p2}(ha:AE X kd a fa)(hl:AO X kd lo fl)(hh:AO X kd hi fh):AE X kd (.Subscript a (.Slice lo hi none p2) pos) (Ga fa fl fh LY):=by with_unfolding_all exact(yp (Sd uz ha hl hh) λσ H Q h=>by
 obtain⟨F,B,O,as,r,s,R,e,q⟩:=h;obtain⟨⟨p,c⟩,t,e⟩:=bS_<|e;obtain⟨⟨l,b⟩,x,e⟩:=bS_ e;obtain⟨⟨u,y⟩,A,e⟩:=bS_ e;obtain⟨⟨d,P⟩,C,e⟩:=bS_ e;obtain⟨D,E,e⟩:=bS_ e;obtain⟨z,G,e⟩:=bS_ e;cases e;refine Ym R t λv f S I g J=>⟨F,B,f,c,l,b,I,x,λi T R2 n=>⟨F,B,i,b,u,_,R2,A,λj U k o=>?_⟩⟩;exact⟨_,d,D,k.tr _,xu.vw k ((g.grow n).grow o) C,E,WR k G λw K L M m N=>q w K j L M m<|((J.trans n).trans o).trans N⟩)
def NS:D->Option R0
 | .int i=>some (.im<|.int (-i))
 |_=>none
def ui:tX X kd (unaryOp .USub) NS:=by
 intro a s σ H x v Q I c h;obtain⟨O,d,r,f,e,b,q⟩:=h;cases e with
 |int i=>cases b;exact Jq a s σ H _ v Q I c ⟨i,rfl,zU q<|.int _⟩
 |_=>cases b
def ID:D->String
 | .non=>"NoneType" | .bl _=>"bool" | .int _=>"int" | .str _=>"str" | .tup _=>"tuple" | .lst _=>"list" | .dct _=>"dict"|_=>""
def M0:D->Bool
 | .cl _=>false | .ob _ _ _=>false|_=>true
def Kf(t c:String):Bool:=t==c||(t=="bool"&&c=="int")
def V_(c:String):Bool:=c=="int"||c=="bool"||c=="str"||c=="list"||c=="tuple"||c=="dict"
def IZ(K)(d)(c)(h:V_ c=true)(ho:M0 d=true):W.kitOne K (.type<|ID d) (.type c)=some (Kf (ID d) c):=by
 have:c="int"\/c="bool"\/c="str"\/c="list"\/c="tuple"\/c="dict":=by
  unfold V_ at h;simp at h
  rcases h with((((h|h)|h)|h)|h)|h<;>simp[h]
 rcases this with rfl|rfl|rfl|rfl|rfl|rfl<;>cases d<;>first|rfl|cases ho
def JN(hk:KdOk X kd){pins σ H s O A E Q c x u d}(I:Inv X pins σ H s)(rx:RelV x u)(vx:Vw X.K kd O H x d)(hc:V_ c=true)(ho:M0 d=true)
 (h:∀tk,Q (.bool<|Kf (ID d) c) {s with toks:=tk}):wpAny (model X.prog X.w) A (call (.builtin "isinstance") [u,.type c]) Q E s:=by
 have e:=IZ X.K d c hc ho;cases vx with
 |non=>cases rx;exact W.kia_one W.kitx_none I.kIn True.intro e ⋯ h
 |bl y=>cases rx;exact W.kia_one W.kitx_bool I.kIn True.intro e ⋯ h
 |int i=>obtain⟨t,rfl⟩:=rx;exact W.kia_one W.kitx_int I.kIn True.intro e ⋯ h
 |str y=>obtain⟨t,rfl⟩:=rx;exact W.kia_one W.kitx_str I.kIn True.intro e ⋯ h
 |lst a j=>
  cases rx;obtain⟨g,k,⟨o,n,b,f,_⟩,_⟩:=I.list a.sq;exact W.kia_one W.kitx_list I.kIn ⟨o,b,f⟩ e ⋯ h
 |tup m a j=>
  cases rx;obtain⟨g,k,⟨o,b,f,_⟩,_⟩:=I.tuple a;exact W.kia_one W.kitx_tuple I.kIn ⟨o,b,f⟩ e ⋯ h
 |dct a p=>
  cases rx;obtain⟨z,q,r,l,⟨o,v,B,b,f,_⟩⟩:=Nj I hk a;exact W.kia_one W.kitx_dict I.kIn ⟨o,b,f.1⟩ e ⋯ h
 |cl=>cases ho
 |ob=>cases ho
end
def vH:List D->Option (List Int)
 | []=>some []
 | .int i::r=>(vH r).bind λs=>some (i::s)
 |_::_=>none
def Dp:List Int->Int
 | []=>0
 |x::r=>r.foldl (λa b=>if a<b then b else a) x
def Dc:List Int->Int
 | []=>0
 |x::r=>r.foldl (λa b=>if b<a then b else a) x
theorem Ki:∀(r:List Int) (x:Int),r.foldl (λa b=>if a<b then b else a) x ∈ x::r/\∀a ∈ x::r,a<=r.foldl (λa b=>if a<b then b else a) x
 | [],x=>⋯
 |y::r,x=>by
  rw[List.foldl_cons];obtain⟨h1,h2⟩:=Ki r _;refine⟨?_,λa ha=>?_⟩
  . rcases zzC.mp h1 with e|e
    . rw[e];split<;>simp
    . exact zzD _<|zzD _ e
  . have h3:=h2 _ zzF
    rcases zzC.mp ha with e|e
    . subst e;exact Int.le_trans ⋯ h3
    . rcases zzC.mp e with e|e
      . subst e;exact Int.le_trans ⋯ h3
      . exact h2 a<|zzD _ e
theorem Kn:∀(r:List Int) (x:Int),r.foldl (λa b=>if b<a then b else a) x ∈ x::r/\∀a ∈ x::r,r.foldl (λa b=>if b<a then b else a) x<=a
 | [],x=>⋯
 |y::r,x=>by
  rw[List.foldl_cons];obtain⟨h1,h2⟩:=Kn r _;refine⟨?_,λa ha=>?_⟩
  . rcases zzC.mp h1 with e|e
    . rw[e];split<;>simp
    . exact zzD _<|zzD _ e
  . have h3:=h2 _ zzF
    rcases zzC.mp ha with e|e
    . subst e;exact Int.le_trans h3 ⋯
    . rcases zzC.mp e with e|e
      . subst e;exact Int.le_trans h3 ⋯
      . exact h2 a<|zzD _ e
def Ou(h1:M ∈ ns)(h2:∀a ∈ ns,a<=M):Dp ns=M:=by
 cases ns with
 |nil=>simp at h1
 |cons x r=>
  obtain⟨k1,k2⟩:=Ki r x;have a1:=k2 M h1;have a2:=h2 _ k1;show r.foldl _ x=M;omega
def OX(h1:M ∈ ns)(h2:∀a ∈ ns,M<=a):Dc ns=M:=by
 cases ns with
 |nil=>simp at h1
 |cons x r=>
  obtain⟨k1,k2⟩:=Kn r x;have a1:=k2 M h1;have a2:=h2 _ k1;show r.foldl _ x=M;omega
def um(f:D->Option R0)(ds:List D):Option R0:=match ds with
 | [x]=>f x
 |_=>none
def S0{K O}(vl:VwL K kd O H xs ds)(h:um f ds=some r):∃x d,xs=[x]/\Vw K kd O H x d/\f d=some r:=by
 cases vl with
 |nil=>cases h
 |cons a b=>
  cases b with
  |nil=>exact⟨_,_,rfl,a,h⟩
  |cons _ _=>cases h
def tw:D->Option R0
 | .lst ds=>some<|.im<|.int ds.length
 | .tup ds=>some<|.im<|.int ds.length
 | .str x=>if x.length<=sizeLine then some (.im<|.int x.length)else none
 | .dct kvs=>some (.im<|.int kvs.length)
 |_=>none
def yx:List D->Option R0:=um tw
def tupP:List D->Option R0
 | [.lst ds]=>some<|.im<|.tup ds
 | [.tup ds]=>some (.im<|.tup ds)
 |_=>none
def Li(ds:List D):Option R0:=match ds with
 | [x,y]=>CQ (λi j=>some<|.im<|.int (if j > i then j else i)) x y
 | [x]=>(Dk x).bind λds=>(vH ds).bind λns=>if 0<ns.length then some (.im<|.int<|Dp ns)else none
 |_=>none
def K1:List D->Option R0
 | [.int i,.int j]=>some<|.im<|.int (if j<i then j else i)
 | [.lst ds]=>(vH ds).bind λns=>if 0<ns.length then some (.im<|.int<|Dc ns)else none
 |_=>none
def Sb:List D->Option R0
 | [.int i]=>some (.im<|.int (if i<0 then -i else i))
 |_=>none
def Ri{K O}(h:VwL K kd O H xs [d]):∃x,xs=[x]/\Vw K kd O H x d:=by
 cases h with
 |cons a b=>cases b;exact⟨_,rfl,a⟩
def On{K O}(h:VwL K kd O H xs [d,e]):∃x y,xs=[x,y]/\Vw K kd O H x d/\Vw K kd O H y e:=by
 cases h with
 |cons a b=>
  cases b with
  |cons b c=>cases c;exact⟨_,_,rfl,a,b⟩
def Nu{K O}(h:RpL K kd O H vs ds)(e:vH ds=some ns):vs=ns.map V.int:=
 RpL.ind (P:=λvs ds=>∀ns,vH ds=some ns->vs=ns.map V.int) (λns e=>by cases e;rfl) (λ{v d vs ds} a _ ih ns e=>by
  cases d with
  |int i=>
   obtain⟨s,h1,h2⟩:=bS_<|e;cases h2;cases a;rw[ih _ h1];rfl
  |_=>cases e) h ns e
section
variable{X:Cx}{kd:KD}
def xV(hk:KdOk X kd):Vv X kd (.builtin "len") yx:=by
 intro pins s σ H xs us Q I r h;obtain⟨O,ds,z,ht,vl,he,q⟩:=h;obtain⟨x,d,rfl,vx,he⟩:=S0 vl he;cases vx with
 |lst hr rl=>cases he;exact Qq pins s σ H _ us Q I r ⟨_,_,rfl,.inl hr.sq,by rw[rl.length];exact zU q<|.int _⟩
 |tup rp hr rl=>cases he;exact Qq pins s σ H _ us Q I r ⟨_,_,rfl,.inr hr,by rw[rl.length];exact zU q<|.int _⟩
 |str y=>
  obtain⟨c,rfl⟩:=zB he;exact KG pins s σ H _ us Q I r ⟨_,rfl,c,zU q<|.int _⟩
 |dct hr rm=>
  cases he;obtain⟨u,rfl,ru⟩:=vals1 r;cases ru;obtain⟨z,hd,vs,rel,dd⟩:=Nj I hk hr;refine call_len_dict hd dd (by rw[<-rel.length];rw[sizeLine_eq]at z;omega) ?_;rw[<-rel.length,rm.length];exact⟨.int _,H,I.tok _,⟨_,rfl⟩,zU q<|.int _⟩
 |_=>cases he
def Bq:Vv X kd (.type "tuple") tupP:=by
 intro pins s σ H xs us Q I r h;obtain⟨O,ds,z,ht,vl,he,q⟩:=h;unfold tupP at he
 split at he
 . cases he;obtain⟨x,rfl,vx⟩:=Ri vl;cases vx with
   |lst hr rl=>exact Vf pins s σ H _ us Q I r ⟨_,_,rfl,.inl ⟨hr.sq,KM ht q rl⟩⟩
 . cases he;obtain⟨x,rfl,vx⟩:=Ri vl;cases vx with
   |tup rp hr rl=>exact Vf pins s σ H _ us Q I r ⟨_,_,rfl,.inr ⟨hr,zU q rp⟩⟩
 . cases he
def FE:Vv X kd (.builtin "abs") Sb:=by
 intro pins s σ H xs us Q I r h;obtain⟨O,ds,z,ht,vl,he,q⟩:=h;unfold Sb at he
 split at he
 . cases he;obtain⟨x,rfl,vx⟩:=Ri vl;cases vx;exact S6 pins s σ H _ us Q I r ⟨_,rfl,zU q<|.int _⟩
 . cases he
def QP(hc:X.calm=true):Vv X kd (.builtin "max") Li:=by
 intro pins s σ H xs us Q I r h;obtain⟨O,ds,z,ht,vl,he,q⟩:=h;cases vl with
 |nil=>cases he
 |cons vx vl=>
  cases vl with
  |nil=>
   obtain⟨ds,h0,he⟩:=bS_<|he;cases Kz h0;obtain⟨ns,h1,he⟩:=bS_ he;obtain⟨c,rfl⟩:=zB he;cases vx with
   |lst hr rl=>
    obtain⟨u,rfl,ru⟩:=vals1 r;cases ru;obtain⟨its,rv,p,_⟩:=I.list hr.sq;rw[Nu rl h1]at rv;have hi:=intsAre_of rv;obtain⟨ys,e⟩:=hi.allInts.items;have hns:ns=ys.toList.map (·.1):=by rw[<-hi.numsOf,<-nums_intItems,<-e]
    have hsz:0<ys.size:=by
     have h3:=c;rwa [hns,zzB]at h3
    have hl:=p.isList;rw[e]at hl;refine max_intList (I.ok.hd hc) hl hsz λv h' tk hv kp=>?_;obtain⟨t,rfl⟩:=intItems_at hv;obtain⟨k1,k2⟩:=argBest_gt (numAt ys)<|ys.size-1;refine⟨.int _,H,I.kept kp,⟨t, ?_⟩,zU q<|.int _⟩
    congr 1
    refine(Ou ?_ λa ha=>?_).symm
    . rw[hns,numAt_eq];have hlt:argBest (λi j=>decide (numAt ys i > numAt ys j)) (ys.size-1)<(ys.toList.map (·.1)).length:=by rw[zzB,zyR];omega
      rw[zyE,zzE hlt];exact zyW hlt
    . rw[hns]at ha;obtain⟨j,hj,rfl⟩:=List.getElem_of_mem ha;have hj':=hj;rw[zzB,zyR]at hj;have:=k2 j ⋯
      rwa [numAt_eq ys j,zyE,zzE hj']at this
  |cons vy vl=>
   cases vl with
   |nil=>
    obtain⟨i,j,rfl,rfl,he⟩:=Yc vx vy he;cases he;exact Bj hc pins s σ H _ us Q I r ⟨_,_,rfl,zU q<|.int _⟩
   |cons _ _=>cases he
def FP(hc:X.calm=true):Vv X kd (.builtin "min") K1:=by
 intro pins s σ H xs us Q I r h;obtain⟨O,ds,z,ht,vl,he,q⟩:=h;unfold K1 at he
 split at he
 . cases he;obtain⟨x,y,rfl,vx,vy⟩:=On vl;cases vx;cases vy;exact Bm hc pins s σ H _ us Q I r ⟨_,_,rfl,zU q<|.int _⟩
 . obtain⟨ns,h1,he⟩:=bS_ he;obtain⟨c,rfl⟩:=zB he;obtain⟨x,rfl,vx⟩:=Ri vl;cases vx with
   |lst hr rl=>
    obtain⟨u,rfl,ru⟩:=vals1 r;cases ru;obtain⟨its,rv,p,_⟩:=I.list hr.sq;rw[Nu rl h1]at rv;have hi:=intsAre_of rv;obtain⟨ys,e⟩:=hi.allInts.items;have hns:ns=ys.toList.map (·.1):=by rw[<-hi.numsOf,<-nums_intItems,<-e]
    have hsz:0<ys.size:=by
     have h3:=c;rwa [hns,zzB]at h3
    have hl:=p.isList;rw[e]at hl;refine min_intList (I.ok.hd hc) hl hsz λv h' tk hv kp=>?_;obtain⟨t,rfl⟩:=intItems_at hv;obtain⟨k1,k2⟩:=argBest_lt (numAt ys)<|ys.size-1;refine⟨.int _,H,I.kept kp,⟨t, ?_⟩,zU q<|.int _⟩
    congr 1
    refine(OX ?_ λa ha=>?_).symm
    . rw[hns,numAt_eq];have hlt:argBest (λi j=>decide (numAt ys i<numAt ys j)) (ys.size-1)<(ys.toList.map (·.1)).length:=by rw[zzB,zyR];omega
      rw[zyE,zzE hlt];exact zyW hlt
    . rw[hns]at ha;obtain⟨j,hj,rfl⟩:=List.getElem_of_mem ha;have hj':=hj;rw[zzB,zyR]at hj;have:=k2 j ⋯
      rwa [numAt_eq ys j,zyE,zzE hj']at this
 . cases he
end
def ZS(env:Env):List (Str×NameKind)->List (Str×Addr)->List (Str×Addr)
 | [],cs=>cs
 |(n,k)::r,cs=>ZS env r (if k == .free then((n,(env.cells.lookup n).getD 0)::cs)else cs)
def Vd(h:∀x ∈ scope.names,x.2 = .free->∃c,env.cells.lookup x.1=some c):closureFor scope env=pure (ZS env scope.names []):=by
 have s:∀b i f,
  (∀d g i,f (d,g) i=if g == .free then(do let a <-cellOf env d;pure (.yield ((d,a)::i)))else pure<|.yield i)->
  (∀x ∈ b,x.2 = .free->∃c,env.cells.lookup x.1=some c)->(forIn b i f:Sem _)=pure (ZS env b i):=by
  intro b
  induction b with
  |nil=>intro i f _ _;rfl
  |cons x r p=>
   intro i f l m;obtain⟨n,k⟩:=x;rw[List.forIn_cons,l];unfold ZS
   by_cases j:(k == .free)=true
   . obtain⟨c,q⟩:=m _ zzF (by simpa using j);rw[if_pos j,if_pos j];have e:cellOf env n=pure c:=by unfold cellOf;rw[q]
     rw[e,q];exact p _ f l λy o=>m y<|zzD _ o
   . rw[if_neg j,if_neg j];exact p _ f l λy o=>m y<|zzD _ o
 simp only[closureFor];rw[s scope.names [] _ (λd g i=>?_) h]
 . rfl
 . rfl
theorem Kp:∀(names:List (Str×NameKind)) (cs:List (Str×Addr)) (p:Str×Addr),p ∈ ZS env names cs->p ∈ cs\/((p.1,NameKind.free) ∈ names/\p.2=(env.cells.lookup p.1).getD 0)
 | [],_,_,h=>.inl h
 |(n,k)::r,b,p,h=>by
  rcases Kp r _ p h with h|h
  . by_cases a:(k == .free)=true
    . rw[if_pos a]at h
      rcases zzC.mp h with e|h
      . subst e;have:k = .free:=by simpa using a
        subst this;exact .inr ⟨zzF,rfl⟩
      . exact .inl h
    . rw[if_neg a]at h;exact .inl h
  . exact .inr ⟨zzD _ h.1,h.2⟩
theorem Ph:∀(names:List (Str×NameKind)) (cs:List (Str×Addr)) (p:Str×Addr),p ∈ cs->p ∈ ZS env names cs
 | [],_,_,h=>h
 |_::r,a,p,h=>by
  refine Ph r _ p ?_
  split
  . exact zzD _ h
  . exact h
theorem GB:∀(names:List (Str×NameKind)) (cs:List (Str×Addr)) (x:Str),(x,NameKind.free) ∈ names->(x,(env.cells.lookup x).getD 0) ∈ ZS env names cs
 |_::r,a,x,h=>by
  rcases zzC.mp h with e|h
  . cases e;exact Ph r _ _ ⋯
  . exact GB r _ x h
theorem Yi:∀{l:List (Str×α)},(∀p ∈ l,p.1=x->p.2=a)->(∃b,(x,b) ∈ l)->l.lookup x=some a
 | [],_,h=>by obtain⟨_,h⟩:=h;cases h
 |(k,v)::r,u,h=>by
  rw[List.lookup_cons];cases hb:x==k with
  |true=>
   have:=u _ zzF (beq_iff_eq.mp hb).symm;exact congrArg some this
  |false=>
   refine Yi (λp c=>u p<|zzD _ c) ?_;obtain⟨b,h⟩:=h
   rcases zzC.mp h with e|h
   . cases e;simp at hb
   . exact⟨b,h⟩
theorem Q2:∀(names:List (Str×NameKind)) (h:Heap) (acc:List (Str×Addr)) (p:Str×Addr),p ∈ cellsFrom h.objs.size names acc->
 p ∈ acc\/((p.1,NameKind.cell) ∈ names/\(pushCells h names).IsCell p.2 none/\h.objs.size<=p.2)
 | [],_,_,_,m=>.inl m
 |(n,k)::r,h,b,p,m=>by
  unfold cellsFrom at m;unfold pushCells
  split at m
  . rename_i a;rw[if_pos a];have e:(h.push {cls:=.type "cell",data:=.cell none}).objs.size=h.objs.size+1:=zxH ..;rw[<-e]at m
    rcases Q2 r _ _ p m with m|⟨c,d,f⟩
    . rcases zzC.mp m with g|m
      . subst g;have:k = .cell:=by simpa using a
        subst this;refine .inr ⟨zzF, ?_,zzN _⟩;have z:(h.push {cls:=.type "cell",data:=.cell none}).IsCell h.objs.size none:=⟨_,zxF _ rfl,rfl⟩;exact z.keeps<|pushCells_keeps r _
      . exact .inl m
    . exact .inr ⟨zzD _ c,d,by rw[e]at f;omega⟩
  . rename_i a;rw[if_neg a]
    rcases Q2 r h b p m with m|⟨c,d,f⟩
    . exact .inl m
    . exact .inr ⟨zzD _ c,d,f⟩
theorem YJ:∀(names:List (Str×NameKind)) (n:Nat) (acc:List (Str×Addr)) (p:Str×Addr),p ∈ acc->p ∈ cellsFrom n names acc
 | [],_,_,_,m=>m
 |_::r,n,a,p,m=>by
  unfold cellsFrom
  split
  . exact YJ r _ _ p<|zzD _ m
  . exact YJ r _ _ p m
theorem Ui:∀(names:List (Str×NameKind)) (n:Nat) (acc:List (Str×Addr)) (x:Str),(x,NameKind.cell) ∈ names->∃c,(x,c) ∈ cellsFrom n names acc
 |_::r,n,a,x,m=>by
  unfold cellsFrom
  rcases zzC.mp m with e|m
  . cases e;exact⟨n,YJ r _ _ _ zzF⟩
  . split
    . exact Ui r _ _ x m
    . exact Ui r _ _ x m
theorem Q4:∀(names:List (Str×NameKind)) (n:Nat) (acc:List (Str×Addr)),(∀p ∈ acc,p.2<n)->(∀p ∈ acc,∀q ∈ acc,p.2=q.2->p.1=q.1)->∀p ∈ cellsFrom n names acc,∀q ∈ cellsFrom n names acc,p.2=q.2->p.1=q.1
 | [],_,_,_,h=>h
 |_::r,n,c,b,h=>by
  unfold cellsFrom
  split
  . refine Q4 r _ _ (λp m=>?_) λp m q a e=>?_
    . rcases zzC.mp m with z|m
      . subst z;exact Nat.lt_succ_self _
      . exact zyX<|b p m
    . rcases zzC.mp m with z|m
      . rcases zzC.mp a with d|a
        . rw[z,d]
        . subst z;have:=b q a;rw[<-e]at this;exact absurd this ⋯
      . rcases zzC.mp a with d|a
        . subst d;have:=b p m;rw[e]at this;exact absurd this ⋯
        . exact h p m q a e
  . exact Q4 r n c b h
section
variable{M:Model}{A:Around}{E:Value->Shared->Prop}{s:Shared}
def XO(scope:Scope)(env:Env)(cl:List (Str×Addr))(L:Addr):Env:=
 {scope:=relabel scope env,locals:=L,globals:=env.globals,cells:=cellsFrom (L+1) scope.names cl,qual:=env.qual,func:=none,code:=env.code,frame:=env.frame,builtins:=env.builtins}
def KQ
 (h:∀h' env',{env' with scope:=relabel scope env}=XO scope env cl s.heap.objs.size->env'.locals=s.heap.objs.size->(∀b o,s.heap.get? b=some o->h'.get? b=some o)->h'.Ns s.heap.objs.size (λ_=>none)->
  (∀p ∈ cellsFrom (s.heap.objs.size+1) scope.names cl,p ∈ cl\/((p.1,NameKind.cell) ∈ scope.names/\h'.IsCell p.2 none/\s.heap.objs.size+1<=p.2))->Q env' {s with heap:=h'}):
 wpAny M A (newFunctionEnv scope env.globals cl [] env.qual none .none<|some env) Q E s:=by
 simp only[newFunctionEnv,Option.isSome_some,if_true];refine zxB<|wpAny_alloc ?_;refine zxB<|wpAny_layCells _ ⋯ _ _ _ _ ?_;have e:(s.heap.push {cls:=.type "dict",data:=.dict #[]}).objs.size=s.heap.objs.size+1:=zxH ..;refine zxB<|zxC<|zxC<|h _ _ ?_ rfl (λb o q=>pushCells_keeps _ _ b o<|zxD _ q) ((Heap.Ns.new s.heap _).keeps<|pushCells_keeps _ _) λp m=>?_
 . unfold XO;rw[<-e]
 . rw[<-e]at m
   rcases Q2 _ _ _ p m with m|⟨g,i,f⟩
   . exact .inl m
   . exact .inr ⟨g,i,by rwa [e]at f⟩
end
abbrev yu(X:Cx)(N:List Str)(scope:Scope)(cl:List (Str×Addr))(s:Shared)(H:Hp)(fp:List Addr):Cx:=
 {X with N:=N,s₀:=s,H₀:=H,env:=XO scope X.env cl<|s.heap.objs.size+1,outer:=X.stack,ex:=fp,fn:=λx=>scope.names.lookup x==some .cell,pn:=[],xe:=λ_ _=>False}
def DI(σ:St):Option Nat->Option V
 |none=>none
 |some j=>(σ[j]?).getD none
def vZ(cap:List (Option Nat))(σ:St):St:=cap.map<|DI σ
def V4(N XN:List Str)(names:List (Str×NameKind))(envNames:List (Str×NameKind))(cap:List (Option Nat)):Bool:=
 N.length==cap.length&&(N.zip cap).all (λp=>match p.2 with|none=>true|some j=>XN[j]? == some p.1&&names.contains (p.1,NameKind.free)) &&
 names.all (λp=>p.2 != .free||envNames.lookup p.1==some .cell||envNames.lookup p.1==some .free)&&decide (names.map (·.1)).Nodup
def Bx(X:Cx)(ifs:List Expr)(t:TT):Prop:=
 ∀(pins:List (Addr×Obj)) (s:Shared) (σ:St) (H:Hp) (Q:Bool->Hp->Prop),Inv X pins σ H s->t σ H Q->
  wpAny (model X.prog X.w) X.A (forIn ifs true λc r=>if r=true then do let ok <-isTrue c X.env (eval c X.env);pure (ForInStep.yield ok)else pure<|ForInStep.yield r) (TP X pins σ Q) X.xe s
def Cc:Bx X [] (λ_ H Q=>Q true H):=λa s σ H Q I h=>wpAny_tests_nil ⟨H,I,h⟩
def Cp(h:PT X c t):Bx X [c] t:=λa s σ H Q I q=>wpAny_tests_one<|h a s σ H Q I q
def So(wi:TI)(cap:List (Option Nat))(g:TG)(tt:TT)(te:TE):TE:=λσ H Q=>wi σ H λJ H1=>∃W:Nat->Nat->List V->Hp->Prop,(∃m,W 0 m [] H1)/\∀i m ys H,W i m ys H->ys.length<=sizeLine/\
 ((J.stop i H/\∀p,H p=none->Q (.ref p) (upd H p<|.lst ys))\/(J.go i H/\∀x H',J.yld i H x H'->g x (vZ cap σ) H' λσ2 H2=>(∀(j:Nat) v,(vZ cap σ)[j]? = some (some v)->σ2[j]? = some (some v))/\
   tt σ2 H2 λb H3=>if b=true then ys.length<sizeLine/\te σ2 H3 λy H4=>∃m',m'<m/\W (i+1) m' (ys++[y]) H4 else ∃m',m'<m/\W (i+1) m' ys H3))
section
variable{prog:Program}{w:World}{A:Around}{E:Value->Shared->Prop}{R:Result->Shared->Prop}{s:Shared}
def LH(I:Nat->Shared->Prop)
 (turn:∀n s (E:Value->Shared->Prop),I n s->wpAny (model prog w) A (pyNext it) (λr s₁=>match r with
  |none=>R (.ok .next) s₁
  |some v=>wpAny (model prog w) A (letOwnedTupleGo target it v) (λ_ s₁=>wpAny (model prog w) A (assign target env v) (λ_ s₂=>
   wpAny (model prog w) A (forIn ifs true λc r=>if r=true then do let ok <-isTrue c env (eval c env);pure (ForInStep.yield ok)else pure<|ForInStep.yield r) (λok s₃=>
            if ok=true then wpAny (model prog w) A (eval elt env) (λx s₄=>
             wpAny (model prog w) A (call (.builtin "list.append") [acc,x]) (λ_ s₅=>∃m,m<n/\I m s₅) E s₄) E s₃
            else ∃m,m<n/\I m s₃) E s₂) E s₁) E s₁) E s)
 (n:Nat) (h:I n s):
 codeAny (model prog w) A (.compLoop (.ListComp elt [⟨target,iter,ifs,0⟩] scope pos) 0 it acc env) R s:=by
 refine codeAny_loop rfl I (λn s e=>?_) n h;refine wpAny_noted ?_;rw[compTurn_list];refine zxB<|wpAny_standAt<|zxB<|zxI (turn n s _ e) (λr f b=>?_) λ_ _ a=>a;cases r with
 |none=>exact zxC b
 |some v=>
  refine zxB<|zxI b (λ_ f b=>?_) λ_ _ a=>a;refine zxB<|zxI b (λ_ k g=>zxB<|zxI g (λok l d=>?_) λ_ _ a=>a) λ_ _ a=>a;cases ok with
  |false=>exact zxC ⟨rfl,d⟩
  |true=>
   exact zxB<|zxB<|zxI d (λx o i=>zxB<|zxI i (λ_ p j=>zxC<|zxC ⟨rfl,j⟩) λ_ _ a=>a) λ_ _ a=>a
end
structure CapOk(N XN:List Str)(names:List (Str×NameKind))(envNames:List (Str×NameKind))(cap:List (Option Nat)):Prop where
 len:N.length=cap.length
 at_:∀(i:Nat) x (j:Nat),N[i]? = some x->cap[i]? = some (some j)->XN[j]? = some x/\(x,NameKind.free) ∈ names
 fr:∀p ∈ names,p.2 = .free->envNames.lookup p.1=some .cell\/envNames.lookup p.1=some .free
 nd:(names.map (·.1)).Nodup
def Nk(h:V4 N XN names envNames cap=true):CapOk N XN names envNames cap:=by
 unfold V4 at h;simp only[zyB,beq_iff_eq,List.all_eq_true,decide_eq_true_eq]at h;obtain⟨⟨⟨a,b⟩,c⟩,d⟩:=h;refine⟨a,λi x j f g=>?_,λp k e=>?_,d⟩
 . have m:(x,some j) ∈ N.zip cap:=zzZ (by rw[List.getElem?_zip_eq_some];exact⟨f,g⟩);have:=b _ m;simp at this;exact ⋯
 . have:=c p k;rw[e]at this;simpa using this
def La{names:List (Str×NameKind)}(h:(names.map (·.1)).Nodup)(m:(x,k) ∈ names)(m':(x,k') ∈ names):k=k':=by
 induction names with
 |nil=>cases m
 |cons p r ih=>
  obtain⟨h1,h2⟩:=zzV.mp<|h
  rcases zzC.mp m with e|m
  . rcases zzC.mp m' with e'|m'
    . rw[<-e]at e';cases e';rfl
    . exact absurd (zyZ.mpr ⟨_,m',by rw[<-e]⟩) h1
  . rcases zzC.mp m' with e'|m'
    . exact absurd (zyZ.mpr ⟨_,m,by rw[<-e']⟩) h1
    . exact ih h2 m m'
def QN{names:List (Str×NameKind)}(h:(names.map (·.1)).Nodup)(m:(x,k) ∈ names):names.lookup x=some k:=
 Yi (λp a e=>by cases(e);exact La h a m) ⟨k,m⟩
def Wn(x):(relabel scope env).names.lookup x=(scope.names.lookup x).map λk=>if(k == .free&&env.scope.kind == .function&&env.kindOf x==some .cell)=true then NameKind.cell else k:=by
 unfold relabel;generalize scope.names=a
 induction a with
 |nil=>rfl
 |cons p r b=>
  obtain⟨n,k⟩:=p;rw[List.lookup_cons];cases hb:x==n with
  |true=>
   have e:=beq_iff_eq.mp hb;subst e;show List.lookup x ((if _=true then _ else _)::_)=_;show _=some (if _=true then NameKind.cell else k)
   split
   . rw[List.lookup_cons,hb]
   . rw[List.lookup_cons,hb]
  |false=>
   show List.lookup x ((if _=true then _ else _)::_)=_
   split
   . rwa [List.lookup_cons,hb]
   . rwa [List.lookup_cons,hb]
def MH(I:Inv X pins σ H s)(C:CapOk N X.N scope.names X.env.scope.names cap)(hk:scope.kind = .function)
 (hf:∀b ∈ fp,U2 X pins H b) (ho:∀b ∈ fp,∃o,s.heap.get? b=some o)
 (old:∀b o,s.heap.get? b=some o->h'.get? b=some o) (ns:h'.Ns (s.heap.objs.size+1) (λ_=>none))
 (hc:∀p ∈ cellsFrom (s.heap.objs.size+1+1) scope.names (ZS X.env scope.names []),p ∈ ZS X.env scope.names []\/((p.1,NameKind.cell) ∈ scope.names/\h'.IsCell p.2 none/\s.heap.objs.size+1+1<=p.2)):
 Inv (yu X N scope (ZS X.env scope.names []) s H fp) [] (vZ cap σ) H {s with heap:=h'}:=by
 have has:∀x,(x,NameKind.free) ∈ scope.names->∃c,X.env.cells.lookup x=some c:=λx m=>I.ok.has x<|C.fr _ m rfl;have clo:∀p ∈ ZS X.env scope.names [],X.env.cells.lookup p.1=some p.2/\(p.1,NameKind.free) ∈ scope.names:=λp m=>by
  rcases Kp _ _ p m with z|⟨z1,z2⟩
  . cases z
  . obtain⟨c,e⟩:=has _ z1;rw[e]at z2;exact⟨by rw[e];exact congrArg some z2.symm,z1⟩
 have look:∀x c,(cellsFrom _ scope.names _).lookup x=some c->_\/_:=λx c e=>by
  rcases hc _ (mem_of_lookup e)with m|m
  . exact .inl<|clo _ m
  . exact .inr m
 have lt:∀x c,X.env.cells.lookup x=some c->c<s.heap.objs.size:=λx c e=>by obtain⟨v,z⟩:=I.cell x c e;exact z.lt
 have lookF:∀x,(x,NameKind.free) ∈ scope.names->∃c,(cellsFrom _ scope.names _).lookup x=some c/\X.env.cells.lookup x=some c:=λx m=>by
  obtain⟨c,e⟩:=has x m;have m1:=YJ scope.names (s.heap.objs.size+1+1) _ _<|GB (env:=X.env) scope.names [] x m;refine⟨c,Yi (λp hp ep=>?_) ⟨_,m1⟩,e⟩
  rcases hc p hp with z|z
  . have:=(clo p z).1;rw[ep,e]at this;exact(zzY this).symm
  . rw[ep]at z;exact absurd (La C.nd z.1 m) (by decide)
 have kinds:∀x,((relabel scope X.env).names.lookup x=some .cell\/(relabel scope X.env).names.lookup x=some .free)->(x,NameKind.free) ∈ scope.names\/(x,NameKind.cell) ∈ scope.names:=λx h=>by
  rw[Wn]at h;cases e:scope.names.lookup x with
  |none=>rw[e]at h;rcases h with h|h<;>cases h
  |some k=>
   have m:=mem_of_lookup e;cases k with
   |free=>exact .inl m
   |cell=>exact .inr m
   |_=>rw[e]at h;rcases h with h|h<;>(simp at h)
 have lsz:=ns.lt;refine⟨⟨I.ok.mod,hk,I.ok.glob,I.ok.blt,zyU _, ?_, ?_, ?_,I.ok.hd,I.ok.frames,.inl rfl, ?_,I.bs,zzO I.ok.bsz I.sz, ?_, ?_,I.stack,I.stkFree⟩,rfl,I.bare,(Un.kept old),⟨_,ns, ?_⟩, ?_,I.hok.fresh<|zyU _, ?_,(λ_ z=>nomatch z),I.hok.kept old, ?_⟩
 . intro x y c e1 e2;refine Q4 scope.names _ _ (λp m=>?_) (λp m q m' e=>?_) (x,c) (mem_of_lookup e1) (y,c) (mem_of_lookup e2) rfl
   . exact zyX<|zyX<|lt _ _ (clo p m).1
   . refine I.ok.inj _ _ _ (clo p m).1 ?_;rw[e];exact(clo q m').1
 . intro x h
   rcases kinds x h with m|m
   . obtain⟨c,e,_⟩:=lookF x m;exact⟨c,e⟩
   . obtain⟨c,e⟩:=Ui scope.names _ _ x m;cases q:(cellsFrom _ scope.names _).lookup x with
     |some c'=>exact⟨c',q⟩
     |none=>
      exfalso;have:=List.lookup_eq_none_iff.mp q (x,c) e;simp at this
 . intro x c hx e;have hx:=hx;have m:=mem_of_lookup<|beq_iff_eq.mp hx
   rcases look x c e with z|z
   . exact absurd (La C.nd z.2 m) (by decide)
   . exact zzO (zzO (zyU _)<|zyU _) z.2.2
 . intro b hb;obtain⟨o,e⟩:=ho b hb;refine⟨zzQ<|zyX<|zxE e,λx c ec=>?_⟩
   rcases look x c ec with z|z
   . exact(hf b hb).2.2.2.2.1 x c z.1
   . have:=zxE e;intro q;subst q;exact absurd (zzK this<|zzO (zzO (zyU _)<|zyU _) z.2.2)<|Nat.lt_irrefl _
 . intro b o e hb
   rcases(hf b hb).2.2.2.1 with z|z
   . exact I.ok.noex b o e z
   . exact absurd (zzK (zxE e)<|zzO I.ok.bsz z)<|Nat.lt_irrefl _
 . intro b hb hm
   rcases zzC.mp (I.stkSub b hm)with z|z
   . exact(hf b hb).2.1 z
   . exact(hf b hb).2.2.1 z
 . intro i x v e1 e2 e3;have e2:=e2;unfold vZ at e2;rw[zzI]at e2;cases ec:cap[i]? with
   |none=>rw[ec]at e2;cases e2
   |some c=>
    cases c with
    |none=>rw[ec]at e2;cases e2
    |some j=>
     rw[ec]at e2;have e2:(σ[j]?).getD none=some v:=zzY e2;obtain⟨xn,m⟩:=C.at_ i x j e1 ec;have es:σ[j]? = some (some v):=by
      cases q:σ[j]? with
      |none=>rw[q]at e2;cases e2
      |some y=>rw[q]at e2;exact congrArg some e2
     have kf:=C.fr _ m rfl;obtain⟨mm,hn,hl⟩:=I.loc;obtain⟨u,r,l⟩:=hl j x v xn es (by rcases kf with k|k;exact .inr<|.inl k;exact .inr<|.inr k);refine⟨u,r,.inr ⟨?_, ?_⟩⟩
     . show(relabel scope X.env).names.lookup x=some .cell\/(relabel scope X.env).names.lookup x=some .free;rw[Wn,QN C.nd m];show some (if _ then _ else _)=_\/some (if _ then _ else _)=_
       split
       . exact .inl rfl
       . exact .inr rfl
     . obtain⟨c,ec,eo⟩:=lookF x m;refine⟨c,ec, ?_⟩
       rcases l with⟨k1,_⟩|⟨_,c2,e4,z⟩
       . have k1:X.env.scope.names.lookup x=some .local:=k1
         rcases kf with k|k<;>(rw[k1]at k;cases k)
       . rw[eo]at e4;cases e4;exact z.keeps old
 . intro x c e
   rcases look x c e with z|z
   . obtain⟨v,q⟩:=I.cell x c z.1;exact⟨v,q.keeps old⟩
   . exact⟨none,z.2.1⟩
 . intro x c e
   rcases look x c e with z|z
   . exact I.freeC x c z.1
   . exact I.hok.fresh<|zzO (zzO (zyU _)<|zyU _) z.2.2
 . show _=_;unfold vZ;rw[zzB,C.len]
abbrev lobj(its:List Value):Obj:={cls:=.type "list",data:=.seq its.toArray its.length}
section
variable{X:Cx}{pins:List (Addr×Obj)}{σ:St}{H2:Hp}{s2:Shared}{elt tg iter:Expr}{ifs:List Expr}{scope:Scope}{pos:Pos}{N:List Str}{cap:List (Option Nat)}{g:TG}{tt:TT}{te:TE}{wi:TI}
set_option maxHeartbeats 1000000
def RX{Q:VK}{R:Value->Addr->Result->Shared->Prop}
 (hc:X.calm=true) (C:CapOk N X.N scope.names X.env.scope.names cap) (hk:scope.kind = .function)
 (hg:∀cl s H fp,PG (yu X N scope cl s H fp) tg g) (ht:∀cl s H fp,Bx (yu X N scope cl s H fp) ifs tt) (he:∀cl s H fp,PE (yu X N scope cl s H fp) elt te)
 (I2:Inv X pins σ H2 s2) (T:Turn X.prog X.w X.K tg J fp it tn) (st2:tn 0 s2.heap) (f2:∀b ∈ fp,U2 X pins H2 b)
 (W:Nat->Nat->List V->Hp->Prop) (m0:Nat) (w0:W 0 m0 [] H2)
 (turn:∀i m ys H,W i m ys H->ys.length<=sizeLine/\((J.stop i H/\∀p,H p=none->Q (.ref p) (upd H p<|.lst ys))\/(J.go i H/\∀x H',J.yld i H x H'->g x (vZ cap σ) H' λσ2 H2=>(∀(j:Nat) v,(vZ cap σ)[j]? = some (some v)->σ2[j]? = some (some v))/\
  tt σ2 H2 λb H3=>if b=true then ys.length<sizeLine/\te σ2 H3 λy H4=>∃m',m'<m/\W (i+1) m' (ys++[y]) H4 else ∃m',m'<m/\W (i+1) m' ys H3)))
 (fin:∀ys H3 s1 m,Inv X pins σ (upd H3 s2.heap.objs.size<|.lst ys) s1->s1.heap.Ns (s2.heap.objs.size+1) m->U2 X pins (upd H3 s2.heap.objs.size<|.lst ys) (s2.heap.objs.size+1)->
  Q (.ref s2.heap.objs.size) (upd H3 s2.heap.objs.size<|.lst ys)->R (.ref s2.heap.objs.size) (s2.heap.objs.size+1) (.ok .next) s1):
 wpAny (model X.prog X.w) X.A (newList []) (λacc s₃=>wpAny (model X.prog X.w) X.A (newFunctionEnv scope X.env.globals (ZS X.env scope.names []) [] X.env.qual none .none<|some X.env) (λcenv s₄=>
  codeAny (model X.prog X.w) X.A (.compStart (.ListComp elt [⟨tg,iter,ifs,0⟩] scope pos) 0 (.ref it) acc {cenv with scope:=relabel scope X.env}) (R acc cenv.locals) s₄) E s₃) E s2:=by
 refine wpAny_newObj_type<|KQ λh' env' eE eL old hns hcells=>?_;have e1:(s2.heap.push {cls:=.type "list",dict:=none,data:=.seq ([]:List Value).toArray}).objs.size=s2.heap.objs.size+1:=zxH ..;dsimp only at eE eL old hns hcells;rw[e1]at eE eL hns hcells;have hD0:(s2.heap.push {cls:=.type "list",dict:=none,data:=.seq ([]:List Value).toArray}).get? s2.heap.objs.size=some (lobj []):=zxF _ rfl;have hD:=old _ _ hD0;have old':∀b o,s2.heap.get? b=some o->h'.get? b=some o:=λb o q=>old b o<|zxD _ q;have fex:∀b ∈ fp,∃o,s2.heap.get? b=some o:=λb hb=>by obtain⟨o,e,_⟩:=T.obj _ _ st2 b hb;exact⟨o,e⟩
 have flt:∀b ∈ fp,b<s2.heap.objs.size:=λb hb=>by obtain⟨o,e⟩:=fex b hb;exact zxE e
 have I':=MH I2 C hk f2 fex old' hns hcells;rw[eE,eL];generalize hX:yu X N scope (ZS X.env scope.names []) s2 H2 fp=X' at I';have xP:X'.prog=X.prog:=by rw[<-hX]
 have xw:X'.w=X.w:=by rw[<-hX]
 have xK:X'.K=X.K:=by rw[<-hX]
 have xA:X'.A=X.A:=by rw[<-hX]
 have xe:X'.env=XO scope X.env (ZS X.env scope.names []) (s2.heap.objs.size+1):=by rw[<-hX]
 have xL:X'.env.locals=s2.heap.objs.size+1:=by rw[xe];rfl
 have xfs:X'.fs=By X.stack:=by rw[<-hX]
 have xex:X'.ex=fp:=by rw[<-hX]
 have xs:X'.s₀=s2:=by rw[<-hX]
 have xH:X'.H₀=H2:=by rw[<-hX]
 have xpn:X'.pn=[]:=by rw[<-hX]
 have xc:X'.calm=true:=by rw[<-hX];exact hc
 have xE:X'.xe=λ_ _=>False:=by rw[<-hX]
 have hg':PG X' tg g:=by rw[<-hX];exact hg _ _ _ _
 have ht':Bx X' ifs tt:=by rw[<-hX];exact ht _ _ _ _
 have he':PE X' elt te:=by rw[<-hX];exact he _ _ _ _
 have H2D:=I2.hok.fresh<|zzN _;have Dfs:s2.heap.objs.size ∉ X'.fs:=by
  rw[xfs];intro hm
  rcases zzC.mp (I2.stkSub _ hm)with z|z
  . exact absurd I2.lt (by rw[<-z];exact Nat.lt_irrefl _)
  . exact I2.nofs (zzN _) z
 have DL:s2.heap.objs.size≠X'.env.locals:=by rw[xL];exact zzQ<|Nat.lt_succ_self _
 have pinD:∀{σ':St}{H':Hp}{s':Shared}{its:List Value}{ps:List (Addr×Obj)},Inv X' ps σ' H' s'->s'.heap.get? s2.heap.objs.size=some (lobj its)->H' s2.heap.objs.size=none->Inv X' [(s2.heap.objs.size,lobj its)] σ' H' s':=λI e n=>
  I.pins_of λp hp=>by
   cases zzR.mp hp;exact⟨e,n,DL,Dfs,λv z=>by cases z⟩
 have stat:∀{H':Hp}{its:List Value},(∀b ∈ fp,H' b=none)->∀b ∈ fp,U2 X' [(s2.heap.objs.size,lobj its)] H' b:=λhn b hb=>by
  refine⟨hn b hb, ?_, ?_,.inl (by rw[xex];exact hb),(I'.ok.exf b<|by rw[xex];exact hb).2,λp hp=>?_⟩
  . exact(I'.ok.exf b<|by rw[xex];exact hb).1
  . exact I'.ok.exfs b (by rw[xex];exact hb)
  . rw[xpn,List.nil_append]at hp;cases zzR.mp hp;exact Nat.ne_of_gt<|flt b hb
 have loop:∀n s',(∃i ys its H3,Inv X' [(s2.heap.objs.size,lobj its)] (vZ cap σ) H3 s'/\tn i s'.heap/\(∀b ∈ fp,H3 b=none)/\zM ys its/\W i n ys H3)->
  codeAny (model X.prog X.w) X.A (.compLoop (.ListComp elt [⟨tg,iter,ifs,0⟩] scope pos) 0 (.ref it) (.ref s2.heap.objs.size)<|XO scope X.env (ZS X.env scope.names [])<|s2.heap.objs.size+1)
   (R (.ref s2.heap.objs.size)<|s2.heap.objs.size+1) s':=by
  intro n s' h0;refine LH (λn s'=>∃i ys its H3,Inv X' [(s2.heap.objs.size,lobj its)] (vZ cap σ) H3 s'/\tn i s'.heap/\(∀b ∈ fp,H3 b=none)/\zM ys its/\W i n ys H3) ?_ n h0;clear h0 n s'
  rintro n s3 E' ⟨i,ys,its,H3,I3,st3,fr3,rv3,w3⟩
  obtain⟨hz,hstep⟩:=turn i n ys H3 w3
  rcases hstep with⟨stop,qn⟩|⟨go,step⟩
  . have:=T.done X' xP xw xK xc i _ s3 _ H3 E' I3 (stat fr3) st3 stop;rw[xA]at this;refine zxI this (λr s4 ⟨hr,I4⟩=>?_) λ_ _ z=>z;subst hr;obtain⟨gD,nD,_⟩:=I4.pin (s2.heap.objs.size,lobj its) (by rw[xpn];simp);obtain⟨m,hn,_⟩:=I4.loc;rw[xL]at hn;have b4:=I4.base;rw[xfs,xex,xH,xs]at b4;have nL:H3 (s2.heap.objs.size+1)=none:=by have:=I4.free;rw[xL]at this;exact this
    have neD:∀b o,s2.heap.get? b=some o->b≠s2.heap.objs.size:=λb o e=>zzQ<|zxE e;have neH:∀b u,H2 b=some u->b≠s2.heap.objs.size:=λb u e z=>by rw[z,H2D]at e;cases e
    have ne3:∀b u,H3 b=some u->b≠s2.heap.objs.size:=λb u e z=>by rw[z,nD]at e;cases e
    have hok4:=I4.hok;rw[xP,xw]at hok4;refine fin ys H3 s4 m (I2.call' ?_ ⟨b4.keep,b4.slot,λb o e n hx=>?_,b4.there,λb xs e=>?_,λb o u e=>?_,λb ps e=>?_⟩ ?_ I4.bare λb hb=>?_) hn (I2.fpOk (zyU _)<|by rw[zH<|Nat.ne_of_gt<|Nat.lt_succ_self _];exact nL)<|qn _ nD
    . have:=I4.os;rw[xs]at this;exact this
    . rw[zH<|neD b o e];exact b4.free b o e n hx
    . rw[zH<|neH b _ e];exact b4.tups b xs e
    . rw[zH<|neH b _ e];exact b4.frzs b o u e
    . rw[zH<|neH b _ e];exact b4.tbls b ps e
    . intro b u e
      by_cases hb:b=s2.heap.objs.size
      . subst hb;rw[yn]at e;cases e;exact⟨hz,its,its.length,rv3,gD⟩
      . rw[zH hb]at e;exact(hok4 b u e).stay (λc v _ q=>q) (λc q=>by rw[zH<|ne3 c _ q];exact q) λc xs q=>by rw[zH<|ne3 c _ q];exact q
    . obtain⟨f0,f1,f3,f4,f5,f6⟩:=f2 b hb;exact⟨f4,f1,f5,f6⟩
  . have:=T.item X' xP xw xK xc i _ s3 _ H3 E' I3 (stat fr3) st3 go;rw[xA]at this;refine zxI this (λr s4 ⟨u,hr,h4⟩=>?_) λ_ _ z=>z;subst hr;refine zxI h4 (λ_ s5 ⟨x,H5,I5,r5,y5,st5,fr5⟩=>?_) λ_ _ z=>z;have I5':=I5.pinned (stat fr5)<|T.obj _ _ st5;have h6:=hg' _ s5 _ H5 x u _ I5' r5<|step x H5 y5;rw[xP,xw,xA,xe,xE]at h6;refine zxI h6 (λ_ s6 ⟨σ6,H6,I6,cap6,q6⟩=>?_) λ_ _ z=>z.elim;have h7:=ht' _ s6 σ6 H6 _ I6 q6;rw[xP,xw,xA,xe,xE]at h7;refine zxI h7 (λb s7 ⟨H7,I7,q7⟩=>?_) λ_ _ z=>z.elim;have keep:∀{H8:Hp}{s8:Shared},Inv X' _ σ6 H8 s8->Inv X' [(s2.heap.objs.size,lobj its)] (vZ cap σ) H8 s8/\tn (i+1) s8.heap/\∀b ∈ fp,H8 b=none:=λ{H8 s8} I8=>by
     refine⟨I8.unpinned.weak ?_ cap6,T.keep _ _ _ st5 λb hb o e=>(I8.pin (b,o)<|zzL _<|zzL _<|YR hb e).1,λb hb=>?_⟩
     . rw[I3.len];exact I8.len.symm
     . obtain⟨o,e,d⟩:=T.obj _ _ st5 b hb;exact(I8.pin (b,o)<|zzL _<|zzL _<|YR hb e).2.1
    cases b with
    |false=>
     obtain⟨m',hm,w7⟩:=q7;obtain⟨k1,k2,k3⟩:=keep I7;exact⟨m',hm,i+1,ys,its,H7,k1,k2,k3,rv3,w7⟩
    |true=>
     obtain⟨hz2,q7⟩:=q7;have h8:=he' _ s7 σ6 H7 _ I7 q7;rw[xP,xw,xA,xe,xE]at h8;refine zxI h8 (λyv s8 ⟨y,H8,I8,ry,m',hm,w8⟩=>?_) λ_ _ z=>z.elim;obtain⟨k1,k2,k3⟩:=keep I8;obtain⟨gD,nD,_⟩:=k1.pin (s2.heap.objs.size,lobj its) (by rw[xpn];simp);have hl:=rv3.length;refine append_at gD (λh9 sb gD9=>?_) (by rw[zzH];omega);have I9:=(k1.pins_of (pins':=[]) (λ_ z=>nomatch z)).turned (t':=s8.toks) (λb o hb e=>(sb.2 b hb).trans e) nD DL (.inr<|by rw[xs];exact zzN _) (λx c ec z=>by
      obtain⟨v,o,ho,hd⟩:=k1.cell x c ec;rw[z,gD]at ho;cases ho;cases hd) (λp hp=>by rw[xpn]at hp;cases hp)
     have gD9':h9.get? s2.heap.objs.size=some (lobj<|its++[yv]):=by
      rw[gD9]
      congr 1
      show({cls:=.type "list",data:=.seq _ _}:Obj)={cls:=.type "list",data:=.seq (its++[yv]).toArray (its++[yv]).length};rw[zzJ,List.length_singleton,List.push_toArray]
     refine⟨m',hm,i+1,ys++[y],its++[yv],H8,pinD I9 gD9' nD,T.keep _ _ _ k2 λb hb o e=>(sb.2 b<|zzQ<|flt b hb).trans e,k3,rv3.append<|.cons ry .nil,w8⟩
 have start:∃i ys its H3,Inv X' [(s2.heap.objs.size,lobj its)] (vZ cap σ) H3 {s2 with heap:=h'}/\tn i h'/\(∀b ∈ fp,H3 b=none)/\zM ys its/\W i m0 ys H3:=
  ⟨0,[],[],H2,pinD I' hD H2D,T.keep _ _ _ st2 λb hb o e=>old' b o e,λb hb=>(f2 b hb).1,.nil,w0⟩
 exact codeAny_compStart_list (loop m0 _ start)<|T.self _ 0 _ _ _ (T.keep _ _ _ st2 λb hb o e=>old' b o e)<|loop m0 _ start
def Ot(hc:X.calm=true)(hi:PI X tg iter wi)(hk:scope.kind = .function)(hcap:V4 N X.N scope.names X.env.scope.names cap=true)
 (hg:∀cl s H fp,PG (yu X N scope cl s H fp) tg g) (ht:∀cl s H fp,Bx (yu X N scope cl s H fp) ifs tt) (he:∀cl s H fp,PE (yu X N scope cl s H fp) elt te)
 (hs:∀x,foldedSetIterable iter X.env x=pure x):PE X (.ListComp elt [⟨tg,iter,ifs,0⟩] scope pos) (So wi cap g tt te):=by
 intro a s σ H Q I h;have C:=Nk hcap;refine wpAny_comprehension_free rfl hs (Vd λx m e=>I.ok.has x.1<|C.fr x m e) hk (λy m e=>QN C.nd<|by rwa [<-e]) ?_;refine xX (hi a s σ H _ I h) λv O i=>xX i λj k l=>?_;obtain⟨P,S,U,J,V,e,n,T,d,f2,W,⟨p,t⟩,c⟩:=l;subst e;refine RX hc C hk hg ht he n T d f2 W p t c λY Z z m B D fl q=>?_;refine⟨m,D,λh' E=>?_⟩;obtain⟨F,f1,f3,G,K,L⟩:=fl;exact⟨.ref k.heap.objs.size,_,B.turned (t':=z.toks) (λb o M e=>(E.2 b M).trans e) F f1 G K L,rfl,q⟩
def OJ(hN:X.N.Nodup)(hiy:X.N[i]? = some y)(hy:Loc X.env.scope y)(hf:X.fn y=true\/X.env.scope.names.lookup y=some .local)
 (hsw:swapsWith (.ListComp elt [⟨tg,iter,ifs,0⟩] scope pos) (some<|.Name y py) spos.line X.env=pure true)
 (hc:X.calm=true) (hi:PI X tg iter wi) (hk:scope.kind = .function) (hcap:V4 N X.N scope.names X.env.scope.names cap=true)
 (hg:∀cl s H fp,PG (yu X N scope cl s H fp) tg g) (ht:∀cl s H fp,Bx (yu X N scope cl s H fp) ifs tt) (he:∀cl s H fp,PE (yu X N scope cl s H fp) elt te)
 (hs:∀x,foldedSetIterable iter X.env x=pure x):PS X (.Assign [.Name y py] (.ListComp elt [⟨tg,iter,ifs,0⟩] scope pos) spos) (JA (So wi cap g tt te)<|Fi i):=by
 intro c s σ H D I h;have C:=Nk hcap;rw[exec_Assign_Name_used _ _ _ _ hsw];refine zxB<|wpAny_standAt<|zxB ?_;refine zxB<|zxI (wpAny_comprehension_free rfl hs (Vd λx m e=>I.ok.has x.1<|C.fr x m e) hk (λy m e=>QN C.nd<|by rwa [<-e]) ?_) (λ_ d t=>zxC<|zxC t) λ_ _ e=>e;refine xX (hi c s σ H _ I h) λv s1 u=>xX u λB E F=>?_;obtain⟨it,fp,tn,J,H2,e,G,T,k,f2,W,⟨K,L⟩,f⟩:=F;subst e;refine RX (Q:=λx M=>Fi i x σ M D.nx) hc C hk hg ht he G T k f2 W K L f λys H3 s3 m O P fl q=>?_;obtain⟨S,f1,f3,U,p,V⟩:=fl;refine wpAny_assign_Name<|G7 O hN hiy hy (v:=.ref E.heap.objs.size) rfl (λY Z ⟨a,sb,j⟩=>?_) hf;refine⟨m,P.sameBut sb λz=>?_,λh' n=>?_⟩
 . rcases j with j|j
   . exact f1<|z.trans j
   . exact p y a j z.symm
 . exact⟨_,_,Z.turned (t':=Y.toks) (λb o hb e=>(n.2 b hb).trans e) S f1 U p V,q⟩
end
structure ItC(K:zzA)(kd:KD)(F:Addr->Prop)(H:Hp)(J:It)(ds:List ZX):Prop where
 all:∀(H2:Hp) (T:Addr->Prop),(∀b u,H b=some u->H2 b=some u)->(∀a,T a->H a=none/\H2 a≠none)->∀i,(i<ds.length->J.go i H2)/\(ds.length<=i->J.stop i H2)/\
  ∀v H3,J.yld i H2 v H3->(∀b o,H2 b=some o->H3 b=some o)/\∀x,ds[i]? = some x->Rp K kd (λa=>x.1=true/\(F a\/T a)) H3 v x.2
def tU(K:zzA)(kd:KD)(f:IF):TI:=λσ H R=>∃F B ad as ds as',Rel K kd F B [] ad as σ H/\f as=some (ds,as')/\
 ∀J ad' H',Rel K kd F B [] ad' as' σ H'->Grow (Gw [] ad) H (Gw [] ad') H'->ItC K kd (Lv F B (Gw [] ad') true) H' J ds->R J H'
@[irreducible] def CM(X:Cx)(kd:KD)(tg iter:Expr)(f:IF):Prop:=PI X tg iter<|tU X.K kd f
def KS(os:List O):List ZX:=os.map λo=>match o with | .lf st d=>(st,d)|o=>(false,o.toD)
def tF(as:AS):RV->Option (List ZX)
 | .ow o=>G3 (o.str,o.toD)
 | .bo i=>match as[i]? with
  |some (some (.nd .ls os))=>some (KS os)
  |some (some (.nd .tp os))=>some (KS os)
  |_=>none
def xx(f:EF):IF:=λas=>(f as).bind λp=>(tF p.2 p.1).bind λds=>some (ds,p.2)
section
variable{K:zzA}{kd:KD}{F B:Addr->Prop}{G:Addr->Prop}{T:List Addr}{ad:Ad}{as:AS}{σ:St}{H H':Hp}
inductive RpC(K:zzA)(kd:KD)(F:Addr->Prop)(H:Hp):List V->List ZX->Prop
 |nil:RpC K kd F H [] []
 |cons {v:V}{x:ZX}{vs:List V}{ds:List ZX}:Rp K kd (λa=>x.1=true/\F a) H v x.2->RpC K kd F H vs ds->RpC K kd F H (v::vs) (x::ds)
theorem RpC.length(h:RpC K kd F H vs ds):vs.length=ds.length:=by
 induction h with
 |nil=>rfl
 |cons _ _ ih=>exact congrArg _ ih
def RpC.get{i:Nat}(h:RpC K kd F H vs ds)(e:ds[i]? = some x):∃v,vs[i]? = some v/\Rp K kd (λa=>x.1=true/\F a) H v x.2:=by
 induction h generalizing i with
 |nil=>simp at e
 |cons h r ih=>
  cases i with
  |zero=>simp at e;subst e;exact⟨_,rfl,h⟩
  |succ i=>
   obtain⟨v,h1,h2⟩:=ih ⋯;exact⟨v,⋯,h2⟩
def Rp.since{T}(k:∀b u,H b=some u->H' b=some u)(hT:∀a,T a->H a=none)(h:Rp K kd Ob H v d):Rp K kd (VP Ob T) H' v d:=
 Rp.grow (W':=T) (H':=H') ⟨λb u q _=>k b u q,λb z=>.inr<|hT b z⟩ (h.less λa z=>z.elim id False.elim)
def Ta{st}(h:RpL K kd (Lv F B G st) H vs ds):RpC K kd (Lv F B G true) H vs (kids st ds):=
 RpL.ind (P:=λvs ds=>RpC K kd _ H vs<|kids st ds) .nil (λ{v d vs ds} h _ ih=>by
  refine .cons (x:=(zE d||st,d)) ?_ ih;cases e:zE d with
  |true=>exact h.flat e
  |false=>
   refine h.less λa z=>?_;have zs:st=true:=z.1;rw[zs];exact z.2) h
def C4{os}(h:Zy K kd F B G H vs os fp):RpC K kd (Lv F B G true) H vs (KS os):=
 RoL.ind (P:=λvs os _=>RpC K kd _ H vs<|KS os) .nil (λ{v o vs os fp fq} h _ ih=>by
  have ha:=RY h;refine .cons ?_ ih;cases h with
  |lf rp=>exact rp.less λa z=>(by have zs:=z.1;dsimp only at zs;rw[zs];exact z.2)
  |ls=>exact ha.less λa z=>nomatch z.1
  |dc=>exact ha.less λa z=>nomatch z.1
  |ob=>exact ha.less λa z=>nomatch z.1
  |tp=>exact ha.less λa z=>nomatch z.1) h
def RU(h:TX K H a vs)(r:RpC K kd F H vs ds):ItC K kd F H (D5 K a) ds:=⟨λH3 T k hT i=>by
 have hr3:TX K H3 a vs:=by
  rcases h with(h|⟨o,h⟩)|h
  . exact .inl<|.inl<|k _ _ h
  . exact .inl<|.inr ⟨o,k _ _ h⟩
  . exact .inr h
 refine⟨λhi=>?_,λhi=>⟨_,hr3,by rwa [r.length]⟩,λv H4 hy=>?_⟩
 . obtain⟨u,hu,_⟩:=r.get<|zzE hi;exact⟨_,u,hr3,hu⟩
 . obtain⟨rfl,hv⟩:=hy;refine⟨λ_ _ z=>z,λd hd=>?_⟩;obtain⟨u,hu,ru⟩:=r.get hd;have:=hv _ hr3;rw[hu]at this;cases this;exact(ru.since k λa z=>(hT a z).1).less λa z=>z.2.elim (λy=>.inl ⟨z.1,y⟩) .inr⟩
def Ew(h:Uk K H a vs)(r:RpC K kd F H vs ds):ItC K kd F H (uc K a) ds:=⟨λH3 T k hT i=>by
 have hr3:Uk K H3 a vs:=by
  rcases h with(h|⟨o,h⟩)|h
  . exact .inl<|.inl<|k _ _ h
  . exact .inl<|.inr ⟨o,k _ _ h⟩
  . exact .inr h
 refine⟨λhi=>?_,λhi=>⟨_,hr3,by rwa [r.length]⟩,λv H4 hy=>?_⟩
 . obtain⟨u,hu,_⟩:=r.get<|zzE hi;exact⟨_,u,hr3,hu⟩
 . obtain⟨rfl,hv⟩:=hy;refine⟨λ_ _ z=>z,λd hd=>?_⟩;obtain⟨u,hu,ru⟩:=r.get hd;have:=hv _ hr3;rw[hu]at this;cases this;exact(ru.since k λa z=>(hT a z).1).less λa z=>z.2.elim (λy=>.inl ⟨z.1,y⟩) .inr⟩
def HQ(lo)(n:Nat):ItC K kd F H (D2 lo n) (Xs lo n):=⟨λH2 T k hT i=>by
 have hl:(Xs lo n).length=n:=by unfold Xs;simp
 refine⟨λhi=>by rw[hl]at hi;exact hi,λhi=>by rw[hl]at hi;exact hi,λv H3 hy=>?_⟩;obtain⟨rfl,rfl⟩:=hy;refine⟨λ_ _ z=>z,λd hd=>?_⟩;have hi:i<n:=by rw[<-hl];exact(zzG.mp hd).1
 unfold Xs at hd;rw[zzI,List.getElem?_range hi]at hd;cases hd;exact .int _⟩
end
def IC(he:AE X kd e fa):CM X kd tg e (xx fa):=by
 with_unfolding_all (
 intro pins s σ H R I h;obtain⟨F,B,ad,as,ds,as',Rl,e,q⟩:=h;obtain⟨⟨p,as1⟩,h1,e⟩:=bS_<|e;obtain⟨ys,h2,e⟩:=bS_ e;cases e;cases p with
 |ow o=>
  have h2:G3 _=some ds:=h2;generalize hd:o.toD=d at h2;cases d with
  |lst xs=>
   cases h2;refine LV he pins s σ H R I ⟨F,B,ad,as,_,as1,Rl,h1,λv T1 ad1 H1 R1 rv1 g1=>?_⟩;have rp:=MZ R1 rv1;rw[hd]at rp;cases rp with
   |lst hn hr rl=>exact⟨_,rfl,⟨_,.inl hr⟩,q _ ad1 H1 R1.drop (g1.trans<|Grow.less Gw.drop)<|RU (.inl hr)<|Ta rl⟩
   |lstK a b c rl=>exact⟨_,rfl,⟨_,.inr ⟨_,_,_,a,rfl,rfl,rfl,b,c⟩⟩,q _ ad1 H1 R1.drop (g1.trans<|Grow.less Gw.drop)<|RU (.inr ⟨_,_,_,a,rfl,rfl,rfl,b,c⟩)<|Ta rl⟩
  |tup xs=>
   cases h2;refine MO he pins s σ H R I ⟨F,B,ad,as,_,as1,Rl,h1,λv T1 ad1 H1 R1 rv1 g1=>?_⟩;have rp:=MZ R1 rv1;rw[hd]at rp;have go:∃a ys,v = .ref a/\Uk X.K H1 a ys/\RpL X.K kd (Lv F B (Gw [] ad1) o.str) H1 ys xs:=by
    cases rp with
    |tup n h r=>exact⟨_,_,rfl,.inl h,r⟩
    |tupK a b c e f r=>exact⟨_,_,rfl,.inr ⟨_,_,_,a,b,c,e,f⟩,r⟩
   obtain⟨a,ys,rfl,hs,rl⟩:=go;exact⟨_,rfl,⟨_,hs⟩,q _ ad1 H1 R1.drop (g1.trans<|Grow.less Gw.drop)<|Ew hs<|Ta rl⟩
  |_=>cases h2
 |bo i=>
  have h2:(match as1[i]? with|some (some<|.nd .ls os)=>some _|some (some<|.nd .tp os)=>some _|_=>none)=some ds:=h2;cases k:as1[i]? with
  |none=>rw[k]at h2;cases h2
  |some s0=>
   rw[k]at h2
   match s0,h2,k with
   |some (.nd .ls os),h2,k=>
    cases h2;refine LV he pins s σ H R I ⟨F,B,ad,as,_,as1,Rl,h1,λv T1 ad1 H1 R1 rv1 g1=>?_⟩;obtain⟨rfl,hs⟩:=rv1;obtain⟨w,hw,ro⟩:=R1.sl i _ k;rw[hs]at hw;cases hw;generalize hfp:ad1 i=fp at ro;cases ro with
    |ls hH rl=>exact⟨_,rfl,⟨_,.inl<|.inl hH⟩,q _ ad1 H1 R1 g1<|RU (.inl<|.inl hH)<|C4 rl⟩
   |some (.nd .tp os),h2,k=>
    cases h2;refine MO he pins s σ H R I ⟨F,B,ad,as,_,as1,Rl,h1,λv T1 ad1 H1 R1 rv1 g1=>?_⟩;obtain⟨rfl,hs⟩:=rv1;obtain⟨w,hw,ro⟩:=R1.sl i _ k;rw[hs]at hw;cases hw;generalize hfp:ad1 i=fp at ro;cases ro with
    |tp n hH rl=>exact⟨_,rfl,⟨_,.inl<|.inl hH⟩,q _ ad1 H1 R1 g1<|Ew (.inl<|.inl hH)<|C4 rl⟩)
def GE(hg:Gl X "range")(hm:X.mg "range"=none)(ha:AA X kd [a] fr)(hs:starEach [a] X.env=[(false,eval a X.env)]):CM X kd tg (.Call (.Name "range" p) [a] [] pos) (ZP fr ZC):=by
 with_unfolding_all (
 intro pins s σ H R I h;obtain⟨F,B,ad,as,ds,as',Rl,e,q⟩:=h;obtain⟨⟨ps,as1⟩,h1,e⟩:=bS_<|e;obtain⟨⟨xs,lv⟩,h2,e⟩:=bS_ e;obtain⟨ys,h3,e⟩:=bS_ e;cases e;obtain⟨j,rfl,h3⟩:=Fd h3
 . obtain⟨hj,e3⟩:=zB h3;cases e3;refine GL hg hm ha hs pins s σ H R I ⟨F,B,ad,as,ps,_,Rl,h1,λvs ad1 H1 R1 rv1 g1=>?_⟩;have vl:=LK R1 rv1 h2;cases vl with
   |cons v1 v2=>
    cases v2;cases v1;exact⟨j,rfl,hj.1,hj.2,q _ ad1 H1 R1 g1<|HQ 0 _⟩)
def uW(as:AS):Option Nat->Option O
 |none=>none
 |some j=>match as[j]? with
  |some (some (.lf st d))=>some (.lf st d)
  |some (some o)=>some (.lf false o.toD)
  |_=>none
def X8(cap:List (Option Nat))(as:AS):AS:=cap.map<|uW as
def wG(g:GF)(tt:TF)(fe:EF)(as0:AS):List ZX->Option (List O)
 | []=>some []
 |x::r=>(g x as0).bind λas1=>(tt as1).bind λb=>if b.1=true then(fe b.2).bind λp=>(Ce p.2 p.1).bind λq=>if q.1.str=true then(wG g tt fe as0 r).bind λos=>some (q.1::os)else none
  else wG g tt fe as0 r
def zQ(fi:IF)(cap:List (Option Nat))(g:GF)(tt:TF)(fe:EF):EF:=λas=>(fi as).bind λp=>if p.1.length<=sizeLine then(wG g tt fe (X8 cap p.2) p.1).bind λos=>some (.ow<|.nd .ls os,p.2)else none
def yP:TF:=λas=>some (true,as)
section
variable{K:zzA}{kd:KD}{F B:Addr->Prop}{T:List Addr}{ad:Ad}{as:AS}{σ:St}{H H':Hp}{cap:List (Option Nat)}
def ON(R:Rel K kd F B [] ad as σ H)(k:∀b u,H b=some u->H' b=some u)(hT:∀a ∈ T,H a=none)(hT':∀a ∈ T,H' a≠none):
 Rel K kd (VP (Lv F B (Gw [] ad) true) (· ∈ T)) (λ_=>False) [] (λ_=>[]) (X8 cap as) (vZ cap σ) H':=by
 have no:∀a,¬Gw [] (λ_=>[]) a:=λa z=>z.elim ⋯ λ⟨_,y⟩=>nomatch y;have kn:∀a,H a≠none->H' a≠none:=λa z=>by
  cases e:H a with
  |none=>exact absurd e z
  |some u=>rw[k a u e];simp
 have up:∀{st:Bool}{v:V}{d:D},Rp K kd (λa=>st=true/\Lv F B (Gw [] ad) true a) H v d->Rp K kd (Lv (VP _ _) (λ_=>False) _ st) H' v d:=λ{st v d} h=>by
  have:=Rp.grow (W':=_) (H':=H') ⟨λb u q _=>k b u q,λb z=>.inr<|hT b z⟩<|h.less λa z=>z.elim id False.elim;refine this.less λa z=>?_
  rcases z with(⟨z1,z2⟩|z)|z
  . rcases z2 with z2|z2
    . exact .inl ⟨z1,z2⟩
    . exact .inr z2
  . exact z.elim
  . exact(no a z).elim
 refine⟨by unfold X8 vZ;rw[zzB,zzB],λ_ _=>rfl,λ_=>zyI,(λ_ _ _ z=>nomatch z),zyI,(λ_ _ _ z=>nomatch z),λa z=>z.elim (λy=>kn a<|R.trk true a y)<|hT' a,(λ_ z=>z.elim),λa z=>(no a z).elim,λi s e=>?_⟩;unfold X8 at e;rw[zzI]at e;obtain⟨c,hc,rfl⟩:=zzW.mp e;have es:(vZ cap σ)[i]? = some (DI σ c):=by
  unfold vZ;rw[zzI,hc];rfl
 rw[es];cases c with
 |none=>rfl
 |some j=>
  show TR _ _ _ _ _ _ (match as[j]? with|some (some<|.lf st d)=>some _|some (some o)=>some _|_=>none) _ _;cases k2:as[j]? with
  |none=>rfl
  |some s0=>
   cases s0 with
   |none=>rfl
   |some o=>
    obtain⟨v,hv,ro⟩:=R.sl j _ k2;cases o with
    |lf st d=>
     have e0:ad j=[]:=by
            generalize hfp:ad j=fp at ro;cases ro;rfl
     rw[e0]at ro;refine⟨v,by show some ((σ[j]?).getD none)=_;rw[hv];rfl,.lf<|up ?_⟩;exact(Tf ro).less λa z=>by have zs:=z.1;rw[zs];exact z.2
    |nd kk os=>exact⟨v,by show some ((σ[j]?).getD none)=_;rw[hv];rfl,.lf<|up ((RY ro).less λa z=>nomatch z.1)⟩
def SL(hS:∀i ∈ S,cap[i]? = some none)(h:al K kd (zQ fi cap g tt fe) σ H Q):
 So (tU K kd fi) cap (ug K kd S g) (HK K kd tt) (al K kd fe) σ H Q:=by
 obtain⟨F,B,ad,as,r,as',R,e,q⟩:=h;obtain⟨⟨ds,as1⟩,h1,e⟩:=bS_<|e
 by_cases hz:ds.length<=sizeLine
 . have e:(if ds.length<=sizeLine then(wG g tt fe (X8 cap as1) ds).bind λos=>some (RV.ow<|.nd .ls os,as1)else none)=some (r,as'):=e;rw[if_pos hz]at e;obtain⟨os,h2,e⟩:=bS_ e;cases e;refine⟨F,B,ad,as,ds,as',R,h1,λJ ad1 H1 R1 g1 it=>?_⟩;refine⟨λi m ys H3=>m+i=ds.length/\∃T os1 os2,os=os1++os2/\wG g tt fe (X8 cap as') (ds.drop i)=some os2/\os1.length<=i/\T.Nodup/\(∀a ∈ T,H1 a=none/\H3 a≠none)/\(∀b u,H1 b=some u->H3 b=some u)/\
    RoL (λ_ v d=>Rp K kd (VP (Lv F B (Gw [] ad1) true) (· ∈ T)) H3 v d) (λa=>¬VP (Lv F B (Gw [] ad1) true) (· ∈ T) a) H3 ys os1 T,⟨ds.length,rfl,[],[],os,rfl,h2,zzN _,zyI,(λ_ m=>nomatch m),(λ_ _ z=>z),.nil⟩, ?_⟩
   rintro i m ys H3 ⟨hm,T,os1,os2,eo,ec,hl,tnd,tf,k3,rl⟩
   obtain⟨i1,i2,i3⟩:=it.all H3 (· ∈ T) k3 tf i;have yl:=rl.length;refine⟨by omega, ?_⟩
   by_cases hi:i<ds.length
   . refine .inr ⟨i1 hi,λv H4 hy=>?_⟩;obtain⟨k4,rp⟩:=i3 v H4 hy;rw[zyO hi]at ec;obtain⟨as2,e2,ec⟩:=bS_<|ec;obtain⟨⟨b,as3⟩,e3,ec⟩:=bS_ ec;have k14:=λb u h=>k4 b u<|k3 b u h;have kn4:∀a,H3 a≠none->H4 a≠none:=λa z=>by
      cases e:H3 a with
      |none=>exact absurd e z
      |some u=>rw[k4 a u e];simp
     have R4:=ON (cap:=cap) R1 k14 (λa z=>(tf a z).1) λa z=>kn4 a (tf a z).2;have no:∀a,¬Gw [] (λ_=>[]) a:=λa z=>z.elim (λy=>nomatch y) λ⟨_,y⟩=>nomatch y;refine⟨_,_,_,_,ds[i],as2,R4,(rp _<|zzE hi).less λa z=>?_,e2,λσ5 ad5 H5 R5 g5 keep5=>⟨λj w hw=>?_,_,_,ad5,as2,b,as3,R5,e3,λad6 H6 R6 g6=>?_⟩⟩
     . rcases z with(z|z)|z
       . exact z
       . exact z.elim
       . exact(no a z).elim
     . rw[keep5 j λz=>?_]
       . exact hw
       . have:=hS j z;unfold vZ at hw;rw[zzI,this]at hw;cases hw
     . -- what stood is kept
       have g46:=g5.trans g6;have k46:=λb u h=>g46.keep b u h<|no b;have k36:=λb u h=>k46 b u<|k4 b u h;have kn6:∀a,H3 a≠none->H6 a≠none:=λa z=>by
        cases e:H3 a with
        |none=>exact absurd e z
        |some u=>rw[k36 a u e];simp
       have up:∀{H7:Hp}{T2:List Addr},_->_->RoL (λ_ v d=>Rp K kd (VP _ (· ∈ T++T2)) H7 v d) (λa=>¬VP _ (· ∈ T++T2) a) H7 ys os1 T:=λ{H7 T2} k7 f7=>
        RoL.mono (λst v d r=>(r.since k7 f7).less λa z=>z.elim (λy=>.inl<|.inl y) λy=>(zzM.mp y).elim (λx=>.inl<|.inr x) .inr)
            (λa vs n e=>⟨λz=>z.elim (λy=>n<|.inl y) λy=>(zzM.mp y).elim (λx=>n<|.inr x) λx=>(by have:=f7 a x;rw[this]at e;cases e),k7 _ _ e⟩) (λa _ u h=>k7 a u h) rl
       cases b with
       |false=>
        have:=up (T2:=[]) k36 (λ_ m=>nomatch m);rw[zyD]at this;exact⟨m-1,by omega,by omega,T,os1,os2,eo,ec,Nat.le_succ_of_le hl,tnd,λa z=>⟨(tf a z).1,kn6 a (tf a z).2⟩,λb u h=>k36 b u<|k3 b u h,this⟩
       |true=>
        rw[if_pos rfl]at ec;obtain⟨⟨p,as7⟩,e7,ec⟩:=bS_ ec;obtain⟨⟨o,as8⟩,e8,ec⟩:=bS_ ec
        by_cases hs:o.str=true
        . have ec:=ec;rw[if_pos hs]at ec;obtain⟨os3,e9,ec⟩:=bS_ ec;cases ec;refine⟨by omega,_,_,ad6,as3,p,as7,R6,e7,λy T2 ad7 H7 R7 rv7 g7=>?_⟩;obtain⟨ad8,R8,ro8,le8⟩:=PJ R7 rv7 e8;have g47:=g46.trans g7;have k47:=λb u h=>g47.keep b u h<|no b;have k37:=λb u h=>k47 b u<|k4 b u h;have f42:=λa z=>(g47.own a<|.inl z).resolve_left<|no a;have f32:∀a ∈ T2,H3 a=none:=λa z=>by
             cases e:H3 a with
             |none=>rfl
             |some u=>have:=k4 a u e;rw[f42 a z]at this;cases this
          have rt:=Ls R8 R8.tnd (λa z=>.inl z) ro8 hs;have ro9:Ro (λ_ v d=>Rp K kd (VP _ (· ∈ T++T2)) H7 v d) (λa=>¬VP _ (· ∈ T++T2) a) H7 y o T2:=
             Ro.mono (λst v d r=>r.less λa z=>z.elim (λy=>.inl<|.inl y) λy=>(zzM.mp y).elim (λx=>.inl<|.inr x) .inr)
              (λa vs n e=>⟨λz=>n<|z.elim (λy=>.inl<|.inl y) λy=>(zzM.mp y).elim (λx=>.inl<|.inr x) .inr,e⟩) (λ_ _ _ h=>h) rt.ro
          refine⟨m-1,by omega,by omega,T++T2,os1++[o],os3,by rw[eo,zyY];rfl,e9,by rw[zzJ,List.length_singleton];omega,zxA.mpr ⟨tnd,rt.nd,λa z b z' e=>?_⟩,λa z=>?_,λb u h=>k37 b u<|k3 b u h,(up k37 f32).append<|RoL.one ro9⟩
          . subst e;exact(tf a z).2<|f32 a z'
          . rcases zzM.mp z with z|z
            . refine⟨(tf a z).1, ?_⟩;cases e:H3 a with
              |none=>exact absurd e (tf a z).2
              |some u=>rw[k37 a u e];simp
            . refine⟨?_,rt.tr a z⟩;cases e:H1 a with
              |none=>rfl
              |some u=>have:=k3 a u e;rw[f32 a z]at this;cases this
        . have ec:=ec;rw[if_neg hs]at ec;cases ec
   . refine .inl ⟨i2 (by omega),λp hp=>?_⟩;rw[List.drop_eq_nil_of_le<|by omega]at ec;cases ec;rw[zyD]at eo;subst eo;have pT:=λz=>(tf p z).2 hp;have H1p:H1 p=none:=by
      cases e:H1 p with
      |none=>rfl
      |some u=>have:=k3 p u e;rw[hp]at this;cases this
     have kp:∀b u,H3 b=some u->upd H3 p (.lst ys) b=some u:=λb u h=>by rw[zH<|zR h hp];exact h
     obtain⟨R9,g9⟩:=R1.news (T':=p::T) (H':=upd H3 p<|.lst ys) (zzV.mpr ⟨pT,tnd⟩) (λa z=>(zzC.mp z).elim (λe=>by rw[e];exact H1p) λz=>(tf a z).1) (λb u h=>kp b u<|k3 b u h) (λa z=>by
      rcases zzC.mp z with e|z
      . rw[e,yn];simp
      . cases e:H3 a with
        |none=>exact absurd e (tf a z).2
        |some u=>rw[kp a u e];simp)
     refine q _ (p::T) ad1 _ R9 (.ls yn ?_)<|g1.trans g9;have le:∀st a,Lv F B (Gw (p::T) ad1) st a->VP (VP (Lv F B (Gw [] ad1) true) (· ∈ T)) (· = p) a:=λst a z=>by
      rcases z with(z|z)|z|z
      . exact .inl<|.inl<|.inl<|.inl ⟨rfl,z.2⟩
      . exact .inl<|.inl<|.inl<|.inr z
      . exact(zzC.mp z).elim .inr λy=>.inl<|.inr y
      . exact .inl<|.inl<|.inr<|.inr z
     exact RoL.mono (λst v d r=>(r.since kp λa z=>by rw[z];exact hp).less<|le st) (λa vs n e=>⟨λz=>(le true a z).elim n λy=>(by rw[y,hp]at e;cases e),kp _ _ e⟩) (λa _ u h=>kp a u h) rl
 . have e:=e;rw[if_neg hz]at e;cases e
end
section
variable{X:Cx}{kd:KD}{elt tg iter e a b c:Expr}{es ifs:List Expr}{scope:Scope}{pos:Pos}{N:List Str}{cap:List (Option Nat)}{g:GF}{tt:TF}{fe fa fb:EF}{fi:IF}{S:List Nat}{fr:AF}{fd:DF}
def EJ:Bx X [] (HK X.K kd yP):=λa s σ H Q I h=>by
 obtain⟨F,B,c,as,b,d,R,e,q⟩:=h;cases e;exact Cc a s σ H Q I<|q c H R Grow.refl
def Hy(h:AT X kd c tt):Bx X [c] (HK X.K kd tt):=by with_unfolding_all exact(Cp h)
def OQ(hc:X.calm=true)(hi:CM X kd tg iter fi)(hk:scope.kind = .function)(hcap:V4 N X.N scope.names X.env.scope.names cap=true)(hS:S.all (λi=>cap[i]? == some none)=true)
 (hg:∀cl s H fp,AG (yu X N scope cl s H fp) kd tg S g) (ht:∀cl s H fp,Bx (yu X N scope cl s H fp) ifs<|HK X.K kd tt) (he:∀cl s H fp,AE (yu X N scope cl s H fp) kd elt fe)
 (hs:∀x,foldedSetIterable iter X.env x=pure x):AE X kd (.ListComp elt [⟨tg,iter,ifs,0⟩] scope pos) (zQ fi cap g tt fe):=by with_unfolding_all exact(yp (Ot (g:=ug X.K kd S g) (te:=al X.K kd fe) hc hi hk hcap hg ht he hs) λσ H Q h=>SL (λi m=>by simpa using List.all_eq_true.mp hS i m) h)
def EG(hN:X.N.Nodup)(hiy:X.N[i]? = some y)(hy:Loc X.env.scope y)(hf:X.fn y=true\/X.env.scope.names.lookup y=some .local)
 (hsw:swapsWith (.ListComp elt [⟨tg,iter,ifs,0⟩] scope pos) (some<|.Name y py) spos.line X.env=pure true)
 (hc:X.calm=true) (hi:CM X kd tg iter fi) (hk:scope.kind = .function) (hcap:V4 N X.N scope.names X.env.scope.names cap=true) (hS:S.all (λi=>cap[i]? == some none)=true)
 (hg:∀cl s H fp,AG (yu X N scope cl s H fp) kd tg S g) (ht:∀cl s H fp,Bx (yu X N scope cl s H fp) ifs<|HK X.K kd tt) (he:∀cl s H fp,AE (yu X N scope cl s H fp) kd elt fe)
 (hs:∀x,foldedSetIterable iter X.env x=pure x):Ed X kd (.Assign [.Name y py] (.ListComp elt [⟨tg,iter,ifs,0⟩] scope pos) spos) (zL z i<|zQ fi cap g tt fe):=by with_unfolding_all exact(wU (OJ (g:=ug X.K kd S g) (te:=al X.K kd fe) hN hiy hy hf hsw hc hi hk hcap hg ht he hs) λD σ H h=>by
 obtain⟨F,B,c,as,o,R,e,q⟩:=h;obtain⟨⟨p,a⟩,d,e⟩:=bS_<|e;obtain⟨_,j,e⟩:=bS_ e;obtain⟨k,e⟩:=zB e;cases e;refine SL (λi m=>by simpa using List.all_eq_true.mp hS i m) ⟨F,B,c,as,p,a,R,d,λv A n r t u g=>?_⟩;obtain⟨b,R2,w⟩:=MF t u j k;exact q _ b r R2<|g.trans<|Grow.less w)
def Ey(F:FnOk X.prog X.w X.K X.mg X.base wH k f fdt ps (Wv X.K kd gg))(hr:Room k X.A)(hg:Gl X x)(hm:X.mg x=some (.ref f))(hk:W.keepIn X.K (.ref f)=true)
 (hb:Binds X.K fdt ps []) (hx:wR wH X (λ_ _ _=>False)) (ha:AA X kd (e::es) fr) (hdb:(x==("__debug__":Str))=false) (he:starEach (e::es) X.env=(false,eval e X.env)::starEach es X.env) (hpl:(backTo pos<|starEach es X.env).any (·.1)=false):
 AE X kd (.Call (.Name x p) (e::es) [] pos) (zd fr gg):=by with_unfolding_all exact(yp (Lm F hr hg hm hk hb .nil hx ha hdb he hpl) λσ H Q h=>JI h)
def J3{id}(hc:Vv X kd (.builtin id) gg)(hg:Gl X x)(hm:X.mg x=none)(hv:bootBuiltins x=some (.builtin id))(ha:AA X kd (e::es) fr)(hn:x≠"__name__")(hdb:(x==("__debug__":Str))=false)
 (he:starEach (e::es) X.env=(false,eval e X.env)::starEach es X.env) (hpl:(backTo pos<|starEach es X.env).any (·.1)=false):AE X kd (.Call (.Name x p) (e::es) [] pos) (fP fr gg):=by with_unfolding_all exact(yp (NN hc hg hm hv ha hn hdb he hpl) λσ H Q h=>tZ (λ_ _ _ z=>z) h)
def JT(hc:Vv X kd (.type T) gg)(hg:Gl X x)(hm:X.mg x=none)(hv:bootBuiltins x=some (.type T))(ha:AA X kd (e::es) fr)(hn:x≠"__name__")(hdb:(x==("__debug__":Str))=false)
 (he:starEach (e::es) X.env=(false,eval e X.env)::starEach es X.env) (hpl:(backTo pos<|starEach es X.env).any (·.1)=false):AE X kd (.Call (.Name x p) (e::es) [] pos) (fP fr gg):=by with_unfolding_all exact(yp (Bl hc hg hm hv ha hn hdb he hpl) λσ H Q h=>tZ (λ_ _ _ z=>z) h)
def Q1(fa:EF)(c:String):EF:=λas=>(fa as).bind λp=>(p.1.frz.view p.2).bind λx=>if M0 x.1=true then some (.ow<|.lf true<|.bl<|Kf (ID x.1) c,p.2)else none
def Hk(hk:KdOk X kd):Vk X (.builtin "isinstance") (λxs H Q=>∃x c O d,xs=[x,.ty c]/\V_ c=true/\Vw X.K kd O H x d/\M0 d=true/\Q (.bl<|Kf (ID d) c) H):=by
 intro b s σ H l m Q I r h;obtain⟨x,c,O,d,rfl,e,f,g,q⟩:=h;cases r with
 |cons i a=>
  cases a with
  |cons a j=>
   cases j;cases(a);exact JN hk I i f e g λk=>⟨.bl _,H,I.tok k,rfl,q⟩
def LF{c}(hkd:KdOk X kd)(hc:V_ c=true)(hg:Gl X x)(hm:X.mg x=none)(hv:bootBuiltins x=some (.builtin "isinstance"))(hg2:Gl X y)(hm2:X.mg y=none)(hv2:bootBuiltins y=some (.type c))(ha:AE X kd a fa)
 (hn:x≠"__name__") (hdb:(x==("__debug__":Str))=false) (hn2:y≠"__name__") (hdb2:(y==("__debug__":Str))=false)
 (he:starEach [a,.Name y p2] X.env=(false,eval a X.env)::starEach [.Name y p2] X.env) (he2:starEach [.Name y p2] X.env=(false,eval (.Name y p2) X.env)::starEach [] X.env) (hpl:(backTo pos<|starEach [.Name y p2] X.env).any (·.1)=false):
 AE X kd (.Call (.Name x p) [a,.Name y p2] [] pos) (Q1 fa c):=by with_unfolding_all exact(yp (NN (Hk hkd) hg hm hv (Rr ha (Rr (Cf (v:=.ty c) hg2 hm2 hv2 rfl hn2 hdb2) MK he2) he) hn hdb he hpl) λσ H Q h=>by
 obtain⟨F,B,s,as,r,i,R,e,q⟩:=h;obtain⟨_,k,e⟩:=bS_<|e;obtain⟨⟨d,t⟩,l,e⟩:=bS_ e;obtain⟨m,e⟩:=zB e;cases e;exact Ym R k λv b n g f o=>⟨v,c,_,d,rfl,hc,xu.vw g f l,m,q _ [] b n g (.lf<|.bl _) o⟩)
def vN:MG:=λos es=>match es with | [o]=>if os.length<sizeLine then some (os++[o],.lf true .non)else none|_=>none
def El:tj X kd Fw vN:=by
 intro F B G l f p q r g o s t H Q h c b d e k;unfold vN at e
 split at e
 . obtain⟨i,e⟩:=zB e;cases e;cases b with
   |cons j n=>
    cases n;rw[zyD]at d k;exact⟨l,f,_,rfl,rfl,h,by rw[c.length];exact i,k _ _ _ [] (c.append<|RoL.one j) (.lf .non) ⋯ (by rwa [zyD])⟩
 . cases e
def Er{i:Nat}{id}(hm:sg X id r)(hr:tj X kd r gg)(slot:Slot "list" name id)(hty:typeOf (.builtin id)=pure (.type "method_descriptor"))(ho:PE X (.Name x p) (Bd i))(ha:AD X kd (e::es) fd)
 (hbase:attributeBase (.Name x p) name X.env (eval (.Name x p) X.env)=eval (.Name x p) X.env)
 (hfew:((backTo cpos<|starEach (e::es) X.env).all (λx=>!x.1)&&(backToKw cpos<|keywordEach [] X.env).all (λx=>x.1.isSome)
  && decide ((e::es).length+([]:List Keyword).length+(if([]:List Keyword).isEmpty then 0 else 1)<30))=true)
 (hline:(apos.endLine==cpos.line)=true) (hs:starEach (e::es) X.env=(false,eval e X.env)::starEach es X.env) (hplain:(backTo cpos<|starEach es X.env).any (·.1)=false):
 AE X kd (.Call (.Attribute (.Name x p) name apos) (e::es) [] cpos) (ZM i fd gg):=by with_unfolding_all exact(yp (AQ PySem.F.plainAttrs_list slot hty hm ho ha hbase hfew hline hs hplain) λσ H Q h=>AY hr h)
end
inductive Ty where
 |str|lst|dct|int
section
variable{K:zzA}{kd:KD}{F B G:Addr->Prop}{T:List Addr}{ad:Ad}{as:AS}{σ:St}{H H':Hp}
inductive RPs(K:zzA)(kd:KD)(F B G:Addr->Prop)(H:Hp):List (V×V)->List (Key×O)->Prop
 |nil:RPs K kd F B G H [] []
 |cons {k:Key}{v:V}{o:O}{ps:List (V×V)}{kos:List (Key×O)}:Xb K kd F B G H v o []->RPs K kd F B G H ps kos->RPs K kd F B G H ((kV k,v)::ps) ((k,o)::kos)
end
abbrev Fn:=List (Bool×D)->Option O
section
variable{P:Program}{w:World}{K:zzA}{mg:Str->Option Value}{base:Heap}{kd:KD}
def VU:FnOk P w K mg base wH k f fd ps (Wv K kd λ_=>none):=
 ⟨λc H Q E h=>(by obtain⟨_,_,_,_,_,e,_⟩:=h;cases e),λA a s H b d c Q E _ _ _ _ h=>(by obtain⟨_,_,_,_,_,e,_⟩:=h;cases e)⟩
def CC(hr:Room k A):A.units+100<cLine:=by have:=hr.un;omega
def xW(P:Program)(w:World)(K:zzA)(kd:KD):Prop:=∀X:Cx,X.prog=P->X.w=w->X.K=K->KdOk X kd
theorem XB{O}:∀ns:List Int,RpL K kd O H (ns.map V.int)<|ns.map D.int
 | []=>.nil
 |_::r=>.cons (.int _)<|XB r
def JR{ns:List Int}(hg:g [(true,.lst<|ns.map D.int)]=some (.lf true<|.bl true))(hS:Sv K H a (ns.map V.int)):Wv K kd g [.ref a] H (λv _=>v = .bl true) E:=by
 refine⟨λ_=>False,[_],.lf true _,⋯,.cons ?_ .nil,hg,λv T e _ _ _ _ b=>?_⟩
 . rcases hS with h|⟨c,n,k,z,r⟩
   . exact .lst (λz=>z.2) h<|XB ns
   . exact .lstK k z r<|XB ns
 . cases b with
   |lf d=>cases d;rfl
end
namespace Bt
theorem len:bootBuiltins "len"=some (.builtin "len"):=⋯
theorem max:bootBuiltins "max"=some (.builtin "max"):=⋯
theorem min:bootBuiltins "min"=some (.builtin "min"):=⋯
theorem abs:bootBuiltins "abs"=some (.builtin "abs"):=⋯
theorem sum:bootBuiltins "sum"=some (.builtin "sum"):=⋯
theorem isinstance:bootBuiltins "isinstance"=some (.builtin "isinstance"):=⋯
theorem bool:bootBuiltins "bool"=some (.type "bool"):=⋯
theorem list:bootBuiltins "list"=some (.type "list"):=⋯
theorem tuple:bootBuiltins "tuple"=some (.type "tuple"):=⋯
def n(x)(h:(x==("__name__":Str))=false):x≠"__name__":=λe=>by subst e;simp at h
end Bt
def WD(f:EF)(as:AS)(st:Bool)(d:D):Prop:=f as=some (.ow<|.lf st d,as)
def WT(f:TF)(as:AS)(b:Bool):Prop:=f as=some (b,as)
def WA(f:AF)(as:AS)(rs:List (Bool×D)):Prop:=f as=some (rs.map λx=>.ow<|.lf x.1 x.2,as)
def WO(f:DF)(as:AS)(os:List O):Prop:=f as=some (os,as)
section
variable{as:AS}{f a b:EF}{s t:Bool}{x y z:D}{i j:Int}
def zc:WD (fC x) as true x:=rfl
def za{i:Nat}(h:as[i]? = some (some<|.lf s x)):WD (fV i) as s x:=by unfold WD fV;rw[h]
def Cv(ha:WD a as s x)(hb:WD b as t y)(hg:g x y=some (.im z)):WD (f2 a b g) as (zE z||(s&&t)) z:=by
 unfold WD f2 at *;rw[ha];show((b as).bind _)=_;rw[hb];show((g x y).bind _)=_;rw[hg];show(if _=true then _ else _:Option RV).bind _=_;rw[if_pos<|by unfold meet;simp];rfl
def Du(ha:a as=some (.ow oa,as))(hb:b as=some (.ow ob,as))(hg:g oa.toD ob.toD=some (.im z)):WD (f2 a b g) as (zE z||(oa.str&&ob.str)) z:=by
 unfold WD f2 at *;rw[ha];show((b as).bind _)=_;rw[hb];show((g oa.toD ob.toD).bind _)=_;rw[hg];show(if _=true then _ else _:Option RV).bind _=_;rw[if_pos<|by unfold meet;simp];rfl
def zN(ha:WD a as s x)(hb:WD b as t y)(hg:g x y=some (.im z))(e:zE z=true):WD (f2 a b g) as true z:=by
 have:=Cv ha hb hg;rwa [e]at this
def y_(ha:WD a as s (.int i))(hb:WD b as t (.int j)):WD (f2 a b<|ZK .Add) as true (.int<|i+j):=zN ha hb rfl rfl
def Up(ha:WD a as s (.int i))(hb:WD b as t (.int j)):WD (f2 a b<|ZK .Sub) as true (.int<|i-j):=zN ha hb rfl rfl
def HX(ha:WD a as s (.int i))(hb:WD b as t (.int j))(h:j.natAbs<2 ^ 64):WD (f2 a b<|ZK .Mult) as true (.int<|i*j):=zN ha hb (by show(if _ then _ else _)=_;rw[if_pos<|.inr h]) rfl
def Rq(ha:WD a as s (.int i))(hb:WD b as t (.int j))(h1:i.natAbs<bg)(h2:j.natAbs<bg):WD (f2 a b<|ZK .Mult) as true (.int<|i*j):=zN ha hb (by show(if _ then _ else _)=_;rw[if_pos<|.inl ⟨h1,h2⟩]) rfl
def XC(ha:WD a as s (.int i))(hb:WD b as t (.int j))(h1:i.natAbs<big)(h2:j.natAbs<big):WD (f2 a b<|ZK .Mult) as true (.int<|i*j):=Rq ha hb (Nat.lt_trans h1 Ee)<|Nat.lt_trans h2 Ee
def LQ(ha:WD a as s (.int i))(hb:WD b as t (.int j))(h1:0<j)(h2:j.natAbs<big):WD (f2 a b<|ZK .FloorDiv) as true (.int<|i/j):=zN ha hb (by show(if _ then _ else _)=_;rw[if_pos ⟨h1,h2⟩]) rfl
def ZI(ha:WD a as s (.int i))(hb:WD b as t (.int j))(h1:0<j):WD (f2 a b<|ZK .Mod) as true (.int<|i%j):=zN ha hb (by show(if _ then _ else _)=_;rw[if_pos h1]) rfl
def B0(ha:WD a as s (.int i))(hb:WD b as t (.int j))(h1:0<=j/\j<=1000000/\i.natAbs<2 ^ 64):WD (f2 a b<|ZK .Pow) as true (.int<|i ^ j.toNat):=zN ha hb (by show(if _ then _ else _)=_;rw[if_pos h1]) rfl
def Zb(ha:WD a as s x)(hb:WD b as t y)(h:Wp 60 x y=some c):WD (f2 a b<|zp .Eq) as true (.bl c):=zN ha hb (by show(Wp 60 x y).bind _=_;rw[h];rfl) rfl
def UT(ha:WD a as s x)(hb:WD b as t y)(h:Wp 60 x y=some c):WD (f2 a b<|zp .NotEq) as true (.bl<|!c):=zN ha hb (by show(Wp 60 x y).bind _=_;rw[h];rfl) rfl
def BP(ha:WD a as s (.int i))(hb:WD b as t (.int j)):WD (f2 a b<|zp .Lt) as true (.bl<|decide (i<j)):=zN ha hb rfl rfl
def SI(ha:WD a as s (.int i))(hb:WD b as t (.int j)):WD (f2 a b<|zp .Gt) as true (.bl<|decide (j<i)):=zN ha hb rfl rfl
def Dm(ha:WD a as s (.int i))(hb:WD b as t (.int j)):WD (f2 a b<|zp .LtE) as true (.bl<|decide (i<=j)):=zN ha hb rfl rfl
def Di(ha:WD a as s (.int i))(hb:WD b as t (.int j)):WD (f2 a b<|zp .GtE) as true (.bl<|decide (j<=i)):=zN ha hb rfl rfl
def BJ(ha:WD a as s (.int i)):WD (f1 a NS) as true (.int (-i)):=by
 unfold WD f1 at *;rw[ha];rfl
def zy(h:WD f as s x)(e:truth x=some c):WT (fT f) as c:=by
 unfold WT fT;rw[h];show((truth x).bind _)=_;rw[e];rfl
def VG(h:WT c as k):WT (v3 c) as (!k):=by unfold WT v3 at *;rw[h];rfl
def VJ(h:WT c as k)(h2:k=true->WT e as l)(h3:k=false->l=false):WT (ZV c e) as l:=by
 unfold WT ZV at *;rw[h];cases k with
 |true=>exact h2 rfl
 |false=>rw[h3 rfl];rfl
def P6(h:WT c as k)(h2:k=false->WT e as l)(h3:k=true->l=true):WT (WX c e) as l:=by
 unfold WT WX at *;rw[h];cases k with
 |false=>exact h2 rfl
 |true=>rw[h3 rfl];rfl
def Iz(h:WD a as s (.bl k))(h2:k=true->WD b as true (.bl l))(h3:k=false->l=false):WD (H_ a b) as true (.bl l):=by
 unfold WD H_ at *;rw[h];cases k with
 |true=>exact h2 rfl
 |false=>rw[h3 rfl];rfl
def ym:WA aN as []:=rfl
def yy(ha:WD a as s x)(hr:WA fr as rs):WA (aC a fr) as ((s,x)::rs):=by
 unfold WA aC at *;rw[ha];show((fr as).bind _)=_;rw[hr];rfl
theorem Um:∀rs:List (Bool×D),XD as (rs.map λx=>.ow<|.lf x.1 x.2)=some (rs.map λx=>(zE x.2||x.1,x.2))
 | []=>rfl
 |r::a=>by
  show(XD as _).bind _=_;rw[Um a];rfl
theorem Mj:∀rs:List (Bool×D),views as (rs.map λx=>.ow<|.lf x.1 x.2)=some (rs.map (·.2),some (rs.all (·.1)))
 | []=>rfl
 |r::a=>by
  show(views as _).bind _=_;rw[Mj a];rfl
def VY(ha:WA fr as rs)(hg:g (rs.map λx=>(zE x.2||x.1,x.2))=some o):zd fr g as=some (.ow o,as):=by
 unfold zd;rw[ha];show(XD as _).bind _=_;rw[Um];show(g _).bind _=_;rw[hg];rfl
def ER(ha:WA fr as rs)(hg:g (rs.map (·.2))=some (.im x)):WD (fP fr g) as (zE x||rs.all (·.1)) x:=by
 unfold WD fP;rw[ha];show(views as _).bind _=_;rw[Mj];show(g _).bind _=_;rw[hg];show(if _=true then _ else _:Option RV).bind _=_;rw[if_pos ⋯];rfl
def y2(ha:WA fr as rs)(hg:g (rs.map (·.2))=some (.im x))(e:zE x=true):WD (fP fr g) as true x:=by
 have:=ER ha hg;rwa [e]at this
def yB:WO dN as []:=rfl
def wV{os}(ha:WD a as s x)(hr:WO fr as os):WO (dC a fr) as (.lf s x::os):=by
 unfold WO dC at *;rw[ha];show((fr as).bind _)=_;rw[hr];rfl
def Y5{os}(h:WO fr as os)(hl:os.length<=sizeLine):yt fr as=some (.ow<|.nd .ls os,as):=by
 unfold yt;rw[h];show(if os.length<=sizeLine then _ else _)=_;rw[if_pos hl]
def zK{f g}(h1:f as=some (.nx as1))(h2:g as1=o):zt f g as=o:=by unfold zt;rwa [h1]
def V6{f g}(h1:f as=some (.rt o)):zt f g as=some (.rt o):=by unfold zt;rw[h1];rfl
def vV{f g}(h:WT c as true)(h1:f as=o):yU c f g as=o:=by unfold yU;rwa [h]
def zk{f g}(h:WT c as false)(h1:g as=o):yU c f g as=o:=by unfold yU;rwa [h]
def vX{i:Nat}{st}(h:WD f as s x)(hi:i<as.length):zL st i f as=some (.nx<|as.set i<|some<|.lf s x):=by
 unfold zL;rw[h];cases st<;>exact if_pos hi
def Wr{i:Nat}(h:f as=some (.ow o,as))(hi:i<as.length):zL false i f as=some (.nx<|as.set i<|some o):=by
 unfold zL;rw[h];exact if_pos hi
def O_{i:Nat}(h:f as=some (.ow o,as))(hi:i<as.length):zL true i f as=some (.nx<|as.set i<|some o.frz):=by
 unfold zL;rw[h];exact if_pos hi
def VM(h:WD f as true x):zv f as=some (.rt<|.lf true x):=by unfold zv;rw[h];rfl
def Wh(hl:ds.length=m)(h:c (VD n ds)=some (.rt o)):vL n m c ds=some o:=by unfold vL;rw[if_pos hl,h];rfl
theorem X_{f}(I:Nat->AS->Prop):∀(xs:List ZX) (k:Nat) (as:AS),(∀i x as,xs[i]? = some x->I (k+i) as->∃as1,g x as=some as1/\∃as2,f as1=some (.nx as2)/\I (k+i+1) as2)->I k as->∃as',forL g f xs as=some (.nx as')/\I (k+xs.length) as'
 | [],k,as,_,h=>⟨as,rfl,h⟩
 |x::r,k,as,d,h=>by
  obtain⟨a,j,b,l,m⟩:=d 0 x as rfl h;obtain⟨c,n,o⟩:=X_ I r (k+1) b (λi y as e q=>by
   obtain⟨u,p,v,s,t⟩:=d _ y as e (by rwa [show k+(i+1)=k+1+i by omega]);exact⟨u,p,v,s,by rwa [show k+1+i+1=k+(i+1)+1 by omega]⟩) m
  refine⟨c, ?_,by rwa [zzT,show k+_=k+1+r.length by omega]⟩;show(g x as).bind _=_;rw[j];show(f a).bind _=_
  rwa [l]
def Ub{f}(h:fi as=some (xs,as'))(h2:forL g f xs as'=o):WW fi g f as=o:=by unfold WW;rwa [h]
def N6{lo}{n i:Nat}{x}(h:(Xs lo n)[i]? = some x):x=(true,.int<|lo+i)/\i<n:=by
 unfold Xs at h;rw[zzI]at h;cases e:(List.range n)[i]? with
 |none=>rw[e]at h;cases h
 |some k=>
  rw[e]at h;obtain⟨a,b⟩:=zzG.mp e;rw[zyS]at a;rw[List.getElem_range]at b;subst b;exact⟨(zzY h).symm,a⟩
def ED(h:WA fr as [(u,.int j)])(h0:0<=j)(h1:j<1000000):ZP fr ZC as=some (Xs 0 j.toNat,as):=by
 unfold ZP;rw[h];show((if -_<=j/\j<2 ^ 62 then some _ else none).bind _)=_;rw[if_pos ⋯];rfl
def BR(ha:a as=some (.ow o,as))(hr:WA fr as rs):WA (aC a fr) as ((o.str,o.toD)::rs):=by
 unfold WA aC at *;rw[ha];show((fr as).bind _)=_;rw[hr];rfl
def Cg{i:Nat}(h:as[i]? = some (some o)):RV.view as (.bo i)=some (o.toD,o.kl):=by simp only[RV.view,h]
def Ju{i:Nat}(h:as[i]? = some (some o)):Ce as (.bo i)=some (o.frz,as.set i<|some o.frz):=by simp only[Ce,h]
def HI{i:Nat}(h:as[i]? = some (some o))(hs:o.str=true):BU as (.bo i)=some o:=by simp only[BU,h,hs,if_true]
def SZ{i:Nat}{os}(h:as[i]? = some (some<|.nd k os)):fV i as=some (.bo i,as):=by unfold fV;rw[h]
def OA{i:Nat}{os}(h:as[i]? = some (some<|.nd .ls os)):WY (fV i) as=some (kids (O.strs os)<|O.toDs os,as.set i<|some<|.lf (O.strs os)<|.lst<|O.toDs os):=by
 unfold WY;rw[SZ h];show(VB as _).bind _=_;have e:VB as (.bo i)=some ((O.strs os,.lst<|O.toDs os),as.set i<|some<|.lf (O.strs os)<|.lst<|O.toDs os):=by
  show((Ce as<|.bo i).bind _)=_;rw[Ju h];rfl
 rw[e];rfl
def Gy{f}(h1:g d as=some as1)(h2:f as1=some (.nx as2))(h3:forL g f r as2=o):forL g f (d::r) as=o:=by
 show(g d as).bind _=_;rw[h1];show(f as1).bind _=_
 rwa [h2]
def BZ{i:Nat}{os}(h:as[i]? = some (some<|.nd .ls os))(hl:os.length<sizeLine)(ha:WD a as s x):xB (ZM i (dC a dN) vN) as=some (.nx<|as.set i<|some<|.nd .ls<|os++[.lf s x]):=by
 unfold xB ZM;rw[h];have e:=wV ha yB;rw[e];show(Option.bind (match as[i]? with|some (some<|.nd .ls os)=>_|_=>none) _)=_;rw[h];show((vN os _).bind _).bind _=_;have e2:vN os [.lf s x]=some _:=if_pos hl;rw[e2];rfl
def Jl(h:f as=some (.ow o,as))(hg:g (o.str,o.toD) as=some as'):KB f g as=some (.nx as'):=by
 unfold KB;rw[h];show(g _ as).bind _=_;rw[hg];rfl
def EB{i:Nat}(h:as[i]? = some (some o))(hs:o.str=true):zv (fV i) as=some (.rt o):=by
 cases o with
 |lf a d=>unfold zv fV;rw[h];have:=hs;subst this;rfl
 |nd k b=>
  unfold zv;rw[SZ h];show(BU as _).bind _=_;rw[HI h hs];rfl
def Jy{os}(h:WO fr as os)(hl:os.length<=sizeLine)(ha:os.all O.isLf=true):WD (yg fr) as (O.strs os) (.tup<|O.toDs os):=by
 unfold WD yg;rw[h];show(if os.length<=sizeLine then some _ else _)=_;rw[if_pos hl];unfold Qs;rw[if_pos ha]
def Jg(ha:a as=some (.ow oa,as1))(hb:b as1=some (.ow ob,as2))(hg:g oa.toD ob.toD=some (.fl zs)):f2 a b g as=some (.ow<|.nd .ls<|zs.map<|OW<|oa.str&&ob.str,as2):=by
 unfold f2;rw[ha];show((b as1).bind _)=_;rw[hb];show((g oa.toD ob.toD).bind _)=_;rw[hg];show(if _=true then _ else _:Option RV).bind _=_;rw[if_pos<|by unfold meet;simp];rfl
def B_(ha:WD a as true x)(hb:WD b as true y)(hg:g x y=some (.im z)):WD (f2 a b g) as true z:=by
 have:=Cv ha hb hg
 rwa [show(zE z||_)=true by simp]at this
def Lb:∀zs:List D,zs.map (OW true)=zs.map (O.lf true)
 | []=>rfl
 |z::r=>⋯
def HH(ha:a as=some (.ow oa,as1))(hb:b as1=some (.ow ob,as2))(hg:g oa.toD ob.toD=some (.fl zs))(h1:oa.str=true)(h2:ob.str=true):f2 a b g as=some (.ow<|.nd .ls<|zs.map<|O.lf true,as2):=by
 have:=Jg ha hb hg
 rwa [h1,h2,show(true&&true)=true from rfl,Lb]at this
def Hf{os}(ha:a as=some (.ow o,as1))(hr:fr as1=some (os,as2)):dC a fr as=some (o::os,as2):=by
 unfold dC;rw[ha];show((fr as1).bind _)=_;rw[hr];rfl
def add_lists(h:xs.length+ys.length<=sizeLine):ZK .Add (.lst xs) (.lst ys)=some (.fl<|xs++ys):=if_pos h
def Bn(lo)(n:Nat):Xs lo (n+1)=(true,.int lo)::Xs (lo+1) n:=by
 unfold Xs;rw[List.range_succ_eq_map,zyQ,zyA]
 congr 1
 . simp
 . apply List.map_congr_left;intro i _;show(true,D.int _)=_
   congr 2
   omega
def Sx(ha:WA fr as rs)(hg:g (rs.map (·.2))=some (.im x))(e:rs.all (·.1)=true):WD (fP fr g) as true x:=by
 have:=ER ha hg;rwa [e,zyC]at this
def OC{fi cap g tt fe xs os}(h1:fi as=some (xs,as))(hl:xs.length<=sizeLine)(h2:wG g tt fe (X8 cap as) xs=some os):zQ fi cap g tt fe as=some (.ow<|.nd .ls os,as):=by
 unfold zQ;rw[h1];show(if xs.length<=sizeLine then _ else _)=_;rw[if_pos hl];rw[h2];rfl
end
def L0(h:Nat.ble n 1000=true):n<=sizeLine:=Nat.le_of_lt<|FL<|Nat.le_of_ble_eq_true h
def zl(h:Nat.ble (a+1) b=true):a<b:=Nat.le_of_ble_eq_true h
def xa(h0 : -(10 ^ 200)<i)(h1:i<10 ^ 200):i.natAbs<big:=by
 have:10 ^ 200<big:=by decide +kernel
 have e:((10 ^ 200:Nat):Int)=10 ^ 200:=by norm_cast
 omega
def GC(K:zzA)(kd:KD)(mg:Str->Option Value)(x:Str)(d:D):Prop:=∃v u,mg x=some u/\RelV v u/\∀(O:Addr->Prop) (H:Hp),Rp K kd O H v d
section
variable{X:Cx}{kd:KD}{K:zzA}{mg:Str->Option Value}
theorem GC.int(h:mg x=some (.int i t)):GC K kd mg x (.int i):=⟨.int i,_,h,⟨t,rfl⟩,λ_ _=>.int i⟩
theorem GC.str(h:mg x=some (.str y t)):GC K kd mg x (.str y):=⟨.str y,_,h,⟨t,rfl⟩,λ_ _=>.str y⟩
theorem GC.tup{n:Nat}(h:mg x=some (.ref a))(hk:K.lookup a=some ⟨.type "tuple",od,.seq its n,sl⟩)(hz:its.size<=sizeLine)(hv:zM vs its.toList)
 (hr:∀(O:Addr->Prop) (H:Hp),RpL K kd O H vs ds):GC K kd mg x (.tup ds):=⟨.ref a,_,h,rfl,λO H=>.tupK hk rfl rfl hz hv<|hr O H⟩
def u7(K:zzA)(g:Fn):Sp:=λvs H Q E=>∀kd:KD,Wv K kd g vs H Q E
end
inductive Ents(w:World):List DictEntry->List (Key×V)->Prop
 |nil:Ents w [] []
 |str {x:Str}{t:Tok}{v:V}{u:Value}{r:List DictEntry}{s:List (Key×V)}:RelV v u->Ents w r s->Ents w (⟨PyData.keyHash w.params x,.str x t,u⟩::r) ((.inr x,v)::s)
theorem Ents.keys:∀{es:List DictEntry}{kvs:List (Key×V)},Ents w es kvs->∀e ∈ es,∃k,(wZ P w).is k e.key=true/\e.hash=(wZ P w).hash k
 |_,_,.nil,_,m=>nomatch m
 |_,_,.str (x:=x) (t:=t) _ r,e,m=>by
  rcases zzC.mp m with rfl|m
  . exact⟨.inr x,XR P w x t,rfl⟩
  . exact r.keys e m
theorem Ents.pairs:∀{es:List DictEntry}{kvs:List (Key×V)},Ents w es kvs->∃vs,KV kvs vs/\Pairs (wZ P w) es vs/\vs.map (·.1)=kvs.map (·.1)
 |_,_,.nil=>⟨[],.nil,.nil,rfl⟩
 |_,_,.str (x:=x) (t:=t) (u:=u) h r=>by
  obtain⟨a,b,c,d⟩:=r.pairs;exact⟨(.inr x,u)::a,.cons ⟨rfl,h⟩ b,.cons (XR P w x t) rfl c,by rw[zyQ,zyQ,d]⟩
structure DctAt(w:World)(K:zzA)(a:Addr)(kvs:List (Key×V)):Prop where
 ex:∃es ep,K.lookup a=some {cls:=.type "dict",data:=.dict es ep}/\Ents w es.toList kvs
 nd:(kvs.map (·.1)).Nodup
 le:kvs.length<=sizeLine
 ns:(a==sysModules)=false
def uQ(l:List (Addr×List (Key×V)))(c:Str->Addr:=λ_=>0):KD:=⟨λa k=>l.lookup a=some k,c⟩
def lookup_mem{l:List (Addr×List (Key×V))}(h:l.lookup a=some k):(a,k) ∈ l:=by
 induction l with
 |nil=>cases h
 |cons p r b=>
  rw[List.lookup_cons]at h
  by_cases e:a=p.1
  . subst e;rw[beq_self_eq_true]at h;cases h;exact zzF
  . rw[show _=false from beq_eq_false_iff_ne.mpr e]at h;exact zzD _<|b h
def Ia{K}(h:∀p ∈ l,DctAt w K p.1 p.2):xW P w K (uQ l c):=λX n o r=>by
 subst o;subst r;refine⟨λa k v b d=>zzY<|b.symm.trans d,λa k b=>?_,λa k y b f=>?_⟩
 . obtain⟨g,i,e,_⟩:=(h _<|lookup_mem b).ex;exact⟨_,e⟩
 . have q:=h _<|lookup_mem b;obtain⟨g,i,e,j⟩:=q.ex;obtain⟨s,d,t,u⟩:=j.pairs;refine⟨q.le,q.ns,s,d,_,g,i,f _ _ e,⟨rfl,rfl,rfl⟩,rfl,λx m=>j.keys x (by simpa using m),t,by rw[u];exact q.nd⟩
section
variable{K:zzA}{kd:KD}{mg:Str->Option Value}
theorem GC.dct(h:mg x=some (.ref a))(hk:kd a kvs)(hr:∀(O:Addr->Prop) (H:Hp),RpM K kd O H kvs ds):GC K kd mg x (.dct ds):=⟨.ref a,_,h,rfl,λO H=>.dctK hk<|hr O H⟩
end
def isStar:Expr->Bool
 | .Starred .. => true
 |_=>false
def Ko(h:isStar a=false):starEach (a::es) env=(false,eval a env)::starEach es env:=by
 cases a<;>first|rfl|cases h
section
variable{as:AS}{f a b c:EF}{s t u:Bool}{x y z:D}{i j k:Int}
def J8(h:WD f as s x)(ho:M0 x=true:=by rfl):WD (Q1 f cl) as true (.bl<|Kf (ID x) cl):=by
 unfold WD Q1 at *;rw[h];show(if M0 x=true then _ else _)=_;rw[if_pos ho];rfl
def PP(h:WD f as s x)(e:Kf (ID x) cl=q)(ho:M0 x=true:=by rfl):WD (Q1 f cl) as true (.bl q):=by subst e;exact J8 h ho
def Dw:yj (.tup (x::ds)) (.int 0)=some (.im x):=by
 show Hw _=_;rw[show 0=((0:Nat):Int)from rfl,V8 rfl];rfl
def SG(h:WD f as s (.bl q)):WD (HW f) as true (.bl<|!q):=by
 unfold WD HW at *;rw[h];rfl
def FZ(h1:g w as0=some as1)(h2:WT tt as1 false)(h3:wG g tt fe as0 r=o):wG g tt fe as0 (w::r)=o:=by
 show(g w as0).bind _=_;rw[h1];show(tt as1).bind _=_
 rwa [h2]
def WE(f:EF)(as:AS)(x:D):Prop:=∃o,f as=some (.ow o,as)/\o.str=true/\o.toD=x
def RE(r:Option O)(x:D):Prop:=∃o,r=some o/\o.str=true/\o.toD=x
def WD.e(h:WD f as true x):WE f as x:=⟨_,h,rfl,rfl⟩
def WC{os}(h:WO fr as os)(hl:os.length<=sizeLine)(hs:O.strs os=true)(e:D.lst (O.toDs os)=x):WE (yt fr) as x:=⟨_,Y5 h hl,hs,e⟩
def vK(h:WE a as x)(hr:WA fr as rs):WA (aC a fr) as ((true,x)::rs):=by
 obtain⟨o,b,c,rfl⟩:=h;have:=BR b hr
 rwa [c]at this
def RR(ha:WE a as x)(hg:RE (g [(true,x)]) z):WE (zd (aC a aN) g) as z:=by
 obtain⟨o,b,c,d⟩:=hg;exact⟨o,VY (vK ha ym) (by show g [(zE x||true,x)]=_;rwa [zyC]),c,d⟩
def yb(ha:WE a as x)(hb:WE b as y)(hg:RE (g [(true,x),(true,y)]) z):WE (zd (aC a<|aC b aN) g) as z:=by
 obtain⟨o,c,d,e⟩:=hg;exact⟨o,VY (vK ha<|vK hb ym) (by show g [(zE x||true,x),(zE y||true,y)]=_;rwa [zyC,zyC]),d,e⟩
def zC(ha:WE a as x)(hb:WE b as y)(hc:WE c as w)(hg:RE (g [(true,x),(true,y),(true,w)]) z):WE (zd (aC a<|aC b<|aC c aN) g) as z:=by
 obtain⟨o,d,e,f⟩:=hg;exact⟨o,VY (vK ha<|vK hb<|vK hc ym) (by show g [(zE x||true,x),(zE y||true,y),(zE w||true,w)]=_;rwa [zyC,zyC,zyC]),e,f⟩
def ud(ha:WE a as x)(hb:WE b as y)(hg:g x y=some (.im z)):WD (f2 a b g) as true z:=by
 obtain⟨o,c,d,rfl⟩:=ha;obtain⟨p,e,f,rfl⟩:=hb;have:=Du c e hg
 rwa [d,f,Bool.and_true,zyC]at this
def sP(ha:WE a as x)(hb:WE b as y)(hg:g x y=some (.fl zs)):f2 a b g as=some (.ow<|.nd .ls<|zs.map<|O.lf true,as):=by
 obtain⟨o,c,d,rfl⟩:=ha;obtain⟨p,e,f,rfl⟩:=hb;exact HH c e hg d f
theorem L6:∀zs:List D,O.strs (zs.map<|O.lf true)=true
 | []=>rfl
 |_::r=>L6 r
theorem Mf:∀zs:List D,O.toDs (zs.map<|O.lf true)=zs
 | []=>rfl
 |z::r=>congrArg _<|Mf r
def Iv(ha:WE a as x)(hb:WE b as y)(hg:g x y=some (.fl zs)):WE (f2 a b g) as (.lst zs):=⟨_,sP ha hb hg,L6 zs,congrArg D.lst<|Mf zs⟩
def yQ(h:WE f as x)(hi:p<as.length):zL true p f as=some (.nx<|as.set p<|some<|.lf true x):=by
 obtain⟨o,a,b,rfl⟩:=h;have:=O_ a hi
 rwa [show o.frz = .lf true o.toD by unfold O.frz;rw[b]]at this
def JK(ha:WE a as x)(hg:g [x]=some (.im z)):WD (fP (aC a aN) g) as true z:=Sx (vK ha ym) hg rfl
def YM{os}(ha:a as=some (.ow o,as))(hr:WO fr as os):WO (dC a fr) as (o::os):=Hf ha hr
def Ld{os}(h:WO fr as os)(hl:os.length<=sizeLine):yg fr as=some (.ow<|Qs os,as):=by
 unfold yg;rw[h];show(if os.length<=sizeLine then some _ else _)=_;rw[if_pos hl]
def OZ{lo hi}(ha:WE a as y)(hl:fl as=some (lo,as))(hh:fh as=some (hi,as))(hg:g y lo hi=some (.fl zs)):WE (Ga a fl fh g) as (.lst zs):=by
 obtain⟨o,b,c,rfl⟩:=ha;refine⟨.nd .ls _, ?_,L6 zs,congrArg D.lst<|Mf zs⟩;unfold Ga;rw[b];show((fl as).bind _)=_;rw[hl];show((fh as).bind _)=_;rw[hh];show((g o.toD lo hi).bind _)=_;rw[hg];show(if _=true then some (RV.ow<|.nd .ls<|zs.map<|OW<|(some o.str).getD false)else none:Option RV).bind _=_;rw[if_pos ⋯,c];show some (RV.ow<|.nd .ls<|zs.map<|OW true,as)=_;rw[Lb]
def Nv:LY (.lst<|xs++ys) (some (xs.length:Int)) none=some (.fl ys):=by
 show some _=_
 congr 2
 unfold cutD;rw[HT.Fl,HT.N_,zzJ,Nat.min_eq_left ⋯,List.drop_left,List.take_of_length_le ⋯]
theorem X6:∀ds:List D,kids true ds=ds.map λd=>(true,d)
 | []=>rfl
 |d::r=>by show(zE d||true,d)::kids true r=_;rw[X6 r,zyC];rfl
def Fh(h:WE f as (.lst ds)):xx f as=some (ds.map λd=>(true,d),as):=by
 obtain⟨o,a,b,c⟩:=h;unfold xx;rw[a];show(G3 _).bind _=_;rw[b,c];show some _=_;rw[X6]
def B9(h:WD f as true (.tup ds)):WY f as=some (ds.map λd=>(true,d),as):=by
 unfold WY;rw[h];show some (kids true ds,as)=_;rw[X6]
end
section
variable{X:Cx}{pins:List (Addr×Obj)}{σ:List (Option V)}{H:Hp}{s:Shared}{h':Heap}
def Lq{t':Nat}{ch:List Addr}(I:Inv X pins σ H s)(hf:∀b ∈ ch,U2 X pins H b)(k:∀b u,b ∉ ch->s.heap.get? b=some u->h'.get? b=some u)(hp:s.heap.objs.size<=T)
 (new:Za X.prog X.w (upd H T o) h' T o):Inv X pins σ (upd H T o) {s with heap:=h',toks:=t'}:=by
 have hn:=I.hok.fresh hp;have nT:∀b u,s.heap.get? b=some u->b≠T:=λb u e z=>absurd (zzK (zxE e)<|by rwa [z])<|Nat.lt_irrefl _;have nc:∀b u,H b=some u->b ∉ ch:=λb u e z=>by have:=(hf b z).1;rw[e]at this;cases this
 refine I.step (g':=s.gens) (d':=s.drawn) (λb hb=>?_) (λb o _ _ hc e _=>k b o hc e) (λb o _ _ hc e _=>⟨o.slots,k b o hc e⟩) (λb o _ e n=>by rwa [zH<|nT b o e])
  (λb o hc e=>⟨o,k b o hc e⟩) (λb xs e=>by rwa [zH<|zR e hn]) (λb o u e=>by rwa [zH<|zR e hn]) (λb ps e=>⟨#[],by rw[zH<|zR e hn,e];simp⟩) (λm hm=>?_) (λb u e=>?_) I.bare
 . obtain⟨f0,f1,f2,f3,f4,f5⟩:=hf b hb;exact⟨f3,f1,f4,f5⟩
 . obtain⟨o,es,ep,ho,r⟩:=hm;exact⟨o,es,ep,k _ o (λz=>(hf _ z).2.1 rfl) ho,r⟩
 . by_cases hb:b=T
   . subst hb;rw[yn]at e;cases e;exact new
   . rw[zH hb]at e;refine(I.hok b u e).stay (λc v hc q=>k c v ?_ q) (λc q=>by rwa [zH<|zR q hn]) λc xs q=>by rwa [zH<|zR q hn]
     rcases hc with z|z
     . rw[z];exact nc b u e
     . exact nc c _ z
end
section
variable{as:AS}{f a b:EF}{s t:Bool}{x y z:D}
def Lz(h:WE f as (.tup ds)):xx f as=some (ds.map λd=>(true,d),as):=by
 obtain⟨o,a,b,c⟩:=h;unfold xx;rw[a];show(G3 _).bind _=_;rw[b,c];show some _=_;rw[X6]
def Sw:LY (.lst<|xs++ys) none (some (xs.length:Int))=some (.fl xs):=by
 show some _=_
 congr 2
 unfold cutD;rw[HT.Fl,HT.N_,zzJ,Nat.min_eq_left ⋯,List.drop_zero,Nat.sub_zero,List.take_left]
end
def Mz{t':Nat}{ch:List Addr}(I:Inv X pins σ H s)(hf:∀b ∈ ch,U2 X pins H b)(k:∀b u,b ∉ ch->s.heap.get? b=some u->h'.get? b=some u):Inv X pins σ H {s with heap:=h',toks:=t'}:=by
 have nc:∀b u,H b=some u->b ∉ ch:=λb u e z=>by have:=(hf b z).1;rw[e]at this;cases this
 refine I.step (g':=s.gens) (d':=s.drawn) (λb hb=>?_) (λb o _ _ hc e _=>k b o hc e) (λb o _ _ hc e _=>⟨o.slots,k b o hc e⟩) (λb o _ e n=>n)
  (λb o hc e=>⟨o,k b o hc e⟩) (λb xs e=>e) (λb o u e=>e) (λb ps e=>⟨#[],⋯⟩) (λm hm=>?_) (λb u e=>?_) I.bare
 . obtain⟨f0,f1,f2,f3,f4,f5⟩:=hf b hb;exact⟨f3,f1,f4,f5⟩
 . obtain⟨o,es,ep,ho,r⟩:=hm;exact⟨o,es,ep,k _ o (λz=>(hf _ z).2.1 rfl) ho,r⟩
 . refine(I.hok b u e).stay (λc v hc q=>k c v ?_ q) (λc q=>q) λc xs q=>q
   rcases hc with z|z
   . rw[z];exact nc b u e
   . exact nc c _ z
section
variable{X:Cx}{tg:Expr}
def Bw(I l1 l2:Nat)(h1:l1<I)(h2:l2<I):ZipApart (I+4) (I+2) (I+3) I (I+1) l1 l2:=by
 constructor<;>(show(_:Nat)≠_;omega)
end
section
variable{X:Cx}{kd:KD}{tg e:Expr}{fa:EF}
def Gd(st:Bool):List D->List D->List ZX
 |x::r,y::t=>(st,.tup [x,y])::Gd st r t
 |_,_=>[]
theorem NB(st):∀(xs ys:List D),(Gd st xs ys).length=min xs.length ys.length
 | [],_=>⋯
 |_::_,[]=>⋯
 |_::r,_::t=>by simp only[Gd,zzT,NB st r t];omega
theorem NO{st}:∀{xs ys:List D}{i:Nat}{y:ZX},(Gd st xs ys)[i]? = some y->∃d e,xs[i]? = some d/\ys[i]? = some e/\y=(st,.tup [d,e])
 | [],_,_,_,h=>by simp[Gd]at h
 |_::_,[],_,_,h=>by simp[Gd]at h
 |x::r,y::t,0,z,h=>by
  cases h;exact⟨x,y,rfl,rfl,rfl⟩
 |x::r,y::t,i+1,z,h=>by
  simp only[Gd]at h;obtain⟨d,e,h1,h2,h3⟩:=NO h;exact⟨d,e,⋯,⋯,h3⟩
end
def OL{K O}(h:RpL K kd O H vs ds)(hv:zM vs us)(e:vH ds=some ns):IntsAre us ns:=
 RpL.ind (P:=λvs ds=>∀us ns,zM vs us->vH ds=some ns->IntsAre us ns) (λus ns hv e=>by cases e;cases hv;exact .nil) (λ{v d vs ds} a _ ih us ns hv e=>by
  cases hv with
  |cons b t=>
   cases a with
   |int x=>
    obtain⟨ys,h1,h2⟩:=bS_<|e;cases h2;obtain⟨tk,rfl⟩:=b;exact .cons _ _ (ih _ _ t h1)
   |_=>cases e) h us ns hv e
def QY(n:Nat)(os:List O):AS:=os.map some++List.replicate (n-os.length) none
theorem EX:∀(ls:List O) {vs:List V}{fp:List Addr},ls.all O.isLf=true->RoL L N H vs ls fp->fp=[]
 | [],_,_,_,r=>by cases r;rfl
 |o::ls,_,_,h,r=>by
  rw[List.all_cons,zyB]at h;cases r with
  |cons a r=>
   cases a with
   |lf _=>rw[EX ls h.2 r];rfl
   |_=>exact absurd h.1 (by simp[O.isLf])
def Oh(h:RoL L N H vs ls fp):vs.length=ls.length:=RoL.length h
theorem E6:∀(ls:List O) {vs:List V}{fp:List Addr}{i:Nat}{o:O},ls.all O.isLf=true->RoL L N H vs ls fp->ls[i]? = some o->∃v,vs[i]? = some v/\Ro L N H v o []
 | [],_,_,_,_,_,_,e=>by simp at e
 |d::ls,_,_,i,o,h,r,e=>by
  rw[List.all_cons,zyB]at h;cases r with
  |cons a r=>
   cases i with
   |zero=>
    simp at e;subst e;cases a with
    |lf z=>exact⟨_,rfl,.lf z⟩
    |_=>exact absurd h.1 (by simp[O.isLf])
   |succ i=>
    obtain⟨v,b,c⟩:=E6 ls h.2 r ⋯;exact⟨v,⋯,c⟩
def M5{K}(ht:∀a,F a->H a≠none)(hn:T.Nodup)(hT:∀a ∈ T,H a≠none/\¬F a)(hl:ls.all O.isLf=true)(hN:(o::ls).length<=N.length)(ro:Zy K kd F (λ_=>False) (· ∈ T) H vs (o::ls) T):
 Rel K kd F (λ_=>False) [] (λi=>if i=0 then T else[]) (QY N.length (o::ls)) (L2.start N vs) H:=by
 have b:=Oh ro;have n:∀a,Gw [] (λi=>if i=0 then T else[]) a ↔ a ∈ T:=λa=>⟨λz=>z.elim ⋯ λ⟨i,y⟩=>by
  by_cases e:i=0
  . subst e;simpa using y
  . simp[e]at y,λz=>.inr ⟨0,⋯⟩⟩
 have p:∀f a,Lv F (λ_=>False) _ f a->Lv F (λ_=>False) _ f a:=λf a z=>z.imp id (n a).mp;refine⟨by unfold QY L2.start;simp[b];omega,λi c=>?_,λi=>?_,λi j a x y=>?_,zyI,(λ_ _ _ z=>nomatch z),ht,⋯,λa z=>hT a<|(n a).mp z,λi s e=>?_⟩
 . have:i≠0:=λz=>by subst z;unfold QY at c;simp at c
   simp[this]
 . by_cases e:i=0
   . subst e;simpa using hn
   . simp[e]
 . have g:i=0:=by
    by_cases e:i=0
    . exact e
    . simp[e]at x
   have h:j=0:=by
    by_cases e:j=0
    . exact e
    . simp[e]at y
   rw[g,h]
 . unfold QY at e;unfold L2.start
   by_cases c:i<(o::ls).length
   . rw[zyN (by rwa [zzB]),zzI]at e;obtain⟨d,k,l⟩:=zzW.mp e;subst l;rw[zyN<|by rwa [zzB,b]];cases ro with
     |cons a r=>
      rename_i v q A t;have u:=EX ls hl r;subst u;cases i with
      |zero=>
       simp at k;subst k;exact⟨v,rfl,by simpa using Xb.lv p a⟩
      |succ i=>
       obtain⟨w,g,h⟩:=E6 ls hl r ⋯;exact⟨w,by simp[g],by simpa using Xb.lv p h⟩
   . rw[zyP<|by rw[zzB];omega]at e;have:=zzZ e;have l:=(List.mem_replicate.mp this).2;subst l;have m:i≠0:=λz=>by subst z;exact c ⋯
     show _=[];rw[if_neg m]
def rg{α:Type}{P:List α->Prop}(h:∀a,P [a]):∀us:List α,us.length=1->P us
 | [a],_=>h a
def rj{α:Type}{P:List α->Prop}(h:∀a b,P [a,b]):∀us:List α,us.length=2->P us
 | [a,b],_=>h a b
def rh{α:Type}{P:List α->Prop}(h:∀a b c,P [a,b,c]):∀us:List α,us.length=3->P us
 | [a,b,c],_=>h a b c
def sO{α:Type}{P:List α->Prop}(h:∀a b c d,P [a,b,c,d]):∀us:List α,us.length=4->P us
 | [a,b,c,d],_=>h a b c d
def rz{α:Type}{P:List α->Prop}(h:∀a b c d e,P [a,b,c,d,e]):∀us:List α,us.length=5->P us
 | [a,b,c,d,e],_=>h a b c d e
section
variable{X:Cx}{kd:KD}
def aI:AE X kd (.Constant (.int c) j pos) (fC<|.int c):=Lj I_ λ_ _=>.int _
def aS:AE X kd (.Constant (.str c) j pos) (fC<|.str c):=Lj Jw λ_ _=>.str _
def aZ:AE X kd (.Constant .none j pos) (fC .non):=Lj Jt λ_ _=>.non
def aB:AE X kd (.Constant (.bool c) j pos) (fC<|.bl c):=Lj Dj λ_ _=>.bl _
def ax{K}(hkd:xW P w K kd)(ha:AE X kd a fa)(hb:AE X kd b fb)(h1:X.prog=P:=by rfl)(h2:X.w=w:=by rfl)(h3:X.K=K:=by rfl)(hm:Ll b:=by exact λ_ _=>rfl):AE X kd (.Subscript a b pos) (f2 fa fb yj):=AR (uM<|hkd _ h1 h2 h3) ha hb hm
def sv(z)(i:Nat)(hN:X.N.Nodup)(he:AE X kd e fa)(hi:X.N[i]? = some x:=by rfl)(hx:Loc X.env.scope x:=by first|exact Or.inl rfl|exact Or.inr rfl)(hs:swapsWith e (some<|.Name x pos') pos.line X.env=pure false:=by rfl)(hf:X.fn x=true\/X.env.scope.names.lookup x=some .local:=by first|exact Or.inl rfl|exact Or.inr rfl):
 Ed X kd (.Assign [.Name x pos'] e pos) (zL z i fa):=SE hN hi hx he hs hf
def an(i:Nat)(hN:X.N.Nodup)(hi:X.N[i]? = some x:=by rfl)(hx:Loc X.env.scope x:=by first|exact Or.inl rfl|exact Or.inr rfl)(hf:X.fn x=true\/X.env.scope.names.lookup x=some .local:=by first|exact Or.inl rfl|exact Or.inr rfl):AG X kd (.Name x pos) [i] (gN i):=ES hN hi hx hf
def av(i:Nat)(hN:X.N[i]? = some x:=by rfl)(hv:uh X.env.scope x:=by first|exact Or.inl rfl|exact Or.inr (Or.inl rfl)|exact Or.inr (Or.inr rfl))(hd:(x==("__debug__":Str))=false:=by decide)
 (hcd:(x==("__classdict__":Str))=false:=by decide):AE X kd (.Name x pos) (fV i):=IX<|Bz hN hv hd hcd
end
def Mv{α:Type}:List Str->List α->Str->Option α
 | [],_,_=>none
 |_,[],_=>none
 |n::ns,a::as,f=>if f=n then some a else Mv ns as f
theorem VI(f):∀(ns:List Str) (vs:List V),(ns.zip vs).lookup f=Mv ns vs f
 | [],_=>rfl
 |_::_,[]=>rfl
 |n::a,v::b=>by
  show List.lookup f (_::a.zip b)=if f=n then some v else Mv a b f
  rw[List.lookup_cons]
  by_cases h:f=n
  . rw[if_pos h,beq_iff_eq.mpr h]
  . rw[if_neg h,beq_eq_false_iff_ne.mpr h];exact VI f a b
theorem BS{K O}:∀{ns:List Str}{vs:List V}{ds:List D},RpL K kd O H vs ds->Mv ns ds f=some d->∃v,Mv ns vs f=some v/\Rp K kd O H v d
 | [],_,_,_,e=>by cases e
 |_::_,_,_,.nil,e=>by cases e
 |n::a,_,_,.cons (v:=v) (d:=b) (vs:=c) (ds:=g) h r,e=>by
  have e:(if f=n then some b else Mv a g f)=some d:=e;show ∃w,(if f=n then some v else Mv a c f)=some w/\_
  by_cases q:f=n
  . rw[if_pos q]at e ⊢;cases e;exact⟨v,rfl,h⟩
  . rw[if_neg q]at e ⊢;exact BS r e
theorem Nm:∀{ns:List Str}{vs:List α},f ∉ ns->Mv ns vs f=none
 | [],_,_=>rfl
 |_::_,[],_=>rfl
 |n::a,v::b,h=>by
  show(if f=n then some v else Mv a b f)=_;rw[if_neg λe=>h<|by rw[e];exact zzF];exact Nm λm=>h<|zzD _ m
theorem Mo:∀{ns:List Str}{vs:List V},ns.length=vs.length->f ∉ ns->X4 f v (ns.zip vs)=(ns++[f]).zip (vs++[v])
 | [],[],_,_=>rfl
 | [],_::_,h,_=>by cases h
 |_::_,[],h,_=>by cases h
 |n::a,w::b,h,c=>by
  show(if n=f then _::a.zip b else _::X4 f v (a.zip b))=_::(a++_).zip (b++_);rw[if_neg λe=>c (by rw[e];exact zzF),Mo (Nat.succ.inj h) λm=>c<|zzD _ m]
def zJ(cs:List Str)(f:Str):D->Option R0
 | .ob c ns ds=>if c ∈ cs then(Mv ns ds f).bind λd=>some (.im d)else none
 |_=>none
def CF(K:zzA)(kd:KD)(cs:List Str)(f:Str):Prop:=∀c ∈ cs,Cls K (kd.c c)/\yS K (kd.c c) f
section
variable{X:Cx}{kd:KD}{a e o:Expr}{es:List Expr}{fa fo fe:EF}{fr:AF}{pos pos' apos:Pos}{m f:Str}{cs:List Str}
def Jb(hc:CF X.K kd cs f)(ha:AE X kd a fa)(hb:attributeBase a f X.env (eval a X.env)=eval a X.env):AE X kd (.Attribute a f pos) (f1 fa<|zJ cs f):=by
 with_unfolding_all exact(yp (Ja ha hb) λσ H Q h=>by
  obtain⟨F,B,P,as,r,m,R,e,q⟩:=h;obtain⟨_,o,e⟩:=bS_<|e;obtain⟨⟨x,S⟩,s,e⟩:=bS_ e;obtain⟨z,b,e⟩:=bS_ e;obtain⟨y,t,e⟩:=bS_ e;cases e;refine Ym R o λv c u k g A=>?_;have C:=xu.vw k g s;have D:=WR k t λw E G I i J=>q w E c G I i<|A.trans J;cases C with
  |ob L T M=>
   obtain⟨l,b⟩:=ite_some' b;obtain⟨d,N,b⟩:=bS_ b;cases b;obtain⟨w,O,j⟩:=BS M N;exact⟨_,_,_,_,w,rfl,L,(hc _ l).1,(hc _ l).2,(VI _ _ _).trans O,D w u (λ_ _ z=>z) j⟩
  |_=>cases b)
def Af(X:Cx)(m:Str)(ta:TE)(t:TA):TE:=λσ H Q=>ta σ H λx H1=>∃a C dx fs k f fd ps sp,x = .ref a/\H1 a=some (.ins C dx fs)/\Cls X.K C/\Meth X.K C m f/\fs.lookup m=none/\
 FnOk X.prog X.w X.K X.mg X.base wH k f fd ps sp/\Room k X.A/\Binds X.K fd ps []/\t σ H1 λvs H2=>sp (x::vs) H2 Q λ_ _ _=>False
def JH(he:PE X o ta)(hx:wR wH X λ_ _ _=>False)(ha:PA X (e::es) t)
 (hst:starEach (e::es) X.env=(false,eval e X.env)::starEach es X.env) (hpl:(backTo pos<|starEach es X.env).any (·.1)=false)
 (ht:eval (.Call (.Attribute o m apos) (e::es) [] pos) X.env=(do
  let ov <-eval o X.env
  standAt apos.atName
  let(f,first) <-holding [ov] (getMethod ov m pl)
  callWith pos f first (backTo pos<|starEach (e::es) X.env) (backToKw pos<|keywordEach [] X.env))):
 PE X (.Call (.Attribute o m apos) (e::es) [] pos) (Af X m ta t):=by
 intro b s σ H Q I h;refine W.methodCall_KW (xX (he b s σ H _ I h) λu j hq0=>?_) ht;obtain⟨x,n,d,p,a,C,E,G,k,f,fd,J,K,v,w,c,g,l,F,y,z,q⟩:=hq0;subst v;obtain rfl:u=Value.ref a:=p;refine RL d w c g l ?_;refine W.callWith_K I.ok.mod.kin g.kp (xX (ha pos b j σ n _ d q) λA L ⟨B,M,i,r,D⟩=>⟨i.kIn, ?_⟩) hst hpl;refine Eb (vs:=.ref a::B) F y z .nil hx i (.cons rfl r) ?_
 rwa [zyD]
def Og(he:PE X o ta)(hx:wR wH X λ_ _ _=>False)
 (ht:eval (.Call (.Attribute o m apos) [] [] pos) X.env=(do
  let ov <-eval o X.env
  standAt apos.atName
  let(f,first) <-holding [ov] (getMethod ov m pl)
  callWith pos f first (backTo pos<|starEach [] X.env) (backToKw pos<|keywordEach [] X.env))):
 PE X (.Call (.Attribute o m apos) [] [] pos) (Af X m ta As):=by
 intro b s σ H Q I h;refine W.methodCall_KW (xX (he b s σ H _ I h) λu r hq0=>?_) ht;obtain⟨x,t,d,g,a,C,v,w,k,f,fd,y,z,i,j,c,e,l,F,n,p,q⟩:=hq0;subst i;obtain rfl:u=Value.ref a:=g;refine RL d j c e l ?_;exact W.callWith_K0 d.kIn e.kp<|Eb (vs:=[.ref a]) F n p .nil hx d (.cons rfl .nil) q
end
def LS:List (Str×Fn)->Str->Option Fn
 | [],_=>none
 |p::r,c=>if c=p.1 then some p.2 else LS r c
def MT(P:Program)(w:World)(K:zzA)(mg:Str->Option Value)(base:Heap)(kd:KD)(m:Str)(k:Nat)(tbl:List (Str×Fn)):Prop:=
 ∀c g,LS tbl c=some g->∃k' f fd ps,k'<=k/\Cls K (kd.c c)/\Meth K (kd.c c) m f/\FnOk P w K mg base wH k' f fd ps (Wv K kd g)/\Binds K fd ps []
section
variable{P:Program}{w:World}{K:zzA}{mg:Str->Option Value}{base:Heap}{kd:KD}{m:Str}{k:Nat}{tbl:List (Str×Fn)}
def YB:MT P w K mg base kd m k []:=λc g h=>by cases h
def OV(hk:k'<=k)(cl:Cls K (kd.c c))(me:Meth K (kd.c c) m f)(F:FnOk P w K mg base wH k' f fd ps (Wv K kd g))(b:Binds K fd ps [])(h:MT P w K mg base kd m k tbl):MT P w K mg base kd m k ((c,g)::tbl):=λc' g' e=>by
 have e:(if c'=c then some g else LS tbl c')=some g':=e
 by_cases q:c'=c
 . rw[if_pos q]at e;cases e;subst q;exact⟨k',f,fd,ps,hk,cl,me,F,b⟩
 . rw[if_neg q]at e;exact h c' g' e
end
def rE(m:Str):D->Option Str
 | .ob c ns _=>if m ∈ ns then none else some c
 |_=>none
def yC(tbl:List (Str×Fn))(m:Str)(fo:EF)(fr:AF):EF:=λas=>(fo as).bind λp=>(p.1.frz.view p.2).bind λw=>(rE m w.1).bind λc=>(LS tbl c).bind λg=>(fr p.2).bind λq=>(XD q.2 (p.1.frz::q.1)).bind λx=>(g x).bind λo=>some (.ow o,q.2)
section
variable{X:Cx}{kd:KD}{a e o:Expr}{es:List Expr}{fa fo fe:EF}{fr:AF}{pos pos' apos:Pos}{m f:Str}{cs:List Str}{tbl:List (Str×Fn)}{k:Nat}
def CN(hT:MT X.prog X.w X.K X.mg X.base kd m k tbl)(hr:Room k X.A)(ht:∀σ H Q,Ak X.K kd fr σ H Q->t σ H Q)(h:al X.K kd (yC tbl m fo fr) σ H Q):Af X m (al X.K kd fo) t σ H Q:=by
 obtain⟨F,B,ad,as,r,E,R,e,q⟩:=h;obtain⟨⟨p,i⟩,G,e⟩:=bS_<|e;obtain⟨⟨w,lv⟩,I,e⟩:=bS_ e;obtain⟨c,a,e⟩:=bS_ e;obtain⟨g,J,e⟩:=bS_ e;obtain⟨⟨L,j⟩,M,e⟩:=bS_ e;obtain⟨N,O,e⟩:=bS_ e;obtain⟨o,P,e⟩:=bS_ e;cases e;refine Ym R G λv l H1 z d S=>?_;have T:=xu.vw z d I;cases T with
 | @ob a' dx U C V W Y hl rl=>
  have a:(if m ∈ C then none else some U)=some c:=a
  by_cases n:m ∈ C
  . rw[if_pos n]at a;cases a
  . rw[if_neg n]at a;cases a;obtain⟨Z,f,fd,ps,s,cl,me,F1,b⟩:=hT _ _ J;refine⟨_,_,_,_,Z,f,fd,ps,_,rfl,Y,cl,me,(VI _ _ _).trans<|Nm n,F1,hr.mono s,b,ht _ _ _ ⟨F,B,l,i,L,j,z,M,λvs u H2 R2 x D=>?_⟩⟩;exact⟨_,N,o,R2.trk true,Ku R2 (.cons (d.grow D) x) O,P,Mw R2 λw T' H' R' y g'=>q w T' u H' R' y<|(S.trans D).trans g'⟩
 |_=>cases a
def Im(hT:MT X.prog X.w X.K X.mg X.base kd m k tbl)(hr:Room k X.A)(hx:wR wH X λ_ _ _=>False)(ho:AE X kd o fo)(ha:AA X kd (e::es) fr)
 (hst:starEach (e::es) X.env=(false,eval e X.env)::starEach es X.env) (hpl:(backTo pos<|starEach es X.env).any (·.1)=false)
 (ht:eval (.Call (.Attribute o m apos) (e::es) [] pos) X.env=(do
  let ov <-eval o X.env
  standAt apos.atName
  let(f,first) <-holding [ov] (getMethod ov m pl)
  callWith pos f first (backTo pos<|starEach (e::es) X.env) (backToKw pos<|keywordEach [] X.env))):
 AE X kd (.Call (.Attribute o m apos) (e::es) [] pos) (yC tbl m fo fr):=by
 with_unfolding_all exact(yp (JH ho hx ha hst hpl ht) λσ H Q h=>CN hT hr (λ_ _ _ z=>z) h)
def HC(hT:MT X.prog X.w X.K X.mg X.base kd m k tbl)(hr:Room k X.A)(hx:wR wH X λ_ _ _=>False)(ho:AE X kd o fo)
 (ht:eval (.Call (.Attribute o m apos) [] [] pos) X.env=(do
  let ov <-eval o X.env
  standAt apos.atName
  let(f,first) <-holding [ov] (getMethod ov m pl)
  callWith pos f first (backTo pos<|starEach [] X.env) (backToKw pos<|keywordEach [] X.env))):
 AE X kd (.Call (.Attribute o m apos) [] [] pos) (yC tbl m fo aN):=by
 with_unfolding_all exact(yp (Og ho hx ht) λσ H Q h=>CN hT hr (λσ H Q z=>by
  obtain⟨F,B,a,as,c,b,R,e,q⟩:=z;cases e;exact q [] a H R .nil Grow.refl) h)
end
abbrev Hu:=AS->Option AS
def bf(K:zzA)(kd:KD)(f:Hu):TS:=λD σ H=>∃F B ad as as',Rel K kd F B [] ad as σ H/\f as=some as'/\∀ad' H',Rel K kd F B [] ad' as' σ H'->Grow (Gw [] ad) H (Gw [] ad') H'->D.nx σ H'
@[irreducible] def D9(X:Cx)(kd:KD)(st:List Stmt)(f:Hu):Prop:=L3 X st<|bf X.K kd f
@[irreducible] def tG(X:Cx)(kd:KD)(st:Stmt)(f:Hu):Prop:=PS X st<|bf X.K kd f
def V2(i:Nat)(cs:List Str)(f:Str)(fe:EF):Hu:=λas=>(fe as).bind λp=>(VB p.2 p.1).bind λx=>match x.2[i]? with
 |some (some (.nd (.ob c ns) os))=>if c ∈ cs/\f ∉ ns/\ns.length<1000 then some (x.2.set i<|some<|.nd (.ob c<|ns++[f])<|os++[.lf x.1.1 x.1.2])else none
 |_=>none
def W3(f g:Hu):Hu:=λas=>(f as).bind g
section
variable{X:Cx}{kd:KD}{e o:Expr}{st:Stmt}{rest:List Stmt}{fe:EF}{f g:Hu}{pos pos':Pos}{cs:List Str}{n:Str}
def Zp(hc:CF X.K kd cs n)(ho:PE X o (Bd j))(he:AE X kd e fe)(hs:swapsWith e (some<|.Attribute o n pos') pos.line X.env=pure false):tG X kd (.Assign [.Attribute o n pos'] e pos) (V2 j cs n fe):=by
 with_unfolding_all exact(wU (Io ho he hs) λD σ H h=>by
  obtain⟨F,B,P,as,o,R,e,q⟩:=h;obtain⟨⟨p,t⟩,Q,e⟩:=bS_<|e;obtain⟨⟨⟨A,d⟩,w⟩,S,e⟩:=bS_ e;cases f:w[j]? with
  |none=>rw[f]at e;cases e
  |some T=>
   rw[f]at e
   match T,e,f with
   |some (.nd (.ob c E) G),e,f=>
    obtain⟨⟨I,U,V⟩,e⟩:=zB e;cases e;refine⟨F,B,P,as,p,t,R,Q,λv T1 W J Y x Z=>?_⟩;obtain⟨b,R2,rp,le⟩:=WU Y x S;obtain⟨v0,g,i⟩:=R2.sl j _ f;refine⟨v0,g, ?_⟩;generalize k:b j=fp1 at i;cases i with
    |ob hC L s rl=>
     rename_i l M C O fp;have ec:=hC.cl_eq;subst ec;have r:=R2.nd j;rw[k]at r;have y : Zy X.K kd F B (Gw [] b) J (O++[v]) (G++[.lf A d]) fp:=by
            have:=rl.append<|RoL.one<|Ro.lf rp
            rwa [zyD]at this
     refine⟨l,_,M,_,rfl,L,(hc _ I).1,(hc _ I).2,by rw[List.length_zip,s,Nat.min_self,<-s];exact V, ?_⟩;rw[Mo s U];obtain⟨R4,g4⟩:=R2.mut (n:=.nd (.ob c<|E++[n]) _) (zzG.mp f).1 k g (fp':=fp) (λa m=>m) (by rw[zyD];exact(zzV.mp r).2) (by rw[L];simp) λH' G' z gr kp=>.ob (.cl c) z (by rw[zzJ,zzJ,s];rfl)<|Zy.grow gr kp y;exact q _ _ R4<|(Z.trans<|Grow.less le).trans g4)
def E3(h:tG X kd st f):D9 X kd [st] f:=by
 with_unfolding_all exact(Rv h)
def ZT(h1:tG X kd st f)(h2:D9 X kd rest g):D9 X kd (st::rest) (W3 f g):=by
 with_unfolding_all exact(Qv (Wk h1 h2) λD σ H h=>by
  obtain⟨F,B,d,as,o,R,e,q⟩:=h;obtain⟨c,i,e⟩:=bS_<|e;exact⟨F,B,d,as,c,R,i,λa n j k=>⟨F,B,a,c,o,j,e,λb l R2 m=>q b l R2<|k.trans m⟩⟩)
end
def DW(c:Str):O:=.nd (.ob c []) []
def AX(x:Bool×D):O:=.lf x.1 x.2
def slot0:AS->Option O
 |some o::_=>if o.str=true then some o else none
 |_=>none
def Ar(c:Str)(n m:Nat)(f:Hu)(ds:List (Bool×D)):Option O:=if ds.length+1=m then(f<|QY n (DW c::ds.map AX)).bind slot0 else none
def Ah(K:zzA)(kd:KD)(c:Str)(g:Fn):Sp:=λvs H Q _=>∃F x dx vs' ds o,vs = .ref x::vs'/\H x=some (.ins (kd.c c) dx [])/\(∀a,F a->H a≠none)/\¬F x/\RpI K kd F (λ_=>False) (· = x) H vs' ds/\g ds=some o/\
 ∀T H',T.Nodup->(∀a ∈ T,a=x\/H a=none)->(∀b u,H b=some u->b≠x->H' b=some u)->(∀a ∈ T,H' a≠none)->Ro (λ_ v d=>Rp K kd (VP F (· ∈ T)) H' v d) (λa=>¬VP F (· ∈ T) a) H' (.ref x) o T->Q .non H'
def Jo{K}(h:RpI K kd F B G H vs ds):Zy K kd F B G H vs (ds.map AX) []:=by
 induction h with
 |nil=>exact .nil
 |cons a _ b=>exact RoL.cons (Ro.lf a) b
def HA(ds:List (Bool×D)):(ds.map AX).all O.isLf=true:=by
 induction ds with
 |nil=>rfl
 |cons x r a=>exact a
section
variable{P:Program}{w:World}{K:zzA}{mg:Str->Option Value}{base:Heap}
def SW{st}{k:Nat}(Fn:Fun K x qual st f fd)(S:FnScope N ps (zh st))(hps:ps.length<=N.length)
 (hb:∀(cdv:Value) (A:Around) (outer:List Env) (s:Shared) (H:Hp) (E:XK),Room k (A.deeper<|envOfC qual (zh st) s.heap.objs.size f cdv)->D9 (T7 wH P w K mg base N qual (zh st) f cdv A outer s H E).nox kd (Zs st) b):
 FnOk P w K mg base wH (k+1) f fd ps (Ah K kd c<|Ar c N.length ps.length b):=by
 with_unfolding_all (
 refine Fn.ok S (λvs H Q E h=>?_) λcdv A outer s H vs Q E hr h=>⟨_,hb cdv A outer s H E hr, ?_⟩
 . obtain⟨F,x,dx,vs',ds,o,rfl,_,_,_,rp,e,_⟩:=h;obtain⟨hl,_⟩:=ite_some'<|e;rw[zzT,rp.length,hl]
 . obtain⟨F,x,dx,vs',ds,o,rfl,hx,ht,hF,rp,e,q⟩:=h;obtain⟨hl,e⟩:=ite_some'<|e;obtain⟨as',e1,e2⟩:=bS_ e;have ro:Zy K kd F (λ_=>False) (· ∈ [x]) H (V.ref x::vs') (DW c::ds.map AX) [x]:=by
    have e0:(λa=>a ∈ [x])=(λa=>a=x):=⋯;rw[e0];exact RoL.cons (Ro.ob (.cl c) hx rfl .nil)<|Jo rp
   have R0:=M5 (N:=N) ht ⋯ (λa m=>by rw[zzR.mp m,hx];exact⟨⋯,hF⟩) (HA ds) (by rw[zzT,zzB];omega) ro;have gw:∀a,Gw [] (λi=>if i=0 then[x]else[]) a->a=x:=λa z=>z.elim ⋯ λ⟨i,y⟩=>by
    by_cases e:i=0
    . subst e;simpa using y
    . simp[e]at y
   refine⟨F,λ_=>False,_,_,as',R0,e1,λad' H' R' g'=>?_⟩
   match as',e2,R' with
   |some o'::r,e2,R'=>
    obtain⟨hs,e2⟩:=zB<|e2;subst e2;obtain⟨v,hv,ro'⟩:=R'.sl 0 _ rfl;have hv0:(L2.start N (V.ref x::vs'))[0]? = some _:=rfl;cases hv;have rt:=Ls R' (R'.nd 0) (λa m=>.inr ⟨0,m⟩) ro' hs;exact q _ H' rt.nd (λa m=>(g'.own a<|.inr ⟨0,m⟩).imp (gw a) id) (λb u h hb=>g'.keep b u h λz=>hb<|gw b z) rt.tr rt.ro)
end
section
variable{X:Cx}{kd:KD}{e:Expr}{es:List Expr}{fr:AF}{pos p:Pos}{g:Fn}
def Ik(h:al X.K kd (zd fr g) σ H Q):CP (kd.c c) (Ah X.K kd c g) [] E (Ak X.K kd fr) σ H Q:=by
 obtain⟨F,B,G,as,r,I,R,e,q⟩:=h;obtain⟨⟨p,J⟩,L,e⟩:=bS_<|e;obtain⟨M,A,e⟩:=bS_ e;obtain⟨o,C,e⟩:=bS_ e;cases e;refine⟨F,B,G,as,p,_,R,L,λN d f n i O x j l s P=>?_⟩;rw[zyD];have k:∀b u,f b=some u->upd (upd f j<|.own x) x (.ins (kd.c c) j []) b=some u:=λb u h=>by rwa [zH<|zR h l,zH<|zR h s]
 have D:∀b,upd _ x _ b=none->f b=none:=λb h=>by
  cases e:f b with
  |none=>rfl
  |some u=>rw[k b u e]at h;cases h
 refine⟨Lv F B _ true,x,j,N,M,o,rfl,yn,λa z y=>n.trk true a z<|D a y,λz=>n.trk true x z l, ?_,C,λT t S U V Y Z=>⟨rfl, ?_⟩⟩
 . have ra:=Ku n i A;clear e C A i
   induction ra with
   |nil=>exact .nil
   |cons h _ ih=>
    refine .cons ?_ ih;exact Rp.grow (W:=λ_=>False) (W':=_) ⟨λb u h _=>k b u h,λb e=>.inr<|by rwa [e]⟩<|h.less λa z=>z.elim ⋯ λy=>y.elim
 . exact Mw n (λw T' t R' v g'=>q w T' d t R' v<|O.trans g') _ T t S (λa m=>(U a m).elim (λe=>by rwa [e])<|D a) (λb u h=>V b u (k b u h)<|zR h l) Y Z
def HN(hC:kd.c c=C)(M:Mk X.K C f)(F:FnOk X.prog X.w X.K X.mg X.base wH k f fdt ps (Ah X.K kd c g))(hr:Room (k+1) X.A)(hg:Gl X x)(hm:X.mg x=some (.ref C))(hb:Binds X.K fdt ps [])(hx:wR wH X λ_ _ _=>False)
 (ha:AA X kd (e::es) fr) (hdb:(x==("__debug__":Str))=false) (he:starEach (e::es) X.env=(false,eval e X.env)::starEach es X.env) (hpl:(backTo pos<|starEach es X.env).any (·.1)=false):
 AE X kd (.Call (.Name x p) (e::es) [] pos) (zd fr g):=by
 subst hC
 with_unfolding_all exact(yp (Ci M F hr hg hm hb .nil hx ha hdb he hpl) λσ H Q h=>Ik h)
end
def Cb(mg:Str->Option Value):Str->Addr:=λx=>match mg x with
 |some (.ref a)=>a
 |_=>0
def Rh(h:mg x=some (.ref a)):Cb mg x=a:=by
 unfold Cb;rw[h]
structure CI(K:zzA)(kd:KD)(mg:Str->Option Value)(c:Str)(C:Addr):Prop where
 eq:kd.c c=C
 cl:Cls K C
 mks:W.makesIn K C=true
 kp:W.keepIn K (.ref C)=true
 mg:mg c=some (.ref C)
section
variable{P:Program}{w:World}{K:zzA}{mg:Str->Option Value}{base:Heap}{kd:KD}{m f:Str}{k:Nat}{tbl:List (Str×Fn)}{cs:List Str}{c:Str}{C:Addr}
def yo{k':Nat}{f}(ci:CI K kd mg c C)(me:Meth K C m f)(F:FnOk P w K mg base wH k' f fd ps (Wv K kd g))(hk:k'<=k)(b:Binds K fd ps [])(h:MT P w K mg base kd m k tbl):MT P w K mg base kd m k ((c,g)::tbl):=by
 have e:=ci.eq;subst e;exact OV hk ci.cl me F b h
def YS:CF K kd [] f:=λc h=>nomatch h
def ZL(ci:CI K kd mg c C)(n:yS K C f)(h:CF K kd cs f):CF K kd (c::cs) f:=λb a=>by
 have e:=ci.eq;subst e
 rcases zzC.mp a with rfl|a
 . exact⟨ci.cl,n⟩
 . exact h b a
def CI.mk'{f}(ci:CI K kd mg c C)(me:Meth K C "__init__" f):Mk K C f:=⟨ci.mks,me.at_,me.fn,ci.kp⟩
end
def VR{prog w A E s it l}{i:Nat}{items x Q}(hit:s.heap.IsTupleIter it l i)(hl:s.heap.IsTuple l items)(hx:items[i]? = some x)
 (h:∀h':Heap,h'.IsTupleIter it l (i+1)->Heap.SameBut it s.heap h'->Q x {s with heap:=h'}):wpAny (model prog w) A (Builtin.SmallTypes.nextOf<|.ref it) Q E s:=by
 obtain⟨o,ho,hc,hd⟩:=id hit;obtain⟨ol,hol,hcl,nl,hdl⟩:=hl;refine zxB<|wpAny_callSpecial?_slot hit.typeIs F.slot_tuple_iterator_next<|zxJ F.slot_tuple_iterator_next hit.typeIs F.entry_tuple_iterator_next ?_;unfold Builtin.«tuple_iterator.__next__»
 wp_walk using wpAny_field ho hd rfl,wpAny_seqItems hol hdl
 rw[hdl]
 wp_walk
 rw[zyH,hx];refine zxB<|wpAny_setField ho hd (by simp) ?_;refine zxC ⟨x,rfl,zxC<|h _ ⟨_,Heap.get?_update_self _ ho<|Obj.isFreed_of_fields<|Obj.data_mapFields hd _,(Obj.cls_mapFields o _).trans hc,(Obj.data_mapFields hd _).trans<|by simp[rawInt]⟩<|Heap.SameBut.update _ _ _⟩
def Q9{prog w A E s it l}{i:Nat}{items Q}(hh:A.handled=none)(hit:s.heap.IsTupleIter it l i)(hl:s.heap.IsTuple l items)(hx:items[i]? = none)
 (h:∀(h':Heap) (e:Addr),Heap.ExtBut it s.heap h'->(∃o,h'.get? e=some o/\o.cls = .type "StopIteration")->E (.ref e) {s with heap:=h'}):wpAny (model prog w) A (Builtin.SmallTypes.nextOf<|.ref it) Q E s:=by
 obtain⟨o,ho,hc,hd⟩:=id hit;obtain⟨ol,hol,hcl,nl,hdl⟩:=hl;refine zxB<|wpAny_callSpecial?_slot hit.typeIs F.slot_tuple_iterator_next<|zxJ F.slot_tuple_iterator_next hit.typeIs F.entry_tuple_iterator_next ?_;unfold Builtin.«tuple_iterator.__next__»
 wp_walk using wpAny_field ho hd rfl,wpAny_seqItems hol hdl
 rw[hdl]
 wp_walk
 rw[zyH,hx];refine zxB (wpAny_rule<|zxB<|wpAny_setField ho hd (by simp) ?_)
 wp_walk
 refine wpAny_raiseNew_none hh<|h _ _ (((Heap.SameBut.update _ _ _).extBut.push _).push _) ⟨_,zxF _ rfl,rfl⟩
def Xm(b:Bool)(h:Heap)(it l:Addr)(k:Nat):Prop:=if b=true then h.IsTupleIter it l k else h.IsListIter it l k
def Rg(b:Bool)(h:Heap)(l:Addr)(xs:Array Value):Prop:=if b=true then h.IsTuple l xs else h.IsList l xs
def xU{prog w A E s it l}{i:Nat}{items x Q}:∀{b:Bool},Xm b s.heap it l i->Rg b s.heap l items->items[i]? = some x->
 (∀h':Heap,Xm b h' it l (i+1)->Heap.SameBut it s.heap h'->Q x {s with heap:=h'})->wpAny (model prog w) A (Builtin.SmallTypes.nextOf<|.ref it) Q E s
 |true,h1,h2,h3,h4=>VR h1 h2 h3 h4
 |false,h1,h2,h3,h4=>wpAny_nextOf_list_item h1 h2 h3 h4
def YD{prog w A E s it l}{i:Nat}{items Q}(hh:A.handled=none):∀{b:Bool},Xm b s.heap it l i->Rg b s.heap l items->items[i]? = none->
 (∀(h':Heap) (e:Addr),Heap.ExtBut it s.heap h'->(∃o,h'.get? e=some o/\o.cls = .type "StopIteration")->E (.ref e) {s with heap:=h'})->wpAny (model prog w) A (Builtin.SmallTypes.nextOf<|.ref it) Q E s
 |true,h1,h2,h3,h4=>Q9 hh h1 h2 h3 h4
 |false,h1,h2,h3,h4=>wpAny_nextOf_list_end hh h1 h2 h3 h4
def Xm.ext{a h h' it l}{k:Nat}:∀{b:Bool},Xm b h it l k->Heap.ExtBut a h h'->it≠a->Xm b h' it l k
 |true,x,e,n=>Heap.IsTupleIter.extBut x e n
 |false,x,e,n=>Heap.IsListIter.extBut x e n
def Rg.ext{a h h' l xs}:∀{b:Bool},Rg b h l xs->Heap.ExtBut a h h'->l≠a->Rg b h' l xs
 |true,x,e,n=>Heap.IsTuple.extBut x e n
 |false,x,e,n=>Heap.IsList.extBut x e n
def Xm.at{h h' it l}{k:Nat}(k':∀o,h.get? it=some o->h'.get? it=some o):∀{b:Bool},Xm b h it l k->Xm b h' it l k
 |true,⟨o,e,c⟩=>⟨o,k' o e,c⟩
 |false,⟨o,e,c⟩=>⟨o,k' o e,c⟩
theorem Xm.push{h it l}{k:Nat}{o b}(x:Xm b h it l k):Xm b (h.push o) it l k:=x.at λ_ e=>zxD _ e
def Gf{M A E s a Q}(h:Q (s.heap.get? a) s):wpAny M A (loadIfAlive a) Q E s:=λΓ p hΓ=>⋯
def L1(h:Heap)(z TI TO:Addr)(f0:Value)(f1:Bool):Prop:=h.get? z=some {cls:=.type "zip",data:=.fields #[f0,.bool f1,.bool false,.ref TI,.ref TO]}
def Zf(f0:Value):Prop:=f0 = .none\/∃n:Int,f0=rawInt n
def Ex{prog w A E s z TI TO f0 f1 Q}(hz:L1 s.heap z TI TO f0 f1)(hf:Zf f0)(h1:Q true s)(h2:∀h' f1',L1 h' z TI TO f0 f1'->Heap.SameBut z s.heap h'->Q false {s with heap:=h'}):
 wpAny (model prog w) A (Builtin.SmallTypes.ownedTupleIsFree<|.ref z) Q E s:=by
 rcases hf with rfl|⟨n,rfl⟩
 . exact zxB<|wpAny_field hz rfl rfl<|zxC h1
 . refine zxB<|wpAny_field hz rfl rfl ?_;refine zxB<|Gf ?_;cases e:s.heap.get? n.toNat with
   |none=>exact zxC h1
   |some o=>
    refine zxB<|wpAny_field hz rfl rfl ?_;cases f1 with
    |true=>exact zxC (h2 s.heap true hz<|Heap.SameBut.refl _ _)
    |false=>exact zxB (wpAny_setField_rec hz ⋯ λh' hz' hs=>zxC<|h2 h' true hz' hs)
def S5{b1 b2 prog w A E s z TI TO i1 i2 l1 l2}{k1 k2:Nat}{xs ys}{x y a b f0:Value}{f1:Bool}{Q:Value->Shared->Prop}(D:ZipApart z TI TO i1 i2 l1 l2)
 (hz:L1 s.heap z TI TO f0 f1) (hf:Zf f0) (hTI:IsPair s.heap TI (.ref i1) (.ref i2)) (hTO:IsPair s.heap TO a b) (h1:Xm b1 s.heap i1 l1 k1) (h2:Xm b2 s.heap i2 l2 k2) (q1:Rg b1 s.heap l1 xs) (q2:Rg b2 s.heap l2 ys) (hx:xs[k1]? = some x) (hy:ys[k2]? = some y)
 (h:∀(h':Heap) (g0:Value) (g1:Bool),L1 h' z TI TO g0 g1->Zf g0->(∃p q,IsPair h' TO p q)->Xm b1 h' i1 l1 (k1+1)->Xm b2 h' i2 l2 (k2+1)->IsPair h' s.heap.objs.size x y->(∀c o,c≠z->c≠TO->c≠i1->c≠i2->s.heap.get? c=some o->h'.get? c=some o)->Q (.ref s.heap.objs.size) {s with heap:=h'}):
 wpAny (model prog w) A (Builtin.«zip.__next__» {pos:=[.ref z]}) (λfin s'=>∃v,fin=Fin.done (Flow.ret v)/\Q v s') E s:=by
 change wpAny (model prog w) A (bind (field (.ref z) 2) _) _ E s;refine zxB<|wpAny_field hz rfl rfl ?_;refine zxB<|wpAny_field hz rfl rfl<|zxB<|wpAny_seqItems hTI rfl ?_;refine zxB<|Ex hz hf ?_ λh₁ g1 z1 hs₁=>?_
 . rw[if_pos rfl];refine zxB<|wpAny_rule<|zxB<|wpAny_field hz rfl rfl ?_;refine zxB<|wpAny_setField_rec hz (by simp) λh₁ hz₁ hs₁=>?_;refine zxB ?_;rw[show(#[Value.ref i1,Value.ref i2].toList.zipIdx)=[(Value.ref i1,0),(Value.ref i2,1)]from rfl,List.forIn_cons];have x1:=h1.ext hs₁.extBut D.i1z;have y1:=q1.ext hs₁.extBut D.l1z;refine zxB<|zxB<|wpAny_onRaise ?_;refine zxB<|xU x1 y1 hx λh₂ x2 hs₂=>zxC ?_;have t2:IsPair h₂ TO a b:=hs₂.extBut TO _ D.TOi1<|hs₁.extBut TO _ D.TOz hTO;refine zxB<|wpAny_seqItems t2 rfl<|zxB<|wpAny_updateSeq_pair t2 λh₃ t3 hs₃=>?_;refine zxB<|wpAny_letGo<|zxC ?_;have x3:=((h2.ext hs₁.extBut D.i2z).ext hs₂.extBut D.i12.symm).ext hs₃.extBut D.TOi2.symm;have y3:=((q2.ext hs₁.extBut D.l2z).ext hs₂.extBut D.l2i1).ext hs₃.extBut D.l2TO;change wpAny (model prog w) A (forIn [(Value.ref i2,1)] _ _) _ E _;rw[List.forIn_cons];refine zxB<|zxB<|wpAny_onRaise ?_;refine zxB<|xU x3 y3 hy λh₄ x4 hs₄=>zxC ?_;have t4:IsPair h₄ TO x b:=hs₄.extBut TO _ D.TOi2 t3;refine zxB<|wpAny_seqItems t4 rfl<|zxB<|wpAny_updateSeq_pair t4 λh₅ t5 hs₅=>?_;refine zxB<|wpAny_letGo<|zxC ?_;change wpAny (model prog w) A (forIn [] _ _) _ E _;rw[List.forIn_nil];refine zxC ?_;have t5:IsPair h₅ TO x y:=t5;refine zxB<|wpAny_seqItems t5 rfl<|zxB<|wpAny_newTuple ?_;have e5:h₅.objs.size=s.heap.objs.size:=hs₅.1.trans<|hs₄.1.trans<|hs₃.1.trans<|hs₂.1.trans hs₁.1;have z1:L1 h₁ z TI TO .ellipsis f1:=hz₁;have z5:L1 h₅ z TI TO .ellipsis f1:=hs₅.extBut z _ D.TOz.symm<|hs₄.extBut z _ D.i2z.symm<|hs₃.extBut z _ D.TOz.symm<|hs₂.extBut z _ D.i1z.symm z1;refine zxB ?_;refine zxB<|wpAny_setField_rec (zxD _ z5) (by simp) λh₇ z7 hs₇=>?_;refine wpAny_setField_rec z7 (by simp) λh₆ z6 hs₆'=>zxC ⟨_,rfl, ?_⟩;have hs₆:=hs₇.trans hs₆';have lt:=λc o q n=>hs₆.extBut c o n<|zxD _ q;have nz:h₅.objs.size≠z:=λe=>by
    have:=zxE z5;rw[<-e]at this;exact Nat.lt_irrefl _ this
   rw[e5];refine h h₆ (rawInt (h₅.objs.size:Int)) false z6 (.inr ⟨_,rfl⟩) ⟨_,_,lt TO _ t5 D.TOz⟩ ?_ ?_ ?_ λc o c1 c2 c3 c4 q=>?_
   . have:=((x2.ext hs₃.extBut D.TOi1.symm).ext hs₄.extBut D.i12).ext hs₅.extBut D.TOi1.symm;exact(Xm.push this).ext hs₆.extBut D.i1z
   . exact(Xm.push<|x4.ext hs₅.extBut D.TOi2.symm).ext hs₆.extBut D.i2z
   . rw[<-e5];exact hs₆.extBut _ _ nz<|zxF _ rfl
   . exact lt c o (hs₅.extBut c o c2<|hs₄.extBut c o c4<|hs₃.extBut c o c2<|hs₂.extBut c o c3<|hs₁.extBut c o c1 q) c1
 . rw[if_neg<|by simp];change wpAny (model prog w) A (bind (forIn #[Value.ref i1,Value.ref i2] _ _) _) _ E _;rw[<-Array.forIn_toList,List.forIn_cons];have x1:=h1.ext hs₁.extBut D.i1z;have y1:=q1.ext hs₁.extBut D.l1z;refine zxB<|zxB<|zxB<|zxG ?_;refine zxB<|xU x1 y1 hx λh₂ x2 hs₂=>zxC<|zxC ?_;change wpAny (model prog w) A (forIn [Value.ref i2] _ _) _ E _;rw[List.forIn_cons];have x3:=(h2.ext hs₁.extBut D.i2z).ext hs₂.extBut D.i12.symm;have y3:=(q2.ext hs₁.extBut D.l2z).ext hs₂.extBut D.l2i1;refine zxB<|zxB<|zxG ?_;refine zxB<|xU x3 y3 hy λh₄ x4 hs₄=>zxC<|zxC ?_;change wpAny (model prog w) A (forIn [] _ _) _ E _;rw[List.forIn_nil];refine zxC<|zxB<|wpAny_newTuple ?_ (show 2<=sizeLine by decide);refine zxC ⟨_,rfl, ?_⟩;have e4:h₄.objs.size=s.heap.objs.size:=hs₄.1.trans<|hs₂.1.trans hs₁.1;have z4:L1 h₄ z TI TO f0 g1:=hs₄.extBut z _ D.i2z.symm<|hs₂.extBut z _ D.i1z.symm z1;have t4:IsPair h₄ TO a b:=hs₄.extBut TO _ D.TOi2<|hs₂.extBut TO _ D.TOi1<|hs₁.extBut TO _ D.TOz hTO;rw[e4];refine h _ f0 g1 (zxD _ z4) hf ⟨_,_,zxD _ t4⟩ (Xm.push<|x2.ext hs₄.extBut D.i12) (Xm.push x4) ?_ λc o c1 c2 c3 c4 q=>zxD _<|hs₄.extBut c o c4<|hs₂.extBut c o c3<|hs₁.extBut c o c1 q;rw[<-e4];exact zxF _ rfl
def O9{b1 b2 prog w A E s z TI TO i1 i2 l1 l2}{k1 k2:Nat}{xs ys a b f0 f1 Q}(hh:A.handled=none)(D:ZipApart z TI TO i1 i2 l1 l2)
 (hz:L1 s.heap z TI TO f0 f1) (hf:Zf f0) (hTI:IsPair s.heap TI (.ref i1) (.ref i2)) (hTO:IsPair s.heap TO a b) (h1:Xm b1 s.heap i1 l1 k1) (h2:Xm b2 s.heap i2 l2 k2) (q1:Rg b1 s.heap l1 xs) (q2:Rg b2 s.heap l2 ys) (hx:xs[k1]? = none\/ys[k2]? = none)
 (h:∀(h':Heap) (e:Addr),(∀c o,c≠z->c≠TO->c≠i1->c≠i2->s.heap.get? c=some o->h'.get? c=some o)->(∃o,h'.get? e=some o/\o.cls = .type "StopIteration")->E (.ref e) {s with heap:=h'}):
 wpAny (model prog w) A (Builtin.«zip.__next__» {pos:=[.ref z]}) Q E s:=by
 have fin:∀(h':Heap) (e:Addr),(∃f g,L1 h' z TI TO f g)->(∀c o,c≠z->c≠TO->c≠i1->c≠i2->s.heap.get? c=some o->h'.get? c=some o)->(∃o,h'.get? e=some o/\o.cls = .type "StopIteration")->
  wpAny (model prog w) A (setField (.ref z) 0 Value.none) (λ_ s''=>E (.ref e) s'') E {s with heap:=h'}:=λh' e ⟨f,g,hf⟩ kk ⟨o,ho,hc⟩=>by
  refine wpAny_setField_rec (s:={s with heap:=h'}) hf (by simp) λh'' z'' hs=>?_;have ne:e≠z:=λe'=>by
   subst e';have:=(hf).symm.trans ho;cases this;exact absurd (show Value.type "zip"=Value.type "StopIteration" from hc) (by decide)
  exact h h'' e (λc o c1 c2 c3 c4 q=>hs.extBut c o c1<|kk c o c1 c2 c3 c4 q) ⟨o,hs.extBut e o ne ho,hc⟩
 change wpAny (model prog w) A (bind (field (.ref z) 2) _) _ E s;refine zxB<|wpAny_field hz rfl rfl ?_;refine zxB<|wpAny_field hz rfl rfl<|zxB<|wpAny_seqItems hTI rfl ?_;refine zxB<|Ex hz hf ?_ λh₁ g1 z1 hs₁=>?_
 . rw[if_pos rfl];refine zxB<|wpAny_rule<|zxB<|wpAny_field hz rfl rfl ?_;refine zxB<|wpAny_setField_rec hz (by simp) λh₁ hz₁ hs₁=>?_;refine zxB ?_;rw[show(#[Value.ref i1,Value.ref i2].toList.zipIdx)=[(Value.ref i1,0),(Value.ref i2,1)]from rfl,List.forIn_cons];have z1:=hz₁;have x1:=h1.ext hs₁.extBut D.i1z;have y1:=q1.ext hs₁.extBut D.l1z;refine zxB<|zxB<|wpAny_onRaise ?_;cases e1:xs[k1]? with
   |none=>exact zxB (YD hh x1 y1 e1 λh' e ex ho=>fin h' e ⟨_,_,ex z _ D.i1z.symm z1⟩ (λc o c1 c2 c3 c4 q=>ex c o c3<|hs₁.extBut c o c1 q) ho)
   |some x=>
    have hy:ys[k2]? = none:=hx.resolve_left (by rw[e1];simp);refine zxB<|xU x1 y1 e1 λh₂ x2 hs₂=>zxC ?_;have t2:=hs₂.extBut TO _ D.TOi1<|hs₁.extBut TO _ D.TOz hTO;refine zxB<|wpAny_seqItems t2 rfl<|zxB<|wpAny_updateSeq_pair t2 λh₃ t3 hs₃=>?_;refine zxB<|wpAny_letGo<|zxC ?_;have x3:=((h2.ext hs₁.extBut D.i2z).ext hs₂.extBut D.i12.symm).ext hs₃.extBut D.TOi2.symm;have y3:=((q2.ext hs₁.extBut D.l2z).ext hs₂.extBut D.l2i1).ext hs₃.extBut D.l2TO;change wpAny (model prog w) A (forIn [(Value.ref i2,1)] _ _) _ E _;rw[List.forIn_cons];refine zxB<|zxB<|wpAny_onRaise ?_;exact zxB<|YD hh x3 y3 hy λh' e ex ho=>fin h' e ⟨_,_,ex z _ D.i2z.symm<|hs₃.extBut z _ D.TOz.symm<|hs₂.extBut z _ D.i1z.symm z1⟩
     (λc o c1 c2 c3 c4 q=>ex c o c4<|hs₃.extBut c o c2<|hs₂.extBut c o c3<|hs₁.extBut c o c1 q) ho
 . rw[if_neg<|by simp];change wpAny (model prog w) A (bind (forIn #[Value.ref i1,Value.ref i2] _ _) _) _ E _;rw[<-Array.forIn_toList,List.forIn_cons];have x1:=h1.ext hs₁.extBut D.i1z;have y1:=q1.ext hs₁.extBut D.l1z;refine zxB<|zxB<|zxB<|zxG ?_;cases e1:xs[k1]? with
   |none=>exact zxB (YD hh x1 y1 e1 λh' e ex ho=>h h' e (λc o c1 c2 c3 c4 q=>ex c o c3<|hs₁.extBut c o c1 q) ho)
   |some x=>
    have hy:ys[k2]? = none:=hx.resolve_left (by rw[e1];simp);refine zxB<|xU x1 y1 e1 λh₂ x2 hs₂=>zxC<|zxC ?_;change wpAny (model prog w) A (forIn [Value.ref i2] _ _) _ E _;rw[List.forIn_cons];have x3:=(h2.ext hs₁.extBut D.i2z).ext hs₂.extBut D.i12.symm;have y3:=(q2.ext hs₁.extBut D.l2z).ext hs₂.extBut D.l2i1;refine zxB<|zxB<|zxG ?_;exact zxB<|YD hh x3 y3 hy λh' e ex ho=>h h' e (λc o c1 c2 c3 c4 q=>ex c o c4<|hs₂.extBut c o c3<|hs₁.extBut c o c1 q) ho
def Ma{b1 b2 prog w A E s z TI TO i1 i2 l1 l2}{k1 k2:Nat}{xs ys x y a b f0 f1 Q}(D:ZipApart z TI TO i1 i2 l1 l2)
 (hz:L1 s.heap z TI TO f0 f1) (hf:Zf f0) (hTI:IsPair s.heap TI (.ref i1) (.ref i2)) (hTO:IsPair s.heap TO a b) (h1:Xm b1 s.heap i1 l1 k1) (h2:Xm b2 s.heap i2 l2 k2) (q1:Rg b1 s.heap l1 xs) (q2:Rg b2 s.heap l2 ys) (hx:xs[k1]? = some x) (hy:ys[k2]? = some y)
 (h:∀(h':Heap) (g0:Value) (g1:Bool),L1 h' z TI TO g0 g1->Zf g0->(∃p q,IsPair h' TO p q)->Xm b1 h' i1 l1 (k1+1)->Xm b2 h' i2 l2 (k2+1)->IsPair h' s.heap.objs.size x y->(∀c o,c≠z->c≠TO->c≠i1->c≠i2->s.heap.get? c=some o->h'.get? c=some o)->Q (some<|.ref s.heap.objs.size) {s with heap:=h'}):
 wpAny (model prog w) A (pyNext<|.ref z) Q E s:=by
 have hT:s.TypeIs (.ref z) "zip":=⟨_,hz,rfl⟩;exact zxB<|wpAny_attempt<|wpAny_callSpecial?_slot hT F.slot_zip_next<|zxJ F.slot_zip_next hT F.entry_zip_next (S5 D hz hf hTI hTO h1 h2 q1 q2 hx hy λh' g0 g1 a1 a2 a3 a4 a5 a6 a7=>zxC<|h h' g0 g1 a1 a2 a3 a4 a5 a6 a7)<|F.args_zip_next_1 _
def NY{b1 b2 prog w A E s z TI TO i1 i2 l1 l2}{k1 k2:Nat}{xs ys a b f0 f1 Q}(hh:A.handled=none)(D:ZipApart z TI TO i1 i2 l1 l2)
 (hz:L1 s.heap z TI TO f0 f1) (hf:Zf f0) (hTI:IsPair s.heap TI (.ref i1) (.ref i2)) (hTO:IsPair s.heap TO a b) (h1:Xm b1 s.heap i1 l1 k1) (h2:Xm b2 s.heap i2 l2 k2) (q1:Rg b1 s.heap l1 xs) (q2:Rg b2 s.heap l2 ys) (hx:xs[k1]? = none\/ys[k2]? = none)
 (h:∀h':Heap,(∀c o,c≠z->c≠TO->c≠i1->c≠i2->s.heap.get? c=some o->h'.get? c=some o)->Q none {s with heap:=h'}):wpAny (model prog w) A (pyNext<|.ref z) Q E s:=by
 have hT:s.TypeIs (.ref z) "zip":=⟨_,hz,rfl⟩;exact zxB<|wpAny_attempt<|wpAny_callSpecial?_slot hT F.slot_zip_next<|zxJ F.slot_zip_next hT F.entry_zip_next (O9 hh D hz hf hTI hTO h1 h2 q1 q2 hx λh' e hk _=>zxB<|wpAny_isInstance ⋯ isSubtype_stop (zxC<|h h' hk))<|F.args_zip_next_1 _
def FK{prog w A E s z TI TO T f0 f1 Q}(tg)(hz:L1 s.heap z TI TO f0 f1)(hf:Zf f0)
 (h:∀(h':Heap) (g0:Value),L1 h' z TI TO g0 f1->Zf g0->Heap.SameBut z s.heap h'->Q () {s with heap:=h'}):wpAny (model prog w) A (letOwnedTupleGo tg (.ref z)<|.ref T) Q E s:=by
 have no:wpAny (model prog w) A _ Q E s:=zxC<|h s.heap f0 hz hf<|Heap.SameBut.refl _ _;have go:wpAny (model prog w) A (bind (load z) λo=>match o.cls,o.data with
  |Value.type n,Data.fields vs=>if(["enumerate","zip","dict_itemiterator","dict_reverseitemiterator","odict_iterator","itertools.zip_longest","itertools.pairwise"].contains n&&vs[0]? == some (rawInt T))=true then(do rule "for.unpacks-the-owned-tuple";updateField z 0 Value.none)else pure ()
  |_,_=>pure ()) Q E s:=by
  refine zxB<|wpAny_load hz ?_;show wpAny _ A (if _ then _ else _) Q E s
  split
  . refine zxB<|wpAny_rule ?_;exact wpAny_setField_rec hz ⋯ λh' z' hs=>h h' .none z' (.inl rfl) hs
  . exact no
 cases tg with
 |Tuple elts k pos=>exact go
 |List elts pos=>exact go
 |_=>exact no
def Z7(b:Bool)(l:Addr):Obj:={cls:=.type (if b=true then "tuple_iterator" else "list_iterator"),data:=.fields #[.ref l,.int 0 0]}
def Nt{prog w A E s l xs Q}:∀{b:Bool},Rg b s.heap l xs->Q (.ref s.heap.objs.size) {s with heap:=s.heap.push (Z7 b l)}->wpAny (model prog w) A (pyIter<|.ref l) Q E s
 |true,h1,h2=>wpAny_pyIter_tuple h1 h2
 |false,h1,h2=>wpAny_pyIter_list h1 h2
def Rg.at{h h' l xs}(k:∀o,h.get? l=some o->h'.get? l=some o):∀{b:Bool},Rg b h l xs->Rg b h' l xs
 |true,⟨o,e,c⟩=>⟨o,k o e,c⟩
 |false,⟨o,e,c⟩=>⟨o,k o e,c⟩
def BG{b1 b2}(l1 l2)(xs ys):Meets (Builtin.«zip.__new__» {pos:=[.type "zip",.ref l1,.ref l2]}) λ_ R s=>Rg b1 s.heap l1 xs/\Rg b2 s.heap l2 ys/\
 ∀h':Heap,L1 h' (s.heap.objs.size+4) (s.heap.objs.size+2) (s.heap.objs.size+3) .none false->IsPair h' (s.heap.objs.size+2) (.ref s.heap.objs.size) (.ref<|s.heap.objs.size+1)->IsPair h' (s.heap.objs.size+3) .none .none->Xm b1 h' s.heap.objs.size l1 0->Xm b2 h' (s.heap.objs.size+1) l2 0->
  (∀c o,s.heap.get? c=some o->h'.get? c=some o)->R (.ok<|.ret<|.ref<|s.heap.objs.size+4) {s with heap:=h'}:=
 .of_wp λprog w A R s h=>by
  obtain⟨hp,g,d,tk,os⟩:=s;obtain⟨hl1,hl2,h⟩:=h;have hsub:=sub_zip;have p1:∀{Q:Value->Shared->Prop}{E:Value->Shared->Prop}{A:Around},Q (.ref hp.objs.size) ⟨hp.push<|Z7 b1 l1,g,d,tk,os⟩->wpAny (model prog w) A (pyIter<|.ref l1) Q E ⟨hp,g,d,tk,os⟩:=λh=>Nt hl1 h;have p2:∀{Q:Value->Shared->Prop}{E:Value->Shared->Prop}{A:Around},Q (.ref (hp.push<|Z7 b1 l1).objs.size) ⟨(hp.push<|Z7 b1 l1).push<|Z7 b2 l2,g,d,tk,os⟩->wpAny (model prog w) A (pyIter<|.ref l2) Q E ⟨hp.push<|Z7 b1 l1,g,d,tk,os⟩:=λh=>Nt (s:=⟨hp.push<|Z7 b1 l1,g,d,tk,os⟩) (hl2.at λo e=>zxD _ e) h
  wp_walk using p1,p2
  refine⟨_,rfl, ?_⟩;have s1:(hp.push<|Z7 b1 l1).objs.size=hp.objs.size+1:=zxH _ _;have s2:((hp.push<|Z7 b1 l1).push<|Z7 b2 l2).objs.size=hp.objs.size+2:=(zxH _ _).trans (congrArg (· + 1) s1);generalize hh2:(hp.push<|Z7 b1 l1).push (Z7 b2 l2)=h2 at s2 ⊢;have i1:Xm b1 h2 hp.objs.size l1 0:=by
   have:h2.get? hp.objs.size=some (Z7 b1 l1):=by rw[<-hh2];exact zxD _<|zxF _ rfl
   cases b1<;>exact⟨_,this,rfl,rfl⟩
  have i2:Xm b2 h2 (hp.objs.size+1) l2 0:=by
   have:h2.get? (hp.objs.size+1)=some (Z7 b2 l2):=by rw[<-hh2,<-s1];exact zxF _ rfl
   cases b2<;>exact⟨_,this,rfl,rfl⟩
  have kp:∀c o,hp.get? c=some o->h2.get? c=some o:=λc o q=>by rw[<-hh2];exact zxD _<|zxD _ q
  rw[s1];change R (.ok<|.ret<|.ref ((h2.push {cls:=.type "tuple",data:=.seq #[.ref hp.objs.size,.ref<|hp.objs.size+1]}).push {cls:=.type "tuple",data:=.seq #[.none,.none]}).objs.size)
   ⟨((h2.push {cls:=.type "tuple",data:=.seq #[.ref hp.objs.size,.ref<|hp.objs.size+1]}).push {cls:=.type "tuple",data:=.seq #[.none,.none]}).push {cls:=.type "zip",data:=.fields #[.none,.bool false,.bool false,.ref h2.objs.size,.ref (h2.push {cls:=.type "tuple",data:=.seq #[.ref hp.objs.size,.ref<|hp.objs.size+1]}).objs.size]},g,d,tk,os⟩
  have g3:=zxF h2 (o:={cls:=.type "tuple",data:=.seq #[.ref hp.objs.size,.ref<|hp.objs.size+1]}) rfl;have s3:(h2.push {cls:=.type "tuple",data:=.seq #[.ref hp.objs.size,.ref<|hp.objs.size+1]}).objs.size=hp.objs.size+3:=(zxH _ _).trans (congrArg (· + 1) s2);rw[s2]at g3;rw[s2,s3];have k3:∀c o,h2.get? c=some o->(h2.push {cls:=.type "tuple",data:=.seq #[.ref hp.objs.size,.ref<|hp.objs.size+1]}).get? c=some o:=λc o q=>zxD _ q;generalize (h2.push {cls:=.type "tuple",data:=.seq #[.ref hp.objs.size,.ref<|hp.objs.size+1]})=h3 at *;have g4:=zxF h3 (o:={cls:=.type "tuple",data:=.seq #[.none,.none]}) rfl;have s4:(h3.push {cls:=.type "tuple",data:=.seq #[.none,.none]}).objs.size=hp.objs.size+4:=(zxH _ _).trans (congrArg (· + 1) s3);have k4:∀c o,h3.get? c=some o->(h3.push {cls:=.type "tuple",data:=.seq #[.none,.none]}).get? c=some o:=λc o q=>zxD _ q;rw[s3]at g4;rw[s4];generalize (h3.push {cls:=.type "tuple",data:=.seq #[.none,.none]})=h4 at *;have g5:=zxF h4 (o:={cls:=.type "zip",data:=.fields #[.none,.bool false,.bool false,.ref<|hp.objs.size+2,.ref<|hp.objs.size+3]}) rfl;rw[s4]at g5;exact h _ g5 (zxD _<|k4 _ _ g3) (zxD _ g4) (i1.at λo e=>zxD _<|k4 _ _<|k3 _ _ e) (i2.at λo e=>zxD _<|k4 _ _<|k3 _ _ e) λc o q=>zxD _<|k4 _ _<|k3 _ _<|kp c o q
def FN{b1 b2 prog w A E s l1 l2 xs ys Q}(hl1:Rg b1 s.heap l1 xs)(hl2:Rg b2 s.heap l2 ys)
 (h:∀h':Heap,L1 h' (s.heap.objs.size+4) (s.heap.objs.size+2) (s.heap.objs.size+3) .none false->IsPair h' (s.heap.objs.size+2) (.ref s.heap.objs.size) (.ref<|s.heap.objs.size+1)->IsPair h' (s.heap.objs.size+3) .none .none->Xm b1 h' s.heap.objs.size l1 0->Xm b2 h' (s.heap.objs.size+1) l2 0->
  (∀c o,s.heap.get? c=some o->h'.get? c=some o)->Q (.ref<|s.heap.objs.size+4) {s with heap:=h'}):wpAny (model prog w) A (call (.type "zip") [.ref l1,.ref l2]) Q E s:=
 callType_new F.called_zip (by decide) ⋯ (F.newCall_zip_2 _ _) (λobj=>F.args_object_init_3 obj _ _) F.entry_zip_new (BG l1 l2 xs ys)
  ⟨hl1,hl2,λh' a1 a2 a3 a4 a5 a6=>⟨⟨_,a1,rfl⟩,h h' a1 a2 a3 a4 a5 a6⟩⟩
def Ux{prog w A E s z TI TO f0 f1 Q}(hz:L1 s.heap z TI TO f0 f1)(h:Q (.ref z) s):wpAny (model prog w) A (pyIter<|.ref z) Q E s:=by
 have hT:s.TypeIs (.ref z) "zip":=⟨_,hz,rfl⟩;exact wpAny_pyIter_slot hT F.slot_zip_iter<|zxJ F.slot_zip_iter hT F.entry_zip_iter (zxC ⟨.ref z,rfl,"zip",.builtin "zip.__next__",hT,F.slot_zip_next.lookup,h⟩)<|F.args_zip_iter_1 _
def LA(K:zzA)(H:Hp):Bool->Addr->List V->Prop
 |true,a,xs=>Uk K H a xs
 |false,a,xs=>TX K H a xs
def LA.ok{X pins σ H s}(I:Inv X pins σ H s):∀{b:Bool}{a:Addr}{xs:List V},LA X.K H b a xs->∃its:List Value,zM xs its/\Rg b s.heap a its.toArray
 |true,a,xs,h=>by obtain⟨its,rv,p,_⟩:=I.tuple h;exact⟨its,rv,p⟩
 |false,a,xs,h=>by obtain⟨its,rv,p,_⟩:=I.list h;exact⟨its,rv,p.isList⟩
def LA.inj{X pins σ H s}(I:Inv X pins σ H s):∀{b:Bool}{a:Addr}{xs ys:List V},LA X.K H b a xs->LA X.K H b a ys->xs=ys
 |true,_,_,_,h,h'=>I.tuple_inj h h'
 |false,_,_,_,h,h'=>I.list_inj h h'
def Rg.ex{h l xs}:∀{b:Bool},Rg b h l xs->∃o,h.get? l=some o
 |true,⟨o,e,_⟩=>⟨o,e⟩
 |false,⟨o,e,_⟩=>⟨o,e⟩
def Xm.ex{h it l}{k:Nat}:∀{b:Bool},Xm b h it l k->∃o,h.get? it=some o/\∀v,o.data ≠ .cell v
 |true,⟨o,e,_,d⟩=>⟨o,e,λv z=>by rw[d]at z;cases z⟩
 |false,⟨o,e,_,d⟩=>⟨o,e,λv z=>by rw[d]at z;cases z⟩
def Ie(K:zzA)(b1 b2:Bool)(a b:Addr):It:=
 ⟨λi H=>∃xs ys x y,LA K H b1 a xs/\LA K H b2 b ys/\xs[i]? = some x/\ys[i]? = some y,
  λi H v H'=>∃T x y,H T=none/\v = .ref T/\H'=upd H T (.tup [x,y])/\(∀xs,LA K H b1 a xs->xs[i]? = some x)/\∀ys,LA K H b2 b ys->ys[i]? = some y,
  λi H=>∃xs ys,LA K H b1 a xs/\LA K H b2 b ys/\(xs.length<=i\/ys.length<=i)⟩
def Ba{P w K tg b1 b2}(a b z TI TO i1 i2)(D:ZipApart z TI TO i1 i2 a b):Turn P w K tg (Ie K b1 b2 a b) [z,TI,TO,i1,i2] z
 (λi h=>(∃f0 f1,L1 h z TI TO f0 f1/\Zf f0)/\IsPair h TI (.ref i1) (.ref i2)/\(∃p q,IsPair h TO p q)/\Xm b1 h i1 a i/\Xm b2 h i2 b i)where
 mem:=by simp
 obj:=λi h st c hc=>by
  obtain⟨⟨f0,f1,hz,_⟩,hTI,⟨p,q,hTO⟩,h1,h2⟩:=st;simp at hc
  rcases hc with rfl|rfl|rfl|rfl|rfl
  . exact⟨_,hz,λv z=>by cases z⟩
  . exact⟨_,hTI,λv z=>by cases z⟩
  . exact⟨_,hTO,λv z=>by cases z⟩
  . exact h1.ex
  . exact h2.ex
 keep:=λi h h' st kk=>by
  obtain⟨⟨f0,f1,hz,hf⟩,hTI,⟨p,q,hTO⟩,h1,h2⟩:=st;exact⟨⟨f0,f1,kk z (by simp) _ hz,hf⟩,kk TI (by simp) _ hTI,⟨p,q,kk TO (by simp) _ hTO⟩,h1.at λo e=>kk i1 (by simp) o e,h2.at λo e=>kk i2 (by simp) o e⟩
 item:=by
  intro X hP hw hK hc i pins s σ H E I hf st hg;subst hP hw hK;obtain⟨xs,ys,x,y,hq,hr,hx,hy⟩:=hg;obtain⟨its,rv,p⟩:=hq.ok I;obtain⟨jts,rw',p'⟩:=hr.ok I;obtain⟨u,hu,ru⟩:=rv.get hx;obtain⟨u',hu',ru'⟩:=rw'.get hy;obtain⟨⟨f0,f1,hz,zf⟩,hTI,⟨pp,qq,hTO⟩,h1,h2⟩:=st;refine Ma D hz zf hTI hTO h1 h2 p p' (by simpa using hu) (by simpa using hu') λh' g0 g1 z' zf' to' i1' i2' pr kk=>⟨_,rfl,FK tg z' zf' λh9 e0 z2 zf2 hs=>?_⟩;have hn:=I.hok.fresh<|zzN _;have fr:∀c o,s.heap.get? c=some o->c≠s.heap.objs.size:=λc o e z=>by
   have:=zxE e;rw[z]at this;exact Nat.lt_irrefl _ this
  have nz:=(fr z _ hz).symm;have k2:∀c o,c ∉ [z,TI,TO,i1,i2]->s.heap.get? c=some o->h9.get? c=some o:=λc o hb q=>by
   simp at hb;exact hs.extBut c o hb.1<|kk c o hb.1 hb.2.2.1 hb.2.2.2.1 hb.2.2.2.2 q
  have hTI2:=hs.extBut TI _ D.TIz<|kk TI _ D.TIz D.TITO D.TIi1 D.TIi2 hTI;obtain⟨p1,q1,to1⟩:=to';refine⟨.ref s.heap.objs.size,upd H s.heap.objs.size<|.tup [x,y],Lq (s:=s) (t':=s.toks) I hf k2 (zzN _) ⟨by show 2<=sizeLine;decide,[u,u'],.cons ru<|.cons ru' .nil,⟨_,hs.extBut _ _ nz pr,rfl,_,rfl⟩⟩,rfl,
   ⟨_,x,y,hn,rfl,rfl,λq hq'=>by rw[LA.inj I hq' hq];exact hx,λq hq'=>by rw[LA.inj I hq' hr];exact hy⟩,⟨⟨e0,g1,z2,zf2⟩,hTI2,⟨p1,q1,hs.extBut TO _ D.TOz to1⟩,i1'.ext hs.extBut D.i1z,i2'.ext hs.extBut D.i2z⟩,λc hc=>?_⟩
  have hcT:c≠s.heap.objs.size:=by
   simp at hc
   rcases hc with rfl|rfl|rfl|rfl|rfl
   . exact fr _ _ hz
   . exact fr _ _ hTI
   . exact fr _ _ hTO
   . obtain⟨o,e,_⟩:=h1.ex;exact fr _ _ e
   . obtain⟨o,e,_⟩:=h2.ex;exact fr _ _ e
  rw[zH hcT];exact(hf c hc).1
 done:=by
  intro X hP hw hK hc i pins s σ H E I hf st hg;subst hP hw hK;obtain⟨xs,ys,hq,hr,hx⟩:=hg;obtain⟨its,rv,p⟩:=hq.ok I;obtain⟨jts,rw',p'⟩:=hr.ok I;have hl:=rv.length;have hl':=rw'.length;obtain⟨⟨f0,f1,hz,zf⟩,hTI,⟨pp,qq,hTO⟩,h1,h2⟩:=st;refine NY (I.ok.hd hc) D hz zf hTI hTO h1 h2 p p' (hx.imp (λh=>by simp;omega) λh=>by simp;omega) λh' eb=>⟨rfl,Mz (t':=s.toks) I hf λc o hc q=>?_⟩;simp at hc;exact eb c o hc.1 hc.2.2.1 hc.2.2.2.1 hc.2.2.2.2 q
 self:=λ_ _ _ _ _ st h=>let⟨⟨_,_,hz,_⟩,_⟩:=st;Ux hz h
section
variable{X:Cx}{tg:Expr}
def Jz(K:zzA)(ta:TA):TI:=λσ H R=>ta σ H λvs H1=>∃a b b1 b2,vs=[.ref a,.ref b]/\(∃xs,LA K H1 b1 a xs)/\(∃ys,LA K H1 b2 b ys)/\R (Ie K b1 b2 a b) H1
def Oe{l l' ta p pos}(hg:Gl X "zip")(hm:X.mg "zip"=none)(ha:PA X [l,l'] ta)(hs:starEach [l,l'] X.env=[(false,eval l X.env),(false,eval l' X.env)])(hs2:starEach [l'] X.env=[(false,eval l' X.env)]):
 PI X tg (.Call (.Name "zip" p) [l,l'] [] pos) (Jz X.K ta):=by
 intro pins s σ H R I h;refine Call_ (Tn I hg hm boot_zip<|PyProof.Rows.callWith_type1 (xX (ha pos pins s σ H _ I h) λus s1 ⟨vs,H1,I1,r1,q1⟩=>?_) (by rw[hs,hs2])<|by rw[hs2];rfl);obtain⟨a,b,b1,b2,rfl,⟨xs,hq⟩,⟨ys,hr⟩,q⟩:=q1;cases r1 with
 |cons r rr=>
  cases rr with
  |cons r' rr=>
   cases rr;cases r;cases r';obtain⟨its,rv,pl⟩:=hq.ok I1;obtain⟨jts,rw',pl'⟩:=hr.ok I1;obtain⟨o1,ho1⟩:=pl.ex;obtain⟨o2,ho2⟩:=pl'.ex;refine FN pl pl' λh' hZ hTI hTO hi1 hi2 hk=>?_;refine Ux hZ ⟨s1.heap.objs.size+4,[s1.heap.objs.size+4,s1.heap.objs.size+2,s1.heap.objs.size+3,s1.heap.objs.size,s1.heap.objs.size+1],_,_,H1,rfl,I1.kept (t':=s1.toks) hk,Ba a b _ _ _ _ _<|Bw _ _ _ (zxE ho1)<|zxE ho2,⟨⟨_,_,hZ,.inl rfl⟩,hTI,⟨_,_,hTO⟩,hi1,hi2⟩,λc hc=>?_,q⟩;have hb':s1.heap.objs.size<=c:=by
    simp at hc
    rcases hc with rfl|rfl|rfl|rfl|rfl<;>first|exact zzN _|exact Nat.le_add_right _ _
   exact I1.fpOk hb'<|I1.hok.fresh hb'
end
section
variable{X:Cx}{kd:KD}{tg e:Expr}{fa:EF}
def Oy{K F H a b b1 b2 vs ws st ds es}(ft:∀a,F a->H a≠none)(hs:∀H3:Hp,(∀b u,H b=some u->H3 b=some u)->LA K H3 b1 a vs)(hs':∀H3:Hp,(∀b u,H b=some u->H3 b=some u)->LA K H3 b2 b ws)
 (r:RpL K kd (λa=>st=true/\F a) H vs ds) (r':RpL K kd (λa=>st=true/\F a) H ws es):ItC K kd F H (Ie K b1 b2 a b) (Gd st ds es):=⟨λH3 T k hT i=>by
 have hr3:=hs H3 k;have hr4:=hs' H3 k;have hlen:=NB st ds es;have l1:=r.length;have l2:=r'.length;refine⟨λhi=>?_,λhi=>⟨_,_,hr3,hr4,⋯⟩,λv H4 hy=>?_⟩
 . obtain⟨u,hu,_⟩:=r.get<|zzE (show i<ds.length by omega);obtain⟨u',hu',_⟩:=r'.get<|zzE (show i<es.length by omega);exact⟨_,_,u,u',hr3,hr4,hu,hu'⟩
 . obtain⟨A,x,y,hn,rfl,rfl,hv,hv'⟩:=hy;have hnH:H A=none:=by
    cases e:H A with
    |none=>rfl
    |some u=>rw[k A u e]at hn;cases hn
   refine⟨Qd hn,λq hq=>?_⟩;obtain⟨d,e,hd,he,rfl⟩:=NO hq;obtain⟨u,hu,ru⟩:=r.get hd;obtain⟨u',hu',ru'⟩:=r'.get he;have:=hv _ hr3;rw[hu]at this;cases this;have:=hv' _ hr4;rw[hu']at this;cases this;have up:∀{v:V}{d:D},Rp K kd (λa=>st=true/\F a) H v d->Rp K kd (λa=>st=true/\(F a\/T a)) (upd H3 A<|.tup [x,y]) v d:=λrp=>
    (rp.since (λb o q=>Qd hn b o<|k b o q) λa z=>(hT a z).1).less λa z=>z.2.elim (λy=>.inl ⟨z.1,y⟩) .inr
   exact .tup (λz=>z.2.elim (λy=>ft A y hnH) λy=>(hT A y).2 hn) (.inl yn)<|.cons (up ru)<|.cons (up ru') .nil⟩
def Ih:RV->Option (Bool×Bool×List D)
 | .ow (.lf s (.lst l))=>some (s,false,l)
 | .ow (.lf s (.tup l))=>some (s,true,l)
 |_=>none
def Uw(fr:AF):IF:=λas=>(fr as).bind λp=>(Aw p.1).bind λo=>(Ih o.1).bind λa=>(Ih o.2).bind λb=>some (Gd (a.1&&b.1) a.2.2 b.2.2,p.2)
def FA{K F B ad σ H v r x}(e:Ih r=some x)(rv:xu K kd F B [] ad σ H v r):∃a vs,v = .ref a/\LA K H x.2.1 a vs/\(∀H3:Hp,(∀b u,¬Gw [] ad b->H b=some u->H3 b=some u)->LA K H3 x.2.1 a vs)/\RpL K kd (Lv F B (Gw [] ad) x.1) H vs x.2.2:=by
 cases r with
 |bo i=>cases e
 |ow o=>
  cases o with
  |nd k os=>cases e
  |lf s d=>
   cases rv with
   |lf rp=>
    cases rp with
    |lst hn hr rl=>
     cases e;refine⟨_,_,rfl,.inl hr,λH3 k=>?_,rl⟩
     rcases hr with hr|⟨o,hr⟩
     . exact .inl<|.inl<|k _ _ (λz=>hn<|.inr z) hr
     . exact .inl (.inr ⟨o,k _ _ (λz=>hn<|.inr z) hr⟩)
    |lstK a b c rl=>cases e;exact⟨_,_,rfl,.inr ⟨_,_,_,a,rfl,rfl,rfl,b,c⟩,λH3 k=>.inr ⟨_,_,_,a,rfl,rfl,rfl,b,c⟩,rl⟩
    |tup hn hr rl=>
     cases e;refine⟨_,_,rfl,.inl hr,λH3 k=>?_,rl⟩
     rcases hr with hr|⟨o,hr⟩
     . exact .inl<|.inl<|k _ _ (λz=>hn<|.inr z) hr
     . exact .inl (.inr ⟨o,k _ _ (λz=>hn<|.inr z) hr⟩)
    |tupK a b c e' f rl=>cases e;exact⟨_,_,rfl,.inr ⟨_,_,_,a,b,c,e',f⟩,λH3 k=>.inr ⟨_,_,_,a,b,c,e',f⟩,rl⟩
    |_=>cases e
def OE{l l' fr p pos}(hg:Gl X "zip")(hm:X.mg "zip"=none)(ha:AA X kd [l,l'] fr)(hs:starEach [l,l'] X.env=[(false,eval l X.env),(false,eval l' X.env)])(hs2:starEach [l'] X.env=[(false,eval l' X.env)]):
 CM X kd tg (.Call (.Name "zip" p) [l,l'] [] pos) (Uw fr):=by
 with_unfolding_all (
 intro pins s σ H R I h;obtain⟨F,B,ad,as,ds,as',Rl,e',q⟩:=h;obtain⟨⟨rs,as1⟩,h1,e'⟩:=bS_<|e';obtain⟨_,e1,e'⟩:=bS_ e';obtain⟨x1,e2,e'⟩:=bS_ e';obtain⟨x2,e3,e'⟩:=bS_ e';cases Oq e1;cases e';refine Oe hg hm ha hs hs2 pins s σ H R I ⟨F,B,ad,as,_,as1,Rl,h1,λvs ad1 H1 R1 rv1 g1=>?_⟩;cases rv1 with
 |cons r1 rr=>
  cases rr with
  |cons r2 rr=>
   cases rr;obtain⟨a,vs,rfl,sa,ka,ra⟩:=FA e2 r1;obtain⟨b,ws,rfl,sb,kb,rb⟩:=FA e3 r2;refine⟨a,b,_,_,rfl,⟨_,sa⟩,⟨_,sb⟩,q _ ad1 H1 R1 g1<|Oy (R1.trk true) (λH3 k=>ka H3 λb u n h=>k b u h) (λH3 k=>kb H3 λb u n h=>k b u h) (ra.less λa z=>?_)<|rb.less λa z=>?_⟩
   . have z1:=(Bool.and_eq_true_iff.mp z.1).1;rw[z1];exact z.2
   . have z1:=(Bool.and_eq_true_iff.mp z.1).2;rw[z1];exact z.2)
end
def FJ:List D->Option R0:=um λx=>(Dk x).bind λds=>(vH ds).bind λns=>some<|.im<|.int ns.sum
theorem PR:∀{us:List Value}{ns:List Int},IntsAre us ns->∃ps:List (Int×Tok),us=ps.map (λp=>Value.int p.1 p.2)/\ps.map (·.1)=ns
 |_,_,.nil=>⟨[],rfl,rfl⟩
 |_,_,.cons a t h=>by
  obtain⟨b,rfl,rfl⟩:=PR h;exact⟨(a,t)::b,rfl,rfl⟩
theorem Nw{ps:List (Int×Tok)}:∀k,k<=ps.length->preSum (numAt ps.toArray) k=((ps.take k).map (·.1)).sum
 |0,_=>⋯
 |k+1,h=>by
  have a:=Nw (ps:=ps) k ⋯;rw[List.take_add_one,zyK,List.sum_append];show preSum _ k+numAt ps.toArray k=_
  congr 1
  show((ps.toArray[k]?).map _).getD 0=_;rw[List.getElem?_toArray,zzE ⋯];simp
section
variable{X:Cx}{kd:KD}
def FS(hc:X.calm=true):Vv X kd (.builtin "sum") FJ:=by
 intro f s σ H E F Q I r h;obtain⟨O,G,J,K,i,a,q⟩:=h;obtain⟨x,d,rfl,j,a⟩:=S0 i a;obtain⟨l,k,b⟩:=bS_<|a;cases Kz k
 . obtain⟨m,n,c⟩:=bS_ b;cases c
   . cases j with
     |lst o p=>
      obtain⟨u,rfl,t⟩:=vals1 r;cases t;obtain⟨e,v,w,L⟩:=I.list o.sq;obtain⟨g,y,z⟩:=PR<|OL p v n;refine sum_intListG (I.ok.hd hc) (xs:=g.toArray) ?_ λM A B C=>?_
      . have D:intItems g.toArray=e.toArray:=by rw[y];simp[intItems]
        rw[D];exact w.isList
      . refine⟨.int m.sum,H,I.kept (t':=A) C,⟨B, ?_⟩,zU q<|.int _⟩;rw[zzH,Nw _<|zzN _,List.take_length,z]
end
def Hv(h:n<=1000000):n<=sizeLine:=zzO h (by decide)
section
variable{as:AS}{f fo a b:EF}{fr:AF}{s t:Bool}{x y z d:D}{c m:Str}{ns cs:List Str}{ds:List D}{tbl:List (Str×Fn)}{g:Fn}{o:O}
def Fz(h:WD fo as s (.ob c ns ds))(hc:c ∈ cs)(hl:Mv ns ds n=some d):WD (f1 fo<|zJ cs n) as (zE d||s) d:=by
 unfold WD f1 at *;rw[h];show(if c ∈ cs then(Mv ns ds n).bind λd=>some _ else none:Option R0).bind _=_;rw[if_pos hc,hl];show(if _=true then _ else _:Option RV).bind _=_;rw[if_pos ⋯];rfl
def Rj(ho:WD fo as s (.ob c ns ds))(hm:m ∉ ns)(ht:LS tbl c=some g)(hr:WA fr as rs)(hg:g ((s,.ob c ns ds)::rs.map λx=>(zE x.2||x.1,x.2))=some o):yC tbl m fo fr as=some (.ow o,as):=by
 unfold yC;rw[ho];show(if m ∈ ns then none else some c:Option Str).bind _=_;rw[if_neg hm];show(LS tbl c).bind _=_;rw[ht];rw[hr];show((XD as _).bind _:Option _).bind _=_;rw[Um];show(g ((s,.ob c ns ds)::_)).bind _=_;rw[hg];rfl
def Cs(ho:WD fo as true (.ob c ns ds))(hm:m ∉ ns)(ht:LS tbl c=some g)(hg:RE (g [(true,.ob c ns ds)]) z):WE (yC tbl m fo aN) as z:=by
 obtain⟨o,a,b,d⟩:=hg;exact⟨o,Rj ho hm ht ym a,b,d⟩
def He(ho:WD fo as true (.ob c ns ds))(hm:m ∉ ns)(ht:LS tbl c=some g)(ha:WE a as x)(hg:RE (g [(true,.ob c ns ds),(true,x)]) z):WE (yC tbl m fo<|aC a aN) as z:=by
 obtain⟨o,b,d,e⟩:=hg;exact⟨o,Rj ho hm ht (vK ha ym) (by show g [_,(zE x||true,x)]=_;rwa [zyC]),d,e⟩
def UC(ho:WD fo as true (.ob c ns ds))(hm:m ∉ ns)(ht:LS tbl c=some g)(ha:WE a as x)(hb:WE b as y)(hg:RE (g [(true,.ob c ns ds),(true,x),(true,y)]) z):WE (yC tbl m fo<|aC a<|aC b aN) as z:=by
 obtain⟨o,d,e,f⟩:=hg;exact⟨o,Rj ho hm ht (vK ha<|vK hb ym) (by show g [_,(zE x||true,x),(zE y||true,y)]=_;rwa [zyC,zyC]),e,f⟩
def DH(ho:WD fo as true (.ob c ns ds))(hm:m ∉ ns)(ht:LS tbl c=some g)(ha:WE a as x)(hb:WE b as y)(he:WE e as w)(hg:RE (g [(true,.ob c ns ds),(true,x),(true,y),(true,w)]) z):WE (yC tbl m fo<|aC a<|aC b<|aC e aN) as z:=by
 obtain⟨o,d,f,h⟩:=hg;exact⟨o,Rj ho hm ht (vK ha<|vK hb<|vK he ym) (by show g [_,(zE x||true,x),(zE y||true,y),(zE w||true,w)]=_;rwa [zyC,zyC,zyC]),f,h⟩
inductive SqD:D->List D->Prop
 |l (ds:List D):SqD (.lst ds) ds
 |t (ds:List D):SqD (.tup ds) ds
theorem N4(st):∀(xs ys:List D),Gd st xs ys=(xs.zip ys).map λq=>(st,.tup [q.1,q.2])
 | [],_=>rfl
 |_::_,[]=>rfl
 |x::r,y::t=>congrArg _<|N4 st r t
def Pz(ha:WE a as x)(hb:WE b as y)(hx:SqD x xs)(hy:SqD y ys):Uw (aC a<|aC b aN) as=some ((xs.zip ys).map λq=>(true,.tup [q.1,q.2]),as):=by
 have h:=vK ha<|vK hb ym;unfold Uw;rw[h,<-N4];cases hx<;>cases hy<;>rfl
def TJ(hi:i<as.length)(hj:j<as.length):gT 2 (wL (gN i)<|wL (gN j) QM) (true,.tup [x,y]) as=some ((as.set i<|some<|.lf true x).set j<|some<|.lf true y):=by
 show(if _ then some (as.set i<|some<|.lf (zE x||true) x)else none:Option AS).bind _=_;rw[if_pos hi,zyC];show(if j<(as.set i _).length then some ((as.set i _).set j<|some<|.lf (zE y||true) y)else none:Option AS).bind _=_;rw[if_pos (by rwa [zzU]),zyC];rfl
theorem G4:∀(l:List α),(∀q ∈ l,∃as1,gg (it q) as0=some as1/\WE fe as1 (h q))->∃os,wG gg yP fe as0 (l.map it)=some os/\O.strs os=true/\O.toDs os=l.map h
 | [],_=>⟨[],rfl,rfl,rfl⟩
 |q::l,H=>by
  obtain⟨a,d,e,f⟩:=G4 l λp m=>H p<|zzD _ m;obtain⟨b,g,o,i,c,j⟩:=H q zzF;refine⟨o::a, ?_,by show(o.str&&O.strs a)=_;rw[c,e];rfl,by show o.toD::O.toDs a=_;rw[j,f];rfl⟩;show wG gg yP fe as0 (it q::l.map it)=_;unfold wG;rw[g];show((fe b).bind _)=_;rw[i];show(if o.str=true then _ else _)=_;rw[if_pos c,d];rfl
theorem G0:∀(l:List α),(∀q ∈ l,∃as1,gg (it q) as0=some as1/\WT tt as1 (p q)/\(p q=true->WE fe as1 (h q)))->∃os,wG gg tt fe as0 (l.map it)=some os/\O.strs os=true/\O.toDs os=(l.filter p).map h
 | [],_=>⟨[],rfl,rfl,rfl⟩
 |q::l,H=>by
  obtain⟨c,d,e,f⟩:=G0 l λp m=>H p<|zzD _ m;obtain⟨a,g,b,j⟩:=H q zzF;cases hp:p q with
  |false=>
   rw[hp]at b;refine⟨c,FZ g b d,e, ?_⟩
   rwa [List.filter_cons_of_neg<|by simp[hp]]
  |true=>
   rw[hp]at b;obtain⟨o,k,i,n⟩:=j hp;refine⟨o::c, ?_,by show(o.str&&O.strs c)=_;rw[i,e];rfl, ?_⟩
   . unfold WT at b;show wG gg tt fe as0 (it q::l.map it)=_;unfold wG;rw[g];show(tt a).bind _=_;rw[b];show((fe a).bind _)=_;rw[k];show(if o.str=true then _ else _)=_;rw[if_pos i,d];rfl
   . rw[List.filter_cons_of_pos hp];show o.toD::O.toDs c=_;rw[n,f];rfl
def Ny{os}(h1:fi as=some (xs,as))(hl:xs.length<=1000000)(h2:wG gg tt fe (X8 cap as) xs=some os)(hs:O.strs os=true)(e:O.toDs os=zs):WE (zQ fi cap gg tt fe) as (.lst zs):=by
 refine⟨.nd .ls os, ?_,hs,congrArg D.lst e⟩;unfold zQ;rw[h1];show(if xs.length<=sizeLine then _ else _)=_;rw[if_pos<|Hv hl,h2];rfl
def xq(l:List α)(h1:fi as=some (l.map it,as))(hl:l.length<=1000000)(H:∀q ∈ l,∃as1,gg (it q) (X8 cap as)=some as1/\WE fe as1 (h q)):WE (zQ fi cap gg yP fe) as (.lst<|l.map h):=by
 obtain⟨d,a,b,c⟩:=G4 l H;exact Ny h1 (by rwa [zzB]) a b c
def K3(l:List α)(h1:fi as=some (l.map it,as))(hl:l.length<=1000000)(H:∀q ∈ l,∃as1,gg (it q) (X8 cap as)=some as1/\WT tt as1 (p q)/\(p q=true->WE fe as1 (h q))):WE (zQ fi cap gg tt fe) as (.lst<|(l.filter p).map h):=by
 obtain⟨d,a,b,c⟩:=G0 l H;exact Ny h1 (by rwa [zzB]) a b c
def Rt(r:Option Out)(x:D):Prop:=∃o,r=some (.rt o)/\o.str=true/\o.toD=x
def zA{n m:Nat}{c ds}(hl:ds.length=m)(h:Rt (c<|VD n ds) x):RE (vL n m c ds) x:=by
 obtain⟨o,a,b,d⟩:=h;exact⟨o,Wh hl a,b,d⟩
def zj{f g}(h1:f as=some (.nx as1))(h2:Rt (g as1) x):Rt (zt f g as) x:=by
 obtain⟨o,e,h⟩:=h2;exact⟨o,zK h1 e,h⟩
def zT{f g}(h1:Rt (f as) x):Rt (zt f g as) x:=by
 obtain⟨o,e,h⟩:=h1;exact⟨o,V6 e,h⟩
def yd{c f g}(h:WT c as true)(h1:Rt (f as) x):Rt (yU c f g as) x:=by
 obtain⟨o,e,a⟩:=h1;exact⟨o,vV h e,a⟩
def zq(h:WE f as x):Rt (zv f as) x:=by
 obtain⟨o,b,a,c⟩:=h;refine⟨o, ?_,a,c⟩;unfold zv;rw[b];show((if o.str=true then some o else none).bind _)=_;rw[if_pos a];rfl
def XM{c}(h:WT c as true)(ha:WE a as x):WE (Mq c a b) as x:=by
 obtain⟨o,d,e,f⟩:=ha;exact⟨o,by unfold Mq;rw[h];exact d,e,f⟩
def X7{c}(h:WT c as false)(hb:WE b as x):WE (Mq c a b) as x:=by
 obtain⟨o,d,e,f⟩:=hb;exact⟨o,by unfold Mq;rw[h];exact d,e,f⟩
def xb{g}(ha:WE a as x)(hg:g [x]=some (.im z)):WE (fP (aC a aN) g) as z:=WD.e<|JK ha hg
def Hg{os}(h:WO fd as os)(hl:os.length<=1000000)(hs:O.strs os=true)(e:O.toDs os=zs):WE (yg fd) as (.tup zs):=by
 refine⟨Qs os,Ld h<|Hv hl, ?_, ?_⟩
 . unfold Qs;split
   . exact hs
   . exact hs
 . subst e;unfold Qs;split
   . rfl
   . rfl
def JU{os}(h:WE a as x)(hr:WO fd as os):∃o,o.str=true/\o.toD=x/\WO (dC a fd) as (o::os):=by
 obtain⟨o,b,c,d⟩:=h;exact⟨o,c,d,YM b hr⟩
def EV(ha:WE a as x):WE (yg<|dC a dN) as (.tup [x]):=by
 obtain⟨o,b,rfl,c⟩:=JU ha yB;exact Hg c ⋯ (by show(o.str&&true)=_;rw[b];rfl) rfl
def yE(ha:WE a as x)(hb:WE b as y):WE (yg<|dC a<|dC b dN) as (.tup [x,y]):=by
 obtain⟨p,c,rfl,d⟩:=JU hb yB;obtain⟨o,e,rfl,f⟩:=JU ha d;exact Hg f ⋯ (by show(o.str&&(p.str&&true))=_;rw[e,c];rfl) rfl
def wb{g}(ha:WE a as x)(hb:WE b as y)(hg:g x y=some (.im z)):WE (f2 a b g) as z:=WD.e<|ud ha hb hg
end
abbrev Pt:=Option Int
def pD:Pt->D
 |none=>.non
 |some i=>.int i
abbrev vD(v:List Pt):D:=.tup<|v.map pD
abbrev dD(R:List (List Pt))(m:List Pt):D:=.tup [.tup<|R.map vD,vD m]
def op(k:Nat)(a b:Int):Int:=if k=1 then(if a<b then b else a)else(if b<a then b else a)
def Nl(k:Nat)(a b c):op k (op k a b) c=op k a (op k b c):=by
 unfold op
 by_cases h:k=1
 . simp only[if_pos h];repeat' split
   all_goals omega
 . simp only[if_neg h];repeat' split
   all_goals omega
def Oi(k:Nat)(a b):op k a b=op k b a:=by
 unfold op
 by_cases h:k=1
 . simp only[if_pos h];split<;>split<;>omega
 . simp only[if_neg h];split<;>split<;>omega
def Ox(k:Nat)(a):op k a a=a:=by
 unfold op
 by_cases h:k=1
 . simp only[if_pos h];split<;>omega
 . simp only[if_neg h];split<;>omega
def MW(k:Nat)(a b c):op k a b+c=op k (a+c) (b+c):=by
 unfold op
 by_cases h:k=1
 . simp;split<;>split<;>omega
 . simp;split<;>split<;>omega
def Vg(k:Nat):List Int->Pt
 | []=>none
 |x::r=>some<|r.foldl (op k) x
def jn(k:Nat)(a b:Pt):Pt:=if k=0 then some (a.getD 0+b.getD 0)else match a,b with
 |none,b=>b
 |some x,none=>some x
 |some x,some y=>some<|op k x y
def tm(k:Nat)(a b:Pt):Pt:=if k=0 then some (a.getD 0*b.getD 0)else match a,b with
 |some x,some y=>some (x+y)
 |_,_=>none
def ze(k:Nat):Pt:=if k=0 then some 0 else none
def sm(k:Nat)(l:List Pt):Pt:=l.foldr (jn k)<|ze k
def ac(k:Nat)(r v:List Pt):Pt:=sm k<|List.zipWith (tm k) r v
def of(k:Nat)(n:Int)(p:Pt):Pt:=if k=0 then some (p.getD 0*n)else p
def Vl(k:Nat)(p:Pt):Prop:=k=0->p≠none
def D_:jn 0 a b=some (a.getD 0+b.getD 0):=rfl
def Jc(h:k≠0):jn k a b=match a,b with
 |none,b=>b
 |some x,none=>some x
 |some x,some y=>some (op k x y):=if_neg h
def ZN(k:Nat)(a b c):jn k (jn k a b) c=jn k a (jn k b c):=by
 by_cases h:k=0
 . subst h;simp only[D_,Option.getD_some,Int.add_assoc]
 . simp only[Jc h];cases a<;>cases b<;>cases c<;>simp only[Nl]
def Fg(k:Nat)(a b):jn k a b=jn k b a:=by
 by_cases h:k=0
 . subst h;simp only[D_,Int.add_comm]
 . simp only[Jc h];cases a<;>cases b<;>first|rfl|exact congrArg some (Oi _ _ _)
def PL(h:Vl k a):jn k a (ze k)=a:=by
 by_cases e:k=0
 . subst e;cases a with
   |none=>exact absurd rfl (h rfl)
   |some x=>show some (x+0)=_;rw[Int.add_zero]
 . rw[Jc e];unfold ze;rw[if_neg e];cases a<;>rfl
def CD(h:Vl k a):jn k (ze k) a=a:=by rw[Fg,PL h]
def Fm(k:Nat)(a b):Vl k (jn k a b):=λe=>by subst e;rw[D_];simp
def NM(k:Nat):Vl k (ze k):=λe=>by subst e;simp[ze]
def Dd:Vl k (of k n p):=λe=>by subst e;simp[of]
def N5(k:Nat):∀l:List Pt,Vl k<|sm k l
 | []=>NM k
 |_::_=>Fm k _ _
def Eu(k:Nat)(p)(l):sm k (p::l)=jn k p (sm k l):=rfl
theorem Nc(k:Nat):∀(r:List Int) (a y:Int),r.foldl (op k) (op k a y)=op k a (r.foldl (op k) y)
 | [],_,_=>rfl
 |x::r,a,y=>by
  show r.foldl _ _=op k a (r.foldl _ _);rw[Nl,Nc k r]
def FQ(h:k≠0)(x)(l):Vg k (x::l)=jn k (some x) (Vg k l):=by
 rw[Jc h];cases l with
 |nil=>rfl
 |cons y r=>
  show some (r.foldl _ _)=some _;rw[Nc]
theorem Xd(h:k≠0):∀l:List Pt,Vg k (l.filterMap id)=sm k l
 | []=>by show none=ze k;unfold ze;rw[if_neg h]
 |none::l=>by
  show Vg k (l.filterMap id)=jn k none (sm k l);rw[Xd h l,Jc h]
 |some x::l=>by
  show Vg k (x::l.filterMap id)=jn k _ (sm k l);rw[FQ h,Xd h l]
def EZ(h:l≠[]):Li [.lst<|l.map .int]=some (.im<|pD<|Vg 1 l):=by
 cases l with
 |nil=>exact absurd rfl h
 |cons x r=>
  have e:∀l:List Int,vH (l.map D.int)=some l:=λl=>by
   induction l with
   |nil=>rfl
   |cons y t a=>show(vH _).bind _=_;rw[a];rfl
  show(vH _).bind _=_;rw[e];rfl
theorem RZ:∀l:List Int,vH (l.map D.int)=some l
 | []=>rfl
 |y::t=>by show(vH _).bind _=_;rw[RZ t];rfl
def EY(hk:k≠1)(h:l≠[]):K1 [.lst<|l.map .int]=some (.im<|pD<|Vg k l):=by
 cases l with
 |nil=>exact absurd rfl h
 |cons x r=>
  show(vH _).bind _=_;rw[RZ];show some (R0.im<|.int<|r.foldl _ x)=some (R0.im<|.int _);have:op k=λa b=>if b<a then b else a:=by funext a b;unfold op;rw[if_neg hk]
  rw[this]
abbrev cls(k:Nat):Str:=if k=0 then "Sums" else if k=1 then "Mosts" else "Leasts"
abbrev QL(k w:Nat):D:=.ob (cls k) ["width"] [.int w]
def KY(h:c≠n):LS ((n,g)::r) c=LS r c:=if_neg h
def Tr:LS ((c,g)::r) c=some g:=if_pos rfl
def Ht(hk:k<=2):LS [("Sums",a),("Mosts",b),("Leasts",c)] (cls k)=some (if k=0 then a else if k=1 then b else c):=by
 have:k=0\/k=1\/k=2:=⋯
 rcases this with rfl|rfl|rfl
 . exact Tr
 . rw[KY<|by decide +kernel];exact Tr
 . rw[KY (by decide +kernel),KY<|by decide +kernel];exact Tr
def t9(h0:k≠0)(hk:k<=2):LS [("Mosts",b),("Leasts",c)] (cls k)=some (if k=1 then b else c):=by
 have:k=1\/k=2:=⋯
 rcases this with rfl|rfl
 . exact Tr
 . rw[KY<|by decide +kernel];exact Tr
def Re:cls k ∈ (["Sums","Mosts","Leasts"]:List Str):=by
 show(if k=0 then _ else if k=1 then _ else _) ∈ _
 split
 . simp
 . split<;>simp
def OI(p):zE (pD p)=true:=by cases p<;>rfl
def Qy(ha:WD a as s (pD p)):WD (f2 a (fC .non)<|zp .IsNot) as true (.bl p.isSome):=zN ha zc (by cases p<;>rfl) rfl
def JS(ha:WD a as s (pD p)):WD (f2 a (fC .non)<|zp .Is) as true (.bl p.isNone):=zN ha zc (by cases p<;>rfl) rfl
def AB(p q):Wp (n+1) (pD p) (pD q)=some (decide (p=q)):=by
 cases p with
 |none=>cases q<;>rfl
 |some x=>
  cases q with
  |none=>rfl
  |some y=>
   show some _=_
   congr 1
   by_cases h:x=y<;>simp[h]
open AutoSeq1 (wpAny_loadPart')
section
variable{X:Cx}{kd:KD}
def IK(x y:D):Option R0:=CQ (λi j=>if 0<=j/\j<=1000000/\i.natAbs<2 ^ 64 then some (.im<|.int<|i*2 ^ j.toNat)else none) x y
def Ov:Al X kd (binaryOp .LShift) IK:=by
 intro pins s σ H x y v u Q I rx ry h;obtain⟨O,d,e,r,ht,vx,vy,he,q⟩:=h;obtain⟨i,j,rfl,rfl,he⟩:=Yc vx vy he;obtain⟨c,rfl⟩:=zB he;exact Ab pins s σ H _ _ v u Q I rx ry ⟨_,_,rfl,rfl,c,zU q<|.int _⟩
end
section
variable{X:Cx}{kd:KD}
def D6(x:D)(lo hi:Option Int):Option R0:=(Dk x).bind λxs=>if lo=none/\hi=some (-1)then some (.fl xs.reverse)else none
theorem Nq:∀r:List Value,(List.range r.length).filterMap (λk=>r[k]?)=r
 | []=>rfl
 |a::r=>by
  rw[zzT,List.range_succ_eq_map,List.filterMap_cons,List.filterMap_map];show a::(List.range r.length).filterMap (λk=>r[k]?)=_;rw[Nq r]
theorem Wg{α β:Type}{f g:α->Option β}:∀{l:List α},(∀a ∈ l,f a=g a)->l.filterMap f=l.filterMap g
 | [],_=>rfl
 |a::l,h=>by rw[List.filterMap_cons,List.filterMap_cons,h a zzF,Wg λb hb=>h b<|zzD _ hb]
def B6(l:List Value):slicePick l.toArray none none (some (-1))=l.reverse.toArray:=by
 have e:sliceBounds none none (some (-1)) l.toArray.size=((l.length:Int)-1, -1, -1):=⋯;unfold slicePick;rw[e];have e2:(sliceRange (l.length-1) (-1) (-1))=(List.range l.length).map λk=>l.length-1-k:=by
  unfold sliceRange;rw[if_neg<|by decide]
  rcases Nat.eq_zero_or_pos l.length with h|h
  . rw[h];rfl
  . rw[if_pos ⋯,Int.neg_neg,Int.ediv_one];have:((l.length:Int)-1 - -1 - -1-1).toNat=l.length:=⋯;show List.map _ _=_;rw[this];refine List.map_congr_left λk hk=>?_;have:=List.mem_range.mp hk;omega
 rw[e2]
 congr 1
 rw[List.filterMap_map];have e3:(List.range l.length).filterMap (λk=>l.toArray[l.length-1-k]?)=(List.range l.reverse.length).filterMap (λk=>l.reverse[k]?):=by
  rw[List.length_reverse];refine Wg λk hk=>?_;rw[List.getElem?_reverse<|List.mem_range.mp hk];simp
 exact e3.trans<|Nq _
def HR{K O H vs ds}(r:RpL K kd O H vs ds):RpL K kd O H vs.reverse ds.reverse:=RpL.ind (P:=λvs ds=>RpL K kd O H vs.reverse ds.reverse) .nil (λa _ ih=>by
 rw[List.reverse_cons,List.reverse_cons];exact ih.append<|.cons a .nil) r
def JJ{e st te th p2 pos}(he:PE X e te)(hst:PO X (some st) th):PE X (.Subscript e (.Slice none none (some st) p2) pos)
 (t_ (λx lo u H Q=>∃a xs,x = .ref a/\TX X.K H a xs/\u=some (-1)/\∀p,H p=none->Q (.ref p) (upd H p<|.lst xs.reverse)) te EE th):=by
 intro pins s σ H Q I h;refine Subscript_<|xX (he pins s σ H _ I h) λv s1 ⟨x,H1,I1,r1,q1⟩=>?_;refine wpAny_Slice ?_;refine zxC<|zxC<|xX (hst pins s1 σ H1 _ I1 q1) λvu s3 ⟨u,H3,I3,pu,q3⟩=>?_;have I4:Inv X pins σ H3 {s3 with heap:=s3.heap.push {cls:=.type "slice",data:=.fields #[.none,.none,vu]}}:=I3.kept (t':=s3.toks) λb ob q=>zxD _ q;obtain⟨a,xs,rfl,hx,rfl,q⟩:=q3;cases r1;obtain⟨its,r',pl,hz⟩:=I4.list hx;have hlen:=r'.length;refine tail_any pl.isList.typeIs slot_list_getitem.lookup (wpAny_getItem_list_slice pl.isList (Heap.IsSliceOf.new ..) .none .none pu (by decide) ?_<|by rw[zzH];omega) ⋯;rw[B6];exact⟨.ref _,_,I4.lnew (t':=s3.toks) r'.reverse (by rwa [List.length_reverse]),rfl,q _ I4.fresh⟩
def J_{a st fa fs pos p2}(ha:AE X kd a fa)(hs:AE X kd st fs):AE X kd (.Subscript a (.Slice none none (some st) p2) pos) (Ga fa oN (oS fs) D6):=by with_unfolding_all exact(yp (JJ ha<|Wx hs) λσ H Q h=>by
 obtain⟨F,B,ad,as,r,as',R,e,q⟩:=h;obtain⟨⟨p,as1⟩,h1,e⟩:=bS_<|e;obtain⟨_,h2,e⟩:=bS_ e;cases h2;obtain⟨⟨u,as3⟩,h3,e⟩:=bS_ e;obtain⟨⟨d,lv⟩,h4,e⟩:=bS_ e;obtain⟨r',h5,e⟩:=bS_ e;obtain⟨z,h6,e⟩:=bS_ e;cases e;obtain⟨xs,h7,h5⟩:=bS_<|h5;obtain⟨c,e5⟩:=zB h5;cases e5;refine Ym R h1 λv ad1 H1 R1 rv1 g1=>⟨F,B,ad1,as1,u,_,R1,h3,λad3 H3 R3 g3=>?_⟩;have vx:=xu.vw R3 (rv1.grow g3) h4;have rq:=WR R3 h6 λw T' H' R' rv' g'=>q w T' ad3 H' R' rv'<|(g1.trans g3).trans g';cases Kz h7;cases vx with
 |lst hr rl=>exact⟨_,_,rfl,hr.sq,c.2,K_ rq<|HR rl⟩)
end
def Ol(n:Nat)(K:zzA)(kd:KD)(F B:Addr->Prop)(ad:Ad)(σ:St)(H:Hp)(D:Ends):Out->Prop
 | .nx as'=>∀σ' ad' H',(∀i,i<n->σ'[i]? = σ[i]?)->Rel K kd F B [] ad' as' σ' H'->Grow (Gw [] ad) H (Gw [] ad') H'->D.nx σ' H'
 | .bk as'=>∀σ' ad' H',(∀i,i<n->σ'[i]? = σ[i]?)->Rel K kd F B [] ad' as' σ' H'->Grow (Gw [] ad) H (Gw [] ad') H'->D.bk σ' H'
 | .ct as'=>∀σ' ad' H',(∀i,i<n->σ'[i]? = σ[i]?)->Rel K kd F B [] ad' as' σ' H'->Grow (Gw [] ad) H (Gw [] ad') H'->D.ct σ' H'
 | .rt _=>False
def bp(n:Nat)(K:zzA)(kd:KD)(f:SF):TS:=λD σ H=>∃F B ad as o,Rel K kd F B [] ad as σ H/\f as=some o/\Ol n K kd F B ad σ H D o
@[irreducible] def AP(X:Cx)(kd:KD)(n:Nat)(st:Stmt)(f:SF):Prop:=PS X st<|bp n X.K kd f
@[irreducible] def AZ(X:Cx)(kd:KD)(n:Nat)(st:List Stmt)(f:SF):Prop:=L3 X st<|bp n X.K kd f
def Ol.pre{n:Nat}{K ad ad1 D}(s:∀i,i<n->σ1[i]? = σ[i]?)(g:Grow (Gw [] ad) H (Gw [] ad1) H1)(h:Ol n K kd F B ad σ H D o):Ol n K kd F B ad1 σ1 H1 D o:=by
 cases o with
 |nx as=>exact λσ' ad' H' s' R g'=>h σ' ad' H' (λi hi=>(s' i hi).trans<|s i hi) R (g.trans g')
 |bk as=>exact λσ' ad' H' s' R g'=>h σ' ad' H' (λi hi=>(s' i hi).trans<|s i hi) R (g.trans g')
 |ct as=>exact λσ' ad' H' s' R g'=>h σ' ad' H' (λi hi=>(s' i hi).trans<|s i hi) R (g.trans g')
 |rt _=>exact h
section
variable{X:Cx}{kd:KD}{n:Nat}{e c tg iter:Expr}{st:Stmt}{rest sts body:List Stmt}{fa:EF}{ta:TF}{f g:SF}{pos pos':Pos}
def PQ(h1:AP X kd n st f)(h2:AZ X kd n rest g):AZ X kd n (st::rest) (zt f g):=by with_unfolding_all exact(Qv (Wk h1 h2) λD σ H h=>by
 obtain⟨F,B,ad,as,o,R,e,q⟩:=h;obtain⟨o1,e1,e⟩:=bS_<|e;refine⟨F,B,ad,as,o1,R,e1, ?_⟩;cases o1 with
 |nx as1=>exact λσ' ad' H' s' R' g'=>⟨F,B,ad',as1,o,R',e,q.pre s' g'⟩
 |bk as1=>cases e;exact q
 |ct as1=>cases e;exact q
 |rt r=>cases e;exact q)
def Fs(h1:AP X kd n st f):AZ X kd n [st] f:=by with_unfolding_all exact(Rv h1)
def OS(he:AE X kd e fa)(hs:swapsWith e none pos.line X.env=pure false):AP X kd n (.Expr e pos) (xB fa):=by with_unfolding_all exact(wU (KN he hs) λD σ H h=>by
 obtain⟨F,B,c,as,o,R,e,q⟩:=h;obtain⟨⟨p,a⟩,d,e⟩:=bS_<|e;cases e;exact⟨F,B,c,as,p,a,R,d,λv j b f i k g=>q σ b f (λ_ _=>rfl) i.drop<|g.trans<|Grow.less Gw.drop⟩)
def Jn{i:Nat}(hn:n<=i)(hN:X.N.Nodup)(hi:X.N[i]? = some x)(hx:Loc X.env.scope x)(he:AE X kd e fa)(hs:swapsWith e (some<|.Name x pos') pos.line X.env=pure false)(hf:X.fn x=true\/X.env.scope.names.lookup x=some .local):
 AP X kd n (.Assign [.Name x pos'] e pos) (zL z i fa):=by with_unfolding_all exact(wU (B7 hN hi hx he hs hf) λD σ H h=>by
 obtain⟨F,B,c,as,o,R,e,q⟩:=h;obtain⟨⟨p,a⟩,d,e⟩:=bS_<|e;obtain⟨_,j,e⟩:=bS_ e;obtain⟨l,e⟩:=zB e;cases e;refine⟨F,B,c,as,p,a,R,d,λv w m r s t g=>?_⟩;obtain⟨b,R2,u⟩:=MF s t j l;exact q _ b r (λk A=>zzX ⋯) R2<|g.trans<|Grow.less u)
def Jp(hS:∀i,i<n->i ∉ S)(hp:PassesOwn (model X.prog X.w) X.A X.env X.xe)(hc:X.calm=true)(hi:AI X kd tg iter fi)(hg:AG X kd tg S gt)(hb:AZ X kd n body f)(hs:∀x,foldedSetIterable iter X.env x=pure x):
 AP X kd n (.For tg iter body [] pos) (WW fi gt f):=by with_unfolding_all exact(wU (Hi hp hc hi hg hb hs) λD σ H h=>by
 obtain⟨F,B,ad,as,o,R,e,q⟩:=h;obtain⟨⟨ds,as1⟩,h1,e⟩:=bS_<|e;refine⟨F,B,ad,as,ds,as1,R,h1,λJ ad1 H1 R1 g1 it=>?_⟩;refine⟨λi m σ2 H2=>m+i=ds.length/\∃ad2 as2,(∀k,k<n->σ2[k]? = σ[k]?)/\Rel X.K kd F B [] ad2 as2 σ2 H2/\Grow _ H1 (Gw [] ad2) H2/\forL gt f (ds.drop i) as2=some o,⟨ds.length,rfl,ad1,as1,λ_ _=>rfl,R1,Grow.refl,e⟩, ?_⟩
 rintro i m σ2 H2 ⟨hm,ad2,as2,s2,R2,g2,e2⟩
 obtain⟨k1,k2,k3⟩:=it.all ad2 H2 g2 R2.trk i
 by_cases hi:i<ds.length
 . refine .inr ⟨k1 hi,λσ3 H3=>∃ad3 as3,_/\Rel X.K kd F B [] ad3 as3 σ3 H3/\Grow _ H1 _ H3/\forL gt f _ as3=some o,λσ3 H3 ⟨ad3,as3,s3,R3,g3,e3⟩=>⟨m-1,⋯,⋯,ad3,as3,s3,R3,g3,e3⟩,λv H3 hy=>?_⟩;obtain⟨kp,rp⟩:=k3 v H3 hy;rw[zyO hi]at e2;obtain⟨as3,e3,e2⟩:=bS_<|e2;obtain⟨o3,e4,e2⟩:=bS_ e2;obtain⟨R3,g3⟩:=R2.more kp;refine⟨F,B,ad2,as2,_,as3,R3,rp _ ⋯,e3,λσ4 ad4 H4 R4 g4 s4=>?_⟩;refine⟨F,B,ad4,as3,o3,R4,e4, ?_⟩;have gg:=(g2.trans g3).trans g4;have s4':∀k,k<n->σ4[k]? = σ[k]? := λk hk=>(s4 k<|hS k hk).trans<|s2 k hk;cases o3 with
   |nx as5=>exact λσ5 ad5 H5 s5 R5 g5=>⟨ad5,as5,λk hk=>(s5 k hk).trans<|s4' k hk,R5,gg.trans g5,e2⟩
   |ct as5=>exact λσ5 ad5 H5 s5 R5 g5=>⟨ad5,as5,λk hk=>(s5 k hk).trans<|s4' k hk,R5,gg.trans g5,e2⟩
   |bk as5=>
    cases e2;exact λσ5 ad5 H5 s5 R5 g5=>q σ5 ad5 H5 (λk hk=>(s5 k hk).trans<|s4' k hk) R5 (g1.trans<|gg.trans g5)
   |rt r=>cases e2;exact q.elim
 . refine .inl ⟨k2 ⋯, ?_⟩;rw[List.drop_eq_nil_of_le ⋯]at e2;cases e2;exact q σ2 ad2 H2 s2 R2<|g1.trans g2)
end
section
variable{K:zzA}{kd:KD}{F B:Addr->Prop}{ad:Ad}{as:AS}{σ:St}{H H':Hp}
def G1(G:Addr->Prop)(T T':List Addr):Addr->Prop:=λa=>(G a/\a ∉ T)\/a ∈ T'
def Rel.chg1{i:Nat}(R:Rel K kd F B [] ad as σ H)(hi:i<as.length)(s0:σ[i]? = some (some v0))(nd:T0.Nodup)
 (sub:∀a ∈ T0,a ∈ ad i\/H a=none) (kp:∀c u,H c=some u->c ∉ ad i->H' c=some u) (al:∀a ∈ T0,H' a≠none)
 (r0:Xb K kd F B (G1 (Gw [] ad) (ad i) T0) H' v0 o0 T0):
 Rel K kd F B [] (v_ ad i T0) (as.set i<|some o0) σ H'/\Grow (Gw [] ad) H (Gw []<|v_ ad i T0) H':=by
 have v:v_ ad i T0 i=T0:=zO;have q:∀k,k≠i->v_ ad i T0 k=ad k:=λk h=>zS h;have r:∀k a,k≠i->a ∈ ad k->a ∉ ad i:=λk a h m z=>h<|R.inj k i a m z;have C:∀a,Gw [] (v_ ad i T0) a->G1 (Gw [] ad) _ T0 a:=λa z=>by
  rcases z with z|⟨k,z⟩
  . exact nomatch z
  . by_cases e:k=i
    . subst e;rw[v]at z;exact .inr z
    . rw[q k e]at z;exact .inl ⟨.inr ⟨k,z⟩,r k a e z⟩
 have A:=λk a h m z=>(sub a z).elim (r k a h m) λy=>(R.gtr a<|.inr ⟨k,m⟩).1 y;have g:Grow _ H _ H':=⟨λb o h n=>kp b o h λz=>n<|.inr ⟨i,z⟩,λb z=>(C b z).elim (λy=>.inl y.1) λy=>(sub b y).elim (λx=>.inl<|.inr ⟨i,x⟩) .inr⟩;have D:∀a,H a≠none->a ∉ ad i->H' a≠none:=λa h n=>by
  cases e:H a with
  |none=>exact absurd e h
  |some u=>rw[kp a u e n];simp
 have d:∀a,a ∈ ad i->Gw [] ad a:=λa z=>.inr ⟨i,z⟩;refine⟨⟨by rw[zzU];exact R.len,λk I=>?_,λk=>?_,λk l a j p=>?_,zyI,(λ_ _ _ z=>nomatch z),λa z=>D a (R.ftr a z) λy=>(R.gtr a<|d a y).2 z,λa z=>?_,λa z=>?_,λk s e=>?_⟩,g⟩
 . rw[zzU]at I;rw[q k ⋯];exact R.out k I
 . by_cases e:k=i
   . subst e;rwa [v]
   . rw[q k e];exact R.nd k
 . by_cases e:k=i
   . subst e;rw[v]at j
     by_cases E:l=k
     . exact E.symm
     . rw[q l E]at p;exact absurd j<|A l a E p
   . rw[q k e]at j
     by_cases t:l=i
     . subst t;rw[v]at p;exact absurd p<|A k a e j
     . rw[q l t]at p;exact R.inj k l a j p
 . obtain⟨j,p,G⟩:=R.btr a z;refine⟨D a j λy=>G<|d a y,p,λy=>(C a y).elim (λx=>G x.1) λx=>(sub a x).elim (λw=>G<|d a w) j⟩
 . rcases C a z with⟨y,n⟩|y
   . exact⟨D a (R.gtr a y).1 n,(R.gtr a y).2⟩
   . exact⟨al a y,(sub a y).elim (λw=>(R.gtr a<|d a w).2) λw f=>R.ftr a f w⟩
 . by_cases t:k=i
   . subst t;rw[zyJ hi]at e;cases e;rw[v];exact⟨v0,s0,Xb.lv (λJ a z=>z.imp id<|C a) r0⟩
   . rw[zzX λz=>t z.symm]at e;rw[q k t];exact(R.sl k s e).grow g λa m u h=>kp a u h<|r k a t m
end
def BF(K:zzA)(kd:KD)(g:List ZX->O->Option O):Sp:=λvs H Q _=>∃(F B G:Addr->Prop) (T:List Addr) (ws:List V) (v:V) (xs:List ZX) (o r:O),vs=ws++[v]/\(∀a,F a->H a≠none)/\(∀a,B a->H a≠none/\¬F a/\¬G a)/\(∀a,G a->H a≠none/\¬F a)/\
 T.Nodup/\(∀a ∈ T,G a)/\RpI K kd F B G H ws xs/\Xb K kd F B G H v o T/\g xs o=some r/\
 ∀(H':Hp) (T':List Addr),(∀c u,H c=some u->c ∉ T->H' c=some u)->T'.Nodup->(∀a ∈ T',a ∈ T\/H a=none)->(∀a ∈ T',H' a≠none)->Xb K kd F B (G1 G T T') H' v r T'->Q .non H'
def NL(i:Nat):List RV->Option (List ZX)
 | []=>none
 |r::rs=>match r with
  | .bo j=>if j=i/\rs.isEmpty=true then some []else none
  | .ow (.lf st d)=>(NL i rs).bind λxs=>some ((st,d)::xs)
  | .ow (.nd _ _)=>none
theorem Mg{K ad}{i:Nat}:∀{rs:List RV}{vs:List V}{xs:List ZX},RVs K kd F B ad σ H vs rs->NL i rs=some xs->∃ws v,vs=ws++[v]/\RpI K kd F B (Gw [] ad) H ws xs/\σ[i]? = some (some v)
 | [],_,_,_,e=>by cases e
 |r::rs,_,xs,h,e=>by
  cases h with
  |cons hv hr=>
   rename_i v vs;cases r with
   |bo j=>
    obtain⟨⟨e1,e2⟩,e3⟩:=zB e;cases e3;rw[List.isEmpty_iff]at e2;subst e1 e2;cases hr;exact⟨[],v,rfl,.nil,hv.2⟩
   |ow o=>
    cases o with
    |lf st d=>
     obtain⟨ys,e1,e⟩:=bS_<|e;cases e;obtain⟨ws,w,rfl,h1,h2⟩:=Mg hr e1;cases hv with
     |lf rp=>exact⟨v::ws,w,rfl,.cons rp h1,h2⟩
    |nd k os=>cases e
def Y3(i:Nat)(fr:AF)(g:List ZX->O->Option O):SF:=λas=>(fr as).bind λp=>(NL i p.1).bind λxs=>(p.2[i]?).bind λa=>a.bind λo=>(g xs o).bind λr=>some<|.nx<|p.2.set i<|some r
section
variable{X:Cx}{kd:KD}{e:Expr}{es:List Expr}{fr:AF}{pos pos':Pos}
def L8{n i k:Nat}{f}(F:FnOk X.prog X.w X.K X.mg X.base wH k f fdt ps (BF X.K kd g))(hr:Room k X.A)(hg:Gl X x)(hm:X.mg x=some (.ref f))(hk:W.keepIn X.K (.ref f)=true)
 (hb:Binds X.K fdt ps []) (hx:wR wH X (λ_ _ _=>False)) (ha:AA X kd (e::es) fr) (hdb:(x==("__debug__":Str))=false) (he:starEach (e::es) X.env=(false,eval e X.env)::starEach es X.env) (hpl:(backTo pos<|starEach es X.env).any (·.1)=false)
 (hs:swapsWith (.Call (.Name x p) (e::es) [] pos) none pos'.line X.env=pure false):
 AP X kd n (.Expr (.Call (.Name x p) (e::es) [] pos) pos') (Y3 i fr g):=by
 with_unfolding_all exact(wU (KN (Lm F hr hg hm hk hb .nil hx ha hdb he hpl) hs) λD σ H h=>by
  obtain⟨F,B,I,as,o,R,e,q⟩:=h;obtain⟨⟨J,d⟩,L,M⟩:=bS_<|e;obtain⟨N,P,Q⟩:=bS_ M;obtain⟨a,z,S⟩:=bS_ Q;obtain⟨T,U,V⟩:=bS_ S;obtain⟨r,j,Y⟩:=bS_ V;subst U;have l:=zzY Y;refine(⟨F,B,I,as,J,d,R,L,λvs c Z b s g1=>?_⟩);obtain⟨C,v,rfl,t,E⟩:=Mg s P;obtain⟨w0,G,u⟩:=b.sl i _ z;rw[E]at G;cases G;rw[zyD];refine⟨F,B,Gw [] c,c i,C,v,N,T,r,rfl,b.ftr,b.btr,b.gtr,b.nd i,λa m=>.inr ⟨i,m⟩,t,u,j,λH' T' kp nd y al r0=>?_⟩;obtain⟨R3,g3⟩:=b.chg1 (zzG.mp z).1 E nd y kp al r0;subst l;exact q σ _ _ (λ_ _=>rfl) R3<|g1.trans g3)
def Hb{i k:Nat}(F:FnOk X.prog X.w X.K X.mg X.base wH k f fdt ps (BF X.K kd g))(hr:Room k X.A)(hg:Gl X x)(hm:X.mg x=some (.ref f))(hk:W.keepIn X.K (.ref f)=true)
 (hb:Binds X.K fdt ps []) (hx:wR wH X (λ_ _ _=>False)) (ha:AA X kd (e::es) fr) (hdb:(x==("__debug__":Str))=false) (he:starEach (e::es) X.env=(false,eval e X.env)::starEach es X.env) (hpl:(backTo pos<|starEach es X.env).any (·.1)=false)
 (hs:swapsWith (.Call (.Name x p) (e::es) [] pos) none pos'.line X.env=pure false):
 Ed X kd (.Expr (.Call (.Name x p) (e::es) [] pos) pos') (Y3 i fr g):=by
 have h:=L8 (n:=0) (i:=i) F hr hg hm hk hb hx ha hdb he hpl hs
 with_unfolding_all exact(wU h λD σ H h=>by
  obtain⟨F,B,ad,as,o,R,e,q⟩:=h;refine⟨F,B,ad,as,o,R,e, ?_⟩;cases o with
  |nx as'=>exact λσ' ad' H' _ R' g'=>q σ' ad' H' R' g'
  |bk as'=>exact λσ' ad' H' _ R' g'=>q σ' ad' H' R' g'
  |ct as'=>exact λσ' ad' H' _ R' g'=>q σ' ad' H' R' g'
  |rt r=>
   obtain⟨_,h1,e1⟩:=bS_<|e;obtain⟨xs,h2,e2⟩:=bS_ e1;obtain⟨a,ka,e3⟩:=bS_ e2;obtain⟨o0,qa,e4⟩:=bS_ e3;obtain⟨r,hgr,e5⟩:=bS_ e4;cases e5)
end
def br(n:Nat)(K:zzA)(kd:KD)(f:SF):TS:=λD σ H=>∃F B ad as as',Rel K kd F B [] ad as σ H/\f as=some (.nx as')/\∀σ' ad' H',(∀i,i<n->σ'[i]? = σ[i]?)->Rel K kd F B [] ad' as' σ' H'->Grow (Gw [] ad) H (Gw [] ad') H'->D.nx σ' H'/\D.rt .non H'
@[irreducible] def si(X:Cx)(kd:KD)(n:Nat)(st:List Stmt)(f:SF):Prop:=L3 X st<|br n X.K kd f
section
variable{X:Cx}{kd:KD}{n:Nat}{c:Expr}{st:Stmt}{rest:List Stmt}{ta:TF}{f g:SF}{pos pos':Pos}
def FG(hc:AT X kd c ta)(ha:AP X kd n st f)(hb:AZ X kd n rest g):si X kd n (.If c [st,.Return none pos'] [] pos::rest) (yU ta f g):=by
 with_unfolding_all exact(Qv (Wk (Cu hc (Wk ha<|Rv Oc) E_) hb) λD σ H h=>by
  obtain⟨F,B,r,as,s,R,e,q⟩:=h;obtain⟨⟨p,a⟩,t,e⟩:=bS_<|e;refine⟨F,B,r,as,p,a,R,t,λd u m o=>?_⟩;cases p with
  |true=>exact⟨F,B,d,a,_,m,e,λi b j k R2 l=>(q i b j k R2<|o.trans l).2⟩
  |false=>exact⟨F,B,d,a,_,m,e,λi b j k R2 l=>(q i b j k R2<|o.trans l).1⟩)
end
def VN(n:Nat)(xs:List ZX)(o:O):AS:=(xs.map λx=>some<|O.lf x.1 x.2)++some o::List.replicate (n-(xs.length+1)) none
def gL(n m:Nat)(c:SF)(xs:List ZX)(o:O):Option O:=if xs.length+1=m then(c<|VN n xs o).bind λout=>match out with
 | .nx as=>(as[xs.length]?).bind id
 |_=>none
 else none
def IW(k:Nat)(T:List Addr):Ad:=λi=>if i=k then T else[]
def Uo{k:Nat}:Gw [] (IW k T) a ↔ a ∈ T:=by
 constructor
 . rintro(z|⟨i,z⟩)
   . exact nomatch z
   . unfold IW at z
     by_cases e:i=k
     . rwa [if_pos e]at z
     . rw[if_neg e]at z;exact nomatch z
 . intro z;exact .inr ⟨k,by unfold IW;rwa [if_pos rfl]⟩
theorem Rm{K}:∀{vs:List V}{xs:List ZX},RpI K kd F B G H vs xs->vs.length=xs.length
 |_,_,.nil=>rfl
 |_,_,.cons _ h=>congrArg Nat.succ<|Rm h
theorem Fo{K}:∀{vs:List V}{xs:List ZX}{i:Nat}{x:ZX},RpI K kd F B G H vs xs->xs[i]? = some x->∃v,vs[i]? = some v/\Rp K kd (Lv F B G x.1) H v x.2
 |_,_,i,x,.nil,e=>by cases e
 |_,_,0,x,.cons r h,e=>by cases e;exact⟨_,rfl,r⟩
 |_,_,i+1,x,.cons r h,e=>Fo (i:=i) h e
def MQ{K}(hN:xs.length+1<=N.length)(ht:∀a,F a->H a≠none)(hB:∀a,B a->H a≠none/\¬F a/\¬G a)(hG:∀a,G a->H a≠none/\¬F a)(nd:T.Nodup)(hT:∀a ∈ T,G a)
 (rpi:RpI K kd F B G H ws xs) (r0:Xb K kd F B G H v o T):Rel K kd F (λa=>B a\/(G a/\a ∉ T)) [] (IW xs.length T) (VN N.length xs o) (L2.start N<|ws++[v]) H:=by
 have d:=Rm rpi;have k:∀c a,Lv F (λa=>B a\/(G a/\a ∉ T)) (Gw []<|IW xs.length T) c a->Lv F B G c a:=λc a z=>by
  rcases z with(z|z|z)|z
  . exact .inl<|.inl z
  . exact .inl<|.inr z
  . exact .inr z.1
  . exact .inr<|hT a<|Uo.mp z
 have b:∀i,i≠xs.length->IW xs.length T i=[]:=λi h=>if_neg h;have f:IW xs.length T xs.length=T:=if_pos rfl;have l:(VN N.length xs o).length=N.length:=by unfold VN;simp;omega
 have c:L2.start N (ws++[v])=ws.map some++some v::List.replicate (N.length-(xs.length+1)) none:=by
  unfold L2.start;simp[d]
 refine⟨by rw[l,c];simp[d];omega,λi t=>b i (by omega),λi=>?_,λi j a x y=>?_,zyI,(λ_ _ _ z=>nomatch z),ht,λa z=>?_,λa z=>hG a<|hT a<|Uo.mp z,λi s e=>?_⟩
 . by_cases h:i=xs.length
   . subst h;rwa [f]
   . rw[b i h];exact zyI
 . by_cases h:i=xs.length
   . by_cases g:j=xs.length
     . rw[h,g]
     . rw[b j g]at y;exact nomatch y
   . rw[b i h]at x;exact nomatch x
 . rcases z with z|z
   . exact⟨(hB a z).1,(hB a z).2.1,λy=>(hB a z).2.2<|hT a<|Uo.mp y⟩
   . exact⟨(hG a z.1).1,(hG a z.1).2,λy=>z.2<|Uo.mp y⟩
 . rw[c];unfold VN at e
   by_cases h:i<xs.length
   . rw[zyN (by rwa [zzB]),zzI]at e;obtain⟨x,m,rfl⟩:=zzW.mp e;obtain⟨u,n,p⟩:=Fo rpi m;rw[b i (by omega),zyN (by rwa [zzB,d]),zzI,n];exact⟨u,rfl,.lf<|p.less<|k x.1⟩
   . rw[zyP (by rw[zzB];omega),zzB]at e;rw[zyP (by rw[zzB,d];omega),zzB,d]
     by_cases g:i=xs.length
     . subst g;rw[Nat.sub_self]at e ⊢;cases e;rw[f];exact⟨v,rfl,Xb.lv k r0⟩
     . rw[b i g];obtain⟨j,q⟩:∃j,i-xs.length=j+1:=⟨i-xs.length-1,by omega⟩;rw[q]at e;have e:=e;have r:=(List.mem_replicate.mp<|zzZ e).2;subst r;rfl
section
variable{P:Program}{w:World}{K:zzA}{mg:Str->Option Value}{base:Heap}
def Ir{kd st}{k:Nat}(Fn:Fun K x qual st f fd)(S:FnScope N ps (zh st))(hN:ps.length<=N.length)
 (hb:∀(cdv:Value) (A:Around) (outer:List Env) (s:Shared) (H:Hp) (E:XK),Room k (A.deeper<|envOfC qual (zh st) s.heap.objs.size f cdv)->si (T7 wH P w K mg base N qual (zh st) f cdv A outer s H E).nox kd ps.length (Zs st) c):
 FnOk P w K mg base wH (k+1) f fd ps (BF K kd<|gL N.length ps.length c):=by
 with_unfolding_all (
 refine Fn.ok S (λX H Q E h=>?_) λy A j s H X Q E Y h=>⟨_,hb y A j s H E Y, ?_⟩
 . obtain⟨F,B,G,T,I,v,d,o,r,rfl,J,L,M,nd,O,i,U,e,q⟩:=h;unfold gL at e
   by_cases p:d.length+1=ps.length
   . rwa [zzJ,Rm i]
   . rw[if_neg p]at e;cases e
 . obtain⟨F,B,G,T,I,v,d,o,r,rfl,J,L,M,nd,O,i,U,e,q⟩:=h;unfold gL at e
   by_cases p:d.length+1=ps.length
   . rw[if_pos p]at e;obtain⟨C,Z,V⟩:=bS_ e;cases C with
     |nx as=>
      obtain⟨a,k0,e3⟩:=bS_ V;have e4:=e3;subst e4;refine⟨F,_,_,VN N.length d o,as,MQ ⋯ J L M nd O i U,Z,λσ' b H' sp R g=>?_⟩;obtain⟨u0,W,t0⟩:=R.sl d.length _ k0;rw[sp d.length ⋯]at W;have sv:(L2.start N<|I++[v])[d.length]? = some (some v):=by
       have wl:=Rm i;unfold L2.start;rw[<-wl];simp
      cases(sv.symm.trans W);have l:∀a,a ∈ b d.length->Gw [] b a:=λa z=>.inr ⟨_,z⟩;have lv:∀D a,Lv F B (G1 G T _) D a->Lv F (λa=>B a\/_) _ D a:=λD a z=>by
       rcases z with(z|z)|z|z
       . exact .inl<|.inl z
       . exact .inl<|.inr<|.inl z
       . exact .inl<|.inr<|.inr z
       . exact .inr<|l a z
      have t:=q H' _ (λc u h n=>g.keep c u h λz=>n<|Uo.mp z) (R.nd _) (λa m=>(g.own a<|l a m).imp Uo.mp id) (λa m=>(R.gtr a<|l a m).1)<|Xb.lv lv t0;exact⟨t,t⟩
     |_=>cases V
   . rw[if_neg p]at e;cases e)
end
section
variable{X:Cx}{kd:KD}{n:Nat}
def uv(z)(i:Nat)(hn:n<=i)(hN:X.N.Nodup)(he:AE X kd e fa)(hi:X.N[i]? = some x:=by rfl)(hx:Loc X.env.scope x:=by first|exact Or.inl rfl|exact Or.inr rfl)(hs:swapsWith e (some<|.Name x pos') pos.line X.env=pure false:=by rfl)(hf:X.fn x=true\/X.env.scope.names.lookup x=some .local:=by first|exact Or.inl rfl|exact Or.inr rfl):
 AP X kd n (.Assign [.Name x pos'] e pos) (zL z i fa):=Jn hn hN hi hx he hs hf
end
section
variable{P:Program}{w:World}{K:zzA}{mg:Str->Option Value}{base:Heap}{kd:KD}
def SV{k:Nat}:FnOk P w K mg base wH k f fd ps (BF K kd λ_ _=>none):=
 ⟨λc H Q E h=>(by obtain⟨_,_,_,_,_,_,_,_,_,_,_,_,_,_,_,_,_,e,_⟩:=h;cases e),λA a s H b d c Q E _ _ _ _ h=>(by obtain⟨_,_,_,_,_,_,_,_,_,_,_,_,_,_,_,_,_,e,_⟩:=h;cases e)⟩
end
def Am(f:EF):EF:=λas=>(f as).bind λp=>some (p.1.frz,p.2)
def Fe(h:AE X kd e fa):AE X kd e (Am fa):=by with_unfolding_all exact(yp h λσ H Q q=>by
 obtain⟨F,B,ad,as,r,as',R,e,k⟩:=q;obtain⟨⟨p,as1⟩,h1,e⟩:=bS_<|e;cases e;exact⟨F,B,ad,as,p,as1,R,h1,λv T' ad' H' R' rv g=>k v [] ad' H' R'.drop (xu.drop R' rv)<|g.trans<|Grow.less Gw.drop⟩)
def uI(h:WE f as x):WD (Am f) as true x:=by
 obtain⟨o,h,h1,h2⟩:=h;unfold WD Am;rw[h,<-h1,<-h2];rfl
section
variable{X:Cx}{kd:KD}{P:Program}{w:World}{K:zzA}{a b e o:Expr}{es:List Expr}{fa fb fo:EF}{fr:AF}{fd_:DF}{pos p apos:Pos}{k n:Nat}
def Zu(h1:sc.kind = .function:=by rfl)(h2:sc.isCoroutine=false:=by rfl)(h3:sc.isGenerator=false:=by rfl)(h4:N.Nodup:=by decide +kernel)(h5:N.take Ps.length=Ps:=by rfl)(h6:∀x ∈ Ps,sc.names.lookup x=some .local\/sc.names.lookup x=some .cell:=by decide +kernel)(h7:∀y ∈ sc.names,y.2 ≠ .free:=by decide +kernel):FnScope N Ps sc:=⟨h1,h2,h3,h4,h5,h6,h7⟩
def bs{st}(F:Fun K x qual st f fd)
 (h:∀(kV doc pm:Value) (an:Option Addr) (cdv ct:Value) (us:List Value),us.length=ps.length->bindArgs (W.fnOf x qual (Ru st) (Zs st) (zh st) .none kV doc pm an cdv ct) ⟨us,[]⟩=pure (ps.zip us):=by first|exact λ_ _ _ _ _ _=>rg λ_=>rfl|exact λ_ _ _ _ _ _=>rj λ_ _=>rfl|exact λ_ _ _ _ _ _=>rh λ_ _ _=>rfl|exact λ_ _ _ _ _ _=>sO λ_ _ _ _=>rfl|exact λ_ _ _ _ _ _=>rz λ_ _ _ _ _=>rfl|exact λ_ _ _ _ _ _=>l6_ λ_ _ _ _ _ _=>rfl):Binds K fd ps []:=F.binds h
def bc(ha:AE X kd a fa)(hr:AA X kd es fr)(hs:isStar a=false:=by rfl):AA X kd (a::es) (aC fa fr):=OR ha hr<|Ko hs
def bd(ha:AE X kd a fa)(hr:AD X kd es fd_)(hs:isStar a=false:=by rfl):AD X kd (a::es) (dC fa fd_):=OH ha hr<|Ko hs
def bn{op}(ha:AE X kd a fa)(hb:AE X kd b fb):AE X kd (.BinOp a op b pos) (f2 fa fb<|ZK op):=SA (Aa op) ha hb
def tc{op}(hkd:xW P w K kd)(hr:Room k X.A)(ha:AE X kd a fa)(hb:AE X kd b fb)(h1:X.prog=P:=by rfl)(h2:X.w=w:=by rfl)(h3:X.K=K:=by rfl)(hm:behindInMarks op b=false:=by exact Si _):AT X kd (.Compare a [op] [b] pos) (fT<|f2 fa fb<|zp op):=IU (Hr (hkd _ h1 h2 h3) (CC hr) op) (O8 op) ha hb hm
def ec{op}(hkd:xW P w K kd)(hr:Room k X.A)(ha:AE X kd a fa)(hb:AE X kd b fb)(h1:X.prog=P:=by rfl)(h2:X.w=w:=by rfl)(h3:X.K=K:=by rfl)(hm:behindInMarks op b=false:=by exact Si _):AE X kd (.Compare a [op] [b] pos) (f2 fa fb<|zp op):=Jk (Hr (hkd _ h1 h2 h3) (CC hr) op) ha hb hm
def fd(hc:CF X.K kd cs f)(ha:AE X kd a fa)(hb:attributeBase a f X.env (eval a X.env)=eval a X.env:=by rfl):AE X kd (.Attribute a f pos) (f1 fa<|zJ cs f):=Jb hc ha hb
def ck(F:FnOk X.prog X.w X.K X.mg X.base wH k f fdt ps (Wv X.K kd gg))(hr:Room n X.A)(hm:X.mg x=some (.ref f))(hk:W.keepIn X.K (.ref f)=true)
 (hb:Binds X.K fdt ps []) (ha:AA X kd (e::es) fr) (hn:k<=n:=by omega) (hg:Gl X x:=by rfl) (hdb:(x==("__debug__":Str))=false:=by decide) (he:starEach (e::es) X.env=(false,eval e X.env)::starEach es X.env:=by rfl) (hpl:(backTo pos<|starEach es X.env).any (·.1)=false:=by rfl):
 AE X kd (.Call (.Name x p) (e::es) [] pos) (zd fr gg):=Ey F (hr.mono hn) hg hm hk hb UD ha hdb he hpl
def bi{id}(hc:Vv X kd (.builtin id) gg)(hm:X.mg x=none)(hv:bootBuiltins x=some (.builtin id))(ha:AA X kd (e::es) fr)(hg:Gl X x:=by rfl)(hn:x≠"__name__":=by exact Bt.n _ rfl)(hdb:(x==("__debug__":Str))=false:=by decide)
 (he:starEach (e::es) X.env=(false,eval e X.env)::starEach es X.env:=by rfl) (hpl:(backTo pos<|starEach es X.env).any (·.1)=false:=by rfl):AE X kd (.Call (.Name x p) (e::es) [] pos) (fP fr gg):=J3 hc hg hm hv ha hn hdb he hpl
def rB(hc:Vv X kd (.type T) gg)(hm:X.mg x=none)(hv:bootBuiltins x=some (.type T))(ha:AA X kd (e::es) fr)(hg:Gl X x:=by rfl)(hn:x≠"__name__":=by exact Bt.n _ rfl)(hdb:(x==("__debug__":Str))=false:=by decide)
 (he:starEach (e::es) X.env=(false,eval e X.env)::starEach es X.env:=by rfl) (hpl:(backTo pos<|starEach es X.env).any (·.1)=false:=by rfl):AE X kd (.Call (.Name x p) (e::es) [] pos) (fP fr gg):=JT hc hg hm hv ha hn hdb he hpl
def mq(hC:kd.c c=C)(M:Mk X.K C f)(F:FnOk X.prog X.w X.K X.mg X.base wH k f fdt ps (Ah X.K kd c g))(hr:Room n X.A)(hm:X.mg x=some (.ref C))(hb:Binds X.K fdt ps [])
 (ha:AA X kd (e::es) fr) (hn:k+1<=n:=by omega) (hg:Gl X x:=by rfl) (hdb:(x==("__debug__":Str))=false:=by decide) (he:starEach (e::es) X.env=(false,eval e X.env)::starEach es X.env:=by rfl) (hpl:(backTo pos<|starEach es X.env).any (·.1)=false:=by rfl):
 AE X kd (.Call (.Name x p) (e::es) [] pos) (zd fr g):=HN hC M F (hr.mono hn) hg hm hb UD ha hdb he hpl
def sj(i:Nat){rest}(hN:X.N.Nodup)(he:AE X kd e fa)(h2:FW X kd rest g)(hi:X.N[i]? = some x:=by rfl)(hx:Loc X.env.scope x:=by first|exact Or.inl rfl|exact Or.inr rfl)(hs:swapsWith e (some<|.Name x pos') pos.line X.env=pure false:=by rfl)(hf:X.fn x=true\/X.env.scope.names.lookup x=some .local:=by first|exact Or.inl rfl|exact Or.inr rfl):
 FW X kd (.Assign [.Name x pos'] e pos::rest) (zt (zL z i fa) g):=zP (SE hN hi hx he hs hf) h2
def mt(hT:MT X.prog X.w X.K X.mg X.base kd m k tbl)(hr:Room n X.A)(ho:AE X kd o fo)(ha:AA X kd (e::es) fr)
 (ht:eval (.Call (.Attribute o m apos) (e::es) [] pos) X.env=(do
  let ov <-eval o X.env
  standAt apos.atName
  let(f,first) <-holding [ov] (getMethod ov m pl)
  callWith pos f first (backTo pos<|starEach (e::es) X.env) (backToKw pos<|keywordEach [] X.env)))
 (hn:k<=n:=by omega) (hst:starEach (e::es) X.env=(false,eval e X.env)::starEach es X.env:=by rfl) (hpl:(backTo pos<|starEach es X.env).any (·.1)=false:=by rfl):
 AE X kd (.Call (.Attribute o m apos) (e::es) [] pos) (yC tbl m fo fr):=Im hT (hr.mono hn) UD ho ha hst hpl ht
def rD(hT:MT X.prog X.w X.K X.mg X.base kd m k tbl)(hr:Room n X.A)(ho:AE X kd o fo)
 (ht:eval (.Call (.Attribute o m apos) [] [] pos) X.env=(do
  let ov <-eval o X.env
  standAt apos.atName
  let(f,first) <-holding [ov] (getMethod ov m pl)
  callWith pos f first (backTo pos<|starEach [] X.env) (backToKw pos<|keywordEach [] X.env)))
 (hn:k<=n:=by omega):AE X kd (.Call (.Attribute o m apos) [] [] pos) (yC tbl m fo aN):=HC hT (hr.mono hn) UD ho ht
end
def LX:D->Bool
 | .non=>true
 | .bl _=>true
 | .int _=>true
 | .str _=>true
 |_=>false
def tT:D->Bool
 | .tup ds=>ds.all LX
 |d=>LX d
def OP:List D->Bool
 | []=>true
 |d::_=>tT d
def U0(K:zzA):Bool:=K.all λp=>match p.2.cls with
 | .type c=>c != "tuple"
 |_=>true
def E4{K a}{o:Obj}(h:U0 K=true)(e:K.lookup a=some o):o.cls ≠ .type "tuple":=λc=>by
 unfold U0 at h
 induction K with
 |nil=>cases e
 |cons p r i=>
  rw[List.all_cons,zyB]at h;rw[List.lookup_cons]at e
  split at e
  . cases e;rw[c]at h;exact absurd h.1 (by decide)
  . exact i h.2 e
def V9:Nat->D->Bool
 |0,_=>false
 |n+1,.tup ds=>ds.all (V9 n)
 |n+1,.lst ds=>OP ds&&ds.all (V9 n)
 |n+1,.ob _ _ ds=>ds.all (V9 n)
 |_+1,.dct _=>false
 |_+1,_=>true
section
variable{K:zzA}{kd:KD}{O:Addr->Prop}{H:Hp}{a b:Addr}{vs0:List V}
def J9{v d}(h:Rp K kd O H v d):LX d=false ↔ ∃z,v = .ref z:=by
 cases h with
 |non=>exact⟨λe=>(nomatch (show true=false from e)),λ⟨_,e⟩=>by cases e⟩
 |bl=>exact⟨λe=>(nomatch (show true=false from e)),λ⟨_,e⟩=>by cases e⟩
 |int=>exact⟨λe=>(nomatch (show true=false from e)),λ⟨_,e⟩=>by cases e⟩
 |str=>exact⟨λe=>(nomatch (show true=false from e)),λ⟨_,e⟩=>by cases e⟩
 |_=>exact⟨λ_=>⟨_,rfl⟩,λ_=>rfl⟩
def Fj{vs ds}(h:RpL K kd O H vs ds):ds.all LX=false ↔ ∃z,V.ref z ∈ vs:=
 RpL.ind (P:=λvs ds=>ds.all LX=false ↔ ∃z,V.ref z ∈ vs) ⟨λe=>(nomatch (show true=false from e)),λ⟨_,e⟩=>by cases e⟩ (λh _ i=>by
  rw[List.all_cons,Bool.and_eq_false_iff,J9 h,i];exact⟨λe=>e.elim (λ⟨z,e⟩=>⟨z,by rw[e];exact zzF⟩) λ⟨z,e⟩=>⟨z,zzD _ e⟩,λ⟨z,e⟩=>(zzC.mp e).elim (λe=>.inl ⟨z,e.symm⟩) λe=>.inr ⟨z,e⟩⟩) h
structure Hd(K:zzA)(H:Hp)(b:Addr):Prop where
 nt:U0 K=true
 r:∃us,Rd H b (.tup us)/\∃z,V.ref z ∈ us
def Hd.off(g:Hd K H b){d}(h:Rp K kd O H (.ref b) d):tT d=false:=by
 obtain⟨us,h1,h2⟩:=g.r;cases h with
 |tup n h r=>cases JV (λ_ _ e=>by cases e) (λ_ _ e=>by cases e) h1 h;exact(Fj r).mpr h2
 |tupK j p=>exact absurd p (E4 g.nt j)
 |_=>rfl
def EH{u w:HO}(hc:H a=some (.lst vs0))(h:Rd H a u):u = .lst vs0:=by
 rcases h with h|⟨o,h⟩
 . rw[hc]at h;cases h;rfl
 . rw[hc]at h;cases h
def Dh(hd:Hd K H b)(hc:H a=some (.lst (.ref b::vs0))){v d}(h:Rp K kd O H v d):∀n,V9 n d=true->Rp K kd (λz=>O z\/z=a) H v d:=
 Rp.rec (motive_2:=λg f _=>∀n,f.all _=true->RpL K kd _ H g f) (motive_3:=λ_ _ _=>True)
  (λ_ _=>.non) (λb _ _=>.bl b) (λi _ _=>.int i) (λx _ _=>.str x)
  (λ{c g f} n h _ r m e=>by
   cases m with
   |zero=>cases e
   |succ m=>exact .tup (λz=>z.elim n λq=>by subst q;cases EH (w:=.lst []) hc h) h (r m e))
  (λj p s k o _ r m e=>by
   cases m with
   |zero=>cases e
   |succ m=>exact .tupK j p s k o (r m e))
  (λ{c g f} n h l r m e=>by
   cases m with
   |zero=>cases e
   |succ m=>
    have e:(OP f&&f.all _)=true:=e;rw[zyB]at e;refine .lst (λz=>z.elim n λq=>?_) h<|r m e.2;subst q;cases EH (w:=.lst []) hc h;cases l with
    |cons t _=>exact absurd ((hd.off t).symm.trans e.1) zyT)
  (λ{_ _ _ _ f} j k o _ r m e=>by
   cases m with
   |zero=>cases e
   |succ m=>
    have e:(OP f&&f.all _)=true:=e;rw[zyB]at e;exact .lstK j k o<|r m e.2)
  (λ_ _ _ _ m e=>by cases m<;>cases e) (λ_ _ _ m e=>by cases m<;>cases e) (λc _ _=>.cl c)
  (λn h l _ r m e=>by
   cases m with
   |zero=>cases e
   |succ m=>exact .ob (λz=>z.elim n λq=>by subst q;rw[hc]at h;cases h) h l (r m e))
  (λ_ _=>.nil) (λ_ _ h r n e=>by
   rw[List.all_cons,zyB]at e;exact .cons (h n e.1)<|r n e.2) ⋯ (λ_ _ _ _=>⋯) h
end
def Aq{K kd O H a b vs0}(hd:Hd K H b)(hc:H a=some (.lst (.ref b::vs0)))(n:Nat){vs ds}(h:RpL K kd O H vs ds):ds.all (V9 n)=true->RpL K kd (λz=>O z\/z=a) H vs ds:=
 RpL.ind (P:=λd c=>c.all _=true->RpL K kd _ H d c) (λ_=>.nil) (λh _ r e=>by
  rw[List.all_cons,zyB]at e;exact .cons (Dh hd hc h n e.1)<|r e.2) h
def uE:O->Option (List O)
 | .nd .ls os=>some os
 |_=>none
def Px:Option (Option O)->Option D
 |some (some (.nd .ls (.lf st (.tup ds)::os)))=>if(st=true/\os.all O.isLf=true/\O.strs os=true)/\ds.all LX=false then some (.lst (.tup ds::O.toDs os))else none
 |_=>none
def GO(j:Nat)(as:AS):List RV->Option (List<|Bool×D)
 | []=>some []
 | .ow o::rs=>(GO j as rs).bind λy=>some ((zE o.toD||o.str,o.toD)::y)
 | .bo i::rs=>if i=j then(Px as[j]?).bind λd=>(GO j as rs).bind λy=>some ((true,d)::y)else none
def Pv(j:Nat)(fr:AF)(g:List (Bool×D)->Option O):EF:=λas=>(fr as).bind λp=>(GO j p.2 p.1).bind λx=>(Px p.2[j]?).bind λ_=>(g x).bind λo=>(uE o).bind λos=>if O.strs os=true/\(O.toDs os).all (V9 60)=true then some (.ow<|.lf true<|.lst<|O.toDs os,p.2)else none
section
variable{K:zzA}{kd:KD}{F B:Addr->Prop}{ad:Ad}{as:AS}{σ:St}{H:Hp}{j:Nat}
def FF(nt:U0 K=true)(R:Rel K kd F B [] ad as σ H){d}(e:Px as[j]? = some d):∃a b vs0,σ[j]? = some (some<|.ref a)/\ad j=[a]/\H a=some (.lst (.ref b::vs0))/\Hd K H b/\∀O:Addr->Prop,(∀z,O z->Lv F B (Gw [] ad) true z)->¬O a->Rp K kd O H (.ref a) d:=by
 cases k:as[j]? with
 |none=>rw[k]at e;cases e
 |some s=>
  rw[k]at e
  match s,e with
  |some (.nd .ls (.lf c (.tup t)::f)),e=>
   obtain⟨⟨⟨u,w,x⟩,X⟩,y⟩:=zB e;cases y;subst u;obtain⟨v,A,i⟩:=R.sl j _ k;generalize P:ad j=T at i;cases i with
   |ls l o=>
    rename_i a Q S;cases o with
    |cons E p=>
     rename_i G g f1 f2;cases E with
     | lf q=>
          have I:=Mx p w;subst I;have J:∃b,G = .ref b:=by cases q<;>exact⟨_,rfl⟩
          obtain⟨b,rfl⟩:=J;have hd:Hd K H b:=⟨nt,by
           cases q with
           |tup n h r=>exact⟨_,h,(Fj r).mp X⟩
           |tupK j p=>exact absurd p (E4 nt j)⟩
          refine⟨a,b,g,A,rfl,l,hd,λO h L=>.lst L (.inl l)<|.cons (q.less h) ?_⟩;exact RoL.rp (fp:=[]) true (λc v d M r=>(r).less λz N=>by rw[M rfl];exact h z N) (λa n z=>n<|h a z) (λ_=>x) ⋯ p
def Cj(R:Rel K kd F B [] ad as σ H){a}(hs:σ[j]? = some (some<|.ref a))(ha:ad j=[a])(hl:∀d,Px as[j]? = some d->∀O:Addr->Prop,(∀z,O z->Lv F B (Gw [] ad) true z)->¬O a->Rp K kd O H (.ref a) d)
 {vs rs ds}(h:RVs K kd F B ad σ H vs rs) (e:GO j as rs=some ds):RpA K kd (λz=>Lv F B (Gw [] ad) true z/\z≠a) H vs ds:=by
 induction h generalizing ds with
 |nil=>cases e;exact .nil
 |cons h t c=>
  rename_i v r m f;cases r with
  |ow o=>
   obtain⟨y,b,e⟩:=bS_<|e;cases e;refine .cons ?_<|c b;cases hf:zE o.toD with
   |true=>exact(RY h).flat hf
   |false=>
    refine(Tf h).less λa z=>?_;have k:o.str=true:=z.1;rw[k];exact z.2.1
  |bo i=>
   obtain⟨rfl,e⟩:=ite_some' e;obtain⟨d,l,e⟩:=bS_ e;obtain⟨y,b,e⟩:=bS_ e;cases e;have g:=h.2;rw[hs]at g;cases g;exact .cons (hl d l _ (λz q=>q.2.1) λq=>q.2.2 rfl)<|c b
end
section
variable{X:Cx}{kd:KD}{e:Expr}{es:List Expr}{fr:AF}{pos p:Pos}{n k:Nat}
def JZ(nt:U0 X.K=true){j:Nat}{g σ H Q E}(h:al X.K kd (Pv j fr g) σ H Q):Sa (Wv X.K kd g) [] E (Ak X.K kd fr) σ H Q:=by
 obtain⟨F,B,ad,as,r,as',R,e,q⟩:=h;obtain⟨⟨p,as1⟩,h1,e⟩:=bS_<|e;obtain⟨ds,h2,e⟩:=bS_ e;obtain⟨dl,h0,e⟩:=bS_ e;obtain⟨o,h3,e⟩:=bS_ e;obtain⟨os,h4,e⟩:=bS_ e;obtain⟨⟨e1,e2⟩,e⟩:=zB e;cases e;have eo:o = .nd .ls os:=by
  match o,h4 with
  | .nd .ls os',h4=>cases h4;rfl
 subst eo;refine⟨F,B,ad,as,p,_,R,h1,λvs ad1 H1 R1 rv1 g1=>?_⟩;show Wv X.K kd g _ H1 Q E;rw[zyD];obtain⟨a,b,vs0,hs,ha,hc,hd,hl⟩:=FF nt R1 h0;refine⟨_,ds,.nd .ls os,λz hz=>R1.trk true z hz.1,Cj R1 hs ha (λd hd=>by rw[h0]at hd;cases hd;exact hl) rv1 h2,h3,λv T H' hn hT kp hT' ro=>?_⟩;obtain⟨R',g'⟩:=R1.news hn hT kp hT';cases ro with
 |ls hcell rl=>
  rename_i a0 ws fp;have h0T:=hT a0 zzF;have rp:=RoL.rp true (λst v d _ r=>Rp.less (λz hz=>.inl hz) r) (λz hz q=>hz<|.inl q) (λ_=>e1) (λz mz q=>R1.trk true z q.1<|hT z<|zzD _ mz) rl;have rp2:=Aq ⟨nt,hd.r.imp λ_ h=>⟨h.1.imp (kp _ _)<|Exists.imp λ_=>kp _ _,h.2⟩⟩ (kp _ _ hc) 60 rp e2;refine q _ [] ad1 H' R'.drop (.lf<|.lst (λz=>R1.trk true a0 z h0T) (.inl hcell)<|rp2.less λz hz=>?_)<|g1.trans<|g'.trans<|Grow.less Gw.drop
  by_cases e:z=a
  . exact .inr e
  . exact .inl ⟨hz,e⟩
def O2(nt:U0 X.K=true)(j:Nat){f fdt ps gg x}(F:FnOk X.prog X.w X.K X.mg X.base wH k f fdt ps (Wv X.K kd gg))(hr:Room n X.A)(hm:X.mg x=some (.ref f))(hk:W.keepIn X.K (.ref f)=true)
 (hb:Binds X.K fdt ps []) (ha:AA X kd (e::es) fr) (hn:k<=n:=by omega) (hg:Gl X x:=by rfl) (hdb:(x==("__debug__":Str))=false:=by decide) (he:starEach (e::es) X.env=(false,eval e X.env)::starEach es X.env:=by rfl) (hpl:(backTo pos<|starEach es X.env).any (·.1)=false:=by rfl):
 AE X kd (.Call (.Name x p) (e::es) [] pos) (Pv j fr gg):=by with_unfolding_all exact(yp (Lm F (hr.mono hn) hg hm hk hb .nil UD ha hdb he hpl) λσ H Q h=>JZ nt h)
end
structure Co(x:Str)(P:Program)(w:World)(K:zzA)(mg:Str->Option Value)(base:Heap)(kd:KD)(k:Nat)(f:Addr)(d:FuncData)(ps:List Str)(gg:List (Bool×D)->Option O):Prop where
 F:FnOk P w K mg base wH k f d ps (Wv K kd gg)
 m:mg x=some (.ref f)
 kp:W.keepIn K (.ref f)=true
 b:Binds K d ps []
def BN:List Str->List Str->List (Option Nat)->List Str
 |t::ts,XN,none::c=>t::BN ts XN c
 | [],XN,none::c=>""::BN [] XN c
 |ts,XN,some j::c=>XN.getD j ""::BN ts XN c
 |_,_,[]=>[]
def AM:Expr->Str
 | .Name x _=>x
 |_=>""
def CL:Expr->List Str
 | .Tuple es _ _=>es.map AM
 |e=>[AM e]
def Aj:Nat->List (Option Nat)->List Nat
 |_,[]=>[]
 |k,none::c=>k::Aj (k+1) c
 |k,some _::c=>Aj (k+1) c
theorem Eg:∀(c d:List (Option Nat)) (i:Nat),i ∈ Aj d.length c->(d++c)[i]? = some none
 | [],_,_,h=>nomatch h
 |none::c,d,i,h=>by
  have ih:=Eg c (d++[none]) i;rw[zzJ,zyY]at ih
  rcases zzC.mp (h)with rfl|h
  . simp
  . exact ih h
 |some x::c,d,i,h=>by
  have ih:=Eg c (d++[some x]) i;rw[zzJ,zyY]at ih;exact ih h
def Hl{cap}:(Aj 0 cap).all (λi=>cap[i]? == some none)=true:=List.all_eq_true.mpr λi m=>by
 have:=Eg cap [] i m;rw[List.nil_append]at this;rw[this];rfl
def sZ{N:List Str}(h:decide N.Nodup=true):N.Nodup:=of_decide_eq_true h
section
variable{X:Cx}{kd:KD}{elt tg iter e:Expr}{es ifs:List Expr}{scope:Scope}{pos p:Pos}{cap:List (Option Nat)}{g:GF}{tt:TF}{fe:EF}{fi:IF}{S:List Nat}{fr:AF}{k n:Nat}
def cq{f d ps gg x}(C:Co x X.prog X.w X.K X.mg X.base kd k f d ps gg)(hr:Room n X.A)(ha:AA X kd (e::es) fr)(hn:k<=n:=by omega)(hg:Gl X x:=by rfl)(hdb:(x==("__debug__":Str))=false:=by decide)(he:starEach (e::es) X.env=(false,eval e X.env)::starEach es X.env:=by rfl)(hpl:(backTo pos<|starEach es X.env).any (·.1)=false:=by rfl):
 AE X kd (.Call (.Name x p) (e::es) [] pos) (zd fr gg):=Ey C.F (hr.mono hn) hg C.m C.kp C.b UD ha hdb he hpl
def sF{a}{i:Nat}{gs}(h1:AG X kd a [i] g)(h2:C5 X kd es S gs)(hs:(assignEach (a::es) X.env).map (·.2)=assign a X.env::(assignEach es X.env).map (·.2):=by rfl):C5 X kd (a::es) (i::S) (wL g gs):=Yu h1 h2 hs
def An(X:Cx)(kd:KD)(tg:Expr)(g:GF):Prop:=∃S,AG X kd tg S g
def Ss(X:Cx)(kd:KD)(es:List Expr)(gs:CJ):Prop:=∃S,C5 X kd es S gs
def uV(i:Nat){x}(hN:X.N.Nodup)(hi:X.N[i]? = some x:=by rfl)(hx:Loc X.env.scope x:=by first|exact Or.inl rfl|exact Or.inr rfl)(hf:X.fn x=true\/X.env.scope.names.lookup x=some .local:=by first|exact Or.inl rfl|exact Or.inr rfl):An X kd (.Name x pos) (gN i):=⟨_,ES hN hi hx hf⟩
def uq{gs}{j m:Nat}(h:Ss X kd es gs)(hc:X.calm=true:=by rfl)(hn:(assignEach es X.env).length=m:=by rfl)(hst:(assignEach es X.env).findIdx? (·.1)=none:=by rfl):An X kd (.Tuple es j pos) (gT m gs):=h.elim λ_ h=>⟨_,Kr hc h hn hst⟩
def uB{a gs}(h1:An X kd a g)(h2:Ss X kd es gs)(hs:(assignEach (a::es) X.env).map (·.2)=assign a X.env::(assignEach es X.env).map (·.2):=by rfl):Ss X kd (a::es) (wL g gs):=h1.elim λ_ h1=>h2.elim λ_ h2=>⟨_,Yu h1 h2 hs⟩
def tE:Ss X kd [] QM:=⟨_,Rn⟩
def sE{body f}(hi:AI X kd tg iter fi)(hg:An X kd tg g)(hb:FW X kd body f)(hp:PassesOwn (model X.prog X.w) X.A X.env X.xe:=by exact PassesOwn.never)(hc:X.calm=true:=by rfl)(hs:∀x,foldedSetIterable iter X.env x=pure x:=by exact λ_=>rfl):Ed X kd (.For tg iter body [] pos) (WW fi g f):=hg.elim λ_ hg=>Kv hp hc hi hg hb hs
def uo(he:AE X kd e fe)(hg:An X kd tg g)(hs:swapsWithSole [tg] e pos.line X.env=pure false:=by rfl)(hw:swappedStores [tg] e X.env=pure none:=by rfl)(h1:(assignEach [tg] X.env).map (·.2)=[assign tg X.env]:=by rfl):Ed X kd (.Assign [tg] e pos) (KB fe g):=hg.elim λ_ hg=>J5 he hg hs hw h1
theorem cm(hi:CM X kd tg iter fi)(hg:∀cl s H fp,AG (yu X (BN (CL tg) X.N cap) scope cl s H fp) kd tg (Aj 0 cap) g)(ht:∀cl s H fp,Bx (yu X (BN (CL tg) X.N cap) scope cl s H fp) ifs<|HK X.K kd tt)(he:∀cl s H fp,AE (yu X (BN (CL tg) X.N cap) scope cl s H fp) kd elt fe)
 (hc:X.calm=true:=by rfl) (hk:scope.kind = .function:=by rfl) (hcap:V4 (BN (CL tg) X.N cap) X.N scope.names X.env.scope.names cap=true:=by kernel_rfl) (hs:∀x,foldedSetIterable iter X.env x=pure x:=by exact λ_=>rfl):AE X kd (.ListComp elt [⟨tg,iter,ifs,0⟩] scope pos) (zQ fi cap g tt fe):=OQ hc hi hk hcap Hl hg ht he hs
theorem rC{z}{i:Nat}{y py spos}(hN:X.N.Nodup)(hi:CM X kd tg iter fi)(hg:∀cl s H fp,AG (yu X (BN (CL tg) X.N cap) scope cl s H fp) kd tg (Aj 0 cap) g)(ht:∀cl s H fp,Bx (yu X (BN (CL tg) X.N cap) scope cl s H fp) ifs<|HK X.K kd tt)(he:∀cl s H fp,AE (yu X (BN (CL tg) X.N cap) scope cl s H fp) kd elt fe)
 (hiy:X.N[i]? = some y:=by rfl) (hy:Loc X.env.scope y:=by first|exact Or.inl rfl|exact Or.inr rfl) (hf:X.fn y=true\/X.env.scope.names.lookup y=some .local:=by first|exact Or.inl rfl|exact Or.inr rfl) (hsw:swapsWith (.ListComp elt [⟨tg,iter,ifs,0⟩] scope pos) (some<|.Name y py) spos.line X.env=pure true:=by rfl)
 (hc:X.calm=true:=by rfl) (hk:scope.kind = .function:=by rfl) (hcap:V4 (BN (CL tg) X.N cap) X.N scope.names X.env.scope.names cap=true:=by kernel_rfl) (hs:∀x,foldedSetIterable iter X.env x=pure x:=by exact λ_=>rfl):Ed X kd (.Assign [.Name y py] (.ListComp elt [⟨tg,iter,ifs,0⟩] scope pos) spos) (zL z i<|zQ fi cap g tt fe):=EG hN hiy hy hf hsw hc hi hk hcap Hl hg ht he hs
end
local macro_rules | `(tactic| trivial)=>`(tactic| first|with_reducible first|assumption|exact Int.natCast_nonneg _|exact Nat.le_refl _|exact Int.le_refl _|exact rfl|exact leN (by assumption)|exact np1 (by assumption)|exact np2 (by assumption)|exact nq1 (by assumption)|exact nq2 (by assumption)|exact Int.natCast_pos.mpr (by assumption)|exact Nat.le_trans (by assumption) (by decide)|exact bgL _|exact bgU (by assumption)|exact mU (by assumption)|exact zI _|exact bL0 (by assumption)|exact bU0 (by assumption) (by assumption)|exact iL (by assumption)|exact iU (by assumption) (by assumption)|exact iC (by assumption)|exact iT (by assumption)|exact stL (by assumption)|exact stU (by assumption)|exact lnK (by assumption) (by assumption) (by assumption)|exact zi1 _|exact lnE (by assumption)|exact ltL (by assumption)|exact Int.toNat_of_nonneg (by assumption)|exact tS (by assumption) (by assumption)|exact b6 (by assumption)|exact Int.emod_nonneg _ (by decide)|exact Int.emod_lt_of_pos _ (by decide)|decide|omega)
abbrev sS(x:Int):O:=.lf true<|.int x
abbrev sI(x:Int):Option O:=some<|sS x
abbrev sT(d:D):Option O:=some<|.lf true d
abbrev sN(os:List O):Option O:=some<|.nd .ls os
def Fu{f as as1 o}(h:f as=some (.ow o,as1))(hs:o.str=true):zv f as=some (.rt o):=by
 unfold zv;rw[h];show((if o.str=true then some o else none).bind _)=_;rw[if_pos hs];rfl
def B3{g fe as0 as1 y r o os}(h1:g y as0=some as1)(h2:fe as1=some (.ow o,as1))(hs:o.str=true)(h3:wG g yP fe as0 r=some os):wG g yP fe as0 (y::r)=some (o::os):=by
 unfold wG;rw[h1];show((fe as1).bind _)=_;rw[h2];show(if o.str=true then _ else _)=_;rw[if_pos hs,h3];rfl
theorem Pj:∀(n:Nat) (k:Int),(Xs k n).length=n
 |0,_=>rfl
 |n+1,k=>by rw[Bn];exact congrArg _<|Pj n _
theorem EI{α:Type}(toD){Q:Nat->α->Prop}{g fe as0}:∀{xs:List ZX}(k:Nat),(∀i y,xs[i]? = some y->∃as1 a,g y as0=some as1/\WE fe as1 (toD a)/\Q (k+i) a)->∃(os:List O) (l:List α),wG g yP fe as0 xs=some os/\O.strs os=true/\O.toDs os=l.map toD/\l.length=xs.length/\∀i a,l[i]? = some a->Q (k+i) a
 | [],k,_=>⟨[],[],rfl,rfl,rfl,rfl,λi a h=>by simp at h⟩
 |y::e,k,H=>by
  obtain⟨f,a,j,⟨o,n,d,p⟩,q⟩:=H 0 y rfl;obtain⟨c,l,r,s,t,u,v⟩:=EI toD _ λi z m=>by
   have:=H (i+1) z ⋯
   rwa [show k+_=k+1+i by trivial]at this
  refine⟨o::c,a::l,B3 j n d r,by show(o.str&&O.strs c)=_;rw[d,s];rfl,by show o.toD::O.toDs c=_;rw[p,t];rfl,congrArg _ u,λi b m=>?_⟩;cases i with
  |zero=>simp at m;subst m;exact q
  |succ i=>
   have:=v i b ⋯
   rwa [show k+1+i=k+(i+1) by trivial]at this
def Ax{α:Type}(toD:α->D){Q:Nat->α->Prop}{fi cap g fe as xs}(h1:fi as=some (xs,as))(hl:xs.length<=1000)(H:∀i y,xs[i]? = some y->∃as1 a,g y (X8 cap as)=some as1/\WE fe as1 (toD a)/\Q i a):
 ∃l:List α,l.length=xs.length/\(∀i a,l[i]? = some a->Q i a)/\WE (zQ fi cap g yP fe) as (.lst<|l.map toD):=by
 obtain⟨j,l,b,c,d,e,f⟩:=EI toD 0 (λi y h=>by rw[zyV];exact H i y h);exact⟨l,e,(λi a h=>by have:=f i a h;rwa [zyV]at this),_,OC h1 (Hv<|by trivial) b,c,congrArg D.lst d⟩
structure Ows{α:Type}(toD:α->D)(Q:α->Prop)(os:List O)(l:List α):Prop where
 st:O.strs os=true
 ds:O.toDs os=l.map toD
 al:∀a ∈ l,Q a
 ln:os.length=l.length
structure OwsX{α:Type}(toD:α->D)(Q:Nat->α->Prop)(os:List O)(l:List α):Prop where
 st:O.strs os=true
 ds:O.toDs os=l.map toD
 al:∀i a,l[i]? = some a->Q i a
 ln:os.length=l.length
def Fx{α:Type}(toD:α->D){Q:Nat->α->Prop}{fr:AF}{cap:List (Option Nat)}{fe:EF}{as:AS}{n:Nat}{u:Bool}(h1:WA fr as [(u,.int n)])(hl:n<=1000)(H:∀i:Nat,i<n->∃as1 a,gN 0 (true,.int (i:Int)) (X8 cap as)=some as1/\WE fe as1 (toD a)/\Q i a):
 ∃l:List α,l.length=n/\(∀i a,l[i]? = some a->Q i a)/\WE (zQ (ZP fr ZC) cap (gN 0) yP fe) as (.lst<|l.map toD):=by
 obtain⟨l,b,c,d⟩:=Ax toD (ED h1 (by trivial) ⋯) (by rw[Pj];trivial) (λi y m=>by
  obtain⟨rfl,e⟩:=N6 m;rw[Int.zero_add];exact H i ⋯)
 rw[Pj]at b;exact⟨l,⋯,c,d⟩
def tB(ha:WD a as s (.int x))(hb:WD b as t (.int y)):WT (fT<|f2 a b<|zp .NotEq) as (!(x==y)):=zy (UT ha hb rfl) rfl
def vF{i:Nat}{os}(h:WE fe as d)(hi:as[i]? = some (some<|.nd (.ob c ns) os))(hc:c ∈ cs)(hn:f ∉ ns)(hl:ns.length<1000):V2 i cs f fe as=some (as.set i<|some<|.nd (.ob c<|ns++[f])<|os++[.lf true d]):=by
 obtain⟨o,a,b,g⟩:=h;unfold V2;have e:VB as (.ow o)=some _:=rfl;simp only[a,Option.bind_some,e,hi,if_pos (⟨hc,hn,hl⟩:c ∈ cs/\f ∉ ns/\ns.length<1000),b,g]
def wK(h:f as=some as1)(h2:g as1=o):W3 f g as=o:=by
 unfold W3
 rwa [h]
end PF
end
section
namespace G35
open PySem PySem.Spec PyProof.Rows L2 PF
abbrev zg:EF:=fV 1
abbrev z_:EF:=fC<|.int 0
abbrev zi:EF:=fV 0
abbrev WZ:EF:=fC<|.int 2
abbrev zV:EF:=fC<|.int 1
abbrev zF:EF:=fV 2
abbrev S4:EF:=fC<|.int 4
abbrev JQ:GF:=gN 4
abbrev yi:EF:=fV 4
abbrev zY:EF:=fV 3
abbrev yI:GF:=gN 0
abbrev zx:=ZK .Add
abbrev yK:EF:=fV 5
abbrev U6:EF:=fC<|.int 5
abbrev yr:EF:=fV 6
abbrev RD:EF:=fV 7
abbrev RJ:EF:=fV 11
abbrev yA:=ZK .Mod
abbrev yf:=ZK .Mult
abbrev BM:EF:=fC<|.int 8
abbrev vI:=ZK .FloorDiv
abbrev LL:EF:=fC<|.int 3
abbrev Yd:=ZK .Sub
abbrev RP:AF:=aC (fV 3) aN
abbrev SR:AF:=aC (fV 0) aN
abbrev vJ:AF:=aC (fV 1) aN
abbrev yz:AF:=aC (fV 2) aN
abbrev T5:AF:=aC (fV 5) aN
abbrev FR:AF:=aC (fV 7) aN
def yF:List Str:=["Knot"]
def Y_:List Str:=["Knot"]
def xr:List Str:=["Knot"]
def Z5:List Str:=["Knot"]
def Xa:List Str:=["Knot"]
def wg:List Str:=["Knot"]
def zX:List Str:=["Knot"]
def xG:List Str:=["Knot"]
def xf:List Str:=["Sums","Mosts","Leasts"]
abbrev Xi:List Str:=["self","whole","back","wait","turn","one","other"]
def QR:FnScope Xi ["self","whole","back","wait","turn","one","other"] (zh xI):=Zu
def vU:Hu:=
 (W3 (V2 0 yF "whole" zg)
  (W3 (V2 0 Y_ "back" zF)
  (W3 (V2 0 xr "wait" zY)
  (W3 (V2 0 Z5 "turn" yi)
  (W3 (V2 0 Xa "one" yK)
  (W3 (V2 0 wg "other" yr)
  (W3 (V2 0 zX "deep" (Mq (fT<|f2 yK (fC .non)<|zp .Is) z_<|f2 zV (fP (aC (f1 yK<|zJ zX "deep")<|aC (f1 yr<|zJ zX "deep") aN) Li) zx))
  (V2 0 xG "size" (Mq (fT<|f2 yK (fC .non)<|zp .Is) zV<|f2 (f1 yK<|zJ xG "size") (f1 yr<|zJ xG "size") zx)))))))))
def zZ(c:Str):Fn:=Ar c 7 7 vU
abbrev GY:List Str:=["value"]
def Pg:FnScope GY ["value"] (zh Ww):=Zu
def GS:SF:=
 (zv<|zd (aC zi<|aC zi<|aC (fC .non)<|aC (fC<|.bl false)<|aC (fC .non)<|aC (fC .non) aN)<|zZ "Knot")
def WH:Fn:=vL 1 1 GS
abbrev UG:List Str:=["self","one","other"]
def Qe:FnScope UG ["self","one","other"] (zh ZY):=Zu
def UU:SF:=
 (zv<|fP (aC (zQ (Uw<|aC zg yz) [none,none] (gT 2<|wL yI<|wL (gN 1) QM) yP<|f2 zi zg zx) aN) tupP)
def Wf:Fn:=vL 3 3 UU
abbrev QI:List Str:=["self","numbers"]
def Vq:FnScope QI ["self","numbers"] (zh Zm):=Zu
def Qf:SF:=
 (zv<|Mq (fT zg) (fP vJ Li)<|fC .non)
def YZ:Fn:=vL 2 2 Qf
abbrev W6:List Str:=["self","numbers"]
def X9:FnScope W6 ["self","numbers"] (zh wW):=Zu
def Vx:SF:=
 (zv<|Mq (fT zg) (fP vJ K1)<|fC .non)
def Yg:Fn:=vL 2 2 Vx
def Le:List (Str×Fn):=[("Mosts",YZ),("Leasts",Yg)]
abbrev Qx:List Str:=["self","one","other"]
def Vh:FnScope Qx ["self","one","other"] (zh Zr):=Zu
def QG:SF:=
 (zv<|fP (aC (zQ (Uw<|aC zg yz) [none,some 0] yI yP<|yC Le "best" zg<|aC (zQ (xx zi) [none] yI (fT<|f2 zi (fC .non)<|zp .IsNot) zi) aN) aN) tupP)
def Ze:Fn:=vL 3 3 QG
def YX:List (Str×Fn):=[("Sums",Wf),("Mosts",Ze),("Leasts",Ze)]
abbrev Kc:List Str:=["way","one","other"]
def PU:FnScope Kc ["way","one","other"] (zh WJ):=Zu
def Km:SF:=
 (zv<|zd (aC (yC YX "join" zi<|aC (f1 zg<|zJ yF "whole")<|aC (f1 zF<|zJ yF "whole") aN)<|aC (yC YX "join" zi<|aC (f1 zF<|zJ Y_ "back")<|aC (f1 zg<|zJ Y_ "back") aN)<|aC (fC .non)<|aC (fC<|.bl false)<|aC zg yz)<|zZ "Knot")
def yh:Fn:=vL 3 3 Km
abbrev Gu:List Str:=["way","row","half"]
def P_:FnScope Gu ["way","row"] (zh Wy):=Zu
def GZ(self:Fn):SF:=
 (zt (yU (fT<|f2 (fP vJ yx) z_<|zp .Eq) (zv<|fC .non) xD)
  (zt (yU (fT<|f2 (fP vJ yx) zV<|zp .Eq) (zv<|zd (aC (f2 zg z_ yj) aN) WH) xD)
  (zt (zL true 2<|f2 (fP vJ yx) WZ vI)
  (zv<|zd (aC zi<|aC (zd (aC zi<|aC (Ga zg oN (oS zF) LY) aN) self)<|aC (zd (aC zi<|aC (Ga zg (oS zF) oN LY) aN) self) aN) yh))))
def ya:Nat->Fn
 |0=>λ_=>none
 |n+1=>vL 3 2<|GZ<|ya n
abbrev Kg:List Str:=["tree"]
def RK:FnScope Kg ["tree"] (zh WN):=Zu
def GQ:SF:=
 (zv<|Mq (fT<|f2 zi (fC .non)<|zp .Is) z_<|f1 zi<|zJ xG "size")
def WQ:Fn:=vL 1 1 GQ
abbrev UZ:List Str:=["self"]
def Qg:FnScope UZ ["self"] (zh Z8):=Zu
def UL:SF:=
 (zv z_)
def XQ:Fn:=vL 1 1 UL
abbrev QH:List Str:=["self"]
def Vm:FnScope QH ["self"] (zh Zh):=Zu
def QF:SF:=
 (zv<|fC .non)
def YF:Fn:=vL 1 1 QF
def KW:List (Str×Fn):=[("Sums",XQ),("Mosts",YF),("Leasts",YF)]
abbrev Xk:List Str:=["self"]
def Ys:FnScope Xk ["self"] (zh xN):=Zu
def Xg:SF:=
 (zv<|f2 (yg<|dC (yC KW "zero" zi aN) dN) (f1 zi<|zJ xf "width") yf)
def yV:Fn:=vL 1 1 Xg
def Y8:List (Str×Fn):=[("Sums",yV),("Mosts",yV),("Leasts",yV)]
abbrev Th:List Str:=["way","tree"]
def UB:FnScope Th ["way","tree"] (zh YG):=Zu
def TH:SF:=
 (zv<|Mq (fT<|f2 zg (fC .non)<|zp .Is) (yC Y8 "nothing" zi aN)<|f1 zg<|zJ yF "whole")
def Y7:Fn:=vL 2 2 TH
abbrev Vp:List Str:=["self","row","numbers"]
def Wj:FnScope Vp ["self","row","numbers"] (zh vE):=Zu
def Vc:SF:=
 (zv<|fP (aC (zQ (Uw<|aC zg yz) [none,none] (gT 2<|wL yI<|wL (gN 1) QM) yP<|f2 zi zg yf) aN) FJ)
def Yn:Fn:=vL 3 3 Vc
abbrev XT:List Str:=["self","row","numbers"]
def Xp:FnScope XT ["self","row","numbers"] (zh wj):=Zu
def XI:SF:=
 (zv<|yC Le "best" zi<|aC (zQ (Uw<|aC zg yz) [none,none] (gT 2<|wL yI<|wL (gN 1) QM) (ZV (fT<|f2 zi (fC .non)<|zp .IsNot)<|fT<|f2 zg (fC .non)<|zp .IsNot)<|f2 zi zg zx) aN)
def ZO:Fn:=vL 3 3 XI
def xy:List (Str×Fn):=[("Sums",Yn),("Mosts",ZO),("Leasts",ZO)]
abbrev Wl:List Str:=["self","one","other","columns","rows","more"]
def Xr:FnScope Wl ["self","one","other"] (zh wu):=Zu
def XF:SF:=
 (zt (zL true 3<|zQ (ZP (aC (f1 zi<|zJ xf "width") aN) ZC) [none,some 1] yI yP<|zQ (xx<|f2 zg z_ yj) [none,some 0] yI yP<|f2 zi zg yj)
  (zt (zL true 4<|zQ (xx<|f2 zF z_ yj) [none,some 3,some 0] yI yP<|fP (aC (zQ (xx zg) [none,some 0,some 2] yI yP<|yC xy "across" zF<|aC zg SR) aN) tupP)
  (zt (zL true 5<|zQ (xx<|f2 zF z_ yj) [none,some 0,some 1] yI yP<|yC xy "across" zg<|aC zi<|aC (f2 zF zV yj) aN)
  (zv<|yg<|dC (fP (aC yi aN) tupP)<|dC (yC YX "join" zi<|aC yK<|aC (f2 zF zV yj) aN) dN))))
def xj:Fn:=vL 6 3 XF
def Yx:List (Str×Fn):=[("Sums",xj),("Mosts",xj),("Leasts",xj)]
abbrev Qc:List Str:=["way","one","other"]
def Vz:FnScope Qc ["way","one","other"] (zh Zo):=Zu
def Qh:SF:=
 (zt (yU (fT<|f2 zg (fC .non)<|zp .Is) (zv zF) xD)
  (zt (yU (fT<|f2 zF (fC .non)<|zp .Is) (zv zg) xD)
  (zv<|yC Yx "behind" zi<|aC zg yz)))
def Zl:Fn:=vL 3 3 Qh
abbrev Qn:List Str:=["self","more","many"]
def Vy:FnScope Qn ["self","more","many"] (zh Zd):=Zu
def QC:SF:=
 (zv<|zQ (xx zg) [none,some 2] yI yP<|f2 zi zg yf)
def Zc:Fn:=vL 3 3 QC
abbrev Vj:List Str:=["self","more","many"]
def XH:FnScope Vj ["self","more","many"] (zh w_):=Zu
def Vu:SF:=
 (zv zg)
def y4:Fn:=vL 3 3 Vu
def TM:List (Str×Fn):=[("Sums",Zc),("Mosts",y4),("Leasts",y4)]
abbrev Qz:List Str:=["self","wait","value","many","found"]
def W4:FnScope Qz ["self","wait","value","many"] (zh Zn):=Zu
def V5:SF:=
 (zt (yU (fT<|f2 zY z_<|zp .Eq) (zv<|yC Y8 "nothing" zi aN) xD)
  (zt (zL true 4<|zQ (xx<|f2 zg z_ yj) [none,some 2,some 0] yI yP<|yC xy "across" zF<|aC zi vJ)
  (zv<|yC YX "join" zi<|aC yi<|aC (yC TM "often" zi<|aC (f2 zg zV yj) RP) aN)))
def wo:Fn:=vL 5 4 V5
def Wu:List (Str×Fn):=[("Sums",wo),("Mosts",wo),("Leasts",wo)]
abbrev P3:List Str:=["way","tree","wait","whole","back"]
def UI:FnScope P3 ["way","tree","wait"] (zh YW):=Zu
def Pp:SF:=
 (zt (yU (fT<|f2 zg (fC .non)<|zp .Is) (zv<|fC .non) xD)
  (zt (zL true 3<|yC Wu "made" zi<|aC zF<|aC (f1 zg<|zJ yF "whole")<|aC (f1 zg<|zJ xG "size") aN)
  (zt (yU (fT<|f2 (f1 zg<|zJ zX "deep") z_<|zp .Eq) (zv<|zd RP WH) xD)
  (zt (zL true 4<|yC Wu "made" zi<|aC zF<|aC (f1 zg<|zJ Y_ "back")<|aC (f1 zg<|zJ xG "size") aN)
  (zv<|zd (aC zY<|aC yi<|aC (zd (aC zi<|aC (f1 zg<|zJ xr "wait") yz) Zl)<|aC (f1 zg<|zJ Z5 "turn")<|aC (f1 zg<|zJ Xa "one")<|aC (f1 zg<|zJ wg "other") aN)<|zZ "Knot")))))
def yw:Fn:=vL 5 3 Pp
abbrev Ql:List Str:=["way","tree"]
def Vs:FnScope Ql ["way","tree"] (zh Zi):=Zu
def Qo:SF:=
 (zt (yU (fT<|f2 zg (fC .non)<|zp .Is) (zv<|fC .non) xD)
  (zv<|zd (aC (f1 zg<|zJ Y_ "back")<|aC (f1 zg<|zJ yF "whole")<|aC (f1 zg<|zJ xr "wait")<|aC (HW<|f1 zg<|zJ Z5 "turn")<|aC (f1 zg<|zJ Xa "one")<|aC (f1 zg<|zJ wg "other") aN)<|zZ "Knot"))
def yR:Fn:=vL 2 2 Qo
abbrev P7:List Str:=["way","knot","one","other"]
def Ut:FnScope P7 ["way","knot"] (zh YK):=Zu
def RF:SF:=
 (zt (zL true 2<|f1 zg<|zJ Xa "one")
  (zt (zL true 3<|f1 zg<|zJ wg "other")
  (zt (yU (fT<|f2 (f1 zg<|zJ xr "wait") (fC .non)<|zp .IsNot) (zt (zL true 2<|zd (aC zi<|aC zF<|aC (f1 zg<|zJ xr "wait") aN) yw)
  (zL true 3<|zd (aC zi<|aC zY<|aC (f1 zg<|zJ xr "wait") aN) yw)) xD)
  (zt (yU (fT<|f1 zg<|zJ Z5 "turn") (zv<|yg<|dC (zd (aC zi RP) yR)<|dC (zd (aC zi yz) yR) dN) xD)
  (zv<|yg<|dC zF<|dC zY dN)))))
def yH:Fn:=vL 4 2 RF
abbrev Mh:List Str:=["way","tree","wait","turn","row","owed","contrary","parts","part"]
def YA:FnScope Mh ["way","tree","wait","turn","row"] (zh Qw):=Zu
def Qp(self:List ZX->O->Option O):SF:=
 (yU (fT<|f2 (f1 zg<|zJ zX "deep") z_<|zp .Eq) (xB<|ZM 4 (dC (Mq (fT<|f2 zF (fC .non)<|zp .Is) (f1 zg<|zJ yF "whole")<|yC Wu "made" zi<|aC zF<|aC (f1 zg<|zJ yF "whole")<|aC zV aN) dN) vN)
  (zt (zL true 5<|zd (aC zi<|aC (f1 zg<|zJ xr "wait") yz) Zl)
  (zt (zL true 6<|f2 (f1 zg<|zJ Z5 "turn") zY<|zp .NotEq)
  (zt (zL true 7<|Mq (fT yr) (yg<|dC (f1 zg<|zJ wg "other")<|dC (f1 zg<|zJ Xa "one") dN)<|yg<|dC (f1 zg<|zJ Xa "one")<|dC (f1 zg<|zJ wg "other") dN)
  (WW (WY RD) (gN 8)<|Y3 4 (aC zi<|aC (fV 8)<|aC yK<|aC yr<|aC yi aN) self)))))
def yN:Nat->List ZX->O->Option O
 |0=>λ_ _=>none
 |n+1=>gL 9 5<|Qp<|yN n
abbrev Mb:List Str:=["way","tree","row"]
def Q0:FnScope Mb ["way","tree"] (zh V1):=Zu
def NG:SF:=
 (zt (zL false 2<|yt dN)
  (zt (yU (fT<|f2 zg (fC .non)<|zp .IsNot) (Y3 2 (aC zi<|aC zg<|aC (fC .non)<|aC (fC<|.bl false) yz)<|yN 20) xD)
  (zv zF)))
def Xw:Fn:=vL 3 2 NG
abbrev GU:List Str:=["way","tree","parts"]
def Ti:FnScope GU ["way","tree"] (zh WV):=Zu
def GV(self:Fn):SF:=
 (zt (yU (fT<|f2 zg (fC .non)<|zp .Is) (zv<|yg dN) xD)
  (zt (yU (fT<|f2 (f1 zg<|zJ zX "deep") z_<|zp .Eq) (zv<|yg<|dC (f1 zg<|zJ yF "whole") dN) xD)
  (zt (zL true 2<|zd (aC zi vJ) yH)
  (zv<|yg<|dC (f1 zg<|zJ yF "whole")<|dC (zd (aC zi<|aC (f2 zF z_ yj) aN) self)<|dC (zd (aC zi<|aC (f2 zF zV yj) aN) self) dN))))
def y6:Nat->Fn
 |0=>λ_=>none
 |n+1=>vL 3 2<|GV<|y6 n
abbrev W8:List Str:=["way","one","other","parts","inner"]
def X5:FnScope W8 ["way","one","other"] (zh wX):=Zu
def Va:SF:=
 (zt (zL true 3<|zd (aC zi vJ) yH)
  (zt (yU (fT<|f2 (f1 (f2 zY z_ yj)<|zJ zX "deep") (f1 (f2 zY zV yj)<|zJ zX "deep")<|zp .GtE) (zv<|zd (aC zi<|aC (f2 zY z_ yj)<|aC (zd (aC zi<|aC (f2 zY zV yj) yz) yh) aN) yh) xD)
  (zt (zL true 4<|zd (aC zi<|aC (f2 zY zV yj) aN) yH)
  (zv<|zd (aC zi<|aC (zd (aC zi<|aC (f2 zY z_ yj)<|aC (f2 yi z_ yj) aN) yh)<|aC (zd (aC zi<|aC (f2 yi zV yj) yz) yh) aN) yh))))
def Yl:Fn:=vL 5 3 Va
abbrev Wi:List Str:=["way","one","other","parts","inner"]
def Xq:FnScope Wi ["way","one","other"] (zh wc):=Zu
def XZ:SF:=
 (zt (zL true 3<|zd (aC zi yz) yH)
  (zt (yU (fT<|f2 (f1 (f2 zY zV yj)<|zJ zX "deep") (f1 (f2 zY z_ yj)<|zJ zX "deep")<|zp .GtE) (zv<|zd (aC zi<|aC (zd (aC zi<|aC zg<|aC (f2 zY z_ yj) aN) yh)<|aC (f2 zY zV yj) aN) yh) xD)
  (zt (zL true 4<|zd (aC zi<|aC (f2 zY z_ yj) aN) yH)
  (zv<|zd (aC zi<|aC (zd (aC zi<|aC zg<|aC (f2 yi z_ yj) aN) yh)<|aC (zd (aC zi<|aC (f2 yi zV yj)<|aC (f2 zY zV yj) aN) yh) aN) yh))))
def ZJ:Fn:=vL 5 3 XZ
abbrev NF:List Str:=["way","one","other"]
def G5:FnScope NF ["way","one","other"] (zh VW):=Zu
def NT:SF:=
 (zt (yU (fT<|f2 (f1 zg<|zJ zX "deep") (f2 (f1 zF<|zJ zX "deep") zV zx)<|zp .Gt) (zv<|zd (aC zi<|aC zg yz) Yl) xD)
  (zt (yU (fT<|f2 (f1 zF<|zJ zX "deep") (f2 (f1 zg<|zJ zX "deep") zV zx)<|zp .Gt) (zv<|zd (aC zi<|aC zg yz) ZJ) xD)
  (zv<|zd (aC zi<|aC zg yz) yh)))
def QA:Fn:=vL 3 3 NT
abbrev XS:List Str:=["way","one","other","parts"]
def vW:FnScope XS ["way","one","other"] (zh wx):=Zu
def Wb(self:Fn):SF:=
 (zt (yU (fT<|f2 zg (fC .non)<|zp .Is) (zv zF) xD)
  (zt (yU (fT<|f2 zF (fC .non)<|zp .Is) (zv zg) xD)
  (zt (yU (fT<|f2 (f1 zg<|zJ zX "deep") (f2 (f1 zF<|zJ zX "deep") zV zx)<|zp .Gt) (zt (zL true 3<|zd (aC zi vJ) yH)
  (zv<|zd (aC zi<|aC (f2 zY z_ yj)<|aC (zd (aC zi<|aC (f2 zY zV yj) yz) self) aN) QA)) xD)
  (zt (yU (fT<|f2 (f1 zF<|zJ zX "deep") (f2 (f1 zg<|zJ zX "deep") zV zx)<|zp .Gt) (zt (zL true 3<|zd (aC zi yz) yH)
  (zv<|zd (aC zi<|aC (zd (aC zi<|aC zg<|aC (f2 zY z_ yj) aN) self)<|aC (f2 zY zV yj) aN) QA)) xD)
  (zv<|zd (aC zi<|aC zg yz) yh)))))
def zu:Nat->Fn
 |0=>λ_=>none
 |n+1=>vL 4 3<|Wb<|zu n
abbrev UY:List Str:=["way","tree","place","parts","ahead","pair"]
def wa:FnScope UY ["way","tree","place"] (zh ZZ):=Zu
def UF(self:Fn):SF:=
 (zt (yU (fT<|f2 zF z_<|zp .Eq) (zv<|yg<|dC (fC .non)<|dC zg dN) xD)
  (zt (yU (fT<|f2 zF (f1 zg<|zJ xG "size")<|zp .Eq) (zv<|yg<|dC zg<|dC (fC .non) dN) xD)
  (zt (zL true 3<|zd (aC zi vJ) yH)
  (zt (zL true 4<|f1 (f2 zY z_ yj)<|zJ xG "size")
  (zt (yU (fT<|f2 zF yi<|zp .Lt) (zt (zL true 5<|zd (aC zi<|aC (f2 zY z_ yj) yz) self)
  (zv<|yg<|dC (f2 yK z_ yj)<|dC (zd (aC zi<|aC (f2 yK zV yj)<|aC (f2 zY zV yj) aN)<|zu 20) dN)) xD)
  (zt (zL true 5<|zd (aC zi<|aC (f2 zY zV yj)<|aC (f2 zF yi Yd) aN) self)
  (zv<|yg<|dC (zd (aC zi<|aC (f2 zY z_ yj)<|aC (f2 yK z_ yj) aN)<|zu 20)<|dC (f2 yK zV yj) dN)))))))
def yk:Nat->Fn
 |0=>λ_=>none
 |n+1=>vL 6 3<|UF<|yk n
abbrev Vt:List Str:=["_law_script","_law_k"]
def X2:FnScope Vt ["_law_script","_law_k"] (zh vB):=Zu
def W0:SF:=
 (zt (yU (fT<|f2 zg (fP SR yx)<|zp .Lt) (zv<|f2 zi zg yj) xD)
  (zv z_))
def y9:Fn:=vL 2 2 W0
abbrev Us:List Str:=["_law_cell","_law_k","_law_number_here"]
def Zj:FnScope Us ["_law_cell","_law_k"] (zh Z6):=Zu
def UO:SF:=
 (zt (yU (fT<|f2 (f2 zi WZ yA) z_<|zp .Eq) (zv<|f2 zi (f2 WZ (f2 BM zg yf) IK) vI) xD)
  (zt (zL true 2<|f2 (f2 (f2 (f2 (f2 zi (fC<|.int 2147483647) yA) (f2 (fC<|.int 69621) zg yf) zx) (fC<|.int 7919) zx) (fC<|.int 48271) yf) (fC<|.int 2147483647) yA)
  (zt (zL true 2<|f2 (f2 zF zF yf) (fC<|.int 2147483629) yA)
  (zv<|f2 (f2 (f2 zF zF yf) (f2 (fC<|.int 16807) zg yf) zx) (fC<|.int 2147483587) yA))))
def zo:Fn:=vL 3 2 UO
abbrev V0:List Str:=["_law_cell","_law_wide"]
def Vo:FnScope V0 ["_law_cell","_law_wide"] (zh Zg):=Zu
def Qm:SF:=
 (zt (yU (fT<|f2 (f2 (zd (aC zi<|aC zV aN) zo) U6 yA) zV<|zp .Eq) (zv<|f2 (f2 (f2 (f2 (zd (aC zi<|aC WZ aN) zo) (f2 (fC<|.int 10) (fC<|.int 40)<|ZK .Pow) yf) (zd (aC zi<|aC LL aN) zo) zx) (f2 WZ (f2 (fC<|.int 10) (fC<|.int 59)<|ZK .Pow) yf) yA) (f2 (fC<|.int 10) (fC<|.int 59)<|ZK .Pow) Yd) xD)
  (zv<|f2 (f2 (zd (aC zi<|aC S4 aN) zo) zg yA) (f2 zg WZ vI) Yd))
def Y1:Fn:=vL 2 2 Qm
abbrev Tx:List Str:=["_law_kind","_law_cell","_law_wide"]
def UN:FnScope Tx ["_law_kind","_law_cell","_law_wide"] (zh Y2):=Zu
def Pi:SF:=
 (zt (yU (ZV (fT<|f2 zi (fC<|.str "sums")<|zp .NotEq)<|fT<|f2 (f2 (zd (aC zg<|aC U6 aN) zo) S4 yA) zV<|zp .Eq) (zv<|fC .non) xD)
  (zv<|zd (aC zg yz) Y1))
def xg:Fn:=vL 3 3 Pi
abbrev Uq:List Str:=["_law_kind","_law_width","_law_cell"]
def QK:FnScope Uq ["_law_kind","_law_width","_law_cell"] (zh Z0):=Zu
def UE:SF:=
 (zv<|fP (aC (zQ (ZP vJ ZC) [none,some 0,some 2] yI yP<|zd (aC zg<|aC (zd (aC zF<|aC (f2 (fC<|.int 10) zi zx) aN) zo)<|aC (fC<|.int 9) aN) xg) aN) tupP)
def xS:Fn:=vL 3 3 UE
abbrev P8:List Str:=["_law_kind","_law_width","_law_cell","_law_rows","_law_i","_law_row","_law_j","_law_part_here"]
def UR:FnScope P8 ["_law_kind","_law_width","_law_cell"] (zh Xc):=Zu
def Pu:SF:=
 (zt (zL false 3<|yt dN)
  (zt (WW (ZP vJ ZC) JQ<|zt (zL false 5<|yt dN)
  (zt (WW (ZP vJ ZC) (gN 6)<|zt (zL true 7<|zd (aC zi<|aC (zd (aC zF<|aC (f2 (f2 (fC<|.int 30) (f2 U6 yi yf) zx) yr zx) aN) zo)<|aC (fC<|.int 7) aN) xg)
  (zt (yU (fT<|f2 zi (fC<|.str "sums")<|zp .Eq) (zL true 7<|f2 (f2 (zd (aC zF<|aC (f2 (f2 (fC<|.int 30) (f2 U6 yi yf) zx) yr zx) aN) zo) U6 yA) WZ Yd) xD)
  (xB<|ZM 5 (dC RD dN) vN)))
  (xB<|ZM 3 (dC (fP T5 tupP) dN) vN)))
  (zv<|yg<|dC (fP RP tupP)<|dC (fP (aC (zQ (ZP vJ ZC) [none,some 0,some 2] yI yP<|zd (aC zg<|aC (zd (aC zF<|aC (f2 (fC<|.int 60) zi zx) aN) zo)<|aC (fC<|.int 9) aN) xg) aN) tupP) dN)))
def ZQ:Fn:=vL 8 3 Pu
abbrev Tu:List Str:=["_law_kind","_law_parts","_law_some"]
def Uz:FnScope Tu ["_law_kind","_law_parts"] (zh YE):=Zu
def RW:SF:=
 (zt (zL true 2<|zQ (xx zg) [none] yI (fT<|f2 zi (fC .non)<|zp .IsNot) zi)
  (zt (yU (fT<|f2 zF (yt dN)<|zp .Eq) (zv<|fC .non) xD)
  (zt (yU (fT<|f2 zi (fC<|.str "mosts")<|zp .Eq) (zv<|fP yz Li) xD)
  (zv<|fP yz K1))))
def ZU:Fn:=vL 3 2 RW
abbrev TB:List Str:=["_law_kind","_law_width","_law_row"]
def UK:FnScope TB ["_law_kind","_law_width","_law_row"] (zh Y9):=Zu
def P9:SF:=
 (zt (yU (fT<|f2 zi (fC<|.str "sums")<|zp .Eq) (zv<|fP (aC (zQ (ZP vJ ZC) [none,some 2] yI yP<|fP (aC (zQ (xx zg) [none,some 0] yI yP<|f2 zi zg yj) aN) FJ) aN) tupP) xD)
  (zv<|fP (aC (zQ (ZP vJ ZC) [none,some 0,some 2] yI yP<|zd (aC zg<|aC (zQ (xx zF) [none,some 0] yI yP<|f2 zi zg yj) aN) ZU) aN) tupP))
def wQ:Fn:=vL 3 3 P9
abbrev X1:List Str:=["_law_kind","_law_deed_here","_law_value_here","_law_made_here","_law_i","_law_pairs","_law_some"]
def Xo:FnScope X1 ["_law_kind","_law_deed_here","_law_value_here"] (zh xZ):=Zu
def Wc:SF:=
 (zt (zL false 3<|yt dN)
  (zt (WW (ZP (aC (fP yz yx) aN) ZC) JQ<|zt (zL true 5<|zQ (ZP (aC (fP yz yx) aN) ZC) [none,some 2,some 4,some 1] yI yP<|yg<|dC (f2 (f2 (f2 zY z_ yj) zF yj) zi yj)<|dC (f2 zg zi yj) dN)
  (yU (fT<|f2 zi (fC<|.str "sums")<|zp .Eq) (xB<|ZM 3 (dC (f2 (fP (aC (zQ (xx yK) [none,none] (gT 2<|wL yI<|wL (gN 1) QM) yP<|f2 zi zg yf) aN) FJ) (f2 (f2 zg zV yj) yi yj) zx) dN) vN)<|zt (zL true 6<|zQ (xx<|zQ (xx yK) [none] yI (fT<|f2 (fC .non) zi<|zp .NotIn) zi) [none,none] (gT 2<|wL yI<|wL (gN 1) QM) yP<|f2 zi zg zx)
  (xB<|ZM 3 (dC (zd (aC zi<|aC (f2 yr (yt<|dC (f2 (f2 zg zV yj) yi yj) dN) zx) aN) ZU) dN) vN)))
  (zv<|fP RP tupP)))
def ZD:Fn:=vL 7 3 Wc
abbrev Tb:List Str:=["_law_kind","_law_deed_here","_law_row"]
def Uv:FnScope Tb ["_law_kind","_law_deed_here","_law_row"] (zh YV):=Zu
def Pl:SF:=
 (zv<|zQ (xx zF) [none,some 0,some 1] yI yP<|zd (aC zg<|aC zF SR) ZD)
def xo:Fn:=vL 3 3 Pl
abbrev Xv:List Str:=["_law_kind","_law_found","_law_due","_law_part_here"]
def Xh:FnScope Xv ["_law_kind","_law_found","_law_due"] (zh wF):=Zu
def Wo:SF:=
 (zt (yU (WX (v3<|fT<|Q1 zg "tuple")<|fT<|f2 zg zF<|zp .NotEq) (zv<|fC<|.bl false) xD)
  (zt (WW (WY zg) (gN 3)<|yU (WX (ZV (fT<|f2 zY (fC .non)<|zp .Is)<|fT<|f2 zi (fC<|.str "sums")<|zp .Eq)<|ZV (fT<|f2 zY (fC .non)<|zp .IsNot)<|fT<|Q1 zY "bool") (zv<|fC<|.bl false) xD)
  (zv<|fC<|.bl true)))
def yL:Fn:=vL 4 3 Wo
abbrev Tq:List Str:=["_law_kind","_law_width","_law_found","_law_one","_law_other","_law_row"]
def Z4:FnScope Tq ["_law_kind","_law_width","_law_found"] (zh YC):=Zu
def Tz(self:Fn):SF:=
 (zt (yU (WX (v3<|fT<|Q1 zF "tuple")<|ZV (fT<|f2 (fP yz yx) zV<|zp .NotEq)<|fT<|f2 (fP yz yx) LL<|zp .NotEq) (zv<|fC .non) xD)
  (zt (yU (fT<|f2 (fP yz yx) zV<|zp .Eq) (zv<|yg<|dC z_<|dC (yt<|dC (f2 zF z_ yj) dN) dN) xD)
  (zt (zL true 3<|zd (aC zi<|aC zg<|aC (f2 zF zV yj) aN) self)
  (zt (zL true 4<|zd (aC zi<|aC zg<|aC (f2 zF WZ yj) aN) self)
  (zt (yU (WX (fT<|f2 zY (fC .non)<|zp .Is)<|WX (fT<|f2 yi (fC .non)<|zp .Is)<|fT<|f2 (fP (aC (f2 (f2 zY z_ yj) (f2 yi z_ yj) Yd) aN) Sb) zV<|zp .Gt) (zv<|fC .non) xD)
  (zt (zL true 5<|f2 (f2 zY zV yj) (f2 yi zV yj) zx)
  (zt (yU (v3<|fT<|zd (aC zi<|aC (f2 zF z_ yj)<|aC (zd (aC zi<|aC zg T5) wQ) aN) yL) (zv<|fC .non) xD)
  (zv<|yg<|dC (f2 zV (fP (aC (f2 zY z_ yj)<|aC (f2 yi z_ yj) aN) Li) zx)<|dC yK dN))))))))
def yT:Nat->Fn
 |0=>λ_=>none
 |n+1=>vL 6 3<|Tz<|yT n
abbrev Ve:List Str:=["_law_way","_law_kind","_law_width","_law_tree","_law_row","_law_found","_law_walk","_law_gone_here"]
def XJ:FnScope Ve ["_law_way","_law_kind","_law_width","_law_tree","_law_row"] (zh wY):=Zu
def W5:SF:=
 (zt (zL true 5<|zd (aC zi RP) Xw)
  (zt (yU (WX (v3<|fT<|Q1 yK "list")<|fT<|f2 yK yi<|zp .NotEq) (zv<|fC<|.bl false) xD)
  (zt (zL true 6<|zd (aC zi RP)<|y6 20)
  (zt (yU (fT<|f2 yi (yt dN)<|zp .Eq) (zv<|f2 yr (yg dN)<|zp .Eq) xD)
  (zt (zL true 7<|zd (aC zg<|aC zF<|aC yr aN)<|yT 20)
  (zv<|H_ (f2 RD (fC .non)<|zp .IsNot)<|f2 (f2 RD zV yj) yi<|zp .Eq))))))
def vC:Fn:=vL 8 5 W5
abbrev Xn:List Str:=["self","deed"]
def Yz:FnScope Xn ["self","deed"] (zh xJ):=Zu
def Xf:SF:=
 (zv zg)
def yX:Fn:=vL 2 2 Xf
def xk:List (Str×Fn):=[("Sums",yX),("Mosts",yX),("Leasts",yX)]
abbrev GT:List Str:=["_law_way","_law_kind","_law_width","_law_kept","_law_cell","_law_tree","_law_row","_law_more","_law_few","_law_case","_law_deed_here","_law_place","_law_one","_law_other","_law_last","_law_both","_law_value_here"]
def RS:FnScope GT ["_law_way","_law_kind","_law_width","_law_kept","_law_cell"] (zh WG):=Zu
def G9:SF:=
 (zt (KB (f2 zY (f2 (f1 zV NS) (f2 (zd (aC yi<|aC (fC<|.int 91) aN) zo) (fP (aC BM<|aC (fP RP yx) aN) K1) yA) Yd) yj)<|gT 2<|wL (gN 5)<|wL (gN 6) QM)
  (zt (KB (f2 zY (f2 (f1 zV NS) (f2 (zd (aC yi<|aC (fC<|.int 92) aN) zo) (fP (aC BM<|aC (fP RP yx) aN) K1) yA) Yd) yj)<|gT 2<|wL (gN 7)<|wL (gN 8) QM)
  (zt (zL true 9<|f2 (zd (aC yi<|aC (fC<|.int 93) aN) zo) (fC<|.int 9) yA)
  (zt (zL true 10<|zd (aC zg<|aC zF<|aC (zd (aC yi<|aC (fC<|.int 94) aN) zo) aN) ZQ)
  (zt (yU (ZV (fT<|f2 (fV 9) z_<|zp .Eq)<|fT<|f2 (f2 (fP (aC yr aN) yx) (fP (aC (fV 8) aN) yx) zx) (fC<|.int 30)<|zp .LtE) (zv<|yt<|dC (yg<|dC (zd (aC zi<|aC yK FR)<|zu 20)<|dC (f2 yr (fV 8) zx) dN) dN) xD)
  (zt (yU (fT<|f2 (fV 9) zV<|zp .Eq) (zt (zL true 11<|f2 (zd (aC yi<|aC (fC<|.int 95) aN) zo) (f2 (fP (aC yr aN) yx) zV zx) yA)
  (zt (KB (zd (aC zi<|aC yK<|aC RJ aN)<|yk 20)<|gT 2<|wL (gN 12)<|wL (gN 13) QM)
  (zv<|yt<|dC (yg<|dC (fV 12)<|dC (Ga yr oN (oS RJ) LY) dN)<|dC (yg<|dC (fV 13)<|dC (Ga yr (oS RJ) oN LY) dN) dN))) xD)
  (zt (yU (fT<|f2 (fV 9) WZ<|zp .Eq) (zv<|yt<|dC (yg<|dC (zd (aC zi<|aC yK<|aC (yC xk "wait_of" zi<|aC (fV 10) aN) aN) yw)<|dC (zd (aC zg<|aC (fV 10)<|aC yr aN) xo) dN) dN) xD)
  (zt (yU (fT<|f2 (fV 9) LL<|zp .Eq) (zt (zL true 14<|zd (aC zg<|aC zF<|aC (zd (aC yi<|aC (fC<|.int 96) aN) zo) aN) ZQ)
  (zt (zL true 15<|yC Yx "behind" zi<|aC (yC xk "wait_of" zi<|aC (fV 10) aN)<|aC (yC xk "wait_of" zi<|aC (fV 14) aN) aN)
  (zv<|yt<|dC (yg<|dC (zd (aC zi<|aC yK<|aC (fV 15) aN) yw)<|dC (zd (aC zg<|aC (fV 14)<|aC (zd (aC zg<|aC (fV 10)<|aC yr aN) xo) aN) xo) dN) dN))) xD)
  (zt (yU (fT<|f2 (fV 9) S4<|zp .Eq) (zv<|yt<|dC (yg<|dC (zd (aC zi T5) yR)<|dC (Ga yr oN (oS<|f1 zV NS) D6) dN) dN) xD)
  (zt (yU (fT<|f2 (fP (aC yr aN) yx) (fC<|.int 29)<|zp .Gt) (zv<|yt<|dC (yg<|dC yK<|dC yr dN) dN) xD)
  (zt (zL true 16<|zd (aC zg<|aC zF<|aC (zd (aC yi<|aC (fC<|.int 97) aN) zo) aN) xS)
  (zt (yU (fT<|f2 (fV 9) U6<|zp .Eq) (zv<|yt<|dC (yg<|dC (zd (aC zi<|aC (zd (aC zi<|aC (yt<|dC (fV 16) dN) aN)<|ya 20) T5)<|zu 20)<|dC (f2 (yt<|dC (fV 16) dN) yr zx) dN) dN) xD)
  (zv<|yt<|dC (yg<|dC (zd (aC zi<|aC yK<|aC (zd (aC zi<|aC (yt<|dC (fV 16) dN) aN)<|ya 20) aN)<|zu 20)<|dC (f2 yr (yt<|dC (fV 16) dN) zx) dN) dN)))))))))))))
def Zw:Fn:=vL 17 5 G9
abbrev Yy:List Str:=["self","width"]
def VT:FnScope Yy ["self","width"] (zh xv):=Zu
def Yv:Hu:=
 (V2 0 xf "width" zg)
def zW(c:Str):Fn:=Ar c 2 2 Yv
abbrev Sf:List Str:=["_law_script","_law_kind","_law_width","_law_way","_law_cell","_law_start","_law_kept","_law_tree","_law_row"]
def xY:FnScope Sf ["_law_script"] (zh N7):=Zu
def B1:(["_law_k","_law_kind","_law_width","_law_cell"]:List Str).Nodup:=by decide +kernel
def C6:SF:=
 (zt (zL true 1<|f2 (yt<|dC (fC<|.str "sums")<|dC (fC<|.str "mosts")<|dC (fC<|.str "leasts") dN) (f2 (zd (aC zi<|aC z_ aN) y9) LL yA) yj)
  (zt (zL true 2<|f2 zV (f2 (f2 (zd (aC zi<|aC z_ aN) y9) LL vI) LL yA) zx)
  (zt (zL true 3<|zd yz<|zW "Leasts")
  (zt (yU (fT<|f2 zg (fC<|.str "sums")<|zp .Eq) (zL true 3<|zd yz<|zW "Sums")<|yU (fT<|f2 zg (fC<|.str "mosts")<|zp .Eq) (zL true 3<|zd yz<|zW "Mosts") xD)
  (zt (zL true 4<|zd (aC zi<|aC zV aN) y9)
  (zt (zL true 5<|zQ (ZP (aC (f2 yi (fC<|.int 20) yA) aN) ZC) [none,some 1,some 2,some 4] yI yP<|zd (aC zg<|aC zF<|aC (zd (aC zY<|aC (f2 (fC<|.int 300) zi zx) aN) zo) aN) xS)
  (zt (zL false 6<|yt<|dC (yg<|dC (Am<|zd (aC zY<|aC (yt dN) aN)<|ya 20)<|dC (Am<|yt dN) dN)<|dC (yg<|dC (Am<|zd (aC zY T5)<|ya 20)<|dC yK dN) dN)
  (zt (WW (WY<|Ga zi (oS WZ) (oS<|fC<|.int 63) LY) JQ<|WW (WY<|Pv 6 (aC zY<|aC zg<|aC zF<|aC yr<|aC yi aN) Zw) (gT 2<|wL (gN 7)<|wL (gN 8) QM)<|zt (yU (fT<|f2 (zd FR WQ) (fP (aC (fV 8) aN) yx)<|zp .NotEq) (zv<|fC<|.bl false) xD)
  (zt (yU (v3<|fT<|zd (aC zg<|aC (zd (aC zY FR) Y7)<|aC (zd (aC zg<|aC zF<|aC (fV 8) aN) wQ) aN) yL) (zv<|fC<|.bl false) xD)
  (xB<|ZM 6 (dC (yg<|dC RD<|dC (fV 8) dN) dN) vN)))
  (zt (WW (WY yr) (gT 2<|wL (gN 7)<|wL (gN 8) QM)<|yU (v3<|fT<|zd (aC zY<|aC zg<|aC zF<|aC RD<|aC (fV 8) aN) vC) (zv<|fC<|.bl false) xD)
  (zv<|fC<|.bl true))))))))))
def GW:Fn:=vL 9 1 C6
structure Fq(K:zzA)(mg:Str->Option Value)(x:Str)(st:Stmt)(f:Addr)(d:FuncData)(ps:List Str):Prop where
 F:Fun K x x st f d
 b:Binds K d ps []
 m:mg x=some (.ref f)
def UJ{P:Program}{w:World}{K:zzA}{mg:Str->Option Value}{base:Heap}{kd:KD}{x:Str}{st:Stmt}{f:Addr}{d:FuncData}{N ps:List Str}{k:Nat}{c:SF}(Q:Fq K mg x st f d ps)(S:FnScope N ps (zh st))
 (hb:∀(cdv:Value) (A:Around) (outer:List Env) (s:Shared) (H:Hp) (E:XK),Room k (A.deeper<|envOfC x (zh st) s.heap.objs.size f cdv)->FW (T7 wH P w K mg base N x (zh st) f cdv A outer s H E).nox kd (Zs st) c):
 Co x P w K mg base kd (k+1) f d ps (vL N.length ps.length c):=⟨xT Q.F S hb,Q.m,Q.F.kp,Q.b⟩
set_option genInjectivity false in
set_option genSizeOf false in
structure Adr where
 vQ:Addr
 vT:FuncData
 G8:Addr
 GD:FuncData
 XY:Addr
 XG:FuncData
 YQ:Addr
 Y4:FuncData
 Yk:Addr
 Z9:FuncData
 Zq:Addr
 Xe:FuncData
 GP:Addr
 Gx:FuncData
 QW:Addr
 Uc:FuncData
 Gv:Addr
 Kh:FuncData
 X0:Addr
 XE:FuncData
 Zt:Addr
 YL:FuncData
 yW:Addr
 vY:FuncData
 Pw:Addr
 PX:FuncData
 Z_:Addr
 Yh:FuncData
 wA:Addr
 ZG:FuncData
 xp:Addr
 ZF:FuncData
 QJ:Addr
 QE:FuncData
 YU:Addr
 Y6:FuncData
 vA:Addr
 Ye:FuncData
 wB:Addr
 YI:FuncData
 P1:Addr
 PH:FuncData
 VV:Addr
 Qb:FuncData
 Pf:Addr
 Tp:FuncData
 P4:Addr
 Tj:FuncData
 N1:Addr
 Md:FuncData
 Ua:Addr
 Q7:FuncData
 Vr:Addr
 W_:FuncData
 XW:Addr
 Xz:FuncData
 Nd:Addr
 NI:FuncData
 ZR:Addr
 ZA:FuncData
 XA:Addr
 Xy:FuncData
 Vb:Addr
 W7:FuncData
 UM:Addr
 UA:FuncData
 Qj:Addr
 QB:FuncData
 PK:Addr
 RT:FuncData
 UV:Addr
 UH:FuncData
 Tv:Addr
 Pr:FuncData
 Pc:Addr
 Te:FuncData
 PC:Addr
 RN:FuncData
 Xu:Addr
 X3:FuncData
 P2:Addr
 Py:FuncData
 Wd:Addr
 XU:FuncData
 VE:Addr
 VH:FuncData
 VA:Addr
 W9:FuncData
 yZ:Addr
 vS:FuncData
 GR:Addr
 G2:FuncData
 yM:Addr
 wM:FuncData
 CT:Addr
 CA:FuncData
 Yb:Addr
 Zz:Addr
 xF:Addr
 yY:Addr
structure Txt(K:zzA)(kd:KD)(mg:Str->Option Value)(t:Adr):Prop where
 U1:Fun K "__init__" "Knot.__init__" xI t.vQ t.vT
 U5:Binds K t.vT ["self","whole","back","wait","turn","one","other"] []
 FT:Fq K mg "leaf_of" Ww t.G8 t.GD ["value"]
 N3:Fun K "join" "Sums.join" ZY t.XY t.XG
 Ni:Binds K t.XG ["self","one","other"] []
 Kx:Fun K "best" "Mosts.best" Zm t.YQ t.Y4
 KJ:Binds K t.Y4 ["self","numbers"] []
 T_:Fun K "best" "Leasts.best" wW t.Yk t.Z9
 T6:Binds K t.Z9 ["self","numbers"] []
 LG:Fun K "join" "Picks.join" Zr t.Zq t.Xe
 Qu:Binds K t.Xe ["self","one","other"] []
 Bh:Fq K mg "knot_of" WJ t.GP t.Gx ["way","one","other"]
 Zx:Fun K "tree_of" "tree_of" Wy t.QW t.Uc
 Yr:Binds K t.Uc ["way","row"] []
 ya:mg "tree_of"=some (.ref t.QW)
 FI:Fq K mg "size_of" WN t.Gv t.Kh ["tree"]
 N2:Fun K "zero" "Sums.zero" Z8 t.X0 t.XE
 Nb:Binds K t.XE ["self"] []
 Kq:Fun K "zero" "Picks.zero" Zh t.Zt t.YL
 QD:Binds K t.YL ["self"] []
 Rb:Fun K "nothing" "Wides.nothing" xN t.yW t.vY
 vP:Binds K t.vY ["self"] []
 Ek:Fq K mg "whole_of" YG t.Pw t.PX ["way","tree"]
 Gs:Fun K "across" "Sums.across" vE t.Z_ t.Yh
 Gc:Binds K t.Yh ["self","row","numbers"] []
 Tt:Fun K "across" "Picks.across" wj t.wA t.ZG
 XX:Binds K t.ZG ["self","row","numbers"] []
 Ry:Fun K "behind" "Wides.behind" wu t.xp t.ZF
 ZW:Binds K t.ZF ["self","one","other"] []
 Lo:Fq K mg "both_waits" Zo t.QJ t.QE ["way","one","other"]
 KC:Fun K "often" "Sums.often" Zd t.YU t.Y6
 LU:Binds K t.Y6 ["self","more","many"] []
 TU:Fun K "often" "Picks.often" w_ t.vA t.Ye
 Vi:Binds K t.Ye ["self","more","many"] []
 Lc:Fun K "made" "Wides.made" Zn t.wB t.YI
 YH:Binds K t.YI ["self","wait","value","many"] []
 Ec:Fq K mg "done_all" YW t.P1 t.PH ["way","tree","wait"]
 Kt:Fq K mg "turned_all" Zi t.VV t.Qb ["way","tree"]
 M_:Fq K mg "parts_of" YK t.Pf t.Tp ["way","knot"]
 RH:Fun K "gather" "gather" Qw t.P4 t.Tj
 Ng:Binds K t.Tj ["way","tree","wait","turn","row"] []
 yN:mg "gather"=some (.ref t.P4)
 BB:Fq K mg "row_of" V1 t.N1 t.Md ["way","tree"]
 Wz:Fun K "walk_of" "walk_of" WV t.Ua t.Q7
 QQ:Binds K t.Q7 ["way","tree"] []
 y6:mg "walk_of"=some (.ref t.Ua)
 Gm:Fq K mg "leaned_left" wX t.Vr t.W_ ["way","one","other"]
 RB:Fq K mg "leaned_right" wc t.XW t.Xz ["way","one","other"]
 SY:Fq K mg "evened" VW t.Nd t.NI ["way","one","other"]
 yO:Fun K "put_together" "put_together" wx t.ZR t.ZA
 xi:Binds K t.ZA ["way","one","other"] []
 zu:mg "put_together"=some (.ref t.ZR)
 Z1:Fun K "parted_at" "parted_at" ZZ t.XA t.Xy
 Xx:Binds K t.Xy ["way","tree","place"] []
 yk:mg "parted_at"=some (.ref t.XA)
 TY:Fq K mg "_law_cell_at" vB t.Vb t.W7 ["_law_script","_law_k"]
 Nh:Fq K mg "_law_mixed" Z6 t.UM t.UA ["_law_cell","_law_k"]
 Ky:Fq K mg "_law_number" Zg t.Qj t.QB ["_law_cell","_law_wide"]
 MI:Fq K mg "_law_part" Y2 t.PK t.RT ["_law_kind","_law_cell","_law_wide"]
 NX:Fq K mg "_law_value" Z0 t.UV t.UH ["_law_kind","_law_width","_law_cell"]
 Ep:Fq K mg "_law_deed" Xc t.Tv t.Pr ["_law_kind","_law_width","_law_cell"]
 ML:Fq K mg "_law_best" YE t.Pc t.Te ["_law_kind","_law_parts"]
 MM:Fq K mg "_law_come" Y9 t.PC t.RN ["_law_kind","_law_width","_law_row"]
 RI:Fq K mg "_law_made_one" xZ t.Xu t.X3 ["_law_kind","_law_deed_here","_law_value_here"]
 Mu:Fq K mg "_law_made" YV t.P2 t.Py ["_law_kind","_law_deed_here","_law_row"]
 Pq:Fq K mg "_law_is_value" wF t.Wd t.XU ["_law_kind","_law_found","_law_due"]
 YN:Fun K "_law_gone" "_law_gone" YC t.VE t.VH
 VC:Binds K t.VH ["_law_kind","_law_width","_law_found"] []
 yT:mg "_law_gone"=some (.ref t.VE)
 Gj:Fq K mg "_law_is_tree" wY t.VA t.W9 ["_law_way","_law_kind","_law_width","_law_tree","_law_row"]
 U8:Fun K "wait_of" "Wides.wait_of" xJ t.yZ t.vS
 vR:Binds K t.vS ["self","deed"] []
 WS:Fq K mg "_law_new" WG t.GR t.G2 ["_law_way","_law_kind","_law_width","_law_kept","_law_cell"]
 QT:Fun K "__init__" "Wides.__init__" xv t.yM t.wM
 wJ:Binds K t.wM ["self","width"] []
 DV:Fq K mg "law" N7 t.CT t.CA ["_law_script"]
 ZE:CI K kd mg "Knot" t.Yb
 xQ:CI K kd mg "Sums" t.Zz
 yJ:CI K kd mg "Mosts" t.xF
 yq:CI K kd mg "Leasts" t.yY
 U7:Meth K t.Yb "__init__" t.vQ
 Xj:Meth K t.Zz "__init__" t.yM
 Yw:Meth K t.xF "__init__" t.yM
 Z2:Meth K t.yY "__init__" t.yM
 LR:Meth K t.xF "best" t.YQ
 Gp:Meth K t.yY "best" t.Yk
 L5:Meth K t.Zz "join" t.XY
 K4:Meth K t.xF "join" t.Zq
 Gb:Meth K t.yY "join" t.Zq
 L_:Meth K t.Zz "zero" t.X0
 K6:Meth K t.xF "zero" t.Zt
 T4:Meth K t.yY "zero" t.Zt
 Po:Meth K t.Zz "nothing" t.yW
 Ra:Meth K t.xF "nothing" t.yW
 QV:Meth K t.yY "nothing" t.yW
 Gi:Meth K t.Zz "across" t.Z_
 Tc:Meth K t.xF "across" t.wA
 U_:Meth K t.yY "across" t.wA
 T9:Meth K t.Zz "behind" t.xp
 Pm:Meth K t.xF "behind" t.xp
 U9:Meth K t.yY "behind" t.xp
 Lr:Meth K t.Zz "often" t.YU
 Gh:Meth K t.xF "often" t.vA
 TC:Meth K t.yY "often" t.vA
 NC:Meth K t.Zz "made" t.wB
 Lu:Meth K t.xF "made" t.wB
 Gr:Meth K t.yY "made" t.wB
 Pa:Meth K t.Zz "wait_of" t.yZ
 U3:Meth K t.xF "wait_of" t.yZ
 QO:Meth K t.yY "wait_of" t.yZ
 LW:yS K t.Yb "whole"
 Mc:yS K t.Yb "back"
 NR:yS K t.Yb "wait"
 NU:yS K t.Yb "turn"
 Eh:yS K t.Yb "one"
 K2:yS K t.Yb "other"
 L4:yS K t.Yb "deep"
 L7:yS K t.Yb "size"
 Lh:yS K t.Zz "width"
 Ge:yS K t.xF "width"
 Pe:yS K t.yY "width"
 De:mg "abs"=none
 J1:mg "bool"=none
 Zk:mg "isinstance"=none
 Uy:mg "len"=none
 J2:mg "list"=none
 Hm:mg "max"=none
 DZ:mg "min"=none
 KR:mg "range"=none
 DO:mg "sum"=none
 K0:mg "tuple"=none
 Dx:mg "zip"=none
 nt:U0 K=true
set_option maxHeartbeats 8000000
section
variable{P:Program}{w:World}{K:zzA}{mg:Str->Option Value}{base:Heap}{kd:KD}{t:Adr}
def Ws(T:Txt K kd mg t):CF K kd yF "whole":=(ZL T.ZE T.LW YS)
def BV(T:Txt K kd mg t):CF K kd Y_ "back":=(ZL T.ZE T.Mc YS)
def MR(T:Txt K kd mg t):CF K kd xr "wait":=(ZL T.ZE T.NR YS)
def Es(T:Txt K kd mg t):CF K kd Z5 "turn":=(ZL T.ZE T.NU YS)
def EA(T:Txt K kd mg t):CF K kd Xa "one":=(ZL T.ZE T.Eh YS)
def Rc(T:Txt K kd mg t):CF K kd wg "other":=(ZL T.ZE T.K2 YS)
def Yo(T:Txt K kd mg t):CF K kd zX "deep":=(ZL T.ZE T.L4 YS)
def Ug(T:Txt K kd mg t):CF K kd xG "size":=(ZL T.ZE T.L7 YS)
def Fp(T:Txt K kd mg t):CF K kd xf "width":=(ZL T.xQ T.Lh<|ZL T.yJ T.Ge<|ZL T.yq T.Pe YS)
local macro_rules | `(tactic| trivial)=>do let T:=Lean.mkIdent `T;let h:=Lean.mkIdent `hkd;let r:=Lean.mkIdent `hr;`(tactic| first|(show AE _ _ _ _;first|exact av _|exact aI|(refine ax $h ?_ ?_<;>trivial)|(refine bn ?_ ?_<;>trivial)|exact aS|exact aZ|exact aB|(refine ec $h $r ?_ ?_<;>trivial)|(refine cq (by assumption) $r ?_<;>trivial)|(refine xO ?_;trivial)|(refine Ue ?_;trivial)|(refine cm ?_ ?_ ?_ ?_<;>trivial)|(refine Qi ?_ ?_ ?_<;>trivial)|(refine J_ ?_ ?_<;>trivial)|(refine bi (xV ($h _ rfl rfl rfl)) (Txt.Uy $T) Bt.len ?_;trivial)|(refine bi (QP rfl) (Txt.Hm $T) Bt.max ?_;trivial)|(refine bi (FP rfl) (Txt.DZ $T) Bt.min ?_;trivial)|(refine bi (FS rfl) (Txt.DO $T) Bt.sum ?_;trivial)|(refine rB Bq (Txt.K0 $T) Bt.tuple ?_;trivial)|(refine LF ($h _ rfl rfl rfl) rfl rfl (Txt.Zk $T) Bt.isinstance rfl (Txt.K0 $T) Bt.tuple ?_ (Bt.n _ rfl) (by decide) (Bt.n _ rfl) (by decide) rfl rfl rfl;trivial)|(refine LF ($h _ rfl rfl rfl) rfl rfl (Txt.Zk $T) Bt.isinstance rfl (Txt.J2 $T) Bt.list ?_ (Bt.n _ rfl) (by decide) (Bt.n _ rfl) (by decide) rfl rfl rfl;trivial)|(refine LF ($h _ rfl rfl rfl) rfl rfl (Txt.Zk $T) Bt.isinstance rfl (Txt.J1 $T) Bt.bool ?_ (Bt.n _ rfl) (by decide) (Bt.n _ rfl) (by decide) rfl rfl rfl;trivial)|(refine Ac ?_;trivial)|(refine DN ui ?_;trivial)|(refine Nn ?_ ?_ ?_<;>trivial)|(refine Iy ?_ ?_<;>trivial)|(refine IA ?_;trivial)|(refine Er Uj El PySem.F.slot_list_append PySem.F.type_list_append (pv _) ?_ rfl rfl rfl rfl rfl;trivial)|(refine fd (Yo $T) ?_;trivial)|(refine fd (Ug $T) ?_;trivial)|(refine fd (Ws $T) ?_;trivial)|(refine fd (BV $T) ?_;trivial)|(refine fd (Fp $T) ?_;trivial)|(refine fd (MR $T) ?_;trivial)|(refine fd (Es $T) ?_;trivial)|(refine fd (EA $T) ?_;trivial)|(refine fd (Rc $T) ?_;trivial)|(refine mq (Txt.ZE $T).eq ((Txt.ZE $T).mk' (Txt.U7 $T)) (by assumption) $r (Txt.ZE $T).mg (Txt.U5 $T) ?_;trivial)|(refine mq (Txt.yq $T).eq ((Txt.yq $T).mk' (Txt.Z2 $T)) (by assumption) $r (Txt.yq $T).mg (Txt.b_Leasts___init__ $T) ?_;trivial)|(refine mq (Txt.xQ $T).eq ((Txt.xQ $T).mk' (Txt.Xj $T)) (by assumption) $r (Txt.xQ $T).mg (Txt.b_Sums___init__ $T) ?_;trivial)|(refine mq (Txt.yJ $T).eq ((Txt.yJ $T).mk' (Txt.Yw $T)) (by assumption) $r (Txt.yJ $T).mg (Txt.b_Mosts___init__ $T) ?_;trivial)|(refine mt (by assumption) $r ?_ ?_ rfl<;>trivial)|(refine rD (by assumption) $r ?_ rfl;trivial)|(refine Fe ?_;trivial))|(show AA _ _ _ _;first|(refine bc ?_ ?_<;>trivial)|exact zz)|exact EJ|(refine Hy ?_;trivial)|(intro _;trivial)|(show Ed _ _ _ _;first|(refine rC (by assumption) ?_ ?_ ?_ ?_<;>trivial)|(refine yc ?_;trivial)|(refine xh ?_ ?_ ?_<;>trivial)|(refine sE ?_ ?_ ?_<;>trivial)|(refine Ez ?_ rfl;trivial)|(refine sv _ _ (by assumption) ?_;trivial)|(refine uo ?_ ?_<;>trivial))|(show FW _ _ _ _;first|(refine sj _ (by assumption) ?_ ?_<;>trivial)|(refine zP ?_ ?_<;>trivial)|(refine zG ?_;trivial)|exact ye)|(show AT _ _ _ _;first|(refine tc $h $r ?_ ?_<;>trivial)|(refine tc $h $r ?_ ?_ (hm:=rfl)<;>trivial)|(refine PD ?_;trivial)|(refine Q3 ?_ (λ_=>rfl);trivial)|(refine AW.at_ ?_;trivial))|(show AD _ _ _ _;first|(refine bd ?_ ?_<;>trivial)|exact yD)|(show AO _ _ _ _;first|(refine Wx ?_;trivial)|exact Ln)|(show AG _ _ _ _ _;first|exact an _ (by assumption)|exact an _ (sZ (by kernel_rfl))|(refine Kr rfl ?_ rfl rfl;trivial))|(show C5 _ _ _ _ _;first|(refine sF ?_ ?_<;>trivial)|exact Rn)|(show An _ _ _ _;first|exact uV _ (by assumption)|(refine uq ?_;trivial))|(show Ss _ _ _ _;first|(refine uB ?_ ?_<;>trivial)|exact tE)|(show CM _ _ _ _ _;first|(refine GE rfl (Txt.KR $T) ?_ rfl;trivial)|(refine OE rfl (Txt.Dx $T) ?_ rfl rfl;trivial)|(refine IC ?_;trivial))|(show AI _ _ _ _ _;first|(refine FC rfl (Txt.KR $T) ?_ rfl;trivial)|(refine RC ?_;trivial))|(show AW _ _ _ _;first|(refine E7 ?_ ?_<;>trivial)|(refine BE ?_ ?_<;>trivial)|(refine Q_ ?_;trivial)|(refine TL ?_;trivial)))
local macro_rules |`(⋯)=>`(by first|with_reducible rfl|assumption|exact zc|exact ym|exact yB|exact zl|(with_reducible refine za ?_;first|rfl|assumption)|(with_reducible refine WD.e ?_;exact ⋯)|(with_reducible refine yy ?_ ?_ <;> exact ⋯)|(with_reducible refine wV ?_ ?_ <;> exact ⋯)|(with_reducible refine y_ ?_ ?_ <;> exact ⋯)|(with_reducible refine Up ?_ ?_ <;> exact ⋯)|(with_reducible refine ZI ?_ ?_ ?_ <;> exact ⋯)|(with_reducible refine LQ ?_ ?_ ?_ ?_ <;> exact ⋯)|(with_reducible refine XC ?_ ?_ ?_ ?_ <;> exact ⋯)|(with_reducible refine zN ?_ ?_ rfl rfl <;> exact ⋯)|(with_reducible refine zq ?_;exact ⋯)|(with_reducible refine VM ?_;exact ⋯)|(with_reducible refine zy ?_ rfl;exact ⋯)|exact xa (by decide)|omega|rfl|decide)
def xM(T:Txt K kd mg t)(hkd:xW P w K kd)(c:Str):FnOk P w K mg base wH 1 t.vQ t.vT ["self","whole","back","wait","turn","one","other"] (Ah K kd c<|zZ c):=by
 refine SW (N:=Xi) (k:=0) (b:=vU) T.U1 QR (by decide) λcdv A outer s H E hr=>?_;exact(ZT (Zp (Ws T) (pv 0) (av 1) rfl)<|ZT (Zp (BV T) (pv 0) (av 2) rfl)<|ZT (Zp (MR T) (pv 0) (av 3) rfl)<|ZT (Zp (Es T) (pv 0) (av 4) rfl)<|ZT (Zp (EA T) (pv 0) (av 5) rfl)<|ZT (Zp (Rc T) (pv 0) (av 6) rfl)<|ZT (Zp (Yo T) (pv 0) (Nn (tc hkd hr (av 5) aZ) aI<|bn aI<|bi (QP rfl) T.Hm Bt.max<|bc (fd (Yo T)<|av 5)<|bc (fd (Yo T)<|av 6) zz) rfl)<|E3<|Zp (Ug T) (pv 0) (Nn (tc hkd hr (av 5) aZ) aI<|bn (fd (Ug T)<|av 5)<|fd (Ug T)<|av 6) rfl)
def Gz(T:Txt K kd mg t)(hkd:xW P w K kd):Co "leaf_of" P w K mg base kd 3 t.G8 t.GD ["value"] WH:=by
 refine UJ (N:=GY) (k:=2) (c:=GS) T.FT Pg λ_ _ _ _ _ _ hr=>?_;have:=Pg.nd;have:=xM (base:=base) T hkd "Knot";conv=>arg 3;whnf
 trivial
def Mi(T:Txt K kd mg t)(hkd:xW P w K kd):FnOk P w K mg base wH 1 t.XY t.XG ["self","one","other"] (Wv K kd Wf):=by
 refine xT (N:=UG) (k:=0) (c:=UU) T.N3 Qe λ_ _ _ _ _ _ hr=>?_;have:=Qe.nd;conv=>arg 3;whnf
 trivial
def Lx(T:Txt K kd mg t)(hkd:xW P w K kd):FnOk P w K mg base wH 1 t.YQ t.Y4 ["self","numbers"] (Wv K kd YZ):=by
 refine xT (N:=QI) (k:=0) (c:=Qf) T.Kx Vq λ_ _ _ _ _ _ hr=>?_;have:=Vq.nd;conv=>arg 3;whnf
 trivial
def Gg(T:Txt K kd mg t)(hkd:xW P w K kd):FnOk P w K mg base wH 1 t.Yk t.Z9 ["self","numbers"] (Wv K kd Yg):=by
 refine xT (N:=W6) (k:=0) (c:=Vx) T.T_ X9 λ_ _ _ _ _ _ hr=>?_;have:=X9.nd;conv=>arg 3;whnf
 trivial
def BI(T:Txt K kd mg t)(hkd:xW P w K kd):MT P w K mg base kd "best" 1 Le:=(yo T.yJ T.LR (Lx T hkd) (by decide) T.KJ<|yo T.yq T.Gp (Gg T hkd) (by decide) T.T6 YB)
def Qr(T:Txt K kd mg t)(hkd:xW P w K kd):FnOk P w K mg base wH 2 t.Zq t.Xe ["self","one","other"] (Wv K kd Ze):=by
 refine xT (N:=Qx) (k:=1) (c:=QG) T.LG Vh λ_ _ _ _ _ _ hr=>?_;have:=Vh.nd;have:=BI (base:=base) T hkd;conv=>arg 3;whnf
 trivial
def Eo(T:Txt K kd mg t)(hkd:xW P w K kd):MT P w K mg base kd "join" 2 YX:=(yo T.xQ T.L5 (Mi T hkd) (by decide) T.Ni<|yo T.yJ T.K4 (Qr T hkd) (by decide) T.Qu<|yo T.yq T.Gb (Qr T hkd) (by decide) T.Qu YB)
def Yq(T:Txt K kd mg t)(hkd:xW P w K kd):Co "knot_of" P w K mg base kd 3 t.GP t.Gx ["way","one","other"] yh:=by
 refine UJ (N:=Kc) (k:=2) (c:=Km) T.Bh PU λ_ _ _ _ _ _ hr=>?_;have:=PU.nd;have:=xM (base:=base) T hkd "Knot";have:=Eo (base:=base) T hkd;conv=>arg 3;whnf
 trivial
theorem WB(T:Txt K kd mg t)(hkd:xW P w K kd):∀n:Nat,FnOk P w K mg base wH (3+n) t.QW t.Uc ["way","row"] (Wv K kd<|ya n)
 |0=>VU
 |n+1=>by
  have G:=WB T hkd n;refine xT (N:=Gu) (k:=3+n) (c:=GZ<|ya n) T.Zx P_ λcdv A outer s H E hr=>?_;exact(by
  refine zP ?_ ?_;exact(xh (tc hkd hr (bi (xV<|hkd _ rfl rfl rfl) T.Uy Bt.len<|bc (av 1) zz) aI) (zG<|yc aZ) ye);refine zP ?_ ?_;exact(xh (tc hkd hr (bi (xV<|hkd _ rfl rfl rfl) T.Uy Bt.len<|bc (av 1) zz) aI) (zG<|yc<|cq (Gz T hkd) hr<|bc (ax hkd (av 1) aI) zz) ye);refine sj 2 P_.nd ?_ ?_;exact(bn (bi (xV<|hkd _ rfl rfl rfl) T.Uy Bt.len<|bc (av 1) zz) aI);exact zG<|yc<|cq (Yq T hkd) hr<|bc (av 0)<|bc (ck G hr T.ya T.Zx.kp T.Yr<|bc (av 0)<|bc (Qi (av 1) Ln<|Wx<|av 2) zz)<|bc (ck G hr T.ya T.Zx.kp T.Yr<|bc (av 0)<|bc (Qi (av 1) (Wx<|av 2) Ln) zz) zz)
def FD(T:Txt K kd mg t)(hkd:xW P w K kd):Co "size_of" P w K mg base kd 1 t.Gv t.Kh ["tree"] WQ:=by
 refine UJ (N:=Kg) (k:=0) (c:=GQ) T.FI RK λ_ _ _ _ _ _ hr=>?_;have:=RK.nd;conv=>arg 3;whnf
 trivial
def Mp(T:Txt K kd mg t)(hkd:xW P w K kd):FnOk P w K mg base wH 1 t.X0 t.XE ["self"] (Wv K kd XQ):=by
 refine xT (N:=UZ) (k:=0) (c:=UL) T.N2 Qg λ_ _ _ _ _ _ hr=>?_;have:=Qg.nd;conv=>arg 3;whnf
 trivial
def VZ(T:Txt K kd mg t)(hkd:xW P w K kd):FnOk P w K mg base wH 1 t.Zt t.YL ["self"] (Wv K kd YF):=by
 refine xT (N:=QH) (k:=0) (c:=QF) T.Kq Vm λ_ _ _ _ _ _ hr=>?_;have:=Vm.nd;conv=>arg 3;whnf
 trivial
def JB(T:Txt K kd mg t)(hkd:xW P w K kd):MT P w K mg base kd "zero" 1 KW:=(yo T.xQ T.L_ (Mp T hkd) (by decide) T.Nb<|yo T.yJ T.K6 (VZ T hkd) (by decide) T.QD<|yo T.yq T.T4 (VZ T hkd) (by decide) T.QD YB)
def vO(T:Txt K kd mg t)(hkd:xW P w K kd):FnOk P w K mg base wH 2 t.yW t.vY ["self"] (Wv K kd yV):=by
 refine xT (N:=Xk) (k:=1) (c:=Xg) T.Rb Ys λ_ _ _ _ _ _ hr=>?_;have:=Ys.nd;have:=JB (base:=base) T hkd;conv=>arg 3;whnf
 trivial
def Kj(T:Txt K kd mg t)(hkd:xW P w K kd):MT P w K mg base kd "nothing" 2 Y8:=(yo T.xQ T.Po (vO T hkd) (by decide) T.vP<|yo T.yJ T.Ra (vO T hkd) (by decide) T.vP<|yo T.yq T.QV (vO T hkd) (by decide) T.vP YB)
def M4(T:Txt K kd mg t)(hkd:xW P w K kd):Co "whole_of" P w K mg base kd 3 t.Pw t.PX ["way","tree"] Y7:=by
 refine UJ (N:=Th) (k:=2) (c:=TH) T.Ek UB λ_ _ _ _ _ _ hr=>?_;have:=UB.nd;have:=Kj (base:=base) T hkd;conv=>arg 3;whnf
 trivial
def Gn(T:Txt K kd mg t)(hkd:xW P w K kd):FnOk P w K mg base wH 1 t.Z_ t.Yh ["self","row","numbers"] (Wv K kd Yn):=by
 refine xT (N:=Vp) (k:=0) (c:=Vc) T.Gs Wj λ_ _ _ _ _ _ hr=>?_;have:=Wj.nd;conv=>arg 3;whnf
 trivial
def We(T:Txt K kd mg t)(hkd:xW P w K kd):FnOk P w K mg base wH 2 t.wA t.ZG ["self","row","numbers"] (Wv K kd ZO):=by
 refine xT (N:=XT) (k:=1) (c:=XI) T.Tt Xp λ_ _ _ _ _ _ hr=>?_;have:=Xp.nd;have:=BI (base:=base) T hkd;conv=>arg 3;whnf
 trivial
def NP(T:Txt K kd mg t)(hkd:xW P w K kd):MT P w K mg base kd "across" 2 xy:=(yo T.xQ T.Gi (Gn T hkd) (by decide) T.Gc<|yo T.yJ T.Tc (We T hkd) (by decide) T.XX<|yo T.yq T.U_ (We T hkd) (by decide) T.XX YB)
def ZH(T:Txt K kd mg t)(hkd:xW P w K kd):FnOk P w K mg base wH 3 t.xp t.ZF ["self","one","other"] (Wv K kd xj):=by
 refine xT (N:=Wl) (k:=2) (c:=XF) T.Ry Xr λ_ _ _ _ _ _ hr=>?_;have:=Xr.nd;have:=NP (base:=base) T hkd;have:=Eo (base:=base) T hkd;conv=>arg 3;whnf
 trivial
def Np(T:Txt K kd mg t)(hkd:xW P w K kd):MT P w K mg base kd "behind" 3 Yx:=(yo T.xQ T.T9 (ZH T hkd) (by decide) T.ZW<|yo T.yJ T.Pm (ZH T hkd) (by decide) T.ZW<|yo T.yq T.U9 (ZH T hkd) (by decide) T.ZW YB)
def VS(T:Txt K kd mg t)(hkd:xW P w K kd):Co "both_waits" P w K mg base kd 4 t.QJ t.QE ["way","one","other"] Zl:=by
 refine UJ (N:=Qc) (k:=3) (c:=Qh) T.Lo Vz λ_ _ _ _ _ _ hr=>?_;have:=Vz.nd;have:=Np (base:=base) T hkd;conv=>arg 3;whnf
 trivial
def LB(T:Txt K kd mg t)(hkd:xW P w K kd):FnOk P w K mg base wH 1 t.YU t.Y6 ["self","more","many"] (Wv K kd Zc):=by
 refine xT (N:=Qn) (k:=0) (c:=QC) T.KC Vy λ_ _ _ _ _ _ hr=>?_;have:=Vy.nd;conv=>arg 3;whnf
 trivial
def Vn(T:Txt K kd mg t)(hkd:xW P w K kd):FnOk P w K mg base wH 1 t.vA t.Ye ["self","more","many"] (Wv K kd y4):=by
 refine xT (N:=Vj) (k:=0) (c:=Vu) T.TU XH λ_ _ _ _ _ _ hr=>?_;have:=XH.nd;conv=>arg 3;whnf
 trivial
def HM(T:Txt K kd mg t)(hkd:xW P w K kd):MT P w K mg base kd "often" 1 TM:=(yo T.xQ T.Lr (LB T hkd) (by decide) T.LU<|yo T.yJ T.Gh (Vn T hkd) (by decide) T.Vi<|yo T.yq T.TC (Vn T hkd) (by decide) T.Vi YB)
def YT(T:Txt K kd mg t)(hkd:xW P w K kd):FnOk P w K mg base wH 3 t.wB t.YI ["self","wait","value","many"] (Wv K kd wo):=by
 refine xT (N:=Qz) (k:=2) (c:=V5) T.Lc W4 λ_ _ _ _ _ _ hr=>?_;have:=W4.nd;have:=Kj (base:=base) T hkd;have:=NP (base:=base) T hkd;have:=Eo (base:=base) T hkd;have:=HM (base:=base) T hkd;conv=>arg 3;whnf
 trivial
def BA(T:Txt K kd mg t)(hkd:xW P w K kd):MT P w K mg base kd "made" 3 Wu:=(yo T.xQ T.NC (YT T hkd) (by decide) T.YH<|yo T.yJ T.Lu (YT T hkd) (by decide) T.YH<|yo T.yq T.Gr (YT T hkd) (by decide) T.YH YB)
def RM(T:Txt K kd mg t)(hkd:xW P w K kd):Co "done_all" P w K mg base kd 5 t.P1 t.PH ["way","tree","wait"] yw:=by
 refine UJ (N:=P3) (k:=4) (c:=Pp) T.Ec UI λ_ _ _ _ _ _ hr=>?_;have:=UI.nd;have:=BA (base:=base) T hkd;have:=Gz (base:=base) T hkd;have:=xM (base:=base) T hkd "Knot";have:=VS (base:=base) T hkd;conv=>arg 3;whnf
 trivial
def VX(T:Txt K kd mg t)(hkd:xW P w K kd):Co "turned_all" P w K mg base kd 3 t.VV t.Qb ["way","tree"] yR:=by
 refine UJ (N:=Ql) (k:=2) (c:=Qo) T.Kt Vs λ_ _ _ _ _ _ hr=>?_;have:=Vs.nd;have:=xM (base:=base) T hkd "Knot";conv=>arg 3;whnf
 trivial
def wI(T:Txt K kd mg t)(hkd:xW P w K kd):Co "parts_of" P w K mg base kd 6 t.Pf t.Tp ["way","knot"] yH:=by
 refine UJ (N:=P7) (k:=5) (c:=RF) T.M_ Ut λ_ _ _ _ _ _ hr=>?_;have:=Ut.nd;have:=RM (base:=base) T hkd;have:=VX (base:=base) T hkd;conv=>arg 3;whnf
 trivial
theorem Nr(T:Txt K kd mg t)(hkd:xW P w K kd):∀n:Nat,FnOk P w K mg base wH (4+n) t.P4 t.Tj ["way","tree","wait","turn","row"] (BF K kd<|yN n)
 |0=>SV
 |n+1=>by
  have G:=Nr T hkd n;refine Ir (N:=Mh) (k:=4+n) (c:=Qp<|yN n) T.RH YA (by decide) λcdv A outer s H E hr=>?_;exact(FG (tc hkd hr (fd (Yo T)<|av 1) aI) (OS (Er Uj El PySem.F.slot_list_append PySem.F.type_list_append (pv 4) (bd (Nn (tc hkd hr (av 2) aZ) (fd (Ws T)<|av 1)<|mt (BA T hkd) hr (av 0) (bc (av 2)<|bc (fd (Ws T)<|av 1)<|bc aI zz) rfl) yD) rfl rfl rfl rfl rfl) rfl)<|by
  refine PQ ?_ ?_;exact(by refine uv true 5 (by decide) YA.nd ?_;exact(cq (VS T hkd) hr<|bc (av 0)<|bc (fd (MR T)<|av 1)<|bc (av 2) zz));refine PQ ?_ ?_;exact(by refine uv true 6 (by decide) YA.nd ?_;exact(ec hkd hr (fd (Es T)<|av 1)<|av 3));refine PQ ?_ ?_;exact(by refine uv true 7 (by decide) YA.nd ?_;exact(Nn (Q3 (av 6) λ_=>rfl) (xO<|bd (fd (Rc T)<|av 1)<|bd (fd (EA T)<|av 1) yD)<|xO<|bd (fd (EA T)<|av 1)<|bd (fd (Rc T)<|av 1) yD));exact Fs<|Jp (by decide) PassesOwn.never rfl (RC<|av 7) (an 8 YA.nd) (Fs<|L8 (i:=4) G (hr.mono<|by omega) rfl T.yN T.RH.kp T.Ng UD (bc (av 0)<|bc (av 8)<|bc (av 5)<|bc (av 6)<|bc (av 4) zz) (by decide) rfl rfl rfl) λ_=>rfl)
def BY(T:Txt K kd mg t)(hkd:xW P w K kd):Co "row_of" P w K mg base kd 25 t.N1 t.Md ["way","tree"] Xw:=by
 refine UJ (N:=Mb) (k:=24) (c:=NG) T.BB Q0 λ_ _ _ _ _ _ hr=>?_;have:=Q0.nd;conv=>arg 3;whnf
 exact(by
  refine sj 2 Q0.nd ?_ ?_;trivial;refine zP ?_ ?_;exact(xh (tc hkd hr (av 1) aZ) (zG<|Hb (i:=2) (Nr T hkd 20) (hr.mono<|by omega) rfl T.yN T.RH.kp T.Ng UD (bc (av 0)<|bc (av 1)<|bc aZ<|bc aB<|bc (av 2) zz) (by decide) rfl rfl rfl) ye);exact zG<|yc<|av 2)
theorem G_(T:Txt K kd mg t)(hkd:xW P w K kd):∀n:Nat,FnOk P w K mg base wH (6+n) t.Ua t.Q7 ["way","tree"] (Wv K kd<|y6 n)
 |0=>VU
 |n+1=>by
  have G:=G_ T hkd n;refine xT (N:=GU) (k:=6+n) (c:=GV<|y6 n) T.Wz Ti λcdv A outer s H E hr=>?_;exact(by
  refine zP ?_ ?_;exact(xh (tc hkd hr (av 1) aZ) (zG<|yc<|xO yD) ye);refine zP ?_ ?_;exact(xh (tc hkd hr (fd (Yo T)<|av 1) aI) (zG<|yc<|xO<|bd (fd (Ws T)<|av 1) yD) ye);refine sj 2 Ti.nd ?_ ?_;exact(cq (wI T hkd) hr<|bc (av 0)<|bc (av 1) zz);exact zG<|yc<|xO<|bd (fd (Ws T)<|av 1)<|bd (ck G hr T.y6 T.Wz.kp T.QQ<|bc (av 0)<|bc (ax hkd (av 2) aI) zz)<|bd (ck G hr T.y6 T.Wz.kp T.QQ<|bc (av 0)<|bc (ax hkd (av 2) aI) zz) yD)
def TV(T:Txt K kd mg t)(hkd:xW P w K kd):Co "leaned_left" P w K mg base kd 7 t.Vr t.W_ ["way","one","other"] Yl:=by
 refine UJ (N:=W8) (k:=6) (c:=Va) T.Gm X5 λ_ _ _ _ _ _ hr=>?_;have:=X5.nd;have:=wI (base:=base) T hkd;have:=Yq (base:=base) T hkd;conv=>arg 3;whnf
 trivial
def P5(T:Txt K kd mg t)(hkd:xW P w K kd):Co "leaned_right" P w K mg base kd 7 t.XW t.Xz ["way","one","other"] ZJ:=by
 refine UJ (N:=Wi) (k:=6) (c:=XZ) T.RB Xq λ_ _ _ _ _ _ hr=>?_;have:=Xq.nd;have:=wI (base:=base) T hkd;have:=Yq (base:=base) T hkd;conv=>arg 3;whnf
 trivial
def ND(T:Txt K kd mg t)(hkd:xW P w K kd):Co "evened" P w K mg base kd 8 t.Nd t.NI ["way","one","other"] QA:=by
 refine UJ (N:=NF) (k:=7) (c:=NT) T.SY G5 λ_ _ _ _ _ _ hr=>?_;have:=G5.nd;have:=TV (base:=base) T hkd;have:=P5 (base:=base) T hkd;have:=Yq (base:=base) T hkd;conv=>arg 3;whnf
 trivial
theorem x_(T:Txt K kd mg t)(hkd:xW P w K kd):∀n:Nat,FnOk P w K mg base wH (8+n) t.ZR t.ZA ["way","one","other"] (Wv K kd<|zu n)
 |0=>VU
 |n+1=>by
  have G:=x_ T hkd n;refine xT (N:=XS) (k:=8+n) (c:=Wb<|zu n) T.yO vW λcdv A outer s H E hr=>?_;exact(by
  refine zP ?_ ?_;exact(xh (tc hkd hr (av 1) aZ) (zG<|yc<|av 2) ye);refine zP ?_ ?_;exact(xh (tc hkd hr (av 2) aZ) (zG<|yc<|av 1) ye);refine zP ?_ ?_;exact(xh (tc hkd hr (fd (Yo T)<|av 1)<|bn (fd (Yo T)<|av 2) aI) (by
  refine sj 3 vW.nd ?_ ?_;exact(cq (wI T hkd) hr<|bc (av 0)<|bc (av 1) zz);exact zG<|yc<|cq (ND T hkd) hr<|bc (av 0)<|bc (ax hkd (av 3) aI)<|bc (ck G hr T.zu T.yO.kp T.xi<|bc (av 0)<|bc (ax hkd (av 3) aI)<|bc (av 2) zz) zz) ye)
  refine zP ?_ ?_;exact(xh (tc hkd hr (fd (Yo T)<|av 2)<|bn (fd (Yo T)<|av 1) aI) (by
  refine sj 3 vW.nd ?_ ?_;exact(cq (wI T hkd) hr<|bc (av 0)<|bc (av 2) zz);exact zG<|yc<|cq (ND T hkd) hr<|bc (av 0)<|bc (ck G hr T.zu T.yO.kp T.xi<|bc (av 0)<|bc (av 1)<|bc (ax hkd (av 3) aI) zz)<|bc (ax hkd (av 3) aI) zz) ye)
  exact zG<|yc<|cq (Yq T hkd) hr<|bc (av 0)<|bc (av 1)<|bc (av 2) zz)
theorem UX(T:Txt K kd mg t)(hkd:xW P w K kd):∀n:Nat,FnOk P w K mg base wH (28+n) t.XA t.Xy ["way","tree","place"] (Wv K kd<|yk n)
 |0=>VU
 |n+1=>by
  have G:=UX T hkd n;refine xT (N:=UY) (k:=28+n) (c:=UF<|yk n) T.Z1 wa λcdv A outer s H E hr=>?_;exact(by
  refine zP ?_ ?_;exact(xh (tc hkd hr (av 2) aI) (zG<|yc<|xO<|bd aZ<|bd (av 1) yD) ye);refine zP ?_ ?_;exact(xh (tc hkd hr (av 2)<|fd (Ug T)<|av 1) (zG<|yc<|xO<|bd (av 1)<|bd aZ yD) ye);refine sj 3 wa.nd ?_ ?_;exact(cq (wI T hkd) hr<|bc (av 0)<|bc (av 1) zz);refine sj 4 wa.nd ?_ ?_;exact(fd (Ug T)<|ax hkd (av 3) aI);refine zP ?_ ?_;exact(xh (tc hkd hr (av 2)<|av 4) (by
  refine sj 5 wa.nd ?_ ?_;exact(ck G hr T.yk T.Z1.kp T.Xx<|bc (av 0)<|bc (ax hkd (av 3) aI)<|bc (av 2) zz);exact zG<|yc<|xO<|bd (ax hkd (av 5) aI)<|bd (ck (x_ T hkd 20) hr T.zu T.yO.kp T.xi<|bc (av 0)<|bc (ax hkd (av 5) aI)<|bc (ax hkd (av 3) aI) zz) yD) ye)
  refine sj 5 wa.nd ?_ ?_;exact(ck G hr T.yk T.Z1.kp T.Xx<|bc (av 0)<|bc (ax hkd (av 3) aI)<|bc (bn (av 2)<|av 4) zz);exact zG<|yc<|xO<|bd (ck (x_ T hkd 20) hr T.zu T.yO.kp T.xi<|bc (av 0)<|bc (ax hkd (av 3) aI)<|bc (ax hkd (av 5) aI) zz)<|bd (ax hkd (av 5) aI) yD)
def Yp(T:Txt K kd mg t)(hkd:xW P w K kd):Co "_law_cell_at" P w K mg base kd 1 t.Vb t.W7 ["_law_script","_law_k"] y9:=by
 refine UJ (N:=Vt) (k:=0) (c:=W0) T.TY X2 λ_ _ _ _ _ _ hr=>?_;have:=X2.nd;conv=>arg 3;whnf
 trivial
def xR(T:Txt K kd mg t)(hkd:xW P w K kd):Co "_law_mixed" P w K mg base kd 1 t.UM t.UA ["_law_cell","_law_k"] zo:=by
 refine UJ (N:=Us) (k:=0) (c:=UO) T.Nh Zj λ_ _ _ _ _ _ hr=>?_;have:=Zj.nd;conv=>arg 3;whnf
 exact(by
  refine zP ?_ ?_;exact(xh (tc hkd hr (bn (av 0) aI) aI) (zG<|yc<|bn (av 0)<|SA Ov aI<|bn aI<|av 1) ye);refine sj 2 Zj.nd ?_ ?_;trivial;refine sj 2 Zj.nd ?_ ?_;trivial;exact zG<|yc<|bn (bn (bn (av 2)<|av 2)<|bn aI<|av 1) aI)
def Kw(T:Txt K kd mg t)(hkd:xW P w K kd):Co "_law_number" P w K mg base kd 2 t.Qj t.QB ["_law_cell","_law_wide"] Y1:=by
 refine UJ (N:=V0) (k:=1) (c:=Qm) T.Ky Vo λ_ _ _ _ _ _ hr=>?_;have:=Vo.nd;have:=xR (base:=base) T hkd;conv=>arg 3;whnf
 trivial
def Rz(T:Txt K kd mg t)(hkd:xW P w K kd):Co "_law_part" P w K mg base kd 3 t.PK t.RT ["_law_kind","_law_cell","_law_wide"] xg:=by
 refine UJ (N:=Tx) (k:=2) (c:=Pi) T.MI UN λ_ _ _ _ _ _ hr=>?_;have:=UN.nd;have:=xR (base:=base) T hkd;have:=Kw (base:=base) T hkd;conv=>arg 3;whnf
 trivial
def Ur(T:Txt K kd mg t)(hkd:xW P w K kd):Co "_law_value" P w K mg base kd 4 t.UV t.UH ["_law_kind","_law_width","_law_cell"] xS:=by
 refine UJ (N:=Uq) (k:=3) (c:=UE) T.NX QK λ_ _ _ _ _ _ hr=>?_;have:=QK.nd;have:=Rz (base:=base) T hkd;have:=xR (base:=base) T hkd;conv=>arg 3;whnf
 trivial
def M8(T:Txt K kd mg t)(hkd:xW P w K kd):Co "_law_deed" P w K mg base kd 4 t.Tv t.Pr ["_law_kind","_law_width","_law_cell"] ZQ:=by
 refine UJ (N:=P8) (k:=3) (c:=Pu) T.Ep UR λ_ _ _ _ _ _ hr=>?_;have:=UR.nd;have:=Rz (base:=base) T hkd;have:=xR (base:=base) T hkd;conv=>arg 3;whnf
 trivial
def P0(T:Txt K kd mg t)(hkd:xW P w K kd):Co "_law_best" P w K mg base kd 1 t.Pc t.Te ["_law_kind","_law_parts"] ZU:=by
 refine UJ (N:=Tu) (k:=0) (c:=RW) T.ML Uz λ_ _ _ _ _ _ hr=>?_;have:=Uz.nd;conv=>arg 3;whnf
 trivial
def Pd(T:Txt K kd mg t)(hkd:xW P w K kd):Co "_law_come" P w K mg base kd 2 t.PC t.RN ["_law_kind","_law_width","_law_row"] wQ:=by
 refine UJ (N:=TB) (k:=1) (c:=P9) T.MM UK λ_ _ _ _ _ _ hr=>?_;have:=UK.nd;have:=P0 (base:=base) T hkd;conv=>arg 3;whnf
 trivial
def Ts(T:Txt K kd mg t)(hkd:xW P w K kd):Co "_law_made_one" P w K mg base kd 2 t.Xu t.X3 ["_law_kind","_law_deed_here","_law_value_here"] ZD:=by
 refine UJ (N:=X1) (k:=1) (c:=Wc) T.RI Xo λ_ _ _ _ _ _ hr=>?_;have:=Xo.nd;have:=P0 (base:=base) T hkd;conv=>arg 3;whnf
 trivial
def Ef(T:Txt K kd mg t)(hkd:xW P w K kd):Co "_law_made" P w K mg base kd 3 t.P2 t.Py ["_law_kind","_law_deed_here","_law_row"] xo:=by
 refine UJ (N:=Tb) (k:=2) (c:=Pl) T.Mu Uv λ_ _ _ _ _ _ hr=>?_;have:=Uv.nd;have:=Ts (base:=base) T hkd;conv=>arg 3;whnf
 trivial
def Wm(T:Txt K kd mg t)(hkd:xW P w K kd):Co "_law_is_value" P w K mg base kd 1 t.Wd t.XU ["_law_kind","_law_found","_law_due"] yL:=by
 refine UJ (N:=Xv) (k:=0) (c:=Wo) T.Pq Xh λ_ _ _ _ _ _ hr=>?_;have:=Xh.nd;conv=>arg 3;whnf
 trivial
theorem RG(T:Txt K kd mg t)(hkd:xW P w K kd):∀n:Nat,FnOk P w K mg base wH (2+n) t.VE t.VH ["_law_kind","_law_width","_law_found"] (Wv K kd<|yT n)
 |0=>VU
 |n+1=>by
  have G:=RG T hkd n;refine xT (N:=Tq) (k:=2+n) (c:=Tz<|yT n) T.YN Z4 λcdv A outer s H E hr=>?_;exact(by
  refine zP ?_ ?_;exact(xh (AW.at_<|E7 (PD<|Q3 (LF (hkd _ rfl rfl rfl) rfl rfl T.Zk Bt.isinstance rfl T.K0 Bt.tuple (av 2) (Bt.n _ rfl) (by decide) (Bt.n _ rfl) (by decide) rfl rfl rfl) λ_=>rfl)<|Q_<|AW.at_<|BE (tc hkd hr (bi (xV<|hkd _ rfl rfl rfl) T.Uy Bt.len<|bc (av 2) zz) aI)<|TL<|tc hkd hr (bi (xV<|hkd _ rfl rfl rfl) T.Uy Bt.len<|bc (av 2) zz) aI) (zG<|yc aZ) ye);refine zP ?_ ?_;exact(xh (tc hkd hr (bi (xV<|hkd _ rfl rfl rfl) T.Uy Bt.len<|bc (av 2) zz) aI) (zG<|yc<|xO<|bd aI<|bd (Ue<|bd (ax hkd (av 2) aI) yD) yD) ye);refine sj 3 Z4.nd ?_ ?_;exact(ck G hr T.yT T.YN.kp T.VC<|bc (av 0)<|bc (av 1)<|bc (ax hkd (av 2) aI) zz);refine sj 4 Z4.nd ?_ ?_;exact(ck G hr T.yT T.YN.kp T.VC<|bc (av 0)<|bc (av 1)<|bc (ax hkd (av 2) aI) zz);refine zP ?_ ?_;exact(xh (AW.at_<|E7 (tc hkd hr (av 3) aZ)<|E7 (tc hkd hr (av 4) aZ)<|Q_<|tc hkd hr (bi FE T.De Bt.abs<|bc (bn (ax hkd (av 3) aI)<|ax hkd (av 4) aI) zz) aI) (zG<|yc aZ) ye);refine sj 5 Z4.nd ?_ ?_;exact(bn (ax hkd (av 3) aI)<|ax hkd (av 4) aI);refine zP ?_ ?_;exact(xh (PD<|Q3 (cq (Wm T hkd) hr<|bc (av 0)<|bc (ax hkd (av 2) aI)<|bc (cq (Pd T hkd) hr<|bc (av 0)<|bc (av 1)<|bc (av 5) zz) zz) λ_=>rfl) (zG<|yc aZ) ye);exact zG<|yc<|xO<|bd (bn aI<|bi (QP rfl) T.Hm Bt.max<|bc (ax hkd (av 3) aI)<|bc (ax hkd (av 4) aI) zz)<|bd (av 5) yD)
def Gk(T:Txt K kd mg t)(hkd:xW P w K kd):Co "_law_is_tree" P w K mg base kd 27 t.VA t.W9 ["_law_way","_law_kind","_law_width","_law_tree","_law_row"] vC:=by
 refine UJ (N:=Ve) (k:=26) (c:=W5) T.Gj XJ λ_ _ _ _ _ _ hr=>?_;have:=XJ.nd;have:=BY (base:=base) T hkd;have:=Co.mk (G_ (base:=base) T hkd 20) T.y6 T.Wz.kp T.QQ;have:=Co.mk (RG (base:=base) T hkd 20) T.yT T.YN.kp T.VC;conv=>arg 3;whnf
 trivial
def vM(T:Txt K kd mg t)(hkd:xW P w K kd):FnOk P w K mg base wH 1 t.yZ t.vS ["self","deed"] (Wv K kd yX):=by
 refine xT (N:=Xn) (k:=0) (c:=Xf) T.U8 Yz λ_ _ _ _ _ _ hr=>?_;have:=Yz.nd;conv=>arg 3;whnf
 trivial
def Bp(T:Txt K kd mg t)(hkd:xW P w K kd):MT P w K mg base kd "wait_of" 1 xk:=(yo T.xQ T.Pa (vM T hkd) (by decide) T.vR<|yo T.yJ T.U3 (vM T hkd) (by decide) T.vR<|yo T.yq T.QO (vM T hkd) (by decide) T.vR YB)
def FO(T:Txt K kd mg t)(hkd:xW P w K kd):Co "_law_new" P w K mg base kd 49 t.GR t.G2 ["_law_way","_law_kind","_law_width","_law_kept","_law_cell"] Zw:=by
 refine UJ (N:=GT) (k:=48) (c:=G9) T.WS RS λ_ _ _ _ _ _ hr=>?_;have:=RS.nd;have:=xR (base:=base) T hkd;have:=M8 (base:=base) T hkd;have:=Co.mk (x_ (base:=base) T hkd 20) T.zu T.yO.kp T.xi;have:=Co.mk (UX (base:=base) T hkd 20) T.yk T.Z1.kp T.Xx;have:=RM (base:=base) T hkd;have:=Bp (base:=base) T hkd;have:=Ef (base:=base) T hkd;have:=Np (base:=base) T hkd;have:=VX (base:=base) T hkd;have:=Ur (base:=base) T hkd;have:=Co.mk (WB (base:=base) T hkd 20) T.ya T.Zx.kp T.Yr;conv=>arg 3;whnf
 trivial
def wO(T:Txt K kd mg t)(hkd:xW P w K kd)(c:Str):FnOk P w K mg base wH 1 t.yM t.wM ["self","width"] (Ah K kd c<|zW c):=by
 refine SW (N:=Yy) (k:=0) (b:=Yv) T.QT VT (by decide) λcdv A outer s H E hr=>?_;exact(E3<|Zp (Fp T) (pv 0) (av 1) rfl)
def Df(T:Txt K kd mg t)(hkd:xW P w K kd):Co "law" P w K mg base kd 50 t.CT t.CA ["_law_script"] GW:=by
 refine UJ (N:=Sf) (k:=49) (c:=C6) T.DV xY λcdv A outer s H E hr=>?_;exact(by
  refine sj 1 xY.nd ?_ ?_;exact(ax hkd (Ue<|bd aS<|bd aS<|bd aS yD)<|bn (cq (Yp T hkd) hr<|bc (av 0)<|bc aI zz) aI);refine sj 2 xY.nd ?_ ?_;exact(bn aI<|bn (bn (cq (Yp T hkd) hr<|bc (av 0)<|bc aI zz) aI) aI);refine sj 3 xY.nd ?_ ?_;exact(mq T.yq.eq (T.yq.mk' T.Z2) (wO T hkd "Leasts") hr T.yq.mg T.wJ<|bc (av 2) zz);refine zP ?_ ?_;exact(xh (tc hkd hr (av 1) aS) (zG<|by refine sv true 3 xY.nd ?_;exact(mq T.xQ.eq (T.xQ.mk' T.Xj) (wO T hkd "Sums") hr T.xQ.mg T.wJ<|bc (av 2) zz))<|zG<|xh (tc hkd hr (av 1) aS) (zG<|by refine sv true 3 xY.nd ?_;exact(mq T.yJ.eq (T.yJ.mk' T.Yw) (wO T hkd "Mosts") hr T.yJ.mg T.wJ<|bc (av 2) zz)) ye);refine sj 4 xY.nd ?_ ?_;exact(cq (Yp T hkd) hr<|bc (av 0)<|bc aI zz);refine zP ?_ ?_;exact(EG (z:=true) (i:=5) (N:=["_law_k","_law_kind","_law_width","_law_cell"]) (cap:=[none,some 1,some 2,some 4]) (S:=[0]) xY.nd rfl (by exact Or.inl rfl) (by exact Or.inr rfl) rfl rfl (GE rfl T.KR (bc (bn (av 4) aI) zz) rfl) rfl (by change V4 _ Sf _ (zh N7).names _=true;decide +kernel) (by decide) (λcl s H fp=>(an 0 B1)) (λcl s H fp=>EJ) (λcl s H fp=>(cq (Ur T hkd) hr<|bc (av 1)<|bc (av 2)<|bc (cq (xR T hkd) hr<|bc (av 3)<|bc (bn aI<|av 0) zz) zz)) λ_=>rfl);refine sj 6 xY.nd ?_ ?_;exact(Ue<|bd (xO<|bd (Fe<|ck (WB T hkd 20) hr T.ya T.Zx.kp T.Yr<|bc (av 3)<|bc (Ue yD) zz)<|bd (Fe<|Ue yD) yD)<|bd (xO<|bd (Fe<|ck (WB T hkd 20) hr T.ya T.Zx.kp T.Yr<|bc (av 3)<|bc (av 5) zz)<|bd (av 5) yD) yD);refine zP ?_ ?_;exact(Kv PassesOwn.never rfl (RC<|Qi (av 0) (Wx aI)<|Wx aI) (an 4 xY.nd) (zG<|Kv PassesOwn.never rfl (RC<|O2 T.nt 6 (FO T hkd).F hr T.WS.m T.WS.F.kp T.WS.b<|bc (av 3)<|bc (av 1)<|bc (av 2)<|bc (av 6)<|bc (av 4) zz) (Kr rfl (Yu (an 7 xY.nd) (Yu (an 8 xY.nd) Rn rfl) rfl) rfl rfl) (by
  refine zP ?_ ?_;exact(xh (tc hkd hr (cq (FD T hkd) hr<|bc (av 7) zz)<|bi (xV<|hkd _ rfl rfl rfl) T.Uy Bt.len<|bc (av 8) zz) (zG<|yc aB) ye);refine zP ?_ ?_;exact(xh (PD<|Q3 (cq (Wm T hkd) hr<|bc (av 1)<|bc (cq (M4 T hkd) hr<|bc (av 3)<|bc (av 7) zz)<|bc (cq (Pd T hkd) hr<|bc (av 1)<|bc (av 2)<|bc (av 8) zz) zz) λ_=>rfl) (zG<|yc aB) ye);exact zG<|Ez (Er Uj El PySem.F.slot_list_append PySem.F.type_list_append (pv 6) (bd (xO<|bd (av 7)<|bd (av 8) yD) yD) rfl rfl rfl rfl rfl) rfl) λ_=>rfl) λ_=>rfl)
  refine zP ?_ ?_;exact(Kv PassesOwn.never rfl (RC<|av 6) (Kr rfl (Yu (an 7 xY.nd) (Yu (an 8 xY.nd) Rn rfl) rfl) rfl rfl) (zG<|xh (PD<|Q3 (cq (Gk T hkd) hr<|bc (av 3)<|bc (av 1)<|bc (av 2)<|bc (av 7)<|bc (av 8) zz) λ_=>rfl) (zG<|yc aB) ye) λ_=>rfl);exact zG<|yc aB)
end
abbrev IM(K:zzA)(x:Str)(f:Addr):Prop:=W.nsIn K mainGlobals x=some (some<|.ref f)
abbrev FnAt(K:zzA)(x q:Str)(s:Stmt)(f:Addr):Prop:=∃d,Fun K x q s f d
abbrev Fk(K:zzA)(x:Str)(s:Stmt)(f:Addr):Prop:=IM K x f/\FnAt K x x s f
def Ic{l:PySem.W.OpenLaw}{w:World}{K:zzA}{h:Heap}{mg:Str->Option Value}{fa:Addr}(X:K.In h)(G:h.Ns mainGlobals mg)(hfa:mg "law"=some (.ref fa))
 {f0 f1 f2 f3 f4 f5 f6 f7 f8 f9 f10 f11 f12 f13 f14 f15 f16 f17 f18 f19 f20 f21 f22 f23 f24 f25 f26 f27 f28 f29 f30 f31 f32 f33 f34 f35 f36 f37 f38 f39 f40 f41 f42 f43 f44 f45 f46 f47 C0 C1 C2 C3:Addr}
 (aC0:W.nsIn K mainGlobals "Knot"=some (some<|.ref C0))
 (aC1:W.nsIn K mainGlobals "Sums"=some (some<|.ref C1))
 (aC2:W.nsIn K mainGlobals "Mosts"=some (some<|.ref C2))
 (aC3:W.nsIn K mainGlobals "Leasts"=some (some<|.ref C3))
 (e0:W.findIn K (.ref C0) "__init__"=some (some<|.ref f0)) (ei0:W.isFn K (.ref f0)=true) (ek0:W.keepIn K (.ref f0)=true)
 (e1:W.findIn K (.ref C1) "__init__"=some (some<|.ref f46)) (ei1:W.isFn K (.ref f46)=true) (ek1:W.keepIn K (.ref f46)=true)
 (e2:W.findIn K (.ref C2) "__init__"=some (some<|.ref f46)) (ei2:W.isFn K (.ref f46)=true) (ek2:W.keepIn K (.ref f46)=true)
 (e3:W.findIn K (.ref C3) "__init__"=some (some<|.ref f46)) (ei3:W.isFn K (.ref f46)=true) (ek3:W.keepIn K (.ref f46)=true)
 (e4:W.findIn K (.ref C2) "best"=some (some<|.ref f3)) (ei4:W.isFn K (.ref f3)=true) (ek4:W.keepIn K (.ref f3)=true)
 (e5:W.findIn K (.ref C3) "best"=some (some<|.ref f4)) (ei5:W.isFn K (.ref f4)=true) (ek5:W.keepIn K (.ref f4)=true)
 (e6:W.findIn K (.ref C1) "join"=some (some<|.ref f2)) (ei6:W.isFn K (.ref f2)=true) (ek6:W.keepIn K (.ref f2)=true)
 (e7:W.findIn K (.ref C2) "join"=some (some<|.ref f5)) (ei7:W.isFn K (.ref f5)=true) (ek7:W.keepIn K (.ref f5)=true)
 (e8:W.findIn K (.ref C3) "join"=some (some<|.ref f5)) (ei8:W.isFn K (.ref f5)=true) (ek8:W.keepIn K (.ref f5)=true)
 (e9:W.findIn K (.ref C1) "zero"=some (some<|.ref f9)) (ei9:W.isFn K (.ref f9)=true) (ek9:W.keepIn K (.ref f9)=true)
 (e10:W.findIn K (.ref C2) "zero"=some (some<|.ref f10)) (ei10:W.isFn K (.ref f10)=true) (ek10:W.keepIn K (.ref f10)=true)
 (e11:W.findIn K (.ref C3) "zero"=some (some<|.ref f10)) (ei11:W.isFn K (.ref f10)=true) (ek11:W.keepIn K (.ref f10)=true)
 (e12:W.findIn K (.ref C1) "nothing"=some (some<|.ref f11)) (ei12:W.isFn K (.ref f11)=true) (ek12:W.keepIn K (.ref f11)=true)
 (e13:W.findIn K (.ref C2) "nothing"=some (some<|.ref f11)) (ei13:W.isFn K (.ref f11)=true) (ek13:W.keepIn K (.ref f11)=true)
 (e14:W.findIn K (.ref C3) "nothing"=some (some<|.ref f11)) (ei14:W.isFn K (.ref f11)=true) (ek14:W.keepIn K (.ref f11)=true)
 (e15:W.findIn K (.ref C1) "across"=some (some<|.ref f13)) (ei15:W.isFn K (.ref f13)=true) (ek15:W.keepIn K (.ref f13)=true)
 (e16:W.findIn K (.ref C2) "across"=some (some<|.ref f14)) (ei16:W.isFn K (.ref f14)=true) (ek16:W.keepIn K (.ref f14)=true)
 (e17:W.findIn K (.ref C3) "across"=some (some<|.ref f14)) (ei17:W.isFn K (.ref f14)=true) (ek17:W.keepIn K (.ref f14)=true)
 (e18:W.findIn K (.ref C1) "behind"=some (some<|.ref f15)) (ei18:W.isFn K (.ref f15)=true) (ek18:W.keepIn K (.ref f15)=true)
 (e19:W.findIn K (.ref C2) "behind"=some (some<|.ref f15)) (ei19:W.isFn K (.ref f15)=true) (ek19:W.keepIn K (.ref f15)=true)
 (e20:W.findIn K (.ref C3) "behind"=some (some<|.ref f15)) (ei20:W.isFn K (.ref f15)=true) (ek20:W.keepIn K (.ref f15)=true)
 (e21:W.findIn K (.ref C1) "often"=some (some<|.ref f17)) (ei21:W.isFn K (.ref f17)=true) (ek21:W.keepIn K (.ref f17)=true)
 (e22:W.findIn K (.ref C2) "often"=some (some<|.ref f18)) (ei22:W.isFn K (.ref f18)=true) (ek22:W.keepIn K (.ref f18)=true)
 (e23:W.findIn K (.ref C3) "often"=some (some<|.ref f18)) (ei23:W.isFn K (.ref f18)=true) (ek23:W.keepIn K (.ref f18)=true)
 (e24:W.findIn K (.ref C1) "made"=some (some<|.ref f19)) (ei24:W.isFn K (.ref f19)=true) (ek24:W.keepIn K (.ref f19)=true)
 (e25:W.findIn K (.ref C2) "made"=some (some<|.ref f19)) (ei25:W.isFn K (.ref f19)=true) (ek25:W.keepIn K (.ref f19)=true)
 (e26:W.findIn K (.ref C3) "made"=some (some<|.ref f19)) (ei26:W.isFn K (.ref f19)=true) (ek26:W.keepIn K (.ref f19)=true)
 (e27:W.findIn K (.ref C1) "wait_of"=some (some<|.ref f44)) (ei27:W.isFn K (.ref f44)=true) (ek27:W.keepIn K (.ref f44)=true)
 (e28:W.findIn K (.ref C2) "wait_of"=some (some<|.ref f44)) (ei28:W.isFn K (.ref f44)=true) (ek28:W.keepIn K (.ref f44)=true)
 (e29:W.findIn K (.ref C3) "wait_of"=some (some<|.ref f44)) (ei29:W.isFn K (.ref f44)=true) (ek29:W.keepIn K (.ref f44)=true)
 (pg0:W.plainGet K C0 Str.empty=true) (hd0:W.hasDictIn K C0=true) (po0:W.plainOver K C0=true) (sa0:W.findIn K (.ref C0) "__setattr__"=some (some<|.builtin "object.__setattr__")) (mk0:W.makesIn K C0=true) (kc0:W.keepIn K (.ref C0)=true)
 (pg1:W.plainGet K C1 Str.empty=true) (hd1:W.hasDictIn K C1=true) (po1:W.plainOver K C1=true) (sa1:W.findIn K (.ref C1) "__setattr__"=some (some<|.builtin "object.__setattr__")) (mk1:W.makesIn K C1=true) (kc1:W.keepIn K (.ref C1)=true)
 (pg2:W.plainGet K C2 Str.empty=true) (hd2:W.hasDictIn K C2=true) (po2:W.plainOver K C2=true) (sa2:W.findIn K (.ref C2) "__setattr__"=some (some<|.builtin "object.__setattr__")) (mk2:W.makesIn K C2=true) (kc2:W.keepIn K (.ref C2)=true)
 (pg3:W.plainGet K C3 Str.empty=true) (hd3:W.hasDictIn K C3=true) (po3:W.plainOver K C3=true) (sa3:W.findIn K (.ref C3) "__setattr__"=some (some<|.builtin "object.__setattr__")) (mk3:W.makesIn K C3=true) (kc3:W.keepIn K (.ref C3)=true)
 (na0:W.findIn K (.ref C0) "whole"=some none)
 (na1:W.findIn K (.ref C0) "back"=some none)
 (na2:W.findIn K (.ref C0) "wait"=some none)
 (na3:W.findIn K (.ref C0) "turn"=some none)
 (na4:W.findIn K (.ref C0) "one"=some none)
 (na5:W.findIn K (.ref C0) "other"=some none)
 (na6:W.findIn K (.ref C0) "deep"=some none)
 (na7:W.findIn K (.ref C0) "size"=some none)
 (na8:W.findIn K (.ref C1) "width"=some none)
 (na9:W.findIn K (.ref C2) "width"=some none)
 (na10:W.findIn K (.ref C3) "width"=some none)
 (l0:FnAt K "__init__" "Knot.__init__" xI f0)
 (a1:Fk K "leaf_of" Ww f1)
 (l2:FnAt K "join" "Sums.join" ZY f2)
 (l3:FnAt K "best" "Mosts.best" Zm f3)
 (l4:FnAt K "best" "Leasts.best" wW f4)
 (l5:FnAt K "join" "Picks.join" Zr f5)
 (a6:Fk K "knot_of" WJ f6)
 (a7:IM K "tree_of" f7) (l7:FnAt K "tree_of" "tree_of" Wy f7)
 (a8:Fk K "size_of" WN f8)
 (l9:FnAt K "zero" "Sums.zero" Z8 f9)
 (l10:FnAt K "zero" "Picks.zero" Zh f10)
 (l11:FnAt K "nothing" "Wides.nothing" xN f11)
 (a12:Fk K "whole_of" YG f12)
 (l13:FnAt K "across" "Sums.across" vE f13)
 (l14:FnAt K "across" "Picks.across" wj f14)
 (l15:FnAt K "behind" "Wides.behind" wu f15)
 (a16:Fk K "both_waits" Zo f16)
 (l17:FnAt K "often" "Sums.often" Zd f17)
 (l18:FnAt K "often" "Picks.often" w_ f18)
 (l19:FnAt K "made" "Wides.made" Zn f19)
 (a20:Fk K "done_all" YW f20)
 (a21:Fk K "turned_all" Zi f21)
 (a22:Fk K "parts_of" YK f22)
 (a23:IM K "gather" f23) (l23:FnAt K "gather" "gather" Qw f23)
 (a24:Fk K "row_of" V1 f24)
 (a25:IM K "walk_of" f25) (l25:FnAt K "walk_of" "walk_of" WV f25)
 (a26:Fk K "leaned_left" wX f26)
 (a27:Fk K "leaned_right" wc f27)
 (a28:Fk K "evened" VW f28)
 (a29:IM K "put_together" f29) (l29:FnAt K "put_together" "put_together" wx f29)
 (a30:IM K "parted_at" f30) (l30:FnAt K "parted_at" "parted_at" ZZ f30)
 (a31:Fk K "_law_cell_at" vB f31)
 (a32:Fk K "_law_mixed" Z6 f32)
 (a33:Fk K "_law_number" Zg f33)
 (a34:Fk K "_law_part" Y2 f34)
 (a35:Fk K "_law_value" Z0 f35)
 (a36:Fk K "_law_deed" Xc f36)
 (a37:Fk K "_law_best" YE f37)
 (a38:Fk K "_law_come" Y9 f38)
 (a39:Fk K "_law_made_one" xZ f39)
 (a40:Fk K "_law_made" YV f40)
 (a41:Fk K "_law_is_value" wF f41)
 (a42:IM K "_law_gone" f42) (l42:FnAt K "_law_gone" "_law_gone" YC f42)
 (a43:Fk K "_law_is_tree" wY f43)
 (l44:FnAt K "wait_of" "Wides.wait_of" xJ f44)
 (a45:Fk K "_law_new" WG f45)
 (l46:FnAt K "__init__" "Wides.__init__" xv f46)
 (a47:Fk K "law" N7 f47)
 (z0:W.nsIn K mainGlobals "abs"=some none) (z1:W.nsIn K mainGlobals "bool"=some none) (z2:W.nsIn K mainGlobals "isinstance"=some none) (z3:W.nsIn K mainGlobals "len"=some none) (z4:W.nsIn K mainGlobals "list"=some none) (z5:W.nsIn K mainGlobals "max"=some none) (z6:W.nsIn K mainGlobals "min"=some none) (z7:W.nsIn K mainGlobals "range"=some none) (z8:W.nsIn K mainGlobals "sum"=some none) (z9:W.nsIn K mainGlobals "tuple"=some none) (z10:W.nsIn K mainGlobals "zip"=some none) (nt:U0 K=true):
 ∃fd:FuncData,(∀(s:Shared) (v:Value),BindsTo s fd ⟨[v],[]⟩ [("_law_script",v)])/\∀base:Heap,K.In base->base.Ns mainGlobals mg->FnOk l.prog w K mg base wH 50 fa fd ["_law_script"] (u7 K GW):=by
 have e:=hfa.symm.trans<|W.mg_of X G a47.1;cases e;obtain⟨_,F0⟩:=l0;have b0:=F0.binds (ps:=["self","whole","back","wait","turn","one","other"]) λ_ _ _ _ _ _ us hl=>match us,hl with | [_,_,_,_,_,_,_],_=>rfl
 obtain⟨a1,_,F1⟩:=a1;obtain⟨_,F2⟩:=l2;obtain⟨_,F3⟩:=l3;obtain⟨_,F4⟩:=l4;obtain⟨_,F5⟩:=l5;obtain⟨a6,_,F6⟩:=a6;obtain⟨_,F7⟩:=l7;obtain⟨a8,_,F8⟩:=a8;obtain⟨_,F9⟩:=l9;obtain⟨_,F10⟩:=l10;obtain⟨_,F11⟩:=l11;obtain⟨a12,_,F12⟩:=a12;obtain⟨_,F13⟩:=l13;obtain⟨_,F14⟩:=l14;obtain⟨_,F15⟩:=l15;obtain⟨a16,_,F16⟩:=a16;obtain⟨_,F17⟩:=l17;obtain⟨_,F18⟩:=l18;obtain⟨_,F19⟩:=l19;obtain⟨a20,_,F20⟩:=a20;obtain⟨a21,_,F21⟩:=a21;obtain⟨a22,_,F22⟩:=a22;obtain⟨_,F23⟩:=l23;obtain⟨a24,_,F24⟩:=a24;obtain⟨_,F25⟩:=l25;obtain⟨a26,_,F26⟩:=a26;obtain⟨a27,_,F27⟩:=a27;obtain⟨a28,_,F28⟩:=a28;obtain⟨_,F29⟩:=l29;obtain⟨_,F30⟩:=l30;obtain⟨a31,_,F31⟩:=a31;obtain⟨a32,_,F32⟩:=a32;obtain⟨a33,_,F33⟩:=a33;obtain⟨a34,_,F34⟩:=a34;obtain⟨a35,_,F35⟩:=a35;obtain⟨a36,_,F36⟩:=a36;obtain⟨a37,_,F37⟩:=a37;obtain⟨a38,_,F38⟩:=a38;obtain⟨a39,_,F39⟩:=a39;obtain⟨a40,_,F40⟩:=a40;obtain⟨a41,_,F41⟩:=a41;obtain⟨_,F42⟩:=l42;obtain⟨a43,_,F43⟩:=a43;obtain⟨_,F44⟩:=l44;obtain⟨a45,_,F45⟩:=a45;obtain⟨_,F46⟩:=l46;obtain⟨a47,_,F47⟩:=a47;obtain⟨_,_,_,_,_,_,_,_,_,rfl,_,_⟩:=F47.ex;let KL:List (Addr×List (Key×V)):=[];have hkd:xW l.prog w K (uQ KL<|Cb mg):=Ia λp m=>by
  exact absurd (show p ∈ ([]:List (Addr×List (Key×V)))from m) List.not_mem_nil
 have T:Txt K (uQ KL<|Cb mg) mg ⟨_,_,_,_,_,_,_,_,_,_,_,_,_,_,_,_,_,_,_,_,_,_,_,_,_,_,_,_,_,_,_,_,_,_,_,_,_,_,_,_,_,_,_,_,_,_,_,_,_,_,_,_,_,_,_,_,_,_,_,_,_,_,_,_,_,_,_,_,_,_,_,_,_,_,_,_,_,_,_,_,_,_,_,_,_,_,_,_,_,_,_,_,_,_,_,_,_,_,_,_⟩:=⟨F0,b0,⟨F1,bs F1,W.mg_of X G a1⟩,F2,bs F2,F3,bs F3,F4,bs F4,F5,bs F5,⟨F6,bs F6,W.mg_of X G a6⟩,F7,bs F7,W.mg_of X G a7,⟨F8,bs F8,W.mg_of X G a8⟩,F9,bs F9,F10,bs F10,F11,bs F11,⟨F12,bs F12,W.mg_of X G a12⟩,F13,bs F13,F14,bs F14,F15,bs F15,⟨F16,bs F16,W.mg_of X G a16⟩,F17,bs F17,F18,bs F18,F19,bs F19,⟨F20,bs F20,W.mg_of X G a20⟩,⟨F21,bs F21,W.mg_of X G a21⟩,⟨F22,bs F22,W.mg_of X G a22⟩,F23,bs F23,W.mg_of X G a23,⟨F24,bs F24,W.mg_of X G a24⟩,F25,bs F25,W.mg_of X G a25,⟨F26,bs F26,W.mg_of X G a26⟩,⟨F27,bs F27,W.mg_of X G a27⟩,⟨F28,bs F28,W.mg_of X G a28⟩,F29,bs F29,W.mg_of X G a29,F30,bs F30,W.mg_of X G a30,⟨F31,bs F31,W.mg_of X G a31⟩,⟨F32,bs F32,W.mg_of X G a32⟩,⟨F33,bs F33,W.mg_of X G a33⟩,⟨F34,bs F34,W.mg_of X G a34⟩,⟨F35,bs F35,W.mg_of X G a35⟩,⟨F36,bs F36,W.mg_of X G a36⟩,⟨F37,bs F37,W.mg_of X G a37⟩,⟨F38,bs F38,W.mg_of X G a38⟩,⟨F39,bs F39,W.mg_of X G a39⟩,⟨F40,bs F40,W.mg_of X G a40⟩,⟨F41,bs F41,W.mg_of X G a41⟩,F42,bs F42,W.mg_of X G a42,⟨F43,bs F43,W.mg_of X G a43⟩,F44,bs F44,⟨F45,bs F45,W.mg_of X G a45⟩,F46,bs F46,⟨F47,bs F47,W.mg_of X G a47⟩,⟨Rh<|W.mg_of X G aC0,⟨pg0,hd0,po0,sa0⟩,mk0,kc0,W.mg_of X G aC0⟩,⟨Rh<|W.mg_of X G aC1,⟨pg1,hd1,po1,sa1⟩,mk1,kc1,W.mg_of X G aC1⟩,⟨Rh<|W.mg_of X G aC2,⟨pg2,hd2,po2,sa2⟩,mk2,kc2,W.mg_of X G aC2⟩,⟨Rh<|W.mg_of X G aC3,⟨pg3,hd3,po3,sa3⟩,mk3,kc3,W.mg_of X G aC3⟩,⟨e0,ei0,ek0⟩,⟨e1,ei1,ek1⟩,⟨e2,ei2,ek2⟩,⟨e3,ei3,ek3⟩,⟨e4,ei4,ek4⟩,⟨e5,ei5,ek5⟩,⟨e6,ei6,ek6⟩,⟨e7,ei7,ek7⟩,⟨e8,ei8,ek8⟩,⟨e9,ei9,ek9⟩,⟨e10,ei10,ek10⟩,⟨e11,ei11,ek11⟩,⟨e12,ei12,ek12⟩,⟨e13,ei13,ek13⟩,⟨e14,ei14,ek14⟩,⟨e15,ei15,ek15⟩,⟨e16,ei16,ek16⟩,⟨e17,ei17,ek17⟩,⟨e18,ei18,ek18⟩,⟨e19,ei19,ek19⟩,⟨e20,ei20,ek20⟩,⟨e21,ei21,ek21⟩,⟨e22,ei22,ek22⟩,⟨e23,ei23,ek23⟩,⟨e24,ei24,ek24⟩,⟨e25,ei25,ek25⟩,⟨e26,ei26,ek26⟩,⟨e27,ei27,ek27⟩,⟨e28,ei28,ek28⟩,⟨e29,ei29,ek29⟩,na0,na1,na2,na3,na4,na5,na6,na7,na8,na9,na10,W.mg_none_of X G z0,W.mg_none_of X G z1,W.mg_none_of X G z2,W.mg_none_of X G z3,W.mg_none_of X G z4,W.mg_none_of X G z5,W.mg_none_of X G z6,W.mg_none_of X G z7,W.mg_none_of X G z8,W.mg_none_of X G z9,W.mg_none_of X G z10,nt⟩;exact⟨_,λs v=>.of_eq rfl,λbase _ _=>(Df T hkd).F.imp λvs H Q E h=>h _⟩
def walk{l:PySem.W.OpenLaw}{q:Program}{loose:List Str}{XP:(Str->Option Value)->Heap->Prop}{YP:World->Heap->Prop}{d:DefRec}{K:Params->zzA}(hn:l.most=some 63)(hdf:d.params.defaults=[])
 (hY:∀(w:World) (h:Heap),YP w h->(K w.params).In h) (hm:∀ns:List Int,ns.length<=63->(∀i ∈ ns,i.natAbs<bg)->GW [(true,.lst<|ns.map D.int)]=some (.lf true<|.bl true))
 (F:∀(w:World) (mg:Str->Option Value) (fa:Addr) (h:Heap),(K w.params).In h->h.Ns mainGlobals mg->mg d.name=some (.ref fa)->
  ∃fd:FuncData,(∀(s:Shared) (u:Value),BindsTo s fd ⟨[u],[]⟩ [("_law_script",u)])/\∀base:Heap,(K w.params).In base->base.Ns mainGlobals mg->FnOk l.prog w (K w.params) mg base wH 50 fa fd ["_law_script"] (u7 (K w.params) GW)):
 PySem.W.WalkO q loose XP YP l.row.toRowW d [] (λf vs=>PySem.call f vs):=
 L2.walk_of (n:=63) (k:=50) (x:="_law_script") (CX:=λ_=>wH) (sp:=λw=>u7 (K w.params) GW) hn (by decide) hdf ⟨rfl,by decide,by decide,rfl⟩ hY F (λ_ _ a ns hl hb _ hS kd=>JR (hm ns hl hb) hS) λ_ _ _ _ _ z=>z
def MJ(u v:List Pt):(((u.map pD).zip<|v.map pD).map λq=>(true,D.tup [q.1,q.2]))=(u.zip v).map λq=>(true,D.tup [pD q.1,pD q.2]):=by
 induction u generalizing v with
 |nil=>rfl
 |cons a u ih=>
  cases v with
  |nil=>rfl
  |cons b v=>exact congrArg (_ :: ·) (ih v)
def zw{α β γ:Type}(f:α->β->γ)(u:List α)(v:List β):(u.zip v).map (λq=>f q.1 q.2)=List.zipWith f u v:=by
 induction u generalizing v with
 |nil=>rfl
 |cons a u ih=>
  cases v with
  |nil=>rfl
  |cons b v=>exact congrArg (_ :: ·) (ih v)
def t8(f:Pt->Pt->Pt)(u v:List Pt):(u.zip v).map (λq=>pD<|f q.1 q.2)=(List.zipWith f u v).map pD:=by
 rw[<-zw f u v,zyA];rfl
def wE{f:EF}{as:AS}{x:D}(h:WD f as true x):WE f as x:=WD.e h
def nW{m:Str}(h:m≠"width"):m ∉ (["width"]:List Str):=λe=>h<|zzR.mp e
def Bg(p:Pt):Prop:=(p.getD 0).natAbs<bg
section
variable{k w:Nat}{u v:List Pt}{x y:D}
def Ap(hx:SqD x (u.map pD))(hy:SqD y (v.map pD))(hu:∀p ∈ u,p≠none)(hv:∀p ∈ v,p≠none)(hl:u.length<=1000):RE (Wf [(true,QL k w),(true,x),(true,y)]) (vD<|List.zipWith (jn 0) u v):=by
 refine zA rfl<|zq<|xb (xq (as:=[sT<|QL k w,sT x,sT y]) (h:=λq:Pt×Pt=>pD<|jn 0 q.1 q.2) (u.zip v) (by rw[Pz (wE<|za rfl) (wE<|za rfl) hx hy,MJ]) (by rw[List.length_zip];omega) λq hq=>⟨[sT<|pD q.1,sT<|pD q.2],TJ (zl rfl)<|zl rfl, ?_⟩) ?_
 . obtain⟨a,b⟩:=q;have ha:=hu a (List.of_mem_zip hq).1;have hb:=hv b (List.of_mem_zip hq).2;cases a with
   |none=>exact absurd rfl ha
   |some a=>
    cases b with
    |none=>exact absurd rfl hb
    |some b=>exact wE (y_ (za rfl)<|za rfl)
 . rw[t8];rfl
def EL(h0:k≠0){l:List Int}(hl:l.length<=1000):RE ((if k=1 then YZ else Yg) [(true,QL k w),(true,.lst<|l.map D.int)]) (pD<|Vg k l):=by
 have t:∀as:AS,as[1]? = some (sT<|.lst<|l.map D.int)->WT (fT zg) as (!(l.map D.int).isEmpty):=λas h=>zy (za h) rfl
 by_cases h1:k=1
 . subst h1;rw[if_pos rfl];cases l with
   |nil=>exact zA rfl (zq<|X7 (t _ rfl)<|wE zc)
   |cons z r=>exact zA rfl (zq<|XM (t _ rfl)<|xb (wE<|za rfl)<|EZ<|List.cons_ne_nil z r)
 . rw[if_neg h1];cases l with
   |nil=>exact zA rfl (zq<|X7 (t _ rfl)<|wE zc)
   |cons z r=>exact zA rfl (zq<|XM (t _ rfl)<|xb (wE<|za rfl)<|EY h1<|List.cons_ne_nil z r)
def B2(l:List Pt):(l.filter Option.isSome).map pD=(l.filterMap id).map D.int:=by
 induction l with
 |nil=>rfl
 |cons a l ih=>
  cases a with
  |none=>exact ih
  |some a=>exact congrArg (_ :: ·) ih
def DE(h0:k≠0)(hk:k<=2)(hx:SqD x (u.map pD))(hy:SqD y (v.map pD))(hl:u.length<=1000):RE (Ze [(true,QL k w),(true,x),(true,y)]) (vD<|List.zipWith (jn k) u v):=by
 refine zA rfl<|zq<|xb (xq (as:=[sT<|QL k w,sT x,sT y]) (h:=λq:Pt×Pt=>pD<|jn k q.1 q.2) (u.zip v) (by rw[Pz (wE<|za rfl) (wE<|za rfl) hx hy,MJ]) (by rw[List.length_zip];omega) λq hq=>⟨[sT<|.tup [pD q.1,pD q.2],sT<|QL k w],rfl, ?_⟩) ?_
 . have inner:WE (zQ (xx zi) [none] yI (fT<|f2 zi (fC .non)<|zp .IsNot) zi) [sT<|.tup [pD q.1,pD q.2],sT<|QL k w] (.lst<|(([q.1,q.2]:List Pt).filterMap id).map D.int):=by
    rw[<-B2];exact K3 (it:=λp:Pt=>(true,pD p)) [q.1,q.2] (Lz (ds:=[pD q.1,pD q.2])<|wE<|za rfl) (by show 2<=_;omega) λp _=>⟨[sT<|pD p],rfl,zy (Qy<|za rfl) rfl,λ_=>wE<|za rfl⟩
   have e:jn k q.1 q.2=Vg k (([q.1,q.2]:List Pt).filterMap id):=by
    rw[Xd h0,Eu,Eu];show _=jn k q.1 (jn k q.2<|ze k);rw[PL λz=>absurd z h0]
   show WE _ _ (pD<|jn k q.1 q.2);rw[e];exact He (za (i:=1) rfl) (nW<|by decide +kernel) (t9 h0 hk) inner<|EL h0<|zzO (List.length_filterMap_le _ _) (by show 2<=1000;omega)
 . rw[t8];rfl
def LZ(hk:k<=2)(hx:SqD x (u.map pD))(hy:SqD y (v.map pD))(hu:∀p ∈ u,Vl k p)(hv:∀p ∈ v,Vl k p)(hl:u.length<=1000):∃g,LS YX (cls k)=some g/\RE (g [(true,QL k w),(true,x),(true,y)]) (vD<|List.zipWith (jn k) u v):=by
 refine⟨_,Ht hk, ?_⟩
 by_cases h0:k=0
 . subst h0;exact Ap hx hy (λp m=>hu p m rfl) (λp m=>hv p m rfl) hl
 . rw[if_neg h0,ite_self];exact DE h0 hk hx hy hl
theorem LC:∀(u v:List Pt),sm 0 (List.zipWith (tm 0) u v)=some (((u.zip v).map λq=>q.1.getD 0*q.2.getD 0).sum)
 | [],_=>rfl
 |_::_,[]=>rfl
 |a::u,b::v=>by
  show jn 0 (tm 0 a b) (sm 0<|List.zipWith (tm 0) u v)=_;rw[LC u v];show some (a.getD 0*b.getD 0+_)=some (List.sum (_::_));rw[List.sum_cons];rfl
theorem LP{k:Nat}(h0:k≠0):∀(u v:List Pt),(((u.zip v).filter λq=>q.1.isSome&&q.2.isSome).map λq=>q.1.getD 0+q.2.getD 0)=(List.zipWith (tm k) u v).filterMap id
 | [],_=>rfl
 |_::_,[]=>rfl
 |a::u,b::v=>by
  have ih:=LP h0 u v;show(List.filter _ ((a,b)::u.zip v)).map _=List.filterMap id (tm k a b::_);have e:tm k a b=match a,b with|some x,some y=>some (x+y)|_,_=>none:=if_neg h0
  rw[e];cases a with
  |none=>exact ih
  |some a=>
   cases b with
   |none=>exact ih
   |some b=>exact congrArg (_ :: ·) ih
def Kk(hk:k<=2)(hx:SqD x (u.map pD))(hy:SqD y (v.map pD))(hu:∀p ∈ u,Vl k p)(hv:∀p ∈ v,Vl k p)(bu:k=0->∀p ∈ u,Bg p)(bv:k=0->∀p ∈ v,Bg p)(hl:u.length<=1000):∃g,LS xy (cls k)=some g/\RE (g [(true,QL k w),(true,x),(true,y)]) (pD<|ac k u v):=by
 refine⟨_,Ht hk, ?_⟩;have hz:Uw (aC zg yz) [sT<|QL k w,sT x,sT y]=some ((u.zip v).map λq=>(true,D.tup [pD q.1,pD q.2]),[sT<|QL k w,sT x,sT y]):=by rw[Pz (wE<|za rfl) (wE<|za rfl) hx hy,MJ]
 have hl2:(u.zip v).length<=1000000:=by rw[List.length_zip];omega
 by_cases h0:k=0
 . subst h0;show RE (Yn _) _;have hc:=xq (cap:=[none,none]) (gg:=gT 2<|wL yI<|wL (gN 1) QM) (fe:=f2 zi zg yf) (h:=λq:Pt×Pt=>D.int<|q.1.getD 0*q.2.getD 0) (u.zip v) hz hl2 λq hq=>⟨[sT<|pD q.1,sT<|pD q.2],TJ (zl rfl)<|zl rfl,by
    obtain⟨a,b⟩:=q;have ha:=hu a (List.of_mem_zip hq).1 rfl;have hb:=hv b (List.of_mem_zip hq).2 rfl;have ba:=bu rfl a (List.of_mem_zip hq).1;have bb:=bv rfl b (List.of_mem_zip hq).2;cases a with
    |none=>exact absurd rfl ha
    |some a=>
     cases b with
     |none=>exact absurd rfl hb
     |some b=>exact wE (Rq (za rfl) (za rfl) ba bb)⟩
   rw[show((u.zip v).map λq:Pt×Pt=>D.int<|q.1.getD 0*q.2.getD 0)=((u.zip v).map λq:Pt×Pt=>q.1.getD 0*q.2.getD 0).map D.int by rw[zyA];rfl]at hc;refine zA rfl<|zq<|xb hc ?_;show(vH _).bind _=_;rw[RZ];show some (R0.im<|.int _)=some (R0.im<|pD<|sm 0<|List.zipWith (tm 0) u v);rw[LC];rfl
 . rw[if_neg h0,ite_self];have hc:=K3 (cap:=[none,none]) (gg:=gT 2<|wL yI<|wL (gN 1) QM) (tt:=ZV (fT<|f2 zi (fC .non)<|zp .IsNot)<|fT<|f2 zg (fC .non)<|zp .IsNot) (fe:=f2 zi zg zx) (p:=λq:Pt×Pt=>q.1.isSome&&q.2.isSome) (h:=λq:Pt×Pt=>D.int<|q.1.getD 0+q.2.getD 0) (u.zip v) hz hl2 λq hq=>⟨[sT<|pD q.1,sT<|pD q.2],TJ (zl rfl)<|zl rfl,VJ (zy (Qy<|za rfl) rfl) (λe=>by
    have:=zy (Qy (as:=[sT<|pD q.1,sT<|pD q.2]) (a:=fV 1) (s:=true) (p:=q.2)<|za rfl) rfl;simp only[e,Bool.true_and];exact this) (λe=>by simp only[e,Bool.false_and]),λe=>by
    obtain⟨a,b⟩:=q;cases a with
    |none=>exact nomatch e
    |some a=>
     cases b with
     |none=>exact nomatch e
     |some b=>exact wE (y_ (za rfl)<|za rfl)⟩
   rw[show(((u.zip v).filter λq:Pt×Pt=>q.1.isSome&&q.2.isSome).map λq:Pt×Pt=>D.int<|q.1.getD 0+q.2.getD 0)=((List.zipWith (tm k) u v).filterMap id).map D.int by rw[<-LP h0,zyA];rfl]at hc;refine zA rfl<|zq ?_;have:ac k u v=Vg k ((List.zipWith (tm k) u v).filterMap id):=(Xd h0 _).symm;rw[this];exact He (za (i:=0) rfl) (nW<|by decide +kernel) (t9 h0 hk) hc (EL h0<|zzO (List.length_filterMap_le _ _)<|by rw[List.length_zipWith];omega)
def BC(hk:k<=2){n:Int}(hn:n.natAbs<2 ^ 64)(hu:∀p ∈ u,Vl k p)(bu:k=0->∀p ∈ u,Bg p)(hl:u.length<=1000):∃g z,LS TM (cls k)=some g/\SqD z ((u.map<|of k n).map pD)/\RE (g [(true,QL k w),(true,vD u),(true,.int n)]) z:=by
 by_cases h0:k=0
 . subst h0;refine⟨Zc,_,Ht hk,.l _,zA rfl<|zq ?_⟩;rw[zyA];refine xq (it:=λp:Pt=>(true,pD p)) u (by rw[Lz<|wE<|za rfl,zyA];rfl) (by omega) λp hp=>⟨[sT<|pD p,sI n],rfl, ?_⟩;have ha:=hu p hp rfl;have ba:=bu rfl p hp;cases p with
   |none=>exact absurd rfl ha
   |some a=>exact wE (HX (za rfl) (za rfl) hn)
 . refine⟨y4,vD u,(Ht (a:=Zc) (b:=y4) (c:=y4) hk).trans (by rw[if_neg h0,ite_self]), ?_,zA rfl<|zq<|wE<|za rfl⟩;have:u.map (of k n)=u:=by
    conv=>rhs;rw[<-List.map_id u]
    exact List.map_congr_left λp _=>if_neg h0
   rw[this];exact .t _
def O7(hk:k<=2):∃g,LS KW (cls k)=some g/\RE (g [(true,QL k w)]) (pD<|ze k):=by
 refine⟨_,Ht hk, ?_⟩
 by_cases h0:k=0
 . subst h0;show RE (XQ [(true,QL 0 w)]) (.int 0);exact zA rfl<|zq<|wE zc
 . rw[if_neg h0,ite_self,show ze k=none from if_neg h0];exact zA rfl<|zq<|wE zc
def GI{as:AS}{f:EF}(h:WD f as true (QL k w)):WD (f1 f<|zJ xf "width") as true (.int w):=
 Fz (cs:=xf) (n:="width") (d:=.int w) h Re (if_pos rfl)
theorem N9(z:D):∀n:Nat,(List.replicate n [z]).flatten=List.replicate n z
 |0=>rfl
 |n+1=>by rw[List.replicate_succ,List.flatten_cons,N9 z n];rfl
def MA(hk:k<=2)(w0:1<=w)(w1:w<=3):RE (yV [(true,QL k w)]) (vD<|List.replicate w<|ze k):=by
 obtain⟨g,g1,g2⟩:=O7 (w:=w) hk;refine zA rfl<|zq<|wb (EV<|Cs (za rfl) (nW<|by decide +kernel) g1 g2) (wE<|GI<|za rfl) ?_;show(if 1<=(w:Int)/\(w:Int)<2 ^ 63/\([pD<|ze k]:List D).length≠0/\([pD<|ze k]:List D).length*(w:Int).toNat<=sizeLine then _ else _)=_;rw[if_pos ⟨by omega,by omega,by simp,by rw[zyH];exact Hv (by show 1*w<=_;omega)⟩,zyH,N9];show some (R0.im<|D.tup _)=some (R0.im<|D.tup<|List.map pD<|List.replicate w<|ze k);rw[List.map_replicate]
end
def Fv{c:Str}{w:Int}(hc:c ∈ xf):RE (zW c [(true,.int w)]) (.ob c ["width"] [.int w]):=by
 refine⟨.nd (.ob c ["width"]) [.lf true<|.int w], ?_,rfl,rfl⟩;unfold zW Ar;rw[if_pos<|show[(true,D.int w)].length+1=2 from rfl];show(V2 0 xf "width" zg [some<|DW c,sI w]).bind slot0=_;have:V2 0 xf "width" zg [some<|DW c,sI w]=some [some<|.nd (.ob c ["width"]) [.lf true<|.int w],sI w]:=by
  show(if c ∈ xf/\("width":Str) ∉ ([]:List Str)/\([]:List Str).length<1000 then _ else _)=_;rw[if_pos ⟨hc,List.not_mem_nil,by decide⟩];rfl
 rw[this];rfl
section
variable{k w:Nat}{v m:List Pt}{R:List (List Pt)}
structure Ok(k:Nat)(l:List Pt):Prop where
 len:l.length<=1000
 vl:∀p ∈ l,Vl k p
 bg:k=0->∀p ∈ l,Bg p
abbrev rk(k:Nat)(R:List (List Pt))(m v:List Pt)(n:Int):List Pt:=List.zipWith (jn k) (R.map λr=>ac k r v)<|m.map<|of k n
def D3{x y:D}{ds:List D}:yj (.tup (x::y::ds)) (.int 1)=some (.im y):=by
 show Hw (atI _ _)=_;rw[show(1:Int)=((1:Nat):Int)from rfl,V8 (v:=y) rfl];rfl
def HV(hk:k<=2){n:Int}(n0:n≠0)(hn:n.natAbs<2 ^ 64)(hR:R.length<=1000)(oR:∀r ∈ R,Ok k r)(om:Ok k m)(ov:Ok k v):RE (wo [(true,QL k w),(true,dD R m),(true,vD v),(true,.int n)]) (vD<|rk k R m v n):=by
 have t0:WT (fT<|f2 zY z_<|zp .Eq) [sT<|QL k w,sT<|dD R m,sT<|vD v,sI n,none] false:=zy (Zb (za rfl) zc rfl) (by show some (n==0)=_;simp[n0]);have w0:WE (f2 zg z_ yj) [sT<|QL k w,sT<|dD R m,sT<|vD v,sI n,none] (.tup<|R.map vD):=wb (wE<|za rfl) (wE zc) Dw;have w4:WE (zQ (xx<|f2 zg z_ yj) [none,some 2,some 0] yI yP<|yC xy "across" zF<|aC zi vJ) [sT<|QL k w,sT<|dD R m,sT<|vD v,sI n,none] (.lst<|(R.map λr=>ac k r v).map pD):=by
  rw[zyA];refine xq (it:=λr:List Pt=>(true,vD r)) R (by rw[Lz w0,zyA];rfl) (by omega) λr hr=>⟨[sT<|vD r,sT<|vD v,sT<|QL k w],rfl, ?_⟩;obtain⟨g,g1,g2⟩:=Kk (w:=w) hk (.t _) (.t _) (oR r hr).vl ov.vl (oR r hr).bg ov.bg (oR r hr).len;exact UC (za (i:=2) rfl) (nW<|by decide +kernel) g1 (wE<|za rfl) (wE<|za rfl) g2
 obtain⟨g,z,g1,g2,g3⟩:=BC (w:=w) hk hn om.vl om.bg om.len;obtain⟨g',j1,j2⟩:=LZ (w:=w) (u:=R.map λr=>ac k r v) (v:=m.map<|of k n) hk (.l _) g2 (λp hp=>by
  obtain⟨r,_,rfl⟩:=zyZ.mp hp;exact N5 k _) (λp hp=>by
  obtain⟨q,_,rfl⟩:=zyZ.mp hp;exact Dd) (by rw[zzB];exact hR)
 refine zA rfl<|zj (zk t0 rfl)<|zj (yQ (p:=4) w4<|zl rfl)<|zq ?_;exact UC (za (i:=0) rfl) (nW<|by decide +kernel) j1 (wE<|za (i:=4) rfl) (UC (za (i:=0) rfl) (nW<|by decide +kernel) g1 (wb (wE<|za rfl) (wE zc) D3) (wE<|za rfl) g3) j2
def Cm{x:D}:RE (yX [(true,QL k w),(true,x)]) x:=zA rfl<|zq<|wE<|za rfl
end
section
variable{k w:Nat}{a b c d:Pt}{u v x m r:List Pt}{R:List (List Pt)}
def sx:jn k (jn k a b) (jn k c d)=jn k (jn k a c) (jn k b d):=by
 rw[ZN,<-ZN k b,Fg k b c,ZN k c,<-ZN]
def D7:tm 0 a b=some (a.getD 0*b.getD 0):=rfl
def A_(h:k≠0):tm k a b=match a,b with
 |some x,some y=>some (x+y)
 |_,_=>none:=if_neg h
def E1:tm k a b=tm k b a:=by
 by_cases h:k=0
 . subst h;rw[D7,D7,Int.mul_comm]
 . rw[A_ h,A_ h];cases a<;>cases b<;>first|rfl|exact congrArg some (Int.add_comm _ _)
def D1:tm k (tm k a b) c=tm k a (tm k b c):=by
 by_cases h:k=0
 . subst h;simp only[D7,Option.getD_some,Int.mul_assoc]
 . simp only[A_ h];cases a<;>cases b<;>cases c<;>first|rfl|exact congrArg some (Int.add_assoc _ _ _)
def CG:tm k a (jn k b c)=jn k (tm k a b) (tm k a c):=by
 by_cases h:k=0
 . subst h;simp only[D7,D_,Option.getD_some,Int.mul_add]
 . simp only[A_ h,Jc h];cases a<;>cases b<;>cases c<;>first|rfl|(rename_i x y z;exact congrArg some<|by rw[Int.add_comm,PF.MW,Int.add_comm y,Int.add_comm z])
def MP:tm k a (ze k)=ze k:=by
 by_cases h:k=0
 . subst h;show some (_*0)=_;rw[Int.mul_zero];rfl
 . rw[A_ h,show ze k=none from if_neg h];cases a<;>rfl
def Jr:tm k (ze k) a=ze k:=by rw[E1,MP]
def IL{n:Nat}:of k ((1+n:Nat):Int) a=jn k (of k 1 a) (of k n a):=by
 by_cases h:k=0
 . subst h;show some (_*_)=some (_*1+_*_);rw[<-Int.mul_add];rfl
 . show(if k=0 then _ else a)=jn k (if k=0 then _ else a) (if k=0 then _ else a);rw[if_neg h,if_neg h,if_neg h,Jc h];cases a with
   |none=>rfl
   |some x=>exact congrArg some (Ox k x).symm
def IP(h:Vl k a):of k 1 a=a:=by
 by_cases e:k=0
 . subst e;cases a with
   |none=>exact absurd rfl (h rfl)
   |some x=>show some (x*1)=_;rw[Int.mul_one]
 . exact if_neg e
def Ao(h:∀p ∈ m,Vl k p):m.map (of k 1)=m:=by
 conv=>rhs;rw[<-List.map_id m]
 exact List.map_congr_left λp mp=>IP<|h p mp
abbrev jv(k:Nat)(u v:List Pt):List Pt:=List.zipWith (jn k) u v
theorem CY:∀(u v x:List Pt),jv k (jv k u v) x=jv k u (jv k v x)
 | [],_,_=>rfl
 |_::_,[],_=>rfl
 |_::_,_::_,[]=>rfl
 |a::u,b::v,c::x=>by show _::_=_::_;rw[ZN,show List.zipWith (jn k) (List.zipWith (jn k) u v) x=_ from CY u v x]
theorem CV:∀(v:List Pt),(∀p ∈ v,Vl k p)->jv k v (List.replicate v.length<|ze k)=v
 | [],_=>rfl
 |a::v,h=>by
  show jn k a _::jv k v (List.replicate v.length<|ze k)=_;rw[PL<|h a zzF,CV v λp m=>h p<|zzD _ m]
theorem CH:∀(v:List Pt),(∀p ∈ v,Vl k p)->jv k (List.replicate v.length<|ze k) v=v
 | [],_=>rfl
 |a::v,h=>by
  show jn k _ a::jv k (List.replicate v.length<|ze k) v=_;rw[CD<|h a zzF,CH v λp m=>h p<|zzD _ m]
theorem Yt{f:Pt->Pt->Pt}{p:Pt}:∀{u v:List Pt},p ∈ List.zipWith f u v->∃a ∈ u,∃b ∈ v,p=f a b
 | [],_,h=>nomatch h
 |_::_,[],h=>nomatch h
 |a::u,b::v,h=>by
  rcases zzC.mp h with rfl|h
  . exact⟨a,zzF,b,zzF,rfl⟩
  . obtain⟨x,h1,y,h2,e⟩:=Yt h;exact⟨x,zzD _ h1,y,zzD _ h2,e⟩
structure VL(k w:Nat)(v:List Pt):Prop where
 ln:v.length=w
 vl:∀p ∈ v,Vl k p
def hv(k w:Nat)(r:List (List Pt)):List Pt:=r.foldr (jv k)<|List.replicate w<|ze k
theorem VL.ze:VL k w (List.replicate w<|ze k):=⟨List.length_replicate,λp m=>by rw[(List.mem_replicate.mp m).2];exact NM k⟩
theorem VL.jv(h:VL k w u)(g:VL k w v):VL k w (jv k u v):=⟨by rw[List.length_zipWith,h.1,g.1,Nat.min_self],λp m=>by
 obtain⟨a,_,b,_,rfl⟩:=Yt m;exact Fm k a b⟩
theorem VL.hv:∀{r:List (List Pt)},(∀v ∈ r,VL k w v)->VL k w (hv k w r)
 | [],_=>.ze
 |v::r,h=>(h v zzF).jv<|VL.hv λx m=>h x<|zzD _ m
def KA(h:VL k w v):hv k w [v]=v:=by
 show G35.jv k v (List.replicate w _)=v;rw[<-h.1];exact CV v h.2
theorem M7:∀(r s:List (List Pt)),(∀v ∈ s,VL k w v)->hv k w (r++s)=jv k (hv k w r) (hv k w s)
 | [],s,h=>by
  have h:=VL.hv h;show _=jv k (List.replicate w _) _;have e:=CH _ h.2;rw[h.1]at e;exact e.symm
 |v::r,s,h=>by
  show jv k v (hv k w<|r++s)=_;rw[M7 r s h,<-CY];rfl
def Ly(r v:List Pt):ac k r v=ac k v r:=by
 unfold ac;rw[List.zipWith_comm]
 congr 2
 funext a b;exact E1
theorem E8:∀(r u v:List Pt),u.length=v.length->ac k r (jv k u v)=jn k (ac k r u) (ac k r v)
 | [],_,_,_=>(PL<|NM k).symm
 |_::_,[],[],_=>(PL<|NM k).symm
 |_::_,[],_::_,h=>nomatch h
 |_::_,_::_,[],h=>nomatch h
 |a::r,b::u,c::v,h=>by
  show jn k (tm k a<|jn k b c) (ac k r<|jv k u v)=jn k (jn k _ _) (jn k _ _);rw[CG,E8 r u v<|Nat.succ.inj h,sx];rfl
theorem Cy:∀(x v:List Pt),ac k (x.map<|tm k a) v=tm k a (ac k x v)
 | [],_=>MP.symm
 |_::_,[]=>MP.symm
 |b::x,c::v=>by
  show jn k (tm k (tm k a b) c) (ac k (x.map _) v)=tm k a (jn k _ _);rw[CG,D1,Cy x v];rfl
theorem MV{α:Type}:∀(l:List α) (v:List Pt),ac k (l.map λ_=>ze k) v=ze k
 | [],_=>rfl
 |_::_,[]=>rfl
 |_::l,c::v=>by
  show jn k (tm k (ze k) c) (ac k (l.map λ_=>ze k) v)=_;rw[Jr,MV l v,PL<|NM k]
abbrev at_(x:List Pt)(j:Nat):Pt:=(x[j]?).getD none
abbrev col(R:List (List Pt))(j:Nat):List Pt:=R.map λx=>at_ x j
def PY:∀(x:List Pt),(List.range x.length).map (at_ x)=x
 |x=>by
  apply List.ext_getElem
  . rw[zzB,zyS]
  . intro i h1 h2;rw[List.getElem_map,List.getElem_range];show(x[i]?).getD none=_;rw[zzE h2];rfl
theorem Pb{α:Type}(f g:α->Pt):∀l:List α,jv k (l.map f) (l.map g)=l.map λj=>jn k (f j)<|g j
 | []=>rfl
 |a::l=>by show _::jv k (l.map f) (l.map g)=_::_;rw[Pb f g l]
theorem Sr:∀(r:List Pt) (R:List (List Pt)),(∀x ∈ R,x.length=w)->v.length=w->ac k ((List.range w).map λj=>ac k r<|col R j) v=ac k r (R.map λx=>ac k x v)
 | [],R,_,_=>MV (List.range w) v
 |a::r,[],_,_=>MV (List.range w) v
 |a::r,x::R,h,hv=>by
  have ih:=Sr r R (λy m=>h y<|zzD _ m) hv;show ac k ((List.range w).map λj=>jn k (tm k a<|at_ x j)<|ac k r<|col R j) v=jn k (tm k a<|ac k x v) (ac k r<|R.map λx=>ac k x v);rw[<-Pb (λj=>tm k a<|at_ x j) (λj=>ac k r<|col R j),Ly,E8 _ _ _ (by rw[zzB,zzB]),Ly v,Ly v,ih,<-Cy x v]
  congr 2
  have e:=PY x;rw[h x zzF]at e
  conv=>rhs;rw[<-e,zyA]
  rfl
abbrev Wt:Type:=List (List Pt)×List Pt
abbrev md(k:Nat)(T:Wt)(v:List Pt)(n:Int):List Pt:=List.zipWith (jn k) (T.1.map λr=>ac k r v)<|T.2.map<|of k n
abbrev bh(k w:Nat)(T U:Wt):Wt:=(U.1.map λr=>(List.range w).map λj=>ac k r<|col T.1 j,jv k (U.1.map λr=>ac k r T.2) U.2)
theorem CU(h:u.length=v.length){n:Nat}:∀(R:List (List Pt)) (m:List Pt),md k (R,m) (jv k u v) ((1+n:Nat):Int)=jv k (md k (R,m) u 1) (md k (R,m) v n)
 | [],_=>rfl
 |_::_,[]=>rfl
 |r::R,q::m=>by
  show jn k (ac k r _) _::md k (R,m) (jv k u v) _=jn k (jn k _ _) (jn k _ _)::jv k (md k (R,m) u 1) (md k (R,m) v n);rw[CU h R m,E8 _ _ _ h,IL,sx]
structure WL(k w:Nat)(T:Wt):Prop where
 r:T.1.length=w
 m:VL k w T.2
 x:∀x ∈ T.1,VL k w x
theorem WL.md{T:Wt}(h:WL k w T){n:Int}:VL k w (md k T v n):=⟨by rw[List.length_zipWith,zzB,zzB,h.r,h.m.1,Nat.min_self],λp m=>by
 obtain⟨a,_,b,_,rfl⟩:=Yt m;exact Fm k a b⟩
theorem CZ{T:Wt}(h:WL k w T):∀(r:List (List Pt)),r≠[]->(∀v ∈ r,VL k w v)->md k T (hv k w r) r.length=hv k w (r.map λv=>md k T v 1)
 | [],h,_=>absurd rfl h
 | [v],_,g=>by rw[KA<|g v zzF];exact(KA h.md).symm
 |v::u::r,_,g=>by
  have ih:=CZ h (u::r) (List.cons_ne_nil _ _) λx m=>g x<|zzD _ m;show md k T (jv k v<|hv k w (u::r)) _=jv k _ (hv k w<|(u::r).map λv=>md k T v 1);rw[<-ih,show((v::u::r).length:Int)=((1+(u::r).length:Nat):Int) by rw[zzT (a:=v),Nat.add_comm]];exact CU (by rw[(g v zzF).1,(VL.hv λx m=>g x<|zzD _ m).1]) T.1 T.2
theorem Hc{T:Wt}(h:WL k w T)(hv:v.length=w):∀(R:List (List Pt)) (m:List Pt),(∀p ∈ m,Vl k p)->md k (bh k w T (R,m)) v 1=md k (R,m) (md k T v 1) 1
 | [],_,_=>rfl
 |_::_,[],_=>rfl
 |r::R,q::m,g=>by
  have ih:=Hc h hv R m λp z=>g p<|zzD _ z;show jn k (ac k ((List.range w).map λj=>ac k r<|col T.1 j) v) (of k 1<|jn k (ac k r T.2) q)::md k (bh k w T (R,m)) v 1=jn k (ac k r<|md k T v 1) (of k 1 q)::md k (R,m) (md k T v 1) 1;rw[ih,Sr r T.1 (λx z=>(h.x x z).1) hv,IP<|Fm k _ _,IP<|g q zzF];have e:ac k r (md k T v 1)=jn k (ac k r<|T.1.map λx=>ac k x v) (ac k r T.2):=by
   show ac k r (jv k _<|T.2.map<|of k 1)=_;rw[Ao h.m.2,E8 _ _ _<|by rw[zzB,h.r,h.m.1]]
  rw[e,ZN]
theorem WL.bh{T U:Wt}(h:WL k w T)(g:WL k w U):WL k w (bh k w T U)where
 r:=by rw[zzB];exact g.r
 m:=VL.jv ⟨by rw[zzB];exact g.r,λp m=>by obtain⟨x,_,rfl⟩:=zyZ.mp m;exact N5 k _⟩ g.m
 x:=λx m=>by
  obtain⟨r,_,rfl⟩:=zyZ.mp m;exact⟨by rw[zzB,zyS],λp m=>by obtain⟨j,_,rfl⟩:=zyZ.mp m;exact N5 k _⟩
abbrev Z(p:Pt):Nat:=(p.getD 0).natAbs
def Oa:Z (jn 0 a b)<=Z a+Z b:=Int.natAbs_add_le _ _
def uu:Z (tm 0 a b)=Z a*Z b:=Int.natAbs_mul _ _
theorem HZ{A B:Nat}:∀(r v:List Pt),(∀p ∈ r,Z p<=A)->(∀p ∈ v,Z p<=B)->Z (ac 0 r v)<=r.length*(A*B)
 | [],_,_,_=>Nat.zero_le _
 |_::_,[],_,_=>Nat.zero_le _
 |a::r,b::v,h,g=>by
  have i:=HZ r v (λp m=>h p<|zzD _ m) λp m=>g p<|zzD _ m;have j:=Oa (a:=tm 0 a b) (b:=ac 0 r v);have e:=Nat.mul_le_mul (h a zzF)<|g b zzF;rw[uu]at j;show Z (jn 0 (tm 0 a b)<|ac 0 r v)<=(r.length+1)*_;rw[Nat.add_mul,Nat.one_mul];omega
theorem A1{B:Nat}:∀(r:List (List Pt)),(∀v ∈ r,∀p ∈ v,Z p<=B)->∀p ∈ hv 0 w r,Z p<=r.length*B
 | [],_,p,m=>by rw[(List.mem_replicate.mp m).2];exact Nat.zero_le _
 |v::r,h,p,m=>by
  obtain⟨a,ma,b,mb,rfl⟩:=Yt m;have i:=A1 r (λv m=>h v<|zzD _ m) b mb;have j:=h v zzF a ma;have e:=Oa (a:=a) (b:=b);rw[zzT,Nat.add_mul,Nat.one_mul];omega
structure VO(k w l:Nat)(v:List Pt):Prop extends VL k w v where
 z:k=0->∀p ∈ v,Z p<=2 ^ (10+l)
structure WO(k w l:Nat)(T:Wt):Prop extends WL k w T where
 b:2<=l
 zr:k=0->∀x ∈ T.1,∀p ∈ x,Z p<=2 ^ (l-2)
 zm:k=0->∀p ∈ T.2,Z p<=2 ^ (l-2)
variable{l l':Nat}{T U:Wt}
def VO.up(h:VO k w l v)(g:l<=l'):VO k w l' v:=⟨h.toVL,λe p m=>zzO (h.z e p m)<|Nat.pow_le_pow_right (by decide)<|by omega⟩
def sA{a b c:Nat}(h:c=2+(a+b)):4*(2 ^ a*2 ^ b)=2 ^ c:=by
 rw[h,Nat.pow_add,Nat.pow_add]
theorem VO.md(w3:w<=3)(h:WO k w l' T)(g:VO k w l v):VO k w (l+l') (md k T v 1):=⟨h.toWL.md,λe p m=>by
 subst e;obtain⟨a,ma,b,mb,rfl⟩:=Yt m;obtain⟨r,mr,rfl⟩:=zyZ.mp ma;obtain⟨q,mq,rfl⟩:=zyZ.mp mb;have i:=HZ r v (h.zr rfl r mr)<|g.z rfl;have j:=h.zm rfl q mq;have n:=Oa (a:=ac 0 r v) (b:=of 0 1 q);have o:Z (of 0 1 q)=Z q:=by show(_*(1:Int)).natAbs=_;rw[Int.mul_one]
 have s:=sA (a:=l'-2) (b:=10+l) (c:=10+(l+l')) (by have:=h.b;omega);have t:r.length*(2 ^ (l'-2)*2 ^ (10+l))<=3*(2 ^ (l'-2)*2 ^ (10+l)):=Nat.mul_le_mul_right _ (by rw[(h.x r mr).1];exact w3);have y:2 ^ (l'-2)*1<=2 ^ (l'-2)*2 ^ (10+l):=Nat.mul_le_mul_left _<|Nat.one_le_two_pow;omega⟩
theorem WO.bh(w3:w<=3)(h:WO k w l T)(g:WO k w l' U):WO k w (l+l') (bh k w T U):=by
 have s:=sA (a:=l'-2) (b:=l-2) (c:=l+l'-2) (by have:=h.b;have:=g.b;omega);refine⟨h.toWL.bh g.toWL,by have:=h.b;omega,λe x mx p mp=>?_,λe p m=>?_⟩
 . subst e;obtain⟨r,mr,rfl⟩:=zyZ.mp mx;obtain⟨j,mj,rfl⟩:=zyZ.mp mp;have i:=HZ r (col T.1 j) (g.zr rfl r mr) (B:=2 ^ (l-2)) λp m=>by
    obtain⟨x,mx,rfl⟩:=zyZ.mp m;have lx:=(h.x x mx).1;have lj:=List.mem_range.mp mj;show Z ((x[j]?).getD none)<=_;rw[zzE<|by omega];exact h.zr rfl x mx _<|zyW _
   have t:r.length*(2 ^ (l'-2)*2 ^ (l-2))<=3*(2 ^ (l'-2)*2 ^ (l-2)):=Nat.mul_le_mul_right _ (by rw[(g.x r mr).1];exact w3);omega
 . subst e;obtain⟨a,ma,b,mb,rfl⟩:=Yt m;obtain⟨r,mr,rfl⟩:=zyZ.mp ma;have i:=HZ r T.2 (g.zr rfl r mr)<|h.zm rfl;have j:=g.zm rfl b mb;have n:=Oa (a:=ac 0 r T.2) (b:=b);have t:r.length*(2 ^ (l'-2)*2 ^ (l-2))<=3*(2 ^ (l'-2)*2 ^ (l-2)):=Nat.mul_le_mul_right _ (by rw[(g.x r mr).1];exact w3);have y:2 ^ (l'-2)*1<=2 ^ (l'-2)*2 ^ (l-2):=Nat.mul_le_mul_left _<|Nat.one_le_two_pow;omega
end
abbrev LM:Nat:=500000
def SB{n e:Nat}(h:n<=2 ^ e)(g:e<=600000):n<bg:=by
 unfold bg Att.bg;exact Nat.lt_of_le_of_lt h (Nat.pow_lt_pow_right (n:=1048576) (by decide)<|Nat.lt_of_le_of_lt g<|by decide)
structure Cx where
 k:Nat
 n:Nat
abbrev Cx.w(c:Cx):D:=QL c.k c.n
abbrev Cx.h(c:Cx):List (List Pt)->List Pt:=hv c.k c.n
abbrev Cx.In(c:Cx)(l:Nat)(r:List (List Pt)):Prop:=∀v ∈ r,VO c.k c.n l v
structure Cx.Ok(c:Cx):Prop where
 k2:c.k<=2
 n1:1<=c.n
 n3:c.n<=3
abbrev wD(T:Wt):D:=dD T.1 T.2
def Xl:Option Wt->D
 |none=>.non
 |some T=>wD T
def Cx.wok(c:Cx)(b:Nat):Option Wt->Prop
 |none=>True
 |some T=>WO c.k c.n b T
def Cx.ap(c:Cx):Option Wt->List (List Pt)->List (List Pt)
 |none,r=>r
 |some T,r=>r.map λv=>md c.k T v 1
abbrev zD(r:List (List Pt)):D:=.lst<|r.map vD
def tn:Bool->List (List Pt)->List (List Pt)
 |false,r=>r
 |true,r=>r.reverse
abbrev Ai:List Str:=["whole","back","wait","turn","one","other","deep","size"]
abbrev kn(w b:List Pt)(q:D)(t:Bool)(x y:D)(p s:Int):D:=.ob "Knot" Ai [vD w,vD b,q,.bl t,x,y,.int p,.int s]
inductive TK(c:Cx):Nat->D->List (List Pt)->Nat->Prop
 |lf {l:Nat}(v:List Pt) (t:Bool):VO c.k c.n l v->l<=LM->TK c l (kn v v .non t .non .non 0 1) [v] 0
 |nd {l b L:Nat}(w:Option Wt) (t:Bool) {x y:D}{r s:List (List Pt)}{p q:Nat}{R:List (List Pt)}:TK c l x r p->TK c l y s q->p<=q+1->q<=p+1->c.wok b w->l+b<=L->L<=LM->R=tn t (c.ap w (r++s))->TK c L (kn (c.h R) (c.h R.reverse) (Xl w) t x y ((1+max p q:Nat):Int) (R.length:Int)) R (1+max p q)
section
variable{c:Cx}{d:D}{R:List (List Pt)}{p l l' b:Nat}
def QU(w:Option Wt)(r:List (List Pt)):(c.ap w r).length=r.length:=by cases w with
 |none=>rfl
 |some T=>exact zzB ..
def Pk(t:Bool)(r:List (List Pt)):(tn t r).length=r.length:=by cases t with
 |false=>rfl
 |true=>exact List.length_reverse ..
def MX(w:Option Wt)(r s:List (List Pt)):c.ap w (r++s)=c.ap w r++c.ap w s:=by cases w with
 |none=>rfl
 |some T=>exact zyK ..
def Cq(w:Option Wt)(t:Bool)(r:List (List Pt)):c.ap w (tn t r)=tn t (c.ap w r):=by cases w with
 |none=>rfl
 |some T=>cases t with
  |false=>rfl
  |true=>exact List.map_reverse ..
def AH(t u:Bool)(r:List (List Pt)):tn t (tn u r)=tn (u != t) r:=by cases t<;>cases u<;>first|rfl|exact List.reverse_reverse r
def Cz{r:List (List Pt)}(k:c.In l r)(g:l<=l'):c.In l' r:=λv m=>(k v m).up g
def Dg(h:c.Ok){w:Option Wt}(hw:c.wok b w){r:List (List Pt)}(k:c.In l r):c.In (l+b) (c.ap w r):=by cases w with
 |none=>exact Cz k (Nat.le_add_right _ _)
 |some T=>
  intro x mx;obtain⟨z,mz,rfl⟩:=zyZ.mp mx;exact VO.md h.n3 hw<|k z mz
def CW{t:Bool}{r:List (List Pt)}(k:c.In l r):c.In l (tn t r):=by cases t with
 |false=>exact k
 |true=>exact λx mx=>k x<|List.mem_reverse.mp mx
def Ea{r s:List (List Pt)}(k:c.In l r)(g:c.In l s):c.In l (r++s):=λx mx=>(zzM.mp mx).elim (k x)<|g x
def Qa{r:List (List Pt)}(k:c.In l r):∀v ∈ r,VL c.k c.n v:=λv m=>(k v m).toVL
def TK.in(h:c.Ok):TK c l d R p->c.In l R:=λk=>by
 induction k with
 |lf v t hv=>exact λx mx=>by rcases zzC.mp mx with rfl|mx;exact hv;exact nomatch mx
 |nd w t a b _ _ hw g _ e i j=>subst e;exact CW<|Cz (Dg h hw<|Ea i j) g
def TK.lim:TK c l d R p->l<=LM:=λk=>by cases k<;>assumption
theorem TK.up(k:TK c l d R p)(g:l<=l')(m:l'<=LM):TK c l' d R p:=by
 cases k with
 |lf v t hv=>exact .lf v t (hv.up g) m
 |nd w t a b h1 h2 hw z _ e=>exact .nd w t a b h1 h2 hw (zzO z g) m e
def TK.rev(h:c.Ok)(k:TK c l d R p):c.In l R.reverse:=CW (t:=true)<|k.in h
def fb:Nat->Nat
 |0=>1
 |1=>2
 |k+2=>fb (k+1)+fb k
def A5:∀k,fb k<=fb (k+1)
 |0=>by decide
 |k+1=>by show _<=fb (k+1)+fb k;omega
def BO{a b:Nat}(h:a<=b):fb a<=fb b:=by
 induction h with
 |refl=>exact zzN _
 |step _ i=>exact zzO i (A5 _)
theorem TK.fb(k:TK c l d R p):fb p<=R.length:=by
 induction k with
 |lf=>exact zzN _
 | @nd l b L w t x y r s p q R a b h1 h2 hw _ _ e i j=>
  subst e;rw[Pk,QU,zzJ]
  by_cases h:q<=p
  . rw[Nat.max_eq_left h,Nat.add_comm 1 p];cases p with
    |zero=>rw[show q=0 by omega]at j;exact Nat.add_le_add i j
    |succ p=>
     have:G35.fb p<=G35.fb q:=BO (by omega);show G35.fb (p+1)+G35.fb p<=_;omega
  . rw[Nat.max_eq_right (by omega),Nat.add_comm 1 q,show q=p+1 by omega];rw[show q=p+1 by omega]at j;show G35.fb (p+1)+G35.fb p<=_;omega
def TK.lt(k:TK c l d R p)(hl:R.length<=1000):p<20:=by
 refine Nat.lt_of_not_le λh=>?_;have h1:=k.fb;have h2:=BO h;have:G35.fb 20=17711:=by decide
 omega
def TK.pos(k:TK c l d R p):1<=R.length:=zzO (BO<|Nat.zero_le p) k.fb
def TK.gt(h:c.Ok)(k:TK c l d R p):∃q t x y,d=kn (c.h R) (c.h R.reverse) q t x y p R.length:=by
 cases k with
 |lf v t hv=>exact⟨_,t,_,_,by rw[show([v]:List (List Pt)).reverse=[v]from rfl,show c.h [v]=v from KA hv.toVL];rfl⟩
 |nd w t=>exact⟨_,_,_,_,rfl⟩
def YO{a:EF}{as:AS}{w b:List Pt}{q x y:D}{t:Bool}{p s:Int}{cs:List Str}{f:Str}{v:D}(h:WD a as true (kn w b q t x y p s))(hc:("Knot":Str) ∈ cs)(hl:Mv Ai [vD w,vD b,q,.bl t,x,y,.int p,.int s] f=some v):WD (f1 a<|zJ cs f) as true v:=by
 have:=Fz h hc hl;rw[zyC]at this;exact this
variable{a:EF}{as:AS}
theorem TK.whole(h:c.Ok)(k:TK c l d R p)(ha:WD a as true d):WD (f1 a<|zJ yF "whole") as true (vD<|c.h R):=by
 obtain⟨q,t,x,y,rfl⟩:=k.gt h;exact YO ha (by decide +kernel) rfl
theorem TK.back(h:c.Ok)(k:TK c l d R p)(ha:WD a as true d):WD (f1 a<|zJ Y_ "back") as true (vD<|c.h R.reverse):=by
 obtain⟨q,t,x,y,rfl⟩:=k.gt h;exact YO ha (by decide +kernel) rfl
theorem TK.deep(h:c.Ok)(k:TK c l d R p)(ha:WD a as true d):WD (f1 a<|zJ zX "deep") as true (.int p):=by
 obtain⟨q,t,x,y,rfl⟩:=k.gt h;exact YO ha (by decide +kernel) rfl
theorem TK.size(h:c.Ok)(k:TK c l d R p)(ha:WD a as true d):WD (f1 a<|zJ xG "size") as true (.int R.length):=by
 obtain⟨q,t,x,y,rfl⟩:=k.gt h;exact YO ha (by decide +kernel) rfl
def TK.isN(h:c.Ok)(k:TK c l d R p)(ha:WD a as true d):WT (fT<|f2 a (fC .non)<|zp .Is) as false:=by
 obtain⟨q,t,x,y,rfl⟩:=k.gt h;exact zy (zN (z:=.bl false) ha zc rfl rfl) rfl
def TK.isS(h:c.Ok)(k:TK c l d R p)(ha:WD a as true d):WT (fT<|f2 a (fC .non)<|zp .IsNot) as true:=by
 obtain⟨q,t,x,y,rfl⟩:=k.gt h;exact zy (zN (z:=.bl true) ha zc rfl rfl) rfl
def TK.zero(h:c.Ok)(k:TK c l d R p)(ha:WD a as true d):WT (fT<|f2 (f1 a<|zJ zX "deep") z_<|zp .Eq) as (decide (p=0)):=zy (Zb (c:=decide (p=0)) (k.deep h ha) zc (by
 show some ((p:Int)==0)=_
 by_cases h:p=0
 . subst h;rfl
 . rw[zyF h,beq_eq_false_iff_ne.mpr<|by omega])) rfl
end
section
variable{c:Cx}{as:AS}{f a e g:EF}{u v:List Pt}{T U:Wt}{R:List (List Pt)}{l b b':Nat}
def sh(h:c.Ok)(hu:VL c.k c.n u)(hv:VL c.k c.n v)(wy:WD f as true c.w)(ha:WE a as (vD u))(hb:WE e as (vD v)):WE (yC YX "join" f<|aC a<|aC e aN) as (vD<|jv c.k u v):=by
 obtain⟨g,g1,g2⟩:=LZ (w:=c.n) h.k2 (.t _) (.t _) hu.2 hv.2 (by rw[hu.1];have:=h.n3;omega);exact UC wy (nW<|by decide +kernel) g1 ha hb g2
def sV(h:c.Ok)(wy:WD f as true c.w):WE (yC Y8 "nothing" f aN) as (vD<|c.h []):=
 Cs wy (nW<|by decide +kernel) ((Ht h.k2).trans<|by rw[ite_self,ite_self]) (MA h.k2 h.n1 h.n3)
def Ok.of{l:Nat}(h:c.Ok)(hv:VL c.k c.n v)(z:c.k=0->∀p ∈ v,Z p<=2 ^ l)(g:l<=600000):Ok c.k v:=⟨by rw[hv.1];have:=h.n3;omega,hv.2,λe p m=>SB (z e p m) g⟩
def B8(h:c.Ok)(hT:WO c.k c.n b T)(hR:c.In l R)(h1:R≠[])(h2:R.length<=1000)(hl:l+b<=LM)(wy:WD f as true c.w)(ha:WE a as (wD T))(he:WE e as (vD<|c.h R))(hg:WE g as (.int R.length)):WE (yC Wu "made" f<|aC a<|aC e<|aC g aN) as (vD<|c.h<|c.ap (some T) R):=by
 have n3:=h.n3;have hl:l+b<=500000:=hl;have ln:1<=R.length:=List.length_pos_iff.mpr h1;have e1:c.h (c.ap (some T) R)=md c.k T (c.h R) R.length:=(CZ hT.toWL R h1<|Qa hR).symm;rw[e1];refine DH wy (nW<|by decide +kernel) ((Ht h.k2).trans<|by rw[ite_self,ite_self]) ha he hg (HV h.k2 (by omega) (by omega) (by rw[hT.r];omega) (λr m=>Ok.of h (hT.x r m) (λe=>hT.zr e r m)<|by omega) (Ok.of h hT.m hT.zm<|by omega)<|Ok.of (l:=20+l) h (VL.hv<|Qa hR) (λe p m=>?_)<|by omega);obtain⟨k,n⟩:=c;have e:k=0:=e;subst e;refine zzO (A1 R (λv mv=>(hR v mv).z rfl) p m) ?_;exact zzO (Nat.mul_le_mul_right _ (show R.length<=2 ^ 10 by omega)) (Nat.le_of_eq<|by rw[<-Nat.pow_add];congr 1;omega)
def B4(h:c.Ok)(wy:WD f as true c.w)(ha:WE a as (wD T)):WE (yC xk "wait_of" f<|aC a aN) as (wD T):=
 He wy (nW<|by decide +kernel) ((Ht h.k2).trans<|by rw[ite_self,ite_self]) ha Cm
end
def R_{a b c d e f:EF}{as:AS}{x y z u v w o:D}{g:List (Bool×D)->Option O}(ha:WE a as x)(hb:WE b as y)(hc:WE c as z)(hd:WE d as u)(he:WE e as v)(hf:WE f as w)(hg:RE (g [(true,x),(true,y),(true,z),(true,u),(true,v),(true,w)]) o):WE (zd (aC a<|aC b<|aC c<|aC d<|aC e<|aC f aN) g) as o:=by
 obtain⟨o,h1,h2⟩:=hg;exact⟨o,VY (vK ha<|vK hb<|vK hc<|vK hd<|vK he<|vK hf ym) (by show g [(zE x||true,x),(zE y||true,y),(zE z||true,z),(zE u||true,u),(zE v||true,v),(zE w||true,w)]=_;simp only[zyC];exact h1),h2⟩
abbrev k7(ns:List Str)(os:List O)(w b:List Pt)(a:D)(t:Bool)(x y:D):AS:=[some<|.nd (.ob "Knot" ns) os,sT<|vD w,sT<|vD b,sT a,sT<|.bl t,sT x,sT y]
def Cw{w b:List Pt}{a x y:D}{t:Bool}{p s:Int}(hd:∀ns os,WE (Mq (fT<|f2 yK (fC .non)<|zp .Is) z_<|f2 zV (fP (aC (f1 yK<|zJ zX "deep")<|aC (f1 yr<|zJ zX "deep") aN) Li) zx) (k7 ns os w b a t x y)<|.int p)
 (hz:∀ns os,WE (Mq (fT<|f2 yK (fC .non)<|zp .Is) zV<|f2 (f1 yK<|zJ xG "size") (f1 yr<|zJ xG "size") zx) (k7 ns os w b a t x y)<|.int s):
 RE (zZ "Knot" [(true,vD w),(true,vD b),(true,a),(true,.bl t),(true,x),(true,y)]) (kn w b a t x y p s):=by
 have v:∀(i:Nat) (d:D) ns os,(k7 ns os w b a t x y)[i]? = some (sT d)->WE (fV i) (k7 ns os w b a t x y) d:=λi d ns os h=>WD.e<|za h;have h:vU (QY 7 (DW "Knot"::[(true,vD w),(true,vD b),(true,a),(true,.bl t),(true,x),(true,y)].map AX))=some (k7 Ai [.lf true<|vD w,.lf true<|vD b,.lf true a,.lf true<|.bl t,.lf true x,.lf true y,.lf true<|.int p,.lf true<|.int s] w b a t x y):=
  wK (vF (c:="Knot") (i:=0) (ns:=[]) (os:=[]) (v 1 _ _ _ rfl) rfl (by decide +kernel) (by decide +kernel)<|by decide)
  (wK (vF (c:="Knot") (i:=0) (v 2 _ _ _ rfl) rfl (by decide +kernel) (by decide +kernel)<|by decide)
  (wK (vF (c:="Knot") (i:=0) (v 3 _ _ _ rfl) rfl (by decide +kernel) (by decide +kernel)<|by decide)
  (wK (vF (c:="Knot") (i:=0) (v 4 _ _ _ rfl) rfl (by decide +kernel) (by decide +kernel)<|by decide)
  (wK (vF (c:="Knot") (i:=0) (v 5 _ _ _ rfl) rfl (by decide +kernel) (by decide +kernel)<|by decide)
  (wK (vF (c:="Knot") (i:=0) (v 6 _ _ _ rfl) rfl (by decide +kernel) (by decide +kernel)<|by decide)
  (wK (vF (c:="Knot") (i:=0) (hd _ _) rfl (by decide +kernel) (by decide +kernel)<|by decide)
  (vF (c:="Knot") (i:=0) (hz _ _) rfl (by decide +kernel) (by decide +kernel)<|by decide)))))))
 refine⟨.nd (.ob "Knot" Ai) [.lf true<|vD w,.lf true<|vD b,.lf true a,.lf true<|.bl t,.lf true x,.lf true y,.lf true<|.int p,.lf true<|.int s], ?_,rfl,rfl⟩;unfold zZ Ar;rw[if_pos (by rfl),h];rfl
def Mm{w b:List Pt}{a:D}{t:Bool}:RE (zZ "Knot" [(true,vD w),(true,vD b),(true,a),(true,.bl t),(true,.non),(true,.non)]) (kn w b a t .non .non 0 1):=
 Cw (λ_ _=>XM (zy (zN (za (i:=5) rfl) zc rfl rfl) rfl)<|WD.e zc) λ_ _=>XM (zy (zN (za (i:=5) rfl) zc rfl rfl) rfl)<|WD.e zc
section
variable{c:Cx}{x y d:D}{r s R:List (List Pt)}{p q l b b':Nat}{T U:Wt}
def A6(n:Nat):Xs 0 n=(List.range n).map λb=>(true,D.int ((b:Nat):Int)):=by
 show(List.range n).map _=_;exact List.map_congr_left λi _=>by rw[Int.zero_add]
def Uh{as:AS}{f:EF}{n:Nat}(h:WD f as true (.int n))(hn:n<=1000):ZP (aC f aN) ZC as=some ((List.range n).map λb=>(true,D.int ((b:Nat):Int)),as):=by
 rw[ED (yy h ym) (Int.natCast_nonneg _) (by omega),zyH,A6]
def BX{x:List Pt}{n j:Nat}(h:x.length=n)(hj:j<n):yj (vD x) (.int (j:Int))=some (.im<|pD<|at_ x j):=by
 show Hw (atI _ _)=_;rw[V8 (v:=pD<|at_ x j) (by
  rw[zzI];show _=some (pD<|(x[j]?).getD none);rw[zzE<|by omega];rfl)];rfl
def AJ(hT:WO c.k c.n b T){j:Nat}(hj:j<c.n):c.k=0->∀p ∈ col T.1 j,Z p<=2 ^ (b-2):=λe p m=>by
 obtain⟨x,mx,rfl⟩:=zyZ.mp m;have lx:=(hT.x x mx).1;show Z ((x[j]?).getD none)<=_;rw[zzE<|by omega];exact hT.zr e x mx _<|zyW _
def Dl(hT:WO c.k c.n b T){j:Nat}(hj:j<c.n):∀p ∈ col T.1 j,Vl c.k p:=λp m=>by
 obtain⟨x,mx,rfl⟩:=zyZ.mp m;have lx:=(hT.x x mx).1;show Vl c.k ((x[j]?).getD none);rw[zzE<|by omega];exact(hT.x x mx).2 _<|zyW _
def A8(h:c.Ok){as:AS}{f a e:EF}{u v:List Pt}{z z':D}(hx:SqD z (u.map pD))(hy:SqD z' (v.map pD))(hu:Ok c.k u)(hv:Ok c.k v)(wy:WD f as true c.w)(ha:WE a as z)(he:WE e as z'):WE (yC xy "across" f<|aC a<|aC e aN) as (pD<|ac c.k u v):=by
 obtain⟨g,g1,g2⟩:=Kk (w:=c.n) h.k2 hx hy hu.vl hv.vl hu.bg hv.bg hu.len;exact UC wy (nW<|by decide +kernel) g1 ha he g2
def Su{as:AS}{f:EF}(x:List (List Pt))(h:WE f as (.tup<|x.map vD)):xx f as=some (x.map λr=>(true,vD r),as):=by
 rw[Lz h,zyA];rfl
def Kl(h:c.Ok)(hT:WO c.k c.n b T)(hU:WO c.k c.n b' U)(hl:b+b'<=LM):RE (xj [(true,c.w),(true,wD T),(true,wD U)]) (wD<|bh c.k c.n T U):=by
 have n3:=h.n3;have hl:b+b'<=500000:=hl;have ux:∀x ∈ U.1,Ok c.k x:=λx m=>Ok.of h (hU.x x m) (λe=>hU.zr e x m) (by omega);have s3:=yQ (p:=3) (xq (as:=[sT c.w,sT<|wD T,sT<|wD U,none,none,none]) (cap:=[none,some 1]) (gg:=gN 0) (fe:=zQ (xx<|f2 zg z_ yj) [none,some 0] yI yP<|f2 zi zg yj) (h:=λj:Nat=>D.lst<|(col T.1 j).map pD) (it:=λj:Nat=>(true,D.int ((j:Nat):Int))) (List.range c.n) (Uh (GI<|za (i:=0) rfl)<|by omega) (by rw[zyS];omega) λj mj=>⟨[sI j,sT<|wD T],rfl,by
  show WE _ _ (D.lst<|(T.1.map λx=>at_ x j).map pD);rw[zyA];exact xq (it:=λx:List Pt=>(true,vD x)) T.1 (Su T.1<|wb (WD.e<|za (i:=1) rfl) (WD.e zc) Dw) (by rw[hT.r];omega) λx mx=>⟨[sT<|vD x,sI j],rfl,wb (WD.e<|za (i:=0) rfl) (WD.e<|za (i:=1) rfl)<|BX (hT.x x mx).1<|List.mem_range.mp mj⟩⟩)<|zl rfl
 have s4:=λC=>yQ (p:=4) (xq (as:=[sT c.w,sT<|wD T,sT<|wD U,sT<|.lst ((List.range c.n).map λj:Nat=>D.lst<|(col T.1 j).map pD),none,C]) (cap:=[none,some 3,some 0]) (gg:=gN 0) (fe:=fP (aC (zQ (xx zg) [none,some 0,some 2] yI yP<|yC xy "across" zF<|aC zg SR) aN) tupP) (h:=λx:List Pt=>vD<|(List.range c.n).map λj=>ac c.k x<|col T.1 j) (it:=λx:List Pt=>(true,vD x)) U.1 (Su U.1<|wb (WD.e<|za (i:=2) rfl) (WD.e zc) Dw) (by rw[hU.r];omega) λx mx=>⟨[sT<|vD x,sT<|.lst ((List.range c.n).map λj:Nat=>D.lst<|(col T.1 j).map pD),sT c.w],rfl,xb (xq (h:=λj:Nat=>pD<|ac c.k x<|col T.1 j) (it:=λj:Nat=>(true,D.lst<|(col T.1 j).map pD)) (List.range c.n) (by rw[Fh<|WD.e<|za (i:=1) rfl,zyA];rfl) (by rw[zyS];omega) λj mj=>⟨[sT<|D.lst<|(col T.1 j).map pD,sT<|vD x,sT c.w],rfl,A8 h (.t _) (.l _) (ux x mx) ⟨by rw[zzB,hT.r];omega,Dl hT<|List.mem_range.mp mj,λe p m=>SB (AJ hT (List.mem_range.mp mj) e p m)<|by omega⟩ (za (i:=2) rfl) (WD.e<|za (i:=1) rfl)<|WD.e<|za (i:=0) rfl⟩) (by
  show some (R0.im<|.tup<|(List.range c.n).map λj=>pD<|ac c.k x<|col T.1 j)=some (R0.im<|.tup<|((List.range c.n).map λj=>ac c.k x<|col T.1 j).map pD);rw[zyA];rfl)⟩)<|zl rfl
 have s5:=λC D'=>yQ (p:=5) (xq (as:=[sT c.w,sT<|wD T,sT<|wD U,C,D',none]) (cap:=[none,some 0,some 1]) (gg:=gN 0) (fe:=yC xy "across" zg<|aC zi<|aC (f2 zF zV yj) aN) (h:=λx:List Pt=>pD<|ac c.k x T.2) (it:=λx:List Pt=>(true,vD x)) U.1 (Su U.1<|wb (WD.e<|za (i:=2) rfl) (WD.e zc) Dw) (by rw[hU.r];omega) λx mx=>⟨[sT<|vD x,sT c.w,sT<|wD T],rfl,A8 h (.t _) (.t _) (ux x mx) (Ok.of h hT.m hT.zm<|by omega) (za (i:=1) rfl) (WD.e<|za (i:=0) rfl)<|wb (WD.e<|za (i:=2) rfl) (WD.e zc) D3⟩)<|zl rfl;obtain⟨g,g1,g2⟩:=LZ (w:=c.n) (x:=.lst<|U.1.map λx=>pD<|ac c.k x T.2) (u:=U.1.map λx=>ac c.k x T.2) (v:=U.2) h.k2 (by rw[show(U.1.map λx=>pD<|ac c.k x T.2)=(U.1.map λx=>ac c.k x T.2).map pD by rw[zyA];rfl];exact .l _) (.t _) (λp m=>by obtain⟨x,_,rfl⟩:=zyZ.mp m;exact N5 _ _) hU.m.2 (by rw[zzB,hU.r];omega);refine zA rfl<|zj s3<|zj (s4 none)<|zj (s5 _ _)<|zq<|yE (xb (WD.e<|za (i:=4) rfl) ?_)<|UC (za (i:=0) rfl) (nW<|by decide +kernel) g1 (WD.e<|za (i:=5) rfl) (wb (WD.e<|za (i:=2) rfl) (WD.e zc) D3) g2;show some (R0.im<|.tup<|U.1.map λx=>vD<|(List.range c.n).map λj=>ac c.k x<|col T.1 j)=some (R0.im<|.tup<|(U.1.map λx=>(List.range c.n).map λj=>ac c.k x<|col T.1 j).map vD);rw[zyA];rfl
end
section
variable{c:Cx}{x y d:D}{r s R:List (List Pt)}{p q l l' b b':Nat}{T U:Wt}
def PM(h:c.Ok){w b:List Pt}{a:D}{t:Bool}(k:TK c l x r p)(k':TK c l' y s q):RE (zZ "Knot" [(true,vD w),(true,vD b),(true,a),(true,.bl t),(true,x),(true,y)]) (kn w b a t x y ((1+max p q:Nat):Int) ((r.length+s.length:Nat):Int)):=by
 have v5:∀ns os,WD yK (k7 ns os w b a t x y) true x:=λ_ _=>za (i:=5) rfl;have v6:∀ns os,WD yr (k7 ns os w b a t x y) true y:=λ_ _=>za (i:=6) rfl;refine Cw (λns os=>X7 (k.isN h<|v5 _ _) ?_) λns os=>X7 (k.isN h<|v5 _ _) ?_
 . have h:=y_ (zc (x:=.int 1))<|y2 (x:=.int<|if(q:Int) > p then(q:Int)else p) (g:=Li) (yy (k.deep h<|v5 ns os)<|yy (k'.deep h<|v6 ns os) ym) rfl rfl;rw[show((1+max p q:Nat):Int)=1+(if(q:Int) > p then(q:Int)else p) by split<;>omega];exact WD.e h
 . have h:=y_ (k.size h<|v5 ns os)<|k'.size h<|v6 ns os;rw[show((r.length+s.length:Nat):Int)=(r.length:Int)+s.length by omega];exact WD.e h
def Ft{v:List Pt}:RE (WH [(true,vD v)]) (kn v v .non false .non .non 0 1):=
 zA rfl (zq<|R_ (WD.e<|za (i:=0) rfl) (WD.e<|za (i:=0) rfl) (WD.e zc) (WD.e zc) (WD.e zc) (WD.e zc) Mm)
def TK.mk{L:Nat}(w:Option Wt)(t:Bool)(hw:c.wok b w)(k:TK c l x r p)(k':TK c l y s q)(h1:p<=q+1)(h2:q<=p+1)(g:l+b<=L)(m:L<=LM){u v:List Pt}(hu:u=c.h (tn t<|c.ap w<|r++s))(hv:v=c.h (tn t<|c.ap w<|r++s).reverse):TK c L (kn u v (Xl w) t x y ((1+max p q:Nat):Int) ((r.length+s.length:Nat):Int)) (tn t<|c.ap w<|r++s) (1+max p q):=by
 have:=TK.nd w t k k' h1 h2 hw g m rfl;rw[Pk,QU,zzJ]at this;rw[hu,hv];exact this
def xt(h:c.Ok)(k:TK c l x r p)(k':TK c l y s q)(h1:p<=q+1)(h2:q<=p+1):∃d,RE (yh [(true,c.w),(true,x),(true,y)]) d/\TK c l d (r++s) (1+max p q):=by
 have v1:WD zg [sT c.w,sT x,sT y] true x:=za (i:=1) rfl;have v2:WD zF [sT c.w,sT x,sT y] true y:=za (i:=2) rfl;have wy:WD zi [sT c.w,sT x,sT y] true c.w:=za (i:=0) rfl;have w1:=sh h (VL.hv<|Qa<|k.in h) (VL.hv<|Qa<|k'.in h) wy (WD.e<|k.whole h v1)<|WD.e<|k'.whole h v2;have w2:=sh h (VL.hv<|Qa<|k'.rev h) (VL.hv<|Qa<|k.rev h) wy (WD.e<|k'.back h v2)<|WD.e<|k.back h v1;refine⟨_,zA rfl<|zq<|R_ w1 w2 (WD.e zc) (WD.e zc) (WD.e v1) (WD.e v2)<|PM h k k',TK.mk (b:=0) none false trivial k k' h1 h2 (zzN _) k.lim ?_ ?_⟩
 . exact(M7 r s<|Qa<|k'.in h).symm
 . show _=c.h (r++s).reverse;rw[List.reverse_append];exact(M7 _ _<|Qa<|k.rev h).symm
def Fc(h:c.Ok){w u:Option Wt}(hw:c.wok b w)(hu:c.wok b' u)(g:b+b'<=LM):∃v,RE (Zl [(true,c.w),(true,Xl w),(true,Xl u)]) (Xl v)/\c.wok (b+b') v/\∀l r,c.In l r->c.ap v r=c.ap u (c.ap w r):=by
 have up:∀{T:Wt}{i j:Nat},WO c.k c.n i T->i<=j->WO c.k c.n j T:=λo e=>⟨o.toWL,zzO o.b e,λz x m p n=>zzO (o.zr z x m p n) (Nat.pow_le_pow_right (by decide)<|by omega),λz p n=>zzO (o.zm z p n)<|Nat.pow_le_pow_right (by decide)<|by omega⟩;cases w with
 |none=>
  refine⟨u,zA rfl<|zT<|yd (zy (zN (za (i:=1) rfl) zc rfl rfl) rfl)<|zq<|WD.e<|za (i:=2) rfl, ?_,λ_ _ _=>rfl⟩;cases u with
  |none=>exact trivial
  |some U=>exact up hu (Nat.le_add_left _ _)
 |some A=>
  have t1:∀z,WT (fT<|f2 zg (fC .non)<|zp .Is) [sT c.w,sT<|wD A,z] false:=λz=>zy (zN (z:=.bl false) (za (i:=1) rfl) zc rfl rfl) rfl;cases u with
  |none=>exact⟨some A,zA rfl<|zj (zk (t1 _) rfl)<|zT<|yd (zy (zN (za (i:=2) rfl) zc rfl rfl) rfl)<|zq<|WD.e<|za (i:=1) rfl,up hw<|Nat.le_add_right _ _,λ_ _ _=>rfl⟩
  |some B=>
   refine⟨some<|bh c.k c.n A B,zA rfl<|zj (zk (t1 _) rfl)<|zj (zk (zy (zN (z:=.bl false) (za (i:=2) rfl) zc rfl rfl) rfl) rfl)<|zq<|UC (za (i:=0) rfl) (nW<|by decide +kernel) ((Ht h.k2).trans<|by rw[ite_self,ite_self]) (WD.e<|za (i:=1) rfl) (WD.e<|za (i:=2) rfl)<|Kl h hw hu g,WO.bh h.n3 hw hu,λl r hr=>?_⟩;show r.map _=(r.map _).map _;rw[zyA];exact List.map_congr_left λa ma=>Hc hw.toWL (hr a ma).1.1 B.1 B.2 hu.m.2
def LI(h:c.Ok)(hT:WO c.k c.n b T)(k:TK c l d R p)(g:l+b<=LM)(hl:R.length<=1000):∃d',RE (yw [(true,c.w),(true,d),(true,wD T)]) d'/\TK c (l+b) d' (c.ap (some T) R) p:=by
 have v1:∀a b,WD zg [sT c.w,sT d,sT<|wD T,a,b] true d:=λ_ _=>za (i:=1) rfl;have ne:R≠[]:=List.length_pos_iff.mp k.pos;have s3:=yQ (p:=3) (B8 (as:=[sT c.w,sT d,sT<|wD T,none,none]) h hT (k.in h) ne hl g (za (i:=0) rfl) (WD.e<|za (i:=2) rfl) (WD.e<|k.whole h<|v1 _ _)<|WD.e<|k.size h<|v1 _ _)<|zl rfl;have s4:=yQ (p:=4) (B8 (as:=[sT c.w,sT d,sT<|wD T,sT<|vD<|c.h<|c.ap (some T) R,none]) h hT (k.rev h) (λe=>ne<|List.reverse_eq_nil_iff.mp e) (by rw[List.length_reverse];exact hl) g (za (i:=0) rfl) (WD.e<|za (i:=2) rfl) (WD.e<|k.back h<|v1 _ _)<|by rw[List.length_reverse];exact WD.e<|k.size h<|v1 _ _)<|zl rfl;have t0:=k.zero h<|v1 (sT<|vD<|c.h<|c.ap (some T) R) none;cases k with
 |lf v t hv hL=>
  have e1:c.h (c.ap (some T) [v])=md c.k T v 1:=KA hT.toWL.md;rw[e1]at s3 t0;exact⟨_,zA rfl<|zj (zk ((TK.lf v t hv hL).isN h<|za (i:=1) rfl) rfl)<|zj s3<|zT<|yd t0<|zq<|RR (WD.e<|za (i:=3) rfl) Ft,TK.lf _ false (VO.md h.n3 hT hv) g⟩
 | @nd l' b' L w t x y r s p q R k k' h1 h2 hw hL lm e=>
  have kk:=TK.nd w t k k' h1 h2 hw hL lm e;obtain⟨v,b1,b2,b3⟩:=Fc h hw (show c.wok b (some T)from hT) (by omega);rw[zyF<|by omega]at t0;have f:∀{cs:List Str}{n:Str}{z:D}(a b:Option O),("Knot":Str) ∈ cs->Mv Ai [vD<|c.h R,vD<|c.h R.reverse,Xl w,.bl t,x,y,.int ((1+max p q:Nat):Int),.int (R.length:Int)] n=some z->WE (f1 zg<|zJ cs n) [sT c.w,sT<|kn (c.h R) (c.h R.reverse) (Xl w) t x y ((1+max p q:Nat):Int) (R.length:Int),sT<|wD T,a,b] z:=λa b hc hl=>WD.e<|YO (v1 a b) hc hl;have eR:c.ap (some T) R=tn t (c.ap v<|r++s):=by rw[e,Cq,b3 _ _<|Ea (k.in h)<|k'.in h]
  refine⟨_,zA rfl<|zj (zk (kk.isN h<|za (i:=1) rfl) rfl)<|zj s3<|zj (zk t0 rfl)<|zj s4<|zq<|R_ (WD.e<|za (i:=3) rfl) (WD.e<|za (i:=4) rfl) (zC (WD.e<|za (i:=0) rfl) (f _ _ (by decide +kernel) rfl) (WD.e<|za (i:=2) rfl) b1) (f _ _ (by decide +kernel) rfl) (f _ _ (by decide +kernel) rfl) (f _ _ (by decide +kernel) rfl)<|PM h k k', ?_⟩;have:=TK.mk v t b2 k k' h1 h2 (L:=l+b) (by omega) g (u:=c.h<|c.ap (some T) R) (v:=c.h<|c.ap (some T) R.reverse) (by rw[<-eR]) (by rw[<-eR];show c.h (R.reverse.map _)=c.h (R.map _).reverse;rw[List.map_reverse]);rw[<-eR]at this;exact this
def Q6(h:c.Ok)(k:TK c l d R p):∃d',RE (yR [(true,c.w),(true,d)]) d'/\TK c l d' R.reverse p:=by
 have v1:WD zg [sT c.w,sT d] true d:=za (i:=1) rfl;have w1:=WD.e<|k.back h v1;have w2:=WD.e<|k.whole h v1;have n0:=k.isN h v1;cases k with
 |lf v t hv hL=>
  rw[show([v]:List (List Pt)).reverse=[v]from rfl,show c.h [v]=v from KA hv.toVL]at w1;rw[show c.h [v]=v from KA hv.toVL]at w2;exact⟨_,zA rfl<|zj (zk n0 rfl)<|zq<|R_ w1 w2 (WD.e<|YO v1 (by decide +kernel) rfl) (WD.e<|SG<|YO v1 (by decide +kernel) rfl) (WD.e<|YO v1 (by decide +kernel) rfl) (WD.e<|YO v1 (by decide +kernel) rfl) Mm,TK.lf _ _ hv hL⟩
 | @nd l b L w t x y r s p q R k k' h1 h2 hw hL lm e=>
  refine⟨_,zA rfl<|zj (zk n0 rfl)<|zq<|R_ w1 w2 (WD.e<|YO v1 (by decide +kernel) rfl) (WD.e<|SG<|YO v1 (by decide +kernel) rfl) (WD.e<|YO v1 (by decide +kernel) rfl) (WD.e<|YO v1 (by decide +kernel) rfl)<|PM h k k', ?_⟩;have eR:R.reverse=tn (!t) (c.ap w<|r++s):=by
   rw[e];cases t with
   |false=>rfl
   |true=>exact List.reverse_reverse _
  have:=TK.mk w (!t) hw k k' h1 h2 hL lm (u:=c.h R.reverse) (v:=c.h R) (by rw[<-eR]) (by rw[<-eR,List.reverse_reverse]);rw[<-eR]at this;exact this
def vG(h:c.Ok)(k:TK c l d R p)(hp:p≠0)(hl:R.length<=1000):∃x y r s u v,RE (yH [(true,c.w),(true,d)]) (.tup [x,y])/\TK c l x r u/\TK c l y s v/\u<=v+1/\v<=u+1/\p=1+max u v/\R=r++s:=by
 cases k with
 |lf=>exact absurd rfl hp
 | @nd l' b' _ w t x y r s p q R k k' h1 h2 hw hL lm e=>
  have v1:∀a b,WD zg [sT c.w,sT<|kn (c.h R) (c.h R.reverse) (Xl w) t x y ((1+max p q:Nat):Int) (R.length:Int),a,b] true (kn (c.h R) (c.h R.reverse) (Xl w) t x y ((1+max p q:Nat):Int) (R.length:Int)):=λ_ _=>za (i:=1) rfl;have s2:=vX (i:=2) (st:=true) (YO (cs:=Xa) (f:="one") (v1 none none) (by decide +kernel) rfl)<|zl rfl;have s3:=vX (i:=3) (st:=true) (YO (cs:=wg) (f:="other") (v1 (sT x) none) (by decide +kernel) rfl)<|zl rfl;have hR:R.length=r.length+s.length:=by rw[e,Pk,QU,zzJ]
  obtain⟨x',y',q1,q2,q3⟩:∃x' y',yU (fT<|f2 (f1 zg<|zJ xr "wait") (fC .non)<|zp .IsNot) (zt (zL true 2<|zd (aC zi<|aC zF<|aC (f1 zg<|zJ xr "wait") aN) yw)<|zL true 3<|zd (aC zi<|aC zY<|aC (f1 zg<|zJ xr "wait") aN) yw) xD [sT c.w,sT<|kn (c.h R) (c.h R.reverse) (Xl w) t x y ((1+max p q:Nat):Int) (R.length:Int),sT x,sT y]=some (.nx [sT c.w,sT<|kn (c.h R) (c.h R.reverse) (Xl w) t x y ((1+max p q:Nat):Int) (R.length:Int),sT x',sT y'])/\TK c l x' (c.ap w r) p/\TK c l y' (c.ap w s) q:=by
   cases w with
   |none=>exact⟨x,y,zk (zy (zN (x:=.non) (z:=.bl false) (YO (v1 _ _) (by decide +kernel) rfl) zc rfl rfl) rfl) rfl,k.up (by omega) lm,k'.up (by omega) lm⟩
   |some T=>
    obtain⟨x',a1,a2⟩:=LI h hw k (by omega) (by omega);obtain⟨y',b1,b2⟩:=LI h hw k' (by omega) (by omega);have wt:∀a b,WE (f1 zg<|zJ xr "wait") [sT c.w,sT<|kn (c.h R) (c.h R.reverse) (Xl<|some T) t x y ((1+max p q:Nat):Int) (R.length:Int),a,b] (wD T):=λa b=>WD.e<|YO (v1 a b) (by decide +kernel) rfl;exact⟨x',y',vV (zy (x:=.bl true) (ud (wt _ _) (WD.e zc) rfl) rfl)<|zK (yQ (p:=2) (zC (WD.e<|za (i:=0) rfl) (WD.e<|za (i:=2) rfl) (wt _ _) a1)<|zl rfl)<|yQ (p:=3) (zC (WD.e<|za (i:=0) rfl) (WD.e<|za (i:=3) rfl) (wt _ _) b1)<|zl rfl,a2.up hL lm,b2.up hL lm⟩
  have tt:WT (fT<|f1 zg<|zJ Z5 "turn") [sT c.w,sT<|kn (c.h R) (c.h R.reverse) (Xl w) t x y ((1+max p q:Nat):Int) (R.length:Int),sT x',sT y'] t:=zy (x:=.bl t) (YO (v1 _ _) (by decide +kernel) rfl) rfl;cases t with
  |false=>exact⟨x',y',_,_,p,q,zA rfl<|zj s2<|zj s3<|zj q1<|zj (zk tt rfl)<|zq<|yE (WD.e<|za (i:=2) rfl)<|WD.e<|za (i:=3) rfl,q2,q3,h1,h2,rfl,by rw[e,MX];rfl⟩
  |true=>
   obtain⟨x'',a1,a2⟩:=Q6 h q2;obtain⟨y'',b1,b2⟩:=Q6 h q3;exact⟨y'',x'',_,_,q,p,zA rfl<|zj s2<|zj s3<|zj q1<|zT<|yd tt<|zq<|yE (yb (WD.e<|za (i:=0) rfl) (WD.e<|za (i:=3) rfl) b1)<|yb (WD.e<|za (i:=0) rfl) (WD.e<|za (i:=2) rfl) a1,b2,a2,h2,h1,by rw[Nat.max_comm],by rw[e,MX];exact List.reverse_append⟩
end
def GG{as:AS}{i:Nat}{fr:AF}{g:List ZX->O->Option O}{rs:List RV}{xs:List ZX}{o r:O}(h1:fr as=some (rs,as))(h2:NL i rs=some xs)(h3:as[i]? = some (some o))(h4:g xs o=some r):Y3 i fr g as=some (.nx<|as.set i<|some r):=by
 unfold Y3;rw[h1];show(NL i rs).bind _=_;rw[h2];show(as[i]?).bind _=_;rw[h3];show(g xs o).bind _=_;rw[h4];rfl
def Jm{f:EF}{as:AS}{d:D}(hd:zE d=true)(h:WE f as d):WD f as true d:=by
 obtain⟨o,h,h1,h2⟩:=h;cases o with
 |lf s x=>subst h2;rw[show s=true from h1]at h;exact h
 |nd k os=>subst h2;cases k<;>cases hd
def uS{f:EF}{as:AS}{k:Bool}(h:WE f as (.bl k)):WT (fT f) as k:=zy (Jm rfl h) rfl
def Oz{a b c:EF}{as:AS}{x y z:D}(ha:WE a as x)(hb:WE b as y)(hc:WE c as z):WE (yg<|dC a<|dC b<|dC c dN) as (.tup [x,y,z]):=by
 obtain⟨o1,a1,a2,a3⟩:=ha;obtain⟨o2,b1,b2,b3⟩:=hb;obtain⟨o3,c1,c2,c3⟩:=hc;have h:=Ld (os:=[o1,o2,o3]) (YM a1<|YM b1<|YM c1 yB)<|L0 rfl;have hs:O.strs [o1,o2,o3]=true:=by show(o1.str&&(o2.str&&(o3.str&&true)))=true;rw[a2,b2,c2];rfl
 refine⟨_,h, ?_, ?_⟩
 . unfold Qs
   split
   . exact hs
   . exact hs
 . unfold Qs
   split
   . show D.tup [o1.toD,o2.toD,o3.toD]=_;rw[a3,b3,c3]
   . show D.tup [o1.toD,o2.toD,o3.toD]=_;rw[a3,b3,c3]
def Dt{as:AS}{i:Nat}{os:List O}{a:EF}{x:D}(h:as[i]? = some (sN os))(hl:os.length<sizeLine)(ha:WE a as x):∃o:O,o.str=true/\o.toD=x/\xB (ZM i (dC a dN) vN) as=some (.nx<|as.set i<|sN<|os++[o]):=by
 obtain⟨o,h1,h2,h3⟩:=ha;refine⟨o,h2,h3, ?_⟩;unfold xB ZM;rw[h];have e:dC a dN as=some ([o],as):=YM h1 yB;show((dC a dN as).bind _).bind _=_;rw[e];show(Option.bind (match as[i]? with|some (some<|.nd .ls os)=>_|_=>none) _)=_;rw[h];show((vN os [o]).bind _).bind _=_;have e2:vN os [o]=some (os++[o],.lf true .non):=by unfold vN;exact if_pos hl
 rw[e2];rfl
def LO(os:List O)(ds:List D):Prop:=O.strs os=true/\O.toDs os=ds
def LO.nil:LO [] []:=⟨rfl,rfl⟩
theorem LO.len:∀{os:List O}{ds:List D},LO os ds->os.length=ds.length
 | [],_,⟨_,rfl⟩=>rfl
 |o::os,_,⟨h,rfl⟩=>congrArg (· + 1)<|LO.len (os:=os) ⟨(Bool.and_eq_true_iff.mp h).2,rfl⟩
theorem LO.snoc:∀{os:List O}{ds:List D}{o:O}{d:D},LO os ds->o.str=true->o.toD=d->LO (os++[o]) (ds++[d])
 | [],_,o,_,⟨_,rfl⟩,h,rfl=>⟨by show(o.str&&true)=true;rw[h];rfl,rfl⟩
 |p::os,_,o,_,⟨g,rfl⟩,h,rfl=>by
  have g:=Bool.and_eq_true_iff.mp g;obtain⟨a,b⟩:=LO.snoc (os:=os) (o:=o) ⟨g.2,rfl⟩ h rfl;exact⟨by show(p.str&&O.strs (os++[o]))=true;rw[g.1,a];rfl,by show p.toD::O.toDs (os++[o])=_;rw[b];rfl⟩
section
variable{c:Cx}{x y d:D}{r s R:List (List Pt)}{p q l l' b b':Nat}
abbrev g9(c:Cx)(d:D)(w:Option Wt)(t:Bool)(os:List O)(a b e f:Option O):AS:=[sT c.w,sT d,sT<|Xl w,sT<|.bl t,sN os,a,b,e,f]
abbrev RO(os:List O)(r:List (List Pt)):Prop:=LO os<|r.map vD
theorem Kb(h:c.Ok):∀(k:Nat) {d:D}{R:List (List Pt)}{p l b:Nat}(w:Option Wt) (t:Bool) (acc:List (List Pt)) (os:List O),TK c l d R p->c.wok b w->l+b<=LM->p<k->acc.length+R.length<=1000->RO os acc->∃os',yN k [(true,c.w),(true,d),(true,Xl w),(true,.bl t)] (.nd .ls os)=sN os'/\RO os' (acc++tn t (c.ap w R))
 |0,_,_,_,_,_,_,_,_,_,_,_,_,h,_,_=>absurd h (Nat.not_lt_zero _)
 |n+1,d,R,p,l,b,w,t,acc,os,k,hw,hL,hp,hl,ho=>by
  have ol:=ho.len;rw[zzB]at ol;obtain⟨os',a',b',e',f',run,fin⟩:∃os' a b e f,Qp (yN n) (g9 c d w t os none none none none)=some (.nx<|g9 c d w t os' a b e f)/\RO os' (acc++tn t (c.ap w R)):=by
   have v1:∀a b e f,WD zg (g9 c d w t os a b e f) true d:=λ_ _ _ _=>za (i:=1) rfl;have t0:=k.zero h<|v1 none none none none;have wh:=k.whole h<|v1 none none none none;have al:acc.length<1001:=by omega
   cases k with
   |lf v b hv hm=>
    have hk:=TK.lf v b hv hm;have wv:∃u,[u]=tn t (c.ap w [v])/\WE (Mq (fT<|f2 zF (fC .non)<|zp .Is) (f1 zg<|zJ yF "whole")<|yC Wu "made" zi<|aC zF<|aC (f1 zg<|zJ yF "whole")<|aC zV aN) (g9 c (kn v v .non b .non .non 0 1) w t os none none none none) (vD u):=by
     cases w with
     |none=>exact⟨v,by cases t<;>rfl,XM (zy (zN (a:=fV 2) (b:=fC .non) (g:=zp .Is) (z:=.bl true) (za (i:=2) rfl) zc rfl rfl) rfl)<|by rw[show c.h [v]=v from KA hv.toVL]at wh;exact WD.e wh⟩
     | some T=>
            have m:=B8 h hw (hk.in h) (List.cons_ne_nil _ _) (by show 1<=1000;decide) hL (za (i:=0) rfl) (WD.e<|za (i:=2) rfl) (WD.e wh)<|WD.e<|zc (x:=.int 1);rw[show c.h (c.ap (some T) [v])=md c.k T v 1 from KA (WO.toWL hw).md]at m;exact⟨md c.k T v 1,by cases t<;>rfl,X7 (zy (zN (a:=fV 2) (b:=fC .non) (g:=zp .Is) (z:=.bl false) (za (i:=2) rfl) zc rfl rfl) rfl) m⟩
    obtain⟨u,e,wv⟩:=wv;obtain⟨o,o1,o2,run⟩:=Dt (i:=4) (os:=os) rfl (by rw[ol];exact zzK al<|Hv<|by decide) wv;refine⟨os++[o],none,none,none,none,vV t0 run, ?_⟩;rw[<-e];show LO _ ((acc++[u]).map vD);rw[zyK];exact ho.snoc o1 o2
   | @nd l' b' _ u f x y r s p q R k k' h1 h2 hu hL' lm e=>
    rw[zyF<|by omega]at t0;obtain⟨v,b1,b2,b3⟩:=Fc h hu hw (by omega);have hR:R.length=r.length+s.length:=by rw[e,Pk,QU,zzJ]
    have eR:tn t (c.ap w R)=tn (f != t) (c.ap v r++c.ap v s):=by rw[e,Cq,AH,<-b3 _ _ (Ea (k.in h)<|k'.in h),MX]
    rw[eR];have fl:∀{cs:List Str}{n:Str}{z:D}(a b' e g:Option O),("Knot":Str) ∈ cs->Mv Ai [vD<|c.h R,vD<|c.h R.reverse,Xl u,.bl f,x,y,.int ((1+max p q:Nat):Int),.int (R.length:Int)] n=some z->WD (f1 zg<|zJ cs n) (g9 c (kn (c.h R) (c.h R.reverse) (Xl u) f x y ((1+max p q:Nat):Int) (R.length:Int)) w t os a b' e g) true z:=λa b e g hc hl=>YO (v1 a b e g) hc hl;have s5:=yQ (p:=5) (zC (WD.e<|za (i:=0) rfl) (WD.e<|fl (cs:=xr) (n:="wait") none none none none (by decide +kernel) rfl) (WD.e<|za (i:=2) rfl) b1)<|zl rfl;have s6:=vX (i:=6) (st:=true) (UT (c:=f==t) (fl (cs:=Z5) (n:="turn") (sT<|Xl v) none none none (by decide +kernel) rfl) (za (i:=3) rfl)<|by cases f<;>cases t<;>rfl)<|zl rfl;rw[show(!(f==t))=(f != t)from rfl]at s6;have fx:=WD.e<|fl (cs:=Xa) (n:="one") (sT<|Xl v) (sT<|.bl<|f != t) none none (by decide +kernel) rfl;have fy:=WD.e<|fl (cs:=wg) (n:="other") (sT<|Xl v) (sT<|.bl<|f != t) none none (by decide +kernel) rfl;have w6:WT (fT yr) (g9 c (kn (c.h R) (c.h R.reverse) (Xl u) f x y ((1+max p q:Nat):Int) (R.length:Int)) w t os (sT<|Xl v) (sT<|.bl<|f != t) none none) (f != t):=zy (za (i:=6) rfl) rfl;have cl:∀{z:D}{r':List (List Pt)}{p':Nat}(a:List (List Pt)) (oa:List O) (o f':Option O),TK c l' z r' p'->p'<n->a.length+r'.length<=1000->RO oa a->∃oa',Y3 4 (aC zi<|aC (fV 8)<|aC yK<|aC yr<|aC yi aN) (yN n) [sT c.w,f',sT<|Xl w,sT<|.bl t,sN oa,sT<|Xl v,sT<|.bl<|f != t,o,sT z]=some (.nx [sT c.w,f',sT<|Xl w,sT<|.bl t,sN oa',sT<|Xl v,sT<|.bl<|f != t,o,sT z])/\RO oa' (a++tn (f != t) (c.ap v r')):=λ{z r' p'} a oa o f' k' hp' ha hoa=>by
     obtain⟨oa',g1,g2⟩:=Kb h n v (f != t) a oa k' b2 (by omega) hp' ha hoa;exact⟨oa',GG (rs:=[.ow<|.lf true c.w,.ow<|.lf true z,.ow<|.lf true<|Xl v,.ow<|.lf true<|.bl<|f != t,.bo 4]) (xs:=[(true,c.w),(true,z),(true,Xl v),(true,.bl<|f != t)]) rfl rfl rfl g1,g2⟩
    have lp:∀{z z':D}{r1 r2:List (List Pt)}{p1 p2:Nat}(o:Option O),TK c l' z r1 p1->TK c l' z' r2 p2->p1<n->p2<n->acc.length+r1.length+r2.length<=1000->∃oa',forL (gN 8) (Y3 4 (aC zi<|aC (fV 8)<|aC yK<|aC yr<|aC yi aN)<|yN n) [(true,z),(true,z')] (g9 c (kn (c.h R) (c.h R.reverse) (Xl u) f x y ((1+max p q:Nat):Int) (R.length:Int)) w t os (sT<|Xl v) (sT<|.bl<|f != t) o none)=some (.nx<|g9 c (kn (c.h R) (c.h R.reverse) (Xl u) f x y ((1+max p q:Nat):Int) (R.length:Int)) w t oa' (sT<|Xl v) (sT<|.bl<|f != t) o<|sT z')/\RO oa' (acc++tn (f != t) (c.ap v r1)++tn (f != t) (c.ap v r2)):=λ{z z' r1 r2 p1 p2} o k1 k2 l1 l2 hl=>by
     obtain⟨o1,g1,g2⟩:=cl acc os o _ k1 l1 (by omega) ho;obtain⟨o2,g3,g4⟩:=cl (acc++tn (f != t) (c.ap v r1)) o1 o _ k2 l2 (by rw[zzJ,Pk,QU];exact hl) g2;exact⟨o2,Gy (as1:=g9 c _ w t os (sT<|Xl v) (sT<|.bl<|f != t) o<|sT z) rfl g1<|Gy (as1:=g9 c _ w t o1 (sT<|Xl v) (sT<|.bl<|f != t) o<|sT z') rfl g3 rfl,g4⟩
    cases hc:(f != t)with
    |false=>
     rw[hc]at w6 s6 lp fx fy;obtain⟨oa,g1,g2⟩:=lp (sT<|.tup [x,y]) k k' (by omega) (by omega) (by omega);rw[zyY]at g2;exact⟨_,_,_,_,_,zk t0<|zK s5<|zK s6<|zK (yQ (p:=7) (X7 w6<|yE fx fy)<|zl rfl)<|Ub (B9<|za (i:=7) rfl) g1,g2⟩
    |true=>
     rw[hc]at w6 s6 lp fx fy;obtain⟨oa,g1,g2⟩:=lp (sT<|.tup [y,x]) k' k (by omega) (by omega) (by omega);rw[zyY,show tn true (c.ap v s)++tn true (c.ap v r)=tn true (c.ap v r++c.ap v s)from List.reverse_append.symm]at g2;exact⟨_,_,_,_,_,zk t0<|zK s5<|zK s6<|zK (yQ (p:=7) (XM w6<|yE fy fx)<|zl rfl)<|Ub (B9<|za (i:=7) rfl) g1,g2⟩
  refine⟨os', ?_,fin⟩;show gL 9 5 (Qp<|yN n) [(true,c.w),(true,d),(true,Xl w),(true,.bl t)] (.nd .ls os)=_;unfold gL;rw[if_pos (by rfl),show VN 9 [(true,c.w),(true,d),(true,Xl w),(true,.bl t)] (.nd .ls os)=g9 c d w t os none none none none from rfl,run];rfl
def C_(h:c.Ok)(k:TK c l d R p)(hl:R.length<=1000):RE (Xw [(true,c.w),(true,d)]) (zD R):=by
 obtain⟨os,g1,g2⟩:=Kb h 20 (b:=0) none false [] [] k trivial k.lim (k.lt hl) (by show 0+_<=_;omega) .nil;have cl:Y3 2 (aC zi<|aC zg<|aC (fC .non)<|aC (fC<|.bl false) yz) (yN 20) [sT c.w,sT d,sN []]=some (.nx [sT c.w,sT d,sN os]):=GG (rs:=[.ow<|.lf true c.w,.ow<|.lf true d,.ow<|.lf true .non,.ow<|.lf true<|.bl false,.bo 2]) (xs:=[(true,c.w),(true,d),(true,.non),(true,.bl false)]) rfl rfl rfl g1;exact⟨.nd .ls os,Wh rfl<|zK (Wr (i:=2) (Y5 yB<|L0 rfl)<|zl rfl)<|zK (vV (k.isS h<|za (i:=1) rfl) cl)<|EB (i:=2) rfl g2.1,g2.1,congrArg D.lst g2.2⟩
def HU:RE (Xw [(true,c.w),(true,.non)]) (zD []):=
 ⟨.nd .ls [],Wh rfl<|zK (Wr (i:=2) (Y5 yB<|L0 rfl)<|zl rfl)<|zK (zk (zy (zN (z:=.bl false) (za (i:=1) rfl) zc rfl rfl) rfl) rfl)<|EB (i:=2) rfl rfl,rfl,rfl⟩
def OT(c:Cx)(l:Nat)(d:D)(R:List (List Pt)):Prop:=(d = .non/\R=[])\/∃p,TK c l d R p
def TK.o(k:TK c l d R p):OT c l d R:=.inr ⟨p,k⟩
def OT.n:OT c l .non []:=.inl ⟨rfl,rfl⟩
theorem OT.up(k:OT c l d R)(g:l<=l')(m:l'<=LM):OT c l' d R:=by
 rcases k with e|⟨p,k⟩
 . exact .inl e
 . exact .inr ⟨p,k.up g m⟩
theorem OT.in(h:c.Ok)(k:OT c l d R):c.In l R:=by
 rcases k with⟨_,rfl⟩|⟨p,k⟩
 . exact λ_ m=>nomatch m
 . exact k.in h
def O6(h:c.Ok)(k:OT c l d R):RE (WQ [(true,d)]) (.int R.length):=by
 rcases k with⟨rfl,rfl⟩|⟨p,k⟩
 . exact zA rfl<|zq<|XM (zy (zN (z:=.bl true) (za (i:=0) rfl) zc rfl rfl) rfl)<|WD.e zc
 . exact zA rfl<|zq<|X7 (k.isN h<|za (i:=0) rfl)<|WD.e<|k.size h<|za (i:=0) rfl
def O5(h:c.Ok)(k:OT c l d R):RE (Y7 [(true,c.w),(true,d)]) (vD<|c.h R):=by
 rcases k with⟨rfl,rfl⟩|⟨p,k⟩
 . exact zA rfl<|zq<|XM (zy (zN (z:=.bl true) (za (i:=1) rfl) zc rfl rfl) rfl)<|sV h<|za (i:=0) rfl
 . exact zA rfl<|zq<|X7 (k.isN h<|za (i:=1) rfl)<|WD.e<|k.whole h<|za (i:=1) rfl
def A7(h:c.Ok)(k:OT c l d R)(hl:R.length<=1000):RE (Xw [(true,c.w),(true,d)]) (zD R):=by
 rcases k with⟨rfl,rfl⟩|⟨p,k⟩
 . exact HU
 . exact C_ h k hl
inductive WK(c:Cx):D->List (List Pt)->Nat->Prop
 |lf (v:List Pt):VL c.k c.n v->WK c (.tup [vD v]) [v] 0
 |nd {x y:D}{r s:List (List Pt)}{p q:Nat}:WK c x r p->WK c y s q->p<=q+1->q<=p+1->WK c (.tup [vD (c.h (r++s)),x,y]) (r++s) (1+max p q)
def wC{as:AS}{j:Nat}{i:Int}{ds:List D}{z:D}(h:as[j]? = some (sT<|.tup ds))(hz:yj (.tup ds) (.int i)=some (.im z)):WD (f2 (fV j) (fC<|.int i) yj) as true z:=B_ (za h) zc hz
theorem KH(h:c.Ok):∀(k:Nat) {d:D}{R:List (List Pt)}{p:Nat},TK c l d R p->p<k->R.length<=1000->∃w,RE (y6 k [(true,c.w),(true,d)]) w/\WK c w R p
 |0,_,_,_,_,h,_=>absurd h (Nat.not_lt_zero _)
 |n+1,d,R,p,k,hp,hl=>by
  have v1:∀a,WD zg [sT c.w,sT d,a] true d:=λ_=>za (i:=1) rfl;have t0:=k.zero h<|v1 none
  by_cases h0:p=0
  . rw[zyM h0]at t0;have wv:=k.whole h<|v1 none;have n0:=k.isN h<|v1 none;cases k with
    |lf v t hv _=>
     rw[show c.h [v]=v from KA hv.toVL]at wv;exact⟨_,zA rfl<|zj (zk n0 rfl)<|zT<|yd t0<|zq<|EV<|WD.e wv,.lf v hv.toVL⟩
    |nd=>exact absurd h0 (by omega)
  . rw[zyF h0]at t0;obtain⟨x,y,r,s,u,v,q1,q2,q3,q4,q5,rfl,rfl⟩:=vG h k h0 hl;rw[zzJ]at hl;obtain⟨a,a1,a2⟩:=KH h n q2 (by omega) (by omega);obtain⟨b,b1,b2⟩:=KH h n q3 (by omega) (by omega);exact⟨_,zA rfl<|zj (zk (k.isN h<|v1 _) rfl)<|zj (zk t0 rfl)<|zj (yQ (p:=2) (yb (WD.e<|za (i:=0) rfl) (WD.e<|v1 _) q1)<|zl rfl)<|zq<|Oz (WD.e<|k.whole h<|v1 _) (yb (WD.e<|za (i:=0) rfl) (WD.e<|wC (j:=2) rfl rfl) a1)<|yb (WD.e<|za (i:=0) rfl) (WD.e<|wC (j:=2) rfl rfl) b1,.nd a2 b2 q4 q5⟩
end
def Lg(p n:Nat):Prop:=n<=2 ^ p/\(p=0\/2 ^ (p-1)<n)
def JY{p q a b:Nat}(ha:1<=a)(h1:a<=b)(h2:b<=a+1)(hp:Lg p a)(hq:Lg q b):p<=q/\q<=p+1/\Lg (1+max p q) (a+b):=by
 obtain⟨p1,p2⟩:=hp;obtain⟨q1,q2⟩:=hq;have e1:p<=q:=by
  rcases p2 with p2|p2
  . omega
  . refine Nat.le_of_not_lt λh=>?_;have:=Nat.pow_le_pow_right (n:=2) (by decide) (show q<=p-1 by omega);omega
 have e2:q<=p+1:=by
  rcases q2 with q2|q2
  . omega
  . refine Nat.le_of_not_lt λh=>?_;have:=Nat.pow_le_pow_right (n:=2) (by decide) (show p+1<=q-1 by omega);rw[Nat.pow_succ]at this;omega
 refine⟨e1,e2, ?_⟩;rw[Nat.max_eq_right e1];refine⟨?_,.inr ?_⟩
 . rw[Nat.add_comm 1 q,Nat.pow_succ];omega
 . rw[show 1+q-1=q by omega]
   rcases q2 with q2|q2
   . subst q2;show 1<a+b;omega
   . obtain⟨r,rfl⟩:∃r,q=r+1:=⟨q-1,by
      have:q≠0:=λz=>by subst z;have:(2:Nat) ^ (0-1)=1:=rfl;have z1:b<=1:=q1;omega
      omega⟩
     rw[Nat.add_sub_cancel]at q2;rw[Nat.pow_succ];omega
def TQ{f:EF}{as:AS}{y:D}{fl fh:OF}{lo hi:Option Int}{zs:List D}(ha:WD f as true y)(hl:fl as=some (lo,as))(hh:fh as=some (hi,as))(hg:LY y lo hi=some (.fl zs)):WE (Ga f fl fh LY) as (.lst zs):=by
 refine⟨.nd .ls<|zs.map<|O.lf true, ?_,L6 zs,congrArg D.lst<|Mf zs⟩;unfold WD at ha;unfold Ga;rw[ha];show((fl as).bind _)=_;rw[hl];show((fh as).bind _)=_;rw[hh];show((LY y lo hi).bind _)=_;rw[hg];show(if(zs.all zE||(some true).isSome)=true then some (RV.ow<|.nd .ls<|zs.map<|OW true)else none:Option RV).bind _=_;rw[if_pos (by simp),Lb];rfl
section
variable{c:Cx}{x y d:D}{r s R:List (List Pt)}{p q l l' b:Nat}
theorem Ks(h:c.Ok)(hL:l<=LM):∀(k:Nat) (r:List (List Pt)),1<=r.length->r.length<=2 ^ k->r.length<=1000->c.In l r->∃d p,RE (ya (k+1) [(true,c.w),(true,zD r)]) d/\TK c l d r p/\Lg p r.length
 |k,r,h1,h2,hk,hv=>by
  have wl:∀z,WD (fP vJ yx) [sT c.w,sT<|zD r,z] true (.int r.length):=λz=>by
   have:=y2 (as:=[sT c.w,sT<|zD r,z]) (g:=yx) (x:=.int ((r.map vD).length:Nat)) (yy (za (i:=1) (x:=zD r) rfl) ym) rfl rfl;rw[zzB]at this;exact this
  have t0:WT (fT<|f2 (fP vJ yx) z_<|zp .Eq) [sT c.w,sT<|zD r,none] false:=zy (Zb (c:=false) (wl _) zc (by show some ((r.length:Int)==0)=_;rw[beq_eq_false_iff_ne.mpr<|by omega])) rfl;have t1:WT (fT<|f2 (fP vJ yx) zV<|zp .Eq) [sT c.w,sT<|zD r,none] (decide (r.length=1)):=zy (Zb (c:=decide (r.length=1)) (wl _) zc (by
   show some ((r.length:Int)==1)=_
   by_cases h:r.length=1
   . rw[h];rfl
   . rw[beq_eq_false_iff_ne.mpr (by omega),zyF h])) rfl
  by_cases hr:r.length=1
  . rw[zyM hr]at t1
    match r,hr with
    | [v],_=>
     exact⟨_,0,zA rfl<|zj (zk t0 rfl)<|zT<|yd t1<|zq<|RR (wb (WD.e<|za (i:=1) rfl) (WD.e zc) rfl) Ft,.lf v false (hv v zzF) hL,⟨zzN _,.inl rfl⟩⟩
  . rw[zyF hr]at t1;cases k with
    |zero=>exact absurd (show r.length<=1 from h2) (by omega)
    |succ k=>
     rw[Nat.pow_succ]at h2;have s3:zL true 2 (f2 (fP vJ yx) WZ vI) [sT c.w,sT<|zD r,none]=some (.nx [sT c.w,sT<|zD r,sI ((r.length/2:Nat):Int)]):=vX (i:=2) (LQ (wl none) (zc (x:=.int 2)) (by decide)<|xa (by decide)<|by decide)<|zl rfl;have l1:(r.take<|r.length/2).length=r.length/2:=by rw[zzS];omega
     have l2:(r.drop<|r.length/2).length=r.length-r.length/2:=List.length_drop;obtain⟨x,p,a1,a2,a3⟩:=Ks h hL k (r.take<|r.length/2) (by omega) (by omega) (by omega) λv mv=>hv v<|List.mem_of_mem_take mv;obtain⟨y,q,b1,b2,b3⟩:=Ks h hL k (r.drop<|r.length/2) (by omega) (by omega) (by omega) λv mv=>hv v<|List.mem_of_mem_drop mv;rw[l1]at a3;rw[l2]at b3;obtain⟨q1,q2,q3⟩:=JY (by omega) (by omega) (by omega) a3 b3;obtain⟨d,d1,d2⟩:=xt h a2 b2 (by omega) (by omega);have sp:(r.map vD)=(r.take<|r.length/2).map vD++(r.drop<|r.length/2).map vD:=by rw[<-zyK,List.take_append_drop]
     have c1:=Sw (xs:=(r.take<|r.length/2).map vD) (ys:=(r.drop<|r.length/2).map vD);have c2:=Nv (xs:=(r.take<|r.length/2).map vD) (ys:=(r.drop<|r.length/2).map vD);rw[<-sp,zzB,l1]at c1 c2;have w1:WE (Ga zg oN (oS zF) LY) [sT c.w,sT<|zD r,sI ((r.length/2:Nat):Int)] (zD<|r.take<|r.length/2):=TQ (za (i:=1) rfl) rfl rfl c1;have w2:WE (Ga zg (oS zF) oN LY) [sT c.w,sT<|zD r,sI ((r.length/2:Nat):Int)] (zD<|r.drop<|r.length/2):=TQ (za (i:=1) rfl) rfl rfl c2;have wy:WE zi [sT c.w,sT<|zD r,sI ((r.length/2:Nat):Int)] c.w:=WD.e<|za (i:=0) rfl;rw[List.take_append_drop]at d2;exact⟨d,_,zA rfl<|zj (zk t0 rfl)<|zj (zk t1 rfl)<|zj s3<|zq<|zC wy (yb wy w1 a1) (yb wy w2 b1) d1,d2,by rw[show r.length/2+(r.length-r.length/2)=r.length by omega]at q3;exact q3⟩
def MY(h:c.Ok)(hL:l<=LM)(hl:r.length<=1000)(hv:c.In l r):∃d,RE (ya 20 [(true,c.w),(true,zD r)]) d/\OT c l d r:=by
 by_cases e:r=[]
 . subst e;exact⟨.non,zA rfl<|zT<|yd (zy (Zb (c:=true) (y2 (x:=.int 0) (g:=yx) (yy (za (i:=1) rfl) ym) rfl rfl) zc rfl) rfl)<|zq<|WD.e zc,.n⟩
 . obtain⟨d,p,a,b,_⟩:=Ks h hL 19 r (List.length_pos_iff.mpr e) (zzO hl<|by decide) hl hv;exact⟨d,a,b.o⟩
def ue(h:c.Ok){a b:EF}{as:AS}(k:TK c l x r p)(k':TK c l y s q)(ha:WD a as true x)(hb:WD b as true y):WT (fT<|f2 (f1 a<|zJ zX "deep") (f2 (f1 b<|zJ zX "deep") zV zx)<|zp .Gt) as (decide (q+1<p)):=by
 have:=zy (SI (k.deep h ha)<|y_ (k'.deep h hb)<|zc (x:=.int 1)) rfl;rw[show decide ((q:Int)+1<p)=decide (q+1<p)from decide_eq_decide.mpr<|by omega]at this;exact this
def sd(h:c.Ok){a b:EF}{as:AS}(k:TK c l x r p)(k':TK c l y s q)(ha:WD a as true x)(hb:WD b as true y):WT (fT<|f2 (f1 a<|zJ zX "deep") (f1 b<|zJ zX "deep")<|zp .GtE) as (decide (q<=p)):=by
 have:=zy (Di (k.deep h ha)<|k'.deep h hb) rfl;rw[show decide ((q:Int)<=p)=decide (q<=p)from decide_eq_decide.mpr<|by omega]at this;exact this
def Of(h:c.Ok)(k:TK c l x r p)(k':TK c l y s q)(hl:r.length+s.length<=1000)(e:p=q+2):∃d u,RE (Yl [(true,c.w),(true,x),(true,y)]) d/\TK c l d (r++s) u/\p<=u/\u<=p+1:=by
 obtain⟨x1,x2,r1,r2,p1,p2,k0,k1,k2,k3,k4,k5,rfl⟩:=vG h k (by omega) (by omega);rw[zzJ]at hl;have wy:∀a b,WE zi [sT c.w,sT x,sT y,a,b] c.w:=λ_ _=>WD.e<|za (i:=0) rfl;have v2:∀a b,WE zF [sT c.w,sT x,sT y,a,b] y:=λ_ _=>WD.e<|za (i:=2) rfl;have s3:=yQ (p:=3) (yb (wy none none) (WD.e<|za (i:=1) rfl) k0)<|zl rfl;have u0:∀b,WD (f2 zY z_ yj) [sT c.w,sT x,sT y,sT<|.tup [x1,x2],b] true x1:=λ_=>wC (j:=3) rfl rfl;have u1:∀b,WD (f2 zY zV yj) [sT c.w,sT x,sT y,sT<|.tup [x1,x2],b] true x2:=λ_=>wC (j:=3) rfl rfl;have t:=sd h k1 k2 (u0 none)<|u1 none
 by_cases g:p2<=p1
 . rw[zyM g]at t;obtain⟨d1,a1,a2⟩:=xt h k2 k' (by omega) (by omega);obtain⟨d2,b1,b2⟩:=xt h k1 a2 (by omega) (by omega);rw[<-zyY]at b2;exact⟨d2,_,zA rfl<|zj s3<|zT<|yd t<|zq<|zC (wy _ _) (WD.e<|u0 _) (zC (wy _ _) (WD.e<|u1 _) (v2 _ _) a1) b1,b2,by omega,by omega⟩
 . rw[zyF g]at t;obtain⟨z1,z2,s1,s2,q1,q2,l0,l1,l2,l3,l4,l5,rfl⟩:=vG h k2 (by omega) (by omega);rw[zzJ]at hl;obtain⟨d1,a1,a2⟩:=xt h k1 l1 (by omega) (by omega);obtain⟨d2,b1,b2⟩:=xt h l2 k' (by omega) (by omega);obtain⟨d3,c1,c2⟩:=xt h a2 b2 (by omega) (by omega);have s4:=yQ (p:=4) (yb (wy _ _) (WD.e<|u1 none) l0)<|zl rfl;rw[show r1++s1++(s2++s)=r1++(s1++s2)++s by simp only[zyY]]at c2;exact⟨d3,_,zA rfl<|zj s3<|zj (zk t rfl)<|zj s4<|zq<|zC (wy _ _) (zC (wy _ _) (WD.e<|u0 _) (WD.e<|wC (j:=4) rfl rfl) a1) (zC (wy _ _) (WD.e<|wC (j:=4) rfl rfl) (v2 _ _) b1) c1,c2,by omega,by omega⟩
def BK(h:c.Ok)(k:TK c l x r p)(k':TK c l y s q)(hl:r.length+s.length<=1000)(e:q=p+2):∃d u,RE (ZJ [(true,c.w),(true,x),(true,y)]) d/\TK c l d (r++s) u/\q<=u/\u<=q+1:=by
 obtain⟨x1,x2,r1,r2,p1,p2,k0,k1,k2,k3,k4,k5,rfl⟩:=vG h k' (by omega) (by omega);rw[zzJ]at hl;have wy:∀a b,WE zi [sT c.w,sT x,sT y,a,b] c.w:=λ_ _=>WD.e<|za (i:=0) rfl;have v1:∀a b,WE zg [sT c.w,sT x,sT y,a,b] x:=λ_ _=>WD.e<|za (i:=1) rfl;have s3:=yQ (p:=3) (yb (wy none none) (WD.e<|za (i:=2) rfl) k0)<|zl rfl;have u0:∀b,WD (f2 zY z_ yj) [sT c.w,sT x,sT y,sT<|.tup [x1,x2],b] true x1:=λ_=>wC (j:=3) rfl rfl;have u1:∀b,WD (f2 zY zV yj) [sT c.w,sT x,sT y,sT<|.tup [x1,x2],b] true x2:=λ_=>wC (j:=3) rfl rfl;have t:=sd h k2 k1 (u1 none)<|u0 none
 by_cases g:p1<=p2
 . rw[zyM g]at t;obtain⟨d1,a1,a2⟩:=xt h k k1 (by omega) (by omega);obtain⟨d2,b1,b2⟩:=xt h a2 k2 (by omega) (by omega);rw[zyY]at b2;exact⟨d2,_,zA rfl<|zj s3<|zT<|yd t<|zq<|zC (wy _ _) (zC (wy _ _) (v1 _ _) (WD.e<|u0 _) a1) (WD.e<|u1 _) b1,b2,by omega,by omega⟩
 . rw[zyF g]at t;obtain⟨z1,z2,s1,s2,q1,q2,l0,l1,l2,l3,l4,l5,rfl⟩:=vG h k1 (by omega) (by omega);rw[zzJ]at hl;obtain⟨d1,a1,a2⟩:=xt h k l1 (by omega) (by omega);obtain⟨d2,b1,b2⟩:=xt h l2 k2 (by omega) (by omega);obtain⟨d3,c1,c2⟩:=xt h a2 b2 (by omega) (by omega);have s4:=yQ (p:=4) (yb (wy _ _) (WD.e<|u0 none) l0)<|zl rfl;rw[show r++s1++(s2++r2)=r++(s1++s2++r2) by simp only[zyY]]at c2;exact⟨d3,_,zA rfl<|zj s3<|zj (zk t rfl)<|zj s4<|zq<|zC (wy _ _) (zC (wy _ _) (v1 _ _) (WD.e<|wC (j:=4) rfl rfl) a1) (zC (wy _ _) (WD.e<|wC (j:=4) rfl rfl) (WD.e<|u1 _) b1) c1,c2,by omega,by omega⟩
def EC(h:c.Ok)(k:TK c l x r p)(k':TK c l y s q)(hl:r.length+s.length<=1000)(h1:p<=q+2)(h2:q<=p+2):∃d u,RE (QA [(true,c.w),(true,x),(true,y)]) d/\TK c l d (r++s) u/\max p q<=u/\u<=1+max p q/\(p<=q+1->q<=p+1->u=1+max p q):=by
 have v1:WD zg [sT c.w,sT x,sT y] true x:=za (i:=1) rfl;have v2:WD zF [sT c.w,sT x,sT y] true y:=za (i:=2) rfl;have wy:WE zi [sT c.w,sT x,sT y] c.w:=WD.e<|za (i:=0) rfl;have t1:=ue h k k' v1 v2;have t2:=ue h k' k v2 v1
 by_cases g:q+1<p
 . rw[zyM g]at t1;obtain⟨d,u,a,b,b1,b2⟩:=Of h k k' hl (by omega);exact⟨d,u,zA rfl<|zT<|yd t1<|zq<|zC wy (WD.e v1) (WD.e v2) a,b,by omega,by omega,by omega⟩
 . rw[zyF g]at t1
   by_cases g2:p+1<q
   . rw[zyM g2]at t2;obtain⟨d,u,a,b,b1,b2⟩:=BK h k k' hl (by omega);exact⟨d,u,zA rfl<|zj (zk t1 rfl)<|zT<|yd t2<|zq<|zC wy (WD.e v1) (WD.e v2) a,b,by omega,by omega,by omega⟩
   . rw[zyF g2]at t2;obtain⟨d,a,b⟩:=xt h k k' (by omega) (by omega);exact⟨d,_,zA rfl<|zj (zk t1 rfl)<|zj (zk t2 rfl)<|zq<|zC wy (WD.e v1) (WD.e v2) a,b,by omega,by omega,λ_ _=>rfl⟩
theorem Ej(h:c.Ok):∀(n:Nat) {x y:D}{r s:List (List Pt)}{p q:Nat},TK c l x r p->TK c l y s q->r.length+s.length<=1000->p<n->q<n->∃d u,RE (zu n [(true,c.w),(true,x),(true,y)]) d/\TK c l d (r++s) u/\max p q<=u/\u<=1+max p q
 |0,_,_,_,_,_,_,_,_,_,h,_=>absurd h (Nat.not_lt_zero _)
 |n+1,x,y,r,s,p,q,k,k',hl,hp,hq=>by
  have v1:∀a,WD zg [sT c.w,sT x,sT y,a] true x:=λ_=>za (i:=1) rfl;have v2:∀a,WD zF [sT c.w,sT x,sT y,a] true y:=λ_=>za (i:=2) rfl;have wy:∀a,WE zi [sT c.w,sT x,sT y,a] c.w:=λ_=>WD.e<|za (i:=0) rfl;have t1:=ue h k k' (v1 none)<|v2 none;have t2:=ue h k' k (v2 none)<|v1 none;have n1:=k.isN h<|v1 none;have n2:=k'.isN h<|v2 none
  by_cases g:q+1<p
  . rw[zyM g]at t1;obtain⟨x1,x2,r1,r2,p1,p2,k0,k1,k2,k3,k4,k5,rfl⟩:=vG h k (by omega) (by omega);rw[zzJ]at hl;obtain⟨d,u,a1,a2,a3,a4⟩:=Ej h n k2 k' (by omega) (by omega) (by omega);obtain⟨d',u',b1,b2,b3,b4,b5⟩:=EC h k1 a2 (by rw[zzJ];omega) (by omega) (by omega);have s3:=yQ (p:=3) (yb (wy none) (WD.e<|v1 _) k0)<|zl rfl;rw[<-zyY]at b2;exact⟨d',u',zA rfl<|zj (zk n1 rfl)<|zj (zk n2 rfl)<|zT<|yd t1<|zj s3<|zq<|zC (wy _) (WD.e<|wC (j:=3) rfl rfl) (zC (wy _) (WD.e<|wC (j:=3) rfl rfl) (WD.e<|v2 _) a1) b1,b2,by omega,by omega⟩
  . rw[zyF g]at t1
    by_cases g2:p+1<q
    . rw[zyM g2]at t2;obtain⟨x1,x2,r1,r2,p1,p2,k0,k1,k2,k3,k4,k5,rfl⟩:=vG h k' (by omega) (by omega);rw[zzJ]at hl;obtain⟨d,u,a1,a2,a3,a4⟩:=Ej h n k k1 (by omega) (by omega) (by omega);obtain⟨d',u',b1,b2,b3,b4,b5⟩:=EC h a2 k2 (by rw[zzJ];omega) (by omega) (by omega);have s3:=yQ (p:=3) (yb (wy none) (WD.e<|v2 _) k0)<|zl rfl;rw[zyY]at b2;exact⟨d',u',zA rfl<|zj (zk n1 rfl)<|zj (zk n2 rfl)<|zj (zk t1 rfl)<|zT<|yd t2<|zj s3<|zq<|zC (wy _) (zC (wy _) (WD.e<|v1 _) (WD.e<|wC (j:=3) rfl rfl) a1) (WD.e<|wC (j:=3) rfl rfl) b1,b2,by omega,by omega⟩
    . rw[zyF g2]at t2;obtain⟨d,a,b⟩:=xt h k k' (by omega) (by omega);exact⟨d,_,zA rfl<|zj (zk n1 rfl)<|zj (zk n2 rfl)<|zj (zk t1 rfl)<|zj (zk t2 rfl)<|zq<|zC (wy _) (WD.e<|v1 _) (WD.e<|v2 _) a,b,by omega,by omega⟩
def Na(h:c.Ok)(k:OT c l x r)(k':OT c l y s)(hl:r.length+s.length<=1000):∃d,RE (zu 20 [(true,c.w),(true,x),(true,y)]) d/\OT c l d (r++s):=by
 have wN:WT (fT<|f2 zg (fC .non)<|zp .Is) [sT c.w,sT .non,sT y,none] true:=zy (zN (za (i:=1) rfl) zc rfl rfl) rfl
 rcases k with⟨rfl,rfl⟩|⟨p,k⟩
 . exact⟨y,zA rfl<|zT<|yd wN<|zq<|WD.e<|za (i:=2) rfl,k'⟩
 rcases k' with⟨rfl,rfl⟩|⟨q,k'⟩
 . refine⟨x,zA rfl<|zj (zk (k.isN h<|za (i:=1) rfl) rfl)<|zT<|yd (zy (zN (za (i:=2) rfl) zc rfl rfl) rfl)<|zq<|WD.e<|za (i:=1) rfl, ?_⟩;rw[zyD];exact k.o
 . obtain⟨d,u,a,b,_⟩:=Ej h 20 k k' hl (k.lt<|by omega) (k'.lt<|by omega);exact⟨d,a,b.o⟩
end
section
variable{c:Cx}{x y d:D}{r s R:List (List Pt)}{p q l l' b:Nat}
def TK.one(k:TK c l d R 0):R.length=1:=by
 generalize e:(0:Nat)=p at k;cases k with
 |lf=>rfl
 |nd=>omega
theorem Lk(h:c.Ok):∀(n:Nat) {d:D}{R:List (List Pt)}{p:Nat}(i:Nat),TK c l d R p->p<n->R.length<=1000->i<=R.length->∃a b,RE (yk n [(true,c.w),(true,d),(true,.int i)]) (.tup [a,b])/\OT c l a (R.take i)/\OT c l b (R.drop i)
 |0,_,_,_,_,_,h,_,_=>absurd h (Nat.not_lt_zero _)
 |n+1,d,R,p,i,k,hp,hl,hi=>by
  have v1:∀a b e,WD zg [sT c.w,sT d,sI i,a,b,e] true d:=λ_ _ _=>za (i:=1) rfl;have v2:∀a b e,WD zF [sT c.w,sT d,sI i,a,b,e] true (.int i):=λ_ _ _=>za (i:=2) rfl;have wy:∀a b e,WE zi [sT c.w,sT d,sI i,a,b,e] c.w:=λ_ _ _=>WD.e<|za (i:=0) rfl;have eqN:∀{f g:EF}{as:AS}{a b:Nat},WD f as true (.int a)->WD g as true (.int b)->WT (fT<|f2 f g<|zp .Eq) as (decide (a=b)):=λ{f g as a b} h1 h2=>zy (Zb (c:=decide (a=b)) h1 h2 (by
   show some ((a:Int)==b)=_
   by_cases z:a=b
   . subst z;rw[zyM rfl,beq_self_eq_true]
   . rw[zyF z,beq_eq_false_iff_ne.mpr<|by omega])) rfl
  have t1:=eqN (v2 none none none)<|zc (x:=.int (0:Nat));have t2:=eqN (v2 none none none)<|k.size h<|v1 none none none
  by_cases e0:i=0
  . rw[zyM e0]at t1;subst e0;exact⟨.non,d,zA rfl<|zT<|yd t1<|zq<|yE (WD.e zc)<|WD.e<|v1 _ _ _,.n,k.o⟩
  rw[zyF e0]at t1
  by_cases e1:i=R.length
  . rw[zyM e1]at t2;refine⟨d,.non,zA rfl<|zj (zk t1 rfl)<|zT<|yd t2<|zq<|yE (WD.e<|v1 _ _ _)<|WD.e zc, ?_, ?_⟩
    . rw[e1,List.take_length];exact k.o
    . rw[e1,List.drop_length];exact .n
  rw[zyF e1]at t2;have p0:p≠0:=λz=>by subst z;have:=k.one;omega
  obtain⟨x,y,r,s,u,v,k0,k1,k2,_,_,rfl,rfl⟩:=vG h k p0 hl;rw[zzJ]at hl hi e1;have s3:=yQ (p:=3) (yb (wy none none none) (WD.e<|v1 _ _ _) k0)<|zl rfl;have u0:∀b e,WD (f2 zY z_ yj) [sT c.w,sT d,sI i,sT<|.tup [x,y],b,e] true x:=λ_ _=>wC (j:=3) rfl rfl;have u1:∀b e,WD (f2 zY zV yj) [sT c.w,sT d,sI i,sT<|.tup [x,y],b,e] true y:=λ_ _=>wC (j:=3) rfl rfl;have s4:=vX (i:=4) (st:=true) (k1.size h<|u0 none none)<|zl rfl;have v4:∀e,WD yi [sT c.w,sT d,sI i,sT<|.tup [x,y],sI r.length,e] true (.int r.length):=λ_=>za (i:=4) rfl;have t5:=zy (BP (v2 (sT<|.tup [x,y]) (sI r.length) none)<|v4 none) rfl
  by_cases g:i<r.length
  . rw[zyM<|by omega]at t5;obtain⟨a,b,a1,a2,a3⟩:=Lk h n i k1 (by omega) (by omega) (by omega);obtain⟨f,f1,f2⟩:=Na h a3 k2.o (by rw[List.length_drop];omega);have s5:=yQ (p:=5) (zC (wy _ _ _) (WD.e<|u0 (sI r.length) none) (WD.e<|v2 _ _ _) a1)<|zl rfl;refine⟨a,f,zA rfl<|zj (zk t1 rfl)<|zj (zk t2 rfl)<|zj s3<|zj s4<|zT<|yd t5<|zj s5<|zq<|yE (WD.e<|wC (j:=5) rfl rfl)<|zC (wy _ _ _) (WD.e<|wC (j:=5) rfl rfl) (WD.e<|u1 _ _) f1, ?_, ?_⟩
    . rw[List.take_append_of_le_length<|by omega];exact a2
    . rw[List.drop_append_of_le_length<|by omega];exact f2
  . rw[zyF<|by omega]at t5;obtain⟨a,b,a1,a2,a3⟩:=Lk h n (i-r.length) k2 (by omega) (by omega) (by omega);obtain⟨f,f1,f2⟩:=Na h k1.o a2 (by rw[zzS];omega);have ws:=Up (v2 (sT<|.tup [x,y]) (sI r.length) none)<|v4 none;rw[show(i:Int)-r.length=((i-r.length:Nat):Int) by omega]at ws;have s5:=yQ (p:=5) (zC (wy _ _ _) (WD.e<|u1 _ _) (WD.e ws) a1)<|zl rfl;refine⟨f,b,zA rfl<|zj (zk t1 rfl)<|zj (zk t2 rfl)<|zj s3<|zj s4<|zj (zk t5 rfl)<|zj s5<|zq<|yE (zC (wy _ _ _) (WD.e<|u0 _ _) (WD.e<|wC (j:=5) rfl rfl) f1)<|WD.e<|wC (j:=5) rfl rfl, ?_, ?_⟩
    . rw[List.take_append,List.take_of_length_le<|by omega];exact f2
    . rw[List.drop_append,List.drop_of_length_le (by omega),List.nil_append];exact a3
def JO(h:c.Ok)(k:OT c l d R)(i:Nat)(hl:R.length<=1000)(hi:i<=R.length):∃a b,RE (yk 20 [(true,c.w),(true,d),(true,.int i)]) (.tup [a,b])/\OT c l a (R.take i)/\OT c l b (R.drop i):=by
 rcases k with⟨rfl,rfl⟩|⟨p,k⟩
 . cases Nat.le_zero.mp hi;exact⟨.non,.non,zA rfl<|zT<|yd (zy (Zb (c:=true) (za (i:=2) rfl) zc rfl) rfl)<|zq<|yE (WD.e zc)<|WD.e<|za (i:=1) rfl,.n,.n⟩
 . exact Lk h 20 i k (k.lt hl) hl hi
def S7(h:c.Ok){T:Wt}(hT:WO c.k c.n b T)(k:OT c l d R)(g:l+b<=LM)(hl:R.length<=1000):∃d',RE (yw [(true,c.w),(true,d),(true,wD T)]) d'/\OT c (l+b) d' (c.ap (some T) R):=by
 rcases k with⟨rfl,rfl⟩|⟨p,k⟩
 . exact⟨.non,zA rfl<|zT<|yd (zy (zN (za (i:=1) rfl) zc rfl rfl) rfl)<|zq<|WD.e zc,.n⟩
 . obtain⟨d',a,b⟩:=LI h hT k g hl;exact⟨d',a,b.o⟩
def BL(h:c.Ok)(k:OT c l d R):∃d',RE (yR [(true,c.w),(true,d)]) d'/\OT c l d' R.reverse:=by
 rcases k with⟨rfl,rfl⟩|⟨p,k⟩
 . exact⟨.non,zA rfl<|zT<|yd (zy (zN (za (i:=1) rfl) zc rfl rfl) rfl)<|zq<|WD.e zc,.n⟩
 . obtain⟨d',a,b⟩:=Q6 h k;exact⟨d',a,b.o⟩
end
def Ca{ns:List Int}{k:Int}(hb:∀i ∈ ns,i.natAbs<bg)(h0:0<=k)(h1:ns.length<=63):∃c:Int,c.natAbs<bg/\y9 [(true,.lst<|ns.map .int),(true,.int k)]=sI c:=by
 have wl:WD (fP SR yx) [sT<|.lst<|ns.map .int,sI k] true (.int ns.length):=y2 (yy (za rfl) ym) (by show some (R0.im<|.int ((ns.map D.int).length:Nat))=_;rw[zzB]) rfl
 by_cases h:k<ns.length
 . have hk:k.toNat<ns.length:=by omega
   have e:=V8 (xs:=ns.map D.int) (j:=k.toNat) (v:=D.int ns[k.toNat]) (by rw[zzI,zzE hk];rfl);rw[show((k.toNat:Nat):Int)=k by omega]at e;exact⟨_,hb _<|zyW hk,Wh rfl<|V6<|vV (zy (BP (za rfl) wl)<|congrArg some<|zyM h)<|VM<|zN (za (i:=0) rfl) (za (i:=1) rfl) (by show Hw (atI _ _)=_;rw[e];rfl) rfl⟩
 . exact⟨0,by unfold bg Att.bg;exact Nat.two_pow_pos _,Wh rfl<|zK (zk (zy (BP (za rfl) wl)<|congrArg some<|zyF h) rfl)<|VM zc⟩
def Ml{i:Int}(h0 : -(10 ^ 200)<i)(h1:i<10 ^ 200):i.natAbs<bg:=Nat.lt_trans (xa h0 h1) Ee
def Pn{c k:Int}(hc:c.natAbs<bg)(k0:0<=k)(k1:k<=400):∃x:Int,x.natAbs<bg/\zo [(true,.int c),(true,.int k)]=sI x:=by
 have a0:=zyL c (show(2147483647:Int)≠0 by decide);have a1:=zyG c (show(0:Int)<2147483647 by decide);have t:=zy (Zb (as:=[sI c,sI k,none]) (c:=c%2==0) (ZI (za (i:=0) rfl) (zc (x:=.int 2))<|by decide) (zc (x:=.int 0)) rfl) rfl
 by_cases h:c%2=0
 . rw[h]at t;obtain⟨n,hn,e⟩:∃n:Nat,n<=3200/\8*k=(n:Int):=⟨(8*k).toNat,by omega,by omega⟩;have e2:((2:Int)*2 ^ n)=((2*2 ^ n:Nat):Int):=by rw[Int.natCast_mul,Int.natCast_pow];rfl
   have ws:WD (f2 WZ (f2 BM zg yf) IK) [sI c,sI k,none] true (.int ((2*2 ^ n:Nat):Int)):=by
    refine zN zc (XC zc (za (i:=1) rfl) (xa (by decide)<|by decide)<|xa (by omega)<|by omega) ?_ rfl;rw[e];show(if 0<=(n:Int)/\(n:Int)<=1000000/\(2:Int).natAbs<2 ^ 64 then _ else _)=_;rw[if_pos ⟨by omega,by omega,by decide⟩,zyH,e2]
   exact⟨c/((2*2 ^ n:Nat):Int),Nat.lt_of_le_of_lt (Int.natAbs_ediv_le_natAbs _ _) hc,Wh rfl<|V6<|vV t<|VM<|LQ (za (i:=0) rfl) ws (Int.natCast_pos.mpr<|Nat.mul_pos (by decide)<|Nat.two_pow_pos n) (by
    rw[Int.natAbs_natCast];show 2*2 ^ n<2 ^ 4000;rw[<-Nat.pow_succ'];exact Nat.pow_lt_pow_right (by decide)<|by omega)⟩
 . rw[beq_eq_false_iff_ne.mpr h]at t;have b0:=zyL ((c%2147483647+69621*k+7919)*48271) (show(2147483647:Int)≠0 by decide);have b1:=zyG ((c%2147483647+69621*k+7919)*48271) (show(0:Int)<2147483647 by decide);have s2:=vX (i:=2) (st:=true) (as:=[sI c,sI k,none]) (ZI (XC (y_ (y_ (ZI (za (i:=0) rfl) (zc (x:=.int 2147483647))<|by decide)<|XC (zc (x:=.int 69621)) (za (i:=1) rfl) (xa (by decide)<|by decide)<|xa (by omega)<|by omega)<|zc (x:=.int 7919)) (zc (x:=.int 48271)) (xa (by omega)<|by omega)<|xa (by decide)<|by decide) (zc (x:=.int 2147483647))<|by decide)<|zl rfl;generalize (c%2147483647+69621*k+7919)*48271%2147483647=z at b0 b1 s2;have c0:=zyL (z*z) (show(2147483629:Int)≠0 by decide);have c1:=zyG (z*z) (show(0:Int)<2147483629 by decide);have bz:z.natAbs<big:=xa (by omega) (by omega);have s3:=vX (i:=2) (st:=true) (as:=[sI c,sI k,sI z]) (ZI (XC (za (i:=2) rfl) (za (i:=2) rfl) bz bz) (zc (x:=.int 2147483629))<|by decide)<|zl rfl;generalize z*z%2147483629=y at c0 c1 s3;have by':y.natAbs<big:=xa (by omega) (by omega);have d0:=zyL (y*y+16807*k) (show(2147483587:Int)≠0 by decide);have d1:=zyG (y*y+16807*k) (show(0:Int)<2147483587 by decide);exact⟨_,Ml (by omega) (by omega),Wh rfl<|zK (zk t rfl)<|zK s2<|zK s3<|VM<|ZI (y_ (XC (za (i:=2) rfl) (za (i:=2) rfl) by' by')<|XC (zc (x:=.int 16807)) (za (i:=1) rfl) (xa (by decide)<|by decide)<|xa (by omega)<|by omega) zc<|by decide⟩
def RE.i{r:Option O}{x:Int}(h:r=sI x):RE r (.int x):=⟨_,h,rfl,rfl⟩
def Ms{c k:Int}{as:AS}{a e:EF}(hc:c.natAbs<bg)(k0:0<=k)(k1:k<=400):∃x:Int,x.natAbs<bg/\(WD a as true (.int c)->WD e as true (.int k)->WD (zd (aC a<|aC e aN) zo) as true (.int x)):=by
 obtain⟨x,h,g⟩:=Pn hc k0 k1;exact⟨x,h,λha he=>Jm rfl<|yb (WD.e ha) (WD.e he)<|RE.i g⟩
abbrev LN(z:Int):Prop:=-(10 ^ 60)<z/\z<10 ^ 60
def Bf{c w:Int}(hc:c.natAbs<bg)(w0:0<w)(w1:w<=9):∃z:Int,LN z/\Y1 [(true,.int c),(true,.int w)]=sI z:=by
 obtain⟨x1,h1,g1⟩:=Ms (as:=[sI c,sI w]) (a:=fV 0) (e:=fC<|.int 1) hc (show(0:Int)<=1 by decide) (by decide);obtain⟨x2,h2,g2⟩:=Ms (as:=[sI c,sI w]) (a:=fV 0) (e:=fC<|.int 2) hc (show(0:Int)<=2 by decide) (by decide);obtain⟨x3,h3,g3⟩:=Ms (as:=[sI c,sI w]) (a:=fV 0) (e:=fC<|.int 3) hc (show(0:Int)<=3 by decide) (by decide);obtain⟨x4,h4,g4⟩:=Ms (as:=[sI c,sI w]) (a:=fV 0) (e:=fC<|.int 4) hc (show(0:Int)<=4 by decide) (by decide);have v0:WD zi [sI c,sI w] true (.int c):=za (i:=0) rfl;have t:=zy (Zb (c:=x1%5==1) (ZI (g1 v0 zc) (zc (x:=.int 5))<|by decide) (zc (x:=.int 1)) rfl) rfl
 by_cases h:x1%5=1
 . rw[h]at t;have p59:∀{as:AS},WD (f2 (fC<|.int 10) (fC<|.int 59)<|ZK .Pow) as true (.int<|10 ^ 59):=B0 zc zc ⟨by decide,by decide,by decide⟩;have p40:∀{as:AS},WD (f2 (fC<|.int 10) (fC<|.int 40)<|ZK .Pow) as true (.int<|10 ^ 40):=B0 zc zc ⟨by decide,by decide,by decide⟩;have m0:=zyL (x2*10 ^ 40+x3) (show(2*10 ^ 59:Int)≠0 by decide);have m1:=zyG (x2*10 ^ 40+x3) (show(0:Int)<2*10 ^ 59 by decide);exact⟨_,⟨by omega,by omega⟩,Wh rfl<|V6<|vV t<|VM<|Up (ZI (y_ (Rq (g2 v0 zc) p40 h2<|Ml (by decide)<|by decide)<|g3 v0 zc) (XC zc p59 (xa (by decide)<|by decide)<|xa (by decide)<|by decide)<|by decide) p59⟩
 . rw[beq_eq_false_iff_ne.mpr h]at t;have m0:=zyL x4 (show w≠0 by omega);have m1:=zyG x4 w0;exact⟨_,⟨by omega,by omega⟩,Wh rfl<|zK (zk t rfl)<|VM<|Up (ZI (g4 v0 zc) (za (i:=1) rfl) w0)<|LQ (za (i:=1) rfl) (zc (x:=.int 2)) (by decide)<|xa (by decide)<|by decide⟩
abbrev kd(k:Nat):Str:=if k=0 then "sums" else if k=1 then "mosts" else "leasts"
def PO(k:Nat)(p:Pt):Prop:=Vl k p/\Z p<10 ^ 60
def PO.z{k:Nat}{p:Pt}(h:PO k p):Z p<=2 ^ 200:=zzO (Nat.le_of_lt h.2) (by decide +kernel)
theorem LN.z{z:Int}(h:LN z):z.natAbs<10 ^ 60:=by
 have e:((10 ^ 60:Nat):Int)=10 ^ 60:=by norm_cast
 obtain⟨a,b⟩:=h;omega
def TN{s:Str}{b:Bool}(k:Nat)(h:Wp 60 (.str<|kd k) (.str s)=some b){as:AS}{i:Nat}(hi:as[i]? = some (sT<|.str<|kd k)):WD (f2 (fV i) (fC<|.str s)<|zp .Eq) as true (.bl b):=Zb (za hi) zc h
def WI{k:Nat}(hk:k<=2):Wp 60 (.str<|kd k) (.str "sums")=some (decide (k=0)):=by
 rcases(show k=0\/k=1\/k=2 by omega)with rfl|rfl|rfl<;>decide +kernel
def NW{k:Nat}(hk:k<=2):Wp 60 (.str<|kd k) (.str "mosts")=some (decide (k=1)):=by
 rcases(show k=0\/k=1\/k=2 by omega)with rfl|rfl|rfl<;>decide +kernel
def NA{k:Nat}{c w:Int}(hk:k<=2)(hc:c.natAbs<bg)(w0:0<w)(w1:w<=9):∃p:Pt,PO k p/\RE (xg [(true,.str<|kd k),(true,.int c),(true,.int w)]) (pD p):=by
 obtain⟨z,hz,gz⟩:=Bf hc w0 w1;obtain⟨x5,h5,g5⟩:=Ms (as:=[sT<|.str<|kd k,sI c,sI w]) (a:=fV 1) (e:=fC<|.int 5) hc (show(0:Int)<=5 by decide) (by decide);have tb:WT (fT<|f2 (f2 (zd (aC zg<|aC U6 aN) zo) S4 yA) zV<|zp .Eq) [sT<|.str<|kd k,sI c,sI w] (x5%4==1):=zy (Zb (ZI (g5 (za (i:=1) rfl) zc) (zc (x:=.int 4))<|by decide) (zc (x:=.int 1)) rfl) rfl;have ta:WT (fT<|f2 zi (fC<|.str "sums")<|zp .NotEq) [sT<|.str<|kd k,sI c,sI w] (!decide (k=0)):=zy (UT (za (i:=0) rfl) zc<|WI hk) rfl;have t:=VJ (k:=!decide (k=0)) (l:=(!decide (k=0))&&x5%4==1) ta (λe=>by rw[e,Bool.true_and];exact tb) (λe=>by rw[e,Bool.false_and]);cases h:((!decide (k=0))&&x5%4==1)with
 |true=>
  rw[h]at t;exact⟨none,⟨λe=>by rw[e]at h;exact absurd h (by simp),by show(0:Nat)<_;decide +kernel⟩,zA rfl<|zT<|yd t<|zq<|WD.e zc⟩
 |false=>
  rw[h]at t;exact⟨some z,⟨λ_=>by simp,hz.z⟩,zA rfl<|zj (zk t rfl)<|zq<|yb (WD.e<|za (i:=1) rfl) (WD.e<|za (i:=2) rfl)<|RE.i gz⟩
theorem BW:∀ds:List D,(ds.map<|O.lf true).all O.isLf=true
 | []=>rfl
 |_::ds=>BW ds
abbrev sL(ds:List D):Option O:=sN<|ds.map<|O.lf true
def u3(ds:List D):(O.nd .ls<|ds.map<|O.lf true).kl=some true:=by simp only[O.kl,BW,if_true,L6 ds]
def Hq{as:AS}{i:Nat}{ds:List D}{z:D}{g:List D->Option R0}(h:as[i]? = some (sL ds))(hg:g [.lst ds]=some (.im z)):WD (fP (aC (fV i) aN) g) as true z:=by
 unfold WD fP aC;rw[SZ h];show((RV.view as<|.bo i).bind _:Option (List D×Option Bool)).bind _=_;rw[Cg h,u3];show(g [.lst<|O.toDs<|ds.map<|O.lf true]).bind _=_;rw[Mf,hg];show(if(zE z||true)=true then some (RV.ow<|.lf (zE z||true) z)else none:Option RV).bind _=_;rw[if_pos<|zyC _,zyC];rfl
def Ib{as:AS}{i:Nat}{ds:List D}{a:EF}{d:D}(h:as[i]? = some (sL ds))(hl:ds.length<1000)(ha:WD a as true d):xB (ZM i (dC a dN) vN) as=some (.nx<|as.set i<|sL<|ds++[d]):=by
 rw[BZ h (by rw[zzB];exact zzK hl<|Hv<|by decide) ha];show some (Out.nx<|as.set i<|sN<|ds.map (O.lf true)++[O.lf true d])=some (Out.nx<|as.set i<|sN<|(ds++[d]).map<|O.lf true);rw[zyK];rfl
def H9{f:SF}{g:GF}{fi:IF}{as as':AS}{xs:List ZX}(I:Nat->AS->Prop)(h:fi as=some (xs,as))(h0:I 0 as)(hs:∀i x as,xs[i]? = some x->I i as->∃as1,g x as=some as1/\∃as2,f as1=some (.nx as2)/\I (i+1) as2):∃as',WW fi g f as=some (.nx as')/\I xs.length as':=by
 obtain⟨as',a,b⟩:=X_ I xs 0 as (λi x as h1 h2=>by rw[zyV]at h2 ⊢;exact hs i x as h1 h2) h0;rw[zyV]at b;exact⟨as',Ub h a,b⟩
def K8{n i:Nat}{x:ZX}(h:((List.range n).map λb=>(true,D.int ((b:Nat):Int)))[i]? = some x):x=(true,.int (i:Int))/\i<n:=by
 rw[<-A6]at h;obtain⟨a,b⟩:=N6 h;rw[Int.zero_add]at a;exact⟨a,b⟩
def VO.of{k w:Nat}{l:List Pt}(h1:l.length=w)(h2:∀p ∈ l,PO k p):VO k w 190 l:=⟨⟨h1,λp m=>(h2 p m).1⟩,λ_ p m=>(h2 p m).z⟩
def GN{k w:Nat}{c y:Int}{as:AS}{cap:List (Option Nat)}(hk:k<=2)(w3:w<=3)(hc:c.natAbs<bg)(y0:0<=y)(y1:y<=100)(h1:WD zg as true (.int w))(hcap:∀d,gN 0 (true,d) (X8 cap as)=some [sT d,sT<|.str<|kd k,sI c]):∃v,VO k w 190 v/\WE (fP (aC (zQ (ZP vJ ZC) cap yI yP<|zd (aC zg<|aC (zd (aC zF<|aC (f2 (fC<|.int y) zi zx) aN) zo)<|aC (fC<|.int 9) aN) xg) aN) tupP) as (vD v):=by
 obtain⟨l,l1,l2,l3⟩:=Fx pD (Q:=λ_ p=>PO k p) (yy h1 ym) (by omega) (cap:=cap) (fe:=zd (aC zg<|aC (zd (aC zF<|aC (f2 (fC<|.int y) zi zx) aN) zo)<|aC (fC<|.int 9) aN) xg) λi hi=>by
  obtain⟨z,hz,gz⟩:=Ms (as:=[sI i,sT<|.str<|kd k,sI c]) (a:=fV 2) (e:=f2 (fC<|.int y) zi zx) hc (k:=y+i) (by omega) (by omega);obtain⟨p,hp,gp⟩:=NA (k:=k) (w:=9) hk hz (by decide) (by decide);exact⟨_,p,hcap _,zC (WD.e<|za (i:=1) rfl) (WD.e<|gz (za (i:=2) rfl)<|y_ zc<|za (i:=0) rfl) (WD.e zc) gp,hp⟩
 exact⟨l,VO.of l1 λp m=>by obtain⟨i,hi⟩:=List.getElem?_of_mem m;exact l2 i p hi,xb l3 rfl⟩
def GA{k w:Nat}{c:Int}(hk:k<=2)(w3:w<=3)(hc:c.natAbs<bg):∃v,VO k w 190 v/\RE (xS [(true,.str<|kd k),(true,.int w),(true,.int c)]) (vD v):=by
 obtain⟨v,a,b⟩:=GN (as:=[sT<|.str<|kd k,sI w,sI c]) (cap:=[none,some 0,some 2]) hk w3 hc (show(0:Int)<=10 by decide) (by decide) (za (i:=1) rfl) λ_=>rfl;exact⟨v,a,zA rfl<|zq b⟩
abbrev d8(k w:Nat)(c:Int)(R:List (List Pt))(a b e f:Option O):AS:=[sT<|.str<|kd k,sI w,sI c,sL<|R.map vD,a,b,e,f]
abbrev tL:SF:=(zt (zL true 7<|zd (aC zi<|aC (zd (aC zF<|aC (f2 (f2 (fC<|.int 30) (f2 U6 yi yf) zx) yr zx) aN) zo)<|aC (fC<|.int 7) aN) xg)
 (zt (yU (fT<|f2 zi (fC<|.str "sums")<|zp .Eq) (zL true 7<|f2 (f2 (zd (aC zF<|aC (f2 (f2 (fC<|.int 30) (f2 U6 yi yf) zx) yr zx) aN) zo) U6 yA) WZ Yd) xD)
 (xB<|ZM 5 (dC RD dN) vN)))
def Oo{k w:Nat}{c:Int}{R:List (List Pt)}{ps:List Pt}{i j:Nat}{f:Option O}(hk:k<=2)(hi:i<3)(hj:j<3)(hc:c.natAbs<bg)(hl:ps.length<1000):∃p f',PO k p/\tL (d8 k w c R (sI i) (sL<|ps.map pD) (sI j) f)=some (.nx<|d8 k w c R (sI i) (sL<|(ps++[p]).map pD) (sI j) f'):=by
 obtain⟨z,hz,gz⟩:=Pn (k:=30+5*(i:Int)+j) hc (by omega) (by omega);have wz:∀(f:Option O),WD (zd (aC zF<|aC (f2 (f2 (fC<|.int 30) (f2 U6 yi yf) zx) yr zx) aN) zo) (d8 k w c R (sI i) (sL<|ps.map pD) (sI j) f) true (.int z):=λf=>Jm rfl<|yb (WD.e<|za (i:=2) rfl) (WD.e<|y_ (y_ zc<|XC zc (za (i:=4) rfl) (xa (by decide)<|by decide)<|xa (by omega)<|by omega)<|za (i:=6) rfl)<|RE.i gz;obtain⟨p,hp,gp⟩:=NA (k:=k) (w:=7) hk hz (by decide) (by decide);have s7:=yQ (p:=7) (zC (WD.e<|za (i:=0) rfl) (WD.e<|wz f) (WD.e zc) gp)<|zl rfl;have t:∀f,WT (fT<|f2 zi (fC<|.str "sums")<|zp .Eq) (d8 k w c R (sI i) (sL<|ps.map pD) (sI j) f) (decide (k=0)):=λf=>zy (TN k (WI hk) rfl) rfl;have ap:∀q:Pt,xB (ZM 5 (dC RD dN) vN) (d8 k w c R (sI i) (sL<|ps.map pD) (sI j)<|sT<|pD q)=some (.nx<|d8 k w c R (sI i) (sL<|(ps++[q]).map pD) (sI j)<|sT<|pD q):=λq=>by
  rw[Ib (ds:=ps.map pD) rfl (by rw[zzB];exact hl)<|za (i:=7) (x:=pD q) rfl,show ps.map pD++[pD q]=(ps++[q]).map pD by rw[zyK];rfl];rfl
 by_cases h:k=0
 . have m0:=zyL z (show(5:Int)≠0 by decide);have m1:=zyG z (show(0:Int)<5 by decide);have t:=t<|sT<|pD p;rw[zyM h]at t;exact⟨some<|z%5-2,_,⟨λ_=>by simp,LN.z (z:=z%5-2) ⟨by omega,by omega⟩⟩,zK s7<|zK (vV t<|vX (i:=7) (Up (ZI (wz _) (zc (x:=.int 5))<|by decide)<|zc (x:=.int 2))<|zl rfl)<|ap<|some<|z%5-2⟩
 . have t:=t<|sT<|pD p;rw[zyF h]at t;exact⟨p,_,hp,zK s7<|zK (zk t rfl)<|ap p⟩
def Mn{k w:Nat}{c:Int}(hk:k<=2)(w3:w<=3)(hc:c.natAbs<bg):∃T:Wt,WO k w 202 T/\RE (ZQ [(true,.str<|kd k),(true,.int w),(true,.int c)]) (wD T):=by
 have hr:∀as:AS,as[1]? = some (sI w)->ZP vJ ZC as=some ((List.range w).map λb=>(true,D.int ((b:Nat):Int)),as):=λas h=>Uh (za h) (by omega);obtain⟨as',run,R,a,b,e,f,rfl,hl,hR⟩:=H9 (fi:=ZP vJ ZC) (g:=gN 4) (f:=zt (zL false 5<|yt dN)<|zt (WW (ZP vJ ZC) (gN 6) tL)<|xB<|ZM 3 (dC (fP T5 tupP) dN) vN) (as':=[]) (λi as=>∃R a b e f,as=d8 k w c R a b e f/\R.length=i/\∀x ∈ R,x.length=w/\∀p ∈ x,PO k p) (hr (d8 k w c [] none none none none) rfl) ⟨[],_,_,_,_,rfl,rfl,λ_ m=>nomatch m⟩ λi x as hx hI=>by
  obtain⟨R,a,b,e,f,rfl,hl,hR⟩:=hI;obtain⟨rfl,hi⟩:=K8 hx;refine⟨d8 k w c R (sI i) b e f,rfl, ?_⟩;obtain⟨as',run,ps,e',f',rfl,pl,hp⟩:=H9 (fi:=ZP vJ ZC) (g:=gN 6) (f:=tL) (as':=[]) (λj as=>∃ps e f,as=d8 k w c R (sI i) (sL<|ps.map pD) e f/\ps.length=j/\∀p ∈ ps,PO k p) (hr (d8 k w c R (sI i) (sL []) e f) rfl) ⟨[],_,_,rfl,rfl,λ_ m=>nomatch m⟩ λj x as hx hI=>by
   obtain⟨ps,e,f,rfl,pl,hp⟩:=hI;obtain⟨rfl,hj⟩:=K8 hx;obtain⟨p,f',h1,h2⟩:=Oo (w:=w) (R:=R) (ps:=ps) (i:=i) (j:=j) (f:=f) hk (by omega) (by omega) hc (by omega);exact⟨_,rfl,_,h2,ps++[p],_,_,rfl,by rw[zzJ,pl];rfl,λq m=>(zzM.mp m).elim (hp q) λm=>by rw[zzR.mp m];exact h1⟩
  rw[zzB,zyS]at pl;have ap:xB (ZM 3 (dC (fP T5 tupP) dN) vN) (d8 k w c R (sI i) (sL<|ps.map pD) e' f')=some (.nx<|d8 k w c (R++[ps]) (sI i) (sL<|ps.map pD) e' f'):=by
   rw[Ib (ds:=R.map vD) rfl (by rw[zzB];omega)<|Hq (i:=5) (ds:=ps.map pD) (z:=vD ps) rfl rfl,show R.map vD++[vD ps]=(R++[ps]).map vD by rw[zyK];rfl];rfl
  exact⟨_,zK (Wr (i:=5) (Y5 yB<|L0 rfl)<|zl rfl)<|zK run ap,R++[ps],_,_,_,_,rfl,by rw[zzJ,hl];rfl,λx m=>(zzM.mp m).elim (hR x) λm=>by rw[zzR.mp m];exact⟨pl,hp⟩⟩
 rw[zzB,zyS]at hl;obtain⟨m,hm,gm⟩:=GN (as:=d8 k w c R a b e f) (cap:=[none,some 0,some 2]) hk w3 hc (show(0:Int)<=60 by decide) (by decide) (za (i:=1) rfl) λ_=>rfl;refine⟨(R,m),⟨⟨hl,hm.toVL,λx mx=>⟨(hR x mx).1,λp mp=>((hR x mx).2 p mp).1⟩⟩,by decide,λ_ x mx p mp=>((hR x mx).2 p mp).z,λe p mp=>?_⟩,zA rfl<|zj (Wr (i:=3) (Y5 yB<|L0 rfl)<|zl rfl)<|zj run<|zq<|yE (WD.e<|Hq (i:=3) (ds:=R.map vD) rfl rfl) gm⟩;exact hm.z e p mp
theorem SO{k:Nat}:∀(l m:List Pt),(∀p ∈ m,Vl k p)->sm k (l++m)=jn k (sm k l) (sm k m)
 | [],m,_=>(CD<|N5 k m).symm
 |a::l,m,h=>by
  show jn k a (sm k<|l++m)=jn k (jn k a<|sm k l) (sm k m);rw[SO l m h,ZN]
def Q5{as:AS}{f:EF}{ds:List D}(h:WD f as true (.lst ds)):WT (fT<|f2 f (yt dN)<|zp .Eq) as ds.isEmpty:=by
 refine zy (ud (g:=zp .Eq) (z:=.bl ds.isEmpty) (WD.e h) (WC yB (L0 rfl) rfl rfl) ?_) rfl;cases ds<;>rfl
def AU{as:AS}{f:EF}(l:List Pt)(h:WE f as (.lst<|l.map pD)):xx f as=some (l.map λp=>(true,pD p),as):=by
 rw[Fh h,zyA];rfl
def NK{k:Nat}{l:List Pt}(h0:k≠0)(hk:k<=2)(hl:l.length<=1000):RE (ZU [(true,.str<|kd k),(true,.lst<|l.map pD)]) (pD<|sm k l):=by
 have s2:=yQ (p:=2) (K3 (as:=[sT<|.str<|kd k,sT<|.lst<|l.map pD,none]) (cap:=[none]) (gg:=gN 0) (tt:=fT<|f2 zi (fC .non)<|zp .IsNot) (fe:=fV 0) (p:=Option.isSome) (h:=pD) (it:=λp:Pt=>(true,pD p)) l (AU l<|WD.e<|za (i:=1) rfl) (by omega) λp _=>⟨[sT<|pD p],rfl,zy (Qy<|za (i:=0) rfl) rfl,λ_=>WD.e<|za (i:=0) rfl⟩)<|zl rfl;rw[B2]at s2;have e:=Xd h0 l;generalize l.filterMap id=m at e s2;have t2:=Q5 (as:=[sT<|.str<|kd k,sT<|.lst<|l.map pD,sT<|.lst<|m.map D.int])<|za (i:=2) rfl;rw[<-e];cases m with
 |nil=>exact zA rfl (zj s2<|zT<|yd t2<|zq<|WD.e zc)
 |cons z r=>
  have t3:=zy (TN (as:=[sT<|.str<|kd k,sT<|.lst<|l.map pD,sT<|.lst<|(z::r).map D.int]) k (NW hk) (i:=0) rfl) rfl
  by_cases h1:k=1
  . subst h1;exact zA rfl<|zj s2<|zj (zk t2 rfl)<|zT<|yd t3<|zq<|xb (WD.e<|za (i:=2) rfl)<|EZ<|List.cons_ne_nil z r
  . rw[zyF h1]at t3;exact zA rfl<|zj s2<|zj (zk t2 rfl)<|zj (zk t3 rfl)<|zq<|xb (WD.e<|za (i:=2) rfl)<|EY h1<|List.cons_ne_nil z r
theorem tR:∀l:List Pt,sm 0 l=some ((l.map λp=>p.getD 0).sum)
 | []=>rfl
 |a::l=>by
  show jn 0 a (sm 0 l)=_;rw[tR l];rfl
def sC{l:List Pt}(h:∀p ∈ l,p≠none):l.map pD=(l.map λp=>p.getD 0).map D.int:=by
 rw[zyA];refine List.map_congr_left λp m=>?_;cases p with
 |none=>exact absurd rfl (h none m)
 |some x=>rfl
theorem Ha{k w:Nat}:∀(r:List (List Pt)),(∀v ∈ r,VL k w v)->hv k w r=(List.range w).map λj=>sm k<|r.map λv=>at_ v j
 | [],_=>by
  show List.replicate w (ze k)=(List.range w).map λ_=>ze k;rw[List.map_const',zyS]
 |v::r,h=>by
  have hv:=h v zzF;have e:=PY v;rw[hv.1]at e;show jv k v (G35.hv k w r)=(List.range w).map λj=>jn k (at_ v j)<|sm k<|r.map λv=>at_ v j;rw[Ha r λx m=>h x<|zzD _ m,<-Pb (λj=>at_ v j),show(List.range w).map (λj=>at_ v j)=v from e]
def C8{k w j:Nat}{v:List Pt}(h:VL k w v)(hj:j<w):Vl k (at_ v j):=by
 show Vl k ((v[j]?).getD none);rw[zzE<|by rw[h.1];exact hj];exact h.2 _<|zyW _
def CK{as:AS}{f:EF}(r:List (List Pt))(h:WE f as (zD r)):xx f as=some (r.map λv=>(true,vD v),as):=by
 rw[Fh h,zyA];rfl
def E2{as:AS}{f:EF}{cap:List (Option Nat)}{r:List (List Pt)}{k w j:Nat}(hr:∀v ∈ r,VL k w v)(hl:r.length<=1000)(hj:j<w)(h:WE f as (zD r))(hc:∀d,gN 0 (true,d) (X8 cap as)=some [sT d,sI j]):WE (zQ (xx f) cap yI yP<|f2 zi zg yj) as (.lst<|(r.map λv=>at_ v j).map pD):=by
 rw[zyA];exact xq (it:=λv:List Pt=>(true,vD v)) r (CK r h) (by omega) λv m=>⟨_,hc _,wb (WD.e<|za (i:=0) rfl) (WD.e<|za (i:=1) rfl)<|BX (hr v m).1 hj⟩
def NJ{k w:Nat}{r:List (List Pt)}(hk:k<=2)(w3:w<=3)(hr:∀v ∈ r,VL k w v)(hl:r.length<=1000):RE (wQ [(true,.str<|kd k),(true,.int w),(true,zD r)]) (vD<|hv k w r):=by
 have t:=zy (TN (as:=[sT<|.str<|kd k,sI w,sT<|zD r]) k (WI hk) (i:=0) rfl) rfl;have fin:∀z,tupP [.lst<|(List.range w).map z]=some (.im<|.tup<|(List.range w).map z):=λ_=>rfl;rw[Ha r hr];show RE _ (.tup<|((List.range w).map λj=>sm k<|r.map λv=>at_ v j).map pD);rw[zyA]
 by_cases h0:k=0
 . subst h0;refine zA rfl<|zT<|yd t<|zq<|xb (xq (it:=λj:Nat=>(true,D.int ((j:Nat):Int))) (List.range w) (Uh (za (i:=1) rfl)<|by omega) (by rw[zyS];omega) λj mj=>⟨[sI j,sT<|zD r],rfl,xb (E2 hr hl (List.mem_range.mp mj) (WD.e<|za (i:=1) rfl) λ_=>rfl) ?_⟩)<|fin _;show(vH _).bind _=some (R0.im<|pD<|sm 0<|r.map λv=>at_ v j);rw[sC λp m=>by obtain⟨v,mv,rfl⟩:=zyZ.mp m;exact C8 (hr v mv) (List.mem_range.mp mj) rfl,RZ,tR];rfl
 . rw[zyF h0]at t;exact zA rfl<|zj (zk t rfl)<|zq<|xb (xq (it:=λj:Nat=>(true,D.int ((j:Nat):Int))) (List.range w) (Uh (za (i:=1) rfl)<|by omega) (by rw[zyS];omega) λj mj=>⟨[sI j,sT<|.str<|kd k,sT<|zD r],rfl,yb (WD.e<|za (i:=1) rfl) (E2 hr hl (List.mem_range.mp mj) (WD.e<|za (i:=2) rfl) λ_=>rfl)<|NK h0 hk<|by rw[zzB];exact hl⟩)<|fin _
abbrev pr(q:Pt×Pt):D:=.tup [pD q.1,pD q.2]
def BH(a b:Pt):zp .NotIn .non (pr (a,b))=some (.im<|.bl<|a.isSome&&b.isSome):=by cases a<;>cases b<;>rfl
def SN{as:AS}{f:EF}(P:List (Pt×Pt))(h:WE f as (.lst<|P.map pr)):xx f as=some (P.map λq=>(true,pr q),as):=by
 rw[Fh h,zyA];rfl
def A2{as:AS}{f:EF}{u v:List Pt}{cap:List (Option Nat)}(hu:Ok 0 u)(hv:Ok 0 v)(h:WE f as (.lst<|(u.zip v).map pr))(hc:X8 cap as=[none,none]):WE (fP (aC (zQ (xx f) cap (gT 2<|wL yI<|wL (gN 1) QM) yP<|f2 zi zg yf) aN) FJ) as (pD<|ac 0 u v):=by
 have hm:=xq (cap:=cap) (gg:=gT 2<|wL yI<|wL (gN 1) QM) (fe:=f2 zi zg yf) (h:=λq:Pt×Pt=>D.int<|q.1.getD 0*q.2.getD 0) (it:=λq=>(true,pr q)) (u.zip v) (SN _ h) (by rw[List.length_zip];have:=hu.len;omega) λq hq=>⟨[sT<|pD q.1,sT<|pD q.2],by rw[hc];exact TJ (zl rfl)<|zl rfl,by
  obtain⟨a,b⟩:=q;have ha:=hu.vl a (List.of_mem_zip hq).1 rfl;have hb:=hv.vl b (List.of_mem_zip hq).2 rfl;have ba:=hu.bg rfl a (List.of_mem_zip hq).1;have bb:=hv.bg rfl b (List.of_mem_zip hq).2;cases a with
  |none=>exact absurd rfl ha
  |some a=>
   cases b with
   |none=>exact absurd rfl hb
   |some b=>exact WD.e (Rq (za (i:=0) rfl) (za (i:=1) rfl) ba bb)⟩
 refine xb hm ?_;rw[show((u.zip v).map λq:Pt×Pt=>D.int<|q.1.getD 0*q.2.getD 0)=((u.zip v).map λq:Pt×Pt=>q.1.getD 0*q.2.getD 0).map D.int by rw[zyA];rfl];show(vH _).bind _=some (R0.im<|pD<|sm 0<|List.zipWith (tm 0) u v);rw[RZ,LC];rfl
def adds{k:Nat}(h0:k≠0){as:AS}{f:EF}{u v:List Pt}{cap:List (Option Nat)}(hu:u.length<=1000)(h:WE f as (.lst<|(u.zip v).map pr))(hc:X8 cap as=[none])(hc2:X8 [none,none] as=[none,none]):WE (zQ (xx<|zQ (xx f) cap yI (fT<|f2 (fC .non) zi<|zp .NotIn) zi) [none,none] (gT 2<|wL yI<|wL (gN 1) QM) yP<|f2 zi zg zx) as (.lst<|((List.zipWith (tm k) u v).filterMap id).map D.int):=by
 have lz:(u.zip v).length<=1000:=by rw[List.length_zip];omega
 have hi:=K3 (cap:=cap) (gg:=gN 0) (tt:=fT<|f2 (fC .non) zi<|zp .NotIn) (fe:=fV 0) (p:=λq:Pt×Pt=>q.1.isSome&&q.2.isSome) (h:=pr) (it:=λq:Pt×Pt=>(true,pr q)) (u.zip v) (SN _ h) (by omega) λq _=>⟨[sT<|pr q],by rw[hc];rfl,zy (zN zc (za (i:=0) rfl) (BH q.1 q.2) rfl) rfl,λ_=>WD.e<|za (i:=0) rfl⟩;have ho:=xq (cap:=[none,none]) (gg:=gT 2<|wL yI<|wL (gN 1) QM) (fe:=f2 zi zg zx) (h:=λq:Pt×Pt=>D.int<|q.1.getD 0+q.2.getD 0) (it:=λq=>(true,pr q)) ((u.zip v).filter λq=>q.1.isSome&&q.2.isSome) (SN _ hi) (by have:=List.length_filter_le (λq:Pt×Pt=>q.1.isSome&&q.2.isSome)<|u.zip v;omega) λq hq=>⟨[sT<|pD q.1,sT<|pD q.2],by rw[hc2];exact TJ (zl rfl)<|zl rfl,by
  obtain⟨a,b⟩:=q;have e:=(List.mem_filter.mp hq).2;cases a with
  |none=>exact nomatch e
  |some a=>
   cases b with
   |none=>exact nomatch e
   |some b=>exact WD.e (y_ (za (i:=0) rfl)<|za (i:=1) rfl)⟩
 rw[<-LP h0,zyA];exact ho
def HD{k:Nat}(h0:k≠0)(l:List Pt)(q:Pt):sm k ((l.filterMap id).map some++[q])=jn k (sm k l) q:=by
 have v:∀p:Pt,Vl k p:=λ_ e=>absurd e h0;rw[SO _ _ λp _=>v p]
 congr 1
 . rw[<-Xd h0,<-Xd h0 l]
   congr 1
   rw[List.filterMap_map];exact List.filterMap_some
 . exact PL<|v q
abbrev m7(k:Nat)(T:Wt)(v:List Pt)(M:List Pt)(a b e:Option O):AS:=[sT<|.str<|kd k,sT<|wD T,sT<|vD v,sL<|M.map pD,a,b,e]
abbrev mB:SF:=(zt (zL true 5<|zQ (ZP (aC (fP yz yx) aN) ZC) [none,some 2,some 4,some 1] yI yP<|yg<|dC (f2 (f2 (f2 zY z_ yj) zF yj) zi yj)<|dC (f2 zg zi yj) dN)
 (yU (fT<|f2 zi (fC<|.str "sums")<|zp .Eq) (xB<|ZM 3 (dC (f2 (fP (aC (zQ (xx yK) [none,none] (gT 2<|wL yI<|wL (gN 1) QM) yP<|f2 zi zg yf) aN) FJ) (f2 (f2 zg zV yj) yi yj) zx) dN) vN)<|zt (zL true 6<|zQ (xx<|zQ (xx yK) [none] yI (fT<|f2 (fC .non) zi<|zp .NotIn) zi) [none,none] (gT 2<|wL yI<|wL (gN 1) QM) yP<|f2 zi zg zx)
 (xB<|ZM 3 (dC (zd (aC zi<|aC (f2 yr (yt<|dC (f2 (f2 zg zV yj) yi yj) dN) zx) aN) ZU) dN) vN)))
section
variable{k w l b:Nat}{T:Wt}{v:List Pt}
def Hz{as:AS}{f:EF}(h:WD f as true (vD v))(hv:v.length=w):WD (fP (aC f aN) yx) as true (.int w):=by
 have:=y2 (g:=yx) (x:=.int ((v.map pD).length:Nat)) (yy h ym) rfl rfl;rw[zzB,hv]at this;exact this
def sM{as:AS}{a e:EF}{i:Nat}{R:List (List Pt)}{x:List Pt}(ha:WE a as (.tup<|R.map vD))(he:WE e as (.int (i:Int)))(hx:R[i]? = some x):WE (f2 a e yj) as (vD x):=wb ha he (by
 show Hw (atI _ _)=_;rw[V8 (v:=vD x)<|by rw[zzI,hx];rfl];rfl)
def IV{u v:List Pt}(hu:u.length=w)(hv:v.length=w):((List.range w).map λj=>(at_ u j,at_ v j))=u.zip v:=by
 have e1:=PY u;have e2:=PY v;rw[hu]at e1;rw[hv]at e2
 conv=>rhs;rw[<-e1,<-e2,List.zip_map']
def AC(hk:k=0->∀p ∈ v,Z p<=2 ^ l)(hv:VL k w v)(w3:w<=3)(g:l<=600000):Ok k v:=⟨by rw[hv.1];omega,hv.2,λe p m=>SB (hk e p m) g⟩
def HJ(hk:k<=2)(w3:w<=3)(hT:WO k w b T)(hv:VO k w l v)(hl:l+b<=LM){M:List Pt}{i:Nat}(hi:i<w)(hM:M.length=i){x y:Option O}:∃x' y',mB (m7 k T v M (sI i) x y)=some (.nx<|m7 k T v (M++[at_ (md k T v 1) i]) (sI i) x' y'):=by
 have hl:l+b<=500000:=hl;have hr:i<T.1.length:=by rw[hT.r];exact hi
 have hm:i<T.2.length:=by rw[hT.m.1];exact hi
 have ri:=zzE hr;have mr:=zyW hr;generalize T.1[i]=u at ri mr;have hu:=hT.x u mr;have ou:Ok k u:=AC (λe p m=>hT.zr e u mr p m) hu w3 (by omega);have ov:Ok k v:=AC hv.z hv.toVL w3 (by omega);have s5:=yQ (p:=5) (as:=m7 k T v M (sI i) x y) (xq (cap:=[none,some 2,some 4,some 1]) (gg:=gN 0) (fe:=yg<|dC (f2 (f2 (f2 zY z_ yj) zF yj) zi yj)<|dC (f2 zg zi yj) dN) (h:=λj=>pr (at_ u j,at_ v j)) (it:=λj:Nat=>(true,D.int ((j:Nat):Int))) (List.range w) (Uh (Hz (za (i:=2) rfl) hv.1.1)<|by omega) (by rw[zyS];omega) λj mj=>⟨[sI j,sT<|vD v,sI i,sT<|wD T],rfl,yE (wb (sM (wb (WD.e<|za (i:=3) rfl) (WD.e zc) Dw) (WD.e<|za (i:=2) rfl) ri) (WD.e<|za (i:=0) rfl)<|BX hu.1<|List.mem_range.mp mj)<|wb (WD.e<|za (i:=1) rfl) (WD.e<|za (i:=0) rfl)<|BX hv.1.1<|List.mem_range.mp mj⟩)<|zl rfl;rw[show((List.range w).map λj=>pr (at_ u j,at_ v j))=(u.zip v).map pr by rw[<-IV hu.1 hv.1.1,zyA];rfl]at s5;have t:=zy (TN (as:=m7 k T v M (sI i) (sT<|.lst<|(u.zip v).map pr) y) k (WI hk) (i:=0) rfl) rfl;have wq:∀(x y:Option O),WE (f2 (f2 zg zV yj) yi yj) (m7 k T v M (sI i) x y) (pD<|at_ T.2 i):=λx y=>wb (wb (WD.e<|za (i:=1) rfl) (WD.e zc) D3) (WD.e<|za (i:=4) rfl)<|BX hT.m.1 hi;have vq:Vl k (at_ T.2 i):=C8 hT.m hi;have eM:at_ (md k T v 1) i=jn k (ac k u v) (at_ T.2 i):=by
  show((List.zipWith (jn k) (T.1.map λr=>ac k r v)<|T.2.map<|of k 1)[i]?).getD none=_;rw[Ao hT.m.2,List.getElem?_zipWith,zzI,ri,zzE hm];show jn k (ac k u v) T.2[i]=jn k (ac k u v) ((T.2[i]?).getD none);rw[zzE hm];rfl
 rw[eM];have ap:∀{e:EF}{x y:Option O}{q:Pt},WE e (m7 k T v M (sI i) x y) (pD q)->xB (ZM 3 (dC e dN) vN) (m7 k T v M (sI i) x y)=some (.nx<|m7 k T v (M++[q]) (sI i) x y):=λ{e x y q} h=>by
  rw[Ib (ds:=M.map pD) rfl (by rw[zzB];omega)<|Jm (OI q) h,show M.map pD++[pD q]=(M++[q]).map pD by rw[zyK];rfl];rfl
 by_cases h0:k=0
 . subst h0;refine⟨_,_,zK s5<|vV t<|ap ?_⟩;have h1:=A2 (as:=m7 0 T v M (sI i) (sT<|.lst<|(u.zip v).map pr) y) (cap:=[none,none]) ou ov (WD.e<|za (i:=5) rfl) rfl;refine wb h1 (wq _ _) ?_;generalize at_ T.2 i=q at vq
   cases q with
   |none=>exact absurd rfl (vq rfl)
   |some q=>
    show(ZK .Add (pD<|sm 0<|List.zipWith (tm 0) u v)<|pD<|some q)=some (.im<|pD<|jn 0 (sm 0<|List.zipWith (tm 0) u v)<|some q);rw[LC];rfl
 . rw[zyF h0]at t;have s6:=yQ (p:=6) (adds (k:=k) h0 (as:=m7 k T v M (sI i) (sT<|.lst<|(u.zip v).map pr) y) (cap:=[none]) (u:=u) (v:=v) ou.len (WD.e<|za (i:=5) rfl) rfl rfl)<|zl rfl;refine⟨_,_,zK s5<|zk t<|zK s6<|ap ?_⟩;have lz:(List.zipWith (tm k) u v).length<=3:=by rw[List.length_zipWith,hu.1];omega
   have lf:=List.length_filterMap_le id<|List.zipWith (tm k) u v;obtain⟨o,o1,o2,o3⟩:=wq (sT<|.lst<|(u.zip v).map pr)<|sT<|.lst<|((List.zipWith (tm k) u v).filterMap id).map D.int;have hs:=Iv (as:=m7 k T v M (sI i) (sT<|.lst<|(u.zip v).map pr)<|sT<|.lst<|((List.zipWith (tm k) u v).filterMap id).map D.int) (g:=ZK .Add) (WD.e<|za (i:=6) (x:=.lst<|((List.zipWith (tm k) u v).filterMap id).map D.int) rfl) (WC (x:=.lst [pD<|at_ T.2 i]) (os:=[o]) (YM o1 yB) (L0 rfl) (by show(o.str&&true)=true;rw[o2];rfl) (by show D.lst [o.toD]=_;rw[o3])) (add_lists<|by rw[zzB];exact Hv (by show _+1<=_;omega));have e:((List.zipWith (tm k) u v).filterMap id).map D.int++[pD<|at_ T.2 i]=(((List.zipWith (tm k) u v).filterMap id).map some++[at_ T.2 i]).map pD:=by rw[zyK,zyA];rfl
   rw[e]at hs;have hb:=NK (k:=k) (l:=((List.zipWith (tm k) u v).filterMap id).map some++[at_ T.2 i]) h0 hk (by rw[zzJ,zzB];show _+1<=_;omega);rw[HD h0]at hb;exact yb (WD.e<|za (i:=0) rfl) hs hb
def Ck(hk:k<=2)(w3:w<=3)(hT:WO k w b T)(hv:VO k w l v)(hl:l+b<=LM):RE (ZD [(true,.str<|kd k),(true,wD T),(true,vD v)]) (vD<|md k T v 1):=by
 have hM:=WL.md (v:=v) (n:=1) hT.toWL;obtain⟨as',run,M,a,b',e,rfl,h1,h2⟩:=H9 (fi:=ZP (aC (fP yz yx) aN) ZC) (g:=gN 4) (f:=mB) (as':=[]) (λi as=>∃M a b e,as=m7 k T v M a b e/\M.length=i/\M=(List.range i).map (at_<|md k T v 1)) (Uh (as:=m7 k T v [] none none none) (Hz (za (i:=2) rfl) hv.1.1)<|by omega) ⟨[],_,_,_,rfl,rfl,rfl⟩ λi x as hx hI=>by
  obtain⟨M,a,b',e,rfl,h1,h2⟩:=hI;obtain⟨rfl,hi⟩:=K8 hx;obtain⟨x',y',h⟩:=HJ hk w3 hT hv hl hi h1 (x:=b') (y:=e);exact⟨_,rfl,_,h,_,_,_,_,rfl,by rw[zzJ,h1];rfl,by rw[h2,List.range_succ,zyK];rfl⟩
 rw[zzB,zyS]at h1 h2;have e1:=PY<|md k T v 1;rw[hM.1]at e1;rw[e1]at h2;subst h2;exact zA rfl<|zj (Wr (i:=3) (Y5 yB<|L0 rfl)<|zl rfl)<|zj run<|zq<|WD.e<|Hq (i:=3) (ds:=(md k T v 1).map pD) rfl rfl
def NQ{r:List (List Pt)}(hk:k<=2)(w3:w<=3)(hT:WO k w b T)(hr:∀v ∈ r,VO k w l v)(hl:l+b<=LM)(lr:r.length<=1000):RE (xo [(true,.str<|kd k),(true,wD T),(true,zD r)]) (zD<|r.map λv=>md k T v 1):=by
 refine zA rfl<|zq ?_;show WE _ _ (.lst<|(r.map λv=>md k T v 1).map vD);rw[zyA];exact xq (it:=λv:List Pt=>(true,vD v)) r (CK r<|WD.e<|za (i:=2) rfl) (by omega) λv m=>⟨[sT<|vD v,sT<|.str<|kd k,sT<|wD T],rfl,zC (WD.e<|za (i:=1) rfl) (WD.e<|za (i:=2) rfl) (WD.e<|za (i:=0) rfl)<|Ck hk w3 hT (hr v m) hl⟩
theorem Ii{f:D->D->Option Bool}:∀xs:List D,(∀x ∈ xs,f x x=some true)->Om f xs xs=some true
 | [],_=>rfl
 |x::r,h=>by
  show((f x x).bind λb=>(Om f r r).bind λc=>some<|b&&c)=_;rw[h x zzF,Ii r λy my=>h y<|zzD _ my];rfl
def Dr{n:Nat}(v:List Pt):Wp (n+2) (vD v) (vD v)=some true:=Ii _ λx mx=>by
 obtain⟨p,_,rfl⟩:=zyZ.mp mx;rw[AB,zyM rfl]
def Sz{n:Nat}(r:List (List Pt)):Wp (n+3) (zD r) (zD r)=some true:=Ii _ λx mx=>by
 obtain⟨v,_,rfl⟩:=zyZ.mp mx;exact Dr v
def Fy(hk:k<=2)(hv:VL k w v)(w3:w<=3):RE (yL [(true,.str<|kd k),(true,vD v),(true,vD v)]) (.bl true):=by
 have t:WT (WX (v3<|fT<|Q1 zg "tuple")<|fT<|f2 zg zF<|zp .NotEq) [sT<|.str<|kd k,sT<|vD v,sT<|vD v,none] false:=
  P6 (k:=false) (VG (k:=true)<|zy (PP (q:=true) (za (i:=1) rfl) rfl) rfl) (λ_=>zy (UT (za (i:=1) rfl) (za (i:=2) rfl)<|Dr v) rfl) (λq=>nomatch q)
 obtain⟨as',run,a,rfl⟩:=H9 (fi:=WY zg) (g:=gN 3) (f:=yU (WX (ZV (fT<|f2 zY (fC .non)<|zp .Is)<|fT<|f2 zi (fC<|.str "sums")<|zp .Eq)<|ZV (fT<|f2 zY (fC .non)<|zp .IsNot)<|fT<|Q1 zY "bool") (zv<|fC<|.bl false) xD) (as':=[]) (λ_ as=>∃a,as=[sT<|.str<|kd k,sT<|vD v,sT<|vD v,a]) (B9 (as:=[sT<|.str<|kd k,sT<|vD v,sT<|vD v,none])<|za (i:=1) rfl) ⟨_,rfl⟩ λi x as hx hI=>by
  obtain⟨a,rfl⟩:=hI;rw[zyA,zzI]at hx;cases hp:v[i]? with
  |none=>rw[hp]at hx;cases hx
  |some p=>
   rw[hp]at hx;cases hx;have vp:=hv.2 p<|zzZ hp;refine⟨[sT<|.str<|kd k,sT<|vD v,sT<|vD v,sT<|pD p],rfl,_,zk (P6 (k:=false) (VJ (k:=p.isNone) (zy (JS<|za (i:=3) rfl) rfl) (λe=>?_) λe=>rfl) (λ_=>VJ (k:=p.isSome) (zy (Qy<|za (i:=3) rfl) rfl) (λe=>?_) λ_=>rfl) (λq=>nomatch q)) rfl,_,rfl⟩
   . have h0:k≠0:=λz=>by
      cases p with
      |none=>exact vp z rfl
      |some x=>exact nomatch e
     have t:=zy (TN (as:=[sT<|.str<|kd k,sT<|vD v,sT<|vD v,sT<|pD p]) k (WI hk) (i:=0) rfl) rfl;rw[zyF h0]at t;exact t
   . cases p with
     |none=>exact nomatch e
     |some x=>exact zy (PP (q:=false) (za (i:=3) (x:=.int x) rfl) rfl) rfl
 exact zA rfl<|zj (zk t rfl)<|zj run<|zq<|WD.e zc
end
section
variable{c:Cx}{d w:D}{R:List (List Pt)}{p l:Nat}
abbrev Mr(p:Nat)(r:List (List Pt)):D:=.tup [.int p,zD r]
def WK.vl{w:D}{R:List (List Pt)}{p:Nat}(k:WK c w R p):∀v ∈ R,VL c.k c.n v:=by
 induction k with
 |lf v hv=>exact λx mx=>by rcases zzC.mp mx with rfl|mx;exact hv;exact nomatch mx
 |nd _ _ _ _ i j=>exact λx mx=>(zzM.mp mx).elim (i x)<|j x
def WK.ne{w:D}{R:List (List Pt)}{p:Nat}(k:WK c w R p):R≠[]:=by
 induction k with
 |lf v hv=>exact List.cons_ne_nil _ _
 |nd _ _ _ _ i j=>exact λz=>i (List.append_eq_nil_iff.mp z).1
abbrev G6(c:Cx)(w:D)(a b e:Option O):AS:=[sT<|.str<|kd c.k,sI c.n,sT w,a,b,e]
theorem Td(h:c.Ok):∀(n:Nat) {w:D}{R:List (List Pt)}{p:Nat},WK c w R p->p<n->R.length<=1000->RE (yT n [(true,.str<|kd c.k),(true,.int c.n),(true,w)]) (Mr p R)
 |0,_,_,_,_,h,_=>absurd h (Nat.not_lt_zero _)
 |n+1,w,R,p,k,hp,hl=>by
  have hk:=k;cases k with
  |lf v hv=>
   have wl:WD (fP yz yx) (G6 c (.tup [vD v]) none none none) true (.int 1):=y2 (x:=.int 1) (g:=yx) (yy (za (i:=2) rfl) ym) rfl rfl;have t1:WT (WX (v3<|fT<|Q1 zF "tuple")<|ZV (fT<|f2 (fP yz yx) zV<|zp .NotEq)<|fT<|f2 (fP yz yx) LL<|zp .NotEq) (G6 c (.tup [vD v]) none none none) false:=
    P6 (k:=false) (VG (k:=true)<|zy (PP (q:=true) (za (i:=2) rfl) rfl) rfl) (λ_=>VJ (k:=false) (zy (UT (c:=true) wl zc rfl) rfl) (λq=>nomatch q) λ_=>rfl) (λq=>nomatch q)
   exact zA rfl<|zj (zk t1 rfl)<|zT<|yd (zy (Zb (c:=true) wl zc rfl) rfl)<|zq<|yE (WD.e zc)<|WC (os:=[.lf true<|vD v]) (wV (wC (j:=2) (i:=0) rfl rfl) yB) (L0 rfl) rfl rfl
  | @nd x y r s p q k k' b1 b2=>
   have hR:=hk.vl;rw[zzJ]at hl;have i1:=Td h n k (by omega) (by omega);have i2:=Td h n k' (by omega) (by omega);generalize hw:D.tup [vD<|c.h<|r++s,x,y]=w;have w0:∀a b e,WD (f2 zF z_ yj) (G6 c w a b e) true (vD<|c.h<|r++s):=λa b e=>by subst hw;exact wC (j:=2) (i:=0) rfl rfl
   have wl:WD (fP yz yx) (G6 c w none none none) true (.int 3):=by subst hw;exact y2 (x:=.int 3) (g:=yx) (yy (za (i:=2) rfl) ym) rfl rfl
   have t1:WT (WX (v3<|fT<|Q1 zF "tuple")<|ZV (fT<|f2 (fP yz yx) zV<|zp .NotEq)<|fT<|f2 (fP yz yx) LL<|zp .NotEq) (G6 c w none none none) false:=
    P6 (k:=false) (VG (k:=true)<|zy (by subst hw;exact PP (q:=true) (za (i:=2) rfl) rfl) rfl) (λ_=>VJ (k:=true) (zy (UT (c:=false) wl zc rfl) rfl) (λ_=>zy (UT (c:=true) wl zc rfl) rfl) (λq=>nomatch q)) (λq=>nomatch q)
   have t2:WT (fT<|f2 (fP yz yx) zV<|zp .Eq) (G6 c w none none none) false:=zy (Zb (c:=false) wl zc rfl) rfl;have s3:=yQ (p:=3) (as:=G6 c w none none none) (zC (WD.e<|za (i:=0) rfl) (WD.e<|za (i:=1) rfl) (by subst hw;exact WD.e<|wC (j:=2) (i:=1) rfl rfl) i1)<|zl rfl;have s4:=yQ (p:=4) (as:=G6 c w (sT<|Mr p r) none none) (zC (WD.e<|za (i:=0) rfl) (WD.e<|za (i:=1) rfl) (by subst hw;exact WD.e<|wC (j:=2) (i:=2) rfl rfl) i2)<|zl rfl;have w20:∀z,WD (f2 zY z_ yj) (G6 c w (sT<|Mr p r) (sT<|Mr q s) z) true (.int p):=λz=>wC (j:=3) rfl rfl;have w30:∀z,WD (f2 yi z_ yj) (G6 c w (sT<|Mr p r) (sT<|Mr q s) z) true (.int q):=λz=>wC (j:=4) rfl rfl;have t4:WT (WX (fT<|f2 zY (fC .non)<|zp .Is)<|WX (fT<|f2 yi (fC .non)<|zp .Is)<|fT<|f2 (fP (aC (f2 (f2 zY z_ yj) (f2 yi z_ yj) Yd) aN) Sb) zV<|zp .Gt) (G6 c w (sT<|Mr p r) (sT<|Mr q s) none) false:=
    P6 (k:=false) (zy (zN (z:=.bl false) (za (i:=3) rfl) zc rfl rfl) rfl) (λ_=>P6 (k:=false) (zy (zN (z:=.bl false) (za (i:=4) rfl) zc rfl rfl) rfl) (λ_=>by
     have:=SI (y2 (x:=.int<|if(p:Int)-q<0 then -((p:Int)-q)else(p:Int)-q) (g:=Sb) (yy (Up (w20 none)<|w30 none) ym) rfl rfl)<|zc (x:=.int 1);rw[zyF<|by split<;>omega]at this;exact zy this rfl) (λq=>nomatch q)) (λq=>nomatch q)
   have w5:WE (f2 (f2 zY zV yj) (f2 yi zV yj) zx) (G6 c w (sT<|Mr p r) (sT<|Mr q s) none) (zD<|r++s):=by
    have:=Iv (as:=G6 c w (sT<|Mr p r) (sT<|Mr q s) none) (WD.e<|wC (j:=3) (i:=1) (z:=zD r) rfl rfl) (WD.e<|wC (j:=4) (i:=1) (z:=zD s) rfl rfl) (add_lists (xs:=r.map vD) (ys:=s.map vD)<|by rw[zzB,zzB];exact Hv<|by omega);rw[<-zyK]at this;exact this
   have s5:=yQ (p:=5) w5<|zl rfl;have t6:WT (v3<|fT<|zd (aC zi<|aC (f2 zF z_ yj)<|aC (zd (aC zi<|aC zg T5) wQ) aN) yL) (G6 c w (sT<|Mr p r) (sT<|Mr q s)<|sT<|zD<|r++s) false:=
    VG (k:=true) (uS<|zC (WD.e<|za (i:=0) rfl) (WD.e<|w0 _ _ _) (zC (WD.e<|za (i:=0) rfl) (WD.e<|za (i:=1) rfl) (WD.e<|za (i:=5) rfl)<|NJ h.k2 h.n3 hR<|by rw[zzJ];exact hl)<|Fy h.k2 (VL.hv hR) h.n3)
   have w7:=y_ (as:=G6 c w (sT<|Mr p r) (sT<|Mr q s)<|sT<|zD<|r++s) (zc (x:=.int 1))<|y2 (x:=.int<|if(q:Int) > p then(q:Int)else p) (g:=Li) (yy (w20 _)<|yy (w30 _) ym) rfl rfl;rw[show 1+(if(q:Int) > p then(q:Int)else p)=((1+max p q:Nat):Int) by split<;>omega]at w7;exact zA rfl<|zj (zk t1 rfl)<|zj (zk t2 rfl)<|zj s3<|zj s4<|zj (zk t4 rfl)<|zj s5<|zj (zk t6 rfl)<|zq<|yE (WD.e w7)<|WD.e<|za (i:=5) rfl
abbrev T8(c:Cx)(t:D)(r:List (List Pt))(a b e:Option O):AS:=[sT c.w,sT<|.str<|kd c.k,sI c.n,sT t,sT<|zD r,a,b,e]
def O4(h:c.Ok)(k:OT c l d R)(hl:R.length<=1000):RE (vC [(true,c.w),(true,.str<|kd c.k),(true,.int c.n),(true,d),(true,zD R)]) (.bl true):=by
 have s5:=yQ (p:=5) (as:=T8 c d R none none none) (yb (WD.e<|za (i:=0) rfl) (WD.e<|za (i:=3) rfl)<|A7 h k hl)<|zl rfl;have t5:WT (WX (v3<|fT<|Q1 yK "list")<|fT<|f2 yK yi<|zp .NotEq) (T8 c d R (sT<|zD R) none none) false:=
  P6 (k:=false) (VG (k:=true)<|zy (PP (q:=true) (za (i:=5) rfl) rfl) rfl) (λ_=>zy (UT (za (i:=5) rfl) (za (i:=4) rfl)<|Sz R) rfl) (λq=>nomatch q)
 rcases k with⟨rfl,rfl⟩|⟨p,k⟩
 . have s6:=yQ (p:=6) (as:=T8 c .non [] (sT<|zD []) none none) (yb (z:=.tup []) (WD.e<|za (i:=0) rfl) (WD.e<|za (i:=3) rfl) (g:=y6 20)<|zA rfl<|zT<|yd (zy (zN (z:=.bl true) (za (i:=1) rfl) zc rfl rfl) rfl)<|zq ⟨_,Ld yB<|L0 rfl,rfl,rfl⟩)<|zl rfl;exact zA rfl<|zj s5<|zj (zk t5 rfl)<|zj s6<|zT<|yd (Q5 (ds:=[])<|za (i:=4) rfl)<|zq<|WD.e<|ud (g:=zp .Eq) (z:=.bl true) (WD.e<|za (i:=6) rfl) ⟨_,Ld yB<|L0 rfl,rfl,rfl⟩ rfl
 . have hd:=k.lt hl;obtain⟨w,w1,w2⟩:=KH h 20 k hd hl;have s6:=yQ (p:=6) (as:=T8 c d R (sT<|zD R) none none) (yb (WD.e<|za (i:=0) rfl) (WD.e<|za (i:=3) rfl) w1)<|zl rfl;have t7:WT (fT<|f2 yi (yt dN)<|zp .Eq) (T8 c d R (sT<|zD R) (sT w) none) false:=by
    have:=Q5 (as:=T8 c d R (sT<|zD R) (sT w) none) (f:=fV 4) (ds:=R.map vD)<|za (i:=4) rfl;rw[show(R.map vD).isEmpty=false by cases R with|nil=>exact absurd rfl w2.ne|cons=>rfl]at this;exact this
   have s7:=yQ (p:=7) (as:=T8 c d R (sT<|zD R) (sT w) none) (zC (WD.e<|za (i:=1) rfl) (WD.e<|za (i:=2) rfl) (WD.e<|za (i:=6) rfl)<|Td h 20 w2 hd hl)<|zl rfl;exact zA rfl<|zj s5<|zj (zk t5 rfl)<|zj s6<|zj (zk t7 rfl)<|zj s7<|zq<|WD.e<|Iz (k:=true) (zN (z:=.bl true) (za (i:=7) rfl) zc rfl rfl) (λ_=>Zb (wC (j:=7) (i:=1) (z:=zD R) rfl rfl) (za (i:=4) rfl)<|Sz R) (λq=>nomatch q)
end
abbrev KP:Type:=D×List (List Pt)
abbrev kQ(q:KP):D:=.tup [q.1,zD q.2]
abbrev kO(q:KP):O:=.lf true<|kQ q
theorem Yj:∀l:List KP,(l.map kO).all O.isLf=true/\O.strs (l.map kO)=true/\O.toDs (l.map kO)=l.map kQ
 | []=>⟨rfl,rfl,rfl⟩
 |q::l=>⟨(Yj l).1,(Yj l).2.1,congrArg (kQ q :: ·) (Yj l).2.2⟩
def SK{a b:EF}{as:AS}{x y:D}(ha:WD a as true x)(hb:WD b as true y):WD (yg<|dC a<|dC b dN) as true (.tup [x,y]):=Jy (wV ha<|wV hb yB) (L0 rfl) rfl
def keepR{as:AS}{i:Nat}{l:List KP}{a:EF}{q:KP}(h:as[i]? = some (sN<|l.map kO))(hl:l.length<1000)(ha:WD a as true (kQ q)):xB (ZM i (dC a dN) vN) as=some (.nx<|as.set i<|sN<|(l++[q]).map kO):=by
 rw[BZ h (by rw[zzB];exact zzK hl<|Hv<|by decide) ha,zyK];rfl
def FH{a:EF}{as:AS}{x:Int}{k:Nat}(ha:WD a as true (.int x))(hk:1<=k){b:EF}(hb:WD b as true (.int k)):∃w:Nat,w<k/\WD (f2 a b yA) as true (.int w):=by
 have h0:=zyL x (show(k:Int)≠0 by omega);have h1:=zyG x (show(0:Int)<k by omega);have:=ZI ha hb (by omega);rw[show x%(k:Int)=((x%(k:Int)).toNat:Int) by omega]at this;exact⟨_,by omega,this⟩
def tH{f:EF}{as:AS}{k:Int}(h:WD f as true (.int k)):oS f as=some (some k,as):=by
 unfold oS;unfold WD at h;rw[h];rfl
def u9{a b:EF}{as:AS}{r:List (List Pt)}{k:Nat}(ha:WD a as true (zD r))(hb:WD b as true (.int k))(hk:k<=r.length):WE (Ga a oN (oS b) LY) as (zD<|r.take k):=by
 have c1:=Sw (xs:=(r.take k).map vD) (ys:=(r.drop k).map vD);rw[<-zyK,List.take_append_drop,zzB,zzS,Nat.min_eq_left hk]at c1;exact TQ ha rfl (tH hb) c1
def Jh{a b:EF}{as:AS}{r:List (List Pt)}{k:Nat}(ha:WD a as true (zD r))(hb:WD b as true (.int k))(hk:k<=r.length):WE (Ga a (oS b) oN LY) as (zD<|r.drop k):=by
 have c1:=Nv (xs:=(r.take k).map vD) (ys:=(r.drop k).map vD);rw[<-zyK,List.take_append_drop,zzB,zzS,Nat.min_eq_left hk]at c1;exact TQ ha (tH hb) rfl c1
def II{f:EF}{as:AS}{r:List (List Pt)}(h:WD f as true (zD r)):WE (Ga f oN (oS<|f1 zV NS) D6) as (zD r.reverse):=by
 refine OZ (lo:=none) (hi:=some (-1)) (WD.e h) rfl (tH<|BJ zc) ?_;show(if(none:Option Int)=none/\some (-1:Int)=some (-1)then some (R0.fl (r.map vD).reverse)else none)=_;rw[if_pos ⟨rfl,rfl⟩,List.map_reverse]
def S9{a:EF}{as:AS}{r:List (List Pt)}(ha:WD a as true (zD r)):WD (fP (aC a aN) yx) as true (.int r.length):=by
 have:=y2 (g:=yx) (x:=.int ((r.map vD).length:Nat)) (yy ha ym) rfl rfl;rw[zzB]at this;exact this
def M6{a b:EF}{as:AS}{r s:List (List Pt)}(ha:WE a as (zD r))(hb:WE b as (zD s))(hl:r.length+s.length<=1000):WE (f2 a b zx) as (zD<|r++s):=by
 have:=Iv ha hb (add_lists (xs:=r.map vD) (ys:=s.map vD)<|by rw[zzB,zzB];exact Hv<|by omega);rw[<-zyK]at this;exact this
def tK{as:AS}{a b:D}{i j:Nat}(hi:i<as.length)(hj:j<as.length):gT 2 (wL (gN i)<|wL (gN j) QM) (true,.tup [a,b]) as=some ((as.set i<|sT a).set j<|sT b):=by
 show wL (gN i) (wL (gN j) QM) (kids true [a,b]) as=_;rw[X6];show(gN i (true,a) as).bind _=_;unfold gN;rw[if_pos hi];show((if j<(as.set i<|sT a).length then _ else _:Option AS)).bind _=_;rw[if_pos<|by rw[zzU];exact hj];rfl
def JM{as:AS}{f:EF}{a b:D}{i j:Nat}(h:WE f as (.tup [a,b]))(hi:i<as.length)(hj:j<as.length):KB f (gT 2<|wL (gN i)<|wL (gN j) QM) as=some (.nx<|(as.set i<|sT a).set j<|sT b):=by
 obtain⟨o,h,h1,h2⟩:=h;exact Jl h (by rw[h1,h2];exact tK hi hj)
def JC{a b c d e:EF}{as:AS}{x y z u v w:D}{g:List (Bool×D)->Option O}(ha:WE a as x)(hb:WE b as y)(hc:WE c as z)(hd:WE d as u)(he:WE e as v)(hg:RE (g [(true,x),(true,y),(true,z),(true,u),(true,v)]) w):WE (zd (aC a<|aC b<|aC c<|aC d<|aC e aN) g) as w:=by
 obtain⟨o,h1,h2⟩:=hg;exact⟨o,VY (vK ha<|vK hb<|vK hc<|vK hd<|vK he ym) (by show g [(zE x||true,x),(zE y||true,y),(zE z||true,z),(zE u||true,u),(zE v||true,v)]=_;simp only[zyC];exact h1),h2⟩
def sQ(n:Nat)(p:Pt):V9 (n+1) (pD p)=true:=by cases p<;>rfl
def DT(n:Nat)(v:List Pt):V9 (n+2) (vD v)=true:=by
 show(v.map pD).all (V9<|n+1)=true;rw[List.all_map];exact List.all_eq_true.mpr λp _=>sQ n p
def Dz(n:Nat)(r:List (List Pt)):(r.map vD).all (V9<|n+2)=true:=by
 rw[List.all_map];exact List.all_eq_true.mpr λv _=>DT n v
def sH(n:Nat)(r:List (List Pt)):V9 (n+3) (zD r)=true:=by
 show(OP (r.map vD)&&(r.map vD).all (V9<|n+2))=true;rw[Dz n r,Bool.and_true];cases r with
 |nil=>rfl
 |cons v r=>
  show(v.map pD).all LX=true;rw[List.all_map];exact List.all_eq_true.mpr λp _=>by cases p<;>rfl
def sW(n:Nat)(w:Option Wt):V9 (n+4) (Xl w)=true:=by
 cases w with
 |none=>rfl
 |some T=>
  show((T.1.map vD).all (V9<|n+2)&&(V9 (n+3) (vD T.2)&&true))=true;rw[Dz n T.1,DT<|n+1];rfl
section
variable{c:Cx}{x y d:D}{r s R:List (List Pt)}{p q l:Nat}
def sY(k:TK c l d R p):∀n,p<=n->V9 (n+5) d=true:=by
 induction k with
 |lf v t=>
  intro n _;show(V9 (n+4) (vD v)&&(V9 (n+4) (vD v)&&(true&&(true&&(true&&(true&&(true&&(true&&true))))))))=true;rw[DT<|n+2];rfl
 | @nd l b L w t x y r s p q R _ _ _ _ _ _ _ _ i j=>
  intro n hn;cases n with
  |zero=>omega
  |succ n=>
   show(V9 (n+5) (vD<|c.h R)&&(V9 (n+5) (vD<|c.h R.reverse)&&(V9 (n+5) (Xl w)&&(true&&(V9 (n+5) x&&(V9 (n+5) y&&(true&&(true&&true))))))))=true;rw[DT<|n+3,DT<|n+3,sW (n+1) w,i n (by omega),j n<|by omega];rfl
abbrev KO(c:Cx)(l:Nat)(q:KP):Prop:=OT c l q.1 q.2/\q.2.length<=30
def sX{q:KP}(k:KO c l q):V9 60 (kQ q)=true:=by
 show(V9 59 q.1&&(V9 59 (zD q.2)&&true))=true;rw[sH 56 q.2];obtain⟨⟨e,_⟩|⟨p,k⟩,hl⟩:=k
 . rw[e];rfl
 . rw[sY k 54<|by have:=k.lt (by omega);omega];rfl
def s_{m:List KP}(h:∀q ∈ m,KO c l q):(m.map kQ).all (V9 60)=true:=by
 rw[List.all_map];exact List.all_eq_true.mpr λq mq=>sX<|h q mq
abbrev Rl(r:Option Out)(l:List KP):Prop:=∃os,r=some (.rt<|.nd .ls os)/\O.strs os=true/\O.toDs os=l.map kQ
def M3{a b:EF}{as:AS}(ha:WE a as x)(hb:WE b as (zD r)):Rl (zv (yt<|dC (yg<|dC a<|dC b dN) dN) as) [(x,r)]:=by
 obtain⟨o,h,h1,h2⟩:=yE ha hb;refine⟨[o],Fu (Y5 (YM h yB)<|L0 rfl) (by show(o.str&&true)=true;rw[h1];rfl),by show(o.str&&true)=true;rw[h1];rfl, ?_⟩;show[o.toD]=_;rw[h2];rfl
def uD{a b e f:EF}{as:AS}(ha:WE a as x)(hb:WE b as (zD r))(he:WE e as y)(hf:WE f as (zD s)):Rl (zv (yt<|dC (yg<|dC a<|dC b dN)<|dC (yg<|dC e<|dC f dN) dN) as) [(x,r),(y,s)]:=by
 obtain⟨o,h,h1,h2⟩:=yE ha hb;obtain⟨o',h',h1',h2'⟩:=yE he hf;have st:O.strs [o,o']=true:=by show(o.str&&(o'.str&&true))=true;rw[h1,h1'];rfl
 refine⟨[o,o'],Fu (Y5 (YM h<|YM h' yB)<|L0 rfl) st,st, ?_⟩;show[o.toD,o'.toD]=_;rw[h2,h2'];rfl
def Az{m:List KP}{i:Nat}(hi:i<m.length):∃q,q ∈ m/\L2.atI (m.map kQ) (-1-(i:Int))=some (kQ q):=by
 have hj:m.length-1-i<m.length:=by omega
 refine⟨m[m.length-1-i],zyW _, ?_⟩;unfold L2.atI L2.ixN;rw[zzB,if_neg (by omega),if_pos (by omega),show(-1-(i:Int)+(m.length:Int)).toNat=m.length-1-i by omega];show(m.map kQ)[m.length-1-i]? = _;rw[zzI,zzE hj];rfl
def uJ{z j:Int}{i:Nat}(hz:z.natAbs<bg)(h0:0<=j)(h1:j<=400):∃x:Int,x.natAbs<bg/\∀as:AS,as[i]? = some (sI z)->WD (zd (aC (fV i)<|aC (fC<|.int j) aN) zo) as true (.int x):=by
 obtain⟨x,h,g⟩:=Pn hz h0 h1;exact⟨x,h,λas a=>Jm rfl<|yb (WD.e<|za a) (WD.e zc)<|RE.i g⟩
end
abbrev nB:SF:=(zt (yU (ZV (fT<|f2 (fV 9) z_<|zp .Eq)<|fT<|f2 (f2 (fP (aC yr aN) yx) (fP (aC (fV 8) aN) yx) zx) (fC<|.int 30)<|zp .LtE) (zv<|yt<|dC (yg<|dC (zd (aC zi<|aC yK FR)<|zu 20)<|dC (f2 yr (fV 8) zx) dN) dN) xD)
 (zt (yU (fT<|f2 (fV 9) zV<|zp .Eq) (zt (zL true 11<|f2 (zd (aC yi<|aC (fC<|.int 95) aN) zo) (f2 (fP (aC yr aN) yx) zV zx) yA)
 (zt (KB (zd (aC zi<|aC yK<|aC RJ aN)<|yk 20)<|gT 2<|wL (gN 12)<|wL (gN 13) QM)
 (zv<|yt<|dC (yg<|dC (fV 12)<|dC (Ga yr oN (oS RJ) LY) dN)<|dC (yg<|dC (fV 13)<|dC (Ga yr (oS RJ) oN LY) dN) dN))) xD)
 (zt (yU (fT<|f2 (fV 9) WZ<|zp .Eq) (zv<|yt<|dC (yg<|dC (zd (aC zi<|aC yK<|aC (yC xk "wait_of" zi<|aC (fV 10) aN) aN) yw)<|dC (zd (aC zg<|aC (fV 10)<|aC yr aN) xo) dN) dN) xD)
 (zt (yU (fT<|f2 (fV 9) LL<|zp .Eq) (zt (zL true 14<|zd (aC zg<|aC zF<|aC (zd (aC yi<|aC (fC<|.int 96) aN) zo) aN) ZQ)
 (zt (zL true 15<|yC Yx "behind" zi<|aC (yC xk "wait_of" zi<|aC (fV 10) aN)<|aC (yC xk "wait_of" zi<|aC (fV 14) aN) aN)
 (zv<|yt<|dC (yg<|dC (zd (aC zi<|aC yK<|aC (fV 15) aN) yw)<|dC (zd (aC zg<|aC (fV 14)<|aC (zd (aC zg<|aC (fV 10)<|aC yr aN) xo) aN) xo) dN) dN))) xD)
 (zt (yU (fT<|f2 (fV 9) S4<|zp .Eq) (zv<|yt<|dC (yg<|dC (zd (aC zi T5) yR)<|dC (Ga yr oN (oS<|f1 zV NS) D6) dN) dN) xD)
 (zt (yU (fT<|f2 (fP (aC yr aN) yx) (fC<|.int 29)<|zp .Gt) (zv<|yt<|dC (yg<|dC yK<|dC yr dN) dN) xD)
 (zt (zL true 16<|zd (aC zg<|aC zF<|aC (zd (aC yi<|aC (fC<|.int 97) aN) zo) aN) xS)
 (zt (yU (fT<|f2 (fV 9) U6<|zp .Eq) (zv<|yt<|dC (yg<|dC (zd (aC zi<|aC (zd (aC zi<|aC (yt<|dC (fV 16) dN) aN)<|ya 20) T5)<|zu 20)<|dC (f2 (yt<|dC (fV 16) dN) yr zx) dN) dN) xD)
 (zv<|yt<|dC (yg<|dC (zd (aC zi<|aC yK<|aC (zd (aC zi<|aC (yt<|dC (fV 16) dN) aN)<|ya 20) aN)<|zu 20)<|dC (f2 yr (yt<|dC (fV 16) dN) zx) dN) dN)))))))))
abbrev DS(c:Cx)(l:List KP)(z:Int)(x5 x6 x7 x8 x9 x10 x11 x12 x13 x14 x15 x16:Option O):AS:=[sT c.w,sT<|.str<|kd c.k,sI c.n,sT<|.lst<|l.map kQ,sI z,x5,x6,x7,x8,x9,x10,x11,x12,x13,x14,x15,x16]
section
variable{c:Cx}
def Jv(h:c.Ok){l:List KP}{e:Nat}(l1:1<=l.length)(lm:l.length<=900)(e0:190<=e)(eM:e+404<=LM)(hk:∀q ∈ l,KO c e q){z:Int}(hz:z.natAbs<bg):∃(l':List KP) (os:List O),Zw [(true,c.w),(true,.str<|kd c.k),(true,.int c.n),(true,.lst<|l.map kQ),(true,.int z)]=sN os/\O.strs os=true/\O.toDs os=l'.map kQ/\l'.length<=2/\∀q ∈ l',KO c (e+404) q:=by
 have eM':e+404<=500000:=eM;have n1:=h.n1;have n3:=h.n3;have mz:∀j:Int,0<=j->j<=400->∃x:Int,x.natAbs<bg/\∀as:AS,as[4]? = some (sI z)->WD (zd (aC yi<|aC (fC<|.int j) aN) zo) as true (.int x):=λj=>uJ hz;have ln:∀{as:AS},as[3]? = some (sT<|.lst<|l.map kQ)->WD (fP RP yx) as true (.int (l.length:Nat)):=λ{as} hz=>by
  have:=y2 (g:=yx) (x:=.int ((l.map kQ).length:Nat)) (yy (za (as:=as) hz) ym) rfl rfl;rw[zzB]at this;exact this
 have pk:∀{as:AS}(j:Int),as[3]? = some (sT<|.lst<|l.map kQ)->as[4]? = some (sI z)->0<=j->j<=400->∃q,q ∈ l/\WE (f2 zY (f2 (f1 zV NS) (f2 (zd (aC yi<|aC (fC<|.int j) aN) zo) (fP (aC BM<|aC (fP RP yx) aN) K1) yA) Yd) yj) as (kQ q):=λ{as} j h2 h3 j0 j1=>by
  have wm:=y2 (x:=.int<|if(l.length:Int)<8 then(l.length:Int)else 8) (g:=K1) (yy (zc (x:=.int 8))<|yy (ln h2) ym) rfl rfl;rw[show(if(l.length:Int)<8 then(l.length:Int)else 8)=((min 8 l.length:Nat):Int) by split<;>omega]at wm;obtain⟨x,_,g⟩:=mz j j0 j1;obtain⟨i,li,wi⟩:=FH (g as h3) (k:=min 8 l.length) (by omega) wm;obtain⟨q,mq,eq⟩:=Az (m:=l) (i:=i) (by omega);exact⟨q,mq,WD.e<|B_ (za h2) (Up (BJ<|zc (x:=.int 1)) wi) (by show Hw (L2.atI (l.map kQ) (-1-(i:Int)))=_;rw[eq];rfl)⟩
 obtain⟨⟨d,R⟩,m0,wd⟩:=pk (as:=DS c l z none none none none none none none none none none none none) 91 rfl rfl (by decide) (by decide);have s5:=JM (i:=5) (j:=6) wd (zl rfl)<|zl rfl;obtain⟨⟨d',S⟩,me,we⟩:=pk (as:=DS c l z (sT d) (sT<|zD R) none none none none none none none none none none) 92 rfl rfl (by decide) (by decide);have s7:=JM (i:=7) (j:=8) we (zl rfl)<|zl rfl;obtain⟨x9,_,g9⟩:=mz 93 (by decide) (by decide);obtain⟨t,lt,w9⟩:=FH (g9 (DS c l z (sT d) (sT<|zD R) (sT d') (sT<|zD S) none none none none none none none none) rfl) (k:=9) (by decide)<|zc (x:=.int (9:Nat));have s9:=vX (st:=true) (i:=9) w9<|zl rfl;obtain⟨x10,h10,g10⟩:=mz 94 (by decide) (by decide);obtain⟨T,hT,rT⟩:=Mn h.k2 n3 h10;have s10:=yQ (p:=10) (zC (WD.e<|za (i:=1) rfl) (WD.e<|za (i:=2) rfl) (WD.e<|g10 (DS c l z (sT d) (sT<|zD R) (sT d') (sT<|zD S) (sI t) none none none none none none none) rfl) rT)<|zl rfl;have kd_:OT c e d R:=(hk _ m0).1;have ke:OT c e d' S:=(hk _ me).1;have ld:R.length<=30:=(hk _ m0).2;have le:S.length<=30:=(hk _ me).2;let A:Option O->Option O->Option O->Option O->Option O->Option O->AS:=λx11 x12 x13 x14 x15 x16=>DS c l z (sT d) (sT<|zD R) (sT d') (sT<|zD S) (sI t) (sT<|wD T) x11 x12 x13 x14 x15 x16;have v0:∀a b f g i j,WD zi (A a b f g i j) true c.w:=λ_ _ _ _ _ _=>za (i:=0) rfl;have v1:∀a b f g i j,WE zg (A a b f g i j) (.str<|kd c.k):=λ_ _ _ _ _ _=>WD.e<|za (i:=1) rfl;have v2:∀a b f g i j,WE zF (A a b f g i j) (.int c.n):=λ_ _ _ _ _ _=>WD.e<|za (i:=2) rfl;have v5:∀a b f g i j,WE yK (A a b f g i j) d:=λ_ _ _ _ _ _=>WD.e<|za (i:=5) rfl;have v6:∀a b f g i j,WD yr (A a b f g i j) true (zD R):=λ_ _ _ _ _ _=>za (i:=6) rfl;have v8:∀a b f g i j,WD (fV 8) (A a b f g i j) true (zD S):=λ_ _ _ _ _ _=>za (i:=8) rfl;have v10:∀a b f g i j,WE (fV 10) (A a b f g i j) (wD T):=λ_ _ _ _ _ _=>WD.e<|za (i:=10) rfl;have te:∀u:Nat,WT (fT<|f2 (fV 9) (fC<|.int u)<|zp .Eq) (A none none none none none none) (decide (t=u)):=λu=>zy (Zb (c:=decide (t=u)) (za (i:=9) (x:=.int t) (s:=true) rfl) (zc (x:=.int u)) (by
  show some ((t:Int)==u)=_
  by_cases z:t=u
  . rw[z,zyM rfl,beq_self_eq_true]
  . rw[zyF z,beq_eq_false_iff_ne.mpr<|by omega])) rfl
 have up:∀{u:D}{r:List (List Pt)},OT c e u r->OT c (e+404) u r:=λk=>k.up (by omega) eM;have one:∀{u:D}{r:List (List Pt)},OT c (e+404) u r->r.length<=30->∀q ∈ [(u,r)],KO c (e+404) q:=λhx hr q mq=>by
  rcases zzC.mp mq with rfl|mq
  . exact⟨hx,hr⟩
  . exact nomatch mq
 have fin:∀{l':List KP},l'.length<=2->(∀q ∈ l',KO c (e+404) q)->Rl (nB<|A none none none none none none) l'->∃(l':List KP) (os:List O),Zw [(true,c.w),(true,.str<|kd c.k),(true,.int c.n),(true,.lst<|l.map kQ),(true,.int z)]=sN os/\O.strs os=true/\O.toDs os=l'.map kQ/\l'.length<=2/\∀q ∈ l',KO c (e+404) q:=λ{l'} h2 hq hr=>by
  obtain⟨os,e1,e2,e3⟩:=hr;exact⟨l',os,Wh rfl<|zK s5<|zK s7<|zK s9<|zK s10 e1,e2,e3,h2,hq⟩
 have rq:∀{f g:SF}{as:AS}{l'},Rl (f as) l'->Rl (zt f g as) l':=λ⟨os,e,q⟩=>⟨os,V6 e,q⟩;have rt:∀{u:TF}{f g:SF}{as:AS}{l'},WT u as true->Rl (f as) l'->Rl (yU u f g as) l':=λhu ⟨os,e,q⟩=>⟨os,vV hu e,q⟩;have rn:∀{f g:SF}{as as1:AS}{l'},f as=some (.nx as1)->Rl (g as1) l'->Rl (zt f g as) l':=λhf ⟨os,e,q⟩=>⟨os,zK hf e,q⟩;have t0:=VJ (l:=decide (t=0)&&decide (R.length+S.length<=30)) (te 0) (λq=>by
  rw[q,Bool.true_and];have:=zy (Dm (y_ (S9<|v6 none none none none none none)<|S9<|v8 none none none none none none)<|zc (x:=.int 30)) rfl;rw[show decide ((R.length:Int)+S.length<=30)=decide (R.length+S.length<=30)from decide_eq_decide.mpr<|by omega]at this;exact this) (λq=>by rw[q];rfl)
 cases g0:(decide (t=0)&&decide (R.length+S.length<=30))with
 |true=>
  rw[g0]at t0;rw[zyB]at g0;have g0:=of_decide_eq_true g0.2;obtain⟨f,f1,f2⟩:=Na h kd_ ke (by omega);exact fin (l':=[(_,_)]) (show 1<=2 by decide) (one (up f2)<|by rw[zzJ];exact g0) (rq<|rt t0<|M3 (zC (WD.e<|v0 _ _ _ _ _ _) (v5 _ _ _ _ _ _) (WD.e<|za (i:=7) rfl) f1)<|M6 (WD.e<|v6 _ _ _ _ _ _) (WD.e<|v8 _ _ _ _ _ _)<|by omega)
 |false=>
 rw[g0]at t0;have t1:=te 1
 by_cases g1:t=1
 . rw[zyM g1]at t1;obtain⟨y,_,gy⟩:=mz 95 (by decide) (by decide);obtain⟨k,lk,wk⟩:=FH (gy (A none none none none none none) rfl) (k:=R.length+1) (by omega)<|y_ (S9<|v6 _ _ _ _ _ _)<|zc (x:=.int 1);have s11:=vX (st:=true) (i:=11) wk<|zl rfl;obtain⟨a,b,p1,p2,p3⟩:=JO h kd_ k (by omega) (by omega);have w11:∀x12 x13,WD RJ (A (sI k) x12 x13 none none none) true (.int k):=λ_ _=>za (i:=11) rfl;have s12:=JM (i:=12) (j:=13) (zC (WD.e<|v0 (sI k) none none none none none) (v5 _ _ _ _ _ _) (WD.e<|w11 _ _) p1) (zl rfl)<|zl rfl;refine fin (l':=[(a,R.take k),(b,R.drop k)]) (show 2<=2 by decide) (λq mq=>?_) (rn (zk t0 rfl)<|rq<|rt t1<|rn s11<|rn s12<|uD (WD.e<|za (i:=12) rfl) (u9 (v6 _ _ _ _ _ _) (w11 _ _)<|by omega) (WD.e<|za (i:=13) rfl)<|Jh (v6 _ _ _ _ _ _) (w11 _ _)<|by omega)
   rcases zzC.mp mq with rfl|mq
   . exact⟨up p2,by show(R.take k).length<=_;rw[zzS];omega⟩
   . exact one (up p3) (by rw[List.length_drop];omega) q mq
 rw[zyF g1]at t1;have mi:=NQ (l:=e) h.k2 n3 hT (kd_.in h) (show e+202<=500000 by omega) (show R.length<=1000 by omega);have t2:=te 2
 by_cases g2:t=2
 . rw[zyM g2]at t2;obtain⟨f,f1,f2⟩:=S7 h hT kd_ (show e+202<=500000 by omega) (by omega);exact fin (l':=[(_,_)]) (show 1<=2 by decide) (one (f2.up (by omega) eM)<|by rw[QU];exact ld)<|rn (zk t0 rfl)<|rn (zk t1 rfl)<|rq<|rt t2<|M3 (zC (WD.e<|v0 _ _ _ _ _ _) (v5 _ _ _ _ _ _) (B4 h (v0 _ _ _ _ _ _)<|v10 _ _ _ _ _ _) f1)<|zC (v1 _ _ _ _ _ _) (v10 _ _ _ _ _ _) (WD.e<|v6 _ _ _ _ _ _) mi
 rw[zyF g2]at t2;have t3:=te 3
 by_cases g3:t=3
 . rw[zyM g3]at t3;obtain⟨y,hy,gy⟩:=mz 96 (by decide) (by decide);obtain⟨U,hU,rU⟩:=Mn h.k2 n3 hy;have s14:=yQ (p:=14) (zC (v1 none none none none none none) (v2 _ _ _ _ _ _) (WD.e<|gy (A none none none none none none) rfl) rU)<|zl rfl;have v14:∀x15,WE (fV 14) (A none none none (sT<|wD U) x15 none) (wD U):=λ_=>WD.e<|za (i:=14) rfl;have s15:=yQ (p:=15) (UC (tbl:=Yx) (m:="behind") (v0 none none none (sT<|wD U) none none) (nW<|by decide +kernel) ((Ht h.k2).trans<|by rw[ite_self,ite_self]) (B4 h (v0 _ _ _ _ _ _)<|v10 _ _ _ _ _ _) (B4 h (v0 _ _ _ _ _ _)<|v14 _)<|Kl h hT hU<|by decide)<|zl rfl;obtain⟨f,f1,f2⟩:=S7 h (WO.bh n3 hT hU) kd_ eM (by omega);have e3:c.ap (some<|bh c.k c.n T U) R=(R.map λv=>md c.k T v 1).map λv=>md c.k U v 1:=by
    show R.map _=(R.map _).map _;rw[zyA];exact List.map_congr_left λa ma=>Hc hT.toWL (kd_.in h a ma).1.1 U.1 U.2 hU.m.2
   rw[e3]at f2;have mj:=NQ (l:=e+202) (r:=R.map λv=>md c.k T v 1) h.k2 n3 hU (λv mv=>by
    obtain⟨u,mu,rfl⟩:=zyZ.mp mv;exact VO.md n3 hT<|kd_.in h u mu) (show e+202+202<=500000 by omega) (by rw[zzB];omega)
   exact fin (l':=[(_,_)]) (show 1<=2 by decide) (one f2<|by rw[zzB,zzB];exact ld)<|rn (zk t0 rfl)<|rn (zk t1 rfl)<|rn (zk t2 rfl)<|rq<|rt t3<|rn s14<|rn s15<|M3 (zC (WD.e<|v0 _ _ _ _ _ _) (v5 _ _ _ _ _ _) (WD.e<|za (i:=15) rfl) f1)<|zC (v1 _ _ _ _ _ _) (v14 _) (zC (v1 _ _ _ _ _ _) (v10 _ _ _ _ _ _) (WD.e<|v6 _ _ _ _ _ _) mi) mj
 rw[zyF g3]at t3;have t4:=te 4
 by_cases g4:t=4
 . rw[zyM g4]at t4;obtain⟨f,f1,f2⟩:=BL h kd_;exact fin (l':=[(_,_)]) (show 1<=2 by decide) (one (up f2)<|by rw[List.length_reverse];exact ld)<|rn (zk t0 rfl)<|rn (zk t1 rfl)<|rn (zk t2 rfl)<|rn (zk t3 rfl)<|rq<|rt t4<|M3 (yb (WD.e<|v0 _ _ _ _ _ _) (v5 _ _ _ _ _ _) f1)<|II<|v6 _ _ _ _ _ _
 rw[zyF g4]at t4;have t5:=zy (SI (S9<|v6 none none none none none none)<|zc (x:=.int 29)) rfl
 by_cases g5:29<R.length
 . rw[zyM<|by omega]at t5;exact fin (l':=[(_,_)]) (show 1<=2 by decide) (one (up kd_) ld)<|rn (zk t0 rfl)<|rn (zk t1 rfl)<|rn (zk t2 rfl)<|rn (zk t3 rfl)<|rn (zk t4 rfl)<|rq<|rt t5<|M3 (v5 _ _ _ _ _ _)<|WD.e<|v6 _ _ _ _ _ _
 rw[zyF<|by omega]at t5;obtain⟨y,hy,gy⟩:=mz 97 (by decide) (by decide);obtain⟨v,hv,rv⟩:=GA h.k2 n3 hy;have s16:=yQ (p:=16) (zC (v1 none none none none none none) (v2 _ _ _ _ _ _) (WD.e<|gy (A none none none none none none) rfl) rv)<|zl rfl;let B:AS:=A none none none none none<|sT<|vD v;have v9:WE (yt<|dC (fV 16) dN) B (zD [v]):=WC (os:=[.lf true<|vD v]) (wV (za (i:=16) rfl) yB) (L0 rfl) rfl rfl;obtain⟨o,o1,o2⟩:=MY (l:=e) h (show e<=500000 by omega) (r:=[v]) (show 1<=1000 by decide) (λu mu=>by
  rcases zzC.mp mu with rfl|mu
  . exact hv.up e0
  . exact nomatch mu)
 have t6:WT (fT<|f2 (fV 9) (fC<|.int (5:Nat))<|zp .Eq) B (decide (t=5)):=zy (Zb (c:=decide (t=5)) (za (i:=9) (x:=.int t) (s:=true) rfl) (zc (x:=.int (5:Nat))) (by
  show some ((t:Int)==(5:Nat))=_
  by_cases z:t=5
  . rw[z];rfl
  . rw[zyF z,beq_eq_false_iff_ne.mpr<|by omega])) rfl
 have lf:=yb (WD.e<|v0 none none none none none<|sT<|vD v) v9 o1
 by_cases g6:t=5
 . rw[zyM g6]at t6;obtain⟨f,f1,f2⟩:=Na h o2 kd_ (by show 1+_<=_;omega);exact fin (l':=[(_,_)]) (show 1<=2 by decide) (one (up f2) (by show R.length+1<=_;omega))<|rn (zk t0 rfl)<|rn (zk t1 rfl)<|rn (zk t2 rfl)<|rn (zk t3 rfl)<|rn (zk t4 rfl)<|rn (zk t5 rfl)<|rn s16<|rq<|rt t6<|M3 (zC (WD.e<|v0 _ _ _ _ _ _) lf (v5 _ _ _ _ _ _) f1)<|M6 v9 (WD.e<|v6 _ _ _ _ _ _) (by show 1+_<=_;omega)
 . rw[zyF g6]at t6;obtain⟨f,f1,f2⟩:=Na h kd_ o2 (by show _+1<=_;omega);exact fin (l':=[(_,_)]) (show 1<=2 by decide) (one (up f2) (by rw[zzJ];show R.length+1<=_;omega))<|rn (zk t0 rfl)<|rn (zk t1 rfl)<|rn (zk t2 rfl)<|rn (zk t3 rfl)<|rn (zk t4 rfl)<|rn (zk t5 rfl)<|rn s16<|rn (zk t6 rfl)<|M3 (zC (WD.e<|v0 _ _ _ _ _ _) (v5 _ _ _ _ _ _) lf f1)<|M6 (WD.e<|v6 _ _ _ _ _ _) v9 (by show _+1<=_;omega)
end
def AL{as:AS}{j:Nat}{l l':List KP}{fr:AF}{g:List ZX->Option O}{rs:List RV}{xs:List ZX}{os:List O}(hj:as[j]? = some (sN<|l.map kO))(h1:1<=l.length)(hf:fr as=some (rs,as))(ha:GO j as rs=some xs)(hg:g xs=sN os)(hs:O.strs os=true)(hd:O.toDs os=l'.map kQ)(hn:(l'.map kQ).all (V9 60)=true):WD (Pv j fr g) as true (.lst<|l'.map kQ):=by
 unfold WD Pv;rw[hf];show(GO j as rs).bind _=_;rw[ha];show(Px as[j]?).bind _=_;rw[hj]
 match l,h1 with
 |q::l,_=>
  show((if(true=true/\(l.map kO).all O.isLf=true/\O.strs (l.map kO)=true) /\ [q.1,zD q.2].all LX=false then some _ else none:Option D)).bind _=_;rw[if_pos ⟨⟨rfl,(Yj l).1,(Yj l).2.1⟩,Bool.and_false _⟩];show(g xs).bind _=_;rw[hg];show(if O.strs os=true/\(O.toDs os).all (V9 60)=true then some (RV.ow<|.lf true<|.lst<|O.toDs os,as)else none)=_;rw[hd,if_pos ⟨hs,hn⟩]
def DR{l:List KP}(h1:1<=l.length):Px (some<|sN<|l.map kO)=some (.lst<|l.map kQ):=by
 match l,h1 with
 |q::l,_=>
  show(if(true=true/\(l.map kO).all O.isLf=true/\O.strs (l.map kO)=true) /\ [q.1,zD q.2].all LX=false then some (D.lst (kQ q::O.toDs (l.map kO)))else none)=_;rw[if_pos ⟨⟨rfl,(Yj l).1,(Yj l).2.1⟩,Bool.and_false _⟩,(Yj l).2.2];rfl
abbrev tV:SF:=(zt (yU (fT<|f2 (zd FR WQ) (fP (aC (fV 8) aN) yx)<|zp .NotEq) (zv<|fC<|.bl false) xD)
 (zt (yU (v3<|fT<|zd (aC zg<|aC (zd (aC zY FR) Y7)<|aC (zd (aC zg<|aC zF<|aC (fV 8) aN) wQ) aN) yL) (zv<|fC<|.bl false) xD)
 (xB<|ZM 6 (dC (yg<|dC RD<|dC (fV 8) dN) dN) vN)))
abbrev wS:SF:=(yU (fT<|f2 zg (fC<|.str "sums")<|zp .Eq) (zL true 3<|zd yz<|zW "Sums")<|yU (fT<|f2 zg (fC<|.str "mosts")<|zp .Eq) (zL true 3<|zd yz<|zW "Mosts") xD)
abbrev L9(ns:List Int)(c:Cx)(x4 x5 x6 x7 x8:Option O):AS:=[sT<|.lst<|ns.map .int,sT<|.str<|kd c.k,sI c.n,sT c.w,x4,x5,x6,x7,x8]
def rA{x:Int}:(!(x==x))=false:=by simp
def I0{ns:List Int}{k n:Nat}(hk:k<=2):wS [sT<|.lst<|ns.map .int,sT<|.str<|kd k,sI n,sT<|QL 2 n,none,none,none,none,none]=some (.nx<|L9 ns ⟨k,n⟩ none none none none none):=by
 have t1:=zy (TN (as:=[sT<|.lst<|ns.map .int,sT<|.str<|kd k,sI n,sT<|QL 2 n,none,none,none,none,none]) k (WI hk) (i:=1) rfl) rfl;have t2:=zy (TN (as:=[sT<|.lst<|ns.map .int,sT<|.str<|kd k,sI n,sT<|QL 2 n,none,none,none,none,none]) k (NW hk) (i:=1) rfl) rfl;have s:∀j:Nat,cls j ∈ xf->zL true 3 (zd yz<|zW<|cls j) [sT<|.lst<|ns.map .int,sT<|.str<|kd k,sI n,sT<|QL 2 n,none,none,none,none,none]=some (.nx [sT<|.lst<|ns.map .int,sT<|.str<|kd k,sI n,sT<|QL j n,none,none,none,none,none]):=λj m=>yQ (p:=3) (RR (WD.e<|za (i:=2) rfl)<|Fv m)<|zl rfl
 by_cases h0:k=0
 . subst h0;exact vV t1<|s 0 Re
 . rw[zyF h0]at t1
   by_cases h1:k=1
   . subst h1;exact zk t1<|vV t2<|s 1 Re
   . rw[zyF h1]at t2;obtain rfl:k=2:=by omega
     exact zk t1<|zk t2 rfl
def O1{as:AS}{b:EF}{k:Nat}(hk:k<=2)(hb:WD b as true (.int k)):WE (f2 (yt<|dC (fC<|.str "sums")<|dC (fC<|.str "mosts")<|dC (fC<|.str "leasts") dN) b yj) as (.str<|kd k):=by
 refine wb (x:=.lst [.str "sums",.str "mosts",.str "leasts"]) (WC (os:=[.lf true<|.str "sums",.lf true<|.str "mosts",.lf true<|.str "leasts"]) (wV zc<|wV zc<|wV zc yB) (L0 rfl) rfl rfl) (WD.e hb) ?_;have:k=0\/k=1\/k=2:=by omega
 rcases this with rfl|rfl|rfl<;>rfl
def Hs(ns:List Int)(hns:ns.length<=63)(hb:∀i ∈ ns,i.natAbs<bg):GW [(true,.lst<|ns.map .int)]=sT (.bl true):=by
 have cel:∀k:Int,0<=k->∃x:Int,x.natAbs<bg/\∀as:AS,as[0]? = some (sT<|.lst<|ns.map .int)->WD (zd (aC zi<|aC (fC<|.int k) aN) y9) as true (.int x):=λk hk=>by
  obtain⟨x,h,g⟩:=Ca hb hk hns;exact⟨x,h,λas a=>Jm rfl<|yb (WD.e<|za a) (WD.e zc)<|RE.i g⟩
 obtain⟨c0,_,h0⟩:=cel 0 (by decide);obtain⟨c1,z1,h1⟩:=cel 1 (by decide);obtain⟨k,lk,wk⟩:=FH (h0 [sT<|.lst<|ns.map .int,none,none,none,none,none,none,none,none] rfl) (k:=3) (by decide)<|zc (x:=.int (3:Nat));have k2:k<=2:=by omega
 have s1:=yQ (p:=1) (O1 k2 wk)<|zl rfl;obtain⟨n,ln,wn⟩:=FH (LQ (h0 [sT<|.lst<|ns.map .int,sT<|.str<|kd k,none,none,none,none,none,none,none] rfl) (zc (x:=.int 3)) (by decide)<|xa (by decide)<|by decide) (k:=3) (by decide)<|zc (x:=.int (3:Nat));have w2:=y_ (zc (x:=.int 1)) wn;rw[show(1:Int)+n=((1+n:Nat):Int) by omega]at w2;have s2:=vX (st:=true) (i:=2) w2<|zl rfl;have s3:=yQ (p:=3) (as:=[sT<|.lst<|ns.map .int,sT<|.str<|kd k,sI ((1+n:Nat):Int),none,none,none,none,none,none]) (RR (WD.e<|za (i:=2) rfl)<|Fv (c:=cls 2) Re)<|zl rfl;have s4:=I0 (ns:=ns) (n:=1+n) k2;obtain⟨c,hc,h⟩:∃c:Cx,c=⟨k,1+n⟩/\c.Ok:=⟨_,rfl,k2,show 1<=1+n by omega,show 1+n<=3 by omega⟩;rw[<-hc]at s4;have s5:=vX (st:=true) (i:=4) (h1 (L9 ns c none none none none none) rfl)<|zl rfl;obtain⟨w,lw,ww⟩:=FH (za (as:=L9 ns c (sI c1) none none none none) (i:=4) (x:=.int c1) (s:=true) rfl) (k:=20) (by decide)<|zc (x:=.int (20:Nat));obtain⟨r,r1,r2,r3⟩:=Fx vD (Q:=λ_ v=>VO c.k c.n 190 v) (yy ww ym) (by omega) (cap:=[none,some 1,some 2,some 4]) (fe:=zd (aC zg<|aC zF<|aC (zd (aC zY<|aC (f2 (fC<|.int 300) zi zx) aN) zo) aN) xS) λi hi=>by
  obtain⟨z,hz,gz⟩:=Ms (as:=[sI i,sT<|.str<|kd c.k,sI c.n,sI c1]) (a:=fV 3) (e:=f2 (fC<|.int 300) zi zx) z1 (k:=300+i) (by omega) (by omega);obtain⟨v,hv,gv⟩:=GA h.k2 h.n3 hz;exact⟨_,v,rfl,zC (WD.e<|za (i:=1) rfl) (WD.e<|za (i:=2) rfl) (WD.e<|gz (za (i:=3) rfl)<|y_ zc<|za (i:=0) rfl) gv,hv⟩
 have hr:c.In 190 r:=λv mv=>by
  obtain⟨i,hi⟩:=List.getElem?_of_mem mv;exact r2 i v hi
 have s6:=yQ (p:=5) r3<|zl rfl;obtain⟨d0,a1,a2⟩:=MY (l:=190) h (by decide) (r:=[]) (by decide) (λ_ m=>nomatch m);obtain⟨d1,b1,b2⟩:=MY (l:=190) h (by decide) (r:=r) (by omega) hr;have w3:∀x4 x6 x7 x8,WE zY (L9 ns c x4 (sT<|zD r) x6 x7 x8) c.w:=λ_ _ _ _=>WD.e<|za (i:=3) rfl;have w1:∀x4 x6 x7 x8,WE zg (L9 ns c x4 (sT<|zD r) x6 x7 x8) (.str<|kd c.k):=λ_ _ _ _=>WD.e<|za (i:=1) rfl;have w2:∀x4 x6 x7 x8,WE zF (L9 ns c x4 (sT<|zD r) x6 x7 x8) (.int c.n):=λ_ _ _ _=>WD.e<|za (i:=2) rfl;have e0:∀x4 x6 x7 x8,WE (yt dN) (L9 ns c x4 (sT<|zD r) x6 x7 x8) (zD []):=λ_ _ _ _=>WC yB (L0 rfl) rfl rfl;have s7:=Wr (i:=6) (as:=L9 ns c (sI c1) (sT<|zD r) none none none) (Y5 (wV (SK (uI<|yb (w3 _ _ _ _) (e0 _ _ _ _) a1)<|uI<|e0 _ _ _ _)<|wV (SK (uI<|yb (w3 _ _ _ _) (WD.e<|za (i:=5) rfl) b1)<|za (i:=5) rfl) yB)<|L0 rfl)<|zl rfl;obtain⟨xs,xl,xm,ex⟩:∃xs:List Int,xs.length<=ns.length/\(∀x ∈ xs,x.natAbs<bg)/\PF.cutD (ns.map D.int) (some 2) (some 63)=xs.map D.int:=by
  unfold PF.cutD;rw[zzB,<-List.map_drop,<-List.map_take];exact⟨_,by rw[zzS,List.length_drop];omega,λx mx=>hb x<|List.mem_of_mem_drop<|List.mem_of_mem_take mx,rfl⟩
 have it:WY (Ga zi (oS WZ) (oS<|fC<|.int 63) LY) (L9 ns c (sI c1) (sT<|zD r) (sN<|[(d0,[]),(d1,r)].map kO) none none)=some (xs.map λx=>(true,D.int x),L9 ns c (sI c1) (sT<|zD r) (sN<|[(d0,[]),(d1,r)].map kO) none none):=by
  obtain⟨o,q1,q2,q3⟩:=TQ (as:=L9 ns c (sI c1) (sT<|zD r) (sN<|[(d0,[]),(d1,r)].map kO) none none) (fl:=oS WZ) (fh:=oS<|fC<|.int 63) (zs:=xs.map D.int) (za (i:=0) (s:=true) (x:=.lst<|ns.map D.int) rfl) rfl rfl (by show some (R0.fl<|PF.cutD (ns.map D.int) (some 2)<|some 63)=_;rw[ex]);unfold WY;rw[q1];show(G3 (o.str,o.toD)).bind _=_;rw[q2,q3];show some (kids true<|xs.map D.int,_)=_;rw[X6,zyA];rfl
 obtain⟨as',hf,l,x4,x7,x8,rfl,l1,l2,hk⟩:=X_ (g:=gN 4) (f:=WW (WY<|Pv 6 (aC zY<|aC zg<|aC zF<|aC yr<|aC yi aN) Zw) (gT 2<|wL (gN 7)<|wL (gN 8) QM) tV)
  (λi as=>∃(l:List KP) (x4 x7 x8:Option O),as=L9 ns c x4 (sT<|zD r) (sN<|l.map kO) x7 x8/\1<=l.length/\l.length<=2+2*i/\∀q ∈ l,KO c (190+404*i) q) (xs.map λx=>(true,D.int x)) 0 (L9 ns c (sI c1) (sT<|zD r) (sN<|[(d0,[]),(d1,r)].map kO) none none) (λi x as hx hI=>by
   obtain⟨l,x4,x7,x8,rfl,l1,l2,hk⟩:=hI;rw[zzI]at hx;obtain⟨z,hz,rfl⟩:=zzW.mp hx;have hi:=(zzG.mp hz).1;have zb:=xm z<|zzZ hz;rw[zyV]at l2 hk ⊢;refine⟨L9 ns c (sI z) (sT<|zD r) (sN<|l.map kO) x7 x8,rfl, ?_⟩;obtain⟨l',os,e1,e2,e3,e4,e5⟩:=Jv h l1 (by omega) (by omega) (show 190+404*i+404<=500000 by omega) hk zb;have wl:=AL (as:=L9 ns c (sI z) (sT<|zD r) (sN<|l.map kO) x7 x8) (j:=6) (fr:=aC zY<|aC zg<|aC zF<|aC yr<|aC yi aN) (rs:=[.ow<|.lf true c.w,.ow<|.lf true<|.str<|kd c.k,.ow<|.lf true<|.int c.n,.bo 6,.ow<|.lf true<|.int z]) rfl l1 rfl (by
    show(((if 6=6 then(Px<|some<|sN<|l.map kO).bind λd=>some ((true,d)::[(true,D.int z)])else none).bind λy=>some ((true,D.int c.n)::y)).bind λy=>some ((true,D.str<|kd c.k)::y)).bind (λy=>some ((true,c.w)::y))=_;rw[if_pos rfl,DR l1];rfl) e1 e2 e3<|s_ e5
   have it2:WY (Pv 6 (aC zY<|aC zg<|aC zF<|aC yr<|aC yi aN) Zw) (L9 ns c (sI z) (sT<|zD r) (sN<|l.map kO) x7 x8)=some (l'.map λq=>(true,kQ q),L9 ns c (sI z) (sT<|zD r) (sN<|l.map kO) x7 x8):=by
    unfold WD at wl;unfold WY;rw[wl];show some (kids true<|l'.map kQ,_)=_;rw[X6,zyA];rfl
   obtain⟨as2,q1,m,y7,y8,rfl,m1,m2⟩:=X_ (g:=gT 2<|wL (gN 7)<|wL (gN 8) QM) (f:=tV) (λk as=>∃(m:List KP) (x7 x8:Option O),as=L9 ns c (sI z) (sT<|zD r) (sN<|m.map kO) x7 x8/\m.length=l.length+k/\∀q ∈ m,KO c (190+404*(i+1)) q) (l'.map λq=>(true,kQ q)) 0 (L9 ns c (sI z) (sT<|zD r) (sN<|l.map kO) x7 x8) (λk x as hx hI=>by
    obtain⟨m,y7,y8,rfl,m1,m2⟩:=hI;rw[zzI]at hx;obtain⟨q,hq,rfl⟩:=zzW.mp hx;have mq:=zzZ hq;have hk2:=(zzG.mp hq).1;obtain⟨ok,lq⟩:=e5 q mq;rw[zyV]at m1 ⊢;let A:=L9 ns c (sI z) (sT<|zD r) (sN<|m.map kO) (sT q.1)<|sT<|zD q.2;have v7:WE RD A q.1:=WD.e<|za (i:=7) rfl;have v8:WD (fV 8) A true (zD q.2):=za (i:=8) rfl;have t1:=tB (Jm rfl<|RR v7<|O6 h ok)<|S9 v8;rw[rA]at t1;have hR:=Qa<|ok.in h;have t2:=VG (k:=true)<|uS<|zC (w1 _ _ _ _) (yb (w3 _ _ _ _) v7<|O5 h ok) (zC (w1 _ _ _ _) (w2 _ _ _ _) (WD.e v8)<|NJ h.k2 h.n3 hR<|by omega)<|Fy h.k2 (VL.hv hR) h.n3;have kp:=keepR (i:=6) (as:=A) (l:=m) (q:=q) rfl (by omega)<|SK (za (i:=7) rfl) v8;refine⟨A,tK (zl rfl)<|zl rfl,_,zK (zk t1 rfl)<|zK (zk t2 rfl) kp,m++[q],_,_,rfl,by rw[zzJ,m1];rfl,λp mp=>?_⟩
    rcases zzM.mp mp with mp|mp
    . exact m2 p mp
    . rcases zzC.mp mp with rfl|mp
      . exact⟨ok,lq⟩
      . exact nomatch mp) ⟨l,x7,x8,rfl,rfl,λq mq=>⟨(hk q mq).1.up (by omega) (show 190+404*(i+1)<=500000 by omega),(hk q mq).2⟩⟩
   rw[zzB,zyV]at m1;exact⟨_,Ub it2 q1,m,_,_,_,rfl,by omega,by omega,m2⟩) ⟨_,_,_,_,rfl,show 1<=2 by decide,zzN _,λq mq=>by
    rcases zzC.mp mq with rfl|mq
    . exact⟨a2,show 0<=30 by decide⟩
    . rcases zzC.mp mq with rfl|mq
      . exact⟨b2,by show r.length<=_;omega⟩
      . exact nomatch mq⟩
 have it3:=OA (as:=L9 ns c x4 (sT<|zD r) (sN<|l.map kO) x7 x8) (i:=6) rfl;rw[(Yj _).2.1,(Yj _).2.2,X6,zyA]at it3;obtain⟨as2,q1,_⟩:=X_ (g:=gT 2<|wL (gN 7)<|wL (gN 8) QM) (f:=yU (v3<|fT<|zd (aC zY<|aC zg<|aC zF<|aC RD<|aC (fV 8) aN) vC) (zv<|fC<|.bl false) xD) (λ_ as=>∃x7 x8,as=L9 ns c x4 (sT<|zD r) (sT<|.lst<|l.map kQ) x7 x8) (l.map<|(λd=>(true,d))∘kQ) 0 (L9 ns c x4 (sT<|zD r) (sT<|.lst<|l.map kQ) x7 x8) (λi x as hx hI=>by
  obtain⟨x7,x8,rfl⟩:=hI;rw[zzI]at hx;obtain⟨q,hq,rfl⟩:=zzW.mp hx;have hq:=hk q<|zzZ hq;exact⟨L9 ns c x4 (sT<|zD r) (sT<|.lst<|l.map kQ) (sT q.1)<|sT<|zD q.2,tK (zl rfl)<|zl rfl,_,zk (VG (k:=true)<|uS<|JC (w3 _ _ _ _) (w1 _ _ _ _) (w2 _ _ _ _) (WD.e<|za (i:=7) rfl) (WD.e<|za (i:=8) rfl)<|O4 h hq.1<|by omega) rfl,_,_,rfl⟩) ⟨_,_,rfl⟩
 subst hc;exact Wh rfl<|zK s1<|zK s2<|zK s3<|zK s4<|zK s5<|zK s6<|zK s7<|zK (Ub it hf)<|zK (Ub it3 q1)<|VM zc
end G35
end
end
open PySem PySem.W PyProof.Rows
set_option maxRecDepth 100000 in
set_option maxHeartbeats 0 in
theorem PySem.Challenge.cw_stretchdeeds_k35_whole_wide_trees_holds : PySem.Challenge.rw_stretchdeeds_k35_whole_wide_trees.Holds := by
 w_on;refine holds_law G35.ws λsaid=>?_
 refine holds_open (q:=G35.qv) (loose:=[]) (Xt:=G35.Xt) (XP:=XL G35.qv []) (Yf:=Hook.obs<|kHook G35.K G35.kA G35.kAe) (Ya:=Hook.val<|kHook G35.K G35.kA G35.kAe) (YP:=Hook.says<|kHook G35.K G35.kA G35.kAe) (N:=6000) G35.hl (Hook.of<|kHook G35.K G35.kA G35.kAe) (Hook.keeps<|kHook G35.K G35.kA G35.kAe) (λs e=>xl_of s (Bool.and_eq_true_iff.mp e).1) XL.keeps (by rfl) (by rfl) (by rfl) (λs e=>recFacts_of (Bool.and_eq_true_iff.mp e).2) (by rfl) (by first|assumption|decide +kernel) (by decide +kernel) ⟨rfl,rfl,rfl,rfl,rfl,by decide +kernel⟩ ?hw ?hc
 (case hw=>w_witness2)
 k_fill
 refine G35.walk (l:=PySem.Challenge.rw_stretchdeeds_k35_whole_wide_trees) rfl rfl (λw h Y=>W.kIn_of Y) G35.Hs ?F
 case F=>
  intro w mg fa h KX G hmg;refine' G35.Ic KX G hmg ?_ ?_ ?_ ?_ ?_ ?_ ?_ ?_ ?_ ?_ ?_ ?_ ?_ ?_ ?_ ?_ ?_ ?_ ?_ ?_ ?_ ?_ ?_ ?_ ?_ ?_ ?_ ?_ ?_ ?_ ?_ ?_ ?_ ?_ ?_ ?_ ?_ ?_ ?_ ?_ ?_ ?_ ?_ ?_ ?_ ?_ ?_ ?_ ?_ ?_ ?_ ?_ ?_ ?_ ?_ ?_ ?_ ?_ ?_ ?_ ?_ ?_ ?_ ?_ ?_ ?_ ?_ ?_ ?_ ?_ ?_ ?_ ?_ ?_ ?_ ?_ ?_ ?_ ?_ ?_ ?_ ?_ ?_ ?_ ?_ ?_ ?_ ?_ ?_ ?_ ?_ ?_ ?_ ?_ ?_ ?_ ?_ ?_ ?_ ?_ ?_ ?_ ?_ ?_ ?_ ?_ ?_ ?_ ?_ ?_ ?_ ?_ ?_ ?_ ?_ ?_ ?_ ?_ ?_ ?_ ?_ ?_ ?_ ?_ ?_ ?_ ?_ ?_ ?_ ?_ ?_ ?_ ?_ ?_ ?_ ?_ ?_ ?_ ?_ ?_ ?_ ?_ ?_ ?_ ?_ ?_ ?_ ?_ ?_ ?_ ?_ ?_ ?_ ?_ ?_ ?_ ?_ ?_ ?_ ?_ ?_ ?_ ?_ ?_ ?_ ?_ ?_ ?_ ?_ ?_ ?_ ?_ ?_ ?_ ?_ ?_ ?_ ?_ ?_ ?_ ?_ ?_ ?_ ?_ ?_ ?_ ?_ ?_ ?_ ?_ ?_ ?_ ?_ ?_ ?_
  all_goals try first|k_is|(change _=_;k_is)|exact⟨_,⟨_,_,_,_,_,_,_,_,_,rfl,by k_is,by k_is⟩,by k_is⟩|(refine⟨?_, ?_⟩;(change _=_;k_is);exact⟨_,⟨_,_,_,_,_,_,_,_,_,rfl,by k_is,by k_is⟩,by k_is⟩)|rfl
#print axioms PySem.Challenge.cw_stretchdeeds_k35_whole_wide_trees_holds
