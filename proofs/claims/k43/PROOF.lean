import PyProof.Rows.All
import Wide.All
import OpenK.AllK
import PySem.Challenge.RW_stretchdeeds_k43_what_stretches_come_to
set_option Elab.async false
set_option linter.all false
set_option maxRecDepth 100000
set_option genSizeOf false
set_option compiler.extract_closed false
set_option bootstrap.genMatcherCode false
local macro_rules |`(⋯)=>`(by first|with_reducible rfl|assumption|omega|rfl|simp)
noncomputable section
abbrev zzA:=PySem.W.Frag
abbrev zzB:=@List.length_map
abbrev zzC:=@List.mem_cons
abbrev zzD:=@List.mem_cons_of_mem
abbrev zzE:=@List.getElem?_eq_getElem
abbrev zzF:=@List.mem_cons_self
abbrev zzG:=@List.getElem?_eq_some_iff
abbrev zzH:=@List.size_toArray
abbrev zzI:=@List.getElem?_map
abbrev zzJ:=@List.length_append
abbrev zzK:=@Nat.lt_of_lt_of_le
abbrev zzL:=@List.mem_append_right
abbrev zzM:=@List.mem_append
abbrev zzN:=@Nat.le_refl
abbrev zzO:=@Nat.le_trans
abbrev zzP:=@List.mem_append_left
abbrev zzQ:=@Nat.ne_of_lt
abbrev zzR:=@List.mem_singleton
abbrev zzS:=@List.length_take
abbrev zzT:=@List.length_cons
abbrev zzU:=@List.length_set
abbrev zzV:=@Int.natCast_mul
abbrev zzW:=@List.nodup_cons
abbrev zzX:=@Option.map_eq_some_iff
abbrev zzY:=@List.getElem?_set_ne
abbrev zzZ:=@Option.some.inj
abbrev zyA:=@List.mem_of_getElem?
abbrev zyB:=@List.map_map
abbrev zyC:=@Bool.and_eq_true
abbrev zyD:=@Bool.or_true
abbrev zyE:=@List.append_nil
abbrev zyF:=@List.getD_eq_getElem?_getD
abbrev zyG:=@decide_eq_false
abbrev zyH:=@Int.emod_lt_of_pos
abbrev zyI:=@Int.toNat_natCast
abbrev zyJ:=@List.nodup_nil
abbrev zyK:=@List.getElem?_set_self
abbrev zyL:=@Option.bind_some
abbrev zyM:=@List.map_append
abbrev zyN:=@Int.emod_nonneg
abbrev zyO:=@decide_eq_true
abbrev zyP:=@List.getElem?_append_left
abbrev zyQ:=@List.drop_eq_getElem_cons
abbrev zyR:=@List.getElem?_append_right
abbrev zyS:=@List.map_cons
abbrev zyT:=@Array.length_toList
abbrev zyU:=@List.length_range
abbrev zyV:=@Bool.false_ne_true
abbrev zyW:=@Nat.le_succ
abbrev zyX:=@Nat.zero_add
abbrev zyY:=@Int.toNat_of_nonneg
abbrev zyZ:=@Nat.lt_succ_of_lt
abbrev zxA:=@List.append_assoc
abbrev zxB:=@List.mem_map
abbrev zxC:=@List.nodup_append
abbrev zxD:=@PySem.wpAny_bind
abbrev zxE:=@PySem.wpAny_pure
abbrev zxF:=@PySem.Heap.get?_push_of_some
abbrev zxG:=@PySem.Heap.lt_size
abbrev zxH:=@PySem.Heap.get?_push_size
abbrev zxI:=@PySem.wpAny_holding
abbrev zxJ:=@PySem.Heap.size_push
abbrev zxK:=@PySem.wpAny_mono
abbrev zxL:=@PySem.wpAny_call_entry
section
namespace L2
open PySem PySem.Spec PyProof.Rows
abbrev Key:=Sum Int Str
noncomputable def Kf:Key->Value->Bool
 | .inl k,v=>Value.isInt k v
 | .inr x,v=>Value.isStrOf x v
noncomputable def m_(w:World):Key->Int
 | .inl k=>hashInt k
 | .inr x=>hashStr w x
def yP:∀{k:Key}{v:Value},Kf k v=true->(∃i t,k=Sum.inl i/\v=Value.int i t)\/(∃x t,k=Sum.inr x/\v=Value.str x t)
 | .inl i,v,h=>by
  obtain⟨t,e⟩:=Value.isInt_shape h;exact .inl ⟨i,t,rfl,e⟩
 | .inr x,v,h=>by
  obtain⟨t,e⟩:=Value.isStrOf_shape h;exact .inr ⟨x,t,rfl,e⟩
def Su(i)(t):Kf (.inl i) (.int i t)=true:=by simp[Kf,Value.isInt]
def SB(x)(t):Kf (.inr x) (.str x t)=true:=by simp[Kf,Value.isStrOf]
def tu(a b):decide ((Sum.inl a:Key)=Sum.inl b)=(a==b):=by
 by_cases e:a=b
 . subst e;simp
 . have h:¬(Sum.inl a:Key)=Sum.inl b:=λq=>e<|Sum.inl.inj q;rw[zyG h];exact(beq_eq_false_iff_ne.mpr e).symm
def sH(a b):decide ((Sum.inr a:Key)=Sum.inr b)=decide (a=b):=⋯
def uT(a)(b):decide ((Sum.inl a:Key)=Sum.inr b)=false:=⋯
def D_(a)(b):decide ((Sum.inr a:Key)=Sum.inl b)=false:=⋯
def xY(prog:Program)(w:World):PySem.KeyKind prog w Key where
 is:=Kf
 hash:=m_ w
 inj:=λv a b ha hb=>by
  rcases yP ha with⟨i,t,rfl,rfl⟩|⟨x,t,rfl,rfl⟩
  . rcases yP hb with⟨j,u,rfl,e⟩|⟨y,u,rfl,e⟩
    . injection e with e1 _;rw[e1]
    . exact nomatch e
  . rcases yP hb with⟨j,u,rfl,e⟩|⟨y,u,rfl,e⟩
    . exact nomatch e
    . injection e with e1 _;rw[e1]
 byValue:=λk v h=>by
  rcases yP h with⟨i,t,rfl,rfl⟩|⟨x,t,rfl,rfl⟩<;>rfl
 pyHash:=λhv h=>by
  rcases yP hv with⟨i,t,rfl,rfl⟩|⟨x,t,rfl,rfl⟩
  . exact wpAny_pyHash_int h
  . exact wpAny_pyHash_str h
 eqBool:=λhu hv h=>by
  rcases yP hu with⟨i,t,rfl,rfl⟩|⟨x,t,rfl,rfl⟩
  . rcases yP hv with⟨j,u,rfl,rfl⟩|⟨y,u,rfl,rfl⟩
    . rw[tu]at h;exact wpAny_eqBool_int h
    . rw[uT]at h;exact SeqAt.EqAt.int_str i t y u _ _ _ _ h
  . rcases yP hv with⟨j,u,rfl,rfl⟩|⟨y,u,rfl,rfl⟩
    . rw[D_]at h;exact SeqAt.EqAt.str_int x t j u _ _ _ _ h
    . rw[sH]at h;exact wpAny_eqBool_str h
 «strs» := λk x t v h=>by
  rcases yP h with⟨i,u,rfl,e⟩|⟨y,u,rfl,e⟩
  . exact nomatch e
  . injection e with e1 _
    subst e1;cases v<;>rfl
def Mp(prog)(w)(i)(t):(xY prog w).is (.inl i) (.int i t)=true:=Su i t
def XG(prog)(w)(x)(t):(xY prog w).is (.inr x) (.str x t)=true:=SB x t
end L2
namespace L2
open PySem PySem.Spec PyProof.Rows
inductive V where
 |non|bl (b:Bool)|int (i:Int)|str (x:Str)|byt (b:Array UInt8)|flt (b:UInt64)|ref (a:Addr)|ty (n:String)
 deriving DecidableEq
def RelV:V->Value->Prop
 | .non,u=>u=Value.none
 | .bl b,u=>u=Value.bool b
 | .int i,u=>∃t,u=Value.int i t
 | .str x,u=>∃t,u=Value.str x t
 | .byt b,u=>∃t,u=Value.bytes b t
 | .flt b,u=>∃t,u=Value.float b t
 | .ref a,u=>u=Value.ref a
 | .ty n,u=>u=Value.type n
abbrev zP:List V->List Value->Prop:=Paired RelV
theorem zP.length(r:zP xs us):xs.length=us.length:=Paired.length r
theorem zP.get:∀{xs:List V}{us:List Value}{i:Nat}{x:V},zP xs us->xs[i]? = some x->∃u,us[i]? = some u/\RelV x u
 |_,_,_,_,.nil,e=>by simp at e
 |_,_,0,_,.cons r _,e=>by simp at e;subst e;exact⟨_,rfl,r⟩
 |_,_,i+1,x,.cons _ t,e=>by
  obtain⟨u,h1,h2⟩:=zP.get t (by simpa using e);exact⟨u,by simpa using h1,h2⟩
theorem zP.append:∀{xs ys:List V}{us ws:List Value},zP xs us->zP ys ws->zP (xs++ys) (us++ws)
 |_,_,_,_,.nil,s=>s
 |_,_,_,_,.cons r t,s=>.cons r<|zP.append t s
theorem zP.take:∀{xs:List V}{us:List Value}(n:Nat),zP xs us->zP (xs.take n) (us.take n)
 |_,_,0,_=>.nil
 |_,_,_+1,.nil=>.nil
 |_,_,n+1,.cons r t=>.cons r<|zP.take n t
theorem zP.drop:∀{xs:List V}{us:List Value}(n:Nat),zP xs us->zP (xs.drop n) (us.drop n)
 |_,_,0,r=>r
 |_,_,_+1,.nil=>.nil
 |_,_,n+1,.cons _ t=>zP.drop n t
def VV:Option V->Option Value->Prop
 |some v,some u=>RelV v u
 |none,none=>True
 |_,_=>False
def KV{κ:Type}:List (κ×V)->List (κ×Value)->Prop:=Paired λ(p:κ×V) (q:κ×Value)=>p.1=q.1/\RelV p.2 q.2
noncomputable def kV:Key->V
 | .inl i=>.int i
 | .inr x=>.str x
inductive HO where
 |lst (xs:List V)
 |tup (xs:List V)
 |dK (kvs:List (Key×V))|dT (kvs:List (List Key×V))
 |set (S:Int->Bool) (n:Nat)
 |ins (C dx:Addr) (fs:List (Str×V))
 |own (x:Addr)
 |xd (fs:List (Str×V))
 |met (f x:Addr)
 |rng (lo hi:Int)
 |frz (o:Obj) (u:HO)
 |tbl (ps:Array Value)
 |ext (φ:Heap->Prop)
abbrev Hp:=Addr->Option HO
noncomputable def upd(H:Hp)(a:Addr)(o:HO):Hp:=λb=>if b=a then some o else H b
def yd:upd H a o a=some o:=by unfold upd;rw[if_pos rfl]
def zH(h:b≠a):upd H a o b=H b:=by unfold upd;rw[if_neg h]
def zW{H:Hp}{a b o}(h:H a=some o)(h':H b=none):a≠b:=by
 intro e;subst e;rw[h]at h';cases h'
section
variable(P:Program)(w:World)
def vS(H:Hp)(h:Heap)(a:Addr):HO->Prop
 | .lst xs=>xs.length<=sizeLine/\∃(its:List Value) (n:Nat),zP xs its/\h.get? a=some {cls:=.type "list",data:=.seq its.toArray n}
 | .tup xs=>xs.length<=sizeLine/\∃its:List Value,zP xs its/\IsTup h a its.toArray
 | .dK kvs=>kvs.length<=sizeLine/\(a==sysModules)=false/\∃vs,KV kvs vs/\h.DictOf (xY P w) a vs
 | .dT kvs=>kvs.length<=sizeLine/\(a==sysModules)=false/\∃xs:List (List Key×Addr×Value),
  Paired (λ(p:List Key×V) (q:List Key×Addr×Value)=>p.1=q.1/\H q.2.1=some (.tup<|p.1.map kV)/\RelV p.2 q.2.2) kvs xs/\
  ∃o es ep,h.get? a=some o/\o.ExactDict/\o.data = .dict es ep/\es.toList=xs.map (entryOfKey<|tupleKind<|xY P w)/\(xs.map (·.1)).Nodup
 | .set S n=>h.SetOf (intKind P w) a S n
 | .ins C dx fs=>H dx=some (.own a)/\fs.length<=1000/\dx≠a/\h.get? a=some (W.instObj C dx)/\
  ∃mA,h.Ns1 dx mA/\(∀f,VV (fs.lookup f)<|mA f)/\PySem.Within mA (fs.map (·.1))
 | .own _=>∃o,h.get? a=some o
 | .xd fs=>∃mA,h.Ns1 a mA/\∀f,VV (fs.lookup f)<|mA f
 | .rng lo hi=>∃t u v,h.get? a=some {cls:=.type "range",data:=.fields #[.int lo t,.int hi u,.int 1 v]}
 | .frz o u=>h.get? a=some o/\vS H h a u
 | .tbl ps=>h.get? a=some {cls:=.none,data:=.fields ps}
 | .met f x=>h.get? a=some (W.methodObj (.ref f)<|.ref x)
 | .ext φ=>φ h/\(∃o,h.get? a=some o)/\∀h1 h2:Heap,φ h1->(∀o,h1.get? a=some o->h2.get? a=some o)->φ h2
def Ur(H:Hp)(h:Heap):Prop:=∀a o,H a=some o->vS P w H h a o
end
section
variable{P:Program}{w:World}{H H':Hp}{h h':Heap}{a:Addr}{o:HO}
theorem vS.lt(x:vS P w H h a o):a<h.objs.size:=by
 cases o with
 |lst xs=>obtain⟨_,_,_,_,e⟩:=x;exact zxG e
 |tup xs=>obtain⟨_,_,_,p⟩:=x;exact p.lt
 |dK kvs=>obtain⟨_,_,_,_,o,_,_,e,_⟩:=x;exact zxG e
 |dT kvs=>obtain⟨_,_,_,_,o,_,_,e,_⟩:=x;exact zxG e
 |set S n=>obtain⟨o,_,_,_,e,_⟩:=x;exact zxG e
 |ins C dx fs=>obtain⟨_,_,_,e,_⟩:=x;exact zxG e
 |own y=>obtain⟨_,e⟩:=x;exact zxG e
 |xd fs=>obtain⟨_,⟨_,_,_,e,_⟩,_⟩:=x;exact zxG e
 |rng lo hi=>obtain⟨_,_,_,e⟩:=x;exact zxG e
 |frz ob u=>obtain⟨e,_⟩:=x;exact zxG e
 |tbl ps=>exact zxG (x)
 |met f y=>exact zxG (x)
 |ext φ=>obtain⟨_,⟨_,e⟩,_⟩:=x;exact zxG e
theorem Paired.mapP:∀{l₁:List α}{l₂:List β},Paired F l₁ l₂->(∀a b,F a b->G a b)->Paired G l₁ l₂
 |_,_,.nil,_=>.nil
 |_,_,.cons r t,f=>.cons (f _ _ r)<|Paired.mapP t f
def vS.stay(x:vS P w H h a o)(k:∀b u,(b=a\/H b=some (.own a))->h.get? b=some u->h'.get? b=some u)
 (ho:∀b,H b=some (.own a)->H' b=some (.own a)) (ht:∀b xs,H b=some (.tup xs)->H' b=some (.tup xs)):vS P w H' h' a o:=by
 induction o with
 |lst xs=>obtain⟨z,its,n,r,e⟩:=x;exact⟨z,its,n,r,k _ _ (.inl rfl) e⟩
 |tup xs=>obtain⟨z,its,r,ob,e,c⟩:=x;exact⟨z,its,r,ob,k _ _ (.inl rfl) e,c⟩
 |dK kvs=>obtain⟨z,y,vs,r,ob,es,ep,e,c⟩:=x;exact⟨z,y,vs,r,ob,es,ep,k _ _ (.inl rfl) e,c⟩
 |dT kvs=>
  obtain⟨z,y,xs,r,ob,es,ep,e,c⟩:=x;exact⟨z,y,xs,Paired.mapP r λp q z=>⟨z.1,ht _ _ z.2.1,z.2.2⟩,ob,es,ep,k _ _ (.inl rfl) e,c⟩
 |set S n=>obtain⟨ob,es,ep,t,e,c⟩:=x;exact⟨ob,es,ep,t,k _ _ (.inl rfl) e,c⟩
 |ins C dx fs=>
  obtain⟨d,z,ne,e,mA,⟨od,es,ep,e2,c⟩,r⟩:=x;exact⟨ho _ d,z,ne,k _ _ (.inl rfl) e,mA,⟨od,es,ep,k _ _ (.inr d) e2,c⟩,r⟩
 |own y=>obtain⟨ob,e⟩:=x;exact⟨ob,k _ _ (.inl rfl) e⟩
 |xd fs=>obtain⟨mA,⟨od,es,ep,e,c⟩,r⟩:=x;exact⟨mA,⟨od,es,ep,k _ _ (.inl rfl) e,c⟩,r⟩
 |rng lo hi=>obtain⟨t,u,v,e⟩:=x;exact⟨t,u,v,k _ _ (.inl rfl) e⟩
 |frz ob u ih=>obtain⟨e,q⟩:=x;exact⟨k _ _ (.inl rfl) e,ih q⟩
 |tbl ps=>
  have e:=x;exact k a _ (.inl rfl) e
 |met f y=>
  have e:=x;exact k a _ (.inl rfl) e
 |ext φ=>obtain⟨p,⟨o,e⟩,st⟩:=x;exact⟨st _ _ p λo q=>k _ _ (.inl rfl) q,⟨o,k _ _ (.inl rfl) e⟩,st⟩
theorem Ur.lt(x:Ur P w H h)(e:H a=some o):a<h.objs.size:=(x a o e).lt
def Ur.fresh(x:Ur P w H h)(e:h.objs.size<=a):H a=none:=by
 cases q:H a with
 |none=>rfl
 |some u=>exact absurd (zzK (x.lt q) e) (Nat.lt_irrefl _)
def Ur.kept(x:Ur P w H h)(k:∀b u,h.get? b=some u->h'.get? b=some u):Ur P w H h':=λa o e=>
 (x a o e).stay (λb u _ q=>k b u q) (λ_ q=>q) λ_ _ q=>q
def Ur.laid(x:Ur P w H h)(k:∀b u,h.get? b=some u->h'.get? b=some u)(hp:h.objs.size<=a)(new:vS P w (upd H a o) h' a o):Ur P w (upd H a o) h':=λb u e=>by
 have hn:=x.fresh hp
 by_cases hb:b=a
 . subst hb;rw[yd]at e;cases e;exact new
 . rw[zH hb]at e;exact(x b u e).stay (λc v _ q=>k c v q) (λc q=>by rwa [zH<|zW q hn]) λc xs q=>by rwa [zH<|zW q hn]
end
def Rd(H:Hp)(a:Addr)(u:HO):Prop:=H a=some u\/∃o,H a=some (.frz o u)
def Rd.ok(r:Rd H a u)(x:Ur P w H h):vS P w H h a u:=by
 rcases r with r|⟨o,r⟩
 . exact x a u r
 . obtain⟨_,q⟩:=x a _ r;exact q
def mC:Option HO->Prop
 |some (.lst _)=>True
 |some (.dK _)=>True
 |some (.dT _)=>True
 |some (.set _ _)=>True
 |some (.ins _ _ _)=>True
 |some (.ext _)=>True
 |_=>False
section
variable{P:Program}{w:World}{H:Hp}{h h':Heap}{x e:Addr}{o':HO}
def Ur.write(ok:Ur P w H h)(mu:mC (H x))(he:e=x\/H e=some (.own x))(k:∀b u,b≠e->h.get? b=some u->h'.get? b=some u)(heo:∃u,h'.get? e=some u)
 (new:vS P w (upd H x o') h' x o'):Ur P w (upd H x o') h':=λb u q=>by
 have nown:∀c y,H c=some (.own y)->c≠x:=λc y r z=>by subst z;rwa [r]at mu
 have ntup:∀c xs,H c=some (.tup xs)->c≠x:=λc xs r z=>by subst z;rwa [r]at mu
 by_cases hb:b=x
 . subst hb;rw[yd]at q;cases q;exact new
 . rw[zH hb]at q
   by_cases hbe:b=e
   . have q':H b=some (.own x):=by
      rcases he with z|z
      . exact absurd (hbe.trans z) hb
      . rwa [hbe]
     rw[q]at q';cases q';obtain⟨v,hv⟩:=heo;exact⟨v,by rwa [hbe]⟩
   . refine(ok b u q).stay (λc v hc r=>k c v ?_ r) (λc r=>by rwa [zH<|nown c b r]) λc xs r=>by rwa [zH<|ntup c xs r]
     rcases hc with rfl|hc
     . exact hbe
     . rintro rfl
       rcases he with z|z
       . exact nown c b hc z
       . rw[hc]at z;cases z;exact hb rfl
end
structure Un(fs ex:List Addr)(H H':Hp)(h h':Heap):Prop where
 keep:∀b o,h.get? b=some o->H b=none->b ∉ fs->b ∉ ex->h'.get? b=some o
 slot:∀b o,h.get? b=some o->H b=none->b ∈ fs->b ∉ ex->∃sl,h'.get? b=some {o with slots:=sl}
 free:∀b o,h.get? b=some o->H b=none->b ∉ ex->H' b=none
 there:∀b o,h.get? b=some o->b ∉ ex->∃o',h'.get? b=some o'
 tups:∀b xs,H b=some (.tup xs)->H' b=some (.tup xs)
 frzs:∀b o u,H b=some (.frz o u)->H' b=some (.frz o u)
 tbls:∀b ps,H b=some (.tbl ps)->∃more,H' b=some (.tbl<|ps++more)
section
variable{fs fs' ex ex':List Addr}{H H1 H2:Hp}{h h1 h2 h':Heap}{a x e:Addr}{o:HO}
def Un.any(u:Un fs ex H H1 h h1)(q:h.get? b=some ob)(n:H b=none)(hx:b ∉ ex):∃sl,h1.get? b=some {ob with slots:=sl}:=by
 by_cases hb:b ∈ fs
 . exact u.slot b ob q n hb hx
 . exact⟨ob.slots,u.keep b ob q n hb hx⟩
def Un.kept(k:∀b u,h.get? b=some u->h'.get? b=some u):Un fs ex H H h h':=
 ⟨λb ob q _ _ _=>k b ob q,λb ob q _ _ _=>⟨ob.slots,k b ob q⟩,λ_ _ _ n _=>n,λb ob q _=>⟨ob,k b ob q⟩,λ_ _ q=>q,λ_ _ _ q=>q,λ_ ps q=>⟨#[],by rw[q];simp⟩⟩
def Un.refl:Un fs ex H H h h:=Un.kept λ_ _ q=>q
def Un.laid(k:∀b u,h.get? b=some u->h'.get? b=some u)(hp:h.objs.size<=a)(hn:H a=none):Un fs ex H (upd H a o) h h' where
 keep:=λb u q _ _ _=>k b u q
 slot:=λb u q _ _ _=>⟨u.slots,k b u q⟩
 free:=λb u q n _=>by rwa [zH<|zzQ<|zzK (zxG q) hp]
 there:=λb u q _=>⟨u,k b u q⟩
 tups:=λb xs q=>by rwa [zH<|zW q hn]
 frzs:=λb u xs q=>by rwa [zH<|zW q hn]
 tbls:=λb ps q=>⟨#[],by rw[zH<|zW q hn,q];simp⟩
def Un.write(mu:mC (H x))(he:e=x\/H e=some (.own x))(k:∀b u,b≠e->h.get? b=some u->h'.get? b=some u)(heo:∃u,h'.get? e=some u):Un fs ex H (upd H x o) h h':=by
 have hx:∀b,H b=none->b≠x:=λb n z=>by subst z;rwa [n]at mu
 have hb:∀b,H b=none->b≠e:=λb n z=>by
  subst z
  rcases he with r|r
  . exact hx b n r
  . rw[n]at r;cases r
 have hm:∀b u,H b=some u->¬mC (some u)->b≠x:=λb u q nm z=>by subst z;rw[q]at mu;exact nm mu
 refine⟨λb u q n _ _=>k b u (hb b n) q,λb u q n _ _=>⟨u.slots,k b u (hb b n) q⟩,λb u q n _=>by rw[zH<|hx b n];exact n,λb u q _=>?_,
  λb xs q=>by rw[zH<|hm b _ q λz=>z];exact q,λb u xs q=>by rw[zH<|hm b _ q λz=>z];exact q,λb ps q=>⟨#[],by rw[zH<|hm b _ q λz=>z,q];simp⟩⟩
 by_cases hbe:b=e
 . subst hbe;exact heo
 . exact⟨u,k b u hbe q⟩
end
noncomputable def trk(h:Heap)(H:Hp):List Addr:=(List.range h.objs.size).filter λa=>(H a).isSome
def B1(h:Heap)(H:Hp):Heap:=W.hideAll h<|trk h H
def B3(h)(H):(B1 h H).objs.size=h.objs.size:=W.hideAll_size _ _
def Cf(e:h.get? b=some o)(n:H b=none):(B1 h H).get? b=some o:=
 W.hideAll_get _ e λhm=>by
  have q:=(List.mem_filter.mp hm).2;rw[n]at q;simp at q
def C7(e:(B1 h H).get? b=some o):h.get? b=some o/\H b=none:=by
 have e':h.get? b=some o:=W.of_hideAll _ e;refine⟨e', ?_⟩;cases q:H b with
 |none=>rfl
 |some x=>
  have hm:b ∈ trk h H:=List.mem_filter.mpr ⟨List.mem_range.mpr<|zxG e',by simp[q]⟩;have z:(B1 h H).get? b=none:=W.hideAll_none _ hm;rw[z]at e;cases e
end L2
namespace L2
open PySem PySem.Spec PyProof.Rows
structure Mod(K:zzA)(mg:Str->Option Value)(base:Heap):Prop where
 kin:K.In base
 glob:base.Ns mainGlobals mg
 blt:∃mb,base.Ns builtinsNs mb/\∀x:Str,x≠"__name__"->mb x=bootBuiltins x
 nolimit:base.NoLimit
structure Cx where
 prog:Program
 w:World
 K:zzA
 mg:Str->Option Value
 base:Heap
 A:Around
 N:List Str
 s₀:Shared
 H₀:Hp
 env:Env
 outer:List Env
 stack:List Env
 ex:List Addr
 fn:Str->Bool
 calm:Bool
 pn:List (Addr×Obj)
 xe:Value->Shared->Prop
noncomputable def SE(l:List Env):List Addr:=l.filterMap (·.frame)
abbrev Cx.fs(X:Cx):List Addr:=SE X.outer
def n5(sc:Scope)(x:Str):Prop:=sc.names.lookup x=some .local\/sc.names.lookup x=some .cell\/sc.names.lookup x=some .free
def Loc(sc:Scope)(x:Str):Prop:=sc.names.lookup x=some .local\/sc.names.lookup x=some .cell
def Look(env:Env)(h:Heap)(m:Str->Option Value)(x:Str)(u:Value):Prop:=
 (env.kindOf x=some .local/\m x=some u)\/((env.kindOf x=some .cell\/env.kindOf x=some .free)/\∃c,env.cells.lookup x=some c/\h.IsCell c (some u))
structure Cx.Ok(X:Cx):Prop where
 mod:Mod X.K X.mg X.base
 kind:X.env.scope.kind = .function
 glob:X.env.globals=mainGlobals
 blt:X.env.builtins=builtinsNs
 above:X.s₀.heap.objs.size<=X.env.locals
 inj:∀x y c,X.env.cells.lookup x=some c->X.env.cells.lookup y=some c->x=y
 has:∀x,(X.env.kindOf x=some .cell\/X.env.kindOf x=some .free)->∃c,X.env.cells.lookup x=some c
 cab:∀x c,X.fn x=true->X.env.cells.lookup x=some c->X.s₀.heap.objs.size<=c
 hd:X.calm=true->X.A.handled=none
 frames:X.A.frames=some X.stack
 stk:X.stack=X.outer\/(X.stack=X.env::X.outer/\X.env.frame=some X.env.locals)
 exf:∀b ∈ X.ex,b≠X.env.locals/\∀x c,X.env.cells.lookup x=some c->c≠b
 bs:∀b o,X.base.get? b=some o->X.s₀.heap.get? b=some o/\X.H₀ b=none
 bsz:X.base.objs.size<=X.s₀.heap.objs.size
 noex:∀b o,X.base.get? b=some o->b ∉ X.ex
 exfs:∀b ∈ X.ex,b ∉ X.fs
 funs:X.s₀.heap.FunFrames X.base X.outer
 frf:∀b ∈ X.fs,X.H₀ b=none
structure Inv(X:Cx)(pins:List (Addr×Obj))(σ:List (Option V))(H:Hp)(s:Shared):Prop where
 ok:X.Ok
 os:s.os=X.s₀.os
 bare:AllBare s.gens
 base:Un X.fs X.ex X.H₀ H X.s₀.heap s.heap
 loc:∃m,s.heap.Ns X.env.locals m/\∀(i:Nat) (x:Str) (v:V),X.N[i]? = some x->σ[i]? = some (some v)->n5 X.env.scope x->∃u,RelV v u/\Look X.env s.heap m x u
 cell:∀x c,X.env.cells.lookup x=some c->∃v,s.heap.IsCell c v
 free:H X.env.locals=none
 freeC:∀x c,X.env.cells.lookup x=some c->H c=none
 pin:∀p ∈ X.pn++pins,s.heap.get? p.1=some p.2/\H p.1=none/\p.1≠X.env.locals/\p.1 ∉ X.fs/\∀v,p.2.data ≠ .cell v
 hok:Ur X.prog X.w H s.heap
 len:σ.length=X.N.length
section
variable{X:Cx}{pins:List (Addr×Obj)}{σ:List (Option V)}{H H':Hp}{s:Shared}{h':Heap}
def Cx.Ok.nofr(ok:X.Ok)(e:X.base.get? b=some o):b ∉ X.fs:=λhb=>by
 have:=(ok.funs.mem hb).1;rw[e]at this;cases this
theorem Inv.bs(I:Inv X pins σ H s):∀b o,X.base.get? b=some o->s.heap.get? b=some o/\H b=none:=λb o e=>
 ⟨I.base.keep b o (I.ok.bs b o e).1 (I.ok.bs b o e).2 (I.ok.nofr e)<|I.ok.noex b o e,I.base.free b o (I.ok.bs b o e).1 (I.ok.bs b o e).2<|I.ok.noex b o e⟩
def Inv.bk(I:Inv X pins σ H s):∀b o,X.base.get? b=some o->s.heap.get? b=some o:=λb o e=>(I.bs b o e).1
theorem Inv.mod(I:Inv X pins σ H s):Mod X.K X.mg X.base:=I.ok.mod
def Inv.kIn(I:Inv X pins σ H s):X.K.In s.heap:=I.ok.mod.kin.keeps I.bk
theorem Inv.lt(I:Inv X pins σ H s):X.env.locals<s.heap.objs.size:=let⟨_,hn,_⟩:=I.loc;hn.lt
def Inv.sz(I:Inv X pins σ H s):X.s₀.heap.objs.size<=s.heap.objs.size:=zzO I.ok.above<|Nat.le_of_lt I.lt
def Inv.nofs(I:Inv X pins σ H s)(h:s.heap.objs.size<=a):a ∉ X.fs:=λhb=>by
 obtain⟨_,o,ho,_⟩:=I.ok.funs.mem hb;exact absurd (zzK (zxG ho)<|zzO I.sz h)<|Nat.lt_irrefl _
def Inv.cne(I:Inv X pins σ H s):∀x c,X.env.cells.lookup x=some c->c≠X.env.locals:=λx c e z=>by
 obtain⟨v,o,ho,hd⟩:=I.cell x c e;obtain⟨m,⟨o',es,ep,ho',hd',_⟩,_⟩:=I.loc;rw[z,ho']at ho;cases ho;rw[hd']at hd;cases hd
theorem Inv.funs(I:Inv X pins σ H s):s.heap.FunFrames X.base X.outer:=by
 have all:∀l,(∀b ∈ SE l,b ∈ X.fs)->X.s₀.heap.FunFrames X.base l->s.heap.FunFrames X.base l:=by
  intro l
  induction l with
  |nil=>intro _ _;trivial
  |cons env r ih=>
   intro hs hl;obtain⟨hk,⟨L,o,hf,hn,ho,hd⟩,hr⟩:=hl;have hL:=hs L (by unfold SE;rw[List.filterMap_cons,hf];exact zzF);obtain⟨sl,e⟩:=I.base.slot L o ho (I.ok.frf L hL) hL λz=>I.ok.exfs L z hL;exact⟨hk,⟨L,_,hf,hn,e,hd⟩,ih (λb hb=>hs b<|by unfold SE;rw[List.filterMap_cons,hf];exact zzD _ hb) hr⟩
 exact all X.outer (λ_ hb=>hb) I.ok.funs
theorem Inv.stack(I:Inv X pins σ H s):s.heap.FunFrames X.base X.stack:=by
 rcases I.ok.stk with e|⟨e,hf⟩
 . rw[e];exact I.funs
 . rw[e];obtain⟨m,hn,_⟩:=I.loc;refine .cons (by rw[I.ok.kind];decide) hf hn ?_ I.funs;exact Heap.get?_none_of_le<|zzO I.ok.bsz I.ok.above
def Inv.stkSub(I:Inv X pins σ H s):∀b ∈ SE X.stack,b ∈ X.env.locals::X.fs:=λb hb=>by
 rcases I.ok.stk with e|⟨e,hf⟩
 . rw[e]at hb;exact zzD _ hb
 . rw[e]at hb;unfold SE at hb
   rwa [List.filterMap_cons,hf]at hb
def Inv.stkFree(I:Inv X pins σ H s):∀b ∈ SE X.stack,H b=none:=λb hb=>by
 rcases zzC.mp (I.stkSub b hb)with e|hb
 . rw[e];exact I.free
 . obtain⟨_,o,ho,_⟩:=I.ok.funs.mem hb;exact I.base.free b o ho (I.ok.frf b hb) λz=>I.ok.exfs b z hb
def Inv.step{g'}{t':Nat}{d'}{ch:List Addr}(I:Inv X pins σ H s)
 (hch:∀b ∈ ch,(b ∈ X.ex\/X.s₀.heap.objs.size<=b)/\b≠X.env.locals/\(∀x c,X.env.cells.lookup x=some c->c≠b)/\∀p ∈ X.pn++pins,p.1≠b)
 (keep:∀b o,b≠X.env.locals->b ∉ X.fs->b ∉ ch->s.heap.get? b=some o->H b=none->h'.get? b=some o)
 (slot:∀b o,b≠X.env.locals->b ∈ X.fs->b ∉ ch->s.heap.get? b=some o->H b=none->∃sl,h'.get? b=some {o with slots:=sl}) (free:∀b o,b ∉ ch->s.heap.get? b=some o->H b=none->H' b=none)
 (there:∀b o,b ∉ ch->s.heap.get? b=some o->∃o',h'.get? b=some o')
 (tups:∀b xs,H b=some (.tup xs)->H' b=some (.tup xs)) (frzs:∀b o u,H b=some (.frz o u)->H' b=some (.frz o u)) (tbls:∀b ps,H b=some (.tbl ps)->∃more,H' b=some (.tbl<|ps++more))
 (ns:∀m,s.heap.Ns X.env.locals m->h'.Ns X.env.locals m) (hok:Ur X.prog X.w H' h') (hg:AllBare g'):
 Inv X pins σ H' {s with heap:=h',gens:=g',drawn:=d',toks:=t'}:=by
 have neL:∀b o,X.s₀.heap.get? b=some o->b≠X.env.locals:=λb o e=>zzQ<|zzK (zxG e) I.ok.above;have neC:∀b o,X.s₀.heap.get? b=some o->b ∉ X.ex->b ∉ ch:=λb o e hx hb=>by
  rcases(hch b hb).1 with z|z
  . exact hx z
  . exact absurd (zzK (zxG e) z)<|Nat.lt_irrefl _
 have cellK:∀x c,X.env.cells.lookup x=some c->∀v,s.heap.IsCell c v->h'.IsCell c v:=λx c e v ⟨o,ho,hd⟩=>by
  have nch:=λz=>(hch c z).2.2.1 x c e rfl
  by_cases hc:c ∈ X.fs
  . obtain⟨sl,q⟩:=slot c o (I.cne x c e) hc nch ho<|I.freeC x c e;exact⟨_,q,hd⟩
  . exact⟨o,keep c o (I.cne x c e) hc nch ho<|I.freeC x c e,hd⟩
 refine⟨I.ok,I.os,hg,⟨λb o e n hb hx=>?_,λb o e n hb hx=>?_,λb o e n hx=>?_,λb o e hx=>?_,λb xs e=>tups b xs<|I.base.tups b xs e,λb o xs e=>frzs b o xs<|I.base.frzs b o xs e,λb ps e=>?_⟩, ?_,λx c e=>?_, ?_,λx c e=>?_,λp hp=>?_,hok,I.len⟩
 . exact keep b o (neL b o e) hb (neC b o e hx) (I.base.keep b o e n hb hx)<|I.base.free b o e n hx
 . obtain⟨sl,e1⟩:=I.base.slot b o e n hb hx;obtain⟨sl',e2⟩:=slot b _ (neL b o e) hb (neC b o e hx) e1<|I.base.free b o e n hx;exact⟨sl',e2⟩
 . obtain⟨o',e1⟩:=I.base.there b o e hx;exact free b o' (neC b o e hx) e1<|I.base.free b o e n hx
 . obtain⟨o',e1⟩:=I.base.there b o e hx;exact there b o' (neC b o e hx) e1
 . obtain⟨m1,e1⟩:=I.base.tbls b ps e;obtain⟨m2,e2⟩:=tbls b _ e1;exact⟨m1++m2,by rw[e2,Array.append_assoc]⟩
 . obtain⟨m,hn,hl⟩:=I.loc;refine⟨m,ns m hn,λi x v e1 e2 e3=>?_⟩;obtain⟨u,r,l⟩:=hl i x v e1 e2 e3;refine⟨u,r, ?_⟩
   rcases l with l|⟨k,c,e,z⟩
   . exact .inl l
   . exact .inr ⟨k,c,e,cellK x c e _ z⟩
 . obtain⟨v,z⟩:=I.cell x c e;exact⟨v,cellK x c e v z⟩
 . obtain⟨m,⟨o,_,_,ho,_⟩,_⟩:=I.loc;exact free _ o (λz=>(hch _ z).2.1 rfl) ho I.free
 . obtain⟨v,o,ho,hd⟩:=I.cell x c e;exact free c o (λz=>(hch c z).2.2.1 x c e rfl) ho<|I.freeC x c e
 . obtain⟨e,n,ne,nf,d⟩:=I.pin p hp;have nch:=λz=>(hch p.1 z).2.2.2 p hp rfl;exact⟨keep p.1 p.2 ne nf nch e n,free p.1 p.2 nch e n,ne,nf,d⟩
def Inv.un{t':Nat}(I:Inv X pins σ H s)(u:Un X.fs [] H H' s.heap h')(hok:Ur X.prog X.w H' h'):Inv X pins σ H' {s with heap:=h',toks:=t'}:=by
 obtain⟨m,⟨o,es,ep,ho,r⟩,_⟩:=id I.loc;obtain⟨sl,hL⟩:=u.any ho I.free (by simp);exact I.step (g':=s.gens) (d':=s.drawn) (ch:=[]) (λ_ z=>nomatch z) (λb o _ hb _ e n=>u.keep b o e n hb<|by simp) (λb o _ hb _ e n=>u.slot b o e n hb<|by simp) (λb o _ e n=>u.free b o e n<|by simp) (λb o _ e=>u.there b o e<|by simp) u.tups u.frzs u.tbls (λm' hm=>by
  obtain⟨o',es',ep',ho',r'⟩:=hm;rw[ho]at ho';cases ho';exact⟨_,es',ep',hL,r'⟩) hok I.bare
def Inv.call{g'}{t':Nat}{d'}{ch:List Addr}(I:Inv X pins σ H s)(u:Un (SE X.stack) ch H H' s.heap h')(hok:Ur X.prog X.w H' h')(hg:AllBare g')
 (hch:∀b ∈ ch,(b ∈ X.ex\/X.s₀.heap.objs.size<=b)/\b≠X.env.locals/\(∀x c,X.env.cells.lookup x=some c->c≠b)/\∀p ∈ X.pn++pins,p.1≠b):
 Inv X pins σ H' {s with heap:=h',gens:=g',drawn:=d',toks:=t'}:=by
 obtain⟨m,⟨o,es,ep,ho,r⟩,_⟩:=id I.loc;obtain⟨sl,hL⟩:=u.any ho I.free λz=>(hch _ z).2.1 rfl;exact I.step hch (λb o hL hb hc e n=>u.keep b o e n (λz=>(zzC.mp<|I.stkSub b z).elim hL hb) hc) (λb o _ _ hc e n=>u.any e n hc) (λb o hc e n=>u.free b o e n hc) (λb o hc e=>u.there b o e hc) u.tups u.frzs u.tbls (λm' hm=>by
  obtain⟨o',es',ep',ho',r'⟩:=hm;rw[ho]at ho';cases ho';exact⟨_,es',ep',hL,r'⟩) hok hg
def Inv.turned{t':Nat}{it:Addr}(I:Inv X pins σ H s)(k:∀b o,b≠it->s.heap.get? b=some o->h'.get? b=some o)(hn:H it=none)(hL:it≠X.env.locals)
 (h1:it ∈ X.ex\/X.s₀.heap.objs.size<=it) (h2:∀x c,X.env.cells.lookup x=some c->c≠it) (h3:∀p ∈ X.pn++pins,p.1≠it):Inv X pins σ H {s with heap:=h',toks:=t'}:=by
 have nit:∀b u,H b=some u->b≠it:=λb u e z=>by rw[z,hn]at e;cases e
 refine I.step (g':=s.gens) (d':=s.drawn) (ch:=[it]) (λb hb=>?_) (λb o _ _ hc e _=>k b o (λz=>hc<|by simp[z]) e) (λb o _ _ hc e _=>⟨o.slots,k b o (λz=>hc<|by simp[z]) e⟩) (λ_ _ _ _ n=>n)
  (λb o hc e=>⟨o,k b o (λz=>hc<|by simp[z]) e⟩) (λ_ _ e=>e) (λ_ _ _ e=>e) (λb ps e=>⟨#[],by rw[e];simp⟩) (λm hm=>?_) (λb u e=>?_) I.bare
 . have e:b=it:=by simpa using hb
   subst e;exact⟨h1,hL,h2,h3⟩
 . obtain⟨o,es,ep,ho,r⟩:=hm;exact⟨o,es,ep,k _ o (Ne.symm hL) ho,r⟩
 . refine(I.hok b u e).stay (λc v hc q=>k c v ?_ q) (λ_ q=>q) λ_ _ q=>q
   rcases hc with z|z
   . rw[z];exact nit b u e
   . exact nit c _ z
def Inv.tok(I:Inv X pins σ H s)(t:Nat):Inv X pins σ H {s with toks:=t}:=I.un (h':=s.heap) (t':=t) Un.refl I.hok
theorem Inv.kept(I:Inv X pins σ H s)(k:∀b u,s.heap.get? b=some u->h'.get? b=some u):Inv X pins σ H {s with heap:=h',toks:=t'}:=I.un (Un.kept k)<|I.hok.kept k
theorem Inv.laid(I:Inv X pins σ H s)(k:∀b u,s.heap.get? b=some u->h'.get? b=some u)(hp:s.heap.objs.size<=a)(new:vS X.prog X.w (upd H a o) h' a o):
 Inv X pins σ (upd H a o) {s with heap:=h',toks:=t'}:=I.un (Un.laid k hp<|I.hok.fresh hp)<|I.hok.laid k hp new
theorem Inv.write(I:Inv X pins σ H s)(mu:mC (H x))(he:e=x\/H e=some (.own x))(k:∀b u,b≠e->s.heap.get? b=some u->h'.get? b=some u)(heo:∃u,h'.get? e=some u)
 (new:vS X.prog X.w (upd H x o) h' x o):Inv X pins σ (upd H x o) {s with heap:=h',toks:=t'}:=I.un (Un.write mu he k heo)<|I.hok.write mu he k heo new
def Inv.weak(I:Inv X pins σ H s)(hl:σ'.length=σ.length)(w:∀(i:Nat) v,σ'[i]? = some (some v)->σ[i]? = some (some v)):Inv X pins σ' H s:=
 ⟨I.ok,I.os,I.bare,I.base,let⟨m,hn,hl'⟩:=I.loc;⟨m,hn,λi x v e1 e2 e3=>hl' i x v e1 (w i v e2) e3⟩,I.cell,I.free,I.freeC,I.pin,I.hok,hl.trans I.len⟩
def Inv.pins_of(I:Inv X pins σ H s)(h:∀p ∈ pins',s.heap.get? p.1=some p.2/\H p.1=none/\p.1≠X.env.locals/\p.1 ∉ X.fs/\∀v,p.2.data ≠ .cell v):Inv X pins' σ H s:=
 ⟨I.ok,I.os,I.bare,I.base,I.loc,I.cell,I.free,I.freeC,λp hp=>(zzM.mp hp).elim (λz=>I.pin p<|zzP _ z)<|h p,I.hok,I.len⟩
def Nr{N:List Str}(hN:N.Nodup){i j:Nat}{x}(a:N[i]? = some x)(b:N[j]? = some x):i=j:=by
 obtain⟨h1,e1⟩:=zzG.mp a;obtain⟨h2,e2⟩:=zzG.mp b;exact(List.getElem_inj hN).mp<|e1.trans e2.symm
def GH{M A E}{i:Nat}{x v u Q}(I:Inv X pins σ H s)(hN:X.N.Nodup)(hi:X.N[i]? = some x)(hx:Loc X.env.scope x)(r:RelV v u)
 (h:∀s',Inv X pins (σ.set i<|some v) H s'->(∃a,Heap.SameBut a s.heap s'.heap/\(a=X.env.locals\/X.env.cells.lookup x=some a))->Q () s') (hf:X.fn x=true\/X.env.scope.names.lookup x=some .local:=by first|exact .inl rfl|exact .inr rfl|assumption):wpAny M A (storeName X.env x u) Q E s:=by
 obtain⟨m,hn,hl⟩:=id I.loc;have hcls:(X.env.scope.kind == .class||(X.env.scope.kind == .module&&X.env.locals != X.env.globals))=false:=by rw[I.ok.kind];rfl
 have hiσ:i<σ.length:=by rw[I.len];exact(zzG.mp hi).1
 have cne:=I.cne;have tracked:∀{a:Addr}{h':Heap},(∃o,s.heap.get? a=some o/\H a=none)->Heap.SameBut a s.heap h'->Ur X.prog X.w H h':=λ{a h'} ha hs b ob e=>by
  obtain⟨_,_,hfree⟩:=ha;refine(I.hok b ob e).stay (λc w' hc q=>(hs.2 c ?_).trans q) (λ_ q=>q) λ_ _ q=>q
  rintro rfl
  rcases hc with rfl|hc
  . rw[hfree]at e;cases e
  . rw[hfree]at hc;cases hc
 rcases hx with hk|hk
 . refine wpAny_storeName_local hk hn (λh' hn' hs=>?_) hcls;obtain⟨oL,_,_,hoL,_⟩:=id hn;refine h _ ⟨I.ok,I.os,I.bare,⟨λb o e n hb hx=>?_,λb o e n hb hx=>?_,I.base.free,λb o e hx=>?_,I.base.tups,I.base.frzs,I.base.tbls⟩,⟨_,hn',λj y v' e1 e2 e3=>?_⟩,λy c e=>?_,I.free,I.freeC,λp hp=>?_,tracked ⟨oL,hoL,I.free⟩ hs,by simpa using I.len⟩ ⟨_,hs,.inl rfl⟩
   . exact(hs.2 b<|zzQ<|zzK (zxG e) I.ok.above).trans<|I.base.keep b o e n hb hx
   . obtain⟨sl,e1⟩:=I.base.slot b o e n hb hx;exact⟨sl,(hs.2 b<|zzQ<|zzK (zxG e) I.ok.above).trans e1⟩
   . obtain⟨o',e1⟩:=I.base.there b o e hx;exact⟨o',(hs.2 b<|zzQ<|zzK (zxG e) I.ok.above).trans e1⟩
   . by_cases hj:j=i
     . subst hj;rw[hi]at e1;cases e1;rw[zyK hiσ]at e2;cases e2;exact⟨u,r,.inl ⟨hk,by simp⟩⟩
     . rw[zzY<|Ne.symm hj]at e2;obtain⟨u',r',q⟩:=hl j y v' e1 e2 e3;refine⟨u',r', ?_⟩
       rcases q with⟨k,e⟩|⟨k,c,e,z⟩
       . refine .inl ⟨k, ?_⟩;have:y≠x:=λe=>hj<|Nr hN e1<|e ▸ hi;simp[this,e]
       . exact .inr ⟨k,c,e,z.sameBut hs<|cne y c e⟩
   . obtain⟨w',z⟩:=I.cell y c e;exact⟨w',z.sameBut hs<|cne y c e⟩
   . obtain⟨e,n,ne,nf,d⟩:=I.pin p hp;exact⟨(hs.2 p.1 ne).trans e,n,ne,nf,d⟩
 . have hfn:X.fn x=true:=by
    rcases hf with z|z
    . exact z
    . rw[z]at hk;cases hk
   obtain⟨c,hc⟩:=I.ok.has x<|.inl hk;obtain⟨w',z⟩:=I.cell x c hc;refine wpAny_storeName_cell I.ok.kind hk hc z λh' hc' hs=>?_;obtain⟨oc,hoc,hocd⟩:=id z;refine h {s with heap:=h'} ⟨I.ok,I.os,I.bare,⟨λb o e n hb hx=>?_,λb o e n hb hx=>?_,I.base.free,λb o e hx=>?_,I.base.tups,I.base.frzs,I.base.tbls⟩,⟨m,hn.sameBut hs<|Ne.symm<|cne x c hc,λj y v' e1 e2 e3=>?_⟩,λy c' e=>?_,I.free,I.freeC,λp hp=>?_,tracked ⟨oc,hoc,I.freeC x c hc⟩ hs,by simpa using I.len⟩ ⟨c,hs,.inr hc⟩
   . exact(hs.2 b<|zzQ<|zzK (zxG e)<|I.ok.cab x c hfn hc).trans<|I.base.keep b o e n hb hx
   . obtain⟨sl,e1⟩:=I.base.slot b o e n hb hx;exact⟨sl,(hs.2 b<|zzQ<|zzK (zxG e)<|I.ok.cab x c hfn hc).trans e1⟩
   . obtain⟨o',e1⟩:=I.base.there b o e hx;exact⟨o',(hs.2 b<|zzQ<|zzK (zxG e)<|I.ok.cab x c hfn hc).trans e1⟩
   . by_cases hj:j=i
     . subst hj;rw[hi]at e1;cases e1;rw[zyK hiσ]at e2;cases e2;exact⟨u,r,.inr ⟨.inl hk,c,hc,hc'⟩⟩
     . rw[zzY<|Ne.symm hj]at e2;obtain⟨u',r',q⟩:=hl j y v' e1 e2 e3;refine⟨u',r', ?_⟩
       rcases q with q|⟨k,c',e,z'⟩
       . exact .inl q
       . refine .inr ⟨k,c',e,z'.sameBut hs ?_⟩
         rintro rfl
         exact hj<|Nr hN e1<|I.ok.inj _ _ _ e hc ▸ hi
   . by_cases hcc:c'=c
     . subst hcc;exact⟨_,hc'⟩
     . obtain⟨w2,z2⟩:=I.cell y c' e;exact⟨w2,z2.sameBut hs hcc⟩
   . obtain⟨e,n,ne,nf,d⟩:=I.pin p hp;refine⟨(hs.2 p.1 ?_).trans e,n,ne,nf,d⟩;intro q;rw[q,hoc]at e;have q':oc=p.2:=zzZ e;exact d w' (by rwa [<-q'])
def N6(I:Inv X pins σ H s)(hN:X.N.Nodup)(hi:X.N[i]? = some x)(hx:Loc X.env.scope x)(r:RelV v u)
 (h:∀s',Inv X pins (σ.set i<|some v) H s'->Q () s') (hf:X.fn x=true\/X.env.scope.names.lookup x=some .local:=by first|exact .inl rfl|exact .inr rfl|assumption):wpAny M A (storeName X.env x u) Q E s:=
 GH I hN hi hx r (λs' I' _=>h s' I') hf
def Inv.call'(I:Inv X pins σ H s)(ho:s'.os=s.os)(u:Un (SE X.stack) ch H H' s.heap s'.heap)(hok:Ur X.prog X.w H' s'.heap)(hg:AllBare s'.gens)
 (hch:∀b ∈ ch,(b ∈ X.ex\/X.s₀.heap.objs.size<=b)/\b≠X.env.locals/\(∀x c,X.env.cells.lookup x=some c->c≠b)/\∀p ∈ X.pn++pins,p.1≠b):Inv X pins σ H' s':=by
 obtain⟨h',g',d',t',o'⟩:=s';have e:=ho;subst e;exact I.call (g':=g') (t':=t') (d':=d') u hok hg hch
end
abbrev XK:=Value->Option Addr->Hp->Prop
abbrev St:=List<|Option V
abbrev VK:=V->Hp->Prop
abbrev TE:=St->Hp->VK->Prop
abbrev TT:=St->Hp->(Bool->Hp->Prop)->Prop
abbrev TA:=St->Hp->(List V->Hp->Prop)->Prop
structure Ends where
 nx:St->Hp->Prop
 rt:VK
 bk:St->Hp->Prop:=λ_ _=>False
 ct:St->Hp->Prop:=λ_ _=>False
abbrev TS:=Ends->St->Hp->Prop
def EP(X:Cx)(pins:List (Addr×Obj))(σ:St)(Q:VK)(u:Value)(s':Shared):Prop:=∃v H',Inv X pins σ H' s'/\RelV v u/\Q v H'
def TP(X:Cx)(pins:List (Addr×Obj))(σ:St)(Q:Bool->Hp->Prop)(b:Bool)(s':Shared):Prop:=∃H',Inv X pins σ H' s'/\Q b H'
def AP(X:Cx)(pins:List (Addr×Obj))(σ:St)(Q:List V->Hp->Prop)(us:List Value)(s':Shared):Prop:=∃vs H',Inv X pins σ H' s'/\zP vs us/\Q vs H'
def SP(X:Cx)(pins:List (Addr×Obj))(D:Ends)(f:Flow)(s':Shared):Prop:=
 match f with
 | .next=>∃σ' H',Inv X pins σ' H' s'/\D.nx σ' H'
 | .brk=>∃σ' H',Inv X pins σ' H' s'/\D.bk σ' H'
 | .cont=>∃σ' H',Inv X pins σ' H' s'/\D.ct σ' H'
 | .ret u=>∃v σ' H',Inv X pins σ' H' s'/\RelV v u/\D.rt v H'
def PE(X:Cx)(e:Expr)(t:TE):Prop:=
 ∀(pins:List (Addr×Obj)) (s:Shared) (σ:St) (H:Hp) (Q:VK),Inv X pins σ H s->t σ H Q->wpAny (model X.prog X.w) X.A (eval e X.env) (EP X pins σ Q) X.xe s
def PT(X:Cx)(e:Expr)(t:TT):Prop:=
 ∀(pins:List (Addr×Obj)) (s:Shared) (σ:St) (H:Hp) (Q:Bool->Hp->Prop),Inv X pins σ H s->t σ H Q->wpAny (model X.prog X.w) X.A (isTrue e X.env<|eval e X.env) (TP X pins σ Q) X.xe s
def PW(X:Cx)(e:Expr)(t:TT):Prop:=
 ∀(whole:Sem Value) (pins:List (Addr×Obj)) (s:Shared) (σ:St) (H:Hp) (Q:Bool->Hp->Prop),Inv X pins σ H s->t σ H Q->wpAny (model X.prog X.w) X.A (isTrue e X.env whole) (TP X pins σ Q) X.xe s
def PW.pt(h:PW X e t):PT X e t:=h _
def PA(X:Cx)(es:List Expr)(t:TA):Prop:=
 ∀(pos:Pos) (pins:List (Addr×Obj)) (s:Shared) (σ:St) (H:Hp) (Q:List V->Hp->Prop),Inv X pins σ H s->t σ H Q->wpAny (model X.prog X.w) X.A (spliced<|backTo pos<|starEach es X.env) (AP X pins σ Q) X.xe s
def PS(X:Cx)(st:Stmt)(t:TS):Prop:=
 ∀(pins:List (Addr×Obj)) (s:Shared) (σ:St) (H:Hp) (D:Ends),Inv X pins σ H s->t D σ H->wpAny (model X.prog X.w) X.A (exec st X.env) (SP X pins D) X.xe s
def Nj(X:Cx)(st:List Stmt)(t:TS):Prop:=
 ∀(pins:List (Addr×Obj)) (s:Shared) (σ:St) (H:Hp) (D:Ends),Inv X pins σ H s->t D σ H->wpAny (model X.prog X.w) X.A (execs st X.env) (SP X pins D) X.xe s
def xV(h:wpAny M A t Q E s)(hQ:∀a s,Q a s->Q' a s):wpAny M A t Q' E s:=zxK h hQ λ_ _ x=>x
end L2
namespace L2
open PySem PySem.Spec PyProof.Rows
section
variable{X:Cx}
def Vk(i:Nat):TE:=λσ H Q=>∃v,σ[i]? = some (some v)/\Q v H
def tC(v:V):TE:=λ_ H Q=>Q v H
def Oi(hN:X.N[i]? = some x)(hv:n5 X.env.scope x)(hd:(x==("__debug__":Str))=false:=by decide)(hcd:(x==("__classdict__":Str))=false:=by decide):PE X (.Name x pos) (Vk i):=by
 intro pins s σ H Q I h;obtain⟨v,e,h⟩:=h;obtain⟨m,hn,hl⟩:=I.loc;obtain⟨u,r,l⟩:=hl i x v hN e hv;have fin:EP X pins σ Q u s:=⟨v,H,I,r,h⟩
 rcases l with⟨hk,hm⟩|⟨hk,c,hc,hcell⟩
 . exact wpAny_Name (wpAny_loadName_local I.ok.kind hk hn hm fin) hd
 . rcases hk with hk|hk
   . exact wpAny_Name (wpAny_loadName_cell I.ok.kind hk hc hcell fin) hd
   . exact wpAny_Name (wpAny_loadName_free I.ok.kind hk hc hcell fin hcd) hd
def sr:PE X (.Constant (.int i) j pos) (tC<|.int i):=λ_ _ _ H _ I h=>wpAny_Constant_int ⟨.int i,H,I.tok _,⟨_,rfl⟩,h⟩
def p7:PE X (.Constant (.bool b) j pos) (tC<|.bl b):=λ_ _ _ H _ I h=>Constant_bool ⟨.bl b,H,I,rfl,h⟩
def D5:PE X (.Constant .none j pos) (tC .non):=λ_ _ _ H _ I h=>Constant_none ⟨.non,H,I,rfl,h⟩
def tq:PE X (.Constant (.str x) j pos) (tC<|.str x):=λ_ _ _ H _ I h=>Calls.Constant_str ⟨.str x,H,I.tok _,⟨_,rfl⟩,h⟩
def Gl(X:Cx)(x:Str):Prop:=X.env.kindOf x=some .globalImplicit
def Nb(I:Inv X pins σ H s)(hg:Gl X x)(hm:X.mg x=some u)(h:Q u s)
 (hd:(x==("__debug__":Str))=false:=by decide):wpAny (model X.prog X.w) X.A (eval (.Name x pos) X.env) Q E s:=
 Calls.Name_function_global I.ok.kind hg (Calls.loadGlobal_global (by rw[I.ok.glob];exact I.mod.glob.keeps I.bk) hm h) hd
def XH(I:Inv X pins σ H s)(hg:Gl X x)(hm:X.mg x=none)(hv:bootBuiltins x=some u)(h:Q u s)
 (hn:x≠"__name__":=by decide) (hd:(x==("__debug__":Str))=false:=by decide):wpAny (model X.prog X.w) X.A (eval (.Name x pos) X.env) Q E s:=by
 obtain⟨mb,h1,h2⟩:=I.mod.blt;exact Calls.Name_function_global I.ok.kind hg (Calls.loadGlobal_builtin (by rw[I.ok.glob];exact I.mod.glob.keeps I.bk) hm (by rw[I.ok.blt];exact h1.keeps I.bk) ((h2 x hn).trans hv) h) hd
def Ar(hg:Gl X x)(hm:X.mg x=some u)(r:RelV v u)(hd:(x==("__debug__":Str))=false:=by decide):PE X (.Name x pos) (tC v):=
 λ_ _ _ H _ I h=>Nb I hg hm ⟨v,H,I,r,h⟩ hd
def Ic(hg:Gl X x)(hm:X.mg x=none)(hv:bootBuiltins x=some u)(r:RelV v u)(hn:x≠"__name__":=by decide)(hd:(x==("__debug__":Str))=false:=by decide):PE X (.Name x pos) (tC v):=
 λ_ _ _ H _ I h=>XH I hg hm hv ⟨v,H,I,r,h⟩ hn hd
variable{a b:Expr}{ta tb:TE}{pos:Pos}
variable{tA tB':TT}{rest:List Expr}
def mY(t u:TT):TT:=λσ H Q=>t σ H λc H1=>if c=true then u σ H1 Q else Q false H1
def iJ(t u:TT):TT:=λσ H Q=>t σ H λc H1=>if c=true then Q true H1 else u σ H1 Q
def kq(t:TT):TT:=λσ H Q=>t σ H λc H1=>Q (!c) H1
def Jd(ha:PT X a tA):PW X (.BoolOp .And [a] pos) tA:=by
 intro wh pins s σ H Q I h;refine isTrue_and<|xV (ha pins s σ H Q I h) λc s1 e=>?_;cases c with
 |true=>exact isTrue_and_nil e
 |false=>exact e
def uB(ha:PT X a tA):PW X (.BoolOp .Or [a] pos) tA:=by
 intro wh pins s σ H Q I h;refine isTrue_or<|xV (ha pins s σ H Q I h) λc s1 e=>?_;cases c with
 |false=>exact isTrue_or_nil e
 |true=>exact e
def uy(ha:PT X a tA)(hb:PW X (.BoolOp .And (b::rest) pos) tB'):PW X (.BoolOp .And (a::b::rest) pos) (mY tA tB'):=by
 intro wh pins s σ H Q I h;refine isTrue_and<|xV (ha pins s σ H _ I h) λc s1 ⟨H1,I1,q1⟩=>?_;cases c with
 |true=>exact hb wh pins s1 σ H1 Q I1 q1
 |false=>exact⟨H1,I1,q1⟩
def r_(ha:PT X a tA)(hb:PW X (.BoolOp .Or (b::rest) pos) tB'):PW X (.BoolOp .Or (a::b::rest) pos) (iJ tA tB'):=by
 intro wh pins s σ H Q I h;refine isTrue_or<|xV (ha pins s σ H _ I h) λc s1 ⟨H1,I1,q1⟩=>?_;cases c with
 |true=>exact⟨H1,I1,q1⟩
 |false=>exact hb wh pins s1 σ H1 Q I1 q1
def sk(ha:PT X a tA):PT X (.UnaryOp .Not a pos) (kq tA):=by
 intro pins s σ H Q I h;exact isTrue_not<|ha pins s σ H _ I h
def oI(ta tb:TE):TE:=λσ H Q=>ta σ H λx H1=>∃c,x = .bl c/\if c=true then tb σ H1 Q else Q (.bl false) H1
def qA(ta:TE):TE:=λσ H Q=>ta σ H λx H1=>∃c,x = .bl c/\Q (.bl<|!c) H1
def ja(h:PE X a t):PE X (.BoolOp op [a] pos) t:=λpins s σ H Q I hw=>BoolOp_one<|h pins s σ H Q I hw
def ue(ha:PE X a ta)(hb:PE X (.BoolOp .And (b::rest) pos) tb):PE X (.BoolOp .And (a::b::rest) pos) (oI ta tb):=by
 intro pins s σ H Q I h;refine BoolOp_and<|xV (ha pins s σ H _ I h) λv s1 ⟨x,H1,I1,r1,q1⟩=>?_;obtain⟨c,rfl,q1⟩:=q1;cases r1;refine wpAny_truthy_bool ?_;cases c with
 |true=>exact hb pins s1 σ H1 Q I1 q1
 |false=>exact⟨.bl false,H1,I1,rfl,q1⟩
def tH(ha:PE X a ta):PE X (.UnaryOp .Not a pos) (qA ta):=by
 intro pins s σ H Q I h;refine UnaryOp_<|xV (ha pins s σ H _ I h) λv s1 ⟨x,H1,I1,r1,q1⟩=>?_;obtain⟨c,rfl,q1⟩:=q1;cases r1;exact not_of<|wpAny_truthy_bool ⟨.bl _,H1,I1,rfl,q1⟩
def iZ(t:TT)(ta tb:TE):TE:=λσ H Q=>t σ H λc H1=>if c=true then ta σ H1 Q else tb σ H1 Q
def S5(hc:PT X c tA)(ha:PE X a ta)(hb:PE X b tb):PE X (.IfExp c a b pos) (iZ tA ta tb):=by
 intro pins s σ H Q I h;refine wpAny_IfExp<|xV (hc pins s σ H _ I h) λd s1 ⟨H1,I1,q1⟩=>?_;cases d with
 |true=>exact ha pins s1 σ H1 Q I1 q1
 |false=>exact hb pins s1 σ H1 Q I1 q1
end
end L2
namespace L2
open PySem PySem.Spec PyProof.Rows
def Yy(K:zzA)(H:Hp)(a:Addr)(xs:List V):Prop:=
 Rd H a (.lst xs) \/
  ∃(o:Obj) (its:Array Value) (n:Nat),K.lookup a=some o/\o.cls = .type "list"/\o.dict=none/\o.data = .seq its n/\its.size<=sizeLine/\zP xs its.toList
def Ck(K:zzA)(H:Hp)(a:Addr)(xs:List V):Prop:=
 Rd H a (.lst xs)\/∃(its:Array Value) (n:Nat),K.lookup a=some {cls:=.type "list",data:=.seq its n}/\its.size<=sizeLine/\zP xs its.toList
def Vu(K:zzA)(H:Hp)(a:Addr)(xs:List V):Prop:=
 Rd H a (.tup xs) \/
  ∃(o:Obj) (its:Array Value) (n:Nat),K.lookup a=some o/\o.cls = .type "tuple"/\o.data = .seq its n/\its.size<=sizeLine/\zP xs its.toList
noncomputable def kJ:Value->Option V
 | .none=>some .non
 | .bool b=>some<|.bl b
 | .int i _=>some<|.int i
 | .str x _=>some<|.str x
 | .bytes b _=>some<|.byt b
 | .float b _=>some<|.flt b
 | .ref a=>some<|.ref a
 | .type n=>some (.ty n)
 |_=>none
def RelV.abs(r:RelV x u):kJ u=some x:=by
 cases x with
 |non=>cases r;rfl
 |bl _=>cases r;rfl
 |int _=>obtain⟨t,rfl⟩:=r;rfl
 |str _=>obtain⟨t,rfl⟩:=r;rfl
 |byt _=>obtain⟨t,rfl⟩:=r;rfl
 |flt _=>obtain⟨t,rfl⟩:=r;rfl
 |ref _=>cases r;rfl
 |ty _=>cases r;rfl
def RelV.inj(r:RelV x u)(q:RelV y u):x=y:=zzZ<|r.abs.symm.trans q.abs
theorem zP.inj:∀{xs ys:List V}{us:List Value},zP xs us->zP ys us->xs=ys
 |_,_,_,.nil,.nil=>rfl
 |_,_,_,.cons r t,.cons r' t'=>by rw[r.inj r',zP.inj t t']
section
variable{X:Cx}{pins:List (Addr×Obj)}{σ:St}{H:Hp}{s:Shared}{a:Addr}{xs ys:List V}
def Inv.list(I:Inv X pins σ H s)(h:Yy X.K H a xs):∃its:List Value,zP xs its/\PlainL s.heap a its.toArray/\xs.length<=sizeLine:=by
 rcases h with h|⟨o,its,n,hk,hc,hd,hs,hz,r⟩
 . obtain⟨z,its,n,r,e⟩:=h.ok I.hok;exact⟨its,r,⟨_,n,e,rfl,rfl,rfl⟩,z⟩
 . refine⟨its.toList,r,⟨o,n,I.kIn a o hk,hc,hd,by simpa using hs⟩, ?_⟩;have e:=r.length;simp at e;omega
def Inv.tuple(I:Inv X pins σ H s)(h:Vu X.K H a xs):∃its:List Value,zP xs its/\IsTup s.heap a its.toArray/\xs.length<=sizeLine:=by
 rcases h with h|⟨o,its,n,hk,hc,hs,hz,r⟩
 . obtain⟨z,its,r,p⟩:=h.ok I.hok;exact⟨its,r,p,z⟩
 . refine⟨its.toList,r,⟨o,I.kIn a o hk,hc,n,by simpa using hs⟩, ?_⟩;have e:=r.length;simp at e;omega
def Inv.list_inj(I:Inv X pins σ H s)(h:Yy X.K H a xs)(h':Yy X.K H a ys):xs=ys:=by
 obtain⟨its,r,⟨o,n,e,_,_,d⟩,_⟩:=I.list h;obtain⟨its',r',⟨o',n',e',_,_,d'⟩,_⟩:=I.list h';rw[e]at e';cases e';rw[d]at d';injection d' with d1 _
 have:its=its':=by simpa using congrArg Array.toList d1
 subst this;exact r.inj r'
def Inv.tuple_inj(I:Inv X pins σ H s)(h:Vu X.K H a xs)(h':Vu X.K H a ys):xs=ys:=by
 obtain⟨its,r,⟨o,e,_,n,d⟩,_⟩:=I.tuple h;obtain⟨its',r',⟨o',e',_,n',d'⟩,_⟩:=I.tuple h';rw[e]at e';cases e';rw[d]at d';injection d' with d1 _
 have:its=its':=by simpa using congrArg Array.toList d1
 subst this;exact r.inj r'
end
noncomputable abbrev Cx.wish(X:Cx)(E:Value->Shared->Prop):Cx:={X with xe:=E}
noncomputable abbrev Cx.nox(X:Cx):Cx:=X.wish λ_ _=>False
theorem Cx.Ok.wish{X:Cx}(ok:X.Ok)(E):(X.wish E).Ok:=
 ⟨ok.mod,ok.kind,ok.glob,ok.blt,ok.above,ok.inj,ok.has,ok.cab,ok.hd,ok.frames,ok.stk,ok.exf,ok.bs,ok.bsz,ok.noex,ok.exfs,ok.funs,ok.frf⟩
def Cx.Ok.unwish{X:Cx}{E}(ok:(X.wish E).Ok):X.Ok:=
 ⟨ok.mod,ok.kind,ok.glob,ok.blt,ok.above,ok.inj,ok.has,ok.cab,ok.hd,ok.frames,ok.stk,ok.exf,ok.bs,ok.bsz,ok.noex,ok.exfs,ok.funs,ok.frf⟩
section
variable{X:Cx}{pins:List (Addr×Obj)}{σ:St}{H:Hp}{s:Shared}{E:Value->Shared->Prop}
theorem Inv.wish(I:Inv X pins σ H s)(E:Value->Shared->Prop):Inv (X.wish E) pins σ H s:=⟨I.ok.wish E,I.os,I.bare,I.base,I.loc,I.cell,I.free,I.freeC,I.pin,I.hok,I.len⟩
theorem Inv.unwish(I:Inv (X.wish E) pins σ H s):Inv X pins σ H s:=⟨I.ok.unwish,I.os,I.bare,I.base,I.loc,I.cell,I.free,I.freeC,I.pin,I.hok,I.len⟩
theorem SP.unwish(h:SP (X.wish E) pins D f s'):SP X pins D f s':=by
 cases f with
 |next=>obtain⟨σ',H',I,q⟩:=h;exact⟨σ',H',I.unwish,q⟩
 |brk=>obtain⟨σ',H',I,q⟩:=h;exact⟨σ',H',I.unwish,q⟩
 |cont=>obtain⟨σ',H',I,q⟩:=h;exact⟨σ',H',I.unwish,q⟩
 |ret u=>obtain⟨v,σ',H',I,r,q⟩:=h;exact⟨v,σ',H',I.unwish,r,q⟩
theorem Nj.nox{st t}(h:Nj X.nox st t):Nj X st t:=λpins s σ H D I hw=>
 zxK (h pins s σ H D (I.wish _) hw) (λ_ _ q=>q.unwish) λ_ _ z=>False.elim z
end
section
variable{X:Cx}{st:Stmt}{rest:List Stmt}{t u:TS}{e:Expr}{te:TE}{pos:Pos}
def nU:TS:=λD σ H=>D.nx σ H
def kH(t u:TS):TS:=λD σ H=>t {D with nx:=u D} σ H
def LV:Nj X [] nU:=λ_ _ σ H _ I h=>wpAny_execs_nil ⟨σ,H,I,h⟩
def Qq(h1:PS X st t)(h2:Nj X rest u):Nj X (st::rest) (kH t u):=by
 intro pins s σ H D I h;refine wpAny_execs_cons<|xV (h1 pins s σ H {D with nx:=u D} I h) λf s1 q=>?_;cases f with
 |next=>
  obtain⟨σ',H',I',q⟩:=q;exact h2 pins s1 σ' H' D I' q
 |ret v=>exact q
 |brk=>exact q
 |cont=>exact q
def RF(h1:PS X st t):Nj X [st] t:=by
 intro pins s σ H D I h;refine wpAny_execs_cons<|xV (h1 pins s σ H D I h) λf s1 q=>?_;cases f with
 |next=>exact wpAny_execs_nil q
 |ret v=>exact q
 |brk=>exact q
 |cont=>exact q
def Inv.quiet(I:Inv X pins σ H s):interactive X.env=false:=by simp[interactive,I.ok.kind]
def pK(te:TE):TS:=λD σ H=>te σ H λ_ H1=>D.nx σ H1
def Ru(he:PE X e te)(hs:swapsWith e none pos.line X.env=pure false:=by rfl):PS X (.Expr e pos) (pK te):=by
 intro pins s σ H D I h;exact wpAny_Expr_any (xV (he pins s σ H _ I h) λv s1 ⟨x,H1,I1,r1,q1⟩=>⟨σ,H1,I1,q1⟩) I.quiet hs
def m4(te:TE):TS:=λD σ H=>te σ H D.rt
def OX(he:PE X e te):PS X (.Return (some e) pos) (m4 te):=by
 intro pins s σ H D I h;exact wpAny_Return_some<|xV (he pins s σ H _ I h) λv s1 ⟨x,H1,I1,r1,q1⟩=>⟨x,σ,H1,I1,r1,q1⟩
def lA(c:TT)(t u:TS):TS:=λD σ H=>c σ H λb H1=>if b=true then t D σ H1 else u D σ H1
def Oh(hc:PT X c tc)(ha:Nj X a t)(hb:Nj X b u):PS X (.If c a b pos) (lA tc t u):=by
 intro pins s σ H D I h;refine wpAny_If<|xV (hc pins s σ H _ I h) λd s1 ⟨H1,I1,q1⟩=>?_;cases d with
 |true=>exact ha pins s1 σ H1 D I1 q1
 |false=>exact hb pins s1 σ H1 D I1 q1
end
abbrev TG:=V->St->Hp->(St->Hp->Prop)->Prop
abbrev t9:=List V->St->Hp->(St->Hp->Prop)->Prop
def PG(X:Cx)(target:Expr)(t:TG):Prop:=
 ∀(pins:List (Addr×Obj)) (s:Shared) (σ:St) (H:Hp) (v:V) (u:Value) (Q:St->Hp->Prop),Inv X pins σ H s->RelV v u->t v σ H Q->
  wpAny (model X.prog X.w) X.A (assign target X.env u) (λ_ s'=>∃σ' H',Inv X pins σ' H' s'/\Q σ' H') X.xe s
def A0(X:Cx)(ts:List Expr)(t:t9):Prop:=
 ∀(pins:List (Addr×Obj)) (s:Shared) (σ:St) (H:Hp) (vs:List V) (us:List Value) (Q:St->Hp->Prop),Inv X pins σ H s->zP vs us->t vs σ H Q->
  wpAny (model X.prog X.w) X.A (assignInOrder ((assignEach ts X.env).map (·.2)) us) (λ_ s'=>∃σ' H',Inv X pins σ' H' s'/\Q σ' H') X.xe s
section
variable{X:Cx}{pos:Pos}
def F5(i:Nat):TG:=λv σ H Q=>Q (σ.set i<|some v) H
def C2(hN:X.N.Nodup)(hi:X.N[i]? = some x)(hx:Loc X.env.scope x)(hf:X.fn x=true\/X.env.scope.names.lookup x=some .local:=by first|exact .inl rfl|exact .inr rfl|assumption):PG X (.Name x pos) (F5 i):=by
 intro pins s σ H v u Q I r h;exact wpAny_assign_Name<|N6 I hN hi hx r (λs' I'=>⟨_,H,I',h⟩) hf
def la:t9:=λvs σ H Q=>vs=[]/\Q σ H
def rM(t:TG)(u:t9):t9:=λvs σ H Q=>∃v r,vs=v::r/\t v σ H λσ' H'=>u r σ' H' Q
def Ik:A0 X [] la:=by
 intro pins s σ H vs us Q I r h;obtain⟨e,h⟩:=h;subst e;exact assignInOrder_nil ⟨σ,H,I,h⟩
def OE(h1:PG X e t)(h2:A0 X es u)
 (hs:(assignEach (e::es) X.env).map (·.2)=assign e X.env::(assignEach es X.env).map (·.2):=by rfl):A0 X (e::es) (rM t u):=by
 intro pins s σ H vs us Q I r h;obtain⟨v,vr,e1,h⟩:=h;subst e1;cases r with
 |cons r rr=>
  rw[hs];refine assignInOrder_cons<|xV (h1 pins s σ H _ _ _ I r h) λ_ s1 ⟨σ1,H1,I1,q1⟩=>?_;exact h2 pins s1 σ1 H1 _ _ Q I1 rr q1
def je(K:zzA)(n:Nat)(t:t9):TG:=λv σ H Q=>∃a xs,v = .ref a/\Vu K H a xs/\xs.length=n/\t xs σ H Q
def uZ(hc:X.calm=true)(h:A0 X es t)
 (hn:(assignEach es X.env).length=n:=by rfl) (hst:(assignEach es X.env).findIdx? (·.1)=none:=by rfl):PG X (.Tuple es k pos) (je X.K n t):=by
 intro pins s σ H v u Q I r hw;obtain⟨a,xs,e1,hq,hl,hw⟩:=hw;subst e1;cases r;obtain⟨its,rv,ht,hz⟩:=I.tuple hq;refine assign_Tuple_tuple (I.ok.hd hc) ht (by simp[hn,<-hl,rv.length]) hst λh' hx=>?_;have I1:=I.kept (t':=s.toks) λb o e=>hx b o (zzQ<|zxG e) e;exact h pins _ σ H xs _ Q I1 (by simpa using rv) hw
def ua(te:TE)(g:TG):TS:=λD σ H=>te σ H λx H1=>g x σ H1 D.nx
def HY(he:PE X e te)(hg:PG X tg g)(hs:swapsWithSole [tg] e pos.line X.env=pure false:=by rfl)(hw:swappedStores [tg] e X.env=pure none:=by rfl)
 (h1:(assignEach [tg] X.env).map (·.2)=[assign tg X.env]:=by rfl):PS X (.Assign [tg] e pos) (ua te g):=by
 intro pins s σ H D I h;refine wpAny_Assign_stores (xV (he pins s σ H _ I h) λv s1 ⟨x,H1,I1,r1,q1⟩=>?_) hs hw;rw[h1];exact xV (hg pins s1 σ H1 x v _ I1 r1 q1) λ_ s2 q=>q
def S_(hN:X.N.Nodup)(hi:X.N[i]? = some x)(hx:Loc X.env.scope x)(he:PE X e te)(hs:swapsWith e (some<|.Name x pos') pos.line X.env=pure false:=by rfl)(hf:X.fn x=true\/X.env.scope.names.lookup x=some .local:=by first|exact .inl rfl|exact .inr rfl|assumption):
 PS X (.Assign [.Name x pos'] e pos) (ua te<|F5 i):=by
 intro pins s σ H D I h;refine wpAny_Assign_Name (xV (he pins s σ H _ I h) λv s1 ⟨y,H1,I1,r1,q1⟩=>?_) hs;exact N6 I1 hN hi hx r1 (λs2 I2=>⟨_,H1,I2,q1⟩) hf
end
structure It where
 go:Nat->Hp->Prop
 yld:Nat->Hp->V->Hp->Prop
 stop:Nat->Hp->Prop
def UL(X:Cx)(pins:List (Addr×Obj))(H:Hp)(b:Addr):Prop:=
 H b=none/\b≠X.env.locals/\b ∉ X.fs/\(b ∈ X.ex\/X.s₀.heap.objs.size<=b)/\(∀x c,X.env.cells.lookup x=some c->c≠b)/\∀p ∈ X.pn++pins,p.1≠b
def Inv.fpOk(I:Inv X pins σ H s)(hb:s.heap.objs.size<=b)(hn:H' b=none):UL X pins H' b:=by
 refine⟨hn,Nat.ne_of_gt<|zzK I.lt hb,I.nofs hb,.inr<|zzO I.sz hb,λx c e z=>?_,λp hp z=>?_⟩
 . obtain⟨v,q⟩:=I.cell x c e;exact absurd (zzK q.lt<|by rwa [z])<|Nat.lt_irrefl _
 . exact absurd (zzK (zxG (I.pin p hp).1)<|by rwa [z])<|Nat.lt_irrefl _
structure Turn(P:Program)(w:World)(K:zzA)(tg:Expr)(J:It)(fp:List Addr)(it:Addr)(tn:Nat->Heap->Prop):Prop where
 mem:it ∈ fp
 obj:∀i h,tn i h->∀b ∈ fp,∃o,h.get? b=some o/\∀v,o.data ≠ .cell v
 keep:∀i h h',tn i h->(∀b ∈ fp,∀o,h.get? b=some o->h'.get? b=some o)->tn i h'
 item:∀(X:Cx),X.prog=P->X.w=w->X.K=K->X.calm=true->∀(i:Nat) (pins:List (Addr×Obj)) (s:Shared) (σ:St) (H:Hp) (E:Value->Shared->Prop),Inv X pins σ H s->(∀b ∈ fp,UL X pins H b)->tn i s.heap->J.go i H->
  wpAny (model P w) X.A (pyNext<|.ref it) (λr s1=>∃u,r=some u/\
   wpAny (model P w) X.A (letOwnedTupleGo tg (.ref it) u) (λ_ s2=>∃x H',Inv X pins σ H' s2/\RelV x u/\J.yld i H x H'/\tn (i+1) s2.heap/\∀b ∈ fp,H' b=none) E s1) E s
 done:∀(X:Cx),X.prog=P->X.w=w->X.K=K->X.calm=true->∀(i:Nat) (pins:List (Addr×Obj)) (s:Shared) (σ:St) (H:Hp) (E:Value->Shared->Prop),Inv X pins σ H s->(∀b ∈ fp,UL X pins H b)->tn i s.heap->J.stop i H->
  wpAny (model P w) X.A (pyNext<|.ref it) (λr s1=>r=none/\Inv X pins σ H s1) E s
 self:∀(A:Around) (i:Nat) (s:Shared) (Q:Value->Shared->Prop) (E:Value->Shared->Prop),tn i s.heap->Q (.ref it) s->wpAny (model P w) A (pyIter<|.ref it) Q E s
abbrev TI:=St->Hp->(It->Hp->Prop)->Prop
def jH(X:Cx)(pins:List (Addr×Obj))(σ:St)(tg:Expr)(R:It->Hp->Prop)(itv:Value)(s2:Shared):Prop:=
 ∃(it:Addr) (fp:List Addr) (tn:Nat->Heap->Prop) (J:It) (H':Hp),itv = .ref it/\Inv X pins σ H' s2/\Turn X.prog X.w X.K tg J fp it tn/\tn 0 s2.heap/\(∀b ∈ fp,UL X pins H' b)/\R J H'
def PI(X:Cx)(tg iter:Expr)(wi:TI):Prop:=
 ∀(pins:List (Addr×Obj)) (s:Shared) (σ:St) (H:Hp) (R:It->Hp->Prop),Inv X pins σ H s->wi σ H R->
  wpAny (model X.prog X.w) X.A (eval iter X.env) (λv s1=>wpAny (model X.prog X.w) X.A (pyIter v) (jH X pins σ tg R) X.xe s1) X.xe s
def CP(ho:s.heap.get? it=some o)(hc:o.cls = .type n)(hd:o.data = .fields vs)
 (hn : ["enumerate","zip","dict_itemiterator","dict_reverseitemiterator","odict_iterator","itertools.zip_longest","itertools.pairwise"].contains n=false) (hQ:Q () s):wpAny M A (letOwnedTupleGo tg (.ref it) u) Q E s:=by
 cases tg<;>first
  |exact zxE hQ
  |(cases u<;>first
   |exact zxE hQ
   | (refine zxD (wpAny_load ho ?_)
      rw[hc,hd];show wpAny M A (if _=true then _ else _) Q E s;rw[if_neg (by intro h;rw[hn]at h;cases h)];exact zxE hQ))
noncomputable def mH(K:zzA)(a:Addr):It:=
 ⟨λi H=>∃xs x,Yy K H a xs/\xs[i]? = some x,λi H x H'=>H'=H/\∀xs,Yy K H a xs->xs[i]? = some x,λi H=>∃xs,Yy K H a xs/\xs.length<=i⟩
noncomputable def mE(K:zzA)(a:Addr):It:=
 ⟨λi H=>∃xs x,Vu K H a xs/\xs[i]? = some x,λi H x H'=>H'=H/\∀xs,Vu K H a xs->xs[i]? = some x,λi H=>∃xs,Vu K H a xs/\xs.length<=i⟩
noncomputable def rd(lo:Int)(n:Nat):It:=⟨λi _=>i<n,λi H x H'=>H'=H/\x = .int (lo+i),λi _=>n<=i⟩
def Sv{P w K tg}(a it):Turn P w K tg (mH K a) [it] it (λi h=>h.IsListIter it a i)where
 mem:=by simp
 obj:=λi h st b hb=>by
  have e:b=it:=by simpa using hb
  subst e;obtain⟨o,e,c,d⟩:=st;exact⟨o,e,λv z=>by rw[d]at z;cases z⟩
 keep:=λi h h' st k=>st.at λo e=>k it (by simp) o e
 item:=by
  intro X hP hw hK hc i pins s σ H E I hf st hg;subst hP hw hK;obtain⟨xs,x,hq,hx⟩:=hg;obtain⟨its,rv,p,hz⟩:=I.list hq;obtain⟨u,hu,ru⟩:=rv.get hx;obtain⟨f0,f1,f2,f3,f4,f5⟩:=hf it (by simp);refine wpAny_pyNext_list_item st p.isList (by simpa using hu) λh' st' sb=>?_;have I1:=I.turned (t':=s.toks) (λb o hb e=>(sb.2 b hb).trans e) f0 f1 f3 f4 f5;obtain⟨o,e,c,d⟩:=id st';exact⟨u,rfl,CP e c d (by decide) ⟨x,H,I1,ru,⟨rfl,λys hy=>by rwa [I.list_inj hy hq]⟩,st',λb hb=>(hf b hb).1⟩⟩
 done:=by
  intro X hP hw hK hc i pins s σ H E I hf st hg;subst hP hw hK;obtain⟨xs,hq,hx⟩:=hg;obtain⟨its,rv,p,hz⟩:=I.list hq;obtain⟨f0,f1,f2,f3,f4,f5⟩:=hf it (by simp);have hl:=rv.length;exact wpAny_pyNext_list_end (I.ok.hd hc) st p.isList (by simp;omega) λh' eb=>⟨rfl,I.turned (t':=s.toks) (λb o hb e=>eb b o hb e) f0 f1 f3 f4 f5⟩
 self:=λ_ _ _ _ _ st h=>wpAny_pyIter_listiter st h
def M9{P w K tg}(a it):Turn P w K tg (mE K a) [it] it (λi h=>h.IsTupleIter it a i)where
 mem:=by simp
 obj:=λi h st b hb=>by
  have e:b=it:=by simpa using hb
  subst e;obtain⟨o,e,c,d⟩:=st;exact⟨o,e,λv z=>by rw[d]at z;cases z⟩
 keep:=λi h h' st k=>st.at λo e=>k it (by simp) o e
 item:=by
  intro X hP hw hK hc i pins s σ H E I hf st hg;subst hP hw hK;obtain⟨xs,x,hq,hx⟩:=hg;obtain⟨its,rv,p,hz⟩:=I.tuple hq;obtain⟨u,hu,ru⟩:=rv.get hx;obtain⟨f0,f1,f2,f3,f4,f5⟩:=hf it (by simp);refine wpAny_pyNext_tuple_item st (p) (by simpa using hu) λh' st' sb=>?_;have I1:=I.turned (t':=s.toks) (λb o hb e=>(sb.2 b hb).trans e) f0 f1 f3 f4 f5;obtain⟨o,e,c,d⟩:=id st';exact⟨u,rfl,CP e c d (by decide) ⟨x,H,I1,ru,⟨rfl,λys hy=>by rwa [I.tuple_inj hy hq]⟩,st',λb hb=>(hf b hb).1⟩⟩
 done:=by
  intro X hP hw hK hc i pins s σ H E I hf st hg;subst hP hw hK;obtain⟨xs,hq,hx⟩:=hg;obtain⟨its,rv,p,hz⟩:=I.tuple hq;obtain⟨f0,f1,f2,f3,f4,f5⟩:=hf it (by simp);have hl:=rv.length;exact wpAny_pyNext_tuple_end (I.ok.hd hc) st (p) (by simp;omega) λh' eb=>⟨rfl,I.turned (t':=s.toks) (λb o hb e=>eb b o hb e) f0 f1 f3 f4 f5⟩
 self:=λ_ _ _ _ _ st h=>wpAny_pyIter_tupleiter st h
def Ej{P w K tg}(it)(lo)(n:Nat):Turn P w K tg (rd lo n) [it] it (λi h=>IsRangeIter h it (lo+(i:Nat)*1) ((n:Int)-(i:Nat)) 1)where
 mem:=by simp
 obj:=λi h st b hb=>by
  have e:b=it:=by simpa using hb
  subst e;exact⟨_,st,λv z=>by
   have z':Data.fields _=Data.cell v:=z;cases z'⟩
 keep:=λi h h' st k=>k it (by simp) _ st
 item:=by
  intro X hP hw hK hc i pins s σ H E I hf st hg;subst hP hw hK;obtain⟨f0,f1,f2,f3,f4,f5⟩:=hf it (by simp);have W:=Walks.range (prog:=X.prog) (w:=X.w) (I.ok.hd hc) it lo 1 n;refine W.item i s _ _ hg st λv h' tk hv st' kk=>?_;obtain⟨t,rfl⟩:=hv;have I1:Inv X pins σ H {s with heap:=h',toks:=tk}:=I.turned (λb o hb e=>kk b o (by simpa using hb) e) f0 f1 f3 f4 f5;refine⟨_,rfl,CP st' rfl rfl (by decide) ⟨.int _,H,I1,⟨t, ?_⟩,⟨rfl,rfl⟩,st',λb hb=>(hf b hb).1⟩⟩;rw[Int.mul_one]
 done:=by
  intro X hP hw hK hc i pins s σ H E I hf st hg;subst hP hw hK;obtain⟨f0,f1,f2,f3,f4,f5⟩:=hf it (by simp);exact wpAny_pyNext_range_end (I.ok.hd hc) st (by have:n<=i:=hg;omega) λh' eb=>⟨rfl,I.turned (t':=s.toks) (λb o hb e=>eb b o hb e) f0 f1 f3 f4 f5⟩
 self:=λ_ _ _ _ _ st h=>wpAny_pyIter_rangeiter st h
end L2
namespace L2
open PySem PySem.Spec PyProof.Rows
section
variable{X:Cx}{tg:Expr}
def pB(K:zzA)(tl:TE):TI:=λσ H R=>tl σ H λx H1=>∃a,x = .ref a/\(∃xs,Yy K H1 a xs)/\R (mH K a) H1
def mT(K:zzA)(tl:TE):TI:=λσ H R=>tl σ H λx H1=>∃a,x = .ref a/\(∃xs,Vu K H1 a xs)/\R (mE K a) H1
def LH{l tl}(hl:PE X l tl):PI X tg l (pB X.K tl):=by
 intro pins s σ H R I h;refine xV (hl pins s σ H _ I h) λv s1 ⟨x,H1,I1,r1,q1⟩=>?_;obtain⟨a,e,⟨xs,hq⟩,q⟩:=q1;subst e;cases r1;obtain⟨its,rv,p,hz⟩:=I1.list hq;refine wpAny_pyIter_list p.isList ?_;refine⟨s1.heap.objs.size,[s1.heap.objs.size],_,_,H1,rfl,I1.kept (t':=s1.toks) λb o e=>zxF _ e,Sv a _,⟨_,zxH _ rfl,rfl,rfl⟩,λb hb=>?_,q⟩;have e:b=s1.heap.objs.size:=by simpa using hb
 subst e;exact I1.fpOk (zzN _)<|I1.hok.fresh<|zzN _
def Ek{l tl}(hl:PE X l tl):PI X tg l (mT X.K tl):=by
 intro pins s σ H R I h;refine xV (hl pins s σ H _ I h) λv s1 ⟨x,H1,I1,r1,q1⟩=>?_;obtain⟨a,e,⟨xs,hq⟩,q⟩:=q1;subst e;cases r1;obtain⟨its,rv,p,hz⟩:=I1.tuple hq;refine wpAny_pyIter_tuple (p) ?_;refine⟨s1.heap.objs.size,[s1.heap.objs.size],_,_,H1,rfl,I1.kept (t':=s1.toks) λb o e=>zxF _ e,M9 a _,⟨_,zxH _ rfl,rfl,rfl⟩,λb hb=>?_,q⟩;have e:b=s1.heap.objs.size:=by simpa using hb
 subst e;exact I1.fpOk (zzN _)<|I1.hok.fresh<|zzN _
def Mm{pins σ H s R E lo hi t u v}{tk:Nat}(I:Inv X pins σ H s)(h1 : -(2 ^ 62)<=lo)(h2:lo<2 ^ 62)(h3 : -(2 ^ 62)<=hi)(h4:hi<2 ^ 62)
 (q:R (rd lo (hi-lo).toNat) H):wpAny (model X.prog X.w) X.A (pyIter<|.ref s.heap.objs.size) (jH X pins σ tg R) E {s with heap:=s.heap.push {cls:=.type "range",data:=.fields #[.int lo t,.int hi u,.int 1 v]},toks:=tk}:=by
 refine wpAny_pyIter_range (IsRange.new ..) (small_one h1 h2 h3 h4) ?_;have I1:Inv X pins σ H {s with heap:=s.heap.push {cls:=.type "range",data:=.fields #[.int lo t,.int hi u,.int 1 v]},toks:=tk}:=I.kept λb o e=>zxF _ e;refine⟨(s.heap.push {cls:=.type "range",data:=.fields #[.int lo t,.int hi u,.int 1 v]}).objs.size,[(s.heap.push {cls:=.type "range",data:=.fields #[.int lo t,.int hi u,.int 1 v]}).objs.size],_,_,H,rfl,
  I1.kept (t':=tk) λb o e=>zxF _ e,Ej _ lo (hi-lo).toNat, ?_,λb hb=>?_,q⟩
 . have e1:lo+((0:Nat):Int)*1=lo:=by simp
   have e2:(((hi-lo).toNat:Nat):Int)-((0:Nat):Int)=Builtin.Range.rangeSize lo hi 1:=by rw[rangeSize_one];split<;>omega
   rw[e1,e2];exact zxH _ rfl
 . have e:b=(s.heap.push {cls:=.type "range",data:=.fields #[.int lo t,.int hi u,.int 1 v]}).objs.size:=by simpa using hb
   subst e;exact I1.fpOk (zzN _)<|I1.hok.fresh<|zzN _
def qT(ta:TA):TI:=λσ H R=>ta σ H λvs H1=>∃j:Int,vs=[.int j] /\ -(2 ^ 62)<=j/\j<2 ^ 62/\R (rd 0 j.toNat) H1
def qC(ta:TA):TI:=λσ H R=>ta σ H λvs H1=>∃i j:Int,vs=[.int i,.int j]/\(-(2 ^ 62)<=i/\i<2 ^ 62 /\ -(2 ^ 62)<=j/\j<2 ^ 62)/\R (rd i (j-i).toNat) H1
def GO{a ta p pos}(hg:Gl X "range")(hm:X.mg "range"=none)(ha:PA X [a] ta)(hs:starEach [a] X.env=[(false,eval a X.env)]:=by rfl):PI X tg (.Call (.Name "range" p) [a] [] pos) (qT ta):=by
 intro pins s σ H R I h;refine Call_<|XH I hg hm boot_range<|PyProof.Rows.callWith_type1 (xV (ha pos pins s σ H _ I h) λus s1 ⟨vs,H1,I1,r1,q1⟩=>?_) hs rfl;obtain⟨j,e,q1,q2,q⟩:=q1;subst e;cases r1 with
 |cons r rr=>
  cases rr;obtain⟨t,rfl⟩:=r;exact call_range_1 (Mm I1 (by omega) (by omega) q1 q2<|by simpa using q)
def B5(hg:Gl X "range")(hm:X.mg "range"=none)(ha:PA X [a,b] ta)(hs:starEach [a,b] X.env=[(false,eval a X.env),(false,eval b X.env)]:=by rfl)(hs2:starEach [b] X.env=[(false,eval b X.env)]:=by rfl):
 PI X tg (.Call (.Name "range" p) [a,b] [] pos) (qC ta):=by
 intro pins s σ H R I h;refine Call_ (XH I hg hm boot_range<|PyProof.Rows.callWith_type1 (xV (ha pos pins s σ H _ I h) λus s1 ⟨vs,H1,I1,r1,q1⟩=>?_) (by rw[hs,hs2])<|by rw[hs2];rfl);obtain⟨i,j,e,⟨q1,q2,q3,q4⟩,q⟩:=q1;subst e;cases r1 with
 |cons r rr=>
  cases rr with
  |cons r' rr=>
   cases rr;obtain⟨t,rfl⟩:=r;obtain⟨t',rfl⟩:=r';exact call_range_2<|Mm I1 q1 q2 q3 q4 q
def lg(wi:TI)(g:TG)(tb:TS):TS:=λD σ H=>wi σ H λJ H1=>∃W:Nat->Nat->St->Hp->Prop,(∃m,W 0 m σ H1)/\∀i m σ H,W i m σ H->
 (J.stop i H/\D.nx σ H)\/(J.go i H/\∃N:St->Hp->Prop,(∀σ' H',N σ' H'->∃m',m'<m/\W (i+1) m' σ' H')/\∀x H',J.yld i H x H'->g x σ H' λσ2 H2=>tb {D with nx:=N,ct:=N,bk:=D.nx} σ2 H2)
noncomputable def Fi(fp:List Addr)(h:Heap):List (Addr×Obj):=fp.filterMap λb=>(h.get? b).map λo=>(b,o)
def YX(hb:b ∈ fp)(e:h.get? b=some o):(b,o) ∈ Fi fp h:=List.mem_filterMap.mpr ⟨b,hb,by rw[e];rfl⟩
def BF(hp:p ∈ Fi fp h):p.1 ∈ fp/\h.get? p.1=some p.2:=by
 obtain⟨b,hb,e⟩:=List.mem_filterMap.mp hp;cases q:h.get? b with
 |none=>rw[q]at e;cases e
 |some o=>
  rw[q]at e;have e':_=p:=zzZ e;subst e';exact⟨hb,q⟩
def Inv.pinned(I:Inv X pins σ H s)(hf:∀b ∈ fp,UL X pins H b)(ho:∀b ∈ fp,∃o,s.heap.get? b=some o/\∀v,o.data ≠ .cell v):Inv X (pins++Fi fp s.heap) σ H s:=
 I.pins_of λp hp=>(zzM.mp hp).elim (λz=>I.pin p<|zzL _ z) λz=>by
  obtain⟨hb,e⟩:=BF z;obtain⟨f0,f1,f2,_⟩:=hf p.1 hb;obtain⟨o,e',d⟩:=ho p.1 hb;rw[e]at e';cases e';exact⟨e,f0,f1,f2,d⟩
def Inv.unpinned(I:Inv X (pins++pl) σ H s):Inv X pins σ H s:=I.pins_of λp hp=>I.pin p<|zzL _<|zzP _ hp
def SR(hp:PassesOwn (model X.prog X.w) X.A X.env X.xe)(hc:X.calm=true)(hi:PI X tg iter wi)(hg:PG X tg g)(hb:Nj X body tb)
 (hs:∀x,foldedSetIterable iter X.env x=pure x:=by intro _;rfl):PS X (.For tg iter body [] pos) (lg wi g tb):=by
 intro pins s σ H D I h;refine wpAny_For (xV (hi pins s σ H _ I h) λv s1 h1=>xV h1 λitv s2 h2=>?_) hs;obtain⟨it,fp,tn,J,H2,e,I2,T,st2,f2,W,⟨m0,w0⟩,turn⟩:=h2;subst e;have stat:∀{H':Hp},(∀b ∈ fp,H' b=none)->∀b ∈ fp,UL X pins H' b:=λhn b hb=>⟨hn b hb,(f2 b hb).2⟩;refine codeAny_forLoop_any (λn s'=>∃i σ' H',Inv X pins σ' H' s'/\tn i s'.heap/\(∀b ∈ fp,H' b=none)/\W i n σ' H') ?_ m0 ⟨0,σ,H2,I2,st2,λb hb=>(f2 b hb).1,w0⟩
 rintro n s3 ⟨i,σ3,H3,I3,st3,fr3,w3⟩
 rcases turn i n σ3 H3 w3 with⟨stop,qn⟩|⟨go,N,hN,step⟩
 . refine wpAny_passesOwn hp<|xV (T.done X rfl rfl rfl hc i pins s3 σ3 H3 X.xe I3 (stat fr3) st3 stop) λr s4 ⟨hr,I4⟩=>?_;subst hr;exact wpAny_execs_nil ⟨σ3,H3,I4,qn⟩
 . refine wpAny_passesOwn hp<|xV (T.item X rfl rfl rfl hc i pins s3 σ3 H3 X.xe I3 (stat fr3) st3 go) λr s4 ⟨u,hr,h4⟩=>?_;subst hr;refine wpAny_passesOwn hp<|xV h4 λ_ s5 ⟨x,H5,I5,r5,y5,st5,fr5⟩=>?_;have I5':=I5.pinned (stat fr5)<|T.obj _ _ st5;refine wpAny_passesOwn hp<|xV (hg _ s5 σ3 H5 x u _ I5' r5<|step x H5 y5) λ_ s6 ⟨σ6,H6,I6,q6⟩=>?_;refine wpAny_passesOwn hp<|xV (hb _ s6 σ6 H6 _ I6 q6) λf s7 q7=>?_;have again:∀{σ7:St}{H7:Hp},Inv X _ σ7 H7 s7->N σ7 H7->∃m,m<n/\∃i σ' H',Inv X pins σ' H' s7/\tn i s7.heap/\(∀b ∈ fp,H' b=none)/\W i m σ' H':=λ{σ7 H7} I7 n7=>by
    obtain⟨m',hm,w7⟩:=hN σ7 H7 n7;refine⟨m',hm,i+1,σ7,H7,I7.unpinned,T.keep _ _ _ st5 λb hb o e=>(I7.pin (b,o)<|zzL _<|zzL _<|YX hb e).1,λb hb=>?_,w7⟩;obtain⟨o,e,d⟩:=T.obj _ _ st5 b hb;exact(I7.pin (b,o)<|zzL _<|zzL _<|YX hb e).2.1
   cases f with
   |next=>obtain⟨σ7,H7,I7,n7⟩:=q7;exact again I7 n7
   |cont=>obtain⟨σ7,H7,I7,n7⟩:=q7;exact again I7 n7
   |brk=>obtain⟨σ7,H7,I7,q7⟩:=q7;exact⟨σ7,H7,I7.unpinned,q7⟩
   |ret v=>obtain⟨x7,σ7,H7,I7,r7,q7⟩:=q7;exact⟨x7,σ7,H7,I7.unpinned,r7,q7⟩
end
end L2
namespace L2
open PySem PySem.Spec PyProof.Rows
abbrev R2:=V->V->Hp->VK->Prop
def QQ(X:Cx)(f:Value->Value->Sem Value)(r:R2):Prop:=
 ∀(pins:List (Addr×Obj)) (s:Shared) (σ:St) (H:Hp) (x y:V) (v u:Value) (Q:VK),Inv X pins σ H s->RelV x v->RelV y u->r x y H Q->
  wpAny (model X.prog X.w) X.A (f v u) (EP X pins σ Q) X.xe s
def n_(X:Cx)(f:Value->Sem Value)(r:V->Hp->VK->Prop):Prop:=
 ∀(pins:List (Addr×Obj)) (s:Shared) (σ:St) (H:Hp) (x:V) (v:Value) (Q:VK),Inv X pins σ H s->RelV x v->r x H Q->
  wpAny (model X.prog X.w) X.A (f v) (EP X pins σ Q) X.xe s
def YB(X:Cx)(f:Value)(r:List V->Hp->VK->Prop):Prop:=
 ∀(pins:List (Addr×Obj)) (s:Shared) (σ:St) (H:Hp) (xs:List V) (us:List Value) (Q:VK),Inv X pins σ H s->zP xs us->r xs H Q->
  wpAny (model X.prog X.w) X.A (call f us) (EP X pins σ Q) X.xe s
def lB(X:Cx)(r:V->Hp->(Bool->Hp->Prop)->Prop):Prop:=
 ∀(pins:List (Addr×Obj)) (s:Shared) (σ:St) (H:Hp) (x:V) (v:Value) (Q:Bool->Hp->Prop),Inv X pins σ H s->RelV x v->r x H Q->
  wpAny (model X.prog X.w) X.A (truthy v) (TP X pins σ Q) X.xe s
def oj(r:R2)(ta tb:TE):TE:=λσ H Q=>ta σ H λx H1=>tb σ H1 λy H2=>r x y H2 Q
def iX(r:V->Hp->VK->Prop)(ta:TE):TE:=λσ H Q=>ta σ H λx H1=>r x H1 Q
def rI(C:Int->Int->Prop)(g:Int->Int->V):R2:=λx y H Q=>∃i j,x = .int i/\y = .int j/\C i j/\Q (g i j) H
def Da(g:Int->Int->V):R2:=λx y H Q=>∃i j,x = .int i/\y = .int j/\Q (g i j) H
def rU(g:Int->V):V->Hp->VK->Prop:=λx H Q=>∃i,x = .int i/\Q (g i) H
section
variable{X:Cx}{a b c:Expr}{ta tb tc:TE}{pos:Pos}
def DU(ha:PE X a ta)(hb:PE X b tb){pins s σ H}{R:V->V->Hp->Prop}(I:Inv X pins σ H s)
 (h:ta σ H λx H1=>tb σ H1 λy H2=>R x y H2) {Q:Value->Shared->Prop}{f:Value->Value->Sem Value}
 (hf:∀v u s2 x y H2,Inv X pins σ H2 s2->RelV x v->RelV y u->R x y H2->wpAny (model X.prog X.w) X.A (f v u) Q X.xe s2):
 wpAny (model X.prog X.w) X.A (eval a X.env) (λv s₁=>wpAny (model X.prog X.w) X.A (eval b X.env) (λu s₂=>wpAny (model X.prog X.w) X.A (f v u) Q X.xe s₂) X.xe s₁) X.xe s:=by
 refine xV (ha pins s σ H _ I h) λv s1 ⟨x,H1,I1,r1,q1⟩=>?_;refine xV (hb pins s1 σ H1 _ I1 q1) λu s2 ⟨y,H2,I2,r2,q2⟩=>?_;exact hf v u s2 x y H2 I2 r1 r2 q2
def pE{op}{r:R2}(ho:QQ X (binaryOp op) r)(ha:PE X a ta)(hb:PE X b tb):PE X (.BinOp a op b pos) (oj r ta tb):=by
 intro pins s σ H Q I h;exact wpAny_BinOp<|DU ha hb I h λv u s2 x y H2 I2 rx ry q=>ho pins s2 σ H2 x y v u Q I2 rx ry q
def oi(ho:n_ X (unaryOp op) r)(ha:PE X a ta):PE X (.UnaryOp op a pos) (iX r ta):=by
 intro pins s σ H Q I h;exact UnaryOp_<|xV (ha pins s σ H _ I h) λv s1 ⟨x,H1,I1,r1,q1⟩=>ho pins s1 σ H1 x v Q I1 r1 q1
def jv{f C}{g:Int->Int->Int}
 (rule:∀(i j:Int) (t u:Tok) (s:Shared) (Q:Value->Shared->Prop) (E:Value->Shared->Prop),C i j->Q (.int (g i j) s.toks) {s with toks:=s.toks+1}->wpAny (model X.prog X.w) X.A (f (.int i t)<|.int j u) Q E s):
 QQ X f (rI C λi j=>.int<|g i j):=by
 intro pins s σ H x y v u Q I rx ry h;obtain⟨i,j,rfl,rfl,hc,q⟩:=h;obtain⟨t,rfl⟩:=rx;obtain⟨t',rfl⟩:=ry;exact rule i j t t' s _ _ hc ⟨.int _,H,I.tok _,⟨_,rfl⟩,q⟩
def qM{f}{g:Int->Int->Int}
 (rule:∀(i j:Int) (t u:Tok) (s:Shared) (Q:Value->Shared->Prop) (E:Value->Shared->Prop),Q (.int (g i j) s.toks) {s with toks:=s.toks+1}->wpAny (model X.prog X.w) X.A (f (.int i t)<|.int j u) Q E s):
 QQ X f (Da λi j=>.int<|g i j):=by
 intro pins s σ H x y v u Q I rx ry h;obtain⟨i,j,rfl,rfl,q⟩:=h;obtain⟨t,rfl⟩:=rx;obtain⟨t',rfl⟩:=ry;exact rule i j t t' s _ _ ⟨.int _,H,I.tok _,⟨_,rfl⟩,q⟩
def J8{f}{g:Int->Int->Bool}
 (rule:∀(i j:Int) (t u:Tok) (s:Shared) (Q:Value->Shared->Prop) (E:Value->Shared->Prop),Q (.bool<|g i j) s->wpAny (model X.prog X.w) X.A (f (.int i t)<|.int j u) Q E s):
 QQ X f (Da λi j=>.bl<|g i j):=by
 intro pins s σ H x y v u Q I rx ry h;obtain⟨i,j,rfl,rfl,q⟩:=h;obtain⟨t,rfl⟩:=rx;obtain⟨t',rfl⟩:=ry;exact rule i j t t' s _ _ ⟨.bl _,H,I,rfl,q⟩
def kz(i j:Int):Prop:=0<j/\j<1073741824
def kO(i j:Int):Prop:=0<=j/\j<=1000000/\i.natAbs<2 ^ 64
def tF:QQ X (binaryOp .Add) (Da λi j=>.int<|i+j):=qM λ_ _ _ _ _ _ _ q=>add_int q
def uo:QQ X (binaryOp .Sub) (Da λi j=>.int<|i-j):=qM λ_ _ _ _ _ _ _ q=>sub_int q
def ux:QQ X (binaryOp .Mod) (rI (λ_ j=>0<j) λi j=>.int<|i%j):=jv λi j _ _ _ _ _ hc q=>mod_int' (by omega) (by rwa [Int.fmod_eq_emod_of_nonneg i<|by omega])
def sJ:QQ X (binaryOp .Pow) (rI kO λi j=>.int<|i ^ j.toNat):=jv λ_ _ _ _ _ _ _ hc q=>pow_int_small hc.1 hc.2.1 hc.2.2 q
def iB{f}{g:Int->Int}
 (rule:∀(i:Int) (t:Tok) (s:Shared) (Q:Value->Shared->Prop) (E:Value->Shared->Prop),Q (.int (g i) s.toks) {s with toks:=s.toks+1}->wpAny (model X.prog X.w) X.A (f<|.int i t) Q E s):
 n_ X f (rU λi=>.int<|g i):=by
 intro pins s σ H x v Q I rx h;obtain⟨i,rfl,q⟩:=h;obtain⟨t,rfl⟩:=rx;exact rule i t s _ _ ⟨.int _,H,I.tok _,⟨_,rfl⟩,q⟩
def uf:n_ X (unaryOp .USub) (rU λi=>.int (-i)):=iB λ_ _ _ _ _ q=>neg_int q
end
section
variable{X:Cx}{a b c:Expr}{ta tb tc:TE}{pos:Pos}
def wb(I:Inv X pins σ H s)(q:Q (.bl k) H)(e:k=k'):EP X pins σ Q (.bool k') s:=by
 subst e;exact⟨.bl k,H,I,rfl,q⟩
def rz:QQ X (compareOp .Lt) (Da λi j=>.bl<|decide (i<j)):=J8 λ_ _ _ _ _ _ _ q=>lt_int q
def oP:QQ X (compareOp .LtE) (Da λi j=>.bl<|decide (i<=j)):=J8 λ_ _ _ _ _ _ _ q=>le_int q
def rB:QQ X (compareOp .Gt) (Da λi j=>.bl<|decide (j<i)):=J8 λ_ _ _ _ _ _ _ q=>gt_int q
def qW:QQ X (compareOp .GtE) (Da λi j=>.bl<|decide (j<=i)):=J8 λ_ _ _ _ _ _ _ q=>ge_int q
def Sl:QQ X (compareOp .In) (λx y H Q=>∃i j,x = .str i/\y = .str j/\Q (.bl<|!(Builtin.Str.occurrences j i 0 j.length 1).isEmpty) H):=by
 intro pins s σ H x y v u Q I rx ry h;obtain⟨i,j,rfl,rfl,q⟩:=h;obtain⟨t,rfl⟩:=rx;obtain⟨t',rfl⟩:=ry;exact in_str<|wb I q rfl
def sG:QQ X (compareOp .Is) (λx y H Q=>y = .non/\Q (.bl<|decide (x = .non)) H):=by
 intro pins s σ H x y v u Q I rx ry h;obtain⟨rfl,q⟩:=h;cases ry;refine is_none_gen<|wb I q ?_;cases x<;>first
  |(cases rx;rfl)
  |(obtain⟨t,rfl⟩:=rx;rfl)
def Ip:QQ X (compareOp .IsNot) (λx y H Q=>y = .non/\Q (.bl<|!decide (x = .non)) H):=by
 intro pins s σ H x y v u Q I rx ry h;obtain⟨rfl,q⟩:=h;cases ry;refine isnot_none_gen<|wb I q ?_;cases x<;>first
  |(cases rx;rfl)
  |(obtain⟨t,rfl⟩:=rx;rfl)
def K6:QQ X (compareOp .NotIn) (λx y H Q=>∃i j,x = .str i/\y = .str j/\Q (.bl<|!(!(Builtin.Str.occurrences j i 0 j.length 1).isEmpty)) H):=by
 intro pins s σ H x y v u Q I rx ry h;obtain⟨i,j,rfl,rfl,q⟩:=h;obtain⟨t,rfl⟩:=rx;obtain⟨t',rfl⟩:=ry;exact notIn_str<|wb I q rfl
def Hy(b)(h:op ≠ .In:=by decide)(h2:op ≠ .NotIn:=by decide):behindInMarks op b=false:=by
 have e1:(op==CmpOp.In)=false:=by cases op<;>first|rfl|exact absurd rfl h
 have e2:(op==CmpOp.NotIn)=false:=by cases op<;>first|rfl|exact absurd rfl h2
 cases b<;>simp[behindInMarks,e1,e2]
def Ia{op}{r:R2}(ho:QQ X (compareOp op) r)(ha:PE X a ta)(hb:PE X b tb)(hm:behindInMarks op b=false):PE X (.Compare a [op] [b] pos) (oj r ta tb):=by
 intro pins s σ H Q I h;exact wpAny_Compare1 (DU ha hb I h λv u s2 x y H2 I2 rx ry q=>ho pins s2 σ H2 x y v u Q I2 rx ry q) hm
def nQ(t:TE):TT:=λσ H Q=>t σ H λx H'=>∃k,x = .bl k/\Q k H'
def C0(ho:QQ X (compareOp op) r)(ha:PE X a ta)(hb:PE X b tb)(hm:behindInMarks op b=false):PT X (.Compare a [op] [b] pos) (nQ<|oj r ta tb):=by
 intro pins s σ H Q I h;refine wpAny_isTrue_Compare1 (xV (ha pins s σ H _ I h) λv s1 ⟨x,H1,I1,r1,q1⟩=>xV (hb pins s1 σ H1 _ I1 q1) λu s2 ⟨y,H2,I2,r2,q2⟩=>
  xV (ho pins s2 σ H2 x y v u _ I2 r1 r2 q2) λc s3 ⟨z,H3,I3,r3,k,e,q3⟩=>?_) hm
 subst e;cases r3;exact wpAny_truthy_bool ⟨H3,I3,q3⟩
def u5(r r':R2)(ta tb tc:TE):TE:=λσ H Q=>ta σ H λx H1=>tb σ H1 λy H2=>r x y H2 λz H3=>∃k,z = .bl k/\
 (if k=true then tc σ H3 λw' H4=>r' y w' H4 Q else Q (.bl false) H3)
def OG(ho:QQ X (compareOp op) r)(ho':QQ X (compareOp op') r')(ha:PE X a ta)(hb:PE X b tb)(hc:PE X c tc)
 (hm:lastMarks [op,op'] [b,c]=false:=by with_unfolding_all rfl):PE X (.Compare a [op,op'] [b,c] pos) (u5 r r' ta tb tc):=by
 intro pins s σ H Q I h;refine Compare_chain (xV (ha pins s σ H _ I h) λv s1 ⟨x,H1,I1,r1,q1⟩=>chain_link<|xV (hb pins s1 σ H1 _ I1 q1) λu s2 ⟨y,H2,I2,r2,q2⟩=>
  xV (ho pins s2 σ H2 x y v u _ I2 r1 r2 q2) λd s3 ⟨z,H3,I3,r3,k,e,q3⟩=>?_) hm
 subst e;cases r3;refine wpAny_truthy_bool ?_;cases k with
 |false=>exact ite_ff ⟨.bl false,H3,I3,rfl,q3⟩
 |true=>exact ite_tt (chain_last<|xV (hc pins s3 σ H3 _ I3 q3) λw' s4 ⟨z',H4,I4,r4,q4⟩=>ho' pins s4 σ H4 y z' u w' Q I4 r2 r4 q4)
def DS(K:zzA)(x:V)(H:Hp)(k:Bool):Prop:=
 match x with
 | .non=>k=false
 | .bl b=>k=b
 | .int i=>k=(i != 0)
 | .str y=>y.length<=sizeLine/\k=((y.length:Int) != 0)
 | .byt y=>y.size<=sizeLine/\k=((y.size:Int) != 0)
 | .ref p=>(∃xs,Yy K H p xs/\k = !xs.isEmpty)\/(∃xs,Vu K H p xs/\k = !xs.isEmpty)\/∃kvs,H p=some (.dK kvs)/\k = !kvs.isEmpty
 |_=>False
def EN(r:KV kvs vs):(!vs.isEmpty) = !kvs.isEmpty:=by
 cases r<;>rfl
def Pi(r:zP xs its):(!its.toArray.isEmpty) = !xs.isEmpty:=by
 cases r<;>simp
def QX:(sizeLine:Nat)<2 ^ 63:=by decide
def tG:lB X (λx H Q=>∃k,DS X.K x H k/\Q k H):=by
 intro pins s σ H x v Q I rx h;obtain⟨k,e,q⟩:=h;have hl:=QX;have hs:=sizeLine_eq;cases x with
 |non=>
  cases rx;have e':k=false:=e;subst e';exact truthy_none ⟨H,I,q⟩
 |bl b=>
  cases rx;have e':k=b:=e;subst e';exact wpAny_truthy_bool ⟨H,I,q⟩
 |int i=>
  obtain⟨t,rfl⟩:=rx;have e':k=(i != 0):=e;subst e';exact PySem.P.truthy_int ⟨H,I,q⟩
 |str y=>
  obtain⟨t,rfl⟩:=rx;obtain⟨hy,e'⟩:y.length<=sizeLine/\k=_:=e;subst e';exact PySem.P.truthy_str (by omega) ⟨H,I.tok _,q⟩
 |byt y=>
  obtain⟨t,rfl⟩:=rx;obtain⟨hy,e'⟩:y.size<=sizeLine/\k=_:=e;subst e';exact W.truthy_bytes (by omega) ⟨H,I.tok _,q⟩
 |ref p=>
  cases rx;have e':_\/_\/∃kvs,H p=some (.dK kvs)/\k = !kvs.isEmpty:=e
  rcases e' with⟨xs,hx,e'⟩|⟨xs,hx,e'⟩|⟨kvs,hx,e'⟩
  . subst e';obtain⟨its,r,pl,hz⟩:=I.list hx;have hlen:=r.length;exact wpAny_truthy_list pl.isList (by simp only[zzH];omega) ⟨H,I.tok _,by rw[Pi r];exact q⟩
  . subst e';obtain⟨its,r,pl,hz⟩:=I.tuple hx;have hlen:=r.length;exact truthy_tuple pl (by simp only[zzH];omega) ⟨H,I.tok _,by rw[Pi r];exact q⟩
  . subst e';obtain⟨hz,hS,vs,r,m⟩:kvs.length<=sizeLine/\_=false/\∃vs,KV kvs vs/\s.heap.DictOf _ p vs:=I.hok p _ hx;have hlen:=Paired.length r;exact wpAny_truthy_dict hS m (by omega) ⟨H,I.tok _,by rw[EN r];exact q⟩
 |_=>exact(e).elim
def Hm(ha:PE X a ta)(he:∀whole,isTrue a X.env whole=(do let v <-whole;standAt a.pos;holding [v] (truthy v))):
 PT X a (λσ H Q=>ta σ H λx H'=>∃k,DS X.K x H' k/\Q k H'):=by
 intro pins s σ H Q I h;exact isTrue_plain (xV (ha pins s σ H _ I h) λv s1 ⟨x,H1,I1,r1,q1⟩=>tG pins s1 σ H1 x v Q I1 r1 q1)<|he _
def MC:QQ X (binaryOp .Add) (λx y H Q=>∃i j,x = .str i/\y = .str j/\i.length+j.length<=sizeLine/\Q (.str<|i++j) H):=by
 intro pins s σ H x y v u Q I rx ry h;obtain⟨i,j,rfl,rfl,hz,q⟩:=h;obtain⟨t,rfl⟩:=rx;obtain⟨t',rfl⟩:=ry;exact add_str (λt' tk=>⟨.str _,H,I.tok _,⟨_,rfl⟩,q⟩) hz
def vals1(r:zP [x] us):∃u,us=[u]/\RelV x u:=by
 cases r with
 |cons r1 r2=>cases r2;exact⟨_,rfl,r1⟩
def vals2(r:zP [x,y] us):∃u w',us=[u,w']/\RelV x u/\RelV y w':=by
 cases r with
 |cons r1 r2=>
  cases r2 with
  |cons r3 r4=>cases r4;exact⟨_,_,rfl,r1,r3⟩
def Sq(hc:X.calm=true):YB X (.builtin "max") (λxs H Q=>∃i j,xs=[.int i,.int j]/\Q (.int (if j > i then j else i)) H):=by
 intro pins s σ H xs us Q I r h;obtain⟨i,j,rfl,q⟩:=h;obtain⟨u,w',rfl,⟨t,rfl⟩,⟨t',rfl⟩⟩:=vals2 r;refine max_two_ints (I.ok.hd hc) λh' tk k=>⟨_,H,I.kept k, ?_,q⟩
 by_cases hj:j > i
 . rw[if_pos hj,if_pos hj];exact⟨_,rfl⟩
 . rw[if_neg hj,if_neg hj];exact⟨_,rfl⟩
def Sd(hc:X.calm=true):YB X (.builtin "min") (λxs H Q=>∃i j,xs=[.int i,.int j]/\Q (.int (if j<i then j else i)) H):=by
 intro pins s σ H xs us Q I r h;obtain⟨i,j,rfl,q⟩:=h;obtain⟨u,w',rfl,⟨t,rfl⟩,⟨t',rfl⟩⟩:=vals2 r;refine min_two_ints (I.ok.hd hc) λh' tk k=>⟨_,H,I.kept k, ?_,q⟩
 by_cases hj:j<i
 . rw[if_pos hj,if_pos hj];exact⟨_,rfl⟩
 . rw[if_neg hj,if_neg hj];exact⟨_,rfl⟩
def GK:YB X (.type "int") (λxs H Q=>(∃i,xs=[.int i]/\Q (.int i) H)\/∃k,xs=[.bl k]/\Q (.int (if k then 1 else 0)) H):=by
 intro pins s σ H xs us Q I r h
 rcases h with⟨i,rfl,q⟩|⟨k,rfl,q⟩
 . obtain⟨u,rfl,t,rfl⟩:=vals1 r;exact call_int_int ⟨.int i,H,I,⟨_,rfl⟩,q⟩
 . obtain⟨u,rfl,r1⟩:=vals1 r;cases r1;exact call_int_bool ⟨.int _,H,I.tok _,⟨_,rfl⟩,q⟩
def m7(K:zzA)(x:V)(H:Hp)(n:Nat):Prop:=
 match x with
 | .str y=>y.length<=sizeLine/\n=y.length
 | .byt y=>y.size<=sizeLine/\n=y.size
 | .ref p=>(∃xs,Yy K H p xs/\n=xs.length)\/∃xs,Vu K H p xs/\n=xs.length
 |_=>False
def HK:YB X (.builtin "len") (λxs H Q=>∃x n,xs=[x]/\m7 X.K x H n/\Q (.int n) H):=by
 intro pins s σ H xs us Q I r h;obtain⟨x,n,rfl,e,q⟩:=h;obtain⟨u,rfl,rx⟩:=vals1 r;have hs:=sizeLine_eq;cases x with
 |str y=>
  obtain⟨t,rfl⟩:=rx;obtain⟨hy,e'⟩:y.length<=sizeLine/\n=y.length:=e;subst e';exact len_str (by omega) ⟨.int _,H,I.tok _,⟨_,rfl⟩,q⟩
 |byt y=>
  obtain⟨t,rfl⟩:=rx;obtain⟨hy,e'⟩:y.size<=sizeLine/\n=y.size:=e;subst e';exact W.len_bytes (by omega) ⟨.int _,H,I.tok _,⟨_,rfl⟩,q⟩
 |ref p=>
  cases rx;have e':_\/∃xs,Vu X.K H p xs/\n=xs.length:=e
  rcases e' with⟨xs,hx,e'⟩|⟨xs,hx,e'⟩
  . subst e';obtain⟨its,r',pl,hz⟩:=I.list hx;have hlen:=r'.length;exact Calls.call_len_list pl.isList (by simp only[zzH];omega) ⟨.int xs.length,H,I.tok _,⟨_,by simp only[zzH];rw[hlen]⟩,q⟩
  . subst e';obtain⟨its,r',pl,hz⟩:=I.tuple hx;have hlen:=r'.length;exact len_tuple pl (by simp only[zzH];omega) ⟨.int xs.length,H,I.tok _,⟨_,by simp only[zzH];rw[hlen]⟩,q⟩
 |_=>exact(e).elim
def N3:YB X (.builtin "divmod") (λxs H Q=>∃i j,xs=[.int i,.int j]/\kz i j/\∀p,H p=none->Q (.ref p) (upd H p<|.tup [.int<|i/j,.int<|i%j])):=by
 intro pins s σ H xs us Q I r h;obtain⟨i,j,rfl,⟨h1,h2⟩,q⟩:=h;obtain⟨u,w',rfl,⟨t,rfl⟩,⟨t',rfl⟩⟩:=vals2 r;refine divmod_int (by omega) ?_ (.inl<|PyProof.noPylong_small<|by omega);rw[Int.fdiv_eq_ediv_of_nonneg i (by omega),Int.fmod_eq_emod_of_nonneg i<|by omega];have hn:=I.hok.fresh<|zzN _;refine⟨.ref s.heap.objs.size,_, ?_,rfl,q _ hn⟩;refine I.laid (λb o e=>zxF _ e) (zzN _) ⟨by simp;decide,[.int _ s.toks,.int _<|s.toks+1],.cons ⟨_,rfl⟩<|.cons ⟨_,rfl⟩ .nil, ?_⟩;exact⟨_,zxH s.heap rfl,rfl,0,rfl⟩
end
end L2
namespace L2
open PySem PySem.Spec PyProof.Rows
structure ObjM(h:Heap)(x dx C:Addr)(mA:Str->Option Value):Prop where
 obj:h.get? x=some (W.instObj C dx)
 ns:h.Ns1 dx mA
 ne:dx≠x
def Bw{h:Heap}{dx mA}(n:h.Ns1 dx mA):∃od,h.get? dx=some od/\∀name,W.lookIn name od=some (mA name):=by
 obtain⟨o,es,ep,ho,hd,hk,_,hm⟩:=n;refine⟨o,ho,λname=>?_⟩;have e:=hm name;unfold nsFind findBy at e;rw[<-Array.find?_toList]at e;unfold W.lookIn;rw[hd];dsimp only
 split
 . rename_i y q;rw[q]at e;exact congrArg some e
 . rename_i q;rw[q]at e;have a:es.toList.any (·.refKey)=false:=by
    rw[List.any_eq_false];intro y hy;obtain⟨z,t,hkey⟩:=hk y<|Array.mem_toList_iff.mp hy;simp[DictEntry.refKey,hkey]
   have a':¬es.toList.any (·.refKey)=true:=by rw[a];exact zyV
   rw[if_neg a'];exact congrArg some e
def ObjM.look(I:ObjM h x dx C mA):∃od,PySem.W.InstAt h x (W.instObj C dx) C (some od)/\∀name,W.lookIn name od=some (mA name):=
 let⟨od,ho,hl⟩:=Bw I.ns
 ⟨od,⟨I.obj,rfl,rfl,ho⟩,hl⟩
section
variable{prog:Program}{w:World}{A:Around}{E:Value->Shared->Prop}{s:Shared}{K:zzA}{x dx C f:Addr}{mA:Str->Option Value}{name:Str}{v:Value}
def ID(X:K.In s.heap)(I:ObjM s.heap x dx C mA)(hg:W.plainGet K C name=true)(hh:W.hasDictIn K C=true)
 (ha:W.findIn K (.ref C) name=some none) (hv:mA name=some v) (hv':W.handedIn v=true) (h:Q v {s with toks:=s.toks+1}):
 wpAny (model prog w) A (getAttr (.ref x) name expr) Q E s:=by
 obtain⟨od,J,hl⟩:=I.look;exact W.get_value X J (W.plainGet_of hg).1 (W.findObj_own hh ha rfl<|by rw[hl,hv]) hv' h
def Ce(X:K.In s.heap)(I:ObjM s.heap x dx C mA)(hg:W.plainGet K C name=true)
 (hf:W.findIn K (.ref C) name=some (some<|.ref f)) (ht:W.isFn K (.ref f)=true) (hv:mA name=none) (h:Q (.ref f,[.ref x]) s):
 wpAny (model prog w) A (getMethod (.ref x) name pl) Q E s:=by
 obtain⟨od,J,hl⟩:=I.look;exact W.method_fn X J (W.plainGet_of hg).1 (W.plainGet_of hg).2 hf (beq_iff_eq.mp ht) (by show(W.lookIn name od).map _=_;rw[hl,hv];rfl) h
def Jm(X:K.In s.heap)(I:ObjM s.heap x dx C mA)
 (hs:W.findIn K (.ref C) "__setattr__"=some (some<|.builtin "object.__setattr__")) (hp:W.plainOver K C=true) (ht:W.takerIn K C name=some none) (hh:W.hasDictIn K C=true)
 (hw:PySem.Within mA ns) (hsz:ns.length<=sizeLine)
 (h:∀h',ObjM h' x dx C (λy=>if y=name then some v else mA y)->Heap.SameBut dx s.heap h'->Q () {s with heap:=h',toks:=s.toks+2}):
 wpAny (model prog w) A (setAttr (.ref x) name v) Q E s:=by
 obtain⟨od,J,hl⟩:=I.look;refine W.set_plain X J hs<|W.osa_open X J hp ht λb=>?_;obtain⟨cd,hc,hd'⟩:=W.any_some hh;have hx:=I.obj;refine zxD<|zxE<|zxD<|zxD<|wpAny_loadPart hx<|zxD<|PySem.W.Looks.here (W.looks_clsIn X hc) ?_;rw[hd'];refine zxE<|zxD<|zxE<|zxD ?_;refine wpAny_nsSet1 I.ns λh' hn2 hs2=>?_;obtain⟨oD,esD,epD,hoD,hdD,hcD⟩:=hn2.count<|PySem.Within.cons name v hw;refine zxD<|wpAny_lookBehind hoD (by rw[hdD];exact pastItsLine_dict<|zzO hcD<|by rw[zzT];omega) ?_;exact zxE<|h _ ⟨(hs2.2 _<|Ne.symm I.ne).trans I.obj,hn2,I.ne⟩ hs2
def Hh(X:K.In s.heap)(hm:W.makesIn K C=true)
 (hi:W.findIn K (.ref C) "__init__"=some (some<|.ref f)) (hf:W.typeIn K (.ref f)=some (.type "function"))
 (h:codeAny (model prog w) (A.under<|.builtin "type.__call__" ⟨.ref C::vs,kw⟩) (.call (.ref f) ⟨.ref (s.heap.objs.size+1)::vs,kw⟩) (PySem.W.InitBack (s.heap.objs.size+1) R)
  {s with heap:=(s.heap.push W.emptyDict).push (W.instObj C s.heap.objs.size)}):
 codeAny (model prog w) A (.call (.ref C) ⟨vs,kw⟩) R s:=W.make_core (W.makes_of X hm) (W.looks_findIn X hi) (λself=>W.bind_fn X self hf) (.inl rfl) h
end
noncomputable def Wc(f:Str)(v:V):List (Str×V)->List (Str×V)
 | []=>[(f,v)]
 |(g,x)::r=>if g=f then(g,v)::r else(g,x)::Wc f v r
theorem Uh(f g)(v):∀fs:List (Str×V),(Wc f v fs).lookup g=if g=f then some v else fs.lookup g
 | []=>by
  show List.lookup g [_]=_
  by_cases h:g=f
  . have hb:=beq_iff_eq.mpr h;simp only[List.lookup,hb,if_pos h]
  . have hb:=beq_eq_false_iff_ne.mpr h;simp only[List.lookup,hb,if_neg h]
 |(k,x)::r=>by
  have ih:=Uh f g v r;rw[show Wc f v _=(if k=f then _::r else _::Wc f v r)from rfl]
  by_cases hk:k=f
  . rw[if_pos hk]
    by_cases h:g=k
    . have hb:=beq_iff_eq.mpr h;simp only[List.lookup,hb,if_pos<|h.trans hk]
    . have hb:=beq_eq_false_iff_ne.mpr h;simp only[List.lookup,hb,if_neg (λe:g=f=>h<|e.trans hk.symm)]
  . rw[if_neg hk]
    by_cases h:g=k
    . have hb:=beq_iff_eq.mpr h;simp only[List.lookup,hb,if_neg (λe:g=f=>hk<|h.symm.trans e)]
    . have hb:=beq_eq_false_iff_ne.mpr h;simp only[List.lookup,hb];exact ih
theorem QF(f)(v):∀fs:List (Str×V),f ∈ (Wc f v fs).map (·.1)/\∀g,g ∈ fs.map (·.1)->g ∈ (Wc f v fs).map (·.1)
 | []=>⟨by simp[Wc],λg h=>by simp at h⟩
 |(k,x)::r=>by
  obtain⟨i1,i2⟩:=QF f v r;rw[show Wc f v _=(if k=f then _::r else _::Wc f v r)from rfl]
  by_cases hk:k=f
  . rw[if_pos hk];subst hk;exact⟨by simp,λg h=>by simpa using h⟩
  . rw[if_neg hk];refine⟨?_,λg h=>?_⟩
    . rw[zyS];exact zzD _ i1
    . rw[zyS]at h ⊢
      rcases zzC.mp h with e|e
      . exact zzC.mpr<|.inl e
      . exact zzD _<|i2 g e
theorem UK(f)(v):∀fs:List (Str×V),(Wc f v fs).length<=fs.length+1
 | []=>by simp[Wc]
 |(k,x)::r=>by
  have ih:=UK f v r;rw[show Wc f v _=(if k=f then _::r else _::Wc f v r)from rfl]
  by_cases hk:k=f
  . rw[if_pos hk,zzT,zzT];omega
  . rw[if_neg hk,zzT,zzT];omega
def VV.some_of(r:VV (some v) o):∃u,o=some u/\RelV v u:=by
 cases o with
 |none=>exact(r).elim
 |some u=>exact⟨u,rfl,r⟩
def VV.none_of(r:VV none o):o=none:=by
 cases o with
 |none=>rfl
 |some u=>exact(r).elim
def BK(r:RelV v u):W.handedIn u=true:=by
 cases v with
 |non=>cases(r);rfl
 |bl b=>cases(r);rfl
 |int i=>obtain⟨t,e⟩:=(r);cases e;rfl
 |str x=>obtain⟨t,e⟩:=(r);cases e;rfl
 |byt b=>obtain⟨t,e⟩:=(r);cases e;rfl
 |flt b=>obtain⟨t,e⟩:=(r);cases e;rfl
 |ref a=>cases(r);rfl
 |ty n=>cases(r);rfl
section
variable{P:Program}{w:World}{H H':Hp}{h h':Heap}{a C dx:Addr}{fs fs':List (Str×V)}
def KY(hok:Ur P w H h)(e:H a=some (.ins C dx fs)):∃mA,ObjM h a dx C mA/\(∀f,VV (fs.lookup f)<|mA f)/\PySem.Within mA (fs.map (·.1))/\fs.length<=1000/\H dx=some (.own a):=by
 obtain⟨d,z,ne,ob,mA,n,r,q⟩:=(hok a _ e);exact⟨mA,⟨ob,n,ne⟩,r,q,z,d⟩
end
structure Cls(K:zzA)(C:Addr):Prop where
 pg:W.plainGet K C Str.empty=true
 hd:W.hasDictIn K C=true
 po:W.plainOver K C=true
 sa:W.findIn K (.ref C) "__setattr__"=some (some<|.builtin "object.__setattr__")
def Cls.get{K C}(c:Cls K C)(f):W.plainGet K C f=true:=c.pg
def yx(K:zzA)(C:Addr)(f:Str):Prop:=W.findIn K (.ref C) f=some none
def yx.taker{K C f}(n:yx K C f):W.takerIn K C f=some none:=by
 unfold W.takerIn;rw[show W.findIn K _ f=some none from n];rfl
structure Meth(K:zzA)(C:Addr)(m:Str)(f:Addr):Prop where
 at_:W.findIn K (.ref C) m=some (some<|.ref f)
 fn:W.isFn K (.ref f)=true
 kp:W.keepIn K (.ref f)=true
section
variable{X:Cx}{pins:List (Addr×Obj)}{σ:St}{H:Hp}{s:Shared}{a C dx:Addr}{fs:List (Str×V)}{f:Str}{v:V}{A:Around}{E:Value->Shared->Prop}
def MY(I:Inv X pins σ H s)(e:H a=some (.ins C dx fs))(c:Cls X.K C)(n:yx X.K C f)(l:fs.lookup f=some v)
 (h:∀u s',Inv X pins σ H s'->RelV v u->Q u s'):wpAny (model X.prog X.w) A (getAttr (.ref a) f b) Q E s:=by
 obtain⟨mA,O,r,_,_,_⟩:=KY I.hok e;obtain⟨u,hu,ru⟩:=VV.some_of (by rw[<-l];exact r f);exact ID I.kIn O (c.get f) c.hd n hu (BK ru)<|h u _ (I.tok _) ru
def Pc(I:Inv X pins σ H s)(e:H a=some (.ins C dx fs))(c:Cls X.K C)(k:Meth X.K C m g)(l:fs.lookup m=none)
 (h:Q (.ref g,[.ref a]) s):wpAny (model X.prog X.w) A (getMethod (.ref a) m pl) Q E s:=by
 obtain⟨mA,O,r,_,_,_⟩:=KY I.hok e;have hn:=VV.none_of (by rw[<-l];exact r m);exact Ce I.kIn O (c.get m) k.at_ k.fn hn h
def MP(I:Inv X pins σ H s)(e:H a=some (.ins C dx fs))(c:Cls X.K C)(n:yx X.K C f)(hl:fs.length<1000)(ry:RelV y u)
 (h:∀s',Inv X pins σ (upd H a<|.ins C dx<|Wc f y fs) s'->Q () s'):wpAny (model X.prog X.w) A (setAttr (.ref a) f u) Q E s:=by
 obtain⟨mA,O,r,wi,_,ho⟩:=KY I.hok e;have hz:(fs.map (·.1)).length<=sizeLine:=by rw[zzB,sizeLine_eq];omega
 refine Jm I.kIn O c.sa c.po n.taker c.hd wi hz λh' O' sb=>h _ ?_;have hd:∃o,h'.get? dx=some o:=let⟨o,_,_,e',_⟩:=O'.ns;⟨o,e'⟩;refine I.write (by rw[e];exact True.intro) (.inr ho) (λb q hb z=>(sb.2 b hb).trans z) hd ?_;refine⟨by rw[zH O.ne];exact ho, ?_,O.ne,O'.obj,_,O'.ns,λg=>?_,λg hg=>?_⟩
 . have:=UK f y fs;omega
 . show VV _ _;rw[Uh]
   by_cases q:g=f
   . rwa [if_pos q,if_pos q]
   . rw[if_neg q,if_neg q];exact r g
 . by_cases q:g=f
   . rw[q];exact(QF f y fs).1
   . refine(QF f y fs).2 g<|wi g λz=>hg ?_;show(if g=f then some u else mA g)=_
     rwa [if_neg q]
def Inv.made(I:Inv X pins σ H s):Inv X pins σ (upd (upd H s.heap.objs.size<|.own<|s.heap.objs.size+1) (s.heap.objs.size+1)<|.ins C s.heap.objs.size [])
 {s with heap:=(s.heap.push W.emptyDict).push (W.instObj C s.heap.objs.size)}:=by
 have e1:(s.heap.push W.emptyDict).get? s.heap.objs.size=some W.emptyDict:=zxH s.heap rfl;have e2:((s.heap.push W.emptyDict).push<|W.instObj C s.heap.objs.size).get? (s.heap.objs.size+1)=some (W.instObj C s.heap.objs.size):=by
  have:=zxH (s.heap.push W.emptyDict) (o:=W.instObj C s.heap.objs.size) rfl
  rwa [zxJ]at this
 have e3:(s.heap.push W.emptyDict).Ns s.heap.objs.size _:=⟨W.emptyDict,#[],_,e1,rfl,(λe he=>absurd he<|by simp),λ_=>rfl⟩;have I1:=I.laid (o:=.own<|s.heap.objs.size+1) (h':=s.heap.push W.emptyDict) (t':=s.toks) (λb u q=>zxF _ q) (zzN _) ⟨_,e1⟩;refine I1.laid (t':=s.toks) (λb u q=>zxF _ q) (Nat.le_of_eq<|zxJ _ _) ?_;have ne:s.heap.objs.size≠s.heap.objs.size+1:=zzQ<|Nat.lt_succ_self _;refine⟨by rw[zH ne,yd],Nat.zero_le _,ne,e2,λ_=>none,(Heap.Ns1.of_empty e3).at λo q=>zxF _ q,λ_=>True.intro,λy hy=>absurd rfl hy⟩
def IS(hb:attributeBase e f env (eval e env)=eval e env)
 (h:wpAny (model prog w) A (eval e env) (λo s₁=>wpAny (model prog w) A (getAttr o f true) Q E s₁) E s):wpAny (model prog w) A (eval (.Attribute e f pos) env) Q E s:=
 Attribute_any_ h (by rw[arm_eval_Attribute,hb])
end
def lh(K:zzA)(ta:TE)(f:Str):TE:=λσ H Q=>ta σ H λx H1=>∃a C dx fs v,x = .ref a/\H1 a=some (.ins C dx fs)/\Cls K C/\yx K C f/\fs.lookup f=some v/\Q v H1
def lS(K:zzA)(ta tv:TE)(f:Str):TS:=λD σ H=>tv σ H λy H1=>ta σ H1 λx H2=>∃a C dx fs,x = .ref a/\H2 a=some (.ins C dx fs)/\Cls K C/\yx K C f/\fs.length<1000/\
 D.nx σ (upd H2 a<|.ins C dx<|Wc f y fs)
section
variable{X:Cx}{o e value:Expr}{f:Str}{pos pos' tpos:Pos}{ta tv:TE}
def KH(he:PE X e ta)(hb:attributeBase e f X.env (eval e X.env)=eval e X.env):PE X (.Attribute e f pos) (lh X.K ta f):=by
 intro pins s σ H Q I h;refine IS hb<|xV (he pins s σ H _ I h) λu s1 hq0=>?_;obtain⟨x,H1,I1,rx,a,C,dx,fs,v,ex,ea,c,n,l,q⟩:=hq0;subst ex;obtain rfl:u=Value.ref a:=rx;exact MY I1 ea c n l λu' s2 I2 ru=>⟨v,H1,I2,ru,q⟩
def HG(ha:PE X o ta)(hv:PE X value tv)(hs:swapsWith value (some<|.Attribute o f pos') pos.line X.env=pure false):PS X (.Assign [.Attribute o f pos'] value pos) (lS X.K ta tv f):=by
 intro pins s σ H D I h;refine plainObj_wpAny_Assign_Attribute (xV (hv pins s σ H _ I h) λu s1 ⟨y,H1,I1,ry,q⟩=>xV (ha pins s1 σ H1 _ I1 q) λov s2 hq0=>?_) hs;obtain⟨x,H2,I2,rx,a,C,dx,fs,ex,ea,c,n,l,q2⟩:=hq0;subst ex;obtain rfl:ov=Value.ref a:=rx;exact MP I2 ea c n l ry λs3 I3=>⟨σ,_,I3,q2⟩
end
section
variable{X:Cx}{pins:List (Addr×Obj)}{σ:St}{H:Hp}{s:Shared}{A:Around}{E:Value->Shared->Prop}{Q:Value->Shared->Prop}{c:Value}{b:Bool}
inductive TyOf(K:zzA)(H:Hp):V->Value->Prop where
 |non:TyOf K H .non (.type "NoneType")
 |bl (x:Bool):TyOf K H (.bl x) (.type "bool")
 |int (i:Int):TyOf K H (.int i) (.type "int")
 |str (x:Str):TyOf K H (.str x) (.type "str")
 |flt (x:UInt64):TyOf K H (.flt x) (.type "float")
 |lst {a:Addr}{xs:List V}(e:H a=some (.lst xs)):TyOf K H (.ref a) (.type "list")
 |frz {a:Addr}{o:Obj}{xs:List V}(e:H a=some (.frz o (.lst xs))):TyOf K H (.ref a) (.type "list")
 |tup {a:Addr}{xs:List V}(e:H a=some (.tup xs)):TyOf K H (.ref a) (.type "tuple")
 |dK {a:Addr}{kvs:List (Key×V)}(e:H a=some (.dK kvs)):TyOf K H (.ref a) (.type "dict")
 |dT {a:Addr}{kvs:List (List Key×V)}(e:H a=some (.dT kvs)):TyOf K H (.ref a) (.type "dict")
 |ins {a C dx:Addr}{fs:List (Str×V)}(e:H a=some (.ins C dx fs)) (cl:Cls K C) (ha:W.findIn K (.ref C) "__class__"=some (some (.builtin "object.__class__")))
  (hn:W.specialIn K (.builtin "object.__class__") "__get__"=some (some<|.builtin "getset_descriptor.__get__")) (htk:W.takesIn K (.builtin "object.__class__")=some true)
  (hm:W.mroIn K C (.type "object")=some true):TyOf K H (.ref a) (.ref C)
end
end L2
namespace L2
open PySem PySem.Spec PyProof.Rows
structure Room(k:Nat)(A:Around):Prop where
 hd:A.handled=none
 dp:A.depth+3*k+5<recursionLimit
 un:A.units+16*k+200<cLine
 gd:A.guards=some []
def Room.mono(r:Room k A)(h:j<=k):Room j A:=⟨r.hd,by have:=r.dp;omega,by have:=r.un;omega,r.gd⟩
theorem Room.deeper(r:Room (k+1) A)(env):Room k (A.deeper env):=
 ⟨r.hd,by have:=r.dp;show A.depth+1+3*k+5<_;omega,by have:=r.un;show A.units+3+16*k+200<_;omega,r.gd⟩
def MI{A:Around}{C us kw}:(A.under<|.builtin "type.__call__" ⟨.ref C::us,kw⟩).depth=A.depth+1:=rfl
def MV{A:Around}{C us kw}:(A.under<|.builtin "type.__call__" ⟨.ref C::us,kw⟩).units=A.units+1:=rfl
def A2{A:Around}{C us kw}:(A.under<|.builtin "type.__call__" ⟨.ref C::us,kw⟩).guards=A.guards:=rfl
def Room.make{k:Nat}{A:Around}(r:Room (k+1) A)(C)(us)(kw):Room k (A.under<|.builtin "type.__call__" ⟨.ref C::us,kw⟩):=
 ⟨r.hd,by have:=r.dp;rw[MI];omega,by have:=r.un;rw[MV];omega,r.gd⟩
theorem Room.depth(r:Room k A):A.depth<recursionLimit:=by have:=r.dp;omega
def pG:TA:=λ_ H Q=>Q [] H
def nJ(ta:TE)(tr:TA):TA:=λσ H Q=>ta σ H λx H1=>tr σ H1 λxs H2=>Q (x::xs) H2
section
variable{X:Cx}{e:Expr}{es:List Expr}{te:TE}{t:TA}{pos:Pos}
def QG:PA X [] pG:=λ_ _ _ _ H Q I h=>Calls.spliced_nil ⟨[],H,I,.nil,h⟩
def YO(ha:PE X e te)(hr:PA X es t)(hs:starEach (e::es) X.env=(false,eval e X.env)::starEach es X.env:=by rfl):PA X (e::es) (nJ te t):=by
 intro pos pins s σ H Q I h;rw[hs];refine Calls.spliced_cons<|xV (ha pins s σ H _ I h) λu s1 ⟨x,H1,I1,r1,q1⟩=>?_;exact xV (hr pos pins s1 σ H1 _ I1 q1) λus s2 ⟨xs,H2,I2,r2,q2⟩=>⟨x::xs,H2,I2,.cons r1 r2,q2⟩
def kg(t:TA):TE:=λσ H Q=>t σ H λxs H1=>xs.length<=sizeLine/\∀p,H1 p=none->Q (.ref p) (upd H1 p<|.tup xs)
def ll(t:TA):TE:=λσ H Q=>t σ H λxs H1=>xs.length<=sizeLine/\∀p,H1 p=none->Q (.ref p) (upd H1 p<|.lst xs)
def ud(h:PA X es t):PE X (.Tuple es x1 pos) (kg t):=by
 intro pins s σ H Q I hq;refine wpAny_Tuple_spliced<|xV (h pos pins s σ H _ I hq) λus s1 ⟨xs,H1,I1,r,z,q⟩=>⟨by rw[<-r.length];exact z, ?_⟩;have hf:=I1.hok.fresh<|zzN _;refine⟨.ref s1.heap.objs.size,upd H1 s1.heap.objs.size _,I1.laid (t':=s1.toks) (λb u e=>zxF _ e) (zzN _) ?_,rfl,q _ hf⟩;exact⟨z,us,r,⟨_,zxH _ rfl,rfl,_,rfl⟩⟩
def sS(h:PA X es t):PE X (.List es pos) (ll t):=by
 intro pins s σ H Q I hq;refine wpAny_List_spliced<|xV (h pos pins s σ H _ I hq) λus s1 ⟨xs,H1,I1,r,z,q⟩=>⟨by rw[<-r.length];exact z, ?_⟩;have hf:=I1.hok.fresh<|zzN _;refine⟨.ref s1.heap.objs.size,upd H1 s1.heap.objs.size _,I1.laid (t':=s1.toks) (λb u e=>zxF _ e) (zzN _) ?_,rfl,q _ hf⟩;exact⟨z,us,0,r,zxH _ rfl⟩
end
abbrev Sp:=List V->Hp->VK->XK->Prop
abbrev Dq:=List Env->Hp->Shared->XK->Value->Shared->Prop
structure Env0(P:Program)(w:World)(K:zzA)(mg:Str->Option Value)(base:Heap)(A:Around)(outer:List Env)(s:Shared)(H:Hp):Prop where
 frames:A.frames=some outer
 mod:Mod K mg base
 bs:∀b o,base.get? b=some o->s.heap.get? b=some o/\H b=none
 bsz:base.objs.size<=s.heap.objs.size
 funs:s.heap.FunFrames base outer
 frf:∀b ∈ SE outer,H b=none
 hok:Ur P w H s.heap
 bare:AllBare s.gens
def CE(outer:List Env)(P:Program)(w:World)(H:Hp)(s:Shared)(Q:VK)(u:Value)(s':Shared):Prop:=
 ∃v H',s'.os=s.os/\AllBare s'.gens/\Un (SE outer) [] H H' s.heap s'.heap/\Ur P w H' s'.heap/\RelV v u/\Q v H'
def CR(CX:Dq)(outer:List Env)(P:Program)(w:World)(H:Hp)(s:Shared)(Q:VK)(E:XK)(r:Result)(s':Shared):Prop:=
 match r with
 | .ok (.ret u)=>CE outer P w H s Q u s'
 | .ok _=>False
 | .error e=>CX outer H s E e s'
structure FnOk(P:Program)(w:World)(K:zzA)(mg:Str->Option Value)(base:Heap)(CX:Dq)(k:Nat)(f:Addr)(fd:FuncData)(ps:List Str)(sp:Sp):Prop where
 len:∀vs H Q E,sp vs H Q E->vs.length=ps.length
 run:∀(A:Around) (outer:List Env) (s:Shared) (H:Hp) (args:Args) (us:List Value) (vs:List V) (Q:VK) (E:XK),Room k A->Env0 P w K mg base A outer s H->BindsTo s fd args (ps.zip us)->zP vs us->sp vs H Q E->
  codeAny (model P w) A (.call (.ref f) args) (CR CX outer P w H s Q E) s
def FnOk.imp{P w K mg base CX}{k:Nat}{f fd ps sp sp'}(F:FnOk P w K mg base CX k f fd ps sp)
 (h:∀vs H Q E,sp' vs H Q E->sp vs H Q E):FnOk P w K mg base CX k f fd ps sp':=
 ⟨λvs H Q E q=>F.len vs H Q E<|h _ _ _ _ q,λA outer s H args us vs Q E hr he hb hv hs=>F.run A outer s H args us vs Q E hr he hb hv<|h _ _ _ _ hs⟩
def Env0.make{P w K mg base A outer s H}(e:Env0 P w K mg base A outer s H)(C)(us)(kw):
 Env0 P w K mg base (A.under<|.builtin "type.__call__" ⟨.ref C::us,kw⟩) outer s H:=⟨by first|exact e.frames|(simpa[Around.under,Code.envs,Code.isFrame,pushEnvs]using e.frames),e.mod,e.bs,e.bsz,e.funs,e.frf,e.hok,e.bare⟩
section
variable{X:Cx}{pins:List (Addr×Obj)}{σ:St}{H:Hp}{s s':Shared}
def Inv.env0(I:Inv X pins σ H s):Env0 X.prog X.w X.K X.mg X.base X.A X.stack s H:=
 ⟨I.ok.frames,I.ok.mod,I.bs,zzO I.ok.bsz I.sz,I.stack,I.stkFree,I.hok,I.bare⟩
def Inv.after(I:Inv X pins σ H s)(h:CE X.stack X.prog X.w H s Q u s'):EP X pins σ Q u s':=by
 obtain⟨v,H',os,bare,un,hok,r,q⟩:=h;obtain⟨hh,g,d,t,os'⟩:=s';obtain rfl:os'=s.os:=os;exact⟨v,H',I.call (h':=hh) (g':=g) (d':=d) (t':=t) un hok bare (λb z=>absurd z<|by simp),r,q⟩
end
def HZ(sp:Sp)(dvs:List V)(E:XK)(t:TA):TE:=λσ H Q=>t σ H λvs H1=>sp (vs++dvs) H1 Q E
def Dr(C:Addr)(sp:Sp)(dvs:List V)(E:XK)(t:TA):TE:=λσ H Q=>t σ H λvs H1=>∀x dx,H1 x=none->H1 dx=none->dx≠x->
 sp (.ref x::(vs++dvs)) (upd (upd H1 dx<|.own x) x<|.ins C dx []) (λv H2=>v = .non/\Q (.ref x) H2) E
def Binds(K:zzA)(fd:FuncData)(ps:List Str)(ds:List Value):Prop:=
 ∀(s:Shared) (us:List Value),K.In s.heap->(us++ds).length=ps.length->BindsTo s fd ⟨us,[]⟩ (ps.zip<|us++ds)
def Binds.all{K fd ps}(h:∀us:List Value,us.length=ps.length->bindArgs fd ⟨us,[]⟩=pure (ps.zip us)):Binds K fd ps []:=λs us _ hl=>by
 rw[zyE]at hl ⊢;exact .of_eq<|h us hl
def Zb(CX:Dq)(X:Cx)(E:XK):Prop:=∀(pins:List (Addr×Obj)) (σ:St) (H:Hp) (s:Shared) (e:Value) (s':Shared),Inv X pins σ H s->CX X.stack H s E e s'->X.xe e s'
section
variable{X:Cx}{CX:Dq}{k:Nat}{f C:Addr}{fd:FuncData}{ps:List Str}{sp:Sp}{dvs:List V}{ds:List Value}{E:XK}{x m:Str}{p pos apos:Pos}{e o:Expr}{es:List Expr}{ta:TE}{t:TA}
def EZ(F:FnOk X.prog X.w X.K X.mg X.base CX k f fd ps sp)(hr:Room k X.A)(hb:Binds X.K fd ps ds)(hd:zP dvs ds)(hx:Zb CX X E)
 (I:Inv X pins σ H s) (r:zP vs us) (h:sp (vs++dvs) H Q E):wpAny (model X.prog X.w) X.A (call (.ref f) us) (EP X pins σ Q) X.xe s:=by
 have r2:=r.append hd;have hl:(us++ds).length=ps.length:=by rw[<-r2.length];exact F.len _ _ _ _ h
 refine wpAny_call<|codeAny_mono (F.run X.A X.stack s H _ _ _ Q E hr I.env0 (hb s us I.kIn hl) r2 h) λr s' hq=>?_;cases r with
 |error e=>exact hx pins σ H s e s' I hq
 |ok fl=>
  cases fl with
  |ret u=>exact I.after hq
  |next=>exact False.elim hq
  |brk=>exact False.elim hq
  |cont=>exact False.elim hq
def F9(F:FnOk X.prog X.w X.K X.mg X.base CX k f fd ps sp)(hr:Room k X.A)(hg:Gl X x)(hm:X.mg x=some (.ref f))(hk:W.keepIn X.K (.ref f)=true)(hb:Binds X.K fd ps ds)(hd:zP dvs ds)(hx:Zb CX X E)
 (ha:PA X (e::es) t) (hdb:(x==("__debug__":Str))=false:=by decide) (he:starEach (e::es) X.env=(false,eval e X.env)::starEach es X.env:=by rfl) (hpl:(backTo pos<|starEach es X.env).any (·.1)=false:=by rfl):
 PE X (.Call (.Name x p) (e::es) [] pos) (HZ sp dvs E t):=by
 intro pins s σ H Q I h;refine wpAny_Call_Name_kw<|Nb I hg hm ?_ hdb;refine W.callWith_K I.ok.mod.kin hk (xV (ha pos pins s σ H _ I h) λus s1 ⟨vs,H1,I1,r,q⟩=>⟨I1.kIn, ?_⟩) he hpl;exact EZ F hr hb hd hx I1 r q
structure Mk(K:zzA)(C f:Addr):Prop where
 makes:W.makesIn K C=true
 init:W.findIn K (.ref C) "__init__"=some (some<|.ref f)
 fn:W.isFn K (.ref f)=true
 kp:W.keepIn K (.ref C)=true
def O8(M:Mk X.K C f)(F:FnOk X.prog X.w X.K X.mg X.base CX k f fd ps sp)(hr:Room (k+1) X.A)(hb:Binds X.K fd ps ds)(hd:zP dvs ds)
 (hx:Zb CX X E) (I:Inv X pins σ H s) (r:zP vs us)
 (h:∀x dx,H x=none->H dx=none->dx≠x->sp (.ref x::(vs++dvs)) (upd (upd H dx<|.own x) x<|.ins C dx []) (λv H2=>v = .non/\Q (.ref x) H2) E):
 wpAny (model X.prog X.w) X.A (call (.ref C) us) (EP X pins σ Q) X.xe s:=by
 have hq:=h _ s.heap.objs.size (I.hok.fresh<|zyW _) (I.hok.fresh<|zzN _)<|zzQ<|Nat.lt_succ_self _;have I2:=Inv.made (C:=C) I;have r2:zP (V.ref (s.heap.objs.size+1)::_) _:=.cons rfl<|r.append hd;have hl:(Value.ref (s.heap.objs.size+1)::us++ds).length=ps.length:=by
  have e:=r2.length;rw[F.len _ _ _ _ hq]at e;exact e.symm
 refine wpAny_call<|Hh I.kIn M.makes M.init (beq_iff_eq.mp M.fn)<|codeAny_mono (F.run _ X.stack _ _ _ _ _ _ E (hr.make C us [])
  (I2.env0.make C us []) (hb _ _ I2.kIn hl) r2 hq) λr s' hq'=>?_
 cases r with
 |error e=>exact hx pins σ _ _ e s' I2 hq'
 |ok fl=>
  cases fl with
  |ret u=>
   obtain⟨v,H',I3,rv,ev,q3⟩:=I2.after hq';subst ev;exact⟨rv,⟨V.ref _,H',I3,rfl,q3⟩⟩
  |next=>exact False.elim hq'
  |brk=>exact False.elim hq'
  |cont=>exact False.elim hq'
def IM(M:Mk X.K C f)(F:FnOk X.prog X.w X.K X.mg X.base CX k f fd ps sp)(hr:Room (k+1) X.A)(hg:Gl X x)(hm:X.mg x=some (.ref C))(hb:Binds X.K fd ps ds)(hd:zP dvs ds)(hx:Zb CX X E)
 (ha:PA X (e::es) t) (hdb:(x==("__debug__":Str))=false:=by decide) (he:starEach (e::es) X.env=(false,eval e X.env)::starEach es X.env:=by rfl) (hpl:(backTo pos<|starEach es X.env).any (·.1)=false:=by rfl):
 PE X (.Call (.Name x p) (e::es) [] pos) (Dr C sp dvs E t):=by
 intro pins s σ H Q I h;refine wpAny_Call_Name_kw<|Nb I hg hm ?_ hdb;refine W.callWith_K I.ok.mod.kin M.kp (xV (ha pos pins s σ H _ I h) λus s1 ⟨vs,H1,I1,r,q⟩=>⟨I1.kIn, ?_⟩) he hpl;exact O8 M F hr hb hd hx I1 r q
end
section
variable{X:Cx}{CX:Dq}{k:Nat}{f C:Addr}{fd:FuncData}{ps ks:List Str}{sp:Sp}{E:XK}{x m:Str}{p pos apos kpos:Pos}{e o:Expr}{es:List Expr}{kws:List Keyword}{te ta:TE}{t tk:TA}{nm:Option Str}
variable{g:List Value->List Value->List Value}{gV:List V->List V->List V}
end
structure FnScope(N P:List Str)(sc:Scope):Prop where
 kind:sc.kind = .function
 co:sc.isCoroutine=false
 gen:sc.isGenerator=false
 nd:N.Nodup
 pre:N.take P.length=P
 par:∀x ∈ P,sc.names.lookup x=some .local\/sc.names.lookup x=some .cell
 nofree:∀y ∈ sc.names,y.2 ≠ .free
theorem Kd{kindOf x}:∀{binds:List (Str×Value)}{m:Str->Option Value},(∀v,(x,v) ∉ binds)->bindL kindOf binds m x=m x
 | [],_,_=>rfl
 |(n,v)::r,m,h=>by
  unfold bindL;rw[Kd λw hw=>h w<|zzD _ hw]
  split
  . have:x≠n:=by rintro rfl;exact h v zzF
    simp[this]
  . rfl
theorem Ke{kindOf x}:∀{binds:List (Str×Value)}{m:Str->Option Value},(∀v,(x,v) ∉ binds)->bindC kindOf binds m x=m x
 | [],_,_=>rfl
 |(n,v)::r,m,h=>by
  unfold bindC;rw[Ke λw hw=>h w<|zzD _ hw]
  split
  . rfl
  . have:x≠n:=by rintro rfl;exact h v zzF
    simp[this]
theorem Ku{kindOf x v}:∀{P:List Str}{vs:List Value}{i:Nat}{m:Str->Option Value},P.Nodup->P[i]? = some x->vs[i]? = some v->kindOf x=some .local->
 bindL kindOf (P.zip vs) m x=some v
 | [],_,_,_,_,h,_,_=>by simp at h
 |_::_,[],_,_,_,_,h,_=>by simp at h
 |p::P,w::vs,0,m,nd,h1,h2,hk=>by
  simp at h1 h2;subst h1;subst h2;show bindL kindOf (_::P.zip vs) m p=_;unfold bindL;rw[Kd λv hv=>(zzW.mp nd).1 (List.of_mem_zip hv).1,if_pos hk];simp
 |p::P,w::vs,i+1,m,nd,h1,h2,hk=>by
  unfold bindL;exact Ku (zzW.mp nd).2 (by simpa using h1) (by simpa using h2) hk
theorem GJ{kindOf x v}:∀{P:List Str}{vs:List Value}{i:Nat}{m:Str->Option Value},P.Nodup->P[i]? = some x->vs[i]? = some v->kindOf x≠some .local->
 bindC kindOf (P.zip vs) m x=some v
 | [],_,_,_,_,h,_,_=>by simp at h
 |_::_,[],_,_,_,_,h,_=>by simp at h
 |p::P,w::vs,0,m,nd,h1,h2,hk=>by
  simp at h1 h2;subst h1;subst h2;show bindC kindOf (_::P.zip vs) m p=_;unfold bindC;rw[Ke λv hv=>(zzW.mp nd).1 (List.of_mem_zip hv).1,if_neg hk];simp
 |p::P,w::vs,i+1,m,nd,h1,h2,hk=>by
  unfold bindC;exact GJ (zzW.mp nd).2 (by simpa using h1) (by simpa using h2) hk
noncomputable def start(N:List Str)(vs:List V):St:=vs.map some++List.replicate (N.length-vs.length) none
noncomputable def Rg(CX:Dq)(P:Program)(w:World)(K:zzA)(mg:Str->Option Value)(base:Heap)(N:List Str)(qual:Str)(scope:Scope)(f:Addr)(cd:Value)(A:Around)(outer:List Env)(s:Shared)(H:Hp)(E:XK):Cx where
 prog:=P
 w:=w
 K:=K
 mg:=mg
 base:=base
 A:=A.deeper (envOfC qual scope s.heap.objs.size f cd)
 N:=N
 s₀:=s
 H₀:=H
 env:=envOfC qual scope s.heap.objs.size f cd
 outer:=outer
 stack:=envOfC qual scope s.heap.objs.size f cd::outer
 ex:=[]
 calm:=true
 fn:=λ_=>true
 pn:=[]
 xe:=λe s'=>wpAny (model P w) (A.deeper<|envOfC qual scope s.heap.objs.size f cd) (leaving (envOfC qual scope s.heap.objs.size f cd) e) (λ_ s''=>CX outer H s E e s'') (λe' s''=>CX outer H s E e' s'') s'
def NO{sc:Scope}{n:Nat}{x}(h:sc.names.lookup x=some .cell):∃c,(cellsFrom n sc.names []).lookup x=some c:=by
 have q:=W.cellsFrom_some sc.names n []<|.inl h;exact Option.isSome_iff_exists.mp q
def Sx{CX P w K mg base N ps qual scope f cd A outer s s1 H E us vs}
 (S:FnScope N ps scope) (hd:A.handled=none) (e0:Env0 P w K mg base A outer s H) (hl:vs.length=ps.length) (r:zP vs us)
 (x:InCallC s s.heap.objs.size (bindL (envOfC qual scope s.heap.objs.size f cd).kindOf (ps.zip us) λ_=>none) (cellsFrom (s.heap.objs.size+1) scope.names []) (bindC (envOfC qual scope s.heap.objs.size f cd).kindOf (ps.zip us) λ_=>none) s1):
 Inv (Rg CX P w K mg base N qual scope f cd A outer s H E) [] (start N vs) H s1:=by
 have hpl:ps.length<=N.length:=by have:=congrArg List.length S.pre;rw[zzS]at this;omega
 obtain⟨h1,tk,rfl,hk⟩:=x.done;have noA:∀b:Addr,b ∉ (Rg CX P w K mg base N qual scope f cd A outer s H E).ex:=λb z=>absurd (show b ∈ ([]:List Addr)from z) (by simp);refine⟨⟨e0.mod,S.kind,rfl,rfl,zzN _,λy z c h1 h2=>?_,λy hy=>?_,λy c _ h=>?_,λ_=>hd,Around.frames_deeper e0.frames,.inr ⟨rfl,rfl⟩,λb z=>absurd z<|noA b,e0.bs,e0.bsz,λb _ _=>noA b,λb z=>absurd z<|noA b,e0.funs,e0.frf⟩,
  rfl,e0.bare,Un.kept hk,⟨_,x.toInCall.ns,λi y v h1 h2 h3=>?_⟩,λy c h=>⟨_,x.cell y c h⟩,e0.hok.fresh<|zzN _,λy c h=>?_,λp hp=>absurd (show p ∈ ([]:List _)from hp) (by simp),e0.hok.kept hk, ?_⟩
 . exact name_of_addr x.apart (PySem.mem_of_lookup h1)<|PySem.mem_of_lookup h2
 . have hy:=hy
   rcases hy with hy|hy
   . exact NO hy
   . exact absurd rfl<|S.nofree _<|PySem.mem_of_lookup hy
 . exact Nat.le_of_lt<|x.above y c<|PySem.mem_of_lookup h
 . have hi:i<vs.length:=by
    unfold start at h2
    by_cases hi:i<vs.length
    . exact hi
    . rw[zyR<|by simpa using hi]at h2;rw[List.getElem?_replicate]at h2
      split at h2<;>cases h2
   have ha:vs[i]? = some v:=by
    unfold start at h2;rw[zyP (by simpa using hi),zzI]at h2;cases e:vs[i]? with
    |none=>rw[e]at h2;cases h2
    |some a=>rw[e]at h2;cases h2;rfl
   obtain⟨u,hu,rv⟩:=r.get ha;have hp:ps[i]? = some y:=by
    rwa [<-S.pre,List.getElem?_take_of_lt<|by omega]
   have ndP:ps.Nodup:=by rw[<-S.pre];exact S.nd.sublist<|List.take_sublist _ _
   refine⟨u,rv, ?_⟩
   rcases S.par y (zyA hp)with k|k
   . exact .inl ⟨k,Ku ndP hp hu k⟩
   . obtain⟨c,e⟩:=NO k;refine .inr ⟨.inl k,c,e, ?_⟩;have q:=x.cell y c e
     rwa [GJ ndP hp hu (by show scope.names.lookup y≠_;rw[k];decide)]at q
 . exact e0.hok.fresh<|Nat.le_of_lt<|x.above y c<|PySem.mem_of_lookup h
 . unfold start;show _=N.length;rw[zzJ,zzB,List.length_replicate];omega
def nH{CX P w K mg base}{k:Nat}{f name qual params body scope dV kV doc pm cdv ct oc an od}
 {osl N ps sp}(lk:K.lookup f=some ⟨oc,od,.func<|W.fnOf name qual params body scope dV kV doc pm an cdv ct,osl⟩) (hcd:W.codeIn K cdv qual=true) (S:FnScope N ps scope)
 (len:∀vs H Q E,sp vs H Q E->vs.length=ps.length)
 (hbody:∀(A:Around) (outer:List Env) (s:Shared) (H:Hp) (vs:List V) (Q:VK) (E:XK),Room k (A.deeper<|envOfC qual scope s.heap.objs.size f cdv)->sp vs H Q E->
  ∃t,Nj (Rg CX P w K mg base N qual scope f cdv A outer s H E) body t/\t {nx:=λ_ H'=>Q .non H',rt:=Q} (start N vs) H):
 FnOk P w K mg base CX (k+1) f (W.fnOf name qual params body scope dV kV doc pm an cdv ct) ps sp:=by
 refine⟨len,λA outer s H args us vs Q E hr e0 hb r hsp=>?_⟩;have hl:=len _ _ _ _ hsp;have KX:=e0.mod.kin.keeps λb o e=>(e0.bs b o e).1;have lim:=e0.mod.nolimit.keeps λb o e=>(e0.bs b o e).1;have hkind:∀y ∈ ps.zip us,scope.names.lookup y.1=some .local\/(scope.names.lookup y.1=some .cell/\((cellsFrom (s.heap.objs.size+1) scope.names []).lookup y.1).isSome=true):=λ⟨n,v⟩ hy=>by
  rcases S.par n (List.of_mem_zip hy).1 with q|q
  . exact .inl q
  . exact .inr ⟨q,W.cellsFrom_some _ _ _<|.inl q⟩
 refine codeAny_call_function hr.depth (KX _ _ lk) rfl S.co S.gen rfl (W.codeRec_of KX hcd)<|hb _ _ _ _ ?_;refine wpAny_newFunctionEnv_cells S.kind hkind λenv he s1 x=>?_;subst he;refine⟨lim.keeps x.toInCall.keep,codeAny_func ?_⟩;obtain⟨t,ht,hq⟩:=hbody A outer s H vs Q E (hr.deeper _) hsp;have I:Inv (Rg CX P w K mg base N qual scope f cdv A outer s H E) [] _ H s1:=Sx S hr.hd e0 hl r x;refine zxK (ht [] s1 _ H _ I hq) (λfl s' hs=>?_) λe s' hs=>hs;have fin:∀{σ':St}{H':Hp}{v:V}{u:Value},Inv (Rg CX P w K mg base N qual scope f cdv A outer s H E) [] σ' H' s'->RelV v u->Q v H'->CE outer P w H s Q u s':=
  λ{σ' H' v u} J rv q=>⟨v,H',J.os,J.bare,J.base,J.hok,rv,q⟩
 cases fl with
 |ret u=>
  obtain⟨v,σ',H',J,rv,q⟩:=hs;exact fin J rv q
 |next=>
  obtain⟨σ',H',J,q⟩:=hs;exact fin (v:=V.non) J rfl q
 |brk=>
  obtain⟨_,_,_,q⟩:=hs;exact False.elim q
 |cont=>
  obtain⟨_,_,_,q⟩:=hs;exact False.elim q
end L2
namespace L2
open PySem PySem.Spec PyProof.Rows
section
variable{X:Cx}{x:Str}{p pos:Pos}{e:Expr}{es:List Expr}{t:TA}{id T:String}{r:List V->Hp->VK->Prop}
def jY(r:List V->Hp->VK->Prop)(t:TA):TE:=λσ H Q=>t σ H λvs H1=>r vs H1 Q
def Tr(hc:YB X (.builtin id) r)(hg:Gl X x)(hm:X.mg x=none)(hv:bootBuiltins x=some (.builtin id))(ha:PA X (e::es) t)(hn:x≠"__name__":=by decide)(hdb:(x==("__debug__":Str))=false:=by decide)
 (he:starEach (e::es) X.env=(false,eval e X.env)::starEach es X.env:=by rfl) (hpl:(backTo pos<|starEach es X.env).any (·.1)=false:=by rfl):PE X (.Call (.Name x p) (e::es) [] pos) (jY r t):=by
 intro pins s σ H Q I h;refine wpAny_Call_Name_kw<|XH I hg hm hv ?_ hn hdb;exact PyProof.Rows.callWith_builtin1 (xV (ha pos pins s σ H _ I h) λus s1 ⟨vs,H1,I1,r1,q1⟩=>hc pins s1 σ H1 vs us Q I1 r1 q1) he hpl
def BA(hc:YB X (.type T) r)(hg:Gl X x)(hm:X.mg x=none)(hv:bootBuiltins x=some (.type T))(ha:PA X (e::es) t)(hn:x≠"__name__":=by decide)(hdb:(x==("__debug__":Str))=false:=by decide)
 (he:starEach (e::es) X.env=(false,eval e X.env)::starEach es X.env:=by rfl) (hpl:(backTo pos<|starEach es X.env).any (·.1)=false:=by rfl):PE X (.Call (.Name x p) (e::es) [] pos) (jY r t):=by
 intro pins s σ H Q I h;refine wpAny_Call_Name_kw<|XH I hg hm hv ?_ hn hdb;exact PyProof.Rows.callWith_type1 (xV (ha pos pins s σ H _ I h) λus s1 ⟨vs,H1,I1,r1,q1⟩=>hc pins s1 σ H1 vs us Q I1 r1 q1) he hpl
end
end L2
namespace L2
open PySem PySem.Spec PyProof.Rows
section
variable{κ:Type}[DecidableEq κ]
noncomputable def Q6(kvs:List (κ×V))(k:κ):Option V:=(kvs.find? λkv=>decide (kv.1=k)).map (·.2)
def CB{p r}{k:κ}(e:p.1=k):Q6 (p::r) k=some p.2:=by simp[Q6,e]
def Hb{p r}{k:κ}(e:¬p.1=k):Q6 (p::r) k=Q6 r k:=by simp[Q6,e]
def VV.isSome_eq(r:VV o u):o.isSome=u.isSome:=by
 cases o with
 |none=>cases u with
  |none=>rfl
  |some _=>exact(r).elim
 |some _=>cases u with
  |none=>exact(r).elim
  |some _=>rfl
def KV.val{kvs vs}(r:KV kvs vs)(k:κ):VV (Q6 kvs k) (valueAt vs k):=by
 induction r with
 |nil=>exact True.intro
 | @cons p q ps qs h t ih=>
  obtain⟨h1,h2⟩:=h
  by_cases e:p.1=k
  . have e':q.1=k:=h1.symm.trans e;have b:valueAt (q::qs) k=some q.2:=by simp[valueAt,e']
    rwa [CB e,b]
  . have e':¬q.1=k:=λz=>e<|h1.trans z;have b:valueAt (q::qs) k=valueAt qs k:=by simp[valueAt,e']
    rwa [Hb e,b]
theorem KV.length(r:KV kvs vs):kvs.length=vs.length:=Paired.length r
end
def Bj(r:RelV (kV k) u):(xY P w).is k u=true:=by
 cases k with
 |inl i=>obtain⟨t,e⟩:=(r);subst e;exact Mp P w i t
 |inr x=>obtain⟨t,e⟩:=(r);subst e;exact XG P w x t
section
variable{P:Program}{w:World}{H:Hp}{h:Heap}{a:Addr}
def oM(ok:Ur P w H h)(e:Rd H a u):vS P w H h a u:=e.ok ok
def pO(ok:Ur P w H h)(e:Rd H a (.dK kvs)):kvs.length<=sizeLine/\(a==sysModules)=false/\∃vs,KV kvs vs/\h.DictOf (xY P w) a vs:=
 show vS P w H h a _ from oM ok e
end
section
variable{X:Cx}{pins:List (Addr×Obj)}{σ:St}{H:Hp}{s:Shared}{a:Addr}{y v:V}{u r:Value}{o:Option V}{A:Around}{E:Value->Shared->Prop}
def Inv.big(I:Inv X pins σ H s):sysModules<s.heap.objs.size:=by
 have h:=(I.mod.glob.keeps I.bk).lt;exact Nat.lt_trans (by decide) h
def Ot(z:kvs.length<=sizeLine)(hd:(a==sysModules)=false)(rel:KV kvs vs)(dd:h'.DictOf (xY P w) a vs):
 vS P w H' h' a (.dK kvs):=⟨z,hd,vs,rel,dd⟩
end
end L2
namespace HT
open PySem PyProof.Rows
section
variable{prog:Program}{w:World}{A:Around}{E:Value->Shared->Prop}{s:Shared}
def IV(ht:IsTup s.heap t vs.toArray)(hb:IsTup s.heap b ws.toArray)(hv:vs≠[])
 (h1:ws=[]->Q (.ref t) s) (h2:ws≠[]->Q (.ref s.heap.objs.size) {s with heap:=s.heap.push {cls:=.type "tuple",data:=.seq (vs++ws).toArray}})
 (hsz:vs.length+ws.length<=sizeLine):wpAny (model prog w) A (binaryOp .Add (.ref t)<|.ref b) Q E s:=by
 obtain⟨⟨cls,dd,data,sl⟩,ho,hc,n,hd⟩:=id ht;obtain⟨⟨cls2,dd2,data2,sl2⟩,ho2,hc2,n2,hd2⟩:=id hb;subst hc hd hc2 hd2;have e:vs.toArray++ws.toArray=(vs++ws).toArray:=by simp
 by_cases hw:ws=[]
 . exact concat_meets ⟨_,ho,rfl⟩ ⟨_,ho2,rfl⟩ noFill_tuple_add seq_tuple_add PySem.F.slot_tuple_add PySem.F.entry_tuple_add (PySem.F.args_tuple_add_2 _ _)
    (tuple_addW1 t b vs.toArray ws.toArray n n2 dd dd2 sl sl2 (by simpa using hv)<|by simp[hw]) ⟨ho,ho2,h1 hw⟩
 . refine concat_meets ⟨_,ho,rfl⟩ ⟨_,ho2,rfl⟩ noFill_tuple_add seq_tuple_add PySem.F.slot_tuple_add PySem.F.entry_tuple_add (PySem.F.args_tuple_add_2 _ _)
    (tuple_addW2 t b vs.toArray ws.toArray n n2 dd dd2 sl sl2 (by simpa using hv) (by simpa using hw)<|hsz) ⟨ho,ho2, ?_⟩
   rw[e];exact h2 hw
noncomputable def sIx(n d:Nat):Option Int->Nat
 |none=>d
 |some v=>if v<0 then(v+(n:Int)).toNat else min v.toNat n
def Pk(n d:Nat):sIx n d none=d:=rfl
def YW(n d k:Nat):sIx n d (some (k:Int))=min k n:=rfl
def lV(n d:Nat)(hd:d<=n)(o):sIx n d o<=n:=by
 cases o with
 |none=>exact hd
 |some v=>
  show(if v<0 then(v+_).toNat else min v.toNat n)<=n
  by_cases hv:v<0
  . rw[if_pos hv];omega
  . rw[if_neg hv];exact Nat.min_le_right _ _
def FS(v)(n d:Nat):(if v<0 then max (v+(n:Int)) 0 else min v (n:Int))=((sIx n d (some v):Nat):Int):=by
 show _=(((if v<0 then(v+_).toNat else min v.toNat n):Nat):Int)
 by_cases hv:v<0
 . simp only[if_pos hv];omega
 . simp only[if_neg hv];omega
def M_(lo hi)(n:Nat):Builtin.Slice.sliceAdjust lo hi 1 (n:Int)=(((sIx n 0 lo:Nat):Int),((sIx n n hi:Nat):Int)):=by
 refine Prod.ext ?_ ?_
 . cases lo with
   |none=>rfl
   |some v=>exact FS v n 0
 . cases hi with
   |none=>rfl
   |some v=>exact FS v n n
def Et(i j:Nat):Builtin.Slice.slicePlaces (i:Int) (j:Int) 1=j-i:=by
 unfold Builtin.Slice.slicePlaces;have h1:(1:Int) > 0:=by omega
 simp
 split<;>omega
def RK(p:IsPart v o)(h:Q o s):wpAny (model prog w) A (Builtin.Slice.slicePartIndex v) Q E s:=by
 cases p with
 |none=>exact slicePart_none h
 |int i t=>exact slicePart_int h
def Qu{sl vl vu lo hi}{n:Nat}{Q}(hs:s.heap.IsSliceOf sl vl vu .none)(pl:IsPart vl lo)(pu:IsPart vu hi)
 (h:Q (((sIx n 0 lo:Nat):Int),1,sIx n n hi-sIx n 0 lo) s):wpAny (model prog w) A (Builtin.Slice.sliceApplied (.ref sl)<|pure (n:Int)) Q E s:=by
 obtain⟨os,hos,hcs,hds⟩:=id hs;refine zxD<|zxD<|wpAny_field hos hds rfl<|zxD<|wpAny_field hos hds rfl<|zxD<|wpAny_field hos hds rfl<|zxE ?_;refine zxD<|slicePart_none ?_;refine zxD<|RK pl<|zxD<|RK pu<|zxD<|zxE ?_;show wpAny _ _ (match Builtin.Slice.sliceAdjust lo hi 1 _ with|(lo,hi)=>pure (lo,_,Builtin.Slice.slicePlaces lo hi 1)) _ _ s;rw[M_ lo hi n];show wpAny _ _ (pure _) _ _ s;rw[Et];exact zxE h
def On(xs:Array Value)(i k:Nat):((List.range k).filterMap λ(m:Nat)=>xs[((i:Int)+(m:Int)*1).toNat]?).toArray=((xs.toList.drop i).take k).toArray:=by
 have e:(λ(m:Nat)=>xs[(i+(m:Int)*1).toNat]?)=λm=>xs[i+m]? := by
  funext m;have:(i+(m:Int)*1).toNat=i+m:=by omega
  rw[this]
 rw[e];have:=pick_run xs i k;rw[List.filterMap_map]at this;have e2:(_∘λx=>i+x)=λm=>xs[i+m]? := rfl;rw[e2]at this;rw[this]
def VY{t sl items vl vu lo hi Q}(ht:IsTup s.heap t items)(hs:s.heap.IsSliceOf sl vl vu .none)(pl:IsPart vl lo)(pu:IsPart vu hi)
 (hw:¬(sIx items.size 0 lo=0/\sIx items.size items.size hi=items.size))
 (h:Q (.ref s.heap.objs.size) {s with heap:=s.heap.push {cls:=.type "tuple",data:=.seq ((items.toList.drop<|sIx items.size 0 lo).take<|sIx items.size items.size hi-sIx items.size 0 lo).toArray}})
 (hsz:items.size<=sizeLine):wpAny (model prog w) A (getItem (.ref t)<|.ref sl) Q E s:=by
 have htake:sizeOk (.seq ((items.toList.drop<|sIx items.size 0 lo).take<|sIx items.size items.size hi-sIx items.size 0 lo).toArray):=by
  show((items.toList.drop _).take _).toArray.size<=sizeLine;rw[zzH,zzS,List.length_drop,zyT];omega
 obtain⟨os,hos,hcs,hds⟩:=id hs;have hTs:s.TypeIs (.ref sl) "slice":=⟨os,hos,hcs⟩;unfold getItem
 try with_reducible refine zxI ?_
 first|refine zxD _|skip
 refine zxD<|wpAny_sequenceKey ht.typeIs (by decide) ?_;refine zxD<|wpAny_callSpecial?_slot ht.typeIs PyProof.Rows.slot_tuple_getitem
  (zxL PyProof.Rows.slot_tuple_getitem ht.typeIs entry_tuple_getitem ?_<|args_tuple_getitem _ _)
 show wpAny _ _ (Builtin.Tuple.tupleItemsOf _ >>= _) _ _ s;refine zxD<|tupleItemsOf_ ht ?_;refine zxD<|wpAny_typeOf hTs ?_;refine zxD<|Qu hs pl pu ?_;have hno:¬((((sIx items.size 0 lo:Nat):Int)==0&&(1:Int)==1&&(sIx items.size items.size hi-sIx items.size 0 lo)==items.size)=true):=by
  intro q;rw[zyC,zyC]at q;have q1:=eq_of_beq q.1.1;have q2:=eq_of_beq q.2;exact hw ⟨by omega,by omega⟩
 show wpAny _ _ (if _=true then _ else _) _ _ s;rw[if_neg hno,On]
 first
  |exact zxD (wpAny_newObj_type (zxE ⟨_,rfl,zxE h⟩) htake)
  |exact zxD _
  |exact zxD _
  |exact zxD _
end
end HT
namespace L2
open PySem PySem.Spec PyProof.Rows
abbrev TO:=St->Hp->(Option Int->Hp->Prop)->Prop
def PO(X:Cx)(e:Option Expr)(t:TO):Prop:=
 ∀(pins:List (Addr×Obj)) (s:Shared) (σ:St) (H:Hp) (Q:Option Int->Hp->Prop),Inv X pins σ H s->t σ H Q->
  wpAny (model X.prog X.w) X.A (evalPart e X.env) (λu s'=>∃o H',Inv X pins σ H' s'/\IsPart u o/\Q o H') X.xe s
def Bo:TO:=λ_ H Q=>Q none H
def qx(t:TE):TO:=λσ H Q=>t σ H λx H1=>∃i,x = .int i/\Q (some i) H1
def intsAre_of:∀{us:List Value},zP (ns.map V.int) us->IntsAre us ns:=by
 induction ns with
 |nil=>intro us r;cases r;exact .nil
 |cons n ns ih=>
  intro us r;cases r with
  |cons r1 r2=>
   obtain⟨t,e⟩:=r1;subst e;exact .cons n t<|ih r2
section
variable{X:Cx}{e:Expr}{te:TE}{lo hi:Option Expr}{tl th:TO}{pos p2:Pos}
def JJ:PO X none Bo:=by
 intro pins s σ H Q I h;rw[evalPart_none];exact zxE ⟨none,H,I,.none,h⟩
def Ig(h:PE X e te):PO X (some e) (qx te):=by
 intro pins s σ H Q I hw;rw[evalPart_some];refine xV (h pins s σ H _ I hw) λu s1 ⟨x,H1,I1,r1,q1⟩=>?_;obtain⟨i,rfl,q⟩:=q1;obtain⟨t,rfl⟩:=r1;exact⟨some i,H1,I1,.int i t,q⟩
def mM(X:Cx)(r:V->Option Int->Option Int->Hp->VK->Prop):Prop:=
 ∀(pins:List (Addr×Obj)) (s:Shared) (σ:St) (H:Hp) (x:V) (v vl vu:Value) (lo hi:Option Int) (sl:Addr) (Q:VK),Inv X pins σ H s->RelV x v->s.heap.IsSliceOf sl vl vu .none->IsPart vl lo->IsPart vu hi->r x lo hi H Q->
  ∃T id,typeLookup (.type T) "__getitem__"=pure (some<|.builtin id)/\s.TypeIs v T/\wpAny (model X.prog X.w) X.A (getItem v<|.ref sl) (EP X pins σ Q) X.xe s
def jR(r:V->Option Int->Option Int->Hp->VK->Prop)(te:TE)(tl th:TO):TE:=λσ H Q=>te σ H λx H1=>tl σ H1 λl H2=>th σ H2 λu H3=>r x l u H3 Q
def Cv(hr:mM X r)(he:PE X e te)(hl:PO X lo tl)(hu:PO X hi th):PE X (.Subscript e (.Slice lo hi none p2) pos) (jR r te tl th):=by
 intro pins s σ H Q I h;refine Subscript_<|xV (he pins s σ H _ I h) λv s1 ⟨x,H1,I1,r1,q1⟩=>?_;refine wpAny_Slice<|xV (hl pins s1 σ H1 _ I1 q1) λvl s2 ⟨l,H2,I2,pl,q2⟩=>xV (hu pins s2 σ H2 _ I2 q2) λvu s3 ⟨u,H3,I3,pu,q3⟩=>?_;rw[evalPart_none];refine zxE ?_;have I4:Inv X pins σ H3 {s3 with heap:=s3.heap.push {cls:=.type "slice",data:=.fields #[vl,vu,.none]}}:=I3.kept (t':=s3.toks) λb ob q=>zxF _ q;obtain⟨T,id,hT,ht,hg⟩:=hr pins {s3 with heap:=s3.heap.push {cls:=.type "slice",data:=.fields #[vl,vu,.none]}} σ H3 x v vl vu l u s3.heap.objs.size Q I4 r1 (Heap.IsSliceOf.new ..) pl pu q3;exact tail_any ht hT hg (by with_unfolding_all rfl)
def BO(xs:List V)(lo hi:Option Int):List V:=(xs.drop<|HT.sIx xs.length 0 lo).take<|HT.sIx xs.length xs.length hi-HT.sIx xs.length 0 lo
def Ut(xs)(lo hi):(BO xs lo hi).length<=xs.length:=by
 unfold BO;rw[zzS,List.length_drop];omega
def kQ(K:zzA):V->Option Int->Option Int->Hp->VK->Prop:=λx lo hi H Q=>∃a xs,x = .ref a/\Vu K H a xs/\
 ¬(HT.sIx xs.length 0 lo=0/\HT.sIx xs.length xs.length hi=xs.length)/\∀p,H p=none->Q (.ref p) (upd H p<|.tup<|BO xs lo hi)
def uC:mM X (kQ X.K):=by
 intro pins s σ H x v vl vu lo hi sl Q I rx hs pl pu h;obtain⟨a,xs,rfl,hx,hw,q⟩:=h;cases rx;obtain⟨its,r,ht,hz⟩:=I.tuple hx;have hlen:its.toArray.size=xs.length:=by rw[zzH];exact r.length.symm
 refine⟨"tuple",_,PyProof.Rows.slot_tuple_getitem.lookup,ht.typeIs, ?_⟩;refine HT.VY ht hs pl pu (by rw[hlen];exact hw) ?_ (by rw[hlen];exact hz);rw[hlen];refine⟨.ref s.heap.objs.size,_,I.laid (t':=s.toks) (λb ob q=>zxF _ q) (zzN _) ?_,rfl,q _<|I.hok.fresh<|zzN _⟩;exact⟨zzO (Ut xs lo hi) hz,_,(r.drop _).take _,IsTup.new _ _⟩
def pV(K:zzA):R2:=λx y H Q=>∃a b xs ys,x = .ref a/\y = .ref b/\Vu K H a xs/\Vu K H b ys/\xs≠[]/\xs.length+ys.length<=sizeLine/\
 (ys=[]->Q (.ref a) H)/\(ys≠[]->∀p,H p=none->Q (.ref p) (upd H p<|.tup<|xs++ys))
def zP.nil_iff(r:zP xs us):us=[] ↔ xs=[]:=by
 cases r with
 |nil=>simp
 |cons _ _=>simp
def IA:QQ X (binaryOp .Add) (pV X.K):=by
 intro pins s σ H x y v u Q I rx ry h;obtain⟨a,b,xs,ys,rfl,rfl,ha,hb,hx,hz,q1,q2⟩:=h;cases rx;cases ry;obtain⟨its,r1,p1,_⟩:=I.tuple ha;obtain⟨its2,r2,p2,_⟩:=I.tuple hb;refine HT.IV p1 p2 (λz=>hx<|r1.nil_iff.mp z) (λz=>⟨.ref a,H,I,rfl,q1<|r2.nil_iff.mp z⟩) (λz=>?_) (by rw[<-r1.length,<-r2.length];exact hz);refine⟨.ref s.heap.objs.size,_,I.laid (t':=s.toks) (λb ob q=>zxF _ q) (zzN _) ?_,rfl,q2 (λw=>z<|r2.nil_iff.mpr w) _<|I.hok.fresh<|zzN _⟩;exact⟨by rw[zzJ];exact hz,_,r1.append r2,IsTup.new _ _⟩
end
end L2
namespace L2
open PySem PySem.Spec PyProof.Rows
noncomputable def ixN(n:Nat)(i:Int):Option Nat:=if 0<=i then(if i<n then some i.toNat else none)else if -(n:Int)<=i then some (i+n).toNat else none
def atI{α:Type}(xs:List α)(i:Int):Option α:=(ixN xs.length i).bind λj=>xs[j]?
def JV(h:ixN n i=some j):seqIndex? i n=some j/\j<n /\ -(n:Int)<=i/\i<n:=by
 unfold ixN at h
 by_cases h0:0<=i
 . rw[if_pos h0]at h
   by_cases h1:i<n
   . rw[if_pos h1]at h;have e:=zzZ h;exact⟨by rw[seqIndex_of h0 h1,e],by omega,by omega,h1⟩
   . rw[if_neg h1]at h;cases h
 . rw[if_neg h0]at h
   by_cases h1 : -n<=i
   . rw[if_pos h1]at h;have e:=zzZ h;exact⟨by rw[seqIndex_neg (by omega) h1,e],by omega,h1,by omega⟩
   . rw[if_neg h1]at h;cases h
def Nd(h:atI xs i=some v):∃j,seqIndex? i xs.length=some j/\xs[j]? = some v/\j<xs.length /\ -(xs.length:Int)<=i/\i<xs.length:=by
 unfold atI at h;cases e:ixN xs.length i with
 |none=>rw[e]at h;cases h
 |some j=>
  rw[e]at h;obtain⟨h1,h2,h3,h4⟩:=JV e;exact⟨j,h1,h,h2,h3,h4⟩
def Ql{α:Type}{xs}{j:Nat}{v:α}(h:xs[j]? = some v):atI xs (j:Int)=some v:=by
 have hj:=(zzG.mp h).1;have e:ixN xs.length (j:Int)=some j:=by
  unfold ixN;rw[if_pos (by omega),if_pos<|by omega];simp
 unfold atI;rw[e];exact h
def K9(b:Expr):Prop:=∀o i,subscripted b false o i=operate [o,i] (getItem o i)
def pY(X:Cx)(r:R2):Prop:=
 ∀(value slice:Expr) (pins:List (Addr×Obj)) (s:Shared) (σ:St) (H:Hp) (x y:V) (v u:Value) (Q:VK),Inv X pins σ H s->RelV x v->RelV y u->r x y H Q->
  subscripted slice false v u=operate [v,u] (getItem v u)->wpAny (model X.prog X.w) X.A (subscriptTail value slice v u) (EP X pins σ Q) X.xe s
def jd(X:Cx)(id:String)(r:V->List V->Hp->VK->Prop):Prop:=
 ∀(pins:List (Addr×Obj)) (s:Shared) (σ:St) (H:Hp) (x:V) (xs:List V) (v:Value) (us:List Value) (Q:VK),Inv X pins σ H s->RelV x v->zP xs us->r x xs H Q->
  wpAny (model X.prog X.w) X.A (call (.builtin id) (v::us)) (EP X pins σ Q) X.xe s
section
variable{X:Cx}{a b:Expr}{ta tb:TE}{pos:Pos}
def nA(hr:pY X r)(ha:PE X a ta)(hb:PE X b tb)(hs:K9 b):PE X (.Subscript a b pos) (oj r ta tb):=by
 intro pins s σ H Q I h;exact Subscript_<|DU ha hb I h λv u s2 x y H2 I2 rx ry q=>hr a b pins s2 σ H2 x y v u Q I2 rx ry q<|hs _ _
def kN(K:zzA):R2:=λx y H Q=>∃p xs i v,x = .ref p/\y = .int i/\Yy K H p xs/\atI xs i=some v/\Q v H
def jb(K:zzA):R2:=λx y H Q=>∃p xs i v,x = .ref p/\y = .int i/\Vu K H p xs/\atI xs i=some v/\Q v H
def k_:R2:=λx y H Q=>∃z i c,x = .str z/\y = .int i/\z.length<=sizeLine/\atI z.cps.toList i=some c/\Q (.str ⟨#[c]⟩) H
def Jq:pY X (kN X.K):=by
 intro value slice pins s σ H x y v u Q I rx ry h hs;obtain⟨p,xs,i,z,rfl,rfl,hq,he,q⟩:=h;cases rx;obtain⟨t,rfl⟩:=ry;obtain⟨its,r,pl,hz⟩:=I.list hq;obtain⟨j,h1,h2,h3,h4,h5⟩:=Nd he;obtain⟨w,ew,rw'⟩:=r.get h2;have hl:=r.length;have hn:=QX;have fin:EP X pins σ Q w s:=⟨z,H,I,rw',q⟩
 by_cases h0:0<=i
 . have hj:i.toNat=j:=by
    rw[seqIndex_of h0 h5]at h1;exact zzZ h1
   exact item_listR pl.isList h0 (by omega) (by rw[hj];simpa using ew) fin hs
 . have hj:(i+(its.toArray.size:Int)).toNat=j:=by
    rw[seqIndex_neg (by omega) h4]at h1;rw[zzH,<-hl];exact zzZ h1
   exact subscriptTail_builtinR pl.isList.typeIs slot_list_getitem.lookup
    (wpAny_getItem_list_neg pl.isList (by omega) (by rw[zzH]<;>omega) (by omega) (by rw[hj];simpa using ew) ⟨rfl,fin⟩) hs
def sy:pY X (jb X.K):=by
 intro value slice pins s σ H x y v u Q I rx ry h hs;obtain⟨p,xs,i,z,rfl,rfl,hq,he,q⟩:=h;cases rx;obtain⟨t,rfl⟩:=ry;obtain⟨its,r,pl,hz⟩:=I.tuple hq;obtain⟨j,h1,h2,h3,h4,h5⟩:=Nd he;obtain⟨w,ew,rw'⟩:=r.get h2;have hl:=r.length;have hn:=QX;have fin:EP X pins σ Q w s:=⟨z,H,I,rw',q⟩;exact subscriptTail_builtinR pl.typeIs slot_tuple_getitem.lookup
  (getItem_tuple pl (by omega) (by omega) (by rw[zzH,<-hl];exact h1) (by simpa using ew) ⟨rfl,fin⟩) hs
def D3:pY X k_:=by
 intro value slice pins s σ H x y v u Q I rx ry h hs;obtain⟨z,i,c,rfl,rfl,hz,he,q⟩:=h;obtain⟨t,rfl⟩:=rx;obtain⟨t',rfl⟩:=ry;obtain⟨j,h1,h2,h3,h4,h5⟩:=Nd he;have hl:z.cps.toList.length=z.length:=by simp[Str.length]
 rw[hl]at h1 h4 h5;have hn:=QX;exact tail_any (typeIs_str s z t) slot_str_getitem.lookup (getItem_str (by
  have e1:decide (i < -(2 ^ 63:Int))=false:=zyG (by omega);have e2:decide (i ≥ 2 ^ 63)=false:=zyG (by omega);rw[e1,e2,Bool.or_false]) (by rw[h1];simpa using h2) ⟨.str ⟨#[c]⟩,H,I.tok _,⟨_,rfl⟩,q⟩) hs
def K1(lo hi)(n:Nat):(sliceBounds lo hi none n).1=((HT.sIx n 0 lo:Nat):Int)/\(sliceBounds lo hi none n).2.1=((HT.sIx n n hi:Nat):Int)/\(sliceBounds lo hi none n).2.2=1:=by
 refine⟨?_, ?_,rfl⟩
 . cases lo with
   |none=>simp[sliceBounds,HT.sIx]
   |some i=>
    simp only[sliceBounds,HT.sIx,Option.getD_none,show 1 > 0 by decide,if_true]
    by_cases h:i<0
    . simp only[h,if_true]<;>omega
    . simp only[h,if_false]<;>omega
 . cases hi with
   |none=>simp[sliceBounds,HT.sIx]
   |some i=>
    simp only[sliceBounds,HT.sIx,Option.getD_none,show 1 > 0 by decide,if_true]
    by_cases h:i<0
    . simp only[h,if_true]<;>omega
    . simp only[h,if_false]<;>omega
def T_(its:List Value)(lo hi):slicePick its.toArray lo hi none=((its.drop<|HT.sIx its.length 0 lo).take<|HT.sIx its.length its.length hi-HT.sIx its.length 0 lo).toArray:=by
 obtain⟨h1,h2,h3⟩:=K1 lo hi its.toArray.size;unfold slicePick;rw[h1,h2,h3];simp only[sliceRange_one,pick_run,zzH]<;>rfl
def lE(K:zzA):V->Option Int->Option Int->Hp->VK->Prop:=λx lo hi H Q=>∃a xs,x = .ref a/\Yy K H a xs/\∀p,H p=none->Q (.ref p) (upd H p<|.lst<|BO xs lo hi)
def IR:mM X (lE X.K):=by
 intro pins s σ H x v vl vu lo hi sl Q I rx hs pl pu h;obtain⟨a,xs,rfl,hx,q⟩:=h;cases rx;obtain⟨its,r,ht,hz⟩:=I.list hx;have hlen:=r.length;refine⟨"list",_,slot_list_getitem.lookup,ht.isList.typeIs, ?_⟩;refine wpAny_getItem_list_slice ht.isList hs pl pu .none (by simp) ?_ (by rw[zzH]<;>omega);rw[T_,<-hlen];refine⟨.ref s.heap.objs.size,_,I.laid (t':=s.toks) (λb ob q=>zxF _ q) (zzN _) ?_,rfl,q _<|I.hok.fresh<|zzN _⟩;exact⟨zzO (Ut xs lo hi) hz,_,0,(r.drop _).take _,zxH _ rfl⟩
def Qj:YB X (.builtin "len") (λxs H Q=>∃p ys,xs=[.ref p]/\(Yy X.K H p ys\/Vu X.K H p ys)/\Q (.int ys.length) H):=by
 intro pins s σ H xs us Q I r h;obtain⟨p,ys,rfl,hq,q⟩:=h;obtain⟨u,rfl,rx⟩:=vals1 r;cases rx;have hn:=QX
 rcases hq with hq|hq
 . obtain⟨its,r',pl,hz⟩:=I.list hq;have hlen:=r'.length;exact Calls.call_len_list pl.isList (by simp only[zzH]<;>omega) ⟨.int ys.length,H,I.tok _,⟨s.toks+1,by rw[zzH,hlen]⟩,q⟩
 . obtain⟨its,r',pl,hz⟩:=I.tuple hq;have hlen:=r'.length;exact len_tuple pl (by simp only[zzH]<;>omega) ⟨.int ys.length,H,I.tok _,⟨s.toks+1,by rw[zzH,hlen]⟩,q⟩
def KS:YB X (.builtin "len") (λxs H Q=>∃z,xs=[.str z]/\z.length<=sizeLine/\Q (.int z.length) H):=by
 intro pins s σ H xs us Q I r h;obtain⟨z,rfl,hz,q⟩:=h;obtain⟨u,rfl,t,rfl⟩:=vals1 r;have hn:=QX;exact len_str (by omega) ⟨.int z.length,H,I.tok _,⟨_,rfl⟩,q⟩
def VA:YB X (.type "list") (λxs H Q=>∃p ys,xs=[.ref p]/\(Yy X.K H p ys\/Vu X.K H p ys)/\∀l,H l=none->Q (.ref l) (upd H l<|.lst ys)):=by
 intro pins s σ H xs us Q I r h;obtain⟨p,ys,rfl,hq,q⟩:=h;obtain⟨u,rfl,rx⟩:=vals1 r;cases rx;have fin:∀its,zP ys its->ys.length<=sizeLine->∀h' c',_->
  h'.get? s.heap.objs.size=some {cls:=.type "list",dict:=none,data:=.seq its.toArray c',slots:=#[]}->EP X pins σ Q _ {s with heap:=h'}:=λits r' hz h' c' kp e=>
  ⟨.ref s.heap.objs.size,_,I.laid (t':=s.toks) kp (zzN _) (show vS X.prog X.w _ h' _ (.lst ys)from⟨hz,its,c',r',e⟩),rfl,q _<|I.hok.fresh<|zzN _⟩
 rcases hq with hq|hq
 . obtain⟨its,r',pl,hz⟩:=I.list hq;have hlen:=r'.length;obtain⟨o,ho,hc,n,hd⟩:=pl.isList;exact call_list_seq p (.inl rfl) ho hc hd (λh' c' kp e=>fin its r' hz h' c' kp e) (by simp only[zzH]<;>omega)
 . obtain⟨its,r',pl,hz⟩:=I.tuple hq;have hlen:=r'.length;obtain⟨o,ho,hc,n,hd⟩:=pl;exact call_list_seq p (.inr rfl) ho hc hd (λh' c' kp e=>fin its r' hz h' c' kp e) (by simp only[zzH]<;>omega)
def WZ:YB X (.type "tuple") (λxs H Q=>∃p ys,xs=[.ref p]/\((Yy X.K H p ys/\∀l,H l=none->Q (.ref l) (upd H l<|.tup ys))\/(Vu X.K H p ys/\Q (.ref p) H))):=by
 intro pins s σ H xs us Q I r h;obtain⟨p,ys,rfl,h⟩:=h;obtain⟨u,rfl,rx⟩:=vals1 r;cases rx
 rcases h with⟨hq,q⟩|⟨hq,q⟩
 . obtain⟨its,r',pl,hz⟩:=I.list hq;have hlen:=r'.length;refine call_tuple_list pl.isList (λh' kp=>?_) (by simp only[zzH]<;>omega);have I1:=I.kept (t':=s.toks) kp;have I2:=
    I1.laid (t':=s.toks) (λb o e=>zxF _ e) (zzN _) (show vS X.prog X.w _ _ _ (.tup ys)from⟨hz,its,r',IsTup.new _ _⟩)
   exact⟨.ref h'.objs.size,_,I2,rfl,q _<|I1.hok.fresh<|zzN _⟩
 . obtain⟨its,r',pl,hz⟩:=I.tuple hq;exact call_tuple_same pl ⟨.ref p,H,I,rfl,q⟩
def jl(K:zzA)(T:String)(x:V)(H:Hp):Prop:=match x with
 | .str _=>T="str"
 | .int _=>T="int"
 | .ref p=>(T="list"/\∃xs,Yy K H p xs)\/(T="tuple"/\∃o,K.lookup p=some o/\o.cls = .type "tuple"/\o.dict=none) \/
  (T="dict"/\((∃kvs,H p=some (.dK kvs))\/∃kvs,H p=some (.dT kvs)))\/(T="set"/\∃S n,H p=some (.set S n))
 |_=>False
def t7(I:Inv X pins σ H s)(r:RelV x v)(ty:jl X.K T x H):
 s.TypeIs v T/\∀a,v = .ref a->∃ob,s.heap.get? a=some ob/\ob.dict=none:=by
 cases x with
 |str z=>
  obtain⟨t,rfl⟩:=r;cases(ty);exact⟨typeIs_str s z t,λ_ e=>nomatch e⟩
 |int i=>
  obtain⟨t,rfl⟩:=r;cases(ty);exact⟨typeIs_int s i t,λ_ e=>nomatch e⟩
 |ref p=>
  cases r
  rcases ty with⟨rfl,xs,hq⟩|⟨rfl,o,hk,hc,hd⟩|⟨rfl,hk⟩|⟨rfl,S,n,hk⟩
  . obtain⟨its,_,pl,_⟩:=I.list hq;refine⟨pl.isList.typeIs,λa e=>?_⟩;cases e;obtain⟨o,n,e,c,hd,_⟩:=pl;exact⟨o,e,hd⟩
  . refine⟨⟨o,I.kIn p o hk,hc⟩,λa e=>?_⟩;cases e;exact⟨o,I.kIn _ o hk,hd⟩
  . have z:∃o,s.heap.get? p=some o/\o.ExactDict:=by
     rcases hk with⟨kvs,hk⟩|⟨kvs,hk⟩
     . obtain⟨_,_,_,_,o,_,_,e,ex,_⟩:=I.hok p _ hk;exact⟨o,e,ex⟩
     . obtain⟨_,_,_,_,o,_,_,e,ex,_⟩:=I.hok p _ hk;exact⟨o,e,ex⟩
    obtain⟨o,e,ex⟩:=z;refine⟨⟨o,e,ex.1⟩,λa e2=>?_⟩;cases e2;exact⟨o,e,ex.2.1⟩
  . obtain⟨o,_,_,_,e,ex,_⟩:=I.hok p _ hk;refine⟨⟨o,e,ex.1⟩,λa e2=>?_⟩;cases e2;exact⟨o,e,ex.2.1⟩
 |_=>exact False.elim ty
def ij(K:zzA)(T:String)(r:V->List V->Hp->VK->Prop)(to:TE)(t:TA):TE:=λσ H Q=>to σ H λx H1=>jl K T x H1/\t σ H1 λxs H2=>r x xs H2 Q
variable{o e:Expr}{es:List Expr}{to:TE}{t:TA}{name:Str}{apos cpos:Pos}{T id:String}{r:V->List V->Hp->VK->Prop}
def De(pa:PlainAttrs T)(slot:Slot T name id)(hty:typeOf (.builtin id)=pure (.type "method_descriptor"))(hm:jd X id r)(ho:PE X o to)(ha:PA X (e::es) t)
 (hbase:attributeBase o name X.env (eval o X.env)=eval o X.env:=by rfl)
 (hfew:((backTo cpos<|starEach (e::es) X.env).all (λx=>!x.1)&&(backToKw cpos<|keywordEach [] X.env).all (λx=>x.1.isSome)
  && decide ((e::es).length+([]:List Keyword).length+(if([]:List Keyword).isEmpty then 0 else 1)<30))=true:=by rfl)
 (hline:(apos.endLine==cpos.line)=true:=by rfl) (hs:starEach (e::es) X.env=(false,eval e X.env)::starEach es X.env:=by rfl) (hplain:(backTo cpos<|starEach es X.env).any (·.1)=false:=by rfl):
 PE X (.Call (.Attribute o name apos) (e::es) [] cpos) (ij X.K T r to t):=by
 intro pins s σ H Q I h;refine wpAny_Call_method_late hbase hfew hline rfl<|xV (ho pins s σ H _ I h) λv s1 ⟨x,H1,I1,r1,ty,q1⟩=>?_;obtain⟨h1,h2⟩:=t7 I1 r1 ty;refine⟨T,id,pa,slot,hty,h1,h2, ?_⟩;have hA:=ha cpos pins s1 σ H1 _ I1 q1;rw[hs]at hA ⊢;refine Calls.callWith_builtin (by show(false||(backTo cpos _).any (·.1))=false;rw[hplain]<;>rfl)<|Calls.evalArgs_plain ?_;exact xV hA λus s2 ⟨vs,H2,I2,r2,q2⟩=>hm pins s2 σ H2 x vs v us Q I2 r1 r2 q2
end
end L2
namespace L2
open PySem PySem.Spec PyProof.Rows
def lU(X:Cx)(id:String)(r:V->List V->Hp->VK->Prop):Prop:=
 ∀(pins:List (Addr×Obj)) (s:Shared) (σ:St) (H:Hp) (x:V) (xs:List V) (v:Value) (us:List Value) (Q:VK),Inv X pins σ H s->RelV x v->zP xs us->r x xs H Q->
  wpAny (model X.prog X.w) X.A (call (.builtin id) (v::us)) (EP X pins σ Q) X.xe s
def zP.one:∀{x:V}{us:List Value},zP [x] us->∃u,us=[u]/\RelV x u:=by
 intro x us h;cases h with
 |cons r t=>cases t;exact⟨_,rfl,r⟩
def zP.two:∀{x y:V}{us:List Value},zP [x,y] us->∃u v,us=[u,v]/\RelV x u/\RelV y v:=by
 intro x y us h;cases h with
 |cons r t=>
  cases t with
  |cons q t=>cases t;exact⟨_,_,rfl,r,q⟩
theorem zP.reverse(h:zP xs us):zP xs.reverse us.reverse:=by
 induction h with
 |nil=>exact .nil
 |cons r t ih=>rw[List.reverse_cons,List.reverse_cons];exact zP.append ih<|.cons r .nil
theorem zP.rep(h:zP xs us):∀k:Nat,zP (List.replicate k xs).flatten (List.replicate k us).flatten
 |0=>.nil
 |k+1=>by
  rw[List.replicate_succ,List.replicate_succ,List.flatten_cons,List.flatten_cons];exact zP.append h<|zP.rep h k
theorem foldl_rep(its):∀(k:Nat) (acc:List Value),
 List.foldl (λx1 x2=>x1++x2) acc.toArray (List.replicate k its.toArray)=(acc++(List.replicate k its).flatten).toArray
 |0,acc=>by simp
 |k+1,acc=>by
  have e:acc.toArray++its.toArray=(acc++its).toArray:=by simp
  have e2:(acc++its)++(List.replicate k its).flatten=acc++(List.replicate (k+1) its).flatten:=by
   rw[List.replicate_succ,List.flatten_cons,zxA]
  rw[<-e2,<-foldl_rep its k _,<-e,List.replicate_succ,List.foldl_cons]
section
variable{X:Cx}{pins:List (Addr×Obj)}{σ:St}{H:Hp}{s:Shared}{l b:Addr}{xs ys zs:List V}
def Inv.lset{its its':List Value}{n:Nat}{f}{t':Nat}(I:Inv X pins σ H s)(hH:H l=some (.lst xs))
 (e:s.heap.get? l=some {cls:=.type "list",data:=.seq its.toArray n}) (hf:f its.toArray=its'.toArray) (hv:zP ys its') (hz:ys.length<=sizeLine):
 Inv X pins σ (upd H l<|.lst ys) {s with heap:=s.heap.update l<|Obj.mapSeq f,toks:=t'}:=by
 have q:=PySem.IsL.update e f;rw[hf]at q;refine I.write (by rw[hH];exact trivial) (.inl rfl) (λb' u hb hu=>(Heap.get?_update_other s.heap _<|Ne.symm hb).trans hu) ⟨_,q⟩ ?_;exact⟨hz,its',_,hv,q⟩
def Inv.lnew(I:Inv X pins σ H s)(hv:zP ys its)(hz:ys.length<=sizeLine):
 Inv X pins σ (upd H s.heap.objs.size<|.lst ys) {s with heap:=s.heap.push {cls:=.type "list",data:=.seq its.toArray},toks:=t'}:=
 I.laid (λ_ _ q=>zxF _ q) (zzN _) ⟨hz,its,0,hv,zxH _ rfl⟩
theorem Inv.fresh(I:Inv X pins σ H s):H s.heap.objs.size=none:=I.hok.fresh<|zzN _
def Inv.lstM(I:Inv X pins σ H s)(hH:H l=some (.lst xs)):xs.length<=sizeLine/\∃(its:List Value) (n:Nat),zP xs its/\xs.length=its.length/\s.heap.get? l=some {cls:=.type "list",data:=.seq its.toArray n}:=by
 obtain⟨z,its,n,r,e⟩:=I.hok l _ hH;exact⟨z,its,n,r,r.length,e⟩
def CG(h:n<=sizeLine):Builtin.List.listTooLong n=false:=by
 unfold Builtin.List.listTooLong;exact zyG (by omega)
end
section
variable{X:Cx}
def Bf:V->List V->Hp->VK->Prop:=λx vs H Q=>∃l xs y,x = .ref l/\vs=[y]/\H l=some (.lst xs)/\xs.length<sizeLine/\Q .non (upd H l<|.lst<|xs++[y])
def YD:lU X "list.append" Bf:=by
 intro pins s σ H x vs v us Q I rx rv h;obtain⟨l,xs,y,rfl,rfl,hH,hz,q⟩:=h;cases rx;obtain⟨u,rfl,ru⟩:=rv.one;obtain⟨z,its,n,r,hl,e⟩:=I.lstM hH;refine call_meets F.slot_list_append ⟨_,e,rfl⟩ F.entry_list_append (F.args_list_append_2 _ _) (PySem.list_append l its.toArray n u<|by rw[zzH];omega) ⟨e, ?_⟩;refine⟨.non,_,I.lset (its':=its++[u]) hH e (by simp) (r.append<|.cons ru .nil) ?_,rfl,q⟩;rw[zzJ,List.length_singleton];omega
def len_rep(xs:List α)(k:Nat):(List.replicate k xs).flatten.length=k*xs.length:=by
 induction k with
 |zero=>simp
 |succ k ih=>rw[List.replicate_succ,List.flatten_cons,zzJ,ih,Nat.succ_mul,Nat.add_comm]
end
end L2
namespace Att
open PySem PySem.W PySem.Calls PyProof.Rows
def U0:∀(ns:List Int) (vs:List Value),WellAll P h vs (ns.map WData.int)->IntsAre vs ns:=by
 intro ns
 induction ns with
 |nil=>
  intro vs w;rw[List.map_nil]at w;cases w;exact .nil
 |cons n ns ih=>
  intro vs w;rw[zyS]at w;cases w with
  |cons a b=>
   cases a;exact .cons _ _<|ih _ b
def Sg{l:OpenLaw}{n:Nat}(hn:l.most=some n){P h args vals}
 (hpre:l.row.toRowW.claim.pre args=true) (hwl:WellAll P h vals args):
 ∃a vs ns,vals=[Value.ref a]/\args=[WData.list<|ns.map WData.int]/\h.get? a=some {cls:=.type "list",data:=.seq vs.toArray}/\IntsAre vs ns/\ns.length<=n:=by
 have hsh:=(pre_splitW hpre).1;have hc:l.pre.holds [] {args:=args}=true:=(pre_splitW hpre).2;obtain⟨d,r,rfl,h1,h2⟩:=hasAllW_cons hsh;obtain rfl:=hasAllW_nil h2;obtain⟨xs,rfl,h3⟩:=hasW_list h1;obtain⟨ns,rfl⟩:=items_int h3;have hlen:ns.length<=n:=by
  unfold OpenLaw.pre at hc;have h4:(WTm.not<|.lt (.lit<|.int (n:Int))<|.len<|.arg 0).holds [] {args:=[.list<|ns.map .int]}=true:=by
   have h4:=(holds_andW hc).1;rw[hn]at h4;exact h4
  have h5:=condW_of h4<|w_not<|w_lt w_lit<|w_len_list<|w_arg rfl;rw[zzB]at h5;refine Nat.le_of_not_lt λq=>?_;have q':n<(ns.length:Int):=by omega
  first
   |(rw[zyO q']at h5;exact absurd h5 (by decide))
   |(simp at h5;omega)
 cases hwl with
 |cons w1 w2=>
  cases w2;cases w1 with
  |list ho hall=>exact⟨_,_,ns,rfl,rfl,ho,U0 ns _ hall,hlen⟩
def B2(l:OpenLaw)(args):l.row.toRowW.claim.post args (.bool true) args=true:=
 postW_of
  (show WShape.has [] _ .bool=true by first|rfl|decide|simp[WShape.has,WShape.arms,WShape.armsAll])
  (w_eq_bool (w_res rfl) w_lit) rfl
def NU{l:OpenLaw}{n:Nat}{q loose XP YP d}
 (hn:l.most=some n) (hdf:d.params.defaults=[])
 (call:∀(w:World) (s₀ s₁:Shared) (mg mb:Str->Option Value) (fa:Addr) (o:Obj) (pm cd doc:Value) (a:Addr) (vs:List Value) (ns:List Int),
  Ground q loose [] XP w s₀ mg mb s₁.heap->YP w s₁.heap->
  s₁.heap.get? fa=some o->o.data = .func (docDef d.name d.params d.body d.scope pm cd doc)->s₁.heap.CodeRec cd d.name->mg d.name=some (.ref fa)->
  s₁.heap.get? a=some {cls:=.type "list",data:=.seq vs.toArray}->IntsAre vs ns->ns.length<=n->s₁.gens = #[]->
  codeAny (model l.prog w) callerA (.call (.ref fa) ⟨[.ref a],[]⟩) (λr s'=>r = .ok (.ret<|.bool true)/\OldK s₁.heap s'.heap/\s'.os=s₁.os/\AllBare s'.gens) s₁):
 WalkO q loose XP YP l.row.toRowW d [] (λf vs=>PySem.call f vs):=by
 intro w s₀ s₁ mg mb G Y fa o pm cd doc dV kV ho hd hcd hD hmg hg args vals as hpre hlay hrd hwl hlo;obtain rfl:dV = .none:=Dflts.none hD hdf;obtain rfl:kV = .none:=Dflts.noKw hD;obtain⟨a,vs,ns,rfl,rfl,hobj,hints,hlen⟩:=Sg hn hpre hwl;refine enter_call<|codeAny_mono (call w s₀ s₁ mg mb fa o pm cd doc a vs ns G Y ho (fd_plain hd) hcd hmg hobj hints hlen hg) λr s' hq=>?_;obtain⟨rfl,h2,h3,h4⟩:=hq;exact⟨.inl ⟨.bool true,.bool true,[],rfl,λ_=>rfl,.bool true,B2 l _,λ_=>⟨List.Pairwise.nil,λ_ hm=>(nomatch hm)⟩⟩,h2,h3,h4⟩
end Att
namespace L2
open PySem PySem.Spec PyProof.Rows
theorem GP:∀{vs:List Value}{ns:List Int},IntsAre vs ns->zP (ns.map V.int) vs
 |_,_,.nil=>.nil
 |_,_,.cons n t h=>.cons ⟨t,rfl⟩<|GP h
def tB(H:Hp):Prop:=∀b,H b=none\/∃o xs,H b=some (.frz o<|.lst xs)
def OH{P w K mg mb CX}{k:Nat}{fa a fd x sp s₁ vs ns}
 (KX:K.In s₁.heap) (hns:s₁.heap.Ns mainGlobals mg) (hb:s₁.heap.Ns builtinsNs mb) (hbb:∀x:Str,x≠"__name__"->mb x=bootBuiltins x) (hlim:s₁.heap.NoLimit) (hg:s₁.gens = #[])
 (ha:s₁.heap.get? a=some {cls:=.type "list",data:=.seq vs.toArray}) (hi:IntsAre vs ns) (hl:ns.length<=sizeLine) (hr:Room k callerA)
 (F:∀base:Heap,K.In base->base.Ns mainGlobals mg->FnOk P w K mg base CX k fa fd [x] sp) (hbind:∀(s:Shared) (u:Value),BindsTo s fd ⟨[u],[]⟩ [(x,u)])
 (hsp:∀H:Hp,tB H->Ck K H a (ns.map V.int)->sp [.ref a] H (λv _=>v = .bl true) λ_ _ _=>False)
 (hCX:∀H e s',CX [] H s₁ (λ_ _ _=>False) e s'->False):
 codeAny (model P w) callerA (.call (.ref fa) ⟨[.ref a],[]⟩) (λr s'=>r = .ok (.ret<|.bool true)/\OldK s₁.heap s'.heap/\s'.os=s₁.os/\AllBare s'.gens) s₁:=by
 have rv:=GP hi;have lenV:=hi.length;have core:∀H:Hp,tB H->Ck K H a (ns.map V.int)->Ur P w H s₁.heap->(∀b,H b≠none->b=a)->(H a≠none->K.lookup a=none)->
  codeAny (model P w) callerA (.call (.ref fa) ⟨[.ref a],[]⟩) (λr s'=>r = .ok (.ret<|.bool true)/\OldK s₁.heap s'.heap/\s'.os=s₁.os/\AllBare s'.gens) s₁:=by
  intro H hO hS hok hA hK;have base_of:∀{b:Addr}{o:Obj},s₁.heap.get? b=some o->H b=none->(B1 s₁.heap H).get? b=some o:=λe n=>Cf e n;have noA:∀{b:Addr}{o:Obj}{es:Array DictEntry}{ep:Nat},s₁.heap.get? b=some o->o.data = .dict es ep->H b=none:=λ{b o es ep} e d=>by
   cases q:H b with
   |none=>rfl
   |some u=>
    have e':b=a:=hA b (by rw[q];simp);subst e';rw[ha]at e;cases e;have d':Data.seq vs.toArray _=Data.dict es ep:=d;cases d'
  have nsK:∀{b:Addr}{m:Str->Option Value},s₁.heap.Ns b m->(B1 s₁.heap H).Ns b m:=λ{b m} ⟨o,es,ep,e,d,r⟩=>⟨o,es,ep,base_of e<|noA e d,d,r⟩;have hKb:=λb o e=>base_of (KX b o e) (by
   cases q:H b with
   |none=>rfl
   |some u=>
    have e':b=a:=hA b (by rw[q];simp);subst e';rw[hK<|by rw[q];simp]at e;cases e)
  have hM:Mod K mg _:=⟨hKb,nsK hns,⟨mb,nsK hb,hbb⟩,let⟨mc,h1,h2⟩:=hlim;⟨mc,nsK h1,h2⟩⟩;have e0:Env0 P w K mg _ callerA [] s₁ H:=⟨rfl,hM,λb o e=>C7 e,Nat.le_of_eq<|B3 _ _,trivial,λb hb=>absurd (show b ∈ ([]:List Addr)from hb) (by simp),hok,.of_eq hg⟩;refine codeAny_mono ((F _ hKb<|nsK hns).run callerA [] s₁ H ⟨_,[]⟩ [.ref a] [.ref a] _ _ hr e0 (hbind s₁<|.ref a) (.cons rfl .nil)<|hsp H hO hS) λr s' h=>?_;cases r with
  |error e=>exact(hCX H e s' h).elim
  |ok fl=>
   cases fl with
   |next=>exact False.elim h
   |brk=>exact False.elim h
   |cont=>exact False.elim h
   |ret u=>
    obtain⟨v,H',os,bare,un,hok',r',q⟩:=h;have q':v = .bl true:=q;subst q';obtain rfl:u=Value.bool true:=r';refine⟨rfl,OldK.of_keep λb o e=>?_,os,bare⟩;cases q:H b with
    |none=>exact un.keep b o e q (by intro z;exact absurd (show b ∈ ([]:List Addr)from z)<|by simp) (by simp)
    |some u=>
     rcases hO b with z|⟨ob,xs,z⟩
     . rw[q]at z;cases z
     . have z2:=un.frzs b ob _ z;obtain⟨e1,_⟩:=hok b _ z;obtain⟨e2,_⟩:=hok' b _ z2;rw[e]at e1;cases e1;exact e2
 cases hk:K.lookup a with
 |some o=>
  have e:=KX a o hk;rw[ha]at e;cases e;refine core (λ_=>none) (λ_=>.inl rfl) (.inr ⟨vs.toArray,_,hk,by rw[zzH,lenV];exact hl,by simpa using rv⟩) (λb u z=>by have z':none=some u:=z;cases z') (λb z=>absurd rfl z) λz=>absurd rfl z
 |none=>
  refine core (λb=>if b=a then some _ else none) (λb=>?_) (.inl<|.inr ⟨{cls:=.type "list",data:=.seq vs.toArray},if_pos rfl⟩) (λb u z=>?_) (λb z=>?_) λ_=>hk
  . by_cases hb:b=a
    . exact .inr ⟨_,_,if_pos hb⟩
    . exact .inl<|if_neg hb
  . by_cases hb:b=a
    . have z':=(if_pos hb).symm.trans z;cases z';subst hb;exact⟨ha,by rw[zzB];exact hl,vs,_,rv,ha⟩
    . have z':=(if_neg hb).symm.trans z;cases z'
  . by_cases hb:b=a
    . exact hb
    . exact absurd (if_neg hb) z
end L2
namespace L2
open PySem PySem.Spec PyProof.Rows
def walk_of{l:PySem.W.OpenLaw}{n k:Nat}{q loose XP YP d}{K:Params->zzA}{CX:World->Dq}{sp:World->Sp}{x}
 (hn:l.most=some n) (hn2:n<=sizeLine) (hdf:d.params.defaults=[]) (hr:Room k callerA)
 (hY:∀(w:World) (h:Heap),YP w h->(K w.params).In h)
 (F:∀(w:World) (mg:Str->Option Value) (fa:Addr) (h:Heap),(K w.params).In h->h.Ns mainGlobals mg->mg d.name=some (.ref fa)->
  ∃fd:FuncData,(∀(s:Shared) (u:Value),BindsTo s fd ⟨[u],[]⟩ [(x,u)])/\
   ∀base:Heap,(K w.params).In base->base.Ns mainGlobals mg->FnOk l.prog w (K w.params) mg base (CX w) k fa fd [x] (sp w))
 (hsp:∀(w:World) (H:Hp) (a:Addr) (ns:List Int),ns.length<=n->tB H->Ck (K w.params) H a (ns.map V.int)->sp w [.ref a] H (λv _=>v = .bl true) λ_ _ _=>False)
 (hCX:∀(w:World) (H:Hp) (s:Shared) (e:Value) (s':Shared),CX w [] H s (λ_ _ _=>False) e s'->False):
 PySem.W.WalkO q loose XP YP l.row.toRowW d [] (λf vs=>PySem.call f vs):=by
 refine Att.NU hn hdf λw s₀ s₁ mg mb fa o pm cd doc a vs ns G Y ho hd hcd hmg hobj hints hlen hg=>?_;have KX:=hY w _ Y;obtain⟨fd,hb,hF⟩:=F w mg fa _ KX G.T.g hmg;exact OH KX G.T.g G.T.b G.T.builtins G.T.nolimit hg hobj hints (zzO hlen hn2) hr hF hb (λH hO hS=>hsp w H a ns hlen hO hS) λH e s'=>hCX w H s₁ e s'
end L2
namespace L2
open PySem PySem.Spec PyProof.Rows
noncomputable def inClass(s:Stmt)(j:Nat):Stmt:=match s with
 | .ClassDef _ _ _ body _ _ _ _ _ _ _=>body.getD j (.Pass ⟨0,0,0,0⟩)
 |_=>.Pass ⟨0,0,0,0⟩
noncomputable def Rz(s:Stmt):Arguments:=match s with
 | .FunctionDef _ a _ _ _ _ _ _ _ _=>a
 |_=>{posonlyargs:=[],args:=[],vararg:=none,kwonlyargs:=[],kw_defaults:=[],kwarg:=none,defaults:=[]}
noncomputable def vJ(s:Stmt):List Stmt:=match s with
 | .FunctionDef _ _ b _ _ _ _ _ _ _=>b
 |_=>[]
noncomputable def zL(s:Stmt):Scope:=match s with
 | .FunctionDef _ _ _ _ _ _ sc _ _ _=>sc
 |_=>{kind:=.function,names:=[],isGenerator:=false,isCoroutine:=false}
abbrev YG:Dq:=λ_ _ _ _ _ _=>False
abbrev E0:XK:=λ_ _ _=>False
def xa:Zb YG X E0:=λ_ _ _ _ _ _ _ h=>h.elim
structure Fun(K:zzA)(x qual:Str)(st:Stmt)(f:Addr)(fd:FuncData):Prop where
 ex:∃(oc:Value) (od:Option Addr) (kV doc pm:Value) (an:Option Addr) (cdv ct:Value) (osl:Array (Option Value)),
  fd=W.fnOf x qual (Rz st) (vJ st) (zL st) .none kV doc pm an cdv ct/\K.lookup f=some ⟨oc,od,.func fd,osl⟩/\W.codeIn K cdv qual=true
 kp:W.keepIn K (.ref f)=true
section
variable{P:Program}{w:World}{K:zzA}{mg:Str->Option Value}{base:Heap}
def Fun.ok{x qual st f fd N ps}{k:Nat}{sp}(F:Fun K x qual st f fd)(S:FnScope N ps (zL st))(len:∀vs H Q E,sp vs H Q E->vs.length=ps.length)
 (hbody:∀(cdv:Value) (A:Around) (outer:List Env) (s:Shared) (H:Hp) (vs:List V) (Q:VK) (E:XK),Room k (A.deeper<|envOfC qual (zL st) s.heap.objs.size f cdv)->sp vs H Q E->
  ∃t,Nj (Rg YG P w K mg base N qual (zL st) f cdv A outer s H E).nox (vJ st) t/\t {nx:=λ_ H'=>Q .non H',rt:=Q} (start N vs) H):FnOk P w K mg base YG (k+1) f fd ps sp:=by
 obtain⟨oc,od,kV,doc,pm,an,cdv,ct,osl,rfl,lk,hcd⟩:=F.ex;refine nH lk hcd S len λA outer s H vs Q E hr hsp=>?_;obtain⟨t,h,q⟩:=hbody cdv A outer s H vs Q E hr hsp;exact⟨t,h.nox,q⟩
def Fun.binds{x qual st f fd ps}(F:Fun K x qual st f fd)
 (h:∀(kV doc pm:Value) (an:Option Addr) (cdv ct:Value) (us:List Value),us.length=ps.length->bindArgs (W.fnOf x qual (Rz st) (vJ st) (zL st) .none kV doc pm an cdv ct) ⟨us,[]⟩=pure (ps.zip us)):Binds K fd ps []:=by
 obtain⟨oc,od,kV,doc,pm,an,cdv,ct,osl,rfl,lk,hcd⟩:=F.ex;exact .all<|h kV doc pm an cdv ct
end
def QB(h:n<=1000):n<sizeLine:=Nat.lt_of_le_of_lt h (by decide)
section
variable{X:Cx}
def pv(i:Nat)(hN:X.N[i]? = some x:=by rfl)(hv:n5 X.env.scope x:=by first|exact Or.inl rfl|exact Or.inr (Or.inl rfl)|exact Or.inr (Or.inr rfl))(hd:(x==("__debug__":Str))=false:=by decide)
 (hcd:(x==("__classdict__":Str))=false:=by decide):PE X (.Name x pos) (Vk i):=Oi hN hv hd hcd
end
end L2
end
section
namespace G43
open PySem PySem.W PyProof.Rows L2
noncomputable def top(i:Nat):Stmt:=PySem.Challenge.pw_stretchdeeds_k43_what_stretches_come_to.main.body.getD i<|.Pass ⟨0,0,0,0⟩
abbrev Pp:Stmt:=top 10
abbrev Ud:Stmt:=top 12
abbrev Xs:Stmt:=top 13
abbrev Xx:Stmt:=top 14
abbrev Vb:Stmt:=top 15
abbrev VB:Stmt:=top 16
abbrev Qe:Stmt:=top 17
abbrev Wk:Stmt:=top 18
abbrev Xo:Stmt:=inClass (top 20) 0
abbrev GI:Stmt:=top 21
abbrev Uv:Stmt:=inClass (top 42) 5
abbrev G9:Stmt:=top 22
abbrev G2:Stmt:=top 23
abbrev Ko:Stmt:=top 24
abbrev Wp:Stmt:=inClass (top 42) 4
abbrev PQ:Stmt:=top 25
abbrev W9:Stmt:=inClass (top 42) 9
abbrev Qb:Stmt:=top 26
abbrev UG:Stmt:=inClass (top 42) 10
abbrev PU:Stmt:=top 27
abbrev VR:Stmt:=top 28
abbrev Pw:Stmt:=top 29
abbrev W7:Stmt:=top 30
abbrev Wj:Stmt:=top 31
abbrev NM:Stmt:=top 32
abbrev X3:Stmt:=top 33
abbrev Uy:Stmt:=top 34
abbrev W6:Stmt:=top 37
abbrev VS:Stmt:=top 38
abbrev Og:Stmt:=top 41
abbrev Pm:Stmt:=top 44
abbrev VE:Stmt:=top 45
abbrev Ub:Stmt:=top 46
abbrev Xg:Stmt:=top 47
abbrev Xm:Stmt:=top 48
abbrev Ui:Stmt:=top 49
abbrev Ue:Stmt:=top 50
abbrev To:Stmt:=top 51
abbrev Ug:Stmt:=top 52
abbrev W8:Stmt:=top 53
abbrev Pl:Stmt:=top 54
abbrev Xr:Stmt:=top 55
abbrev PM:Stmt:=top 57
abbrev W4:Stmt:=top 56
abbrev GW:Stmt:=top 58
abbrev Up:Stmt:=top 59
abbrev RL:Stmt:=top 60
abbrev Kr:Stmt:=top 61
abbrev Xw:Stmt:=top 63
abbrev V2:Stmt:=top 64
abbrev Xp:Stmt:=inClass (top 39) 2
abbrev Xq:Stmt:=inClass (top 42) 1
abbrev Zv:Stmt:=inClass (top 39) 3
abbrev Zx:Stmt:=inClass (top 39) 4
abbrev V1:Stmt:=inClass (top 39) 1
abbrev vK:Stmt:=inClass (top 39) 5
abbrev XC:Stmt:=inClass (top 39) 9
abbrev Wr:Stmt:=inClass (top 42) 2
abbrev X7:Stmt:=inClass (top 42) 8
abbrev Vy:Stmt:=inClass (top 39) 7
abbrev Wa:Stmt:=inClass (top 39) 8
abbrev RU:Stmt:=top 65
abbrev Ve:Stmt:=inClass (top 39) 14
abbrev Z7:Stmt:=top 66
abbrev Yt:Stmt:=inClass (top 39) 0
abbrev wI:Stmt:=inClass (top 42) 0
abbrev Vx:Stmt:=inClass (top 39) 6
abbrev F8:Stmt:=top 67
noncomputable abbrev hpg:=PySem.Challenge.pw_stretchdeeds_k43_what_stretches_come_to
noncomputable abbrev hva:Value:=.str "__main__" 164
noncomputable abbrev hvb:Value:=.str "stretchdeeds.errors" 194
noncomputable abbrev hvc:Value:=.str "stretchdeeds.terms" 319
noncomputable abbrev hvd:Value:=.str "stretchdeeds.algebras" 328
noncomputable abbrev hve:Value:=.str "stretchdeeds.trees" 404
noncomputable abbrev hvf:Value:=.str "stretchdeeds.makes" 578
noncomputable abbrev hvg:Value:=.str "stretchdeeds.ways" 784
noncomputable abbrev hvh:Value:=.str "law_stretchdeeds_k43_what_stretches_come_to" 904
noncomputable abbrev hem:List Value:=[(.type "ValueError"), (.type "Exception"), (.type "BaseException"), (.type "object")]
abbrev kF(n q:Str)(s:Stmt)(pm hcd:Value):Obj:=⟨.type "function",none,.func<|fnOf n q (Rz s) (vJ s) (zL s) .none .none .none pm none hcd .none,#[]⟩
noncomputable abbrev kD(es:List DictEntry)(n:Nat):Obj:=⟨.type "dict",none,.dict es.toArray n,#[]⟩
noncomputable abbrev kE(P:Params)(x:Str)(t:Nat)(v:Value):DictEntry:=⟨PyData.keyHash P x,.str x t,v⟩
abbrev kR(P:Params)(x:Str)(t:Nat)(a:Addr):DictEntry:=kE P x t<|.ref a
noncomputable abbrev hfl(c:Value)(l:List Value):Obj:=⟨c,none,.fields l.toArray,#[]⟩
abbrev hco(n q:Str)(t u:Nat)(l k g:Int)(b:Bool)(a:Nat)(r s v:Value):Obj:=hfl (.type "code") [.str n t,.str q<|t+1,.str "/claim/cut.py" (t+2),.int l 0,.int k 0,.int 0 0,.int 0 0,.int g 0,.ref a,.bool b,.int 181 0,.ref<|a+1,.none,r,s,v,.int u 0,.int l 0,.str "/claim/cut.py" (u+1)]
abbrev hc7(n q:Str)(t u:Nat)(l k:Int)(a:Nat):=hco n q t u l k 3 true a (.ref<|a+2) (.ref<|a+3)<|.ref<|a+4
abbrev hc5(n q:Str)(t:Nat)(l k:Int)(a:Nat):=hco n q t (t+3) l k 3 true a .none .none<|.ref<|a+2
noncomputable abbrev hen(P:Params):List DictEntry:=[kE P "__doc__" 166 .none,kE P "__package__" 167 .none,kE P "__loader__" 168<|.builtin "__main__.__loader__#opaque",kE P "__spec__" 169 .none,kR P "__annotations__" 170 6,kR P "__builtins__" 171 4,kE P "__file__" 173<|.str "/claim/cut.py" 172,kE P "__cached__" 174 .none,kR P "_wall" 193 21,kR P "StretchError" 213 31,kR P "NotLetBy" 238 51,kR P "NoMake" 254 63,kR P "NoStretch" 270 75,kR P "NoValue" 286 87,kR P "NoDeed" 302 99,kR P "TooGreat" 318 111,kR P "is_whole" 327 120,kR P "is_within" 338 127,kR P "nothing_fails" 348 134,kR P "parting_fails" 360 141,kR P "doing_fails" 376 148,kR P "deeds_fail" 387 155,kR P "what_fails" 395 162,kR P "check_let_by" 403 169,kR P "Knot" 446 186,kR P "leaf_of" 453 197,kR P "knot_of" 462 204,kR P "tree_of" 471 211,kR P "size_of" 478 218,kR P "whole_of" 486 225,kR P "both_waits" 495 232,kR P "done_all" 506 239,kR P "turned_all" 514 246,kR P "parts_of" 524 253,kR P "leaned_left" 535 260,kR P "leaned_right" 546 267,kR P "evened" 555 274,kR P "put_together" 565 281,kR P "parted_at" 577 288,kE P "MOST_IN_ROW" 581<|.int (300) 580,kR P "check_place" 590 295,kR P "check_size" 597 302,kR P "Makes" 783 431,kR P "firm" 791 440,kR P "Ways" 903 523,kR P "_law_draw" 917 534,kR P "_law_digits" 927 541,kR P "_law_names" 944 548,kR P "_law_part_join" 955 555,kR P "_law_part_done" 961 560,kR P "_law_parts" 969 567,kR P "_law_split" 980 574,kR P "_law_laid" 991 581,kR P "_law_order" 1001 588,kR P "_law_algebra" 1007 593,kR P "_law_copy" 1013 598,kR P "_law_by_digits" 1019 603,kR P "_law_is_good" 1025 608,kR P "_law_does" 1040 615,kR P "_law_any" 1048 622,kR P "_law_comes" 1059 629,kR P "_law_deed" 1065 634,kR P "_law_row" 1075 641,kR P "_law_is_list" 1081 646,kR P "_law_is_number" 1089 653,kR P "_law_places" 1100 660,kR P "_law_step" 1115 667,kR P "_law_asked_right" 1129 674,kR P "law" 1144 681]
def K(P:Params):Frag:=
 (nat_lit 3,kD (kE P "__name__" 165 hvh::hen P) 70)::
 (nat_lit 119,hc7 "is_whole" "is_whole" 321 325 23 1 114)::
 (nat_lit 120,kF "is_whole" "is_whole" Pp hvc<|.ref 119)::
 (nat_lit 126,hc7 "is_within" "is_within" 330 336 26 3 121)::
 (nat_lit 127,kF "is_within" "is_within" Ud hvd<|.ref 126)::
 (nat_lit 133,hc7 "nothing_fails" "nothing_fails" 339 346 28 1 128)::
 (nat_lit 134,kF "nothing_fails" "nothing_fails" Xs hvd<|.ref 133)::
 (nat_lit 140,hc7 "parting_fails" "parting_fails" 349 358 35 1 135)::
 (nat_lit 141,kF "parting_fails" "parting_fails" Xx hvd<|.ref 140)::
 (nat_lit 147,hc7 "doing_fails" "doing_fails" 361 374 44 3 142)::
 (nat_lit 148,kF "doing_fails" "doing_fails" Vb hvd<|.ref 147)::
 (nat_lit 154,hc7 "deeds_fail" "deeds_fail" 377 385 55 1 149)::
 (nat_lit 155,kF "deeds_fail" "deeds_fail" VB hvd<|.ref 154)::
 (nat_lit 161,hc7 "what_fails" "what_fails" 388 393 64 1 156)::
 (nat_lit 162,kF "what_fails" "what_fails" Qe hvd<|.ref 161)::
 (nat_lit 168,hc7 "check_let_by" "check_let_by" 396 401 71 1 163)::
 (nat_lit 169,kF "check_let_by" "check_let_by" Wk hvd<|.ref 168)::
 (nat_lit 182,hc7 "__init__" "Knot.__init__" 418 428 78 7 177)::
 (nat_lit 183,kF "__init__" "Knot.__init__" Xo hve<|.ref 182)::
 (nat_lit 185,kD [kE P "__module__" 413 hve,kE P "__firstlineno__" 417<|.int (76) 416,kR P "__init__" 430 183,kR P "__static_attributes__" 439 184,kR P "__dict__" 441 187,kR P "__weakref__" 443 188,kE P "__doc__" 444 .none] 4)::
 (nat_lit 186,⟨(.type "type"),none,.cls {name:="Knot",bases:=[(.type "object")],mro:=[(.ref 186),(.type "object")],ns:=185,qualname:="Knot",hasDict:=true,slotNames:=[],subclasses:=[],abstract:=false,collection:=none,hasDel:=false},#[none,none,some<|.str "Knot" 406,some<|.str "Knot" 414,some<|.builtin "object.__new__",some<|.bool true]⟩)::
 (nat_lit 196,hc7 "leaf_of" "leaf_of" 447 451 87 1 191)::
 (nat_lit 197,kF "leaf_of" "leaf_of" GI hve<|.ref 196)::
 (nat_lit 203,hc7 "knot_of" "knot_of" 454 460 89 3 198)::
 (nat_lit 204,kF "knot_of" "knot_of" G9 hve<|.ref 203)::
 (nat_lit 210,hc7 "tree_of" "tree_of" 463 469 91 2 205)::
 (nat_lit 211,kF "tree_of" "tree_of" G2 hve<|.ref 210)::
 (nat_lit 217,hc7 "size_of" "size_of" 472 476 98 1 212)::
 (nat_lit 218,kF "size_of" "size_of" Ko hve<|.ref 217)::
 (nat_lit 224,hc7 "whole_of" "whole_of" 479 484 100 2 219)::
 (nat_lit 225,kF "whole_of" "whole_of" PQ hve<|.ref 224)::
 (nat_lit 231,hc7 "both_waits" "both_waits" 487 493 102 3 226)::
 (nat_lit 232,kF "both_waits" "both_waits" Qb hve<|.ref 231)::
 (nat_lit 238,hc7 "done_all" "done_all" 496 504 108 3 233)::
 (nat_lit 239,kF "done_all" "done_all" PU hve<|.ref 238)::
 (nat_lit 245,hc7 "turned_all" "turned_all" 507 512 116 2 240)::
 (nat_lit 246,kF "turned_all" "turned_all" VR hve<|.ref 245)::
 (nat_lit 252,hc7 "parts_of" "parts_of" 515 522 120 2 247)::
 (nat_lit 253,kF "parts_of" "parts_of" Pw hve<|.ref 252)::
 (nat_lit 259,hc7 "leaned_left" "leaned_left" 525 533 129 3 254)::
 (nat_lit 260,kF "leaned_left" "leaned_left" W7 hve<|.ref 259)::
 (nat_lit 266,hc7 "leaned_right" "leaned_right" 536 544 135 3 261)::
 (nat_lit 267,kF "leaned_right" "leaned_right" Wj hve<|.ref 266)::
 (nat_lit 273,hc7 "evened" "evened" 547 553 141 3 268)::
 (nat_lit 274,kF "evened" "evened" NM hve<|.ref 273)::
 (nat_lit 280,hc7 "put_together" "put_together" 556 563 147 3 275)::
 (nat_lit 281,kF "put_together" "put_together" X3 hve<|.ref 280)::
 (nat_lit 287,hc7 "parted_at" "parted_at" 566 575 159 3 282)::
 (nat_lit 288,kF "parted_at" "parted_at" Uy hve<|.ref 287)::
 (nat_lit 294,hc7 "check_place" "check_place" 582 588 173 3 289)::
 (nat_lit 295,kF "check_place" "check_place" W6 hvf<|.ref 294)::
 (nat_lit 301,hc7 "check_size" "check_size" 591 595 176 1 296)::
 (nat_lit 302,kF "check_size" "check_size" VS hvf<|.ref 301)::
 (nat_lit 315,hc7 "__init__" "Makes.__init__" 610 615 181 2 310)::
 (nat_lit 316,kF "__init__" "Makes.__init__" Yt hvf<|.ref 315)::
 (nat_lit 322,hc7 "keep" "Makes.keep" 618 623 185 2 317)::
 (nat_lit 323,kF "keep" "Makes.keep" V1 hvf<|.ref 322)::
 (nat_lit 329,hc7 "tree_at" "Makes.tree_at" 626 631 189 2 324)::
 (nat_lit 330,kF "tree_at" "Makes.tree_at" Xp hvf<|.ref 329)::
 (nat_lit 336,hc7 "check_value" "Makes.check_value" 634 639 194 2 331)::
 (nat_lit 337,kF "check_value" "Makes.check_value" Zv hvf<|.ref 336)::
 (nat_lit 343,hc7 "three_parts" "Makes.three_parts" 642 652 198 4 338)::
 (nat_lit 344,kF "three_parts" "Makes.three_parts" Zx hvf<|.ref 343)::
 (nat_lit 350,hc7 "three_together" "Makes.three_together" 655 662 206 4 345)::
 (nat_lit 351,kF "three_together" "Makes.three_together" vK hvf<|.ref 350)::
 (nat_lit 357,hc7 "made" "Makes.made" 665 671 209 2 352)::
 (nat_lit 358,kF "made" "Makes.made" Vx hvf<|.ref 357)::
 (nat_lit 364,hc7 "done" "Makes.done" 674 684 217 5 359)::
 (nat_lit 365,kF "done" "Makes.done" Vy hvf<|.ref 364)::
 (nat_lit 371,hc7 "turned" "Makes.turned" 687 695 224 4 366)::
 (nat_lit 372,kF "turned" "Makes.turned" Wa hvf<|.ref 371)::
 (nat_lit 378,hc7 "changed" "Makes.changed" 698 707 228 4 373)::
 (nat_lit 379,kF "changed" "Makes.changed" XC hvf<|.ref 378)::
 (nat_lit 413,hc7 "asked" "Makes.asked" 746 753 247 4 408)::
 (nat_lit 414,kF "asked" "Makes.asked" Ve hvf<|.ref 413)::
 (nat_lit 430,kD [kE P "__module__" 605 hvf,kE P "__firstlineno__" 609<|.int (179) 608,kR P "__init__" 617 316,kR P "keep" 625 323,kR P "tree_at" 633 330,kR P "check_value" 641 337,kR P "three_parts" 654 344,kR P "three_together" 664 351,kR P "made" 673 358,kR P "done" 686 365,kR P "turned" 697 372,kR P "changed" 709 379,kR P "put_in" 719 386,kR P "cut" 729 393,kR P "many" 737 400,kR P "listed" 745 407,kR P "asked" 755 414,kR P "walk" 763 421,kR P "first" 773 428,kR P "__static_attributes__" 776 429,kR P "__dict__" 778 432,kR P "__weakref__" 780 433,kE P "__doc__" 781 .none] 4)::
 (nat_lit 431,⟨(.type "type"),none,.cls {name:="Makes",bases:=[(.type "object")],mro:=[(.ref 431),(.type "object")],ns:=430,qualname:="Makes",hasDict:=true,slotNames:=[],subclasses:=[],abstract:=false,collection:=none,hasDel:=false},#[none,none,some<|.str "Makes" 598,some<|.str "Makes" 606,some<|.builtin "object.__new__",some<|.bool true]⟩)::
 (nat_lit 439,hc5 "firm" "firm" 786 256 1 436)::
 (nat_lit 440,kF "firm" "firm" Og hvg<|.ref 439)::
 (nat_lit 451,hc5 "__init__" "Ways.__init__" 804 260 2 448)::
 (nat_lit 452,kF "__init__" "Ways.__init__" wI hvg<|.ref 451)::
 (nat_lit 458,hc7 "is_value" "Ways.is_value" 810 815 269 2 453)::
 (nat_lit 459,kF "is_value" "Ways.is_value" Xq hvg<|.ref 458)::
 (nat_lit 465,hc7 "is_deed" "Ways.is_deed" 818 823 272 2 460)::
 (nat_lit 466,kF "is_deed" "Ways.is_deed" Wr hvg<|.ref 465)::
 (nat_lit 479,hc7 "nothing" "Ways.nothing" 834 838 278 1 474)::
 (nat_lit 480,kF "nothing" "Ways.nothing" Wp hvg<|.ref 479)::
 (nat_lit 486,hc7 "join" "Ways.join" 841 847 281 3 481)::
 (nat_lit 487,kF "join" "Ways.join" Uv hvg<|.ref 486)::
 (nat_lit 507,hc7 "wait_of" "Ways.wait_of" 866 871 290 2 502)::
 (nat_lit 508,kF "wait_of" "Ways.wait_of" X7 hvg<|.ref 507)::
 (nat_lit 512,hc5 "behind" "Ways.behind" 874 293 3 509)::
 (nat_lit 513,kF "behind" "Ways.behind" W9 hvg<|.ref 512)::
 (nat_lit 519,hc7 "made" "Ways.made" 880 887 296 4 514)::
 (nat_lit 520,kF "made" "Ways.made" UG hvg<|.ref 519)::
 (nat_lit 522,kD [kE P "__module__" 799 hvg,kE P "__firstlineno__" 803<|.int (258) 802,kR P "__init__" 809 452,kR P "is_value" 817 459,kR P "is_deed" 825 466,kR P "is_sign" 833 473,kR P "nothing" 840 480,kR P "join" 849 487,kR P "has_sign" 858 494,kR P "idle" 865 501,kR P "wait_of" 873 508,kR P "behind" 879 513,kR P "made" 889 520,kR P "__static_attributes__" 896 521,kR P "__dict__" 898 524,kR P "__weakref__" 900 525,kE P "__doc__" 901 .none] 4)::
 (nat_lit 523,⟨(.type "type"),none,.cls {name:="Ways",bases:=[(.type "object")],mro:=[(.ref 523),(.type "object")],ns:=522,qualname:="Ways",hasDict:=true,slotNames:=[],subclasses:=[],abstract:=false,collection:=none,hasDel:=false},#[none,none,some<|.str "Ways" 792,some<|.str "Ways" 800,some<|.builtin "object.__new__",some<|.bool true]⟩)::
 (nat_lit 533,hc7 "_law_draw" "_law_draw" 906 915 299 2 528)::
 (nat_lit 534,kF "_law_draw" "_law_draw" Pm hvh<|.ref 533)::
 (nat_lit 540,hc7 "_law_digits" "_law_digits" 918 925 311 2 535)::
 (nat_lit 541,kF "_law_digits" "_law_digits" VE hvh<|.ref 540)::
 (nat_lit 547,hc7 "_law_names" "_law_names" 928 942 317 2 542)::
 (nat_lit 548,kF "_law_names" "_law_names" Ub hvh<|.ref 547)::
 (nat_lit 554,hc7 "_law_part_join" "_law_part_join" 945 953 332 3 549)::
 (nat_lit 555,kF "_law_part_join" "_law_part_join" Xg hvh<|.ref 554)::
 (nat_lit 559,hc5 "_law_part_done" "_law_part_done" 956 341 4 556)::
 (nat_lit 560,kF "_law_part_done" "_law_part_done" Xm hvh<|.ref 559)::
 (nat_lit 566,hc7 "_law_parts" "_law_parts" 962 967 352 1 561)::
 (nat_lit 567,kF "_law_parts" "_law_parts" Ui hvh<|.ref 566)::
 (nat_lit 573,hc7 "_law_split" "_law_split" 970 978 357 2 568)::
 (nat_lit 574,kF "_law_split" "_law_split" Ue hvh<|.ref 573)::
 (nat_lit 580,hc7 "_law_laid" "_law_laid" 981 989 363 2 575)::
 (nat_lit 581,kF "_law_laid" "_law_laid" To hvh<|.ref 580)::
 (nat_lit 587,hc7 "_law_order" "_law_order" 992 999 368 2 582)::
 (nat_lit 588,kF "_law_order" "_law_order" Ug hvh<|.ref 587)::
 (nat_lit 592,hc5 "_law_algebra" "_law_algebra" 1002 374 2 589)::
 (nat_lit 593,kF "_law_algebra" "_law_algebra" W8 hvh<|.ref 592)::
 (nat_lit 597,hc5 "_law_copy" "_law_copy" 1008 400 1 594)::
 (nat_lit 598,kF "_law_copy" "_law_copy" Pl hvh<|.ref 597)::
 (nat_lit 602,hc5 "_law_by_digits" "_law_by_digits" 1014 404 1 599)::
 (nat_lit 603,kF "_law_by_digits" "_law_by_digits" Xr hvh<|.ref 602)::
 (nat_lit 607,hc5 "_law_is_good" "_law_is_good" 1020 421 1 604)::
 (nat_lit 608,kF "_law_is_good" "_law_is_good" W4 hvh<|.ref 607)::
 (nat_lit 614,hc7 "_law_does" "_law_does" 1026 1038 434 5 609)::
 (nat_lit 615,kF "_law_does" "_law_does" PM hvh<|.ref 614)::
 (nat_lit 621,hc7 "_law_any" "_law_any" 1041 1046 442 1 616)::
 (nat_lit 622,kF "_law_any" "_law_any" GW hvh<|.ref 621)::
 (nat_lit 628,hc7 "_law_comes" "_law_comes" 1049 1057 448 2 623)::
 (nat_lit 629,kF "_law_comes" "_law_comes" Up hvh<|.ref 628)::
 (nat_lit 633,hc5 "_law_deed" "_law_deed" 1060 453 3 630)::
 (nat_lit 634,kF "_law_deed" "_law_deed" RL hvh<|.ref 633)::
 (nat_lit 640,hc7 "_law_row" "_law_row" 1066 1073 456 3 635)::
 (nat_lit 641,kF "_law_row" "_law_row" Kr hvh<|.ref 640)::
 (nat_lit 652,hc7 "_law_is_number" "_law_is_number" 1082 1087 465 2 647)::
 (nat_lit 653,kF "_law_is_number" "_law_is_number" Xw hvh<|.ref 652)::
 (nat_lit 659,hc7 "_law_places" "_law_places" 1090 1098 467 2 654)::
 (nat_lit 660,kF "_law_places" "_law_places" V2 hvh<|.ref 659)::
 (nat_lit 666,hc7 "_law_step" "_law_step" 1101 1113 476 4 661)::
 (nat_lit 667,kF "_law_step" "_law_step" RU hvh<|.ref 666)::
 (nat_lit 673,hc7 "_law_asked_right" "_law_asked_right" 1116 1127 489 4 668)::
 (nat_lit 674,kF "_law_asked_right" "_law_asked_right" Z7 hvh<|.ref 673)::
 (nat_lit 680,hc7 "law" "law" 1130 1142 496 1 675)::
 (nat_lit 681,kF "law" "law" F8 hvh<|.ref 680)::
 []
noncomputable def kA:List Addr:=[3,119,120,126,127,133,134,140,141,147,148,154,155,161,162,168,169,182,183,185,186,196,197,203,204,210,211,217,218,224,225,231,232,238,239,245,246,252,253,259,260,266,267,273,274,280,281,287,288,294,295,301,302,315,316,322,323,329,330,336,337,343,344,350,351,357,358,364,365,371,372,378,379,413,414,430,431,439,440,451,452,458,459,465,466,479,480,486,487,507,508,512,513,519,520,522,523,533,534,540,541,547,548,554,555,559,560,566,567,573,574,580,581,587,588,592,593,597,598,602,603,607,608,614,615,621,622,628,629,633,634,640,641,652,653,659,660,666,667,673,674,680,681]
def qv:Program:={hpg with main:={hpg.main with body:=[0,2,3,4,5,6,7,8,10,12,13,14,15,16,17,18,20,21,22,23,24,25,26,27,28,29,30,31,32,33,34,36,37,38,39,41,42,44,45,46,47,48,49,50,51,52,53,54,55,56,57,58,59,60,61,62,63,64,65,66,67].map top}}
theorem kAe(P:Params):kA=(K P).map (·.1):=by kernel_rfl
set_option maxRecDepth 100000
theorem ws:PySem.Challenge.rw_stretchdeeds_k43_what_stretches_come_to.wellSaid=true:=by kernel_rfl
abbrev Xt(s:Shared):Bool:=xlAt qv [] s&&recOk (RowW.records<|OpenRow.toRowW PySem.Challenge.rw_stretchdeeds_k43_what_stretches_come_to.row) s
abbrev hk:Hook:=kHook K kA kAe
noncomputable def htp(l:List Value):Obj:=⟨.type "tuple",none,.seq l.toArray 0,#[]⟩
noncomputable def htx:Nat->List Str->List Value
 |_,[]=>[]
 |t,x::l=>.str x t::htx (t+1) l
noncomputable def hfO(a t:Nat)(r:Str)(v:Value)(s:Stmt):List Obj:=match s with
 | .FunctionDef n p b _ _ _ c _ _ o=>
  let q:=r++n;let S:Obj:=⟨.none,none,.func {name:=n,qualname:=q,params:=p,body:=.stmts b,scope:=c,globals:=0,closure:=[],defaults:=.none,kwdefaults:=.none},#[]⟩
  match localNames p c (.stmts b) with
  |some (x,_)=>[htp [],hfl .none [],htp<|htx (t+3) x,htp [],S,hc7 n q t (t+3+x.length) o.line p.args.length a,kF n q s v<|.ref<|a+5]
  |none=>[htp [],hfl .none [],S,hc5 n q t o.line p.args.length a,kF n q s v<|.ref<|a+3]
 |_=>[]
noncomputable def htk(s:Stmt):Nat:=match s with
 | .FunctionDef _ p b _ _ _ c _ _ _=>match localNames p c (.stmts b) with
  |some (x,_)=>6+x.length
  |none=>6
 |_=>0
noncomputable def hms(P:Params)(c:Str)(v:Value):Nat->Nat->List Stmt->List Obj×List DictEntry×List Value×Nat
 |_,t,[]=>([],[],[],t)
 |a,t,s::r=>match s with
  | .FunctionDef n _ _ _ _ _ _ _ _ o=>let f:=hfO a t (c++".") v s;let l:=a+f.length;let u:=t+htk s;let z:=hms P c v l u r;(f++z.1,kR P n (u-1) (l-1)::z.2.1,.int o.line 0:: .int 4 0:: .ref (l-2)::z.2.2.1,z.2.2.2)
  |_=>hms P c v a t r
noncomputable def hfm(a b:Addr)(v:Value):Obj:=⟨.type "frame",none,.plain,#[some<|.ref a,some<|.ref 3,some<|.ref b,none,some v,none,some<|.ref 0]⟩
def hbf(x:String)(v:Value):Obj:=hfl (.type "builtin_function_or_method") [.builtin x,v]
def hgd(x:Str)(t:Nat)(c:Addr)(g s:Value):Obj:=hfl (.type "getset_descriptor") [.str x t,.ref c,g,s]
noncomputable def hcO(P:Params)(a t:Nat)(v:Value)(bv mr sb:List Value)(nw:String)(d:Nat)(s:Stmt):List Obj:=match s with
 | .ClassDef n _ _ b _ _ _ _ _ sa o=>
  let m:=hms P n v (a+7) (t+12) b;let e:=a+7+m.1.length;let k:=m.2.2.2+sa.length;let z:=k+1;let C:=e+2
  let x:=kE P "__module__" (t+7) v;let f:=kE P "__firstlineno__" (t+11)<|.int o.line<|t+10;let y:=kR P "__static_attributes__" k e
  let W:=λt:Nat=>hgd "__weakref__" t C (.builtin "ExceptionGroup.__weakref__") .none
  let D:List DictEntry×List Obj:=match d with
   |0=>([],[])
   |1=>([kR P "__weakref__" (z+1)<|C+1],[W z])
   |_=>([kR P "__dict__" (z+1)<|C+1,kR P "__weakref__" (z+3)<|C+2],[hgd "__dict__" z C (.builtin "function.__dict__")<|.builtin "function.__dict__#set",W<|z+2])
  [htp bv,hbf "type.__prepare__" (.type "type"),kD (x::kE P "__qualname__" (t+9) (.str n<|t+8)::f::m.2.1++[y])<|4+m.2.1.length,htp [],hfl .none m.2.2.1,hco n n (t+2) (t+5) o.line 0 0 false (a+3) .none .none .none,hfm (a+5) (a+2) v]++m.1++[htp<|htx m.2.2.2 sa,kD (x::f::m.2.1++y::D.1++[kE P "__doc__" (z+2*d) .none])<|2+d,⟨.type "type",none,.cls {name:=n,bases:=if bv.isEmpty then [.type "object"] else bv,mro:=.ref C::mr,ns:=e+1,qualname:=n,hasDict:=true,slotNames:=[],subclasses:=sb},#[if bv.isEmpty then none else some<|.ref a,none,some<|.str n t,some<|.str n<|t+8,some<|.builtin nw,some<|.bool true]⟩]++D.2++[hfl (.type "super") [.ref C,.ref C,.ref C],hbf "object.__init_subclass__" (.ref C)]
 |_=>[]
noncomputable def hcs:List (Int×Addr):=[(1,20),(5,27),(7,40),(12,59),(14,71),(16,83),(18,95),(20,107),(23,119),(26,126),(28,133),(35,140),(44,147),(55,154),(64,161),(71,168),(76,175),(87,196),(89,203),(91,210),(98,217),(100,224),(102,231),(108,238),(116,245),(120,252),(129,259),(135,266),(141,273),(147,280),(159,287),(173,294),(176,301),(179,308),(256,439),(258,446),(299,533),(311,540),(317,547),(332,554),(341,559),(352,566),(357,573),(363,580),(368,587),(374,592),(400,597),(404,602),(421,607),(434,614),(442,621),(448,628),(453,633),(456,640),(461,645),(465,652),(467,659),(476,666),(489,673),(496,680)]
noncomputable def hhp(P:Params)(v:Value)(g c:Nat)(l:List Obj):Heap:=⟨⟨boot_o_0 P::boot_o_1 P::boot_o_2 P::kD (kE P "__name__" 165 v::(hen P).take g) (g+1)::boot_o_4 P::boot_o_5 P::boot_o_6 P::boot_o_7 P::boot_o_8 P::boot_o_9 P::boot_o_10 P::htp []::hfl .none ((hcs.take c).flatMap λp=>[.int p.1 0,.int 0 0,.ref p.2])::hco "<module>" "<module>" 182 185 1 0 0 false 11 .none .none .none::hfm 13 3 (.str "__main__" 164)::l⟩,(boot_heap P).life⟩
abbrev hbd:=behindTheImports hpg
abbrev hev:Env:={scope:=hpg.main.scope,locals:=mainNs,globals:=mainNs,cells:=[],code:=.ref 13,frame:=some 14}
abbrev hcd:Code:=.body hbd hev
noncomputable abbrev hSh(t:Nat)(h:Heap)(o:OsState):Shared:=⟨h,⟨[]⟩,boot_drawn,t,o⟩
def hl0(P:Params):List Obj:=hfO 15 187 "" hva (top 0)++hcO P 22 196 hvb [(.type "ValueError")] hem [(.ref 51),(.ref 63),(.ref 75),(.ref 87),(.ref 99),(.ref 111)] "ValueError.__new__" 1 (top 2)++hcO P 35 214 hvb [(.ref 31)] ((.ref 31)::hem) [] "ValueError.__new__" 0 (top 3)++hcO P 54 239 hvb [(.ref 31)] ((.ref 31)::hem) [] "ValueError.__new__" 0 (top 4)++hcO P 66 255 hvb [(.ref 31)] ((.ref 31)::hem) [] "ValueError.__new__" 0 (top 5)++hcO P 78 271 hvb [(.ref 31)] ((.ref 31)::hem) [] "ValueError.__new__" 0 (top 6)++hcO P 90 287 hvb [(.ref 31)] ((.ref 31)::hem) [] "ValueError.__new__" 0 (top 7)++hcO P 102 303 hvb [(.ref 31)] ((.ref 31)::hem) [] "ValueError.__new__" 0 (top 8)
def hl1(P:Params):List Obj:=hl0 P++hfO 114 321 "" hvc (top 10)++hfO 121 330 "" hvd (top 12)++hfO 128 339 "" hvd (top 13)++hfO 135 349 "" hvd (top 14)++hfO 142 361 "" hvd (top 15)++hfO 149 377 "" hvd (top 16)++hfO 156 388 "" hvd (top 17)++hfO 163 396 "" hvd (top 18)++hcO P 170 406 hve [] [(.type "object")] [] "object.__new__" 2 (top 20)++hfO 191 447 "" hve (top 21)++hfO 198 454 "" hve (top 22)++hfO 205 463 "" hve (top 23)++hfO 212 472 "" hve (top 24)++hfO 219 479 "" hve (top 25)++hfO 226 487 "" hve (top 26)++hfO 233 496 "" hve (top 27)++hfO 240 507 "" hve (top 28)++hfO 247 515 "" hve (top 29)++hfO 254 525 "" hve (top 30)++hfO 261 536 "" hve (top 31)++hfO 268 547 "" hve (top 32)++hfO 275 556 "" hve (top 33)++hfO 282 566 "" hve (top 34)
def hl2(P:Params):List Obj:=hl1 P++hfO 289 582 "" hvf (top 37)++hfO 296 591 "" hvf (top 38)++hcO P 303 598 hvf [] [(.type "object")] [] "object.__new__" 2 (top 39)++hfO 436 786 "" hvg (top 41)
def hl3(P:Params):List Obj:=hl2 P++hcO P 441 792 hvg [] [(.type "object")] [] "object.__new__" 2 (top 42)++hfO 528 906 "" hvh (top 44)++hfO 535 918 "" hvh (top 45)++hfO 542 928 "" hvh (top 46)++hfO 549 945 "" hvh (top 47)++hfO 556 956 "" hvh (top 48)++hfO 561 962 "" hvh (top 49)++hfO 568 970 "" hvh (top 50)++hfO 575 981 "" hvh (top 51)++hfO 582 992 "" hvh (top 52)++hfO 589 1002 "" hvh (top 53)++hfO 594 1008 "" hvh (top 54)++hfO 599 1014 "" hvh (top 55)++hfO 604 1020 "" hvh (top 56)++hfO 609 1026 "" hvh (top 57)
def hl4(P:Params):List Obj:=hl3 P++hfO 616 1041 "" hvh (top 58)++hfO 623 1049 "" hvh (top 59)++hfO 630 1060 "" hvh (top 60)++hfO 635 1066 "" hvh (top 61)++hfO 642 1076 "" hvh (top 62)++hfO 647 1082 "" hvh (top 63)++hfO 654 1090 "" hvh (top 64)++hfO 661 1101 "" hvh (top 65)++hfO 668 1116 "" hvh (top 66)++hfO 675 1130 "" hvh (top 67)
theorem hr0(w:World)(o:OsState):topGo treeTable hpg w 11 (some<|.ref 6) 12 (hSh boot_toks (boot_heap w.params) o) (topStub hpg)=some (hSh 187 (hhp w.params (.str "__main__" 164) 8 0 []) o,⟨denote treeTable hcd,hcd,⟨0,0,0,0⟩,[topFrame ⟨0,0,0,0⟩]⟩):=by kernel_rfl
theorem hr1(w:World)(o:OsState):segRun treeTable hpg w 11 (some<|.ref 6) 1 1 (hSh 187 (hhp w.params (.str "__main__" 164) 8 0 []) o) (blockOf hbd hev hcd ⟨0,0,0,0⟩ [topFrame ⟨0,0,0,0⟩])=some (.next,hSh 187 (hhp w.params (.str "__main__" 164) 8 0 []) o,hcd,⟨0,0,0,0⟩):=by kernel_rfl
theorem hs0(w:World)(o:OsState):segRun treeTable hpg w 11 (some<|.ref 6) 1 1535 (hSh 187 (hhp w.params (.str "__main__" 164) 8 0 []) o) (piecesOf (hbd.take 9) hev hcd ⟨0,0,0,0⟩ [topFrame ⟨0,0,0,0⟩])=some (.next,hSh 319 (hhp w.params hvb 16 8<|hl0 w.params) o,hcd,⟨20,0,21,8⟩):=by kernel_rfl
abbrev hb0:=hbd.drop 9
theorem hs1(w:World)(o:OsState):segRun treeTable hpg w 11 (some<|.ref 6) 1 976 (hSh 319 (hhp w.params hvb 16 8<|hl0 w.params) o) (piecesOf (hb0.take 28) hev hcd ⟨20,0,21,8⟩ [topFrame ⟨0,0,0,0⟩])=some (.next,hSh 582 (hhp w.params hvf 40 31<|hl1 w.params) o,hcd,⟨172,0,172,11⟩):=by kernel_rfl
abbrev hb1:=hb0.drop 28
theorem hs2(w:World)(o:OsState):segRun treeTable hpg w 11 (some<|.ref 6) 1 859 (hSh 582 (hhp w.params hvf 40 31<|hl1 w.params) o) (piecesOf (hb1.take 5) hev hcd ⟨172,0,172,11⟩ [topFrame ⟨0,0,0,0⟩])=some (.next,hSh 792 (hhp w.params hvg 44 35<|hl2 w.params) o,hcd,⟨256,0,257,46⟩):=by kernel_rfl
abbrev hb2:=hb1.drop 5
theorem hs3(w:World)(o:OsState):segRun treeTable hpg w 11 (some<|.ref 6) 1 984 (hSh 792 (hhp w.params hvg 44 35<|hl2 w.params) o) (piecesOf (hb2.take 16) hev hcd ⟨256,0,257,46⟩ [topFrame ⟨0,0,0,0⟩])=some (.next,hSh 1041 (hhp w.params hvh 59 50<|hl3 w.params) o,hcd,⟨434,0,441,15⟩):=by kernel_rfl
abbrev hb3:=hb2.drop 16
theorem hs4(w:World)(o:OsState):topRun treeTable hpg w 11 (some<|.ref 6) 323 (hSh 1041 (hhp w.params hvh 59 50<|hl3 w.params) o) (restOf hb3 hev hcd ⟨434,0,441,15⟩ [topFrame ⟨0,0,0,0⟩])=some (hSh 1145 (hhp w.params hvh 69 60<|hl4 w.params) o):=by kernel_rfl
theorem hpa{w:World}{n N t t':Nat}{h h':Heap}{o:OsState}{r:Shared}{b:List Stmt}(m:Nat){p p':Pos}(x:segRun treeTable hpg w 11 (some<|.ref 6) 1 n (hSh t h o) (piecesOf (b.take m) hev hcd p [topFrame ⟨0,0,0,0⟩])=some (.next,hSh t' h' o,hcd,p'))(y:topRun treeTable hpg w 11 (some<|.ref 6) N (hSh t' h' o) (restOf (b.drop m) hev hcd p' [topFrame ⟨0,0,0,0⟩])=some r):topRun treeTable hpg w 11 (some<|.ref 6) (n+N) (hSh t h o) (restOf b hev hcd p [topFrame ⟨0,0,0,0⟩])=some r:=by
 have z:=piece_app x y;rwa[List.take_append_drop] at z
theorem hhr(w:World)(o:OsState):topRun treeTable hpg w 11 (some<|.ref 6) (12+(1+(1535+(976+(859+(984+323)))))) (hSh boot_toks (boot_heap w.params) o) (topStub hpg)=some (hSh 1145 (hhp w.params hvh 69 60<|hl4 w.params) o):=go_top (hr0 w o)<|piece_block (hr1 w o)<|hpa _ (hs0 w o)<|hpa _ (hs1 w o)<|hpa _ (hs2 w o)<|hpa _ (hs3 w o)<|hs4 w o
def hhf(P:Params):Heap:=hhp P hvh 69 60<|hl4 P
theorem hhq(w:World):(λo=>((staticsOk (importedModules hpg.main.body) (boot_heap w.params) (hhf w.params)&&namesBound hpg (hhf w.params)&&gensDone (hSh 1145 (hhf w.params) o)&&laidKept (boot_heap w.params) (hhf w.params)),openSeen qv [] (importedModules hpg.main.body) Xt true<|hSh 1145 (hhf w.params) o,hk.obs<|hSh 1145 (hhf w.params) o))=λ_=>(true,openGood qv [],hk.val w):=by kernel_rfl
theorem hl:LeftO PySem.Challenge.pw_stretchdeeds_k43_what_stretches_come_to qv [] Xt hk.obs hk.val 6000:=LeftO.of_pieces (H₀:=boot_heap) (H₁:=hhf) (boot_open (by kernel_rfl) rfl λ_=>by kernel_rfl) (λ_=>by kernel_rfl) hhr rfl hhq
end G43
end
section
namespace PF
open PySem PySem.Spec PyProof.Rows L2
abbrev St:=L2.St
structure KD where
 d:Addr->List (Key×V)->Prop
 c:Str->Addr
instance:CoeFun KD (λ_=>Addr->List (Key×V)->Prop):=⟨KD.d⟩
inductive D where
 |non|bl (b:Bool)|int (i:Int)|str (x:Str)|tup (ds:List D)|lst (ds:List D)|dct (kvs:List (Key×D))|cl (c:Str)|ob (c:Str) (ns:List Str) (ds:List D)
mutual
inductive Rp(K:zzA)(kd:KD)(O:Addr->Prop)(H:Hp):V->D->Prop
 |non:Rp K kd O H .non .non
 |bl (b:Bool):Rp K kd O H (.bl b) (.bl b)
 |int (i:Int):Rp K kd O H (.int i) (.int i)
 |str (x:Str):Rp K kd O H (.str x) (.str x)
 |tup {a:Addr}{vs:List V}{ds:List D}:¬O a->Rd H a (.tup vs)->RpL K kd O H vs ds->Rp K kd O H (.ref a) (.tup ds)
 |tupK {a:Addr}{o:Obj}{its:Array Value}{n:Nat}{vs:List V}{ds:List D}:K.lookup a=some o->o.cls = .type "tuple"->o.data = .seq its n->its.size<=sizeLine->zP vs its.toList->RpL K kd O H vs ds->Rp K kd O H (.ref a) (.tup ds)
 |lst {a:Addr}{vs:List V}{ds:List D}:¬O a->Rd H a (.lst vs)->RpL K kd O H vs ds->Rp K kd O H (.ref a) (.lst ds)
 |lstK {a:Addr}{its:Array Value}{n:Nat}{vs:List V}{ds:List D}:K.lookup a=some {cls:=.type "list",data:=.seq its n}->its.size<=sizeLine->zP vs its.toList->RpL K kd O H vs ds->Rp K kd O H (.ref a) (.lst ds)
 |dct {a:Addr}{kvs:List (Key×V)}{ds:List (Key×D)}:¬O a->Rd H a (.dK kvs)->RpM K kd O H kvs ds->Rp K kd O H (.ref a) (.dct ds)
 |dctK {a:Addr}{kvs:List (Key×V)}{ds:List (Key×D)}:kd a kvs->RpM K kd O H kvs ds->Rp K kd O H (.ref a) (.dct ds)
 |cl (c:Str):Rp K kd O H (.ref (kd.c c)) (.cl c)
 |ob {a dx:Addr}{c:Str}{ns:List Str}{vs:List V}{ds:List D}:¬O a->H a=some (.ins (kd.c c) dx (ns.zip vs))->ns.length=vs.length->RpL K kd O H vs ds->Rp K kd O H (.ref a) (.ob c ns ds)
inductive RpL(K:zzA)(kd:KD)(O:Addr->Prop)(H:Hp):List V->List D->Prop
 |nil:RpL K kd O H [] []
 |cons {v:V}{d:D}{vs:List V}{ds:List D}:Rp K kd O H v d->RpL K kd O H vs ds->RpL K kd O H (v::vs) (d::ds)
inductive RpM(K:zzA)(kd:KD)(O:Addr->Prop)(H:Hp):List (Key×V)->List (Key×D)->Prop
 |nil:RpM K kd O H [] []
 |cons {k:Key}{v:V}{d:D}{vs:List (Key×V)}{ds:List (Key×D)}:Rp K kd O H v d->RpM K kd O H vs ds->RpM K kd O H ((k,v)::vs) ((k,d)::ds)
end
structure Grow(W:Addr->Prop)(H:Hp)(W':Addr->Prop)(H':Hp):Prop where
 keep:∀b o,H b=some o->¬W b->H' b=some o
 own:∀b,W' b->W b\/H b=none
def Grow.refl:Grow W H W H:=⟨λ_ _ h _=>h,λ_ h=>.inl h⟩
def Grow.trans(a:Grow W H W1 H1)(b:Grow W1 H1 W2 H2):Grow W H W2 H2 where
 keep:=λx o h n=>b.keep x o (a.keep x o h n) λq=>(a.own x q).elim n λz=>by rw[z]at h;cases h
 own:=λx q=>by
  rcases b.own x q with h|h
  . exact a.own x h
  . cases e:H x with
    |none=>exact .inr rfl
    |some o=>
     refine .inl<|Classical.byContradiction λn=>?_;rw[a.keep x o e n]at h;cases h
def Grow.less(h:∀a,W' a->W a):Grow W H W' H:=⟨λ_ _ q _=>q,λb q=>.inl<|h b q⟩
abbrev XW(F W:Addr->Prop):Addr->Prop:=λa=>F a\/W a
section
variable{K:zzA}{kd:KD}{F W W':Addr->Prop}{H H':Hp}
def Wu(g:Grow W H W' H')(n:¬W a)(h:Rd H a u):Rd H' a u:=by
 rcases h with h|⟨o,h⟩
 . exact .inl<|g.keep _ _ h n
 . exact .inr ⟨o,g.keep _ _ h n⟩
def Iu(h:Rd H a u):H a≠none:=by
 rcases h with h|⟨o,h⟩<;>(rw[h];simp)
def VC(g:Grow W H W' H')(n:¬XW F W a)(h:Rd H a u):¬XW F W' a:=λq=>
 q.elim (λz=>n<|.inl z) λz=>(g.own a z).elim (λy=>n<|.inr y) λy=>Iu h y
def Rp.grow(g:Grow W H W' H')(h:Rp K kd (XW F W) H v d):Rp K kd (XW F W') H' v d:=
 Rp.rec .non .bl .int .str (λn h _ r=>.tup (VC g n h) (Wu g (λz=>n<|.inr z) h) r) (λa b c e f _ r=>.tupK a b c e f r) (λn h _ r=>.lst (VC g n h) (Wu g (λz=>n<|.inr z) h) r) (λa e f _ r=>.lstK a e f r) (λn h _ r=>.dct (VC g n h) (Wu g (λz=>n<|.inr z) h) r) (λh _ r=>.dctK h r) .cl (λn h l _ r=>.ob (VC g n<|.inl h) (g.keep _ _ h λz=>n<|.inr z) l r) .nil (λ_ _ h r=>.cons h r) .nil (λ_ _ h r=>.cons h r) h
def RpL.ind{P:List V->List D->Prop}(h0:P [] [])(h1:∀{v d vs ds},Rp K kd O H v d->RpL K kd O H vs ds->P vs ds->P (v::vs) (d::ds))(h:RpL K kd O H vs ds):P vs ds:=
 RpL.rec (motive_1:=λ_ _ _=>True) (motive_3:=λ_ _ _=>True) ⋯ ⋯ ⋯ ⋯ (λ_ _ _ _=>⋯) (λ_ _ _ _ _ _ _=>⋯) (λ_ _ _ _=>⋯) (λ_ _ _ _ _=>⋯) (λ_ _ _ _=>⋯) (λ_ _ _=>⋯) ⋯ (λ_ _ _ _ _=>⋯) h0 (λa r _ ih=>h1 a r ih) ⋯ (λ_ _ _ _=>⋯) h
def RpM.ind{P:List (Key×V)->List (Key×D)->Prop}(h0:P [] [])(h1:∀{k v d vs ds},Rp K kd O H v d->RpM K kd O H vs ds->P vs ds->P ((k,v)::vs) ((k,d)::ds))(h:RpM K kd O H vs ds):P vs ds:=
 RpM.rec (motive_1:=λ_ _ _=>True) (motive_2:=λ_ _ _=>True) ⋯ ⋯ ⋯ ⋯ (λ_ _ _ _=>⋯) (λ_ _ _ _ _ _ _=>⋯) (λ_ _ _ _=>⋯) (λ_ _ _ _ _=>⋯) (λ_ _ _ _=>⋯) (λ_ _ _=>⋯) ⋯ (λ_ _ _ _ _=>⋯) ⋯ (λ_ _ _ _=>⋯) h0 (λa r _ ih=>h1 a r ih) h
theorem RpL.grow(g:Grow W H W' H'){vs:List V}(h:RpL K kd (XW F W) H vs ds):RpL K kd (XW F W') H' vs ds:=RpL.ind .nil (λa _ r=>.cons (Rp.grow g a) r) h
theorem RpM.grow(g:Grow W H W' H'){vs:List (Key×V)}(h:RpM K kd (XW F W) H vs ds):RpM K kd (XW F W') H' vs ds:=RpM.ind .nil (λa _ r=>.cons (Rp.grow g a) r) h
def Rp.less(g:∀a,O' a->O a)(h:Rp K kd O H v d):Rp K kd O' H v d:=
 Rp.rec .non .bl .int .str (λn h _ r=>.tup (λz=>n<|g _ z) h r) (λa b c e f _ r=>.tupK a b c e f r) (λn h _ r=>.lst (λz=>n<|g _ z) h r) (λa e f _ r=>.lstK a e f r) (λn h _ r=>.dct (λz=>n<|g _ z) h r) (λh _ r=>.dctK h r) .cl (λn h l _ r=>.ob (λz=>n<|g _ z) h l r) .nil (λ_ _ h r=>.cons h r) .nil (λ_ _ h r=>.cons h r) h
theorem RpL.less{O O':Addr->Prop}(g:∀a,O' a->O a)(h:RpL K kd O H vs ds):RpL K kd O' H vs ds:=RpL.ind .nil (λa _ r=>.cons (Rp.less g a) r) h
theorem RpM.less{O O':Addr->Prop}(g:∀a,O' a->O a)(h:RpM K kd O H vs ds):RpM K kd O' H vs ds:=RpM.ind .nil (λa _ r=>.cons (Rp.less g a) r) h
theorem RpL.length{O:Addr->Prop}(h:RpL K kd O H vs ds):vs.length=ds.length:=RpL.ind (P:=λa b=>a.length=b.length) rfl (λ_ _ r=>congrArg _ r) h
theorem RpM.length{O:Addr->Prop}(h:RpM K kd O H vs ds):vs.length=ds.length:=RpM.ind (P:=λa b=>a.length=b.length) rfl (λ_ _ r=>congrArg _ r) h
def RpL.get{vs:List V}{i:Nat}(h:RpL K kd O H vs ds)(e:ds[i]? = some d):∃v,vs[i]? = some v/\Rp K kd O H v d:=
 RpL.ind (P:=λb c=>∀i,c[i]? = some d->∃v,b[i]? = some v/\Rp K kd O H v d) (λi e=>by cases e) (λa _ f i e=>by
  cases i with
  |zero=>cases e;exact⟨_,rfl,a⟩
  |succ i=>exact f i e) h i e
def RpL.append{O:Addr->Prop}(h:RpL K kd O H vs ds)(r:RpL K kd O H ws es):RpL K kd O H (vs++ws) (ds++es):=RpL.ind (P:=λb c=>RpL K kd O H (b++ws)<|c++es) r (λa _ t=>.cons a t) h
theorem RpL.take{O:Addr->Prop}(n:Nat)(h:RpL K kd O H vs ds):RpL K kd O H (vs.take n) (ds.take n):=
 RpL.ind (P:=λb c=>∀n,RpL K kd O H (b.take n)<|c.take n) (λn=>by rw[List.take_nil,List.take_nil];exact .nil) (λa _ d n=>by
  cases n with
  |zero=>exact .nil
  |succ n=>exact .cons a (d n)) h n
theorem RpL.drop{O:Addr->Prop}(n:Nat)(h:RpL K kd O H vs ds):RpL K kd O H (vs.drop n) (ds.drop n):=
 RpL.ind (P:=λc d=>∀n,RpL K kd O H (c.drop n)<|d.drop n) (λn=>by rw[List.drop_nil,List.drop_nil];exact .nil) (λa b e n=>by
  cases n with
  |zero=>exact .cons a b
  |succ n=>exact e n) h n
theorem RpL.rep(h:RpL K kd O H vs ds):∀k:Nat,RpL K kd O H (List.replicate k vs).flatten (List.replicate k ds).flatten
 |0=>.nil
 |k+1=>h.append<|RpL.rep h k
end
inductive Vw(K:zzA)(kd:KD)(O:Addr->Prop)(H:Hp):V->D->Prop
 |non:Vw K kd O H .non .non
 |bl (b:Bool):Vw K kd O H (.bl b) (.bl b)
 |int (i:Int):Vw K kd O H (.int i) (.int i)
 |str (x:Str):Vw K kd O H (.str x) (.str x)
 |tup {a:Addr}{vs:List V}{ds:List D}:Rp K kd O H (.ref a) (.tup ds)->Vu K H a vs->RpL K kd O H vs ds->Vw K kd O H (.ref a) (.tup ds)
 |lst {a:Addr}{vs:List V}{ds:List D}:Ck K H a vs->RpL K kd O H vs ds->Vw K kd O H (.ref a) (.lst ds)
 |dct {a:Addr}{kvs:List (Key×V)}{ds:List (Key×D)}:(Rd H a (.dK kvs)\/kd a kvs)->RpM K kd O H kvs ds->Vw K kd O H (.ref a) (.dct ds)
 |cl (c:Str):Vw K kd O H (.ref (kd.c c)) (.cl c)
 |ob {a dx:Addr}{c:Str}{ns:List Str}{vs:List V}{ds:List D}:H a=some (.ins (kd.c c) dx (ns.zip vs))->ns.length=vs.length->RpL K kd O H vs ds->Vw K kd O H (.ref a) (.ob c ns ds)
def Rp.vw{K}(h:Rp K kd O H v d):Vw K kd O H v d:=by
 cases h with
 |non=>exact .non
 |bl b=>exact .bl b
 |int i=>exact .int i
 |str x=>exact .str x
 |tup n h r=>exact .tup (.tup n h r) (.inl h) r
 |tupK a b c e f r=>exact .tup (.tupK a b c e f r) (.inr ⟨_,_,_,a,b,c,e,f⟩) r
 |lst n h r=>exact .lst (.inl h) r
 |lstK a e f r=>exact .lst (.inr ⟨_,_,a,e,f⟩) r
 |dct n h r=>exact .dct (.inl h) r
 |dctK h r=>exact .dct (.inr h) r
 |cl c=>exact .cl c
 |ob n h l r=>exact .ob h l r
def _root_.L2.Ck.sq{K}(h:Ck K H a xs):Yy K H a xs:=by
 rcases h with h|⟨b,n,k,z,r⟩
 . exact .inl h
 . exact .inr ⟨_,b,n,k,rfl,rfl,rfl,z,r⟩
def EK(I:Inv X pins σ H s)(h:Ck X.K H a xs):
 xs.length<=sizeLine/\∃(its:List Value) (n:Nat),zP xs its/\s.heap.get? a=some {cls:=.type "list",data:=.seq its.toArray n}:=by
 rcases h with h|⟨b,n,k,z,r⟩
 . exact h.ok I.hok
 . refine⟨by rw[r.length];simpa using z,b.toList,n,r,by simpa using I.kIn _ _ k⟩
def Rp.cl_eq{K}(h:Rp K kd O H (.ref C) (.cl c)):C=kd.c c:=by
 cases h;rfl
noncomputable def zv:D->Bool
 | .non=>true | .bl _=>true | .int _=>true | .str _=>true|_=>false
def Rp.flat{K}(h:Rp K kd O H v d)(e:zv d=true):Rp K kd O' H' v d:=by
 cases h with
 |non=>exact .non
 |bl b=>exact .bl b
 |int i=>exact .int i
 |str x=>exact .str x
 |_=>cases e
inductive Kind where
 |ls|tp|dc (ks:List Key)|ob (c:Str) (ns:List Str)
inductive O where
 |lf (st:Bool) (d:D)|nd (k:Kind) (os:List O)
abbrev SG(st:Bool)(d:D):O:=.lf (zv d||st) d
mutual
inductive Ro(L:Bool->V->D->Prop)(N:Addr->Prop)(H:Hp):V->O->List Addr->Prop
 |lf {st:Bool}{v:V}{d:D}:L st v d->Ro L N H v (.lf st d) []
 |ls {a:Addr}{vs:List V}{os:List O}{fp:List Addr}:H a=some (.lst vs)->RoL L N H vs os fp->Ro L N H (.ref a) (.nd .ls os) (a::fp)
 |dc {a:Addr}{ks:List Key}{vs:List V}{os:List O}{fp:List Addr}:H a=some (.dK (ks.zip vs))->ks.length=vs.length->RoL L N H vs os fp->Ro L N H (.ref a) (.nd (.dc ks) os) (a::fp)
 |ob {a dx C:Addr}{c:Str}{ns:List Str}{vs:List V}{os:List O}{fp:List Addr}:L true (.ref C) (.cl c)->H a=some (.ins C dx (ns.zip vs))->ns.length=vs.length->RoL L N H vs os fp->Ro L N H (.ref a) (.nd (.ob c ns) os) (a::fp)
 |tp {a:Addr}{vs:List V}{os:List O}{fp:List Addr}:N a->H a=some (.tup vs)->RoL L N H vs os fp->Ro L N H (.ref a) (.nd .tp os) fp
inductive RoL(L:Bool->V->D->Prop)(N:Addr->Prop)(H:Hp):List V->List O->List Addr->Prop
 |nil:RoL L N H [] [] []
 |cons {v:V}{o:O}{vs:List V}{os:List O}{fp fq:List Addr}:Ro L N H v o fp->RoL L N H vs os fq->RoL L N H (v::vs) (o::os) (fp++fq)
end
mutual
def O.toD:O->D
 | .lf _ d=>d
 | .nd .ls os=>.lst<|O.toDs os
 | .nd .tp os=>.tup<|O.toDs os
 | .nd (.dc ks) os=>.dct<|ks.zip<|O.toDs os
 | .nd (.ob c ns) os=>.ob c ns<|O.toDs os
def O.toDs:List O->List D
 | []=>[]
 |o::r=>o.toD::O.toDs r
end
mutual
def O.str:O->Bool
 | .lf st _=>st
 | .nd _ os=>O.strs os
def O.strs:List O->Bool
 | []=>true
 |o::r=>o.str&&O.strs r
end
section
variable{L L':Bool->V->D->Prop}{N N':Addr->Prop}{H H':Hp}{K:zzA}{kd:KD}{Ob:Addr->Prop}
def Ro.mono(hL:∀st v d,L st v d->L' st v d)(hN:∀a vs,N a->H a=some (.tup vs)->N' a/\H' a=some (.tup vs))(k:∀a ∈ fp,∀u,H a=some u->H' a=some u)(h:Ro L N H v o fp):Ro L' N' H' v o fp:=
 Ro.rec (motive_2:=λvs os fp _=>_->RoL L' N' H' vs os fp)
  (λh _=>.lf<|hL _ _ _ h) (λh _ r k=>.ls (k _ zzF _ h)<|r λa m=>k a<|zzD _ m) (λh l _ r k=>.dc (k _ zzF _ h) l<|r λa m=>k a<|zzD _ m) (λc h l _ r k=>.ob (hL _ _ _ c) (k _ zzF _ h) l<|r λa m=>k a<|zzD _ m) (λn h _ r k=>.tp (hN _ _ n h).1 (hN _ _ n h).2<|r k)
  (λ_=>.nil) (λ_ _ h r k=>.cons (h λa m=>k a<|zzP _ m)<|r λa m=>k a<|zzL _ m) h k
def RoL.ind{P:List V->List O->List Addr->Prop}(h0:P [] [] [])(h1:∀{v o vs os fp fq},Ro L N H v o fp->RoL L N H vs os fq->P vs os fq->P (v::vs) (o::os) (fp++fq)){os}(h:RoL L N H vs os fp):P vs os fp:=
 RoL.rec (motive_1:=λ_ _ _ _=>True) (λ_=>⋯) (λ_ _ _=>⋯) (λ_ _ _ _=>⋯) (λ_ _ _ _ _=>⋯) (λ_ _ _ _=>⋯) h0 (λa r _ ih=>h1 a r ih) h
theorem RoL.mono(hL:∀st v d,L st v d->L' st v d)(hN:∀a vs,N a->H a=some (.tup vs)->N' a/\H' a=some (.tup vs)){vs:List V}{os}(k:∀a ∈ fp,∀u,H a=some u->H' a=some u)(h:RoL L N H vs os fp):RoL L' N' H' vs os fp:=
 RoL.ind (P:=λc e b=>(∀a ∈ b,∀u,H a=some u->H' a=some u)->RoL L' N' H' c e b) (λ_=>.nil) (λh _ r k=>.cons (Ro.mono hL hN (λa m=>k a<|zzP _ m) h)<|r λa m=>k a<|zzL _ m) h k
theorem RD:∀{ks:List Key}{vs:List V}{ds:List D},RpL K kd Ob H vs ds->ks.length=vs.length->RpM K kd Ob H (ks.zip vs) (ks.zip ds)
 | [],_,_,_,_=>.nil
 |_::_,_,_,.nil,e=>by simp at e
 |_::_,_,_,.cons h r,e=>.cons h (RD r<|by simpa using e)
def Ro.rp(b)(hL:∀st v d,(b=true->st=true)->L st v d->Rp K kd Ob H v d)(hN:∀a,N a->¬Ob a){v}(s:b=true->o.str=true)(k:∀a ∈ fp,¬Ob a)(h:Ro L N H v o fp):Rp K kd Ob H v o.toD:=
 Ro.rec (motive_2:=λi g f _=>_->_->RpL K kd Ob H i _)
  (λh s _=>hL _ _ _ s h) (λh _ r s k=>.lst (k _ zzF) (.inl h)<|r s λa m=>k a<|zzD _ m) (λh l _ r s k=>.dct (k _ zzF) (.inl h)<|RD (r s λa m=>k a<|zzD _ m) l) (λc h l _ r s k=>by
   have e:=(hL _ _ _ (λ_=>rfl) c).cl_eq;subst e;exact .ob (k _ zzF) h l<|r s λa m=>k a<|zzD _ m) (λn h _ r s k=>.tup (hN _ n) (.inl h)<|r s k)
  (λ_ _=>.nil) (λ_ _ h r s k=>.cons (h (λz=>((zyC _ _).mp<|s z).1) λa m=>k a<|zzP _ m)<|r (λz=>((zyC _ _).mp<|s z).2) λa m=>k a<|zzL _ m) h s k
theorem RoL.rp(b:Bool)(hL:∀st v d,(b=true->st=true)->L st v d->Rp K kd Ob H v d)(hN:∀a,N a->¬Ob a){os}(s:b=true->O.strs os=true)(k:∀a ∈ fp,¬Ob a)(h:RoL L N H vs os fp):RpL K kd Ob H vs (O.toDs os):=
 RoL.ind (P:=λe c f=>(b=true->O.strs c=true)->(∀a ∈ f,¬Ob a)->RpL K kd Ob H e (O.toDs c)) (λ_ _=>.nil) (λh _ r s k=>.cons (Ro.rp b hL hN (λz=>((zyC _ _).mp<|s z).1) (λa m=>k a<|zzP _ m) h)<|r (λz=>((zyC _ _).mp<|s z).2) λa m=>k a<|zzL _ m) h s k
theorem RoL.length{vs:List V}{os}(h:RoL L N H vs os fp):vs.length=os.length:=RoL.ind (P:=λa b _=>a.length=b.length) rfl (λ_ _ r=>congrArg _ r) h
theorem Yc:∀os:List O,(O.toDs os).length=os.length
 | []=>rfl
 |_::r=>congrArg _<|Yc r
def RoL.append{vs ws:List V}{os ps}(h:RoL L N H vs os f)(r:RoL L N H ws ps g):RoL L N H (vs++ws) (os++ps) (f++g):=RoL.ind (P:=λa b f=>RoL L N H (a++ws) (b++ps)<|f++g) r (λh _ t=>by rw[zxA];exact .cons h t) h
def RoL.one(h:Ro L N H v o f):RoL L N H [v] [o] f:=by
 have:=RoL.cons h<|RoL.nil
 rwa [zyE]at this
def RoL.part(k:Nat):∀{vs:List V}{os:List O}{fp:List Addr},RoL L N H vs os fp->∃f g,fp=f++g/\RoL L N H (vs.take k) (os.take k) f/\RoL L N H (vs.drop k) (os.drop k) g:=by
 induction k with
 |zero=>intro b c a h;exact⟨[],a,rfl,.nil,h⟩
 |succ k d=>
  intro b c a h;cases h with
  |nil=>exact⟨[],[],rfl,.nil,.nil⟩
  |cons h r=>
   obtain⟨f,g,rfl,e,i⟩:=d r;exact⟨_,g,(zxA _ _ _).symm,.cons h e,i⟩
end
abbrev AS:=List<|Option O
abbrev Ad:=Nat->List Addr
def Gw(T:List Addr)(ad:Ad):Addr->Prop:=λa=>a ∈ T\/∃i,a ∈ ad i
abbrev Lv(F B G:Addr->Prop)(st:Bool):Addr->Prop:=XW (λa=>(st=true/\F a)\/B a) G
abbrev Lf(K:zzA)(kd:KD)(F B G:Addr->Prop)(H:Hp):Bool->V->D->Prop:=λst v d=>Rp K kd (Lv F B G st) H v d
abbrev Nf(F B G:Addr->Prop):Addr->Prop:=λa=>¬Lv F B G true a
abbrev w_(K:zzA)(kd:KD)(F B G:Addr->Prop)(H:Hp):V->O->List Addr->Prop:=Ro (Lf K kd F B G H) (Nf F B G) H
abbrev vI(K:zzA)(kd:KD)(F B G:Addr->Prop)(H:Hp):List V->List O->List Addr->Prop:=RoL (Lf K kd F B G H) (Nf F B G) H
def Po(K:zzA)(kd:KD)(F B G:Addr->Prop)(H:Hp):Option O->Option (Option V)->List Addr->Prop
 |none,_,fp=>fp=[]
 |some o,s,fp=>∃v,s=some (some v)/\w_ K kd F B G H v o fp
structure Rel(K:zzA)(kd:KD)(F B:Addr->Prop)(T:List Addr)(ad:Ad)(as:AS)(σ:St)(H:Hp):Prop where
 len:as.length=σ.length
 out:∀i,as.length<=i->ad i=[]
 nd:∀i,(ad i).Nodup
 inj:∀i j a,a ∈ ad i->a ∈ ad j->i=j
 tnd:T.Nodup
 dis:∀i a,a ∈ ad i->a ∉ T
 ftr:∀a,F a->H a≠none
 btr:∀a,B a->H a≠none/\¬F a/\¬Gw T ad a
 gtr:∀a,Gw T ad a->H a≠none/\¬F a
 sl:∀i s,as[i]? = some s->Po K kd F B (Gw T ad) H s σ[i]? (ad i)
inductive RV where
 |ow (o:O)|bo (i:Nat)
def xf(K:zzA)(kd:KD)(F B:Addr->Prop)(T:List Addr)(ad:Ad)(σ:St)(H:Hp)(v:V):RV->Prop
 | .ow o=>w_ K kd F B (Gw T ad) H v o T
 | .bo i=>T=[]/\σ[i]? = some (some v)
noncomputable def O.frz(o:O):O:=.lf o.str o.toD
noncomputable def RV.frz:RV->RV
 | .ow o=>.ow o.frz
 | .bo i=>.bo i
noncomputable def O.isLf:O->Bool
 | .lf _ _=>true
 |_=>false
def O.kl:O->Option Bool
 | .lf st _=>some st
 | .nd _ os=>if os.all O.isLf=true then some (O.strs os)else none
noncomputable def RV.view(as:AS):RV->Option (D×Option Bool)
 | .ow o=>some (o.toD,some o.str)
 | .bo i=>match as[i]? with
  |some (some o)=>some (o.toD,o.kl)
  |_=>none
def Uk(F B G:Addr->Prop):Option Bool->Addr->Prop
 |some st=>Lv F B G st
 |none=>λ_=>False
section
variable{K:zzA}{kd:KD}{F B F' B':Addr->Prop}{G G':Addr->Prop}{T T':List Addr}{ad ad1:Ad}{as as1:AS}{σ:St}{H H1 H':Hp}{v:V}{r:RV}{o:O}{fp:List Addr}{vs:List V}{os:List O}
theorem w_.grow(g:Grow G H G' H')(k:∀a ∈ fp,∀u,H a=some u->H' a=some u)(h:w_ K kd F B G H v o fp):w_ K kd F B G' H' v o fp:=
 Ro.mono (λst v d r=>Rp.grow g r) (λa vs n e=>⟨λz=>z.elim (λy=>n<|.inl y) λy=>(g.own a y).elim (λw=>n<|.inr w) λw=>(by rw[w]at e;cases e),g.keep a _ e λw=>n<|.inr w⟩) k h
theorem vI.grow(g:Grow G H G' H')(k:∀a ∈ fp,∀u,H a=some u->H' a=some u)(h:vI K kd F B G H vs os fp):vI K kd F B G' H' vs os fp:=
 RoL.mono (λst v d r=>Rp.grow g r) (λa vs n e=>⟨λz=>z.elim (λy=>n<|.inl y) λy=>(g.own a y).elim (λw=>n<|.inr w) λw=>(by rw[w]at e;cases e),g.keep a _ e λw=>n<|.inr w⟩) k h
def w_.lv(g:∀st a,Lv F' B' G' st a->Lv F B G st a)(h:w_ K kd F B G H v o fp):w_ K kd F' B' G' H v o fp:=
 Ro.mono (λst v d r=>r.less<|g st) (λa vs n e=>⟨λz=>n<|g true a z,e⟩) (λ_ _ _ e=>e) h
def vI.lv(g:∀st a,Lv F' B' G' st a->Lv F B G st a)(h:vI K kd F B G H vs os fp):vI K kd F' B' G' H vs os fp:=
 RoL.mono (λst v d r=>r.less<|g st) (λa vs n e=>⟨λz=>n<|g true a z,e⟩) (λ_ _ _ e=>e) h
def w_.less(g:∀a,G' a->G a)(h:w_ K kd F B G H v o fp):w_ K kd F B G' H v o fp:=w_.lv (λ_ a z=>z.elim .inl λy=>.inr<|g a y) h
def Gw.drop:∀a,Gw [] ad a->Gw T ad a:=λ_ h=>h.elim ⋯ .inr
def Rel.trk(R:Rel K kd F B T ad as σ H)(st):∀a,Lv F B (Gw T ad) st a->H a≠none:=λa h=>by
 rcases h with(h|h)|h
 . exact R.ftr a h.2
 . exact(R.btr a h).1
 . exact(R.gtr a h).1
def Rel.tr(R:Rel K kd F B T ad as σ H)(lv):∀a,Uk F B (Gw T ad) lv a->H a≠none:=λa h=>by
 cases lv with
 |none=>exact h.elim
 |some st=>exact R.trk st a h
theorem Po.lv(g:∀st a,Lv F' B' G' st a->Lv F B G st a)(h:Po K kd F B G H s x fp):Po K kd F' B' G' H s x fp:=by
 cases s with
 |none=>exact h
 |some o=>obtain⟨v,e,r⟩:=h;exact⟨v,e,w_.lv g r⟩
def Po.less(g:∀a,G' a->G a)(h:Po K kd F B G H s x fp):Po K kd F B G' H s x fp:=h.lv λ_ a z=>z.elim .inl λy=>.inr<|g a y
theorem Po.grow(g:Grow G H G' H')(k:∀a ∈ fp,∀u,H a=some u->H' a=some u)(h:Po K kd F B G H s x fp):Po K kd F B G' H' s x fp:=by
 cases s with
 |none=>exact h
 |some o=>obtain⟨v,e,r⟩:=h;exact⟨v,e,w_.grow g k r⟩
theorem Rel.drop(R:Rel K kd F B T ad as σ H):Rel K kd F B [] ad as σ H where
 len:=R.len
 out:=R.out
 nd:=R.nd
 inj:=R.inj
 tnd:=zyJ
 dis:=λ_ _ _ z=>nomatch z
 ftr:=R.ftr
 btr:=λa h=>let⟨h1,h2,h3⟩:=R.btr a h;⟨h1,h2,λz=>h3<|Gw.drop a z⟩
 gtr:=λa h=>R.gtr a (Gw.drop a h)
 sl:=λi s e=>(R.sl i s e).less Gw.drop
def E8(R:Rel K kd F B T ad as σ H)(h:w_ K kd F B (Gw T ad) H v o T):Rp K kd (Lv F B (Gw [] ad) o.str) H v o.toD:=
 Ro.rp o.str (λst v d hs r=>r.less λa z=>z.elim (λy=>.inl<|y.elim (λx=>.inl ⟨hs x.1,x.2⟩) .inr) λy=>.inr<|Gw.drop a y)
  (λa n z=>n<|z.elim (λy=>.inl<|y.elim (λx=>.inl ⟨rfl,x.2⟩) .inr) λy=>.inr<|Gw.drop a y) id
  (λa m z=>by
   rcases z with(z|z)|z|⟨i,z⟩
   . exact(R.gtr a<|.inl m).2 z.2
   . exact(R.btr a z).2.2<|.inl m
   . cases z
   . exact R.dis i a z m) h
def xf.drop(R:Rel K kd F B T ad as σ H)(h:xf K kd F B T ad σ H v r):xf K kd F B [] ad σ H v r.frz:=by
 cases r with
 |ow o=>exact .lf (E8 R h)
 |bo i=>exact⟨rfl,h.2⟩
theorem xf.grow(g:Grow (Gw [] ad) H (Gw [] ad1) H1)(h:xf K kd F B [] ad σ H v r):xf K kd F B [] ad1 σ H1 v r:=by
 cases r with
 |ow o=>exact w_.grow g ⋯ h
 |bo i=>exact h
def HL(h:vI K kd F B G H vs os fp):os.all O.isLf=true->fp=[]:=
 RoL.ind (P:=λ_ os fp=>os.all O.isLf=true->fp=[]) ⋯ (λh _ ih e=>by
  rw[List.all_cons,zyC]at e;rw[ih e.2];cases h with
  |lf=>rfl
  |ls=>cases e.1
  |dc=>cases e.1
  |ob=>cases e.1
  |tp=>cases e.1) h
def VZ{st}(hs:b=true->st=true):∀a,Lv F B G b a->Lv F B G st a:=λa z=>z.elim (λy=>.inl<|y.elim (λx=>.inl ⟨hs x.1,x.2⟩) .inr) .inr
def QA(h:vI K kd F B G H vs os fp)(e:os.all O.isLf=true):RpL K kd (Lv F B G<|O.strs os) H vs (O.toDs os):=by
 have:=HL h e;subst this;exact RoL.rp _ (λst v d hs r=>r.less<|VZ hs) (λa n z=>n<|VZ ⋯ a z) id ⋯ h
def VU(h:vI K kd F B G H vs os fp):RpL K kd (λ_=>False) H vs (O.toDs os):=RoL.rp false (λst v d _ r=>r.less λ_ z=>z.elim) (λ_ _ z=>z) ⋯ (λ_ _ z=>z) h
def Q5(h:w_ K kd F B G H v o fp):Rp K kd (λ_=>False) H v o.toD:=Ro.rp false (λst v d _ r=>r.less λ_ z=>z.elim) (λ_ _ z=>z) ⋯ (λ_ _ z=>z) h
def QV(h:w_ K kd F B G H v o []):Rp K kd (Lv F B G o.str) H v o.toD:=
 Ro.rp o.str (λst v d hs r=>r.less<|VZ hs) (λa n z=>n<|VZ ⋯ a z) id ⋯ h
theorem w_.vw(h:w_ K kd F B G H v o fp):Vw K kd (Uk F B G o.kl) H v o.toD:=by
 cases h with
 |lf h=>exact h.vw
 |ls hH r=>
  rename_i a vs' os' fp';show Vw K kd (Uk F B G (if os'.all O.isLf=true then some _ else none)) H _ _
  by_cases e:os'.all O.isLf=true
  . rw[if_pos e];exact .lst (.inl<|.inl hH)<|QA r e
  . rw[if_neg e];exact .lst (.inl<|.inl hH) (VU r)
 |dc hH l r=>
  rename_i a ks vs' os' fp';show Vw K kd (Uk F B G (if os'.all O.isLf=true then some _ else none)) H _ _
  by_cases e:os'.all O.isLf=true
  . rw[if_pos e];exact .dct (.inl<|.inl hH)<|RD (QA r e) l
  . rw[if_neg e];exact .dct (.inl<|.inl hH) (RD (VU r) l)
 |ob hc hH l r=>
  rename_i a dx C c ns vs' os' fp';have ec:=hc.cl_eq;subst ec;show Vw K kd (Uk F B G (if os'.all O.isLf=true then some _ else none)) H _ _
  by_cases e:os'.all O.isLf=true
  . rw[if_pos e];exact .ob hH l<|QA r e
  . rw[if_neg e];exact .ob hH l (VU r)
 |tp n hH r=>
  rename_i a vs' os';show Vw K kd (Uk F B G (if os'.all O.isLf=true then some _ else none)) H _ _
  by_cases e:os'.all O.isLf=true
  . rw[if_pos e];have rl:=QA r e;exact .tup (.tup (λz=>n<|VZ (λ_=>rfl) _ z) (.inl hH) rl) (.inl<|.inl hH) rl
  . rw[if_neg e];exact .tup (.tup (λz=>z) (.inl hH)<|VU r) (.inl<|.inl hH)<|VU r
theorem xf.vw(R:Rel K kd F B [] ad as σ H)(h:xf K kd F B [] ad σ H v r)(e:r.view as=some (d,lv)):Vw K kd (Uk F B (Gw [] ad) lv) H v d:=by
 cases r with
 |ow o=>
  cases e;exact(QV h).vw
 |bo i=>
  have e:(match as[i]? with|some (some o)=>some _|_=>none)=some _:=e;cases k:as[i]? with
  |none=>rw[k]at e;cases e
  |some s=>
   cases s with
   |none=>rw[k]at e;cases e
   |some o=>
    rw[k]at e;cases e;obtain⟨w,hw,ro⟩:=R.sl i _ k;rw[h.2]at hw;cases hw;exact ro.vw
def Rel.add(R:Rel K kd F B T ad as σ H)(hn:N.Nodup)(hl:∀a ∈ N,H a=none)(k:∀b u,H b=some u->H' b=some u)(h1:∀a ∈ N,H' a≠none):Rel K kd F B (N++T) ad as σ H'/\Grow (Gw T ad) H (Gw (N++T) ad) H':=by
 have g:Grow (Gw T ad) H (Gw _ ad) H':=⟨λb u h _=>k b u h,λb h=>by
  rcases h with h|h
  . rcases zzM.mp h with h|h
    . exact .inr<|hl b h
    . exact .inl<|.inl h
  . exact .inl<|.inr h⟩
 have kn:∀a,H a≠none->H' a≠none:=λa z=>by
  cases e:H a with
  |none=>exact absurd e z
  |some u=>rw[k a u e];simp
 refine⟨⟨R.len,R.out,R.nd,R.inj, ?_,λi a m z=>?_,λa z=>kn a<|R.ftr a z,λa z=>?_,λa z=>?_,λi s e=>(R.sl i s e).grow g λa _ u h=>k a u h⟩,g⟩
 . refine zxC.mpr ⟨hn,R.tnd,λa m b m' e=>?_⟩;subst e;exact(R.gtr a<|.inl m').1<|hl a m
 . rcases zzM.mp z with z|z
   . exact(R.gtr a<|.inr ⟨i,m⟩).1<|hl a z
   . exact R.dis i a m z
 . obtain⟨b1,b2,b3⟩:=R.btr a z;refine⟨kn a b1,b2,λy=>?_⟩
   rcases y with y|y
   . rcases zzM.mp y with y|y
     . exact b1<|hl a y
     . exact b3<|.inl y
   . exact b3<|.inr y
 . rcases z with z|z
   . rcases zzM.mp z with z|z
     . exact⟨h1 a z,λf=>R.ftr a f<|hl a z⟩
     . exact⟨kn a (R.gtr a<|.inl z).1,(R.gtr a<|.inl z).2⟩
   . exact⟨kn a (R.gtr a<|.inr z).1,(R.gtr a<|.inr z).2⟩
def Rel.more(R:Rel K kd F B T ad as σ H)(k:∀b u,H b=some u->H' b=some u):Rel K kd F B T ad as σ H'/\Grow (Gw T ad) H (Gw T ad) H':=
 R.add zyJ ⋯ k ⋯
def Rel.news(R:Rel K kd F B [] ad as σ H)(hn:T'.Nodup)(hl:∀a ∈ T',H a=none)(k:∀b u,H b=some u->H' b=some u)(h1:∀a ∈ T',H' a≠none):Rel K kd F B T' ad as σ H'/\Grow (Gw [] ad) H (Gw T' ad) H':=by
 have:=R.add hn hl k h1
 rwa [zyE]at this
end
inductive R0 where
 |im (d:D)|fl (ds:List D)|fd (kvs:List (Key×D))
def RQ(K:zzA)(kd:KD)(O:Addr->Prop)(H:Hp)(Q:VK):R0->Prop
 | .im d=>∀v H',(∀b o,H b=some o->H' b=some o)->Rp K kd O H' v d->Q v H'
 | .fl ds=>∀l vs H',H l=none->(∀b o,H b=some o->H' b=some o)->H' l=some (.lst vs)->RpL K kd (XW O (· = l)) H' vs ds->Q (.ref l) H'
 | .fd ds=>∀l vs H',H l=none->(∀b o,H b=some o->H' b=some o)->H' l=some (.dK vs)->RpM K kd (XW O (· = l)) H' vs ds->Q (.ref l) H'
def wrap(lv:Option Bool):R0->Option RV
 | .im d=>if(zv d||lv.isSome)=true then some (.ow<|SG (lv.getD false) d)else none
 | .fl ds=>if(ds.all zv||lv.isSome)=true then some (.ow<|.nd .ls<|ds.map<|SG<|lv.getD false)else none
 | .fd kvs=>if((kvs.map (·.2)).all zv||lv.isSome)=true then some (.ow (.nd (.dc (kvs.map (·.1))) ((kvs.map (·.2)).map<|SG<|lv.getD false)))else none
def bS_{α β:Type}{o}{f:α->Option β}{b}(h:o.bind f=some b):∃a,o=some a/\f a=some b:=by
 cases o with
 |none=>cases h
 |some a=>exact⟨a,rfl,h⟩
def ite_some'{α:Type}{c:Prop}[Decidable c]{a}{b:α}(h:(if c then a else none)=some b):c/\a=some b:=by
 by_cases hc:c
 . rw[if_pos hc]at h;exact⟨hc,h⟩
 . rw[if_neg hc]at h;cases h
def zq{α:Type}{c:Prop}[Decidable c]{a b:α}(h:(if c then some a else none)=some b):c/\a=b:=by
 by_cases hc:c
 . rw[if_pos hc]at h;cases h;exact⟨hc,rfl⟩
 . rw[if_neg hc]at h;cases h
section
variable{K:zzA}{kd:KD}{F B:Addr->Prop}{G:Addr->Prop}{ad:Ad}{as:AS}{σ:St}{H H':Hp}{v:V}{r:R0}{rv:RV}{Q:VK}{lv:Option Bool}
def AQ(h:zv d=true\/lv.isSome=true)(hO:∀st,lv=some st->∀a,Lv F B G st a->Ob a)(rp:Rp K kd Ob H v d):Lf K kd F B G H (zv d||lv.getD false) v d:=by
 cases e:zv d with
 |true=>exact rp.flat e
 |false=>
  rw[e]at h;cases lv with
  |none=>rcases h with h|h<;>cases h
  |some st=>exact rp.less (hO st rfl)
def CH(hO:∀st,lv=some st->∀a,Lv F B G st a->Ob a)(e:(ds.all zv||lv.isSome)=true)(h:RpL K kd Ob H vs ds):RoL (Lf K kd F B G H) N H vs (ds.map<|SG<|lv.getD false) []:=
 RpL.ind (P:=λvs ds=>(ds.all zv||lv.isSome)=true->RoL _ N H vs (ds.map _) []) (λ_=>.nil) (λ{v d vs ds} h _ ih e=>by
  rw[List.all_cons]at e;have e1:zv d=true\/lv.isSome=true:=by
   cases h1:lv.isSome<;>cases h2:zv d<;>simp[h1,h2]at e ⊢
  have e2:(ds.all zv||lv.isSome)=true:=by
   cases h1:lv.isSome with
   |true=>simp
   |false=>
    rw[h1,Bool.or_false,zyC]at e;rw[Bool.or_false];exact e.2
  exact RoL.cons (.lf<|AQ e1 hO h)<|ih e2) h e
def Sb{O}(h:RpM K kd O H vs ds):vs=(ds.map (·.1)).zip (vs.map (·.2))/\RpL K kd O H (vs.map (·.2)) (ds.map (·.2)):=
 RpM.ind (P:=λvs ds=>vs=(ds.map _).zip (vs.map _)/\RpL K kd O H (vs.map _) (ds.map _)) ⟨rfl,.nil⟩ (λh _ ih=>by
  obtain⟨h1,h2⟩:=ih;refine⟨?_,.cons h h2⟩
  conv=>lhs;rw[h1]
  rfl) h
def Ye(R:Rel K kd F B [] ad as σ H)(e:wrap lv r=some rv)(q:∀v T' H',Rel K kd F B T' ad as σ H'->xf K kd F B T' ad σ H' v rv->Grow (Gw [] ad) H (Gw T' ad) H'->Q v H'):RQ K kd (Uk F B (Gw [] ad) lv) H Q r:=by
 have hO:∀l st,lv=some st->∀a,Lv F B (Gw l ad) st a->XW (Uk F B (Gw [] ad) lv) (· ∈ l) a:=by
  intro l st e a z;subst e
  rcases z with z|z|z
  . exact .inl<|.inl z
  . exact .inr z
  . exact .inl<|.inr<|.inr z
 cases r with
 |im d=>
  obtain⟨c,rfl⟩:=zq e;intro v H' k rp;obtain⟨R',g⟩:=R.more k;refine q v [] H' R' (.lf<|AQ ((Bool.or_eq_true _ _).mp c) (λst e a z=>?_) rp) g;exact(hO [] st e a z).elim id λm=>nomatch m
 |fl ds=>
  obtain⟨c,rfl⟩:=zq e;intro l vs H' hl k hl' rp;obtain⟨R',g⟩:=R.news (T':=[l]) ⋯ (λa m=>by rwa [zzR.mp m]) k (λa m=>by rw[zzR.mp m,hl'];simp);exact q _ [l] H' R' (.ls hl'<|CH (λst e a z=>(hO [l] st e a z).elim .inl λm=>.inr<|zzR.mp m) c rp) g
 |fd ds=>
  obtain⟨c,rfl⟩:=zq e;intro l vs H' hl k hl' rp;obtain⟨R',g⟩:=R.news (T':=[l]) ⋯ (λa m=>by rwa [zzR.mp m]) k (λa m=>by rw[zzR.mp m,hl'];simp);obtain⟨e1,r1⟩:=Sb rp;refine q _ [l] H' R' (.dc (by rw[hl',<-e1]) (by rw[zzB,zzB,rp.length])<|CH (λst e a z=>(hO [l] st e a z).elim .inl λm=>.inr<|zzR.mp m) c r1) g
end
abbrev EF:=AS->Option (RV×AS)
def al(K:zzA)(kd:KD)(f:EF):TE:=λσ H Q=>∃F B ad as r as',Rel K kd F B [] ad as σ H/\f as=some (r,as')/\
 ∀v T' ad' H',Rel K kd F B T' ad' as' σ H'->xf K kd F B T' ad' σ H' v r->Grow (Gw [] ad) H (Gw T' ad') H'->Q v H'
@[irreducible] def AE(X:Cx)(kd:KD)(e:Expr)(f:EF):Prop:=PE X e<|al X.K kd f
def yf(h:PE X e t)(k:∀σ H Q,t' σ H Q->t σ H Q):PE X e t':=λpins s σ H Q I q=>h pins s σ H Q I<|k σ H Q q
section
variable{K:zzA}{kd:KD}{F B:Addr->Prop}{ad:Ad}{as as1:AS}{σ:St}{H:Hp}{r:RV}{f:EF}{P:VK}
def vN(R:Rel K kd F B [] ad as σ H)(e:f as=some (r,as1))(k:∀v ad1 H1,Rel K kd F B [] ad1 as1 σ H1->xf K kd F B [] ad1 σ H1 v r.frz->Grow (Gw [] ad) H (Gw [] ad1) H1->P v H1):al K kd f σ H P:=
 ⟨F,B,ad,as,r,as1,R,e,λv T' ad' H' R' rv g=>k v ad' H' R'.drop (xf.drop R' rv)<|g.trans<|Grow.less Gw.drop⟩
end
def D7(X:Cx)(kd:KD)(f:Value->Value->Sem Value)(g:D->D->Option R0):Prop:=
 QQ X f (λx y H Q=>∃O d e r,(∀a,O a->H a≠none)/\Vw X.K kd O H x d/\Vw X.K kd O H y e/\g d e=some r/\RQ X.K kd O H Q r)
def jr(X:Cx)(kd:KD)(f:Value->Sem Value)(g:D->Option R0):Prop:=
 n_ X f (λx H Q=>∃O d r,(∀a,O a->H a≠none)/\Vw X.K kd O H x d/\g d=some r/\RQ X.K kd O H Q r)
inductive VwL(K:zzA)(kd:KD)(O:Addr->Prop)(H:Hp):List V->List D->Prop
 |nil:VwL K kd O H [] []
 |cons {v:V}{d:D}{vs:List V}{ds:List D}:Vw K kd O H v d->VwL K kd O H vs ds->VwL K kd O H (v::vs) (d::ds)
def Yh(X:Cx)(kd:KD)(f:Value)(g:List D->Option R0):Prop:=
 YB X f (λxs H Q=>∃O ds r,(∀a,O a->H a≠none)/\VwL X.K kd O H xs ds/\g ds=some r/\RQ X.K kd O H Q r)
def jU(X:Cx)(kd:KD)(g:D->D->Option R0):Prop:=
 pY X (λx y H Q=>∃O d e r,(∀a,O a->H a≠none)/\Vw X.K kd O H x d/\Vw X.K kd O H y e/\g d e=some r/\RQ X.K kd O H Q r)
noncomputable def meet:Option Bool->Option Bool->Option Bool
 |some a,some b=>some (a&&b)
 |_,_=>none
def Uk.meet1:∀x,Uk F B G (meet a b) x->Uk F B G a x:=λx h=>by
 cases a with
 |none=>cases b<;>exact h.elim
 |some p=>
  cases b with
  |none=>exact h.elim
  |some q=>exact VZ (λz=>((zyC _ _).mp z).1) x h
def Uk.meet2:∀x,Uk F B G (meet a b) x->Uk F B G b x:=λx h=>by
 cases a with
 |none=>cases b<;>exact h.elim
 |some p=>
  cases b with
  |none=>exact h.elim
  |some q=>exact VZ ⋯ x h
theorem Vw.less{K O O'}(g:∀a,O' a->O a)(h:Vw K kd O H v d):Vw K kd O' H v d:=by
 cases h with
 |non=>exact .non
 |bl b=>exact .bl b
 |int i=>exact .int i
 |str x=>exact .str x
 |tup r s l=>exact .tup (r.less g) s (l.less g)
 |lst h l=>exact .lst h (l.less g)
 |dct h l=>exact .dct h (l.less g)
 |cl c=>exact .cl c
 |ob h k l=>exact .ob h k (l.less g)
def f2(fa fb:EF)(g:D->D->Option R0):EF:=λas=>(fa as).bind λp=>(fb p.2).bind λq=>(p.1.frz.view q.2).bind λx=>(q.1.frz.view q.2).bind λy=>(g x.1 y.1).bind λr=>(wrap (meet x.2 y.2) r).bind λz=>some (z,q.2)
def Fy{fa fb}{as as':AS}(h:f2 fa fb g as=some (rv,as')):
 ∃p as1 q x y lx ly r,fa as=some (p,as1)/\fb as1=some (q,as')/\p.frz.view as'=some (x,lx)/\q.frz.view as'=some (y,ly)/\g x y=some r/\wrap (meet lx ly) r=some rv:=by
 obtain⟨⟨p,as1⟩,h1,h⟩:=bS_ h;obtain⟨⟨q,as2⟩,h2,h⟩:=bS_ h;obtain⟨⟨x,lx⟩,h3,h⟩:=bS_ h;obtain⟨⟨y,ly⟩,h4,h⟩:=bS_ h;obtain⟨r,h5,h⟩:=bS_ h;obtain⟨z,h6,h⟩:=bS_ h;cases h;exact⟨p,as1,q,x,y,lx,ly,r,h1,h2,h3,h4,h5,h6⟩
section
variable{X:Cx}{kd:KD}{a b c:Expr}{fa fb fc:EF}{pos:Pos}
def mB(hr:∀x y H Q,(∃O d e r,(∀a,O a->H a≠none)/\Vw X.K kd O H x d/\Vw X.K kd O H y e/\g d e=some r/\RQ X.K kd O H Q r)->R2' x y H Q)
 (h:al X.K kd (f2 fa fb g) σ H Q):oj R2' (al X.K kd fa) (al X.K kd fb) σ H Q:=by
 obtain⟨F,B,ad,as,r,as',R,e,q⟩:=h;obtain⟨p,as1,z,x,y,lx,ly,r0,h1,h2,h3,h4,h5,h6⟩:=Fy e;refine vN R h1 λv ad1 H1 R1 rv1 g1=>vN R1 h2 λu ad2 H2 R2 rv2 g2=>hr _ _ _ _ ?_;exact⟨_,x,y,r0,R2.tr _,(xf.vw R2 (rv1.grow g2) h3).less Uk.meet1,(xf.vw R2 rv2 h4).less Uk.meet2,h5,Ye R2 h6 λw T' H' R' rv' g'=>q w T' ad2 H' R' rv'<|(g1.trans g2).trans g'⟩
def uO(ho:D7 X kd (binaryOp op) g)(ha:AE X kd a fa)(hb':AE X kd b fb):AE X kd (.BinOp a op b pos) (f2 fa fb g):=by with_unfolding_all exact(yf (pE ho ha hb') λσ H Q h=>mB (λ_ _ _ _ z=>z) h)
def tZ(ho:D7 X kd (compareOp op) g)(ha:AE X kd a fa)(hb':AE X kd b fb)(hm:behindInMarks op b=false):AE X kd (.Compare a [op] [b] pos) (f2 fa fb g):=by with_unfolding_all exact(yf (Ia ho ha hb' hm) λσ H Q h=>mB (λ_ _ _ _ z=>z) h)
def rW(ho:jU X kd g)(ha:AE X kd a fa)(hb':AE X kd b fb)(hm:K9 b):AE X kd (.Subscript a b pos) (f2 fa fb g):=by with_unfolding_all exact(yf (nA ho ha hb' hm) λσ H Q h=>mB (λ_ _ _ _ z=>z) h)
noncomputable def fC(d:D):EF:=λas=>some (.ow<|.lf true d,as)
noncomputable def fV(i:Nat):EF:=λas=>match as[i]? with
 |some (some (.lf st d))=>some (.ow<|.lf st d,as)
 |some (some (.nd _ _))=>some (.bo i,as)
 |_=>none
def Tx(h:PE X a (tC v))(hr:∀O H,Rp X.K kd O H v d):AE X kd a (fC d):=by with_unfolding_all exact(yf h λσ H Q h=>by
 obtain⟨F,B,ad,as,r,as',R,e,q⟩:=h;cases e;exact q v [] ad H R (.lf<|hr _ _) Grow.refl)
def se{i:Nat}(h:PE X a (Vk i)):AE X kd a (fV i):=by with_unfolding_all exact(yf h λσ H Q h=>by
 obtain⟨F,B,ad,as,r,as',R,e,q⟩:=h;unfold fV at e;cases k:as[i]? with
 |none=>rw[k]at e;cases e
 |some s=>
  rw[k]at e;cases s with
  |none=>cases e
  |some o=>
   obtain⟨v,h1,h2⟩:=R.sl i _ k;cases o with
   |lf st d=>
    cases e;have e0:ad i=[]:=by
     generalize hfp:ad i=fp at h2;cases h2;rfl
    rw[e0]at h2;exact⟨v,h1,q v [] ad H R h2 Grow.refl⟩
   |nd kk os=>
    cases e;exact⟨_,h1,q _ [] ad H R ⟨rfl,h1⟩ Grow.refl⟩)
end
noncomputable def yY(ad:Ad)(i:Nat)(x:List Addr):Ad:=λj=>if j=i then x else ad j
section
variable{K:zzA}{kd:KD}{F B:Addr->Prop}{T T1 T2:List Addr}{ad ad1:Ad}{as as1:AS}{σ:St}{H H1:Hp}{v:V}{r:RV}{o:O}{i:Nat}
def zR:yY ad i x i=x:=if_pos rfl
def zU{j:Nat}(h:j≠i):yY ad i x j=ad j:=if_neg h
def ZJ:∀a,Gw T (yY ad i []) a->Gw T ad a:=λa h=>by
 rcases h with h|⟨j,h⟩
 . exact .inl h
 . by_cases e:j=i
   . subst e;rw[zR]at h;cases h
   . rw[zU e]at h;exact .inr ⟨j,h⟩
def Xb:∀a,Gw [] (yY ad i T) a->Gw T ad a:=λa h=>by
 rcases h with h|⟨j,h⟩
 . cases h
 . by_cases e:j=i
   . subst e;rw[zR]at h;exact .inl h
   . rw[zU e]at h;exact .inr ⟨j,h⟩
def F2:∀st a,Lv F (λa=>B a\/a ∈ T) (Gw [] ad) st a->Lv F B (Gw T ad) st a:=λst a z=>by
 rcases z with(z|z|z)|z
 . exact .inl<|.inl z
 . exact .inl<|.inr z
 . exact .inr<|.inl z
 . exact .inr<|Gw.drop a z
def QS:∀st a,Lv F B (Gw (T1++T2) ad) st a->Lv F (λa=>B a\/a ∈ T1) (Gw T2 ad) st a:=λst a z=>by
 rcases z with(z|z)|z|z
 . exact .inl<|.inl z
 . exact .inl<|.inr<|.inl z
 . rcases zzM.mp z with z|z
   . exact .inl<|.inr<|.inr z
   . exact .inr<|.inl z
 . exact .inr<|.inr z
def Rel.hide(R:Rel K kd F B T ad as σ H):Rel K kd F (λa=>B a\/a ∈ T) [] ad as σ H where
 len:=R.len
 out:=R.out
 nd:=R.nd
 inj:=R.inj
 tnd:=zyJ
 dis:=λ_ _ _ z=>nomatch z
 ftr:=R.ftr
 btr:=λa h=>by
  rcases h with h|h
  . obtain⟨h1,h2,h3⟩:=R.btr a h;exact⟨h1,h2,λz=>h3<|Gw.drop a z⟩
  . exact⟨(R.gtr a<|.inl h).1,(R.gtr a<|.inl h).2,λz=>z.elim ⋯ λ⟨j,y⟩=>R.dis j a y h⟩
 gtr:=λa h=>R.gtr a (Gw.drop a h)
 sl:=λi s e=>(R.sl i s e).lv F2
def Rel.unhide(hn:T1.Nodup)(hb:∀a ∈ T1,¬B a)(R:Rel K kd F (λa=>B a\/a ∈ T1) T2 ad as σ H):Rel K kd F B (T1++T2) ad as σ H where
 len:=R.len
 out:=R.out
 nd:=R.nd
 inj:=R.inj
 tnd:=zxC.mpr ⟨hn,R.tnd,λa m b m' e=>by subst e;exact(R.btr a<|.inr m).2.2<|.inl m'⟩
 dis:=λi a m z=>by
  rcases zzM.mp z with z|z
  . exact(R.btr a<|.inr z).2.2<|.inr ⟨i,m⟩
  . exact R.dis i a m z
 ftr:=R.ftr
 btr:=λa h=>by
  obtain⟨h1,h2,h3⟩:=R.btr a<|.inl h;refine⟨h1,h2,λz=>?_⟩
  rcases z with z|z
  . rcases zzM.mp z with z|z
    . exact hb a z h
    . exact h3<|.inl z
  . exact h3 (.inr z)
 gtr:=λa h=>by
  rcases h with h|h
  . rcases zzM.mp h with h|h
    . exact⟨(R.btr a<|.inr h).1,(R.btr a<|.inr h).2.1⟩
    . exact R.gtr a<|.inl h
  . exact R.gtr a (.inr h)
 sl:=λi s e=>(R.sl i s e).lv QS
theorem Rel.frz(R:Rel K kd F B T ad as σ H)(h:as[i]? = some (some o)):
 Rel K kd F B T (yY ad i []) (as.set i<|some o.frz) σ H/\∃v,σ[i]? = some (some v)/\Rp K kd (Lv F B (Gw T<|yY ad i []) o.str) H v o.toD:=by
 obtain⟨v,hv,ro⟩:=R.sl i _ h;have rp:Rp K kd (Lv F B (Gw T<|yY ad i []) o.str) H v o.toD:=
  Ro.rp o.str (λst v d hs r=>r.less λa z=>z.elim (λy=>.inl<|y.elim (λx=>.inl ⟨hs x.1,x.2⟩) .inr) λy=>.inr<|ZJ a y)
   (λa n z=>n<|z.elim (λy=>.inl<|y.elim (λx=>.inl ⟨rfl,x.2⟩) .inr) λy=>.inr<|ZJ a y) id
   (λa m z=>by
    rcases z with(z|z)|z|⟨j,z⟩
    . exact(R.gtr a<|.inr ⟨i,m⟩).2 z.2
    . exact(R.btr a z).2.2<|.inr ⟨i,m⟩
    . exact R.dis i a m z
    . by_cases e:j=i
      . subst e;rw[zR]at z;cases z
      . rw[zU e]at z;exact e<|R.inj j i a z m) ro
 have hi:=(zzG.mp h).1;refine⟨⟨by rw[zzU];exact R.len,λj hj=>?_,λj=>?_,λj k a h1 h2=>?_,R.tnd,λj a h1=>?_,R.ftr,λa h1=>?_,λa h1=>R.gtr a<|ZJ a h1,λj s e=>?_⟩,v,hv,rp⟩
 . rw[zzU]at hj;rw[zU ⋯];exact R.out j hj
 . by_cases e:j=i
   . subst e;rw[zR];exact zyJ
   . rw[zU e];exact R.nd j
 . by_cases e:j=i
   . subst e;rw[zR]at h1;cases h1
   . by_cases e':k=i
     . subst e';rw[zR]at h2;cases h2
     . rw[zU e]at h1;rw[zU e']at h2;exact R.inj j k a h1 h2
 . by_cases e:j=i
   . subst e;rw[zR]at h1;cases h1
   . rw[zU e]at h1;exact R.dis j a h1
 . obtain⟨b1,b2,b3⟩:=R.btr a h1;exact⟨b1,b2,λz=>b3<|ZJ a z⟩
 . by_cases q:j=i
   . subst q;rw[zyK hi]at e;cases e;rw[zR];exact⟨v,hv,.lf rp⟩
   . rw[zzY<|Ne.symm q]at e;rw[zU q];exact(R.sl j s e).less ZJ
def Rel.put(R:Rel K kd F B T ad as σ H)(hi:i<as.length)(h:w_ K kd F B (Gw T ad) H v o T):Rel K kd F B [] (yY ad i T) (as.set i<|some o) (σ.set i<|some v) H:=by
 have hi':i<σ.length:=by rwa [<-R.len]
 refine⟨by rw[zzU,zzU];exact R.len,λj hj=>?_,λj=>?_,λj k a h1 h2=>?_,zyJ,(λ_ _ _ z=>nomatch z),R.ftr,λa h1=>?_,λa h1=>R.gtr a<|Xb a h1,λj s e=>?_⟩
 . rw[zzU]at hj;rw[zU ⋯];exact R.out j hj
 . by_cases e:j=i
   . subst e;rw[zR];exact R.tnd
   . rw[zU e];exact R.nd j
 . by_cases e:j=i
   . subst e;rw[zR]at h1
     by_cases e':k=j
     . exact e'.symm
     . rw[zU e']at h2;exact(R.dis k a h2 h1).elim
   . rw[zU e]at h1
     by_cases e':k=i
     . subst e';rw[zR]at h2;exact(R.dis j a h1 h2).elim
     . rw[zU e']at h2;exact R.inj j k a h1 h2
 . obtain⟨b1,b2,b3⟩:=R.btr a h1;exact⟨b1,b2,λz=>b3<|Xb a z⟩
 . by_cases q:j=i
   . subst q;rw[zyK hi]at e;cases e;rw[zR,zyK hi'];exact⟨v,rfl,h.less Xb⟩
   . rw[zzY<|Ne.symm q]at e;rw[zU q,zzY<|Ne.symm q];exact(R.sl j s e).less Xb
noncomputable def Ai(as:AS):RV->Option (O×AS)
 | .ow o=>some (o,as)
 | .bo i=>match as[i]? with
  |some (some o)=>some (o.frz,as.set i<|some o.frz)
  |_=>none
def RO(R:Rel K kd F B T ad as σ H)(h:xf K kd F B T ad σ H v r)(e:Ai as r=some (o,as')):∃ad',Rel K kd F B T ad' as' σ H/\w_ K kd F B (Gw T ad') H v o T/\∀a,Gw T ad' a->Gw T ad a:=by
 cases r with
 |ow o'=>cases e;exact⟨ad,R,h,λ_ z=>z⟩
 |bo i=>
  have e:(match as[i]? with|some (some o)=>some _|_=>none)=some _:=e;cases k:as[i]? with
  |none=>rw[k]at e;cases e
  |some s=>
   cases s with
   |none=>rw[k]at e;cases e
   |some o1=>
    rw[k]at e;cases e;obtain⟨hT,hs⟩:=h;subst hT;obtain⟨R',w,hw,rp⟩:=R.frz k;rw[hs]at hw;cases hw;exact⟨_,R',.lf rp,ZJ⟩
end
abbrev TF:=AS->Option (Bool×AS)
def Jt(K:zzA)(kd:KD)(f:TF):TT:=λσ H Q=>∃F B ad as b as',Rel K kd F B [] ad as σ H/\f as=some (b,as')/\
 ∀ad' H',Rel K kd F B [] ad' as' σ H'->Grow (Gw [] ad) H (Gw [] ad') H'->Q b H'
@[irreducible] def AT(X:Cx)(kd:KD)(e:Expr)(f:TF):Prop:=PT X e<|Jt X.K kd f
@[irreducible] def AW(X:Cx)(kd:KD)(e:Expr)(f:TF):Prop:=PW X e<|Jt X.K kd f
noncomputable def truth:D->Option Bool
 | .non=>some false
 | .bl b=>some b
 | .int i=>some<|i != 0
 | .str x=>if x.length<=sizeLine then some ((x.length:Int) != 0)else none
 | .tup ds=>some<|!ds.isEmpty
 | .lst ds=>some (!ds.isEmpty)
 |_=>none
def fT(f:EF):TF:=λas=>(f as).bind λp=>(p.1.frz.view p.2).bind λx=>(truth x.1).bind λb=>some (b,p.2)
noncomputable def Bb(f g:TF):TF:=λas=>(f as).bind λp=>if p.1=true then g p.2 else some (false,p.2)
noncomputable def P0(f g:TF):TF:=λas=>(f as).bind λp=>if p.1=true then some (true,p.2)else g p.2
noncomputable def vL(f:TF):TF:=λas=>(f as).bind λp=>some (!p.1,p.2)
noncomputable def Aw(c:TF)(f g:EF):EF:=λas=>(c as).bind λp=>if p.1=true then f p.2 else g p.2
noncomputable def Fw:D->Option Int
 | .int i=>some i
 |_=>none
noncomputable def jz:D->Option Str
 | .str i=>some i
 |_=>none
noncomputable def t_:D->Option (List D)
 | .lst i=>some i
 |_=>none
noncomputable def m5:D->Option (List D)
 | .tup i=>some i
 |_=>none
def Qx(e:t_ d=some i):d = .lst i:=by
 cases d with
 |lst j=>cases e;rfl
 |_=>cases e
def Ht(e:m5 d=some i):d = .tup i:=by
 cases d with
 |tup j=>cases e;rfl
 |_=>cases e
def Oz(h:Fw d=some c):d = .int c:=by
 cases d with
 |int i=>cases h;rfl
 |_=>cases h
noncomputable def jq:D->Option Bool
 | .bl i=>some i
 |_=>none
def DT(h:jq d=some c):d = .bl c:=by
 cases d with
 |bl i=>cases h;rfl
 |_=>cases h
noncomputable def kU:RV->Option D
 | .ow (.lf _ d)=>some d
 |_=>none
def CC(h:kU r=some d):∃st,r = .ow (.lf st d):=by
 cases r with
 |bo i=>cases h
 |ow o=>
  cases o with
  |nd k os=>cases h
  |lf st d=>cases h;exact⟨st,rfl⟩
def mZ(r:RV):Option Bool:=(kU r).bind jq
def OK(h:mZ r=some c):∃st,r = .ow (.lf st<|.bl c):=by
 obtain⟨d,h1,h⟩:=bS_ h;cases DT h;exact CC h1
def jt(r:RV):Option Int:=(kU r).bind Fw
def uz(h:jt r=some c):∃st,r = .ow (.lf st<|.int c):=by
 obtain⟨d,h1,h⟩:=bS_ h;cases Oz h;exact CC h1
noncomputable def uF{α:Type}:List α->Option (α×α)
 | [a,b]=>some (a,b)
 |_=>none
def L1{α:Type}{os}{p:α×α}(h:uF os=some p):os=[p.1,p.2]:=by
 cases os with
 |nil=>cases h
 |cons x r=>
  cases r with
  |nil=>cases h
  |cons y r=>
   cases r with
   |nil=>cases h;rfl
   |cons _ _=>cases h
def mK(r:RV):Option (Bool×List D):=match r with
 | .ow (.lf s d)=>(t_ d).bind λl=>some (s,l)
 |_=>none
def MF(h:mK r=some p):r = .ow (.lf p.1<|.lst p.2):=by
 cases r with
 |bo i=>cases h
 |ow o=>
  cases o with
  |nd k os=>cases h
  |lf st d=>
   obtain⟨l,h1,h⟩:=bS_<|h;cases h;cases Qx h1;rfl
def T8(f g:EF):EF:=λas=>(f as).bind λp=>(mZ p.1).bind λc=>if c=true then g p.2 else some (.ow<|.lf true<|.bl false,p.2)
def BU(f:EF):EF:=λas=>(f as).bind λp=>(mZ p.1).bind λc=>some (.ow<|.lf true<|.bl<|!c,p.2)
def f1(fa:EF)(g:D->Option R0):EF:=λas=>(fa as).bind λp=>(p.1.frz.view p.2).bind λx=>(g x.1).bind λr=>(wrap x.2 r).bind λz=>some (z,p.2)
section
variable{X:Cx}{kd:KD}{a b c:Expr}{fa fb:EF}{ta tb:TF}{pos:Pos}{es rest:List Expr}
def EE(h:PT X e t)(k:∀σ H Q,t' σ H Q->t σ H Q):PT X e t':=λpins s σ H Q I q=>h pins s σ H Q I<|k σ H Q q
def O7(h:PW X e t)(k:∀σ H Q,t' σ H Q->t σ H Q):PW X e t':=λw pins s σ H Q I q=>h w pins s σ H Q I<|k σ H Q q
def uL{O}(h:Vw X.K kd O H v d)(e:truth d=some k):DS X.K v H k:=by
 cases h with
 |non=>cases e;rfl
 |bl b=>cases e;rfl
 |int i=>cases e;rfl
 |str x=>
  have e:(if x.length<=sizeLine then some _ else none)=some k:=e
  by_cases hl:x.length<=sizeLine
  . rw[if_pos hl]at e;cases e;exact⟨hl,rfl⟩
  . rw[if_neg hl]at e;cases e
 |tup r hs hr=>
  cases e;refine .inr<|.inl ⟨_,hs, ?_⟩;cases hr<;>rfl
 |lst hs hr=>
  cases e;refine .inl ⟨_,hs.sq, ?_⟩;cases hr<;>rfl
 |dct=>cases e
 |cl=>cases e
 |ob=>cases e
def Wq(ha:AE X kd a fa)(he:∀whole,isTrue a X.env whole=(do let v <-whole;standAt a.pos;holding [v] (truthy v))):AT X kd a (fT fa):=by with_unfolding_all exact(EE (Hm ha he) λσ H Q h=>by
 obtain⟨F,B,ad,as,bb,as',R,e,q⟩:=h;obtain⟨_,h1,e⟩:=bS_<|e;obtain⟨_,h2,e⟩:=bS_ e;obtain⟨k,h3,e⟩:=bS_ e;cases e;exact vN R h1 λv ad1 H1 R1 rv1 g1=>⟨_,uL (xf.vw R1 rv1 h2) h3,q ad1 H1 R1 g1⟩)
def uI(ho:D7 X kd (compareOp op) g)(hg:∀x y r,g x y=some r->∃k,r = .im (.bl k))(ha:AE X kd a fa)(hb:AE X kd b fb)(hm:behindInMarks op b=false):
 AT X kd (.Compare a [op] [b] pos) (fT<|f2 fa fb g):=by with_unfolding_all exact(EE (C0 ho ha hb hm) λσ H Q h=>by
 obtain⟨F,B,ad,as,bb,as',R,e,q⟩:=h;obtain⟨⟨p,as1⟩,h1,e⟩:=bS_<|e;obtain⟨_,h2,e⟩:=bS_ e;obtain⟨k,h3,e⟩:=bS_ e;cases e;obtain⟨_,_,_,x,y,_,_,r0,_,_,_,_,hp,hw⟩:=Fy h1;obtain⟨k',rfl⟩:=hg _ _ _ hp;cases hw;cases h2;cases h3;refine mB (λ_ _ _ _ z=>z) ⟨F,B,ad,as,_,_,R,h1,λv T' ad' H' R' rv g'=>?_⟩;cases rv with
 |lf rp=>
  cases rp;exact⟨_,rfl,q ad' H' R' g'⟩)
def Wo(ha:AT X kd a ta):AT X kd (.UnaryOp .Not a pos) (vL ta):=by with_unfolding_all exact(EE (sk ha) λσ H Q h=>by
 obtain⟨F,B,ad,as,bb,as',R,e,q⟩:=h;obtain⟨⟨p,as1⟩,h1,e⟩:=bS_<|e;cases e;exact⟨F,B,ad,as,p,_,R,h1,λad' H' R' g=>q ad' H' R' g⟩)
def Fh(ha:AT X kd a ta):AW X kd (.BoolOp .And [a] pos) ta:=by with_unfolding_all exact(Jd ha)
def QY(ha:AT X kd a ta):AW X kd (.BoolOp .Or [a] pos) ta:=by with_unfolding_all exact(uB ha)
def tN(ha:AT X kd a ta)(hb:AW X kd (.BoolOp .And (b::rest) pos) tb):AW X kd (.BoolOp .And (a::b::rest) pos) (Bb ta tb):=by with_unfolding_all exact(O7 (uy ha hb) λσ H Q h=>by
 obtain⟨F,B,ad,as,bb,as',R,e,q⟩:=h;obtain⟨⟨p,as1⟩,h1,e⟩:=bS_<|e;refine⟨F,B,ad,as,p,as1,R,h1,λad' H' R' g=>?_⟩;cases p with
 |true=>exact⟨F,B,ad',as1,bb,as',R',e,λad2 H2 R2 g2=>q ad2 H2 R2<|g.trans g2⟩
 |false=>cases e;exact q ad' H' R' g)
def Hg(ha:AT X kd a ta)(hb:AW X kd (.BoolOp .Or (b::rest) pos) tb):AW X kd (.BoolOp .Or (a::b::rest) pos) (P0 ta tb):=by with_unfolding_all exact(O7 (r_ ha hb) λσ H Q h=>by
 obtain⟨F,B,ad,as,bb,as',R,e,q⟩:=h;obtain⟨⟨p,as1⟩,h1,e⟩:=bS_<|e;refine⟨F,B,ad,as,p,as1,R,h1,λad' H' R' g=>?_⟩;cases p with
 |false=>exact⟨F,B,ad',as1,bb,as',R',e,λad2 H2 R2 g2=>q ad2 H2 R2<|g.trans g2⟩
 |true=>cases e;exact q ad' H' R' g)
def AW.at_(h:AW X kd e ta):AT X kd e ta:=by with_unfolding_all exact(PW.pt h)
def HP(hc:AT X kd c ta)(ha:AE X kd a fa)(hb:AE X kd b fb):AE X kd (.IfExp c a b pos) (Aw ta fa fb):=by with_unfolding_all exact(yf (S5 hc ha hb) λσ H Q h=>by
 obtain⟨F,B,ad,as,r,as',R,e,q⟩:=h;obtain⟨⟨p,as1⟩,h1,e⟩:=bS_<|e;refine⟨F,B,ad,as,p,as1,R,h1,λad' H' R' g=>?_⟩;cases p with
 |true=>exact⟨F,B,ad',as1,r,as',R',e,λv T2 ad2 H2 R2 rv g2=>q v T2 ad2 H2 R2 rv<|g.trans g2⟩
 |false=>exact⟨F,B,ad',as1,r,as',R',e,λv T2 ad2 H2 R2 rv g2=>q v T2 ad2 H2 R2 rv<|g.trans g2⟩)
def A4{K ad st c}(h:xf K kd F B T ad σ H v (.ow<|.lf st<|.bl c)):T=[]/\v = .bl c:=by
 cases h with
 |lf rp=>cases rp;exact ⋯
def Ca(ha:AE X kd a fa):AE X kd (.BoolOp op [a] pos) fa:=by with_unfolding_all exact ⋯
def Om(ha:AE X kd a fa)(hb:AE X kd (.BoolOp .And (b::rest) pos) fb):AE X kd (.BoolOp .And (a::b::rest) pos) (T8 fa fb):=by with_unfolding_all exact(yf (ue ha hb) λσ H Q h=>by
 obtain⟨F,B,ad,as,r,as',R,e,q⟩:=h;obtain⟨⟨p,as1⟩,h1,e⟩:=bS_<|e;refine⟨F,B,ad,as,p,as1,R,h1,λv T' ad' H' R' rv g=>?_⟩;obtain⟨k,e1,e⟩:=bS_ e;obtain⟨st,rfl⟩:=OK e1;obtain⟨rfl,rfl⟩:=A4 rv;cases k with
 |true=>exact⟨true,rfl,⟨F,B,ad',as1,r,as',R',e,λv T2 ad2 H2 R2 rv g2=>q v T2 ad2 H2 R2 rv<|g.trans g2⟩⟩
 |false=>
  cases e;exact⟨false,rfl,q _ [] ad' H' R' (.lf<|.bl false) g⟩)
def u6(ha:AE X kd a fa):AE X kd (.UnaryOp .Not a pos) (BU fa):=by with_unfolding_all exact(yf (tH ha) λσ H Q h=>by
 obtain⟨F,B,ad,as,r,as',R,e,q⟩:=h;obtain⟨⟨p,as1⟩,h1,e⟩:=bS_<|e;refine⟨F,B,ad,as,p,as1,R,h1,λv T' ad' H' R' rv g=>?_⟩;obtain⟨k,e1,e⟩:=bS_ e;obtain⟨st,rfl⟩:=OK e1;obtain⟨rfl,rfl⟩:=A4 rv;cases e;exact⟨k,rfl,q _ [] ad' H' R' (.lf<|.bl _) g⟩)
def Cb(ho:jr X kd (unaryOp op) g)(ha:AE X kd a fa):AE X kd (.UnaryOp op a pos) (f1 fa g):=by with_unfolding_all exact(yf (oi ho ha) λσ H Q h=>by
 obtain⟨F,B,ad,as,r,as',R,e,q⟩:=h;obtain⟨_,h1,e⟩:=bS_<|e;obtain⟨⟨x,lv⟩,h2,e⟩:=bS_ e;obtain⟨z,h3,e⟩:=bS_ e;obtain⟨y,h4,e⟩:=bS_ e;cases e;refine vN R h1 λv ad1 H1 R1 rv1 g1=>⟨_,x,z,R1.tr _,xf.vw R1 rv1 h2,h3,Ye R1 h4 λw T' H' R' rv' g'=>q w T' ad1 H' R' rv'<|g1.trans g'⟩)
end
abbrev AF:=AS->Option (List RV×AS)
inductive RVs(K:zzA)(kd:KD)(F B:Addr->Prop)(ad:Ad)(σ:St)(H:Hp):List V->List RV->Prop
 |nil:RVs K kd F B ad σ H [] []
 |cons {v:V}{r:RV}{vs:List V}{rs:List RV}:xf K kd F B [] ad σ H v r->RVs K kd F B ad σ H vs rs->RVs K kd F B ad σ H (v::vs) (r::rs)
def J2(K:zzA)(kd:KD)(f:AF):TA:=λσ H Q=>∃F B ad as rs as',Rel K kd F B [] ad as σ H/\f as=some (rs,as')/\
 ∀vs ad' H',Rel K kd F B [] ad' as' σ H'->RVs K kd F B ad' σ H' vs rs->Grow (Gw [] ad) H (Gw [] ad') H'->Q vs H'
@[irreducible] def AA(X:Cx)(kd:KD)(es:List Expr)(f:AF):Prop:=PA X es<|J2 X.K kd f
noncomputable def aN:AF:=λas=>some ([],as)
noncomputable def aC(fa:EF)(fr:AF):AF:=λas=>(fa as).bind λp=>(fr p.2).bind λq=>some (p.1.frz::q.1,q.2)
def L7(h:PA X e t)(k:∀σ H Q,t' σ H Q->t σ H Q):PA X e t':=λpos pins s σ H Q I q=>h pos pins s σ H Q I<|k σ H Q q
abbrev DF:=AS->Option (List O×AS)
def jG(K:zzA)(kd:KD)(f:DF):TA:=λσ H Q=>∃F B ad as os as',Rel K kd F B [] ad as σ H/\f as=some (os,as')/\
 ∀vs T' ad' H',Rel K kd F B T' ad' as' σ H'->vI K kd F B (Gw T' ad') H' vs os T'->Grow (Gw [] ad) H (Gw T' ad') H'->Q vs H'
@[irreducible] def AD(X:Cx)(kd:KD)(es:List Expr)(f:DF):Prop:=PA X es<|jG X.K kd f
noncomputable def dN:DF:=λas=>some ([],as)
def dC(fa:EF)(fr:DF):DF:=λas=>(fa as).bind λp=>(Ai p.2 p.1).bind λx=>(fr x.2).bind λq=>some (x.1::q.1,q.2)
def views(as:AS):List RV->Option (List D×Option Bool)
 | []=>some ([],some true)
 |r::rs=>(r.view as).bind λx=>(views as rs).bind λy=>some (x.1::y.1,meet x.2 y.2)
def fP(fr:AF)(g:List D->Option R0):EF:=λas=>(fr as).bind λp=>(views p.2 p.1).bind λx=>(g x.1).bind λr=>(wrap x.2 r).bind λz=>some (z,p.2)
def om(as:AS):RV->Option (Bool×D)
 | .ow o=>some (zv o.toD||o.str,o.toD)
 | .bo i=>match as[i]? with
  |some (some o)=>some (false,o.toD)
  |_=>none
def Yl(as:AS):List RV->Option (List<|Bool×D)
 | []=>some []
 |r::rs=>(om as r).bind λx=>(Yl as rs).bind λy=>some (x::y)
def ze(fr:AF)(g:List (Bool×D)->Option O):EF:=λas=>(fr as).bind λp=>(Yl p.2 p.1).bind λx=>(g x).bind λo=>some (.ow o,p.2)
def kr(K:zzA)(kd:KD)(F:Addr->Prop)(H:Hp)(Q:VK)(o:O):Prop:=
 ∀v T H',T.Nodup->(∀a ∈ T,H a=none)->(∀b u,H b=some u->H' b=some u)->(∀a ∈ T,H' a≠none)->Ro (λ_ v d=>Rp K kd (XW F (· ∈ T)) H' v d) (λa=>¬XW F (· ∈ T) a) H' v o T->Q v H'
inductive RpA(K:zzA)(kd:KD)(F:Addr->Prop)(H:Hp):List V->List (Bool×D)->Prop
 |nil:RpA K kd F H [] []
 |cons {v:V}{st:Bool}{d:D}{vs:List V}{ds:List (Bool×D)}:Rp K kd (λa=>st=true/\F a) H v d->RpA K kd F H vs ds->RpA K kd F H (v::vs) ((st,d)::ds)
def Vv(K:zzA)(kd:KD)(g:List (Bool×D)->Option O):Sp:=λvs H Q _=>∃F ds o,(∀a,F a->H a≠none)/\RpA K kd F H vs ds/\g ds=some o/\kr K kd F H Q o
def WX(os:List O):O:=if os.all O.isLf=true then .lf (O.strs os) (.tup<|O.toDs os)else .nd .tp os
def yh(fr:DF):EF:=λas=>(fr as).bind λp=>if p.1.length<=sizeLine then some (.ow<|WX p.1,p.2)else none
noncomputable def ya(fr:DF):EF:=λas=>(fr as).bind λp=>if p.1.length<=sizeLine then some (.ow<|.nd .ls p.1,p.2)else none
section
variable{X:Cx}{kd:KD}{a b c:Expr}{fa fb:EF}{ta tb:TF}{pos:Pos}{es rest:List Expr}{fr:AF}{fd:DF}
theorem RpA.length{K}(h:RpA K kd F H vs ds):vs.length=ds.length:=by
 induction h with
 |nil=>rfl
 |cons _ _ ih=>exact congrArg _ ih
def zu:AA X kd [] aN:=by with_unfolding_all exact(L7 QG λσ H Q h=>by
 obtain⟨F,B,ad,as,rs,as',R,e,q⟩:=h;cases e;exact q [] ad H R .nil Grow.refl)
def IT(ha:AE X kd a fa)(hr:AA X kd es fr)(hs:starEach (a::es) X.env=(false,eval a X.env)::starEach es X.env):AA X kd (a::es) (aC fa fr):=by with_unfolding_all exact(L7 (YO ha hr hs) λσ H Q h=>by
 obtain⟨F,B,ad,as,rs,as',R,e,q⟩:=h;obtain⟨⟨p,as1⟩,h1,e⟩:=bS_<|e;obtain⟨⟨z,as2⟩,h2,e⟩:=bS_ e;cases e;refine vN R h1 λv ad1 H1 R1 rv1 g1=>⟨F,B,ad1,as1,z,_,R1,h2,λvs ad2 H2 R2 rv2 g2=>?_⟩;exact q _ ad2 H2 R2 (.cons (rv1.grow g2) rv2)<|g1.trans g2)
def ZO:AD X kd [] dN:=by with_unfolding_all exact(L7 QG λσ H Q h=>by
 obtain⟨F,B,ad,as,rs,as',R,e,q⟩:=h;cases e;exact q [] [] ad H R .nil Grow.refl)
def C1(ha:AE X kd a fa)(hr:AD X kd es fd)(hs:starEach (a::es) X.env=(false,eval a X.env)::starEach es X.env):AD X kd (a::es) (dC fa fd):=by with_unfolding_all exact(L7 (YO ha hr hs) λσ H Q h=>by
 obtain⟨F,B,ad,as,rs,as',R,e,q⟩:=h;obtain⟨⟨p,as1⟩,h1,e⟩:=bS_<|e;obtain⟨⟨o,as2⟩,h2,e⟩:=bS_ e;obtain⟨⟨os,as3⟩,h3,e⟩:=bS_ e;cases e;refine⟨F,B,ad,as,p,as1,R,h1,λv T1 ad1 H1 R1 rv1 g1=>?_⟩;obtain⟨ad2,R2,ro2,le2⟩:=RO R1 rv1 h2;refine⟨F,_,ad2,as2,os,_,R2.hide,h3,λvs T3 ad3 H3 R3 ro3 g3=>?_⟩;have kT:=λa m u e=>g3.keep a u e λz=>z.elim ⋯ λ⟨i,y⟩=>R2.dis i a y m;have r1:=w_.lv QS<|w_.grow g3 kT<|w_.lv F2 ro2;have r3:=vI.lv QS ro3;refine q _ _ ad3 H3 (R3.unhide R2.tnd λa m z=>(R2.btr a z).2.2<|.inl m) (.cons r1 r3)<|(g1.trans<|Grow.less le2).trans ⟨λb u e n=>g3.keep b u e λz=>n<|Gw.drop b z,λb z=>?_⟩
 rcases z with z|z
 . rcases zzM.mp z with z|z
   . exact .inl<|.inl z
   . exact(g3.own b<|.inl z).elim (λy=>.inl<|Gw.drop b y) .inr
 . exact(g3.own b<|.inr z).elim (λy=>.inl<|Gw.drop b y) .inr)
def EI(h:AD X kd es fd):AE X kd (.Tuple es x1 pos) (yh fd):=by with_unfolding_all exact(yf (ud h) λσ H Q h=>by
 obtain⟨F,B,ad,as,r,as',R,e,q⟩:=h;obtain⟨⟨os,as1⟩,h1,e⟩:=bS_<|e;obtain⟨hz,e⟩:=zq e;cases e;refine⟨F,B,ad,as,os,_,R,h1,λvs T1 ad1 H1 R1 ro1 g1=>⟨by rw[ro1.length];exact hz,λp hp=>?_⟩⟩;have k:∀b o,H1 b=some o->upd H1 p (.tup vs) b=some o:=λb o hb=>by rwa [zH<|zW hb hp]
 obtain⟨R2,g2⟩:=R1.more k;have ro2:=vI.grow g2 (λa _ u h=>k a u h) ro1;have np:=λst z=>R1.trk st p z hp;refine q _ T1 ad1 _ R2 ?_<|g1.trans g2;unfold WX
 by_cases hl:os.all O.isLf=true
 . rw[if_pos hl];have:=HL ro2 hl;subst this;exact .lf<|.tup (np _) (.inl yd)<|QA ro2 hl
 . rw[if_neg hl];exact .tp (np _) yd ro2)
def QC(h:AD X kd es fd):AE X kd (.List es pos) (ya fd):=by with_unfolding_all exact(yf (sS h) λσ H Q h=>by
 obtain⟨F,B,ad,as,r,as',R,e,q⟩:=h;obtain⟨⟨os,as1⟩,h1,e⟩:=bS_<|e;obtain⟨hz,e⟩:=zq e;cases e;refine⟨F,B,ad,as,os,_,R,h1,λvs T1 ad1 H1 R1 ro1 g1=>⟨by rw[ro1.length];exact hz,λp hp=>?_⟩⟩;have k:∀b o,H1 b=some o->upd H1 p (.lst vs) b=some o:=λb o hb=>by rwa [zH<|zW hb hp]
 obtain⟨R2,g2⟩:=R1.add (N:=[p]) ⋯ (λa m=>by rwa [zzR.mp m]) k (λa m=>by rw[zzR.mp m,yd];simp);exact q _ _ ad1 _ R2 (.ls yd<|vI.grow g2 (λa _ u h=>k a u h) ro1)<|g1.trans g2)
theorem VwL.less{K O O'}(g:∀a,O' a->O a)(h:VwL K kd O H vs ds):VwL K kd O' H vs ds:=by
 induction h with
 |nil=>exact .nil
 |cons h _ ih=>exact .cons (h.less g) ih
def VM{K ad}(R:Rel K kd F B [] ad as σ H)(h:RVs K kd F B ad σ H vs rs)(e:views as rs=some (ds,lv)):VwL K kd (Uk F B (Gw [] ad) lv) H vs ds:=by
 induction h generalizing ds lv with
 |nil=>cases e;exact .nil
 |cons h t ih=>
  obtain⟨_,h1,e⟩:=bS_<|e;obtain⟨_,h2,e⟩:=bS_ e;cases e;exact .cons ((xf.vw R h h1).less Uk.meet1)<|(ih h2).less Uk.meet2
def jO{R':List V->Hp->VK->Prop}(hr:∀vs H Q,(∃O ds r,(∀a,O a->H a≠none)/\VwL X.K kd O H vs ds/\g ds=some r/\RQ X.K kd O H Q r)->R' vs H Q)
 (h:al X.K kd (fP fr g) σ H Q):J2 X.K kd fr σ H λvs H1=>R' vs H1 Q:=by
 obtain⟨F,B,ad,as,r,as',R,e,q⟩:=h;obtain⟨⟨p,as1⟩,h1,e⟩:=bS_<|e;obtain⟨⟨ds,lv⟩,h2,e⟩:=bS_ e;obtain⟨z,h3,e⟩:=bS_ e;obtain⟨y,h4,e⟩:=bS_ e;cases e;exact⟨F,B,ad,as,p,_,R,h1,λvs ad1 H1 R1 rv1 g1=>hr _ _ _ ⟨_,ds,z,R1.tr _,VM R1 rv1 h2,h3,Ye R1 h4 λw T' H' R' rv' g'=>q w T' ad1 H' R' rv'<|g1.trans g'⟩⟩
def RA{K ad}(R:Rel K kd F B [] ad as σ H)(h:RVs K kd F B ad σ H vs rs)(e:Yl as rs=some ds):RpA K kd (Lv F B (Gw [] ad) true) H vs ds:=by
 induction h generalizing ds with
 |nil=>cases e;exact .nil
 |cons h t ih=>
  rename_i v r vs rs;obtain⟨_,h1,e⟩:=bS_<|e;obtain⟨ds,h2,e⟩:=bS_ e;cases e;refine .cons ?_<|ih h2;cases r with
  |ow o=>
   cases h1;cases hf:zv o.toD with
   |true=>exact(Q5 h).flat hf
   |false=>
    refine(QV h).less λa z=>?_;have zs:o.str=true:=z.1;rw[zs];exact z.2
  |bo i=>
   have e:(match as[i]? with|some (some o)=>some _|_=>none)=some _:=h1;cases k:as[i]? with
   |none=>rw[k]at e;cases e
   |some s=>
    cases s with
    |none=>rw[k]at e;cases e
    |some o=>
     rw[k]at e;cases e;obtain⟨w,hw,ro⟩:=R.sl i _ k;rw[h.2]at hw;cases hw;exact(Q5 ro).less λa z=>nomatch z.1
def EV{K ad}(R:Rel K kd F B [] ad as σ H)(q:∀v T' H',Rel K kd F B T' ad as σ H'->xf K kd F B T' ad σ H' v (.ow o)->Grow (Gw [] ad) H (Gw T' ad) H'->Q v H'):
 kr K kd (Lv F B (Gw [] ad) true) H Q o:=λv T H' hn hl k h1 ro=>by
 obtain⟨R',g⟩:=R.news hn hl k h1;have le:∀st a,Lv F B (Gw T ad) st a->XW (Lv F B (Gw [] ad) true) _ a:=λst a z=>by
  rcases z with(z|z)|z|z
  . exact .inl<|.inl<|.inl ⟨rfl,z.2⟩
  . exact .inl<|.inl<|.inr z
  . exact .inr z
  . exact .inl<|.inr<|.inr z
 exact q v T H' R' (Ro.mono (λst v d r=>r.less<|le st) (λa vs n e=>⟨λz=>n<|le true a z,e⟩) (λ_ _ _ e=>e) ro) g
def uc(h:al X.K kd (ze fr g) σ H Q):HZ (Vv X.K kd g) [] E (J2 X.K kd fr) σ H Q:=by
 obtain⟨F,B,ad,as,r,as',R,e,q⟩:=h;obtain⟨⟨p,as1⟩,h1,e⟩:=bS_<|e;obtain⟨ds,h2,e⟩:=bS_ e;obtain⟨o,h3,e⟩:=bS_ e;cases e;refine⟨F,B,ad,as,p,_,R,h1,λvs ad1 H1 R1 rv1 g1=>?_⟩;show Vv X.K kd g _ H1 Q E;rw[zyE];exact⟨_,ds,o,R1.trk true,RA R1 rv1 h2,h3,EV R1 λw T' H' R' rv' g'=>q w T' ad1 H' R' rv'<|g1.trans g'⟩
end
inductive Out where
 |nx (as:AS)|rt (o:O)|bk (as:AS)|ct (as:AS)
abbrev SF:=AS->Option Out
structure RetOk(K:zzA)(kd:KD)(F:Addr->Prop)(T:List Addr)(H:Hp)(v:V)(o:O):Prop where
 nd:T.Nodup
 tr:∀a ∈ T,H a≠none
 ro:Ro (λ_ v d=>Rp K kd (XW F (· ∈ T)) H v d) (λa=>¬XW F (· ∈ T) a) H v o T
def FO(K:zzA)(kd:KD)(F B:Addr->Prop)(ad:Ad)(H:Hp)(D:Ends):Out->Prop
 | .nx as'=>∀σ' ad' H',Rel K kd F B [] ad' as' σ' H'->Grow (Gw [] ad) H (Gw [] ad') H'->D.nx σ' H'
 | .bk as'=>∀σ' ad' H',Rel K kd F B [] ad' as' σ' H'->Grow (Gw [] ad) H (Gw [] ad') H'->D.bk σ' H'
 | .ct as'=>∀σ' ad' H',Rel K kd F B [] ad' as' σ' H'->Grow (Gw [] ad) H (Gw [] ad') H'->D.ct σ' H'
 | .rt o=>∀v T H',RetOk K kd F T H' v o->Grow (Gw [] ad) H (· ∈ T) H'->D.rt v H'
def be(K:zzA)(kd:KD)(f:SF):TS:=λD σ H=>∃F B ad as o,Rel K kd F B [] ad as σ H/\f as=some o/\FO K kd F B ad H D o
@[irreducible] def MX(X:Cx)(kd:KD)(st:Stmt)(f:SF):Prop:=PS X st<|be X.K kd f
@[irreducible] def FW(X:Cx)(kd:KD)(st:List Stmt)(f:SF):Prop:=Nj X st<|be X.K kd f
def wu(h:PS X e t)(k:∀D σ H,t' D σ H->t D σ H):PS X e t':=λa s σ H D I q=>h a s σ H D I<|k D σ H q
def YI(h:Nj X e t)(k:∀D σ H,t' D σ H->t D σ H):Nj X e t':=λa s σ H D I q=>h a s σ H D I<|k D σ H q
def FO.pre{K ad ad1 D}(g:Grow (Gw [] ad) H (Gw [] ad1) H1)(h:FO K kd F B ad H D o):FO K kd F B ad1 H1 D o:=by
 cases o with
 |nx as=>exact λσ' ad' H' R g'=>h σ' ad' H' R (g.trans g')
 |bk as=>exact λσ' ad' H' R g'=>h σ' ad' H' R (g.trans g')
 |ct as=>exact λσ' ad' H' R g'=>h σ' ad' H' R (g.trans g')
 |rt r=>exact λv T H' R g'=>h v T H' R<|g.trans g'
noncomputable def yT:SF:=λas=>some<|.nx as
noncomputable def zh(f g:SF):SF:=λas=>(f as).bind λo=>match o with | .nx as'=>g as'|o=>some o
noncomputable def xg(c:TF)(f g:SF):SF:=λas=>(c as).bind λp=>if p.1=true then f p.2 else g p.2
noncomputable def yk(f:EF):SF:=λas=>(f as).bind λp=>some<|.nx p.2
noncomputable def HM(as:AS):RV->Option O
 | .ow o=>if o.str=true then some o else none
 | .bo i=>match as[i]? with
  |some (some o)=>if o.str=true then some o else none
  |_=>none
def zx(f:EF):SF:=λas=>(f as).bind λp=>(HM p.2 p.1).bind λo=>some<|.rt o
def zm(z:Bool)(i:Nat)(f:EF):SF:=λas=>(f as).bind λp=>(Ai p.2 (if z=true then p.1.frz else p.1)).bind λx=>if i<x.2.length then some (.nx<|x.2.set i<|some x.1)else none
def Ro.strong(h:Ro L N H v o fp)(e:o.str=true):Ro (λst v d=>st=true/\L st v d) N H v o fp:=
 Ro.rec (motive_2:=λvs os fp _=>O.strs os=true->RoL _ N H vs os fp)
  (λh e=>.lf ⟨e,h⟩) (λh _ r e=>.ls h<|r e) (λh l _ r e=>.dc h l<|r e) (λc h l _ r e=>.ob ⟨rfl,c⟩ h l<|r e) (λn h _ r e=>.tp n h<|r e) (λ_=>.nil) (λ_ _ h r e=>.cons (h ((zyC _ _).mp e).1)<|r ((zyC _ _).mp e).2) h e
section
variable{K:zzA}{kd:KD}{F B:Addr->Prop}{T:List Addr}{ad ad1:Ad}{as as1:AS}{σ:St}{H H1:Hp}{v:V}{r:RV}{o:O}
def LN(R:Rel K kd F B T ad as σ H)(hn:T'.Nodup)(hs:∀a ∈ T',Gw T ad a)(h:w_ K kd F B (Gw T ad) H v o T')(e:o.str=true):RetOk K kd F T' H v o:=by
 have b:∀a,XW F _ a->Lv F B _ true a:=λa z=>z.elim (λy=>.inl<|.inl ⟨rfl,y⟩) λy=>.inr<|hs a y;exact⟨hn,λa m=>(R.gtr a<|hs a m).1,Ro.mono (λc v d r=>by obtain⟨rfl,r⟩:=r;exact r.less b) (λa f n e=>⟨λz=>n<|b a z,e⟩) (λ_ _ _ e=>e)<|Ro.strong h e⟩
def Rel.ret(R:Rel K kd F B T ad as σ H)(hr:xf K kd F B T ad σ H v r)(e:HM as r=some o):∃T',RetOk K kd F T' H v o/\∀b ∈ T',Gw T ad b:=by
 cases r with
 |ow g=>
  obtain⟨c,rfl⟩:=zq e;exact⟨T,LN R R.tnd (λa m=>.inl m) hr c,λa m=>.inl m⟩
 |bo i=>
  have e:(match as[i]? with|some (some o)=>if o.str=true then some o else none|_=>none)=some o:=e;cases k:as[i]? with
  |none=>rw[k]at e;cases e
  |some s=>
   cases s with
   |none=>rw[k]at e;cases e
   |some h=>
    rw[k]at e;obtain⟨c,rfl⟩:=zq e;obtain⟨w,d,f⟩:=R.sl i _ k;rw[hr.2]at d;cases d;exact⟨ad i,LN R (R.nd i) (λa m=>.inr ⟨i,m⟩) f c,λa m=>.inr ⟨i,m⟩⟩
end
section
variable{X:Cx}{kd:KD}{st:Stmt}{sts rest:List Stmt}{a b c e:Expr}{fa fb:EF}{ta:TF}{pos:Pos}{f g:SF}
def VT:FW X kd [] yT:=by with_unfolding_all exact(YI LV λD σ H h=>by
 obtain⟨F,B,a,as,o,R,e,q⟩:=h;cases e;exact q σ a H R Grow.refl)
def Yz(h1:MX X kd st f)(h2:FW X kd rest g):FW X kd (st::rest) (zh f g):=by with_unfolding_all exact(YI (Qq h1 h2) λD σ H h=>by
 obtain⟨F,B,ad,as,o,R,e,q⟩:=h;obtain⟨o1,e1,e⟩:=bS_<|e;refine⟨F,B,ad,as,o1,R,e1, ?_⟩;cases o1 with
 |nx as1=>exact λσ' ad' H' R' g'=>⟨F,B,ad',as1,o,R',e,q.pre g'⟩
 |bk as1=>cases e;exact q
 |ct as1=>cases e;exact q
 |rt r=>cases e;exact q)
def Z_(h1:MX X kd st f):FW X kd [st] f:=by with_unfolding_all exact(RF h1)
noncomputable def CV:SF:=λ_=>none
def oT:MX X kd st CV:=by with_unfolding_all exact(λa s σ H D I h=>by obtain⟨F,B,b,as,o,R,e,q⟩:=h;cases e)
def N1(hc:AT X kd c ta)(ha:FW X kd sts f)(hb:FW X kd rest g):MX X kd (.If c sts rest pos) (xg ta f g):=by with_unfolding_all exact(wu (Oh hc ha hb) λD σ H h=>by
 obtain⟨F,B,i,as,o,R,e,q⟩:=h;obtain⟨⟨p,a⟩,j,e⟩:=bS_<|e;refine⟨F,B,i,as,p,a,R,j,λb k d g=>?_⟩;cases p with
 |true=>exact⟨F,B,b,a,o,d,e,q.pre g⟩
 |false=>exact⟨F,B,b,a,o,d,e,q.pre g⟩)
def J3(he:AE X kd e fa)(hs:swapsWith e none pos.line X.env=pure false):MX X kd (.Expr e pos) (yk fa):=by with_unfolding_all exact(wu (Ru he hs) λD σ H h=>by
 obtain⟨F,B,c,as,o,R,e,q⟩:=h;obtain⟨⟨p,a⟩,d,e⟩:=bS_<|e;cases e;exact⟨F,B,c,as,p,a,R,d,λv j b f i k g=>q σ b f i.drop<|g.trans<|Grow.less Gw.drop⟩)
def Vt(he:AE X kd e fa):MX X kd (.Return (some e) pos) (zx fa):=by with_unfolding_all exact(wu (OX he) λD σ H h=>by
 obtain⟨F,B,b,as,o,R,e,q⟩:=h;obtain⟨⟨p,a⟩,c,e⟩:=bS_<|e;obtain⟨r,d,e⟩:=bS_ e;cases e;refine⟨F,B,b,as,p,a,R,c,λv s f i j k g=>?_⟩;obtain⟨l,m,n⟩:=j.ret k d;exact q v l i m<|g.trans<|Grow.less n)
def Eb{K ad}{i:Nat}(R:Rel K kd F B T ad as σ H)(rv:xf K kd F B T ad σ H v r)
 (h2:Ai as (if z=true then r.frz else r)=some (o,as2)) (hl:i<as2.length):∃ad',Rel K kd F B [] ad' (as2.set i<|some o) (σ.set i<|some v) H/\∀a,Gw [] ad' a->Gw T ad a:=by
 cases z with
 |true=>
  obtain⟨b,c,d,e⟩:=RO R.drop (xf.drop R rv) h2;exact⟨_,c.put hl d,λa y=>Gw.drop a<|e a<|Xb a y⟩
 |false=>
  obtain⟨b,c,d,e⟩:=RO R rv h2;exact⟨_,c.put hl d,λa y=>e a<|Xb a y⟩
def Hi(hN:X.N.Nodup)(hi:X.N[i]? = some x)(hx:Loc X.env.scope x)(he:AE X kd e fa)(hs:swapsWith e (some<|.Name x pos') pos.line X.env=pure false)(hf:X.fn x=true\/X.env.scope.names.lookup x=some .local):
 MX X kd (.Assign [.Name x pos'] e pos) (zm z i fa):=by with_unfolding_all exact(wu (S_ hN hi hx he hs hf) λD σ H h=>by
 obtain⟨F,B,c,as,o,R,e,q⟩:=h;obtain⟨⟨p,a⟩,d,e⟩:=bS_<|e;obtain⟨_,j,e⟩:=bS_ e;obtain⟨k,e⟩:=zq e;cases e;refine⟨F,B,c,as,p,a,R,d,λv t l m n r g=>?_⟩;obtain⟨b,R2,s⟩:=Eb n r j k;exact q _ b m R2<|g.trans<|Grow.less s)
end
noncomputable def vX(n:Nat)(ds:List (Bool×D)):AS:=ds.map (λx=>some<|.lf x.1 x.2)++List.replicate (n-ds.length) none
noncomputable def lY:Out->Option O
 | .nx _=>some<|.lf true .non
 | .rt o=>some o
 |_=>none
def xD(n m:Nat)(f:SF)(ds:List (Bool×D)):Option O:=if ds.length=m then(f<|vX n ds).bind lY else none
theorem RpA.get{K}:∀{vs:List V}{ds:List (Bool×D)}{i:Nat}{x:Bool×D},RpA K kd F H vs ds->ds[i]? = some x->∃v,vs[i]? = some v/\Rp K kd (λa=>x.1=true/\F a) H v x.2
 |_,_,_,_,.nil,e=>by simp at e
 |_,_,0,_,.cons h _,e=>by simp at e;subst e;exact⟨_,rfl,h⟩
 |_,_,i+1,_,.cons _ r,e=>by
  obtain⟨v,b,c⟩:=RpA.get r ⋯;exact⟨v,⋯,c⟩
def BQ{K}(ht:∀a,F a->H a≠none)(rp:RpA K kd F H vs ds):
 Rel K kd F (λ_=>False) [] (λ_=>[]) (vX N.length ds) (L2.start N vs) H:=by
 have c:=rp.length;have f:∀a,¬Gw [] (λ_=>[]) a:=λa z=>z.elim ⋯ λ⟨_,y⟩=>nomatch y;refine⟨by unfold vX L2.start;simp[c],λ_ _=>rfl,λ_=>zyJ,(λ_ _ _ z=>nomatch z),zyJ,(λ_ _ _ z=>nomatch z),ht,⋯,λa z=>(f a z).elim,λi s e=>?_⟩;unfold vX at e;unfold L2.start
 by_cases g:i<ds.length
 . rw[zyP (by rwa [zzB]),zzI]at e;obtain⟨d,h,b⟩:=zzX.mp e;subst b;obtain⟨v,j,k⟩:=rp.get h;rw[zyP (by rwa [zzB,c]),zzI,j];refine⟨v,rfl,.lf<|k.less λa z=>?_⟩
   rcases z with(z|z)|z
   . exact z
   . exact z.elim
   . exact(f a z).elim
 . rw[zyR<|by rw[zzB];omega]at e;have:=zyA e;have b:=(List.mem_replicate.mp this).2;subst b;rfl
section
variable{P:Program}{w:World}{K:zzA}{mg:Str->Option Value}{base:Heap}
def SK(q:kr K kd F H Q o)(ro:RetOk K kd F T H' v o)(g:Grow (Gw [] λ_=>[]) H (· ∈ T) H'):Q v H':=by
 have c:∀a,¬Gw [] (λ_=>[]) a:=λa z=>z.elim ⋯ λ⟨_,y⟩=>nomatch y;exact q v T H' ro.nd (λa m=>(g.own a m).resolve_left<|c a) (λb u h=>g.keep b u h<|c b) ro.tr ro.ro
def S4{st}{k:Nat}(Fn:Fun K x qual st f fd)(S:FnScope N ps (zL st))
 (hb:∀(cdv:Value) (A:Around) (outer:List Env) (s:Shared) (H:Hp) (E:XK),Room k (A.deeper<|envOfC qual (zL st) s.heap.objs.size f cdv)->FW (Rg YG P w K mg base N qual (zL st) f cdv A outer s H E).nox kd (vJ st) c):
 FnOk P w K mg base YG (k+1) f fd ps (Vv K kd<|xD N.length ps.length c):=by
 with_unfolding_all (
 refine Fn.ok S (λvs H Q E h=>?_) λcdv A outer s H vs Q E hr h=>⟨_,hb cdv A outer s H E hr, ?_⟩
 . obtain⟨F,ds,r,_,rp,e,_⟩:=h;unfold xD at e
   by_cases hl:ds.length=ps.length
   . rw[rp.length,hl]
   . rw[if_neg hl]at e;cases e
 . obtain⟨F,ds,r,ht,rp,e,q⟩:=h;unfold xD at e
   by_cases hl:ds.length=ps.length
   . rw[if_pos hl]at e;obtain⟨o,e1,e⟩:=bS_ e;refine⟨F,λ_=>False,λ_=>[],vX N.length ds,o,BQ ht rp,e1, ?_⟩;cases o with
     |nx as=>cases e;exact λσ' ad' H' R g=>SK q ⟨zyJ,⋯,.lf .non⟩ (g.trans<|Grow.less ⋯)
     |rt o=>cases e;exact λv T H' ro g=>SK q ro g
     |bk=>cases e
     |ct=>cases e
   . rw[if_neg hl]at e;cases e)
end
abbrev wA:=Bool×D
abbrev GF:=wA->AS->Option AS
abbrev Dk:=List wA->AS->Option AS
def kids(st:Bool)(ds:List D):List wA:=ds.map λd=>(zv d||st,d)
inductive RpI(K:zzA)(kd:KD)(F B G:Addr->Prop)(H:Hp):List V->List wA->Prop
 |nil:RpI K kd F B G H [] []
 |cons {v:V}{x:wA}{vs:List V}{ds:List wA}:Rp K kd (Lv F B G x.1) H v x.2->RpI K kd F B G H vs ds->RpI K kd F B G H (v::vs) (x::ds)
def mL(K:zzA)(kd:KD)(S:List Nat)(g:GF):TG:=λv σ H Q=>∃F B ad as x as',Rel K kd F B [] ad as σ H/\Rp K kd (Lv F B (Gw [] ad) x.1) H v x.2/\g x as=some as'/\
 ∀σ' ad' H',Rel K kd F B [] ad' as' σ' H'->Grow (Gw [] ad) H (Gw [] ad') H'->(∀j,j ∉ S->σ'[j]? = σ[j]?)->Q σ' H'
def lK(K:zzA)(kd:KD)(S:List Nat)(g:Dk):t9:=λvs σ H Q=>∃F B ad as ds as',Rel K kd F B [] ad as σ H/\RpI K kd F B (Gw [] ad) H vs ds/\g ds as=some as'/\
 ∀σ' ad' H',Rel K kd F B [] ad' as' σ' H'->Grow (Gw [] ad) H (Gw [] ad') H'->(∀j,j ∉ S->σ'[j]? = σ[j]?)->Q σ' H'
@[irreducible] def AG(X:Cx)(kd:KD)(tg:Expr)(S:List Nat)(g:GF):Prop:=PG X tg<|mL X.K kd S g
@[irreducible] def Dg(X:Cx)(kd:KD)(tg:List Expr)(S:List Nat)(g:Dk):Prop:=A0 X tg<|lK X.K kd S g
def DX(h:PG X e t)(k:∀v σ H Q,t' v σ H Q->t v σ H Q):PG X e t':=λa s σ H v u Q I r q=>h a s σ H v u Q I r<|k v σ H Q q
def FV(h:A0 X e t)(k:∀v σ H Q,t' v σ H Q->t v σ H Q):A0 X e t':=λa s σ H v u Q I r q=>h a s σ H v u Q I r<|k v σ H Q q
noncomputable def gN(i:Nat):GF:=λx as=>if i<as.length then some (as.set i<|some<|.lf x.1 x.2)else none
noncomputable def Yq:Dk:=λds as=>match ds with | []=>some as|_::_=>none
noncomputable def yI(g:GF)(gs:Dk):Dk:=λds as=>match ds with | []=>none|d::r=>(g d as).bind λas1=>gs r as1
def gT(n:Nat)(gs:Dk):GF:=λx as=>match x.2 with
 | .tup ds=>if ds.length=n then gs (kids x.1 ds) as else none
 | .lst ds=>if ds.length=n then gs (kids x.1 ds) as else none
 |_=>none
section
variable{K:zzA}{kd:KD}{F B G G':Addr->Prop}{H H':Hp}
theorem RpI.length(h:RpI K kd F B G H vs ds):vs.length=ds.length:=by
 induction h with
 |nil=>rfl
 |cons _ _ a=>exact congrArg _ a
theorem RpI.grow(g:Grow G H G' H')(h:RpI K kd F B G H vs ds):RpI K kd F B G' H' vs ds:=by
 induction h with
 |nil=>exact .nil
 |cons h _ a=>exact .cons (Rp.grow g h) a
def RpI.get{i:Nat}(h:RpI K kd F B G H vs ds)(e:ds[i]? = some x):∃v,vs[i]? = some v/\Rp K kd (Lv F B G x.1) H v x.2:=by
 induction h generalizing i with
 |nil=>simp at e
 |cons h r a=>
  cases i with
  |zero=>simp at e;subst e;exact⟨_,rfl,h⟩
  |succ i=>
   obtain⟨v,b,c⟩:=a ⋯;exact⟨v,⋯,c⟩
def Wy{st}(h:RpL K kd (Lv F B G st) H vs ds):RpI K kd F B G H vs (kids st ds):=
 RpL.ind (P:=λa b=>RpI K kd F B G H a<|kids st b) .nil (λ{v d a b} h _ c=>by
  refine .cons (x:=(zv d||st,d)) ?_ c;cases e:zv d with
  |true=>exact h.flat e
  |false=>exact h) h
end
section
variable{prog:Program}{w:World}{A:Around}{E:Value->Shared->Prop}{s:Shared}
theorem GL(hne:l≠it):∀(n i:Nat) (s:Shared) (Q:List Value->Shared->Prop),s.heap.IsListIter it l i->s.heap.IsList l items->i+n<=items.size->
 (∀h',h'.IsListIter it l (i+n)->Heap.SameBut it s.heap h'->Q ((items.toList.drop i).take n) {s with heap:=h'})->wpAny (model prog w) A (draw (.ref it) n) Q E s
 |0,i,s,Q,a,_,_,f=>zxE (by simpa using f s.heap a (Heap.SameBut.refl ..))
 |n+1,i,s,Q,a,h,j,f=>by
  have b:i<items.size:=⋯;refine zxD<|wpAny_pyNext_list_item a h (x:=items[i]) ⋯ λo c d=>?_;refine zxD<|zxI<|GL hne n _ _ _ c (h.extBut d.extBut hne) ⋯ λk e g=>zxE ?_;have m:items.toList.drop i=items[i]::items.toList.drop (i+1):=by simp[zyQ,b]
  have:=f k (by rwa [show i+_=i+1+n by omega])<|d.trans g
  rwa [m]at this
def Md(hh:A.handled=none)(ht:s.heap.IsList l items)
 (hn:targets.length=items.size) (hstar:targets.findIdx? (·.1)=none)
 (h:∀h',Heap.ExtBut s.heap.objs.size s.heap h'->wpAny (model prog w) A (assignInOrder (targets.map (·.2)) items.toList) Q E {s with heap:=h'}):
 wpAny (model prog w) A (unpack (.ref l) targets) Q E s:=by
 unfold unpack;rw[hn,hstar];refine zxD<|zxI ?_;have a:l≠s.heap.objs.size:=by obtain⟨o,k,_⟩:=ht;exact zzQ<|zxG k
 refine zxD ?_;refine zxD<|wpAny_specialOf ht.typeIs PySem.F.slot_list_iter.lookup ?_;refine zxE ?_;refine zxD<|zxI<|wpAny_pyIter_list ht ?_;refine zxD<|zxI<|GL a items.size 0 _ _ ⟨_,zxH _ rfl,rfl,rfl⟩ (ht.push _) ⋯ λm c d=>?_;have f:List.take items.size (List.drop 0 items.toList)=items.toList:=List.take_of_length_le ⋯;rw[f];rw[if_neg ⋯];have g:=(ht.push _).extBut d.extBut a;refine zxD<|zxI<|wpAny_pyNext_list_end hh c g ⋯ λn i=>?_;exact zxE<|h n λb o j e=>i b o j<|d.extBut b o j<|zxF _ e
end
section
variable{X:Cx}{kd:KD}{a b c e tg iter:Expr}{es:List Expr}{body:List Stmt}{fa fb:EF}{pos:Pos}{g:GF}{gs:Dk}{f:SF}{ta:TF}{S S1 S2:List Nat}
def kS(K:zzA)(n:Nat)(t:t9):TG:=λv σ H Q=>∃a xs,v = .ref a/\Yy K H a xs/\xs.length=n/\t xs σ H Q
def OJ(hc:X.calm=true)(h:A0 X es t)(hn:(assignEach es X.env).length=n)(hst:(assignEach es X.env).findIdx? (·.1)=none):PG X (.Tuple es k pos) (kS X.K n t):=by
 intro c s σ H v u Q I r d;obtain⟨a,g,i,j,l,d⟩:=d;subst i;cases r;obtain⟨m,f,p,y⟩:=I.list j;refine zxD<|wpAny_standAt<|Md (I.ok.hd hc) p.isList (by simp[hn,<-l,f.length]) hst λq w=>?_;have x:=I.kept (t':=s.toks) λb o e=>w b o (zzQ<|zxG e) e;exact h c _ σ H g _ Q x ⋯ d
def Bn(hN:X.N.Nodup)(hi:X.N[i]? = some x)(hx:Loc X.env.scope x)(hf:X.fn x=true\/X.env.scope.names.lookup x=some .local):AG X kd (.Name x pos) [i] (gN i):=by with_unfolding_all exact(DX (C2 hN hi hx hf) λv σ H Q h=>by
 obtain⟨F,B,f,as,y,a,R,b,e,q⟩:=h;obtain⟨c,e⟩:=zq e;cases e;exact q _ _ H (R.put c<|.lf b) (Grow.less Xb) λj d=>zzY λz=>d<|by rw[z];simp)
def V6:Dg X kd [] [] Yq:=by with_unfolding_all exact(FV Ik λd σ H Q h=>by
 obtain⟨F,B,a,as,f,b,R,c,e,q⟩:=h;cases c with
 |nil=>cases e;exact⟨rfl,q σ a H R Grow.refl λ_ _=>rfl⟩
 |cons=>cases e)
def Zg(h1:AG X kd a S1 g)(h2:Dg X kd es S2 gs)(hs:(assignEach (a::es) X.env).map (·.2)=assign a X.env::(assignEach es X.env).map (·.2)):Dg X kd (a::es) (S1++S2) (yI g gs):=by with_unfolding_all exact(FV (OE h1 h2 hs) λx σ H Q h=>by
 obtain⟨F,B,l,as,y,c,R,m,e,q⟩:=h;cases m with
 |nil=>cases e
 |cons r n=>
  obtain⟨b,o,e⟩:=bS_<|e;refine⟨_,_,rfl,F,B,l,as,_,b,R,r,o,λA d C p i s=>?_⟩;exact⟨F,B,d,b,_,c,p,n.grow i,e,λt f u R2 v w=>q t f u R2 (i.trans v) λj k=>(w j λz=>k<|zzL _ z).trans<|s j λz=>k<|zzP _ z⟩)
def Pj{k n:Nat}(hc:X.calm=true)(h:Dg X kd es S gs)(hn:(assignEach es X.env).length=n)(hst:(assignEach es X.env).findIdx? (·.1)=none):AG X kd (.Tuple es k pos) S (gT n gs):=by
 with_unfolding_all (
 intro pins s σ H v u Q I r hw;obtain⟨F,B,ad,as,⟨st,d⟩,as',R,rp,e,q⟩:=hw;cases d with
 |tup ds=>
  have e:(if ds.length=n then gs _ as else none)=some as':=e
  by_cases hl:ds.length=n
  . rw[if_pos hl]at e;have go:∃a xs,v = .ref a/\Vu X.K H a xs/\RpL X.K kd (Lv F B (Gw [] ad) st) H xs ds:=by
     cases rp with
     |tup n h r=>exact⟨_,_,rfl,.inl h,r⟩
     |tupK a b c e f r=>exact⟨_,_,rfl,.inr ⟨_,_,_,a,b,c,e,f⟩,r⟩
    obtain⟨a,xs,rfl,hs,rl⟩:=go;exact uZ hc h hn hst pins s σ H _ u Q I r ⟨a,xs,rfl,hs,by rw[rl.length,hl],F,B,ad,as,_,as',R,Wy rl,e,q⟩
  . rw[if_neg hl]at e;cases e
 |lst ds=>
  have e:(if ds.length=n then gs _ as else none)=some as':=e
  by_cases hl:ds.length=n
  . rw[if_pos hl]at e;cases rp with
    |lstK a b c r'=>exact OJ hc h hn hst pins s σ H _ u Q I r ⟨_,_,rfl,.inr ⟨_,_,_,a,rfl,rfl,rfl,b,c⟩,by rw[r'.length,hl],F,B,ad,as,_,as',R,Wy r',e,q⟩
    |lst n h' r'=>exact OJ hc h hn hst pins s σ H _ u Q I r ⟨_,_,rfl,.inl h',by rw[r'.length,hl],F,B,ad,as,_,as',R,Wy r',e,q⟩
  . rw[if_neg hl]at e;cases e
 |_=>cases e)
def Wm(as:AS)(r:RV):Option (wA×AS):=(Ai as r.frz).bind λx=>match x.1 with | .lf st d=>some ((st,d),x.2)|_=>none
def ZK{K ad}(R:Rel K kd F B T ad as σ H)(h:xf K kd F B T ad σ H v r)(e:Wm as r=some (x,as')):
 ∃ad',Rel K kd F B [] ad' as' σ H/\Rp K kd (Lv F B (Gw [] ad') x.1) H v x.2/\∀a,Gw [] ad' a->Gw T ad a:=by
 obtain⟨⟨o,c⟩,f,e⟩:=bS_ e;obtain⟨b,g,i,j⟩:=RO R.drop (xf.drop R h) f;cases o with
 |lf l d=>
  cases e;refine⟨b,g, ?_,λa y=>Gw.drop a<|j a y⟩;have:=QV i;exact this
 |nd k m=>cases e
def YV(f:EF)(g:GF):SF:=λas=>(f as).bind λp=>(Wm p.2 p.1).bind λq=>(g q.1 q.2).bind λas'=>some<|.nx as'
def tY(he:AE X kd e fa)(hg:AG X kd tg S g)(hs:swapsWithSole [tg] e pos.line X.env=pure false)(hw:swappedStores [tg] e X.env=pure none)(h1:(assignEach [tg] X.env).map (·.2)=[assign tg X.env]):
 MX X kd (.Assign [tg] e pos) (YV fa g):=by with_unfolding_all exact(wu (HY he hg hs hw h1) λD σ H h=>by
 obtain⟨F,B,ad,as,o,R,e,q⟩:=h;obtain⟨⟨p,as1⟩,h1,e⟩:=bS_<|e;obtain⟨⟨x,as2⟩,h2,e⟩:=bS_ e;obtain⟨as3,h3,e⟩:=bS_ e;cases e;refine⟨F,B,ad,as,p,as1,R,h1,λv T' ad' H' R' rv g1=>?_⟩;obtain⟨ad2,R2,rp,le⟩:=ZK R' rv h2;exact⟨F,B,ad2,as2,_,as3,R2,rp,h3,λσ' ad' H' R' g' _=>q σ' ad' H' R'<|(g1.trans<|Grow.less le).trans g'⟩)
structure ItOk(K:zzA)(kd:KD)(F B:Addr->Prop)(ad:Ad)(H:Hp)(J:It)(ds:List wA):Prop where
 all:∀(ad2:Ad) (H2:Hp),Grow (Gw [] ad) H (Gw [] ad2) H2->(∀st a,Lv F B (Gw [] ad2) st a->H2 a≠none)->∀i,(i<ds.length->J.go i H2)/\(ds.length<=i->J.stop i H2)/\
  ∀v H3,J.yld i H2 v H3->(∀b o,H2 b=some o->H3 b=some o)/\∀x,ds[i]? = some x->Rp K kd (Lv F B (Gw [] ad2) x.1) H3 v x.2
abbrev IF:=AS->Option (List wA×AS)
def gc(K:zzA)(kd:KD)(f:IF):TI:=λσ H R=>∃F B ad as ds as',Rel K kd F B [] ad as σ H/\f as=some (ds,as')/\
 ∀J ad' H',Rel K kd F B [] ad' as' σ H'->Grow (Gw [] ad) H (Gw [] ad') H'->ItOk K kd F B ad' H' J ds->R J H'
@[irreducible] def AI(X:Cx)(kd:KD)(tg iter:Expr)(f:IF):Prop:=PI X tg iter<|gc X.K kd f
noncomputable def forL(g:GF)(f:SF):List wA->AS->Option Out
 | [],as=>some (.nx as)
 |d::r,as=>(g d as).bind λas1=>(f as1).bind λo=>match o with
  | .nx as'=>forL g f r as'
  | .ct as'=>forL g f r as'
  | .bk as'=>some<|.nx as'
  | .rt r=>some<|.rt r
def yu(fi:IF)(g:GF)(f:SF):SF:=λas=>(fi as).bind λp=>forL g f p.1 p.2
def SU(hp:PassesOwn (model X.prog X.w) X.A X.env X.xe)(hc:X.calm=true)(hi:AI X kd tg iter fi)(hg:AG X kd tg S g)(hb:FW X kd body f)(hs:∀x,foldedSetIterable iter X.env x=pure x):
 MX X kd (.For tg iter body [] pos) (yu fi g f):=by with_unfolding_all exact(wu (SR hp hc hi hg hb hs) λD σ H h=>by
 obtain⟨F,B,ad,as,o,R,e,q⟩:=h;obtain⟨⟨ds,as1⟩,h1,e⟩:=bS_<|e;refine⟨F,B,ad,as,ds,as1,R,h1,λJ ad1 H1 R1 g1 it=>?_⟩;refine⟨λi m σ2 H2=>m+i=ds.length/\∃ad2 as2,Rel X.K kd F B [] ad2 as2 σ2 H2/\Grow _ H1 (Gw [] ad2) H2/\forL g f (ds.drop i) as2=some o,⟨ds.length,rfl,ad1,as1,R1,Grow.refl,e⟩, ?_⟩
 rintro i m σ2 H2 ⟨hm,ad2,as2,R2,g2,e2⟩
 obtain⟨k1,k2,k3⟩:=it.all ad2 H2 g2 R2.trk i
 by_cases hi:i<ds.length
 . refine .inr ⟨k1 hi,λσ3 H3=>∃ad3 as3,Rel X.K kd F B [] ad3 as3 σ3 H3/\Grow _ H1 _ H3/\forL g f _ as3=some o,λσ3 H3 ⟨ad3,as3,R3,g3,e3⟩=>⟨m-1,⋯,⋯,ad3,as3,R3,g3,e3⟩,λv H3 hy=>?_⟩;obtain⟨kp,rp⟩:=k3 v H3 hy;rw[zyQ hi]at e2;obtain⟨as3,e3,e2⟩:=bS_<|e2;obtain⟨o3,e4,e2⟩:=bS_ e2;obtain⟨R3,g3⟩:=R2.more kp;refine⟨F,B,ad2,as2,_,as3,R3,rp _<|zzE hi,e3,λσ4 ad4 H4 R4 g4 _=>?_⟩;refine⟨F,B,ad4,as3,o3,R4,e4, ?_⟩;have gg:=(g2.trans g3).trans g4;cases o3 with
   |nx as5=>exact λσ5 ad5 H5 R5 g5=>⟨ad5,as5,R5,gg.trans g5,e2⟩
   |ct as5=>exact λσ5 ad5 H5 R5 g5=>⟨ad5,as5,R5,gg.trans g5,e2⟩
   |bk as5=>
    cases e2;exact λσ5 ad5 H5 R5 g5=>q σ5 ad5 H5 R5 (g1.trans<|gg.trans g5)
   |rt r=>
    cases e2;exact λv T H5 ro g5=>q v T H5 ro<|g1.trans<|gg.trans g5
 . refine .inl ⟨k2 ⋯, ?_⟩;rw[List.drop_eq_nil_of_le ⋯]at e2;cases e2;exact q σ2 ad2 H2 R2<|g1.trans g2)
def UI:wA->Option (List wA)
 |(st,.lst ds)=>some (kids st ds)
 |(st,.tup ds)=>some (kids st ds)
 |_=>none
def XF(f:EF):IF:=λas=>(f as).bind λp=>(Wm p.2 p.1).bind λq=>(UI q.1).bind λds=>some (ds,q.2)
def FX{K ad a}(hs:∀(ad3:Ad) (H3:Hp),Grow (Gw [] ad) H (Gw [] ad3) H3->Yy K H3 a vs)(r:RpI K kd F B (Gw [] ad) H vs ds):ItOk K kd F B ad H (mH K a) ds:=⟨λc j h _ i=>by
 have b:=hs c j h;have e:=r.grow h;refine⟨λf=>?_,λf=>⟨_,b,by rwa [r.length]⟩,λv o k=>?_⟩
 . obtain⟨u,g,_⟩:=r.get<|zzE f;exact⟨_,u,b,g⟩
 . obtain⟨rfl,l⟩:=k;refine⟨λ_ _ z=>z,λd m=>?_⟩;obtain⟨u,g,n⟩:=e.get m;have:=l _ b;rw[g]at this;cases this;exact n⟩
def uM{K ad a}(hs:∀(ad3:Ad) (H3:Hp),Grow (Gw [] ad) H (Gw [] ad3) H3->Vu K H3 a vs)(r:RpI K kd F B (Gw [] ad) H vs ds):ItOk K kd F B ad H (mE K a) ds:=⟨λc j h _ i=>by
 have b:=hs c j h;have e:=r.grow h;refine⟨λf=>?_,λf=>⟨_,b,by rwa [r.length]⟩,λv o k=>?_⟩
 . obtain⟨u,g,_⟩:=r.get<|zzE f;exact⟨_,u,b,g⟩
 . obtain⟨rfl,l⟩:=k;refine⟨λ_ _ z=>z,λd m=>?_⟩;obtain⟨u,g,n⟩:=e.get m;have:=l _ b;rw[g]at this;cases this;exact n⟩
def HW(he:AE X kd e fa):AI X kd tg e (XF fa):=by
 with_unfolding_all (
 intro pins s σ H R I h;obtain⟨F,B,ad,as,ds,as',Rl,e,q⟩:=h;obtain⟨⟨p,as1⟩,h1,e⟩:=bS_<|e;obtain⟨⟨⟨st,x⟩,as2⟩,h2,e⟩:=bS_ e;obtain⟨ys,h3,e⟩:=bS_ e;cases e;cases x with
 |lst xs=>
  cases h3;refine LH he pins s σ H R I ⟨F,B,ad,as,p,as1,Rl,h1,λv T1 ad1 H1 R1 rv1 g1=>?_⟩;obtain⟨ad2,R2,rp,le⟩:=ZK R1 rv1 h2;cases rp with
  |lst hn hr rl=>exact⟨_,rfl,⟨_,.inl hr⟩,q _ ad2 H1 R2 (g1.trans<|Grow.less le)<|FX (λad3 H3 g3=>.inl<|Wu g3 (λz=>hn<|.inr z) hr)<|Wy rl⟩
  |lstK a b c rl=>exact⟨_,rfl,⟨_,.inr ⟨_,_,_,a,rfl,rfl,rfl,b,c⟩⟩,q _ ad2 H1 R2 (g1.trans<|Grow.less le)<|FX (λad3 H3 g3=>.inr ⟨_,_,_,a,rfl,rfl,rfl,b,c⟩)<|Wy rl⟩
 |tup xs=>
  cases h3;refine Ek he pins s σ H R I ⟨F,B,ad,as,p,as1,Rl,h1,λv T1 ad1 H1 R1 rv1 g1=>?_⟩;obtain⟨ad2,R2,rp,le⟩:=ZK R1 rv1 h2;have go:∃a ys,v = .ref a/\(∀ad3 H3,Grow (Gw [] ad2) H1 (Gw [] ad3) H3->Vu X.K H3 a ys)/\RpL X.K kd (Lv F B (Gw [] ad2) st) H1 ys xs:=by
   cases rp with
   |tup n h r=>exact⟨_,_,rfl,λad3 H3 g3=>.inl<|Wu g3 (λz=>n<|.inr z) h,r⟩
   |tupK a b c e f r=>exact⟨_,_,rfl,λad3 H3 g3=>.inr ⟨_,_,_,a,b,c,e,f⟩,r⟩
  obtain⟨a,ys,rfl,hs,rl⟩:=go;exact⟨_,rfl,⟨_,hs ad2 H1 Grow.refl⟩,q _ ad2 H1 R2 (g1.trans<|Grow.less le)<|uM hs<|Wy rl⟩
 |_=>cases h3)
noncomputable def yU(lo:Int)(n:Nat):List wA:=(List.range n).map λ(i:Nat)=>(true,D.int<|lo+(i:Int))
def SO{K ad}(lo)(n:Nat):ItOk K kd F B ad H (rd lo n) (yU lo n):=⟨λe h g _ i=>by
 have c:(yU lo n).length=n:=by unfold yU;simp
 refine⟨λa=>by rw[c]at a;exact a,λa=>by rw[c]at a;exact a,λv j f=>?_⟩;obtain⟨rfl,rfl⟩:=f;refine⟨λ_ _ z=>z,λd b=>?_⟩;have a:i<n:=by rw[<-c];exact(zzG.mp b).1
 unfold yU at b;rw[zzI,List.getElem?_range a]at b;cases b;exact .int _⟩
noncomputable def pM:List D->Option D
 | [x]=>some x
 |_=>none
def JK(h:pM ds=some d):ds=[d]:=by
 cases ds with
 |nil=>cases h
 |cons x r=>
  cases r with
  |nil=>cases h;rfl
  |cons _ _=>cases h
def yM(ds:List D):Option (List wA):=((pM ds).bind Fw).bind λj=>if -(2 ^ 62)<=j/\j<2 ^ 62 then some (yU 0 j.toNat)else none
def FI(h:yM ds=some xs):∃j,ds=[.int j]/\(if -(2 ^ 62)<=j/\j<2 ^ 62 then some (yU 0 j.toNat)else none)=some xs:=by
 obtain⟨j,a,h⟩:=bS_ h;obtain⟨d,b,a⟩:=bS_ a;cases Oz a;exact⟨j,JK b,h⟩
def Ah:List D->Option (List wA)
 | [.int i,.int j]=>if -(2 ^ 62)<=i/\i<2 ^ 62 /\ -(2 ^ 62)<=j/\j<2 ^ 62 then some (yU i (j-i).toNat)else none
 |_=>none
def yt(fr:AF)(h:List D->Option (List wA)):IF:=λas=>(fr as).bind λp=>(views p.2 p.1).bind λds=>(h ds.1).bind λxs=>some (xs,p.2)
def So(hg:Gl X "range")(hm:X.mg "range"=none)(ha:AA X kd [a] fr)(hs:starEach [a] X.env=[(false,eval a X.env)]):AI X kd tg (.Call (.Name "range" p) [a] [] pos) (yt fr yM):=by
 with_unfolding_all (
 intro b s σ H R I h;obtain⟨F,B,k,as,A,l,m,e,q⟩:=h;obtain⟨⟨n,o⟩,r,e⟩:=bS_<|e;obtain⟨⟨C,D⟩,t,e⟩:=bS_ e;obtain⟨E,c,e⟩:=bS_ e;cases e;obtain⟨j,rfl,c⟩:=FI c
 . obtain⟨g,u⟩:=zq c;cases u;refine GO hg hm ha hs b s σ H R I ⟨F,B,k,as,n,_,m,r,λG d v i f w=>?_⟩;have x:=VM i f t;cases x with
   |cons y z=>
    cases z;cases y;exact⟨j,rfl,g.1,g.2,q _ d v i w<|SO 0 _⟩)
def Kw(hg:Gl X "range")(hm:X.mg "range"=none)(ha:AA X kd [a,b] fr)(hs:starEach [a,b] X.env=[(false,eval a X.env),(false,eval b X.env)])(hs2:starEach [b] X.env=[(false,eval b X.env)]):AI X kd tg (.Call (.Name "range" p) [a,b] [] pos) (yt fr Ah):=by
 with_unfolding_all (
 intro c s σ H R I h;obtain⟨F,B,n,as,o,r,t,e,q⟩:=h;obtain⟨⟨u,v⟩,w,e⟩:=bS_<|e;obtain⟨⟨x,J⟩,d,e⟩:=bS_ e;obtain⟨K,f,e⟩:=bS_ e;cases e
 match x,f,d with
 | [.int i,.int j],f,d=>
  obtain⟨y,z⟩:=zq<|f;cases z;refine B5 hg hm ha hs hs2 c s σ H R I ⟨F,B,n,as,u,_,t,w,λL g A m k C=>?_⟩;have D:=VM m k d;cases D with
  |cons E l=>
   cases l with
   |cons l G=>
    cases G;cases E;cases l;exact⟨i,j,rfl,y,q _ g A m C<|SO i _⟩)
def Rel.mut{K ad}{i:Nat}(R:Rel K kd F B T ad as σ H)(hi:i<as.length)(hl:ad i=l::fp)(hs:σ[i]? = some (some<|.ref l))
 (hsub:∀a ∈ fp'++fo,a ∈ fp++T) (hnd:(fp'++fo).Nodup) (hu:H l≠none)
 (ro:∀(H':Hp) (G':Addr->Prop),H' l=some u->Grow (Gw T ad) H G' H'->(∀a ∈ fp',∀w,H a=some w->H' a=some w)->w_ K kd F B G' H' (.ref l) n (l::fp')):
 Rel K kd F B fo (yY ad i (l::fp')) (as.set i<|some n) σ (upd H l u)/\Grow (Gw T ad) H (Gw fo<|yY ad i (l::fp')) (upd H l u):=by
 have hli:l ∈ ad i:=by rw[hl];exact zzF
 have lT:=R.dis i l hli;have lfp:l ∉ fp:=by have:=R.nd i;rw[hl]at this;exact(zzW.mp this).1
 have lsub:∀a ∈ fp'++fo,a≠l:=λa m e=>by
  subst e
  rcases zzM.mp (hsub _ m)with z|z
  . exact lfp z
  . exact lT z
 have sub:∀a ∈ fp'++fo,Gw T ad a:=λa m=>by
  rcases zzM.mp (hsub a m)with z|z
  . exact .inr ⟨i,by rw[hl];exact zzD _ z⟩
  . exact .inl z
 have gsub:∀a,Gw fo (yY ad i (l::fp')) a->Gw T ad a:=λa z=>by
  rcases z with z|⟨j,z⟩
  . exact sub a<|zzL _ z
  . by_cases e:j=i
    . subst e;rw[zR]at z
      rcases zzC.mp z with z|z
      . subst z;exact .inr ⟨j,hli⟩
      . exact sub a<|zzP _ z
    . rw[zU e]at z;exact .inr ⟨j,z⟩
 have g:Grow _ H _ (upd H l u):=⟨λb w h n=>by rw[zH λe=>n<|by subst e;exact .inr ⟨i,hli⟩];exact h,λb z=>.inl<|gsub b z⟩;have kn:∀a,H a≠none->upd H l u a≠none:=λa z=>by
  by_cases e:a=l
  . subst e;rw[yd];simp
  . rwa [zH e]
 obtain⟨hnd1,hnd2,hnd3⟩:=zxC.mp hnd;have inT:∀j a,j≠i->a ∈ ad j->a ∈ fp'++fo->False:=λj a hj m m'=>by
  rcases zzM.mp (hsub a m')with z|z
  . exact hj (R.inj j i a m<|by rw[hl];exact zzD _ z)
  . exact R.dis j a m z
 refine⟨⟨by rw[zzU];exact R.len,λj hj=>?_,λj=>?_,λj k a h1 h2=>?_,hnd2,λj a h1 h2=>?_,λa z=>kn a<|R.ftr a z,λa z=>?_,λa z=>⟨kn a (R.gtr a<|gsub a z).1,(R.gtr a<|gsub a z).2⟩,λj s e=>?_⟩,g⟩
 . rw[zzU]at hj;rw[zU<|by omega];exact R.out j hj
 . by_cases e:j=i
   . subst e;rw[zR];exact zzW.mpr ⟨λm=>lsub l (zzP _ m) rfl,hnd1⟩
   . rw[zU e];exact R.nd j
 . by_cases e:j=i
   . subst e
     by_cases e':k=j
     . exact e'.symm
     . rw[zR]at h1;rw[zU e']at h2
       rcases zzC.mp h1 with z|z
       . subst z;exact R.inj j k a hli h2
       . exact(inT k a e' h2<|zzP _ z).elim
   . rw[zU e]at h1
     by_cases e':k=i
     . subst e';rw[zR]at h2
       rcases zzC.mp h2 with z|z
       . subst z;exact R.inj j k a h1 hli
       . exact(inT j a e h1<|zzP _ z).elim
     . rw[zU e']at h2;exact R.inj j k a h1 h2
 . by_cases e:j=i
   . subst e;rw[zR]at h1
     rcases zzC.mp h1 with z|z
     . subst z;exact lsub a (zzL _ h2) rfl
     . exact hnd3 a z a h2 rfl
   . rw[zU e]at h1;exact inT j a e h1<|zzL _ h2
 . obtain⟨b1,b2,b3⟩:=R.btr a z;exact⟨kn a b1,b2,λy=>b3<|gsub a y⟩
 . by_cases q:j=i
   . subst q;rw[zyK hi]at e;cases e;rw[zR];refine⟨_,hs,ro _ _ yd g λa m w h=>?_⟩
     rwa [zH<|lsub a<|zzP _ m]
   . rw[zzY<|Ne.symm q]at e;rw[zU q];refine(R.sl j s e).grow g λa m w h=>?_
     rwa [zH λz=>q<|R.inj j i l (by rwa [<-z]) hli]
abbrev MG:=List O->List O->Option (List O×O)
noncomputable def Zn(i:Nat)(fr:DF)(g:MG):EF:=λas=>match as[i]? with
 |some (some (.nd .ls _))=>(fr as).bind λp=>match p.2[i]? with
  |some (some (.nd .ls os))=>(g os p.1).bind λz=>some (.ow z.2,p.2.set i<|some<|.nd .ls z.1)
  |_=>none
 |_=>none
def mJ(X:Cx)(kd:KD)(r:V->List V->Hp->VK->Prop)(g:MG):Prop:=
 ∀(F B G:Addr->Prop) (l:Addr) (vs ws:List V) (os es os':List O) (o:O) (fp fq:List Addr) (H:Hp) (Q:VK),H l=some (.lst vs)->vI X.K kd F B G H vs os fp->vI X.K kd F B G H ws es fq->(fp++fq).Nodup->g os es=some (os',o)->
  (∀v vs' fp' fo,vI X.K kd F B G H vs' os' fp'->w_ X.K kd F B G H v o fo->(∀a ∈ fp'++fo,a ∈ fp++fq)->(fp'++fo).Nodup->Q v (upd H l<|.lst vs'))->r (.ref l) ws H Q
def p_{i:Nat}{fr g r}(hr:mJ X kd r g)
 (h:al X.K kd (Zn i fr g) σ H Q):ij X.K "list" r (Vk i) (jG X.K kd fr) σ H Q:=by
 obtain⟨F,B,U,as,z,as',R,e,q⟩:=h;unfold Zn at e;cases k:as[i]? with
 |none=>rw[k]at e;cases e
 |some a0=>
  rw[k]at e
  match a0,e,k with
  |some (.nd .ls os0),e,k=>
   obtain⟨⟨G,s⟩,h1,e⟩:=bS_<|e;obtain⟨v0,f,t⟩:=R.sl i _ k;generalize W:U i=fp0 at t;cases t with
   |ls I rl0=>
   rename_i l vs0 Y;refine⟨_,f,.inl ⟨rfl,_,.inl<|.inl I⟩,F,B,U,as,G,s,R,h1,λws J x L j M g1=>?_⟩;cases p:s[i]? with
   |none=>rw[p]at e;cases e
   |some a2=>
    rw[p]at e
    match a2,e,p with
    |some (.nd .ls Z),e,p=>
     obtain⟨⟨y,o⟩,h3,e⟩:=bS_<|e;cases e;obtain⟨v1,A,C⟩:=j.sl i _ p;rw[f]at A;cases A;generalize c:x i=fp1 at C;cases C with
     |ls hH rl=>
     rename_i vs fp;have N:=zxC.mpr ⟨by have:=j.nd i;rw[c]at this;exact(zzW.mp this).2,j.tnd,λa m b m' e=>by
          subst e;exact j.dis i a (by rw[c];exact zzD _ m) m'⟩
     refine hr F B _ _ vs ws Z G y o fp J L Q hH rl M N h3 λv D fp' fo O P d E=>?_;obtain⟨R3,g3⟩:=j.mut (zzG.mp p).1 c f d E (by rw[hH];simp) λH' G' S gr kp=>.ls S<|vI.grow gr kp O;have T:∀a ∈ fo,∀w,L a=some w->upd L l (.lst D) a=some w:=λa m w h=>by
          rw[zH λe=>?_]
          . exact h
          . subst e
            rcases zzM.mp (d _<|zzL _ m)with z|z
            . have:=j.nd i;rw[c]at this;exact(zzW.mp this).1 z
            . exact j.dis i _ (by rw[c];exact zzF) z
     exact q v fo _ _ R3 (w_.grow g3 T P)<|g1.trans g3
end
end PF
end
section
set_option exponentiation.threshold 5000
namespace PF
open PySem PySem.Spec PyProof.Rows L2
section
variable{K:zzA}{kd:KD}{O:Addr->Prop}{H:Hp}{Q:VK}
def z_(q:RQ K kd O H Q (.im d))(r:Rp K kd O H v d):Q v H:=q v H (λ_ _ z=>z) r
def Bm(hp:H p=none)(r:RpL K kd O H vs ds):RpL K kd (XW O (· = p)) (upd H p o) vs ds:=
 RpL.grow ⟨λb u q _=>by rw[zH<|zW q hp];exact q,λb z=>.inr<|by rwa [z]⟩ (r.less λa z=>z.elim id False.elim)
def IC(hp:H p=none)(r:RpM K kd O H vs ds):RpM K kd (XW O (· = p)) (upd H p o) vs ds:=
 RpM.grow ⟨λb u q _=>by rw[zH<|zW q hp];exact q,λb z=>.inr<|by rwa [z]⟩ (r.less λa z=>z.elim id False.elim)
def xo{p o}(hp:H p=none):∀b u,H b=some u->upd H p o b=some u:=λb u q=>by rwa [zH<|zW q hp]
def QT{vs ds}(q:RQ K kd O H Q (.fl ds))(r:RpL K kd O H vs ds):∀p,H p=none->Q (.ref p) (upd H p<|.lst vs):=λp hp=>
 q p vs _ hp (xo hp) yd (Bm hp r)
def O0{vs ds}(q:RQ K kd O H Q (.fd ds))(r:RpM K kd O H vs ds):∀p,H p=none->Q (.ref p) (upd H p<|.dK vs):=λp hp=>
 q p vs _ hp (xo hp) yd (IC hp r)
def Tg{vs ds}(ht:∀a,O a->H a≠none)(q:RQ K kd O H Q (.im<|.tup ds))(r:RpL K kd O H vs ds):∀p,H p=none->Q (.ref p) (upd H p<|.tup vs):=λp hp=>
 q _ _ (xo hp) (.tup (λz=>ht p z hp) (.inl yd)<|(Bm hp r).less λa z=>.inl z)
end
noncomputable def big:Nat:=2 ^ 4000
def Nn(h:i.natAbs<big):Builtin.Int.intBits i<=2 ^ 20:=by
 unfold Builtin.Int.intBits
 split
 . exact Nat.zero_le _
 . have:i.natAbs.log2<4000:=by
    rcases Nat.eq_zero_or_pos i.natAbs with a|b
    . rw[a];decide
    . exact(Nat.log2_lt<|Nat.ne_of_gt b).mpr h
   omega
def IE{i}(h:i.natAbs<2 ^ 64):Builtin.Int.intBits i<=64:=by
 unfold Builtin.Int.intBits
 split
 . exact Nat.zero_le _
 . rcases Nat.eq_zero_or_pos i.natAbs with h0|hp
   . rw[h0];decide
   . exact(Nat.log2_lt<|Nat.ne_of_gt hp).mpr h
def AK(f:Int->Int->Option R0)(x y:D):Option R0:=(Fw x).bind λi=>(Fw y).bind λj=>f i j
def kB(x y:D):Option R0:=match x with
 | .int i=>(Fw y).bind λj=>some<|.im<|.int<|i+j
 | .str x=>(jz y).bind λy=>if x.length+y.length<=sizeLine then some (.im<|.str<|x++y)else none
 | .lst xs=>(t_ y).bind λys=>if xs.length+ys.length<=sizeLine then some (.fl<|xs++ys)else none
 | .tup xs=>(m5 y).bind λys=>if xs.length+ys.length<=sizeLine then some (.im<|.tup<|xs++ys)else none
 |_=>none
def kG(x y:D):Option R0:=match x with
 | .int i=>(Fw y).bind λj=>if(i.natAbs<big/\j.natAbs<big)\/j.natAbs<2 ^ 64 then some (.im<|.int<|i*j)else none
 | .lst xs=>(Fw y).bind λk=>if -(2 ^ 63)<=k/\k<2 ^ 63/\xs.length*k.toNat<=sizeLine then some (.fl (List.replicate k.toNat xs).flatten)else none
 | .tup xs=>(Fw y).bind λk=>if 1<=k/\k<2 ^ 63/\xs.length≠0/\xs.length*k.toNat<=sizeLine then some (.im<|.tup (List.replicate k.toNat xs).flatten)else none
 |_=>none
def Z4(o:Operator)(x y:D):Option R0:=match o with
 | .Add=>kB x y
 | .Sub=>AK (λi j=>some<|.im<|.int<|i-j) x y
 | .Mult=>kG x y
 | .FloorDiv=>AK (λi j=>if 0<j/\j.natAbs<big then some (.im<|.int<|i/j)else none) x y
 | .Mod=>AK (λi j=>if 0<j then some (.im<|.int<|i%j)else none) x y
 | .Pow=>AK (λi j=>if 0<=j/\j<=1000000/\i.natAbs<2 ^ 64 then some (.im<|.int<|i ^ j.toNat)else none) x y
 |_=>none
def YS{K kd O H v d i}(h:Vw K kd O H v d)(e:Fw d=some i):d = .int i/\v = .int i:=by
 cases h with
 |int j=>cases e;exact ⋯
 |_=>cases e
def DN{K kd O H v d i}(h:Vw K kd O H v d)(e:jz d=some i):d = .str i/\v = .str i:=by
 cases h with
 |str j=>cases e;exact ⋯
 |_=>cases e
def YY{K kd O H v w d e f r}(vx:Vw K kd O H v d)(vy:Vw K kd O H w e)(h:AK f d e=some r):∃i j,v = .int i/\w = .int j/\f i j=some r:=by
 obtain⟨i,a,h⟩:=bS_<|h;obtain⟨j,b,h⟩:=bS_ h;exact⟨i,j,(YS vx a).2,(YS vy b).2,h⟩
section
variable{X:Cx}{kd:KD}
def Aj:QQ X (binaryOp .Add) (λx y H Q=>∃l b xs zs,x = .ref l/\y = .ref b/\Ck X.K H l xs/\Ck X.K H b zs/\xs.length+zs.length<=sizeLine/\∀p,H p=none->Q (.ref p) (upd H p<|.lst<|xs++zs)):=by
 intro d s σ H x y v u Q I g i h;obtain⟨l,b,w,A,rfl,rfl,j,k,B,q⟩:=h;cases g;cases i;obtain⟨z,c,n,r,e⟩:=EK I j;obtain⟨C,a,D,f,m⟩:=EK I k;have E:=r.length;have o:=f.length;refine PySem.P.add_list e m ?_ (by rw[zzH,zzH];omega);have t:c.toArray++a.toArray=(c++a).toArray:=⋯;rw[t];exact⟨.ref _,_,I.lnew (t':=s.toks) (r.append f) (by rw[zzJ];omega),rfl,q _ I.fresh⟩
def Ja:QQ X (binaryOp .Mult) (λx y H Q=>∃l k xs,x = .ref l/\y = .int k/\Ck X.K H l xs /\ -(2 ^ 63)<=k/\k<2 ^ 63/\xs.length*k.toNat<=sizeLine/\
 ∀p,H p=none->Q (.ref p) (upd H p<|.lst (List.replicate k.toNat xs).flatten)):=by
 intro w s σ H x y v u Q I B C h;obtain⟨l,k,N,rfl,rfl,D,E,G,A,q⟩:=h;cases B;obtain⟨t,rfl⟩:=C;obtain⟨z,b,n,r,e⟩:=EK I D;have J:=r.length;have d:b.toArray.size*k.toNat<=sizeLine:=by rwa [zzH,<-J]
 have f:¬b.toArray.size*k.toNat > (2 ^ 63-1)/8:=by
  have:sizeLine<=(2 ^ 63-1)/8:=by decide
  omega
 have g:¬(!Builtin.List.listFitsIndex k)=true:=by
  rw[fitsIndex_both E G];exact zyV
 have c:¬Builtin.List.listTooLong (b.toArray.size*k.toNat)=true:=by
  rw[CG d];exact zyV
 have i:List.foldl (λj o=>j++o) #[] (List.replicate (if b.toArray.isEmpty=true then 0 else k.toNat) b.toArray)=(List.replicate k.toNat b).flatten.toArray:=by
  have L:=λm=>by
   have:=foldl_rep b m []
   rwa [List.nil_append]at this
  rw[L];cases b with
  |nil=>simp
  |cons a O=>rw[if_neg<|by simp]
 refine wpAny_binaryOp_repeat_ref (by decide) ⟨_,e,rfl⟩ (λM=>typeIs_int M k t) noFill_list_mul F.fills_int_mul F.slot_int_rmul repeat_list F.slot_int_index.lookup
  (call_meets F.slot_int_rmul ⋯ F.entry_int_rmul ⋯ (int___rmul___int_list k t l b.toArray n)
   ⟨e,rfl,⟨_,e,rfl⟩,call_meets F.slot_list_mul ⟨_,e,rfl⟩ F.entry_list_mul (F.args_list_mul_2 _ _) (AutoListH.list___mul___list_int_3 l b.toArray n k t g f c) ⟨e, ?_⟩⟩)
 rw[i];refine⟨.ref _,_,I.lnew (t':=s.toks) (r.rep k.toNat) ?_,rfl,q _ I.fresh⟩
 rwa [len_rep,Nat.mul_comm]
def tuple_addW0(l b)(items items2)(n n2:Nat)(dd dd2)(sl sl2)(h0:items.isEmpty=true):
 Meets (Builtin.«tuple.__add__» {pos:=[.ref l,.ref b]}) (λ_ R s=>s.heap.get? l=some {cls:=.type "tuple",dict:=dd,data:=.seq items n,slots:=sl}/\s.heap.get? b=some {cls:=.type "tuple",dict:=dd2,data:=.seq items2 n2,slots:=sl2}/\R (.ok<|.ret<|.ref b) s):=
 .of_wp λa w A R s h=>by
  obtain⟨c,e,h⟩:=h;have f2:=AutoSeq1.sub_tuple_tuple
  wp_walk using wpAny_loadPart' c,wpAny_loadPart' e
  exact⟨_,rfl,h⟩
def N7(l)(items)(n:Nat)(dd)(sl)(u):
 Meets (Builtin.«tuple.__mul__» {pos:=[.ref l,.int 1 u]}) (λ_ R s=>s.heap.get? l=some {cls:=.type "tuple",dict:=dd,data:=.seq items n,slots:=sl}/\R (.ok<|.ret<|.ref l) s):=
 .of_wp λa w A R s h=>by
  obtain⟨b,h⟩:=h
  wp_walk using wpAny_loadPart' b
  exact⟨_,rfl,h⟩
def NH(l)(items its2:Array Value)(n:Nat)(dd)(sl)(x)(u)(c1:¬(decide (x < -2 ^ 63)||decide (x ≥ 2 ^ 63))=true)(c2:¬(items.isEmpty||x==1)=true)(c3:¬(decide (x<=0)||items.isEmpty)=true)
 (hcap:¬(items.size:Int)*x > (2 ^ 63-1)/8) (ht:¬Builtin.Tuple.tupleTooMany (items.size*x)=true) (hz:¬(List.foldl (λx1 x2=>x1++x2) #[] (List.replicate x.toNat items)).size > sizeLine):
 Meets (Builtin.«tuple.__mul__» {pos:=[.ref l,.int x u]}) (λ_ R s=>s.heap.get? l=some {cls:=.type "tuple",dict:=dd,data:=.seq items n,slots:=sl}/\R (.ok<|.ret<|.ref s.heap.objs.size) {s with heap:=s.heap.push {cls:=.type "tuple",data:=.seq (List.foldl (λx1 x2=>x1++x2) #[] (List.replicate x.toNat items))}}):=
 .of_wp λa w A R s h=>by
  obtain⟨b,h⟩:=h
  wp_walk using wpAny_loadPart' b
  rw[if_neg c1]
  wp_walk using wpAny_loadPart' b
  rw[if_neg hcap]
  wp_walk
  exact⟨_,rfl,h⟩
def QE:fillsNumberSlot (Value.type "tuple") "mul"=pure false:=⋯
def K0:seqRepeat? (Value.type "tuple")=pure (some<|Value.builtin "tuple.__mul__"):=⋯
def PV(a)(t)(l)(items)(n:Nat)(dd)(sl):
 Meets (Builtin.«int.__rmul__» {pos:=[.int a t,.ref l]}) (λ_ R s=>s.heap.get? l=some {cls:=.type "tuple",dict:=dd,data:=.seq items n,slots:=sl}/\R (.ok<|.ret .notImplemented) s):=
 .of_wp λb w A R s h=>by
  obtain⟨c,h⟩:=h
  wp_walk using wpAny_load' c,wpAny_loadPart' c
  exact⟨_,rfl,h⟩
def An:QQ X (binaryOp .Add) (λx y H Q=>∃a b ys,x = .ref a/\y = .ref b/\Vu X.K H a []/\Vu X.K H b ys/\Q (.ref b) H):=by
 intro j s σ H x y v u Q I t w h;obtain⟨a,b,M,rfl,rfl,z,A,q⟩:=h;cases t;cases w;obtain⟨B,C,D,_⟩:=I.tuple z;obtain⟨k,N,E,_⟩:=I.tuple A;cases C;obtain⟨⟨cls,G,l,J⟩,m,o,n,p⟩:=id D;obtain⟨⟨r,f,g,i⟩,c,d,L,e⟩:=id E;subst o p d e;exact concat_meets ⟨_,m,rfl⟩ ⟨_,c,rfl⟩ noFill_tuple_add seq_tuple_add PySem.F.slot_tuple_add PySem.F.entry_tuple_add (PySem.F.args_tuple_add_2 _ _) (tuple_addW0 a b _ _ n L G f J i rfl) ⟨m,c,⟨.ref b,H,I,rfl,q⟩⟩
def JC:QQ X (binaryOp .Mult) (λx y H Q=>∃l k xs,x = .ref l/\y = .int k/\Vu X.K H l xs/\xs≠[]/\1<=k/\k<2 ^ 63/\xs.length*k.toNat<=sizeLine/\(k=1->Q (.ref l) H)/\
 (2<=k->∀p,H p=none->Q (.ref p) (upd H p<|.tup (List.replicate k.toNat xs).flatten))):=by
 intro A s σ H x y v u Q I M N h;obtain⟨l,k,B,rfl,rfl,O,i,Y,Z,C,P,R⟩:=h;cases M;obtain⟨t,rfl⟩:=N;obtain⟨c,r,p,_⟩:=I.tuple O;have j:=r.length;have f:c.toArray.size*k.toNat<=sizeLine:=by rwa [zzH,<-j]
 have g:((c.toArray.size:Int)*k)=((c.toArray.size*k.toNat:Nat):Int):=by
  rw[zzV,zyY<|by omega]
 have D:c.toArray.isEmpty=false:=by
  cases c with
  |nil=>rw[List.length_nil]at j;exact absurd (List.length_eq_zero_iff.mp j) i
  |cons a r'=>rfl
 have d:List.foldl (λS V=>S++V) #[] (List.replicate k.toNat c.toArray)=(List.replicate k.toNat c).flatten.toArray:=by
  have:=foldl_rep c k.toNat [];exact this
 obtain⟨⟨cls,m,E,w⟩,e,G,n,J⟩:=id p;subst G J;refine wpAny_binaryOp_repeat_ref (by decide) ⟨_,e,rfl⟩ (λW=>typeIs_int W k t) QE F.fills_int_mul F.slot_int_rmul K0 F.slot_int_index.lookup
  (call_meets F.slot_int_rmul (typeIs_int s k t) F.entry_int_rmul (F.args_int_rmul_2 _ _) (PV k t l c.toArray n m w) ⟨e,rfl,⟨_,e,rfl⟩, ?_⟩)
 by_cases L:k=1
 . subst L;exact call_meets F.slot_tuple_mul ⟨_,e,rfl⟩ F.entry_tuple_mul ⋯ (N7 l c.toArray n m w t) ⟨e,⟨.ref l,H,I,rfl,P rfl⟩⟩
 . have z:(List.replicate k.toNat B).flatten.length<=sizeLine:=by rwa [len_rep,Nat.mul_comm]
   refine call_meets F.slot_tuple_mul ⟨_,e,rfl⟩ F.entry_tuple_mul (F.args_tuple_mul_2 _ _) (NH l c.toArray #[] n m w k t (by simp;omega) (by rw[D];simpa using L) (by rw[D];simp;omega) ?_ ?_ ?_) ⟨e, ?_⟩
   . rw[g];have:(sizeLine:Int)<=(2 ^ 63-1)/8:=by decide
     omega
   . unfold Builtin.Tuple.tupleTooMany;rw[g];simp only[gt_iff_lt,decide_eq_true_eq];omega
   . rw[d,zzH,len_rep,Nat.mul_comm];rw[zzH]at f;omega
   . rw[d];refine⟨.ref s.heap.objs.size,_,I.laid (t':=s.toks) (λb ob q=>zxF _ q) (zzN _) ?_,rfl,R (by omega) _<|I.hok.fresh<|zzN _⟩;exact⟨z,_,r.rep k.toNat,IsTup.new _ _⟩
def u4(op):D7 X kd (binaryOp op) (Z4 op):=by
 intro pins s σ H x y v u Q I rx ry h;obtain⟨O,d,e,r,ht,vx,vy,he,q⟩:=h;cases op with
 |Add=>
  cases vx with
  |int i=>
   obtain⟨j,h1,he⟩:=bS_<|he;obtain⟨rfl,rfl⟩:=YS vy h1;cases he;exact tF pins s σ H _ _ v u Q I rx ry ⟨_,_,rfl,rfl,z_ q<|.int _⟩
  |str i=>
   obtain⟨j,h1,he⟩:=bS_<|he;obtain⟨rfl,rfl⟩:=DN vy h1;obtain⟨c,rfl⟩:=zq he;exact MC pins s σ H _ _ v u Q I rx ry ⟨_,_,rfl,rfl,c,z_ q<|.str _⟩
  |lst hx rx'=>
   obtain⟨j,h1,he⟩:=bS_<|he;cases Qx h1;obtain⟨c,rfl⟩:=zq he;cases vy with
   |lst hy ry'=>exact Aj pins s σ H _ _ v u Q I rx ry ⟨_,_,_,_,rfl,rfl,hx,hy,by rw[rx'.length,ry'.length];exact c,QT q<|rx'.append ry'⟩
  | @tup a1 vs1 ds1 r1 hx rx'=>
   obtain⟨j,h1,he⟩:=bS_<|he;cases Ht h1;obtain⟨c,rfl⟩:=zq he;cases vy with
   |tup r2 hy ry'=>
    by_cases h0:vs1=([]:List V)
    . subst h0;cases rx';exact An pins s σ H _ _ v u Q I rx ry ⟨_,_,_,rfl,rfl,hx,hy,z_ q r2⟩
    refine IA pins s σ H _ _ v u Q I rx ry ⟨_,_,_,_,rfl,rfl,hx,hy,h0,by rw[rx'.length,ry'.length];exact c,λhn=>?_,λhn=>Tg ht q<|rx'.append ry'⟩
    . subst hn;cases ry';rw[zyE]at q;exact z_ q r1
  |_=>cases he
 |Sub=>
  obtain⟨i,j,rfl,rfl,he⟩:=YY vx vy he;cases he;exact uo pins s σ H _ _ v u Q I rx ry ⟨_,_,rfl,rfl,z_ q<|.int _⟩
 |Mult=>
  cases vx with
  |int i=>
   obtain⟨j,h1,he⟩:=bS_<|he;obtain⟨rfl,rfl⟩:=YS vy h1;obtain⟨c,rfl⟩:=zq he;obtain⟨t,rfl⟩:=rx;obtain⟨t',rfl⟩:=ry;exact mul_int ⟨.int _,H,I.tok _,⟨_,rfl⟩,z_ q<|.int _⟩ (c.elim (λc=>IntMulOk.of_bits (Nn c.1)<|Nn c.2) λc=>IntMulOk.of_right<|IE c)
  |lst hx rx'=>
   obtain⟨j,h1,he⟩:=bS_<|he;obtain⟨rfl,rfl⟩:=YS vy h1;obtain⟨c,rfl⟩:=zq he;exact Ja pins s σ H _ _ v u Q I rx ry ⟨_,_,_,rfl,rfl,hx,c.1,c.2.1,by rw[rx'.length];exact c.2.2,QT q<|rx'.rep _⟩
  |tup r1 hx rx'=>
   obtain⟨j,h1,he⟩:=bS_<|he;obtain⟨rfl,rfl⟩:=YS vy h1;obtain⟨c,rfl⟩:=zq he;refine JC pins s σ H _ _ v u Q I rx ry ⟨_,_,_,rfl,rfl,hx,λe=>?_,c.1,c.2.1,by rw[rx'.length];exact c.2.2.2,λe=>?_,λ_=>Tg ht q<|rx'.rep _⟩
   . have:=rx'.length;rw[e]at this;exact c.2.2.1 this.symm
   . subst e;refine z_ q ?_;rw[show(1:Int).toNat=1 from rfl,List.replicate_one,List.flatten_cons,List.flatten_nil,zyE];exact r1
  |_=>cases he
 |FloorDiv=>
  obtain⟨i,j,rfl,rfl,he⟩:=YY vx vy he;obtain⟨c,rfl⟩:=zq he;obtain⟨t,rfl⟩:=rx;obtain⟨t',rfl⟩:=ry;refine floordiv_int (by omega) ?_<|.inl<|PyProof.noPylong_of_log2 ?_
  . rw[Int.fdiv_eq_ediv_of_nonneg _<|by omega];exact⟨.int _,H,I.tok _,⟨_,rfl⟩,z_ q<|.int _⟩
  . exact zzK ((Nat.log2_lt<|by have:=c.1;omega).mpr<|c.2) (by decide)
 |Mod=>
  obtain⟨i,j,rfl,rfl,he⟩:=YY vx vy he;obtain⟨c,rfl⟩:=zq he;exact ux pins s σ H _ _ v u Q I rx ry ⟨_,_,rfl,rfl,c,z_ q<|.int _⟩
 |Pow=>
  obtain⟨i,j,rfl,rfl,he⟩:=YY vx vy he;obtain⟨c,rfl⟩:=zq he;exact sJ pins s σ H _ _ v u Q I rx ry ⟨_,_,rfl,rfl,c,z_ q<|.int _⟩
 |_=>cases he
end
noncomputable def Dd(f:D->D->Option Bool):List D->List D->Option Bool
 | [],[]=>some true
 |x::r,y::t=>(f x y).bind λb=>(Dd f r t).bind λc=>some (b&&c)
 |_,_=>some false
def Yx:Nat->D->D->Option Bool
 |0,_,_=>none
 |_+1,.non,.non=>some true
 |_+1,.bl a,.bl b=>some (a==b)
 |_+1,.int a,.int b=>some (a==b)
 |_+1,.str a,.str b=>some (a==b)
 |_+1,.bl a,.int b=>some ((if a then 1 else 0)==b)
 |_+1,.int a,.bl b=>some (a==(if b then 1 else 0))
 |n+1,.lst xs,.lst ys=>Dd (Yx n) xs ys
 |n+1,.tup xs,.tup ys=>Dd (Yx n) xs ys
 |_+1,.dct _,_=>none
 |_+1,.cl _,_=>none
 |_+1,.ob _ _ _,_=>none
 |_+1,_,.dct _=>none
 |_+1,_,.cl _=>none
 |_+1,_,.ob _ _ _=>none
 |_+1,_,_=>some false
noncomputable def Ih(f:D->D->Option Bool)(xs ys:List D)(j:Nat):Bool:=match xs[j]?,ys[j]? with
 |some d,some e=>(f d e).getD false
 |_,_=>false
theorem P3:∀{xs ys:List D}{b:Bool},Dd f xs ys=some b->(∀(j:Nat) d e,xs[j]? = some d->ys[j]? = some e->∃c,f d e=some c)/\
 b=((List.range<|min xs.length ys.length).all (Ih f xs ys)&&xs.length==ys.length)
 | [],[],b,h=>by cases h;exact⟨λj d e h=>by simp at h,⋯⟩
 | [],y::t,b,h=>by cases h;exact⟨λj d e h=>by simp at h,⋯⟩
 |x::r,[],b,h=>by cases h;exact⟨λj d e _ h=>by simp at h,⋯⟩
 |x::r,y::t,b,h=>by
  obtain⟨b1,h1,h⟩:=bS_<|h;obtain⟨c1,h2,h⟩:=bS_ h;cases h;obtain⟨k1,k2⟩:=P3 h2;refine⟨λj d e hd he=>?_, ?_⟩
  . cases j with
    |zero=>simp at hd he;subst hd he;exact⟨b1,h1⟩
    |succ j=>exact k1 j d e ⋯ ⋯
  . have e0:min (x::r).length (y::t).length=min r.length t.length+1:=by simp only[zzT];omega
    rw[e0,List.range_succ_eq_map,List.all_cons,List.all_map,k2];have e1:Ih f (x::r) (y::t) 0=b1:=by show(f x y).getD false=b1;rw[h1];rfl
    have e2:(Ih f (x::r) (y::t)∘Nat.succ)=Ih f r t:=⋯;have e3:((x::r).length==(y::t).length)=(r.length==t.length):=⋯;rw[e1,e2,e3,Bool.and_assoc]
structure EqAll(A:Around)(s:Shared)(u v:Value)(b:Bool):Prop where
 rc:SeqAt.RcAt A s u v b
 ne:SeqAt.RcNeAt A s u v (!b)
 eq:SeqAt.EqAt A s u v b
section
variable{X:Cx}{kd:KD}{pins:List (Addr×Obj)}{σ:St}{H:Hp}{s:Shared}{O:Addr->Prop}
def FP(I:Inv X pins σ H s)(h:Vu X.K H a xs)(h':Yy X.K H a ys):False:=by
 obtain⟨_,_,⟨o,e,c,_⟩,_⟩:=I.tuple h;obtain⟨_,_,⟨f,n,b,d,_⟩,_⟩:=I.list h';rw[e]at b;cases b;rw[c]at d;exact absurd d (by decide)
theorem Bh(I:Inv X pins σ H s):∀(n:Nat) (v:V) (d e:D) (b:Bool),Vw X.K kd O H v d->Vw X.K kd O H v e->Yx n d e=some b->b=true
 |0,_,_,_,_,_,_,h=>by cases h
 |n+1,v,d,e,b,p,f,h=>by
  have lst:∀i (l m:List D) b,RpL X.K kd O H i l->RpL X.K kd O H i m->Dd (Yx n) l m=some b->b=true:=by
   intro i
   induction i with
   |nil=>intro l m b g a h;cases g;cases a;cases h;rfl
   |cons v i q=>
    intro l m b g a h;cases g with
    |cons r g=>
     cases a with
     | cons t a=>
            obtain⟨y,u,h⟩:=bS_<|h;obtain⟨z,w,h⟩:=bS_ h;cases h;rw[Bh I n _ _ _ _ r.vw t.vw u,q _ _ _ g a w];rfl
  cases p with
  |non=>cases f;cases h;rfl
  |bl x=>cases f;cases h;simp
  |int x=>cases f;cases h;simp
  |str x=>cases f;cases h;simp
  |tup g j o=>
   cases f with
   |tup a c k=>
    have:=I.tuple_inj j c;subst this;exact lst _ _ _ _ o k h
   |lst c k=>exact(FP I j c.sq).elim
   |_=>cases h
  |lst j o=>
   cases f with
   |tup a c k=>exact(FP I c j.sq).elim
   |lst c k=>
    have:=I.list_inj j.sq c.sq;subst this;exact lst _ _ _ _ o k h
   |_=>cases h
  |_=>cases h
theorem KC(I:Inv X pins σ H s):∀(n:Nat) (A:Around) (x y:V) (d e:D) (u v:Value) (b:Bool),A.units+n<cLine->Vw X.K kd O H x d->Vw X.K kd O H y e->RelV x u->RelV y v->Yx n d e=some b->EqAll A s u v b
 |0,_,_,_,_,_,_,_,_,_,_,_,_,_,h=>by cases h
 |n+1,A,x,y,d,e,u,v,b,hu,h1,E,R,k,h=>by
  have f:A.units<cLine:=by omega
  have W:∀{vs ws:List V}{l g:List Value}{S T:List D},RpL X.K kd O H vs S->RpL X.K kd O H ws T->zP vs l->zP ws g->(∀(j:Nat) d e,S[j]? = some d->T[j]? = some e->∃c,Yx n d e=some c)->
   ∀j h1 (E:j<g.toArray.size),SeqAt.EqAt A.in1 s l.toArray[j] g.toArray[j] (Ih (Yx n) S T j):=by
   intro vs ws l g S T F q v1 v2 hd j j1 j2;have q1:j<S.length:=by rw[<-F.length,v1.length];simpa using j1
   have q2:j<T.length:=by rw[<-q.length,v2.length];simpa using j2
   obtain⟨L,ha1,ra1⟩:=F.get<|zzE q1;obtain⟨M,ha2,ra2⟩:=q.get<|zzE q2;obtain⟨u1,hu1,ru1⟩:=v1.get ha1;obtain⟨u2,hu2,ru2⟩:=v2.get ha2;obtain⟨c,hc⟩:=hd j _ _ (zzE q1)<|zzE q2;have e1:l.toArray[j]=u1:=by
    have:=(zzG.mp hu1).2;simpa using this
   have e2:g.toArray[j]=u2:=by
    have:=(zzG.mp hu2).2;simpa using this
   rw[e1,e2];have e3:Ih (Yx n) S T j=c:=by
    unfold Ih;rw[zzE q1,zzE q2];show(Yx n _ _).getD false=c;rw[hc];rfl
   rw[e3];exact(KC I n A.in1 L M _ _ u1 u2 c (by show A.units+1+n<cLine;omega) ra1.vw ra2.vw ru1 ru2 hc).eq
  have G:∀{a a':Addr},x = .ref a->y = .ref a'->a=a'->b=true:=by
   intro a a' e1 e2 e3;subst e1 e2 e3;exact Bh I (n+1) _ _ _ _ h1 E h
  cases h1 with
  |non=>
   cases R;cases E with
   |non=>cases k;cases h;exact⟨SeqAt.RcAt.none_none,SeqAt.RcNeAt.none_none,SeqAt.EqAt.same _⟩
   |bl=>cases k;cases h;exact⟨SeqAt.RcAt.none_bool _,SeqAt.RcNeAt.none_bool _,SeqAt.EqAt.none_bool _⟩
   |int=>obtain⟨t,rfl⟩:=k;cases h;exact⟨SeqAt.RcAt.none_int _ _,SeqAt.RcNeAt.none_int _ _,SeqAt.EqAt.none_int _ _⟩
   |str=>obtain⟨t,rfl⟩:=k;cases h;exact⟨SeqAt.RcAt.none_str _ _,SeqAt.RcNeAt.none_str _ _,SeqAt.EqAt.none_str _ _⟩
   |tup r o q=>
    cases k;cases h;obtain⟨l,J,p,_⟩:=I.tuple o;exact⟨SeqAt.RcAt.none_tuple p f,SeqAt.RcNeAt.none_tuple p f,SeqAt.EqAt.none_tuple p f⟩
   |lst o q=>
    cases k;cases h;obtain⟨l,J,p,_⟩:=I.list o.sq;exact⟨SeqAt.RcAt.none_list p.isList f,SeqAt.RcNeAt.none_list p.isList f,SeqAt.EqAt.none_list p.isList f⟩
   |_=>cases h
  |bl c=>
   cases R;cases E with
   |non=>cases k;cases h;exact⟨SeqAt.RcAt.bool_none _,SeqAt.RcNeAt.bool_none _,SeqAt.EqAt.bool_none _⟩
   |bl=>cases k;cases h;exact⟨SeqAt.RcAt.bool_bool _ _,SeqAt.RcNeAt.bool_bool _ _,SeqAt.EqAt.bool_bool _ _⟩
   |int=>obtain⟨t,rfl⟩:=k;cases h;exact⟨SeqAt.RcAt.bool_int _ _ _,SeqAt.RcNeAt.bool_int _ _ _,SeqAt.EqAt.bool_int _ _ _⟩
   |str=>obtain⟨t,rfl⟩:=k;cases h;exact⟨SeqAt.RcAt.bool_str _ _ _,SeqAt.RcNeAt.bool_str _ _ _,SeqAt.EqAt.bool_str _ _ _⟩
   |tup r o q=>
    cases k;cases h;obtain⟨l,J,p,_⟩:=I.tuple o;exact⟨SeqAt.RcAt.bool_tuple _ p f,SeqAt.RcNeAt.bool_tuple _ p f,SeqAt.EqAt.bool_tuple _ p f⟩
   |lst o q=>
    cases k;cases h;obtain⟨l,J,p,_⟩:=I.list o.sq;exact⟨SeqAt.RcAt.bool_list _ p.isList f,SeqAt.RcNeAt.bool_list _ p.isList f,SeqAt.EqAt.bool_list _ p.isList f⟩
   |_=>cases h
  |int c=>
   obtain⟨t0,rfl⟩:=R;cases E with
   |non=>cases k;cases h;exact⟨SeqAt.RcAt.int_none _ _,SeqAt.RcNeAt.int_none _ _,SeqAt.EqAt.int_none _ _⟩
   |bl=>cases k;cases h;exact⟨SeqAt.RcAt.int_bool _ _ _,SeqAt.RcNeAt.int_bool _ _ _,SeqAt.EqAt.int_bool _ _ _⟩
   |int=>obtain⟨t,rfl⟩:=k;cases h;exact⟨SeqAt.RcAt.int_int _ _ _ _,SeqAt.RcNeAt.int_int _ _ _ _,SeqAt.EqAt.int_int _ _ _ _⟩
   |str=>obtain⟨t,rfl⟩:=k;cases h;exact⟨SeqAt.RcAt.int_str _ _ _ _,SeqAt.RcNeAt.int_str _ _ _ _,SeqAt.EqAt.int_str _ _ _ _⟩
   |tup r o q=>
    cases k;cases h;obtain⟨l,J,p,_⟩:=I.tuple o;exact⟨SeqAt.RcAt.int_tuple _ _ p f,SeqAt.RcNeAt.int_tuple _ _ p f,SeqAt.EqAt.int_tuple _ _ p f⟩
   |lst o q=>
    cases k;cases h;obtain⟨l,J,p,_⟩:=I.list o.sq;exact⟨SeqAt.RcAt.int_list _ _ p.isList f,SeqAt.RcNeAt.int_list _ _ p.isList f,SeqAt.EqAt.int_list _ _ p.isList f⟩
   |_=>cases h
  |str c=>
   obtain⟨t0,rfl⟩:=R;cases E with
   |non=>cases k;cases h;exact⟨SeqAt.RcAt.str_none _ _,SeqAt.RcNeAt.str_none _ _,SeqAt.EqAt.str_none _ _⟩
   |bl=>cases k;cases h;exact⟨SeqAt.RcAt.str_bool _ _ _,SeqAt.RcNeAt.str_bool _ _ _,SeqAt.EqAt.str_bool _ _ _⟩
   |int=>obtain⟨t,rfl⟩:=k;cases h;exact⟨SeqAt.RcAt.str_int _ _ _ _,SeqAt.RcNeAt.str_int _ _ _ _,SeqAt.EqAt.str_int _ _ _ _⟩
   |str=>obtain⟨t,rfl⟩:=k;cases h;exact⟨SeqAt.RcAt.str_str _ _ _ _,SeqAt.RcNeAt.str_str _ _ _ _,SeqAt.EqAt.str_str _ _ _ _⟩
   |tup r o q=>
    cases k;cases h;obtain⟨l,J,p,_⟩:=I.tuple o;exact⟨SeqAt.RcAt.str_tuple _ _ p f,SeqAt.RcNeAt.str_tuple _ _ p f,SeqAt.EqAt.str_tuple _ _ p f⟩
   |lst o q=>
    cases k;cases h;obtain⟨l,J,p,_⟩:=I.list o.sq;exact⟨SeqAt.RcAt.str_list _ _ p.isList f,SeqAt.RcNeAt.str_list _ _ p.isList f,SeqAt.EqAt.str_list _ _ p.isList f⟩
   |_=>cases h
  | @tup L vs1 N r s1 F=>
   cases R;obtain⟨m,z,i,_⟩:=I.tuple s1;cases E with
   |non=>cases k;cases h;exact⟨SeqAt.RcAt.tuple_none i f,SeqAt.RcNeAt.tuple_none i f,SeqAt.EqAt.tuple_none i f⟩
   |bl=>cases k;cases h;exact⟨SeqAt.RcAt.tuple_bool _ i f,SeqAt.RcNeAt.tuple_bool _ i f,SeqAt.EqAt.tuple_bool _ i f⟩
   |int=>obtain⟨t,rfl⟩:=k;cases h;exact⟨SeqAt.RcAt.tuple_int _ _ i f,SeqAt.RcNeAt.tuple_int _ _ i f,SeqAt.EqAt.tuple_int _ _ i f⟩
   |str=>obtain⟨t,rfl⟩:=k;cases h;exact⟨SeqAt.RcAt.tuple_str _ _ i f,SeqAt.RcNeAt.tuple_str _ _ i f,SeqAt.EqAt.tuple_str _ _ i f⟩
   | @tup M vs2 P r' o q=>
    cases k;obtain⟨g,w,B,_⟩:=I.tuple o;obtain⟨k1,k2⟩:=P3 h;have Y:=W F q z w k1;have Z:((List.range<|min m.toArray.size g.toArray.size).all (Ih (Yx n) N P)&&m.toArray.size==g.toArray.size)=b:=by
     rw[k2,zzH,zzH,<-z.length,<-w.length,F.length,q.length]
    have U:=SeqAt.RcAt.tuples i B f Y;have b2:=SeqAt.RcNeAt.tuples i B f Y;rw[Z]at U b2;refine⟨U,b2, ?_⟩
    by_cases Q:L=M
    . have hb:=G rfl rfl Q;subst Q;rw[hb];exact SeqAt.EqAt.same _
    . exact SeqAt.EqAt.of_refs Q U
   |lst o q=>
    cases k;cases h;obtain⟨l,J,p,_⟩:=I.list o.sq;exact⟨SeqAt.RcAt.tuple_list i p.isList f,SeqAt.RcNeAt.tuple_list i p.isList f,SeqAt.EqAt.tuple_list i p.isList f⟩
   |_=>cases h
  | @lst L vs1 N s1 F=>
   cases R;obtain⟨m,z,i,_⟩:=I.list s1.sq;cases E with
   |non=>cases k;cases h;exact⟨SeqAt.RcAt.list_none i.isList f,SeqAt.RcNeAt.list_none i.isList f,SeqAt.EqAt.list_none i.isList f⟩
   |bl=>cases k;cases h;exact⟨SeqAt.RcAt.list_bool _ i.isList f,SeqAt.RcNeAt.list_bool _ i.isList f,SeqAt.EqAt.list_bool _ i.isList f⟩
   |int=>obtain⟨t,rfl⟩:=k;cases h;exact⟨SeqAt.RcAt.list_int _ _ i.isList f,SeqAt.RcNeAt.list_int _ _ i.isList f,SeqAt.EqAt.list_int _ _ i.isList f⟩
   |str=>obtain⟨t,rfl⟩:=k;cases h;exact⟨SeqAt.RcAt.list_str _ _ i.isList f,SeqAt.RcNeAt.list_str _ _ i.isList f,SeqAt.EqAt.list_str _ _ i.isList f⟩
   |tup r' o q=>
    cases k;cases h;obtain⟨g,w,B,_⟩:=I.tuple o;exact⟨SeqAt.RcAt.list_tuple i.isList B f,SeqAt.RcNeAt.list_tuple i.isList B f,SeqAt.EqAt.list_tuple i.isList B f⟩
   | @lst M vs2 P o q=>
    cases k;obtain⟨g,w,B,_⟩:=I.list o.sq;obtain⟨k1,k2⟩:=P3 h;have Y:=W F q z w k1;have ez1:=zzH.trans<|z.length.symm.trans F.length;have ez2:=zzH.trans<|w.length.symm.trans q.length;have C:SeqAt.RcAt A s (.ref L) (.ref M) b/\SeqAt.RcNeAt A s (.ref L) (.ref M) (!b):=by
     by_cases hz:m.toArray.size=g.toArray.size
     . have U:=SeqAt.RcAt.lists i.isList B.isList hz f Y;have b2:=SeqAt.RcNeAt.lists i.isList B.isList hz f Y;have Z:(List.range m.toArray.size).all (Ih (Yx n) N P)=b:=by
        rw[k2,<-ez1,<-ez2,<-hz,Nat.min_self];simp
       rw[Z]at U b2;exact⟨U,b2⟩
     . have hz':(m.toArray.size != g.toArray.size)=true:=by simpa using hz
       have Z:b=false:=by
        rw[k2,<-ez1,<-ez2];have:(m.toArray.size==g.toArray.size)=false:=by simpa using hz
        rw[this,Bool.and_false]
       rw[Z];exact⟨SeqAt.RcAt.lists_lengths i.isList B.isList hz' f,SeqAt.RcNeAt.lists_lengths i.isList B.isList hz' f⟩
    refine⟨C.1,C.2, ?_⟩
    by_cases Q:L=M
    . have hb:=G rfl rfl Q;subst Q;rw[hb];exact SeqAt.EqAt.same _
    . exact SeqAt.EqAt.of_refs Q C.1
   |_=>cases h
  |_=>cases h
end
structure DkAt(P:Program)(w:World)(h:Heap)(a:Addr)(kvs:List (Key×V)):Prop where
 le:kvs.length<=sizeLine
 ns:(a==sysModules)=false
 ex:∃vs,KV kvs vs/\h.DictOf (xY P w) a vs
structure KdOk(X:Cx)(kd:KD):Prop where
 inj:∀a k k',kd a k->kd a k'->k=k'
 inK:∀a k,kd a k->∃o,X.K.lookup a=some o
 at_:∀a k h,kd a k->X.K.In h->DkAt X.prog X.w h a k
section
variable{X:Cx}{kd:KD}{pins:List (Addr×Obj)}{σ:St}{H:Hp}{s:Shared}{O:Addr->Prop}
def P4(I:Inv X pins σ H s)(hk:KdOk X kd)(h:Rd H a (.dK kvs)\/kd a kvs):DkAt X.prog X.w s.heap a kvs:=by
 rcases h with h|h
 . obtain⟨z,hd,vs,rel,dd⟩:=pO I.hok h;exact⟨z,hd,vs,rel,dd⟩
 . exact hk.at_ _ _ _ h I.kIn
theorem HE(I:Inv X pins σ H s):∀(n:Nat) (v:V) (d e x:D) (b c:Bool),Vw X.K kd O H v d->Vw X.K kd O H v e->Yx n d x=some b->Yx n e x=some c->b=c
 |0,_,_,_,_,_,_,_,_,h,_=>by cases h
 |n+1,v,d,e,x,b,c,h1,h2,h,h'=>by
  have lst:∀vs (ds es xs:List D) (b c:Bool),RpL X.K kd O H vs ds->RpL X.K kd O H vs es->Dd (Yx n) ds xs=some b->Dd (Yx n) es xs=some c->b=c:=by
   intro vs
   induction vs with
   |nil=>intro ds es xs b c r1 r2 h h';cases r1;cases r2;exact zzZ (h.symm.trans h')
   |cons v vs ih=>
    intro ds es xs b c r1 r2 h h';cases r1 with
    |cons a1 r1=>
     cases r2 with
     | cons a2 r2=>
            cases xs with
            |nil=>cases h;cases h';rfl
            |cons x xs=>
             obtain⟨b1,k1,h⟩:=bS_<|h;obtain⟨c1,k2,h⟩:=bS_ h;obtain⟨b2,k3,h'⟩:=bS_<|h';obtain⟨c2,k4,h'⟩:=bS_ h';cases h;cases h';rw[HE I n _ _ _ _ _ _ a1.vw a2.vw k1 k3,ih _ _ _ _ _ r1 r2 k2 k4]
  cases h1 with
  |tup r1 s1 l1=>
   cases h2 with
   |tup r2 s2 l2=>
    have:=I.tuple_inj s1 s2;subst this;cases x with
    |tup xs=>exact lst _ _ _ _ _ _ l1 l2 h h'
    |_=>exact zzZ (h.symm.trans h')
   |lst s2 l2=>exact(FP I s1 s2.sq).elim
   |_=>cases h'
  |lst s1 l1=>
   cases h2 with
   |tup r2 s2 l2=>exact(FP I s2 s1.sq).elim
   |lst s2 l2=>
    have:=I.list_inj s1.sq s2.sq;subst this;cases x with
    |lst xs=>exact lst _ _ _ _ _ _ l1 l2 h h'
    |_=>exact zzZ (h.symm.trans h')
   |_=>cases h'
  |dct s1 l1=>cases h
  |cl=>cases h
  |ob=>cases h
  |_=>cases h2;exact zzZ<|h.symm.trans h'
end
noncomputable def J_:D->Option Key
 | .int i=>some<|.inl i
 | .str x=>some (.inr x)
 |_=>none
noncomputable def Q_(kvs:List (Key×D))(k:Key):Option D:=(kvs.find? λkv=>decide (kv.1=k)).map (·.2)
def L4{K O}(k)(h:RpM K kd O H vs ds):(∃v d,Q6 vs k=some v/\Q_ ds k=some d/\Rp K kd O H v d)\/(Q6 vs k=none/\Q_ ds k=none):=
 RpM.ind (P:=λvs ds=>(∃v d,Q6 vs k=some v/\Q_ ds k=some d/\Rp K kd O H v d)\/(Q6 vs k=none/\Q_ ds k=none)) (.inr ⟨rfl,rfl⟩) (λ{k' v d vs ds} a _ ih=>by
  by_cases e:k'=k
  . left;refine⟨_,_, ?_, ?_,a⟩
    . unfold Q6;simp[e]
    . unfold Q_;simp[e]
  . rcases ih with⟨v,d,h1,h2,h3⟩|⟨h1,h2⟩
    . left;refine⟨v,d, ?_, ?_,h3⟩
      . unfold Q6 at h1 ⊢;simpa[e]using h1
      . unfold Q_ at h2 ⊢;simpa[e]using h2
    . right;refine⟨?_, ?_⟩
      . unfold Q6 at h1 ⊢;simpa[e]using h1
      . unfold Q_ at h2 ⊢;simpa[e]using h2) h
noncomputable def anyF(f:D->Option Bool):List D->Option Bool
 | []=>some false
 |x::r=>(f x).bind λb=>(anyF f r).bind λc=>some (b||c)
noncomputable def Df(b:Bool):R0:=.im<|.bl b
def jn(x:D):D->Option Bool
 | .lst ys=>anyF (λy=>Yx 50 y x) ys
 | .tup ys=>anyF (λy=>Yx 50 y x) ys
 | .str y=>match x with | .str i=>some (!(Builtin.Str.occurrences y i 0 y.length 1).isEmpty)|_=>none
 | .dct kvs=>(J_ x).bind λk=>some (Q_ kvs k).isSome
 |_=>none
noncomputable def lO:D->D->Option Bool
 |d,.non=>some (match d with | .non=>true|_=>false)
 |d,.bl b=>match d with | .bl c=>some (c==b)|_=>some false
 |_,_=>none
def BS(f:Int->Int->Bool):D->D->Option R0:=AK λi j=>some<|Df<|f i j
def zC(o:CmpOp)(d e:D):Option R0:=match o with
 | .Eq=>(Yx 60 d e).bind λb=>some<|Df b
 | .NotEq=>(Yx 60 d e).bind λb=>some<|Df !b
 | .Lt=>BS (λi j=>decide (i<j)) d e
 | .LtE=>BS (λi j=>decide (i<=j)) d e
 | .Gt=>BS (λi j=>decide (j<i)) d e
 | .GtE=>BS (λi j=>decide (j<=i)) d e
 | .In=>(jn d e).bind λb=>some<|Df b
 | .NotIn=>(jn d e).bind λb=>some<|Df !b
 | .Is=>(lO d e).bind λb=>some<|Df b
 | .IsNot=>(lO d e).bind λb=>some<|Df !b
def Wt{o:Option Bool}{f:Bool->Bool}(h:(o.bind λb=>some<|Df<|f b)=some r):∃k,r = .im (.bl k):=by
 obtain⟨b,_,h⟩:=bS_ h;cases h;exact⟨_,rfl⟩
def RI(h:BS f x y=some r):∃k,r = .im (.bl k):=by
 obtain⟨i,_,h⟩:=bS_<|h;obtain⟨j,_,h⟩:=bS_ h;cases h;exact⟨_,rfl⟩
def IQ(op:CmpOp)(x y:D)(r)(h:zC op x y=some r):∃k,r = .im (.bl k):=by
 cases op with
 |Eq=>exact Wt h
 |NotEq=>exact Wt h
 |Lt=>exact RI h
 |LtE=>exact RI h
 |Gt=>exact RI h
 |GtE=>exact RI h
 |In=>exact Wt h
 |NotIn=>exact Wt h
 |Is=>exact Wt h
 |IsNot=>exact Wt h
section
variable{X:Cx}{kd:KD}{pins:List (Addr×Obj)}{σ:St}{H:Hp}{s:Shared}{O:Addr->Prop}
noncomputable def AV(K:zzA)(kd:KD)(O:Addr->Prop)(H:Hp)(n:Nat)(x:D)(u:Value):Bool:=@decide (∃v d,RelV v u/\Rp K kd O H v d/\Yx n d x=some true)<|Classical.propDecidable _
def K_(I:Inv X pins σ H s)(hk:KdOk X kd){n:Nat}(r:RelV v u)(p:Rp X.K kd O H v d)(e:Yx n d x=some b):AV X.K kd O H n x u=b:=by
 cases b with
 |true=>exact @zyO _ (Classical.propDecidable _) ⟨v,d,r,p,e⟩
 |false=>
  refine @zyG _ (Classical.propDecidable _) λ⟨v',d',r',p',e'⟩=>?_;have:=r.inj r';subst this;exact Bool.noConfusion<|HE I n _ _ _ _ _ _ p.vw p'.vw e e'
def Rw(I:Inv X pins σ H s)(hk:KdOk X kd){n:Nat}(hv:zP vs us)(h:RpL X.K kd O H vs ds)(e:anyF (λy=>Yx n y x) ds=some b):us.any (AV X.K kd O H n x)=b:=
 RpL.ind (P:=λvs ds=>∀us b,zP vs us->anyF _ ds=some b->us.any _=b) (λus b hv e=>by cases e;cases hv;rfl) (λ{v d vs ds} a _ ih us b hv h=>by
  cases hv with
  |cons r t=>
   obtain⟨b1,h1,h⟩:=bS_<|h;obtain⟨c1,h2,h⟩:=bS_ h;cases h;rw[List.any_cons,K_ I hk r a h1,ih _ _ t h2]) h us b hv e
theorem Yv:∀{ds:List D}{b:Bool},anyF f ds=some b->∀d ∈ ds,∃c,f d=some c
 | [],_,_,d,hd=>by simp at hd
 |x::r,b,h,d,hd=>by
  obtain⟨b1,h1,h⟩:=bS_<|h;obtain⟨c1,h2,h⟩:=bS_ h
  rcases zzC.mp hd with e|e
  . subst e;exact⟨b1,h1⟩
  . exact Yv h2 d e
def Qs(I:Inv X pins σ H s)(hk:KdOk X kd){n:Nat}(hu:A.units+n<cLine)(vx:Vw X.K kd O H x d)(rx:RelV x v)(hv:zP vs us)(h:RpL X.K kd O H vs ds)(k:∀e ∈ ds,∃c,Yx n e d=some c):∀u ∈ us,SeqAt.EqAt A s u v (AV X.K kd O H n d u):=
 RpL.ind (P:=λvs ds=>∀us,zP vs us->(∀e ∈ ds,∃c,Yx n e d=some c)->∀u ∈ us,SeqAt.EqAt A s u v<|AV X.K kd O H n d u) (λus hv _ u hu=>by cases hv;simp at hu) (λa q ih us hv h u hm=>by
  cases hv with
  |cons r t=>
   rcases zzC.mp hm with e|e
   . subst e;obtain⟨c,hc⟩:=h _ zzF;rw[K_ I hk r a hc];exact(KC I n A _ _ _ _ _ _ _ hu a.vw vx r rx hc).eq
   . exact ih _ t (λe he=>h e<|zzD _ he) u e) h us hv k
def Tz(vx:Vw X.K kd O H x d)(rx:RelV x v)(e:lO d (.bl b)=some c)(h:Q c s):wpAny (model X.prog X.w) A (isSame v<|.bool b) Q E s:=by
 cases vx with
 |non=>cases rx;cases e;exact zxE h
 |bl k=>
  cases rx;cases e;refine zxE ?_;cases k<;>cases b<;>exact h
 |int=>obtain⟨t,rfl⟩:=rx;cases e;exact zxE h
 |str=>obtain⟨t,rfl⟩:=rx;cases e;exact zxE h
 |tup=>cases rx;cases e;exact zxE h
 |lst=>cases rx;cases e;exact zxE h
 |dct=>cases rx;cases e;exact zxE h
 |cl=>cases rx;cases e;exact zxE h
 |ob=>cases rx;cases e;exact zxE h
def QM(hk:KdOk X kd)(hu:X.A.units+100<cLine)(op):D7 X kd (compareOp op) (zC op):=by
 intro pins s σ H x y v u Q I rx ry h;obtain⟨O,d,e,r,ht,vx,vy,he,q⟩:=h;cases op with
 |Eq=>
  obtain⟨b,h1,he⟩:=bS_<|he;cases he;exact(KC I 60 X.A x y d e v u b (by omega) vx vy rx ry h1).rc _ _ _ _ (wb I (z_ q<|.bl _) rfl)
 |NotEq=>
  obtain⟨b,h1,he⟩:=bS_<|he;cases he;exact(KC I 60 X.A x y d e v u b (by omega) vx vy rx ry h1).ne _ _ _ _ (wb I (z_ q<|.bl _) rfl)
 |Lt=>
  obtain⟨i,j,rfl,rfl,he⟩:=YY vx vy he;cases he;exact rz pins s σ H _ _ v u Q I rx ry ⟨_,_,rfl,rfl,z_ q<|.bl _⟩
 |LtE=>
  obtain⟨i,j,rfl,rfl,he⟩:=YY vx vy he;cases he;exact oP pins s σ H _ _ v u Q I rx ry ⟨_,_,rfl,rfl,z_ q<|.bl _⟩
 |Gt=>
  obtain⟨i,j,rfl,rfl,he⟩:=YY vx vy he;cases he;exact rB pins s σ H _ _ v u Q I rx ry ⟨_,_,rfl,rfl,z_ q<|.bl _⟩
 |GtE=>
  obtain⟨i,j,rfl,rfl,he⟩:=YY vx vy he;cases he;exact qW pins s σ H _ _ v u Q I rx ry ⟨_,_,rfl,rfl,z_ q<|.bl _⟩
 |In=>
  obtain⟨b,h1,he⟩:=bS_<|he;cases he;cases vy with
  |lst hs rl=>
   cases ry;obtain⟨its,rv,p,_⟩:=I.list hs.sq;refine SeqAt.in_listAt _ p.isList (λw hw=>Qs I hk (by show X.A.units+1+50<cLine;omega) vx rx rv rl (Yv h1) w<|by simpa using hw) ?_;have:=Rw I hk rv rl h1;rw[show its.toArray.any _=b by rw[<-this];simp];exact wb (I) (z_ q<|.bl _) rfl
  |tup rp hs rl=>
   cases ry;obtain⟨its,rv,p,_⟩:=I.tuple hs;refine SeqAt.in_tupleAt _ p (λw hw=>Qs I hk (by show X.A.units+1+50<cLine;omega) vx rx rv rl (Yv h1) w<|by simpa using hw) ?_;have:=Rw I hk rv rl h1;rw[show its.toArray.any _=b by rw[<-this];simp];exact wb (I) (z_ q<|.bl _) rfl
  |str z=>
   cases vx with
   |str i=>cases h1;exact Sl pins s σ H _ _ v u Q I rx ry ⟨_,_,rfl,rfl,z_ q<|.bl _⟩
   |_=>cases h1
  |dct hs rm=>
   cases ry;obtain⟨k,k1,h1⟩:=bS_ h1;cases h1;obtain⟨z,hd,vs,rel,dd⟩:=P4 I hk hs;have ek:x=kV k:=by
    cases vx with
    |int i=>cases k1;rfl
    |str i=>cases k1;rfl
    |_=>cases k1
   subst ek;refine wpAny_in_of (Bj rx) hd dd.mapOf ?_;rw[<-(rel.val k).isSome_eq]
   rcases L4 k rm with⟨v1,d1,e1,e2,_⟩|⟨e1,e2⟩
   . rw[e1];rw[e2]at q;exact wb (I.tok _) (z_ q<|.bl _) rfl
   . rw[e1];rw[e2]at q;exact wb (I.tok _) (z_ q<|.bl _) rfl
  |_=>cases h1
 |NotIn=>
  obtain⟨b,h1,he⟩:=bS_<|he;cases he;cases vy with
  |lst hs rl=>
   cases ry;obtain⟨its,rv,p,_⟩:=I.list hs.sq;refine SeqAt.notIn_listAt _ p.isList (λw hw=>Qs I hk (by show X.A.units+1+50<cLine;omega) vx rx rv rl (Yv h1) w<|by simpa using hw) ?_;have:=Rw I hk rv rl h1;rw[show its.toArray.any _=b by rw[<-this];simp];exact wb (I) (z_ q<|.bl _) rfl
  |tup rp hs rl=>
   cases ry;obtain⟨its,rv,p,_⟩:=I.tuple hs;refine SeqAt.notIn_tupleAt _ p (λw hw=>Qs I hk (by show X.A.units+1+50<cLine;omega) vx rx rv rl (Yv h1) w<|by simpa using hw) ?_;have:=Rw I hk rv rl h1;rw[show its.toArray.any _=b by rw[<-this];simp];exact wb (I) (z_ q<|.bl _) rfl
  |str z=>
   cases vx with
   |str i=>cases h1;exact K6 pins s σ H _ _ v u Q I rx ry ⟨_,_,rfl,rfl,z_ q<|.bl _⟩
   |_=>cases h1
  |dct hs rm=>
   cases ry;obtain⟨k,k1,h1⟩:=bS_ h1;cases h1;obtain⟨z,hd,vs,rel,dd⟩:=P4 I hk hs;have ek:x=kV k:=by
    cases vx with
    |int i=>cases k1;rfl
    |str i=>cases k1;rfl
    |_=>cases k1
   subst ek;refine wpAny_notIn_of (Bj rx) hd dd.mapOf ?_;rw[<-(rel.val k).isSome_eq]
   rcases L4 k rm with⟨v1,d1,e1,e2,_⟩|⟨e1,e2⟩
   . rw[e1];rw[e2]at q;exact wb (I.tok _) (z_ q<|.bl _) rfl
   . rw[e1];rw[e2]at q;exact wb (I.tok _) (z_ q<|.bl _) rfl
  |_=>cases h1
 |Is=>
  obtain⟨b,h1,he⟩:=bS_<|he;cases he;cases vy with
  |non=>
   refine sG pins s σ H _ _ v u Q I rx ry ⟨rfl, ?_⟩;have:decide (x=V.non)=b:=by cases vx<;>(cases h1;rfl)
   rw[this];exact z_ q (.bl b)
  |bl c=>
   cases ry;exact zxD (Tz vx rx h1<|zxE<|wb I (z_ q<|.bl _) rfl)
  |_=>cases h1
 |IsNot=>
  obtain⟨b,h1,he⟩:=bS_<|he;cases he;cases vy with
  |non=>
   refine Ip pins s σ H _ _ v u Q I rx ry ⟨rfl, ?_⟩;have:decide (x=V.non)=b:=by cases vx<;>(cases h1;rfl)
   rw[this];exact z_ q (.bl _)
  |bl c=>
   cases ry;exact zxD (Tz vx rx h1<|zxE<|wb I (z_ q<|.bl _) rfl)
  |_=>cases h1
end
def Ba{K kd O H vs ds i d}(r:RpL K kd O H vs ds)(h:atI ds i=some d):∃v,atI vs i=some v/\Rp K kd O H v d:=by
 unfold atI at ⊢;obtain⟨j,a,b⟩:=bS_ h;rw[r.length,a];exact r.get b
noncomputable def CL(o:Option D):Option R0:=o.bind λd=>some<|.im d
def zw(x y:D):Option R0:=match x with
 | .lst xs=>(Fw y).bind λi=>CL<|atI xs i
 | .tup xs=>(Fw y).bind λi=>CL<|atI xs i
 | .str x=>(Fw y).bind λi=>if x.length<=sizeLine then(atI x.cps.toList i).bind λc=>some (.im<|.str ⟨#[c]⟩)else none
 | .dct kvs=>(J_ y).bind λk=>CL (Q_ kvs k)
 |_=>none
def P5(h:CL o=some r):∃d,o=some d/\r = .im d:=by
 obtain⟨d,a,b⟩:=bS_<|h;cases b;exact⟨d,a,rfl⟩
section
variable{X:Cx}{kd:KD}
def O5{K O H x d k}(vx:Vw K kd O H x d)(e:J_ d=some k):x=kV k:=by
 cases vx with
 |int i=>cases e;rfl
 |str i=>cases e;rfl
 |_=>cases e
def mV(hk:KdOk X kd):jU X kd zw:=by
 intro b f g s σ H x y v u Q I A B h C;obtain⟨O,d,e,r,U,P,D,a,q⟩:=h;cases P with
 |lst m E=>
  obtain⟨i,n,a⟩:=bS_<|a;obtain⟨rfl,rfl⟩:=YS D n;obtain⟨d,l,rfl⟩:=P5 a;obtain⟨w,p,j⟩:=Ba E l;exact Jq b f g s σ H _ _ v u Q I A B ⟨_,_,_,w,rfl,rfl,m.sq,p,z_ q j⟩ C
 |tup J m E=>
  obtain⟨i,n,a⟩:=bS_<|a;obtain⟨rfl,rfl⟩:=YS D n;obtain⟨d,l,rfl⟩:=P5 a;obtain⟨w,p,j⟩:=Ba E l;exact sy b f g s σ H _ _ v u Q I A B ⟨_,_,_,w,rfl,rfl,m,p,z_ q j⟩ C
 |str z=>
  obtain⟨i,n,a⟩:=bS_<|a;obtain⟨rfl,rfl⟩:=YS D n;obtain⟨R,a⟩:=ite_some' a;obtain⟨c,l,a⟩:=bS_ a;cases a;exact D3 b f g s σ H _ _ v u Q I A B ⟨_,_,c,rfl,rfl,R,l,z_ q<|.str _⟩ C
 |dct m S=>
  obtain⟨k,l,a⟩:=bS_<|a;obtain⟨d,K,rfl⟩:=P5 a;cases A;obtain⟨z,V,T,G,L⟩:=P4 I hk m;have:=O5 D l;subst this
  rcases L4 k S with⟨M,W,N,t,J⟩|⟨N,t⟩
  . rw[K]at t;cases t;obtain⟨Y,p,j⟩:=VV.some_of (by rw[<-N];exact G.val k);exact tail_any L.typeIs PySem.F.slot_dict_getitem.lookup (wpAny_getItem_of (Bj B) L.mapOf p ⟨M,H,I.tok _,j,z_ q J⟩) C
  . rw[K]at t;cases t
 |_=>cases a
def cutD(xs:List D)(lo hi:Option Int):List D:=(xs.drop<|HT.sIx xs.length 0 lo).take<|HT.sIx xs.length xs.length hi-HT.sIx xs.length 0 lo
def FD{K O H vs ds}(r:RpL K kd O H vs ds)(lo hi):RpL K kd O H (BO vs lo hi) (cutD ds lo hi):=by
 unfold BO;rw[r.length];exact(r.drop _).take _
def Ww(x:D)(lo hi:Option Int):Option R0:=match x with
 | .lst xs=>some<|.fl<|cutD xs lo hi
 | .tup xs=>if HT.sIx xs.length 0 lo=0/\HT.sIx xs.length xs.length hi=xs.length then none else some (.im<|.tup<|cutD xs lo hi)
 |_=>none
abbrev OF:=AS->Option (Option Int×AS)
noncomputable def oN:OF:=λas=>some (none,as)
def oS(f:EF):OF:=λas=>(f as).bind λp=>(jt p.1).bind λi=>some (some i,p.2)
def XE(fa:EF)(fl fh:OF)(g:D->Option Int->Option Int->Option R0):EF:=λas=>(fa as).bind λp=>(fl p.2).bind λl=>(fh l.2).bind λh=>(p.1.frz.view h.2).bind λx=>(g x.1 l.1 h.1).bind λr=>(wrap x.2 r).bind λz=>some (z,h.2)
def iW(K:zzA)(kd:KD)(f:OF):TO:=λσ H Q=>∃F B ad as o as',Rel K kd F B [] ad as σ H/\f as=some (o,as')/\
 ∀ad' H',Rel K kd F B [] ad' as' σ H'->Grow (Gw [] ad) H (Gw [] ad') H'->Q o H'
@[irreducible] def AO(X:Cx)(kd:KD)(e:Option Expr)(f:OF):Prop:=PO X e<|iW X.K kd f
def O2(h:PO X e t)(k:∀σ H Q,t' σ H Q->t σ H Q):PO X e t':=λa s σ H Q I q=>h a s σ H Q I<|k σ H Q q
def Y4:AO X kd none oN:=by with_unfolding_all exact(O2 JJ λσ H Q h=>by
 obtain⟨F,B,a,as,o,b,R,e,q⟩:=h;cases e;exact q a H R Grow.refl)
def sA{K F B T ad σ H v st c}(h:xf K kd F B T ad σ H v (.ow<|.lf st<|.int c)):T=[]/\v = .int c:=by
 cases h with
 |lf a=>cases a;exact ⋯
def wH{a fa}(ha:AE X kd a fa):AO X kd (some a) (oS fa):=by with_unfolding_all exact(O2 (Ig ha) λσ H Q h=>by
 obtain⟨F,B,d,as,o,f,R,e,q⟩:=h;obtain⟨⟨p,g⟩,j,e⟩:=bS_<|e;obtain⟨i,k,e⟩:=bS_ e;obtain⟨r,rfl⟩:=uz k;cases e;refine⟨F,B,d,as,_,_,R,j,λv s b l m c n=>?_⟩;obtain⟨rfl,rfl⟩:=sA c;exact⟨i,rfl,q b l m n⟩)
def l_:mM X (λx lo hi H Q=>∃O d r,(∀a,O a->H a≠none)/\Vw X.K kd O H x d/\Ww d lo hi=some r/\RQ X.K kd O H Q r):=by
 intro b s σ H x v j k e f l Q I m n o p h;obtain⟨O,d,r,t,u,c,q⟩:=h;cases u with
 |lst i g=>cases c;exact IR b s σ H _ v j k e f l Q I m n o p ⟨_,_,rfl,i.sq,QT q<|FD g e f⟩
 |tup y i g=>
  have c:(if _ then none else some _:Option R0)=_:=c
  split at c
  . cases c
  . rename_i w;cases c;exact uC b s σ H _ v j k e f l Q I m n o p ⟨_,_,rfl,i,by rw[g.length];exact w,Tg t q<|FD g e f⟩
 |_=>cases c
def vF{a lo hi fa fl fh pos p2}(ha:AE X kd a fa)(hl:AO X kd lo fl)(hh:AO X kd hi fh):AE X kd (.Subscript a (.Slice lo hi none p2) pos) (XE fa fl fh Ww):=by with_unfolding_all exact(yf (Cv l_ ha hl hh) λσ H Q h=>by
 obtain⟨F,B,O,as,r,s,R,e,q⟩:=h;obtain⟨⟨p,c⟩,t,e⟩:=bS_<|e;obtain⟨⟨l,b⟩,x,e⟩:=bS_ e;obtain⟨⟨u,y⟩,A,e⟩:=bS_ e;obtain⟨⟨d,P⟩,C,e⟩:=bS_ e;obtain⟨D,E,e⟩:=bS_ e;obtain⟨z,G,e⟩:=bS_ e;cases e;refine vN R t λv f S I g J=>⟨F,B,f,c,l,b,I,x,λi T R2 n=>⟨F,B,i,b,u,_,R2,A,λj U k o=>?_⟩⟩;exact⟨_,d,D,k.tr _,xf.vw k ((g.grow n).grow o) C,E,Ye k G λw K L M m N=>q w K j L M m<|((J.trans n).trans o).trans N⟩)
noncomputable def LW:D->Option R0
 | .int i=>some (.im<|.int (-i))
 |_=>none
def DZ:jr X kd (unaryOp .USub) LW:=by
 intro a s σ H x v Q I c h;obtain⟨O,d,r,f,e,b,q⟩:=h;cases e with
 |int i=>cases b;exact uf a s σ H _ v Q I c ⟨i,rfl,z_ q<|.int _⟩
 |_=>cases b
noncomputable def rn:D->String
 | .non=>"NoneType" | .bl _=>"bool" | .int _=>"int" | .str _=>"str" | .tup _=>"tuple" | .lst _=>"list" | .dct _=>"dict"|_=>""
noncomputable def Ji:D->Bool
 | .cl _=>false | .ob _ _ _=>false|_=>true
noncomputable def F3(t c:String):Bool:=t==c||(t=="bool"&&c=="int")
noncomputable def VX(c:String):Bool:=c=="int"||c=="bool"||c=="str"||c=="list"||c=="tuple"||c=="dict"
def tE(K)(d)(c)(h:VX c=true)(ho:Ji d=true):W.kitOne K (.type<|rn d) (.type c)=some (F3 (rn d) c):=by
 have:c="int"\/c="bool"\/c="str"\/c="list"\/c="tuple"\/c="dict":=by
  unfold VX at h;simp at h
  rcases h with((((h|h)|h)|h)|h)|h<;>simp[h]
 rcases this with rfl|rfl|rfl|rfl|rfl|rfl<;>cases d<;>first|rfl|cases ho
def Dv(hk:KdOk X kd){pins σ H s O A E Q c x u d}(I:Inv X pins σ H s)(rx:RelV x u)(vx:Vw X.K kd O H x d)(hc:VX c=true)(ho:Ji d=true)
 (h:∀tk,Q (.bool<|F3 (rn d) c) {s with toks:=tk}):wpAny (model X.prog X.w) A (call (.builtin "isinstance") [u,.type c]) Q E s:=by
 have e:=tE X.K d c hc ho;cases vx with
 |non=>cases rx;exact W.kia_one W.kitx_none I.kIn True.intro e ⋯ h
 |bl y=>cases rx;exact W.kia_one W.kitx_bool I.kIn True.intro e ⋯ h
 |int i=>obtain⟨t,rfl⟩:=rx;exact W.kia_one W.kitx_int I.kIn True.intro e ⋯ h
 |str y=>obtain⟨t,rfl⟩:=rx;exact W.kia_one W.kitx_str I.kIn True.intro e ⋯ h
 |lst a j=>
  cases rx;obtain⟨g,k,⟨o,n,b,f,_⟩,_⟩:=I.list a.sq;exact W.kia_one W.kitx_list I.kIn ⟨o,b,f⟩ e ⋯ h
 |tup m a j=>
  cases rx;obtain⟨g,k,⟨o,b,f,_⟩,_⟩:=I.tuple a;exact W.kia_one W.kitx_tuple I.kIn ⟨o,b,f⟩ e ⋯ h
 |dct a p=>
  cases rx;obtain⟨z,q,r,l,⟨o,v,B,b,f,_⟩⟩:=P4 I hk a;exact W.kia_one W.kitx_dict I.kIn ⟨o,b,f.1⟩ e ⋯ h
 |cl=>cases ho
 |ob=>cases ho
end
noncomputable def We:List D->Option (List Int)
 | []=>some []
 | .int i::r=>(We r).bind λs=>some (i::s)
 |_::_=>none
noncomputable def oH:List Int->Int
 | []=>0
 |x::r=>r.foldl (λa b=>if a<b then b else a) x
noncomputable def rR:List Int->Int
 | []=>0
 |x::r=>r.foldl (λa b=>if b<a then b else a) x
theorem G8:∀(r:List Int) (x:Int),r.foldl (λa b=>if a<b then b else a) x ∈ x::r/\∀a ∈ x::r,a<=r.foldl (λa b=>if a<b then b else a) x
 | [],x=>⋯
 |y::r,x=>by
  rw[List.foldl_cons];obtain⟨h1,h2⟩:=G8 r _;refine⟨?_,λa ha=>?_⟩
  . rcases zzC.mp h1 with e|e
    . rw[e];split<;>simp
    . exact zzD _<|zzD _ e
  . have h3:=h2 _ zzF
    rcases zzC.mp ha with e|e
    . subst e;exact Int.le_trans ⋯ h3
    . rcases zzC.mp e with e|e
      . subst e;exact Int.le_trans ⋯ h3
      . exact h2 a<|zzD _ e
theorem Kv:∀(r:List Int) (x:Int),r.foldl (λa b=>if b<a then b else a) x ∈ x::r/\∀a ∈ x::r,r.foldl (λa b=>if b<a then b else a) x<=a
 | [],x=>⋯
 |y::r,x=>by
  rw[List.foldl_cons];obtain⟨h1,h2⟩:=Kv r _;refine⟨?_,λa ha=>?_⟩
  . rcases zzC.mp h1 with e|e
    . rw[e];split<;>simp
    . exact zzD _<|zzD _ e
  . have h3:=h2 _ zzF
    rcases zzC.mp ha with e|e
    . subst e;exact Int.le_trans h3 ⋯
    . rcases zzC.mp e with e|e
      . subst e;exact Int.le_trans h3 ⋯
      . exact h2 a<|zzD _ e
def JQ(h1:M ∈ ns)(h2:∀a ∈ ns,a<=M):oH ns=M:=by
 cases ns with
 |nil=>simp at h1
 |cons x r=>
  obtain⟨k1,k2⟩:=G8 r x;have a1:=k2 M h1;have a2:=h2 _ k1;show r.foldl _ x=M;omega
def JW(h1:M ∈ ns)(h2:∀a ∈ ns,M<=a):rR ns=M:=by
 cases ns with
 |nil=>simp at h1
 |cons x r=>
  obtain⟨k1,k2⟩:=Kv r x;have a1:=k2 M h1;have a2:=h2 _ k1;show r.foldl _ x=M;omega
noncomputable def uj(f:D->Option R0)(ds:List D):Option R0:=match ds with
 | [x]=>f x
 |_=>none
def Qw{K O}(vl:VwL K kd O H xs ds)(h:uj f ds=some r):∃x d,xs=[x]/\Vw K kd O H x d/\f d=some r:=by
 cases vl with
 |nil=>cases h
 |cons a b=>
  cases b with
  |nil=>exact⟨_,_,rfl,a,h⟩
  |cons _ _=>cases h
def Ac:D->Option R0
 | .lst ds=>some<|.im<|.int ds.length
 | .tup ds=>some<|.im<|.int ds.length
 | .str x=>if x.length<=sizeLine then some (.im<|.int x.length)else none
 | .dct kvs=>some (.im<|.int kvs.length)
 |_=>none
def yV:List D->Option R0:=uj Ac
noncomputable def kL:D->Option R0
 | .int i=>some<|.im<|.int i
 | .bl b=>some (.im<|.int (if b then 1 else 0))
 |_=>none
noncomputable def tupP:List D->Option R0
 | [.lst ds]=>some<|.im<|.tup ds
 | [.tup ds]=>some (.im<|.tup ds)
 |_=>none
noncomputable def lI:D->Option R0
 | .lst ds=>some<|.fl ds
 | .tup ds=>some (.fl ds)
 |_=>none
def lstP:List D->Option R0:=uj lI
noncomputable def dctP:List D->Option R0
 | [.dct kvs]=>some (.fd kvs)
 |_=>none
def Gg(ds:List D):Option R0:=match ds with
 | [x,y]=>AK (λi j=>some<|.im<|.int (if j > i then j else i)) x y
 | [x]=>(t_ x).bind λds=>(We ds).bind λns=>if 0<ns.length then some (.im<|.int<|oH ns)else none
 |_=>none
def T5:List D->Option R0
 | [.int i,.int j]=>some<|.im<|.int (if j<i then j else i)
 | [.lst ds]=>(We ds).bind λns=>if 0<ns.length then some (.im<|.int<|rR ns)else none
 |_=>none
def RB{K O}(h:VwL K kd O H xs [d]):∃x,xs=[x]/\Vw K kd O H x d:=by
 cases h with
 |cons a b=>cases b;exact⟨_,rfl,a⟩
def FY{K O}(h:VwL K kd O H xs [d,e]):∃x y,xs=[x,y]/\Vw K kd O H x d/\Vw K kd O H y e:=by
 cases h with
 |cons a b=>
  cases b with
  |cons b c=>cases c;exact⟨_,_,rfl,a,b⟩
def NJ{K O}(h:RpL K kd O H vs ds)(e:We ds=some ns):vs=ns.map V.int:=
 RpL.ind (P:=λvs ds=>∀ns,We ds=some ns->vs=ns.map V.int) (λns e=>by cases e;rfl) (λ{v d vs ds} a _ ih ns e=>by
  cases d with
  |int i=>
   obtain⟨s,h1,h2⟩:=bS_<|e;cases h2;cases a;rw[ih _ h1];rfl
  |_=>cases e) h ns e
section
variable{X:Cx}{kd:KD}
def xX(hk:KdOk X kd):Yh X kd (.builtin "len") yV:=by
 intro pins s σ H xs us Q I r h;obtain⟨O,ds,z,ht,vl,he,q⟩:=h;obtain⟨x,d,rfl,vx,he⟩:=Qw vl he;cases vx with
 |lst hr rl=>cases he;exact Qj pins s σ H _ us Q I r ⟨_,_,rfl,.inl hr.sq,by rw[rl.length];exact z_ q<|.int _⟩
 |tup rp hr rl=>cases he;exact Qj pins s σ H _ us Q I r ⟨_,_,rfl,.inr hr,by rw[rl.length];exact z_ q<|.int _⟩
 |str y=>
  obtain⟨c,rfl⟩:=zq he;exact KS pins s σ H _ us Q I r ⟨_,rfl,c,z_ q<|.int _⟩
 |dct hr rm=>
  cases he;obtain⟨u,rfl,ru⟩:=vals1 r;cases ru;obtain⟨z,hd,vs,rel,dd⟩:=P4 I hk hr;refine call_len_dict hd dd (by rw[<-rel.length];rw[sizeLine_eq]at z;omega) ?_;rw[<-rel.length,rm.length];exact⟨.int _,H,I.tok _,⟨_,rfl⟩,z_ q<|.int _⟩
 |_=>cases he
def Kg:Yh X kd (.type "tuple") tupP:=by
 intro pins s σ H xs us Q I r h;obtain⟨O,ds,z,ht,vl,he,q⟩:=h;unfold tupP at he
 split at he
 . cases he;obtain⟨x,rfl,vx⟩:=RB vl;cases vx with
   |lst hr rl=>exact WZ pins s σ H _ us Q I r ⟨_,_,rfl,.inl ⟨hr.sq,Tg ht q rl⟩⟩
 . cases he;obtain⟨x,rfl,vx⟩:=RB vl;cases vx with
   |tup rp hr rl=>exact WZ pins s σ H _ us Q I r ⟨_,_,rfl,.inr ⟨hr,z_ q rp⟩⟩
 . cases he
def GQ:Yh X kd (.type "list") lstP:=by
 intro pins s σ H xs us Q I r h;obtain⟨O,ds,z,ht,vl,he,q⟩:=h;obtain⟨x,d,rfl,vx,he⟩:=Qw vl he;cases vx with
 |lst hr rl=>cases he;exact VA pins s σ H _ us Q I r ⟨_,_,rfl,.inl hr.sq,QT q rl⟩
 |tup rp hr rl=>cases he;exact VA pins s σ H _ us Q I r ⟨_,_,rfl,.inr hr,QT q rl⟩
 |_=>cases he
def Sn(hk:KdOk X kd):Yh X kd (.type "dict") dctP:=by
 intro pins s σ H xs us Q I r h;obtain⟨O,ds,z,ht,vl,he,q⟩:=h;unfold dctP at he
 split at he
 . cases he;obtain⟨x,rfl,vx⟩:=RB vl;cases vx with
   |dct hr rm=>
    obtain⟨u,rfl,ru⟩:=vals1 r;cases ru;obtain⟨z,hd,vs,rel,dd⟩:=P4 I hk hr;refine kt_call_dict hd dd (by rwa [<-rel.length]) λh' dd' hs=>?_;refine⟨.ref _,_,(I.laid (t':=s.toks) (λb q hq=>?_) (zzN _)<|Ot z (beq_eq_false_iff_ne.mpr<|Ne.symm<|zzQ I.big) rel dd'),rfl,O0 q rm _<|I.hok.fresh<|zzN _⟩;exact(hs.2 b<|zzQ<|zxG hq).trans<|zxF _ hq
 . cases he
def Qv(hc:X.calm=true):Yh X kd (.builtin "max") Gg:=by
 intro pins s σ H xs us Q I r h;obtain⟨O,ds,z,ht,vl,he,q⟩:=h;cases vl with
 |nil=>cases he
 |cons vx vl=>
  cases vl with
  |nil=>
   obtain⟨ds,h0,he⟩:=bS_<|he;cases Qx h0;obtain⟨ns,h1,he⟩:=bS_ he;obtain⟨c,rfl⟩:=zq he;cases vx with
   |lst hr rl=>
    obtain⟨u,rfl,ru⟩:=vals1 r;cases ru;obtain⟨its,rv,p,_⟩:=I.list hr.sq;rw[NJ rl h1]at rv;have hi:=intsAre_of rv;obtain⟨ys,e⟩:=hi.allInts.items;have hns:ns=ys.toList.map (·.1):=by rw[<-hi.numsOf,<-nums_intItems,<-e]
    have hsz:0<ys.size:=by
     have h3:=c;rwa [hns,zzB]at h3
    have hl:=p.isList;rw[e]at hl;refine max_intList (I.ok.hd hc) hl hsz λv h' tk hv kp=>?_;obtain⟨t,rfl⟩:=intItems_at hv;obtain⟨k1,k2⟩:=argBest_gt (numAt ys)<|ys.size-1;refine⟨.int _,H,I.kept kp,⟨t, ?_⟩,z_ q<|.int _⟩
    congr 1
    refine(JQ ?_ λa ha=>?_).symm
    . rw[hns,numAt_eq];have hlt:argBest (λi j=>decide (numAt ys i > numAt ys j)) (ys.size-1)<(ys.toList.map (·.1)).length:=by rw[zzB,zyT];omega
      rw[zyF,zzE hlt];exact List.getElem_mem hlt
    . rw[hns]at ha;obtain⟨j,hj,rfl⟩:=List.getElem_of_mem ha;have hj':=hj;rw[zzB,zyT]at hj;have:=k2 j ⋯
      rwa [numAt_eq ys j,zyF,zzE hj']at this
  |cons vy vl=>
   cases vl with
   |nil=>
    obtain⟨i,j,rfl,rfl,he⟩:=YY vx vy he;cases he;exact Sq hc pins s σ H _ us Q I r ⟨_,_,rfl,z_ q<|.int _⟩
   |cons _ _=>cases he
def G6(hc:X.calm=true):Yh X kd (.builtin "min") T5:=by
 intro pins s σ H xs us Q I r h;obtain⟨O,ds,z,ht,vl,he,q⟩:=h;unfold T5 at he
 split at he
 . cases he;obtain⟨x,y,rfl,vx,vy⟩:=FY vl;cases vx;cases vy;exact Sd hc pins s σ H _ us Q I r ⟨_,_,rfl,z_ q<|.int _⟩
 . obtain⟨ns,h1,he⟩:=bS_ he;obtain⟨c,rfl⟩:=zq he;obtain⟨x,rfl,vx⟩:=RB vl;cases vx with
   |lst hr rl=>
    obtain⟨u,rfl,ru⟩:=vals1 r;cases ru;obtain⟨its,rv,p,_⟩:=I.list hr.sq;rw[NJ rl h1]at rv;have hi:=intsAre_of rv;obtain⟨ys,e⟩:=hi.allInts.items;have hns:ns=ys.toList.map (·.1):=by rw[<-hi.numsOf,<-nums_intItems,<-e]
    have hsz:0<ys.size:=by
     have h3:=c;rwa [hns,zzB]at h3
    have hl:=p.isList;rw[e]at hl;refine min_intList (I.ok.hd hc) hl hsz λv h' tk hv kp=>?_;obtain⟨t,rfl⟩:=intItems_at hv;obtain⟨k1,k2⟩:=argBest_lt (numAt ys)<|ys.size-1;refine⟨.int _,H,I.kept kp,⟨t, ?_⟩,z_ q<|.int _⟩
    congr 1
    refine(JW ?_ λa ha=>?_).symm
    . rw[hns,numAt_eq];have hlt:argBest (λi j=>decide (numAt ys i<numAt ys j)) (ys.size-1)<(ys.toList.map (·.1)).length:=by rw[zzB,zyT];omega
      rw[zyF,zzE hlt];exact List.getElem_mem hlt
    . rw[hns]at ha;obtain⟨j,hj,rfl⟩:=List.getElem_of_mem ha;have hj':=hj;rw[zzB,zyT]at hj;have:=k2 j ⋯
      rwa [numAt_eq ys j,zyF,zzE hj']at this
 . cases he
end
noncomputable def ZQ(env:Env):List (Str×NameKind)->List (Str×Addr)->List (Str×Addr)
 | [],cs=>cs
 |(n,k)::r,cs=>ZQ env r (if k == .free then((n,(env.cells.lookup n).getD 0)::cs)else cs)
def Vf(h:∀x ∈ scope.names,x.2 = .free->∃c,env.cells.lookup x.1=some c):closureFor scope env=pure (ZQ env scope.names []):=by
 have s:∀b i f,
  (∀d g i,f (d,g) i=if g == .free then(do let a <-cellOf env d;pure (.yield ((d,a)::i)))else pure<|.yield i)->
  (∀x ∈ b,x.2 = .free->∃c,env.cells.lookup x.1=some c)->(forIn b i f:Sem _)=pure (ZQ env b i):=by
  intro b
  induction b with
  |nil=>intro i f _ _;rfl
  |cons x r p=>
   intro i f l m;obtain⟨n,k⟩:=x;rw[List.forIn_cons,l];unfold ZQ
   by_cases j:(k == .free)=true
   . obtain⟨c,q⟩:=m _ zzF (by simpa using j);rw[if_pos j,if_pos j];have e:cellOf env n=pure c:=by unfold cellOf;rw[q]
     rw[e,q];exact p _ f l λy o=>m y<|zzD _ o
   . rw[if_neg j,if_neg j];exact p _ f l λy o=>m y<|zzD _ o
 simp only[closureFor];rw[s scope.names [] _ (λd g i=>?_) h]
 . rfl
 . rfl
theorem Km:∀(names:List (Str×NameKind)) (cs:List (Str×Addr)) (p:Str×Addr),p ∈ ZQ env names cs->p ∈ cs\/((p.1,NameKind.free) ∈ names/\p.2=(env.cells.lookup p.1).getD 0)
 | [],_,_,h=>.inl h
 |(n,k)::r,b,p,h=>by
  rcases Km r _ p h with h|h
  . by_cases a:(k == .free)=true
    . rw[if_pos a]at h
      rcases zzC.mp h with e|h
      . subst e;have:k = .free:=by simpa using a
        subst this;exact .inr ⟨zzF,rfl⟩
      . exact .inl h
    . rw[if_neg a]at h;exact .inl h
  . exact .inr ⟨zzD _ h.1,h.2⟩
theorem Pd:∀(names:List (Str×NameKind)) (cs:List (Str×Addr)) (p:Str×Addr),p ∈ cs->p ∈ ZQ env names cs
 | [],_,_,h=>h
 |_::r,a,p,h=>by
  refine Pd r _ p ?_
  split
  . exact zzD _ h
  . exact h
theorem Kt:∀(names:List (Str×NameKind)) (cs:List (Str×Addr)) (x:Str),(x,NameKind.free) ∈ names->(x,(env.cells.lookup x).getD 0) ∈ ZQ env names cs
 |_::r,a,x,h=>by
  rcases zzC.mp h with e|h
  . cases e;exact Pd r _ _ ⋯
  . exact Kt r _ x h
theorem Yj:∀{l:List (Str×α)},(∀p ∈ l,p.1=x->p.2=a)->(∃b,(x,b) ∈ l)->l.lookup x=some a
 | [],_,h=>by obtain⟨_,h⟩:=h;cases h
 |(k,v)::r,u,h=>by
  rw[List.lookup_cons];cases hb:x==k with
  |true=>
   have:=u _ zzF (beq_iff_eq.mp hb).symm;exact congrArg some this
  |false=>
   refine Yj (λp c=>u p<|zzD _ c) ?_;obtain⟨b,h⟩:=h
   rcases zzC.mp h with e|h
   . cases e;simp at hb
   . exact⟨b,h⟩
theorem QW:∀(names:List (Str×NameKind)) (h:Heap) (acc:List (Str×Addr)) (p:Str×Addr),p ∈ cellsFrom h.objs.size names acc->
 p ∈ acc\/((p.1,NameKind.cell) ∈ names/\(pushCells h names).IsCell p.2 none/\h.objs.size<=p.2)
 | [],_,_,_,m=>.inl m
 |(n,k)::r,h,b,p,m=>by
  unfold cellsFrom at m;unfold pushCells
  split at m
  . rename_i a;rw[if_pos a];have e:(h.push {cls:=.type "cell",data:=.cell none}).objs.size=h.objs.size+1:=zxJ ..;rw[<-e]at m
    rcases QW r _ _ p m with m|⟨c,d,f⟩
    . rcases zzC.mp m with g|m
      . subst g;have:k = .cell:=by simpa using a
        subst this;refine .inr ⟨zzF, ?_,zzN _⟩;have z:(h.push {cls:=.type "cell",data:=.cell none}).IsCell h.objs.size none:=⟨_,zxH _ rfl,rfl⟩;exact z.keeps<|pushCells_keeps r _
      . exact .inl m
    . exact .inr ⟨zzD _ c,d,by rw[e]at f;omega⟩
  . rename_i a;rw[if_neg a]
    rcases QW r h b p m with m|⟨c,d,f⟩
    . exact .inl m
    . exact .inr ⟨zzD _ c,d,f⟩
theorem YL:∀(names:List (Str×NameKind)) (n:Nat) (acc:List (Str×Addr)) (p:Str×Addr),p ∈ acc->p ∈ cellsFrom n names acc
 | [],_,_,_,m=>m
 |_::r,n,a,p,m=>by
  unfold cellsFrom
  split
  . exact YL r _ _ p<|zzD _ m
  . exact YL r _ _ p m
theorem Q9:∀(names:List (Str×NameKind)) (n:Nat) (acc:List (Str×Addr)) (x:Str),(x,NameKind.cell) ∈ names->∃c,(x,c) ∈ cellsFrom n names acc
 |_::r,n,a,x,m=>by
  unfold cellsFrom
  rcases zzC.mp m with e|m
  . cases e;exact⟨n,YL r _ _ _ zzF⟩
  . split
    . exact Q9 r _ _ x m
    . exact Q9 r _ _ x m
theorem QJ:∀(names:List (Str×NameKind)) (n:Nat) (acc:List (Str×Addr)),(∀p ∈ acc,p.2<n)->(∀p ∈ acc,∀q ∈ acc,p.2=q.2->p.1=q.1)->∀p ∈ cellsFrom n names acc,∀q ∈ cellsFrom n names acc,p.2=q.2->p.1=q.1
 | [],_,_,_,h=>h
 |_::r,n,c,b,h=>by
  unfold cellsFrom
  split
  . refine QJ r _ _ (λp m=>?_) λp m q a e=>?_
    . rcases zzC.mp m with z|m
      . subst z;exact Nat.lt_succ_self _
      . exact zyZ<|b p m
    . rcases zzC.mp m with z|m
      . rcases zzC.mp a with d|a
        . rw[z,d]
        . subst z;have:=b q a;rw[<-e]at this;exact absurd this ⋯
      . rcases zzC.mp a with d|a
        . subst d;have:=b p m;rw[e]at this;exact absurd this ⋯
        . exact h p m q a e
  . exact QJ r n c b h
section
variable{M:Model}{A:Around}{E:Value->Shared->Prop}{s:Shared}
noncomputable def XZ(scope:Scope)(env:Env)(cl:List (Str×Addr))(L:Addr):Env:=
 {scope:=relabel scope env,locals:=L,globals:=env.globals,cells:=cellsFrom (L+1) scope.names cl,qual:=env.qual,func:=none,code:=env.code,frame:=env.frame,builtins:=env.builtins}
def LO
 (h:∀h' env',{env' with scope:=relabel scope env}=XZ scope env cl s.heap.objs.size->env'.locals=s.heap.objs.size->(∀b o,s.heap.get? b=some o->h'.get? b=some o)->h'.Ns s.heap.objs.size (λ_=>none)->
  (∀p ∈ cellsFrom (s.heap.objs.size+1) scope.names cl,p ∈ cl\/((p.1,NameKind.cell) ∈ scope.names/\h'.IsCell p.2 none/\s.heap.objs.size+1<=p.2))->Q env' {s with heap:=h'}):
 wpAny M A (newFunctionEnv scope env.globals cl [] env.qual none .none<|some env) Q E s:=by
 simp only[newFunctionEnv,Option.isSome_some,if_true];refine zxD<|wpAny_alloc ?_;refine zxD<|wpAny_layCells _ ⋯ _ _ _ _ ?_;have e:(s.heap.push {cls:=.type "dict",data:=.dict #[]}).objs.size=s.heap.objs.size+1:=zxJ ..;refine zxD<|zxE<|zxE<|h _ _ ?_ rfl (λb o q=>pushCells_keeps _ _ b o<|zxF _ q) ((Heap.Ns.new s.heap _).keeps<|pushCells_keeps _ _) λp m=>?_
 . unfold XZ;rw[<-e]
 . rw[<-e]at m
   rcases QW _ _ _ p m with m|⟨g,i,f⟩
   . exact .inl m
   . exact .inr ⟨g,i,by rwa [e]at f⟩
end
abbrev yK(X:Cx)(N:List Str)(scope:Scope)(cl:List (Str×Addr))(s:Shared)(H:Hp)(fp:List Addr):Cx:=
 {X with N:=N,s₀:=s,H₀:=H,env:=XZ scope X.env cl<|s.heap.objs.size+1,outer:=X.stack,ex:=fp,fn:=λx=>scope.names.lookup x==some .cell,pn:=[],xe:=λ_ _=>False}
noncomputable def qD(σ:St):Option Nat->Option V
 |none=>none
 |some j=>(σ[j]?).getD none
def Zw(cap:List (Option Nat))(σ:St):St:=cap.map<|qD σ
noncomputable def WV(N XN:List Str)(names:List (Str×NameKind))(envNames:List (Str×NameKind))(cap:List (Option Nat)):Bool:=
 N.length==cap.length&&(N.zip cap).all (λp=>match p.2 with|none=>true|some j=>XN[j]? == some p.1&&names.contains (p.1,NameKind.free)) &&
 names.all (λp=>p.2 != .free||envNames.lookup p.1==some .cell||envNames.lookup p.1==some .free)&&decide (names.map (·.1)).Nodup
def SI(X:Cx)(ifs:List Expr)(t:TT):Prop:=
 ∀(pins:List (Addr×Obj)) (s:Shared) (σ:St) (H:Hp) (Q:Bool->Hp->Prop),Inv X pins σ H s->t σ H Q->
  wpAny (model X.prog X.w) X.A (forIn ifs true λc r=>if r=true then do let ok <-isTrue c X.env (eval c X.env);pure (ForInStep.yield ok)else pure<|ForInStep.yield r) (TP X pins σ Q) X.xe s
def Jz:SI X [] (λ_ H Q=>Q true H):=λa s σ H Q I h=>wpAny_tests_nil ⟨H,I,h⟩
def J7(h:PT X c t):SI X [c] t:=λa s σ H Q I q=>wpAny_tests_one<|h a s σ H Q I q
def Hs(wi:TI)(cap:List (Option Nat))(g:TG)(tt:TT)(te:TE):TE:=λσ H Q=>wi σ H λJ H1=>∃W:Nat->Nat->List V->Hp->Prop,(∃m,W 0 m [] H1)/\∀i m ys H,W i m ys H->ys.length<=sizeLine/\
 ((J.stop i H/\∀p,H p=none->Q (.ref p) (upd H p<|.lst ys))\/(J.go i H/\∀x H',J.yld i H x H'->g x (Zw cap σ) H' λσ2 H2=>(∀(j:Nat) v,(Zw cap σ)[j]? = some (some v)->σ2[j]? = some (some v))/\
   tt σ2 H2 λb H3=>if b=true then ys.length<sizeLine/\te σ2 H3 λy H4=>∃m',m'<m/\W (i+1) m' (ys++[y]) H4 else ∃m',m'<m/\W (i+1) m' ys H3))
section
variable{prog:Program}{w:World}{A:Around}{E:Value->Shared->Prop}{R:Result->Shared->Prop}{s:Shared}
def Ng(I:Nat->Shared->Prop)
 (turn:∀n s (E:Value->Shared->Prop),I n s->wpAny (model prog w) A (pyNext it) (λr s₁=>match r with
  |none=>R (.ok .next) s₁
  |some v=>wpAny (model prog w) A (letOwnedTupleGo target it v) (λ_ s₁=>wpAny (model prog w) A (assign target env v) (λ_ s₂=>
   wpAny (model prog w) A (forIn ifs true λc r=>if r=true then do let ok <-isTrue c env (eval c env);pure (ForInStep.yield ok)else pure<|ForInStep.yield r) (λok s₃=>
            if ok=true then wpAny (model prog w) A (eval elt env) (λx s₄=>
             wpAny (model prog w) A (call (.builtin "list.append") [acc,x]) (λ_ s₅=>∃m,m<n/\I m s₅) E s₄) E s₃
            else ∃m,m<n/\I m s₃) E s₂) E s₁) E s₁) E s)
 (n:Nat) (h:I n s):
 codeAny (model prog w) A (.compLoop (.ListComp elt [⟨target,iter,ifs,0⟩] scope pos) 0 it acc env) R s:=by
 refine codeAny_loop rfl I (λn s e=>?_) n h;refine wpAny_noted ?_;rw[compTurn_list];refine zxD<|wpAny_standAt<|zxD<|zxK (turn n s _ e) (λr f b=>?_) λ_ _ a=>a;cases r with
 |none=>exact zxE b
 |some v=>
  refine zxD<|zxK b (λ_ f b=>?_) λ_ _ a=>a;refine zxD<|zxK b (λ_ k g=>zxD<|zxK g (λok l d=>?_) λ_ _ a=>a) λ_ _ a=>a;cases ok with
  |false=>exact zxE ⟨rfl,d⟩
  |true=>
   exact zxD<|zxD<|zxK d (λx o i=>zxD<|zxK i (λ_ p j=>zxE<|zxE ⟨rfl,j⟩) λ_ _ a=>a) λ_ _ a=>a
end
structure CapOk(N XN:List Str)(names:List (Str×NameKind))(envNames:List (Str×NameKind))(cap:List (Option Nat)):Prop where
 len:N.length=cap.length
 at_:∀(i:Nat) x (j:Nat),N[i]? = some x->cap[i]? = some (some j)->XN[j]? = some x/\(x,NameKind.free) ∈ names
 fr:∀p ∈ names,p.2 = .free->envNames.lookup p.1=some .cell\/envNames.lookup p.1=some .free
 nd:(names.map (·.1)).Nodup
def NI(h:WV N XN names envNames cap=true):CapOk N XN names envNames cap:=by
 unfold WV at h;simp only[zyC,beq_iff_eq,List.all_eq_true,decide_eq_true_eq]at h;obtain⟨⟨⟨a,b⟩,c⟩,d⟩:=h;refine⟨a,λi x j f g=>?_,λp k e=>?_,d⟩
 . have m:(x,some j) ∈ N.zip cap:=zyA (by rw[List.getElem?_zip_eq_some];exact⟨f,g⟩);have:=b _ m;simp at this;exact ⋯
 . have:=c p k;rw[e]at this;simpa using this
def LU{names:List (Str×NameKind)}(h:(names.map (·.1)).Nodup)(m:(x,k) ∈ names)(m':(x,k') ∈ names):k=k':=by
 induction names with
 |nil=>cases m
 |cons p r ih=>
  obtain⟨h1,h2⟩:=zzW.mp<|h
  rcases zzC.mp m with e|m
  . rcases zzC.mp m' with e'|m'
    . rw[<-e]at e';cases e';rfl
    . exact absurd (zxB.mpr ⟨_,m',by rw[<-e]⟩) h1
  . rcases zzC.mp m' with e'|m'
    . exact absurd (zxB.mpr ⟨_,m,by rw[<-e']⟩) h1
    . exact ih h2 m m'
def QP{names:List (Str×NameKind)}(h:(names.map (·.1)).Nodup)(m:(x,k) ∈ names):names.lookup x=some k:=
 Yj (λp a e=>by cases(e);exact LU h a m) ⟨k,m⟩
def Wb(x):(relabel scope env).names.lookup x=(scope.names.lookup x).map λk=>if(k == .free&&env.scope.kind == .function&&env.kindOf x==some .cell)=true then NameKind.cell else k:=by
 unfold relabel;generalize scope.names=a
 induction a with
 |nil=>rfl
 |cons p r b=>
  obtain⟨n,k⟩:=p;rw[List.lookup_cons];cases hb:x==n with
  |true=>
   have e:=beq_iff_eq.mp hb;subst e;show List.lookup x ((if _=true then _ else _)::_)=_;show _=some (if _=true then NameKind.cell else k)
   split
   . rw[List.lookup_cons,hb]
   . rw[List.lookup_cons,hb]
  |false=>
   show List.lookup x ((if _=true then _ else _)::_)=_
   split
   . rwa [List.lookup_cons,hb]
   . rwa [List.lookup_cons,hb]
def E5(I:Inv X pins σ H s)(C:CapOk N X.N scope.names X.env.scope.names cap)(hk:scope.kind = .function)
 (hf:∀b ∈ fp,UL X pins H b) (ho:∀b ∈ fp,∃o,s.heap.get? b=some o)
 (old:∀b o,s.heap.get? b=some o->h'.get? b=some o) (ns:h'.Ns (s.heap.objs.size+1) (λ_=>none))
 (hc:∀p ∈ cellsFrom (s.heap.objs.size+1+1) scope.names (ZQ X.env scope.names []),p ∈ ZQ X.env scope.names []\/((p.1,NameKind.cell) ∈ scope.names/\h'.IsCell p.2 none/\s.heap.objs.size+1+1<=p.2)):
 Inv (yK X N scope (ZQ X.env scope.names []) s H fp) [] (Zw cap σ) H {s with heap:=h'}:=by
 have has:∀x,(x,NameKind.free) ∈ scope.names->∃c,X.env.cells.lookup x=some c:=λx m=>I.ok.has x<|C.fr _ m rfl;have clo:∀p ∈ ZQ X.env scope.names [],X.env.cells.lookup p.1=some p.2/\(p.1,NameKind.free) ∈ scope.names:=λp m=>by
  rcases Km _ _ p m with z|⟨z1,z2⟩
  . cases z
  . obtain⟨c,e⟩:=has _ z1;rw[e]at z2;exact⟨by rw[e];exact congrArg some z2.symm,z1⟩
 have look:∀x c,(cellsFrom _ scope.names _).lookup x=some c->_\/_:=λx c e=>by
  rcases hc _ (mem_of_lookup e)with m|m
  . exact .inl<|clo _ m
  . exact .inr m
 have lt:∀x c,X.env.cells.lookup x=some c->c<s.heap.objs.size:=λx c e=>by obtain⟨v,z⟩:=I.cell x c e;exact z.lt
 have lookF:∀x,(x,NameKind.free) ∈ scope.names->∃c,(cellsFrom _ scope.names _).lookup x=some c/\X.env.cells.lookup x=some c:=λx m=>by
  obtain⟨c,e⟩:=has x m;have m1:=YL scope.names (s.heap.objs.size+1+1) _ _<|Kt (env:=X.env) scope.names [] x m;refine⟨c,Yj (λp hp ep=>?_) ⟨_,m1⟩,e⟩
  rcases hc p hp with z|z
  . have:=(clo p z).1;rw[ep,e]at this;exact(zzZ this).symm
  . rw[ep]at z;exact absurd (LU C.nd z.1 m) (by decide)
 have kinds:∀x,((relabel scope X.env).names.lookup x=some .cell\/(relabel scope X.env).names.lookup x=some .free)->(x,NameKind.free) ∈ scope.names\/(x,NameKind.cell) ∈ scope.names:=λx h=>by
  rw[Wb]at h;cases e:scope.names.lookup x with
  |none=>rw[e]at h;rcases h with h|h<;>cases h
  |some k=>
   have m:=mem_of_lookup e;cases k with
   |free=>exact .inl m
   |cell=>exact .inr m
   |_=>rw[e]at h;rcases h with h|h<;>(simp at h)
 have lsz:=ns.lt;refine⟨⟨I.ok.mod,hk,I.ok.glob,I.ok.blt,zyW _, ?_, ?_, ?_,I.ok.hd,I.ok.frames,.inl rfl, ?_,I.bs,zzO I.ok.bsz I.sz, ?_, ?_,I.stack,I.stkFree⟩,rfl,I.bare,(Un.kept old),⟨_,ns, ?_⟩, ?_,I.hok.fresh<|zyW _, ?_,(λ_ z=>nomatch z),I.hok.kept old, ?_⟩
 . intro x y c e1 e2;refine QJ scope.names _ _ (λp m=>?_) (λp m q m' e=>?_) (x,c) (mem_of_lookup e1) (y,c) (mem_of_lookup e2) rfl
   . exact zyZ<|zyZ<|lt _ _ (clo p m).1
   . refine I.ok.inj _ _ _ (clo p m).1 ?_;rw[e];exact(clo q m').1
 . intro x h
   rcases kinds x h with m|m
   . obtain⟨c,e,_⟩:=lookF x m;exact⟨c,e⟩
   . obtain⟨c,e⟩:=Q9 scope.names _ _ x m;cases q:(cellsFrom _ scope.names _).lookup x with
     |some c'=>exact⟨c',q⟩
     |none=>
      exfalso;have:=List.lookup_eq_none_iff.mp q (x,c) e;simp at this
 . intro x c hx e;have hx:=hx;have m:=mem_of_lookup<|beq_iff_eq.mp hx
   rcases look x c e with z|z
   . exact absurd (LU C.nd z.2 m) (by decide)
   . exact zzO (zzO (zyW _)<|zyW _) z.2.2
 . intro b hb;obtain⟨o,e⟩:=ho b hb;refine⟨zzQ<|zyZ<|zxG e,λx c ec=>?_⟩
   rcases look x c ec with z|z
   . exact(hf b hb).2.2.2.2.1 x c z.1
   . have:=zxG e;intro q;subst q;exact absurd (zzK this<|zzO (zzO (zyW _)<|zyW _) z.2.2)<|Nat.lt_irrefl _
 . intro b o e hb
   rcases(hf b hb).2.2.2.1 with z|z
   . exact I.ok.noex b o e z
   . exact absurd (zzK (zxG e)<|zzO I.ok.bsz z)<|Nat.lt_irrefl _
 . intro b hb hm
   rcases zzC.mp (I.stkSub b hm)with z|z
   . exact(hf b hb).2.1 z
   . exact(hf b hb).2.2.1 z
 . intro i x v e1 e2 e3;have e2:=e2;unfold Zw at e2;rw[zzI]at e2;cases ec:cap[i]? with
   |none=>rw[ec]at e2;cases e2
   |some c=>
    cases c with
    |none=>rw[ec]at e2;cases e2
    |some j=>
     rw[ec]at e2;have e2:(σ[j]?).getD none=some v:=zzZ e2;obtain⟨xn,m⟩:=C.at_ i x j e1 ec;have es:σ[j]? = some (some v):=by
      cases q:σ[j]? with
      |none=>rw[q]at e2;cases e2
      |some y=>rw[q]at e2;exact congrArg some e2
     have kf:=C.fr _ m rfl;obtain⟨mm,hn,hl⟩:=I.loc;obtain⟨u,r,l⟩:=hl j x v xn es (by rcases kf with k|k;exact .inr<|.inl k;exact .inr<|.inr k);refine⟨u,r,.inr ⟨?_, ?_⟩⟩
     . show(relabel scope X.env).names.lookup x=some .cell\/(relabel scope X.env).names.lookup x=some .free;rw[Wb,QP C.nd m];show some (if _ then _ else _)=_\/some (if _ then _ else _)=_
       split
       . exact .inl rfl
       . exact .inr rfl
     . obtain⟨c,ec,eo⟩:=lookF x m;refine⟨c,ec, ?_⟩
       rcases l with⟨k1,_⟩|⟨_,c2,e4,z⟩
       . have k1:X.env.scope.names.lookup x=some .local:=k1
         rcases kf with k|k<;>(rw[k1]at k;cases k)
       . rw[eo]at e4;cases e4;exact z.keeps old
 . intro x c e
   rcases look x c e with z|z
   . obtain⟨v,q⟩:=I.cell x c z.1;exact⟨v,q.keeps old⟩
   . exact⟨none,z.2.1⟩
 . intro x c e
   rcases look x c e with z|z
   . exact I.freeC x c z.1
   . exact I.hok.fresh<|zzO (zzO (zyW _)<|zyW _) z.2.2
 . show _=_;unfold Zw;rw[zzB,C.len]
noncomputable abbrev lobj(its:List Value):Obj:={cls:=.type "list",data:=.seq its.toArray its.length}
section
variable{X:Cx}{pins:List (Addr×Obj)}{σ:St}{H2:Hp}{s2:Shared}{elt tg iter:Expr}{ifs:List Expr}{scope:Scope}{pos:Pos}{N:List Str}{cap:List (Option Nat)}{g:TG}{tt:TT}{te:TE}{wi:TI}
set_option maxHeartbeats 1000000
def TM{Q:VK}{R:Value->Addr->Result->Shared->Prop}
 (hc:X.calm=true) (C:CapOk N X.N scope.names X.env.scope.names cap) (hk:scope.kind = .function)
 (hg:∀cl s H fp,PG (yK X N scope cl s H fp) tg g) (ht:∀cl s H fp,SI (yK X N scope cl s H fp) ifs tt) (he:∀cl s H fp,PE (yK X N scope cl s H fp) elt te)
 (I2:Inv X pins σ H2 s2) (T:Turn X.prog X.w X.K tg J fp it tn) (st2:tn 0 s2.heap) (f2:∀b ∈ fp,UL X pins H2 b)
 (W:Nat->Nat->List V->Hp->Prop) (m0:Nat) (w0:W 0 m0 [] H2)
 (turn:∀i m ys H,W i m ys H->ys.length<=sizeLine/\((J.stop i H/\∀p,H p=none->Q (.ref p) (upd H p<|.lst ys))\/(J.go i H/\∀x H',J.yld i H x H'->g x (Zw cap σ) H' λσ2 H2=>(∀(j:Nat) v,(Zw cap σ)[j]? = some (some v)->σ2[j]? = some (some v))/\
  tt σ2 H2 λb H3=>if b=true then ys.length<sizeLine/\te σ2 H3 λy H4=>∃m',m'<m/\W (i+1) m' (ys++[y]) H4 else ∃m',m'<m/\W (i+1) m' ys H3)))
 (fin:∀ys H3 s1 m,Inv X pins σ (upd H3 s2.heap.objs.size<|.lst ys) s1->s1.heap.Ns (s2.heap.objs.size+1) m->UL X pins (upd H3 s2.heap.objs.size<|.lst ys) (s2.heap.objs.size+1)->
  Q (.ref s2.heap.objs.size) (upd H3 s2.heap.objs.size<|.lst ys)->R (.ref s2.heap.objs.size) (s2.heap.objs.size+1) (.ok .next) s1):
 wpAny (model X.prog X.w) X.A (newList []) (λacc s₃=>wpAny (model X.prog X.w) X.A (newFunctionEnv scope X.env.globals (ZQ X.env scope.names []) [] X.env.qual none .none<|some X.env) (λcenv s₄=>
  codeAny (model X.prog X.w) X.A (.compStart (.ListComp elt [⟨tg,iter,ifs,0⟩] scope pos) 0 (.ref it) acc {cenv with scope:=relabel scope X.env}) (R acc cenv.locals) s₄) E s₃) E s2:=by
 refine wpAny_newObj_type<|LO λh' env' eE eL old hns hcells=>?_;have e1:(s2.heap.push {cls:=.type "list",dict:=none,data:=.seq ([]:List Value).toArray}).objs.size=s2.heap.objs.size+1:=zxJ ..;dsimp only at eE eL old hns hcells;rw[e1]at eE eL hns hcells;have hD0:(s2.heap.push {cls:=.type "list",dict:=none,data:=.seq ([]:List Value).toArray}).get? s2.heap.objs.size=some (lobj []):=zxH _ rfl;have hD:=old _ _ hD0;have old':∀b o,s2.heap.get? b=some o->h'.get? b=some o:=λb o q=>old b o<|zxF _ q;have fex:∀b ∈ fp,∃o,s2.heap.get? b=some o:=λb hb=>by obtain⟨o,e,_⟩:=T.obj _ _ st2 b hb;exact⟨o,e⟩
 have flt:∀b ∈ fp,b<s2.heap.objs.size:=λb hb=>by obtain⟨o,e⟩:=fex b hb;exact zxG e
 have I':=E5 I2 C hk f2 fex old' hns hcells;rw[eE,eL];generalize hX:yK X N scope (ZQ X.env scope.names []) s2 H2 fp=X' at I';have xP:X'.prog=X.prog:=by rw[<-hX]
 have xw:X'.w=X.w:=by rw[<-hX]
 have xK:X'.K=X.K:=by rw[<-hX]
 have xA:X'.A=X.A:=by rw[<-hX]
 have xe:X'.env=XZ scope X.env (ZQ X.env scope.names []) (s2.heap.objs.size+1):=by rw[<-hX]
 have xL:X'.env.locals=s2.heap.objs.size+1:=by rw[xe];rfl
 have xfs:X'.fs=SE X.stack:=by rw[<-hX]
 have xex:X'.ex=fp:=by rw[<-hX]
 have xs:X'.s₀=s2:=by rw[<-hX]
 have xH:X'.H₀=H2:=by rw[<-hX]
 have xpn:X'.pn=[]:=by rw[<-hX]
 have xc:X'.calm=true:=by rw[<-hX];exact hc
 have xE:X'.xe=λ_ _=>False:=by rw[<-hX]
 have hg':PG X' tg g:=by rw[<-hX];exact hg _ _ _ _
 have ht':SI X' ifs tt:=by rw[<-hX];exact ht _ _ _ _
 have he':PE X' elt te:=by rw[<-hX];exact he _ _ _ _
 have H2D:=I2.hok.fresh<|zzN _;have Dfs:s2.heap.objs.size ∉ X'.fs:=by
  rw[xfs];intro hm
  rcases zzC.mp (I2.stkSub _ hm)with z|z
  . exact absurd I2.lt (by rw[<-z];exact Nat.lt_irrefl _)
  . exact I2.nofs (zzN _) z
 have DL:s2.heap.objs.size≠X'.env.locals:=by rw[xL];exact zzQ<|Nat.lt_succ_self _
 have pinD:∀{σ':St}{H':Hp}{s':Shared}{its:List Value}{ps:List (Addr×Obj)},Inv X' ps σ' H' s'->s'.heap.get? s2.heap.objs.size=some (lobj its)->H' s2.heap.objs.size=none->Inv X' [(s2.heap.objs.size,lobj its)] σ' H' s':=λI e n=>
  I.pins_of λp hp=>by
   cases zzR.mp hp;exact⟨e,n,DL,Dfs,λv z=>by cases z⟩
 have stat:∀{H':Hp}{its:List Value},(∀b ∈ fp,H' b=none)->∀b ∈ fp,UL X' [(s2.heap.objs.size,lobj its)] H' b:=λhn b hb=>by
  refine⟨hn b hb, ?_, ?_,.inl (by rw[xex];exact hb),(I'.ok.exf b<|by rw[xex];exact hb).2,λp hp=>?_⟩
  . exact(I'.ok.exf b<|by rw[xex];exact hb).1
  . exact I'.ok.exfs b (by rw[xex];exact hb)
  . rw[xpn,List.nil_append]at hp;cases zzR.mp hp;exact Nat.ne_of_gt<|flt b hb
 have loop:∀n s',(∃i ys its H3,Inv X' [(s2.heap.objs.size,lobj its)] (Zw cap σ) H3 s'/\tn i s'.heap/\(∀b ∈ fp,H3 b=none)/\zP ys its/\W i n ys H3)->
  codeAny (model X.prog X.w) X.A (.compLoop (.ListComp elt [⟨tg,iter,ifs,0⟩] scope pos) 0 (.ref it) (.ref s2.heap.objs.size)<|XZ scope X.env (ZQ X.env scope.names [])<|s2.heap.objs.size+1)
   (R (.ref s2.heap.objs.size)<|s2.heap.objs.size+1) s':=by
  intro n s' h0;refine Ng (λn s'=>∃i ys its H3,Inv X' [(s2.heap.objs.size,lobj its)] (Zw cap σ) H3 s'/\tn i s'.heap/\(∀b ∈ fp,H3 b=none)/\zP ys its/\W i n ys H3) ?_ n h0;clear h0 n s'
  rintro n s3 E' ⟨i,ys,its,H3,I3,st3,fr3,rv3,w3⟩
  obtain⟨hz,hstep⟩:=turn i n ys H3 w3
  rcases hstep with⟨stop,qn⟩|⟨go,step⟩
  . have:=T.done X' xP xw xK xc i _ s3 _ H3 E' I3 (stat fr3) st3 stop;rw[xA]at this;refine zxK this (λr s4 ⟨hr,I4⟩=>?_) λ_ _ z=>z;subst hr;obtain⟨gD,nD,_⟩:=I4.pin (s2.heap.objs.size,lobj its) (by rw[xpn];simp);obtain⟨m,hn,_⟩:=I4.loc;rw[xL]at hn;have b4:=I4.base;rw[xfs,xex,xH,xs]at b4;have nL:H3 (s2.heap.objs.size+1)=none:=by have:=I4.free;rw[xL]at this;exact this
    have neD:∀b o,s2.heap.get? b=some o->b≠s2.heap.objs.size:=λb o e=>zzQ<|zxG e;have neH:∀b u,H2 b=some u->b≠s2.heap.objs.size:=λb u e z=>by rw[z,H2D]at e;cases e
    have ne3:∀b u,H3 b=some u->b≠s2.heap.objs.size:=λb u e z=>by rw[z,nD]at e;cases e
    have hok4:=I4.hok;rw[xP,xw]at hok4;refine fin ys H3 s4 m (I2.call' ?_ ⟨b4.keep,b4.slot,λb o e n hx=>?_,b4.there,λb xs e=>?_,λb o u e=>?_,λb ps e=>?_⟩ ?_ I4.bare λb hb=>?_) hn (I2.fpOk (zyW _)<|by rw[zH<|Nat.ne_of_gt<|Nat.lt_succ_self _];exact nL)<|qn _ nD
    . have:=I4.os;rw[xs]at this;exact this
    . rw[zH<|neD b o e];exact b4.free b o e n hx
    . rw[zH<|neH b _ e];exact b4.tups b xs e
    . rw[zH<|neH b _ e];exact b4.frzs b o u e
    . rw[zH<|neH b _ e];exact b4.tbls b ps e
    . intro b u e
      by_cases hb:b=s2.heap.objs.size
      . subst hb;rw[yd]at e;cases e;exact⟨hz,its,its.length,rv3,gD⟩
      . rw[zH hb]at e;exact(hok4 b u e).stay (λc v _ q=>q) (λc q=>by rw[zH<|ne3 c _ q];exact q) λc xs q=>by rw[zH<|ne3 c _ q];exact q
    . obtain⟨f0,f1,f3,f4,f5,f6⟩:=f2 b hb;exact⟨f4,f1,f5,f6⟩
  . have:=T.item X' xP xw xK xc i _ s3 _ H3 E' I3 (stat fr3) st3 go;rw[xA]at this;refine zxK this (λr s4 ⟨u,hr,h4⟩=>?_) λ_ _ z=>z;subst hr;refine zxK h4 (λ_ s5 ⟨x,H5,I5,r5,y5,st5,fr5⟩=>?_) λ_ _ z=>z;have I5':=I5.pinned (stat fr5)<|T.obj _ _ st5;have h6:=hg' _ s5 _ H5 x u _ I5' r5<|step x H5 y5;rw[xP,xw,xA,xe,xE]at h6;refine zxK h6 (λ_ s6 ⟨σ6,H6,I6,cap6,q6⟩=>?_) λ_ _ z=>z.elim;have h7:=ht' _ s6 σ6 H6 _ I6 q6;rw[xP,xw,xA,xe,xE]at h7;refine zxK h7 (λb s7 ⟨H7,I7,q7⟩=>?_) λ_ _ z=>z.elim;have keep:∀{H8:Hp}{s8:Shared},Inv X' _ σ6 H8 s8->Inv X' [(s2.heap.objs.size,lobj its)] (Zw cap σ) H8 s8/\tn (i+1) s8.heap/\∀b ∈ fp,H8 b=none:=λ{H8 s8} I8=>by
     refine⟨I8.unpinned.weak ?_ cap6,T.keep _ _ _ st5 λb hb o e=>(I8.pin (b,o)<|zzL _<|zzL _<|YX hb e).1,λb hb=>?_⟩
     . rw[I3.len];exact I8.len.symm
     . obtain⟨o,e,d⟩:=T.obj _ _ st5 b hb;exact(I8.pin (b,o)<|zzL _<|zzL _<|YX hb e).2.1
    cases b with
    |false=>
     obtain⟨m',hm,w7⟩:=q7;obtain⟨k1,k2,k3⟩:=keep I7;exact⟨m',hm,i+1,ys,its,H7,k1,k2,k3,rv3,w7⟩
    |true=>
     obtain⟨hz2,q7⟩:=q7;have h8:=he' _ s7 σ6 H7 _ I7 q7;rw[xP,xw,xA,xe,xE]at h8;refine zxK h8 (λyv s8 ⟨y,H8,I8,ry,m',hm,w8⟩=>?_) λ_ _ z=>z.elim;obtain⟨k1,k2,k3⟩:=keep I8;obtain⟨gD,nD,_⟩:=k1.pin (s2.heap.objs.size,lobj its) (by rw[xpn];simp);have hl:=rv3.length;refine append_at gD (λh9 sb gD9=>?_) (by rw[zzH];omega);have I9:=(k1.pins_of (pins':=[]) (λ_ z=>nomatch z)).turned (t':=s8.toks) (λb o hb e=>(sb.2 b hb).trans e) nD DL (.inr<|by rw[xs];exact zzN _) (λx c ec z=>by
      obtain⟨v,o,ho,hd⟩:=k1.cell x c ec;rw[z,gD]at ho;cases ho;cases hd) (λp hp=>by rw[xpn]at hp;cases hp)
     have gD9':h9.get? s2.heap.objs.size=some (lobj<|its++[yv]):=by
      rw[gD9]
      congr 1
      show({cls:=.type "list",data:=.seq _ _}:Obj)={cls:=.type "list",data:=.seq (its++[yv]).toArray (its++[yv]).length};rw[zzJ,List.length_singleton,List.push_toArray]
     refine⟨m',hm,i+1,ys++[y],its++[yv],H8,pinD I9 gD9' nD,T.keep _ _ _ k2 λb hb o e=>(sb.2 b<|zzQ<|flt b hb).trans e,k3,rv3.append<|.cons ry .nil,w8⟩
 have start:∃i ys its H3,Inv X' [(s2.heap.objs.size,lobj its)] (Zw cap σ) H3 {s2 with heap:=h'}/\tn i h'/\(∀b ∈ fp,H3 b=none)/\zP ys its/\W i m0 ys H3:=
  ⟨0,[],[],H2,pinD I' hD H2D,T.keep _ _ _ st2 λb hb o e=>old' b o e,λb hb=>(f2 b hb).1,.nil,w0⟩
 exact codeAny_compStart_list (loop m0 _ start)<|T.self _ 0 _ _ _ (T.keep _ _ _ st2 λb hb o e=>old' b o e)<|loop m0 _ start
def Ax(hc:X.calm=true)(hi:PI X tg iter wi)(hk:scope.kind = .function)(hcap:WV N X.N scope.names X.env.scope.names cap=true)
 (hg:∀cl s H fp,PG (yK X N scope cl s H fp) tg g) (ht:∀cl s H fp,SI (yK X N scope cl s H fp) ifs tt) (he:∀cl s H fp,PE (yK X N scope cl s H fp) elt te)
 (hs:∀x,foldedSetIterable iter X.env x=pure x):PE X (.ListComp elt [⟨tg,iter,ifs,0⟩] scope pos) (Hs wi cap g tt te):=by
 intro a s σ H Q I h;have C:=NI hcap;refine wpAny_comprehension_free rfl hs (Vf λx m e=>I.ok.has x.1<|C.fr x m e) hk (λy m e=>QP C.nd<|by rwa [<-e]) ?_;refine xV (hi a s σ H _ I h) λv O i=>xV i λj k l=>?_;obtain⟨P,S,U,J,V,e,n,T,d,f2,W,⟨p,t⟩,c⟩:=l;subst e;refine TM hc C hk hg ht he n T d f2 W p t c λY Z z m B D fl q=>?_;refine⟨m,D,λh' E=>?_⟩;obtain⟨F,f1,f3,G,K,L⟩:=fl;exact⟨.ref k.heap.objs.size,_,B.turned (t':=z.toks) (λb o M e=>(E.2 b M).trans e) F f1 G K L,rfl,q⟩
def IG(hN:X.N.Nodup)(hiy:X.N[i]? = some y)(hy:Loc X.env.scope y)(hf:X.fn y=true\/X.env.scope.names.lookup y=some .local)
 (hsw:swapsWith (.ListComp elt [⟨tg,iter,ifs,0⟩] scope pos) (some<|.Name y py) spos.line X.env=pure true)
 (hc:X.calm=true) (hi:PI X tg iter wi) (hk:scope.kind = .function) (hcap:WV N X.N scope.names X.env.scope.names cap=true)
 (hg:∀cl s H fp,PG (yK X N scope cl s H fp) tg g) (ht:∀cl s H fp,SI (yK X N scope cl s H fp) ifs tt) (he:∀cl s H fp,PE (yK X N scope cl s H fp) elt te)
 (hs:∀x,foldedSetIterable iter X.env x=pure x):PS X (.Assign [.Name y py] (.ListComp elt [⟨tg,iter,ifs,0⟩] scope pos) spos) (ua (Hs wi cap g tt te)<|F5 i):=by
 intro c s σ H D I h;have C:=NI hcap;rw[exec_Assign_Name_used _ _ _ _ hsw];refine zxD<|wpAny_standAt<|zxD ?_;refine zxD<|zxK (wpAny_comprehension_free rfl hs (Vf λx m e=>I.ok.has x.1<|C.fr x m e) hk (λy m e=>QP C.nd<|by rwa [<-e]) ?_) (λ_ d t=>zxE<|zxE t) λ_ _ e=>e;refine xV (hi c s σ H _ I h) λv s1 u=>xV u λB E F=>?_;obtain⟨it,fp,tn,J,H2,e,G,T,k,f2,W,⟨K,L⟩,f⟩:=F;subst e;refine TM (Q:=λx M=>F5 i x σ M D.nx) hc C hk hg ht he G T k f2 W K L f λys H3 s3 m O P fl q=>?_;obtain⟨S,f1,f3,U,p,V⟩:=fl;refine wpAny_assign_Name<|GH O hN hiy hy (v:=.ref E.heap.objs.size) rfl (λY Z ⟨a,sb,j⟩=>?_) hf;refine⟨m,P.sameBut sb λz=>?_,λh' n=>?_⟩
 . rcases j with j|j
   . exact f1<|z.trans j
   . exact p y a j z.symm
 . exact⟨_,_,Z.turned (t':=Y.toks) (λb o hb e=>(n.2 b hb).trans e) S f1 U p V,q⟩
end
structure ItC(K:zzA)(kd:KD)(F:Addr->Prop)(H:Hp)(J:It)(ds:List wA):Prop where
 all:∀(H2:Hp) (T:Addr->Prop),(∀b u,H b=some u->H2 b=some u)->(∀a,T a->H a=none/\H2 a≠none)->∀i,(i<ds.length->J.go i H2)/\(ds.length<=i->J.stop i H2)/\
  ∀v H3,J.yld i H2 v H3->(∀b o,H2 b=some o->H3 b=some o)/\∀x,ds[i]? = some x->Rp K kd (λa=>x.1=true/\(F a\/T a)) H3 v x.2
def j0(K:zzA)(kd:KD)(f:IF):TI:=λσ H R=>∃F B ad as ds as',Rel K kd F B [] ad as σ H/\f as=some (ds,as')/\
 ∀J ad' H',Rel K kd F B [] ad' as' σ H'->Grow (Gw [] ad) H (Gw [] ad') H'->ItC K kd (Lv F B (Gw [] ad') true) H' J ds->R J H'
@[irreducible] def J1(X:Cx)(kd:KD)(tg iter:Expr)(f:IF):Prop:=PI X tg iter<|j0 X.K kd f
noncomputable def Pa(os:List O):List wA:=os.map λo=>match o with | .lf st d=>(st,d)|o=>(false,o.toD)
def m9(as:AS):RV->Option (List wA)
 | .ow o=>UI (o.str,o.toD)
 | .bo i=>match as[i]? with
  |some (some (.nd .ls os))=>some (Pa os)
  |some (some (.nd .tp os))=>some (Pa os)
  |_=>none
def xZ(f:EF):IF:=λas=>(f as).bind λp=>(m9 p.2 p.1).bind λds=>some (ds,p.2)
section
variable{K:zzA}{kd:KD}{F B:Addr->Prop}{G:Addr->Prop}{T:List Addr}{ad:Ad}{as:AS}{σ:St}{H H':Hp}
inductive RpC(K:zzA)(kd:KD)(F:Addr->Prop)(H:Hp):List V->List wA->Prop
 |nil:RpC K kd F H [] []
 |cons {v:V}{x:wA}{vs:List V}{ds:List wA}:Rp K kd (λa=>x.1=true/\F a) H v x.2->RpC K kd F H vs ds->RpC K kd F H (v::vs) (x::ds)
theorem RpC.length(h:RpC K kd F H vs ds):vs.length=ds.length:=by
 induction h with
 |nil=>rfl
 |cons _ _ ih=>exact congrArg _ ih
def RpC.get{i:Nat}(h:RpC K kd F H vs ds)(e:ds[i]? = some x):∃v,vs[i]? = some v/\Rp K kd (λa=>x.1=true/\F a) H v x.2:=by
 induction h generalizing i with
 |nil=>simp at e
 |cons h r ih=>
  cases i with
  |zero=>simp at e;subst e;exact⟨_,rfl,h⟩
  |succ i=>
   obtain⟨v,h1,h2⟩:=ih ⋯;exact⟨v,⋯,h2⟩
def Rp.since{T}(k:∀b u,H b=some u->H' b=some u)(hT:∀a,T a->H a=none)(h:Rp K kd Ob H v d):Rp K kd (XW Ob T) H' v d:=
 Rp.grow (W':=T) (H':=H') ⟨λb u q _=>k b u q,λb z=>.inr<|hT b z⟩ (h.less λa z=>z.elim id False.elim)
def Ta{st}(h:RpL K kd (Lv F B G st) H vs ds):RpC K kd (Lv F B G true) H vs (kids st ds):=
 RpL.ind (P:=λvs ds=>RpC K kd _ H vs<|kids st ds) .nil (λ{v d vs ds} h _ ih=>by
  refine .cons (x:=(zv d||st,d)) ?_ ih;cases e:zv d with
  |true=>exact h.flat e
  |false=>
   refine h.less λa z=>?_;have zs:st=true:=z.1;rw[zs];exact z.2) h
def Dl{os}(h:vI K kd F B G H vs os fp):RpC K kd (Lv F B G true) H vs (Pa os):=
 RoL.ind (P:=λvs os _=>RpC K kd _ H vs<|Pa os) .nil (λ{v o vs os fp fq} h _ ih=>by
  have ha:=Q5 h;refine .cons ?_ ih;cases h with
  |lf rp=>exact rp.less λa z=>(by have zs:=z.1;dsimp only at zs;rw[zs];exact z.2)
  |ls=>exact ha.less λa z=>nomatch z.1
  |dc=>exact ha.less λa z=>nomatch z.1
  |ob=>exact ha.less λa z=>nomatch z.1
  |tp=>exact ha.less λa z=>nomatch z.1) h
def P1(h:Yy K H a vs)(r:RpC K kd F H vs ds):ItC K kd F H (mH K a) ds:=⟨λH3 T k hT i=>by
 have hr3:Yy K H3 a vs:=by
  rcases h with(h|⟨o,h⟩)|h
  . exact .inl<|.inl<|k _ _ h
  . exact .inl<|.inr ⟨o,k _ _ h⟩
  . exact .inr h
 refine⟨λhi=>?_,λhi=>⟨_,hr3,by rwa [r.length]⟩,λv H4 hy=>?_⟩
 . obtain⟨u,hu,_⟩:=r.get<|zzE hi;exact⟨_,u,hr3,hu⟩
 . obtain⟨rfl,hv⟩:=hy;refine⟨λ_ _ z=>z,λd hd=>?_⟩;obtain⟨u,hu,ru⟩:=r.get hd;have:=hv _ hr3;rw[hu]at this;cases this;exact(ru.since k λa z=>(hT a z).1).less λa z=>z.2.elim (λy=>.inl ⟨z.1,y⟩) .inr⟩
def Fu(h:Vu K H a vs)(r:RpC K kd F H vs ds):ItC K kd F H (mE K a) ds:=⟨λH3 T k hT i=>by
 have hr3:Vu K H3 a vs:=by
  rcases h with(h|⟨o,h⟩)|h
  . exact .inl<|.inl<|k _ _ h
  . exact .inl<|.inr ⟨o,k _ _ h⟩
  . exact .inr h
 refine⟨λhi=>?_,λhi=>⟨_,hr3,by rwa [r.length]⟩,λv H4 hy=>?_⟩
 . obtain⟨u,hu,_⟩:=r.get<|zzE hi;exact⟨_,u,hr3,hu⟩
 . obtain⟨rfl,hv⟩:=hy;refine⟨λ_ _ z=>z,λd hd=>?_⟩;obtain⟨u,hu,ru⟩:=r.get hd;have:=hv _ hr3;rw[hu]at this;cases this;exact(ru.since k λa z=>(hT a z).1).less λa z=>z.2.elim (λy=>.inl ⟨z.1,y⟩) .inr⟩
def J5(lo)(n:Nat):ItC K kd F H (rd lo n) (yU lo n):=⟨λH2 T k hT i=>by
 have hl:(yU lo n).length=n:=by unfold yU;simp
 refine⟨λhi=>by rw[hl]at hi;exact hi,λhi=>by rw[hl]at hi;exact hi,λv H3 hy=>?_⟩;obtain⟨rfl,rfl⟩:=hy;refine⟨λ_ _ z=>z,λd hd=>?_⟩;have hi:i<n:=by rw[<-hl];exact(zzG.mp hd).1
 unfold yU at hd;rw[zzI,List.getElem?_range hi]at hd;cases hd;exact .int _⟩
end
def MM(he:AE X kd e fa):J1 X kd tg e (xZ fa):=by
 with_unfolding_all (
 intro pins s σ H R I h;obtain⟨F,B,ad,as,ds,as',Rl,e,q⟩:=h;obtain⟨⟨p,as1⟩,h1,e⟩:=bS_<|e;obtain⟨ys,h2,e⟩:=bS_ e;cases e;cases p with
 |ow o=>
  have h2:UI _=some ds:=h2;generalize hd:o.toD=d at h2;cases d with
  |lst xs=>
   cases h2;refine LH he pins s σ H R I ⟨F,B,ad,as,_,as1,Rl,h1,λv T1 ad1 H1 R1 rv1 g1=>?_⟩;have rp:=E8 R1 rv1;rw[hd]at rp;cases rp with
   |lst hn hr rl=>exact⟨_,rfl,⟨_,.inl hr⟩,q _ ad1 H1 R1.drop (g1.trans<|Grow.less Gw.drop)<|P1 (.inl hr)<|Ta rl⟩
   |lstK a b c rl=>exact⟨_,rfl,⟨_,.inr ⟨_,_,_,a,rfl,rfl,rfl,b,c⟩⟩,q _ ad1 H1 R1.drop (g1.trans<|Grow.less Gw.drop)<|P1 (.inr ⟨_,_,_,a,rfl,rfl,rfl,b,c⟩)<|Ta rl⟩
  |tup xs=>
   cases h2;refine Ek he pins s σ H R I ⟨F,B,ad,as,_,as1,Rl,h1,λv T1 ad1 H1 R1 rv1 g1=>?_⟩;have rp:=E8 R1 rv1;rw[hd]at rp;have go:∃a ys,v = .ref a/\Vu X.K H1 a ys/\RpL X.K kd (Lv F B (Gw [] ad1) o.str) H1 ys xs:=by
    cases rp with
    |tup n h r=>exact⟨_,_,rfl,.inl h,r⟩
    |tupK a b c e f r=>exact⟨_,_,rfl,.inr ⟨_,_,_,a,b,c,e,f⟩,r⟩
   obtain⟨a,ys,rfl,hs,rl⟩:=go;exact⟨_,rfl,⟨_,hs⟩,q _ ad1 H1 R1.drop (g1.trans<|Grow.less Gw.drop)<|Fu hs<|Ta rl⟩
  |_=>cases h2
 |bo i=>
  have h2:(match as1[i]? with|some (some<|.nd .ls os)=>some _|some (some<|.nd .tp os)=>some _|_=>none)=some ds:=h2;cases k:as1[i]? with
  |none=>rw[k]at h2;cases h2
  |some s0=>
   rw[k]at h2
   match s0,h2,k with
   |some (.nd .ls os),h2,k=>
    cases h2;refine LH he pins s σ H R I ⟨F,B,ad,as,_,as1,Rl,h1,λv T1 ad1 H1 R1 rv1 g1=>?_⟩;obtain⟨rfl,hs⟩:=rv1;obtain⟨w,hw,ro⟩:=R1.sl i _ k;rw[hs]at hw;cases hw;generalize hfp:ad1 i=fp at ro;cases ro with
    |ls hH rl=>exact⟨_,rfl,⟨_,.inl<|.inl hH⟩,q _ ad1 H1 R1 g1<|P1 (.inl<|.inl hH)<|Dl rl⟩
   |some (.nd .tp os),h2,k=>
    cases h2;refine Ek he pins s σ H R I ⟨F,B,ad,as,_,as1,Rl,h1,λv T1 ad1 H1 R1 rv1 g1=>?_⟩;obtain⟨rfl,hs⟩:=rv1;obtain⟨w,hw,ro⟩:=R1.sl i _ k;rw[hs]at hw;cases hw;generalize hfp:ad1 i=fp at ro;cases ro with
    |tp n hH rl=>exact⟨_,rfl,⟨_,.inl<|.inl hH⟩,q _ ad1 H1 R1 g1<|Fu (.inl<|.inl hH)<|Dl rl⟩)
def B0(hg:Gl X "range")(hm:X.mg "range"=none)(ha:AA X kd [a] fr)(hs:starEach [a] X.env=[(false,eval a X.env)]):J1 X kd tg (.Call (.Name "range" p) [a] [] pos) (yt fr yM):=by
 with_unfolding_all (
 intro pins s σ H R I h;obtain⟨F,B,ad,as,ds,as',Rl,e,q⟩:=h;obtain⟨⟨ps,as1⟩,h1,e⟩:=bS_<|e;obtain⟨⟨xs,lv⟩,h2,e⟩:=bS_ e;obtain⟨ys,h3,e⟩:=bS_ e;cases e;obtain⟨j,rfl,h3⟩:=FI h3
 . obtain⟨hj,e3⟩:=zq h3;cases e3;refine GO hg hm ha hs pins s σ H R I ⟨F,B,ad,as,ps,_,Rl,h1,λvs ad1 H1 R1 rv1 g1=>?_⟩;have vl:=VM R1 rv1 h2;cases vl with
   |cons v1 v2=>
    cases v2;cases v1;exact⟨j,rfl,hj.1,hj.2,q _ ad1 H1 R1 g1<|J5 0 _⟩)
noncomputable def ku(as:AS):Option Nat->Option O
 |none=>none
 |some j=>match as[j]? with
  |some (some (.lf st d))=>some (.lf st d)
  |some (some o)=>some (.lf false o.toD)
  |_=>none
def Zz(cap:List (Option Nat))(as:AS):AS:=cap.map<|ku as
def xr(g:GF)(tt:TF)(fe:EF)(as0:AS):List wA->Option (List O)
 | []=>some []
 |x::r=>(g x as0).bind λas1=>(tt as1).bind λb=>if b.1=true then(fe b.2).bind λp=>(Ai p.2 p.1).bind λq=>if q.1.str=true then(xr g tt fe as0 r).bind λos=>some (q.1::os)else none
  else xr g tt fe as0 r
def zX(fi:IF)(cap:List (Option Nat))(g:GF)(tt:TF)(fe:EF):EF:=λas=>(fi as).bind λp=>if p.1.length<=sizeLine then(xr g tt fe (Zz cap p.2) p.1).bind λos=>some (.ow<|.nd .ls os,p.2)else none
noncomputable def yD:TF:=λas=>some (true,as)
section
variable{K:zzA}{kd:KD}{F B:Addr->Prop}{T:List Addr}{ad:Ad}{as:AS}{σ:St}{H H':Hp}{cap:List (Option Nat)}
def JI(R:Rel K kd F B [] ad as σ H)(k:∀b u,H b=some u->H' b=some u)(hT:∀a ∈ T,H a=none)(hT':∀a ∈ T,H' a≠none):
 Rel K kd (XW (Lv F B (Gw [] ad) true) (· ∈ T)) (λ_=>False) [] (λ_=>[]) (Zz cap as) (Zw cap σ) H':=by
 have no:∀a,¬Gw [] (λ_=>[]) a:=λa z=>z.elim ⋯ λ⟨_,y⟩=>nomatch y;have kn:∀a,H a≠none->H' a≠none:=λa z=>by
  cases e:H a with
  |none=>exact absurd e z
  |some u=>rw[k a u e];simp
 have up:∀{st:Bool}{v:V}{d:D},Rp K kd (λa=>st=true/\Lv F B (Gw [] ad) true a) H v d->Rp K kd (Lv (XW _ _) (λ_=>False) _ st) H' v d:=λ{st v d} h=>by
  have:=Rp.grow (W':=_) (H':=H') ⟨λb u q _=>k b u q,λb z=>.inr<|hT b z⟩<|h.less λa z=>z.elim id False.elim;refine this.less λa z=>?_
  rcases z with(⟨z1,z2⟩|z)|z
  . rcases z2 with z2|z2
    . exact .inl ⟨z1,z2⟩
    . exact .inr z2
  . exact z.elim
  . exact(no a z).elim
 refine⟨by unfold Zz Zw;rw[zzB,zzB],λ_ _=>rfl,λ_=>zyJ,(λ_ _ _ z=>nomatch z),zyJ,(λ_ _ _ z=>nomatch z),λa z=>z.elim (λy=>kn a<|R.trk true a y)<|hT' a,(λ_ z=>z.elim),λa z=>(no a z).elim,λi s e=>?_⟩;unfold Zz at e;rw[zzI]at e;obtain⟨c,hc,rfl⟩:=zzX.mp e;have es:(Zw cap σ)[i]? = some (qD σ c):=by
  unfold Zw;rw[zzI,hc];rfl
 rw[es];cases c with
 |none=>rfl
 |some j=>
  show Po _ _ _ _ _ _ (match as[j]? with|some (some<|.lf st d)=>some _|some (some o)=>some _|_=>none) _ _;cases k2:as[j]? with
  |none=>rfl
  |some s0=>
   cases s0 with
   |none=>rfl
   |some o=>
    obtain⟨v,hv,ro⟩:=R.sl j _ k2;cases o with
    |lf st d=>
     have e0:ad j=[]:=by
            generalize hfp:ad j=fp at ro;cases ro;rfl
     rw[e0]at ro;refine⟨v,by show some ((σ[j]?).getD none)=_;rw[hv];rfl,.lf<|up ?_⟩;exact(QV ro).less λa z=>by have zs:=z.1;rw[zs];exact z.2
    |nd kk os=>exact⟨v,by show some ((σ[j]?).getD none)=_;rw[hv];rfl,.lf<|up ((Q5 ro).less λa z=>nomatch z.1)⟩
def HB(hS:∀i ∈ S,cap[i]? = some none)(h:al K kd (zX fi cap g tt fe) σ H Q):
 Hs (j0 K kd fi) cap (mL K kd S g) (Jt K kd tt) (al K kd fe) σ H Q:=by
 obtain⟨F,B,ad,as,r,as',R,e,q⟩:=h;obtain⟨⟨ds,as1⟩,h1,e⟩:=bS_<|e
 by_cases hz:ds.length<=sizeLine
 . have e:(if ds.length<=sizeLine then(xr g tt fe (Zz cap as1) ds).bind λos=>some (RV.ow<|.nd .ls os,as1)else none)=some (r,as'):=e;rw[if_pos hz]at e;obtain⟨os,h2,e⟩:=bS_ e;cases e;refine⟨F,B,ad,as,ds,as',R,h1,λJ ad1 H1 R1 g1 it=>?_⟩;refine⟨λi m ys H3=>m+i=ds.length/\∃T os1 os2,os=os1++os2/\xr g tt fe (Zz cap as') (ds.drop i)=some os2/\os1.length<=i/\T.Nodup/\(∀a ∈ T,H1 a=none/\H3 a≠none)/\(∀b u,H1 b=some u->H3 b=some u)/\
    RoL (λ_ v d=>Rp K kd (XW (Lv F B (Gw [] ad1) true) (· ∈ T)) H3 v d) (λa=>¬XW (Lv F B (Gw [] ad1) true) (· ∈ T) a) H3 ys os1 T,⟨ds.length,rfl,[],[],os,rfl,h2,zzN _,zyJ,(λ_ m=>nomatch m),(λ_ _ z=>z),.nil⟩, ?_⟩
   rintro i m ys H3 ⟨hm,T,os1,os2,eo,ec,hl,tnd,tf,k3,rl⟩
   obtain⟨i1,i2,i3⟩:=it.all H3 (· ∈ T) k3 tf i;have yl:=rl.length;refine⟨by omega, ?_⟩
   by_cases hi:i<ds.length
   . refine .inr ⟨i1 hi,λv H4 hy=>?_⟩;obtain⟨k4,rp⟩:=i3 v H4 hy;rw[zyQ hi]at ec;obtain⟨as2,e2,ec⟩:=bS_<|ec;obtain⟨⟨b,as3⟩,e3,ec⟩:=bS_ ec;have k14:=λb u h=>k4 b u<|k3 b u h;have kn4:∀a,H3 a≠none->H4 a≠none:=λa z=>by
      cases e:H3 a with
      |none=>exact absurd e z
      |some u=>rw[k4 a u e];simp
     have R4:=JI (cap:=cap) R1 k14 (λa z=>(tf a z).1) λa z=>kn4 a (tf a z).2;have no:∀a,¬Gw [] (λ_=>[]) a:=λa z=>z.elim (λy=>nomatch y) λ⟨_,y⟩=>nomatch y;refine⟨_,_,_,_,ds[i],as2,R4,(rp _<|zzE hi).less λa z=>?_,e2,λσ5 ad5 H5 R5 g5 keep5=>⟨λj w hw=>?_,_,_,ad5,as2,b,as3,R5,e3,λad6 H6 R6 g6=>?_⟩⟩
     . rcases z with(z|z)|z
       . exact z
       . exact z.elim
       . exact(no a z).elim
     . rw[keep5 j λz=>?_]
       . exact hw
       . have:=hS j z;unfold Zw at hw;rw[zzI,this]at hw;cases hw
     . -- what stood is kept
       have g46:=g5.trans g6;have k46:=λb u h=>g46.keep b u h<|no b;have k36:=λb u h=>k46 b u<|k4 b u h;have kn6:∀a,H3 a≠none->H6 a≠none:=λa z=>by
        cases e:H3 a with
        |none=>exact absurd e z
        |some u=>rw[k36 a u e];simp
       have up:∀{H7:Hp}{T2:List Addr},_->_->RoL (λ_ v d=>Rp K kd (XW _ (· ∈ T++T2)) H7 v d) (λa=>¬XW _ (· ∈ T++T2) a) H7 ys os1 T:=λ{H7 T2} k7 f7=>
        RoL.mono (λst v d r=>(r.since k7 f7).less λa z=>z.elim (λy=>.inl<|.inl y) λy=>(zzM.mp y).elim (λx=>.inl<|.inr x) .inr)
            (λa vs n e=>⟨λz=>z.elim (λy=>n<|.inl y) λy=>(zzM.mp y).elim (λx=>n<|.inr x) λx=>(by have:=f7 a x;rw[this]at e;cases e),k7 _ _ e⟩) (λa _ u h=>k7 a u h) rl
       cases b with
       |false=>
        have:=up (T2:=[]) k36 (λ_ m=>nomatch m);rw[zyE]at this;exact⟨m-1,by omega,by omega,T,os1,os2,eo,ec,Nat.le_succ_of_le hl,tnd,λa z=>⟨(tf a z).1,kn6 a (tf a z).2⟩,λb u h=>k36 b u<|k3 b u h,this⟩
       |true=>
        rw[if_pos rfl]at ec;obtain⟨⟨p,as7⟩,e7,ec⟩:=bS_ ec;obtain⟨⟨o,as8⟩,e8,ec⟩:=bS_ ec
        by_cases hs:o.str=true
        . have ec:=ec;rw[if_pos hs]at ec;obtain⟨os3,e9,ec⟩:=bS_ ec;cases ec;refine⟨by omega,_,_,ad6,as3,p,as7,R6,e7,λy T2 ad7 H7 R7 rv7 g7=>?_⟩;obtain⟨ad8,R8,ro8,le8⟩:=RO R7 rv7 e8;have g47:=g46.trans g7;have k47:=λb u h=>g47.keep b u h<|no b;have k37:=λb u h=>k47 b u<|k4 b u h;have f42:=λa z=>(g47.own a<|.inl z).resolve_left<|no a;have f32:∀a ∈ T2,H3 a=none:=λa z=>by
             cases e:H3 a with
             |none=>rfl
             |some u=>have:=k4 a u e;rw[f42 a z]at this;cases this
          have rt:=LN R8 R8.tnd (λa z=>.inl z) ro8 hs;have ro9:Ro (λ_ v d=>Rp K kd (XW _ (· ∈ T++T2)) H7 v d) (λa=>¬XW _ (· ∈ T++T2) a) H7 y o T2:=
             Ro.mono (λst v d r=>r.less λa z=>z.elim (λy=>.inl<|.inl y) λy=>(zzM.mp y).elim (λx=>.inl<|.inr x) .inr)
              (λa vs n e=>⟨λz=>n<|z.elim (λy=>.inl<|.inl y) λy=>(zzM.mp y).elim (λx=>.inl<|.inr x) .inr,e⟩) (λ_ _ _ h=>h) rt.ro
          refine⟨m-1,by omega,by omega,T++T2,os1++[o],os3,by rw[eo,zxA];rfl,e9,by rw[zzJ,List.length_singleton];omega,zxC.mpr ⟨tnd,rt.nd,λa z b z' e=>?_⟩,λa z=>?_,λb u h=>k37 b u<|k3 b u h,(up k37 f32).append<|RoL.one ro9⟩
          . subst e;exact(tf a z).2<|f32 a z'
          . rcases zzM.mp z with z|z
            . refine⟨(tf a z).1, ?_⟩;cases e:H3 a with
              |none=>exact absurd e (tf a z).2
              |some u=>rw[k37 a u e];simp
            . refine⟨?_,rt.tr a z⟩;cases e:H1 a with
              |none=>rfl
              |some u=>have:=k3 a u e;rw[f32 a z]at this;cases this
        . have ec:=ec;rw[if_neg hs]at ec;cases ec
   . refine .inl ⟨i2 (by omega),λp hp=>?_⟩;rw[List.drop_eq_nil_of_le<|by omega]at ec;cases ec;rw[zyE]at eo;subst eo;have pT:=λz=>(tf p z).2 hp;have H1p:H1 p=none:=by
      cases e:H1 p with
      |none=>rfl
      |some u=>have:=k3 p u e;rw[hp]at this;cases this
     have kp:∀b u,H3 b=some u->upd H3 p (.lst ys) b=some u:=λb u h=>by rw[zH<|zW h hp];exact h
     obtain⟨R9,g9⟩:=R1.news (T':=p::T) (H':=upd H3 p<|.lst ys) (zzW.mpr ⟨pT,tnd⟩) (λa z=>(zzC.mp z).elim (λe=>by rw[e];exact H1p) λz=>(tf a z).1) (λb u h=>kp b u<|k3 b u h) (λa z=>by
      rcases zzC.mp z with e|z
      . rw[e,yd];simp
      . cases e:H3 a with
        |none=>exact absurd e (tf a z).2
        |some u=>rw[kp a u e];simp)
     refine q _ (p::T) ad1 _ R9 (.ls yd ?_)<|g1.trans g9;have le:∀st a,Lv F B (Gw (p::T) ad1) st a->XW (XW (Lv F B (Gw [] ad1) true) (· ∈ T)) (· = p) a:=λst a z=>by
      rcases z with(z|z)|z|z
      . exact .inl<|.inl<|.inl<|.inl ⟨rfl,z.2⟩
      . exact .inl<|.inl<|.inl<|.inr z
      . exact(zzC.mp z).elim .inr λy=>.inl<|.inr y
      . exact .inl<|.inl<|.inr<|.inr z
     exact RoL.mono (λst v d r=>(r.since kp λa z=>by rw[z];exact hp).less<|le st) (λa vs n e=>⟨λz=>(le true a z).elim n λy=>(by rw[y,hp]at e;cases e),kp _ _ e⟩) (λa _ u h=>kp a u h) rl
 . have e:=e;rw[if_neg hz]at e;cases e
end
section
variable{X:Cx}{kd:KD}{elt tg iter e a b c:Expr}{es ifs:List Expr}{scope:Scope}{pos:Pos}{N:List Str}{cap:List (Option Nat)}{g:GF}{tt:TF}{fe fa fb:EF}{fi:IF}{S:List Nat}{fr:AF}{fd:DF}
def Lb:SI X [] (Jt X.K kd yD):=λa s σ H Q I h=>by
 obtain⟨F,B,c,as,b,d,R,e,q⟩:=h;cases e;exact Jz a s σ H Q I<|q c H R Grow.refl
def Ae(h:AT X kd c tt):SI X [c] (Jt X.K kd tt):=by with_unfolding_all exact(J7 h)
def L0(hc:X.calm=true)(hi:J1 X kd tg iter fi)(hk:scope.kind = .function)(hcap:WV N X.N scope.names X.env.scope.names cap=true)(hS:S.all (λi=>cap[i]? == some none)=true)
 (hg:∀cl s H fp,AG (yK X N scope cl s H fp) kd tg S g) (ht:∀cl s H fp,SI (yK X N scope cl s H fp) ifs<|Jt X.K kd tt) (he:∀cl s H fp,AE (yK X N scope cl s H fp) kd elt fe)
 (hs:∀x,foldedSetIterable iter X.env x=pure x):AE X kd (.ListComp elt [⟨tg,iter,ifs,0⟩] scope pos) (zX fi cap g tt fe):=by with_unfolding_all exact(yf (Ax (g:=mL X.K kd S g) (te:=al X.K kd fe) hc hi hk hcap hg ht he hs) λσ H Q h=>HB (λi m=>by simpa using List.all_eq_true.mp hS i m) h)
def Am(hN:X.N.Nodup)(hiy:X.N[i]? = some y)(hy:Loc X.env.scope y)(hf:X.fn y=true\/X.env.scope.names.lookup y=some .local)
 (hsw:swapsWith (.ListComp elt [⟨tg,iter,ifs,0⟩] scope pos) (some<|.Name y py) spos.line X.env=pure true)
 (hc:X.calm=true) (hi:J1 X kd tg iter fi) (hk:scope.kind = .function) (hcap:WV N X.N scope.names X.env.scope.names cap=true) (hS:S.all (λi=>cap[i]? == some none)=true)
 (hg:∀cl s H fp,AG (yK X N scope cl s H fp) kd tg S g) (ht:∀cl s H fp,SI (yK X N scope cl s H fp) ifs<|Jt X.K kd tt) (he:∀cl s H fp,AE (yK X N scope cl s H fp) kd elt fe)
 (hs:∀x,foldedSetIterable iter X.env x=pure x):MX X kd (.Assign [.Name y py] (.ListComp elt [⟨tg,iter,ifs,0⟩] scope pos) spos) (zm z i<|zX fi cap g tt fe):=by with_unfolding_all exact(wu (IG (g:=mL X.K kd S g) (te:=al X.K kd fe) hN hiy hy hf hsw hc hi hk hcap hg ht he hs) λD σ H h=>by
 obtain⟨F,B,c,as,o,R,e,q⟩:=h;obtain⟨⟨p,a⟩,d,e⟩:=bS_<|e;obtain⟨_,j,e⟩:=bS_ e;obtain⟨k,e⟩:=zq e;cases e;refine HB (λi m=>by simpa using List.all_eq_true.mp hS i m) ⟨F,B,c,as,p,a,R,d,λv A n r t u g=>?_⟩;obtain⟨b,R2,w⟩:=Eb t u j k;exact q _ b r R2<|g.trans<|Grow.less w)
def IW(F:FnOk X.prog X.w X.K X.mg X.base YG k f fdt ps (Vv X.K kd gg))(hr:Room k X.A)(hg:Gl X x)(hm:X.mg x=some (.ref f))(hk:W.keepIn X.K (.ref f)=true)
 (hb:Binds X.K fdt ps []) (hx:Zb YG X (λ_ _ _=>False)) (ha:AA X kd (e::es) fr) (hdb:(x==("__debug__":Str))=false) (he:starEach (e::es) X.env=(false,eval e X.env)::starEach es X.env) (hpl:(backTo pos<|starEach es X.env).any (·.1)=false):
 AE X kd (.Call (.Name x p) (e::es) [] pos) (ze fr gg):=by with_unfolding_all exact(yf (F9 F hr hg hm hk hb .nil hx ha hdb he hpl) λσ H Q h=>uc h)
def uJ{id}(hc:Yh X kd (.builtin id) gg)(hg:Gl X x)(hm:X.mg x=none)(hv:bootBuiltins x=some (.builtin id))(ha:AA X kd (e::es) fr)(hn:x≠"__name__")(hdb:(x==("__debug__":Str))=false)
 (he:starEach (e::es) X.env=(false,eval e X.env)::starEach es X.env) (hpl:(backTo pos<|starEach es X.env).any (·.1)=false):AE X kd (.Call (.Name x p) (e::es) [] pos) (fP fr gg):=by with_unfolding_all exact(yf (Tr hc hg hm hv ha hn hdb he hpl) λσ H Q h=>jO (λ_ _ _ z=>z) h)
def tD(hc:Yh X kd (.type T) gg)(hg:Gl X x)(hm:X.mg x=none)(hv:bootBuiltins x=some (.type T))(ha:AA X kd (e::es) fr)(hn:x≠"__name__")(hdb:(x==("__debug__":Str))=false)
 (he:starEach (e::es) X.env=(false,eval e X.env)::starEach es X.env) (hpl:(backTo pos<|starEach es X.env).any (·.1)=false):AE X kd (.Call (.Name x p) (e::es) [] pos) (fP fr gg):=by with_unfolding_all exact(yf (BA hc hg hm hv ha hn hdb he hpl) λσ H Q h=>jO (λ_ _ _ z=>z) h)
def Lm(fa:EF)(c:String):EF:=λas=>(fa as).bind λp=>(p.1.frz.view p.2).bind λx=>if Ji x.1=true then some (.ow<|.lf true<|.bl<|F3 (rn x.1) c,p.2)else none
def Oq(hk:KdOk X kd):YB X (.builtin "isinstance") (λxs H Q=>∃x c O d,xs=[x,.ty c]/\VX c=true/\Vw X.K kd O H x d/\Ji d=true/\Q (.bl<|F3 (rn d) c) H):=by
 intro b s σ H l m Q I r h;obtain⟨x,c,O,d,rfl,e,f,g,q⟩:=h;cases r with
 |cons i a=>
  cases a with
  |cons a j=>
   cases j;cases(a);exact Dv hk I i f e g λk=>⟨.bl _,H,I.tok k,rfl,q⟩
def LF{c}(hkd:KdOk X kd)(hc:VX c=true)(hg:Gl X x)(hm:X.mg x=none)(hv:bootBuiltins x=some (.builtin "isinstance"))(hg2:Gl X y)(hm2:X.mg y=none)(hv2:bootBuiltins y=some (.type c))(ha:AE X kd a fa)
 (hn:x≠"__name__") (hdb:(x==("__debug__":Str))=false) (hn2:y≠"__name__") (hdb2:(y==("__debug__":Str))=false)
 (he:starEach [a,.Name y p2] X.env=(false,eval a X.env)::starEach [.Name y p2] X.env) (he2:starEach [.Name y p2] X.env=(false,eval (.Name y p2) X.env)::starEach [] X.env) (hpl:(backTo pos<|starEach [.Name y p2] X.env).any (·.1)=false):
 AE X kd (.Call (.Name x p) [a,.Name y p2] [] pos) (Lm fa c):=by with_unfolding_all exact(yf (Tr (Oq hkd) hg hm hv (YO ha (YO (Ic (v:=.ty c) hg2 hm2 hv2 rfl hn2 hdb2) QG he2) he) hn hdb he hpl) λσ H Q h=>by
 obtain⟨F,B,s,as,r,i,R,e,q⟩:=h;obtain⟨_,k,e⟩:=bS_<|e;obtain⟨⟨d,t⟩,l,e⟩:=bS_ e;obtain⟨m,e⟩:=zq e;cases e;exact vN R k λv b n g f o=>⟨v,c,_,d,rfl,hc,xf.vw g f l,m,q _ [] b n g (.lf<|.bl _) o⟩)
noncomputable def ZD:MG:=λos es=>match es with | [o]=>if os.length<sizeLine then some (os++[o],.lf true .non)else none|_=>none
noncomputable def WR(i:Int)(n:Nat):Nat:=if i<0 then(i+(n:Int)).toNat else min i.toNat n
def Bx:MG:=λos es=>match es with | [.lf _<|.int i,o]=>if(-(2 ^ 63)<=i/\i<2 ^ 63)/\os.length<sizeLine then some (os.take (WR i os.length)++o::os.drop (WR i os.length),.lf true .non)else none|_=>none
def LQ:mJ X kd Bf ZD:=by
 intro F B G l f p q r g o s t H Q h c b d e k;unfold ZD at e
 split at e
 . obtain⟨i,e⟩:=zq e;cases e;cases b with
   |cons j n=>
    cases n;rw[zyE]at d k;exact⟨l,f,_,rfl,rfl,h,by rw[c.length];exact i,k _ _ _ [] (c.append<|RoL.one j) (.lf .non) ⋯ (by rwa [zyE])⟩
 . cases e
def rA:V->List V->Hp->VK->Prop:=λx vs H Q=>∃l xs i y,x = .ref l/\vs=[.int i,y]/\H l=some (.lst xs) /\ -(2 ^ 63)<=i/\i<2 ^ 63/\xs.length<sizeLine/\Q .non (upd H l<|.lst (xs.take (WR i xs.length)++y::xs.drop (WR i xs.length)))
def sR:lU X "list.insert" rA:=by
 intro c s σ H x p v A Q I f g h;obtain⟨l,B,i,y,rfl,rfl,d,j,k,C,q⟩:=h;cases f;obtain⟨u,w,rfl,m,b⟩:=g.two;obtain⟨t,rfl⟩:=m;obtain⟨z,a,n,r,o,e⟩:=I.lstM d;refine call_meets F.slot_list_insert ⟨_,e,rfl⟩ F.entry_list_insert (F.args_list_insert_3 _ _ _) (AutoSeq1.list_insert_list_int_val_1 l a.toArray n i t w (by rw[fitsIndex_both j k];exact zyV)<|by rw[zzH];omega) ⟨e, ?_⟩;refine⟨.non,_,I.lset (its':=a.take (WR i a.length)++w::a.drop (WR i a.length)) d e ?_ ((r.take _).append<|.cons b<|r.drop _) ?_,rfl, ?_⟩
 . show((a.toArray.extract 0<|WR i a.toArray.size).push w++a.toArray.extract _)=_;simp;exact List.take_of_length_le ⋯
 . rw[zzJ,zzT,zzS,List.length_drop];omega
 . rwa [<-o]
def uY:mJ X kd rA Bx:=by
 intro F B G l r C s D t o E I H Q u g b h e k;unfold Bx at e
 split at e
 . rename_i J i K;obtain⟨c,e⟩:=zq e;cases e;cases b with
   |cons v d=>
    cases d with
    |cons d w=>
     cases w;cases v with
     |lf x=>
      cases x;rw[zyE]at h k;obtain⟨f,j,y,z,A⟩:=g.part _;have n:=g.length;rename_i q;refine⟨l,r,i,_,rfl,rfl,u,c.1.1,c.1.2,by rw[n];exact c.2, ?_⟩;rw[n];subst y;have p:((f++j)++q).Perm (f++(q++j)):=by
       rw[zxA];exact(List.perm_append_comm).append_left f
      refine k _ _ _ [] (z.append<|.cons d A) (.lf .non) (λa m=>?_) (by rw[zyE];exact p.nodup_iff.mp h);rw[zyE]at m;exact p.mem_iff.mpr m
 . cases e
def RY{i:Nat}{id}(hm:lU X id r)(hr:mJ X kd r gg)(slot:Slot "list" name id)(hty:typeOf (.builtin id)=pure (.type "method_descriptor"))(ho:PE X (.Name x p) (Vk i))(ha:AD X kd (e::es) fd)
 (hbase:attributeBase (.Name x p) name X.env (eval (.Name x p) X.env)=eval (.Name x p) X.env)
 (hfew:((backTo cpos<|starEach (e::es) X.env).all (λx=>!x.1)&&(backToKw cpos<|keywordEach [] X.env).all (λx=>x.1.isSome)
  && decide ((e::es).length+([]:List Keyword).length+(if([]:List Keyword).isEmpty then 0 else 1)<30))=true)
 (hline:(apos.endLine==cpos.line)=true) (hs:starEach (e::es) X.env=(false,eval e X.env)::starEach es X.env) (hplain:(backTo cpos<|starEach es X.env).any (·.1)=false):
 AE X kd (.Call (.Attribute (.Name x p) name apos) (e::es) [] cpos) (Zn i fd gg):=by with_unfolding_all exact(yf (De PySem.F.plainAttrs_list slot hty hm ho ha hbase hfew hline hs hplain) λσ H Q h=>p_ hr h)
end
inductive Ty where
 |str|lst|dct|int
noncomputable def Ty.nm:Ty->String
 | .str=>"str" | .lst=>"list" | .dct=>"dict" | .int=>"int"
noncomputable def JD:Ty->D->Bool
 | .str,.str _=>true
 | .lst,.lst _=>true
 | .dct,.dct _=>true
 | .int,.int _=>true
 |_,_=>false
def jQ(X:Cx)(T:String)(x:V)(H:Hp):Prop:=∀(pins:List (Addr×Obj)) (σ:St) (s:Shared) (v:Value),Inv X pins σ H s->RelV x v->s.TypeIs v T/\∀a,v = .ref a->∃ob,s.heap.get? a=some ob/\ob.dict=none
def jW(X:Cx)(T:String)(r:V->List V->Hp->VK->Prop)(to:TE)(t:TA):TE:=λσ H Q=>to σ H λx H1=>jQ X T x H1/\t σ H1 λxs H2=>r x xs H2 Q
section
variable{X:Cx}{kd:KD}{o e:Expr}{es:List Expr}{to:TE}{t:TA}{name:Str}{apos cpos:Pos}{T id:String}{r:V->List V->Hp->VK->Prop}
def oG(pa:PlainAttrs T)(slot:Slot T name id)(hty:typeOf (.builtin id)=pure (.type "method_descriptor"))(hm:jd X id r)(ho:PE X o to)(ha:PA X (e::es) t)
 (hbase:attributeBase o name X.env (eval o X.env)=eval o X.env)
 (hfew:((backTo cpos<|starEach (e::es) X.env).all (λx=>!x.1)&&(backToKw cpos<|keywordEach [] X.env).all (λx=>x.1.isSome)
  && decide ((e::es).length+([]:List Keyword).length+(if([]:List Keyword).isEmpty then 0 else 1)<30))=true)
 (hline:(apos.endLine==cpos.line)=true) (hs:starEach (e::es) X.env=(false,eval e X.env)::starEach es X.env) (hplain:(backTo cpos<|starEach es X.env).any (·.1)=false):
 PE X (.Call (.Attribute o name apos) (e::es) [] cpos) (jW X T r to t):=by
 intro a s σ H Q I h;refine wpAny_Call_method_late hbase hfew hline rfl<|xV (ho a s σ H _ I h) λv f ⟨x,g,b,c,i,j⟩=>?_;obtain⟨k,l⟩:=i _ _ _ _ b c;refine⟨T,id,pa,slot,hty,k,l, ?_⟩;have d:=ha cpos a f σ g _ b j;rw[hs]at d ⊢;refine Calls.callWith_builtin ⋯ (Calls.evalArgs_plain ?_);exact xV d λm n ⟨p,q,u,w,y⟩=>hm a n σ q x p v m Q u c w y
def j8(X:Cx)(kd:KD)(id:String)(g:D->List D->Option R0):Prop:=
 jd X id (λx xs H Q=>∃O d ds r,(∀a,O a->H a≠none)/\Vw X.K kd O H x d/\VwL X.K kd O H xs ds/\g d ds=some r/\RQ X.K kd O H Q r)
def pJ(hk:KdOk X kd){O}(h:Vw X.K kd O H x d)(e:JD ty d=true):jQ X ty.nm x H:=by
 intro pins σ s v I rx;cases h with
 |str z=>
  obtain⟨t,rfl⟩:=rx;cases ty<;>first|(cases e;done)|exact⟨typeIs_str s z t,λ_ e=>nomatch e⟩
 |int z=>
  obtain⟨t,rfl⟩:=rx;cases ty<;>first|(cases e;done)|exact⟨typeIs_int s z t,λ_ e=>nomatch e⟩
 |lst hr rl=>
  cases rx;obtain⟨its,_,pl,_⟩:=I.list hr.sq;cases ty<;>first|(cases e;done)|skip
  refine⟨pl.isList.typeIs,λa e=>?_⟩;cases e;obtain⟨o,n,e,c,hd,_⟩:=pl;exact⟨o,e,hd⟩
 |dct hr rm=>
  cases rx;obtain⟨z,hd,vs,rel,dd⟩:=P4 I hk hr;cases ty<;>first|(cases e;done)|skip
  refine⟨dd.typeIs,λb q=>?_⟩;cases q;obtain⟨ob,_,_,h1,h2,_⟩:=dd;exact⟨ob,h1,h2.2.1⟩
 |non=>cases ty<;>cases e
 |bl=>cases ty<;>cases e
 |tup=>cases ty<;>cases e
 |cl=>cases ty<;>cases e
 |ob=>cases ty<;>cases e
def Ka(ty:Ty)(fa:EF)(fr:AF)(g:D->List D->Option R0):EF:=λas=>(fa as).bind λp=>(p.1.frz.view p.2).bind λw=>if JD ty w.1=true then(fr p.2).bind λq=>(p.1.frz.view q.2).bind λx=>(views q.2 q.1).bind λy=>(g x.1 y.1).bind λr=>(wrap (meet x.2 y.2) r).bind λz=>some (z,q.2)else none
def sf(hk:KdOk X kd)(h:al X.K kd (Ka ty fa fr g) σ H Q):
 jW X ty.nm (λx xs H Q=>∃O d ds r,(∀a,O a->H a≠none)/\Vw X.K kd O H x d/\VwL X.K kd O H xs ds/\g d ds=some r/\RQ X.K kd O H Q r) (al X.K kd fa) (J2 X.K kd fr) σ H Q:=by
 obtain⟨F,B,U,as,r,o,R,e,q⟩:=h;obtain⟨⟨p,c⟩,s,e⟩:=bS_<|e;obtain⟨_,t,e⟩:=bS_ e;obtain⟨f,e⟩:=ite_some' e;obtain⟨⟨u,y⟩,A,e⟩:=bS_ e;obtain⟨⟨d,Y⟩,C,e⟩:=bS_ e;obtain⟨⟨D,E⟩,G,e⟩:=bS_ e;obtain⟨I,J,e⟩:=bS_ e;obtain⟨z,L,e⟩:=bS_ e;cases e;refine vN R s λv i Z m b M=>⟨pJ hk (xf.vw m b t) f,F,B,i,c,u,_,m,A,λvs j H2 R2 k n=>?_⟩;exact⟨_,d,D,I,R2.tr _,(xf.vw R2 (b.grow n) C).less Uk.meet1,(VM R2 k G).less Uk.meet2,J,Ye R2 L λw N P S l T=>q w N j P S l<|(M.trans n).trans T⟩
def Ib(hk:KdOk X kd)(hm:j8 X kd id g)(pa:PlainAttrs ty.nm)(slot:Slot ty.nm name id)(hty:typeOf (.builtin id)=pure (.type "method_descriptor"))(ho:AE X kd a fa)(ha:AA X kd (e::es) fr)
 (hbase:attributeBase a name X.env (eval a X.env)=eval a X.env)
 (hfew:((backTo cpos<|starEach (e::es) X.env).all (λx=>!x.1)&&(backToKw cpos<|keywordEach [] X.env).all (λx=>x.1.isSome)
  && decide ((e::es).length+([]:List Keyword).length+(if([]:List Keyword).isEmpty then 0 else 1)<30))=true)
 (hline:(apos.endLine==cpos.line)=true) (hs:starEach (e::es) X.env=(false,eval e X.env)::starEach es X.env) (hplain:(backTo cpos<|starEach es X.env).any (·.1)=false):
 AE X kd (.Call (.Attribute a name apos) (e::es) [] cpos) (Ka ty fa fr g):=by with_unfolding_all exact(yf (oG pa slot hty hm ho ha hbase hfew hline hs hplain) λσ H Q h=>sf hk h)
end
section
variable{K:zzA}{kd:KD}{F B G:Addr->Prop}{T:List Addr}{ad:Ad}{as:AS}{σ:St}{H H':Hp}
inductive RPs(K:zzA)(kd:KD)(F B G:Addr->Prop)(H:Hp):List (V×V)->List (Key×O)->Prop
 |nil:RPs K kd F B G H [] []
 |cons {k:Key}{v:V}{o:O}{ps:List (V×V)}{kos:List (Key×O)}:w_ K kd F B G H v o []->RPs K kd F B G H ps kos->RPs K kd F B G H ((kV k,v)::ps) ((k,o)::kos)
end
abbrev Fn:=List (Bool×D)->Option O
section
variable{P:Program}{w:World}{K:zzA}{mg:Str->Option Value}{base:Heap}{kd:KD}
def JR:FnOk P w K mg base YG k f fd ps (Vv K kd λ_=>none):=
 ⟨λc H Q E h=>(by obtain⟨_,_,_,_,_,e,_⟩:=h;cases e),λA a s H b d c Q E _ _ _ _ h=>(by obtain⟨_,_,_,_,_,e,_⟩:=h;cases e)⟩
def RP(hr:Room k A):A.units+100<cLine:=by have:=hr.un;omega
def sV(P:Program)(w:World)(K:zzA)(kd:KD):Prop:=∀X:Cx,X.prog=P->X.w=w->X.K=K->KdOk X kd
theorem XJ{O}:∀ns:List Int,RpL K kd O H (ns.map V.int)<|ns.map D.int
 | []=>.nil
 |_::r=>.cons (.int _)<|XJ r
def tQ{ns:List Int}(hg:g [(true,.lst<|ns.map D.int)]=some (.lf true<|.bl true))(hS:Ck K H a (ns.map V.int)):Vv K kd g [.ref a] H (λv _=>v = .bl true) E:=by
 refine⟨λ_=>False,[_],.lf true _,⋯,.cons ?_ .nil,hg,λv T e _ _ _ _ b=>?_⟩
 . rcases hS with h|⟨c,n,k,z,r⟩
   . exact .lst (λz=>z.2) h<|XJ ns
   . exact .lstK k z r<|XJ ns
 . cases b with
   |lf d=>cases d;rfl
end
namespace Bt
theorem len:bootBuiltins "len"=some (.builtin "len"):=⋯
theorem max:bootBuiltins "max"=some (.builtin "max"):=⋯
theorem min:bootBuiltins "min"=some (.builtin "min"):=⋯
theorem sum:bootBuiltins "sum"=some (.builtin "sum"):=⋯
theorem divmod:bootBuiltins "divmod"=some (.builtin "divmod"):=⋯
theorem isinstance:bootBuiltins "isinstance"=some (.builtin "isinstance"):=⋯
theorem int:bootBuiltins "int"=some (.type "int"):=⋯
theorem bool:bootBuiltins "bool"=some (.type "bool"):=⋯
theorem str:bootBuiltins "str"=some (.type "str"):=⋯
theorem list:bootBuiltins "list"=some (.type "list"):=⋯
theorem tuple:bootBuiltins "tuple"=some (.type "tuple"):=⋯
theorem dict:bootBuiltins "dict"=some (.type "dict"):=⋯
def n(x)(h:(x==("__name__":Str))=false):x≠"__name__":=λe=>by subst e;simp at h
end Bt
def WD(f:EF)(as:AS)(st:Bool)(d:D):Prop:=f as=some (.ow<|.lf st d,as)
def WT(f:TF)(as:AS)(b:Bool):Prop:=f as=some (b,as)
def WA(f:AF)(as:AS)(rs:List (Bool×D)):Prop:=f as=some (rs.map λx=>.ow<|.lf x.1 x.2,as)
def WO(f:DF)(as:AS)(os:List O):Prop:=f as=some (os,as)
section
variable{as:AS}{f a b:EF}{s t:Bool}{x y z:D}{i j:Int}
def zb:WD (fC x) as true x:=rfl
def za{i:Nat}(h:as[i]? = some (some<|.lf s x)):WD (fV i) as s x:=by unfold WD fV;rw[h]
def AZ(ha:WD a as s x)(hb:WD b as t y)(hg:g x y=some (.im z)):WD (f2 a b g) as (zv z||(s&&t)) z:=by
 unfold WD f2 at *;rw[ha];show((b as).bind _)=_;rw[hb];show((g x y).bind _)=_;rw[hg];show(if _=true then _ else _:Option RV).bind _=_;rw[if_pos<|by unfold meet;simp];rfl
def ri(ha:a as=some (.ow oa,as))(hb:b as=some (.ow ob,as))(hg:g oa.toD ob.toD=some (.im z)):WD (f2 a b g) as (zv z||(oa.str&&ob.str)) z:=by
 unfold WD f2 at *;rw[ha];show((b as).bind _)=_;rw[hb];show((g oa.toD ob.toD).bind _)=_;rw[hg];show(if _=true then _ else _:Option RV).bind _=_;rw[if_pos<|by unfold meet;simp];rfl
def zV(ha:WD a as s x)(hb:WD b as t y)(hg:g x y=some (.im z))(e:zv z=true):WD (f2 a b g) as true z:=by
 have:=AZ ha hb hg;rwa [e]at this
def zN(ha:WD a as s (.int i))(hb:WD b as t (.int j)):WD (f2 a b<|Z4 .Add) as true (.int<|i+j):=zV ha hb rfl rfl
def wV(ha:WD a as s (.int i))(hb:WD b as t (.int j)):WD (f2 a b<|Z4 .Sub) as true (.int<|i-j):=zV ha hb rfl rfl
def KM(ha:WD a as s (.int i))(hb:WD b as t (.int j))(h:j.natAbs<2 ^ 64):WD (f2 a b<|Z4 .Mult) as true (.int<|i*j):=zV ha hb (by show(if _ then _ else _)=_;rw[if_pos<|.inr h]) rfl
def y_(ha:WD a as s (.int i))(hb:WD b as t (.int j))(h1:i.natAbs<big)(h2:j.natAbs<big):WD (f2 a b<|Z4 .Mult) as true (.int<|i*j):=zV ha hb (by show(if _ then _ else _)=_;rw[if_pos<|.inl ⟨h1,h2⟩]) rfl
def xl(ha:WD a as s (.int i))(hb:WD b as t (.int j))(h1:0<j)(h2:j.natAbs<big):WD (f2 a b<|Z4 .FloorDiv) as true (.int<|i/j):=zV ha hb (by show(if _ then _ else _)=_;rw[if_pos ⟨h1,h2⟩]) rfl
def zY(ha:WD a as s (.int i))(hb:WD b as t (.int j))(h1:0<j):WD (f2 a b<|Z4 .Mod) as true (.int<|i%j):=zV ha hb (by show(if _ then _ else _)=_;rw[if_pos h1]) rfl
def sM(ha:WD a as s (.int i))(hb:WD b as t (.int j))(h1:0<=j/\j<=1000000/\i.natAbs<2 ^ 64):WD (f2 a b<|Z4 .Pow) as true (.int<|i ^ j.toNat):=zV ha hb (by show(if _ then _ else _)=_;rw[if_pos h1]) rfl
def RN(ha:WD a as s x)(hb:WD b as t y)(h:Yx 60 x y=some c):WD (f2 a b<|zC .Eq) as true (.bl c):=zV ha hb (by show(Yx 60 x y).bind _=_;rw[h];rfl) rfl
def AU(ha:WD a as s x)(hb:WD b as t y)(h:Yx 60 x y=some c):WD (f2 a b<|zC .NotEq) as true (.bl<|!c):=zV ha hb (by show(Yx 60 x y).bind _=_;rw[h];rfl) rfl
def Cr(ha:WD a as s (.int i))(hb:WD b as t (.int j)):WD (f2 a b<|zC .Lt) as true (.bl<|decide (i<j)):=zV ha hb rfl rfl
def ng(ha:WD a as s (.int i))(hb:WD b as t (.int j)):WD (f2 a b<|zC .Gt) as true (.bl<|decide (j<i)):=zV ha hb rfl rfl
def p9(ha:WD a as s (.int i))(hb:WD b as t (.int j)):WD (f2 a b<|zC .GtE) as true (.bl<|decide (j<=i)):=zV ha hb rfl rfl
def xG(h:WD f as s x)(e:truth x=some c):WT (fT f) as c:=by
 unfold WT fT;rw[h];show((truth x).bind _)=_;rw[e];rfl
def XQ(h:WT c as k):WT (vL c) as (!k):=by unfold WT vL at *;rw[h];rfl
def SL(h:WT c as k)(h2:k=true->WT e as l)(h3:k=false->l=false):WT (Bb c e) as l:=by
 unfold WT Bb at *;rw[h];cases k with
 |true=>exact h2 rfl
 |false=>rw[h3 rfl];rfl
def Hl(h:WT c as k)(h2:k=false->WT e as l)(h3:k=true->l=true):WT (P0 c e) as l:=by
 unfold WT P0 at *;rw[h];cases k with
 |false=>exact h2 rfl
 |true=>rw[h3 rfl];rfl
def TJ(h:WD a as s (.bl k))(h2:k=true->WD b as true (.bl l))(h3:k=false->l=false):WD (T8 a b) as true (.bl l):=by
 unfold WD T8 at *;rw[h];cases k with
 |true=>exact h2 rfl
 |false=>rw[h3 rfl];rfl
def zo:WA aN as []:=rfl
def zd(ha:WD a as s x)(hr:WA fr as rs):WA (aC a fr) as ((s,x)::rs):=by
 unfold WA aC at *;rw[ha];show((fr as).bind _)=_;rw[hr];rfl
theorem YE:∀rs:List (Bool×D),Yl as (rs.map λx=>.ow<|.lf x.1 x.2)=some (rs.map λx=>(zv x.2||x.1,x.2))
 | []=>rfl
 |r::a=>by
  show(Yl as _).bind _=_;rw[YE a];rfl
theorem X1:∀rs:List (Bool×D),views as (rs.map λx=>.ow<|.lf x.1 x.2)=some (rs.map (·.2),some (rs.all (·.1)))
 | []=>rfl
 |r::a=>by
  show(views as _).bind _=_;rw[X1 a];rfl
def RJ(ha:WA fr as rs)(hg:g (rs.map λx=>(zv x.2||x.1,x.2))=some (.lf s x)):WD (ze fr g) as s x:=by
 unfold WD ze;rw[ha];show(Yl as _).bind _=_;rw[YE];show(g _).bind _=_;rw[hg];rfl
def Ze(ha:WA fr as rs)(hg:g (rs.map λx=>(zv x.2||x.1,x.2))=some o):ze fr g as=some (.ow o,as):=by
 unfold ze;rw[ha];show(Yl as _).bind _=_;rw[YE];show(g _).bind _=_;rw[hg];rfl
def FK(ha:WA fr as rs)(hg:g (rs.map (·.2))=some (.im x)):WD (fP fr g) as (zv x||rs.all (·.1)) x:=by
 unfold WD fP;rw[ha];show(views as _).bind _=_;rw[X1];show(g _).bind _=_;rw[hg];show(if _=true then _ else _:Option RV).bind _=_;rw[if_pos ⋯];rfl
def yJ(ha:WA fr as rs)(hg:g (rs.map (·.2))=some (.im x))(e:zv x=true):WD (fP fr g) as true x:=by
 have:=FK ha hg;rwa [e]at this
def yy:WO dN as []:=rfl
def zF{os}(ha:WD a as s x)(hr:WO fr as os):WO (dC a fr) as (.lf s x::os):=by
 unfold WO dC at *;rw[ha];show((fr as).bind _)=_;rw[hr];rfl
def Y7{os}(h:WO fr as os)(hl:os.length<=sizeLine):ya fr as=some (.ow<|.nd .ls os,as):=by
 unfold ya;rw[h];show(if os.length<=sizeLine then _ else _)=_;rw[if_pos hl]
def zr{f g}(h1:f as=some (.nx as1))(h2:g as1=o):zh f g as=o:=by unfold zh;rwa [h1]
def Zd{f g}(h1:f as=some (.rt o)):zh f g as=some (.rt o):=by unfold zh;rw[h1];rfl
def xx{f g}(h:WT c as true)(h1:f as=o):xg c f g as=o:=by unfold xg;rwa [h]
def zt{f g}(h:WT c as false)(h1:g as=o):xg c f g as=o:=by unfold xg;rwa [h]
def zE{i:Nat}{st}(h:WD f as s x)(hi:i<as.length):zm st i f as=some (.nx<|as.set i<|some<|.lf s x):=by
 unfold zm;rw[h];cases st<;>exact if_pos hi
def vC{i:Nat}(h:f as=some (.ow o,as))(hi:i<as.length):zm false i f as=some (.nx<|as.set i<|some o):=by
 unfold zm;rw[h];exact if_pos hi
def Ab{i:Nat}(h:f as=some (.ow o,as))(hi:i<as.length):zm true i f as=some (.nx<|as.set i<|some o.frz):=by
 unfold zm;rw[h];exact if_pos hi
def xR(h:WD f as true x):zx f as=some (.rt<|.lf true x):=by unfold zx;rw[h];rfl
def x6(hl:ds.length=m)(h:c (vX n ds)=some (.rt o)):xD n m c ds=some o:=by unfold xD;rw[if_pos hl,h];rfl
theorem yS{f}(I:Nat->AS->Prop):∀(xs:List wA) (k:Nat) (as:AS),(∀i x as,xs[i]? = some x->I (k+i) as->∃as1,g x as=some as1/\∃as2,f as1=some (.nx as2)/\I (k+i+1) as2)->I k as->∃as',forL g f xs as=some (.nx as')/\I (k+xs.length) as'
 | [],k,as,_,h=>⟨as,rfl,h⟩
 |x::r,k,as,d,h=>by
  obtain⟨a,j,b,l,m⟩:=d 0 x as rfl h;obtain⟨c,n,o⟩:=yS I r (k+1) b (λi y as e q=>by
   obtain⟨u,p,v,s,t⟩:=d _ y as e (by rwa [show k+(i+1)=k+1+i by omega]);exact⟨u,p,v,s,by rwa [show k+1+i+1=k+(i+1)+1 by omega]⟩) m
  refine⟨c, ?_,by rwa [zzT,show k+_=k+1+r.length by omega]⟩;show(g x as).bind _=_;rw[j];show(f a).bind _=_
  rwa [l]
def yr{f}(h:fi as=some (xs,as'))(h2:forL g f xs as'=o):yu fi g f as=o:=by unfold yu;rwa [h]
def xu{lo}{n i:Nat}{x}(h:(yU lo n)[i]? = some x):x=(true,.int<|lo+i)/\i<n:=by
 unfold yU at h;rw[zzI]at h;cases e:(List.range n)[i]? with
 |none=>rw[e]at h;cases h
 |some k=>
  rw[e]at h;obtain⟨a,b⟩:=zzG.mp e;rw[zyU]at a;rw[List.getElem_range]at b;subst b;exact⟨(zzZ h).symm,a⟩
def xk(h:WA fr as [(u,.int j)])(h0:0<=j)(h1:j<1000000):yt fr yM as=some (yU 0 j.toNat,as):=by
 unfold yt;rw[h];show((if -_<=j/\j<2 ^ 62 then some _ else none).bind _)=_;rw[if_pos ⋯];rfl
def OZ(ha:a as=some (.ow o,as))(hr:WA fr as rs):WA (aC a fr) as ((o.str,o.toD)::rs):=by
 unfold WA aC at *;rw[ha];show((fr as).bind _)=_;rw[hr];rfl
def Ft{i:Nat}(h:as[i]? = some (some o)):RV.view as (.bo i)=some (o.toD,o.kl):=by simp only[RV.view,h]
def sx{i:Nat}(h:as[i]? = some (some o)):Ai as (.bo i)=some (o.frz,as.set i<|some o.frz):=by simp only[Ai,h]
def J9{i:Nat}(h:as[i]? = some (some o))(hs:o.str=true):HM as (.bo i)=some o:=by simp only[HM,h,hs,if_true]
def NK{i:Nat}{os}(h:as[i]? = some (some<|.nd k os)):fV i as=some (.bo i,as):=by unfold fV;rw[h]
def kM{i:Nat}{os}(h:as[i]? = some (some<|.nd .ls os)):WD (fP (aC (fV i) aN) yV) as true (.int os.length):=by
 have e:views as [.bo i]=some ([.lst<|O.toDs os],meet (O.nd .ls os).kl<|some true):=by
  show(RV.view as _).bind _=_;rw[Ft h];rfl
 unfold WD fP aC;rw[NK h];simp only[zyL,aN,RV.frz,e];rw[show yV [.lst _]=some _ by show some _=_;rw[Yc]];rfl
def iK{i:Nat}{os}(h:as[i]? = some (some<|.nd .ls os))(hl:os.all O.isLf=true)(hb:WD b as t y)(hg:zw (.lst<|O.toDs os) y=some (.im z)):WD (f2 (fV i) b zw) as (zv z||(O.strs os&&t)) z:=by
 unfold WD f2 at *;rw[NK h];show((b as).bind _)=_;rw[hb];show((RV.view as<|.bo i).bind _)=_;rw[Ft h];have e:(O.nd .ls os).kl=some (O.strs os):=by simp only[O.kl,hl,if_true]
 rw[e];show((zw (.lst _) y).bind _)=_;rw[hg];show(if _=true then _ else _:Option RV).bind _=_;rw[if_pos<|by unfold meet;simp];rfl
def Hq{i:Nat}(h:as[i]? = some (some<|.lf s<|.lst ds)):XF (fV i) as=some (kids s ds,as):=by
 unfold XF fV;rw[h];rfl
def vT{f}(h1:g d as=some as1)(h2:f as1=some (.nx as2))(h3:forL g f r as2=o):forL g f (d::r) as=o:=by
 show(g d as).bind _=_;rw[h1];show(f as1).bind _=_
 rwa [h2]
def Ha{f}(h1:g d as=some as1)(h2:f as1=some (.rt o)):forL g f (d::r) as=some (.rt o):=by
 show(g d as).bind _=_;rw[h1];show(f as1).bind _=_;rw[h2];rfl
def uv{i:Nat}{os}(h:as[i]? = some (some<|.nd .ls os))(hl:os.length<sizeLine)(ha:WD a as s x):yk (Zn i (dC a dN) ZD) as=some (.nx<|as.set i<|some<|.nd .ls<|os++[.lf s x]):=by
 unfold yk Zn;rw[h];have e:=zF ha yy;rw[e];show(Option.bind (match as[i]? with|some (some<|.nd .ls os)=>_|_=>none) _)=_;rw[h];show((ZD os _).bind _).bind _=_;have e2:ZD os [.lf s x]=some _:=if_pos hl;rw[e2];rfl
def Ed(h:f as=some (.ow o,as))(hg:g (o.str,o.toD) as=some as'):YV f g as=some (.nx as'):=by
 unfold YV;rw[h];show(g _ as).bind _=_;rw[hg];rfl
def Ry{i:Nat}(h:as[i]? = some (some o))(hs:o.str=true):zx (fV i) as=some (.rt o):=by
 cases o with
 |lf a d=>unfold zx fV;rw[h];have:=hs;subst this;rfl
 |nd k b=>
  unfold zx;rw[NK h];show(HM as _).bind _=_;rw[J9 h hs];rfl
def sQ{os}(h:WO fr as os)(hl:os.length<=sizeLine)(ha:os.all O.isLf=true):WD (yh fr) as (O.strs os) (.tup<|O.toDs os):=by
 unfold WD yh;rw[h];show(if os.length<=sizeLine then some _ else _)=_;rw[if_pos hl];unfold WX;rw[if_pos ha]
def tj(ha:a as=some (.ow oa,as1))(hb:b as1=some (.ow ob,as2))(hg:g oa.toD ob.toD=some (.fl zs)):f2 a b g as=some (.ow<|.nd .ls<|zs.map<|SG<|oa.str&&ob.str,as2):=by
 unfold f2;rw[ha];show((b as1).bind _)=_;rw[hb];show((g oa.toD ob.toD).bind _)=_;rw[hg];show(if _=true then _ else _:Option RV).bind _=_;rw[if_pos<|by unfold meet;simp];rfl
def wW(ha:WD a as true x)(hb:WD b as true y)(hg:g x y=some (.im z)):WD (f2 a b g) as true z:=by
 have:=AZ ha hb hg
 rwa [show(zv z||_)=true by simp]at this
def qY{i:Nat}{os}(h:as[i]? = some (some<|.nd .ls os))(hl:os.all O.isLf=true)(hs:O.strs os=true)(hb:WD b as true y)(hg:zw (.lst<|O.toDs os) y=some (.im z)):WD (f2 (fV i) b zw) as true z:=by
 have:=iK h hl hb hg
 rwa [hs,show(zv z||_)=true by simp]at this
def Lj:∀zs:List D,zs.map (SG true)=zs.map (O.lf true)
 | []=>rfl
 |z::r=>⋯
def JL(ha:a as=some (.ow oa,as1))(hb:b as1=some (.ow ob,as2))(hg:g oa.toD ob.toD=some (.fl zs))(h1:oa.str=true)(h2:ob.str=true):f2 a b g as=some (.ow<|.nd .ls<|zs.map<|O.lf true,as2):=by
 have:=tj ha hb hg
 rwa [h1,h2,show(true&&true)=true from rfl,Lj]at this
def vO{os}(ha:a as=some (.ow o,as1))(hr:fr as1=some (os,as2)):dC a fr as=some (o::os,as2):=by
 unfold dC;rw[ha];show((fr as1).bind _)=_;rw[hr];rfl
def add_lists(h:xs.length+ys.length<=sizeLine):Z4 .Add (.lst xs) (.lst ys)=some (.fl<|xs++ys):=if_pos h
def GU(lo)(n:Nat):yU lo (n+1)=(true,.int lo)::yU (lo+1) n:=by
 unfold yU;rw[List.range_succ_eq_map,zyS,zyB]
 congr 1
 . simp
 . apply List.map_congr_left;intro i _;show(true,D.int _)=_
   congr 2
   omega
def Mh(ha:WA fr as rs)(hg:g (rs.map (·.2))=some (.im x))(e:rs.all (·.1)=true):WD (fP fr g) as true x:=by
 have:=FK ha hg;rwa [e,zyD]at this
def JF(ha:WD a as s y)(ht:JD ty y=true)(hr:WA fr as rs)(hg:g y (rs.map (·.2))=some (.im x))(e:zv x=true):WD (Ka ty a fr g) as true x:=by
 unfold WD Ka;rw[ha];show(if JD ty y=true then _ else _:Option _)=_;rw[if_pos ht,hr];simp only[zyL,X1];show((g y _).bind _)=_;rw[hg];show(if _=true then _ else _:Option RV).bind _=_;rw[if_pos<|by rw[e];rfl];show some (RV.ow<|.lf _ x,as)=_;rw[e];rfl
def IH(h:WD f as s x)(e:UI (s,x)=some ds):xZ f as=some (ds,as):=by
 unfold xZ;rw[h];show(UI (s,x)).bind _=_;rw[e];rfl
def QK{g fe as0 as1 y r os}(h1:g y as0=some as1)(h2:WD fe as1 true x)(h3:xr g yD fe as0 r=some os):xr g yD fe as0 (y::r)=some (.lf true x::os):=by
 show(g y as0).bind _=_;rw[h1];show(fe as1).bind _=_;rw[h2];rw[h3];rfl
def Qd{fi cap g tt fe xs os}(h1:fi as=some (xs,as))(hl:xs.length<=sizeLine)(h2:xr g tt fe (Zz cap as) xs=some os):zX fi cap g tt fe as=some (.ow<|.nd .ls os,as):=by
 unfold zX;rw[h1];show(if xs.length<=sizeLine then _ else _)=_;rw[if_pos hl];rw[h2];rfl
end
def WY(h:Nat.ble n 1000=true):n<=sizeLine:=Nat.le_of_lt<|QB<|Nat.le_of_ble_eq_true h
def zg(h:Nat.ble (a+1) b=true):a<b:=Nat.le_of_ble_eq_true h
def zK(h0 : -(10 ^ 200)<i)(h1:i<10 ^ 200):i.natAbs<big:=by
 have:10 ^ 200<big:=by decide +kernel
 have e:((10 ^ 200:Nat):Int)=10 ^ 200:=by norm_cast
 omega
def GC(K:zzA)(kd:KD)(mg:Str->Option Value)(x:Str)(d:D):Prop:=∃v u,mg x=some u/\RelV v u/\∀(O:Addr->Prop) (H:Hp),Rp K kd O H v d
section
variable{X:Cx}{kd:KD}{K:zzA}{mg:Str->Option Value}
def D0(h:GC X.K kd X.mg x d)(hg:Gl X x)(hd:(x==("__debug__":Str))=false):AE X kd (.Name x pos) (fC d):=by
 (
 obtain⟨v,u,h1,h2,h3⟩:=h;exact Tx (Ar hg h1 h2 hd) h3)
theorem GC.int(h:mg x=some (.int i t)):GC K kd mg x (.int i):=⟨.int i,_,h,⟨t,rfl⟩,λ_ _=>.int i⟩
def kj(K:zzA)(g:Fn):Sp:=λvs H Q E=>∀kd:KD,Vv K kd g vs H Q E
end
def Nc(fa fb fc:EF)(g g':D->D->Option R0):EF:=λas=>(fa as).bind λp=>(fb p.2).bind λq=>(p.1.frz.view q.2).bind λx=>(q.1.frz.view q.2).bind λy=>(g x.1 y.1).bind λr=>match r with
 | .im (.bl true)=>(fc q.2).bind λt=>(q.1.frz.view t.2).bind λy'=>(t.1.frz.view t.2).bind λz=>(g' y'.1 z.1).bind λr'=>(wrap (meet y'.2 z.2) r').bind λo=>some (o,t.2)
 | .im (.bl false)=>some (.ow<|.lf true<|.bl false,q.2)
 |_=>none
section
variable{X:Cx}{kd:KD}{a b c:Expr}{fa fb fc:EF}{pos:Pos}
def NC(ho:D7 X kd (compareOp op) g)(ho':D7 X kd (compareOp op') g')(ha:AE X kd a fa)(hb:AE X kd b fb)(hc:AE X kd c fc)(hm:lastMarks [op,op'] [b,c]=false):
 AE X kd (.Compare a [op,op'] [b,c] pos) (Nc fa fb fc g g'):=by with_unfolding_all exact(yf (OG ho ho' ha hb hc hm) λσ H Q h=>by
 obtain⟨F,B,ad,as,r,O,R,e,q⟩:=h;obtain⟨_,S,e⟩:=bS_<|e;obtain⟨_,T,e⟩:=bS_ e;obtain⟨⟨x,U⟩,V,e⟩:=bS_ e;obtain⟨⟨y,W⟩,Y,e⟩:=bS_ e;obtain⟨K,Z,e⟩:=bS_ e;refine vN R S λv ad1 H1 R1 k L=>vN R1 T λu l H2 R2 d m=>⟨_,x,y,K,R2.tr _,(xf.vw R2 (k.grow m) V).less Uk.meet1,(xf.vw R2 d Y).less Uk.meet2,Z, ?_⟩
 match K,e with
 | .im (.bl true),e=>
  obtain⟨⟨t,as3⟩,h6,e⟩:=bS_<|e;obtain⟨⟨y',n⟩,h7,e⟩:=bS_ e;obtain⟨⟨z',s⟩,h8,e⟩:=bS_ e;obtain⟨r1,h9,e⟩:=bS_ e;obtain⟨o,A,e⟩:=bS_ e;cases e;intro w M C D;cases D;obtain⟨E,f⟩:=R2.more C;refine⟨true,rfl, ?_⟩;refine vN E h6 λw' G H4 i I N=>⟨_,y',z',r1,i.tr _,(xf.vw i ((d.grow f).grow N) h7).less Uk.meet1,(xf.vw i I h8).less Uk.meet2,h9, ?_⟩;exact Ye i A λw T' H' R' J g'=>q w T' G H' R' J<|(((L.trans m).trans f).trans N).trans g'
 | .im (.bl false),e=>
  cases e;intro w M C D;cases D;obtain⟨E,f⟩:=R2.more C;refine⟨false,rfl, ?_⟩;exact q _ [] l M E (.lf<|.bl _)<|(L.trans m).trans f)
end
inductive Ents(w:World):List DictEntry->List (Key×V)->Prop
 |nil:Ents w [] []
 |str {x:Str}{t:Tok}{v:V}{u:Value}{r:List DictEntry}{s:List (Key×V)}:RelV v u->Ents w r s->Ents w (⟨PyData.keyHash w.params x,.str x t,u⟩::r) ((.inr x,v)::s)
theorem Ents.keys:∀{es:List DictEntry}{kvs:List (Key×V)},Ents w es kvs->∀e ∈ es,∃k,(xY P w).is k e.key=true/\e.hash=(xY P w).hash k
 |_,_,.nil,_,m=>nomatch m
 |_,_,.str (x:=x) (t:=t) _ r,e,m=>by
  rcases zzC.mp m with rfl|m
  . exact⟨.inr x,XG P w x t,rfl⟩
  . exact r.keys e m
theorem Ents.pairs:∀{es:List DictEntry}{kvs:List (Key×V)},Ents w es kvs->∃vs,KV kvs vs/\Pairs (xY P w) es vs/\vs.map (·.1)=kvs.map (·.1)
 |_,_,.nil=>⟨[],.nil,.nil,rfl⟩
 |_,_,.str (x:=x) (t:=t) (u:=u) h r=>by
  obtain⟨a,b,c,d⟩:=r.pairs;exact⟨(.inr x,u)::a,.cons ⟨rfl,h⟩ b,.cons (XG P w x t) rfl c,by rw[zyS,zyS,d]⟩
structure DctAt(w:World)(K:zzA)(a:Addr)(kvs:List (Key×V)):Prop where
 ex:∃es ep,K.lookup a=some {cls:=.type "dict",data:=.dict es ep}/\Ents w es.toList kvs
 nd:(kvs.map (·.1)).Nodup
 le:kvs.length<=sizeLine
 ns:(a==sysModules)=false
noncomputable def kdL(l:List (Addr×List (Key×V)))(c:Str->Addr:=λ_=>0):KD:=⟨λa k=>l.lookup a=some k,c⟩
def lookup_mem{l:List (Addr×List (Key×V))}(h:l.lookup a=some k):(a,k) ∈ l:=by
 induction l with
 |nil=>cases h
 |cons p r b=>
  rw[List.lookup_cons]at h
  by_cases e:a=p.1
  . subst e;rw[beq_self_eq_true]at h;cases h;exact zzF
  . rw[show _=false from beq_eq_false_iff_ne.mpr e]at h;exact zzD _<|b h
def u9{K}(h:∀p ∈ l,DctAt w K p.1 p.2):sV P w K (kdL l c):=λX n o r=>by
 subst o;subst r;refine⟨λa k v b d=>zzZ<|b.symm.trans d,λa k b=>?_,λa k y b f=>?_⟩
 . obtain⟨g,i,e,_⟩:=(h _<|lookup_mem b).ex;exact⟨_,e⟩
 . have q:=h _<|lookup_mem b;obtain⟨g,i,e,j⟩:=q.ex;obtain⟨s,d,t,u⟩:=j.pairs;refine⟨q.le,q.ns,s,d,_,g,i,f _ _ e,⟨rfl,rfl,rfl⟩,rfl,λx m=>j.keys x (by simpa using m),t,by rw[u];exact q.nd⟩
noncomputable def isStar:Expr->Bool
 | .Starred .. => true
 |_=>false
def G5(h:isStar a=false):starEach (a::es) env=(false,eval a env)::starEach es env:=by
 cases a<;>first|rfl|cases h
section
variable{as:AS}{f a b c:EF}{s t u:Bool}{x y z:D}{i j k:Int}
def DR(h:WD f as s (.bl q)):WD (BU f) as true (.bl<|!q):=by
 unfold WD BU at *;rw[h];rfl
def BV(h1:g w as0=some as1)(h2:WT tt as1 false)(h3:xr g tt fe as0 r=o):xr g tt fe as0 (w::r)=o:=by
 show(g w as0).bind _=_;rw[h1];show(tt as1).bind _=_
 rwa [h2]
def WE(f:EF)(as:AS)(x:D):Prop:=∃o,f as=some (.ow o,as)/\o.str=true/\o.toD=x
def RE(r:Option O)(x:D):Prop:=∃o,r=some o/\o.str=true/\o.toD=x
def WD.e(h:WD f as true x):WE f as x:=⟨_,h,rfl,rfl⟩
def RE.of(h:r=some (.lf true x)):RE r x:=⟨_,h,rfl,rfl⟩
def xi{os}(h:WO fr as os)(hl:os.length<=sizeLine)(hs:O.strs os=true)(e:D.lst (O.toDs os)=x):WE (ya fr) as x:=⟨_,Y7 h hl,hs,e⟩
def yZ(h:WE a as x)(hr:WA fr as rs):WA (aC a fr) as ((true,x)::rs):=by
 obtain⟨o,b,c,rfl⟩:=h;have:=OZ b hr
 rwa [c]at this
def xO(ha:WE a as x)(hg:RE (g [(true,x)]) z):WE (ze (aC a aN) g) as z:=by
 obtain⟨o,b,c,d⟩:=hg;exact⟨o,Ze (yZ ha zo) (by show g [(zv x||true,x)]=_;rwa [zyD]),c,d⟩
def yB(ha:WE a as x)(hb:WE b as y)(hg:RE (g [(true,x),(true,y)]) z):WE (ze (aC a<|aC b aN) g) as z:=by
 obtain⟨o,c,d,e⟩:=hg;exact⟨o,Ze (yZ ha<|yZ hb zo) (by show g [(zv x||true,x),(zv y||true,y)]=_;rwa [zyD,zyD]),d,e⟩
def zZ(ha:WE a as x)(hb:WE b as y)(hc:WE c as w)(hg:RE (g [(true,x),(true,y),(true,w)]) z):WE (ze (aC a<|aC b<|aC c aN) g) as z:=by
 obtain⟨o,d,e,f⟩:=hg;exact⟨o,Ze (yZ ha<|yZ hb<|yZ hc zo) (by show g [(zv x||true,x),(zv y||true,y),(zv w||true,w)]=_;rwa [zyD,zyD,zyD]),e,f⟩
def D2(ha:WE a as x)(hg:g [(true,x)]=some (.lf s z)):WD (ze (aC a aN) g) as s z:=Ze (yZ ha zo) (by show g [(zv x||true,x)]=_;rwa [zyD])
def EU(ha:WE a as x)(hb:WE b as y)(hg:g [(true,x),(true,y)]=some (.lf s z)):WD (ze (aC a<|aC b aN) g) as s z:=Ze (yZ ha<|yZ hb zo) (by show g [(zv x||true,x),(zv y||true,y)]=_;rwa [zyD,zyD])
def OU(ha:WE a as x)(hb:WE b as y)(hc:WE c as w)(hg:g [(true,x),(true,y),(true,w)]=some (.lf s z)):WD (ze (aC a<|aC b<|aC c aN) g) as s z:=Ze (yZ ha<|yZ hb<|yZ hc zo) (by show g [(zv x||true,x),(zv y||true,y),(zv w||true,w)]=_;rwa [zyD,zyD,zyD])
def MQ(ha:WE a as x)(hb:WE b as y)(hg:g x y=some (.im z)):WD (f2 a b g) as true z:=by
 obtain⟨o,c,d,rfl⟩:=ha;obtain⟨p,e,f,rfl⟩:=hb;have:=ri c e hg
 rwa [d,f,Bool.and_true,zyD]at this
def iO(ha:WE a as x)(hb:WE b as y)(hg:g x y=some (.fl zs)):f2 a b g as=some (.ow<|.nd .ls<|zs.map<|O.lf true,as):=by
 obtain⟨o,c,d,rfl⟩:=ha;obtain⟨p,e,f,rfl⟩:=hb;exact JL c e hg d f
theorem Xe:∀zs:List D,O.strs (zs.map<|O.lf true)=true
 | []=>rfl
 |_::r=>Xe r
theorem Vd:∀zs:List D,O.toDs (zs.map<|O.lf true)=zs
 | []=>rfl
 |z::r=>congrArg _<|Vd r
def Ou(ha:WE a as x)(hb:WE b as y)(hg:g x y=some (.fl zs)):WE (f2 a b g) as (.lst zs):=⟨_,iO ha hb hg,Xe zs,congrArg D.lst<|Vd zs⟩
def yO(h:WE f as x)(hi:p<as.length):zm true p f as=some (.nx<|as.set p<|some<|.lf true x):=by
 obtain⟨o,a,b,rfl⟩:=h;have:=Ab a hi
 rwa [show o.frz = .lf true o.toD by unfold O.frz;rw[b]]at this
def uU(ha:WE a as x)(hb:WE b as y)(h:Yx 60 x y=some q):WD (f2 a b<|zC .Eq) as true (.bl q):=MQ ha hb (by show(Yx 60 x y).bind _=_;rw[h];rfl)
def MK(ha:WE a as x)(hb:WE b as y)(h:Yx 60 x y=some q):WD (f2 a b<|zC .NotEq) as true (.bl<|!q):=MQ ha hb (by show(Yx 60 x y).bind _=_;rw[h];rfl)
def Qt(ha:WE a as x)(hg:g [x]=some (.im z)):WD (fP (aC a aN) g) as true z:=Mh (yZ ha zo) hg rfl
def Hn{os}(ha:a as=some (.ow o,as))(hr:WO fr as os):WO (dC a fr) as (o::os):=vO ha hr
def HC{os}(h:WO fr as os)(hl:os.length<=sizeLine):yh fr as=some (.ow<|WX os,as):=by
 unfold yh;rw[h];show(if os.length<=sizeLine then some _ else _)=_;rw[if_pos hl]
def F6{lo hi}(ha:WE a as y)(hl:fl as=some (lo,as))(hh:fh as=some (hi,as))(hg:g y lo hi=some (.fl zs)):WE (XE a fl fh g) as (.lst zs):=by
 obtain⟨o,b,c,rfl⟩:=ha;refine⟨.nd .ls _, ?_,Xe zs,congrArg D.lst<|Vd zs⟩;unfold XE;rw[b];show((fl as).bind _)=_;rw[hl];show((fh as).bind _)=_;rw[hh];show((g o.toD lo hi).bind _)=_;rw[hg];show(if _=true then some (RV.ow<|.nd .ls<|zs.map<|SG<|(some o.str).getD false)else none:Option RV).bind _=_;rw[if_pos ⋯,c];show some (RV.ow<|.nd .ls<|zs.map<|SG true,as)=_;rw[Lj]
def Ms:Ww (.lst<|xs++ys) (some (xs.length:Int)) none=some (.fl ys):=by
 show some _=_
 congr 2
 unfold cutD;rw[HT.YW,HT.Pk,zzJ,Nat.min_eq_left ⋯,List.drop_left,List.take_of_length_le ⋯]
theorem Vh:∀ds:List D,kids true ds=ds.map λd=>(true,d)
 | []=>rfl
 |d::r=>by show(zv d||true,d)::kids true r=_;rw[Vh r,zyD];rfl
def px(h:WE f as (.lst ds)):xZ f as=some (ds.map λd=>(true,d),as):=by
 obtain⟨o,a,b,c⟩:=h;unfold xZ;rw[a];show(UI _).bind _=_;rw[b,c];show some _=_;rw[Vh]
def FL(h:WD f as true (.lst ds)):XF f as=some (ds.map λd=>(true,d),as):=by
 unfold XF;rw[h];show some (kids true ds,as)=_;rw[Vh]
end
section
variable{X:Cx}{kd:KD}
def mO:D->Option R0
 | .str x=>if x.length<=640 then(PySem.intText? x).bind λn=>some (.im<|.int n)else none
 |d=>kL d
def VP:List D->Option R0:=uj mO
def Ey:Yh X kd (.type "int") VP:=by
 intro c s σ H m e Q I r h;obtain⟨O,o,z,p,f,a,q⟩:=h;obtain⟨x,d,rfl,g,a⟩:=Qw f a;cases g with
 |str y=>
  obtain⟨j,a⟩:=ite_some' a;obtain⟨n,k,a⟩:=bS_ a;cases a;obtain⟨u,rfl,l⟩:=vals1 r;obtain⟨t,rfl⟩:=l;exact PySem.W.KIN.call_text k j ⟨.int _,H,I.tok _,⟨_,rfl⟩,z_ q<|.int _⟩
 |int i=>cases a;exact GK c s σ H _ e Q I r (.inl ⟨_,rfl,z_ q<|.int _⟩)
 |bl b=>cases a;exact GK c s σ H _ e Q I r (.inr ⟨_,rfl,z_ q<|.int _⟩)
 |_=>cases a
end
section
variable{X:Cx}{pins:List (Addr×Obj)}{σ:List (Option V)}{H:Hp}{s:Shared}{h':Heap}
def Y1{t':Nat}{ch:List Addr}(I:Inv X pins σ H s)(hf:∀b ∈ ch,UL X pins H b)(k:∀b u,b ∉ ch->s.heap.get? b=some u->h'.get? b=some u)(hp:s.heap.objs.size<=T)
 (new:vS X.prog X.w (upd H T o) h' T o):Inv X pins σ (upd H T o) {s with heap:=h',toks:=t'}:=by
 have hn:=I.hok.fresh hp;have nT:∀b u,s.heap.get? b=some u->b≠T:=λb u e z=>absurd (zzK (zxG e)<|by rwa [z])<|Nat.lt_irrefl _;have nc:∀b u,H b=some u->b ∉ ch:=λb u e z=>by have:=(hf b z).1;rw[e]at this;cases this
 refine I.step (g':=s.gens) (d':=s.drawn) (λb hb=>?_) (λb o _ _ hc e _=>k b o hc e) (λb o _ _ hc e _=>⟨o.slots,k b o hc e⟩) (λb o _ e n=>by rwa [zH<|nT b o e])
  (λb o hc e=>⟨o,k b o hc e⟩) (λb xs e=>by rwa [zH<|zW e hn]) (λb o u e=>by rwa [zH<|zW e hn]) (λb ps e=>⟨#[],by rw[zH<|zW e hn,e];simp⟩) (λm hm=>?_) (λb u e=>?_) I.bare
 . obtain⟨f0,f1,f2,f3,f4,f5⟩:=hf b hb;exact⟨f3,f1,f4,f5⟩
 . obtain⟨o,es,ep,ho,r⟩:=hm;exact⟨o,es,ep,k _ o (λz=>(hf _ z).2.1 rfl) ho,r⟩
 . by_cases hb:b=T
   . subst hb;rw[yd]at e;cases e;exact new
   . rw[zH hb]at e;refine(I.hok b u e).stay (λc v hc q=>k c v ?_ q) (λc q=>by rwa [zH<|zW q hn]) λc xs q=>by rwa [zH<|zW q hn]
     rcases hc with z|z
     . rw[z];exact nc b u e
     . exact nc c _ z
end
def lC(K:zzA)(a:Addr):It:=
 ⟨λi H=>∃xs x,Yy K H a xs/\xs[i]? = some x,λi H v H'=>∃T x,H T=none/\v = .ref T/\H'=upd H T (.tup [.int i,x])/\∀xs,Yy K H a xs->xs[i]? = some x,λi H=>∃xs,Yy K H a xs/\xs.length<=i⟩
def Ss{K}{k:Nat}(a e it)(hei:e≠it):Turn P w K (.Tuple elts k pos) (lC K a) [e,it] e (λi h=>(∃old,IsEnum h e it i old)/\h.IsListIter it a i)where
 mem:=by simp
 obj:=λi h st b hb=>by
  obtain⟨⟨old,he⟩,⟨o,e1,c,d⟩⟩:=st
  rcases zzC.mp hb with rfl|hb
  . exact⟨_,he,λv z=>by cases z⟩
  . rw[zzR.mp hb];exact⟨o,e1,λv z=>by rw[d]at z;cases z⟩
 keep:=λi h h' st kk=>⟨st.1.imp λold he=>kk e (by simp) _ he,st.2.at λo q=>kk it (by simp) o q⟩
 item:=by
  intro X hP hw hK hc i pins s σ H E I hf st hg;subst hP hw hK;obtain⟨xs,x,hq,hx⟩:=hg;obtain⟨its,rv,p,hz⟩:=I.list hq;obtain⟨u,hu,ru⟩:=rv.get hx;have hil:i<its.toArray.size:=by have:=(zzG.mp hu).1;simpa using this
  obtain⟨ol,hol,hcl,_⟩:=p.isList;have hae:a≠e:=λz=>by
   obtain⟨⟨old,he⟩,_⟩:=st;rw[z]at hol;rw[show s.heap.get? e=_ from he]at hol;cases hol;injection hcl with q;exact absurd q (by decide)
  have hai:a≠it:=λz=>by
   obtain⟨_,⟨o,e1,c,d⟩⟩:=st;rw[z,e1]at hol;cases hol;rw[c]at hcl;injection hcl with q;exact absurd q (by decide)
  have W:=WalksT.enumerate (prog:=X.prog) (w:=X.w) (I.ok.hd hc) e it a hei hae hai its.toArray;refine W.item i s _ _ hil ⟨st.1,st.2,p.isList⟩ λT vals h1 tk hP hT hTup hMid kk=>?_;obtain⟨t,v,hv,rfl⟩:=hP;have:v=u:=by rw[show its.toArray[i]? = its[i]? by simp,hu]at hv;cases hv;rfl
  subst this;refine⟨_,rfl,W.go elts k pos i T {s with heap:=h1,toks:=tk} _ _ hMid λh2 hSt kk2=>?_⟩;have hn:=I.hok.fresh hT;have hTw:=W.apart i T h1 hMid;have k2:=λb o hb q=>kk2 b o hb<|kk b o hb q;have hT2:IsTup h2 T #[.int i t,v]:=by
   obtain⟨o,q1,q2⟩:=hTup;exact⟨o,kk2 T o hTw q1,q2⟩
  refine⟨.ref T,upd H T<|.tup [.int i,x],Y1 (s:=s) (t':=tk) I hf k2 hT ⟨by show 2<=sizeLine;decide,[.int i t,v],.cons ⟨t,rfl⟩<|.cons ru .nil,hT2⟩,rfl,⟨T,x,hn,rfl,rfl,λys hy=>by rwa [I.list_inj hy hq]⟩,⟨hSt.1,hSt.2.1⟩,λb hb=>?_⟩;have hbT:b≠T:=λz=>hTw (by rwa [<-z]);rw[zH hbT];exact(hf b hb).1
 done:=by
  intro X hP hw hK hc i pins s σ H E I hf st hg;subst hP hw hK;obtain⟨xs,hq,hx⟩:=hg;obtain⟨its,rv,p,hz⟩:=I.list hq;have hl:=rv.length;obtain⟨⟨old,he⟩,hit⟩:=st;obtain⟨f0,f1,f2,f3,f4,f5⟩:=hf it (by simp);exact wpAny_pyNext_enum_end (I.ok.hd hc) he hit p.isList (by simp;omega) λh' eb=>⟨rfl,I.turned (t':=s.toks) ⋯ f0 f1 f3 f4 f5⟩
 self:=λ_ _ _ _ _ st h=>by
  obtain⟨⟨old,he⟩,_⟩:=st;exact wpAny_pyIter_enum he h
section
variable{X:Cx}{tg:Expr}
def DA(K:zzA)(ta:TA):TI:=λσ H R=>ta σ H λvs H1=>∃a,vs=[.ref a]/\(∃xs,Yy K H1 a xs)/\R (lC K a) H1
def JS{p pos pos'}{k:Nat}(hg:Gl X "enumerate")(hm:X.mg "enumerate"=none)(ha:PA X [l] ta)(hs:starEach [l] X.env=[(false,eval l X.env)]):
 PI X (.Tuple elts k pos') (.Call (.Name "enumerate" p) [l] [] pos) (DA X.K ta):=by
 intro pins s σ H R I h;refine Call_<|XH I hg hm boot_enumerate<|PyProof.Rows.callWith_type1 (xV (ha pos pins s σ H _ I h) λus s1 ⟨vs,H1,I1,r1,q1⟩=>?_) hs rfl;obtain⟨a,rfl,⟨xs,hq⟩,q⟩:=q1;cases r1 with
 |cons r rr=>
  cases rr;cases r;obtain⟨its,rv,pl,hz⟩:=I1.list hq;refine call_enumerate_list pl.isList λh' he hit hsz hk=>?_;refine wpAny_pyIter_enum he ⟨s1.heap.objs.size+1,[s1.heap.objs.size+1,s1.heap.objs.size],_,_,H1,rfl,I1.kept (t':=s1.toks) hk,Ss a _ _ ⋯,⟨⟨_,he⟩,hit⟩,λb hb=>?_,q⟩;have hb':s1.heap.objs.size<=b:=by
   rcases zzC.mp hb with rfl|hb
   . exact zyW _
   . rw[zzR.mp hb];exact zzN _
  exact I1.fpOk hb'<|I1.hok.fresh hb'
end
section
variable{X:Cx}{kd:KD}{tg e:Expr}{fa:EF}
noncomputable def Uz(st:Bool):Nat->List D->List wA
 |_,[]=>[]
 |i,d::r=>(st,.tup [.int i,d])::Uz st (i+1) r
theorem Q4(st):∀(i:Nat) (ds:List D),(Uz st i ds).length=ds.length
 |_,[]=>rfl
 |i,_::r=>congrArg _<|Q4 st _ r
theorem QN{st}:∀{j:Nat}{ds:List D}{i:Nat}{y:wA},(Uz st j ds)[i]? = some y->∃d,ds[i]? = some d/\y=(st,.tup [.int ((j+i:Nat):Int),d])
 |_,[],_,_,h=>by simp[Uz]at h
 |j,d::r,0,y,h=>by
  cases h;exact⟨d,rfl,rfl⟩
 |j,d::r,i+1,y,h=>by
  simp only[Uz]at h;obtain⟨d',h1,h2⟩:=QN h;exact⟨d',⋯,by rw[h2,show j+1+i=j+(i+1) by omega]⟩
def FH{K ad st}(hs:∀(ad3:Ad) (H3:Hp),Grow (Gw [] ad) H (Gw [] ad3) H3->Yy K H3 a vs)(r:RpL K kd (Lv F B (Gw [] ad) st) H vs ds):ItOk K kd F B ad H (lC K a) (Uz st 0 ds):=⟨λad3 H3 g3 tr i=>by
 have hr3:=hs ad3 H3 g3;have rl3:=RpL.grow g3 r;have hlen:=Q4 st 0 ds;refine⟨λhi=>?_,λhi=>⟨_,hr3,by rw[r.length];omega⟩,λv H4 hy=>?_⟩
 . obtain⟨u,hu,_⟩:=r.get (zzE<|by rwa [<-hlen]);exact⟨_,u,hr3,hu⟩
 . obtain⟨T,x,hn,rfl,rfl,hv⟩:=hy;refine⟨xo hn,λy hy=>?_⟩;obtain⟨d,hd,rfl⟩:=QN hy;obtain⟨u,hu,ru⟩:=rl3.get hd;have:=hv _ hr3;rw[hu]at this;cases this;rw[zyX];exact .tup (λz=>tr _ _ z hn) (.inl yd)<|.cons (.int _)<|.cons (Rp.grow ⟨λb o q _=>xo hn b o q,λb z=>.inl z⟩ ru) .nil⟩
def Ie(f:EF):IF:=λas=>(f as).bind λp=>(Wm p.2 p.1).bind λq=>match q.1 with
 |(st,.lst ds)=>some (Uz st 0 ds,q.2)
 |_=>none
def Ag{p pos pos' elts}{k:Nat}(hg:Gl X "enumerate")(hm:X.mg "enumerate"=none)(he:AE X kd e fa)(hs:starEach [e] X.env=[(false,eval e X.env)]):
 AI X kd (.Tuple elts k pos') (.Call (.Name "enumerate" p) [e] [] pos) (Ie fa):=by
 with_unfolding_all (
 intro pins s σ H R I h;obtain⟨F,B,ad,as,ds,as',Rl,e',q⟩:=h;obtain⟨⟨p,as1⟩,h1,e'⟩:=bS_<|e';obtain⟨⟨⟨st,x⟩,as2⟩,h2,e'⟩:=bS_ e'
 match x,e',h2 with
 | .lst xs,e',h2=>
  cases e';refine JS hg hm (YO he QG hs) hs pins s σ H R I<|⟨F,B,ad,as,p,as1,Rl,h1,λv T1 ad1 H1 R1 rv1 g1=>?_⟩;obtain⟨ad2,R2,rp,le⟩:=ZK R1 rv1 h2;cases rp with
  |lst hn hr rl=>exact⟨_,rfl,⟨_,.inl hr⟩,q _ ad2 H1 R2 (g1.trans<|Grow.less le)<|FH (λad3 H3 g3=>.inl<|Wu g3 (λz=>hn<|.inr z) hr) rl⟩
  |lstK a b c rl=>exact⟨_,rfl,⟨_,.inr ⟨_,_,_,a,rfl,rfl,rfl,b,c⟩⟩,q _ ad2 H1 R2 (g1.trans<|Grow.less le)<|FH (λad3 H3 g3=>.inr ⟨_,_,_,a,rfl,rfl,rfl,b,c⟩) rl⟩)
end
section
variable{as:AS}{f a b:EF}{s t:Bool}{x y z:D}
def tO(h:WE f as (.tup ds)):xZ f as=some (ds.map λd=>(true,d),as):=by
 obtain⟨o,a,b,c⟩:=h;unfold xZ;rw[a];show(UI _).bind _=_;rw[b,c];show some _=_;rw[Vh]
def nG(h:WD f as true (.lst ds)):Ie f as=some (Uz true 0 ds,as):=by
 unfold Ie;rw[h];rfl
def CJ:Ww (.lst<|xs++ys) none (some (xs.length:Int))=some (.fl xs):=by
 show some _=_
 congr 2
 unfold cutD;rw[HT.YW,HT.Pk,zzJ,Nat.min_eq_left ⋯,List.drop_zero,Nat.sub_zero,List.take_left]
end
def Ph{t':Nat}{ch:List Addr}(I:Inv X pins σ H s)(hf:∀b ∈ ch,UL X pins H b)(k:∀b u,b ∉ ch->s.heap.get? b=some u->h'.get? b=some u):Inv X pins σ H {s with heap:=h',toks:=t'}:=by
 have nc:∀b u,H b=some u->b ∉ ch:=λb u e z=>by have:=(hf b z).1;rw[e]at this;cases this
 refine I.step (g':=s.gens) (d':=s.drawn) (λb hb=>?_) (λb o _ _ hc e _=>k b o hc e) (λb o _ _ hc e _=>⟨o.slots,k b o hc e⟩) (λb o _ e n=>n)
  (λb o hc e=>⟨o,k b o hc e⟩) (λb xs e=>e) (λb o u e=>e) (λb ps e=>⟨#[],⋯⟩) (λm hm=>?_) (λb u e=>?_) I.bare
 . obtain⟨f0,f1,f2,f3,f4,f5⟩:=hf b hb;exact⟨f3,f1,f4,f5⟩
 . obtain⟨o,es,ep,ho,r⟩:=hm;exact⟨o,es,ep,k _ o (λz=>(hf _ z).2.1 rfl) ho,r⟩
 . refine(I.hok b u e).stay (λc v hc q=>k c v ?_ q) (λc q=>q) λc xs q=>q
   rcases hc with z|z
   . rw[z];exact nc b u e
   . exact nc c _ z
section
variable{X:Cx}{tg:Expr}
def Sw(I l1 l2:Nat)(h1:l1<I)(h2:l2<I):ZipApart (I+4) (I+2) (I+3) I (I+1) l1 l2:=by
 constructor<;>(show(_:Nat)≠_;omega)
end
section
variable{X:Cx}{kd:KD}{tg e:Expr}{fa:EF}
noncomputable def Q2(st:Bool):List D->List D->List wA
 |x::r,y::t=>(st,.tup [x,y])::Q2 st r t
 |_,_=>[]
theorem VO(st):∀(xs ys:List D),(Q2 st xs ys).length=min xs.length ys.length
 | [],_=>⋯
 |_::_,[]=>⋯
 |_::r,_::t=>by simp only[Q2,zzT,VO st r t];omega
theorem RX{st}:∀{xs ys:List D}{i:Nat}{y:wA},(Q2 st xs ys)[i]? = some y->∃d e,xs[i]? = some d/\ys[i]? = some e/\y=(st,.tup [d,e])
 | [],_,_,_,h=>by simp[Q2]at h
 |_::_,[],_,_,h=>by simp[Q2]at h
 |x::r,y::t,0,z,h=>by
  cases h;exact⟨x,y,rfl,rfl,rfl⟩
 |x::r,y::t,i+1,z,h=>by
  simp only[Q2]at h;obtain⟨d,e,h1,h2,h3⟩:=RX h;exact⟨d,e,⋯,⋯,h3⟩
end
def JY{K O}(h:RpL K kd O H vs ds)(hv:zP vs us)(e:We ds=some ns):IntsAre us ns:=
 RpL.ind (P:=λvs ds=>∀us ns,zP vs us->We ds=some ns->IntsAre us ns) (λus ns hv e=>by cases e;cases hv;exact .nil) (λ{v d vs ds} a _ ih us ns hv e=>by
  cases hv with
  |cons b t=>
   cases a with
   |int x=>
    obtain⟨ys,h1,h2⟩:=bS_<|e;cases h2;obtain⟨tk,rfl⟩:=b;exact .cons _ _ (ih _ _ t h1)
   |_=>cases e) h us ns hv e
def LS(f:D->Option Bool):List D->Option Nat
 | []=>none
 |x::r=>(f x).bind λb=>if b=true then(anyF f r).bind λ_=>some 0 else(LS f r).bind λj=>some<|j+1
def E6(d:D):List D->Option R0:=uj λx=>(t_ d).bind λds=>(LS (λy=>Yx 50 y x) ds).bind λj=>if ds.length<=1000 then some (.im<|.int j)else none
theorem NX:∀{ds:List D}{j:Nat},LS f ds=some j->∀d ∈ ds,∃c,f d=some c
 | [],_,h,_,m=>nomatch m
 |x::r,j,h,d,m=>by
  obtain⟨b,e,h⟩:=bS_<|h
  rcases zzC.mp m with rfl|m
  . exact⟨b,e⟩
  . cases b with
    |true=>
     obtain⟨c,a,_⟩:=bS_<|h;exact Yv a d m
    |false=>
     obtain⟨k,a,_⟩:=bS_<|h;exact NX a d m
section
variable{X:Cx}{kd:KD}{pins:List (Addr×Obj)}{σ:St}{H:Hp}{s:Shared}{O:Addr->Prop}
def JN(I:Inv X pins σ H s)(hk:KdOk X kd)(hv:zP vs us)(h:RpL X.K kd O H vs ds)(e:LS (λy=>Yx n y x) ds=some j):∃h:j<us.length,AV X.K kd O H n x us[j]=true/\∀m (hm:m<us.length),m<j->AV X.K kd O H n x us[m]=false:=
 RpL.ind (P:=λvs ds=>∀us j,zP vs us->LS _ ds=some j->∃h:j<us.length,AV X.K kd O H n x us[j]=true/\∀m hm,m<j->AV X.K kd O H n x us[m]=false) (λus j hv e=>by cases e) (λ{v d vs ds} a _ ih us j hv h=>by
  cases hv with
  |cons r t=>
   obtain⟨b,h1,h⟩:=bS_<|h;cases b with
   |true=>
    obtain⟨c,h2,h3⟩:=bS_<|h;cases h3;exact⟨⋯,K_ I hk r a h1,λm hm hlt=>⋯⟩
   |false=>
    obtain⟨k,h2,h3⟩:=bS_<|h;cases h3;obtain⟨hk',e1,e2⟩:=ih _ _ t h2;refine⟨by simpa using hk',⋯,λm hm hlt=>?_⟩;cases m with
    |zero=>exact K_ I hk r a h1
    |succ m=>simpa using e2 m _ ⋯) h us j hv e
def He(hk:KdOk X kd)(hu:X.A.units+100<cLine):j8 X kd "list.index" E6:=by
 intro k s σ H x Y v Z Q I C r h;obtain⟨O,d,ds,r0,ht,D,E,a,q⟩:=h;obtain⟨y',y,rfl,G,a⟩:=Qw E a;obtain⟨es,J,b⟩:=bS_<|a;cases Qx J
 . obtain⟨j,l,a⟩:=bS_ b;obtain⟨hz,a⟩:=zq a;cases a;obtain⟨u,rfl,L⟩:=vals1 r;cases D with
   |lst M c=>
    cases C;obtain⟨e,f,N,_⟩:=I.list M.sq;obtain⟨⟨cls,P,o,R⟩,p,t,n,z⟩:=N.isList;subst t z;obtain⟨S,T,U⟩:=JN I hk f c l;have B:=f.length;have g:=c.length;refine call_meets PySem.F.slot_list_index ⟨_,p,rfl⟩ PySem.F.entry_list_index ⋯
     (SeqAt.list_indexAt _ e.toArray n P R _ _ j ⋯ (by omega) ⋯ ⋯)
     ⟨p,λw W=>Qs I hk (by show X.A.units+1+50<cLine;omega) G L f c (NX l) w (by simpa using W),⟨.int j,H,I.tok _,⟨_,rfl⟩,z_ q<|.int _⟩⟩
end
noncomputable def wz(n:Nat)(os:List O):AS:=os.map some++List.replicate (n-os.length) none
theorem Bp:∀(ls:List O) {vs:List V}{fp:List Addr},ls.all O.isLf=true->RoL L N H vs ls fp->fp=[]
 | [],_,_,_,r=>by cases r;rfl
 |o::ls,_,_,h,r=>by
  rw[List.all_cons,zyC]at h;cases r with
  |cons a r=>
   cases a with
   |lf _=>rw[Bp ls h.2 r];rfl
   |_=>exact absurd h.1 (by simp[O.isLf])
def JP(h:RoL L N H vs ls fp):vs.length=ls.length:=RoL.length h
theorem Fo:∀(ls:List O) {vs:List V}{fp:List Addr}{i:Nat}{o:O},ls.all O.isLf=true->RoL L N H vs ls fp->ls[i]? = some o->∃v,vs[i]? = some v/\Ro L N H v o []
 | [],_,_,_,_,_,_,e=>by simp at e
 |d::ls,_,_,i,o,h,r,e=>by
  rw[List.all_cons,zyC]at h;cases r with
  |cons a r=>
   cases i with
   |zero=>
    simp at e;subst e;cases a with
    |lf z=>exact⟨_,rfl,.lf z⟩
    |_=>exact absurd h.1 (by simp[O.isLf])
   |succ i=>
    obtain⟨v,b,c⟩:=Fo ls h.2 r ⋯;exact⟨v,⋯,c⟩
def PD{K}(ht:∀a,F a->H a≠none)(hn:T.Nodup)(hT:∀a ∈ T,H a≠none/\¬F a)(hl:ls.all O.isLf=true)(hN:(o::ls).length<=N.length)(ro:vI K kd F (λ_=>False) (· ∈ T) H vs (o::ls) T):
 Rel K kd F (λ_=>False) [] (λi=>if i=0 then T else[]) (wz N.length (o::ls)) (L2.start N vs) H:=by
 have b:=JP ro;have n:∀a,Gw [] (λi=>if i=0 then T else[]) a ↔ a ∈ T:=λa=>⟨λz=>z.elim ⋯ λ⟨i,y⟩=>by
  by_cases e:i=0
  . subst e;simpa using y
  . simp[e]at y,λz=>.inr ⟨0,⋯⟩⟩
 have p:∀f a,Lv F (λ_=>False) _ f a->Lv F (λ_=>False) _ f a:=λf a z=>z.imp id (n a).mp;refine⟨by unfold wz L2.start;simp[b];omega,λi c=>?_,λi=>?_,λi j a x y=>?_,zyJ,(λ_ _ _ z=>nomatch z),ht,⋯,λa z=>hT a<|(n a).mp z,λi s e=>?_⟩
 . have:i≠0:=λz=>by subst z;unfold wz at c;simp at c
   simp[this]
 . by_cases e:i=0
   . subst e;simpa using hn
   . simp[e]
 . have g:i=0:=by
    by_cases e:i=0
    . exact e
    . simp[e]at x
   have h:j=0:=by
    by_cases e:j=0
    . exact e
    . simp[e]at y
   rw[g,h]
 . unfold wz at e;unfold L2.start
   by_cases c:i<(o::ls).length
   . rw[zyP (by rwa [zzB]),zzI]at e;obtain⟨d,k,l⟩:=zzX.mp e;subst l;rw[zyP<|by rwa [zzB,b]];cases ro with
     |cons a r=>
      rename_i v q A t;have u:=Bp ls hl r;subst u;cases i with
      |zero=>
       simp at k;subst k;exact⟨v,rfl,by simpa using w_.lv p a⟩
      |succ i=>
       obtain⟨w,g,h⟩:=Fo ls hl r ⋯;exact⟨w,by simp[g],by simpa using w_.lv p h⟩
   . rw[zyR<|by rw[zzB];omega]at e;have:=zyA e;have l:=(List.mem_replicate.mp this).2;subst l;have m:i≠0:=λz=>by subst z;exact c ⋯
     show _=[];rw[if_neg m]
section
variable{K:zzA}{kd:KD}{F B G:Addr->Prop}{H:Hp}
theorem Mv{st}(h:L st v d):∀(os:List O) {vs:List V}{fp:List Addr},RoL L N H vs os fp->RoL L N H (vs++[v]) (os++[.lf st d]) fp
 | [],_,_,r=>by cases r;exact .cons (.lf h) .nil
 |o::b,_,_,r=>by
  cases r with
  |cons a r=>
   exact .cons a<|Mv h b r
end
def Lk:typeLookup (.type "list") "keys"=pure none:=⋯
def EM
 (hx:s.heap.get? a=some o) (hc:o.cls = .type "list") (hdat:o.data = .seq xs k) (hd:o.dict=none) (hA:A.handled=none)
 (h:∀h' tk,(∀b o,s.heap.get? b=some o->h'.get? b=some o)->Q none {s with heap:=h',toks:=tk}):
 wpAny (model prog w) A (getAttr? (.ref a) "keys") Q E s:=by
 obtain⟨c,dct,dat,sl⟩:=o;simp only at hc hdat hd;subst hc hdat hd;obtain⟨hp,g,d,tk,os⟩:=s;have hT:∀tk',(⟨hp,g,d,tk',os⟩:Shared).TypeIs (.ref a) "list":=λ_=>⟨_,hx,rfl⟩;have f1:=sub_AttributeError;have f3:=F.slot_list_getattribute.lookup;have f4:=F.slot_list_getattribute.bind<|.ref a;have f5:=am_list_getattr_none;unfold getAttr? getAttrBy? getAttrBy
 repeat (any_goals (first|assumption|exact hT _|((with_reducible show wpAny _ _ (call _ _ _) _ _ _);refine call_meets F.slot_list_getattribute (hT _) am_entry_list_getattribute (F.args_list_getattribute_2 _ _) (meets_getattribute_miss_list a xs k sl "keys" _ Lk<|by decide +kernel) ⟨hx,hA,λh' tk' e hx'=>?_⟩)|wp_step))
 obtain⟨t',u',he⟩:=hx'.there;unfold getattributeRaised
 repeat (any_goals (first|assumption|wp_step))
 exact h _ _ hx'.keeps
def vH:plainId "dict.update.loop"=true:=by decide +kernel
def X0:entryFor table "dict.update.loop"=some Builtin.«dict.update.loop» := ⋯
section
variable{prog:Program}{w:World}{κ:Type}[DecidableEq κ]{knd:KeyKind prog w κ}{A:Around}{R:Result->Shared->Prop}{d I l:Addr}{items:Array Value}{N:Nat}
noncomputable def putAll(kvs:List (κ×Value)):List (κ×Value)->List (κ×Value)
 | []=>kvs
 |p::r=>putAll (stored kvs p.1 p.2) r
def Ff(kvs)(k:κ)(v):(stored kvs k v).length<=kvs.length+1:=by
 unfold stored
 split
 . rw[zzB];omega
 . rw[zzJ];exact zzN _
def Cq(hh:A.handled=none)(hdN:N<=d)(hIN:N<=I)(hdI:d≠I)(hlN:l<N):∀(rest:List (κ×Value)) (i:Nat) (s:Shared) (kvs:List (κ×Value)),s.heap.IsListIter I l i->s.heap.IsList l items->s.heap.DictOf knd d kvs->kvs.length+rest.length<=sizeLine->
 (∀j p,rest[j]? = some p->∃q key,items[i+j]? = some (.ref q)/\q<N/\IsTup s.heap q #[key,p.2]/\knd.is p.1 key=true)->items[i+rest.length]? = none->
 (∀h' tk,h'.DictOf knd d (putAll kvs rest)->(∀b o,b<N->s.heap.get? b=some o->h'.get? b=some o)->R (.ok<|.ret .none) {s with heap:=h',toks:=tk})->
 codeAny (model prog w) A (.builtin "dict.update.loop" ⟨[.ref d,.ref I,rawInt i,.none],[]⟩) R s:=by
 intro rest
 induction rest with
 |nil=>
  intro i s kvs hit hl hm hz hp he hR;refine codeAny_builtin X0 ?_;rw[Around.under_plainId vH _];refine zxD<|wpAny_pyNext_list_end hh hit hl he λh' hx=>?_;refine zxD<|zxE<|zxE ?_;obtain⟨o,es,ep,ho,r⟩:=hm;exact hR h' s.toks ⟨o,es,ep,hx d o hdI ho,r⟩ λb o hb e=>hx b o (zzQ<|zzK hb hIN) e
 |cons p rest ih=>
  intro i s kvs hit hl hm hz hp he hR;obtain⟨q,key,hq,hqN,ht,hkey⟩:=hp 0 p rfl;refine codeAny_builtin X0 ?_;rw[Around.under_plainId vH _];refine zxD<|wpAny_pyNext_list_item hit hl hq λh' hit' hs=>?_;have sm:∀b o,b≠I->s.heap.get? b=some o->h'.get? b=some o:=λb o hb e=>(hs.2 b hb).trans e;obtain⟨oq,hoq,hcq,nq,hdq⟩:=ht;have hoq':=sm q oq (zzQ<|zzK hqN hIN) hoq;have hm':h'.DictOf knd d kvs:=let⟨o,es,ep,ho,r⟩:=hm;⟨o,es,ep,sm d o hdI ho,r⟩;have hl':h'.IsList l items:=let⟨o,ho,r⟩:=hl;⟨o,sm l o (zzQ<|zzK hlN hIN) ho,r⟩;have hT:({s with heap:=h'}:Shared).TypeIs (.ref q) "tuple":=⟨oq,hoq',hcq⟩;refine zxD<|zxI<|zxD<|wpAny_tryCatch ?_;unfold Builtin.Dict.pairItems;refine zxD<|wpAny_typeOf hT ?_;rw[if_pos<|by decide];refine zxD<|wpAny_seqItems hoq' hdq<|zxE ?_;refine zxI<|wpAny_dictSet_pairs hkey hm' λh'' hm'' hs''=>?_;have sm2:∀b o,b≠d->h'.get? b=some o->h''.get? b=some o:=λb o hb e=>(hs''.2 b hb).trans e;refine zxE ⟨plainId_quiet vH _, ?_⟩;have hit'':h''.IsListIter I l (i+1):=let⟨o,ho,r⟩:=hit';⟨o,sm2 I o (Ne.symm hdI) ho,r⟩;have hl'':h''.IsList l items:=let⟨o,ho,r⟩:=hl';⟨o,sm2 l o (zzQ<|zzK hlN hdN) ho,r⟩;have keep:=λb o hb e=>sm2 b o (zzQ<|zzK hb hdN)<|sm b o (zzQ<|zzK hb hIN) e;have:=ih (i+1) {s with heap:=h'',toks:=s.toks+1} _ hit'' hl'' hm'' (by have:=Ff kvs p.1 p.2;simp only[zzT]at hz;omega)
   (λj p' hj=>by
    obtain⟨q',key',a1,a2,⟨o',a3,a4⟩,a5⟩:=hp (j+1) p' (by simpa using hj);exact⟨q',key',by rw[show i+1+j=i+(j+1) by omega];exact a1,a2,⟨o',keep q' o' a2 a3,a4⟩,a5⟩)
   (by rw[show i+1+rest.length=i+(p::rest).length by simp only[zzT];omega];exact he)
   (λh3 tk hm3 k3=>hR h3 tk hm3 λb o hb e=>k3 b o hb<|keep b o hb e)
  exact this
end
def Tu{κ:Type}[DecidableEq κ]{knd:KeyKind prog w κ}{n:Nat}{ps}(hh:A.handled=none)
 (ho:s.heap.get? l=some o) (hc:o.cls = .type "list") (hd:o.data = .seq items n) (hn:o.dict=none) (hsz:ps.length<=sizeLine)
 (hp:∀(j:Nat) (p:κ×Value),ps[j]? = some p->∃(q:Addr) (key:Value),items[j]? = some (Value.ref q)/\IsTup s.heap q #[key,p.2]/\knd.is p.1 key=true) (he:items[ps.length]? = none)
 (h:∀h' tk,h'.DictOf knd s.heap.objs.size (putAll [] ps)->(∀b o,s.heap.get? b=some o->h'.get? b=some o)->Q (.ref s.heap.objs.size) {s with heap:=h',toks:=tk}):wpAny (model prog w) A (call (.type "dict") [.ref l]) Q E s:=by
 refine callType_codes (Q₁:=λd z=>d = .ref s.heap.objs.size/\z={s with heap:=s.heap.push {cls:=.type "dict",data:=.dict #[]}}) F.kt_called_dict (F.kt_typeCall_dict_1 _) F.entry_dict_init (kt_code_dict_new _ ⟨rfl,rfl⟩) ?_
 rintro d z ⟨rfl,rfl⟩
 have a:(s.heap.push {cls:=.type "dict",data:=.dict #[]}).DictOf knd s.heap.objs.size []:=Heap.DictOf.new s.heap;have f:∀b o,s.heap.get? b=some o->(s.heap.push {cls:=.type "dict",data:=.dict #[]}).get? b=some o:=λb o e=>zxF _ e;have C:({s with heap:=s.heap.push {cls:=.type "dict",data:=.dict #[]}}:Shared).TypeIs (.ref l) "list":=⟨o,f l o ho,hc⟩;refine⟨a.typeIs,F.args_dict_init_2 _ _, ?_⟩;refine zxD ?_;refine zxD<|wpAny_notOrdered_dict a.typeIs ?_;refine zxE ?_;show wpAny _ _ (Builtin.Dict.updateFrom "dict.__init__" s.heap.objs.size _ [] .none) _ _ _;refine zxD<|wpAny_typeOf C ?_;refine zxD<|EM (f l o ho) hc hd hn hh λg v i=>?_;refine zxD<|wpAny_rule ?_;have k:=i l o<|f l o ho;have x:g.IsList l items:=⟨o,k,hc,n,hd⟩;refine zxD<|wpAny_pyIter_list x ?_;have t:∀b o,g.get? b=some o->(g.push {cls:=.type "list_iterator",data:=.fields #[.ref l,.int 0 0]}).get? b=some o:=λb o e=>zxF _ e;have m:s.heap.objs.size<g.objs.size:=by
  obtain⟨u,_,_,c,_⟩:=a;exact zxG<|i _ _ c
 refine zxE ⟨plainId_quiet vH _, ?_⟩;refine Cq (A:=A.in1) (knd:=knd) hh (zzN _) (Nat.le_of_lt m) (zzQ m) (zxG ho) ps 0 {s with heap:=g.push {cls:=.type "list_iterator",data:=.fields #[.ref l,.int 0 0]},toks:=v} [] ⟨_,zxH _ rfl,rfl,rfl⟩ ⟨o,t l o k,hc,n,hd⟩ ?_ (by rw[List.length_nil];omega) (λj p D=>?_) (by rwa [zyX]) λG H I J=>?_
 . obtain⟨u,K,L,c,r⟩:=a;exact⟨u,K,L,t _ _<|i _ _ c,r⟩
 . obtain⟨q,y,M,⟨u,B,O⟩,P⟩:=hp j p D;exact⟨q,y,by rw[zyX];exact M,zxG B,⟨u,t _ _<|i _ _<|f _ _ B,O⟩,P⟩
 . exact⟨rfl,h G H I λb o e=>J b o (zxG e)<|t _ _<|i _ _<|f _ _ e⟩
def Q8:List D->Option (List<|Key×D)
 | []=>some []
 |d::r=>(m5 d).bind λl=>(uF l).bind λp=>(J_ p.1).bind λk=>(Q8 r).bind λt=>some ((k,p.2)::t)
def lN:D->Option R0
 | .dct kvs=>some<|.fd kvs
 | .lst ds=>(Q8 ds).bind λkvs=>if(kvs.map (·.1)).Nodup then some (.fd kvs)else none
 |_=>none
def Pg:List D->Option R0:=uj lN
theorem PX[DecidableEq κ]:∀(ps acc:List (κ×Value)),((acc++ps).map (·.1)).Nodup->putAll acc ps=acc++ps
 | [],a,_=>(zyE a).symm
 |p::r,a,h=>by
  have b:stored a p.1 p.2=a++[p]:=by
   unfold stored;rw[if_neg];rw[zyM]at h;obtain⟨_,_,c⟩:=zxC.mp h;intro z;obtain⟨q,m,e⟩:=List.any_eq_true.mp z;exact c q.1 (List.mem_map_of_mem m) p.1 (zzF ..)<|of_decide_eq_true e
  show putAll _ r=_;rw[b,PX r _ (by rwa [zxA]),zxA];rfl
section
variable{X:Cx}{kd:KD}{O:Addr->Prop}{pins:List (Addr×Obj)}{σ:St}{H:Hp}{s:Shared}
theorem PY(I:Inv X pins σ H s):∀{vs:List V}{us:List Value}{ds:List D}{dk:List (Key×D)},RpL X.K kd O H vs ds->zP vs us->Q8 ds=some dk->
 ∃(kvs:List (Key×V)) (ps:List (Key×Value)),KV kvs ps/\RpM X.K kd O H kvs dk/\ps.length=us.length/\ps.map (·.1)=dk.map (·.1)/\kvs.length=ps.length/\
  ∀(j:Nat) (p:Key×Value),ps[j]? = some p->∃(q:Addr) (key:Value),us[j]? = some (Value.ref q)/\IsTup s.heap q #[key,p.2]/\(xY X.prog X.w).is p.1 key=true
 |_,_,[],_,b,r,e=>by
  cases b;cases r;cases e;exact⟨[],[],.nil,.nil,rfl,rfl,rfl,λj p h=>by simp at h⟩
 |_,_,d::i,dk,b,r,e=>by
  cases b with
  |cons l b=>
   cases r with
   |cons m r=>
    obtain⟨l0,n,o⟩:=bS_<|e;obtain⟨_,x,y⟩:=bS_ o;cases Ht n;cases L1 x
    . obtain⟨c,z,e⟩:=bS_ y;obtain⟨t,A,e⟩:=bS_ e;cases e;obtain⟨f,B,C,E,F,G,J,L⟩:=PY I b r A;cases l.vw with
      | tup M N a=>
            rename_i q ws;cases a with
            |cons P a=>
             cases a with
             |cons Q a=>
              cases a;rename_i R g;have S:=O5 P.vw z;subst S;obtain⟨T,U,W,_⟩:=I.tuple N;obtain⟨Y,Z,rfl,r1,r2⟩:=vals2 U;cases m;refine⟨_::f,(c,Z)::B,.cons ⟨rfl,r2⟩ C,.cons Q E,congrArg _ F,congrArg _ G,congrArg _ J,λj p h=>?_⟩;cases j with
              |zero=>
               simp at h;subst h;exact⟨q,Y,rfl,W,Bj r1⟩
              |succ j=>simpa using L j p ⋯
def Vr(hc:X.calm=true)(hk:KdOk X kd):Yh X kd (.type "dict") Pg:=by
 intro c s σ H xs A Q I r h;obtain⟨O,ds,z,B,C,b,q⟩:=h;obtain⟨x,d,rfl,D,b⟩:=Qw C b;cases D with
 |dct e E=>exact Sn hk c s σ H _ A Q I r ⟨O,[.dct _],z,B,.cons (.dct e E) .nil,b,q⟩
 |lst e F=>
  obtain⟨dk,G,b⟩:=bS_<|b;obtain⟨J,b⟩:=zq b;cases b;obtain⟨u,rfl,K⟩:=vals1 r;cases K;obtain⟨L,m,⟨o,n,M,f,g,i⟩,hz⟩:=I.list e.sq;obtain⟨k,t,N,P,R,S,a5,T⟩:=PY I F m G;have v:=m.length;refine Tu (knd:=xY X.prog X.w) (ps:=t) (I.ok.hd hc) M f i g ⋯ (λj p U=>?_) (by rw[R];simp) λh' V y W=>?_
  . obtain⟨Y,l,Z,b2,b3⟩:=T j p U;exact⟨Y,l,by simpa using Z,b2,b3⟩
  . rw[PX t []<|by rwa [List.nil_append,S]]at y;exact⟨.ref _,_,I.laid (t':=V) W (zzN _)<|Ot ⋯ (beq_eq_false_iff_ne.mpr<|Ne.symm<|zzQ I.big) N y,rfl,O0 q P _<|I.hok.fresh<|zzN _⟩
 |_=>cases b
end
noncomputable def JA:List D->Option R0
 | [.int i,.int j]=>if 0<j/\j<1073741824 then some (.im<|.tup [.int<|i/j,.int<|i%j])else none
 |_=>none
def qF{α:Type}{P:List α->Prop}(h:∀a,P [a]):∀us:List α,us.length=1->P us
 | [a],_=>h a
def qf{α:Type}{P:List α->Prop}(h:∀a b,P [a,b]):∀us:List α,us.length=2->P us
 | [a,b],_=>h a b
def pZ{α:Type}{P:List α->Prop}(h:∀a b c,P [a,b,c]):∀us:List α,us.length=3->P us
 | [a,b,c],_=>h a b c
def rk{α:Type}{P:List α->Prop}(h:∀a b c d,P [a,b,c,d]):∀us:List α,us.length=4->P us
 | [a,b,c,d],_=>h a b c d
def pN{α:Type}{P:List α->Prop}(h:∀a b c d e,P [a,b,c,d,e]):∀us:List α,us.length=5->P us
 | [a,b,c,d,e],_=>h a b c d e
section
variable{X:Cx}{kd:KD}
def BB:Yh X kd (.builtin "divmod") JA:=by
 intro a s σ H j c Q I r h;obtain⟨O,k,z,d,e,b,q⟩:=h;unfold JA at b
 split at b
 . obtain⟨f,rfl⟩:=zq b;obtain⟨x,y,rfl,g,i⟩:=FY e;cases g;cases i;exact N3 a s σ H _ c Q I r ⟨_,_,rfl,f,Tg d q<|.cons (.int _)<|.cons (.int _) .nil⟩
 . cases b
def aI:AE X kd (.Constant (.int c) j pos) (fC<|.int c):=Tx sr λ_ _=>.int _
def aS:AE X kd (.Constant (.str c) j pos) (fC<|.str c):=Tx tq λ_ _=>.str _
def aZ:AE X kd (.Constant .none j pos) (fC .non):=Tx D5 λ_ _=>.non
def aB:AE X kd (.Constant (.bool c) j pos) (fC<|.bl c):=Tx p7 λ_ _=>.bl _
def ax{K}(hkd:sV P w K kd)(ha:AE X kd a fa)(hb:AE X kd b fb)(h1:X.prog=P:=by rfl)(h2:X.w=w:=by rfl)(h3:X.K=K:=by rfl)(hm:K9 b:=by exact λ_ _=>rfl):AE X kd (.Subscript a b pos) (f2 fa fb zw):=rW (mV<|hkd _ h1 h2 h3) ha hb hm
def sv(z)(i:Nat)(hN:X.N.Nodup)(he:AE X kd e fa)(hi:X.N[i]? = some x:=by rfl)(hx:Loc X.env.scope x:=by first|exact Or.inl rfl|exact Or.inr rfl)(hs:swapsWith e (some<|.Name x pos') pos.line X.env=pure false:=by rfl)(hf:X.fn x=true\/X.env.scope.names.lookup x=some .local:=by first|exact Or.inl rfl|exact Or.inr rfl):
 MX X kd (.Assign [.Name x pos'] e pos) (zm z i fa):=Hi hN hi hx he hs hf
def an(i:Nat)(hN:X.N.Nodup)(hi:X.N[i]? = some x:=by rfl)(hx:Loc X.env.scope x:=by first|exact Or.inl rfl|exact Or.inr rfl)(hf:X.fn x=true\/X.env.scope.names.lookup x=some .local:=by first|exact Or.inl rfl|exact Or.inr rfl):AG X kd (.Name x pos) [i] (gN i):=Bn hN hi hx hf
def av(i:Nat)(hN:X.N[i]? = some x:=by rfl)(hv:n5 X.env.scope x:=by first|exact Or.inl rfl|exact Or.inr (Or.inl rfl)|exact Or.inr (Or.inr rfl))(hd:(x==("__debug__":Str))=false:=by decide)
 (hcd:(x==("__classdict__":Str))=false:=by decide):AE X kd (.Name x pos) (fV i):=se<|Oi hN hv hd hcd
end
noncomputable def Ee{α:Type}:List Str->List α->Str->Option α
 | [],_,_=>none
 |_,[],_=>none
 |n::ns,a::as,f=>if f=n then some a else Ee ns as f
theorem ZU(f):∀(ns:List Str) (vs:List V),(ns.zip vs).lookup f=Ee ns vs f
 | [],_=>rfl
 |_::_,[]=>rfl
 |n::a,v::b=>by
  show List.lookup f (_::a.zip b)=if f=n then some v else Ee a b f
  rw[List.lookup_cons]
  by_cases h:f=n
  . rw[if_pos h,beq_iff_eq.mpr h]
  . rw[if_neg h,beq_eq_false_iff_ne.mpr h];exact ZU f a b
theorem OM{K O}:∀{ns:List Str}{vs:List V}{ds:List D},RpL K kd O H vs ds->Ee ns ds f=some d->∃v,Ee ns vs f=some v/\Rp K kd O H v d
 | [],_,_,_,e=>by cases e
 |_::_,_,_,.nil,e=>by cases e
 |n::a,_,_,.cons (v:=v) (d:=b) (vs:=c) (ds:=g) h r,e=>by
  have e:(if f=n then some b else Ee a g f)=some d:=e;show ∃w,(if f=n then some v else Ee a c f)=some w/\_
  by_cases q:f=n
  . rw[if_pos q]at e ⊢;cases e;exact⟨v,rfl,h⟩
  . rw[if_neg q]at e ⊢;exact OM r e
theorem VQ:∀{ns:List Str}{vs:List α},f ∉ ns->Ee ns vs f=none
 | [],_,_=>rfl
 |_::_,[],_=>rfl
 |n::a,v::b,h=>by
  show(if f=n then some v else Ee a b f)=_;rw[if_neg λe=>h<|by rw[e];exact zzF];exact VQ λm=>h<|zzD _ m
theorem Tp:∀{ns:List Str}{vs:List V},ns.length=vs.length->f ∉ ns->Wc f v (ns.zip vs)=(ns++[f]).zip (vs++[v])
 | [],[],_,_=>rfl
 | [],_::_,h,_=>by cases h
 |_::_,[],h,_=>by cases h
 |n::a,w::b,h,c=>by
  show(if n=f then _::a.zip b else _::Wc f v (a.zip b))=_::(a++_).zip (b++_);rw[if_neg λe=>c (by rw[e];exact zzF),Tp (Nat.succ.inj h) λm=>c<|zzD _ m]
def z9(cs:List Str)(f:Str):D->Option R0
 | .ob c ns ds=>if c ∈ cs then(Ee ns ds f).bind λd=>some (.im d)else none
 |_=>none
def CF(K:zzA)(kd:KD)(cs:List Str)(f:Str):Prop:=∀c ∈ cs,Cls K (kd.c c)/\yx K (kd.c c) f
section
variable{X:Cx}{kd:KD}{a e o:Expr}{es:List Expr}{fa fo fe:EF}{fr:AF}{pos pos' apos:Pos}{m f:Str}{cs:List Str}
def uK(hc:CF X.K kd cs f)(ha:AE X kd a fa)(hb:attributeBase a f X.env (eval a X.env)=eval a X.env):AE X kd (.Attribute a f pos) (f1 fa<|z9 cs f):=by
 with_unfolding_all exact(yf (KH ha hb) λσ H Q h=>by
  obtain⟨F,B,P,as,r,m,R,e,q⟩:=h;obtain⟨_,o,e⟩:=bS_<|e;obtain⟨⟨x,S⟩,s,e⟩:=bS_ e;obtain⟨z,b,e⟩:=bS_ e;obtain⟨y,t,e⟩:=bS_ e;cases e;refine vN R o λv c u k g A=>?_;have C:=xf.vw k g s;have D:=Ye k t λw E G I i J=>q w E c G I i<|A.trans J;cases C with
  |ob L T M=>
   obtain⟨l,b⟩:=ite_some' b;obtain⟨d,N,b⟩:=bS_ b;cases b;obtain⟨w,O,j⟩:=OM M N;exact⟨_,_,_,_,w,rfl,L,(hc _ l).1,(hc _ l).2,(ZU _ _ _).trans O,D w u (λ_ _ z=>z) j⟩
  |_=>cases b)
def Cc(X:Cx)(m:Str)(ta:TE)(t:TA):TE:=λσ H Q=>ta σ H λx H1=>∃a C dx fs k f fd ps sp,x = .ref a/\H1 a=some (.ins C dx fs)/\Cls X.K C/\Meth X.K C m f/\fs.lookup m=none/\
 FnOk X.prog X.w X.K X.mg X.base YG k f fd ps sp/\Room k X.A/\Binds X.K fd ps []/\t σ H1 λvs H2=>sp (x::vs) H2 Q λ_ _ _=>False
def Ec(he:PE X o ta)(hx:Zb YG X λ_ _ _=>False)(ha:PA X (e::es) t)
 (hst:starEach (e::es) X.env=(false,eval e X.env)::starEach es X.env) (hpl:(backTo pos<|starEach es X.env).any (·.1)=false)
 (ht:eval (.Call (.Attribute o m apos) (e::es) [] pos) X.env=(do
  let ov <-eval o X.env
  standAt apos.atName
  let(f,first) <-holding [ov] (getMethod ov m pl)
  callWith pos f first (backTo pos<|starEach (e::es) X.env) (backToKw pos<|keywordEach [] X.env))):
 PE X (.Call (.Attribute o m apos) (e::es) [] pos) (Cc X m ta t):=by
 intro b s σ H Q I h;refine W.methodCall_KW (xV (he b s σ H _ I h) λu j hq0=>?_) ht;obtain⟨x,n,d,p,a,C,E,G,k,f,fd,J,K,v,w,c,g,l,F,y,z,q⟩:=hq0;subst v;obtain rfl:u=Value.ref a:=p;refine Pc d w c g l ?_;refine W.callWith_K I.ok.mod.kin g.kp (xV (ha pos b j σ n _ d q) λA L ⟨B,M,i,r,D⟩=>⟨i.kIn, ?_⟩) hst hpl;refine EZ (vs:=.ref a::B) F y z .nil hx i (.cons rfl r) ?_
 rwa [zyE]
def IJ(he:PE X o ta)(hx:Zb YG X λ_ _ _=>False)
 (ht:eval (.Call (.Attribute o m apos) [] [] pos) X.env=(do
  let ov <-eval o X.env
  standAt apos.atName
  let(f,first) <-holding [ov] (getMethod ov m pl)
  callWith pos f first (backTo pos<|starEach [] X.env) (backToKw pos<|keywordEach [] X.env))):
 PE X (.Call (.Attribute o m apos) [] [] pos) (Cc X m ta pG):=by
 intro b s σ H Q I h;refine W.methodCall_KW (xV (he b s σ H _ I h) λu r hq0=>?_) ht;obtain⟨x,t,d,g,a,C,v,w,k,f,fd,y,z,i,j,c,e,l,F,n,p,q⟩:=hq0;subst i;obtain rfl:u=Value.ref a:=g;refine Pc d j c e l ?_;exact W.callWith_K0 d.kIn e.kp<|EZ (vs:=[.ref a]) F n p .nil hx d (.cons rfl .nil) q
end
noncomputable def EO:List (Str×Fn)->Str->Option Fn
 | [],_=>none
 |p::r,c=>if c=p.1 then some p.2 else EO r c
def MT(P:Program)(w:World)(K:zzA)(mg:Str->Option Value)(base:Heap)(kd:KD)(m:Str)(k:Nat)(tbl:List (Str×Fn)):Prop:=
 ∀c g,EO tbl c=some g->∃k' f fd ps,k'<=k/\Cls K (kd.c c)/\Meth K (kd.c c) m f/\FnOk P w K mg base YG k' f fd ps (Vv K kd g)/\Binds K fd ps []
section
variable{P:Program}{w:World}{K:zzA}{mg:Str->Option Value}{base:Heap}{kd:KD}{m:Str}{k:Nat}{tbl:List (Str×Fn)}
def Zp:MT P w K mg base kd m k []:=λc g h=>by cases h
def Jn(hk:k'<=k)(cl:Cls K (kd.c c))(me:Meth K (kd.c c) m f)(F:FnOk P w K mg base YG k' f fd ps (Vv K kd g))(b:Binds K fd ps [])(h:MT P w K mg base kd m k tbl):MT P w K mg base kd m k ((c,g)::tbl):=λc' g' e=>by
 have e:(if c'=c then some g else EO tbl c')=some g':=e
 by_cases q:c'=c
 . rw[if_pos q]at e;cases e;subst q;exact⟨k',f,fd,ps,hk,cl,me,F,b⟩
 . rw[if_neg q]at e;exact h c' g' e
end
noncomputable def ie(m:Str):D->Option Str
 | .ob c ns _=>if m ∈ ns then none else some c
 |_=>none
def vR(tbl:List (Str×Fn))(m:Str)(fo:EF)(fr:AF):EF:=λas=>(fo as).bind λp=>(p.1.frz.view p.2).bind λw=>(ie m w.1).bind λc=>(EO tbl c).bind λg=>(fr p.2).bind λq=>(Yl q.2 (p.1.frz::q.1)).bind λx=>(g x).bind λo=>some (.ow o,q.2)
section
variable{X:Cx}{kd:KD}{a e o:Expr}{es:List Expr}{fa fo fe:EF}{fr:AF}{pos pos' apos:Pos}{m f:Str}{cs:List Str}{tbl:List (Str×Fn)}{k:Nat}
def Dm(hT:MT X.prog X.w X.K X.mg X.base kd m k tbl)(hr:Room k X.A)(ht:∀σ H Q,J2 X.K kd fr σ H Q->t σ H Q)(h:al X.K kd (vR tbl m fo fr) σ H Q):Cc X m (al X.K kd fo) t σ H Q:=by
 obtain⟨F,B,ad,as,r,E,R,e,q⟩:=h;obtain⟨⟨p,i⟩,G,e⟩:=bS_<|e;obtain⟨⟨w,lv⟩,I,e⟩:=bS_ e;obtain⟨c,a,e⟩:=bS_ e;obtain⟨g,J,e⟩:=bS_ e;obtain⟨⟨L,j⟩,M,e⟩:=bS_ e;obtain⟨N,O,e⟩:=bS_ e;obtain⟨o,P,e⟩:=bS_ e;cases e;refine vN R G λv l H1 z d S=>?_;have T:=xf.vw z d I;cases T with
 | @ob a' dx U C V W Y hl rl=>
  have a:(if m ∈ C then none else some U)=some c:=a
  by_cases n:m ∈ C
  . rw[if_pos n]at a;cases a
  . rw[if_neg n]at a;cases a;obtain⟨Z,f,fd,ps,s,cl,me,F1,b⟩:=hT _ _ J;refine⟨_,_,_,_,Z,f,fd,ps,_,rfl,Y,cl,me,(ZU _ _ _).trans<|VQ n,F1,hr.mono s,b,ht _ _ _ ⟨F,B,l,i,L,j,z,M,λvs u H2 R2 x D=>?_⟩⟩;exact⟨_,N,o,R2.trk true,RA R2 (.cons (d.grow D) x) O,P,EV R2 λw T' H' R' y g'=>q w T' u H' R' y<|(S.trans D).trans g'⟩
 |_=>cases a
def tU(hT:MT X.prog X.w X.K X.mg X.base kd m k tbl)(hr:Room k X.A)(hx:Zb YG X λ_ _ _=>False)(ho:AE X kd o fo)(ha:AA X kd (e::es) fr)
 (hst:starEach (e::es) X.env=(false,eval e X.env)::starEach es X.env) (hpl:(backTo pos<|starEach es X.env).any (·.1)=false)
 (ht:eval (.Call (.Attribute o m apos) (e::es) [] pos) X.env=(do
  let ov <-eval o X.env
  standAt apos.atName
  let(f,first) <-holding [ov] (getMethod ov m pl)
  callWith pos f first (backTo pos<|starEach (e::es) X.env) (backToKw pos<|keywordEach [] X.env))):
 AE X kd (.Call (.Attribute o m apos) (e::es) [] pos) (vR tbl m fo fr):=by
 with_unfolding_all exact(yf (Ec ho hx ha hst hpl ht) λσ H Q h=>Dm hT hr (λ_ _ _ z=>z) h)
def Im(hT:MT X.prog X.w X.K X.mg X.base kd m k tbl)(hr:Room k X.A)(hx:Zb YG X λ_ _ _=>False)(ho:AE X kd o fo)
 (ht:eval (.Call (.Attribute o m apos) [] [] pos) X.env=(do
  let ov <-eval o X.env
  standAt apos.atName
  let(f,first) <-holding [ov] (getMethod ov m pl)
  callWith pos f first (backTo pos<|starEach [] X.env) (backToKw pos<|keywordEach [] X.env))):
 AE X kd (.Call (.Attribute o m apos) [] [] pos) (vR tbl m fo aN):=by
 with_unfolding_all exact(yf (IJ ho hx ht) λσ H Q h=>Dm hT hr (λσ H Q z=>by
  obtain⟨F,B,a,as,c,b,R,e,q⟩:=z;cases e;exact q [] a H R .nil Grow.refl) h)
end
abbrev B_:=AS->Option AS
def bf(K:zzA)(kd:KD)(f:B_):TS:=λD σ H=>∃F B ad as as',Rel K kd F B [] ad as σ H/\f as=some as'/\∀ad' H',Rel K kd F B [] ad' as' σ H'->Grow (Gw [] ad) H (Gw [] ad') H'->D.nx σ H'
@[irreducible] def nZ(X:Cx)(kd:KD)(st:List Stmt)(f:B_):Prop:=Nj X st<|bf X.K kd f
@[irreducible] def oV(X:Cx)(kd:KD)(st:Stmt)(f:B_):Prop:=PS X st<|bf X.K kd f
def XD(i:Nat)(cs:List Str)(f:Str)(fe:EF):B_:=λas=>(fe as).bind λp=>(Wm p.2 p.1).bind λx=>match x.2[i]? with
 |some (some (.nd (.ob c ns) os))=>if c ∈ cs/\f ∉ ns/\ns.length<1000 then some (x.2.set i<|some<|.nd (.ob c<|ns++[f])<|os++[.lf x.1.1 x.1.2])else none
 |_=>none
noncomputable def Il(fe:EF):B_:=λas=>(fe as).bind λp=>some p.2
noncomputable def Zm(f g:B_):B_:=λas=>(f as).bind g
section
variable{X:Cx}{kd:KD}{e o:Expr}{st:Stmt}{rest:List Stmt}{fe:EF}{f g:B_}{pos pos':Pos}{cs:List Str}{n:Str}
def Jj(he:AE X kd e fe)(hs:swapsWith e none pos.line X.env=pure false):oV X kd (.Expr e pos) (Il fe):=by
 with_unfolding_all exact(wu (Ru he hs) λD σ H h=>by
  obtain⟨F,B,c,as,o,R,e,q⟩:=h;obtain⟨⟨p,a⟩,d,e⟩:=bS_<|e;cases e;exact⟨F,B,c,as,p,a,R,d,λv j b f i k g=>q b f i.drop<|g.trans<|Grow.less Gw.drop⟩)
def xm(hc:CF X.K kd cs n)(ho:PE X o (Vk j))(he:AE X kd e fe)(hs:swapsWith e (some<|.Attribute o n pos') pos.line X.env=pure false):oV X kd (.Assign [.Attribute o n pos'] e pos) (XD j cs n fe):=by
 with_unfolding_all exact(wu (HG ho he hs) λD σ H h=>by
  obtain⟨F,B,P,as,o,R,e,q⟩:=h;obtain⟨⟨p,t⟩,Q,e⟩:=bS_<|e;obtain⟨⟨⟨A,d⟩,w⟩,S,e⟩:=bS_ e;cases f:w[j]? with
  |none=>rw[f]at e;cases e
  |some T=>
   rw[f]at e
   match T,e,f with
   |some (.nd (.ob c E) G),e,f=>
    obtain⟨⟨I,U,V⟩,e⟩:=zq e;cases e;refine⟨F,B,P,as,p,t,R,Q,λv T1 W J Y x Z=>?_⟩;obtain⟨b,R2,rp,le⟩:=ZK Y x S;obtain⟨v0,g,i⟩:=R2.sl j _ f;refine⟨v0,g, ?_⟩;generalize k:b j=fp1 at i;cases i with
    |ob hC L s rl=>
     rename_i l M C O fp;have ec:=hC.cl_eq;subst ec;have r:=R2.nd j;rw[k]at r;have y : vI X.K kd F B (Gw [] b) J (O++[v]) (G++[.lf A d]) fp:=by
            have:=rl.append<|RoL.one<|Ro.lf rp
            rwa [zyE]at this
     refine⟨l,_,M,_,rfl,L,(hc _ I).1,(hc _ I).2,by rw[List.length_zip,s,Nat.min_self,<-s];exact V, ?_⟩;rw[Tp s U];obtain⟨R4,g4⟩:=R2.mut (n:=.nd (.ob c<|E++[n]) _) (zzG.mp f).1 k g (fp':=fp) (λa m=>m) (by rw[zyE];exact(zzW.mp r).2) (by rw[L];simp) λH' G' z gr kp=>.ob (.cl c) z (by rw[zzJ,zzJ,s];rfl)<|vI.grow gr kp y;exact q _ _ R4<|(Z.trans<|Grow.less le).trans g4)
def Ld(h:oV X kd st f):nZ X kd [st] f:=by
 with_unfolding_all exact(RF h)
def yQ(h1:oV X kd st f)(h2:nZ X kd rest g):nZ X kd (st::rest) (Zm f g):=by
 with_unfolding_all exact(YI (Qq h1 h2) λD σ H h=>by
  obtain⟨F,B,d,as,o,R,e,q⟩:=h;obtain⟨c,i,e⟩:=bS_<|e;exact⟨F,B,d,as,c,R,i,λa n j k=>⟨F,B,a,c,o,j,e,λb l R2 m=>q b l R2<|k.trans m⟩⟩)
end
noncomputable def n6(c:Str):O:=.nd (.ob c []) []
noncomputable def Fc(x:Bool×D):O:=.lf x.1 x.2
noncomputable def slot0:AS->Option O
 |some o::_=>if o.str=true then some o else none
 |_=>none
def sY(c:Str)(n m:Nat)(f:B_)(ds:List (Bool×D)):Option O:=if ds.length+1=m then(f<|wz n (n6 c::ds.map Fc)).bind slot0 else none
def tP(K:zzA)(kd:KD)(c:Str)(g:Fn):Sp:=λvs H Q _=>∃F x dx vs' ds o,vs = .ref x::vs'/\H x=some (.ins (kd.c c) dx [])/\(∀a,F a->H a≠none)/\¬F x/\RpI K kd F (λ_=>False) (· = x) H vs' ds/\g ds=some o/\
 ∀T H',T.Nodup->(∀a ∈ T,a=x\/H a=none)->(∀b u,H b=some u->b≠x->H' b=some u)->(∀a ∈ T,H' a≠none)->Ro (λ_ v d=>Rp K kd (XW F (· ∈ T)) H' v d) (λa=>¬XW F (· ∈ T) a) H' (.ref x) o T->Q .non H'
def CT{K}(h:RpI K kd F B G H vs ds):vI K kd F B G H vs (ds.map Fc) []:=by
 induction h with
 |nil=>exact .nil
 |cons a _ b=>exact RoL.cons (Ro.lf a) b
def FM(ds:List (Bool×D)):(ds.map Fc).all O.isLf=true:=by
 induction ds with
 |nil=>rfl
 |cons x r a=>exact a
section
variable{P:Program}{w:World}{K:zzA}{mg:Str->Option Value}{base:Heap}
def M8{st}{k:Nat}(Fn:Fun K x qual st f fd)(S:FnScope N ps (zL st))(hps:ps.length<=N.length)
 (hb:∀(cdv:Value) (A:Around) (outer:List Env) (s:Shared) (H:Hp) (E:XK),Room k (A.deeper<|envOfC qual (zL st) s.heap.objs.size f cdv)->nZ (Rg YG P w K mg base N qual (zL st) f cdv A outer s H E).nox kd (vJ st) b):
 FnOk P w K mg base YG (k+1) f fd ps (tP K kd c<|sY c N.length ps.length b):=by
 with_unfolding_all (
 refine Fn.ok S (λvs H Q E h=>?_) λcdv A outer s H vs Q E hr h=>⟨_,hb cdv A outer s H E hr, ?_⟩
 . obtain⟨F,x,dx,vs',ds,o,rfl,_,_,_,rp,e,_⟩:=h;obtain⟨hl,_⟩:=ite_some'<|e;rw[zzT,rp.length,hl]
 . obtain⟨F,x,dx,vs',ds,o,rfl,hx,ht,hF,rp,e,q⟩:=h;obtain⟨hl,e⟩:=ite_some'<|e;obtain⟨as',e1,e2⟩:=bS_ e;have ro:vI K kd F (λ_=>False) (· ∈ [x]) H (V.ref x::vs') (n6 c::ds.map Fc) [x]:=by
    have e0:(λa=>a ∈ [x])=(λa=>a=x):=⋯;rw[e0];exact RoL.cons (Ro.ob (.cl c) hx rfl .nil)<|CT rp
   have R0:=PD (N:=N) ht ⋯ (λa m=>by rw[zzR.mp m,hx];exact⟨⋯,hF⟩) (FM ds) (by rw[zzT,zzB];omega) ro;have gw:∀a,Gw [] (λi=>if i=0 then[x]else[]) a->a=x:=λa z=>z.elim ⋯ λ⟨i,y⟩=>by
    by_cases e:i=0
    . subst e;simpa using y
    . simp[e]at y
   refine⟨F,λ_=>False,_,_,as',R0,e1,λad' H' R' g'=>?_⟩
   match as',e2,R' with
   |some o'::r,e2,R'=>
    obtain⟨hs,e2⟩:=zq<|e2;subst e2;obtain⟨v,hv,ro'⟩:=R'.sl 0 _ rfl;have hv0:(L2.start N (V.ref x::vs'))[0]? = some _:=rfl;cases hv;have rt:=LN R' (R'.nd 0) (λa m=>.inr ⟨0,m⟩) ro' hs;exact q _ H' rt.nd (λa m=>(g'.own a<|.inr ⟨0,m⟩).imp (gw a) id) (λb u h hb=>g'.keep b u h λz=>hb<|gw b z) rt.tr rt.ro)
end
section
variable{X:Cx}{kd:KD}{e:Expr}{es:List Expr}{fr:AF}{pos p:Pos}{g:Fn}
def u_(h:al X.K kd (ze fr g) σ H Q):Dr (kd.c c) (tP X.K kd c g) [] E (J2 X.K kd fr) σ H Q:=by
 obtain⟨F,B,G,as,r,I,R,e,q⟩:=h;obtain⟨⟨p,J⟩,L,e⟩:=bS_<|e;obtain⟨M,A,e⟩:=bS_ e;obtain⟨o,C,e⟩:=bS_ e;cases e;refine⟨F,B,G,as,p,_,R,L,λN d f n i O x j l s P=>?_⟩;rw[zyE];have k:∀b u,f b=some u->upd (upd f j<|.own x) x (.ins (kd.c c) j []) b=some u:=λb u h=>by rwa [zH<|zW h l,zH<|zW h s]
 have D:∀b,upd _ x _ b=none->f b=none:=λb h=>by
  cases e:f b with
  |none=>rfl
  |some u=>rw[k b u e]at h;cases h
 refine⟨Lv F B _ true,x,j,N,M,o,rfl,yd,λa z y=>n.trk true a z<|D a y,λz=>n.trk true x z l, ?_,C,λT t S U V Y Z=>⟨rfl, ?_⟩⟩
 . have ra:=RA n i A;clear e C A i
   induction ra with
   |nil=>exact .nil
   |cons h _ ih=>
    refine .cons ?_ ih;exact Rp.grow (W:=λ_=>False) (W':=_) ⟨λb u h _=>k b u h,λb e=>.inr<|by rwa [e]⟩<|h.less λa z=>z.elim ⋯ λy=>y.elim
 . exact EV n (λw T' t R' v g'=>q w T' d t R' v<|O.trans g') _ T t S (λa m=>(U a m).elim (λe=>by rwa [e])<|D a) (λb u h=>V b u (k b u h)<|zW h l) Y Z
def IP(hC:kd.c c=C)(M:Mk X.K C f)(F:FnOk X.prog X.w X.K X.mg X.base YG k f fdt ps (tP X.K kd c g))(hr:Room (k+1) X.A)(hg:Gl X x)(hm:X.mg x=some (.ref C))(hb:Binds X.K fdt ps [])(hx:Zb YG X λ_ _ _=>False)
 (ha:AA X kd (e::es) fr) (hdb:(x==("__debug__":Str))=false) (he:starEach (e::es) X.env=(false,eval e X.env)::starEach es X.env) (hpl:(backTo pos<|starEach es X.env).any (·.1)=false):
 AE X kd (.Call (.Name x p) (e::es) [] pos) (ze fr g):=by
 subst hC
 with_unfolding_all exact(yf (IM M F hr hg hm hb .nil hx ha hdb he hpl) λσ H Q h=>u_ h)
end
noncomputable def Ga(mg:Str->Option Value):Str->Addr:=λx=>match mg x with
 |some (.ref a)=>a
 |_=>0
def L6(h:mg x=some (.ref a)):Ga mg x=a:=by
 unfold Ga;rw[h]
structure CI(K:zzA)(kd:KD)(mg:Str->Option Value)(c:Str)(C:Addr):Prop where
 eq:kd.c c=C
 cl:Cls K C
 mks:W.makesIn K C=true
 kp:W.keepIn K (.ref C)=true
 mg:mg c=some (.ref C)
section
variable{P:Program}{w:World}{K:zzA}{mg:Str->Option Value}{base:Heap}{kd:KD}{m f:Str}{k:Nat}{tbl:List (Str×Fn)}{cs:List Str}{c:Str}{C:Addr}
def DH{k':Nat}{f}(ci:CI K kd mg c C)(me:Meth K C m f)(F:FnOk P w K mg base YG k' f fd ps (Vv K kd g))(hk:k'<=k)(b:Binds K fd ps [])(h:MT P w K mg base kd m k tbl):MT P w K mg base kd m k ((c,g)::tbl):=by
 have e:=ci.eq;subst e;exact Jn hk ci.cl me F b h
def wX:CF K kd [] f:=λc h=>nomatch h
def x_(ci:CI K kd mg c C)(n:yx K C f)(h:CF K kd cs f):CF K kd (c::cs) f:=λb a=>by
 have e:=ci.eq;subst e
 rcases zzC.mp a with rfl|a
 . exact⟨ci.cl,n⟩
 . exact h b a
def CI.mk'{f}(ci:CI K kd mg c C)(me:Meth K C "__init__" f):Mk K C f:=⟨ci.mks,me.at_,me.fn,ci.kp⟩
end
def Qf{prog w A E s it l}{i:Nat}{items x Q}(hit:s.heap.IsTupleIter it l i)(hl:s.heap.IsTuple l items)(hx:items[i]? = some x)
 (h:∀h':Heap,h'.IsTupleIter it l (i+1)->Heap.SameBut it s.heap h'->Q x {s with heap:=h'}):wpAny (model prog w) A (Builtin.SmallTypes.nextOf<|.ref it) Q E s:=by
 obtain⟨o,ho,hc,hd⟩:=id hit;obtain⟨ol,hol,hcl,nl,hdl⟩:=hl;refine zxD<|wpAny_callSpecial?_slot hit.typeIs F.slot_tuple_iterator_next<|zxL F.slot_tuple_iterator_next hit.typeIs F.entry_tuple_iterator_next ?_;unfold Builtin.«tuple_iterator.__next__»
 wp_walk using wpAny_field ho hd rfl,wpAny_seqItems hol hdl
 rw[hdl]
 wp_walk
 rw[zyI,hx];refine zxD<|wpAny_setField ho hd (by simp) ?_;refine zxE ⟨x,rfl,zxE<|h _ ⟨_,Heap.get?_update_self _ ho<|Obj.isFreed_of_fields<|Obj.data_mapFields hd _,(Obj.cls_mapFields o _).trans hc,(Obj.data_mapFields hd _).trans<|by simp[rawInt]⟩<|Heap.SameBut.update _ _ _⟩
def Q3{prog w A E s it l}{i:Nat}{items Q}(hh:A.handled=none)(hit:s.heap.IsTupleIter it l i)(hl:s.heap.IsTuple l items)(hx:items[i]? = none)
 (h:∀(h':Heap) (e:Addr),Heap.ExtBut it s.heap h'->(∃o,h'.get? e=some o/\o.cls = .type "StopIteration")->E (.ref e) {s with heap:=h'}):wpAny (model prog w) A (Builtin.SmallTypes.nextOf<|.ref it) Q E s:=by
 obtain⟨o,ho,hc,hd⟩:=id hit;obtain⟨ol,hol,hcl,nl,hdl⟩:=hl;refine zxD<|wpAny_callSpecial?_slot hit.typeIs F.slot_tuple_iterator_next<|zxL F.slot_tuple_iterator_next hit.typeIs F.entry_tuple_iterator_next ?_;unfold Builtin.«tuple_iterator.__next__»
 wp_walk using wpAny_field ho hd rfl,wpAny_seqItems hol hdl
 rw[hdl]
 wp_walk
 rw[zyI,hx];refine zxD (wpAny_rule<|zxD<|wpAny_setField ho hd (by simp) ?_)
 wp_walk
 refine wpAny_raiseNew_none hh<|h _ _ (((Heap.SameBut.update _ _ _).extBut.push _).push _) ⟨_,zxH _ rfl,rfl⟩
def Xv(b:Bool)(h:Heap)(it l:Addr)(k:Nat):Prop:=if b=true then h.IsTupleIter it l k else h.IsListIter it l k
def Rq(b:Bool)(h:Heap)(l:Addr)(xs:Array Value):Prop:=if b=true then h.IsTuple l xs else h.IsList l xs
def wZ{prog w A E s it l}{i:Nat}{items x Q}:∀{b:Bool},Xv b s.heap it l i->Rq b s.heap l items->items[i]? = some x->
 (∀h':Heap,Xv b h' it l (i+1)->Heap.SameBut it s.heap h'->Q x {s with heap:=h'})->wpAny (model prog w) A (Builtin.SmallTypes.nextOf<|.ref it) Q E s
 |true,h1,h2,h3,h4=>Qf h1 h2 h3 h4
 |false,h1,h2,h3,h4=>wpAny_nextOf_list_item h1 h2 h3 h4
def Xa{prog w A E s it l}{i:Nat}{items Q}(hh:A.handled=none):∀{b:Bool},Xv b s.heap it l i->Rq b s.heap l items->items[i]? = none->
 (∀(h':Heap) (e:Addr),Heap.ExtBut it s.heap h'->(∃o,h'.get? e=some o/\o.cls = .type "StopIteration")->E (.ref e) {s with heap:=h'})->wpAny (model prog w) A (Builtin.SmallTypes.nextOf<|.ref it) Q E s
 |true,h1,h2,h3,h4=>Q3 hh h1 h2 h3 h4
 |false,h1,h2,h3,h4=>wpAny_nextOf_list_end hh h1 h2 h3 h4
def Xv.ext{a h h' it l}{k:Nat}:∀{b:Bool},Xv b h it l k->Heap.ExtBut a h h'->it≠a->Xv b h' it l k
 |true,x,e,n=>Heap.IsTupleIter.extBut x e n
 |false,x,e,n=>Heap.IsListIter.extBut x e n
def Rq.ext{a h h' l xs}:∀{b:Bool},Rq b h l xs->Heap.ExtBut a h h'->l≠a->Rq b h' l xs
 |true,x,e,n=>Heap.IsTuple.extBut x e n
 |false,x,e,n=>Heap.IsList.extBut x e n
def Xv.at{h h' it l}{k:Nat}(k':∀o,h.get? it=some o->h'.get? it=some o):∀{b:Bool},Xv b h it l k->Xv b h' it l k
 |true,⟨o,e,c⟩=>⟨o,k' o e,c⟩
 |false,⟨o,e,c⟩=>⟨o,k' o e,c⟩
theorem Xv.push{h it l}{k:Nat}{o b}(x:Xv b h it l k):Xv b (h.push o) it l k:=x.at λ_ e=>zxF _ e
def TV{M A E s a Q}(h:Q (s.heap.get? a) s):wpAny M A (loadIfAlive a) Q E s:=λΓ p hΓ=>⋯
def Ni(h:Heap)(z TI TO:Addr)(f0:Value)(f1:Bool):Prop:=h.get? z=some {cls:=.type "zip",data:=.fields #[f0,.bool f1,.bool false,.ref TI,.ref TO]}
def Zf(f0:Value):Prop:=f0 = .none\/∃n:Int,f0=rawInt n
def FQ{prog w A E s z TI TO f0 f1 Q}(hz:Ni s.heap z TI TO f0 f1)(hf:Zf f0)(h1:Q true s)(h2:∀h' f1',Ni h' z TI TO f0 f1'->Heap.SameBut z s.heap h'->Q false {s with heap:=h'}):
 wpAny (model prog w) A (Builtin.SmallTypes.ownedTupleIsFree<|.ref z) Q E s:=by
 rcases hf with rfl|⟨n,rfl⟩
 . exact zxD<|wpAny_field hz rfl rfl<|zxE h1
 . refine zxD<|wpAny_field hz rfl rfl ?_;refine zxD<|TV ?_;cases e:s.heap.get? n.toNat with
   |none=>exact zxE h1
   |some o=>
    refine zxD<|wpAny_field hz rfl rfl ?_;cases f1 with
    |true=>exact zxE (h2 s.heap true hz<|Heap.SameBut.refl _ _)
    |false=>exact zxD (wpAny_setField_rec hz ⋯ λh' hz' hs=>zxE<|h2 h' true hz' hs)
def Cu{b1 b2 prog w A E s z TI TO i1 i2 l1 l2}{k1 k2:Nat}{xs ys}{x y a b f0:Value}{f1:Bool}{Q:Value->Shared->Prop}(D:ZipApart z TI TO i1 i2 l1 l2)
 (hz:Ni s.heap z TI TO f0 f1) (hf:Zf f0) (hTI:IsPair s.heap TI (.ref i1) (.ref i2)) (hTO:IsPair s.heap TO a b) (h1:Xv b1 s.heap i1 l1 k1) (h2:Xv b2 s.heap i2 l2 k2) (q1:Rq b1 s.heap l1 xs) (q2:Rq b2 s.heap l2 ys) (hx:xs[k1]? = some x) (hy:ys[k2]? = some y)
 (h:∀(h':Heap) (g0:Value) (g1:Bool),Ni h' z TI TO g0 g1->Zf g0->(∃p q,IsPair h' TO p q)->Xv b1 h' i1 l1 (k1+1)->Xv b2 h' i2 l2 (k2+1)->IsPair h' s.heap.objs.size x y->(∀c o,c≠z->c≠TO->c≠i1->c≠i2->s.heap.get? c=some o->h'.get? c=some o)->Q (.ref s.heap.objs.size) {s with heap:=h'}):
 wpAny (model prog w) A (Builtin.«zip.__next__» {pos:=[.ref z]}) (λfin s'=>∃v,fin=Fin.done (Flow.ret v)/\Q v s') E s:=by
 change wpAny (model prog w) A (bind (field (.ref z) 2) _) _ E s;refine zxD<|wpAny_field hz rfl rfl ?_;refine zxD<|wpAny_field hz rfl rfl<|zxD<|wpAny_seqItems hTI rfl ?_;refine zxD<|FQ hz hf ?_ λh₁ g1 z1 hs₁=>?_
 . rw[if_pos rfl];refine zxD<|wpAny_rule<|zxD<|wpAny_field hz rfl rfl ?_;refine zxD<|wpAny_setField_rec hz (by simp) λh₁ hz₁ hs₁=>?_;refine zxD ?_;rw[show(#[Value.ref i1,Value.ref i2].toList.zipIdx)=[(Value.ref i1,0),(Value.ref i2,1)]from rfl,List.forIn_cons];have x1:=h1.ext hs₁.extBut D.i1z;have y1:=q1.ext hs₁.extBut D.l1z;refine zxD<|zxD<|wpAny_onRaise ?_;refine zxD<|wZ x1 y1 hx λh₂ x2 hs₂=>zxE ?_;have t2:IsPair h₂ TO a b:=hs₂.extBut TO _ D.TOi1<|hs₁.extBut TO _ D.TOz hTO;refine zxD<|wpAny_seqItems t2 rfl<|zxD<|wpAny_updateSeq_pair t2 λh₃ t3 hs₃=>?_;refine zxD<|wpAny_letGo<|zxE ?_;have x3:=((h2.ext hs₁.extBut D.i2z).ext hs₂.extBut D.i12.symm).ext hs₃.extBut D.TOi2.symm;have y3:=((q2.ext hs₁.extBut D.l2z).ext hs₂.extBut D.l2i1).ext hs₃.extBut D.l2TO;change wpAny (model prog w) A (forIn [(Value.ref i2,1)] _ _) _ E _;rw[List.forIn_cons];refine zxD<|zxD<|wpAny_onRaise ?_;refine zxD<|wZ x3 y3 hy λh₄ x4 hs₄=>zxE ?_;have t4:IsPair h₄ TO x b:=hs₄.extBut TO _ D.TOi2 t3;refine zxD<|wpAny_seqItems t4 rfl<|zxD<|wpAny_updateSeq_pair t4 λh₅ t5 hs₅=>?_;refine zxD<|wpAny_letGo<|zxE ?_;change wpAny (model prog w) A (forIn [] _ _) _ E _;rw[List.forIn_nil];refine zxE ?_;have t5:IsPair h₅ TO x y:=t5;refine zxD<|wpAny_seqItems t5 rfl<|zxD<|wpAny_newTuple ?_;have e5:h₅.objs.size=s.heap.objs.size:=hs₅.1.trans<|hs₄.1.trans<|hs₃.1.trans<|hs₂.1.trans hs₁.1;have z1:Ni h₁ z TI TO .ellipsis f1:=hz₁;have z5:Ni h₅ z TI TO .ellipsis f1:=hs₅.extBut z _ D.TOz.symm<|hs₄.extBut z _ D.i2z.symm<|hs₃.extBut z _ D.TOz.symm<|hs₂.extBut z _ D.i1z.symm z1;refine zxD ?_;refine zxD<|wpAny_setField_rec (zxF _ z5) (by simp) λh₇ z7 hs₇=>?_;refine wpAny_setField_rec z7 (by simp) λh₆ z6 hs₆'=>zxE ⟨_,rfl, ?_⟩;have hs₆:=hs₇.trans hs₆';have lt:=λc o q n=>hs₆.extBut c o n<|zxF _ q;have nz:h₅.objs.size≠z:=λe=>by
    have:=zxG z5;rw[<-e]at this;exact Nat.lt_irrefl _ this
   rw[e5];refine h h₆ (rawInt (h₅.objs.size:Int)) false z6 (.inr ⟨_,rfl⟩) ⟨_,_,lt TO _ t5 D.TOz⟩ ?_ ?_ ?_ λc o c1 c2 c3 c4 q=>?_
   . have:=((x2.ext hs₃.extBut D.TOi1.symm).ext hs₄.extBut D.i12).ext hs₅.extBut D.TOi1.symm;exact(Xv.push this).ext hs₆.extBut D.i1z
   . exact(Xv.push<|x4.ext hs₅.extBut D.TOi2.symm).ext hs₆.extBut D.i2z
   . rw[<-e5];exact hs₆.extBut _ _ nz<|zxH _ rfl
   . exact lt c o (hs₅.extBut c o c2<|hs₄.extBut c o c4<|hs₃.extBut c o c2<|hs₂.extBut c o c3<|hs₁.extBut c o c1 q) c1
 . rw[if_neg<|by simp];change wpAny (model prog w) A (bind (forIn #[Value.ref i1,Value.ref i2] _ _) _) _ E _;rw[<-Array.forIn_toList,List.forIn_cons];have x1:=h1.ext hs₁.extBut D.i1z;have y1:=q1.ext hs₁.extBut D.l1z;refine zxD<|zxD<|zxD<|zxI ?_;refine zxD<|wZ x1 y1 hx λh₂ x2 hs₂=>zxE<|zxE ?_;change wpAny (model prog w) A (forIn [Value.ref i2] _ _) _ E _;rw[List.forIn_cons];have x3:=(h2.ext hs₁.extBut D.i2z).ext hs₂.extBut D.i12.symm;have y3:=(q2.ext hs₁.extBut D.l2z).ext hs₂.extBut D.l2i1;refine zxD<|zxD<|zxI ?_;refine zxD<|wZ x3 y3 hy λh₄ x4 hs₄=>zxE<|zxE ?_;change wpAny (model prog w) A (forIn [] _ _) _ E _;rw[List.forIn_nil];refine zxE<|zxD<|wpAny_newTuple ?_ (show 2<=sizeLine by decide);refine zxE ⟨_,rfl, ?_⟩;have e4:h₄.objs.size=s.heap.objs.size:=hs₄.1.trans<|hs₂.1.trans hs₁.1;have z4:Ni h₄ z TI TO f0 g1:=hs₄.extBut z _ D.i2z.symm<|hs₂.extBut z _ D.i1z.symm z1;have t4:IsPair h₄ TO a b:=hs₄.extBut TO _ D.TOi2<|hs₂.extBut TO _ D.TOi1<|hs₁.extBut TO _ D.TOz hTO;rw[e4];refine h _ f0 g1 (zxF _ z4) hf ⟨_,_,zxF _ t4⟩ (Xv.push<|x2.ext hs₄.extBut D.i12) (Xv.push x4) ?_ λc o c1 c2 c3 c4 q=>zxF _<|hs₄.extBut c o c4<|hs₂.extBut c o c3<|hs₁.extBut c o c1 q;rw[<-e4];exact zxH _ rfl
def I_{b1 b2 prog w A E s z TI TO i1 i2 l1 l2}{k1 k2:Nat}{xs ys a b f0 f1 Q}(hh:A.handled=none)(D:ZipApart z TI TO i1 i2 l1 l2)
 (hz:Ni s.heap z TI TO f0 f1) (hf:Zf f0) (hTI:IsPair s.heap TI (.ref i1) (.ref i2)) (hTO:IsPair s.heap TO a b) (h1:Xv b1 s.heap i1 l1 k1) (h2:Xv b2 s.heap i2 l2 k2) (q1:Rq b1 s.heap l1 xs) (q2:Rq b2 s.heap l2 ys) (hx:xs[k1]? = none\/ys[k2]? = none)
 (h:∀(h':Heap) (e:Addr),(∀c o,c≠z->c≠TO->c≠i1->c≠i2->s.heap.get? c=some o->h'.get? c=some o)->(∃o,h'.get? e=some o/\o.cls = .type "StopIteration")->E (.ref e) {s with heap:=h'}):
 wpAny (model prog w) A (Builtin.«zip.__next__» {pos:=[.ref z]}) Q E s:=by
 have fin:∀(h':Heap) (e:Addr),(∃f g,Ni h' z TI TO f g)->(∀c o,c≠z->c≠TO->c≠i1->c≠i2->s.heap.get? c=some o->h'.get? c=some o)->(∃o,h'.get? e=some o/\o.cls = .type "StopIteration")->
  wpAny (model prog w) A (setField (.ref z) 0 Value.none) (λ_ s''=>E (.ref e) s'') E {s with heap:=h'}:=λh' e ⟨f,g,hf⟩ kk ⟨o,ho,hc⟩=>by
  refine wpAny_setField_rec (s:={s with heap:=h'}) hf (by simp) λh'' z'' hs=>?_;have ne:e≠z:=λe'=>by
   subst e';have:=(hf).symm.trans ho;cases this;exact absurd (show Value.type "zip"=Value.type "StopIteration" from hc) (by decide)
  exact h h'' e (λc o c1 c2 c3 c4 q=>hs.extBut c o c1<|kk c o c1 c2 c3 c4 q) ⟨o,hs.extBut e o ne ho,hc⟩
 change wpAny (model prog w) A (bind (field (.ref z) 2) _) _ E s;refine zxD<|wpAny_field hz rfl rfl ?_;refine zxD<|wpAny_field hz rfl rfl<|zxD<|wpAny_seqItems hTI rfl ?_;refine zxD<|FQ hz hf ?_ λh₁ g1 z1 hs₁=>?_
 . rw[if_pos rfl];refine zxD<|wpAny_rule<|zxD<|wpAny_field hz rfl rfl ?_;refine zxD<|wpAny_setField_rec hz (by simp) λh₁ hz₁ hs₁=>?_;refine zxD ?_;rw[show(#[Value.ref i1,Value.ref i2].toList.zipIdx)=[(Value.ref i1,0),(Value.ref i2,1)]from rfl,List.forIn_cons];have z1:=hz₁;have x1:=h1.ext hs₁.extBut D.i1z;have y1:=q1.ext hs₁.extBut D.l1z;refine zxD<|zxD<|wpAny_onRaise ?_;cases e1:xs[k1]? with
   |none=>exact zxD (Xa hh x1 y1 e1 λh' e ex ho=>fin h' e ⟨_,_,ex z _ D.i1z.symm z1⟩ (λc o c1 c2 c3 c4 q=>ex c o c3<|hs₁.extBut c o c1 q) ho)
   |some x=>
    have hy:ys[k2]? = none:=hx.resolve_left (by rw[e1];simp);refine zxD<|wZ x1 y1 e1 λh₂ x2 hs₂=>zxE ?_;have t2:=hs₂.extBut TO _ D.TOi1<|hs₁.extBut TO _ D.TOz hTO;refine zxD<|wpAny_seqItems t2 rfl<|zxD<|wpAny_updateSeq_pair t2 λh₃ t3 hs₃=>?_;refine zxD<|wpAny_letGo<|zxE ?_;have x3:=((h2.ext hs₁.extBut D.i2z).ext hs₂.extBut D.i12.symm).ext hs₃.extBut D.TOi2.symm;have y3:=((q2.ext hs₁.extBut D.l2z).ext hs₂.extBut D.l2i1).ext hs₃.extBut D.l2TO;change wpAny (model prog w) A (forIn [(Value.ref i2,1)] _ _) _ E _;rw[List.forIn_cons];refine zxD<|zxD<|wpAny_onRaise ?_;exact zxD<|Xa hh x3 y3 hy λh' e ex ho=>fin h' e ⟨_,_,ex z _ D.i2z.symm<|hs₃.extBut z _ D.TOz.symm<|hs₂.extBut z _ D.i1z.symm z1⟩
     (λc o c1 c2 c3 c4 q=>ex c o c4<|hs₃.extBut c o c2<|hs₂.extBut c o c3<|hs₁.extBut c o c1 q) ho
 . rw[if_neg<|by simp];change wpAny (model prog w) A (bind (forIn #[Value.ref i1,Value.ref i2] _ _) _) _ E _;rw[<-Array.forIn_toList,List.forIn_cons];have x1:=h1.ext hs₁.extBut D.i1z;have y1:=q1.ext hs₁.extBut D.l1z;refine zxD<|zxD<|zxD<|zxI ?_;cases e1:xs[k1]? with
   |none=>exact zxD (Xa hh x1 y1 e1 λh' e ex ho=>h h' e (λc o c1 c2 c3 c4 q=>ex c o c3<|hs₁.extBut c o c1 q) ho)
   |some x=>
    have hy:ys[k2]? = none:=hx.resolve_left (by rw[e1];simp);refine zxD<|wZ x1 y1 e1 λh₂ x2 hs₂=>zxE<|zxE ?_;change wpAny (model prog w) A (forIn [Value.ref i2] _ _) _ E _;rw[List.forIn_cons];have x3:=(h2.ext hs₁.extBut D.i2z).ext hs₂.extBut D.i12.symm;have y3:=(q2.ext hs₁.extBut D.l2z).ext hs₂.extBut D.l2i1;refine zxD<|zxD<|zxI ?_;exact zxD<|Xa hh x3 y3 hy λh' e ex ho=>h h' e (λc o c1 c2 c3 c4 q=>ex c o c4<|hs₂.extBut c o c3<|hs₁.extBut c o c1 q) ho
def N2{b1 b2 prog w A E s z TI TO i1 i2 l1 l2}{k1 k2:Nat}{xs ys x y a b f0 f1 Q}(D:ZipApart z TI TO i1 i2 l1 l2)
 (hz:Ni s.heap z TI TO f0 f1) (hf:Zf f0) (hTI:IsPair s.heap TI (.ref i1) (.ref i2)) (hTO:IsPair s.heap TO a b) (h1:Xv b1 s.heap i1 l1 k1) (h2:Xv b2 s.heap i2 l2 k2) (q1:Rq b1 s.heap l1 xs) (q2:Rq b2 s.heap l2 ys) (hx:xs[k1]? = some x) (hy:ys[k2]? = some y)
 (h:∀(h':Heap) (g0:Value) (g1:Bool),Ni h' z TI TO g0 g1->Zf g0->(∃p q,IsPair h' TO p q)->Xv b1 h' i1 l1 (k1+1)->Xv b2 h' i2 l2 (k2+1)->IsPair h' s.heap.objs.size x y->(∀c o,c≠z->c≠TO->c≠i1->c≠i2->s.heap.get? c=some o->h'.get? c=some o)->Q (some<|.ref s.heap.objs.size) {s with heap:=h'}):
 wpAny (model prog w) A (pyNext<|.ref z) Q E s:=by
 have hT:s.TypeIs (.ref z) "zip":=⟨_,hz,rfl⟩;exact zxD<|wpAny_attempt<|wpAny_callSpecial?_slot hT F.slot_zip_next<|zxL F.slot_zip_next hT F.entry_zip_next (Cu D hz hf hTI hTO h1 h2 q1 q2 hx hy λh' g0 g1 a1 a2 a3 a4 a5 a6 a7=>zxE<|h h' g0 g1 a1 a2 a3 a4 a5 a6 a7)<|F.args_zip_next_1 _
def Mi{b1 b2 prog w A E s z TI TO i1 i2 l1 l2}{k1 k2:Nat}{xs ys a b f0 f1 Q}(hh:A.handled=none)(D:ZipApart z TI TO i1 i2 l1 l2)
 (hz:Ni s.heap z TI TO f0 f1) (hf:Zf f0) (hTI:IsPair s.heap TI (.ref i1) (.ref i2)) (hTO:IsPair s.heap TO a b) (h1:Xv b1 s.heap i1 l1 k1) (h2:Xv b2 s.heap i2 l2 k2) (q1:Rq b1 s.heap l1 xs) (q2:Rq b2 s.heap l2 ys) (hx:xs[k1]? = none\/ys[k2]? = none)
 (h:∀h':Heap,(∀c o,c≠z->c≠TO->c≠i1->c≠i2->s.heap.get? c=some o->h'.get? c=some o)->Q none {s with heap:=h'}):wpAny (model prog w) A (pyNext<|.ref z) Q E s:=by
 have hT:s.TypeIs (.ref z) "zip":=⟨_,hz,rfl⟩;exact zxD<|wpAny_attempt<|wpAny_callSpecial?_slot hT F.slot_zip_next<|zxL F.slot_zip_next hT F.entry_zip_next (I_ hh D hz hf hTI hTO h1 h2 q1 q2 hx λh' e hk _=>zxD<|wpAny_isInstance ⋯ isSubtype_stop (zxE<|h h' hk))<|F.args_zip_next_1 _
def BZ{prog w A E s z TI TO T f0 f1 Q}(tg)(hz:Ni s.heap z TI TO f0 f1)(hf:Zf f0)
 (h:∀(h':Heap) (g0:Value),Ni h' z TI TO g0 f1->Zf g0->Heap.SameBut z s.heap h'->Q () {s with heap:=h'}):wpAny (model prog w) A (letOwnedTupleGo tg (.ref z)<|.ref T) Q E s:=by
 have no:wpAny (model prog w) A _ Q E s:=zxE<|h s.heap f0 hz hf<|Heap.SameBut.refl _ _;have go:wpAny (model prog w) A (bind (load z) λo=>match o.cls,o.data with
  |Value.type n,Data.fields vs=>if(["enumerate","zip","dict_itemiterator","dict_reverseitemiterator","odict_iterator","itertools.zip_longest","itertools.pairwise"].contains n&&vs[0]? == some (rawInt T))=true then(do rule "for.unpacks-the-owned-tuple";updateField z 0 Value.none)else pure ()
  |_,_=>pure ()) Q E s:=by
  refine zxD<|wpAny_load hz ?_;show wpAny _ A (if _ then _ else _) Q E s
  split
  . refine zxD<|wpAny_rule ?_;exact wpAny_setField_rec hz ⋯ λh' z' hs=>h h' .none z' (.inl rfl) hs
  . exact no
 cases tg with
 |Tuple elts k pos=>exact go
 |List elts pos=>exact go
 |_=>exact no
noncomputable def Yg(b:Bool)(l:Addr):Obj:={cls:=.type (if b=true then "tuple_iterator" else "list_iterator"),data:=.fields #[.ref l,.int 0 0]}
def N0{prog w A E s l xs Q}:∀{b:Bool},Rq b s.heap l xs->Q (.ref s.heap.objs.size) {s with heap:=s.heap.push (Yg b l)}->wpAny (model prog w) A (pyIter<|.ref l) Q E s
 |true,h1,h2=>wpAny_pyIter_tuple h1 h2
 |false,h1,h2=>wpAny_pyIter_list h1 h2
def Rq.at{h h' l xs}(k:∀o,h.get? l=some o->h'.get? l=some o):∀{b:Bool},Rq b h l xs->Rq b h' l xs
 |true,⟨o,e,c⟩=>⟨o,k o e,c⟩
 |false,⟨o,e,c⟩=>⟨o,k o e,c⟩
def Hz{b1 b2}(l1 l2)(xs ys):Meets (Builtin.«zip.__new__» {pos:=[.type "zip",.ref l1,.ref l2]}) λ_ R s=>Rq b1 s.heap l1 xs/\Rq b2 s.heap l2 ys/\
 ∀h':Heap,Ni h' (s.heap.objs.size+4) (s.heap.objs.size+2) (s.heap.objs.size+3) .none false->IsPair h' (s.heap.objs.size+2) (.ref s.heap.objs.size) (.ref<|s.heap.objs.size+1)->IsPair h' (s.heap.objs.size+3) .none .none->Xv b1 h' s.heap.objs.size l1 0->Xv b2 h' (s.heap.objs.size+1) l2 0->
  (∀c o,s.heap.get? c=some o->h'.get? c=some o)->R (.ok<|.ret<|.ref<|s.heap.objs.size+4) {s with heap:=h'}:=
 .of_wp λprog w A R s h=>by
  obtain⟨hp,g,d,tk,os⟩:=s;obtain⟨hl1,hl2,h⟩:=h;have hsub:=sub_zip;have p1:∀{Q:Value->Shared->Prop}{E:Value->Shared->Prop}{A:Around},Q (.ref hp.objs.size) ⟨hp.push<|Yg b1 l1,g,d,tk,os⟩->wpAny (model prog w) A (pyIter<|.ref l1) Q E ⟨hp,g,d,tk,os⟩:=λh=>N0 hl1 h;have p2:∀{Q:Value->Shared->Prop}{E:Value->Shared->Prop}{A:Around},Q (.ref (hp.push<|Yg b1 l1).objs.size) ⟨(hp.push<|Yg b1 l1).push<|Yg b2 l2,g,d,tk,os⟩->wpAny (model prog w) A (pyIter<|.ref l2) Q E ⟨hp.push<|Yg b1 l1,g,d,tk,os⟩:=λh=>N0 (s:=⟨hp.push<|Yg b1 l1,g,d,tk,os⟩) (hl2.at λo e=>zxF _ e) h
  wp_walk using p1,p2
  refine⟨_,rfl, ?_⟩;have s1:(hp.push<|Yg b1 l1).objs.size=hp.objs.size+1:=zxJ _ _;have s2:((hp.push<|Yg b1 l1).push<|Yg b2 l2).objs.size=hp.objs.size+2:=(zxJ _ _).trans (congrArg (· + 1) s1);generalize hh2:(hp.push<|Yg b1 l1).push (Yg b2 l2)=h2 at s2 ⊢;have i1:Xv b1 h2 hp.objs.size l1 0:=by
   have:h2.get? hp.objs.size=some (Yg b1 l1):=by rw[<-hh2];exact zxF _<|zxH _ rfl
   cases b1<;>exact⟨_,this,rfl,rfl⟩
  have i2:Xv b2 h2 (hp.objs.size+1) l2 0:=by
   have:h2.get? (hp.objs.size+1)=some (Yg b2 l2):=by rw[<-hh2,<-s1];exact zxH _ rfl
   cases b2<;>exact⟨_,this,rfl,rfl⟩
  have kp:∀c o,hp.get? c=some o->h2.get? c=some o:=λc o q=>by rw[<-hh2];exact zxF _<|zxF _ q
  rw[s1];change R (.ok<|.ret<|.ref ((h2.push {cls:=.type "tuple",data:=.seq #[.ref hp.objs.size,.ref<|hp.objs.size+1]}).push {cls:=.type "tuple",data:=.seq #[.none,.none]}).objs.size)
   ⟨((h2.push {cls:=.type "tuple",data:=.seq #[.ref hp.objs.size,.ref<|hp.objs.size+1]}).push {cls:=.type "tuple",data:=.seq #[.none,.none]}).push {cls:=.type "zip",data:=.fields #[.none,.bool false,.bool false,.ref h2.objs.size,.ref (h2.push {cls:=.type "tuple",data:=.seq #[.ref hp.objs.size,.ref<|hp.objs.size+1]}).objs.size]},g,d,tk,os⟩
  have g3:=zxH h2 (o:={cls:=.type "tuple",data:=.seq #[.ref hp.objs.size,.ref<|hp.objs.size+1]}) rfl;have s3:(h2.push {cls:=.type "tuple",data:=.seq #[.ref hp.objs.size,.ref<|hp.objs.size+1]}).objs.size=hp.objs.size+3:=(zxJ _ _).trans (congrArg (· + 1) s2);rw[s2]at g3;rw[s2,s3];have k3:∀c o,h2.get? c=some o->(h2.push {cls:=.type "tuple",data:=.seq #[.ref hp.objs.size,.ref<|hp.objs.size+1]}).get? c=some o:=λc o q=>zxF _ q;generalize (h2.push {cls:=.type "tuple",data:=.seq #[.ref hp.objs.size,.ref<|hp.objs.size+1]})=h3 at *;have g4:=zxH h3 (o:={cls:=.type "tuple",data:=.seq #[.none,.none]}) rfl;have s4:(h3.push {cls:=.type "tuple",data:=.seq #[.none,.none]}).objs.size=hp.objs.size+4:=(zxJ _ _).trans (congrArg (· + 1) s3);have k4:∀c o,h3.get? c=some o->(h3.push {cls:=.type "tuple",data:=.seq #[.none,.none]}).get? c=some o:=λc o q=>zxF _ q;rw[s3]at g4;rw[s4];generalize (h3.push {cls:=.type "tuple",data:=.seq #[.none,.none]})=h4 at *;have g5:=zxH h4 (o:={cls:=.type "zip",data:=.fields #[.none,.bool false,.bool false,.ref<|hp.objs.size+2,.ref<|hp.objs.size+3]}) rfl;rw[s4]at g5;exact h _ g5 (zxF _<|k4 _ _ g3) (zxF _ g4) (i1.at λo e=>zxF _<|k4 _ _<|k3 _ _ e) (i2.at λo e=>zxF _<|k4 _ _<|k3 _ _ e) λc o q=>zxF _<|k4 _ _<|k3 _ _<|kp c o q
def Bz{b1 b2 prog w A E s l1 l2 xs ys Q}(hl1:Rq b1 s.heap l1 xs)(hl2:Rq b2 s.heap l2 ys)
 (h:∀h':Heap,Ni h' (s.heap.objs.size+4) (s.heap.objs.size+2) (s.heap.objs.size+3) .none false->IsPair h' (s.heap.objs.size+2) (.ref s.heap.objs.size) (.ref<|s.heap.objs.size+1)->IsPair h' (s.heap.objs.size+3) .none .none->Xv b1 h' s.heap.objs.size l1 0->Xv b2 h' (s.heap.objs.size+1) l2 0->
  (∀c o,s.heap.get? c=some o->h'.get? c=some o)->Q (.ref<|s.heap.objs.size+4) {s with heap:=h'}):wpAny (model prog w) A (call (.type "zip") [.ref l1,.ref l2]) Q E s:=
 callType_new F.called_zip (by decide) ⋯ (F.newCall_zip_2 _ _) (λobj=>F.args_object_init_3 obj _ _) F.entry_zip_new (Hz l1 l2 xs ys)
  ⟨hl1,hl2,λh' a1 a2 a3 a4 a5 a6=>⟨⟨_,a1,rfl⟩,h h' a1 a2 a3 a4 a5 a6⟩⟩
def UD{prog w A E s z TI TO f0 f1 Q}(hz:Ni s.heap z TI TO f0 f1)(h:Q (.ref z) s):wpAny (model prog w) A (pyIter<|.ref z) Q E s:=by
 have hT:s.TypeIs (.ref z) "zip":=⟨_,hz,rfl⟩;exact wpAny_pyIter_slot hT F.slot_zip_iter<|zxL F.slot_zip_iter hT F.entry_zip_iter (zxE ⟨.ref z,rfl,"zip",.builtin "zip.__next__",hT,F.slot_zip_next.lookup,h⟩)<|F.args_zip_iter_1 _
def TY(K:zzA)(H:Hp):Bool->Addr->List V->Prop
 |true,a,xs=>Vu K H a xs
 |false,a,xs=>Yy K H a xs
def TY.ok{X pins σ H s}(I:Inv X pins σ H s):∀{b:Bool}{a:Addr}{xs:List V},TY X.K H b a xs->∃its:List Value,zP xs its/\Rq b s.heap a its.toArray
 |true,a,xs,h=>by obtain⟨its,rv,p,_⟩:=I.tuple h;exact⟨its,rv,p⟩
 |false,a,xs,h=>by obtain⟨its,rv,p,_⟩:=I.list h;exact⟨its,rv,p.isList⟩
def TY.inj{X pins σ H s}(I:Inv X pins σ H s):∀{b:Bool}{a:Addr}{xs ys:List V},TY X.K H b a xs->TY X.K H b a ys->xs=ys
 |true,_,_,_,h,h'=>I.tuple_inj h h'
 |false,_,_,_,h,h'=>I.list_inj h h'
def Rq.ex{h l xs}:∀{b:Bool},Rq b h l xs->∃o,h.get? l=some o
 |true,⟨o,e,_⟩=>⟨o,e⟩
 |false,⟨o,e,_⟩=>⟨o,e⟩
def Xv.ex{h it l}{k:Nat}:∀{b:Bool},Xv b h it l k->∃o,h.get? it=some o/\∀v,o.data ≠ .cell v
 |true,⟨o,e,_,d⟩=>⟨o,e,λv z=>by rw[d]at z;cases z⟩
 |false,⟨o,e,_,d⟩=>⟨o,e,λv z=>by rw[d]at z;cases z⟩
def Ir(K:zzA)(b1 b2:Bool)(a b:Addr):It:=
 ⟨λi H=>∃xs ys x y,TY K H b1 a xs/\TY K H b2 b ys/\xs[i]? = some x/\ys[i]? = some y,
  λi H v H'=>∃T x y,H T=none/\v = .ref T/\H'=upd H T (.tup [x,y])/\(∀xs,TY K H b1 a xs->xs[i]? = some x)/\∀ys,TY K H b2 b ys->ys[i]? = some y,
  λi H=>∃xs ys,TY K H b1 a xs/\TY K H b2 b ys/\(xs.length<=i\/ys.length<=i)⟩
def BC{P w K tg b1 b2}(a b z TI TO i1 i2)(D:ZipApart z TI TO i1 i2 a b):Turn P w K tg (Ir K b1 b2 a b) [z,TI,TO,i1,i2] z
 (λi h=>(∃f0 f1,Ni h z TI TO f0 f1/\Zf f0)/\IsPair h TI (.ref i1) (.ref i2)/\(∃p q,IsPair h TO p q)/\Xv b1 h i1 a i/\Xv b2 h i2 b i)where
 mem:=by simp
 obj:=λi h st c hc=>by
  obtain⟨⟨f0,f1,hz,_⟩,hTI,⟨p,q,hTO⟩,h1,h2⟩:=st;simp at hc
  rcases hc with rfl|rfl|rfl|rfl|rfl
  . exact⟨_,hz,λv z=>by cases z⟩
  . exact⟨_,hTI,λv z=>by cases z⟩
  . exact⟨_,hTO,λv z=>by cases z⟩
  . exact h1.ex
  . exact h2.ex
 keep:=λi h h' st kk=>by
  obtain⟨⟨f0,f1,hz,hf⟩,hTI,⟨p,q,hTO⟩,h1,h2⟩:=st;exact⟨⟨f0,f1,kk z (by simp) _ hz,hf⟩,kk TI (by simp) _ hTI,⟨p,q,kk TO (by simp) _ hTO⟩,h1.at λo e=>kk i1 (by simp) o e,h2.at λo e=>kk i2 (by simp) o e⟩
 item:=by
  intro X hP hw hK hc i pins s σ H E I hf st hg;subst hP hw hK;obtain⟨xs,ys,x,y,hq,hr,hx,hy⟩:=hg;obtain⟨its,rv,p⟩:=hq.ok I;obtain⟨jts,rw',p'⟩:=hr.ok I;obtain⟨u,hu,ru⟩:=rv.get hx;obtain⟨u',hu',ru'⟩:=rw'.get hy;obtain⟨⟨f0,f1,hz,zf⟩,hTI,⟨pp,qq,hTO⟩,h1,h2⟩:=st;refine N2 D hz zf hTI hTO h1 h2 p p' (by simpa using hu) (by simpa using hu') λh' g0 g1 z' zf' to' i1' i2' pr kk=>⟨_,rfl,BZ tg z' zf' λh9 e0 z2 zf2 hs=>?_⟩;have hn:=I.hok.fresh<|zzN _;have fr:∀c o,s.heap.get? c=some o->c≠s.heap.objs.size:=λc o e z=>by
   have:=zxG e;rw[z]at this;exact Nat.lt_irrefl _ this
  have nz:=(fr z _ hz).symm;have k2:∀c o,c ∉ [z,TI,TO,i1,i2]->s.heap.get? c=some o->h9.get? c=some o:=λc o hb q=>by
   simp at hb;exact hs.extBut c o hb.1<|kk c o hb.1 hb.2.2.1 hb.2.2.2.1 hb.2.2.2.2 q
  have hTI2:=hs.extBut TI _ D.TIz<|kk TI _ D.TIz D.TITO D.TIi1 D.TIi2 hTI;obtain⟨p1,q1,to1⟩:=to';refine⟨.ref s.heap.objs.size,upd H s.heap.objs.size<|.tup [x,y],Y1 (s:=s) (t':=s.toks) I hf k2 (zzN _) ⟨by show 2<=sizeLine;decide,[u,u'],.cons ru<|.cons ru' .nil,⟨_,hs.extBut _ _ nz pr,rfl,_,rfl⟩⟩,rfl,
   ⟨_,x,y,hn,rfl,rfl,λq hq'=>by rw[TY.inj I hq' hq];exact hx,λq hq'=>by rw[TY.inj I hq' hr];exact hy⟩,⟨⟨e0,g1,z2,zf2⟩,hTI2,⟨p1,q1,hs.extBut TO _ D.TOz to1⟩,i1'.ext hs.extBut D.i1z,i2'.ext hs.extBut D.i2z⟩,λc hc=>?_⟩
  have hcT:c≠s.heap.objs.size:=by
   simp at hc
   rcases hc with rfl|rfl|rfl|rfl|rfl
   . exact fr _ _ hz
   . exact fr _ _ hTI
   . exact fr _ _ hTO
   . obtain⟨o,e,_⟩:=h1.ex;exact fr _ _ e
   . obtain⟨o,e,_⟩:=h2.ex;exact fr _ _ e
  rw[zH hcT];exact(hf c hc).1
 done:=by
  intro X hP hw hK hc i pins s σ H E I hf st hg;subst hP hw hK;obtain⟨xs,ys,hq,hr,hx⟩:=hg;obtain⟨its,rv,p⟩:=hq.ok I;obtain⟨jts,rw',p'⟩:=hr.ok I;have hl:=rv.length;have hl':=rw'.length;obtain⟨⟨f0,f1,hz,zf⟩,hTI,⟨pp,qq,hTO⟩,h1,h2⟩:=st;refine Mi (I.ok.hd hc) D hz zf hTI hTO h1 h2 p p' (hx.imp (λh=>by simp;omega) λh=>by simp;omega) λh' eb=>⟨rfl,Ph (t':=s.toks) I hf λc o hc q=>?_⟩;simp at hc;exact eb c o hc.1 hc.2.2.1 hc.2.2.2.1 hc.2.2.2.2 q
 self:=λ_ _ _ _ _ st h=>let⟨⟨_,_,hz,_⟩,_⟩:=st;UD hz h
section
variable{X:Cx}{tg:Expr}
def Du(K:zzA)(ta:TA):TI:=λσ H R=>ta σ H λvs H1=>∃a b b1 b2,vs=[.ref a,.ref b]/\(∃xs,TY K H1 b1 a xs)/\(∃ys,TY K H1 b2 b ys)/\R (Ir K b1 b2 a b) H1
def Fp{l l' ta p pos}(hg:Gl X "zip")(hm:X.mg "zip"=none)(ha:PA X [l,l'] ta)(hs:starEach [l,l'] X.env=[(false,eval l X.env),(false,eval l' X.env)])(hs2:starEach [l'] X.env=[(false,eval l' X.env)]):
 PI X tg (.Call (.Name "zip" p) [l,l'] [] pos) (Du X.K ta):=by
 intro pins s σ H R I h;refine Call_ (XH I hg hm boot_zip<|PyProof.Rows.callWith_type1 (xV (ha pos pins s σ H _ I h) λus s1 ⟨vs,H1,I1,r1,q1⟩=>?_) (by rw[hs,hs2])<|by rw[hs2];rfl);obtain⟨a,b,b1,b2,rfl,⟨xs,hq⟩,⟨ys,hr⟩,q⟩:=q1;cases r1 with
 |cons r rr=>
  cases rr with
  |cons r' rr=>
   cases rr;cases r;cases r';obtain⟨its,rv,pl⟩:=hq.ok I1;obtain⟨jts,rw',pl'⟩:=hr.ok I1;obtain⟨o1,ho1⟩:=pl.ex;obtain⟨o2,ho2⟩:=pl'.ex;refine Bz pl pl' λh' hZ hTI hTO hi1 hi2 hk=>?_;refine UD hZ ⟨s1.heap.objs.size+4,[s1.heap.objs.size+4,s1.heap.objs.size+2,s1.heap.objs.size+3,s1.heap.objs.size,s1.heap.objs.size+1],_,_,H1,rfl,I1.kept (t':=s1.toks) hk,BC a b _ _ _ _ _<|Sw _ _ _ (zxG ho1)<|zxG ho2,⟨⟨_,_,hZ,.inl rfl⟩,hTI,⟨_,_,hTO⟩,hi1,hi2⟩,λc hc=>?_,q⟩;have hb':s1.heap.objs.size<=c:=by
    simp at hc
    rcases hc with rfl|rfl|rfl|rfl|rfl<;>first|exact zzN _|exact Nat.le_add_right _ _
   exact I1.fpOk hb'<|I1.hok.fresh hb'
end
section
variable{X:Cx}{kd:KD}{tg e:Expr}{fa:EF}
def IB{K F B ad H a b b1 b2 vs ws st ds es}(hs:∀(ad3:Ad) (H3:Hp),Grow (Gw [] ad) H (Gw [] ad3) H3->TY K H3 b1 a vs)(hs':∀(ad3:Ad) (H3:Hp),Grow (Gw [] ad) H (Gw [] ad3) H3->TY K H3 b2 b ws)
 (r:RpL K kd (Lv F B (Gw [] ad) st) H vs ds) (r':RpL K kd (Lv F B (Gw [] ad) st) H ws es):ItOk K kd F B ad H (Ir K b1 b2 a b) (Q2 st ds es):=⟨λad3 H3 g3 tr i=>by
 have hr3:=hs ad3 H3 g3;have hr4:=hs' ad3 H3 g3;have rl3:=RpL.grow g3 r;have rl4:=RpL.grow g3 r';have hlen:=VO st ds es;have l1:=r.length;have l2:=r'.length;refine⟨λhi=>?_,λhi=>⟨_,_,hr3,hr4,⋯⟩,λv H4 hy=>?_⟩
 . obtain⟨u,hu,_⟩:=r.get<|zzE (show i<ds.length by omega);obtain⟨u',hu',_⟩:=r'.get<|zzE (show i<es.length by omega);exact⟨_,_,u,u',hr3,hr4,hu,hu'⟩
 . obtain⟨T,x,y,hn,rfl,rfl,hv,hv'⟩:=hy;refine⟨xo hn,λq hq=>?_⟩;obtain⟨d,e,hd,he,rfl⟩:=RX hq;obtain⟨u,hu,ru⟩:=rl3.get hd;obtain⟨u',hu',ru'⟩:=rl4.get he;have:=hv _ hr3;rw[hu]at this;cases this;have:=hv' _ hr4;rw[hu']at this;cases this;exact .tup (λz=>tr _ _ z hn) (.inl yd)<|.cons (Rp.grow ⟨λb o q _=>xo hn b o q,λb z=>.inl z⟩ ru)<|.cons (Rp.grow ⟨λb o q _=>xo hn b o q,λb z=>.inl z⟩ ru') .nil⟩
def CZ{K F H a b b1 b2 vs ws st ds es}(ft:∀a,F a->H a≠none)(hs:∀H3:Hp,(∀b u,H b=some u->H3 b=some u)->TY K H3 b1 a vs)(hs':∀H3:Hp,(∀b u,H b=some u->H3 b=some u)->TY K H3 b2 b ws)
 (r:RpL K kd (λa=>st=true/\F a) H vs ds) (r':RpL K kd (λa=>st=true/\F a) H ws es):ItC K kd F H (Ir K b1 b2 a b) (Q2 st ds es):=⟨λH3 T k hT i=>by
 have hr3:=hs H3 k;have hr4:=hs' H3 k;have hlen:=VO st ds es;have l1:=r.length;have l2:=r'.length;refine⟨λhi=>?_,λhi=>⟨_,_,hr3,hr4,⋯⟩,λv H4 hy=>?_⟩
 . obtain⟨u,hu,_⟩:=r.get<|zzE (show i<ds.length by omega);obtain⟨u',hu',_⟩:=r'.get<|zzE (show i<es.length by omega);exact⟨_,_,u,u',hr3,hr4,hu,hu'⟩
 . obtain⟨A,x,y,hn,rfl,rfl,hv,hv'⟩:=hy;have hnH:H A=none:=by
    cases e:H A with
    |none=>rfl
    |some u=>rw[k A u e]at hn;cases hn
   refine⟨xo hn,λq hq=>?_⟩;obtain⟨d,e,hd,he,rfl⟩:=RX hq;obtain⟨u,hu,ru⟩:=r.get hd;obtain⟨u',hu',ru'⟩:=r'.get he;have:=hv _ hr3;rw[hu]at this;cases this;have:=hv' _ hr4;rw[hu']at this;cases this;have up:∀{v:V}{d:D},Rp K kd (λa=>st=true/\F a) H v d->Rp K kd (λa=>st=true/\(F a\/T a)) (upd H3 A<|.tup [x,y]) v d:=λrp=>
    (rp.since (λb o q=>xo hn b o<|k b o q) λa z=>(hT a z).1).less λa z=>z.2.elim (λy=>.inl ⟨z.1,y⟩) .inr
   exact .tup (λz=>z.2.elim (λy=>ft A y hnH) λy=>(hT A y).2 hn) (.inl yd)<|.cons (up ru)<|.cons (up ru') .nil⟩
noncomputable def Ii:RV->Option (Bool×Bool×List D)
 | .ow (.lf s (.lst l))=>some (s,false,l)
 | .ow (.lf s (.tup l))=>some (s,true,l)
 |_=>none
def XB(fr:AF):IF:=λas=>(fr as).bind λp=>(uF p.1).bind λo=>(Ii o.1).bind λa=>(Ii o.2).bind λb=>some (Q2 (a.1&&b.1) a.2.2 b.2.2,p.2)
def YM{K F B ad σ H v r x}(e:Ii r=some x)(rv:xf K kd F B [] ad σ H v r):∃a vs,v = .ref a/\TY K H x.2.1 a vs/\(∀H3:Hp,(∀b u,¬Gw [] ad b->H b=some u->H3 b=some u)->TY K H3 x.2.1 a vs)/\RpL K kd (Lv F B (Gw [] ad) x.1) H vs x.2.2:=by
 cases r with
 |bo i=>cases e
 |ow o=>
  cases o with
  |nd k os=>cases e
  |lf s d=>
   cases rv with
   |lf rp=>
    cases rp with
    |lst hn hr rl=>
     cases e;refine⟨_,_,rfl,.inl hr,λH3 k=>?_,rl⟩
     rcases hr with hr|⟨o,hr⟩
     . exact .inl<|.inl<|k _ _ (λz=>hn<|.inr z) hr
     . exact .inl (.inr ⟨o,k _ _ (λz=>hn<|.inr z) hr⟩)
    |lstK a b c rl=>cases e;exact⟨_,_,rfl,.inr ⟨_,_,_,a,rfl,rfl,rfl,b,c⟩,λH3 k=>.inr ⟨_,_,_,a,rfl,rfl,rfl,b,c⟩,rl⟩
    |tup hn hr rl=>
     cases e;refine⟨_,_,rfl,.inl hr,λH3 k=>?_,rl⟩
     rcases hr with hr|⟨o,hr⟩
     . exact .inl<|.inl<|k _ _ (λz=>hn<|.inr z) hr
     . exact .inl (.inr ⟨o,k _ _ (λz=>hn<|.inr z) hr⟩)
    |tupK a b c e' f rl=>cases e;exact⟨_,_,rfl,.inr ⟨_,_,_,a,b,c,e',f⟩,λH3 k=>.inr ⟨_,_,_,a,b,c,e',f⟩,rl⟩
    |_=>cases e
def C5{F B G p q}:∀a,Lv F B G (p&&q) a->Lv F B G p a:=VZ λz=>(Bool.and_eq_true_iff.mp z).1
def Jl{F B G p q}:∀a,Lv F B G (p&&q) a->Lv F B G q a:=VZ λz=>(Bool.and_eq_true_iff.mp z).2
def Af{l l' fr p pos}(hg:Gl X "zip")(hm:X.mg "zip"=none)(ha:AA X kd [l,l'] fr)(hs:starEach [l,l'] X.env=[(false,eval l X.env),(false,eval l' X.env)])(hs2:starEach [l'] X.env=[(false,eval l' X.env)]):
 AI X kd tg (.Call (.Name "zip" p) [l,l'] [] pos) (XB fr):=by
 with_unfolding_all (
 intro pins s σ H R I h;obtain⟨F,B,ad,as,ds,as',Rl,e',q⟩:=h;obtain⟨⟨rs,as1⟩,h1,e'⟩:=bS_<|e';obtain⟨_,e1,e'⟩:=bS_ e';obtain⟨x1,e2,e'⟩:=bS_ e';obtain⟨x2,e3,e'⟩:=bS_ e';cases L1 e1;cases e';refine Fp hg hm ha hs hs2 pins s σ H R I ⟨F,B,ad,as,_,as1,Rl,h1,λvs ad1 H1 R1 rv1 g1=>?_⟩;cases rv1 with
 |cons r1 rr=>
  cases rr with
  |cons r2 rr=>
   cases rr;obtain⟨a,vs,rfl,sa,ka,ra⟩:=YM e2 r1;obtain⟨b,ws,rfl,sb,kb,rb⟩:=YM e3 r2;exact⟨a,b,_,_,rfl,⟨_,sa⟩,⟨_,sb⟩,q _ ad1 H1 R1 g1<|IB (λad3 H3 g3=>ka H3 λb u n h=>g3.keep b u h n) (λad3 H3 g3=>kb H3 λb u n h=>g3.keep b u h n) (ra.less C5)<|rb.less Jl⟩)
def C_{l l' fr p pos}(hg:Gl X "zip")(hm:X.mg "zip"=none)(ha:AA X kd [l,l'] fr)(hs:starEach [l,l'] X.env=[(false,eval l X.env),(false,eval l' X.env)])(hs2:starEach [l'] X.env=[(false,eval l' X.env)]):
 J1 X kd tg (.Call (.Name "zip" p) [l,l'] [] pos) (XB fr):=by
 with_unfolding_all (
 intro pins s σ H R I h;obtain⟨F,B,ad,as,ds,as',Rl,e',q⟩:=h;obtain⟨⟨rs,as1⟩,h1,e'⟩:=bS_<|e';obtain⟨_,e1,e'⟩:=bS_ e';obtain⟨x1,e2,e'⟩:=bS_ e';obtain⟨x2,e3,e'⟩:=bS_ e';cases L1 e1;cases e';refine Fp hg hm ha hs hs2 pins s σ H R I ⟨F,B,ad,as,_,as1,Rl,h1,λvs ad1 H1 R1 rv1 g1=>?_⟩;cases rv1 with
 |cons r1 rr=>
  cases rr with
  |cons r2 rr=>
   cases rr;obtain⟨a,vs,rfl,sa,ka,ra⟩:=YM e2 r1;obtain⟨b,ws,rfl,sb,kb,rb⟩:=YM e3 r2;refine⟨a,b,_,_,rfl,⟨_,sa⟩,⟨_,sb⟩,q _ ad1 H1 R1 g1<|CZ (R1.trk true) (λH3 k=>ka H3 λb u n h=>k b u h) (λH3 k=>kb H3 λb u n h=>k b u h) (ra.less λa z=>?_)<|rb.less λa z=>?_⟩
   . have z1:=(Bool.and_eq_true_iff.mp z.1).1;rw[z1];exact z.2
   . have z1:=(Bool.and_eq_true_iff.mp z.1).2;rw[z1];exact z.2)
end
def tR:List D->Option R0:=uj λx=>(t_ x).bind λds=>(We ds).bind λns=>some<|.im<|.int ns.sum
theorem Px:∀{us:List Value}{ns:List Int},IntsAre us ns->∃ps:List (Int×Tok),us=ps.map (λp=>Value.int p.1 p.2)/\ps.map (·.1)=ns
 |_,_,.nil=>⟨[],rfl,rfl⟩
 |_,_,.cons a t h=>by
  obtain⟨b,rfl,rfl⟩:=Px h;exact⟨(a,t)::b,rfl,rfl⟩
theorem Nw{ps:List (Int×Tok)}:∀k,k<=ps.length->preSum (numAt ps.toArray) k=((ps.take k).map (·.1)).sum
 |0,_=>⋯
 |k+1,h=>by
  have a:=Nw (ps:=ps) k ⋯;rw[List.take_add_one,zyM,List.sum_append];show preSum _ k+numAt ps.toArray k=_
  congr 1
  show((ps.toArray[k]?).map _).getD 0=_;rw[List.getElem?_toArray,zzE ⋯];simp
section
variable{X:Cx}{kd:KD}
def B4(hc:X.calm=true):Yh X kd (.builtin "sum") tR:=by
 intro f s σ H E F Q I r h;obtain⟨O,G,J,K,i,a,q⟩:=h;obtain⟨x,d,rfl,j,a⟩:=Qw i a;obtain⟨l,k,b⟩:=bS_<|a;cases Qx k
 . obtain⟨m,n,c⟩:=bS_ b;cases c
   . cases j with
     |lst o p=>
      obtain⟨u,rfl,t⟩:=vals1 r;cases t;obtain⟨e,v,w,L⟩:=I.list o.sq;obtain⟨g,y,z⟩:=Px<|JY p v n;refine sum_intListG (I.ok.hd hc) (xs:=g.toArray) ?_ λM A B C=>?_
      . have D:intItems g.toArray=e.toArray:=by rw[y];simp[intItems]
        rw[D];exact w.isList
      . refine⟨.int m.sum,H,I.kept (t':=A) C,⟨B, ?_⟩,z_ q<|.int _⟩;rw[zzH,Nw _<|zzN _,List.take_length,z]
end
def S7(h:n<=1000000):n<=sizeLine:=zzO h (by decide)
section
variable{as:AS}{f fo a b:EF}{fr:AF}{s t:Bool}{x y z d:D}{c m:Str}{ns cs:List Str}{ds:List D}{tbl:List (Str×Fn)}{g:Fn}{o:O}
def K5(h:WD fo as s (.ob c ns ds))(hc:c ∈ cs)(hl:Ee ns ds n=some d):WD (f1 fo<|z9 cs n) as (zv d||s) d:=by
 unfold WD f1 at *;rw[h];show(if c ∈ cs then(Ee ns ds n).bind λd=>some _ else none:Option R0).bind _=_;rw[if_pos hc,hl];show(if _=true then _ else _:Option RV).bind _=_;rw[if_pos ⋯];rfl
def Rk(ho:WD fo as s (.ob c ns ds))(hm:m ∉ ns)(ht:EO tbl c=some g)(hr:WA fr as rs)(hg:g ((s,.ob c ns ds)::rs.map λx=>(zv x.2||x.1,x.2))=some o):vR tbl m fo fr as=some (.ow o,as):=by
 unfold vR;rw[ho];show(if m ∈ ns then none else some c:Option Str).bind _=_;rw[if_neg hm];show(EO tbl c).bind _=_;rw[ht];rw[hr];show((Yl as _).bind _:Option _).bind _=_;rw[YE];show(g ((s,.ob c ns ds)::_)).bind _=_;rw[hg];rfl
def oC(ho:WD fo as true (.ob c ns ds))(hm:m ∉ ns)(ht:EO tbl c=some g)(hg:RE (g [(true,.ob c ns ds)]) z):WE (vR tbl m fo aN) as z:=by
 obtain⟨o,a,b,d⟩:=hg;exact⟨o,Rk ho hm ht zo a,b,d⟩
def Be(ho:WD fo as true (.ob c ns ds))(hm:m ∉ ns)(ht:EO tbl c=some g)(ha:WE a as x)(hg:RE (g [(true,.ob c ns ds),(true,x)]) z):WE (vR tbl m fo<|aC a aN) as z:=by
 obtain⟨o,b,d,e⟩:=hg;exact⟨o,Rk ho hm ht (yZ ha zo) (by show g [_,(zv x||true,x)]=_;rwa [zyD]),d,e⟩
def Ox(ho:WD fo as true (.ob c ns ds))(hm:m ∉ ns)(ht:EO tbl c=some g)(ha:WE a as x)(hb:WE b as y)(hg:RE (g [(true,.ob c ns ds),(true,x),(true,y)]) z):WE (vR tbl m fo<|aC a<|aC b aN) as z:=by
 obtain⟨o,d,e,f⟩:=hg;exact⟨o,Rk ho hm ht (yZ ha<|yZ hb zo) (by show g [_,(zv x||true,x),(zv y||true,y)]=_;rwa [zyD,zyD]),e,f⟩
def OV(ho:WD fo as true (.ob c ns ds))(hm:m ∉ ns)(ht:EO tbl c=some g)(ha:WE a as x)(hb:WE b as y)(he:WE e as w)(hg:RE (g [(true,.ob c ns ds),(true,x),(true,y),(true,w)]) z):WE (vR tbl m fo<|aC a<|aC b<|aC e aN) as z:=by
 obtain⟨o,d,f,h⟩:=hg;exact⟨o,Rk ho hm ht (yZ ha<|yZ hb<|yZ he zo) (by show g [_,(zv x||true,x),(zv y||true,y),(zv w||true,w)]=_;rwa [zyD,zyD,zyD]),f,h⟩
inductive SqD:D->List D->Prop
 |l (ds:List D):SqD (.lst ds) ds
 |t (ds:List D):SqD (.tup ds) ds
theorem XS(st):∀(xs ys:List D),Q2 st xs ys=(xs.zip ys).map λq=>(st,.tup [q.1,q.2])
 | [],_=>rfl
 |_::_,[]=>rfl
 |x::r,y::t=>congrArg _<|XS st r t
def HH(ha:WE a as x)(hb:WE b as y)(hx:SqD x xs)(hy:SqD y ys):XB (aC a<|aC b aN) as=some ((xs.zip ys).map λq=>(true,.tup [q.1,q.2]),as):=by
 have h:=yZ ha<|yZ hb zo;unfold XB;rw[h,<-XS];cases hx<;>cases hy<;>rfl
theorem Ks:∀(l:List α),(∀q ∈ l,∃as1,gg (it q) as0=some as1/\WE fe as1 (h q))->∃os,xr gg yD fe as0 (l.map it)=some os/\O.strs os=true/\O.toDs os=l.map h
 | [],_=>⟨[],rfl,rfl,rfl⟩
 |q::l,H=>by
  obtain⟨a,d,e,f⟩:=Ks l λp m=>H p<|zzD _ m;obtain⟨b,g,o,i,c,j⟩:=H q zzF;refine⟨o::a, ?_,by show(o.str&&O.strs a)=_;rw[c,e];rfl,by show o.toD::O.toDs a=_;rw[j,f];rfl⟩;show xr gg yD fe as0 (it q::l.map it)=_;unfold xr;rw[g];show((fe b).bind _)=_;rw[i];show(if o.str=true then _ else _)=_;rw[if_pos c,d];rfl
theorem Kb:∀(l:List α),(∀q ∈ l,∃as1,gg (it q) as0=some as1/\WT tt as1 (p q)/\(p q=true->WE fe as1 (h q)))->∃os,xr gg tt fe as0 (l.map it)=some os/\O.strs os=true/\O.toDs os=(l.filter p).map h
 | [],_=>⟨[],rfl,rfl,rfl⟩
 |q::l,H=>by
  obtain⟨c,d,e,f⟩:=Kb l λp m=>H p<|zzD _ m;obtain⟨a,g,b,j⟩:=H q zzF;cases hp:p q with
  |false=>
   rw[hp]at b;refine⟨c,BV g b d,e, ?_⟩
   rwa [List.filter_cons_of_neg<|by simp[hp]]
  |true=>
   rw[hp]at b;obtain⟨o,k,i,n⟩:=j hp;refine⟨o::c, ?_,by show(o.str&&O.strs c)=_;rw[i,e];rfl, ?_⟩
   . unfold WT at b;show xr gg tt fe as0 (it q::l.map it)=_;unfold xr;rw[g];show(tt a).bind _=_;rw[b];show((fe a).bind _)=_;rw[k];show(if o.str=true then _ else _)=_;rw[if_pos i,d];rfl
   . rw[List.filter_cons_of_pos hp];show o.toD::O.toDs c=_;rw[n,f];rfl
def NL{os}(h1:fi as=some (xs,as))(hl:xs.length<=1000000)(h2:xr gg tt fe (Zz cap as) xs=some os)(hs:O.strs os=true)(e:O.toDs os=zs):WE (zX fi cap gg tt fe) as (.lst zs):=by
 refine⟨.nd .ls os, ?_,hs,congrArg D.lst e⟩;unfold zX;rw[h1];show(if xs.length<=sizeLine then _ else _)=_;rw[if_pos<|S7 hl,h2];rfl
def Vq(l:List α)(h1:fi as=some (l.map it,as))(hl:l.length<=1000000)(H:∀q ∈ l,∃as1,gg (it q) (Zz cap as)=some as1/\WE fe as1 (h q)):WE (zX fi cap gg yD fe) as (.lst<|l.map h):=by
 obtain⟨d,a,b,c⟩:=Ks l H;exact NL h1 (by rwa [zzB]) a b c
def CD(l:List α)(h1:fi as=some (l.map it,as))(hl:l.length<=1000000)(H:∀q ∈ l,∃as1,gg (it q) (Zz cap as)=some as1/\WT tt as1 (p q)/\(p q=true->WE fe as1 (h q))):WE (zX fi cap gg tt fe) as (.lst<|(l.filter p).map h):=by
 obtain⟨d,a,b,c⟩:=Kb l H;exact NL h1 (by rwa [zzB]) a b c
def Rt(r:Option Out)(x:D):Prop:=∃o,r=some (.rt o)/\o.str=true/\o.toD=x
def zG{n m:Nat}{c ds}(hl:ds.length=m)(h:Rt (c<|vX n ds) x):RE (xD n m c ds) x:=by
 obtain⟨o,a,b,d⟩:=h;exact⟨o,x6 hl a,b,d⟩
def zc{f g}(h1:f as=some (.nx as1))(h2:Rt (g as1) x):Rt (zh f g as) x:=by
 obtain⟨o,e,h⟩:=h2;exact⟨o,zr h1 e,h⟩
def yi{f g}(h1:Rt (f as) x):Rt (zh f g as) x:=by
 obtain⟨o,e,h⟩:=h1;exact⟨o,Zd e,h⟩
def yz{c f g}(h:WT c as true)(h1:Rt (f as) x):Rt (xg c f g as) x:=by
 obtain⟨o,e,a⟩:=h1;exact⟨o,xx h e,a⟩
def zz(h:WE f as x):Rt (zx f as) x:=by
 obtain⟨o,b,a,c⟩:=h;refine⟨o, ?_,a,c⟩;unfold zx;rw[b];show((if o.str=true then some o else none).bind _)=_;rw[if_pos a];rfl
theorem RE.lf(h:r=some (.lf true x)):RE r x:=⟨_,h,rfl,rfl⟩
def Lw{c}(h:WT c as true)(ha:WE a as x):WE (Aw c a b) as x:=by
 obtain⟨o,d,e,f⟩:=ha;exact⟨o,by unfold Aw;rw[h];exact d,e,f⟩
def K3{c}(h:WT c as false)(hb:WE b as x):WE (Aw c a b) as x:=by
 obtain⟨o,d,e,f⟩:=hb;exact⟨o,by unfold Aw;rw[h];exact d,e,f⟩
def VN{g}(ha:WE a as x)(hg:g [x]=some (.im z)):WE (fP (aC a aN) g) as z:=WD.e<|Qt ha hg
def DG{os}(h:WO fd as os)(hl:os.length<=1000000)(hs:O.strs os=true)(e:O.toDs os=zs):WE (yh fd) as (.tup zs):=by
 refine⟨WX os,HC h<|S7 hl, ?_, ?_⟩
 . unfold WX;split
   . exact hs
   . exact hs
 . subst e;unfold WX;split
   . rfl
   . rfl
def ou{os}(h:WE a as x)(hr:WO fd as os):∃o,o.str=true/\o.toD=x/\WO (dC a fd) as (o::os):=by
 obtain⟨o,b,c,d⟩:=h;exact⟨o,c,d,Hn b hr⟩
def yA(ha:WE a as x)(hb:WE b as y):WE (yh<|dC a<|dC b dN) as (.tup [x,y]):=by
 obtain⟨p,c,rfl,d⟩:=ou hb yy;obtain⟨o,e,rfl,f⟩:=ou ha d;exact DG f ⋯ (by show(o.str&&(p.str&&true))=_;rw[e,c];rfl) rfl
def Nz{g}(ha:WE a as x)(hb:WE b as y)(hg:g x y=some (.im z)):WE (f2 a b g) as z:=WD.e<|MQ ha hb hg
end
open AutoSeq1 (wpAny_loadPart')
section
variable{X:Cx}{kd:KD}
def s_(x:D)(lo hi:Option Int):Option R0:=(t_ x).bind λxs=>if lo=none/\hi=some (-1)then some (.fl xs.reverse)else none
theorem N_:∀r:List Value,(List.range r.length).filterMap (λk=>r[k]?)=r
 | []=>rfl
 |a::r=>by
  rw[zzT,List.range_succ_eq_map,List.filterMap_cons,List.filterMap_map];show a::(List.range r.length).filterMap (λk=>r[k]?)=_;rw[N_ r]
theorem XU{α β:Type}{f g:α->Option β}:∀{l:List α},(∀a ∈ l,f a=g a)->l.filterMap f=l.filterMap g
 | [],_=>rfl
 |a::l,h=>by rw[List.filterMap_cons,List.filterMap_cons,h a zzF,XU λb hb=>h b<|zzD _ hb]
def Ol(l:List Value):slicePick l.toArray none none (some (-1))=l.reverse.toArray:=by
 have e:sliceBounds none none (some (-1)) l.toArray.size=((l.length:Int)-1, -1, -1):=⋯;unfold slicePick;rw[e];have e2:(sliceRange (l.length-1) (-1) (-1))=(List.range l.length).map λk=>l.length-1-k:=by
  unfold sliceRange;rw[if_neg<|by decide]
  rcases Nat.eq_zero_or_pos l.length with h|h
  . rw[h];rfl
  . rw[if_pos ⋯,Int.neg_neg,Int.ediv_one];have:((l.length:Int)-1 - -1 - -1-1).toNat=l.length:=⋯;show List.map _ _=_;rw[this];refine List.map_congr_left λk hk=>?_;have:=List.mem_range.mp hk;omega
 rw[e2]
 congr 1
 rw[List.filterMap_map];have e3:(List.range l.length).filterMap (λk=>l.toArray[l.length-1-k]?)=(List.range l.reverse.length).filterMap (λk=>l.reverse[k]?):=by
  rw[List.length_reverse];refine XU λk hk=>?_;rw[List.getElem?_reverse<|List.mem_range.mp hk];simp
 exact e3.trans<|N_ _
def Jr{K O H vs ds}(r:RpL K kd O H vs ds):RpL K kd O H vs.reverse ds.reverse:=RpL.ind (P:=λvs ds=>RpL K kd O H vs.reverse ds.reverse) .nil (λa _ ih=>by
 rw[List.reverse_cons,List.reverse_cons];exact ih.append<|.cons a .nil) r
def ub{e st te th p2 pos}(he:PE X e te)(hst:PO X (some st) th):PE X (.Subscript e (.Slice none none (some st) p2) pos)
 (jR (λx lo u H Q=>∃a xs,x = .ref a/\Yy X.K H a xs/\u=some (-1)/\∀p,H p=none->Q (.ref p) (upd H p<|.lst xs.reverse)) te Bo th):=by
 intro pins s σ H Q I h;refine Subscript_<|xV (he pins s σ H _ I h) λv s1 ⟨x,H1,I1,r1,q1⟩=>?_;refine wpAny_Slice ?_;refine zxE<|zxE<|xV (hst pins s1 σ H1 _ I1 q1) λvu s3 ⟨u,H3,I3,pu,q3⟩=>?_;have I4:Inv X pins σ H3 {s3 with heap:=s3.heap.push {cls:=.type "slice",data:=.fields #[.none,.none,vu]}}:=I3.kept (t':=s3.toks) λb ob q=>zxF _ q;obtain⟨a,xs,rfl,hx,rfl,q⟩:=q3;cases r1;obtain⟨its,r',pl,hz⟩:=I4.list hx;have hlen:=r'.length;refine tail_any pl.isList.typeIs slot_list_getitem.lookup (wpAny_getItem_list_slice pl.isList (Heap.IsSliceOf.new ..) .none .none pu (by decide) ?_<|by rw[zzH];omega) ⋯;rw[Ol];exact⟨.ref _,_,I4.lnew (t':=s3.toks) r'.reverse (by rwa [List.length_reverse]),rfl,q _ I4.fresh⟩
def CK{a st fa fs pos p2}(ha:AE X kd a fa)(hs:AE X kd st fs):AE X kd (.Subscript a (.Slice none none (some st) p2) pos) (XE fa oN (oS fs) s_):=by with_unfolding_all exact(yf (ub ha<|wH hs) λσ H Q h=>by
 obtain⟨F,B,ad,as,r,as',R,e,q⟩:=h;obtain⟨⟨p,as1⟩,h1,e⟩:=bS_<|e;obtain⟨_,h2,e⟩:=bS_ e;cases h2;obtain⟨⟨u,as3⟩,h3,e⟩:=bS_ e;obtain⟨⟨d,lv⟩,h4,e⟩:=bS_ e;obtain⟨r',h5,e⟩:=bS_ e;obtain⟨z,h6,e⟩:=bS_ e;cases e;obtain⟨xs,h7,h5⟩:=bS_<|h5;obtain⟨c,e5⟩:=zq h5;cases e5;refine vN R h1 λv ad1 H1 R1 rv1 g1=>⟨F,B,ad1,as1,u,_,R1,h3,λad3 H3 R3 g3=>?_⟩;have vx:=xf.vw R3 (rv1.grow g3) h4;have rq:=Ye R3 h6 λw T' H' R' rv' g'=>q w T' ad3 H' R' rv'<|(g1.trans g3).trans g';cases Qx h7;cases vx with
 |lst hr rl=>exact⟨_,_,rfl,hr.sq,c.2,QT rq<|Jr rl⟩)
end
def IX(n:Nat)(K:zzA)(kd:KD)(F B:Addr->Prop)(ad:Ad)(σ:St)(H:Hp)(D:Ends):Out->Prop
 | .nx as'=>∀σ' ad' H',(∀i,i<n->σ'[i]? = σ[i]?)->Rel K kd F B [] ad' as' σ' H'->Grow (Gw [] ad) H (Gw [] ad') H'->D.nx σ' H'
 | .bk as'=>∀σ' ad' H',(∀i,i<n->σ'[i]? = σ[i]?)->Rel K kd F B [] ad' as' σ' H'->Grow (Gw [] ad) H (Gw [] ad') H'->D.bk σ' H'
 | .ct as'=>∀σ' ad' H',(∀i,i<n->σ'[i]? = σ[i]?)->Rel K kd F B [] ad' as' σ' H'->Grow (Gw [] ad) H (Gw [] ad') H'->D.ct σ' H'
 | .rt _=>False
def bp(n:Nat)(K:zzA)(kd:KD)(f:SF):TS:=λD σ H=>∃F B ad as o,Rel K kd F B [] ad as σ H/\f as=some o/\IX n K kd F B ad σ H D o
@[irreducible] def AP(X:Cx)(kd:KD)(n:Nat)(st:Stmt)(f:SF):Prop:=PS X st<|bp n X.K kd f
@[irreducible] def pQ(X:Cx)(kd:KD)(n:Nat)(st:List Stmt)(f:SF):Prop:=Nj X st<|bp n X.K kd f
def IX.pre{n:Nat}{K ad ad1 D}(s:∀i,i<n->σ1[i]? = σ[i]?)(g:Grow (Gw [] ad) H (Gw [] ad1) H1)(h:IX n K kd F B ad σ H D o):IX n K kd F B ad1 σ1 H1 D o:=by
 cases o with
 |nx as=>exact λσ' ad' H' s' R g'=>h σ' ad' H' (λi hi=>(s' i hi).trans<|s i hi) R (g.trans g')
 |bk as=>exact λσ' ad' H' s' R g'=>h σ' ad' H' (λi hi=>(s' i hi).trans<|s i hi) R (g.trans g')
 |ct as=>exact λσ' ad' H' s' R g'=>h σ' ad' H' (λi hi=>(s' i hi).trans<|s i hi) R (g.trans g')
 |rt _=>exact h
section
variable{X:Cx}{kd:KD}{n:Nat}{e c tg iter:Expr}{st:Stmt}{rest sts body:List Stmt}{fa:EF}{ta:TF}{f g:SF}{pos pos':Pos}
def FT:pQ X kd n [] yT:=by with_unfolding_all exact(YI LV λD σ H h=>by
 obtain⟨F,B,a,as,o,R,e,q⟩:=h;cases e;exact q σ a H (λ_ _=>rfl) R Grow.refl)
def Ll(h1:AP X kd n st f):pQ X kd n [st] f:=by with_unfolding_all exact(RF h1)
def Dp(hc:AT X kd c ta)(ha:pQ X kd n sts f)(hb:pQ X kd n rest g):AP X kd n (.If c sts rest pos) (xg ta f g):=by with_unfolding_all exact(wu (Oh hc ha hb) λD σ H h=>by
 obtain⟨F,B,i,as,o,R,e,q⟩:=h;obtain⟨⟨p,a⟩,j,e⟩:=bS_<|e;refine⟨F,B,i,as,p,a,R,j,λb k d g=>?_⟩;cases p with
 |true=>exact⟨F,B,b,a,o,d,e,q.pre (λ_ _=>rfl) g⟩
 |false=>exact⟨F,B,b,a,o,d,e,q.pre (λ_ _=>rfl) g⟩)
def YU(he:AE X kd e fa)(hs:swapsWith e none pos.line X.env=pure false):AP X kd n (.Expr e pos) (yk fa):=by with_unfolding_all exact(wu (Ru he hs) λD σ H h=>by
 obtain⟨F,B,c,as,o,R,e,q⟩:=h;obtain⟨⟨p,a⟩,d,e⟩:=bS_<|e;cases e;exact⟨F,B,c,as,p,a,R,d,λv j b f i k g=>q σ b f (λ_ _=>rfl) i.drop<|g.trans<|Grow.less Gw.drop⟩)
def uG{i:Nat}(hn:n<=i)(hN:X.N.Nodup)(hi:X.N[i]? = some x)(hx:Loc X.env.scope x)(he:AE X kd e fa)(hs:swapsWith e (some<|.Name x pos') pos.line X.env=pure false)(hf:X.fn x=true\/X.env.scope.names.lookup x=some .local):
 AP X kd n (.Assign [.Name x pos'] e pos) (zm z i fa):=by with_unfolding_all exact(wu (S_ hN hi hx he hs hf) λD σ H h=>by
 obtain⟨F,B,c,as,o,R,e,q⟩:=h;obtain⟨⟨p,a⟩,d,e⟩:=bS_<|e;obtain⟨_,j,e⟩:=bS_ e;obtain⟨l,e⟩:=zq e;cases e;refine⟨F,B,c,as,p,a,R,d,λv w m r s t g=>?_⟩;obtain⟨b,R2,u⟩:=Eb s t j l;exact q _ b r (λk A=>zzY ⋯) R2<|g.trans<|Grow.less u)
def tX(hS:∀i,i<n->i ∉ S)(hp:PassesOwn (model X.prog X.w) X.A X.env X.xe)(hc:X.calm=true)(hi:AI X kd tg iter fi)(hg:AG X kd tg S gt)(hb:pQ X kd n body f)(hs:∀x,foldedSetIterable iter X.env x=pure x):
 AP X kd n (.For tg iter body [] pos) (yu fi gt f):=by with_unfolding_all exact(wu (SR hp hc hi hg hb hs) λD σ H h=>by
 obtain⟨F,B,ad,as,o,R,e,q⟩:=h;obtain⟨⟨ds,as1⟩,h1,e⟩:=bS_<|e;refine⟨F,B,ad,as,ds,as1,R,h1,λJ ad1 H1 R1 g1 it=>?_⟩;refine⟨λi m σ2 H2=>m+i=ds.length/\∃ad2 as2,(∀k,k<n->σ2[k]? = σ[k]?)/\Rel X.K kd F B [] ad2 as2 σ2 H2/\Grow _ H1 (Gw [] ad2) H2/\forL gt f (ds.drop i) as2=some o,⟨ds.length,rfl,ad1,as1,λ_ _=>rfl,R1,Grow.refl,e⟩, ?_⟩
 rintro i m σ2 H2 ⟨hm,ad2,as2,s2,R2,g2,e2⟩
 obtain⟨k1,k2,k3⟩:=it.all ad2 H2 g2 R2.trk i
 by_cases hi:i<ds.length
 . refine .inr ⟨k1 hi,λσ3 H3=>∃ad3 as3,_/\Rel X.K kd F B [] ad3 as3 σ3 H3/\Grow _ H1 _ H3/\forL gt f _ as3=some o,λσ3 H3 ⟨ad3,as3,s3,R3,g3,e3⟩=>⟨m-1,⋯,⋯,ad3,as3,s3,R3,g3,e3⟩,λv H3 hy=>?_⟩;obtain⟨kp,rp⟩:=k3 v H3 hy;rw[zyQ hi]at e2;obtain⟨as3,e3,e2⟩:=bS_<|e2;obtain⟨o3,e4,e2⟩:=bS_ e2;obtain⟨R3,g3⟩:=R2.more kp;refine⟨F,B,ad2,as2,_,as3,R3,rp _ ⋯,e3,λσ4 ad4 H4 R4 g4 s4=>?_⟩;refine⟨F,B,ad4,as3,o3,R4,e4, ?_⟩;have gg:=(g2.trans g3).trans g4;have s4':∀k,k<n->σ4[k]? = σ[k]? := λk hk=>(s4 k<|hS k hk).trans<|s2 k hk;cases o3 with
   |nx as5=>exact λσ5 ad5 H5 s5 R5 g5=>⟨ad5,as5,λk hk=>(s5 k hk).trans<|s4' k hk,R5,gg.trans g5,e2⟩
   |ct as5=>exact λσ5 ad5 H5 s5 R5 g5=>⟨ad5,as5,λk hk=>(s5 k hk).trans<|s4' k hk,R5,gg.trans g5,e2⟩
   |bk as5=>
    cases e2;exact λσ5 ad5 H5 s5 R5 g5=>q σ5 ad5 H5 (λk hk=>(s5 k hk).trans<|s4' k hk) R5 (g1.trans<|gg.trans g5)
   |rt r=>cases e2;exact q.elim
 . refine .inl ⟨k2 ⋯, ?_⟩;rw[List.drop_eq_nil_of_le ⋯]at e2;cases e2;exact q σ2 ad2 H2 s2 R2<|g1.trans g2)
end
section
variable{K:zzA}{kd:KD}{F B:Addr->Prop}{ad:Ad}{as:AS}{σ:St}{H H':Hp}
def G1(G:Addr->Prop)(T T':List Addr):Addr->Prop:=λa=>(G a/\a ∉ T)\/a ∈ T'
def Rel.chg1{i:Nat}(R:Rel K kd F B [] ad as σ H)(hi:i<as.length)(s0:σ[i]? = some (some v0))(nd:T0.Nodup)
 (sub:∀a ∈ T0,a ∈ ad i\/H a=none) (kp:∀c u,H c=some u->c ∉ ad i->H' c=some u) (al:∀a ∈ T0,H' a≠none)
 (r0:w_ K kd F B (G1 (Gw [] ad) (ad i) T0) H' v0 o0 T0):
 Rel K kd F B [] (yY ad i T0) (as.set i<|some o0) σ H'/\Grow (Gw [] ad) H (Gw []<|yY ad i T0) H':=by
 have v:yY ad i T0 i=T0:=zR;have q:∀k,k≠i->yY ad i T0 k=ad k:=λk h=>zU h;have r:∀k a,k≠i->a ∈ ad k->a ∉ ad i:=λk a h m z=>h<|R.inj k i a m z;have C:∀a,Gw [] (yY ad i T0) a->G1 (Gw [] ad) _ T0 a:=λa z=>by
  rcases z with z|⟨k,z⟩
  . exact nomatch z
  . by_cases e:k=i
    . subst e;rw[v]at z;exact .inr z
    . rw[q k e]at z;exact .inl ⟨.inr ⟨k,z⟩,r k a e z⟩
 have A:=λk a h m z=>(sub a z).elim (r k a h m) λy=>(R.gtr a<|.inr ⟨k,m⟩).1 y;have g:Grow _ H _ H':=⟨λb o h n=>kp b o h λz=>n<|.inr ⟨i,z⟩,λb z=>(C b z).elim (λy=>.inl y.1) λy=>(sub b y).elim (λx=>.inl<|.inr ⟨i,x⟩) .inr⟩;have D:∀a,H a≠none->a ∉ ad i->H' a≠none:=λa h n=>by
  cases e:H a with
  |none=>exact absurd e h
  |some u=>rw[kp a u e n];simp
 have d:∀a,a ∈ ad i->Gw [] ad a:=λa z=>.inr ⟨i,z⟩;refine⟨⟨by rw[zzU];exact R.len,λk I=>?_,λk=>?_,λk l a j p=>?_,zyJ,(λ_ _ _ z=>nomatch z),λa z=>D a (R.ftr a z) λy=>(R.gtr a<|d a y).2 z,λa z=>?_,λa z=>?_,λk s e=>?_⟩,g⟩
 . rw[zzU]at I;rw[q k ⋯];exact R.out k I
 . by_cases e:k=i
   . subst e;rwa [v]
   . rw[q k e];exact R.nd k
 . by_cases e:k=i
   . subst e;rw[v]at j
     by_cases E:l=k
     . exact E.symm
     . rw[q l E]at p;exact absurd j<|A l a E p
   . rw[q k e]at j
     by_cases t:l=i
     . subst t;rw[v]at p;exact absurd p<|A k a e j
     . rw[q l t]at p;exact R.inj k l a j p
 . obtain⟨j,p,G⟩:=R.btr a z;refine⟨D a j λy=>G<|d a y,p,λy=>(C a y).elim (λx=>G x.1) λx=>(sub a x).elim (λw=>G<|d a w) j⟩
 . rcases C a z with⟨y,n⟩|y
   . exact⟨D a (R.gtr a y).1 n,(R.gtr a y).2⟩
   . exact⟨al a y,(sub a y).elim (λw=>(R.gtr a<|d a w).2) λw f=>R.ftr a f w⟩
 . by_cases t:k=i
   . subst t;rw[zyK hi]at e;cases e;rw[v];exact⟨v0,s0,w_.lv (λJ a z=>z.imp id<|C a) r0⟩
   . rw[zzY λz=>t z.symm]at e;rw[q k t];exact(R.sl k s e).grow g λa m u h=>kp a u h<|r k a t m
end
section
variable{X:Cx}{kd:KD}{n:Nat}
def AH(z)(i:Nat)(hn:n<=i)(hN:X.N.Nodup)(he:AE X kd e fa)(hi:X.N[i]? = some x:=by rfl)(hx:Loc X.env.scope x:=by first|exact Or.inl rfl|exact Or.inr rfl)(hs:swapsWith e (some<|.Name x pos') pos.line X.env=pure false:=by rfl)(hf:X.fn x=true\/X.env.scope.names.lookup x=some .local:=by first|exact Or.inl rfl|exact Or.inr rfl):
 AP X kd n (.Assign [.Name x pos'] e pos) (zm z i fa):=uG hn hN hi hx he hs hf
end
noncomputable def MA(f:EF):EF:=λas=>(f as).bind λp=>some (p.1.frz,p.2)
def V3(h:AE X kd e fa):AE X kd e (MA fa):=by with_unfolding_all exact(yf h λσ H Q q=>by
 obtain⟨F,B,ad,as,r,as',R,e,k⟩:=q;obtain⟨⟨p,as1⟩,h1,e⟩:=bS_<|e;cases e;exact⟨F,B,ad,as,p,as1,R,h1,λv T' ad' H' R' rv g=>k v [] ad' H' R'.drop (xf.drop R' rv)<|g.trans<|Grow.less Gw.drop⟩)
section
variable{X:Cx}{kd:KD}{P:Program}{w:World}{K:zzA}{a b e o:Expr}{es:List Expr}{fa fb fo:EF}{fr:AF}{fd_:DF}{pos p apos:Pos}{k n:Nat}
def sW(h1:sc.kind = .function:=by rfl)(h2:sc.isCoroutine=false:=by rfl)(h3:sc.isGenerator=false:=by rfl)(h4:N.Nodup:=by decide +kernel)(h5:N.take Ps.length=Ps:=by rfl)(h6:∀x ∈ Ps,sc.names.lookup x=some .local\/sc.names.lookup x=some .cell:=by decide +kernel)(h7:∀y ∈ sc.names,y.2 ≠ .free:=by decide +kernel):FnScope N Ps sc:=⟨h1,h2,h3,h4,h5,h6,h7⟩
def bc(ha:AE X kd a fa)(hr:AA X kd es fr)(hs:isStar a=false:=by rfl):AA X kd (a::es) (aC fa fr):=IT ha hr<|G5 hs
def bd(ha:AE X kd a fa)(hr:AD X kd es fd_)(hs:isStar a=false:=by rfl):AD X kd (a::es) (dC fa fd_):=C1 ha hr<|G5 hs
def bn{op}(ha:AE X kd a fa)(hb:AE X kd b fb):AE X kd (.BinOp a op b pos) (f2 fa fb<|Z4 op):=uO (u4 op) ha hb
def tc{op}(hkd:sV P w K kd)(hr:Room k X.A)(ha:AE X kd a fa)(hb:AE X kd b fb)(h1:X.prog=P:=by rfl)(h2:X.w=w:=by rfl)(h3:X.K=K:=by rfl)(hm:behindInMarks op b=false:=by exact Hy _):AT X kd (.Compare a [op] [b] pos) (fT<|f2 fa fb<|zC op):=uI (QM (hkd _ h1 h2 h3) (RP hr) op) (IQ op) ha hb hm
def ec{op}(hkd:sV P w K kd)(hr:Room k X.A)(ha:AE X kd a fa)(hb:AE X kd b fb)(h1:X.prog=P:=by rfl)(h2:X.w=w:=by rfl)(h3:X.K=K:=by rfl)(hm:behindInMarks op b=false:=by exact Hy _):AE X kd (.Compare a [op] [b] pos) (f2 fa fb<|zC op):=tZ (QM (hkd _ h1 h2 h3) (RP hr) op) ha hb hm
def fd(hc:CF X.K kd cs f)(ha:AE X kd a fa)(hb:attributeBase a f X.env (eval a X.env)=eval a X.env:=by rfl):AE X kd (.Attribute a f pos) (f1 fa<|z9 cs f):=uK hc ha hb
def bi{id}(hc:Yh X kd (.builtin id) gg)(hm:X.mg x=none)(hv:bootBuiltins x=some (.builtin id))(ha:AA X kd (e::es) fr)(hg:Gl X x:=by rfl)(hn:x≠"__name__":=by exact Bt.n _ rfl)(hdb:(x==("__debug__":Str))=false:=by decide)
 (he:starEach (e::es) X.env=(false,eval e X.env)::starEach es X.env:=by rfl) (hpl:(backTo pos<|starEach es X.env).any (·.1)=false:=by rfl):AE X kd (.Call (.Name x p) (e::es) [] pos) (fP fr gg):=uJ hc hg hm hv ha hn hdb he hpl
def AB(hc:Yh X kd (.type T) gg)(hm:X.mg x=none)(hv:bootBuiltins x=some (.type T))(ha:AA X kd (e::es) fr)(hg:Gl X x:=by rfl)(hn:x≠"__name__":=by exact Bt.n _ rfl)(hdb:(x==("__debug__":Str))=false:=by decide)
 (he:starEach (e::es) X.env=(false,eval e X.env)::starEach es X.env:=by rfl) (hpl:(backTo pos<|starEach es X.env).any (·.1)=false:=by rfl):AE X kd (.Call (.Name x p) (e::es) [] pos) (fP fr gg):=tD hc hg hm hv ha hn hdb he hpl
def sj(i:Nat){rest}(hN:X.N.Nodup)(he:AE X kd e fa)(h2:FW X kd rest g)(hi:X.N[i]? = some x:=by rfl)(hx:Loc X.env.scope x:=by first|exact Or.inl rfl|exact Or.inr rfl)(hs:swapsWith e (some<|.Name x pos') pos.line X.env=pure false:=by rfl)(hf:X.fn x=true\/X.env.scope.names.lookup x=some .local:=by first|exact Or.inl rfl|exact Or.inr rfl):
 FW X kd (.Assign [.Name x pos'] e pos::rest) (zh (zm z i fa) g):=Yz (Hi hN hi hx he hs hf) h2
def mt(hT:MT X.prog X.w X.K X.mg X.base kd m k tbl)(hr:Room n X.A)(ho:AE X kd o fo)(ha:AA X kd (e::es) fr)
 (ht:eval (.Call (.Attribute o m apos) (e::es) [] pos) X.env=(do
  let ov <-eval o X.env
  standAt apos.atName
  let(f,first) <-holding [ov] (getMethod ov m pl)
  callWith pos f first (backTo pos<|starEach (e::es) X.env) (backToKw pos<|keywordEach [] X.env)))
 (hn:k<=n:=by omega) (hst:starEach (e::es) X.env=(false,eval e X.env)::starEach es X.env:=by rfl) (hpl:(backTo pos<|starEach es X.env).any (·.1)=false:=by rfl):
 AE X kd (.Call (.Attribute o m apos) (e::es) [] pos) (vR tbl m fo fr):=tU hT (hr.mono hn) xa ho ha hst hpl ht
def iz(hT:MT X.prog X.w X.K X.mg X.base kd m k tbl)(hr:Room n X.A)(ho:AE X kd o fo)
 (ht:eval (.Call (.Attribute o m apos) [] [] pos) X.env=(do
  let ov <-eval o X.env
  standAt apos.atName
  let(f,first) <-holding [ov] (getMethod ov m pl)
  callWith pos f first (backTo pos<|starEach [] X.env) (backToKw pos<|keywordEach [] X.env)))
 (hn:k<=n:=by omega):AE X kd (.Call (.Attribute o m apos) [] [] pos) (vR tbl m fo aN):=Im hT (hr.mono hn) xa ho ht
end
section
variable{K:zzA}{kd:KD}{F B:Addr->Prop}{ad:Ad}{as:AS}{σ:St}{H:Hp}{i:Nat}{c f1 f2:Str}{st:Bool}{w:D}{ts:List O}
def Rel.mks(R:Rel K kd F B [] ad as σ H)(k:as[i]? = some (some<|.nd (.ob c [f1,f2]) [.lf st w,.nd .ls ts])):∃a dx l v1 vs fp,σ[i]? = some (some<|.ref a)/\H a=some (.ins (kd.c c) dx [(f1,v1),(f2,.ref l)])/\Rp K kd (Lv F B (Gw [] ad) st) H v1 w/\H l=some (.lst vs)/\vI K kd F B (Gw [] ad) H vs ts fp/\ad i=a::l::fp:=by
 obtain⟨v,e,d⟩:=R.sl i _ k;generalize f:ad i=g at d;cases d with
 |ob h j t m=>
  have ec:=h.cl_eq;subst ec;cases m with
  |cons n o=>
   cases n with
   |lf p=>
    cases o with
    |cons q r=>
     cases r with
     |nil=>
      cases q with
      |ls s b=>exact⟨_,_,_,_,_,_,e,j,p,s,b,⋯⟩
end
def MB(i:Nat)(cs:List Str)(f:Str):EF:=λas=>match as[i]? with
 |some (some (.nd (.ob c [f1,f2]) [.lf st w,.nd .ls ts]))=>if c ∈ cs/\f=f1 then some (.ow<|.lf st w,as)else none
 |_=>none
def nj(i:Nat)(cs:List Str)(f:Str):EF:=λas=>match as[i]? with
 |some (some (.nd (.ob c [f1,f2]) [.lf st w,.nd .ls ts]))=>if c ∈ cs/\f=f2/\f1≠f2 then some (.ow<|.lf true<|.int ts.length,as)else none
 |_=>none
def qH(i j:Nat)(cs:List Str)(f:Str):SF:=λas=>match as[i]?,as[j]? with
 |some (some (.nd (.ob c [f1,f2]) [.lf st w,.nd .ls ts])),some (some (.lf s d))=>if c ∈ cs/\f=f2/\f1≠f2/\ts.length<sizeLine then some (.nx<|as.set i<|some<|.nd (.ob c [f1,f2]) [.lf st w,.nd .ls<|ts++[.lf s d]])else none
 |_,_=>none
def JG{i:Nat}{cs f as x}(e:MB i cs f as=some x):∃c f2 st w ts,as[i]? = some (some<|.nd (.ob c [f,f2]) [.lf st w,.nd .ls ts])/\c ∈ cs/\x=(.ow<|.lf st w,as):=by
 unfold MB at e;cases hi:as[i]? with
 |none=>rw[hi]at e;cases e
 |some s=>
 rw[hi]at e;cases s with
 |none=>cases e
 |some o=>
 cases o with
 |lf=>cases e
 |nd k os=>
 cases k with
 |ls=>cases e
 |tp=>cases e
 |dc _=>cases e
 |ob c ns=>
 cases ns with
 |nil=>cases e
 |cons f1 ns=>
 cases ns with
 |nil=>cases e
 |cons f2 ns=>
 cases ns with
 |cons=>cases e
 |nil=>
 cases os with
 |nil=>cases e
 |cons a os=>
 cases a with
 |nd=>cases e
 |lf st w=>
 cases os with
 |nil=>cases e
 |cons b os=>
 cases b with
 |lf=>cases e
 |nd k2 ts=>
 cases os with
 |cons=>cases k2<;>cases e
 |nil=>
 cases k2 with
 |tp=>cases e
 |dc _=>cases e
 |ob _ _=>cases e
 |ls=>
  obtain⟨⟨a,b⟩,d⟩:=zq e;subst b;cases d;exact⟨_,_,_,_,_,rfl,a,rfl⟩
def IU{i:Nat}{cs f as x}(e:nj i cs f as=some x):∃c f1 st w ts,as[i]? = some (some<|.nd (.ob c [f1,f]) [.lf st w,.nd .ls ts])/\c ∈ cs/\f1≠f/\x=(.ow<|.lf true<|.int ts.length,as):=by
 unfold nj at e;cases hi:as[i]? with
 |none=>rw[hi]at e;cases e
 |some s=>
 rw[hi]at e;cases s with
 |none=>cases e
 |some o=>
 cases o with
 |lf=>cases e
 |nd k os=>
 cases k with
 |ls=>cases e
 |tp=>cases e
 |dc _=>cases e
 |ob c ns=>
 cases ns with
 |nil=>cases e
 |cons f1 ns=>
 cases ns with
 |nil=>cases e
 |cons f2 ns=>
 cases ns with
 |cons=>cases e
 |nil=>
 cases os with
 |nil=>cases e
 |cons a os=>
 cases a with
 |nd=>cases e
 |lf st w=>
 cases os with
 |nil=>cases e
 |cons b os=>
 cases b with
 |lf=>cases e
 |nd k2 ts=>
 cases os with
 |cons=>cases k2<;>cases e
 |nil=>
 cases k2 with
 |tp=>cases e
 |dc _=>cases e
 |ob _ _=>cases e
 |ls=>
  obtain⟨⟨a,b,d⟩,g⟩:=zq e;subst b;cases g;exact⟨_,_,_,_,_,rfl,a,d,rfl⟩
def IZ{i j:Nat}{cs f as x}(e:qH i j cs f as=some x):∃c f1 st w ts s d,as[i]? = some (some<|.nd (.ob c [f1,f]) [.lf st w,.nd .ls ts])/\as[j]? = some (some<|.lf s d)/\c ∈ cs/\f1≠f/\ts.length<sizeLine/\x = .nx (as.set i<|some<|.nd (.ob c [f1,f]) [.lf st w,.nd .ls<|ts++[.lf s d]]):=by
 unfold qH at e;cases hi:as[i]? with
 |none=>rw[hi]at e;cases e
 |some s=>
 rw[hi]at e;cases s with
 |none=>cases e
 |some o=>
 cases o with
 |lf=>cases e
 |nd k os=>
 cases k with
 |ls=>cases e
 |tp=>cases e
 |dc _=>cases e
 |ob c ns=>
 cases ns with
 |nil=>cases e
 |cons f1 ns=>
 cases ns with
 |nil=>cases e
 |cons f2 ns=>
 cases ns with
 |cons=>cases e
 |nil=>
 cases os with
 |nil=>cases e
 |cons a os=>
 cases a with
 |nd=>cases e
 |lf st w=>
 cases os with
 |nil=>cases e
 |cons b os=>
 cases b with
 |lf=>cases e
 |nd k2 ts=>
 cases os with
 |cons=>cases k2<;>cases e
 |nil=>
 cases k2 with
 |tp=>cases e
 |dc _=>cases e
 |ob _ _=>cases e
 |ls=>
  cases hj:as[j]? with
  |none=>rw[hj]at e;cases e
  |some z=>
   rw[hj]at e;cases z with
   |none=>cases e
   |some y=>
    cases y with
    |nd=>cases e
    |lf s d=>
     obtain⟨⟨b,g,h,l⟩,m⟩:=zq e;subst g;cases m;exact⟨_,_,_,_,_,_,_,rfl,rfl,b,h,l,rfl⟩
section
variable{X:Cx}{kd:KD}{i j n:Nat}{cs:List Str}{f x y:Str}{p p' pos apos cpos:Pos}
def G_(hc:CF X.K kd cs f)(ho:PE X (.Name x p) (Vk i))(hb:attributeBase (.Name x p) f X.env (eval (.Name x p) X.env)=eval (.Name x p) X.env):AE X kd (.Attribute (.Name x p) f pos) (MB i cs f):=by
 with_unfolding_all exact(yf (KH ho hb) λσ H Q h=>by
  obtain⟨F,B,g,as,r,j,R,e,q⟩:=h;obtain⟨c,f2,u,w,v,k,b,e⟩:=JG e;cases e;obtain⟨a,m,l,d,y,z,n,o,s,A,C,t⟩:=R.mks k;exact⟨.ref a,n,a,_,m,_,d,rfl,o,(hc _ b).1,(hc _ b).2,⋯,q d [] g H R (.lf s) Grow.refl⟩)
def qe(hc:CF X.K kd cs f)(ho:PE X (.Name x p) (Vk i))(hb:attributeBase (.Name x p) f X.env (eval (.Name x p) X.env)=eval (.Name x p) X.env)(hg:Gl X "len")(hm:X.mg "len"=none)
 (he:starEach [.Attribute (.Name x p) f pos] X.env=(false,eval (.Attribute (.Name x p) f pos) X.env)::starEach [] X.env) (hpl:(backTo cpos<|starEach [] X.env).any (·.1)=false):
 AE X kd (.Call (.Name "len" p') [.Attribute (.Name x p) f pos] [] cpos) (nj i cs f):=by
 with_unfolding_all exact(yf (Tr HK hg hm rfl (YO (KH ho hb) QG he) (by decide) (by decide) he hpl) λσ H Q h=>by
  obtain⟨F,B,ad,as,r,as',R,e,q⟩:=h;obtain⟨c,f1,st,w,ts,k,hm,hne,e⟩:=IU e;cases e;obtain⟨a,dx,l,v1,vs,fp,hs,hH,rp,hL,rl,hfp⟩:=R.mks k;refine⟨.ref a,hs,a,_,dx,_,.ref l,rfl,hH,(hc _ hm).1,(hc _ hm).2, ?_,.ref l,ts.length,rfl,.inl ⟨vs,.inl<|.inl hL,rl.length.symm⟩,q _ [] ad H R (.lf<|.int _) Grow.refl⟩;rw[List.lookup_cons,beq_eq_false_iff_ne.mpr<|Ne.symm hne];simp)
def pd(hc:CF X.K kd cs f)(ho:PE X (.Name x p) (Vk i))(hy:PE X (.Name y p') (Vk j))(hb:attributeBase (.Name x p) f X.env (eval (.Name x p) X.env)=eval (.Name x p) X.env)
 (hbase:attributeBase (.Attribute (.Name x p) f pos) "append" X.env (eval (.Attribute (.Name x p) f pos) X.env)=eval (.Attribute (.Name x p) f pos) X.env)
 (hfew:((backTo cpos<|starEach [.Name y p'] X.env).all (λx=>!x.1)&&(backToKw cpos<|keywordEach [] X.env).all (λx=>x.1.isSome)
  && decide (([.Name y p']:List Expr).length+([]:List Keyword).length+(if([]:List Keyword).isEmpty then 0 else 1)<30))=true)
 (hline:(apos.endLine==cpos.line)=true) (hst:starEach [.Name y p'] X.env=(false,eval (.Name y p') X.env)::starEach [] X.env) (hplain:(backTo cpos<|starEach [] X.env).any (·.1)=false) {spos}
 (hsw:swapsWith (.Call (.Attribute (.Attribute (.Name x p) f pos) "append" apos) [.Name y p'] [] cpos) none spos.line X.env=pure false):
 AP X kd n (.Expr (.Call (.Attribute (.Attribute (.Name x p) f pos) "append" apos) [.Name y p'] [] cpos) spos) (qH i j cs f):=by
 with_unfolding_all exact(wu (Ru (De PySem.F.plainAttrs_list PySem.F.slot_list_append PySem.F.type_list_append YD (KH ho hb) (YO hy QG hst) hbase hfew hline hst hplain) hsw) λD σ H h=>by
  obtain⟨F,B,g,as,o,R,e,q⟩:=h;obtain⟨c,f1,O,w,E,s,d,k,k',P,G,hz,e⟩:=IZ e;subst e;obtain⟨a,Q,l,v1,t,fp,S,T,rp,U,V,r⟩:=R.mks k;obtain⟨v,hj,A⟩:=R.sl j _ k';have hi:=(zzG.mp k).1;generalize hfj:g j=fj at A;cases A with
  |lf I=>
   have nd:=R.nd i;rw[r]at nd;have J:a≠l:=λe=>(zzW.mp nd).1 (by rw[e];exact zzF);have L:=(zzW.mp (zzW.mp nd).2).1;have W:l ∈ g i:=by rw[r];exact zzD _ zzF
   have M:Grow _ H (G1 (Gw [] g) (g i)<|g i) (upd H l<|.lst<|t++[v]):=⟨λb u h n=>by rw[zH λe=>n<|by subst e;exact .inr ⟨i,W⟩];exact h,λb z=>.inl<|z.elim (λy=>y.1) λy=>.inr ⟨i,y⟩⟩;obtain⟨R2,g2⟩:=R.chg1 (H':=upd H l<|.lst _) hi S (R.nd i) (λa m=>.inl m) (λb u h n=>by rwa [zH λe=>n<|by subst e;exact W]) (λb m=>by
    by_cases e:b=l
    . subst e;rw[yd];simp
    . rw[zH e];exact(R.gtr b<|.inr ⟨i,m⟩).1) (by
    have r2:=Mv (Rp.grow M I) E<|vI.grow M (λb m u h=>by rwa [zH λe=>L<|by subst e;exact m]) V;have Y:=RoL.cons (Ro.lf<|Rp.grow M rp)<|RoL.cons (Ro.ls yd r2) .nil;rw[zyE]at Y;have Z:=Ro.ob (Rp.cl c) (show upd H l _ a=some (.ins (kd.c c) Q<|[f1,f].zip [v1,.ref l]) by rwa [zH J]) rfl Y;rw[r]
    rwa [r]at Z)
   refine⟨.ref a,S,a,_,Q,_,.ref l,rfl,T,(hc _ P).1,(hc _ P).2, ?_,.inl ⟨rfl,t,.inl<|.inl U⟩,v,hj,l,t,v,rfl,rfl,U,by rw[V.length];exact hz,q σ _ _ (λ_ _=>rfl) R2 g2⟩;rw[List.lookup_cons,beq_eq_false_iff_ne.mpr<|Ne.symm G];simp)
end
noncomputable def nc(n0:List Str):Nat->D->Bool
 |0,_=>false
 |n+1,.tup ds=>ds.all (nc n0 n)
 |n+1,.ob _ ns ds=>decide (ns≠n0)&&ds.all (nc n0 n)
 |_+1,.lst _=>false
 |_+1,.dct _=>false
 |_+1,_=>true
section
variable{K:zzA}{kd:KD}{O:Addr->Prop}{H:Hp}{a l C dx:Addr}{f1 f2:Str}{v1 v2:V}{vs0:List V}
def qU(ha:H a=some (.ins C dx [(f1,v1),(f2,v2)]))(hl:H l=some (.lst vs0)){v d}(h:Rp K kd O H v d):∀n,nc [f1,f2] n d=true->Rp K kd (λz=>O z\/z=a\/z=l) H v d:=
 Rp.rec (motive_2:=λg f _=>∀n,f.all _=true->RpL K kd _ H g f) (motive_3:=λ_ _ _=>True)
  (λ_ _=>.non) (λb _ _=>.bl b) (λi _ _=>.int i) (λx _ _=>.str x)
  (λ{c g f} n h _ r m e=>by
   cases m with
   |zero=>cases e
   |succ m=>
    refine .tup (λz=>z.elim n λq=>?_) h<|r m e
    rcases q with q|q<;>subst q
    . rcases h with h|⟨o,h⟩<;>(rw[ha]at h;cases h)
    . rcases h with h|⟨o,h⟩<;>(rw[hl]at h;cases h))
  (λk p s t u _ r m e=>by
   cases m with
   |zero=>cases e
   |succ m=>exact .tupK k p s t u (r m e))
  (λ_ _ _ _ m e=>by cases m<;>cases e) (λ_ _ _ _ _ m e=>by cases m<;>cases e)
  (λ_ _ _ _ m e=>by cases m<;>cases e) (λ_ _ _ m e=>by cases m<;>cases e) (λc _ _=>.cl c)
  (λ{c w A j g f} n h y _ r m e=>by
   cases m with
   |zero=>cases e
   |succ m=>
    have e:(decide _&&f.all _)=true:=e;rw[zyC]at e;refine .ob (λz=>z.elim n λq=>?_) h y<|r m e.2
    rcases q with q|q<;>subst q
    . rw[ha]at h;injection h with h
      injection h with _ _ h
      have:=List.map_fst_zip (l₁:=j) (l₂:=g) ⋯;rw[<-h]at this;exact of_decide_eq_true e.1 this.symm
    . rw[hl]at h;cases h)
  (λ_ _=>.nil) (λ_ _ h r n e=>by
   rw[List.all_cons,zyC]at e;exact .cons (h n e.1)<|r n e.2) ⋯ (λ_ _ _ _=>⋯) h
end
theorem RpA.less{K kd F F' H}(g:∀a,F' a->F a):∀{vs:List V}{ds:List (Bool×D)},RpA K kd F H vs ds->RpA K kd F' H vs ds
 |_,_,.nil=>.nil
 |_,_,.cons h r=>.cons (h.less λz q=>⟨q.1,g z q.2⟩)<|RpA.less g r
def gj(n0:List Str):O->Bool
 | .lf _ d=>nc n0 60 d
 |_=>false
def Dx(n0:List Str):O->Bool
 | .lf _ d=>nc n0 60 d
 | .nd .ls os=>os.all (gj n0)
 |_=>false
def Pu:Option (Option O)->Option D
 |some (some (.nd (.ob c [f1,f2]) [.lf st w,.nd .ls ts]))=>if st=true/\ts.all O.isLf=true/\O.strs ts=true then some (.ob c [f1,f2] [w,.lst<|O.toDs ts])else none
 |_=>none
noncomputable def h_:D->List Str
 | .ob _ ns _=>ns
 |_=>[]
def TC{s d}(e:Pu s=some d):∃c f1 f2 w ts,s=some (some<|.nd (.ob c [f1,f2]) [.lf true w,.nd .ls ts])/\ts.all O.isLf=true/\O.strs ts=true/\d = .ob c [f1,f2] [w,.lst<|O.toDs ts]:=by
 unfold Pu at e
 split at e
 . obtain⟨⟨a,b,f⟩,g⟩:=zq e;subst a;cases g;exact⟨_,_,_,_,_,rfl,b,f,rfl⟩
 . cases e
def wB(i:Nat)(tbl:List (Str×Fn))(m:Str)(fr:AF):EF:=λas=>(Pu as[i]?).bind λd0=>(ie m d0).bind λc=>(EO tbl c).bind λg=>(fr as).bind λq=>(Pu q.2[i]?).bind λd=>(Yl q.2 q.1).bind λx=>(g ((true,d)::x)).bind λo=>if Dx (h_ d) o=true then some (.ow o,q.2)else none
section
variable{K:zzA}{kd:KD}{F F' B G:Addr->Prop}{H:Hp}{T:List Addr}{n0:List Str}
def ug(cv:∀v d,nc n0 60 d=true->Rp K kd (XW F' (· ∈ T)) H v d->∀st,Rp K kd (Lv F B G st) H v d){N v o fp}(e:Dx n0 o=true)(h:Ro (λ_ v d=>Rp K kd (XW F' (· ∈ T)) H v d) N H v o fp):w_ K kd F B G H v o fp:=by
 cases h with
 |lf r=>exact .lf (cv _ _ e r _)
 |ls a c=>
  refine .ls a ?_;exact RoL.ind (P:=λf b g=>b.all _=true->vI K kd F B G H f b g) (λ_=>.nil) (λh _ i e=>by
   rw[List.all_cons,zyC]at e;cases h with
   |lf r=>exact .cons (.lf<|cv _ _ e.1 r _) (i e.2)
   |_=>cases e.1) c e
 |_=>cases e
end
section
variable{X:Cx}{kd:KD}{e:Expr}{es:List Expr}{fr:AF}{pos apos p:Pos}{m x:Str}{tbl:List (Str×Fn)}{k i:Nat}
def uD(hT:MT X.prog X.w X.K X.mg X.base kd m k tbl)(hr:Room k X.A){σ H Q t}(ht:∀σ H Q,J2 X.K kd fr σ H Q->t σ H Q)(h:al X.K kd (wB i tbl m fr) σ H Q):Cc X m (Vk i) t σ H Q:=by
 obtain⟨F,B,ad,as,r,as',R,e,q⟩:=h;obtain⟨d0,h0,e⟩:=bS_<|e;obtain⟨c,p,e⟩:=bS_ e;obtain⟨g,h4,e⟩:=bS_ e;obtain⟨⟨rs,G⟩,h5,e⟩:=bS_ e;obtain⟨d,h6,e⟩:=bS_ e;obtain⟨ds,h7,e⟩:=bS_ e;obtain⟨o,h8,e⟩:=bS_ e;obtain⟨I,e⟩:=zq e;cases e;obtain⟨c0,f1,f2,w,ts,k0,_,_,e0⟩:=TC h0;subst e0;obtain⟨a,dx,l,v1,vs0,fp,Z,hH,_,_,_,_⟩:=R.mks k0;have p:(if m ∈ _ then none else some c0)=some c:=p
 by_cases u:m ∈ [f1,f2]
 . rw[if_pos u]at p;cases p
 rw[if_neg u]at p;cases p;obtain⟨k',f,fd,ps,J,cl,me,F1,b⟩:=hT _ _ h4;refine⟨.ref a,Z,a,_,dx,_,k',f,fd,ps,_,rfl,hH,cl,me, ?_,F1,hr.mono J,b,ht _ _ _ ⟨F,B,ad,as,rs,G,R,h5,λvs j H2 R2 L g2=>?_⟩⟩
 . have:List.lookup m ([f1,f2].zip [v1,V.ref l])=none:=(ZU _ _ _).trans<|VQ u;exact this
 obtain⟨c1,g1,M,w1,ts1,k1,N,O,s⟩:=TC h6;subst s;obtain⟨a',dx',D,v1',vs',fp',x,y,P,C,S,hfp'⟩:=R2.mks k1;rw[Z]at x;cases x;refine⟨λz=>Lv F B _ true z/\z≠a/\z≠D,_,o,λz n=>R2.trk true z n.1,.cons ?_ ?_,h8,λv T H' u hT U W ro=>?_⟩
 . refine .ob (λz=>z.2.2.1 rfl) y rfl<|.cons (P.less λz q=>q.2.1)<|.cons (.lst (λz=>z.2.2.2 rfl) (.inl C) ?_) .nil;have:=QA S N;rw[O]at this;exact this.less λz q=>q.2.1
 . exact(RA R2 L h7).less λz q=>q.1
 . obtain⟨R',g'⟩:=R2.news u hT U W;refine q v T j H' R' (ug (F':=λz=>Lv F B _ true z/\z≠a/\z≠D) (λv d Y rp st=>?_) I ro)<|g2.trans g';refine(qU (U _ _ y) (U _ _ C) rp 60 Y).less λz n=>?_
   by_cases s:z=a
   . exact .inr<|.inl s
   by_cases E:z=D
   . exact .inr<|.inr E
   refine .inl ?_
   rcases n with(n|n)|n|n
   . exact .inl ⟨.inl<|.inl ⟨rfl,n.2⟩,s,E⟩
   . exact .inl ⟨.inl<|.inr n,s,E⟩
   . exact .inr n
   . exact .inl ⟨.inr<|.inr n,s,E⟩
def x5{pl}(hT:MT X.prog X.w X.K X.mg X.base kd m k tbl)(hr:Room k X.A)(hx:Zb YG X λ_ _ _=>False)(ho:PE X (.Name x p) (Vk i))(ha:AA X kd (e::es) fr)
 (hst:starEach (e::es) X.env=(false,eval e X.env)::starEach es X.env) (hpl:(backTo pos<|starEach es X.env).any (·.1)=false)
 (ht:eval (.Call (.Attribute (.Name x p) m apos) (e::es) [] pos) X.env=(do
  let ov <-eval (.Name x p) X.env
  standAt apos.atName
  let(f,first) <-holding [ov] (getMethod ov m pl)
  callWith pos f first (backTo pos<|starEach (e::es) X.env) (backToKw pos<|keywordEach [] X.env))):
 AE X kd (.Call (.Attribute (.Name x p) m apos) (e::es) [] pos) (wB i tbl m fr):=by
 with_unfolding_all exact(yf (Ec ho hx ha hst hpl ht) λσ H Q h=>uD hT hr (λσ H Q z=>z) h)
end
noncomputable def AM(i:Nat)(cs:List Str)(f:Str)(fe:EF):B_:=λas=>(fe as).bind λp=>match p.1 with
 | .ow o=>match p.2[i]? with
  |some (some (.nd (.ob c ns) os))=>if c ∈ cs/\f ∉ ns/\ns.length<1000 then some (p.2.set i<|some<|.nd (.ob c<|ns++[f])<|os++[o])else none
  |_=>none
 |_=>none
def BN{i:Nat}{cs:List Str}{f}{r:RV}{as as':AS}(e:(match r with
 | .ow o=>match as[i]? with
  |some (some (.nd (.ob c ns) os))=>if c ∈ cs/\f ∉ ns/\ns.length<1000 then some (as.set i<|some<|.nd (.ob c<|ns++[f])<|os++[o])else none
  |_=>none
 |_=>none)=some as'):∃o c ns os,r = .ow o/\as[i]? = some (some<|.nd (.ob c ns) os)/\c ∈ cs/\f ∉ ns/\ns.length<1000/\as'=as.set i (some<|.nd (.ob c<|ns++[f])<|os++[o]):=by
 split at e
 . split at e
   . obtain⟨⟨a,b,d⟩,g⟩:=zq e;cases g;rename_i k;exact⟨_,_,_,_,rfl,k,a,b,d,rfl⟩
   . cases e
 . cases e
def S8{X:Cx}{kd e o}{fe:EF}{pos pos' cs n}{j:Nat}(hc:CF X.K kd cs n)(ho:PE X o (Vk j))(he:AE X kd e fe)(hs:swapsWith e (some<|.Attribute o n pos') pos.line X.env=pure false):oV X kd (.Assign [.Attribute o n pos'] e pos) (AM j cs n fe):=by
 with_unfolding_all exact(wu (HG ho he hs) λD σ H h=>by
  obtain⟨F,B,ad,as,as',R,e,q⟩:=h;obtain⟨⟨p,as1⟩,h1,e⟩:=bS_<|e;obtain⟨o0,c,ns,os,rfl,k1,hm,hf,hz,rfl⟩:=BN e;refine⟨F,B,ad,as,_,as1,R,h1,λv T1 ad1 H1 R1 rv1 g1=>?_⟩;obtain⟨v0,hs0,ro0⟩:=R1.sl j _ k1;refine⟨v0,hs0, ?_⟩;generalize hfp:ad1 j=fp1 at ro0;cases ro0 with
  |ob hC hH hl rl=>
   rename_i l dx C vs fp;have ec:=hC.cl_eq;subst ec;have hnd:=R1.nd j;rw[hfp]at hnd;have rl':vI X.K kd F B _ H1 _ _ _:=rl.append<|RoL.one rv1;refine⟨l,_,dx,_,rfl,hH,(hc _ hm).1,(hc _ hm).2,by rw[List.length_zip,hl,Nat.min_self,<-hl];exact hz, ?_⟩;rw[Tp hl hf];have dis:=λa m=>R1.dis j a (by rw[hfp];exact zzD _ m);obtain⟨R4,g4⟩:=R1.mut (n:=.nd (.ob c<|ns++[n]) _) (zzG.mp k1).1 hfp hs0 (fp':=fp++T1) (λa m=>by
    rwa [zyE]at m) (by
    rw[zyE];exact zxC.mpr ⟨(zzW.mp hnd).2,R1.tnd,λa m b m' e=>dis a m<|by rw[e];exact m'⟩) (by rw[hH];simp) λH' G' hl' gr kp=>.ob (.cl c) hl' (by rw[zzJ,zzJ,hl];rfl)<|vI.grow gr kp rl'
   exact q _ _ R4<|g1.trans g4)
abbrev VF:=AS->Option (D×AS)
def bv(n:Nat)(K:zzA)(kd:KD)(f:VF):TS:=λD σ H=>∃F B ad as d as',Rel K kd F B [] ad as σ H/\f as=some (d,as')/\zv d=true/\∀σ' ad' H' v,(∀i,i<n->σ'[i]? = σ[i]?)->Rel K kd F B [] ad' as' σ' H'->Grow (Gw [] ad) H (Gw [] ad') H'->Rp K kd (λ_=>False) H' v d->D.rt v H'
@[irreducible] def Do(X:Cx)(kd:KD)(n:Nat)(st:List Stmt)(f:VF):Prop:=Nj X st<|bv n X.K kd f
noncomputable def gk:RV×AS->Option (D×AS)
 |(.ow (.lf _ d),as)=>some (d,as)
 |_=>none
def Vo(fe:EF):VF:=λas=>(fe as).bind gk
noncomputable def Zi(f:SF)(g:VF):VF:=λas=>(f as).bind λo=>match o with
 | .nx as1=>g as1
 |_=>none
section
variable{X:Cx}{kd:KD}{n:Nat}{e:Expr}{st:Stmt}{rest:List Stmt}{fe:EF}{f:SF}{g:VF}{pos:Pos}
def AY:AP X kd n st CV:=by with_unfolding_all exact(λa s σ H D I h=>by obtain⟨F,B,b,as,o,R,e,q⟩:=h;cases e)
def Yb(he:AE X kd e fe):Do X kd n [.Return (some e) pos] (Vo fe):=by with_unfolding_all exact(YI (RF<|OX he) λD σ H h=>by
 obtain⟨F,B,ad,as,d,as',R,e,hf,q⟩:=h;obtain⟨⟨p,as1⟩,h1,e⟩:=bS_<|e
 match p,e,h1 with
 | .ow (.lf st d0),e,h1=>
  cases e;refine⟨F,B,ad,as,_,_,R,h1,λv T' ad' H' R' rv g=>?_⟩;cases rv with
  |lf rp=>exact q σ ad' H' v (λ_ _=>rfl) R' g (rp.flat hf))
def yj(h1:AP X kd n st f)(h2:Do X kd n rest g):Do X kd n (st::rest) (Zi f g):=by with_unfolding_all exact(YI (Qq h1 h2) λD σ H h=>by
 obtain⟨F,B,l,as,d,a,R,e,m,q⟩:=h;obtain⟨o,p,e⟩:=bS_<|e;cases o with
 |nx b=>exact⟨F,B,l,as,_,R,p,λA c C r s t=>⟨F,B,c,b,d,a,s,e,m,λu j w v x R2 y z=>q u j w v (λi k=>(x i k).trans<|r i k) R2 (t.trans y) z⟩⟩
 |_=>cases e)
end
def JH(n m:Nat)(c:VF)(xs:List wA)(o:O):Option (D×O):=if xs.length+1=m then(c<|wz n (o::xs.map Fc)).bind λz=>(z.2[0]?).bind λs=>s.bind λr=>if r.str=true/\zv z.1=true then some (z.1,r)else none else none
def spS(K:zzA)(kd:KD)(g:List wA->O->Option (D×O)):Sp:=λvs H Q _=>∃(F:Addr->Prop) (T:List Addr) (v:V) (ws:List V) (xs:List wA) (o:O) (d:D) (r:O),vs=v::ws/\(∀a,F a->H a≠none)/\T.Nodup/\(∀a ∈ T,H a≠none/\¬F a)/\RpI K kd F (λ_=>False) (· ∈ T) H ws xs/\w_ K kd F (λ_=>False) (· ∈ T) H v o T/\g xs o=some (d,r)/\
 ∀(u:V) (H':Hp) (T':List Addr),(∀c u,H c=some u->c ∉ T->H' c=some u)->T'.Nodup->(∀a ∈ T',a ∈ T\/H a=none)->(∀a ∈ T',H' a≠none)->w_ K kd F (λ_=>False) (· ∈ T') H' v r T'->Rp K kd (λ_=>False) H' u d->Q u H'
section
variable{P:Program}{w:World}{K:zzA}{mg:Str->Option Value}{base:Heap}
def Tv{kd x qual st f fd N ps}{k:Nat}{c}(Fn:Fun K x qual st f fd)(S:FnScope N ps (zL st))(hN:ps.length<=N.length)
 (hb:∀(cdv:Value) (A:Around) (outer:List Env) (s:Shared) (H:Hp) (E:XK),Room k (A.deeper<|envOfC qual (zL st) s.heap.objs.size f cdv)->Do (Rg YG P w K mg base N qual (zL st) f cdv A outer s H E).nox kd 1 (vJ st) c):
 FnOk P w K mg base YG (k+1) f fd ps (spS K kd<|JH N.length ps.length c):=by
 with_unfolding_all (
 refine Fn.ok S (λX H Q E h=>?_) λB A b s H X Q E Y h=>⟨_,hb B A b s H E Y, ?_⟩
 . obtain⟨F,T,v,C,t,o,d,r,rfl,L,M,O,j,U,e,q⟩:=h;obtain⟨V,_⟩:=ite_some'<|e
   rwa [zzT,j.length]
 . obtain⟨F,T,v,C,t,o,d,r,rfl,L,M,O,j,U,e,q⟩:=h;obtain⟨V,Z⟩:=ite_some'<|e;obtain⟨⟨d0,D⟩,e1,z1⟩:=bS_ Z;obtain⟨G,k0,z2⟩:=bS_ z1;obtain⟨r0,e2,z3⟩:=bS_ z2;obtain⟨⟨hr0,I⟩,z4⟩:=zq z3;subst e2;cases z4;have J:vI K kd F (λ_=>False) (· ∈ T) H (v::C) (o::t.map Fc) T:=by
    have:=RoL.cons U<|CT j
    rwa [zyE]at this
   have R0:=PD (N:=N) L M O (FM t) (by rw[zzT,zzB];omega) J;have W:∀a,Gw [] (λi=>if i=0 then T else[]) a->a ∈ T:=λa z=>z.elim ⋯ λ⟨i,y⟩=>by
    by_cases e:i=0
    . subst e;simpa using y
    . simp[e]at y
   refine⟨F,λ_=>False,_,wz N.length _,d0,D,R0,e1,I,λσ' l H' u sp R g rp=>?_⟩;obtain⟨u0,G,t0⟩:=R.sl 0 _ k0;rw[sp 0 ⋯]at G;have sv:(L2.start N (v::C))[0]? = some _:=rfl;cases(sv.symm.trans G);have p:∀a,a ∈ l 0->Gw [] l a:=λa z=>.inr ⟨_,z⟩;exact q u H' _ (λc u h n=>g.keep c u h λz=>n<|W c z) (R.nd _) (λa m=>(g.own a<|p a m).imp (W a) id) (λa m=>(R.gtr a<|p a m).1) (w_.lv (λst a z=>z.imp id<|p a) t0) rp)
end
def Ro.monoS{L L' N N' H}(hL:∀v d,L true v d->L' true v d)(hN:∀a,N a->N' a){v o fp}(s:o.str=true)(h:Ro L N H v o fp):Ro L' N' H v o fp:=
 Ro.rec (motive_2:=λg f b _=>O.strs f=true->RoL L' N' H g f b)
  (λ{i v d} h s=>by have e:=s;subst e;exact .lf<|hL _ _ h) (λh _ r s=>.ls h<|r s) (λh l _ r s=>.dc h l<|r s) (λc h l _ r s=>.ob (hL _ _ c) h l<|r s) (λn h _ r s=>.tp (hN _ n) h<|r s)
  (λ_=>.nil) (λ_ _ h r s=>.cons (h ((zyC _ _).mp s).1)<|r ((zyC _ _).mp s).2) h s
def GG(i:Nat)(as:AS):List RV->Option (List wA)
 | []=>some []
 | .ow o::rs=>(GG i as rs).bind λy=>some ((zv o.toD||o.str,o.toD)::y)
 | .bo j::rs=>(as[j]?).bind λs=>s.bind λo=>if j=i then none else(GG i as rs).bind λy=>some ((false,o.toD)::y)
section
variable{K:zzA}{kd:KD}{F B:Addr->Prop}{ad:Ad}{as:AS}{σ:St}{H:Hp}{i:Nat}
def Iy(R:Rel K kd F B [] ad as σ H){vs rs xs}(h:RVs K kd F B ad σ H vs rs)(e:GG i as rs=some xs):RpI K kd (λz=>Lv F B (Gw [] ad) true z/\z ∉ ad i) (λ_=>False) (· ∈ ad i) H vs xs:=by
 induction h generalizing xs with
 |nil=>cases e;exact .nil
 |cons h t l=>
  rename_i v r E q;cases r with
  |ow o=>
   obtain⟨y,f,e⟩:=bS_<|e;cases e;refine .cons ?_<|l f;cases hf:zv o.toD with
   |true=>exact(Q5 h).flat hf
   |false=>
    refine(QV h).less λa z=>?_
    rcases z with(z|z)|z
    . rw[show o.str=true from z.1];exact z.2.1
    . exact z.elim
    . exact .inr (.inr ⟨i,z⟩)
  |bo j=>
   obtain⟨s,k,u⟩:=bS_<|e;obtain⟨o,x,c⟩:=bS_ u;subst x
   by_cases g:j=i
   . rw[if_pos g]at c;cases c
   rw[if_neg g]at c;obtain⟨y,f,A⟩:=bS_ c;cases A;refine .cons ?_<|l f;obtain⟨w,p,C⟩:=R.sl j _ k;rw[h.2]at p;cases p;have ob:∀z,Lv (λz=>Lv F B (Gw [] ad) true z/\z ∉ ad i) (λ_=>False) _ false z->z ∈ ad i:=λz b=>by
    rcases b with(b|b)|b
    . exact nomatch b.1
    . exact b.elim
    . exact b
   exact Ro.rp false (λD v d _ r=>(r).less λz b=>.inr<|.inr ⟨i,ob z b⟩) (λa n z=>n<|.inr<|.inr ⟨i,ob a z⟩) ⋯ (λa m z=>g<|R.inj j i a m<|ob a z) C
end
noncomputable def jD(m:Str):Option (Option O)->Option Str
 |some (some (.nd (.ob c ns) _))=>if m ∈ ns then none else some c
 |_=>none
def YA(i:Nat)(c0 m:Str)(g:List wA->O->Option (D×O))(fr:AF):EF:=λas=>(jD m as[i]?).bind λc=>if c=c0 then(fr as).bind λq=>(GG i q.2 q.1).bind λxs=>(q.2[i]?).bind λs=>s.bind λo=>(g xs o).bind λz=>if zv z.1=true/\z.2.str=true then some (.ow<|.lf true z.1,q.2.set i<|some z.2)else none else none
def MS(P:Program)(w:World)(K:zzA)(mg:Str->Option Value)(base:Heap)(kd:KD)(m:Str)(k:Nat)(c:Str)(g:List wA->O->Option (D×O)):Prop:=
 ∃k' f fd ps,k'<=k/\Cls K (kd.c c)/\Meth K (kd.c c) m f/\FnOk P w K mg base YG k' f fd ps (spS K kd g)/\Binds K fd ps []
section
variable{X:Cx}{kd:KD}{e:Expr}{es:List Expr}{fr:AF}{pos apos p:Pos}{m x c0:Str}{g:List wA->O->Option (D×O)}{k i:Nat}
def DE(hT:MS X.prog X.w X.K X.mg X.base kd m k c0 g)(hr:Room k X.A){σ H Q t}(ht:∀σ H Q,J2 X.K kd fr σ H Q->t σ H Q)(h:al X.K kd (YA i c0 m g fr) σ H Q):Cc X m (Vk i) t σ H Q:=by
 obtain⟨F,B,ad,as,r,as',R,e,q⟩:=h;obtain⟨c,h0,e⟩:=bS_<|e;obtain⟨ec,z0⟩:=ite_some' e;subst ec;obtain⟨⟨rs,as2⟩,h5,z1⟩:=bS_ z0;obtain⟨xs,h6,z2⟩:=bS_ z1;obtain⟨s,k2,z3⟩:=bS_ z2;obtain⟨o,e1,z4⟩:=bS_ z3;subst e1;obtain⟨⟨d,r⟩,h7,z5⟩:=bS_ z4;obtain⟨⟨hf,hst⟩,z6⟩:=zq z5;cases z6;obtain⟨ns,os,k0,hn⟩:∃ns os,as[i]? = some (some _)/\m ∉ ns:=by
  unfold jD at h0
  split at h0
  . rename_i c' ns' os' k0
    by_cases hm:m ∈ ns'
    . rw[if_pos hm]at h0;cases h0
    . rw[if_neg hm]at h0;cases h0;exact⟨_,_,k0,hm⟩
  . cases h0
 obtain⟨v,hs,ro⟩:=R.sl i _ k0;generalize hfp:ad i=fp0 at ro;cases ro with
 |ob hC hH hl rl=>
  rename_i a dx C vs0 fp;have ec:=hC.cl_eq;subst ec;obtain⟨k',f,fd,ps,hk',cl,me,F1,b⟩:=hT;refine⟨.ref a,hs,a,_,dx,_,k',f,fd,ps,_,rfl,hH,cl,me,(ZU _ _ _).trans<|VQ hn,F1,hr.mono hk',b,ht _ _ _ ⟨F,B,ad,as,rs,as2,R,h5,λvs ad2 H2 R2 rv2 g2=>?_⟩⟩;obtain⟨v',hv',ro'⟩:=R2.sl i _ k2;rw[hs]at hv';cases hv';have hi:=(zzG.mp k2).1;refine⟨λz=>Lv F B _ true z/\z ∉ ad2 i,ad2 i,.ref a,vs,xs,o,d,r,rfl,λz hz=>R2.trk true z hz.1,R2.nd i,λz mz=>⟨(R2.gtr z<|.inr ⟨i,mz⟩).1,λy=>y.2 mz⟩,Iy R2 rv2 h6,w_.lv (λst z hz=>?_) ro',h7,λu H' T' kp nd sub al ro3 rp=>?_⟩
  . rcases hz with(hz|hz)|hz
    . rw[hz.1];exact hz.2.1
    . exact hz.elim
    . exact .inr<|.inr ⟨i,hz⟩
  . have le:∀z,Lv F B (G1 _ _ T') true z->Lv (λz=>Lv F B (Gw [] ad2) true z/\z ∉ ad2 i) (λ_=>False) _ true z:=λz hz=>by
     rcases hz with(hz|hz)|hz|hz
     . exact .inl<|.inl ⟨rfl,.inl<|.inl hz,λy=>(R2.gtr z<|.inr ⟨i,y⟩).2 hz.2⟩
     . exact .inl<|.inl ⟨rfl,.inl<|.inr hz,λy=>(R2.btr z hz).2.2<|.inr ⟨i,y⟩⟩
     . exact .inl<|.inl ⟨rfl,.inr hz.1,hz.2⟩
     . exact .inr hz
    have r0:w_ X.K kd F B _ H' _ r T':=Ro.monoS (λv d h=>Rp.less le h) (λz n y=>n<|le z y) hst ro3;obtain⟨R3,g3⟩:=R2.chg1 hi hs nd sub kp al r0;exact q u [] _ H' R3 (.lf<|rp.flat hf)<|g2.trans g3
def ZA{pl}(hT:MS X.prog X.w X.K X.mg X.base kd m k c0 g)(hr:Room k X.A)(hx:Zb YG X λ_ _ _=>False)(ho:PE X (.Name x p) (Vk i))(ha:AA X kd (e::es) fr)
 (hst:starEach (e::es) X.env=(false,eval e X.env)::starEach es X.env) (hpl:(backTo pos<|starEach es X.env).any (·.1)=false)
 (ht:eval (.Call (.Attribute (.Name x p) m apos) (e::es) [] pos) X.env=(do
  let ov <-eval (.Name x p) X.env
  standAt apos.atName
  let(f,first) <-holding [ov] (getMethod ov m pl)
  callWith pos f first (backTo pos<|starEach (e::es) X.env) (backToKw pos<|keywordEach [] X.env))):
 AE X kd (.Call (.Attribute (.Name x p) m apos) (e::es) [] pos) (YA i c0 m g fr):=by
 with_unfolding_all exact(yf (Ec ho hx ha hst hpl ht) λσ H Q h=>DE hT hr (λσ H Q z=>z) h)
end
def oU{P w K mg base kd m c}{k k':Nat}{C f fd ps g}(ci:CI K kd mg c C)(me:Meth K C m f)(F:FnOk P w K mg base YG k' f fd ps (spS K kd g))(b:Binds K fd ps [])(hk:k'<=k:=by decide):MS P w K mg base kd m k c g:=by
 have e:=ci.eq;subst e;exact⟨_,_,_,_,hk,ci.cl,me,F,b⟩
abbrev A9(h:Heap)(T:Nat)(a b c:Value):Prop:=h.get? T=some {cls:=.type "tuple",data:=.seq #[a,b,c]}
structure Z3(h:Heap)(I l1 l2 l3 k:Nat)(f0:Value):Prop where
 z:IsZip h (I+5) (I+3) (I+4) f0
 ti:A9 h (I+3) (.ref I) (.ref<|I+1) (.ref<|I+2)
 to:∃a b c,A9 h (I+4) a b c
 h1:h.IsListIter I l1 k
 h2:h.IsListIter (I+1) l2 k
 h3:h.IsListIter (I+2) l3 k
section
variable{prog:Program}{w:World}{A:Around}{E:Value->Shared->Prop}{s:Shared}
def LY{T:Nat}{a b c x}{k:Nat}{Q}(hT:A9 s.heap T a b c)
 (h:∀h',h'.get? T=some {cls:=.type "tuple",data:=.seq ((#[a,b,c]:Array Value).setIfInBounds k x)}->Heap.SameBut T s.heap h'->Q () {s with heap:=h'}):wpAny (model prog w) A (updateSeq T (·.setIfInBounds k x)) Q E s:=by
 refine wpAny_updateSeq hT rfl<|h _ ?_<|Heap.SameBut.update ..;rw[Heap.get?_update_self _ hT rfl];simp[Obj.mapSeq]
def JT{I l1 l2 l3 k:Nat}{xs ys zs x y z}{Q:Value->Shared->Prop}(d1:l1<I)(d2:l2<I)(d3:l3<I)(Z:Z3 s.heap I l1 l2 l3 k .none)
 (hl1:s.heap.IsList l1 xs) (hl2:s.heap.IsList l2 ys) (hl3:s.heap.IsList l3 zs) (hx:xs[k]? = some x) (hy:ys[k]? = some y) (hw:zs[k]? = some z)
 (hQ:∀h',Z3 h' I l1 l2 l3 (k+1) (rawInt s.heap.objs.size)->A9 h' s.heap.objs.size x y z->(∀(c:Nat) o,c<I\/I+5<c->s.heap.get? c=some o->h'.get? c=some o)->Q (.ref s.heap.objs.size) {s with heap:=h'}):
 wpAny (model prog w) A (Builtin.«zip.__next__» ⟨[.ref<|I+5],[]⟩) (λfin s'=>∃v,fin = .done (.ret v)/\Q v s') E s:=by
 obtain⟨t,B,⟨a,b,c,K⟩,h1,h2,h3⟩:=Z;have d:∀{p q:Nat},p<q\/q<p->p≠q:=λh=>by omega
 show wpAny _ _ (field (.ref<|I+5) 2 >>= _) _ _ _;refine zxD<|wpAny_field t rfl rfl ?_;refine zxD<|wpAny_field t rfl rfl ?_;refine zxD<|wpAny_seqItems B rfl ?_;refine zxD ?_;unfold Builtin.SmallTypes.ownedTupleIsFree;refine zxD<|wpAny_field t rfl (x:=.none) rfl<|zxE ?_;simp only[if_true];refine zxD<|wpAny_rule ?_;refine zxD<|wpAny_field t rfl rfl ?_;refine zxD (wpAny_setField_rec t (by simp) λg1 g V=>?_)
 replace g:IsZip g1 (I+5) (I+3) (I+4) .ellipsis:=g
 refine zxD ?_;simp only[List.zipIdx_cons,List.zipIdx_nil,List.forIn_cons,List.forIn_nil];refine zxD<|zxD<|wpAny_onRaise ?_;have L:=λp o n=>V.extBut p o n;refine zxD<|wpAny_nextOf_list_item (h1.at λo e=>L _ o (d<|by omega) e) (hl1.at λo e=>L _ o (d<|by omega) e) hx λg2 i2 M=>zxE ?_;have W:=λp o n (m:p≠I) e=>M.extBut p o m<|L p o n e;have X:=W _ _ (d<|by omega) (d<|by omega) K;refine zxD<|wpAny_seqItems X rfl ?_;refine zxD (LY X λY N F=>?_)
 replace N:A9 Y (I+4) x b c:=N
 refine zxD<|wpAny_letGo<|zxE ?_;have O:=λp o n (m:p≠I) r e=>F.extBut p o r<|W p o n m e;have i3:=i2.at λo e=>F.extBut _ o (d<|by omega) e;refine zxD<|zxD<|wpAny_onRaise ?_;refine zxD<|wpAny_nextOf_list_item (h2.at λo e=>O _ o (d<|by omega) (d<|by omega) (d<|by omega) e) (hl2.at λo e=>O _ o (d<|by omega) (d<|by omega) (d<|by omega) e) hy λg4 j4 C=>zxE ?_;have t4:=C.extBut _ _ (d<|by omega) N;refine zxD<|wpAny_seqItems t4 rfl ?_;refine zxD (LY t4 λP R D=>?_)
 replace R:A9 P (I+4) x y c:=R
 refine zxD<|wpAny_letGo<|zxE ?_;have S:=λp o n (m:p≠I) r u e=>D.extBut p o r<|C.extBut p o u<|O p o n m r e;have i5:=i3.at λo e=>D.extBut _ o (d<|by omega)<|C.extBut _ o (d<|by omega) e;have j5:=j4.at λo e=>D.extBut _ o (d<|by omega) e;refine zxD<|zxD<|wpAny_onRaise ?_;refine zxD<|wpAny_nextOf_list_item (h3.at λo e=>S _ o (d<|by omega) (d<|by omega) (d<|by omega) (d<|by omega) e) (hl3.at λo e=>S _ o (d<|by omega) (d<|by omega) (d<|by omega) (d<|by omega) e) hw λg6 l6 i=>zxE ?_;have t6:=i.extBut _ _ (d<|by omega) R;refine zxD<|wpAny_seqItems t6 rfl ?_;refine zxD (LY t6 λf G j=>?_)
 replace G:A9 f (I+4) x y z:=G
 refine zxD<|wpAny_letGo<|zxE<|zxE ?_;have k7:=λp o n (m:p≠I) (r:p≠I+4) (u:p≠I+1) (v:p≠I+2) e=>j.extBut p o r<|i.extBut p o v<|S p o n m r u e;have i7:=i5.at λo e=>j.extBut _ o (d<|by omega)<|i.extBut _ o (d<|by omega) e;have j7:=j5.at λo e=>j.extBut _ o (d<|by omega)<|i.extBut _ o (d<|by omega) e;have l7:=l6.at λo e=>j.extBut _ o (d<|by omega) e;have z7:=j.extBut _ _ (d<|by omega)<|i.extBut _ _ (d<|by omega)<|D.extBut _ _ (d<|by omega)<|C.extBut _ _ (d<|by omega)<|F.extBut _ _ (d<|by omega)<|M.extBut _ _ (d<|by omega) g;have u7:=k7 _ _ (d<|by omega) (d<|by omega) (d<|by omega) (d<|by omega) (d<|by omega) B;have T:f.objs.size=s.heap.objs.size:=by rw[j.1,i.1,D.1,C.1,F.1,M.1,V.1]
 refine zxD<|wpAny_seqItems G rfl ?_;refine zxD<|wpAny_newTuple ?_;have zl:=zxG z7;refine zxD ?_;unfold Builtin.SmallTypes.ownedTupleHandOut;have z8:IsZip (f.push {cls:=.type "tuple",data:=.seq #[x,y,z]}) (I+5) (I+3) (I+4) .ellipsis:=zxF _ z7;refine zxD (wpAny_setField_rec z8 (by simp) λg9 U q9=>?_)
 replace U:IsZip g9 (I+5) (I+3) (I+4) (rawInt f.objs.size):=U
 refine wpAny_setField_rec U (by simp) λH J q0=>?_
 replace J:IsZip H (I+5) (I+3) (I+4) (rawInt f.objs.size):=J
 have l:∀(c:Nat) o,c≠I+5->f.get? c=some o->H.get? c=some o:=λc o c1 e=>q0.extBut _ _ c1<|q9.extBut _ _ c1<|zxF _ e;have hT:=q0.extBut _ _ (d<|.inr zl)<|q9.extBut _ _ (d<|.inr zl)<|zxH _ rfl;refine zxE ⟨_,rfl, ?_⟩;rw[T]at J hT ⊢;exact hQ H ⟨J,l _ _ (d<|by omega) u7,⟨x,y,z,l _ _ (d<|by omega) G⟩,i7.at λo e=>l _ o (d<|by omega) e,j7.at λo e=>l _ o (d<|by omega) e,l7.at λo e=>l _ o (d<|by omega) e⟩ hT λc o hc e=>l c o (d<|by omega)<|k7 c o (d<|by omega) (d<|by omega) (d<|by omega) (d<|by omega) (d<|by omega) e
def sC{I l1 l2 l3 k:Nat}{xs Q}(hh:A.handled=none)(d1:l1<I)(Z:Z3 s.heap I l1 l2 l3 k .none)(hl1:s.heap.IsList l1 xs)(hx:xs[k]? = none)
 (hE:∀h' e,(∀(c:Nat) o,c<I\/I+5<c->s.heap.get? c=some o->h'.get? c=some o)->(∃o,h'.get? e=some o/\o.cls = .type "StopIteration")->E (.ref e) {s with heap:=h'}):
 wpAny (model prog w) A (Builtin.«zip.__next__» ⟨[.ref<|I+5],[]⟩) Q E s:=by
 obtain⟨i,m,⟨a,b,c,y⟩,z,J,K⟩:=Z;have g:∀{p q:Nat},p<q\/q<p->p≠q:=λh=>by omega
 show wpAny _ _ (field _ 2 >>= _) _ _ _;refine zxD<|wpAny_field i rfl rfl ?_;refine zxD<|wpAny_field i rfl rfl ?_;refine zxD<|wpAny_seqItems m rfl ?_;refine zxD ?_;refine zxD<|wpAny_field i rfl rfl<|zxE ?_;refine zxD<|wpAny_rule ?_;refine zxD<|wpAny_field i rfl rfl ?_;refine zxD (wpAny_setField_rec i (by simp) λB d C=>?_)
 replace d:IsZip B (I+5) (I+3) (I+4) .ellipsis:=d
 refine zxD ?_;refine zxD<|zxD<|wpAny_onRaise ?_;have r:=λp o n=>C.extBut p o n;refine zxD<|wpAny_nextOf_list_end hh (z.at λo e=>r _ o (g<|by omega) e) (hl1.at λo e=>r _ o (g<|by omega) e) hx λD e u F=>?_;obtain⟨G,f,j⟩:=F;have l:=u _ _ (g<|by omega) d;have t:e≠I+5:=λx=>by subst x;rw[l]at f;cases f;simp at j
 refine wpAny_setField_rec l (by simp) λH _ v=>hE H e (λc o L x=>v.extBut _ _ (g<|by omega)<|u _ _ (g<|by omega)<|r c o (g<|by omega) x) ⟨G,v.extBut _ _ t f,j⟩
end
section
variable{prog:Program}{w:World}{A:Around}{E:Value->Shared->Prop}{s:Shared}
def OY{I l1 l2 l3 k:Nat}{xs ys zs x y z Q}(d1:l1<I)(d2:l2<I)(d3:l3<I)(Z:Z3 s.heap I l1 l2 l3 k .none)
 (hl1:s.heap.IsList l1 xs) (hl2:s.heap.IsList l2 ys) (hl3:s.heap.IsList l3 zs) (hx:xs[k]? = some x) (hy:ys[k]? = some y) (hw:zs[k]? = some z)
 (hQ:∀h',Z3 h' I l1 l2 l3 (k+1) (rawInt s.heap.objs.size)->A9 h' s.heap.objs.size x y z->(∀(c:Nat) o,c<I\/I+5<c->s.heap.get? c=some o->h'.get? c=some o)->Q (some<|.ref s.heap.objs.size) {s with heap:=h'}):
 wpAny (model prog w) A (pyNext<|.ref<|I+5) Q E s:=by
 have hT:s.TypeIs (.ref _) "zip":=⟨_,Z.z,rfl⟩;exact zxD<|wpAny_attempt<|wpAny_callSpecial?_slot hT PySem.F.slot_zip_next<|zxL PySem.F.slot_zip_next hT PySem.F.entry_zip_next (JT d1 d2 d3 Z hl1 hl2 hl3 hx hy hw λh' a1 a2 a3=>zxE<|hQ h' a1 a2 a3)<|PySem.F.args_zip_next_1 _
def Ow{I l1 l2 l3 k:Nat}{xs Q}(hh:A.handled=none)(d1:l1<I)(Z:Z3 s.heap I l1 l2 l3 k .none)(hl1:s.heap.IsList l1 xs)(hx:xs[k]? = none)
 (hQ:∀h',(∀(c:Nat) o,c<I\/I+5<c->s.heap.get? c=some o->h'.get? c=some o)->Q none {s with heap:=h'}):wpAny (model prog w) A (pyNext<|.ref<|I+5) Q E s:=by
 have hT:s.TypeIs (.ref _) "zip":=⟨_,Z.z,rfl⟩;refine zxD<|wpAny_attempt<|wpAny_callSpecial?_slot hT PySem.F.slot_zip_next<|zxL PySem.F.slot_zip_next hT PySem.F.entry_zip_next (sC hh d1 Z hl1 hx λh' e hk he=>?_)<|PySem.F.args_zip_next_1 _;obtain⟨o,ho,hc⟩:=he;refine zxD<|wpAny_isInstance ⟨o,ho,hc⟩ isSubtype_stop ?_;exact zxE<|hQ _ hk
end
noncomputable abbrev nY(h:Heap)(l1 l2 l3:Nat):Heap:=zipH1 (zipH2 h l1 l2) l3
abbrev mI(h:Heap)(l1 l2 l3:Nat):Heap:=(nY h l1 l2 l3).push {cls:=.type "tuple",data:=.seq #[.ref h.objs.size,.ref (zipH1 h l1).objs.size,.ref (zipH2 h l1 l2).objs.size]}
abbrev n4(h:Heap)(l1 l2 l3:Nat):Heap:=(mI h l1 l2 l3).push {cls:=.type "tuple",data:=.seq #[.none,.none,.none]}
abbrev sL(h:Heap)(l1 l2 l3:Nat):Heap:=(n4 h l1 l2 l3).push {cls:=.type "zip",data:=.fields #[.none,.bool false,.bool false,.ref (nY h l1 l2 l3).objs.size,.ref (mI h l1 l2 l3).objs.size]}
set_option maxHeartbeats 4000000 in
def tL(l1 l2 l3:Nat)(xs ys zs):Meets (Builtin.«zip.__new__» ⟨[.type "zip",.ref l1,.ref l2,.ref l3],[]⟩) (λ_ R s=>s.heap.IsList l1 xs/\s.heap.IsList l2 ys/\s.heap.IsList l3 zs/\
 R (.ok<|.ret<|.ref (n4 s.heap l1 l2 l3).objs.size) {s with heap:=sL s.heap l1 l2 l3}):=
 .of_wp λprog w A R s h=>by
  obtain⟨hp,g,d,tk,os⟩:=s;obtain⟨hl1,hl2,hl3,h⟩:=h;have hsub:=sub_zip;have hL1:=hl1;have hL2:Heap.IsList (Shared.heap ⟨hp.push {cls:=.type "list_iterator",data:=.fields #[.ref l1,.int 0 0]},g,d,tk,os⟩) l2 ys:=Heap.IsList.push hl2 _;have hL3:Heap.IsList (Shared.heap ⟨(hp.push {cls:=.type "list_iterator",data:=.fields #[.ref l1,.int 0 0]}).push {cls:=.type "list_iterator",data:=.fields #[.ref l2,.int 0 0]},g,d,tk,os⟩) l3 zs:=Heap.IsList.push (Heap.IsList.push hl3 _) _
  wp_walk using wpAny_pyIter_list hL1,wpAny_pyIter_list hL2,wpAny_pyIter_list hL3
  exact⟨_,rfl,h⟩
def C6(a b c):checkTypeCall "zip" ⟨[a,b,c],[]⟩=pure ():=⋯
theorem JO(a b c):checkBuiltinCall "zip.__new__" ⟨[.type "zip",a,b,c],[]⟩=pure ():=by kernel_rfl
def I0(a b c d):argsOk "object.__init__" ⟨[a,b,c,d],[]⟩:=⋯
def Se{prog w A E s}{l1 l2 l3:Nat}{xs ys zs Q}(hl1:s.heap.IsList l1 xs)(hl2:s.heap.IsList l2 ys)(hl3:s.heap.IsList l3 zs)
 (h:∀h',Z3 h' s.heap.objs.size l1 l2 l3 0 .none->(∀c o,s.heap.get? c=some o->h'.get? c=some o)->Q (.ref<|s.heap.objs.size+5) {s with heap:=h'}):
 wpAny (model prog w) A (call (.type "zip") [.ref l1,.ref l2,.ref l3]) Q E s:=by
 refine callType_new PySem.F.called_zip (by decide) (C6 _ _ _) (JO _ _ _) (λobj=>I0 obj _ _ _) PySem.F.entry_zip_new (tL l1 l2 l3 xs ys zs) ⟨hl1,hl2,hl3, ?_⟩;have z1:(zipH1 s.heap l1).objs.size=s.heap.objs.size+1:=zxJ ..;have z2:(zipH2 s.heap l1 l2).objs.size=s.heap.objs.size+2:=by rw[zxJ,z1]
 have z3:(nY s.heap l1 l2 l3).objs.size=s.heap.objs.size+3:=by rw[zxJ,z2]
 have z4:(mI s.heap l1 l2 l3).objs.size=s.heap.objs.size+4:=by rw[zxJ,z3]
 have z5:(n4 s.heap l1 l2 l3).objs.size=s.heap.objs.size+5:=by rw[zxJ,z4]
 have g6:(sL s.heap l1 l2 l3).get? (n4 s.heap l1 l2 l3).objs.size=some _:=zxH _ rfl;have g5:(sL s.heap l1 l2 l3).get? (mI s.heap l1 l2 l3).objs.size=some _:=zxF _<|zxH _ rfl;have g4:(sL s.heap l1 l2 l3).get? (nY s.heap l1 l2 l3).objs.size=some _:=zxF _<|zxF _<|zxH _ rfl;have g3:(sL s.heap l1 l2 l3).get? (zipH2 s.heap l1 l2).objs.size=some _:=zxF _<|zxF _<|zxF _<|zxH _ rfl;have g2:(sL s.heap l1 l2 l3).get? (zipH1 s.heap l1).objs.size=some _:=zxF _<|zxF _<|zxF _<|zxF _<|zxH _ rfl;have g1:(sL s.heap l1 l2 l3).get? s.heap.objs.size=some _:=zxF _<|zxF _<|zxF _<|zxF _<|zxF _<|zxH _ rfl;rw[z3,z4,z5]at g6;rw[z4]at g5;rw[z1,z2,z3]at g4;rw[z2]at g3;rw[z1]at g2;rw[z5];exact⟨⟨_,g6,rfl⟩,h _ ⟨g6,g4,⟨_,_,_,g5⟩,⟨_,g1,rfl,rfl⟩,⟨_,g2,rfl,rfl⟩,⟨_,g3,rfl,rfl⟩⟩ λc o x=>zxF _<|zxF _<|zxF _<|zxF _<|zxF _<|zxF _ x⟩
def t8(K:zzA)(a b c:Addr):It:=
 ⟨λi H=>∃xs ys zs x y z,Yy K H a xs/\Yy K H b ys/\Yy K H c zs/\xs[i]? = some x/\ys[i]? = some y/\zs[i]? = some z,
  λi H v H'=>∃T x y z,H T=none/\v = .ref T/\H'=upd H T (.tup [x,y,z])/\(∀xs,Yy K H a xs->xs[i]? = some x)/\(∀ys,Yy K H b ys->ys[i]? = some y)/\∀zs,Yy K H c zs->zs[i]? = some z,
  λi H=>∃xs,Yy K H a xs/\xs.length<=i⟩
def KU{I c:Nat}:c ∈ [I+5,I+3,I+4,I,I+1,I+2] ↔ I<=c/\c<=I+5:=by
 simp;omega
def Sa{P w K elts}{kk:Nat}{pos}(a b c I:Nat)(d1:a<I)(d2:b<I)(d3:c<I):Turn P w K (.Tuple elts kk pos) (t8 K a b c) [I+5,I+3,I+4,I,I+1,I+2] (I+5) (λi h=>Z3 h I a b c i .none)where
 mem:=by simp
 obj:=λi h st d hd=>by
  obtain⟨hz,hTI,⟨p,q,r,hTO⟩,⟨o1,e1,c1,f1⟩,⟨o2,e2,c2,f2⟩,⟨o3,e3,c3,f3⟩⟩:=st;simp at hd
  rcases hd with rfl|rfl|rfl|rfl|rfl|rfl
  . exact⟨_,hz,λv z=>by cases z⟩
  . exact⟨_,hTI,λv z=>by cases z⟩
  . exact⟨_,hTO,λv z=>by cases z⟩
  . exact⟨o1,e1,λv z=>by rw[f1]at z;cases z⟩
  . exact⟨o2,e2,λv z=>by rw[f2]at z;cases z⟩
  . exact⟨o3,e3,λv z=>by rw[f3]at z;cases z⟩
 keep:=λi h h' st k=>by
  obtain⟨hz,hTI,⟨p,q,r,hTO⟩,h1,h2,h3⟩:=st;exact⟨k _ (by simp) _ hz,k _ (by simp) _ hTI,⟨p,q,r,k _ (by simp) _ hTO⟩,h1.at λo e=>k _ (by simp) o e,h2.at λo e=>k _ (by simp) o e,h3.at λo e=>k _ (by simp) o e⟩
 item:=by
  intro X hP hw hK hc i pins s σ H E I' hf st hg;subst hP hw hK;obtain⟨xs,ys,zs,x,y,z,hq,hr,hs,hx,hy,hz⟩:=hg;obtain⟨its,rv,p,_⟩:=I'.list hq;obtain⟨jts,rv',p',_⟩:=I'.list hr;obtain⟨kts,rv'',p'',_⟩:=I'.list hs;obtain⟨u,hu,ru⟩:=rv.get hx;obtain⟨u',hu',ru'⟩:=rv'.get hy;obtain⟨u'',hu'',ru''⟩:=rv''.get hz;refine OY d1 d2 d3 st p.isList p'.isList p''.isList (by simpa using hu) (by simpa using hu') (by simpa using hu'') λh1 hZ hT k1=>?_;refine⟨_,rfl,wpAny_letOwnedTupleGo_zip hZ.z λh2 hz2 q2=>?_⟩;have zl:I+5<s.heap.objs.size:=zxG st.z;have nq:∀{p q:Nat},p<q\/q<p->p≠q:=λh=>by omega
  have hn:=I'.hok.fresh<|zzN _;have k2:∀c o,c ∉ [I+5,I+3,I+4,I,I+1,I+2]->s.heap.get? c=some o->h2.get? c=some o:=λc o hc e=>by
   rw[KU]at hc;exact q2.extBut c o (nq<|by omega)<|k1 c o (by omega) e
  have hT2:IsTup h2 s.heap.objs.size #[u,u',u'']:=⟨_,q2.extBut _ _ (nq<|.inr zl) hT,rfl,_,rfl⟩;obtain⟨_,t2,⟨ta,tb,tc,t3⟩,t4,t5,t6⟩:=hZ;refine⟨.ref s.heap.objs.size,upd H s.heap.objs.size<|.tup [x,y,z],Y1 (s:=s) (t':=s.toks) I' hf k2 (zzN _) ⟨by show 3<=sizeLine;decide,[u,u',u''],.cons ru<|.cons ru'<|.cons ru'' .nil,hT2⟩,rfl,⟨_,x,y,z,hn,rfl,rfl,λq hq'=>by rw[I'.list_inj hq' hq];exact hx,λq hq'=>by rw[I'.list_inj hq' hr];exact hy,λq hq'=>by rw[I'.list_inj hq' hs];exact hz⟩,⟨hz2,q2.extBut _ _ (nq<|by omega) t2,⟨ta,tb,tc,q2.extBut _ _ (nq<|by omega) t3⟩,t4.at λo e=>q2.extBut _ o (nq<|by omega) e,t5.at λo e=>q2.extBut _ o (nq<|by omega) e,t6.at λo e=>q2.extBut _ o (nq<|by omega) e⟩,λd hd=>?_⟩;have hd':=KU.mp hd;rw[zH<|nq<|by omega];exact(hf d hd).1
 done:=by
  intro X hP hw hK hc i pins s σ H E I' hf st hg;subst hP hw hK;obtain⟨xs,hq,hx⟩:=hg;obtain⟨its,rv,p,_⟩:=I'.list hq;have hl:=rv.length;refine Ow (I'.ok.hd hc) d1 st p.isList (by simp;omega) λh' k=>⟨rfl,Ph (t':=s.toks) I' hf λc o hc e=>k c o ?_ e⟩;rw[KU]at hc;omega
 self:=λ_ _ _ _ _ st h=>wpAny_pyIter_zip st.z h
section
variable{X:Cx}
def DO(K:zzA)(ta:TA):TI:=λσ H R=>ta σ H λvs H1=>∃a b c,vs=[.ref a,.ref b,.ref c]/\(∃xs,Yy K H1 a xs)/\(∃ys,Yy K H1 b ys)/\(∃zs,Yy K H1 c zs)/\R (t8 K a b c) H1
def Iv{l l' l'' ta p pos pos' elts}{k:Nat}(hg:Gl X "zip")(hm:X.mg "zip"=none)(ha:PA X [l,l',l''] ta)(hs:starEach [l,l',l''] X.env=(false,eval l X.env)::starEach [l',l''] X.env)(hs2:(backTo pos<|starEach [l',l''] X.env).any (·.1)=false):
 PI X (.Tuple elts k pos') (.Call (.Name "zip" p) [l,l',l''] [] pos) (DO X.K ta):=by
 intro pins s σ H R I h;refine Call_<|XH I hg hm boot_zip<|PyProof.Rows.callWith_type1 (xV (ha pos pins s σ H _ I h) λus s1 ⟨vs,H1,I1,r1,q1⟩=>?_) hs hs2;obtain⟨a,b,c,rfl,⟨xs,hq⟩,⟨ys,hr⟩,⟨zs,ht⟩,q⟩:=q1;cases r1 with
 |cons r rr=>
  cases rr with
  |cons r' rr=>
   cases rr with
   |cons r'' rr=>
    cases rr;cases r;cases r';cases r'';obtain⟨its,rv,pl,hz⟩:=I1.list hq;obtain⟨jts,rw',pl',hz'⟩:=I1.list hr;obtain⟨kts,rx',pl'',hz''⟩:=I1.list ht;obtain⟨o1,ho1,_⟩:=pl.isList;obtain⟨o2,ho2,_⟩:=pl'.isList;obtain⟨o3,ho3,_⟩:=pl''.isList;refine Se pl.isList pl'.isList pl''.isList λh' hZ hk=>?_;refine wpAny_pyIter_zip hZ.z ⟨_,_,_,_,H1,rfl,I1.kept (t':=s1.toks) hk,Sa a b c s1.heap.objs.size (zxG ho1) (zxG ho2)<|zxG ho3,hZ,λd hd=>?_,q⟩;have hb':s1.heap.objs.size<=d:=(KU.mp hd).1;exact I1.fpOk hb'<|I1.hok.fresh hb'
end
noncomputable def Xi(st:Bool):List D->List D->List D->List wA
 |x::r,y::t,z::u=>(st,.tup [x,y,z])::Xi st r t u
 |_,_,_=>[]
theorem QD(st):∀(xs ys zs:List D),xs.length=ys.length->ys.length=zs.length->(Xi st xs ys zs).length=xs.length
 | [],_,_,_,_=>⋯
 |_::_,[],_,h,_=>by simp at h
 |_::_,_::_,[],_,h=>by simp at h
 |_::r,_::t,_::u,h,h'=>by
  simp only[Xi,zzT]at h h' ⊢;rw[QD st r t u ⋯ ⋯]
theorem Kk{st}:∀{xs ys zs:List D}{i:Nat}{y:wA},(Xi st xs ys zs)[i]? = some y->∃d e f,xs[i]? = some d/\ys[i]? = some e/\zs[i]? = some f/\y=(st,.tup [d,e,f])
 | [],_,_,_,_,h=>by simp[Xi]at h
 |_::_,[],_,_,_,h=>by simp[Xi]at h
 |_::_,_::_,[],_,_,h=>by simp[Xi]at h
 |x::r,y::t,z::u,0,w,h=>by
  cases h;exact⟨x,y,z,rfl,rfl,rfl,rfl⟩
 |x::r,y::t,z::u,i+1,w,h=>by
  simp only[Xi]at h;obtain⟨d,e,f,h1,h2,h3,h4⟩:=Kk h;exact⟨d,e,f,⋯,⋯,⋯,h4⟩
noncomputable def nS:List RV->Option (RV×RV×RV)
 | [a,b,c]=>some (a,b,c)
 |_=>none
def Fm(fr:AF):IF:=λas=>(fr as).bind λp=>(nS p.1).bind λo=>(mK o.1).bind λa=>(mK o.2.1).bind λb=>(mK o.2.2).bind λc=>if a.2.length=b.2.length/\b.2.length=c.2.length then some (Xi (a.1&&(b.1&&c.1)) a.2 b.2 c.2,p.2)else none
def Ak{l a b c}(h:nS l=some (a,b,c)):l=[a,b,c]:=by
 match l,h with
 | [a,b,c],h=>cases h;rfl
section
variable{X:Cx}{kd:KD}
def Hk{K F H a b c vs ws us st ds es fs}(ft:∀a,F a->H a≠none)(hs:∀H3:Hp,(∀b u,H b=some u->H3 b=some u)->Yy K H3 a vs)(hs':∀H3:Hp,(∀b u,H b=some u->H3 b=some u)->Yy K H3 b ws)(hs'':∀H3:Hp,(∀b u,H b=some u->H3 b=some u)->Yy K H3 c us)
 (r:RpL K kd (λa=>st=true/\F a) H vs ds) (r':RpL K kd (λa=>st=true/\F a) H ws es) (r'':RpL K kd (λa=>st=true/\F a) H us fs) (q1:ds.length=es.length) (q2:es.length=fs.length):ItC K kd F H (t8 K a b c) (Xi st ds es fs):=⟨λH3 T k hT i=>by
 have hr3:=hs H3 k;have hr4:=hs' H3 k;have hr5:=hs'' H3 k;have hlen:=QD st ds es fs q1 q2;have l1:=r.length;refine⟨λhi=>?_,λhi=>⟨_,hr3,⋯⟩,λv H4 hy=>?_⟩
 . obtain⟨u,hu,_⟩:=r.get<|zzE (show i<ds.length by omega);obtain⟨u',hu',_⟩:=r'.get<|zzE (show i<es.length by omega);obtain⟨u'',hu'',_⟩:=r''.get<|zzE (show i<fs.length by omega);exact⟨_,_,_,u,u',u'',hr3,hr4,hr5,hu,hu',hu''⟩
 . obtain⟨A,x,y,z,hn,rfl,rfl,hv,hv',hv''⟩:=hy;have hnH:H A=none:=by
    cases e:H A with
    |none=>rfl
    |some u=>rw[k A u e]at hn;cases hn
   refine⟨xo hn,λq hq=>?_⟩;obtain⟨d,e,f,hd,he,hf,rfl⟩:=Kk hq;obtain⟨u,hu,ru⟩:=r.get hd;obtain⟨u',hu',ru'⟩:=r'.get he;obtain⟨u'',hu'',ru''⟩:=r''.get hf;have e1:=hv _ hr3;rw[hu]at e1;cases e1;have e2:=hv' _ hr4;rw[hu']at e2;cases e2;have e3:=hv'' _ hr5;rw[hu'']at e3;cases e3;have up:∀{v:V}{d:D},Rp K kd (λa=>st=true/\F a) H v d->Rp K kd (λa=>st=true/\(F a\/T a)) (upd H3 A<|.tup [x,y,z]) v d:=λrp=>
    (rp.since (λb o q=>xo hn b o<|k b o q) λa z=>(hT a z).1).less λa z=>z.2.elim (λy=>.inl ⟨z.1,y⟩) .inr
   exact .tup (λz=>z.2.elim (λy=>ft A y hnH) λy=>(hT A y).2 hn) (.inl yd)<|.cons (up ru)<|.cons (up ru')<|.cons (up ru'') .nil⟩
def JB{l l' l'' fr p pos pos' elts}{k:Nat}(hg:Gl X "zip")(hm:X.mg "zip"=none)(ha:AA X kd [l,l',l''] fr)(hs:starEach [l,l',l''] X.env=(false,eval l X.env)::starEach [l',l''] X.env)(hs2:(backTo pos<|starEach [l',l''] X.env).any (·.1)=false):
 J1 X kd (.Tuple elts k pos') (.Call (.Name "zip" p) [l,l',l''] [] pos) (Fm fr):=by
 with_unfolding_all (
 intro pins s σ H R I h;obtain⟨F,B,ad,as,ds,as',Rl,e',q⟩:=h;obtain⟨⟨rs,as1⟩,h1,z1⟩:=bS_<|e';obtain⟨⟨o1,o2,o3⟩,e1,z2⟩:=bS_ z1;obtain⟨⟨s1,d1⟩,e2,z3⟩:=bS_ z2;obtain⟨⟨s2,d2⟩,e3,z4⟩:=bS_ z3;obtain⟨⟨s3,d3⟩,e4,z5⟩:=bS_ z4;obtain⟨⟨q1,q2⟩,z6⟩:=zq z5;cases Ak e1;cases MF e2;cases MF e3;cases MF e4;cases z6;refine Iv hg hm ha hs hs2 pins s σ H R I ⟨F,B,ad,as,_,as1,Rl,h1,λvs ad1 H1 R1 rv1 g1=>?_⟩;cases rv1 with
 |cons r1 rr=>
  cases rr with
  |cons r2 rr=>
   cases rr with
   |cons r3 rr=>
    cases rr;have ls:∀{st:Bool}{l:List D},Ii (.ow<|.lf st<|.lst l)=some _:=rfl;obtain⟨a,vs,rfl,sa,ka,ra⟩:=YM (ls) r1;obtain⟨b,ws,rfl,sb,kb,rb⟩:=YM (ls) r2;obtain⟨c,us,rfl,sc,kc,rc⟩:=YM (ls) r3;refine⟨a,b,c,rfl,⟨_,sa⟩,⟨_,sb⟩,⟨_,sc⟩,q _ ad1 H1 R1 g1<|Hk (R1.trk true) (λH3 k=>ka H3 λb u n h=>k b u h) (λH3 k=>kb H3 λb u n h=>k b u h) (λH3 k=>kc H3 λb u n h=>k b u h) (ra.less λa z=>?_) (rb.less λa z=>?_) (rc.less λa z=>?_) q1 q2⟩
    . have z1:=(Bool.and_eq_true_iff.mp z.1).1;rw[z1];exact z.2
    . have z1:=(Bool.and_eq_true_iff.mp (Bool.and_eq_true_iff.mp z.1).2).1;rw[z1];exact z.2
    . have z1:=(Bool.and_eq_true_iff.mp (Bool.and_eq_true_iff.mp z.1).2).2;rw[z1];exact z.2)
end
noncomputable def SY:List Str->List Str->List (Option Nat)->List Str
 |t::ts,XN,none::c=>t::SY ts XN c
 | [],XN,none::c=>""::SY [] XN c
 |ts,XN,some j::c=>XN.getD j ""::SY ts XN c
 |_,_,[]=>[]
noncomputable def o_:Expr->Str
 | .Name x _=>x
 |_=>""
def AN:Expr->List Str
 | .Tuple es _ _=>es.map o_
 |e=>[o_ e]
noncomputable def sZ:Nat->List (Option Nat)->List Nat
 |_,[]=>[]
 |k,none::c=>k::sZ (k+1) c
 |k,some _::c=>sZ (k+1) c
theorem EJ:∀(c d:List (Option Nat)) (i:Nat),i ∈ sZ d.length c->(d++c)[i]? = some none
 | [],_,_,h=>nomatch h
 |none::c,d,i,h=>by
  have ih:=EJ c (d++[none]) i;rw[zzJ,zxA]at ih
  rcases zzC.mp (h)with rfl|h
  . simp
  . exact ih h
 |some x::c,d,i,h=>by
  have ih:=EJ c (d++[some x]) i;rw[zzJ,zxA]at ih;exact ih h
def Od{cap}:(sZ 0 cap).all (λi=>cap[i]? == some none)=true:=List.all_eq_true.mpr λi m=>by
 have:=EJ cap [] i m;rw[List.nil_append]at this;rw[this];rfl
def gp{N:List Str}(h:decide N.Nodup=true):N.Nodup:=of_decide_eq_true h
section
variable{X:Cx}{kd:KD}{elt tg iter e:Expr}{es ifs:List Expr}{scope:Scope}{pos p:Pos}{cap:List (Option Nat)}{g:GF}{tt:TF}{fe:EF}{fi:IF}{S:List Nat}{fr:AF}{k n:Nat}
def i_{a}{i:Nat}{gs}(h1:AG X kd a [i] g)(h2:Dg X kd es S gs)(hs:(assignEach (a::es) X.env).map (·.2)=assign a X.env::(assignEach es X.env).map (·.2):=by rfl):Dg X kd (a::es) (i::S) (yI g gs):=Zg h1 h2 hs
def sX(X:Cx)(kd:KD)(tg:Expr)(g:GF):Prop:=∃S,AG X kd tg S g
def OS(X:Cx)(kd:KD)(es:List Expr)(gs:Dk):Prop:=∃S,Dg X kd es S gs
def ko(i:Nat){x}(hN:X.N.Nodup)(hi:X.N[i]? = some x:=by rfl)(hx:Loc X.env.scope x:=by first|exact Or.inl rfl|exact Or.inr rfl)(hf:X.fn x=true\/X.env.scope.names.lookup x=some .local:=by first|exact Or.inl rfl|exact Or.inr rfl):sX X kd (.Name x pos) (gN i):=⟨_,Bn hN hi hx hf⟩
def lZ{gs}{j m:Nat}(h:OS X kd es gs)(hc:X.calm=true:=by rfl)(hn:(assignEach es X.env).length=m:=by rfl)(hst:(assignEach es X.env).findIdx? (·.1)=none:=by rfl):sX X kd (.Tuple es j pos) (gT m gs):=h.elim λ_ h=>⟨_,Pj hc h hn hst⟩
def kI{a gs}(h1:sX X kd a g)(h2:OS X kd es gs)(hs:(assignEach (a::es) X.env).map (·.2)=assign a X.env::(assignEach es X.env).map (·.2):=by rfl):OS X kd (a::es) (yI g gs):=h1.elim λ_ h1=>h2.elim λ_ h2=>⟨_,Zg h1 h2 hs⟩
def lX:OS X kd [] Yq:=⟨_,V6⟩
def iR{body f}(hi:AI X kd tg iter fi)(hg:sX X kd tg g)(hb:FW X kd body f)(hp:PassesOwn (model X.prog X.w) X.A X.env X.xe:=by exact PassesOwn.never)(hc:X.calm=true:=by rfl)(hs:∀x,foldedSetIterable iter X.env x=pure x:=by exact λ_=>rfl):MX X kd (.For tg iter body [] pos) (yu fi g f):=hg.elim λ_ hg=>SU hp hc hi hg hb hs
def mS(he:AE X kd e fe)(hg:sX X kd tg g)(hs:swapsWithSole [tg] e pos.line X.env=pure false:=by rfl)(hw:swappedStores [tg] e X.env=pure none:=by rfl)(h1:(assignEach [tg] X.env).map (·.2)=[assign tg X.env]:=by rfl):MX X kd (.Assign [tg] e pos) (YV fe g):=hg.elim λ_ hg=>tY he hg hs hw h1
theorem cm(hi:J1 X kd tg iter fi)(hg:∀cl s H fp,AG (yK X (SY (AN tg) X.N cap) scope cl s H fp) kd tg (sZ 0 cap) g)(ht:∀cl s H fp,SI (yK X (SY (AN tg) X.N cap) scope cl s H fp) ifs<|Jt X.K kd tt)(he:∀cl s H fp,AE (yK X (SY (AN tg) X.N cap) scope cl s H fp) kd elt fe)
 (hc:X.calm=true:=by rfl) (hk:scope.kind = .function:=by rfl) (hcap:WV (SY (AN tg) X.N cap) X.N scope.names X.env.scope.names cap=true:=by kernel_rfl) (hs:∀x,foldedSetIterable iter X.env x=pure x:=by exact λ_=>rfl):AE X kd (.ListComp elt [⟨tg,iter,ifs,0⟩] scope pos) (zX fi cap g tt fe):=L0 hc hi hk hcap Od hg ht he hs
theorem iG{z}{i:Nat}{y py spos}(hN:X.N.Nodup)(hi:J1 X kd tg iter fi)(hg:∀cl s H fp,AG (yK X (SY (AN tg) X.N cap) scope cl s H fp) kd tg (sZ 0 cap) g)(ht:∀cl s H fp,SI (yK X (SY (AN tg) X.N cap) scope cl s H fp) ifs<|Jt X.K kd tt)(he:∀cl s H fp,AE (yK X (SY (AN tg) X.N cap) scope cl s H fp) kd elt fe)
 (hiy:X.N[i]? = some y:=by rfl) (hy:Loc X.env.scope y:=by first|exact Or.inl rfl|exact Or.inr rfl) (hf:X.fn y=true\/X.env.scope.names.lookup y=some .local:=by first|exact Or.inl rfl|exact Or.inr rfl) (hsw:swapsWith (.ListComp elt [⟨tg,iter,ifs,0⟩] scope pos) (some<|.Name y py) spos.line X.env=pure true:=by rfl)
 (hc:X.calm=true:=by rfl) (hk:scope.kind = .function:=by rfl) (hcap:WV (SY (AN tg) X.N cap) X.N scope.names X.env.scope.names cap=true:=by kernel_rfl) (hs:∀x,foldedSetIterable iter X.env x=pure x:=by exact λ_=>rfl):MX X kd (.Assign [.Name y py] (.ListComp elt [⟨tg,iter,ifs,0⟩] scope pos) spos) (zm z i<|zX fi cap g tt fe):=Am hN hiy hy hf hsw hc hi hk hcap Od hg ht he hs
end
section
variable{K:zzA}{kd:KD}{F B:Addr->Prop}{ad:Ad}{as:AS}{σ:St}{H H':Hp}
def Rel.chg2{i j:Nat}{o0 o1}{v0 v1}{T0 T1}(R:Rel K kd F B [] ad as σ H)(hij:i≠j)(hi:i<as.length)(hj:j<as.length)(s0:σ[i]? = some (some v0))(s1:σ[j]? = some (some v1))(nd:(T0++T1).Nodup)
 (sub:∀a ∈ T0++T1,a ∈ ad i++ad j\/H a=none) (kp:∀c u,H c=some u->c ∉ ad i++ad j->H' c=some u) (al:∀a ∈ T0++T1,H' a≠none)
 (r0:w_ K kd F B (G1 (Gw [] ad) (ad i++ad j)<|T0++T1) H' v0 o0 T0) (r1:w_ K kd F B (G1 (Gw [] ad) (ad i++ad j)<|T0++T1) H' v1 o1 T1):
 Rel K kd F B [] (yY (yY ad i T0) j T1) ((as.set i<|some o0).set j<|some o1) σ H'/\Grow (Gw [] ad) H (Gw []<|yY (yY ad i T0) j T1) H':=by
 have ai:yY (yY ad i T0) j T1 i=T0:=by rw[zU hij,zR]
 have aj:yY (yY ad i T0) j T1 j=T1:=zR;have ak:∀k,k≠i->k≠j->yY (yY ad i T0) j T1 k=ad k:=λk h1 h2=>by rw[zU h2,zU h1]
 have off:∀k a,k≠i->k≠j->a ∈ ad k->a ∉ ad i++ad j:=λk a h1 h2 m z=>(zzM.mp z).elim (λy=>h1<|R.inj k i a m y) λy=>h2<|R.inj k j a m y;have gw:∀a,Gw [] (yY (yY ad i T0) j T1) a->G1 (Gw [] ad) (ad i++ad j) (T0++T1) a:=λa z=>by
  rcases z with z|⟨k,z⟩
  . exact nomatch z
  . by_cases e:k=i
    . subst e;rw[ai]at z;exact .inr<|zzP _ z
    . by_cases e':k=j
      . subst e';rw[aj]at z;exact .inr<|zzL _ z
      . rw[ak k e e']at z;exact .inl ⟨.inr ⟨k,z⟩,off k a e e' z⟩
 have nin:=λk a h1 h2 m z=>(sub a z).elim (off k a h1 h2 m) λy=>(R.gtr a<|.inr ⟨k,m⟩).1 y;have g:Grow (Gw [] ad) H _ H':=⟨λb o h n=>kp b o h λz=>n<|(zzM.mp z).elim (λy=>.inr ⟨i,y⟩) λy=>.inr ⟨j,y⟩,λb z=>(gw b z).elim (λy=>.inl y.1) λy=>(sub b y).elim (λx=>.inl<|(zzM.mp x).elim (λy=>.inr ⟨i,y⟩) λy=>.inr ⟨j,y⟩) .inr⟩;have kn:∀a,H a≠none->a ∉ ad i++ad j->H' a≠none:=λa h n=>by
  cases e:H a with
  |none=>exact absurd e h
  |some u=>rw[kp a u e n];simp
 obtain⟨n0,n1,n2⟩:=zxC.mp nd;have own:∀a,a ∈ ad i++ad j->Gw [] ad a:=λa z=>(zzM.mp z).elim (λy=>.inr ⟨i,y⟩) λy=>.inr ⟨j,y⟩;refine⟨⟨by rw[zzU,zzU];exact R.len,λk hk=>?_,λk=>?_,λk l a h1 h2=>?_,zyJ,(λ_ _ _ z=>nomatch z),λa z=>kn a (R.ftr a z) λy=>(R.gtr a<|own a y).2 z,λa z=>?_,λa z=>?_,λk s e=>?_⟩,g⟩
 . rw[zzU,zzU]at hk;rw[ak k (by omega)<|by omega];exact R.out k hk
 . by_cases e:k=i
   . subst e;rwa [ai]
   . by_cases e':k=j
     . subst e';rwa [aj]
     . rw[ak k e e'];exact R.nd k
 . by_cases e:k=i
   . subst e;rw[ai]at h1
     by_cases e':l=k
     . exact e'.symm
     . by_cases e2:l=j
       . subst e2;rw[aj]at h2;exact absurd rfl<|n2 a h1 a h2
       . rw[ak l e' e2]at h2;exact absurd (zzP _ h1)<|nin l a e' e2 h2
   . by_cases e':k=j
     . subst e';rw[aj]at h1
       by_cases e2:l=k
       . exact e2.symm
       . by_cases e3:l=i
         . subst e3;rw[ai]at h2;exact absurd rfl<|n2 a h2 a h1
         . rw[ak l e3 e2]at h2;exact absurd (zzL _ h1)<|nin l a e3 e2 h2
     . rw[ak k e e']at h1
       by_cases e2:l=i
       . subst e2;rw[ai]at h2;exact absurd (zzP _ h2)<|nin k a e e' h1
       . by_cases e3:l=j
         . subst e3;rw[aj]at h2;exact absurd (zzL _ h2)<|nin k a e e' h1
         . rw[ak l e2 e3]at h2;exact R.inj k l a h1 h2
 . obtain⟨h1,h2,h3⟩:=R.btr a z;refine⟨kn a h1 λy=>h3<|own a y,h2,λy=>(gw a y).elim (λx=>h3 x.1) λx=>(sub a x).elim (λw=>h3<|own a w) h1⟩
 . rcases gw a z with⟨y,n⟩|y
   . exact⟨kn a (R.gtr a y).1 n,(R.gtr a y).2⟩
   . exact⟨al a y,(sub a y).elim (λw=>(R.gtr a<|own a w).2) λw f=>R.ftr a f w⟩
 . by_cases e1:k=j
   . subst e1;rw[zyK<|by rwa [zzU]]at e;cases e;rw[aj];exact⟨v1,s1,w_.lv (λst a z=>z.imp id<|gw a) r1⟩
   . rw[zzY λz=>e1 z.symm]at e
     by_cases e2:k=i
     . subst e2;rw[zyK hi]at e;cases e;rw[ai];exact⟨v0,s0,w_.lv (λst a z=>z.imp id<|gw a) r0⟩
     . rw[zzY λz=>e2 z.symm]at e;rw[ak k e2 e1];exact(R.sl k s e).grow g λa m u h=>kp a u h<|off k a e2 e1 m
end
noncomputable def ins{α:Type}:Nat->α->α->List α->List α
 |0,x,y,r=>x::y::r
 |c+1,x,y,w::r=>w::ins c x y r
 |_+1,_,_,[]=>[]
theorem VJ{α:Type}{x y:α}:∀{c:Nat}{r:List α},c<=r.length->(ins c x y r).length=r.length+2
 |0,r,_=>rfl
 |c+1,w::r,h=>by show(ins c x y r).length+1=r.length+1+2;rw[VJ<|Nat.le_of_succ_le_succ h]
noncomputable def Cp(c:Nat)(T0 T1:List Addr):Ad:=λk=>if k=c then T0 else if k=c+1 then T1 else[]
def Mr{c:Nat}{T0 T1:List Addr}:Cp c T0 T1 c=T0:=if_pos rfl
def Np{c:Nat}{T0 T1:List Addr}:Cp c T0 T1 (c+1)=T1:=by unfold Cp;rw[if_neg ⋯,if_pos rfl]
def Pf{c k:Nat}{T0 T1:List Addr}(h:k≠c)(h':k≠c+1):Cp c T0 T1 k=[]:=by unfold Cp;rw[if_neg h,if_neg h']
def oA{c k:Nat}{T0 T1:List Addr}:Cp (c+1) T0 T1 (k+1)=Cp c T0 T1 k:=by
 unfold Cp
 by_cases e:k=c
 . rw[if_pos e,if_pos ⋯]
 . by_cases e':k=c+1
   . rw[if_neg e,if_pos e',if_neg ⋯,if_pos ⋯]
   . rw[if_neg e,if_neg e',if_neg ⋯,if_neg ⋯]
def KQ{c:Nat}{T0 T1:List Addr}{a}:Gw [] (Cp c T0 T1) a ↔ a ∈ T0++T1:=by
 constructor
 . rintro(z|⟨k,z⟩)
   . exact nomatch z
   . by_cases e:k=c
     . subst e;rw[Mr]at z;exact zzP _ z
     . by_cases e':k=c+1
       . subst e';rw[Np]at z;exact zzL _ z
       . rw[Pf e e']at z;exact nomatch z
 . intro z
   rcases zzM.mp z with z|z
   . exact .inr ⟨c,by rwa [Mr]⟩
   . exact .inr ⟨c+1,by rwa [Np]⟩
section
variable{K:zzA}{kd:KD}{F B G:Addr->Prop}{H:Hp}{v0 v1:V}{o0 o1:O}{T0 T1:List Addr}
def C9{ws:List V}{xs:List wA}(h:RpI K kd F B G H ws xs):∀{k:Nat}{o:O},(xs.map Fc)[k]? = some o->∃v,ws[k]? = some v/\w_ K kd F B G H v o []:=by
 induction h with
 |nil=>intro k o e;simp at e
 |cons a _ ih=>
  intro k o e;cases k with
  |zero=>cases e;exact⟨_,rfl,.lf a⟩
  |succ k=>exact ih e
theorem SV(r0:w_ K kd F B G H v0 o0 T0)(r1:w_ K kd F B G H v1 o1 T1):∀{c:Nat}{ws:List V}{xs:List wA}{k:Nat}{o:O},RpI K kd F B G H ws xs->c<=xs.length->(ins c o0 o1<|xs.map Fc)[k]? = some o->∃v,(ins c v0 v1 ws)[k]? = some v/\w_ K kd F B G H v o (Cp c T0 T1 k)
 |0,ws,xs,k,o,h,hc,e=>by
  match k,e with
  |0,e=>cases e;exact⟨v0,rfl,r0⟩
  |1,e=>cases e;exact⟨v1,rfl,r1⟩
  |k+2,e=>
   obtain⟨v,h1,h2⟩:=C9 h e;exact⟨v,h1,h2⟩
 |c+1,ws,xs,k,o,h,hc,e=>by
  cases h with
  |nil=>exact absurd hc ⋯
  |cons a t=>
   cases k with
   |zero=>cases e;exact⟨_,rfl,.lf a⟩
   |succ k=>
    obtain⟨v,h1,h2⟩:=SV r0 r1 t (Nat.le_of_succ_le_succ hc) e;exact⟨v,h1,by rwa [oA]⟩
def RpI.len{ws:List V}{xs:List wA}(h:RpI K kd F B G H ws xs):ws.length=xs.length:=by
 induction h with
 |nil=>rfl
 |cons _ _ ih=>exact congrArg _ ih
def Fd{N:List Str}{c:Nat}{ws:List V}{xs:List wA}(ht:∀a,F a->H a≠none)(nd:(T0++T1).Nodup)(hT:∀a ∈ T0++T1,H a≠none/\¬F a)(hN:xs.length+2<=N.length)(hc:c<=xs.length)(rp:RpI K kd F (λ_=>False) (· ∈ T0++T1) H ws xs)
 (r0:w_ K kd F (λ_=>False) (· ∈ T0++T1) H v0 o0 T0) (r1:w_ K kd F (λ_=>False) (· ∈ T0++T1) H v1 o1 T1):
 Rel K kd F (λ_=>False) [] (Cp c T0 T1) (wz N.length<|ins c o0 o1<|xs.map Fc) (L2.start N<|ins c v0 v1 ws) H:=by
 have wl:=rp.len;have l1:(ins c o0 o1<|xs.map Fc).length=xs.length+2:=by rw[VJ (by rwa [zzB]),zzB]
 have l2:(ins c v0 v1 ws).length=xs.length+2:=by rw[VJ<|by omega];omega
 obtain⟨n0,n1,n2⟩:=zxC.mp nd;refine⟨by unfold wz L2.start;simp[l1,l2],λi hi=>?_,λi=>?_,λi j a x y=>?_,zyJ,⋯,ht,(λ_ z=>z.elim),λa z=>hT a<|KQ.mp z,λi s e=>?_⟩
 . have:N.length<=i:=by unfold wz at hi;simp[l1]at hi;omega
   exact Pf (by omega) (by omega)
 . by_cases e:i=c
   . subst e;rwa [Mr]
   . by_cases e':i=c+1
     . subst e';rwa [Np]
     . rw[Pf e e'];exact zyJ
 . by_cases e:i=c
   . subst e;rw[Mr]at x
     by_cases f:j=i
     . exact f.symm
     . by_cases f':j=i+1
       . subst f';rw[Np]at y;exact absurd rfl<|n2 a x a y
       . rw[Pf f f']at y;exact nomatch y
   . by_cases e':i=c+1
     . subst e';rw[Np]at x
       by_cases f:j=c
       . subst f;rw[Mr]at y;exact absurd rfl<|n2 a y a x
       . by_cases f':j=c+1
         . exact f'.symm
         . rw[Pf f f']at y;exact nomatch y
     . rw[Pf e e']at x;exact nomatch x
 . unfold wz at e;unfold L2.start
   by_cases k:i<(ins c o0 o1<|xs.map Fc).length
   . rw[zyP (by rwa [zzB]),zzI]at e;obtain⟨o,k1,k2⟩:=zzX.mp e;subst k2;obtain⟨v,h1,h2⟩:=SV r0 r1 rp hc k1;rw[zyP (by rw[zzB];omega),zzI,h1];exact⟨v,rfl,w_.lv (λst a z=>z.imp id KQ.mp) h2⟩
   . rw[zyR<|by rw[zzB];omega]at e;have ea:=(List.mem_replicate.mp<|zyA e).2;subst ea;exact Pf (by omega) (by omega)
end
def kX(c n m:Nat)(f:VF)(xs:List wA)(o0 o1:O):Option (D×O×O):=if xs.length+2=m/\c<=xs.length then(f<|wz n<|ins c o0 o1<|xs.map Fc).bind λz=>(z.2[c]?).bind λa=>a.bind λr0=>(z.2[c+1]?).bind λb=>b.bind λr1=>if r0.str=true/\r1.str=true/\zv z.1=true then some (z.1,r0,r1)else none else none
def spT(c:Nat)(K:zzA)(kd:KD)(g:List wA->O->O->Option (D×O×O)):Sp:=λvs H Q _=>∃(F:Addr->Prop) (T0 T1:List Addr) (v0 v1:V) (ws:List V) (xs:List wA) (o0 o1:O) (d:D) (r0 r1:O),vs=ins c v0 v1 ws/\(∀a,F a->H a≠none)/\(T0++T1).Nodup/\(∀a ∈ T0++T1,H a≠none/\¬F a)/\RpI K kd F (λ_=>False) (· ∈ T0++T1) H ws xs/\w_ K kd F (λ_=>False) (· ∈ T0++T1) H v0 o0 T0/\w_ K kd F (λ_=>False) (· ∈ T0++T1) H v1 o1 T1/\g xs o0 o1=some (d,r0,r1)/\
 ∀(u:V) (H':Hp) (T0' T1':List Addr),(∀c u,H c=some u->c ∉ T0++T1->H' c=some u)->(T0'++T1').Nodup->(∀a ∈ T0'++T1',a ∈ T0++T1\/H a=none)->(∀a ∈ T0'++T1',H' a≠none)->w_ K kd F (λ_=>False) (· ∈ T0'++T1') H' v0 r0 T0'->w_ K kd F (λ_=>False) (· ∈ T0'++T1') H' v1 r1 T1'->Rp K kd (λ_=>False) H' u d->Q u H'
theorem H9{α:Type}{x y:α}:∀{c:Nat}{r:List α},c<=r.length->(ins c x y r)[c]? = some x/\(ins c x y r)[c+1]? = some y
 |0,r,_=>⟨rfl,rfl⟩
 |c+1,w::r,h=>H9 (r:=r)<|Nat.le_of_succ_le_succ h
section
variable{P:Program}{w:World}{K:zzA}{mg:Str->Option Value}{base:Heap}
def uX{kd x qual st f fd N ps}{k:Nat}(c:Nat){b}(Fn:Fun K x qual st f fd)(S:FnScope N ps (zL st))(hN:ps.length<=N.length)
 (hb:∀(cdv:Value) (A:Around) (outer:List Env) (s:Shared) (H:Hp) (E:XK),Room k (A.deeper<|envOfC qual (zL st) s.heap.objs.size f cdv)->Do (Rg YG P w K mg base N qual (zL st) f cdv A outer s H E).nox kd (c+2) (vJ st) b):
 FnOk P w K mg base YG (k+1) f fd ps (spT c K kd<|kX c N.length ps.length b):=by
 with_unfolding_all (
 refine Fn.ok S (λX H Q E h=>?_) λB A b s H X Q E Y h=>⟨_,hb B A b s H E Y, ?_⟩
 . obtain⟨F,T0,T1,v0,v1,ws,xs,o0,o1,d,r0,r1,rfl,ht,nd,hT,rp,q0,q1,e,q⟩:=h;obtain⟨⟨V,W⟩,_⟩:=ite_some'<|e
   rwa [VJ (by rwa [rp.len]),rp.len]
 . obtain⟨F,T0,T1,v0,v1,ws,xs,o0,o1,d,r0,r1,rfl,ht,nd,hT,rp,q0,q1,e,q⟩:=h;obtain⟨⟨V,W⟩,Z⟩:=ite_some'<|e;obtain⟨⟨d0,D⟩,e1,z1⟩:=bS_ Z;obtain⟨a,k0,z2⟩:=bS_ z1;obtain⟨s0,e2,z3⟩:=bS_ z2;obtain⟨b',k1,z4⟩:=bS_ z3;obtain⟨s1,e3,z5⟩:=bS_ z4;obtain⟨⟨h0,h1,I⟩,z6⟩:=zq z5;subst e2 e3;cases z6;have R0:=Fd (N:=N) (c:=c) ht nd hT (by omega) W rp q0 q1;refine⟨F,λ_=>False,_,wz N.length _,d0,D,R0,e1,I,λσ' l H' u sp R g rp'=>?_⟩;obtain⟨u0,G0,t0⟩:=R.sl c _ k0;obtain⟨u1,G1,t1⟩:=R.sl (c+1) _ k1;rw[sp c<|by omega]at G0;rw[sp (c+1)<|by omega]at G1;have iv:=H9 (x:=v0) (y:=v1) (c:=c) (r:=ws) (by rwa [rp.len]);have il:(ins c v0 v1 ws).length=ws.length+2:=VJ (by rw[rp.len];exact W);have wl:=rp.len;have sv0:(L2.start N<|ins c v0 v1 ws)[c]? = some (some v0):=by
    unfold L2.start;rw[zyP (by rw[zzB];omega),zzI,iv.1];rfl
   have sv1:(L2.start N<|ins c v0 v1 ws)[c+1]? = some (some v1):=by
    unfold L2.start;rw[zyP (by rw[zzB];omega),zzI,iv.2];rfl
   cases(sv0.symm.trans G0);cases(sv1.symm.trans G1);have own:∀a,a ∈ l c++l (c+1)->Gw [] l a:=λa z=>(zzM.mp z).elim (λy=>.inr ⟨_,y⟩) λy=>.inr ⟨_,y⟩;exact q u H' (l c) (l<|c+1) (λc u h n=>g.keep c u h λz=>n<|KQ.mp z) (zxC.mpr ⟨R.nd _,R.nd _,λa m b m' z=>absurd (R.inj c (c+1) a m<|z ▸ m')<|by omega⟩) (λa m=>(g.own a<|own a m).imp KQ.mp id) (λa m=>(R.gtr a<|own a m).1) (w_.lv (λst a z=>z.imp id<|own a) t0) (w_.lv (λst a z=>z.imp id<|own a) t1) rp')
end
noncomputable def D1:Nat->Nat->Nat->List RV->Option (List RV)
 |0,i,j,.bo a :: .bo b::r=>if a=i/\b=j then some r else none
 |c+1,i,j,r::rs=>(D1 c i j rs).bind λt=>some (r::t)
 |_,_,_,_=>none
def FJ(i j:Nat)(as:AS):List RV->Option (List wA)
 | []=>some []
 | .ow o::rs=>(FJ i j as rs).bind λy=>some ((zv o.toD||o.str,o.toD)::y)
 | .bo k::rs=>(as[k]?).bind λs=>s.bind λo=>if k=i\/k=j then none else(FJ i j as rs).bind λy=>some ((false,o.toD)::y)
section
variable{K:zzA}{kd:KD}{F B:Addr->Prop}{ad:Ad}{as:AS}{σ:St}{H:Hp}{i j:Nat}
theorem Fz:∀{c:Nat}{vs:List V}{rs rs':List RV},RVs K kd F B ad σ H vs rs->D1 c i j rs=some rs'->∃v0 v1 ws,vs=ins c v0 v1 ws/\c<=rs'.length/\σ[i]? = some (some v0)/\σ[j]? = some (some v1)/\RVs K kd F B ad σ H ws rs'
 |0,vs,rs,rs',h,e=>by
  match rs,h,e with
  | .bo a :: .bo b::r,.cons h0 (.cons h1 t),e=>
   obtain⟨⟨rfl,rfl⟩,e'⟩:=zq<|e;cases e';exact⟨_,_,_,rfl,Nat.zero_le _,h0.2,h1.2,t⟩
 |c+1,vs,rs,rs',h,e=>by
  match rs,h,e with
  |r::rs,.cons h0 t,e=>
   obtain⟨t',e1,e⟩:=bS_<|e;cases e;obtain⟨v0,v1,ws,rfl,hl,s0,s1,t2⟩:=Fz t e1;exact⟨v0,v1,_::ws,rfl,Nat.succ_le_succ hl,s0,s1,.cons h0 t2⟩
def Jv(R:Rel K kd F B [] ad as σ H){vs rs xs}(h:RVs K kd F B ad σ H vs rs)(e:FJ i j as rs=some xs):RpI K kd (λz=>Lv F B (Gw [] ad) true z/\z ∉ ad i++ad j) (λ_=>False) (· ∈ ad i++ad j) H vs xs:=by
 have own:∀a,a ∈ ad i++ad j->Gw [] ad a:=λa z=>(zzM.mp z).elim (λy=>.inr ⟨_,y⟩) λy=>.inr ⟨_,y⟩
 induction h generalizing xs with
 |nil=>cases e;exact .nil
 |cons h t l=>
  rename_i v r E q;cases r with
  |ow o=>
   obtain⟨y,f,e⟩:=bS_<|e;cases e;refine .cons ?_<|l f;cases hf:zv o.toD with
   |true=>exact(Q5 h).flat hf
   |false=>
    refine(QV h).less λa z=>?_
    rcases z with(z|z)|z
    . rw[show o.str=true from z.1];exact z.2.1
    . exact z.elim
    . exact .inr (own a z)
  |bo k=>
   obtain⟨s,k1,u⟩:=bS_<|e;obtain⟨o,x,c⟩:=bS_ u;subst x
   by_cases g:k=i\/k=j
   . rw[if_pos g]at c;cases c
   rw[if_neg g]at c;obtain⟨y,f,A⟩:=bS_ c;cases A;refine .cons ?_<|l f;obtain⟨w,p,C⟩:=R.sl k _ k1;rw[h.2]at p;cases p;have ob:∀z,Lv (λz=>Lv F B (Gw [] ad) true z/\z ∉ ad i++ad j) (λ_=>False) _ false z->z ∈ ad i++ad j:=λz b=>by
    rcases b with(b|b)|b
    . exact nomatch b.1
    . exact b.elim
    . exact b
   exact Ro.rp false (λD v d _ r=>(r).less λz b=>.inr<|own z<|ob z b) (λa n z=>n<|.inr<|own a<|ob a z) ⋯ (λa m z=>(zzM.mp<|ob a z).elim (λy=>g<|.inl<|R.inj k i a m y) λy=>g<|.inr<|R.inj k j a m y) C
end
def Pn(c i j:Nat)(fr:AF)(g:List wA->O->O->Option (D×O×O)):EF:=λas=>(fr as).bind λq=>(D1 c i j q.1).bind λrs=>(FJ i j q.2 rs).bind λxs=>(q.2[i]?).bind λa=>a.bind λo0=>(q.2[j]?).bind λb=>b.bind λo1=>(g xs o0 o1).bind λz=>if zv z.1=true/\z.2.1.str=true/\z.2.2.str=true/\i≠j then some (.ow<|.lf true z.1,(q.2.set i<|some z.2.1).set j<|some z.2.2)else none
section
variable{X:Cx}{kd:KD}{e:Expr}{es:List Expr}{fr:AF}{pos p:Pos}{n k c i j:Nat}
def JX{g σ H Q E}(h:al X.K kd (Pn c i j fr g) σ H Q):HZ (spT c X.K kd g) [] E (J2 X.K kd fr) σ H Q:=by
 obtain⟨F,B,ad,as,r,as',R,e,q⟩:=h;obtain⟨⟨rs0,as1⟩,h1,e1⟩:=bS_<|e;obtain⟨rs,h2,e2⟩:=bS_ e1;obtain⟨xs,h3,e3⟩:=bS_ e2;obtain⟨a,k0,e4⟩:=bS_ e3;obtain⟨o0,x0,e5⟩:=bS_ e4;obtain⟨b,k1,e6⟩:=bS_ e5;obtain⟨o1,x1,e7⟩:=bS_ e6;obtain⟨⟨d,s0,s1⟩,h4,e8⟩:=bS_ e7;obtain⟨⟨hf,hs0,hs1,hij⟩,e9⟩:=zq e8;subst x0 x1;cases e9;refine⟨F,B,ad,as,rs0,as1,R,h1,λvs ad1 H1 R1 rv1 g1=>?_⟩;show spT c X.K kd g _ H1 Q E;rw[zyE];obtain⟨v0,v1,ws,rfl,hc,t0,t1,rv⟩:=Fz rv1 h2;obtain⟨w0,u0,ro0⟩:=R1.sl i _ k0;obtain⟨w1,u1,ro1⟩:=R1.sl j _ k1;rw[t0]at u0;rw[t1]at u1;cases u0;cases u1;have own:∀a,a ∈ ad1 i++ad1 j->Gw [] ad1 a:=λa z=>(zzM.mp z).elim (λy=>.inr ⟨_,y⟩) λy=>.inr ⟨_,y⟩;have lv2:∀st z,Lv (λz=>Lv F B _ true z/\z ∉ ad1 i++ad1 j) (λ_=>False) _ st z->Lv F B _ st z:=λst z hz=>by
  rcases hz with(hz|hz)|hz
  . rw[hz.1];exact hz.2.1
  . exact hz.elim
  . exact .inr<|own z hz
 refine⟨λz=>Lv F B _ true z/\z ∉ ad1 i++ad1 j,ad1 i,ad1 j,v0,v1,ws,xs,o0,o1,d,s0,s1,rfl,λz hz=>R1.trk true z hz.1,zxC.mpr ⟨R1.nd i,R1.nd j,λa m b m' z=>hij<|R1.inj i j a m<|z ▸ m'⟩,λz mz=>⟨(R1.gtr z<|own z mz).1,λy=>y.2 mz⟩,Jv R1 rv h3,w_.lv lv2 ro0,w_.lv lv2 ro1,h4,λu H' T0 T1 kp nd sub al r0 r1 rp=>?_⟩;have le:∀z,Lv F B (G1 _ _<|T0++T1) true z->Lv (λz=>Lv F B (Gw [] ad1) true z/\z ∉ ad1 i++ad1 j) (λ_=>False) _ true z:=λz hz=>by
  rcases hz with(hz|hz)|hz|hz
  . exact .inl<|.inl ⟨rfl,.inl<|.inl hz,λy=>(R1.gtr z<|own z y).2 hz.2⟩
  . exact .inl<|.inl ⟨rfl,.inl<|.inr hz,λy=>(R1.btr z hz).2.2<|own z y⟩
  . exact .inl<|.inl ⟨rfl,.inr hz.1,hz.2⟩
  . exact .inr hz
 have q0:w_ X.K kd F B _ H' v0 s0 T0:=Ro.monoS (λv d h=>Rp.less le h) (λz n y=>n<|le z y) hs0 r0;have q1:w_ X.K kd F B _ H' v1 s1 T1:=Ro.monoS (λv d h=>Rp.less le h) (λz n y=>n<|le z y) hs1 r1;obtain⟨R3,g3⟩:=R1.chg2 hij (zzG.mp k0).1 (zzG.mp k1).1 t0 t1 nd sub kp al q0 q1;exact q u [] _ H' R3 (.lf<|rp.flat hf)<|g1.trans g3
def ON(c i j:Nat){f fdt ps gg x}(F:FnOk X.prog X.w X.K X.mg X.base YG k f fdt ps (spT c X.K kd gg))(hr:Room n X.A)(hm:X.mg x=some (.ref f))(hk:W.keepIn X.K (.ref f)=true)
 (hb:Binds X.K fdt ps []) (ha:AA X kd (e::es) fr) (hn:k<=n:=by omega) (hg:Gl X x:=by rfl) (hdb:(x==("__debug__":Str))=false:=by decide) (he:starEach (e::es) X.env=(false,eval e X.env)::starEach es X.env:=by rfl) (hpl:(backTo pos<|starEach es X.env).any (·.1)=false:=by rfl):
 AE X kd (.Call (.Name x p) (e::es) [] pos) (Pn c i j fr gg):=by with_unfolding_all exact(yf (F9 F (hr.mono hn) hg hm hk hb .nil xa ha hdb he hpl) λσ H Q h=>JX h)
end
noncomputable def tK(ta:TF)(f g:VF):VF:=λas=>(ta as).bind λp=>if p.1=true then f p.2 else g p.2
def HD{X:Cx}{kd:KD}{n:Nat}{c:Expr}{sts rest:List Stmt}{ta:TF}{f g:VF}{pos:Pos}(hc:AT X kd c ta)(ha:Do X kd n sts f)(hb:Do X kd n rest g):Do X kd n (.If c sts [] pos::rest) (tK ta f g):=by
 with_unfolding_all exact(YI (Qq (Oh hc ha LV) hb) λD σ H h=>by
  obtain⟨F,B,ad,as,d,as',R,e,hf,q⟩:=h;obtain⟨⟨p,as1⟩,h1,e⟩:=bS_<|e;refine⟨F,B,ad,as,p,as1,R,h1,λad' H' R' g=>?_⟩;cases p with
  |true=>exact⟨F,B,ad',as1,d,as',R',e,hf,λσ' ad2 H2 v s R2 g2 rp=>q σ' ad2 H2 v s R2 (g.trans g2) rp⟩
  |false=>exact⟨F,B,ad',as1,d,as',R',e,hf,λσ' ad2 H2 v s R2 g2 rp=>q σ' ad2 H2 v s R2 (g.trans g2) rp⟩)
def tV{X:Cx}{kd:KD}{n:Nat}{e tg:Expr}{fa:EF}{S:List Nat}{g:GF}{pos:Pos}(hS:∀i,i<n->i ∉ S)(he:AE X kd e fa)(hg:AG X kd tg S g)(hs:swapsWithSole [tg] e pos.line X.env=pure false)(hw:swappedStores [tg] e X.env=pure none)(h1:(assignEach [tg] X.env).map (·.2)=[assign tg X.env]):
 AP X kd n (.Assign [tg] e pos) (YV fa g):=by with_unfolding_all exact(wu (HY he hg hs hw h1) λD σ H h=>by
 obtain⟨F,B,ad,as,o,R,e,q⟩:=h;obtain⟨⟨p,as1⟩,h1,e⟩:=bS_<|e;obtain⟨⟨x,as2⟩,h2,e⟩:=bS_ e;obtain⟨as3,h3,e⟩:=bS_ e;cases e;refine⟨F,B,ad,as,p,as1,R,h1,λv T' ad' H' R' rv g1=>?_⟩;obtain⟨ad2,R2,rp,le⟩:=ZK R' rv h2;exact⟨F,B,ad2,as2,_,as3,R2,rp,h3,λσ' ad' H' R' g' s=>q σ' ad' H' (λi hi=>s i<|hS i hi) R'<|(g1.trans<|Grow.less le).trans g'⟩)
def um(as:AS):AS:=as.map<|Option.map O.frz
def FN{a:Addr}(z:Gw [] (λ_=>[]) a):False:=z.elim ⋯ λ⟨j,y⟩=>nomatch y
def Rel.lendA{K:zzA}{kd:KD}{F B:Addr->Prop}{ad:Ad}{as:AS}{σ:St}{H:Hp}(R:Rel K kd F B [] ad as σ H):Rel K kd F B [] (λ_=>[]) (um as) σ H:=by
 refine⟨by unfold um;rw[zzB];exact R.len,λ_ _=>rfl,λ_=>zyJ,(λ_ _ _ x=>nomatch x),zyJ,(λ_ _ x=>nomatch x),R.ftr,λa z=>⟨(R.btr a z).1,(R.btr a z).2.1,FN⟩,λa z=>(FN z).elim,λi s e=>?_⟩;unfold um at e;rw[zzI]at e;obtain⟨s0,k,e1⟩:=zzX.mp e;subst e1;cases s0 with
 |none=>rfl
 |some o=>
  obtain⟨R',v,hv,rp⟩:=R.frz k;exact⟨v,hv,.lf<|rp.less λa z=>z.imp id λy=>(FN y).elim⟩
def iA:RV->Option D
 | .ow (.lf _ d)=>if zv d=true then some d else none
 |_=>none
def QU(f:EF):EF:=λas=>(f<|um as).bind λp=>(iA p.1).bind λd=>some (.ow<|.lf true d,as)
def NT{X:Cx}{kd:KD}{e:Expr}{f:EF}(he:AE X kd e f):AE X kd e (QU f):=by
 with_unfolding_all exact(yf he λσ H Q h=>by
  obtain⟨F,B,ad,as,r,as',R,e,q⟩:=h;obtain⟨⟨r1,as1⟩,h1,e⟩:=bS_<|e;obtain⟨d,h2,e⟩:=bS_ e;cases e;refine⟨F,B,λ_=>[],_,r1,as1,R.lendA,h1,λv T ad' H' R' rv g=>?_⟩;obtain⟨R2,g2⟩:=R.more λb u hb=>g.keep b u hb FN
  match r1,h2,rv with
  | .ow (.lf st d0),h2,rv=>
   obtain⟨hf,e⟩:=zq<|h2;cases e;cases rv with
   |lf rp=>exact q v [] ad H' R2 (.lf<|rp.flat hf) g2)
def Fq(K:zzA)(mg:Str->Option Value)(x:Str)(st:Stmt):Prop:=∃f d,Fun K x x st f d/\mg x=some (.ref f)
def Cn(x:Str)(P:Program)(w:World)(K:zzA)(mg:Str->Option Value)(base:Heap)(k:Nat)(sp:Sp):Prop:=∃f d ps,FnOk P w K mg base YG k f d ps sp/\mg x=some (.ref f)/\W.keepIn K (.ref f)=true/\Binds K d ps []
def Mq(K:zzA)(kd:KD)(c m q:Str)(st:Stmt):Prop:=∃f d,Meth K (kd.c c) m f/\Fun K m q st f d
def Cm(c m:Str)(P:Program)(w:World)(K:zzA)(mg:Str->Option Value)(base:Heap)(kd:KD)(k:Nat)(sp:Sp):Prop:=CI K kd mg c (kd.c c)/\∃f d ps,Meth K (kd.c c) m f/\FnOk P w K mg base YG k f d ps sp/\Binds K d ps []
abbrev Bd(x q:Str)(st:Stmt)(ps:List Str):Prop:=∀(kV doc pm:Value) (an:Option Addr) (cdv ct:Value) (us:List Value),us.length=ps.length->bindArgs (W.fnOf x q (Rz st) (vJ st) (zL st) .none kV doc pm an cdv ct) ⟨us,[]⟩=pure (ps.zip us)
def i8{α:Type}{P:List α->Prop}(h:∀a b c d e f g,P [a,b,c,d,e,f,g]):∀us:List α,us.length=7->P us
 | [a,b,c,d,e,f,g],_=>h a b c d e f g
section
variable{P:Program}{w:World}{K:zzA}{mg:Str->Option Value}{base:Heap}{kd:KD}{x q c m:Str}{st:Stmt}{N:List Str}{n k:Nat}{sp:Sp}
def Hf(Q:Fq K mg x st)(g:∀{f d},Fun K x x st f d->FnScope N (N.take n) (zL st)->FnOk P w K mg base YG k f d (N.take n) sp)
 (S:FnScope N (N.take n) (zL st):=by exact sW) (h:Bd x x st (N.take n):=by first|exact λ_ _ _ _ _ _=>qF λ_=>rfl|exact λ_ _ _ _ _ _=>qf λ_ _=>rfl|exact λ_ _ _ _ _ _=>pZ λ_ _ _=>rfl|exact λ_ _ _ _ _ _=>rk λ_ _ _ _=>rfl|exact λ_ _ _ _ _ _=>pN λ_ _ _ _ _=>rfl|exact λ_ _ _ _ _ _=>l6_ λ_ _ _ _ _ _=>rfl):Cn x P w K mg base k sp:=by
 obtain⟨f,d,F,e⟩:=Q;exact⟨f,d,_,g F S,e,F.kp,F.binds h⟩
def V7(C:CI K kd mg c (kd.c c))(Q:Mq K kd c m q st)(g:∀{f d},Fun K m q st f d->FnScope N (N.take n) (zL st)->FnOk P w K mg base YG k f d (N.take n) sp)
 (S:FnScope N (N.take n) (zL st):=by exact sW) (h:Bd m q st (N.take n):=by first|exact λ_ _ _ _ _ _=>qF λ_=>rfl|exact λ_ _ _ _ _ _=>qf λ_ _=>rfl|exact λ_ _ _ _ _ _=>pZ λ_ _ _=>rfl|exact λ_ _ _ _ _ _=>rk λ_ _ _ _=>rfl|exact λ_ _ _ _ _ _=>pN λ_ _ _ _ _=>rfl|exact λ_ _ _ _ _ _=>i8 λ_ _ _ _ _ _ _=>rfl):Cm c m P w K mg base kd k sp:=by
 obtain⟨f,d,e,F⟩:=Q;exact⟨C,f,d,_,e,g F S,F.binds h⟩
def ke(Q:Fq K mg x st)(N:List Str)(n:Nat)(S:FnScope N (N.take n) (zL st):=by exact sW)(h:Bd x x st (N.take n):=by first|exact λ_ _ _ _ _ _=>qF λ_=>rfl|exact λ_ _ _ _ _ _=>qf λ_ _=>rfl|exact λ_ _ _ _ _ _=>pZ λ_ _ _=>rfl|exact λ_ _ _ _ _ _=>rk λ_ _ _ _=>rfl|exact λ_ _ _ _ _ _=>pN λ_ _ _ _ _=>rfl):Cn x P w K mg base k (Vv K kd λ_=>none):=Hf Q (λ_ _=>JR) S h
def Z2{cc:SF}(Q:Fq K mg x st)
 (hb:N.Nodup->∀(f:Addr) (cdv:Value) (A:Around) (outer:List Env) (s:Shared) (H:Hp) (E:XK),Room k (A.deeper<|envOfC x (zL st) s.heap.objs.size f cdv)->FW (Rg YG P w K mg base N x (zL st) f cdv A outer s H E).nox kd (vJ st) cc)
 (S:FnScope N (N.take n) (zL st):=by exact sW) (h:Bd x x st (N.take n):=by first|exact λ_ _ _ _ _ _=>qF λ_=>rfl|exact λ_ _ _ _ _ _=>qf λ_ _=>rfl|exact λ_ _ _ _ _ _=>pZ λ_ _ _=>rfl|exact λ_ _ _ _ _ _=>rk λ_ _ _ _=>rfl|exact λ_ _ _ _ _ _=>pN λ_ _ _ _ _=>rfl):
 Cn x P w K mg base (k+1) (Vv K kd<|xD N.length (N.take n).length cc):=Hf Q (λF S=>S4 F S<|hb S.nd _) S h
def SD{cc:SF}(C:CI K kd mg c (kd.c c))(Q:Mq K kd c m q st)
 (hb:N.Nodup->∀(f:Addr) (cdv:Value) (A:Around) (outer:List Env) (s:Shared) (H:Hp) (E:XK),Room k (A.deeper<|envOfC q (zL st) s.heap.objs.size f cdv)->FW (Rg YG P w K mg base N q (zL st) f cdv A outer s H E).nox kd (vJ st) cc)
 (S:FnScope N (N.take n) (zL st):=by exact sW) (h:Bd m q st (N.take n):=by first|exact λ_ _ _ _ _ _=>qF λ_=>rfl|exact λ_ _ _ _ _ _=>qf λ_ _=>rfl|exact λ_ _ _ _ _ _=>pZ λ_ _ _=>rfl|exact λ_ _ _ _ _ _=>rk λ_ _ _ _=>rfl|exact λ_ _ _ _ _ _=>pN λ_ _ _ _ _=>rfl):
 Cm c m P w K mg base kd (k+1) (Vv K kd<|xD N.length (N.take n).length cc):=V7 C Q (λF S=>S4 F S<|hb S.nd _) S h
def SC{g tbl}{k':Nat}(C:Cm c m P w K mg base kd k' (Vv K kd g))(h:MT P w K mg base kd m k tbl)(hk:k'<=k:=by decide):MT P w K mg base kd m k ((c,g)::tbl):=by
 obtain⟨ci,f,d,ps,e,F,b⟩:=C;exact DH ci e F hk b h
def ph{g}{k':Nat}(C:Cm c m P w K mg base kd k' (spS K kd g))(hk:k'<=k:=by decide):MS P w K mg base kd m k c g:=by
 obtain⟨ci,f,d,ps,e,F,b⟩:=C;exact oU ci e F b hk
end
section
variable{X:Cx}{kd:KD}{e:Expr}{es:List Expr}{fr:AF}{pos p:Pos}{x c:Str}{k n:Nat}
def cn{gg}(C:Cn x X.prog X.w X.K X.mg X.base k (Vv X.K kd gg))(hr:Room n X.A)(ha:AA X kd (e::es) fr)(hn:k<=n:=by omega)(hg:Gl X x:=by rfl)(hdb:(x==("__debug__":Str))=false:=by decide)(he:starEach (e::es) X.env=(false,eval e X.env)::starEach es X.env:=by rfl)(hpl:(backTo pos<|starEach es X.env).any (·.1)=false:=by rfl):
 AE X kd (.Call (.Name x p) (e::es) [] pos) (ze fr gg):=by
 obtain⟨f,d,ps,F,m,kp,b⟩:=C;exact IW F (hr.mono hn) hg m kp b xa ha hdb he hpl
def lR{g}(C:Cm c "__init__" X.prog X.w X.K X.mg X.base kd k (tP X.K kd c g))(hr:Room n X.A)
 (ha:AA X kd (e::es) fr) (hn:k+1<=n:=by omega) (hg:Gl X c:=by rfl) (hdb:(c==("__debug__":Str))=false:=by decide) (he:starEach (e::es) X.env=(false,eval e X.env)::starEach es X.env:=by rfl) (hpl:(backTo pos<|starEach es X.env).any (·.1)=false:=by rfl):
 AE X kd (.Call (.Name c p) (e::es) [] pos) (ze fr g):=by
 obtain⟨ci,f,d,ps,me,F,b⟩:=C;exact IP rfl (ci.mk' me) F (hr.mono hn) hg ci.mg b xa ha hdb he hpl
end
def kdN{P:Program}{w:World}{K:zzA}{c:Str->Addr}:sV P w K (kdL [] c):=u9 λp m=>absurd m List.not_mem_nil
section
variable{K:zzA}{mg:Str->Option Value}{h:Heap}{KL:List (Addr×List (Key×V))}{x c m q:Str}{st:Stmt}{f C:Addr}
def qK(X:K.In h)(G:h.Ns mainGlobals mg)(a:W.nsIn K mainGlobals x=some (some<|.ref f))(l:∃d,Fun K x x st f d):Fq K mg x st:=⟨f,l.elim λd F=>⟨d,F,W.mg_of X G a⟩⟩
def rh(X:K.In h)(G:h.Ns mainGlobals mg)(a:W.nsIn K mainGlobals c=some (some<|.ref C))(p1:W.plainGet K C Str.empty=true)(p2:W.hasDictIn K C=true)(p3:W.plainOver K C=true)(p4:W.findIn K (.ref C) "__setattr__"=some (some<|.builtin "object.__setattr__"))(p5:W.makesIn K C=true)(p6:W.keepIn K (.ref C)=true):CI K (kdL KL<|Ga mg) mg c ((kdL KL<|Ga mg).c c):=by
 have e:(kdL KL<|Ga mg).c c=C:=L6<|W.mg_of X G a;rw[e];exact⟨e,⟨p1,p2,p3,p4⟩,p5,p6,W.mg_of X G a⟩
def pj(X:K.In h)(G:h.Ns mainGlobals mg)(a:W.nsIn K mainGlobals c=some (some<|.ref C))(p1:W.findIn K (.ref C) m=some (some<|.ref f))(p2:W.isFn K (.ref f)=true)(p3:W.keepIn K (.ref f)=true)(l:∃d,Fun K m q st f d):Mq K (kdL KL<|Ga mg) c m q st:=by
 have e:(kdL KL<|Ga mg).c c=C:=L6<|W.mg_of X G a;obtain⟨d,F⟩:=l;exact⟨f,d,by rw[e];exact⟨p1,p2,p3⟩,F⟩
def o4(X:K.In h)(G:h.Ns mainGlobals mg)(a:W.nsIn K mainGlobals c=some (some<|.ref C))(p:W.findIn K (.ref C) m=some none):yx K ((kdL KL<|Ga mg).c c) m:=by
 have e:(kdL KL<|Ga mg).c c=C:=L6<|W.mg_of X G a;rw[e];exact p
end
abbrev zQ(n:Nat)(x:Int):Prop:=0<=x/\x<(n:Int)
structure LJ(n:Nat)(j:Int->Int->Int)(e:Int):Prop where
 cl:∀a b,zQ n a->zQ n b->zQ n (j a b)
 ce:zQ n e
 ul:∀a,zQ n a->j e a=a
 ur:∀a,zQ n a->j a e=a
 as:∀a b c,zQ n a->zQ n b->zQ n c->j (j a b) c=j a (j b c)
structure LD(n m:Nat)(j:Int->Int->Int)(e:Int)(d:Int->Int->Int):Prop where
 cl:∀c a,zQ m c->zQ n a->zQ n (d c a)
 em:d 0 e=e
 dn:∀a i b k,zQ n a->zQ m i->zQ n b->zQ m k->d ((i+k)%m) (j a b)=j (d i a) (d k b)
def Wf{n:Nat}(hn:0<n):zQ n (x%n):=⟨zyN _ ⋯,zyH _ ⋯⟩
def LD.congr{n m:Nat}(hm:0<m)(hj:LJ n j e)(h:LD n m j e d)(q:∀a b,zQ n a->zQ n b->j' a b=j a b)(p:∀c a,zQ m c->zQ n a->d' c a=d c a):LD n m j' e d':=by
 refine⟨λc a r f=>by rw[p c a r f];exact h.cl c a r f,by rw[p 0 e ⟨⋯,⋯⟩ hj.ce];exact h.em,λa i b k f l g o=>?_⟩;rw[q a b f g,p _ _ (Wf hm)<|hj.cl a b f g,p i a l f,p k b o g,q _ _ (h.cl i a l f)<|h.cl k b o g];exact h.dn a i b k f l g o
noncomputable def jS(n:Nat)(a b:Int):Int:=(a+b)%n
noncomputable def jM(a b:Int):Int:=if b > a then b else a
noncomputable def jL(a b:Int):Int:=if b=0 then a else b
def jF{n:Nat}(hn:0<n):LJ n (jS n) 0:=by
 refine⟨λa b _ _=>Wf hn,⟨⋯,⋯⟩,λa d=>?_,λa d=>?_,λa b c _ _ _=>?_⟩
 . unfold jS;rw[Int.zero_add,Int.emod_eq_of_lt d.1 d.2]
 . unfold jS;rw[Int.add_zero,Int.emod_eq_of_lt d.1 d.2]
 . unfold jS;rw[Int.emod_add_emod,Int.add_emod_emod,Int.add_assoc]
def iV{n:Nat}(hn:0<n):LJ n jM 0:=by
 refine⟨λa b d e=>?_,⟨⋯,⋯⟩,λa d=>?_,λa d=>?_,λa b c _ _ _=>?_⟩<;>unfold jM<;>(try unfold jM)<;>grind
def ip{n:Nat}(hn:0<n):LJ n jL 0:=by
 refine⟨λa b d e=>?_,⟨⋯,⋯⟩,λa d=>?_,λa d=>?_,λa b c _ _ _=>?_⟩<;>unfold jL<;>grind
def four{P:Int->Prop}(h0:P 0)(h1:P 1)(h2:P 2)(h3:P 3)(h:zQ 4 a):P a:=by
 rcases(show a=0\/a=1\/a=2\/a=3 by omega)with rfl|rfl|rfl|rfl<;>assumption
def f4{P:Int->Prop}(h:∀a ∈ ([0,1,2,3]:List Int),P a){a:Int}(ha:zQ 4 a):P a:=four (h 0<|by decide) (h 1<|by decide) (h 2<|by decide) (h 3<|by decide) ha
def hG{n m:Nat}{g x0 x1:Int}(hn:0<n)(hm:0<m)(g0:0<g)(gn:g ∣ n)(gm:g ∣ m):LD n m (jS n) 0 (λc a=>(a*x0+c*((n:Int)/g)*x1)%n):=by
 refine⟨λc a _ _=>Wf hn,⋯,λa i b k _ _ _ _=>?_⟩;obtain⟨t,e⟩:=gm;have h:m*(n/g)=n*t:=by
  obtain⟨s,f⟩:=gn;rw[f,Int.mul_ediv_cancel_left _ ⋯,e];grind
 unfold jS;rw[<-Int.add_emod];generalize n/g=d at h;rw[Int.emod_def _ m,Int.emod_def (a+b) n];generalize (i+k)/m=q;generalize (a+b)/n=p;rw[show _*x0+_*d*x1=(a*x0+i*d*x1+(b*x0+k*d*x1))+n*(-(p*x0)-t*q*x1) by grind,Int.add_mul_emod_self_left]
def i0{n m:Nat}{r:Int->Int}(hm:0<m)(h0:r 0=0)(hc:∀a,zQ n a->zQ n (r a))(hr:∀a b,zQ n a->zQ n b->a<=b->r a<=r b):LD n m jM 0 (λ_ a=>r a):=by
 refine⟨λc a _ d=>hc a d,h0,λa i b k d _ e _=>?_⟩;unfold jM;have f:=hr a b d e;have g:=hr b a e d
 split<;>split<;>grind
def iQ{n m:Nat}{r:Int->Int}(h0:r 0=0)(hc:∀a,zQ n a->zQ n (r a))(hr:∀a,zQ n a->a≠0->r a≠0):LD n m jL 0 (λ_ a=>r a):=by
 refine⟨λc a _ d=>hc a d,h0,λa i b k d _ e _=>?_⟩;unfold jL;have f:=hr b e
 split<;>split<;>grind
def tM{n1 n2:Nat}(hx:zQ n1 x)(hy:zQ n2 y):zQ (n1*n2) (x*n2+y):=by
 have b:0<=x*n2:=Int.mul_nonneg hx.1 ⋯;have a:x*n2<=(n1-1)*n2:=Int.mul_le_mul_of_nonneg_right ⋯ ⋯;rw[Int.sub_mul,Int.one_mul]at a;omega
def yb{n1 n2:Nat}(h2:0<n2)(h:zQ (n1*n2) p):zQ n1 (p/n2)/\zQ n2 (p%n2):=
 ⟨⟨Int.ediv_nonneg h.1 ⋯,Int.ediv_lt_of_lt_mul ⋯ (by have:=h.2;exact this)⟩,Wf h2⟩
def WM{n2:Nat}(hy:zQ n2 y):(x*n2+y)/n2=x/\(x*n2+y)%n2=y:=by
 have a:(n2:Int)≠0:=⋯;constructor
 . rw[Int.add_comm,Int.add_mul_ediv_right _ _ a,Int.ediv_eq_zero_of_lt hy.1 hy.2,Int.zero_add]
 . rw[Int.add_comm,Int.add_mul_emod_self_right,Int.emod_eq_of_lt hy.1 hy.2]
def pL{n2:Nat}{p:Int}:(p/n2)*n2+p%n2=p:=by rw[Int.mul_comm];exact Int.mul_ediv_add_emod p n2
noncomputable def jB(n2:Nat)(j1 j2:Int->Int->Int)(p q:Int):Int:=j1 (p/n2) (q/n2)*n2+j2 (p%n2) (q%n2)
noncomputable def dB(n2:Nat)(d1 d2:Int->Int->Int)(c p:Int):Int:=d1 c (p/n2)*n2+d2 c (p%n2)
def tm{n k:Nat}(h:n<=8)(hk:8<=k:=by decide):n<=k:=zzO h hk
def D6{n:Nat}(h:1<=n):(0:Int)<n:=Int.natCast_pos.mpr h
def tS{a:Int}{n:Nat}(h0:0<=a)(h1:a<n):a.toNat<n:=Int.ofNat_lt.mp (by rwa [zyY h0])
def mU{n:Nat}(h:n<=8)(hk:8<k:=by decide):(n:Int)<k:=Int.lt_of_le_of_lt (Int.ofNat_le.mpr h) hk
def iT{n:Nat}(h:zQ n x):x.toNat<n:=Int.ofNat_lt.mp (by rw[zyY h.1];exact h.2)
def iC{n:Nat}(h:zQ n x):((x.toNat:Nat):Int)=x:=zyY h.1
noncomputable def vV(r:List Int)(v:Int):Int:=(r[v.toNat]?).getD 0
def yG(J:List (List Int))(w v:Int):Int:=vV ((J[w.toNat]?).getD []) v
def FU(J:List (List Int))(e:Int):List Int->Int
 | []=>e
 |x::t=>t.foldl (yG J) x
section
variable{n m:Nat}{J T:List (List Int)}{e:Int}
theorem Ml(h:LJ n (yG J) e):∀(t:List Int) (w:Int),zQ n w->(∀x ∈ t,zQ n x)->zQ n (t.foldl (yG J) w)
 | [],w,a,_=>a
 |v::t,w,a,k=>Ml h t _ (h.cl w v a<|k v<|zzF ..) λx m=>k x<|zzD _ m
def v8(h:LJ n (yG J) e)(k:∀x ∈ r,zQ n x):zQ n (FU J e r):=by
 cases r with
 |nil=>exact h.ce
 |cons x t=>exact Ml h t x (k x ⋯) λy m=>k y<|zzD _ m
theorem VW(h:LJ n (yG J) e):∀(t:List Int) (w:Int),zQ n w->(∀x ∈ t,zQ n x)->t.foldl (yG J) w=yG J w (FU J e t)
 | [],w,a,_=>(h.ur w a).symm
 |x::t,w,a,k=>by
  have b:=k x ⋯;have c:=λy m=>k y<|zzD _ m;show t.foldl _ _=yG J w (t.foldl _ x);rw[VW h t _ (h.cl w x a b) c,VW h t x b c,h.as _ _ _ a b<|v8 h c]
def Fb(h:LJ n (yG J) e)(k:∀x ∈ l,zQ n x)(k':∀x ∈ l',zQ n x):FU J e (l++l')=yG J (FU J e l) (FU J e l'):=by
 cases l with
 |nil=>exact(h.ul _<|v8 h k').symm
 |cons x t=>
  show(t++l').foldl _ x=_;rw[List.foldl_append];exact VW h l' _ (v8 h k) k'
theorem L3(hm:0<m)(h:LJ n (yG J) e)(d:LD n m (yG J) e (yG T)):∀r:List Int,(∀x ∈ r,zQ n x)->FU J e (r.map<|yG T<|1%(m:Int))=yG T ((r.length:Int)%m) (FU J e r)
 | [],_=>by
  show e=yG T (0%m) e;rw[Int.zero_emod,d.em]
 |x::t,k=>by
  have b:=k x ⋯;have a:=λy m=>k y<|zzD _ m;have c:zQ m (1%m):=Wf hm;have f:∀y ∈ t.map (yG T<|1%m),zQ n y:=λy g=>by
   obtain⟨z,i,rfl⟩:=zxB.mp g;exact d.cl _ _ c<|a z i
  have j:FU J e (x::t)=yG J x _:=VW h t x b a;have l:FU J e ((x::t).map _)=yG J _ _:=VW h _ _ (d.cl _ _ c b) f;rw[l,L3 hm h d t a,j,<-d.dn _ _ _ _ b c (v8 h a) (Wf hm),<-Int.add_emod,zzT,Int.natCast_add,Int.add_comm t.length];rfl
end
local macro_rules | `(tactic| trivial)=>`(tactic| first|with_reducible first|assumption|exact Int.natCast_nonneg _|exact Nat.le_refl _|exact Int.le_refl _|exact rfl|exact tm (by assumption)|exact D6 (by assumption)|exact np2 (by assumption)|exact nq1 (by assumption)|exact nq2 (by assumption)|exact Int.natCast_pos.mpr (by assumption)|exact Nat.le_trans (by assumption) (by decide)|exact bgL _|exact bgU (by assumption)|exact mU (by assumption)|exact zI _|exact bL0 (by assumption)|exact bU0 (by assumption) (by assumption)|exact iL (by assumption)|exact iU (by assumption) (by assumption)|exact iC (by assumption)|exact iT (by assumption)|exact stL (by assumption)|exact stU (by assumption)|exact lnK (by assumption) (by assumption) (by assumption)|exact zi1 _|exact lnE (by assumption)|exact ltL (by assumption)|exact Int.toNat_of_nonneg (by assumption)|exact tS (by assumption) (by assumption)|exact b6 (by assumption)|exact Int.emod_nonneg _ (by decide)|exact Int.emod_lt_of_pos _ (by decide)|decide|omega)
noncomputable abbrev GB(x:Int):O:=.lf true<|.int x
abbrev sI(x:Int):Option O:=some<|GB x
noncomputable abbrev sT(d:D):Option O:=some<|.lf true d
noncomputable abbrev sN(os:List O):Option O:=some<|.nd .ls os
abbrev TZ:Type:=List<|List Int
abbrev DD:Type:=List<|Str×TZ
abbrev SS:Type:=List<|Str×List Int
def Lq{f as as1 o}(h:f as=some (.ow o,as1))(hs:o.str=true):zx f as=some (.rt o):=by
 unfold zx;rw[h];show((if o.str=true then some o else none).bind _)=_;rw[if_pos hs];rfl
theorem Zk:∀xs:List Int,(xs.map GB).all O.isLf=true/\O.strs (xs.map GB)=true/\O.toDs (xs.map GB)=xs.map D.int
 | []=>⟨rfl,rfl,rfl⟩
 |x::r=>⟨(Zk r).1,(Zk r).2.1,congrArg _ (Zk r).2.2⟩
def N4(ys)(w):(ys++[w]).map GB=ys.map GB++[O.lf true<|.int w]:=⋯
def VD(xs:List Int):(O.nd .ls<|xs.map GB).str=true/\(O.nd .ls<|xs.map GB).toD = .lst (xs.map D.int):=⟨(Zk xs).2.1,congrArg D.lst (Zk xs).2.2⟩
abbrev vQ(r:List Int):O:=.nd .ls<|r.map GB
noncomputable abbrev zi(r:List Int):D:=.lst<|r.map D.int
def Nl{g fe as0 as1 y r o os}(h1:g y as0=some as1)(h2:fe as1=some (.ow o,as1))(hs:o.str=true)(h3:xr g yD fe as0 r=some os):xr g yD fe as0 (y::r)=some (o::os):=by
 unfold xr;rw[h1];show((fe as1).bind _)=_;rw[h2];show(if o.str=true then _ else _)=_;rw[if_pos hs,h3];rfl
theorem y9:∀(n:Nat) (k:Int),(yU k n).length=n
 |0,_=>rfl
 |n+1,k=>by rw[GU];exact congrArg _<|y9 n _
def Hj{f as x}(h:WE f as x):∃o,zx f as=some (.rt o)/\o.str=true/\o.toD=x:=by
 obtain⟨o,b,a,c⟩:=h;exact⟨o,Lq b a,a,c⟩
theorem RC:∀{n:Nat}{k:Int}{y:wA},y ∈ yU k n->∃b:Int,y=(true,.int b)/\k<=b/\b<k+n
 |0,_,_,h=>nomatch h
 |n+1,k,y,h=>by
  rw[GU]at h
  rcases zzC.mp h with rfl|h
  . exact⟨k,rfl,by trivial,⋯⟩
  . obtain⟨b,e,a,c⟩:=RC h;exact⟨b,e,⋯,⋯⟩
theorem GD{α:Type}(toD){Q:α->Prop}{g fe as0}:∀{xs:List wA},(∀y ∈ xs,∃as1 a,g y as0=some as1/\WE fe as1 (toD a)/\Q a)->∃(os:List O) (l:List α),xr g yD fe as0 xs=some os/\O.strs os=true/\O.toDs os=l.map toD/\l.length=xs.length/\∀a ∈ l,Q a
 | [],_=>⟨[],[],rfl,rfl,rfl,rfl,λ_ m=>nomatch m⟩
 |y::e,H=>by
  obtain⟨f,a,h,⟨o,i,d,j⟩,k⟩:=H y ⋯;obtain⟨c,l,n,p,q,r,s⟩:=GD toD λz m=>H z<|zzD _ m;refine⟨o::c,a::l,Nl h i d n,by show(o.str&&O.strs c)=_;rw[d,p];rfl,by show o.toD::O.toDs c=_;rw[j,q];rfl,congrArg _ r,λb m=>?_⟩
  rcases zzC.mp m with rfl|m
  . exact k
  . exact s b m
def Jx{α:Type}(toD:α->D){Q:α->Prop}{fi cap g fe as xs}(h1:fi as=some (xs,as))(hl:xs.length<=1000)(H:∀y ∈ xs,∃as1 a,g y (Zz cap as)=some as1/\WE fe as1 (toD a)/\Q a):
 ∃l:List α,l.length=xs.length/\(∀a ∈ l,Q a)/\WE (zX fi cap g yD fe) as (.lst<|l.map toD):=by
 obtain⟨h,l,b,c,d,e,f⟩:=GD toD H;exact⟨l,e,f,_,Qd h1 (S7<|by trivial) b,c,congrArg D.lst d⟩
def sh{α:Type}(toD:α->D){Q:α->Prop}{fr cap fe as}{n:Nat}{u}(h1:WA fr as [(u,.int n)])(hl:n<=1000)(H:∀b:Int,0<=b->b<n->∃as1 a,gN 0 (true,.int b) (Zz cap as)=some as1/\WE fe as1 (toD a)/\Q a):
 ∃l:List α,l.length=n/\(∀a ∈ l,Q a)/\WE (zX (yt fr yM) cap (gN 0) yD fe) as (.lst<|l.map toD):=by
 obtain⟨l,c,d,e⟩:=Jx toD (xk h1 (by trivial) ⋯) (by rw[y9];trivial) (λy m=>by
  obtain⟨b,rfl,f,h⟩:=RC m;exact H b f ⋯)
 rw[y9]at c;exact⟨l,⋯,d,e⟩
def Row(n:Nat)(r:List Int):Prop:=r.length=n/\∀x ∈ r,0<=x/\x<(n:Int)
def Tab(k n:Nat)(T:TZ):Prop:=T.length=k/\∀r ∈ T,Row n r
abbrev wF(T:TZ):D:=.lst<|T.map zi
def SN{r}{P:Int->Prop}{k}(h0:0<=k)(h1:k<r.length)(hp:∀x ∈ r,P x):∃x,zw (zi r) (.int k)=some (.im<|.int x)/\P x:=by
 have a:k.toNat<r.length:=by trivial
 refine⟨r[k.toNat], ?_,hp _ ⋯⟩;have h:=Ql (xs:=r.map D.int) (by rw[zzI,zzE a];rfl);rw[show k.toNat=k by trivial]at h;show CL _=_;rw[h];rfl
def uA{α:Type}(toD){T:List α}{P:α->Prop}{k:Int}(h0:0<=k)(h1:k<T.length)(hp:∀r ∈ T,P r):∃r,zw (.lst<|T.map toD) (.int k)=some (.im<|toD r)/\P r:=by
 have a:k.toNat<T.length:=by trivial
 refine⟨T[k.toNat], ?_,hp _ ⋯⟩;have h:=Ql (xs:=T.map toD) (by rw[zzI,zzE a];rfl);rw[show k.toNat=k by trivial]at h;show CL _=_;rw[h];rfl
def vU{α:Type}{f}{l:List α}{i:Nat}{p}(h:l[i]? = some p):zw (.lst<|l.map f) (.int (i:Int))=some (.im<|f p):=by
 have h:=Ql (v:=f p) (by rw[zzI,h];rfl);show CL _=_;rw[h];rfl
def Dt{n k:Nat}{r}{v:Int}(hl:r.length=k)(hr:∀x ∈ r,zQ n x)(hv:zQ k v):zw (zi r) (.int v)=some (.im<|.int<|vV r v)/\zQ n (vV r v):=by
 have a:v.toNat<r.length:=by rw[hl];trivial
 have g:=zzE a;have e:vV r v=r[v.toNat]:=by unfold vV;rw[g];rfl
 rw[e];refine⟨?_,hr _ ⋯⟩;have:=vU (f:=D.int) g
 rwa [show v.toNat=v by trivial]at this
noncomputable abbrev Qz(T:TZ)(w:Int):List Int:=(T[w.toNat]?).getD []
def v_{k n:Nat}{T}{w:Int}(hT:Tab k n T)(hw:zQ k w):zw (wF T) (.int w)=some (.im<|zi<|Qz T w)/\Row n (Qz T w):=by
 have a:w.toNat<T.length:=by rw[hT.1];trivial
 have g:=zzE a;unfold Qz;rw[g];refine⟨?_,hT.2 _ ⋯⟩;have:=vU (f:=zi) g
 rwa [show w.toNat=w by trivial]at this
def rowAt{n:Nat}{r v}(hr:Row n r)(hv:zQ n v):zw (zi r) (.int v)=some (.im<|.int<|vV r v)/\zQ n (vV r v):=Dt hr.1 hr.2 hv
theorem strs_snoc:∀(os:List O) (o:O),O.strs os=true->o.str=true->O.strs (os++[o])=true
 | [],o,_,h=>by show(o.str&&true)=_;rw[h];rfl
 |p::r,o,h,a=>by
  have h:=(zyC _ _).mp<|h;show(p.str&&O.strs (r++_))=_;rw[h.1,strs_snoc r o h.2 a];rfl
theorem Kx:∀(os:List O) (o:O),O.toDs (os++[o])=O.toDs os++[o.toD]
 | [],o=>rfl
 |p::r,o=>congrArg _<|Kx r o
structure Ows{α:Type}(toD:α->D)(Q:α->Prop)(os:List O)(l:List α):Prop where
 st:O.strs os=true
 ds:O.toDs os=l.map toD
 al:∀a ∈ l,Q a
 ln:os.length=l.length
def Ows.nil{α:Type}{toD}{Q:α->Prop}:Ows toD Q [] []:=⟨rfl,rfl,⋯,rfl⟩
def Ows.snoc{α:Type}{toD Q os l o}{a:α}(h:Ows toD Q os l)(h1:o.str=true)(h2:o.toD=toD a)(h3:Q a):Ows toD Q (os++[o]) (l++[a]):=
 ⟨strs_snoc os o h.st h1,(by rw[Kx,h.ds,h2,zyM];rfl),(λb m=>(zzM.mp m).elim (h.al b) λm=>(by rwa [zzR.mp m])),(by rw[zzJ,zzJ,h.ln];rfl)⟩
def V0{as as1 a}{i:Nat}{os0 os o}(h:as[i]? = some (sN os0))(ha:a as=some (.ow o,as1))(h1:as1[i]? = some (sN os))(hl:os.length<sizeLine):yk (Zn i (dC a dN) ZD) as=some (.nx<|as1.set i<|sN<|os++[o]):=by
 unfold yk Zn;rw[h];have e:dC a dN as=some _:=vO ha rfl;rw[e];show(Option.bind (match as1[i]? with|some (some<|.nd .ls os)=>_|_=>none) _)=_;rw[h1];show((ZD os _).bind _).bind _=_;have e2:ZD os [o]=some _:=if_pos hl;rw[e2];rfl
def SZ{α:Type}{toD Q as a}{i:Nat}{os l}{x:α}(h:as[i]? = some (sN os))(ho:Ows toD Q os l)(hl:l.length<1000)(ha:WE a as (toD x))(hx:Q x):
 ∃os',Ows toD Q os' (l++[x])/\yk (Zn i (dC a dN) ZD) as=some (.nx<|as.set i<|sN os'):=by
 obtain⟨o,b,c,d⟩:=ha;exact⟨os++[o],ho.snoc c d hx,V0 h b h<|by rw[ho.ln];exact QB ⋯⟩
def Ows.retB{α:Type}{toD Q as}{i:Nat}{os}{l:List α}(h:as[i]? = some (sN os))(ho:Ows toD Q os l):Rt (zx (fV i) as) (.lst<|l.map toD):=
 ⟨_,Ry h ho.st,ho.st,congrArg D.lst ho.ds⟩
structure OwsX{α:Type}(toD:α->D)(Q:Nat->α->Prop)(os:List O)(l:List α):Prop where
 st:O.strs os=true
 ds:O.toDs os=l.map toD
 al:∀i a,l[i]? = some a->Q i a
 ln:os.length=l.length
def rN{fr as rs g zs}(ha:WA fr as rs)(hg:g (rs.map (·.2))=some (.fl zs)):fP fr g as=some (.ow (.nd .ls (zs.map (SG (rs.all (·.1))))),as):=by
 unfold fP;rw[ha];show(views as _).bind _=_;rw[X1];show(g _).bind _=_;rw[hg];show(if _=true then _ else _:Option RV).bind _=_;rw[if_pos ⋯];rfl
def pW{a as s r}(h:WD a as s (zi r)):fP (aC a aN) lstP as=some (.ow<|vQ r,as):=by
 have:=rN (g:=lstP) (zd h<|zo) rfl
 rwa [zyB]at this
def Eh{a as s r}(h:WD a as s (zi r)):WE (fP (aC a aN) lstP) as (zi r):=⟨_,pW h,(VD r).1,(VD r).2⟩
def Jp{fr as os x}(h:WO fr as os)(hl:os.length<=sizeLine)(hs:O.strs os=true)(e:D.tup (O.toDs os)=x):WE (yh fr) as x:=by
 refine⟨_,HC h hl, ?_, ?_⟩
 . unfold WX
   split
   . exact hs
   . exact hs
 . unfold WX
   split
   . exact e
   . exact e
def Qo{r a}(h:a.toNat<r.length):vV r a=r[a.toNat]:=by unfold vV;rw[zzE h];rfl
theorem Ows.frz{α:Type}{toD:α->D}{Q:α->Prop}{os:List O}{l:List α}(h:Ows toD Q os l):(O.nd .ls os).frz = .lf true (.lst<|l.map toD):=by
 show O.lf (O.strs os) (.lst _)=_;rw[h.st,h.ds]
def Pq{as as2}{j:Nat}{ps fr os}(hj:as[j]? = some (sN ps))(hr:fr (as.set j<|some (O.nd .ls ps).frz)=some (os,as2)):dC (fV j) fr as=some ((O.nd .ls ps).frz::os,as2):=by
 unfold dC;rw[NK hj];show((Ai as _).bind _)=_;rw[sx hj];show(fr _).bind _=_;rw[hr];rfl
def FE{as as1 fr os}(h:fr as=some (os,as1))(hl:os.length<=sizeLine):yh fr as=some (.ow<|WX os,as1):=by
 unfold yh;rw[h];show(if os.length<=sizeLine then _ else _)=_;rw[if_pos hl]
def Ep{f as ds}(h:WE f as (.lst ds)):XF f as=some (ds.map λd=>(true,d),as):=by
 obtain⟨o,h1,h2,h3⟩:=h;unfold XF;rw[h1];have e:Wm as (.ow o)=some _:=rfl;show(Wm as<|RV.ow o).bind (λq=>(UI q.1).bind λds=>some (ds,q.2))=_;rw[e,h2,h3];show some _=_;rw[Vh]
noncomputable abbrev U3(n:Nat):List Int:=(List.range n).map λ(i:Nat)=>(i:Int)
abbrev UJ(p:Str×List Int):D:=.tup [.str p.1,zi p.2]
def qN{x y c}:zw (.lst [.int x,.int y]) (.int (if c=true then 1 else 0))=some (.im<|.int (if c=true then y else x)):=by cases c<;>rfl
noncomputable abbrev CU:Str:="abcdefghijklmnopqrstuvwxyz"
def Aq:∀k,k<26->CU.cps.toList[k]? = some (97+k):=by decide +kernel
def DI{i}(h0:0<=i)(h1:i<26):zw (.str CU) (.int i)=some (.im<|.str ⟨#[97+i.toNat]⟩):=by
 show(if CU.length<=sizeLine then(atI CU.cps.toList i).bind _ else none)=_;have:=Ql<|Aq i.toNat ⋯;rw[show i.toNat=i by trivial]at this;rw[this];rfl
def xI{F}{n:Nat}(h:F.Perm (U3 n)):Row n F/\∀b:Int,0<=b->b<n->b ∈ F:=by
 refine⟨⟨by rw[h.length_eq,zzB,zyU],λx m=>?_⟩,λb c d=>h.mem_iff.mpr ?_⟩
 . obtain⟨i,a,rfl⟩:=zxB.mp<|h.mem_iff.mp m;have:=List.mem_range.mp a;trivial
 . exact zxB.mpr ⟨b.toNat,List.mem_range.mpr (by trivial),by trivial⟩
def O4{F}{n:Nat}(h:F.Perm (U3 n)){v w}(hv:zQ n v)(hw:zQ n w)(e:vV F v=vV F w):v=w:=by
 have a:=(xI h).1.1;have nd:F.Nodup:=by
  refine h.nodup_iff.mpr<|List.pairwise_map.mpr<|List.nodup_range.imp λz q=>z ⋯
 rw[Qo ⋯,Qo ⋯]at e;have:=(List.getElem_inj nd).mp e;trivial
def Ef{f g as as' x}(h:WE f as x)(hg:g (true,x) as=some as'):YV f g as=some (.nx as'):=by
 obtain⟨o,a,b,c⟩:=h;exact Ed a (by rwa [b,c])
abbrev Xy(p:Str×TZ):D:=.tup [.str p.1,wF p.2]
structure Alg(n m:Nat)(J:TZ)(e:Int)(Ds:DD):Prop where
 n1:1<=n
 n8:n<=8
 m1:1<=m
 m6:m<=6
 j:Tab n n J
 e0:0<=e
 en:e<n
 dl:Ds.length<=6
 ds:∀p ∈ Ds,Tab m n p.2
 nd:(Ds.map (·.1)).Nodup
structure LawA(n m:Nat)(J:TZ)(e:Int)(Ds:DD):Prop where
 lj:LJ n (yG J) e
 ld:∀p ∈ Ds,LD n m (yG J) e<|yG p.2
abbrev vW(n m:Nat)(J:TZ)(e:Int)(Ds:DD)(S:SS):D:=.tup [.int n,.int m,wF J,.int e,.lst<|Ds.map Xy,.lst<|S.map UJ]
def Oy{f as k}(h:WD f as true (.int k)):oS f as=some (some k,as):=by
 unfold oS;rw[h];rfl
abbrev MJ(T:TZ):O:=.nd .ls<|T.map vQ
def QR{n:Nat}{J w v}(hJ:Tab n n J)(hw:zQ n w)(hv:zQ n v):zQ n (yG J w v):=(rowAt (v_ hJ hw).2 hv).2
def wq{a b c as}{n:Nat}{J w v}(hJ:Tab n n J)(hw:zQ n w)(hv:zQ n v)(ha:WD a as true (wF J))(hb:WD b as true (.int w))(hc:WD c as true (.int v)):WD (f2 (f2 a b zw) c zw) as true (.int<|yG J w v):=
 zV (wW ha hb (v_ hJ hw).1) hc (rowAt (v_ hJ hw).2 hv).1 rfl
def nr{fr as rs g kvs}(ha:WA fr as rs)(hg:g (rs.map (·.2))=some (.fd kvs)):fP fr g as=some (.ow (.nd (.dc (kvs.map (·.1))) ((kvs.map (·.2)).map (SG (rs.all (·.1))))),as):=by
 unfold fP;rw[ha];show(views as _).bind _=_;rw[X1];show(g _).bind _=_;rw[hg];show(if _=true then _ else _:Option RV).bind _=_;rw[if_pos ⋯];rfl
abbrev RT(o:O):Prop:=o.str=true/\∃ds,o.toD = .tup ds
theorem Bi(I:AS->Prop)(P:wA->Prop):∀(xs:List wA) (as:AS),(∀x ∈ xs,∀as,I as->∃as1,g x as=some as1/\((∃as2,f as1=some (.nx as2)/\I as2/\P x)\/∃o,f as1=some (.rt o)/\RT o/\¬P x))->I as->
 (∃as',forL g f xs as=some (.nx as')/\I as'/\∀x ∈ xs,P x)\/∃o,forL g f xs as=some (.rt o)/\RT o/\¬ ∀x ∈ xs,P x
 | [],as,_,h=>.inl ⟨as,rfl,h,λ_ m=>nomatch m⟩
 |x::r,as,H,h=>by
  obtain⟨n,b,a⟩:=H x (zzF ..) as h
  rcases a with⟨c,a,d,e⟩|⟨o,a,d,e⟩
  . rcases Bi I P r c (λy m=>H y<|zzD _ m) d with⟨i,j,k,l⟩|⟨o,j,k,l⟩
    . refine .inl ⟨i,vT b a j,k,λy m=>?_⟩
      rcases zzC.mp m with rfl|m
      . exact e
      . exact l y m
    . exact .inr ⟨o,vT b a j,k,λz=>l λy m=>z y<|zzD _ m⟩
  . exact .inr ⟨o,Ha b a,d,λz=>e<|z x ⋯⟩
abbrev Re(r:Option Out)(I:AS->Prop)(P:Prop):Prop:=(∃as',r=some (.nx as')/\I as'/\P)\/∃o,r=some (.rt o)/\RT o/\¬P
def Re.imp{P Q:Prop}(h:Re r I P)(k:P ↔ Q):Re r I Q:=by
 rcases h with⟨a,b,c,d⟩|⟨a,b,c,d⟩
 . exact .inl ⟨a,b,c,k.mp d⟩
 . exact .inr ⟨a,b,c,λz=>d<|k.mpr z⟩
def Wi{v n:Nat}{f fr:SF}(I)(P:Int->Prop)(H:∀b,zQ n b->∀as,I as->∃as1,gN v (true,.int b) as=some as1/\Re (f as1) I (P b)){as:AS}(h:I as):Re (forL (gN v) f (yU 0 n) as) I (∀b,zQ n b->P b):=by
 have k:=Bi I (λx=>∀b,x=(true,.int b)->P b) (yU 0 n) as (λx m as j=>by
  obtain⟨b,rfl,l,u⟩:=RC m;obtain⟨a,o,q⟩:=H b ⟨l,⋯⟩ as j;exact⟨a,o,q.imp ⋯⟩) h
 refine Re.imp k ⟨λp b d=>p _ ?_ b rfl,λp x m b e=>?_⟩
 . have r:=d.1;refine zyA (i:=b.toNat) ?_;unfold yU;rw[zzI,List.getElem?_range<|by trivial];show some (true,D.int _)=_;rw[show 0+b.toNat=b by trivial]
 . subst e;obtain⟨c,e,t,w⟩:=RC m;cases e;exact p b ⟨t,⋯⟩
def YJ{v n:Nat}(h:as[v]? = some (some<|.lf s<|.int n))(hn:n<=1000):yu (yt (aC (fV v) aN) yM) g f as=forL g f (yU 0 n) as:=
 yr (xk (zd (za h) zo) (by trivial) ⋯) ⋯
def EL{P:Prop}(ht:WT c as q)(hq:q=true ↔ ¬P)(hf:WE f as (.tup ds))(hI:I as):Re (xg c (zx f) yT as) I P:=by
 cases q with
 |false=>exact .inl ⟨as,zt ht rfl,hI,Classical.byContradiction λz=>nomatch hq.mpr z⟩
 |true=>
  obtain⟨o,a,b,d⟩:=Hj hf;exact .inr ⟨o,xx ht a,⟨b,ds,d⟩,hq.mp rfl⟩
def Cy(ha:WD a as s (.int x))(hb:WD b as t (.int y)):WT (fT<|f2 a b<|zC .NotEq) as (!(x==y)):=xG (AU ha hb rfl) rfl
def Bl{x y:Int}:(!(x==y))=true ↔ ¬x=y:=⋯
abbrev mG(n:Nat)(J:TZ)(e:Int):Prop:=∀a,zQ n a->yG J e a=a/\yG J a e=a
abbrev As(n:Nat)(J:TZ):Prop:=∀a,zQ n a->∀b,zQ n b->∀c,zQ n c->yG J (yG J a b) c=yG J a (yG J b c)
section
variable{S:Option O->Option O->Option O->AS}{vj vn ve:Nat}{J:TZ}{n:Nat}{e:Int}
def sd{x y z:Option O}(hJ:Tab n n J)(he:zQ n e)(hj:∀x y z,(S x y z)[vj]? = some (sT<|wF J))(hv:∀x y z,(S x y z)[ve]? = some (sI e))(h3:∀x y z,(S x y z)[3]? = some x)(g3:∀d x y z,gN 3 (true,d) (S x y z)=some (S (sT d) y z)):
 Re (forL (gN 3) (xg (P0 (fT<|f2 (f2 (f2 (fV vj) (fV ve) zw) (fV 3) zw) (fV 3)<|zC .NotEq)<|fT<|f2 (f2 (f2 (fV vj) (fV 3) zw) (fV ve) zw) (fV 3)<|zC .NotEq) (zx<|yh<|dC (fC<|.str "nothing")<|dC (fV 3) dN) yT) (yU 0 n)<|S x y z) (λas=>∃x,as=S x y z) (mG n J e):=by
 refine Wi (fr:=yT) _ _ (λa c as f=>?_) ⟨x,rfl⟩;obtain⟨x,rfl⟩:=f;have b:WD _ (S (sI a) y z) true _:=za<|h3 _ _ _;have g:=Cy (wq hJ he c (za<|hj _ y z) (za<|hv _ y z) b) b;have i:=Cy (wq hJ c he (za<|hj _ y z) b<|za<|hv _ y z) b;refine⟨S _ y z,g3 _ _ _ _,EL (q:=!_ || !(yG J a e==a)) (Hl g (λh=>by rwa [h]) λh=>by rw[h];rfl) (by grind) (Jp (zF zb<|zF b yy) (WY rfl) rfl rfl) ⟨_,rfl⟩⟩
abbrev rf(vj vn:Nat):SF:=yu (yt (aC (fV vn) aN) yM) (gN 4)<|yu (yt (aC (fV vn) aN) yM) (gN 5)<|xg (fT<|f2 (f2 (f2 (fV vj) (f2 (f2 (fV vj) (fV 3) zw) (fV 4) zw) zw) (fV 5) zw) (f2 (f2 (fV vj) (fV 3) zw) (f2 (f2 (fV vj) (fV 4) zw) (fV 5) zw) zw)<|zC .NotEq) (zx<|yh<|dC (fC<|.str "parting")<|dC (fV 3)<|dC (fV 4)<|dC (fV 5) dN) yT
def C3{x y z:Option O}(n8:n<=8)(hJ:Tab n n J)(hj:∀x y z,(S x y z)[vj]? = some (sT<|wF J))(hn:∀x y z,(S x y z)[vn]? = some (sI n))(h3:∀x y z,(S x y z)[3]? = some x)(h4:∀x y z,(S x y z)[4]? = some y)(h5:∀x y z,(S x y z)[5]? = some z)
 (g3:∀d x y z,gN 3 (true,d) (S x y z)=some (S (sT d) y z)) (g4:∀d x y z,gN 4 (true,d) (S x y z)=some (S x (sT d) z)) (g5:∀d x y z,gN 5 (true,d) (S x y z)=some (S x y<|sT d)):
 Re (forL (gN 3) (rf vj vn) (yU 0 n)<|S x y z) (λas=>∃x y z,as=S x y z) (As n J):=by
 refine Wi (fr:=yT) _ _ (λa i as e=>?_) ⟨x,y,z,rfl⟩;obtain⟨x,y,z,rfl⟩:=e;refine⟨_,g3 _ _ _ _, ?_⟩;unfold rf;rw[YJ (hn _ _ _)<|by trivial];have k:=Wi (fr:=yT) (f:=yu _ _ _) (λas=>∃y z,as=S (sI a) y z) _ (λb g as e=>by
  obtain⟨y,z,rfl⟩:=e;refine⟨_,g4 _ _ _ _, ?_⟩;rw[YJ (hn _ _ _)<|by trivial];have k:=Wi (fr:=yT) (λas=>∃z,as=S (sI a) (sI b) z) _ (λc j as e=>by
   obtain⟨z,rfl⟩:=e;have l:WD _ (S (sI a) (sI b)<|sI c) true _:=za<|h3 _ _ _;have m:WD _ (S (sI a) (sI b)<|sI c) true _:=za<|h4 _ _ _;have o:WD _ (S (sI a) (sI b)<|sI c) true _:=za<|h5 _ _ _;have h:WD _ (S (sI a) (sI b)<|sI c) true _:=za<|hj _ _ _;have s:=QR hJ i g;have bc:=QR hJ g j;exact⟨_,g5 _ _ _ _,EL (ds:=[.str "parting",.int a,.int b,.int c]) (Cy (wq hJ s j h (wq hJ i g h l m) o)<|wq hJ i bc h l<|wq hJ g j h m o) Bl (Jp (zF zb<|zF l<|zF m<|zF o yy) (WY rfl) rfl rfl) ⟨_,rfl⟩⟩) ⟨z,rfl⟩
  rcases k with⟨p,q,⟨t,rfl⟩,r⟩|k
  . exact .inl ⟨_,q,⟨_,_,rfl⟩,r⟩
  . exact .inr k) ⟨y,z,rfl⟩
 rcases k with⟨p,q,⟨u,t,rfl⟩,r⟩|k
 . exact .inl ⟨_,q,⟨_,_,_,rfl⟩,r⟩
 . exact .inr k
end
abbrev SH(r:Option O)(P:Prop):Prop:=(RE r .non/\P)\/((∃ds,RE r<|.tup ds)/\¬P)
def EH{n m:Nat}{P:Prop}(hl:ds.length=m)(h:(Rt (c<|vX n ds) .non/\P)\/((∃es,Rt (c<|vX n ds)<|.tup es)/\¬P)):SH (xD n m c ds) P:=by
 rcases h with⟨h,p⟩|⟨⟨a,h⟩,p⟩
 . exact .inl ⟨zG hl h,p⟩
 . exact .inr ⟨⟨a,zG hl h⟩,p⟩
def Lz{P Q:Prop}(h:Re (f as) I P)(k:∀as',I as'->P->(Rt (g as') .non/\Q)\/((∃es,Rt (g as')<|.tup es)/\¬Q)):(Rt (zh f g as) .non/\P/\Q)\/((∃es,Rt (zh f g as)<|.tup es)/\¬(P/\Q)):=by
 rcases h with⟨b,a,c,p⟩|⟨o,a,⟨c,d,i⟩,p⟩
 . rcases k b c p with⟨e,q⟩|⟨⟨d,e⟩,q⟩
   . exact .inl ⟨zc a e,p,q⟩
   . exact .inr ⟨⟨d,zc a e⟩,λz=>q z.2⟩
 . exact .inr ⟨⟨d,o,Zd a,c,i⟩,λz=>p z.1⟩
def Lp:(Rt (zx (fC .non) as) .non/\True)\/((∃es,Rt (zx (fC .non) as)<|.tup es)/\¬True):=.inl ⟨zz<|WD.e zb,trivial⟩
def SH.imp{P Q:Prop}(h:SH r P)(k:P ↔ Q):SH r Q:=by
 rcases h with⟨h,p⟩|⟨h,p⟩
 . exact .inl ⟨h,k.mp p⟩
 . exact .inr ⟨h,λz=>p<|k.mpr z⟩
section
variable{n m:Nat}{J T:TZ}{e:Int}{Ds:DD}{S:SS}
abbrev Dn(n m:Nat)(J T:TZ):Prop:=∀a,zQ n a->∀i,zQ m i->∀b,zQ n b->∀k,zQ m k->yG T ((i+k)%m) (yG J a b)=yG J (yG T i a) (yG T k b)
def X2(hT:Tab m n T)(hw:zQ m w)(hv:zQ n v)(ha:WD a as true (wF T))(hb:WD b as true (.int w))(hc:WD c as true (.int v)):WD (f2 (f2 a b zw) c zw) as true (.int<|yG T w v)/\zQ n (yG T w v):=
 ⟨zV (wW ha hb (v_ hT hw).1) hc (rowAt (v_ hT hw).2 hv).1 rfl,(rowAt (v_ hT hw).2 hv).2⟩
abbrev mN:SF:=(xg (fT<|f2 (f2 (f2 (fV 2) (f2 (f2 (fV 7) (fV 9)<|Z4 .Add) (fV 4)<|Z4 .Mod) zw) (f2 (f2 (fV 5) (fV 6) zw) (fV 8) zw) zw) (f2 (f2 (fV 5) (f2 (f2 (fV 2) (fV 7) zw) (fV 6) zw) zw) (f2 (f2 (fV 2) (fV 9) zw) (fV 8) zw) zw)<|zC .NotEq) (zx<|yh<|dC (fC<|.str "doing")<|dC (fV 1)<|dC (fV 6)<|dC (fV 7)<|dC (fV 8)<|dC (fV 9) dN) yT)
abbrev ND(n m:Nat)(J T:TZ)(e:Int)(Ds:DD)(S:SS)(s:Str)(x y z w:Option O):AS:=[sT<|vW n m J e Ds S,sT<|.str s,sT<|wF T,sI n,sI m,sT<|wF J,x,y,z,w]
def iq{a i b:Int}(hJ:Tab n n J)(hT:Tab m n T)(m1:1<=m)(ha:zQ n a)(hi:zQ m i)(hb:zQ n b):Re (forL (gN 9) mN (yU 0 m)<|ND n m J T e Ds S s (sI a) (sI i) (sI b) w) (λas=>∃w,as=ND n m J T e Ds S s (sI a) (sI i) (sI b) w) (∀k,zQ m k->yG T ((i+k)%m) (yG J a b)=yG J (yG T i a) (yG T k b)):=by
 refine Wi (fr:=yT) _ _ (λk l as o=>?_) ⟨w,rfl⟩;obtain⟨w,rfl⟩:=o;have c:WD (fV 2) (ND n m J T e Ds S s (sI a) (sI i) (sI b)<|sI k) true _:=za rfl;have j:WD (fV 5) (ND n m J T e Ds S s (sI a) (sI i) (sI b)<|sI k) true _:=za rfl;have d:WD (fV 6) (ND n m J T e Ds S s (sI a) (sI i) (sI b)<|sI k) true _:=za rfl;have f:WD (fV 7) (ND n m J T e Ds S s (sI a) (sI i) (sI b)<|sI k) true _:=za rfl;have g:WD (fV 8) (ND n m J T e Ds S s (sI a) (sI i) (sI b)<|sI k) true _:=za rfl;have h:WD (fV 9) (ND n m J T e Ds S s (sI a) (sI i) (sI b)<|sI k) true _:=za rfl;obtain⟨p,q⟩:=X2 hT hi ha c f d;obtain⟨r,t⟩:=X2 hT l hb c h g;have u:=QR hJ ha hb;obtain⟨v,y⟩:=X2 hT (Wf m1) u c (zY (zN f h) (za (i:=4) rfl)<|by trivial)<|wq hJ ha hb j d g;exact⟨_,rfl,EL (Cy v<|wq hJ q t j p r) Bl (Jp ⋯ (WY rfl) rfl rfl) ⟨_,rfl⟩⟩
def SH.none{P:Prop}(h:SH r P)(p:P):RE r .non:=by
 rcases h with⟨h,_⟩|⟨_,h⟩
 . exact h
 . exact absurd p h
def LawA.un(L:LawA n m J e Ds):mG n J e:=λa b=>⟨L.lj.ul a b,L.lj.ur a b⟩
theorem LawA.as(L:LawA n m J e Ds):As n J:=λa d b f c g=>L.lj.as a b c d f g
theorem LawA.dn(L:LawA n m J e Ds)(hp:p ∈ Ds):Dn n m J p.2:=λa c i d b f k g=>(L.ld p hp).dn a i b k c d f g
end
noncomputable def iP(b k:Int):Int:=if k=0 then b/2 else b%2
def jP(a b:Int):Int:=2*iP b (a/2)+iP b (a%2)
noncomputable def sP(a:Int):Int:=2*(1-a%2)+1-a/2
def kY:LJ 4 jP 1:=by
 refine⟨λa b d e=>?_,⟨by decide,by decide⟩,λa d=>?_,λa d=>?_,λa b c d e f=>?_⟩
 . revert b;refine f4 (P:=λa=>∀b,zQ 4 b->zQ 4 _) ?_ d
   have:∀a ∈ ([0,1,2,3]:List Int),∀b ∈ ([0,1,2,3]:List Int),zQ 4 (jP a b):=by decide
   exact λa m b e=>f4 (this a m) e
 . exact f4 (P:=λa=>jP 1 a=a) (by decide) d
 . exact f4 (P:=λa=>jP a 1=a) (by decide) d
 . have:∀a ∈ ([0,1,2,3]:List Int),∀b ∈ ([0,1,2,3]:List Int),∀c ∈ ([0,1,2,3]:List Int),jP (jP a b) c=jP a (jP b c):=by decide
   refine f4 (λa m=>f4 (λb g=>f4 (this a m b g) f) e) d
def ir{m:Nat}{r:Int->Int}(h:(∀a,zQ 4 a->r a=a)\/(∀a,zQ 4 a->r a=sP a)):LD 4 m jP 1 (λ_ a=>r a):=by
 rcases h with h|h
 . refine⟨λc a _ d=>by rw[h a d];exact d,h 1 ⟨by decide,by decide⟩,λa i b k d _ e _=>?_⟩;rw[h a d,h b e,h _<|kY.cl a b d e]
 . refine⟨λc a _ d=>by rw[h a d];exact f4 (P:=λa=>zQ 4 _) (by decide) d,h 1 ⟨by decide,by decide⟩,λa i b k d _ e _=>?_⟩;rw[h a d,h b e,h _<|kY.cl a b d e];have:∀a ∈ ([0,1,2,3]:List Int),∀b ∈ ([0,1,2,3]:List Int),sP (jP a b)=jP (sP a) (sP b):=by decide
   exact f4 (λa m=>f4 (this a m) e) d
def iS{n1 n2:Nat}(h1:LJ n1 j1 e1)(h2:LJ n2 j2 e2)(p2:0<n2):LJ (n1*n2) (jB n2 j1 j2) (e1*n2+e2):=by
 refine⟨λa b d e=>?_,tM h1.ce h2.ce,λa d=>?_,λa d=>?_,λa b c d e f=>?_⟩
 . exact tM (h1.cl _ _ (yb p2 d).1 (yb p2 e).1)<|h2.cl _ _ (yb p2 d).2 (yb p2 e).2
 . unfold jB;rw[(WM h2.ce).1,(WM h2.ce).2,h1.ul _ (yb p2 d).1,h2.ul _ (yb p2 d).2,pL]
 . unfold jB;rw[(WM h2.ce).1,(WM h2.ce).2,h1.ur _ (yb p2 d).1,h2.ur _ (yb p2 d).2,pL]
 . unfold jB;rw[(WM<|h2.cl _ _ (yb p2 d).2 (yb p2 e).2).1,(WM<|h2.cl _ _ (yb p2 d).2 (yb p2 e).2).2,(WM<|h2.cl _ _ (yb p2 e).2 (yb p2 f).2).1,(WM<|h2.cl _ _ (yb p2 e).2 (yb p2 f).2).2,h1.as _ _ _ (yb p2 d).1 (yb p2 e).1 (yb p2 f).1,h2.as _ _ _ (yb p2 d).2 (yb p2 e).2 (yb p2 f).2]
def iu{n1 n2 m:Nat}(h1:LJ n1 j1 u1)(h2:LJ n2 j2 u2)(p2:0<n2)(e1:LD n1 m j1 u1 d1)(e2:LD n2 m j2 u2 d2):LD (n1*n2) m (jB n2 j1 j2) (u1*n2+u2) (dB n2 d1 d2):=by
 refine⟨λc a h d=>tM (e1.cl _ _ h (yb p2 d).1)<|e2.cl _ _ h (yb p2 d).2, ?_,λa i b k d f e g=>?_⟩
 . unfold dB;rw[(WM h2.ce).1,(WM h2.ce).2,e1.em,e2.em]
 . unfold jB dB;rw[(WM<|h2.cl _ _ (yb p2 d).2 (yb p2 e).2).1,(WM<|h2.cl _ _ (yb p2 d).2 (yb p2 e).2).2,(WM<|e2.cl i _ f (yb p2 d).2).1,(WM<|e2.cl i _ f (yb p2 d).2).2,(WM<|e2.cl k _ g (yb p2 e).2).1,(WM<|e2.cl k _ g (yb p2 e).2).2,e1.dn _ _ _ _ (yb p2 d).1 f (yb p2 e).1 g,e2.dn _ _ _ _ (yb p2 d).2 f (yb p2 e).2 g]
def iI{n:Nat}{F B:Int->Int}(h:LJ n j e)(hF:∀a,zQ n a->zQ n (F a))(hB:∀a,zQ n a->zQ n (B a))(hFB:∀a,zQ n a->F (B a)=a)(q:∀a b,zQ n a->zQ n b->j' (F a) (F b)=F (j a b)):LJ n j' (F e):=by
 have g:=λa b d f=>by
  have:=q _ _ (hB a d)<|hB b f
  rwa [hFB a d,hFB b f]at this
 refine⟨λa b d f=>by rw[g a b d f];exact hF _<|h.cl _ _ (hB a d)<|hB b f,hF e h.ce,λa d=>?_,λa d=>?_,λa b c d f i=>?_⟩
 . have:=q e _ h.ce<|hB a d
   rwa [h.ul _<|hB a d,hFB a d]at this
 . have:=q _ e (hB a d) h.ce
   rwa [h.ur _<|hB a d,hFB a d]at this
 . have k:=hB a d;have l:=hB b f;have m:=hB c i;rw[g a b d f,g b c f i];have x:=q _ _ (h.cl _ _ k l) m;have y:=q _ _ k<|h.cl _ _ l m;rw[hFB c i]at x;rw[hFB a d]at y;rw[x,y,h.as _ _ _ k l m]
def iY{n m:Nat}{F B:Int->Int}(hm:0<m)(h:LJ n j e)(k:LD n m j e d)(hF:∀a,zQ n a->zQ n (F a))(hB:∀a,zQ n a->zQ n (B a))(hFB:∀a,zQ n a->F (B a)=a)
 (q:∀a b,zQ n a->zQ n b->j' (F a) (F b)=F (j a b)) (p:∀c a,zQ m c->zQ n a->d' c (F a)=F (d c a)):LD n m j' (F e) d':=by
 refine⟨λc a t f=>?_, ?_,λa i b l f r u s=>?_⟩
 . have:=p c _ t<|hB a f;rw[hFB a f]at this;rw[this];exact hF _<|k.cl _ _ t<|hB a f
 . rw[p 0 e ⋯ h.ce,k.em]
 . have g:=hB a f;have o:=hB b u;have x:=q _ _ g o;have y:=p i _ r g;have z:=p l _ s o;rw[hFB a f]at x y;rw[hFB b u]at x z;rw[x,y,z,p _ _ (Wf hm)<|h.cl _ _ g o,q _ _ (k.cl _ _ r g)<|k.cl _ _ s o,k.dn _ _ _ _ g r o s]
def KN(k:Int)(n:Nat):Prop:=(k=0/\1<=n)\/(k=1/\1<=n)\/(k=2/\1<=n)\/(k=3/\n=4)
def jK(k:Int)(n:Nat):Int->Int->Int:=if k=0 then jS n else if k=1 then jM else if k=2 then jL else jP
noncomputable def eK(k:Int):Int:=if k=3 then 1 else 0
def js{n:Nat}(h:KN k n):LJ n (jK k n) (eK k):=by
 rcases h with⟨rfl,h⟩|⟨rfl,h⟩|⟨rfl,h⟩|⟨rfl,rfl⟩
 . exact jF h
 . exact iV h
 . exact ip h
 . exact kY
def Cg(h:WA fr as [(u,.int i),(v,.int j)])(h0:0<=i)(h1:i<=1000)(h2:0<=j)(h3:j<=1000):yt fr Ah as=some (yU i (j-i).toNat,as):=by
 unfold yt;rw[h];show((if -_<=i/\i<2 ^ 62 /\ -_<=j/\j<2 ^ 62 then some _ else none).bind _)=_;rw[if_pos ⋯];rfl
noncomputable abbrev Qi(r:List Int):D:=.tup<|r.map D.int
abbrev vZ(T:TZ):D:=.tup<|T.map Qi
def FR{α:Type}{f}{l:List α}{i:Nat}{p}(h:l[i]? = some p):zw (.tup<|l.map f) (.int (i:Int))=some (.im<|f p):=by
 have h:=Ql (v:=f p) (by rw[zzI,h];rfl);show CL _=_;rw[h];rfl
def lQ{k n:Nat}{T}{w:Int}(hT:Tab k n T)(hw:zQ k w):zw (vZ T) (.int w)=some (.im<|Qi<|Qz T w):=by
 have a:w.toNat<T.length:=by rw[hT.1];exact iT hw
 have g:=zzE a;unfold Qz;rw[g];have:=FR (f:=Qi) g
 rwa [iC hw]at this
def oh{n:Nat}{r}{v:Int}(hr:Row n r)(hv:zQ n v):zw (Qi r) (.int v)=some (.im<|.int<|vV r v):=by
 have a:v.toNat<r.length:=by rw[hr.1];exact iT hv
 have g:=zzE a;rw[Qo a];have:=FR (f:=D.int) g
 rwa [iC hv]at this
def Hw{m n:Nat}(hT:Tab m n T)(hw:zQ m w)(hv:zQ n v)(ha:WD a as true (vZ T))(hb:WD b as true (.int w))(hc:WD c as true (.int v)):WD (f2 (f2 a b zw) c zw) as true (.int<|yG T w v):=
 zV (wW ha hb<|lQ hT hw) hc (oh (v_ hT hw).2 hv) rfl
section
variable{α:Type}{kf:α->Str}{vf:α->D}
theorem Kh:∀l:List α,Q8 (l.map λp=>.tup [.str<|kf p,vf p])=some (l.map λp=>(.inr<|kf p,vf p))
 | []=>rfl
 |p::l=>by
  show(Q8 _).bind _=_;rw[Kh l];rfl
theorem Rr:∀{l:List α},p ∈ l->(l.map kf).Nodup->Q_ (l.map λp=>(.inr<|kf p,vf p)) (.inr<|kf p)=some (vf p)
 | [],h,_=>nomatch h
 |q::l,h,nd=>by
  have a:=zzW.mp<|nd
  rcases zzC.mp h with rfl|h
  . unfold Q_;simp
  . have e:kf q≠kf p:=λe=>a.1<|e ▸ List.mem_map_of_mem h;have b:=Rr h a.2;unfold Q_ at ⊢
    rwa [zyS,List.find?_cons_of_neg<|by simp[e]]
theorem OQ:∀(kvs:List (Key×D)),(kvs.map (·.1)).zip (kvs.map (·.2))=kvs
 | []=>rfl
 |p::r=>congrArg _<|OQ r
def DJ{l:List α}(nd:(l.map kf).Nodup)(h:WE a as (.lst<|l.map λp=>.tup [.str<|kf p,vf p])):WE (fP (aC a aN) Pg) as (.dct<|l.map λp=>(.inr<|kf p,vf p)):=by
 have c:Pg [.lst<|l.map λp=>.tup [.str<|kf p,vf p]]=some (.fd<|l.map λp=>(.inr<|kf p,vf p)):=by
  show(Q8 _).bind _=_;rw[Kh];refine if_pos ?_;rw[zyB];exact List.pairwise_map.mpr<|(List.pairwise_map.mp nd).imp λh e=>h<|Sum.inr.inj e
 have k:=nr (yZ h<|zo) c;rw[show([(true,D.lst _)].all _)=true from rfl,Lj]at k;refine⟨_,k,Xe _, ?_⟩;show D.dct _=_;rw[Vd,OQ]
end
def xN{i:Nat}{os}(h:WE fe as d)(hi:as[i]? = some (some<|.nd (.ob c ns) os))(hc:c ∈ cs)(hn:f ∉ ns)(hl:ns.length<1000):XD i cs f fe as=some (as.set i<|some<|.nd (.ob c<|ns++[f])<|os++[.lf true d]):=by
 obtain⟨o,a,b,g⟩:=h;unfold XD;have e:Wm as (.ow o)=some _:=rfl;simp only[a,zyL,e,hi,if_pos (⟨hc,hn,hl⟩:c ∈ cs/\f ∉ ns/\ns.length<1000),b,g]
def yH(h:f as=some as1)(h2:g as1=o):Zm f g as=o:=by
 unfold Zm
 rwa [h]
def OA(h:WE fe as d):Il fe as=some as:=by
 obtain⟨o,a,_,_⟩:=h;unfold Il;rw[a];rfl
def uh{i:Nat}(h:as[i]? = some (sT<|.ob c ns ds))(hc:c ∈ cs)(hl:Ee ns ds f=some d):WD (f1 (fV i)<|z9 cs f) as true d:=by
 have:=K5 (za h) hc hl
 rwa [zyD]at this
def bh(A B:TZ):TZ:=(A.zip B).map λp=>p.1.map<|vV p.2
def si{m n:Nat}(hA:Tab m n A)(hB:Tab m n B){i:Nat}(hi:i<m):(bh A B)[i]? = some ((Qz A i).map<|vV<|Qz B i):=by
 have a:=zzE (by rwa [hA.1]);have b:=zzE (by rwa [hB.1]);unfold bh Qz;rw[zzI,zyI,a,b];have:_[i]? = some (A[i]'_,B[i]'_):=List.getElem?_zip_eq_some.mpr ⟨a,b⟩;rw[this];rfl
def D4{m n:Nat}(hA:Tab m n A)(hB:Tab m n B):Tab m n (bh A B):=by
 refine⟨by unfold bh;rw[zzB,List.length_zip,hA.1,hB.1,Nat.min_self],λr h=>?_⟩;obtain⟨p,b,rfl⟩:=zxB.mp h;obtain⟨c,d⟩:=List.of_mem_zip b;have a:=hA.2 _ c;have e:=hB.2 _ d;exact⟨by rw[zzB];exact a.1,λx f=>by
  obtain⟨y,g,rfl⟩:=zxB.mp f;exact(rowAt e<|a.2 y g).2⟩
def nk{m n:Nat}(hA:Tab m n A)(hB:Tab m n B)(hc:zQ m c)(ha:zQ n a):yG (bh A B) c a=yG B c (yG A c a):=by
 have d:=iT hc;have g:=si hA hB d;have e:=iC hc;rw[e]at g;have f:=(v_ hA hc).2;show vV _ a=vV _ (vV _ a);rw[g];show vV ((Qz A c).map _) a=_;have b:a.toNat<(Qz A c).length:=by rw[f.1];exact iT ha
 rw[Qo (by rwa [zzB]),List.getElem_map,Qo b]
end PF
end
section
namespace G43
open PySem PySem.Spec PyProof.Rows L2 PF
abbrev zj:EF:=fV 1
abbrev zM:EF:=fC<|.int 0
abbrev zk:EF:=fV 0
abbrev yE:EF:=fC<|.int 2
abbrev zD:EF:=fC<|.int 1
abbrev zB:EF:=fV 2
abbrev Z5:EF:=fC<|.int 4
abbrev X4:GF:=gN 4
abbrev zT:EF:=fV 4
abbrev zA:EF:=fV 3
abbrev xC:GF:=gN 0
abbrev zp:=Z4 .Add
abbrev yN:EF:=fV 5
abbrev H0:EF:=fC<|.int 5
abbrev xj:EF:=fV 6
abbrev YN:EF:=fV 7
abbrev Tj:EF:=fV 11
abbrev zJ:=Z4 .Mod
abbrev zS:=Z4 .Mult
abbrev Gs:EF:=fC<|.int 8
abbrev zy:=Z4 .FloorDiv
abbrev ZY:EF:=fC<|.int 3
abbrev yX:=Z4 .Sub
abbrev Ci:EF:=fC<|.int 6
abbrev ZZ:AF:=aC (fV 3) aN
abbrev w9:AF:=aC (fV 0) aN
abbrev we:AF:=aC (fV 1) aN
abbrev w6:AF:=aC (fV 2) aN
abbrev BE:AF:=aC (fV 5) aN
abbrev nV:AF:=aC (fV 7) aN
noncomputable def Zh:List Str:=["Knot"]
noncomputable def Xc:List Str:=["Knot"]
noncomputable def ZF:List Str:=["Knot"]
noncomputable def Wx:List Str:=["Knot"]
noncomputable def TB:List Str:=["Knot"]
noncomputable def Wl:List Str:=["Knot"]
noncomputable def yF:List Str:=["Knot"]
noncomputable def wR:List Str:=["Knot","Ways"]
noncomputable def P8:List Str:=["Ways"]
noncomputable def Vm:List Str:=["Ways"]
noncomputable def Wv:List Str:=["Ways"]
noncomputable def wD:List Str:=["Makes"]
noncomputable def yL:List Str:=["Makes"]
noncomputable def YF:List Str:=["Ways"]
noncomputable def R_:List Str:=["Ways"]
noncomputable abbrev EB:List Str:=["thing"]
def Td:SF:=(zx<|T8 (Lm zk "int")<|BU<|Lm zk "bool")
def PH:Fn:=xD 1 1 Td
noncomputable abbrev NG:List Str:=["thing","least","most"]
def Ua:SF:=(zx<|T8 (ze w9 PH)<|Nc zj zk zB (zC .LtE)<|zC .LtE)
def w5:Fn:=xD 3 3 Ua
noncomputable abbrev UW:List Str:=["algebra","join","nothing","a"]
abbrev mX:SF:=(xg (P0 (fT<|f2 (f2 (f2 zj zB zw) zA zw) zA<|zC .NotEq)<|fT<|f2 (f2 (f2 zj zA zw) zB zw) zA<|zC .NotEq) (zx<|yh<|dC (fC<|.str "nothing")<|dC zA dN) yT)
def Zq:SF:=(zh (zm true 1<|f2 zk yE zw)<|zh (zm true 2<|f2 zk ZY zw)<|zh (yu (yt (aC (f2 zk zM zw) aN) yM) (gN 3) mX)<|zx<|fC .non)
def Zt:Fn:=xD 4 1 Zq
noncomputable abbrev Ri:List Str:=["algebra","n","join","a","b","c"]
def Xj:SF:=(zh (zm true 1<|f2 zk zM zw)<|zh (zm true 2<|f2 zk yE zw)<|zh (yu (yt we yM) (gN 3)<|yu (yt we yM) X4<|yu (yt we yM) (gN 5)<|xg (fT<|f2 (f2 (f2 zB (f2 (f2 zB zA zw) zT zw) zw) yN zw) (f2 (f2 zB zA zw) (f2 (f2 zB zT zw) yN zw) zw)<|zC .NotEq) (zx<|yh<|dC (fC<|.str "parting")<|dC zA<|dC zT<|dC yN dN) yT)<|zx<|fC .non)
def Zo:Fn:=xD 6 1 Xj
noncomputable abbrev Gf:List Str:=["algebra","name","rows","n","m","join","a","i","b","j"]
def W3:SF:=(zh (zm true 3<|f2 zk zM zw)<|zh (zm true 4<|f2 zk zD zw)<|zh (zm true 5<|f2 zk yE zw)<|zh (yu (yt ZZ yM) (gN 6)<|yu (yt (aC zT aN) yM) (gN 7)<|yu (yt ZZ yM) (gN 8)<|yu (yt (aC zT aN) yM) (gN 9)<|xg (fT<|f2 (f2 (f2 zB (f2 (f2 YN (fV 9) zp) zT zJ) zw) (f2 (f2 yN xj zw) (fV 8) zw) zw) (f2 (f2 yN (f2 (f2 zB YN zw) xj zw) zw) (f2 (f2 zB (fV 9) zw) (fV 8) zw) zw)<|zC .NotEq) (zx<|yh<|dC (fC<|.str "doing")<|dC zj<|dC xj<|dC YN<|dC (fV 8)<|dC (fV 9) dN) yT)<|zx<|fC .non)
def Yp:Fn:=xD 10 3 W3
noncomputable abbrev LI:List Str:=["algebra","nothing","name","rows","fault"]
abbrev oe:SF:=(xg (fT<|f2 (f2 (f2 zA zM zw) zj zw) zj<|zC .NotEq) (zx<|yh<|dC (fC<|.str "empty")<|dC zB dN) yT)
def V8:SF:=(zh (zm true 1<|f2 zk ZY zw)<|zh (yu (XF<|f2 zk Z5 zw) (gT 2<|yI (gN 2)<|yI (gN 3) Yq)<|zh oe<|zh (zm true 4<|ze (aC zk<|aC zB ZZ) Yp)<|xg (fT<|f2 zT (fC .non)<|zC .IsNot) (zx zT) yT)<|zx<|fC .non)
def YK:Fn:=xD 5 1 V8
noncomputable abbrev KG:List Str:=["algebra","fault"]
def V5:SF:=(zh (zm true 1<|ze w9 Zt)<|zh (xg (fT<|f2 zj (fC .non)<|zC .Is) (zm true 1<|ze w9 Zo) yT)<|zh (xg (fT<|f2 zj (fC .non)<|zC .Is) (zm true 1<|ze w9 YK) yT)<|zx zj)
def YQ:Fn:=xD 2 1 V5
noncomputable abbrev Tq:List Str:=["algebra","fault"]
def ZW:SF:=(zh (zm true 1<|ze w9 YQ)<|xg (fT<|f2 zj (fC .non)<|zC .IsNot) CV yT)
def vM:Fn:=xD 2 1 ZW
noncomputable abbrev Xh:List Str:=["self","whole","back","wait","turn","one","other"]
abbrev rY:EF:=(Aw (fT<|f2 yN (fC .non)<|zC .Is) zM<|f2 zD (fP (aC (f1 yN<|z9 yF "deep")<|aC (f1 xj<|z9 yF "deep") aN) Gg) zp)
abbrev qi:EF:=(Aw (fT<|f2 yN (fC .non)<|zC .Is) zD<|f2 (f1 yN<|z9 wR "size") (f1 xj<|z9 wR "size") zp)
def Zs:B_:=(Zm (XD 0 Zh "whole" zj)<|Zm (XD 0 Xc "back" zB)<|Zm (XD 0 ZF "wait" zA)<|Zm (XD 0 Wx "turn" zT)<|Zm (XD 0 TB "one" yN)<|Zm (XD 0 Wl "other" xj)<|Zm (XD 0 yF "deep" rY)<|XD 0 wR "size" qi)
def yg(c:Str):Fn:=sY c 7 7 Zs
noncomputable abbrev BH:List Str:=["value"]
def GE:SF:=(zx<|ze (aC zk<|aC zk<|aC (fC .non)<|aC (fC<|.bl false)<|aC (fC .non)<|aC (fC .non) aN)<|yg "Knot")
def WB:Fn:=xD 1 1 GE
noncomputable abbrev NB:List Str:=["self","one","other"]
def Uu:SF:=(zx<|f2 (f2 (f1 zk<|z9 P8 "table") zj zw) zB zw)
def XO:Fn:=xD 3 3 Uu
def Qr:List (Str×Fn):=[("Ways",XO)]
noncomputable abbrev BY:List Str:=["way","one","other"]
def GS:SF:=(zx<|ze (aC (vR Qr "join" zk<|aC (f1 zj<|z9 Zh "whole")<|aC (f1 zB<|z9 Zh "whole") aN)<|aC (vR Qr "join" zk<|aC (f1 zB<|z9 Xc "back")<|aC (f1 zj<|z9 Xc "back") aN)<|aC (fC .non)<|aC (fC<|.bl false)<|aC zj w6)<|yg "Knot")
def yp:Fn:=xD 3 3 GS
noncomputable abbrev Kp:List Str:=["way","row","half"]
def GM(self:Fn):SF:=(zh (xg (fT<|f2 (fP we yV) zM<|zC .Eq) (zx<|fC .non) yT)<|zh (xg (fT<|f2 (fP we yV) zD<|zC .Eq) (zx<|ze (aC (f2 zj zM zw) aN) WB) yT)<|zh (zm true 2<|f2 (fP we yV) yE zy)<|zx<|ze (aC zk<|aC (ze (aC zk<|aC (XE zj oN (oS zB) Ww) aN) self)<|aC (ze (aC zk<|aC (XE zj (oS zB) oN Ww) aN) self) aN) yp)
def wY:Nat->Fn
 |0=>λ_=>none
 |n+1=>xD 3 2<|GM<|wY n
noncomputable abbrev BG:List Str:=["tree"]
def Kl:SF:=(zx<|Aw (fT<|f2 zk (fC .non)<|zC .Is) zM<|f1 zk<|z9 wR "size")
def vY:Fn:=xD 1 1 Kl
noncomputable abbrev Pb:List Str:=["self"]
def XR:SF:=(zx<|f1 zk<|z9 Vm "neutral")
def ZX:Fn:=xD 1 1 XR
def Tb:List (Str×Fn):=[("Ways",ZX)]
noncomputable abbrev MU:List Str:=["way","tree"]
def Tn:SF:=(zx<|Aw (fT<|f2 zj (fC .non)<|zC .Is) (vR Tb "nothing" zk aN)<|f1 zj<|z9 Zh "whole")
def Vg:Fn:=xD 2 2 Tn
noncomputable abbrev Gq:List Str:=["self","one","other"]
abbrev B9:EF:=(zX (xZ zk) [none,some 1] xC yD<|f2 zj zk zw)
def W5:SF:=(zx<|fP (aC (zX (XB<|aC zj w6) [none,none] (gT 2<|yI xC<|yI (gN 1) Yq) yD<|fP (aC B9 aN) tupP) aN) tupP)
def Yi:Fn:=xD 3 3 W5
def GR:List (Str×Fn):=[("Ways",Yi)]
noncomputable abbrev LX:List Str:=["way","one","other"]
def V_:SF:=(zh (xg (fT<|f2 zj (fC .non)<|zC .Is) (zx zB) yT)<|zh (xg (fT<|f2 zB (fC .non)<|zC .Is) (zx zj) yT)<|zx<|vR GR "behind" zk<|aC zj w6)
def Y2:Fn:=xD 3 3 V_
noncomputable abbrev NV:List Str:=["self","wait","value","many"]
def UF:SF:=(zx<|f2 (f2 zj (f2 zA (f1 zk<|z9 Wv "around") zJ) zw) zB zw)
def XT:Fn:=xD 4 4 UF
def Rx:List (Str×Fn):=[("Ways",XT)]
noncomputable abbrev M5:List Str:=["way","tree","wait","whole","back"]
abbrev oY:AF:=(aC (f1 zj<|z9 TB "one")<|aC (f1 zj<|z9 Wl "other") aN)
def P7:SF:=(zh (xg (fT<|f2 zj (fC .non)<|zC .Is) (zx<|fC .non) yT)<|zh (zm true 3<|vR Rx "made" zk<|aC zB<|aC (f1 zj<|z9 Zh "whole")<|aC (f1 zj<|z9 wR "size") aN)<|zh (xg (fT<|f2 (f1 zj<|z9 yF "deep") zM<|zC .Eq) (zx<|ze ZZ WB) yT)<|zh (zm true 4<|vR Rx "made" zk<|aC zB<|aC (f1 zj<|z9 Xc "back")<|aC (f1 zj<|z9 wR "size") aN)<|zx<|ze (aC zA<|aC zT<|aC (ze (aC zk<|aC (f1 zj<|z9 ZF "wait") w6) Y2)<|aC (f1 zj<|z9 Wx "turn") oY)<|yg "Knot")
def Za:Fn:=xD 5 3 P7
noncomputable abbrev LA:List Str:=["way","tree"]
def Qn:SF:=(zh (xg (fT<|f2 zj (fC .non)<|zC .Is) (zx<|fC .non) yT)<|zx<|ze (aC (f1 zj<|z9 Xc "back")<|aC (f1 zj<|z9 Zh "whole")<|aC (f1 zj<|z9 ZF "wait")<|aC (BU<|f1 zj<|z9 Wx "turn") oY)<|yg "Knot")
def xU:Fn:=xD 2 2 Qn
noncomputable abbrev MR:List Str:=["way","knot","one","other"]
abbrev pI:SF:=(zh (zm true 2<|ze (aC zk<|aC zB<|aC (f1 zj<|z9 ZF "wait") aN) Za)<|zm true 3<|ze (aC zk<|aC zA<|aC (f1 zj<|z9 ZF "wait") aN) Za)
def RS:SF:=(zh (zm true 2<|f1 zj<|z9 TB "one")<|zh (zm true 3<|f1 zj<|z9 Wl "other")<|zh (xg (fT<|f2 (f1 zj<|z9 ZF "wait") (fC .non)<|zC .IsNot) pI yT)<|zh (xg (fT<|f1 zj<|z9 Wx "turn") (zx<|yh<|dC (ze (aC zk ZZ) xU)<|dC (ze (aC zk w6) xU) dN) yT)<|zx<|yh<|dC zB<|dC zA dN)
def wU:Fn:=xD 4 2 RS
noncomputable abbrev Gz:List Str:=["way","one","other","parts","inner"]
abbrev uw:SF:=(zm true 3<|ze (aC zk we) wU)
def WQ:SF:=(zh uw<|zh (xg (fT<|f2 (f1 (f2 zA zM zw)<|z9 yF "deep") (f1 (f2 zA zD zw)<|z9 yF "deep")<|zC .GtE) (zx<|ze (aC zk<|aC (f2 zA zM zw)<|aC (ze (aC zk<|aC (f2 zA zD zw) w6) yp) aN) yp) yT)<|zh (zm true 4<|ze (aC zk<|aC (f2 zA zD zw) aN) wU)<|zx<|ze (aC zk<|aC (ze (aC zk<|aC (f2 zA zM zw)<|aC (f2 zT zM zw) aN) yp)<|aC (ze (aC zk<|aC (f2 zT zD zw) w6) yp) aN) yp)
def Ym:Fn:=xD 5 3 WQ
noncomputable abbrev Pv:List Str:=["way","one","other","parts","inner"]
def XI:SF:=(zh (zm true 3<|ze (aC zk w6) wU)<|zh (xg (fT<|f2 (f1 (f2 zA zD zw)<|z9 yF "deep") (f1 (f2 zA zM zw)<|z9 yF "deep")<|zC .GtE) (zx<|ze (aC zk<|aC (ze (aC zk<|aC zj<|aC (f2 zA zM zw) aN) yp)<|aC (f2 zA zD zw) aN) yp) yT)<|zh (zm true 4<|ze (aC zk<|aC (f2 zA zM zw) aN) wU)<|zx<|ze (aC zk<|aC (ze (aC zk<|aC zj<|aC (f2 zT zM zw) aN) yp)<|aC (ze (aC zk<|aC (f2 zT zD zw)<|aC (f2 zA zD zw) aN) yp) aN) yp)
def ZS:Fn:=xD 5 3 XI
noncomputable abbrev OP:List Str:=["way","one","other"]
abbrev nE:TF:=(fT<|f2 (f1 zj<|z9 yF "deep") (f2 (f1 zB<|z9 yF "deep") zD zp)<|zC .Gt)
abbrev rC:TF:=(fT<|f2 (f1 zB<|z9 yF "deep") (f2 (f1 zj<|z9 yF "deep") zD zp)<|zC .Gt)
def Ma:SF:=(zh (xg nE (zx<|ze (aC zk<|aC zj w6) Ym) yT)<|zh (xg rC (zx<|ze (aC zk<|aC zj w6) ZS) yT)<|zx<|ze (aC zk<|aC zj w6) yp)
def Qa:Fn:=xD 3 3 Ma
noncomputable abbrev Wd:List Str:=["way","one","other","parts"]
def Wn(self:Fn):SF:=(zh (xg (fT<|f2 zj (fC .non)<|zC .Is) (zx zB) yT)<|zh (xg (fT<|f2 zB (fC .non)<|zC .Is) (zx zj) yT)<|zh (xg nE (zh uw<|zx<|ze (aC zk<|aC (f2 zA zM zw)<|aC (ze (aC zk<|aC (f2 zA zD zw) w6) self) aN) Qa) yT)<|zh (xg rC (zh (zm true 3<|ze (aC zk w6) wU)<|zx<|ze (aC zk<|aC (ze (aC zk<|aC zj<|aC (f2 zA zM zw) aN) self)<|aC (f2 zA zD zw) aN) Qa) yT)<|zx<|ze (aC zk<|aC zj w6) yp)
def ym:Nat->Fn
 |0=>λ_=>none
 |n+1=>xD 4 3<|Wn<|ym n
noncomputable abbrev Uc:List Str:=["way","tree","place","parts","ahead","pair"]
def Ux(self:Fn):SF:=(zh (xg (fT<|f2 zB zM<|zC .Eq) (zx<|yh<|dC (fC .non)<|dC zj dN) yT)<|zh (xg (fT<|f2 zB (f1 zj<|z9 wR "size")<|zC .Eq) (zx<|yh<|dC zj<|dC (fC .non) dN) yT)<|zh uw<|zh (zm true 4<|f1 (f2 zA zM zw)<|z9 wR "size")<|zh (xg (fT<|f2 zB zT<|zC .Lt) (zh (zm true 5<|ze (aC zk<|aC (f2 zA zM zw) w6) self)<|zx<|yh<|dC (f2 yN zM zw)<|dC (ze (aC zk<|aC (f2 yN zD zw)<|aC (f2 zA zD zw) aN)<|ym 20) dN) yT)<|zh (zm true 5<|ze (aC zk<|aC (f2 zA zD zw)<|aC (f2 zB zT yX) aN) self)<|zx<|yh<|dC (ze (aC zk<|aC (f2 zA zM zw)<|aC (f2 yN zM zw) aN)<|ym 20)<|dC (f2 yN zD zw) dN)
def xJ:Nat->Fn
 |0=>λ_=>none
 |n+1=>xD 6 3<|Ux<|xJ n
noncomputable abbrev Gr:List Str:=["place","least","most"]
def Yk:SF:=(xg (vL<|fT<|ze (aC zk<|aC zj w6) w5) CV yT)
def yW:Fn:=xD 3 3 Yk
noncomputable abbrev Lh:List Str:=["size"]
def Y_:SF:=(xg (fT<|f2 zk (fC<|.int 300)<|zC .Gt) CV yT)
def vG:Fn:=xD 1 1 Y_
noncomputable abbrev uq:List Str:=["rows"]
def Hx:SF:=(zx<|fP (aC (zX (xZ zk) [none] xC yD<|fP w9 tupP) aN) tupP)
def LK:Fn:=xD 1 1 Hx
noncomputable abbrev M6:List Str:=["_law_script","_law_k","_law_most","_law_x","_law_found","_law_j"]
abbrev oo:EF:=(f2 (fC<|.int 1000) (f2 (fC<|.int 10) (fC<|.int 64)<|Z4 .Pow) zS)
abbrev nX:EF:=(f2 (f2 (f2 (f2 zk zj zw) zB zJ) (f2 (fC<|.int 7919) (fC<|.int 15)<|Z4 .Pow) zS) zB zJ)
abbrev rO:EF:=(f2 (f2 (f2 zj zj zS) (f2 (fC<|.int 7) zj zS) zp) (fC<|.int 11) zp)
abbrev qV:SF:=(zm true 3<|f2 zA (f2 (f2 (f2 zk (f2 zj (fP w9 yV) zJ) zw) (fC<|.int 1000003) zJ) (f2 (f2 yE zj zS) zD zp) zS) zp)
abbrev qo:SF:=(zm true 3<|f2 (f2 (f2 (f2 (f2 zA zA zS) (f2 (fC<|.int 48271) zA zS) zp) (f2 (fC<|.int 69621) yN zS) zp) zj zp) (fC<|.int 2147483629) zJ)
abbrev rV:SF:=(zm true 4<|f2 (f2 zT (fC<|.int 998244353) zS) (f2 (f2 zA (fC<|.int 16807) zS) (fC<|.int 2147483587) zJ) zp)
def P9:SF:=(zh (zm true 2 oo)<|zh (xg (fT<|f2 zj (fP w9 yV)<|zC .Lt) (zx nX) yT)<|zh (zm true 3 rO)<|zh (xg (fT<|f2 zk (ya dN)<|zC .NotEq) qV yT)<|zh (zm true 4 zM)<|zh (yu (yt (aC Gs aN) yM) (gN 5)<|zh qo rV)<|zx<|f2 zT zB zJ)
def ye:Fn:=xD 6 2 P9
noncomputable abbrev LR:List Str:=["_law_x","_law_sizes","_law_found","_law_size"]
def Qp:SF:=(zh (zm false 2<|ya dN)<|zh (yu (XF zj) (gN 3)<|zh (yk<|Zn 2 (dC (f2 zk zA zJ) dN) ZD)<|zm true 0<|f2 zk zA zy)<|zx zB)
def yq:Fn:=xD 4 2 Qp
noncomputable abbrev Nm:List Str:=["_law_x","_law_many","_law_letters","_law_size","_law_at","_law_step_here","_law_names_here","_law_k","_law_name","_law_j","_law_turn"]
abbrev o5:EF:=(ze (aC zk<|aC (ya<|dC Gs<|dC (fC<|.int 840)<|dC Gs dN) aN) yq)
abbrev nP:EF:=(f2 (ya<|dC zM<|dC yE<|dC Z5<|dC Ci<|dC Gs<|dC (fC<|.int 10)<|dC (fC<|.int 14)<|dC (fC<|.int 16) dN) yN zw)
abbrev uN:EF:=(f2 zk (f2 (fC<|.int 53761) (f2 (f2 (fC<|.int 26) (fV 9) zS) (fV 9) zS) zp) zy)
abbrev uu:SF:=(zm true 10<|f2 (fV 10) (f2 YN (f2 yN zD zp) zS) zp)
abbrev nh:SF:=(zm true 8<|f2 (fV 8) (f2 zB (f2 (fV 10) (fC<|.int 26) zJ) zw) zp)
def UE:SF:=(zh (zm true 2<|fC<|.str "abcdefghijklmnopqrstuvwxyz")<|zh (YV o5<|gT 3<|yI (gN 3)<|yI X4<|yI (gN 5) Yq)<|zh (zm true 5 nP)<|zh (zm true 4<|f2 zT (f2 zA zD zp) zJ)<|zh (zm false 6<|ya dN)<|zh (yu (yt we yM) (gN 7)<|zh (zm true 8<|fC<|.str "")<|zh (yu (yt (aC (f2 zA zD zp) aN) yM) (gN 9)<|zh (zm true 10 uN)<|zh (xg (fT<|f2 (fV 9) zT<|zC .Eq) uu yT) nh)<|yk<|Zn 6 (dC (fV 8) dN) ZD)<|zx xj)
def Yd:Fn:=xD 11 2 UE
noncomputable abbrev UT:List Str:=["_law_part","_law_a","_law_b","_law_kind","_law_size"]
abbrev uk:EF:=(ya<|dC (f2 zB yE zy)<|dC (f2 zB yE zJ) dN)
def Xd:SF:=(zh (YV zk<|gT 2<|yI (gN 3)<|yI X4 Yq)<|zh (xg (fT<|f2 zA zM<|zC .Eq) (zx<|f2 (f2 zj zB zp) zT zJ) yT)<|zh (xg (fT<|f2 zA zD<|zC .Eq) (zx<|fP (aC zj w6) Gg) yT)<|zh (xg (fT<|f2 zA yE<|zC .Eq) (zx<|f2 (ya<|dC zB<|dC zj dN) (fP (aC (f2 zB zM<|zC .Eq) aN) VP) zw) yT)<|zx<|f2 (f2 yE (f2 uk (f2 zj yE zy) zw) zS) (f2 uk (f2 zj yE zJ) zw) zp)
def wO:Fn:=xD 5 3 Xd
noncomputable abbrev UP:List Str:=["_law_part","_law_x","_law_c","_law_a","_law_kind","_law_size"]
abbrev oX:EF:=(f2 zj (f2 (ya<|dC zD<|dC ZY<|dC (fC<|.int 9)<|dC (fC<|.int 27)<|dC (fC<|.int 81)<|dC (fC<|.int 243)<|dC (fC<|.int 729) dN) zk zw) zy)
def XA:SF:=(zh (YV zk<|gT 2<|yI X4<|yI (gN 5) Yq)<|zh (xg (fT<|f2 zT zM<|zC .Eq) (zx<|f2 (f2 (f2 (f2 zj yN zJ) zA zS) (f2 (f2 (f2 zj yN zy) yN zJ) zB zS) zp) yN zJ) yT)<|zh (xg (fT<|f2 zT zD<|zC .Eq) (zx<|fP (aC (f2 yN zD yX)<|aC (fP (aC (zX (yt ZZ yM) [none,some 1] xC yD<|f2 oX ZY zJ) aN) tR) aN) T5) yT)<|zh (xg (fT<|f2 zT yE<|zC .Eq) (zx<|f2 (fP (aC (f2 zA zM<|zC .Gt) aN) VP) (f2 zD (f2 (f2 zj (f2 (ya<|dC zD<|dC Ci<|dC (fC<|.int 36)<|dC (fC<|.int 216)<|dC (fC<|.int 1296)<|dC (fC<|.int 7776)<|dC (fC<|.int 46656) dN) zA zw) zy) (fP (aC zD<|aC (f2 yN zD yX) aN) Gg) zJ) zp) zS) yT)<|zh (xg (fT<|f2 (f2 zj yE zJ) zM<|zC .Eq) (zx zA) yT)<|zx<|f2 (f2 (f2 yE (f2 zD (f2 zA yE zJ) yX) zS) zD zp) (f2 zA yE zy) yX)
def xq:Fn:=xD 6 4 XA
noncomputable abbrev Nx:List Str:=["_law_x","_law_some"]
def UA:SF:=(zh (zm true 1<|ya<|dC (ya<|dC (yh<|dC zM<|dC ZY dN) dN)<|dC (ya<|dC (yh<|dC yE<|dC ZY dN) dN)<|dC (ya<|dC (yh<|dC zD<|dC Z5 dN) dN)<|dC (ya<|dC (yh<|dC zM<|dC yE dN)<|dC (yh<|dC yE<|dC yE dN) dN)<|dC (ya<|dC (yh<|dC ZY<|dC Z5 dN) dN)<|dC (ya<|dC (yh<|dC yE<|dC Z5 dN) dN)<|dC (ya<|dC (yh<|dC zM<|dC yE dN)<|dC (yh<|dC zD<|dC ZY dN) dN)<|dC (ya<|dC (yh<|dC zM<|dC H0 dN) dN) dN)<|zh (zm true 1<|f2 zj (ya<|dC (ya<|dC (yh<|dC yE<|dC yE dN)<|dC (yh<|dC ZY<|dC Z5 dN) dN)<|dC (ya<|dC (yh<|dC zD<|dC yE dN)<|dC (yh<|dC yE<|dC ZY dN) dN)<|dC (ya<|dC (yh<|dC zM<|dC Z5 dN) dN)<|dC (ya<|dC (yh<|dC ZY<|dC Z5 dN) dN)<|dC (ya<|dC (yh<|dC zD<|dC Ci dN) dN)<|dC (ya<|dC (yh<|dC zM<|dC yE dN)<|dC (yh<|dC ZY<|dC Z5 dN) dN) dN) zp)<|zh (zm true 1<|f2 zj (ya<|dC (ya<|dC (yh<|dC yE<|dC (fC<|.int 7) dN) dN)<|dC (ya<|dC (yh<|dC zM<|dC Ci dN) dN) dN) zp)<|zx<|f2 zj (f2 zk (fC<|.int 16) zJ) zw)
def Wg:Fn:=xD 2 1 UA
noncomputable abbrev NZ:List Str:=["_law_parts_here","_law_value","_law_found","_law_kind","_law_size"]
def UH:SF:=(zh (zm false 2<|ya dN)<|zh (yu (XF zk) (gT 2<|yI (gN 3)<|yI X4 Yq)<|zh (yk<|Zn 2 (dC (f2 zj zT zJ) dN) ZD)<|zm true 1<|f2 zj zT zy)<|zx zB)
def X5:Fn:=xD 5 2 UH
noncomputable abbrev E1:List Str:=["_law_parts_here","_law_row_here","_law_value","_law_part","_law_one"]
abbrev tw:AF:=(aC (XE zk oN (oS<|f1 zD LW) s_)<|aC (XE zj oN (oS<|f1 zD LW) s_) aN)
abbrev pA:SF:=(zm true 2<|f2 (f2 zB (f2 zA zD zw) zS) zT zp)
def RR:SF:=(zh (zm true 2 zM)<|zh (yu (XB tw) (gT 2<|yI (gN 3)<|yI X4 Yq) pA)<|zx zB)
def xh:Fn:=xD 5 2 RR
noncomputable abbrev N8:List Str:=["_law_x","_law_n","_law_order_here","_law_k"]
abbrev rZ:SF:=(yk<|Zn 2 (dC (f2 zk (f2 zA zD zp) zJ)<|dC zA dN) Bx)
def UC:SF:=(zh (zm false 2<|ya dN)<|zh (yu (yt we yM) (gN 3)<|zh rZ<|zm true 0<|f2 zk (f2 zA zD zp) zy)<|zx zB)
def X9:Fn:=xD 4 2 UC
noncomputable abbrev Gc:List Str:=["_law_script","_law_start","_law_parts_here","_law_n","_law_m","_law_order_here","_law_values","_law_join","_law_a","_law_deeds","_law_names_here","_law_k","_law_x","_law_rows","_law_c","_law_signs","_law_nothing"]
abbrev p8:SF:=(zm true 2<|ze (aC (ze (aC zk we) ye) aN) Wg)
abbrev qL:SF:=(zm true 3<|f2 (ze (aC zB<|aC (zX (xZ zB) [none,none] (gT 2<|yI xC<|yI (gN 1) Yq) yD<|f2 zj zD yX) aN) xh) zD zp)
abbrev rL:SF:=(zm true 4<|f2 zD (f2 (f2 (ze (aC zk we) ye) (fC<|.int 16) zy) Z5 zJ) zp)
abbrev q5:SF:=(xg (fT<|f2 (f2 (f2 zB zM zw) zM zw) zM<|zC .Eq) (zm true 4<|f2 (f2 zB zM zw) zD zw) yT)
abbrev nM:SF:=(zm true 5<|ze (aC (ze (aC zk<|aC (f2 zj zD zp) aN) ye) ZZ) X9)
abbrev qh:SF:=(zm true 6<|zX (yt ZZ yM) [none,some 2,some 5] xC yD<|ze (aC zj<|aC (Ka .lst zB w9 E6) aN) X5)
abbrev D8:GF:=(gT 3<|yI xC<|yI (gN 1)<|yI (gN 2) Yq)
abbrev kh:SF:=(yk<|Zn 7 (dC (zX (xZ xj) [none,some 2,some 8] xC yD<|ze (aC zj<|aC (zX (Fm<|aC zj<|aC zB w9) [none,none,none] D8 yD<|ze (aC zk<|aC zj w6) wO) aN) xh) dN) ZD)
abbrev pR:SF:=(zm true 10<|ze (aC (ze (aC zk<|aC (f2 zj yE zp) aN) ye)<|aC (fC<|.int 7) aN) Yd)
abbrev nu:EF:=(ze (aC zk<|aC (f2 (f2 zj Z5 zp) Tj zp) aN) ye)
abbrev lM:SF:=(yk<|Zn 13 (dC (zX (xZ xj) [none,some 2,some 12,some 14] xC yD<|ze (aC zj<|aC (zX (XB<|aC zj w9) [none,none,some 2,some 3] (gT 2<|yI xC<|yI (gN 1) Yq) yD<|ze (aC zk<|aC zB<|aC zA we) xq) aN) xh) dN) ZD)
abbrev pX:EF:=(yh<|dC (f2 (fV 10) Tj zw)<|dC (zX (xZ<|fV 13) [none,some 5] xC yD B9) dN)
abbrev jm:SF:=(zh (zm true 12 nu)<|zh (zm false 13<|ya dN)<|zh (yu (yt (aC zT aN) yM) (gN 14) lM)<|yk<|Zn 9 (dC pX dN) ZD)
abbrev qR:SF:=(yu (yt (aC (f2 zD (f2 (ze (aC zk<|aC (f2 zj ZY zp) aN) ye) Z5 zJ) zp) aN) yM) (gN 11) jm)
abbrev nv:EF:=(f2 (ze (aC zk<|aC (f2 (f2 zj (fC<|.int 9) zp) Tj zp) aN) ye) (fC<|.int 7) zy)
abbrev nK:TF:=(fT<|f2 (f2 (f2 zj (f2 (ya<|dC zD<|dC yE<|dC Z5<|dC Gs<|dC (fC<|.int 16)<|dC (fC<|.int 32)<|dC (fC<|.int 64)<|dC (fC<|.int 128) dN) zk zw) zy) yE zJ) zD<|zC .Eq)
abbrev j9:SF:=(zh (zm true 12 nv)<|yk<|Zn 15 (dC (yh<|dC (f2 (fV 10) (f2 Z5 Tj zp) zw)<|dC (zX (yt ZZ yM) [none,some 12] xC nK zk) dN) dN) ZD)
abbrev oO:SF:=(yu (yt (aC (f2 zD (f2 (ze (aC zk<|aC (f2 zj Gs zp) aN) ye) ZY zJ) zp) aN) yM) (gN 11) j9)
abbrev qX:SF:=(zm true 16<|f2 yN (ze (aC zB<|aC (zX (xZ zB) [none,none] (gT 2<|yI xC<|yI (gN 1) Yq) yD<|fP (aC (f2 zk ZY<|zC .Eq) aN) VP) aN) xh) zw)
abbrev oW:DF:=(dC zA<|dC zT<|dC YN<|dC (fV 16)<|dC (fV 9)<|dC (fV 15) dN)
def WW:SF:=(zh p8<|zh qL<|zh rL<|zh q5<|zh nM<|zh qh<|zh (zm false 7<|ya dN)<|zh (yu (XF xj) (gN 8) kh)<|zh (zm false 7<|zX (xZ YN) [none,some 5] xC yD B9)<|zh (zm false 9<|ya dN)<|zh pR<|zh qR<|zh (zm false 15<|ya dN)<|zh oO<|zh qX<|zx<|yh oW)
def Yn:Fn:=xD 17 2 WW
noncomputable abbrev MO:List Str:=["_law_algebra_here","_law_n","_law_m","_law_join","_law_nothing","_law_deeds","_law_signs"]
abbrev Jw:SF:=(YV zk<|gT 6<|yI (gN 1)<|yI (gN 2)<|yI (gN 3)<|yI X4<|yI (gN 5)<|yI (gN 6) Yq)
abbrev qp:SF:=(zm true 5<|zX (xZ yN) [none,none] (gT 2<|yI xC<|yI (gN 1) Yq) yD<|yh<|dC zk<|dC (zX (xZ zj) [none] xC yD<|fP w9 lstP) dN)
def Tw:SF:=(zh Jw<|zh qp<|zx<|yh<|dC zj<|dC zB<|dC (zX (xZ zA) [none] xC yD<|fP w9 lstP)<|dC zT<|dC yN<|dC (zX (xZ xj) [none,none] (gT 2<|yI xC<|yI (gN 1) Yq) yD<|yh<|dC zk<|dC (fP we lstP) dN) dN)
def YZ:Fn:=xD 7 1 Tw
noncomputable abbrev UX:List Str:=["_law_script","_law_cells","_law_odd","_law_n","_law_m","_law_deeds","_law_signs","_law_nothing","_law_names_here","_law_table","_law_join","_law_told","_law_k","_law_rows","_law_held","_law_bits"]
abbrev qk:EF:=(f2 (fC<|.int 12) (fP (aC (XE zk oN (oS<|fC<|.int 12) Ww) aN) yV) yX)
abbrev jc:EF:=(f2 (zX (xZ<|XE zk oN (oS<|fC<|.int 12) Ww) [none] xC yD zk) (f2 (ya<|dC zM dN) qk zS) zp)
abbrev qy:EF:=(ze (aC (f2 zj zM zw)<|aC (ya<|dC yE<|dC Gs<|dC Ci<|dC (fC<|.int 7)<|dC H0<|dC Gs dN) aN) yq)
abbrev qP:SF:=(YV qy<|gT 6<|yI (gN 2)<|yI (gN 3)<|yI X4<|yI (gN 5)<|yI (gN 6)<|yI (gN 7) Yq)
abbrev nt:SF:=(zm true 8<|ze (aC (ze (aC zk<|aC (fC<|.int 12) aN) ye)<|aC (fC<|.int 10) aN) Yd)
abbrev qZ:SF:=(zm true 9<|ze (aC (f2 zj zD zw)<|aC (f2 (ya<|dC zA dN) (f2 zA zA zS) zS) aN) yq)
abbrev oZ:EF:=(XE zj (oS<|f2 zB zk zS) (oS<|f2 (f2 zB zk zS) zB zp) Ww)
abbrev nR:SF:=(zm true 10<|zX (yt ZZ yM) [none,some 9,some 3] xC yD oZ)
abbrev kP:SF:=(zh (zm true 13<|ze (aC (f2 zj (f2 yE (fV 12) zp) zw)<|aC (f2 (ya<|dC zA dN) (f2 zA zT zS) zS) aN) yq)<|yk<|Zn 11 (dC (yh<|dC (f2 (fV 8) (fV 12) zw)<|dC (zX (yt (aC zT aN) yM) [none,some 13,some 3] xC yD oZ) dN) dN) ZD)
abbrev kK:SF:=(zh (zm true 15<|ze (aC (f2 zj (f2 Gs (fV 12) zp) zw)<|aC (f2 (ya<|dC yE dN) zA zS) aN) yq)<|yk<|Zn 14 (dC (yh<|dC (f2 (fV 8) (f2 (fC<|.int 9) (fV 12) yX) zw)<|dC (zX (yt ZZ yM) [none,some 15] xC (fT<|f2 (f2 zj zk zw) zD<|zC .Eq) zk) dN) dN) ZD)
abbrev q8:DF:=(dC zA<|dC zT<|dC (fV 10)<|dC (f2 YN zA zJ)<|dC Tj<|dC (fV 14) dN)
def Xk:SF:=(zh (zm true 1 jc)<|zh qP<|zh (zm true 3<|f2 zA zD zp)<|zh (zm true 4<|f2 zT zD zp)<|zh nt<|zh qZ<|zh nR<|zh (zm false 11<|ya dN)<|zh (yu (yt BE yM) (gN 12) kP)<|zh (zm false 14<|ya dN)<|zh (yu (yt (aC xj aN) yM) (gN 12) kK)<|zx<|yh q8)
def wM:Fn:=xD 16 1 Xk
noncomputable abbrev M4:List Str:=["_law_m","_law_join","_law_rows","_law_a","_law_b","_law_i","_law_j","_law_one","_law_other"]
abbrev ml:SF:=(zh (zm true 7<|f2 (f2 zB (f2 (f2 yN xj zp) zk zJ) zw) (f2 (f2 zj zA zw) zT zw) zw)<|zh (zm true 8<|f2 (f2 zj (f2 (f2 zB yN zw) zA zw) zw) (f2 (f2 zB xj zw) zT zw) zw)<|xg (fT<|f2 YN (fV 8)<|zC .NotEq) (zx<|fC<|.bl false) yT)
def Ti:SF:=(zh (yu (yt w9 yM) (gN 5)<|yu (yt w9 yM) (gN 6) ml)<|zx<|fC<|.bl true)
def Vs:Fn:=xD 9 5 Ti
noncomputable abbrev Gy:List Str:=["_law_algebra_here","_law_n","_law_m","_law_join","_law_nothing","_law_deeds","_law_signs","_law_p","_law_a","_law_b","_law_name","_law_rows","_law_empty"]
abbrev ni:SF:=(YV (fP (aC YN we) JA)<|gT 2<|yI (gN 8)<|yI (gN 9) Yq)
abbrev kx:SF:=(xg (vL<|fT<|ze (aC zB<|aC zA<|aC Tj<|aC (fV 8)<|aC (fV 9) aN) Vs) (zx<|fC<|.bl false) yT)
abbrev lu:SF:=(zh ni<|zh (xg (P0 (fT<|f2 (f2 (f2 zA zT zw) (fV 8) zw) (fV 8)<|zC .NotEq)<|fT<|f2 (f2 (f2 zA (fV 8) zw) zT zw) (fV 8)<|zC .NotEq) (zx<|fC<|.bl false) yT)<|zh (xg (fT<|f2 (f2 zA (f2 (f2 zA (fV 8) zw) (fV 9) zw) zw) (zX (xZ<|f2 zA (fV 9) zw) [none,some 3,some 8] xC yD<|f2 (f2 zj zB zw) zk zw)<|zC .NotEq) (zx<|fC<|.bl false) yT)<|yu (XF yN) (gT 2<|yI (gN 10)<|yI (gN 11) Yq) kx)
def W_:SF:=(zh Jw<|zh (yu (yt (aC (f2 zj zj zS) aN) yM) (gN 7) lu)<|zh (zm true 12<|zX (xZ yN) [none,none,some 4] (gT 2<|yI xC<|yI (gN 1) Yq) (fT<|f2 (f2 (f2 zj zM zw) zB zw) zB<|zC .NotEq) zk)<|zx<|T8 (f2 (fV 12) (ya dN)<|zC .Eq)<|T8 (f2 yN (ya dN)<|zC .NotEq)<|f2 xj (ya dN)<|zC .NotEq)
def Yo:Fn:=xD 13 1 W_
noncomputable abbrev Sm:List Str:=["_law_script","_law_algebra_here"]
abbrev rJ:TF:=(Bb (fT<|f2 (fP w9 yV) zM<|zC .Gt)<|fT<|f2 (f2 (f2 zk zM zw) yE zJ) zD<|zC .Eq)
def GT:SF:=(zh (xg rJ (zh (zm true 1<|ze w9 wM)<|xg (fT<|ze we Yo) (zx zj) yT) yT)<|zx<|ze (aC zk<|aC zM aN) Yn)
def Wz:Fn:=xD 2 1 GT
noncomputable abbrev Nv:List Str:=["_law_algebra_here","_law_row_here","_law_value","_law_k","_law_one"]
abbrev pP:SF:=(zm true 2<|f2 (ya<|dC (f2 (f2 (f2 zk yE zw) zB zw) zT zw)<|dC zT dN) (fP (aC (f2 zA zM<|zC .Eq) aN) VP) zw)
def Uw:SF:=(zh (zm true 2<|f2 zk ZY zw)<|zh (yu (Ie zj) (gT 2<|yI (gN 3)<|yI X4 Yq) pP)<|zx zB)
def Zj:Fn:=xD 5 2 Uw
noncomputable abbrev EG:List Str:=["_law_algebra_here","_law_name","_law_row_here","_law_rows"]
def TQ:SF:=(zh (zm true 3<|f2 (fP (aC (f2 zk Z5 zw) aN) Pg) zj zw)<|zx<|zX (xZ zB) [none,some 3,some 0] xC yD<|f2 (f2 zj (f2 zD (f2 zB zD zw) zJ) zw) zk zw)
def Y8:Fn:=xD 4 3 TQ
noncomputable abbrev Sj:List Str:=["_law_x","_law_n","_law_most","_law_many"]
abbrev qI:TF:=(fT<|f2 (f2 (f2 zk (fC<|.int 64) zy) Gs zJ) zD<|zC .Eq)
abbrev qw:SF:=(xg qI (zm true 3<|f2 (fC<|.int 20) (f2 (f2 zk (fC<|.int 512) zy) (fC<|.int 40) zJ) zp) yT)
def GZ:SF:=(zh (zm true 3<|f2 zk (f2 zB zD zp) zJ)<|zh qw<|zx<|ze (aC (f2 zk (fC<|.int 32768) zy)<|aC (f2 (ya<|dC zj dN) zA zS) aN) yq)
def Q0:Fn:=xD 4 3 GZ
noncomputable abbrev US:List Str:=["_law_found","_law_due"]
def Xf:SF:=(zx<|T8 (Lm zk "int")<|T8 (BU<|Lm zk "bool")<|f2 zk zj<|zC .Eq)
def yw:Fn:=xD 2 2 Xf
noncomputable abbrev Lu:List Str:=["_law_x","_law_many","_law_one","_law_other","_law_kind"]
def Qm:SF:=(zh (YV (ze (aC zk<|aC (ya<|dC (fC<|.int 27720)<|dC (fC<|.int 27720)<|dC H0 dN) aN) yq)<|gT 3<|yI (gN 2)<|yI (gN 3)<|yI X4 Yq)<|zh (zm true 2<|f2 zB (f2 zj zD zp) zJ)<|zh (zm true 3<|f2 zA (f2 zj zD zp) zJ)<|zh (xg (fT<|f2 zT zM<|zC .Eq) (zx<|yh<|dC zM<|dC zj dN) yT)<|zh (xg (fT<|f2 zT zD<|zC .Eq) (zx<|yh<|dC zB<|dC (fP (aC (f2 zB zD zp) we) T5) dN) yT)<|zx<|yh<|dC (fP (aC zB ZZ) T5)<|dC (fP (aC zB ZZ) Gg) dN)
def ZC:Fn:=xD 5 2 Qm
noncomputable abbrev UO:List Str:=["self","make"]
abbrev Dy:EF:=(fP (aC (f1 zk<|z9 wD "trees") aN) yV)
def Xl:SF:=(zh (xg (vL<|fT<|ze (aC zj<|aC zM<|aC (f2 Dy zD yX) aN) w5) CV yT)<|zx<|f2 (f1 zk<|z9 wD "trees") zj zw)
def xt:Fn:=xD 2 2 Xl
noncomputable abbrev U7:List Str:=["self","thing"]
def Xn:SF:=(zx<|ze (aC zj<|aC zM<|aC (f2 (f1 zk<|z9 wR "size") zD yX) aN) w5)
def Zr:Fn:=xD 2 2 Xn
def Um:List (Str×Fn):=[("Ways",Zr)]
noncomputable abbrev WJ:List Str:=["self","thing"]
def wo:SF:=(xg (vL<|fT<|vR Um "is_value" (f1 zk<|z9 yL "way") we) CV yT)
def yn:Fn:=xD 2 2 wo
def ZM:List (Str×Fn):=[("Makes",xt)]
noncomputable abbrev WC:List Str:=["self","make","i","j","tree","pair","ahead"]
def Zy:SF:=(zh (zm true 4<|vR ZM "tree_at" zk we)<|zh (yk<|ze (aC zB<|aC zM<|aC (ze (aC zT aN) vY) aN) yW)<|zh (yk<|ze (aC zA<|aC zB<|aC (ze (aC zT aN) vY) aN) yW)<|zh (zm true 5<|ze (aC (f1 zk<|z9 yL "way")<|aC zT ZZ)<|xJ 20)<|zh (zm true 6<|ze (aC (f1 zk<|z9 yL "way")<|aC (f2 yN zM zw) w6)<|xJ 20)<|zx<|yh<|dC (f2 xj zM zw)<|dC (f2 xj zD zw)<|dC (f2 yN zD zw) dN)
def yo:Fn:=xD 7 4 Zy
noncomputable abbrev VL:List Str:=["self","tree"]
def ZH:VF:=(Zi (qH 0 1 wD "trees")<|Vo<|f2 (nj 0 wD "trees") zD yX)
def yC:List wA->O->Option (D×O):=JH 2 2 ZH
noncomputable abbrev Y9:List Str:=["self","ahead","stretch","rest"]
def vB:SF:=(zx<|MA<|ze (aC (f1 zk<|z9 yL "way")<|aC (ze (aC (f1 zk<|z9 yL "way")<|aC zj w6)<|ym 20) ZZ)<|ym 20)
def zO:Fn:=xD 4 4 vB
def xB:List (Str×Fn):=[("Makes",zO)]
def xF:List (Str×Fn):=[("Makes",yo)]
def y8:List (Str×Fn):=[("Makes",yn)]
noncomputable abbrev Xz:List Str:=["self","make","i","value","tree","parts"]
abbrev pw:EF:=(wB 0 xF "three_parts" (aC zj<|aC zB<|aC (f2 zB zD zp) aN))
abbrev nW:EF:=(wB 0 xB "three_together" (aC (f2 yN zM zw)<|aC (ze (aC (MB 0 yL "way")<|aC (ya<|dC zA dN) aN)<|wY 20)<|aC (f2 yN yE zw) aN))
def Xu:VF:=(Zi (zm true 4<|wB 0 ZM "tree_at" we)<|Zi (yk<|ze (aC zB<|aC zM<|aC (f2 (ze (aC zT aN) vY) zD yX) aN) yW)<|Zi (yk<|wB 0 y8 "check_value" ZZ)<|Zi (zm true 5 pw)<|Vo<|YA 0 "Makes" "keep" yC<|aC nW aN)
def xv:List wA->O->Option (D×O):=JH 6 4 Xu
noncomputable abbrev RW:List Str:=["self","thing"]
def X_:SF:=(zx<|T8 (Lm zj "str")<|f2 zj (f1 zk<|z9 YF "waits")<|zC .In)
def ZV:Fn:=xD 2 2 X_
noncomputable abbrev Te:List Str:=["self","deed"]
def XX:SF:=(zx<|f2 (f1 zk<|z9 YF "waits") zj zw)
def ZR:Fn:=xD 2 2 XX
def Vp:List (Str×Fn):=[("Ways",ZR)]
def Vi:List (Str×Fn):=[("Ways",ZV)]
noncomputable abbrev VI:List Str:=["self","make","i","j","deed","parts","stretch"]
abbrev C4:EF:=(wB 0 xF "three_parts" (aC zj<|aC zB ZZ))
abbrev rj:EF:=(wB 0 xB "three_together" (aC (f2 yN zM zw)<|aC xj<|aC (f2 yN yE zw) aN))
def Vz:VF:=(Zi (zm true 5 C4)<|Zi (xg (vL<|fT<|vR Vi "is_deed" (MB 0 yL "way")<|aC zT aN) CV yT)<|Zi (zm true 6<|ze (aC (MB 0 yL "way")<|aC (f2 yN zD zw)<|aC (vR Vp "wait_of" (MB 0 yL "way")<|aC zT aN) aN) Za)<|Vo<|YA 0 "Makes" "keep" yC<|aC rj aN)
def vE:List wA->O->Option (D×O):=JH 7 5 Vz
noncomputable abbrev X6:List Str:=["self","make","i","j","parts"]
abbrev nC:EF:=(wB 0 xB "three_together" (aC (f2 zT zM zw)<|aC (ze (aC (MB 0 yL "way")<|aC (f2 zT zD zw) aN) xU)<|aC (f2 zT yE zw) aN))
def Wh:VF:=(Zi (zm true 4 C4)<|Vo<|YA 0 "Makes" "keep" yC<|aC nC aN)
def xM:List wA->O->Option (D×O):=JH 5 4 Wh
noncomputable abbrev P_:List Str:=["_law_algebra_here","_law_makes","_law_rows","_law_x","_law_row_here","_law_make","_law_i","_law_j","_law_name"]
abbrev rG:SF:=(YV (ze (aC (f2 zA (fC<|.int 1000) zy)<|aC (fP (aC zT aN) yV) aN) ZC)<|gT 2<|yI (gN 6)<|yI (gN 7) Yq)
abbrev rE:SF:=(zm true 8<|f2 (f2 (f2 zk Z5 zw) (f2 (f2 zA (fC<|.int 7) zy) (fP (aC (f2 zk Z5 zw) aN) yV) zJ) zw) zM zw)
abbrev oF:TF:=(P0 (fT<|f2 (f2 zA ZY zJ) zD<|zC .Eq)<|fT<|f2 xj (fP (aC zT aN) yV)<|zC .Eq)
abbrev qd:EF:=(f2 (f2 (XE zT oN (oS xj) Ww) (XE (XE zT (oS xj) (oS YN) Ww) oN (oS<|f1 zD LW) s_) zp) (XE zT (oS YN) oN Ww) zp)
abbrev uW:EF:=(f2 (f2 zA H0 zy) (f2 zk zM zw) zJ)
def Y0:VF:=(Zi (zm true 4<|f2 zB (f1 zD LW) zw)<|Zi (zm true 5<|f2 (fP w6 yV) zD yX)<|Zi rG<|Zi rE<|tK (fT<|f2 (f2 zA ZY zJ) zM<|zC .Eq) (Zi (yk<|Zn 2 (dC (MA<|f2 (f2 (XE zT oN (oS xj) Ww) (ze (aC zk<|aC (fV 8)<|aC (XE zT (oS xj) (oS YN) Ww) aN) Y8) zp) (XE zT (oS YN) oN Ww) zp) dN) ZD)<|Vo<|YA 1 "Makes" "done" vE<|aC yN<|aC xj<|aC YN<|aC (fV 8) aN)<|tK oF (Zi (yk<|Zn 2 (dC (MA qd) dN) ZD)<|Vo<|YA 1 "Makes" "turned" xM<|aC yN<|aC xj nV)<|Zi (yk<|Zn 2 (dC (MA<|f2 (f2 (XE zT oN (oS xj) Ww) (ya<|dC (MA uW) dN) zp) (XE zT (oS<|f2 xj zD zp) oN Ww) zp) dN) ZD)<|Vo<|YA 1 "Makes" "changed" xv<|aC yN<|aC xj<|aC uW aN)
def xQ:List wA->O->O->Option (D×O×O):=kX 1 9 4 Y0
noncomputable abbrev Gi:List Str:=["self","make","i","j"]
def W0:SF:=(zx<|ze (aC (f1 zk<|z9 yL "way")<|aC (f2 (vR xF "three_parts" zk<|aC zj<|aC zB ZZ) zD zw) aN) Vg)
def wC:Fn:=xD 4 4 W0
def ZL:List (Str×Fn):=[("Makes",wC)]
noncomputable abbrev VH:List Str:=["_law_algebra_here","_law_makes","_law_rows","_law_x","_law_make","_law_i","_law_j","_law_found"]
abbrev pU:SF:=(YV (ze (aC (f2 zA (fC<|.int 100000) zy)<|aC (fP (aC (f2 zB zT zw) aN) yV) aN) ZC)<|gT 2<|yI (gN 5)<|yI (gN 6) Yq)
abbrev pe:SF:=(zm true 7<|vR ZL "asked" zj<|aC zT<|aC yN<|aC xj aN)
abbrev ql:SF:=(xg (vL<|fT<|ze (aC YN<|aC (ze (aC zk<|aC (XE (f2 zB zT zw) (oS yN) (oS xj) Ww) aN) Zj) aN) yw) (zx<|fC<|.bl false) yT)
def Z6:SF:=(zh (yu (XF<|ya<|dC (f2 (fP w6 yV) zD yX)<|dC (f2 (f2 zA (fC<|.int 11) zy) (fP w6 yV) zJ) dN) X4<|zh pU<|zh pe ql)<|zx<|fC<|.bl true)
def yR:Fn:=xD 8 4 Z6
noncomputable abbrev Yr:List Str:=["self","way"]
def YC:B_:=(Zm (XD 0 yL "way" zj)<|AM 0 wD "trees" (ya dN))
def y2(c:Str):Fn:=sY c 2 2 YC
noncomputable abbrev wK:List Str:=["self","algebra"]
def ZT:(["name","rows"]:List Str).Nodup:=by decide +kernel
def Z0:(["name","values"]:List Str).Nodup:=by decide +kernel
abbrev oJ:EF:=(fP (aC (zX (xZ<|f2 zj Z5 zw) [none,none] (gT 2<|yI xC<|yI (gN 1) Yq) yD<|yh<|dC zk<|dC (ze we LK) dN) aN) Pg)
abbrev qS:EF:=(fP (aC (zX (xZ<|f2 zj H0 zw) [none,none] (gT 2<|yI xC<|yI (gN 1) Yq) yD<|yh<|dC zk<|dC (fP we tupP) dN) aN) Pg)
def Zu:B_:=(Zm (Il<|ze we vM)<|Zm (XD 0 wR "size" (f2 zj zM zw))<|Zm (XD 0 Wv "around" (f2 zj zD zw))<|Zm (XD 0 P8 "table" (ze (aC (f2 zj yE zw) aN) LK))<|Zm (XD 0 Vm "neutral" (f2 zj ZY zw))<|Zm (XD 0 YF "waits" oJ)<|XD 0 R_ "holders" qS)
def xp(c:Str):Fn:=sY c 2 2 Zu
noncomputable abbrev Qk:List Str:=["self","row","value"]
def ZG:VF:=(Zi (xg (vL<|fT<|Lm zj "list") CV yT)<|Zi (yu (XF zj) (gN 2)<|yk<|wB 0 y8 "check_value" w6)<|Zi (yk<|ze (aC (fP we yV) aN) vG)<|Vo<|YA 0 "Makes" "keep" yC<|aC (ze (aC (MB 0 yL "way") we)<|wY 20) aN)
def xT:List wA->O->Option (D×O):=JH 3 2 ZG
noncomputable abbrev Fs:List Str:=["_law_script","_law_algebra_here","_law_makes","_law_rows","_law_k","_law_x","_law_many","_law_cut","_law_parts_here"]
abbrev rT:TF:=(vL<|fT<|ze (aC (YA 2 "Makes" "made" xT<|aC (fP (aC (f2 zA zM zw) aN) lstP) aN)<|aC zM aN) yw)
abbrev nI:TF:=(vL<|fT<|QU<|ze (aC zj<|aC zB<|aC zA<|aC zM aN) yR)
abbrev o6:AF:=(aC (fC<|.int 14)<|aC (fP (aC (fC<|.int 22)<|aC (fP (aC (fP w9 yV)<|aC (fC<|.int 63) aN) T5) aN) Gg) aN)
abbrev oK:SF:=(xg (vL<|fT<|ze (aC (Pn 1 2 3 (aC zj<|aC zB<|aC zA BE) xQ)<|aC (f2 (fP ZZ yV) zD yX) aN) yw) (zx<|fC<|.bl false) yT)
abbrev sD:TF:=(vL<|fT<|QU<|ze (aC zj<|aC zB<|aC zA BE) yR)
abbrev qu:EF:=(f2 (f2 (ze (aC zk<|aC (fC<|.int 13) aN) ye) ZY zy) (f2 xj zD zp) zJ)
def A6:SF:=(zh (zm true 1<|ze w9 Wz)<|zh (zm false 2<|ze (aC (ze (aC (ze we YZ) aN)<|xp "Ways") aN)<|y2 "Makes")<|zh (zm false 3<|ya<|dC (MA<|ze (aC (ze (aC zk<|aC (fC<|.int 13) aN) ye)<|aC (f2 zj zM zw)<|aC (fC<|.int 11) aN) Q0) dN)<|zh (xg (P0 rT nI) (zx<|fC<|.bl false) yT)<|zh (yu (yt o6 Ah) X4<|zh (zm true 5<|ze (aC zk<|aC zT aN) ye)<|zh oK<|xg sD (zx<|fC<|.bl false) yT)<|zh (zm true 6<|fP (aC (f2 zA zM zw) aN) yV)<|zh (zm true 7 qu)<|zh (zm true 8<|ya<|dC (MA<|wB 2 ZL "asked" (aC zM<|aC zM nV))<|dC (MA<|wB 2 ZL "asked" (aC zM<|aC YN<|aC xj aN))<|dC (MA<|wB 2 ZL "asked" (aC zM<|aC zM<|aC xj aN)) dN)<|zh (xg (vL<|fT<|ze (aC (f2 (fV 8) yE zw)<|aC (ze (aC zj<|aC (f2 zA zM zw) aN) Zj) aN) yw) (zx<|fC<|.bl false) yT)<|zx<|f2 (f2 (f2 (f2 zj yE zw) (f2 (fV 8) zM zw) zw) (f2 (fV 8) zD zw) zw) (f2 (fV 8) yE zw)<|zC .Eq)
def GY:Fn:=xD 9 1 A6
set_option genInjectivity false in
set_option genSizeOf false in
structure Txt(P:Program)(w:World)(K:zzA)(mg:Str->Option Value)(base:Heap)(kd:KD):Prop where
 hkd:sV P w K kd
 Ex:Fq K mg "is_whole" Pp
 NN:Fq K mg "is_within" Ud
 U1:Fq K mg "nothing_fails" Xs
 U5:Fq K mg "parting_fails" Xx
 T4:Fq K mg "doing_fails" Vb
 LG:Fq K mg "deeds_fail" VB
 K4:Fq K mg "what_fails" Qe
 Tc:Fq K mg "check_let_by" Wk
 BL:Fq K mg "leaf_of" GI
 Sf:Fq K mg "knot_of" G9
 GV:Fq K mg "tree_of" G2
 BW:Fq K mg "size_of" Ko
 En:Fq K mg "whole_of" PQ
 L8:Fq K mg "both_waits" Qb
 MH:Fq K mg "done_all" PU
 KR:Fq K mg "turned_all" VR
 ET:Fq K mg "parts_of" Pw
 GA:Fq K mg "leaned_left" W7
 PC:Fq K mg "leaned_right" Wj
 OW:Fq K mg "evened" NM
 XM:Fq K mg "put_together" X3
 UB:Fq K mg "parted_at" Uy
 Gh:Fq K mg "check_place" W6
 K2:Fq K mg "check_size" VS
 sE:Fq K mg "firm" Og
 E9:Fq K mg "_law_draw" Pm
 K8:Fq K mg "_law_digits" VE
 NY:Fq K mg "_law_names" Ub
 U_:Fq K mg "_law_part_join" Xg
 Rj:Fq K mg "_law_part_done" Xm
 Nt:Fq K mg "_law_parts" Ui
 Mj:Fq K mg "_law_split" Ue
 Eg:Fq K mg "_law_laid" To
 Mf:Fq K mg "_law_order" Ug
 T7:Fq K mg "_law_algebra" W8
 M7:Fq K mg "_law_copy" Pl
 UN:Fq K mg "_law_by_digits" Xr
 ML:Fq K mg "_law_does" PM
 Gm:Fq K mg "_law_is_good" W4
 Sy:Fq K mg "_law_any" GW
 NF:Fq K mg "_law_comes" Up
 M0:Fq K mg "_law_deed" RL
 SA:Fq K mg "_law_row" Kr
 U9:Fq K mg "_law_is_number" Xw
 Le:Fq K mg "_law_places" V2
 Fl:Fq K mg "_law_step" RU
 Qg:Fq K mg "_law_asked_right" Z7
 qt:Fq K mg "law" F8
 YT:CI K kd mg "Knot" (kd.c "Knot")
 xW:CI K kd mg "Makes" (kd.c "Makes")
 vP:CI K kd mg "Ways" (kd.c "Ways")
 UU:Mq K kd "Knot" "__init__" "Knot.__init__" Xo
 Me:Mq K kd "Ways" "join" "Ways.join" Uv
 PP:Mq K kd "Ways" "nothing" "Ways.nothing" Wp
 Ge:Mq K kd "Ways" "behind" "Ways.behind" W9
 Mo:Mq K kd "Ways" "made" "Ways.made" UG
 U8:Mq K kd "Makes" "tree_at" "Makes.tree_at" Xp
 UV:Mq K kd "Ways" "is_value" "Ways.is_value" Xq
 WN:Mq K kd "Makes" "check_value" "Makes.check_value" Zv
 WG:Mq K kd "Makes" "three_parts" "Makes.three_parts" Zx
 KP:Mq K kd "Makes" "keep" "Makes.keep" V1
 Y5:Mq K kd "Makes" "three_together" "Makes.three_together" vK
 U6:Mq K kd "Makes" "changed" "Makes.changed" XC
 Pr:Mq K kd "Ways" "is_deed" "Ways.is_deed" Wr
 PJ:Mq K kd "Ways" "wait_of" "Ways.wait_of" X7
 KA:Mq K kd "Makes" "done" "Makes.done" Vy
 Py:Mq K kd "Makes" "turned" "Makes.turned" Wa
 Gx:Mq K kd "Makes" "asked" "Makes.asked" Ve
 QL:Mq K kd "Makes" "__init__" "Makes.__init__" Yt
 UZ:Mq K kd "Ways" "__init__" "Ways.__init__" wI
 KB:Mq K kd "Makes" "made" "Makes.made" Vx
 LB:yx K (kd.c "Knot") "whole"
 Mu:yx K (kd.c "Knot") "back"
 My:yx K (kd.c "Knot") "wait"
 NR:yx K (kd.c "Knot") "turn"
 Fg:yx K (kd.c "Knot") "one"
 Lx:yx K (kd.c "Knot") "other"
 NP:yx K (kd.c "Knot") "deep"
 Mg:yx K (kd.c "Knot") "size"
 Nq:yx K (kd.c "Ways") "size"
 L_:yx K (kd.c "Ways") "table"
 RM:yx K (kd.c "Ways") "neutral"
 Gb:yx K (kd.c "Ways") "around"
 TX:yx K (kd.c "Makes") "trees"
 NS:yx K (kd.c "Makes") "way"
 Lo:yx K (kd.c "Ways") "waits"
 Pe:yx K (kd.c "Ways") "holders"
 TU:GC K kd mg "MOST_IN_ROW" (.int 300)
 DB:mg "bool"=none
 MD:mg "dict"=none
 Hv:mg "divmod"=none
 N5:mg "enumerate"=none
 AR:mg "int"=none
 ZE:mg "isinstance"=none
 Va:mg "len"=none
 E_:mg "list"=none
 Ov:mg "max"=none
 AX:mg "min"=none
 Rm:mg "range"=none
 pS:mg "str"=none
 qE:mg "sum"=none
 F4:mg "tuple"=none
 Cj:mg "zip"=none
abbrev Ct{P:Program}{w:World}{K:zzA}{mg:Str->Option Value}{base:Heap}{kd:KD}(_:Txt P w K mg base kd)(x:Str)(k:Nat)(m:Fn):Prop:=Cn x P w K mg base k<|Vv K kd m
abbrev Cz{P:Program}{w:World}{K:zzA}{mg:Str->Option Value}{base:Heap}{kd:KD}(_:Txt P w K mg base kd)(c m:Str)(k:Nat)(sp:Sp):Prop:=Cm c m P w K mg base kd k sp
abbrev Tm{P:Program}{w:World}{K:zzA}{mg:Str->Option Value}{base:Heap}{kd:KD}(_:Txt P w K mg base kd)(m:Str)(k:Nat)(tb:List (Str×Fn)):Prop:=MT P w K mg base kd m k tb
abbrev Ts{P:Program}{w:World}{K:zzA}{mg:Str->Option Value}{base:Heap}{kd:KD}(_:Txt P w K mg base kd)(m:Str)(k:Nat)(c:Str)(g:List wA->O->Option (D×O)):Prop:=MS P w K mg base kd m k c g
abbrev Cs{P:Program}{w:World}{K:zzA}{mg:Str->Option Value}{base:Heap}{kd:KD}(_:Txt P w K mg base kd)(x:Str)(k:Nat)(sp:Sp):Prop:=Cn x P w K mg base k sp
set_option maxHeartbeats 8000000
def gq(T r:Lean.Ident)(w:List String):Lean.MacroM (Lean.TSyntax `tactic):=do
 let a <-(w.drop 1).toArray.mapM λx=>match x with | "?"=>`(?_) | "="=>`(rfl) | "_"=>`(_) | "R"=>`($r) | "h"=>`(Txt.hkd $T) | "a"=>`(by assumption) | "d"=>`(by decide) | "f"=>`(λ_=>rfl) | "v"=>`(pv _) | "o"=>`(($r).mono (by omega)) | "b"=>`(Bt.n _ rfl) | "H"=>`(Txt.hkd $T _ rfl rfl rfl)|x=>let n:Lean.Ident:=Lean.mkIdent (((x.replace "@" "").replace "%" "").replace "!" "").toName;if x.startsWith "@" then `(($n $T))else if x.startsWith "%" then `(($n (Txt.hkd $T _ rfl rfl rfl)))else if x.startsWith "!" then `(($n rfl))else return n
 `(tactic| (refine $(Lean.mkIdent (w.headD "").toName) $a* <;> trivial))
def jI(l:List (Lean.TSyntax `tactic)):Lean.MacroM (Lean.TSyntax `tactic):=do l.foldrM (λa b=>`(tactic| first | $a:tactic | $b:tactic)) (<- `(tactic| fail))
def MZ(T r:Lean.Ident)(q:List (Lean.TSyntax `tactic))(s:String):Lean.MacroM (Lean.TSyntax `tactic):=do
 let l:=s.splitOn ";";let x <-jI ((<-(l.drop 1).mapM λz=>gq T r<|z.splitOn " ")++q)
 match(l.headD "").splitOn " " with | [h,k]=>`(tactic| (show $(Lean.mkIdent h.toName) $(Array.replicate k.toNat! (<- `(_)))*;$x:tactic))|_=>return x
section
variable{P:Program}{w:World}{K:zzA}{mg:Str->Option Value}{base:Heap}{kd:KD}(T:Txt P w K mg base kd)
include T
def Br:CF K kd Zh "whole":=(x_ T.YT T.LB wX)
def OD:CF K kd Xc "back":=(x_ T.YT T.Mu wX)
def Ho:CF K kd ZF "wait":=(x_ T.YT T.My wX)
def SQ:CF K kd Wx "turn":=(x_ T.YT T.NR wX)
def A3:CF K kd TB "one":=(x_ T.YT T.Fg wX)
def F0:CF K kd Wl "other":=(x_ T.YT T.Lx wX)
def LM:CF K kd yF "deep":=(x_ T.YT T.NP wX)
def TL:CF K kd wR "size":=(x_ T.YT T.Mg<|x_ T.vP T.Nq wX)
def Bk:CF K kd P8 "table":=(x_ T.vP T.L_ wX)
def GX:CF K kd Vm "neutral":=(x_ T.vP T.RM wX)
def Mx:CF K kd Wv "around":=(x_ T.vP T.Gb wX)
def RH:CF K kd wD "trees":=(x_ T.xW T.TX wX)
def Us:CF K kd yL "way":=(x_ T.xW T.NS wX)
def Bc:CF K kd YF "waits":=(x_ T.vP T.Lo wX)
def Sr:CF K kd R_ "holders":=(x_ T.vP T.Pe wX)
local macro_rules | `(tactic| trivial)=>do let T:=Lean.mkIdent `T;let r:=Lean.mkIdent `hr;jI [<-MZ T r [<- `(tactic| (refine ec (Txt.hkd $T) $r ?_ ?_ (hm:=rfl)<;>trivial)),<- `(tactic| (refine AB (Vr rfl ((Txt.hkd $T) _ rfl rfl rfl)) (Txt.MD $T) Bt.dict ?_;trivial)),<- `(tactic| (refine NC (QM ((Txt.hkd $T) _ rfl rfl rfl) (RP $r) _) (QM ((Txt.hkd $T) _ rfl rfl rfl) (RP $r) _) ?_ ?_ ?_ (by with_unfolding_all rfl)<;>trivial)),<- `(tactic| (refine Ib (ty:=.lst) ((Txt.hkd $T) _ rfl rfl rfl) (He ((Txt.hkd $T) _ rfl rfl rfl) (RP $r)) PySem.F.plainAttrs_list PySem.F.slot_list_index PySem.F.type_list_index ?_ ?_ rfl rfl rfl rfl rfl<;>trivial))] "AE 4;av _;aI;ax h ? ?;bn ? ?;aS;aZ;aB;ec h R ? ?;cn a R ?;EI ?;QC ?;cm ? ? ? ?;vF ? ? ?;CK ? ?;bi %xX @Txt.Va Bt.len ?;bi !Qv @Txt.Ov Bt.max ?;bi !G6 @Txt.AX Bt.min ?;bi BB @Txt.Hv Bt.divmod ?;bi !B4 @Txt.qE Bt.sum ?;AB Ey @Txt.AR Bt.int ?;LF H = = @Txt.ZE Bt.isinstance = @Txt.AR Bt.int ? b d b d = = =;LF H = = @Txt.ZE Bt.isinstance = @Txt.pS Bt.str ? b d b d = = =;AB Kg @Txt.F4 Bt.tuple ?;AB GQ @Txt.E_ Bt.list ?;LF H = = @Txt.ZE Bt.isinstance = @Txt.DB Bt.bool ? b d b d = = =;u6 ?;Cb DZ ?;HP ? ? ?;Om ? ?;Ca ?;RY YD LQ PySem.F.slot_list_append PySem.F.type_list_append v ? = = = = =;RY sR uY PySem.F.slot_list_insert PySem.F.type_list_insert v ? = = = = =;D0 @Txt.TU = d;fd @LM ?;fd @TL ?;fd @Bk ?;fd @Br ?;fd @OD ?;fd @GX ?;fd @Mx ?;fd @Ho ?;fd @SQ ?;fd @A3 ?;fd @F0 ?;fd @RH ?;fd @Us ?;fd @Bc ?;lR a R ?;mt a R ? ? =;iz a R ? =;x5 a o xa v ? = = =;ZA a o xa v ? = = =;V3 ?",<-MZ T r [] "AA 4;bc ? ?;zu",<-MZ T r [] "MX 4;iG a ? ? ? ?;Vt ?;N1 ? ? ?;iR ? ? ?;J3 ? =;sv _ _ a ?;mS ? ?;oT",<-MZ T r [] "FW 4;sj _ a ? ?;Yz ? ?;Z_ ?;VT",<-MZ T r [] "AT 4;tc h R ? ?;Wo ?;Wq ? f;AW.at_ ?",<-MZ T r [] "AD 4;bd ? ?;ZO",<-MZ T r [] "AO 4;wH ?;Y4",<-MZ T r [<- `(tactic| exact an _ (gp (by kernel_rfl)))] "AG 5;an _ a;Pj = ? = =",<-MZ T r [] "Dg 5;i_ ? ?;V6",<-MZ T r [] "sX 4;ko _ a;lZ ?",<-MZ T r [] "OS 4;kI ? ?;lX",<-MZ T r [] "J1 5;B0 = @Txt.Rm ? =;C_ = @Txt.Cj ? = =;JB = @Txt.Cj ? = =;MM ?",<-MZ T r [] "AI 5;So = @Txt.Rm ? =;Kw = @Txt.Rm ? = =;Ag = @Txt.N5 ? =;Af = @Txt.Cj ? = =;HW ?",<-MZ T r [] "AW 4;Hg ? ?;tN ? ?;QY ?;Fh ?",<-MZ T r [] "-;Lb;Ae ?",<- `(tactic| (intro _;trivial))]
def Es:Ct T "is_whole" 1 PH:=by
 refine Z2 (N:=EB) (n:=1) (k:=0) (cc:=Td) T.Ex λhN _ _ _ _ _ _ _ hr=>?_;conv=>arg 3;whnf
 trivial
def X8:Ct T "is_within" 2 w5:=by
 refine Z2 (N:=NG) (n:=3) (k:=1) (cc:=Ua) T.NN λhN _ _ _ _ _ _ _ hr=>?_;exact(Z_<|Vt<|Om (cn (Es T) hr<|bc (av 0) zu)<|Ca<|NC (QM (T.hkd _ rfl rfl rfl) (RP hr) .LtE) (QM (T.hkd _ rfl rfl rfl) (RP hr) .LtE) (av 1) (av 0) (av 2)<|by with_unfolding_all rfl)
def U2:Ct T "nothing_fails" 1 Zt:=by
 refine Z2 (N:=UW) (n:=1) (k:=0) (cc:=Zq) T.U1 λhN _ _ _ _ _ _ _ hr=>?_;conv=>arg 3;whnf
 trivial
def UQ:Ct T "parting_fails" 1 Zo:=by
 refine Z2 (N:=Ri) (n:=1) (k:=0) (cc:=Xj) T.U5 λhN _ _ _ _ _ _ _ hr=>?_;conv=>arg 3;whnf
 trivial
def T6:Ct T "doing_fails" 1 Yp:=by
 refine Z2 (N:=Gf) (n:=3) (k:=0) (cc:=W3) T.T4 λhN _ _ _ _ _ _ _ hr=>?_;conv=>arg 3;whnf
 trivial
def Li:Ct T "deeds_fail" 2 YK:=by
 refine Z2 (N:=LI) (n:=1) (k:=1) (cc:=V8) T.LG λhN _ _ _ _ _ _ _ hr=>?_;have:=T6 T;conv=>arg 3;whnf
 trivial
def KZ:Ct T "what_fails" 3 YQ:=by
 refine Z2 (N:=KG) (n:=1) (k:=2) (cc:=V5) T.K4 λhN _ _ _ _ _ _ _ hr=>?_;have:=U2 T;have:=UQ T;have:=Li T;conv=>arg 3;whnf
 trivial
def PR:Ct T "check_let_by" 4 vM:=by
 refine Z2 (N:=Tq) (n:=1) (k:=3) (cc:=ZW) T.Tc λhN _ _ _ _ _ _ _ hr=>?_;have:=KZ T;conv=>arg 3;whnf
 trivial
def wG(c:Str):Cz T "Knot" "__init__" 1 (tP K kd c<|yg c):=by
 refine V7 (N:=Xh) (n:=7) T.YT T.UU λF S=>M8 (N:=Xh) (k:=0) (b:=Zs) F S (by decide) λcdv A outer s H E hr=>?_;have hN:=S.nd;exact(yQ (xm (Br T) (pv 0) (av 1) rfl)<|yQ (xm (OD T) (pv 0) (av 2) rfl)<|yQ (xm (Ho T) (pv 0) (av 3) rfl)<|yQ (xm (SQ T) (pv 0) (av 4) rfl)<|yQ (xm (A3 T) (pv 0) (av 5) rfl)<|yQ (xm (F0 T) (pv 0) (av 6) rfl)<|yQ (xm (LM T) (pv 0) (HP (tc T.hkd hr (av 5) aZ) aI<|bn aI<|bi (Qv rfl) T.Ov Bt.max<|bc (fd (LM T)<|av 5)<|bc (fd (LM T)<|av 6) zu) rfl)<|Ld<|xm (TL T) (pv 0) (HP (tc T.hkd hr (av 5) aZ) aI<|bn (fd (TL T)<|av 5)<|fd (TL T)<|av 6) rfl)
def Kj:Ct T "leaf_of" 3 WB:=by
 refine Z2 (N:=BH) (n:=1) (k:=2) (cc:=GE) T.BL λhN _ _ _ _ _ _ _ hr=>?_;have:=wG T "Knot";conv=>arg 3;whnf
 trivial
def NA:Cz T "Ways" "join" 1 (Vv K kd XO):=by
 refine SD (N:=NB) (n:=3) (k:=0) (cc:=Uu) T.vP T.Me λhN _ _ _ _ _ _ _ hr=>?_;conv=>arg 3;whnf
 trivial
def uR:Tm T "join" 1 Qr:=(SC (NA T) Zp)
def Yu:Ct T "knot_of" 3 yp:=by
 refine Z2 (N:=BY) (n:=3) (k:=2) (cc:=GS) T.Sf λhN _ _ _ _ _ _ _ hr=>?_;have:=wG T "Knot";have:=uR T;conv=>arg 3;whnf
 trivial
theorem QH:∀n:Nat,Ct T "tree_of" (3+n) (wY n)
 |0=>ke T.GV Kp 2
 |n+1=>by
  have G:=QH n;refine Z2 (N:=Kp) (n:=2) (k:=3+n) (cc:=GM<|wY n) T.GV λhN _ _ _ _ _ _ _ hr=>?_;have:=Kj T;have:=Yu T;conv=>arg 3;whnf
  trivial
def G4:Ct T "size_of" 1 vY:=by
 refine Z2 (N:=BG) (n:=1) (k:=0) (cc:=Kl) T.BW λhN _ _ _ _ _ _ _ hr=>?_;conv=>arg 3;whnf
 trivial
def PL:Cz T "Ways" "nothing" 1 (Vv K kd ZX):=by
 refine SD (N:=Pb) (n:=1) (k:=0) (cc:=XR) T.vP T.PP λhN _ _ _ _ _ _ _ hr=>?_;conv=>arg 3;whnf
 trivial
def Sz:Tm T "nothing" 1 Tb:=(SC (PL T) Zp)
def EY:Ct T "whole_of" 2 Vg:=by
 refine Z2 (N:=MU) (n:=2) (k:=1) (cc:=Tn) T.En λhN _ _ _ _ _ _ _ hr=>?_;have:=Sz T;conv=>arg 3;whnf
 trivial
def T9:Cz T "Ways" "behind" 1 (Vv K kd Yi):=by
 refine SD (N:=Gq) (n:=3) (k:=0) (cc:=W5) T.vP T.Ge λhN _ _ _ _ _ _ _ hr=>?_;conv=>arg 3;whnf
 trivial
def S6:Tm T "behind" 1 GR:=(SC (T9 T) Zp)
def L5:Ct T "both_waits" 2 Y2:=by
 refine Z2 (N:=LX) (n:=3) (k:=1) (cc:=V_) T.L8 λhN _ _ _ _ _ _ _ hr=>?_;have:=S6 T;conv=>arg 3;whnf
 trivial
def Mb:Cz T "Ways" "made" 1 (Vv K kd XT):=by
 refine SD (N:=NV) (n:=4) (k:=0) (cc:=UF) T.vP T.Mo λhN _ _ _ _ _ _ _ hr=>?_;conv=>arg 3;whnf
 trivial
def DW:Tm T "made" 1 Rx:=(SC (Mb T) Zp)
def Tt:Ct T "done_all" 4 Za:=by
 refine Z2 (N:=M5) (n:=3) (k:=3) (cc:=P7) T.MH λhN _ _ _ _ _ _ _ hr=>?_;have:=DW T;have:=Kj T;have:=wG T "Knot";have:=L5 T;conv=>arg 3;whnf
 trivial
def VG:Ct T "turned_all" 3 xU:=by
 refine Z2 (N:=LA) (n:=2) (k:=2) (cc:=Qn) T.KR λhN _ _ _ _ _ _ _ hr=>?_;have:=wG T "Knot";conv=>arg 3;whnf
 trivial
def Y3:Ct T "parts_of" 5 wU:=by
 refine Z2 (N:=MR) (n:=2) (k:=4) (cc:=RS) T.ET λhN _ _ _ _ _ _ _ hr=>?_;have:=Tt T;have:=VG T;conv=>arg 3;whnf
 trivial
def Gn:Ct T "leaned_left" 6 Ym:=by
 refine Z2 (N:=Gz) (n:=3) (k:=5) (cc:=WQ) T.GA λhN _ _ _ _ _ _ _ hr=>?_;have:=Y3 T;have:=Yu T;conv=>arg 3;whnf
 trivial
def TH:Ct T "leaned_right" 6 ZS:=by
 refine Z2 (N:=Pv) (n:=3) (k:=5) (cc:=XI) T.PC λhN _ _ _ _ _ _ _ hr=>?_;have:=Y3 T;have:=Yu T;conv=>arg 3;whnf
 trivial
def CM:Ct T "evened" 7 Qa:=by
 refine Z2 (N:=OP) (n:=3) (k:=6) (cc:=Ma) T.OW λhN _ _ _ _ _ _ _ hr=>?_;have:=Gn T;have:=TH T;have:=Yu T;conv=>arg 3;whnf
 trivial
theorem ZN:∀n:Nat,Ct T "put_together" (7+n) (ym n)
 |0=>ke T.XM Wd 3
 |n+1=>by
  have G:=ZN n;refine Z2 (N:=Wd) (n:=3) (k:=7+n) (cc:=Wn<|ym n) T.XM λhN _ _ _ _ _ _ _ hr=>?_;have:=Y3 T;have:=CM T;have:=Yu T;conv=>arg 3;whnf
  trivial
theorem Ul:∀n:Nat,Ct T "parted_at" (27+n) (xJ n)
 |0=>ke T.UB Uc 3
 |n+1=>by
  have G:=Ul n;refine Z2 (N:=Uc) (n:=3) (k:=27+n) (cc:=Ux<|xJ n) T.UB λhN _ _ _ _ _ _ _ hr=>?_;have:=Y3 T;have:=ZN T 20;conv=>arg 3;whnf
  trivial
def WS:Ct T "check_place" 3 yW:=by
 refine Z2 (N:=Gr) (n:=3) (k:=2) (cc:=Yk) T.Gh λhN _ _ _ _ _ _ _ hr=>?_;have:=X8 T;conv=>arg 3;whnf
 trivial
def LZ:Ct T "check_size" 1 vG:=by
 refine Z2 (N:=Lh) (n:=1) (k:=0) (cc:=Y_) T.K2 λhN _ _ _ _ _ _ _ hr=>?_;conv=>arg 3;whnf
 trivial
def OR:Ct T "firm" 1 LK:=by
 refine Z2 (N:=uq) (n:=1) (k:=0) (cc:=Hx) T.sE λhN _ _ _ _ _ _ _ hr=>?_;conv=>arg 3;whnf
 trivial
def Z1:Ct T "_law_draw" 1 ye:=by
 refine Z2 (N:=M6) (n:=2) (k:=0) (cc:=P9) T.E9 λhN _ _ _ _ _ _ _ hr=>?_;conv=>arg 3;whnf
 trivial
def ZI:Ct T "_law_digits" 1 yq:=by
 refine Z2 (N:=LR) (n:=2) (k:=0) (cc:=Qp) T.K8 λhN _ _ _ _ _ _ _ hr=>?_;conv=>arg 3;whnf
 trivial
def Uj:Ct T "_law_names" 2 Yd:=by
 refine Z2 (N:=Nm) (n:=2) (k:=1) (cc:=UE) T.NY λhN _ _ _ _ _ _ _ hr=>?_;have:=ZI T;conv=>arg 3;whnf
 trivial
def Rb:Ct T "_law_part_join" 1 wO:=by
 refine Z2 (N:=UT) (n:=3) (k:=0) (cc:=Xd) T.U_ λhN _ _ _ _ _ _ _ hr=>?_;conv=>arg 3;whnf
 trivial
def UM:Ct T "_law_part_done" 1 xq:=by
 refine Z2 (N:=UP) (n:=4) (k:=0) (cc:=XA) T.Rj λhN _ _ _ _ _ _ _ hr=>?_;conv=>arg 3;whnf
 trivial
def Nu:Ct T "_law_parts" 1 Wg:=by
 refine Z2 (N:=Nx) (n:=1) (k:=0) (cc:=UA) T.Nt λhN _ _ _ _ _ _ _ hr=>?_;conv=>arg 3;whnf
 trivial
def NQ:Ct T "_law_split" 1 X5:=by
 refine Z2 (N:=NZ) (n:=2) (k:=0) (cc:=UH) T.Mj λhN _ _ _ _ _ _ _ hr=>?_;conv=>arg 3;whnf
 trivial
def El:Ct T "_law_laid" 1 xh:=by
 refine Z2 (N:=E1) (n:=2) (k:=0) (cc:=RR) T.Eg λhN _ _ _ _ _ _ _ hr=>?_;conv=>arg 3;whnf
 trivial
def Mt:Ct T "_law_order" 1 X9:=by
 refine Z2 (N:=N8) (n:=2) (k:=0) (cc:=UC) T.Mf λhN _ _ _ _ _ _ _ hr=>?_;conv=>arg 3;whnf
 trivial
def Gu:Ct T "_law_algebra" 3 Yn:=by
 refine Z2 (N:=Gc) (n:=2) (k:=2) (cc:=WW) T.T7 λhN _ _ _ _ _ _ _ hr=>?_;have:=Nu T;have:=Z1 T;have:=El T;have:=Mt T;have:=NQ T;have:=Rb T;have:=Uj T;have:=UM T;conv=>arg 3;whnf
 trivial
def Ea:Ct T "_law_copy" 1 YZ:=by
 refine Z2 (N:=MO) (n:=1) (k:=0) (cc:=Tw) T.M7 λhN _ _ _ _ _ _ _ hr=>?_;conv=>arg 3;whnf
 trivial
def Ra:Ct T "_law_by_digits" 3 wM:=by
 refine Z2 (N:=UX) (n:=1) (k:=2) (cc:=Xk) T.UN λhN _ _ _ _ _ _ _ hr=>?_;have:=ZI T;have:=Uj T;have:=Z1 T;conv=>arg 3;whnf
 trivial
def Ei:Ct T "_law_does" 1 Vs:=by
 refine Z2 (N:=M4) (n:=5) (k:=0) (cc:=Ti) T.ML λhN _ _ _ _ _ _ _ hr=>?_;conv=>arg 3;whnf
 trivial
def Gk:Ct T "_law_is_good" 2 Yo:=by
 refine Z2 (N:=Gy) (n:=1) (k:=1) (cc:=W_) T.Gm λhN _ _ _ _ _ _ _ hr=>?_;have:=Ei T;conv=>arg 3;whnf
 trivial
def BX:Ct T "_law_any" 4 Wz:=by
 refine Z2 (N:=Sm) (n:=1) (k:=3) (cc:=GT) T.Sy λhN _ _ _ _ _ _ _ hr=>?_;have:=Ra T;have:=Gk T;have:=Gu T;conv=>arg 3;whnf
 trivial
def Uo:Ct T "_law_comes" 1 Zj:=by
 refine Z2 (N:=Nv) (n:=2) (k:=0) (cc:=Uw) T.NF λhN _ _ _ _ _ _ _ hr=>?_;conv=>arg 3;whnf
 trivial
def Eu:Ct T "_law_deed" 1 Y8:=by
 refine Z2 (N:=EG) (n:=3) (k:=0) (cc:=TQ) T.M0 λhN _ _ _ _ _ _ _ hr=>?_;conv=>arg 3;whnf
 trivial
def BJ:Ct T "_law_row" 2 Q0:=by
 refine Z2 (N:=Sj) (n:=3) (k:=1) (cc:=GZ) T.SA λhN _ _ _ _ _ _ _ hr=>?_;have:=ZI T;conv=>arg 3;whnf
 trivial
def wQ:Ct T "_law_is_number" 1 yw:=by
 refine Z2 (N:=US) (n:=2) (k:=0) (cc:=Xf) T.U9 λhN _ _ _ _ _ _ _ hr=>?_;conv=>arg 3;whnf
 trivial
def Qc:Ct T "_law_places" 2 ZC:=by
 refine Z2 (N:=Lu) (n:=2) (k:=1) (cc:=Qm) T.Le λhN _ _ _ _ _ _ _ hr=>?_;have:=ZI T;conv=>arg 3;whnf
 trivial
def UY:Cz T "Makes" "tree_at" 3 (Vv K kd xt):=by
 refine SD (N:=UO) (n:=2) (k:=2) (cc:=Xl) T.xW T.U8 λhN _ _ _ _ _ _ _ hr=>?_;have:=X8 T;conv=>arg 3;whnf
 trivial
def U4:Cz T "Ways" "is_value" 3 (Vv K kd Zr):=by
 refine SD (N:=U7) (n:=2) (k:=2) (cc:=Xn) T.vP T.UV λhN _ _ _ _ _ _ _ hr=>?_;have:=X8 T;conv=>arg 3;whnf
 trivial
def E3:Tm T "is_value" 3 Um:=(SC (U4 T) Zp)
def WH:Cz T "Makes" "check_value" 4 (Vv K kd yn):=by
 refine SD (N:=WJ) (n:=2) (k:=3) (cc:=wo) T.xW T.WN λhN _ _ _ _ _ _ _ hr=>?_;have:=E3 T;conv=>arg 3;whnf
 trivial
def Kc:Tm T "tree_at" 3 ZM:=(SC (UY T) Zp)
def WI:Cz T "Makes" "three_parts" 48 (Vv K kd yo):=by
 refine SD (N:=WC) (n:=4) (k:=47) (cc:=Zy) T.xW T.WG λhN _ _ _ _ _ _ _ hr=>?_;have:=Kc T;have:=WS T;have:=G4 T;have:=Ul T 20;conv=>arg 3;whnf
 trivial
def Na:Cz T "Makes" "keep" 1 (spS K kd yC):=by
 refine V7 (N:=VL) (n:=2) T.xW T.KP λF S=>Tv (N:=VL) (k:=0) (c:=ZH) F S (by decide) λcdv A outer s H E hr=>?_;have hN:=S.nd;exact(yj (pd (RH T) (pv 0) (pv 1) rfl rfl rfl rfl rfl rfl rfl)<|Yb<|bn (qe (RH T) (pv 0) rfl rfl T.Va rfl rfl) aI)
def YR:Cz T "Makes" "three_together" 28 (Vv K kd zO):=by
 refine SD (N:=Y9) (n:=4) (k:=27) (cc:=vB) T.xW T.Y5 λhN _ _ _ _ _ _ _ hr=>?_;have:=ZN T 20;conv=>arg 3;whnf
 trivial
def v9:Tm T "three_together" 28 xB:=(SC (YR T) Zp)
def Zc:Tm T "three_parts" 48 xF:=(SC (WI T) Zp)
def Vc:Tm T "check_value" 4 y8:=(SC (WH T) Zp)
def Rn:Ts T "keep" 1 "Makes" yC:=ph<|Na T
def UR:Cz T "Makes" "changed" 49 (spS K kd xv):=by
 refine V7 (N:=Xz) (n:=4) T.xW T.U6 λF S=>Tv (N:=Xz) (k:=48) (c:=Xu) F S (by decide) λcdv A outer s H E hr=>?_;have hN:=S.nd;exact(yj (by refine AH true 4 (by decide) hN ?_;exact(x5 (Kc T) (hr.mono<|by omega) xa (pv 0) (bc (av 1) zu) rfl rfl rfl))<|yj (YU (cn (WS T) hr<|bc (av 2)<|bc aI<|bc (bn (cn (G4 T) hr<|bc (av 4) zu) aI) zu) rfl)<|yj (YU (x5 (Vc T) (hr.mono<|by omega) xa (pv 0) (bc (av 3) zu) rfl rfl rfl) rfl)<|yj (by refine AH true 5 (by decide) hN ?_;exact(x5 (Zc T) (hr.mono<|by omega) xa (pv 0) (bc (av 1)<|bc (av 2)<|bc (bn (av 2) aI) zu) rfl rfl rfl))<|Yb<|ZA (Rn T) (hr.mono<|by omega) xa (pv 0) (bc (x5 (v9 T) (hr.mono<|by omega) xa (pv 0) (bc (ax T.hkd (av 5) aI)<|bc (cn (QH T 20) hr<|bc (G_ (Us T) (pv 0) rfl)<|bc (QC<|bd (av 3) ZO) zu)<|bc (ax T.hkd (av 5) aI) zu) rfl rfl rfl) zu) rfl rfl rfl)
def RZ:Cz T "Ways" "is_deed" 1 (Vv K kd ZV):=by
 refine SD (N:=RW) (n:=2) (k:=0) (cc:=X_) T.vP T.Pr λhN _ _ _ _ _ _ _ hr=>?_;conv=>arg 3;whnf
 trivial
def TR:Cz T "Ways" "wait_of" 1 (Vv K kd ZR):=by
 refine SD (N:=Te) (n:=2) (k:=0) (cc:=XX) T.vP T.PJ λhN _ _ _ _ _ _ _ hr=>?_;conv=>arg 3;whnf
 trivial
def BD:Tm T "wait_of" 1 Vp:=(SC (TR T) Zp)
def BI:Tm T "is_deed" 1 Vi:=(SC (RZ T) Zp)
def KO:Cz T "Makes" "done" 49 (spS K kd vE):=by
 refine V7 (N:=VI) (n:=5) T.xW T.KA λF S=>Tv (N:=VI) (k:=48) (c:=Vz) F S (by decide) λcdv A outer s H E hr=>?_;have hN:=S.nd;exact(yj (by refine AH true 5 (by decide) hN ?_;exact(x5 (Zc T) (hr.mono<|by omega) xa (pv 0) (bc (av 1)<|bc (av 2)<|bc (av 3) zu) rfl rfl rfl))<|yj (Dp (Wo<|Wq (mt (BI T) hr (G_ (Us T) (pv 0) rfl) (bc (av 4) zu) rfl) λ_=>rfl) (Ll AY) FT)<|yj (by refine AH true 6 (by decide) hN ?_;exact(cn (Tt T) hr<|bc (G_ (Us T) (pv 0) rfl)<|bc (ax T.hkd (av 5) aI)<|bc (mt (BD T) hr (G_ (Us T) (pv 0) rfl) (bc (av 4) zu) rfl) zu))<|Yb<|ZA (Rn T) (hr.mono<|by omega) xa (pv 0) (bc (x5 (v9 T) (hr.mono<|by omega) xa (pv 0) (bc (ax T.hkd (av 5) aI)<|bc (av 6)<|bc (ax T.hkd (av 5) aI) zu) rfl rfl rfl) zu) rfl rfl rfl)
def PB:Cz T "Makes" "turned" 49 (spS K kd xM):=by
 refine V7 (N:=X6) (n:=4) T.xW T.Py λF S=>Tv (N:=X6) (k:=48) (c:=Wh) F S (by decide) λcdv A outer s H E hr=>?_;have hN:=S.nd;exact(yj (by refine AH true 4 (by decide) hN ?_;exact(x5 (Zc T) (hr.mono<|by omega) xa (pv 0) (bc (av 1)<|bc (av 2)<|bc (av 3) zu) rfl rfl rfl))<|Yb<|ZA (Rn T) (hr.mono<|by omega) xa (pv 0) (bc (x5 (v9 T) (hr.mono<|by omega) xa (pv 0) (bc (ax T.hkd (av 4) aI)<|bc (cn (VG T) hr<|bc (G_ (Us T) (pv 0) rfl)<|bc (ax T.hkd (av 4) aI) zu)<|bc (ax T.hkd (av 4) aI) zu) rfl rfl rfl) zu) rfl rfl rfl)
def MW:Ts T "changed" 49 "Makes" xv:=ph<|UR T
def Io:Ts T "done" 49 "Makes" vE:=ph<|KO T
def Si:Ts T "turned" 49 "Makes" xM:=ph<|PB T
def EC:Cs T "_law_step" 50 (spT 1 K kd xQ):=by
 refine Hf (N:=P_) (n:=4) T.Fl λF S=>uX (N:=P_) (k:=49) 1 (b:=Y0) F S (by decide) λcdv A outer s H E hr=>?_;have hN:=S.nd;exact(yj (by refine AH true 4 (by decide) hN ?_;exact(ax T.hkd (av 2)<|Cb DZ aI))<|yj (by refine AH true 5 (by decide) hN ?_;exact(bn (bi (xX<|T.hkd _ rfl rfl rfl) T.Va Bt.len<|bc (av 2) zu) aI))<|yj (tV (by decide) (cn (Qc T) hr<|bc (bn (av 3) aI)<|bc (bi (xX<|T.hkd _ rfl rfl rfl) T.Va Bt.len<|bc (av 4) zu) zu) (Pj rfl (Zg (an 6 hN) (Zg (an 7 hN) V6 rfl) rfl) rfl rfl) rfl rfl rfl)<|yj (by refine AH true 8 (by decide) hN ?_;exact(ax T.hkd (ax T.hkd (ax T.hkd (av 0) aI)<|bn (bn (av 3) aI)<|bi (xX<|T.hkd _ rfl rfl rfl) T.Va Bt.len<|bc (ax T.hkd (av 0) aI) zu) aI))<|HD (tc T.hkd hr (bn (av 3) aI) aI) (yj (YU (RY YD LQ PySem.F.slot_list_append PySem.F.type_list_append (pv 2) (bd (V3<|bn (bn (vF (av 4) Y4<|wH<|av 6)<|cn (Eu T) hr<|bc (av 0)<|bc (av 8)<|bc (vF (av 4) (wH<|av 6)<|wH<|av 7) zu)<|vF (av 4) (wH<|av 7) Y4) ZO) rfl rfl rfl rfl rfl) rfl)<|Yb<|ZA (Io T) (hr.mono<|by omega) xa (pv 1) (bc (av 5)<|bc (av 6)<|bc (av 7)<|bc (av 8) zu) rfl rfl rfl)<|HD (AW.at_<|Hg (tc T.hkd hr (bn (av 3) aI) aI)<|QY<|tc T.hkd hr (av 6)<|bi (xX<|T.hkd _ rfl rfl rfl) T.Va Bt.len<|bc (av 4) zu) (yj (YU (RY YD LQ PySem.F.slot_list_append PySem.F.type_list_append (pv 2) (bd (V3<|bn (bn (vF (av 4) Y4<|wH<|av 6)<|CK (vF (av 4) (wH<|av 6)<|wH<|av 7)<|Cb DZ aI)<|vF (av 4) (wH<|av 7) Y4) ZO) rfl rfl rfl rfl rfl) rfl)<|Yb<|ZA (Si T) (hr.mono<|by omega) xa (pv 1) (bc (av 5)<|bc (av 6)<|bc (av 7) zu) rfl rfl rfl)<|yj (YU (RY YD LQ PySem.F.slot_list_append PySem.F.type_list_append (pv 2) (bd (V3<|bn (bn (vF (av 4) Y4<|wH<|av 6)<|QC<|bd (V3<|bn (bn (av 3) aI)<|ax T.hkd (av 0) aI) ZO)<|vF (av 4) (wH<|bn (av 6) aI) Y4) ZO) rfl rfl rfl rfl rfl) rfl)<|Yb<|ZA (MW T) (hr.mono<|by omega) xa (pv 1) (bc (av 5)<|bc (av 6)<|bc (bn (bn (av 3) aI)<|ax T.hkd (av 0) aI) zu) rfl rfl rfl)
def Gv:Cz T "Makes" "asked" 49 (Vv K kd wC):=by
 refine SD (N:=Gi) (n:=4) (k:=48) (cc:=W0) T.xW T.Gx λhN _ _ _ _ _ _ _ hr=>?_;have:=EY T;have:=Zc T;conv=>arg 3;whnf
 trivial
def RG:Tm T "asked" 49 ZL:=(SC (Gv T) Zp)
def Z8:Ct T "_law_asked_right" 50 yR:=by
 refine Z2 (N:=VH) (n:=4) (k:=49) (cc:=Z6) T.Qg λhN _ _ _ _ _ _ _ hr=>?_;have:=Qc T;have:=RG T;have:=wQ T;have:=Uo T;conv=>arg 3;whnf
 trivial
def QI(c:Str):Cz T "Makes" "__init__" 1 (tP K kd c<|y2 c):=by
 refine V7 (N:=Yr) (n:=2) T.xW T.QL λF S=>M8 (N:=Yr) (k:=0) (b:=YC) F S (by decide) λcdv A outer s H E hr=>?_;have hN:=S.nd;exact(yQ (xm (Us T) (pv 0) (av 1) rfl)<|Ld<|S8 (RH T) (pv 0) (QC ZO) rfl)
def Rh(c:Str):Cz T "Ways" "__init__" 5 (tP K kd c<|xp c):=by
 refine V7 (N:=wK) (n:=2) T.vP T.UZ λF S=>M8 (N:=wK) (k:=4) (b:=Zu) F S (by decide) λcdv A outer s H E hr=>?_;have hN:=S.nd;exact(yQ (Jj (cn (PR T) hr<|bc (av 1) zu) rfl)<|yQ (xm (TL T) (pv 0) (ax T.hkd (av 1) aI) rfl)<|yQ (xm (Mx T) (pv 0) (ax T.hkd (av 1) aI) rfl)<|yQ (xm (Bk T) (pv 0) (cn (OR T) hr<|bc (ax T.hkd (av 1) aI) zu) rfl)<|yQ (xm (GX T) (pv 0) (ax T.hkd (av 1) aI) rfl)<|yQ (xm (Bc T) (pv 0) (AB (Vr rfl<|T.hkd _ rfl rfl rfl) T.MD Bt.dict<|bc (L0 (N:=["name","rows"]) (cap:=[none,none]) (S:=[0,1]) rfl (MM<|ax T.hkd (av 1) aI) rfl (by change WV _ wK _ (zL wI).names _=true;decide +kernel) (by decide) (λcl s H fp=>(Pj rfl (Zg (an 0 ZT) (Zg (an 1 ZT) V6 rfl) rfl) rfl rfl)) (λcl s H fp=>Lb) (λcl s H fp=>(EI<|bd (av 0)<|bd (cn (OR T) hr<|bc (av 1) zu) ZO)) λ_=>rfl) zu) rfl)<|Ld<|xm (Sr T) (pv 0) (AB (Vr rfl<|T.hkd _ rfl rfl rfl) T.MD Bt.dict<|bc (L0 (N:=["name","values"]) (cap:=[none,none]) (S:=[0,1]) rfl (MM<|ax T.hkd (av 1) aI) rfl (by change WV _ wK _ (zL wI).names _=true;decide +kernel) (by decide) (λcl s H fp=>(Pj rfl (Zg (an 0 Z0) (Zg (an 1 Z0) V6 rfl) rfl) rfl rfl)) (λcl s H fp=>Lb) (λcl s H fp=>(EI<|bd (av 0)<|bd (AB Kg T.F4 Bt.tuple<|bc (av 1) zu) ZO)) λ_=>rfl) zu) rfl)
def Lr:Cz T "Makes" "made" 24 (spS K kd xT):=by
 refine V7 (N:=Qk) (n:=2) T.xW T.KB λF S=>Tv (N:=Qk) (k:=23) (c:=ZG) F S (by decide) λcdv A outer s H E hr=>?_;have hN:=S.nd;exact(yj (Dp (Wo<|Wq (LF (T.hkd _ rfl rfl rfl) rfl rfl T.ZE Bt.isinstance rfl T.E_ Bt.list (av 1) (Bt.n _ rfl) (by decide) (Bt.n _ rfl) (by decide) rfl rfl rfl) λ_=>rfl) (Ll AY) FT)<|yj (tX (by decide) PassesOwn.never rfl (HW<|av 1) (an 2 hN) (Ll<|YU (x5 (Vc T) (hr.mono<|by omega) xa (pv 0) (bc (av 2) zu) rfl rfl rfl) rfl) λ_=>rfl)<|yj (YU (cn (LZ T) hr<|bc (bi (xX<|T.hkd _ rfl rfl rfl) T.Va Bt.len<|bc (av 1) zu) zu) rfl)<|Yb<|ZA (Rn T) (hr.mono<|by omega) xa (pv 0) (bc (cn (QH T 20) hr<|bc (G_ (Us T) (pv 0) rfl)<|bc (av 1) zu) zu) rfl rfl rfl)
def Js:Ts T "made" 24 "Makes" xT:=ph<|Lr T
def o8{f d}(F:Fun K "law" "law" F8 f d):FnOk P w K mg base YG 51 f d (Fs.take 1) (Vv K kd GY):=by
 have S:FnScope Fs (Fs.take 1) (zL F8):=sW;have hN:=S.nd;obtain⟨_,_,_,F_law_step,m_law_step_,k_law_step_,b_law_step_⟩:=EC T;refine S4 (N:=Fs) (k:=50) (c:=A6) F S λcdv A outer s H E hr=>?_;exact(by
  refine sj 1 hN ?_ ?_;exact(cn (BX T) hr<|bc (av 0) zu);refine sj 2 hN ?_ ?_;exact(lR (QI T "Makes") hr<|bc (lR (Rh T "Ways") hr<|bc (cn (Ea T) hr<|bc (av 1) zu) zu) zu);refine sj 3 hN ?_ ?_;exact(QC<|bd (V3<|cn (BJ T) hr<|bc (cn (Z1 T) hr<|bc (av 0)<|bc aI zu)<|bc (ax T.hkd (av 1) aI)<|bc aI zu) ZO);refine Yz ?_ ?_;exact(N1 (AW.at_<|Hg (Wo<|Wq (cn (wQ T) hr<|bc (ZA (Js T) (hr.mono<|by omega) xa (pv 2) (bc (AB GQ T.E_ Bt.list<|bc (ax T.hkd (av 3) aI) zu) zu) rfl rfl rfl)<|bc aI zu) λ_=>rfl)<|QY<|Wo<|Wq (NT<|cn (Z8 T) hr<|bc (av 1)<|bc (av 2)<|bc (av 3)<|bc aI zu) λ_=>rfl) (Z_<|Vt aB) VT);refine Yz ?_ ?_;exact(SU PassesOwn.never rfl (Kw rfl T.Rm (bc aI<|bc (bi (Qv rfl) T.Ov Bt.max<|bc aI<|bc (bi (G6 rfl) T.AX Bt.min<|bc (bi (xX<|T.hkd _ rfl rfl rfl) T.Va Bt.len<|bc (av 0) zu)<|bc aI zu) zu) zu) rfl rfl) (an 4 hN) (by
  refine sj 5 hN ?_ ?_;exact(cn (Z1 T) hr<|bc (av 0)<|bc (av 4) zu);refine Yz ?_ ?_;exact(N1 (Wo<|Wq (cn (wQ T) hr<|bc (ON 1 2 3 F_law_step hr m_law_step_ k_law_step_ b_law_step_<|bc (av 1)<|bc (av 2)<|bc (av 3)<|bc (av 5) zu)<|bc (bn (bi (xX<|T.hkd _ rfl rfl rfl) T.Va Bt.len<|bc (av 3) zu) aI) zu) λ_=>rfl) (Z_<|Vt aB) VT);exact Z_<|N1 (Wo<|Wq (NT<|cn (Z8 T) hr<|bc (av 1)<|bc (av 2)<|bc (av 3)<|bc (av 5) zu) λ_=>rfl) (Z_<|Vt aB) VT) λ_=>rfl)
  refine sj 6 hN ?_ ?_;exact(bi (xX<|T.hkd _ rfl rfl rfl) T.Va Bt.len<|bc (ax T.hkd (av 3) aI) zu);refine sj 7 hN ?_ ?_;exact(bn (bn (cn (Z1 T) hr<|bc (av 0)<|bc aI zu) aI)<|bn (av 6) aI);refine sj 8 hN ?_ ?_;exact(QC<|bd (V3<|x5 (RG T) (hr.mono<|by omega) xa (pv 2) (bc aI<|bc aI<|bc (av 7) zu) rfl rfl rfl)<|bd (V3<|x5 (RG T) (hr.mono<|by omega) xa (pv 2) (bc aI<|bc (av 7)<|bc (av 6) zu) rfl rfl rfl)<|bd (V3<|x5 (RG T) (hr.mono<|by omega) xa (pv 2) (bc aI<|bc aI<|bc (av 6) zu) rfl rfl rfl) ZO);refine Yz ?_ ?_;exact(N1 (Wo<|Wq (cn (wQ T) hr<|bc (ax T.hkd (av 8) aI)<|bc (cn (Uo T) hr<|bc (av 1)<|bc (ax T.hkd (av 3) aI) zu) zu) λ_=>rfl) (Z_<|Vt aB) VT);exact Z_<|Vt<|ec T.hkd hr (ax T.hkd (ax T.hkd (ax T.hkd (av 1) aI)<|ax T.hkd (av 8) aI)<|ax T.hkd (av 8) aI)<|ax T.hkd (av 8) aI)
end
def DY{l:PySem.W.OpenLaw}{w:World}{K:zzA}{mg:Str->Option Value}{fa:Addr}{kd:KD}(h:Heap)(hfa:mg "law"=some (.ref fa))(T:∀base,Txt l.prog w K mg base kd):
 ∃fd:FuncData,(∀(s:Shared) (v:Value),BindsTo s fd ⟨[v],[]⟩ [("_law_script",v)])/\∀base:Heap,K.In base->base.Ns mainGlobals mg->FnOk l.prog w K mg base YG 51 fa fd ["_law_script"] (kj K GY):=by
 obtain⟨f,d,F,e⟩:=(T h).qt;cases hfa.symm.trans e;obtain⟨_,_,_,_,_,_,_,_,_,rfl,_,_⟩:=F.ex;exact⟨_,λs v=>.of_eq rfl,λbase _ _=>(o8 (T base) F).imp λvs H Q E h=>h _⟩
def walk{l:PySem.W.OpenLaw}{q:Program}{loose:List Str}{XP:(Str->Option Value)->Heap->Prop}{YP:World->Heap->Prop}{d:DefRec}{K:Params->zzA}(hn:l.most=some 63)(hdf:d.params.defaults=[])
 (hY:∀(w:World) (h:Heap),YP w h->(K w.params).In h) (hm:∀ns:List Int,ns.length<=63->GY [(true,.lst<|ns.map D.int)]=some (.lf true<|.bl true))
 (F:∀(w:World) (mg:Str->Option Value) (fa:Addr) (h:Heap),(K w.params).In h->h.Ns mainGlobals mg->mg d.name=some (.ref fa)->
  ∃fd:FuncData,(∀(s:Shared) (u:Value),BindsTo s fd ⟨[u],[]⟩ [("_law_script",u)])/\∀base:Heap,(K w.params).In base->base.Ns mainGlobals mg->FnOk l.prog w (K w.params) mg base YG 51 fa fd ["_law_script"] (kj (K w.params) GY)):
 PySem.W.WalkO q loose XP YP l.row.toRowW d [] (λf vs=>PySem.call f vs):=
 L2.walk_of (n:=63) (k:=51) (x:="_law_script") (CX:=λ_=>YG) (sp:=λw=>kj (K w.params) GY) hn (by decide) hdf ⟨rfl,by decide,by decide,rfl⟩ hY F (λ_ _ a ns hl _ hS kd=>tQ (hm ns hl) hS) λ_ _ _ _ _ z=>z
local macro_rules | `(tactic| trivial)=>`(tactic| first|with_reducible first|assumption|exact Int.natCast_nonneg _|exact Nat.le_refl _|exact Int.le_refl _|exact rfl|exact tm (by assumption)|exact D6 (by assumption)|exact np2 (by assumption)|exact nq1 (by assumption)|exact nq2 (by assumption)|exact Int.natCast_pos.mpr (by assumption)|exact Nat.le_trans (by assumption) (by decide)|exact bgL _|exact bgU (by assumption)|exact mU (by assumption)|exact zI _|exact bL0 (by assumption)|exact bU0 (by assumption) (by assumption)|exact iL (by assumption)|exact iU (by assumption) (by assumption)|exact iC (by assumption)|exact iT (by assumption)|exact stL (by assumption)|exact stU (by assumption)|exact lnK (by assumption) (by assumption) (by assumption)|exact zi1 _|exact lnE (by assumption)|exact ltL (by assumption)|exact Int.toNat_of_nonneg (by assumption)|exact tS (by assumption) (by assumption)|exact b6 (by assumption)|exact Int.emod_nonneg _ (by decide)|exact Int.emod_lt_of_pos _ (by decide)|decide|omega)
local macro_rules |`(⋯)=>`(by first|with_reducible rfl|assumption|exact zb|exact zo|exact yy|exact zg|(with_reducible refine za ?_;first|rfl|assumption)|(with_reducible refine WD.e ?_;exact ⋯)|(with_reducible refine zd ?_ ?_ <;> exact ⋯)|(with_reducible refine zF ?_ ?_ <;> exact ⋯)|(with_reducible refine zN ?_ ?_ <;> exact ⋯)|(with_reducible refine wV ?_ ?_ <;> exact ⋯)|(with_reducible refine zY ?_ ?_ ?_ <;> exact ⋯)|(with_reducible refine xl ?_ ?_ ?_ ?_ <;> exact ⋯)|(with_reducible refine y_ ?_ ?_ ?_ ?_ <;> exact ⋯)|(with_reducible refine zV ?_ ?_ rfl rfl <;> exact ⋯)|(with_reducible refine zz ?_;exact ⋯)|(with_reducible refine xR ?_;exact ⋯)|(with_reducible refine xG ?_ rfl;exact ⋯)|exact zK (by decide)|omega|rfl|decide)
section
variable{n m:Nat}{J T:TZ}{e:Int}{Ds:DD}{S:SS}
def EW(n8:n<=8)(hJ:Tab n n J)(he:zQ n e):SH (Zt [(true,vW n m J e Ds S)]) (mG n J e):=by
 refine SH.imp (P:=mG n J e/\True) (EH rfl ?_) ⟨λz=>z.1,λz=>⟨z,trivial⟩⟩;have s1:zm true 1 (f2 zk yE zw) [sT<|vW n m J e Ds S,none,none,none]=some _:=zE ⋯ (zg rfl);have s2:zm true 2 _ [sT _,sT _,none,none]=some (.nx [sT<|vW n m J e Ds S,sT<|wF J,sI e,none]):=zE ⋯ (zg rfl);have k:=Lz (g:=zx _) (sd (S:=λx y z=>[sT<|vW n m J e Ds S,sT<|wF J,sI e,x]) (x:=none) (y:=none) (z:=none) (vj:=1) (ve:=2) hJ he (λ_ _ _=>rfl) (λ_ _ _=>rfl) (λ_ _ _=>rfl) λ_ _ _ _=>rfl) λ_ _ _=>Lp;have hf:∀f:SF,yu (yt (aC (f2 zk zM zw) aN) yM) _ f _=forL (gN 3) f _ [sT<|vW n m J e Ds S,sT<|wF J,sI e,none]:=λf=>yr (xk (j:=n) (zd (zV (za rfl) zb rfl rfl) zo) (by trivial)<|by trivial) ⋯;have fin:∀x,Rt _ x->Rt (Zq _) x:=λx h=>by
  refine zc s1<|zc s2 ?_;obtain⟨o,a,b⟩:=h;refine⟨o, ?_,b⟩;unfold zh at ⊢
  rwa [hf]
 rcases k with⟨k,p⟩|⟨⟨es,k⟩,p⟩
 . exact .inl ⟨fin _ k,p⟩
 . exact .inr ⟨⟨es,fin _ k⟩,p⟩
def Ew(n8:n<=8)(hJ:Tab n n J):SH (Zo [(true,vW n m J e Ds S)]) (As n J):=by
 have s1:zm true 1 (f2 zk zM zw) [sT<|vW n m J e Ds S,none,none,none,none,none]=some _:=zE ⋯ (zg rfl);have s2:zm true 2 (f2 zk yE zw) [sT<|vW n m J e Ds S,sI n,none,none,none,none]=some _:=zE ⋯ (zg rfl);have k:=C3 (S:=λx y z=>[sT<|vW n m J e Ds S,sI n,sT _,x,y,z]) (x:=none) (y:=none) (z:=none) (vj:=2) (vn:=1) n8 hJ (λ_ _ _=>rfl) (λ_ _ _=>rfl) (λ_ _ _=>rfl) (λ_ _ _=>rfl) (λ_ _ _=>rfl) (λ_ _ _ _=>rfl) (λ_ _ _ _=>rfl) λ_ _ _ _=>rfl;rw[<-YJ (v:=1) rfl (by trivial)]at k;refine SH.imp (P:=As n J/\True) (EH rfl ?_) ⟨λz=>z.1,λz=>⟨z,trivial⟩⟩
 rcases Lz k λ_ _ _=>Lp with⟨k,p⟩|⟨⟨es,k⟩,p⟩
 . exact .inl ⟨zc s1<|zc s2 k,p⟩
 . exact .inr ⟨⟨es,zc s1<|zc s2 k⟩,p⟩
def O9{s:Str}(n8:n<=8)(m1:1<=m)(m6:m<=6)(hJ:Tab n n J)(hT:Tab m n T):SH (Yp [(true,vW n m J e Ds S),(true,.str s),(true,wF T)]) (Dn n m J T):=by
 have k:Re (forL (gN 6) (yu (yt (aC zT aN) yM) (gN 7)<|yu (yt ZZ yM) (gN 8)<|yu (yt (aC zT aN) yM) (gN 9) mN) (yU 0 n)<|ND n m J T e Ds S s none none none none) (λas=>∃x y z w,as=ND n m J T e Ds S s x y z w) (Dn n m J T):=by
  refine Wi (fr:=yT) _ _ (λa ha as hI=>?_) ⟨_,_,_,_,rfl⟩;obtain⟨x,y,z,w,rfl⟩:=hI;refine⟨ND n m J T e Ds S s (sI a) y z w,rfl, ?_⟩;rw[YJ rfl<|by trivial];have k:=Wi (v:=7) (fr:=yT) (f:=yu (yt ZZ yM) (gN 8)<|yu (yt (aC zT aN) yM) (gN 9) mN) (as:=ND n m J T e Ds S s (sI a) y z w) (λas=>∃y z w,as=ND n m J T e Ds S s (sI a) y z w) _ (λi hi as hI=>by
   obtain⟨y,z,w,rfl⟩:=hI;refine⟨ND n m J T e Ds S s (sI a) (sI i) z w,rfl, ?_⟩;rw[YJ (v:=3) (n:=n) rfl<|by trivial];have k:=Wi (v:=8) (n:=n) (fr:=yT) (f:=yu _ (gN 9) mN) (as:=ND n m J T e Ds S s (sI a) (sI i) z w) (λas=>∃z w,as=ND n m J T e Ds S s (sI a) (sI i) z w) _ (λb hb as hI=>by
    obtain⟨z,w,rfl⟩:=hI;refine⟨ND n m J T e Ds S s (sI a) (sI i) (sI b) w,rfl, ?_⟩;rw[YJ (v:=4) (n:=m) rfl<|by trivial]
    rcases iq (s:=s) (w:=w) (e:=e) (S:=S) hJ hT m1 ha hi hb with⟨as',k1,⟨w',rfl⟩,k3⟩|k
    . exact .inl ⟨_,k1,⟨_,_,rfl⟩,k3⟩
    . exact .inr k) ⟨_,_,rfl⟩
   rcases k with⟨as',k1,⟨z',w',rfl⟩,k3⟩|k
   . exact .inl ⟨_,k1,⟨_,_,_,rfl⟩,k3⟩
   . exact .inr k) ⟨_,_,_,rfl⟩
  rcases k with⟨as',k1,⟨y',z',w',rfl⟩,k3⟩|k
  . exact .inl ⟨_,k1,⟨_,_,_,_,rfl⟩,k3⟩
  . exact .inr k
 rw[<-YJ (v:=3) (n:=n) rfl (by trivial)]at k;have s3:zm true 3 (f2 zk zM zw) [sT<|vW n m J e Ds S,sT<|.str s,sT<|wF T,none,none,none,none,none,none,none]=some (.nx _):=zE (i:=3) ⋯ (zg rfl);have s4:zm true 4 (f2 zk zD zw) [sT<|vW n m J e Ds S,sT<|.str s,sT<|wF T,sI n,none,none,none,none,none,none]=some (.nx _):=zE (i:=4) ⋯ (zg rfl);have s5:zm true 5 (f2 zk yE zw) [sT<|vW n m J e Ds S,sT<|.str s,sT<|wF T,sI n,sI m,none,none,none,none,none]=some _:=zE (i:=5) ⋯ (zg rfl);refine SH.imp (P:=Dn n m J T/\True) (EH (m:=3) rfl ?_) ⟨λz=>z.1,λz=>⟨z,trivial⟩⟩
 rcases Lz k λ_ _ _=>Lp with⟨k,p⟩|⟨⟨es,k⟩,p⟩
 . exact .inl ⟨zc s3<|zc s4<|zc s5 k,p⟩
 . exact .inr ⟨⟨es,zc s3<|zc s4<|zc s5 k⟩,p⟩
def M3(A:Alg n m J e Ds)(L:LawA n m J e Ds):RE (YK [(true,vW n m J e Ds S)]) .non:=by
 have n8:=A.n8;have m1:=A.m1;have s1:zm true 1 (f2 zk ZY zw) [sT<|vW n m J e Ds S,none,none,none,none]=some _:=zE ⋯ (zg rfl);obtain⟨as',hf,x,y,z,rfl⟩:=yS (g:=gT 2<|yI (gN 2)<|yI (gN 3) Yq) (f:=(zh oe
  (zh _
  (xg (fT<|f2 zT (fC .non)<|zC .IsNot) _ yT))))
  (λi as=>∃(x y z:Option O),as=[sT _,sI e,x,y,z])
  ((Ds.map Xy).map λd=>(true,d)) 0 [sT _,sI e,none,none,none] (λi x as hx' hI=>by
    obtain⟨x,y,z,rfl⟩:=hI;rw[zyB,zzI]at hx';obtain⟨p,hp,rfl⟩:=zzX.mp hx';have mp:=zyA hp;have hT:=A.ds p mp;obtain⟨q1,_⟩:=X2 (as:=[sT _,sI e,sT _,sT _,z]) hT ⟨by trivial,by trivial⟩ ⟨A.e0,A.en⟩ ⋯ (zb) (za (i:=1) rfl);have t1:=Cy q1<|za (i:=1) rfl;rw[(L.ld p mp).em,show(!_)=false by simp]at t1;have d:=(O9 (s:=p.1) (e:=e) (Ds:=Ds) (S:=S) n8 m1 A.m6 A.j hT).none<|L.dn mp;exact⟨[sT _,sI e,sT<|.str p.1,sT<|wF p.2,z],rfl,_,zr (zt t1 rfl)<|zr (yO (p:=4) (zZ (WD.e<|za (i:=0) rfl) (WD.e<|za (i:=2) rfl) (WD.e<|za (i:=3) rfl) d)<|zg rfl) ⋯,_,_,_,rfl⟩)
  ⟨_,_,_,rfl⟩
 exact zG rfl<|zc s1<|zc (yr (FL ⋯) hf) ⋯
def BR(A:Alg n m J e Ds)(L:LawA n m J e Ds):RE (YQ [(true,vW n m J e Ds S)]) .non:=by
 have r1:=(EW (m:=m) (Ds:=Ds) (S:=S) A.n8 A.j ⟨A.e0,A.en⟩).none L.un;have r2:=(Ew (m:=m) (e:=e) (Ds:=Ds) (S:=S) A.n8 A.j).none L.as;have r3:=M3 (S:=S) A L;have tt:WT (fT<|f2 zj (fC .non)<|zC .Is) [sT<|vW n m J e Ds S,sT .non] true:=xG ⋯ rfl;exact zG rfl<|zc (yO (xO (WD.e ⋯) r1)<|zg rfl)<|zc (xx tt<|yO (xO (WD.e<|za rfl) r2)<|zg rfl)<|zc (xx tt<|yO (xO (WD.e<|za rfl) r3)<|zg rfl)<|zz<|WD.e<|za rfl
end
open L2 (QB)
abbrev lW(p:Str×TZ):L2.Key×D:=(Sum.inr p.1,vZ p.2)
abbrev mQ(p:Str×List Int):L2.Key×D:=(Sum.inr p.1,Qi p.2)
noncomputable abbrev og:List Str:=["size","around","table","neutral","waits","holders"]
abbrev P6(n m:Nat)(J:TZ)(e:Int)(Ds:DD)(S:SS):D:=.ob "Ways" og [.int n,.int m,vZ J,.int e,.dct<|Ds.map lW,.dct<|S.map mQ]
def Ys{α:Type}{f:EF}{as:AS}{g:α->D}{l:List α}(h:WE f as (.lst<|l.map g)):xZ f as=some (l.map λa=>(true,g a),as):=by
 have:=px h
 rwa [zyB]at this
def Bg{T:TZ}(hl:T.length<=1000):RE (LK [(true,wF T)]) (vZ T):=
 zG rfl (zz<|VN (Vq T (Ys<|WD.e ⋯) ⋯ λr _=>⟨[sT _],rfl,VN (WD.e ⋯) rfl⟩) rfl)
section
variable{n m:Nat}{J:TZ}{e:Int}{Ds:DD}{S:SS}
def SJ(A:Alg n m J e Ds)(L:LawA n m J e Ds):RE (vM [(true,vW n m J e Ds S)]) .non:=by
 have h:ZW (vX 2 [(true,vW n m J e Ds S)])=some _:=zr (yO (xO (WD.e ⋯)<|BR A L)<|zg rfl) ⋯;refine⟨.lf true .non, ?_,rfl,rfl⟩;unfold vM xD;rw[h];rfl
def IL(A:Alg n m J e Ds)(L:LawA n m J e Ds)(sl:S.length<=4)(sn:(S.map (·.1)).Nodup):RE (xp "Ways" [(true,vW n m J e Ds S)]) (P6 n m J e Ds S):=by
 have dl:=A.dl;have n8:=A.n8;have m6:=A.m6;have w1:∀o,WD zj [o,sT<|vW n m J e Ds S] true (vW n m J e Ds S):=λo=>za (i:=1) rfl;have h4:∀o,WE oJ [o,sT<|vW n m J e Ds S] (.dct<|Ds.map lW):=λo=>
  DJ A.nd (Vq Ds (Ys (g:=Xy)<|Nz (WD.e<|w1 o) (WD.e zb) rfl) (by omega) λp mp=>⟨_,rfl,yA (WD.e<|za (i:=0) rfl)<|xO (WD.e<|za (i:=1) rfl)<|Bg<|by rw[(A.ds p mp).1];omega⟩)
 have h5:∀o,WE qS [o,sT<|vW n m J e Ds S] (.dct<|S.map mQ):=λo=>
  DJ sn (Vq S (Ys (g:=UJ)<|Nz (WD.e<|w1 o) (WD.e zb) rfl) (by omega) λp mp=>⟨_,rfl,yA (WD.e<|za (i:=0) rfl)<|VN (WD.e<|za (i:=1) rfl) rfl⟩)
 have h:Zu (wz 2 (n6 "Ways"::[(true,vW n m J e Ds S)].map Fc))=some _:=
  yH (OA<|xO (WD.e<|w1 _)<|SJ A L) (yH ⋯ (yH ⋯ (yH (xN (c:="Ways") (i:=0) (xO (Nz (WD.e<|w1 _) (WD.e zb) rfl)<|Bg<|by rw[A.j.1];omega) rfl (by decide +kernel) (by decide +kernel)<|by decide)<|yH ⋯ (yH (xN (c:="Ways") (i:=0) (h4 _) rfl (by decide +kernel) (by decide +kernel)<|by decide)<|xN (c:="Ways") (i:=0) (h5 _) rfl (by decide +kernel) (by decide +kernel)<|by decide))))
 refine⟨.nd (.ob "Ways" og) [.lf true<|.int n,.lf true<|.int m,.lf true<|vZ J,.lf true<|.int e,.lf true<|.dct<|Ds.map lW,.lf true<|.dct<|S.map mQ], ?_,rfl,rfl⟩;unfold xp sY;rw[if_pos (by rfl),h];rfl
def SM{a b:Int}(hJ:Tab n n J)(ha:zQ n a)(hb:zQ n b):RE (XO [(true,P6 n m J e Ds S),(true,.int a),(true,.int b)]) (.int<|yG J a b):=
 zG rfl (zz<|WD.e<|Hw hJ ha hb ⋯ ⋯ ⋯)
end
structure Cx where
 n:Nat
 m:Nat
 J:TZ
 e:Int
 Ds:DD
 S:SS
abbrev Cx.w(c:Cx):D:=P6 c.n c.m c.J c.e c.Ds c.S
abbrev Cx.g(c:Cx):D:=vW c.n c.m c.J c.e c.Ds c.S
abbrev Cx.h(c:Cx):List Int->Int:=FU c.J c.e
abbrev Cx.In(c:Cx)(r:List Int):Prop:=∀x ∈ r,zQ c.n x
structure Cx.Ok(c:Cx):Prop where
 A:Alg c.n c.m c.J c.e c.Ds
 L:LawA c.n c.m c.J c.e c.Ds
structure Cx.W(c:Cx)(T:TZ):Prop where
 t:Tab c.m c.n T
 l:LD c.n c.m (yG c.J) c.e (yG T)
def Jf:Option TZ->D
 |none=>.non
 |some T=>vZ T
def Cx.wok(c:Cx):Option TZ->Prop
 |none=>True
 |some T=>c.W T
def Cx.ap(c:Cx):Option TZ->List Int->List Int
 |none,r=>r
 |some T,r=>r.map<|yG T<|1%(c.m:Int)
noncomputable def tn:Bool->List Int->List Int
 |false,r=>r
 |true,r=>r.reverse
noncomputable abbrev qb:List Str:=["whole","back","wait","turn","one","other","deep","size"]
abbrev kn(w b:Int)(q:D)(t:Bool)(x y:D)(p s:Int):D:=.ob "Knot" qb [.int w,.int b,q,.bl t,x,y,.int p,.int s]
inductive TK(c:Cx):D->List Int->Nat->Prop
 |lf (v:Int) (t:Bool):zQ c.n v->TK c (kn v v .non t .non .non 0 1) [v] 0
 |nd (w:Option TZ) (t:Bool) {x y:D}{r s:List Int}{p q:Nat}{R:List Int}:TK c x r p->TK c y s q->p<=q+1->q<=p+1->c.wok w->R=tn t (c.ap w (r++s))->TK c (kn (c.h R) (c.h R.reverse) (Jf w) t x y ((1+max p q:Nat):Int) (R.length:Int)) R (1+max p q)
section
variable{c:Cx}{d:D}{R:List Int}{p:Nat}
def Vl(w:Option TZ)(r:List Int):(c.ap w r).length=r.length:=by cases w with
 |none=>rfl
 |some T=>exact zzB ..
def OB(t:Bool)(r:List Int):(tn t r).length=r.length:=by cases t with
 |false=>rfl
 |true=>exact List.length_reverse ..
def Hr(w:Option TZ)(r s:List Int):c.ap w (r++s)=c.ap w r++c.ap w s:=by cases w with
 |none=>rfl
 |some T=>exact zyM ..
def q_(w:Option TZ)(t:Bool)(r:List Int):c.ap w (tn t r)=tn t (c.ap w r):=by cases w with
 |none=>rfl
 |some T=>cases t with
  |false=>rfl
  |true=>exact List.map_reverse ..
theorem Cx.Ok.m1(h:c.Ok):zQ c.m (1%(c.m:Int)):=Wf h.A.m1
def rH(h:c.Ok){w:Option TZ}(hw:c.wok w){r:List Int}(k:c.In r):c.In (c.ap w r):=by cases w with
 |none=>exact k
 |some T=>
  intro x mx;obtain⟨z,mz,rfl⟩:=zxB.mp mx;exact hw.l.cl _ _ h.m1<|k z mz
def AL{t:Bool}{r:List Int}(k:c.In r):c.In (tn t r):=by cases t with
 |false=>exact k
 |true=>exact λx mx=>k x<|List.mem_reverse.mp mx
def O3{r s:List Int}(k:c.In r)(l:c.In s):c.In (r++s):=λx mx=>(zzM.mp mx).elim (k x)<|l x
def TK.in(h:c.Ok):TK c d R p->c.In R:=λk=>by
 induction k with
 |lf v t hv=>exact λx mx=>by rcases zzC.mp mx with rfl|mx;exact hv;exact nomatch mx
 |nd w t a b _ _ hw e i j=>subst e;exact AL<|rH h hw<|O3 i j
def TK.rev(h:c.Ok)(k:TK c d R p):c.In R.reverse:=AL (t:=true)<|k.in h
noncomputable def fb:Nat->Nat
 |0=>1
 |1=>2
 |k+2=>fb (k+1)+fb k
def rX:∀k,fb k<=fb (k+1)
 |0=>⋯
 |k+1=>by show _<=fb _+fb k;omega
def A1{a b:Nat}(h:a<=b):fb a<=fb b:=by
 induction h with
 |refl=>exact zzN _
 |step _ i=>exact zzO i (rX _)
theorem TK.fb(k:TK c d R p):fb p<=R.length:=by
 induction k with
 |lf=>exact zzN _
 | @nd w t x y r s p q R a b h1 h2 hw e i j=>
  subst e;rw[OB,Vl,zzJ]
  by_cases h:q<=p
  . rw[Nat.max_eq_left h,Nat.add_comm 1 p];cases p with
    |zero=>rw[show q=0 by omega]at j;exact Nat.add_le_add i j
    |succ p=>
     have:G43.fb p<=G43.fb q:=A1 ⋯;show G43.fb _+G43.fb p<=_;omega
  . rw[Nat.max_eq_right ⋯,Nat.add_comm 1 q,show q=p+1 by omega];rw[show q=p+1 by omega]at j;show G43.fb _+G43.fb p<=_;omega
def TK.lt(k:TK c d R p)(hl:R.length<=1000):p<20:=by
 refine Nat.lt_of_not_le λh=>?_;have h1:=k.fb;have h2:=A1 h;have:G43.fb 20=17711:=⋯;omega
def TK.gt(k:TK c d R p):∃q t x y,d=kn (c.h R) (c.h R.reverse) q t x y p R.length:=by
 cases k with
 |lf v t _=>exact⟨_,_,_,_,rfl⟩
 |nd w t=>exact⟨_,_,_,_,rfl⟩
def WK{a:EF}{as:AS}{w b:Int}{q x y:D}{t:Bool}{p s:Int}{cs:List Str}{f:Str}{v:D}(h:WD a as true (kn w b q t x y p s))(hc:("Knot":Str) ∈ cs)(hl:Ee qb [.int w,.int b,q,.bl t,x,y,.int p,.int s] f=some v):WD (f1 a<|z9 cs f) as true v:=by
 have:=K5 h hc hl
 rwa [zyD]at this
variable{a:EF}{as:AS}
theorem TK.whole(k:TK c d R p)(ha:WD a as true d):WD (f1 a<|z9 Zh "whole") as true (.int<|c.h R):=by
 obtain⟨q,t,x,y,rfl⟩:=k.gt;exact WK ha ⋯ rfl
theorem TK.back(k:TK c d R p)(ha:WD a as true d):WD (f1 a<|z9 Xc "back") as true (.int<|c.h R.reverse):=by
 obtain⟨q,t,x,y,rfl⟩:=k.gt;exact WK ha ⋯ rfl
theorem TK.deep(k:TK c d R p)(ha:WD a as true d):WD (f1 a<|z9 yF "deep") as true (.int p):=by
 obtain⟨q,t,x,y,rfl⟩:=k.gt;exact WK ha ⋯ rfl
theorem TK.size(k:TK c d R p)(ha:WD a as true d):WD (f1 a<|z9 wR "size") as true (.int R.length):=by
 obtain⟨q,t,x,y,rfl⟩:=k.gt;exact WK ha ⋯ rfl
def TK.isN(k:TK c d R p)(ha:WD a as true d):WT (fT<|f2 a (fC .non)<|zC .Is) as false:=by
 obtain⟨q,t,x,y,rfl⟩:=k.gt;exact xG (zV ha zb rfl rfl) rfl
def TK.zero(k:TK c d R p)(ha:WD a as true d):WT (fT<|f2 (f1 a<|z9 yF "deep") zM<|zC .Eq) as (decide (p=0)):=xG (RN (k.deep ha) zb (by
 show some _=_
 by_cases h:p=0
 . subst h;rfl
 . rw[zyG h,beq_eq_false_iff_ne.mpr ⋯])) rfl
end
section
variable{n m:Nat}{J:TZ}{e:Int}{Ds:DD}{S:SS}
def B7{W1 W2:TZ}{x:D}(h1:Tab m n W1)(h2:Tab m n W2)(m6:m<=6)(n8:n<=8):RE (Yi [(true,x),(true,vZ W1),(true,vZ W2)]) (vZ<|bh W1 W2):=by
 have hz:XB (aC zj w6) [sT x,sT<|vZ W1,sT<|vZ W2]=some ((W1.zip W2).map λq=>(true,.tup [Qi q.1,Qi q.2]),[sT x,sT<|vZ W1,sT<|vZ W2]):=by
  have:=HH (as:=[sT x,sT<|vZ W1,sT<|vZ W2]) (WD.e<|za (i:=1) rfl) (WD.e<|za (i:=2) rfl) (.t _)<|.t _;rw[this,List.zip_map,zyB];rfl
 have:=Vq (cap:=[none,none]) (gg:=gT 2<|yI xC<|yI (gN 1) Yq) (fe:=fP (aC B9 aN) tupP) _ hz (by rw[List.length_zip,h1.1];omega) (λq mq=>by
  obtain⟨q1,q2⟩:=List.of_mem_zip mq;have r1:=h1.2 _ q1;have r2:=h2.2 _ q2;refine⟨[sT<|Qi q.1,sT<|Qi q.2],rfl,VN (Vq (it:=λa=>(true,D.int a)) q.1 ?_ (by rw[r1.1];omega) λa ma=>⟨_,rfl,WD.e<|zV ⋯ ⋯ (oh r2<|r1.2 a ma) rfl⟩) ?_⟩
  . have:=tO (as:=[sT<|Qi q.1,sT<|Qi q.2])<|WD.e<|za (i:=0) rfl
    rwa [zyB]at this
  . show _=some (R0.im<|.tup<|(q.1.map<|vV q.2).map D.int);rw[zyB];rfl)
 refine zG rfl<|zz<|VN this ?_;show _=some (R0.im<|.tup<|((W1.zip W2).map λp=>p.1.map<|vV p.2).map Qi);rw[zyB];rfl
def J4{W:TZ}{v k:Int}(m1:1<=m)(h1:Tab m n W)(hv:zQ n v):XT [(true,P6 n m J e Ds S),(true,vZ W),(true,.int v),(true,.int k)]=sI (yG W (k%m) v):=by
 have wa:WD (f1 zk<|z9 Wv "around") [sT<|P6 n m J e Ds S,sT<|vZ W,sI v,sI k] true _:=uh rfl ⋯ rfl;exact x6 rfl<|xR<|Hw h1 (Wf m1) hv ⋯ (zY ⋯ wa ⋯) ⋯
end
def Pz{a b c d e f:EF}{as:AS}{x y z u v w o:D}{g:List (Bool×D)->Option O}(ha:WE a as x)(hb:WE b as y)(hc:WE c as z)(hd:WE d as u)(he:WE e as v)(hf:WE f as w)(hg:RE (g [(true,x),(true,y),(true,z),(true,u),(true,v),(true,w)]) o):WE (ze (aC a<|aC b<|aC c<|aC d<|aC e<|aC f aN) g) as o:=by
 obtain⟨o,h1,h2⟩:=hg;exact⟨o,Ze (yZ ha<|yZ hb<|yZ hc<|yZ hd<|yZ he<|yZ hf zo) (by simp;exact h1),h2⟩
abbrev k7(ns:List Str)(os:List O)(w b:Int)(a:D)(t:Bool)(x y:D):AS:=[some<|.nd (.ob "Knot" ns) os,sI w,sI b,sT a,sT<|.bl t,sT x,sT y]
def Ay{w b:Int}{a x y:D}{t:Bool}{p s:Int}(hd:∀ns os,WE rY (k7 ns os w b a t x y)<|.int p)
 (hz:∀ns os,WE qi (k7 ns os w b a t x y)<|.int s):
 RE (yg "Knot" [(true,.int w),(true,.int b),(true,a),(true,.bl t),(true,x),(true,y)]) (kn w b a t x y p s):=by
 have v:∀(i:Nat) (d:D) ns os,(k7 ns os w b a t x y)[i]? = some (sT d)->WE (fV i) (k7 ns os w b a t x y) d:=λi d ns os h=>WD.e<|za h;have h:Zs (wz 7 (n6 "Knot"::[(true,.int w),(true,.int b),(true,a),(true,.bl t),(true,x),(true,y)].map Fc))=some (k7 qb _ w b a t x y):=
  yH (xN (i:=0) (ns:=[]) (os:=[]) (v 1 _ _ _ rfl) rfl (by decide +kernel) (by decide +kernel)<|by decide)
  (yH (xN (i:=0) (v 2 _ _ _ rfl) rfl (by decide +kernel) (by decide +kernel)<|by decide)
  (yH (xN (i:=0) (v 3 _ _ _ rfl) rfl (by decide +kernel) (by decide +kernel)<|by decide)
  (yH (xN (i:=0) (v 4 _ _ _ rfl) rfl (by decide +kernel) (by decide +kernel)<|by decide)
  (yH (xN (i:=0) (v 5 _ _ _ rfl) rfl (by decide +kernel) (by decide +kernel)<|by decide)
  (yH (xN (i:=0) (v 6 _ _ _ rfl) rfl (by decide +kernel) (by decide +kernel)<|by decide)
  (yH (xN (i:=0) (hd _ _) rfl (by decide +kernel) (by decide +kernel)<|by decide)
  (xN (i:=0) (hz _ _) rfl (by decide +kernel) (by decide +kernel)<|by decide)))))))
 refine⟨.nd (.ob "Knot" qb) [.lf true<|.int w,.lf true<|.int b,.lf true a,.lf true<|.bl t,.lf true x,.lf true y,.lf true<|.int p,.lf true<|.int s], ?_,rfl,rfl⟩;unfold yg sY;rw[h];rfl
def Mw{w b:Int}{a:D}{t:Bool}:RE (yg "Knot" [(true,.int w),(true,.int b),(true,a),(true,.bl t),(true,.non),(true,.non)]) (kn w b a t .non .non 0 1):=
 Ay (λ_ _=>Lw ⋯ ⋯) λ_ _=>Lw ⋯ ⋯
section
variable{c:Cx}{x y d:D}{r s R:List Int}{p q:Nat}
def TN{w b:Int}{a:D}{t:Bool}(k:TK c x r p)(l:TK c y s q):RE (yg "Knot" [(true,.int w),(true,.int b),(true,a),(true,.bl t),(true,x),(true,y)]) (kn w b a t x y ((1+max p q:Nat):Int) ((r.length+s.length:Nat):Int)):=by
 have v5:∀ns os,WD yN (k7 ns os w b a t x y) true x:=λ_ _=>za rfl;have v6:∀ns os,WD xj (k7 ns os w b a t x y) true y:=λ_ _=>za rfl;refine Ay (λns os=>K3 (k.isN ⋯) ?_) λns os=>K3 (k.isN ⋯) ?_
 . have h:=zN (zb (x:=.int 1))<|yJ (g:=Gg) (zd (k.deep ⋯)<|zd (l.deep<|v6 ns os) zo) rfl rfl;rw[show((1+max p q:Nat):Int)=1+(if(q:Int) > p then(q:Int)else p) by split<;>omega];exact WD.e h
 . have h:=zN (k.size ⋯)<|l.size<|v6 ns os;exact WD.e h
def Bs{v:Int}:RE (WB [(true,.int v)]) (kn v v .non false .non .non 0 1):=
 zG rfl (zz<|Pz (WD.e ⋯) (WD.e ⋯) ⋯ ⋯ ⋯ ⋯ Mw)
def TK.mk(h:c.Ok)(w:Option TZ)(t:Bool)(hw:c.wok w)(k:TK c x r p)(l:TK c y s q)(h1:p<=q+1)(h2:q<=p+1){u v:Int}(hu:u=c.h (tn t<|c.ap w<|r++s))(hv:v=c.h (tn t<|c.ap w<|r++s).reverse):TK c (kn u v (Jf w) t x y ((1+max p q:Nat):Int) ((r.length+s.length:Nat):Int)) (tn t<|c.ap w<|r++s) (1+max p q):=by
 have:=TK.nd w t k l h1 h2 hw rfl;rw[OB,Vl,zzJ]at this
 rwa [hu,hv]
def xS(h:c.Ok)(k:TK c x r p)(l:TK c y s q)(h1:p<=q+1)(h2:q<=p+1):∃d,RE (yp [(true,c.w),(true,x),(true,y)]) d/\TK c d (r++s) (1+max p q):=by
 have v1:WD zj [sT c.w,sT x,sT y] true x:=za rfl;have v2:WD zB [sT c.w,sT x,sT y] true y:=za rfl;have wy:WD zk [sT c.w,sT x,sT y] true c.w:=za rfl;have w1:=Ox (tbl:=Qr) (m:="join") wy (by decide +kernel) rfl (WD.e<|k.whole v1) (WD.e<|l.whole v2)<|SM h.A.j (v8 h.L.lj<|k.in h)<|v8 h.L.lj<|l.in h;have w2:=Ox (tbl:=Qr) (m:="join") wy (by decide +kernel) rfl (WD.e<|l.back v2) (WD.e<|k.back v1)<|SM h.A.j (v8 h.L.lj<|l.rev h)<|v8 h.L.lj<|k.rev h;refine⟨_,zG rfl<|zz<|Pz w1 w2 (WD.e zb) ⋯ (WD.e v1) (WD.e v2) (TN k l),TK.mk h none false trivial k l h1 h2 ?_ ?_⟩
 . exact(Fb h.L.lj (k.in h)<|l.in h).symm
 . show _=c.h (r++s).reverse;rw[List.reverse_append];exact(Fb h.L.lj (l.rev h)<|k.rev h).symm
def IY(h:c.Ok){w u:Option TZ}(hw:c.wok w)(hu:c.wok u):∃v,RE (Y2 [(true,c.w),(true,Jf w),(true,Jf u)]) (Jf v)/\c.wok v/\∀r,c.In r->c.ap v r=c.ap u (c.ap w r):=by
 cases w with
 |none=>exact⟨u,zG rfl<|yi<|yz ⋯ (zz<|WD.e ⋯),hu,λ_ _=>rfl⟩
 |some A=>
  have t1:∀z,WT (fT<|f2 zj (fC .non)<|zC .Is) [sT c.w,sT<|vZ A,z] false:=λz=>xG ⋯ rfl;cases u with
  |none=>exact⟨some A,zG rfl<|zc ⋯ (yi<|yz ⋯ (zz<|WD.e ⋯)),hw,λ_ _=>rfl⟩
  |some B=>
   have m1:=h.m1;have at':∀{i a:Int},zQ c.m i->zQ c.n a->yG _ i a=yG B i _:=λhi ha=>nk hw.t hu.t hi ha;refine⟨some _,zG rfl<|zc ⋯ (zc ⋯ (zz<|Ox ⋯ ⋯ rfl (WD.e ⋯) (WD.e<|za rfl) (B7 hw.t hu.t h.A.m6 h.A.n8))),⟨D4 hw.t hu.t, ?_⟩,λr hr=>?_⟩
   . have he:=h.L.lj.ce;have h0:zQ c.m 0:=⟨Int.le_refl _,Int.natCast_pos.mpr h.A.m1⟩;refine⟨λi a hi ha=>?_, ?_,λa i b k ha hi hb hk=>?_⟩
     . rw[at' hi ha];exact hu.l.cl _ _ hi<|hw.l.cl _ _ hi ha
     . rw[at' h0 he,hw.l.em,hu.l.em]
     . rw[at' (Wf h.A.m1)<|h.L.lj.cl _ _ ha hb,at' hi ha,at' hk hb,hw.l.dn a i b k ha hi hb hk,hu.l.dn _ i _ k (hw.l.cl _ _ hi ha) hi (hw.l.cl _ _ hk hb) hk]
   . show _=(r.map _).map _;rw[zyB];exact List.map_congr_left λa ma=>at' m1<|hr a ma
def LP(h:c.Ok){T:TZ}(hT:c.W T)(k:TK c d R p):∃d',RE (Za [(true,c.w),(true,d),(true,vZ T)]) d'/\TK c d' (c.ap (some T) R) p:=by
 have v1:∀a b,WD zj [sT c.w,sT d,sT<|vZ T,a,b] true d:=λ_ _=>za (i:=1) rfl;have mk:∀{v:Int}{j:EF}{a b:Option O},zQ c.n v->WE j [sT c.w,sT d,sT<|vZ T,a,b] (.int v)->WE (vR Rx "made" zk _) [sT c.w,sT d,sT<|vZ T,a,b] (.int<|yG T ((R.length:Int)%c.m) v):=λhv hj=>
  OV (za (i:=0) rfl) (by decide +kernel) rfl (WD.e<|za (i:=2) rfl) hj (WD.e<|k.size<|v1 _ _) (RE.lf<|J4 h.A.m1 hT.t hv)
 have e1:=L3 (T:=T) h.A.m1 h.L.lj hT.l R<|k.in h;have e2:=L3 (T:=T) h.A.m1 h.L.lj hT.l R.reverse<|k.rev h;rw[List.length_reverse]at e2;have s3:=yO (p:=3) (mk (a:=none) (b:=none) (v8 h.L.lj<|k.in h)<|WD.e<|k.whole<|v1 _ _)<|zg rfl;rw[<-e1]at s3;have s4:=yO (p:=4) (mk (a:=sI<|FU c.J c.e<|R.map<|yG T<|1%(c.m:Int)) (b:=none) (v8 h.L.lj<|k.rev h)<|WD.e<|k.back<|v1 _ _)<|zg rfl;rw[<-e2]at s4;have t0:=k.zero<|v1 (sI<|FU c.J c.e<|R.map<|yG T<|1%(c.m:Int)) none;cases k with
 |lf v t hv=>
  exact⟨_,zG rfl<|zc (zt ((TK.lf v t hv).isN<|za (i:=1) rfl) rfl)<|zc s3<|yi<|yz t0<|zz<|xO (WD.e<|za (i:=3) rfl) Bs,TK.lf _ false<|hT.l.cl _ _ h.m1 hv⟩
 | @nd w t x y r s p q R k l h1 h2 hw e=>
  obtain⟨v,b1,b2,b3⟩:=IY h hw (show c.wok (some T)from hT);have kk:=TK.nd w t k l h1 h2 hw e;rw[zyG<|by omega]at t0;have f:∀{cs:List Str}{n:Str}{z:D}(a b:Option O),("Knot":Str) ∈ cs->Ee qb _ n=some z->WE (f1 zj<|z9 cs n) _ z:=λa b hc hl=>WD.e<|WK (v1 a b) hc hl;have eR:c.ap (some T) R=tn t (c.ap v<|r++s):=by rw[e,q_,b3 _<|O3 (k.in h)<|l.in h]
  refine⟨_,zG rfl<|zc (zt (kk.isN<|za (i:=1) rfl) rfl)<|zc s3<|zc (zt t0 rfl)<|zc s4<|zz<|Pz (WD.e<|za (i:=3) rfl) (WD.e<|za (i:=4) rfl) (zZ (WD.e<|za (i:=0) rfl) (f _ _ (by decide +kernel) rfl) (WD.e<|za (i:=2) rfl) b1) (f _ _ (by decide +kernel) rfl) (f _ _ (by decide +kernel) rfl) (f _ _ (by decide +kernel) rfl)<|TN k l, ?_⟩;have:=TK.mk h v t b2 k l h1 h2 (u:=FU c.J c.e<|R.map<|yG T<|1%(c.m:Int)) (v:=FU c.J c.e<|R.reverse.map<|yG T<|1%(c.m:Int)) (by rw[<-eR];rfl) (by rw[<-eR,List.map_reverse];rfl)
  rwa [<-eR]at this
def QZ(h:c.Ok)(k:TK c d R p):∃d',RE (xU [(true,c.w),(true,d)]) d'/\TK c d' R.reverse p:=by
 have v1:WD zj [sT c.w,sT d] true d:=za (i:=1) rfl;have w1:=WD.e<|k.back v1;have w2:=WD.e<|k.whole v1;have n0:=k.isN v1;cases k with
 |lf v t hv=>
  exact⟨_,zG rfl<|zc (zt n0 rfl)<|zz<|Pz w1 w2 (WD.e<|WK v1 (by decide +kernel) rfl) (WD.e ⋯) (WD.e<|WK v1 (by decide +kernel) rfl) (WD.e<|WK v1 (by decide +kernel) rfl) Mw,TK.lf _ _ hv⟩
 | @nd w t x y r s p q R k l h1 h2 hw e=>
  refine⟨_,zG rfl<|zc (zt n0 rfl)<|zz<|Pz w1 w2 (WD.e<|WK v1 (by decide +kernel) rfl) (WD.e<|DR<|WK v1 (by decide +kernel) rfl) (WD.e<|WK v1 (by decide +kernel) rfl) (WD.e<|WK v1 (by decide +kernel) rfl)<|TN k l, ?_⟩;have eR:R.reverse=tn (!t) (c.ap w<|r++s):=by
   rw[e];cases t with
   |false=>rfl
   |true=>exact List.reverse_reverse _
  have:=TK.mk h w (!t) hw k l h1 h2 (v:=c.h R) (by rw[<-eR]) (by rw[<-eR,List.reverse_reverse])
  rwa [<-eR]at this
def ZP(h:c.Ok)(k:TK c d R p)(hp:p≠0):∃x y r s u v,RE (wU [(true,c.w),(true,d)]) (.tup [x,y])/\TK c x r u/\TK c y s v/\u<=v+1/\v<=u+1/\p=1+max u v/\R=r++s:=by
 cases k with
 |lf=>exact absurd rfl hp
 | @nd w t x y r s p q R k l h1 h2 hw e=>
  have v1:∀a b,WD zj [sT c.w,sT _,a,b] true (kn (c.h R) (c.h R.reverse) (Jf w) t x y ((1+max p q:Nat):Int) (R.length:Int)):=λ_ _=>za rfl;have s2:=zE (i:=2) (st:=true) (WK (cs:=TB) (f:="one") (v1 none none) (by decide +kernel) rfl)<|zg rfl;have s3:=zE (i:=3) (st:=true) (WK (cs:=Wl) (f:="other") (v1 (sT x) none) (by decide +kernel) rfl)<|zg rfl;obtain⟨x',y',q1,q2,q3⟩:∃x' y',xg (fT<|f2 (f1 zj<|z9 ZF "wait") (fC .non)<|zC .IsNot) pI yT [sT c.w,sT<|kn (c.h R) (c.h R.reverse) (Jf w) t x y ((1+max p q:Nat):Int) (R.length:Int),sT x,sT y]=some (.nx [sT c.w,sT<|kn (c.h R) (c.h R.reverse) (Jf w) t x y ((1+max p q:Nat):Int) (R.length:Int),sT x',sT y'])/\TK c x' (c.ap w r) p/\TK c y' (c.ap w s) q:=by
   cases w with
   |none=>exact⟨x,y,zt ⋯ rfl,k,l⟩
   |some T=>
    obtain⟨x',a1,a2⟩:=LP h hw k;obtain⟨y',b1,b2⟩:=LP h hw l;have wt:∀a b,WE (f1 zj<|z9 ZF "wait") _ (vZ T):=λa b=>WD.e<|WK (v1 a b) (by decide +kernel) rfl;exact⟨x',y',xx ⋯ (zr (yO (zZ (WD.e<|za rfl) (WD.e<|za rfl) (wt _ _) a1)<|zg rfl)<|yO (zZ (WD.e<|za (i:=0) rfl) (WD.e<|za (i:=3) rfl) (wt _ _) b1)<|zg rfl),a2,b2⟩
  have tt:WT (fT<|f1 zj<|z9 Wx "turn") [sT c.w,sT _,sT x',sT y'] t:=xG (WK (v1 _ _) (by decide +kernel) rfl) rfl;cases t with
  |false=>exact⟨x',y',_,_,p,q,zG rfl<|zc s2<|zc s3<|zc q1<|zc (zt tt rfl)<|zz<|yA (WD.e<|za (i:=2) rfl)<|WD.e<|za (i:=3) rfl,q2,q3,h1,h2,rfl,by rw[e,Hr];rfl⟩
  |true=>
   obtain⟨x'',a1,a2⟩:=QZ h q2;obtain⟨y'',b1,b2⟩:=QZ h q3;exact⟨y'',x'',_,_,q,p,zG rfl<|zc s2<|zc s3<|zc q1<|yi<|yz tt<|zz<|yA (yB (WD.e<|za (i:=0) rfl) (WD.e<|za (i:=3) rfl) b1)<|yB (WD.e<|za (i:=0) rfl) (WD.e<|za (i:=2) rfl) a1,b2,a2,h2,h1,by rw[Nat.max_comm],by rw[e,Hr];exact List.reverse_append⟩
end
def mD{f:EF}{as:AS}{d:D}(hd:zv d=true)(h:WE f as d):WD f as true d:=by
 obtain⟨o,h,h1,h2⟩:=h;cases o with
 |lf s x=>subst h2;rwa [show s=true from h1]at h
 |nd k os=>subst h2;cases k<;>cases hd
def uP{f:EF}{as:AS}{k:Bool}(h:WE f as (.bl k)):WT (fT f) as k:=xG (mD rfl h) rfl
section
variable{c:Cx}{x y d:D}{r s R:List Int}{p q:Nat}
def OT(c:Cx)(d:D)(R:List Int):Prop:=(d = .non/\R=[])\/∃p,TK c d R p
def TK.o(k:TK c d R p):OT c d R:=.inr ⟨p,k⟩
def OT.n:OT c .non []:=.inl ⟨rfl,rfl⟩
theorem OT.in(h:c.Ok)(k:OT c d R):c.In R:=by
 rcases k with⟨_,rfl⟩|⟨p,k⟩
 . exact λ_ m=>nomatch m
 . exact k.in h
def F7(k:OT c d R):RE (vY [(true,d)]) (.int R.length):=by
 rcases k with⟨rfl,rfl⟩|⟨p,k⟩
 . exact zG rfl<|zz<|Lw ⋯ (WD.e zb)
 . exact zG rfl<|zz<|K3 (k.isN ⋯)<|WD.e<|k.size ⋯
def vA{as:AS}{j:Nat}{i:Int}{ds:List D}{z:D}(h:as[j]? = some (sT<|.tup ds))(hz:zw (.tup ds) (.int i)=some (.im z)):WD (f2 (fV j) (fC<|.int i) zw) as true z:=wW ⋯ zb hz
end
def Q1{f:EF}{as:AS}{s:Bool}{y:D}{fl fh:OF}{lo hi:Option Int}{r:List Int}(ha:WD f as s y)(hl:fl as=some (lo,as))(hh:fh as=some (hi,as))(hg:Ww y lo hi=some (.fl<|r.map D.int)):WE (XE f fl fh Ww) as (zi r):=by
 refine⟨vQ r, ?_,VD r⟩;unfold XE;rw[ha];show((fl as).bind _)=_;rw[hl];show((fh as).bind _)=_;rw[hh];show((Ww y lo hi).bind _)=_;rw[hg];show(if _=true then some _ else none:Option RV).bind _=_;rw[if_pos (by simp),zyB];rfl
def slt{n:Nat}(h:n<1000):n<sizeLine:=zzK h ⋯
def Qy{f:EF}{as:AS}{r:List Int}(h:f as=some (.ow<|vQ r,as)):WE f as (zi r):=⟨_,h,VD r⟩
noncomputable def dg:Int->List Int->List Int
 |_,[]=>[]
 |x,z::r=>x%z::dg (x/z) r
theorem P2:∀(l:List Int) (x:Int),(dg x l).length=l.length
 | [],_=>rfl
 |_::r,x=>congrArg (· + 1)<|P2 r _
theorem Fv{n:Nat}(hn:1<=n):∀(k:Nat) (x:Int),∀v ∈ dg x (List.replicate k (n:Int)),zQ n v
 |0,_,v,m=>nomatch m
 |k+1,x,v,m=>by
  rcases zzC.mp m with rfl|m
  . exact Wf hn
  . exact Fv hn k _ v m
abbrev iN:SF:=(zh (yk<|Zn 2 (dC (f2 zk zA zJ) dN) ZD)
 (zm true 0<|f2 zk zA zy))
theorem Os{B:Option O}:∀(sz:List Int) (x:Int) (acc:List Int) (e3:Option O),(∀z ∈ sz,0<z/\z<1000000)->acc.length+sz.length<=900->∃x' e3',forL (gN 3) iN (sz.map λz=>(true,D.int z)) [sI x,B,some<|vQ acc,e3]=some (.nx [sI x',B,some<|vQ<|acc++dg x sz,e3'])
 | [],x,acc,e3,_,_=>⟨x,e3,by rw[show acc++dg x []=acc from zyE _];rfl⟩
 |z::sz,x,acc,e3,h,hl=>by
  have hz:=h z<|zzF ..;rw[zzT]at hl;obtain⟨x',f3,hf⟩:=Os sz _ (acc++[x%z]) _ (λy m=>h y<|zzD _ m) (by rw[zzJ];show acc.length+1+sz.length<=900;omega);rw[zxA]at hf;refine⟨x',f3,vT rfl (zr (as1:=[sI x,B,some _,sI z]) ?_<|zE (xl ⋯ ⋯ hz.1 (zK ⋯ ⋯))<|zg rfl) hf⟩;have ap:=V0 (i:=2) (as:=[sI x,B,some<|vQ acc,sI z]) rfl (zY (za (i:=0) rfl) ⋯ hz.1) rfl (by rw[zzB];exact slt ⋯)
  rwa [<-N4]at ap
def B6{x:Int}{sz:List Int}(h:∀z ∈ sz,0<z/\z<1000000)(hl:sz.length<=900):yq [(true,.int x),(true,zi sz)]=some (vQ<|dg x sz):=by
 obtain⟨x',e3,hf⟩:=Os sz x [] none h (by show 0+_<=_;omega);have it:XF zj [sI x,sT<|zi sz,some<|vQ [],none]=some (sz.map λz=>(true,D.int z),[sI x,sT<|zi sz,some<|vQ [],none]):=by
  have:=Ep<|WD.e<|za (as:=[sI x,sT<|zi sz,some<|vQ [],none]) (i:=1) rfl
  rwa [zyB]at this
 exact x6 rfl<|zr ⋯ (zr (yr it hf)<|Ry rfl (Zk _).2.1)
def Eo{a b:EF}{as:AS}{x:Int}{sz:List Int}(h:∀z ∈ sz,0<z/\z<1000000)(hl:sz.length<=900)(ha:WE a as (.int x))(hb:WE b as (zi sz)):WE (ze (aC a<|aC b aN) yq) as (zi<|dg x sz):=yB ha hb ⟨_,B6 h hl,VD _⟩
def Lg(p n:Nat):Prop:=n<=2 ^ p/\(p=0\/2 ^ (p-1)<n)
def tI{p q a b:Nat}(ha:1<=a)(h1:a<=b)(h2:b<=a+1)(hp:Lg p a)(hq:Lg q b):p<=q/\q<=p+1/\Lg (1+max p q) (a+b):=by
 obtain⟨p1,p2⟩:=hp;obtain⟨q1,q2⟩:=hq;have e1:p<=q:=by
  rcases p2 with p2|p2
  . omega
  . refine Nat.le_of_not_lt λh=>?_;have:=Nat.pow_le_pow_right (n:=2) (by decide) (show q<=p-1 by omega);omega
 have e2:q<=p+1:=by
  rcases q2 with q2|q2
  . omega
  . refine Nat.le_of_not_lt λh=>?_;have:=Nat.pow_le_pow_right (n:=2) (by decide) (show p+1<=q-1 by omega);omega
 refine⟨e1,e2, ?_⟩;rw[Nat.max_eq_right e1];refine⟨?_,.inr ?_⟩
 . rw[Nat.add_comm 1 q];omega
 . rw[show 1+q-1=q by omega]
   rcases q2 with q2|q2
   . subst q2;omega
   . obtain⟨r,rfl⟩:∃r,q=r+1:=⟨q-1,by
      have:q≠0:=λz=>by subst z;omega
      omega⟩
     rw[Nat.add_sub_cancel]at q2;omega
section
variable{c:Cx}{x y d:D}{r s R:List Int}{p q:Nat}
theorem KF(h:c.Ok):∀(k:Nat) (r:List Int),1<=r.length->r.length<=2 ^ k->r.length<=1000->c.In r->∀s:Bool,∃d p,RE (wY (k+1) [(true,c.w),(s,zi r)]) d/\TK c d r p/\Lg p r.length
 |k,r,h1,h2,hk,hv,s=>by
  have wl:=λz=>by
   have:=yJ (as:=[sT c.w,some<|.lf s<|zi r,z]) (g:=yV) (zd (za (i:=1) (x:=zi r) (s:=s) rfl) zo) rfl rfl;rw[zzB]at this;exact this
  have t0:WT (fT<|f2 (fP we yV) zM<|zC .Eq) [sT c.w,some<|.lf s<|zi r,none] false:=xG (RN (c:=false) (wl _) zb (by show some ((r.length:Int)==0)=_;rw[beq_eq_false_iff_ne.mpr<|by omega])) rfl;have t1:WT (fT<|f2 (fP we yV) zD<|zC .Eq) [sT c.w,some<|.lf s<|zi r,none] (decide (r.length=1)):=xG (RN (c:=decide (r.length=1)) (wl _) zb (by
   show some ((r.length:Int)==1)=_
   by_cases h:r.length=1
   . rw[h];rfl
   . rw[beq_eq_false_iff_ne.mpr (by omega),zyG h])) rfl
  by_cases hr:r.length=1
  . rw[zyO hr]at t1
    match r,hr with
    | [v],_=>
     exact⟨_,0,zG rfl<|zc (zt t0 rfl)<|yi<|yz t1<|zz<|xO (WD.e<|zV (z:=.int v) (za (i:=1) rfl) zb rfl rfl) Bs,.lf v false<|hv v zzF,⟨zzN _,.inl rfl⟩⟩
  . rw[zyG hr]at t1;cases k with
    |zero=>exact absurd (h2) (by omega)
    |succ k=>
     rw[Nat.pow_succ]at h2;have s3:zm true 2 (f2 (fP we yV) yE zy) [sT c.w,some<|.lf s<|zi r,none]=some (.nx [sT c.w,some<|.lf s<|zi r,sI ((r.length/2:Nat):Int)]):=zE (i:=2) (xl (wl none) (zb (x:=.int 2)) (by decide)<|zK (by decide)<|by decide)<|zg rfl;have l1:(r.take<|r.length/2).length=r.length/2:=by rw[zzS];omega
     have l2:(r.drop<|r.length/2).length=r.length-r.length/2:=List.length_drop;obtain⟨x,p,a1,a2,a3⟩:=KF h k (r.take<|r.length/2) (by omega) (by omega) (by omega) (λv mv=>hv v<|List.mem_of_mem_take mv) true;obtain⟨y,q,b1,b2,b3⟩:=KF h k (r.drop<|r.length/2) (by omega) (by omega) (by omega) (λv mv=>hv v<|List.mem_of_mem_drop mv) true;rw[l1]at a3;rw[l2]at b3;obtain⟨q1,q2,q3⟩:=tI (by omega) (by omega) (by omega) a3 b3;obtain⟨d,d1,d2⟩:=xS h a2 b2 (by omega) (by omega);have sp:(r.map D.int)=(r.take<|r.length/2).map D.int++(r.drop<|r.length/2).map D.int:=by rw[<-zyM,List.take_append_drop]
     have c1:=CJ (xs:=(r.take<|r.length/2).map D.int) (ys:=(r.drop<|r.length/2).map D.int);have c2:=Ms (xs:=(r.take<|r.length/2).map D.int) (ys:=(r.drop<|r.length/2).map D.int);rw[<-sp,zzB,l1]at c1 c2;have w1:WE (XE zj oN (oS zB) Ww) [sT c.w,some<|.lf s<|zi r,sI ((r.length/2:Nat):Int)] (zi<|r.take<|r.length/2):=Q1 (za (i:=1) rfl) rfl rfl c1;have w2:WE (XE zj (oS zB) oN Ww) [sT c.w,some<|.lf s<|zi r,sI ((r.length/2:Nat):Int)] (zi<|r.drop<|r.length/2):=Q1 (za (i:=1) rfl) rfl rfl c2;have wy:WE zk [sT c.w,some<|.lf s<|zi r,sI ((r.length/2:Nat):Int)] c.w:=WD.e<|za (i:=0) rfl;rw[List.take_append_drop]at d2;exact⟨d,_,zG rfl<|zc (zt t0 rfl)<|zc (zt t1 rfl)<|zc s3<|zz<|zZ wy (yB wy w1 a1) (yB wy w2 b1) d1,d2,by rw[show r.length/2+(r.length-r.length/2)=r.length by omega]at q3;exact q3⟩
def CS(h:c.Ok)(hl:r.length<=1000)(hv:c.In r)(s:Bool):∃d,RE (wY 20 [(true,c.w),(s,zi r)]) d/\OT c d r:=by
 by_cases e:r=[]
 . subst e;exact⟨.non,zG rfl<|yi<|yz ⋯ ⋯,.n⟩
 . obtain⟨d,p,a,b,_⟩:=KF h 19 r (List.length_pos_iff.mpr e) (zzO hl<|by decide) hl hv s;exact⟨d,a,b.o⟩
def n3{a b:EF}{as:AS}(k:TK c x r p)(l:TK c y s q)(ha:WD a as true x)(hb:WD b as true y):WT (fT<|f2 (f1 a<|z9 yF "deep") (f2 (f1 b<|z9 yF "deep") zD zp)<|zC .Gt) as (decide (q+1<p)):=by
 have:=xG (ng (k.deep ha)<|zN (l.deep hb)<|zb (x:=.int 1)) rfl
 rwa [show decide _=decide (q+1<p)from decide_eq_decide.mpr ⋯]at this
def jk{a b:EF}{as:AS}(k:TK c x r p)(l:TK c y s q)(ha:WD a as true x)(hb:WD b as true y):WT (fT<|f2 (f1 a<|z9 yF "deep") (f1 b<|z9 yF "deep")<|zC .GtE) as (decide (q<=p)):=by
 have:=xG (p9 (k.deep ha)<|l.deep hb) rfl
 rwa [show decide _=decide (q<=p)from decide_eq_decide.mpr ⋯]at this
def Iz(h:c.Ok)(k:TK c x r p)(l:TK c y s q)(e:p=q+2):∃d u,RE (Ym [(true,c.w),(true,x),(true,y)]) d/\TK c d (r++s) u/\p<=u/\u<=p+1:=by
 obtain⟨x1,x2,r1,r2,p1,p2,k0,k1,k2,k3,k4,k5,rfl⟩:=ZP h k (by omega);have wy:∀a b,WE zk [sT c.w,sT x,sT y,a,b] c.w:=λ_ _=>WD.e<|za rfl;have v2:∀a b,WE zB [sT c.w,sT x,sT y,a,b] y:=λ_ _=>WD.e<|za rfl;have s3:=yO (p:=3) (yB (wy none none) (WD.e<|za (i:=1) rfl) k0)<|zg rfl;have u0:∀b,WD (f2 zA zM zw) [sT c.w,sT x,sT y,sT<|.tup [x1,x2],b] true x1:=λ_=>vA rfl rfl;have u1:∀b,WD (f2 zA zD zw) [sT c.w,sT x,sT y,sT<|.tup [x1,x2],b] true x2:=λ_=>vA rfl rfl;have t:=jk k1 k2 (u0 none)<|u1 none
 by_cases g:p2<=p1
 . rw[zyO g]at t;obtain⟨d1,a1,a2⟩:=xS h k2 l (by omega) (by omega);obtain⟨d2,b1,b2⟩:=xS h k1 a2 (by omega) (by omega);rw[<-zxA]at b2;exact⟨d2,_,zG rfl<|zc s3<|yi<|yz t<|zz<|zZ (wy _ _) (WD.e<|u0 _) (zZ (wy _ _) (WD.e<|u1 _) (v2 _ _) a1) b1,b2,by omega,by omega⟩
 . rw[zyG g]at t;obtain⟨z1,z2,s1,s2,q1,q2,l0,l1,l2,l3,l4,l5,rfl⟩:=ZP h k2 (by omega);obtain⟨d1,a1,a2⟩:=xS h k1 l1 (by omega) (by omega);obtain⟨d2,b1,b2⟩:=xS h l2 l (by omega) (by omega);obtain⟨d3,c1,c2⟩:=xS h a2 b2 (by omega) (by omega);have s4:=yO (p:=4) (yB (wy _ _) (WD.e<|u1 none) l0)<|zg rfl;rw[show r1++s1++(s2++s)=r1++(s1++s2)++s by simp]at c2;exact⟨d3,_,zG rfl<|zc s3<|zc (zt t rfl)<|zc s4<|zz<|zZ (wy _ _) (zZ (wy _ _) (WD.e<|u0 _) (WD.e<|vA rfl rfl) a1) (zZ (wy _ _) (WD.e<|vA (j:=4) rfl rfl) (v2 _ _) b1) c1,c2,by omega,by omega⟩
def CQ(h:c.Ok)(k:TK c x r p)(l:TK c y s q)(e:q=p+2):∃d u,RE (ZS [(true,c.w),(true,x),(true,y)]) d/\TK c d (r++s) u/\q<=u/\u<=q+1:=by
 obtain⟨x1,x2,r1,r2,p1,p2,k0,k1,k2,k3,k4,k5,rfl⟩:=ZP h l (by omega);have wy:∀a b,WE zk [sT c.w,sT x,sT y,a,b] c.w:=λ_ _=>WD.e<|za rfl;have v1:∀a b,WE zj [sT c.w,sT x,sT y,a,b] x:=λ_ _=>WD.e<|za rfl;have s3:=yO (p:=3) (yB (wy none none) (WD.e<|za (i:=2) rfl) k0)<|zg rfl;have u0:∀b,WD (f2 zA zM zw) [sT c.w,sT x,sT y,sT<|.tup [x1,x2],b] true x1:=λ_=>vA rfl rfl;have u1:∀b,WD (f2 zA zD zw) [sT c.w,sT x,sT y,sT<|.tup [x1,x2],b] true x2:=λ_=>vA rfl rfl;have t:=jk k2 k1 (u1 none)<|u0 none
 by_cases g:p1<=p2
 . rw[zyO g]at t;obtain⟨d1,a1,a2⟩:=xS h k k1 (by omega) (by omega);obtain⟨d2,b1,b2⟩:=xS h a2 k2 (by omega) (by omega);rw[zxA]at b2;exact⟨d2,_,zG rfl<|zc s3<|yi<|yz t<|zz<|zZ (wy _ _) (zZ (wy _ _) (v1 _ _) (WD.e<|u0 _) a1) (WD.e<|u1 _) b1,b2,by omega,by omega⟩
 . rw[zyG g]at t;obtain⟨z1,z2,s1,s2,q1,q2,l0,l1,l2,l3,l4,l5,rfl⟩:=ZP h k1 (by omega);obtain⟨d1,a1,a2⟩:=xS h k l1 (by omega) (by omega);obtain⟨d2,b1,b2⟩:=xS h l2 k2 (by omega) (by omega);obtain⟨d3,c1,c2⟩:=xS h a2 b2 (by omega) (by omega);have s4:=yO (p:=4) (yB (wy _ _) (WD.e<|u0 none) l0)<|zg rfl;rw[show r++s1++(s2++r2)=r++(s1++s2++r2) by simp]at c2;exact⟨d3,_,zG rfl<|zc s3<|zc (zt t rfl)<|zc s4<|zz<|zZ (wy _ _) (zZ (wy _ _) (v1 _ _) (WD.e<|vA rfl rfl) a1) (zZ (wy _ _) (WD.e<|vA (j:=4) rfl rfl) (WD.e<|u1 _) b1) c1,c2,by omega,by omega⟩
def FA(h:c.Ok)(k:TK c x r p)(l:TK c y s q)(h1:p<=q+2)(h2:q<=p+2):∃d u,RE (Qa [(true,c.w),(true,x),(true,y)]) d/\TK c d (r++s) u/\max p q<=u/\u<=1+max p q/\(p<=q+1->q<=p+1->u=1+max p q):=by
 have v1:WD zj [sT c.w,sT x,sT y] true x:=za rfl;have v2:WD zB [sT c.w,sT x,sT y] true y:=za rfl;have wy:WE zk [sT c.w,sT x,sT y] c.w:=WD.e ⋯;have t1:=n3 k l v1 v2;have t2:=n3 l k v2 v1
 by_cases g:q+1<p
 . rw[zyO g]at t1;obtain⟨d,u,a,b,b1,b2⟩:=Iz h k l ⋯;exact⟨d,u,zG rfl<|yi<|yz t1<|zz<|zZ wy (WD.e v1) (WD.e v2) a,b,⋯,⋯,⋯⟩
 . rw[zyG g]at t1
   by_cases g2:p+1<q
   . rw[zyO g2]at t2;obtain⟨d,u,a,b,b1,b2⟩:=CQ h k l ⋯;exact⟨d,u,zG rfl<|zc (zt t1 rfl)<|yi<|yz t2<|zz<|zZ wy (WD.e v1) (WD.e v2) a,b,⋯,⋯,⋯⟩
   . rw[zyG g2]at t2;obtain⟨d,a,b⟩:=xS h k l ⋯ ⋯;exact⟨d,_,zG rfl<|zc (zt t1 rfl)<|zc (zt t2 rfl)<|zz<|zZ wy (WD.e v1) (WD.e v2) a,b,⋯,⋯,λ_ _=>rfl⟩
theorem ED(h:c.Ok):∀(n:Nat) {x y:D}{r s:List Int}{p q:Nat},TK c x r p->TK c y s q->p<n->q<n->∃d u,RE (ym n [(true,c.w),(true,x),(true,y)]) d/\TK c d (r++s) u/\max p q<=u/\u<=1+max p q
 |0,_,_,_,_,_,_,_,_,h,_=>absurd h (Nat.not_lt_zero _)
 |n+1,x,y,r,s,p,q,k,l,hp,hq=>by
  have v1:∀a,WD zj [sT c.w,sT x,sT y,a] true x:=λ_=>za (i:=1) rfl;have v2:∀a,WD zB [sT c.w,sT x,sT y,a] true y:=λ_=>za (i:=2) rfl;have wy:∀a,WE zk [sT c.w,sT x,sT y,a] c.w:=λ_=>WD.e<|za (i:=0) rfl;have t1:=n3 k l (v1 none)<|v2 none;have t2:=n3 l k (v2 none)<|v1 none;have n1:=k.isN<|v1 none;have n2:=l.isN<|v2 none
  by_cases g:q+1<p
  . rw[zyO g]at t1;obtain⟨x1,x2,r1,r2,p1,p2,k0,k1,k2,k3,k4,k5,rfl⟩:=ZP h k (by omega);obtain⟨d,u,a1,a2,a3,a4⟩:=ED h n k2 l (by omega) (by omega);obtain⟨d',u',b1,b2,b3,b4,b5⟩:=FA h k1 a2 (by omega) (by omega);have s3:=yO (p:=3) (yB (wy none) (WD.e<|v1 _) k0)<|zg rfl;rw[<-zxA]at b2;exact⟨d',u',zG rfl<|zc (zt n1 rfl)<|zc (zt n2 rfl)<|yi<|yz t1<|zc s3<|zz<|zZ (wy _) (WD.e<|vA (j:=3) rfl rfl) (zZ (wy _) (WD.e<|vA (j:=3) rfl rfl) (WD.e<|v2 _) a1) b1,b2,by omega,by omega⟩
  . rw[zyG g]at t1
    by_cases g2:p+1<q
    . rw[zyO g2]at t2;obtain⟨x1,x2,r1,r2,p1,p2,k0,k1,k2,k3,k4,k5,rfl⟩:=ZP h l (by omega);obtain⟨d,u,a1,a2,a3,a4⟩:=ED h n k k1 (by omega) (by omega);obtain⟨d',u',b1,b2,b3,b4,b5⟩:=FA h a2 k2 (by omega) (by omega);have s3:=yO (p:=3) (yB (wy none) (WD.e<|v2 _) k0)<|zg rfl;rw[zxA]at b2;exact⟨d',u',zG rfl<|zc (zt n1 rfl)<|zc (zt n2 rfl)<|zc (zt t1 rfl)<|yi<|yz t2<|zc s3<|zz<|zZ (wy _) (zZ (wy _) (WD.e<|v1 _) (WD.e<|vA (j:=3) rfl rfl) a1) (WD.e<|vA (j:=3) rfl rfl) b1,b2,by omega,by omega⟩
    . rw[zyG g2]at t2;obtain⟨d,a,b⟩:=xS h k l (by omega) (by omega);exact⟨d,_,zG rfl<|zc (zt n1 rfl)<|zc (zt n2 rfl)<|zc (zt t1 rfl)<|zc (zt t2 rfl)<|zz<|zZ (wy _) (WD.e<|v1 _) (WD.e<|v2 _) a,b,by omega,by omega⟩
def FF(h:c.Ok)(k:OT c x r)(l:OT c y s)(h1:r.length<=1000)(h2:s.length<=1000):∃d,RE (ym 20 [(true,c.w),(true,x),(true,y)]) d/\OT c d (r++s):=by
 have wN:WT (fT<|f2 zj (fC .non)<|zC .Is) [sT c.w,sT .non,sT y,none] true:=xG ⋯ rfl
 rcases k with⟨rfl,rfl⟩|⟨p,k⟩
 . exact⟨y,zG rfl<|yi<|yz wN<|zz<|WD.e ⋯,l⟩
 rcases l with⟨rfl,rfl⟩|⟨q,l⟩
 . refine⟨x,zG rfl<|zc (zt (k.isN ⋯) rfl)<|yi<|yz ⋯ (zz<|WD.e ⋯), ?_⟩;rw[zyE];exact k.o
 . obtain⟨d,u,a,b,_⟩:=ED h 20 k l (k.lt h1)<|l.lt h2;exact⟨d,a,b.o⟩
end
noncomputable abbrev Sk:Int:=1000*10 ^ (64:Int).toNat
def ME:(0:Int)<Sk:=⋯
def eqT{a b:EF}{as:AS}{x y:Int}{s t q:Bool}(ha:WD a as s (.int x))(hb:WD b as t (.int y))(e:(x==y)=q):WT (fT<|f2 a b<|zC .Eq) as q:=xG (RN ha hb<|congrArg some e) rfl
def lb{x y:Int}(h0:0<=x)(h1:x<y)(hy:y<=10 ^ 200:=by decide):x.natAbs<big:=zK (Int.lt_of_lt_of_le (by decide) h0)<|Int.lt_of_lt_of_le h1 hy
def Zl{as:AS}{a b:EF}{ns:List Int}{k:Int}(ha:WD a as true (zi ns))(hb:WD b as true (.int k))(h0:0<=k)(h1:k<ns.length):∃v,WD (f2 a b zw) as true (.int v):=by
 obtain⟨v,e,_⟩:=SN h0 h1 λ_ _=>trivial;exact⟨v,zV ha hb e rfl⟩
abbrev gi:SF:=(zh qo
 rV)
def J6{ns:List Int}{k:Nat}(hk:k<=100):∃x:Int,0<=x/\ye [(true,.lst<|ns.map .int),(true,.int k)]=sI x:=by
 have s2:zm true 2 oo [sT<|zi ns,sI k,none,none,none,none]=some (.nx [sT<|zi ns,sI k,sI Sk,none,none,none]):=zE (i:=2) ⋯ (zg rfl);have wl:∀as:AS,as[0]? = some (sT<|zi ns)->WD (fP w9 yV) as true (.int (ns.length:Nat)):=λas h=>by
  have:=yJ (g:=yV) (x:=.int ((ns.map D.int).length:Nat)) (zd (za h) zo) rfl rfl
  rwa [zzB]at this
 by_cases h:(k:Int)<(ns.length:Int)
 . obtain⟨v,w⟩:=Zl (as:=[sT<|zi ns,sI k,sI Sk,none,none,none]) (a:=fV 0) (b:=fV 1) (ns:=ns) (k:=k) (za rfl) (za rfl) (by omega) h;refine⟨_,zyN _<|Int.ne_of_gt ME,x6 rfl<|zr s2<|Zd<|xx (xG (Cr (za (i:=1) rfl)<|wl _ rfl)<|congrArg some<|zyO h)<|xR<|zY (y_ (zY w (za (i:=2) rfl) ME) (sM zb zb ⟨by decide,by decide,by decide⟩) (lb (zyN _<|Int.ne_of_gt ME)<|zyH _ ME)<|zK (by decide)<|by decide) (za (i:=2) rfl) ME⟩
 . have t0:=zt (f:=zx nX) (g:=yT) (xG (Cr (as:=[sT<|zi ns,sI k,sI Sk,none,none,none]) (za (i:=1) (x:=.int k) (s:=true) rfl)<|wl _ rfl)<|congrArg some<|zyG h) rfl;have kb:((k:Int)).natAbs<big:=zK (by omega) (by omega);have s3:zm true 3 rO [sT<|zi ns,sI k,sI Sk,none,none,none]=some (.nx [sT<|zi ns,sI k,sI Sk,sI<|(k:Int)*k+7*k+11,none,none]):=zE (i:=3) (zN (zN (y_ (za (i:=1) rfl) (za (i:=1) rfl) kb kb)<|y_ zb (za (i:=1) rfl) (zK (by decide)<|by decide) kb) zb)<|zg rfl;have kk:(k:Int)*k<=10000:=by
    have:=Int.mul_le_mul (show(k:Int)<=100 by omega) (show(k:Int)<=100 by omega) (by omega) (by omega);omega
   have k0:0<=(k:Int)*k:=Int.mul_nonneg (by omega) (by omega);obtain⟨x0,p0,p1,s4⟩:∃x0:Int,0<=x0/\x0<10 ^ 12/\xg (fT<|f2 zk (ya dN)<|zC .NotEq) qV yT [sT<|zi ns,sI k,sI Sk,sI<|(k:Int)*k+7*k+11,none,none]=some (.nx [sT<|zi ns,sI k,sI Sk,sI x0,none,none]):=by
    have nn:WT (fT<|f2 zk (ya dN)<|zC .NotEq) [sT<|zi ns,sI k,sI Sk,sI<|(k:Int)*k+7*k+11,none,none] (!ns.isEmpty):=xG (MQ (g:=zC .NotEq) (z:=.bl<|!ns.isEmpty) (WD.e<|za (i:=0) rfl) (xi (x:=.lst []) (os:=[]) yy (WY rfl) rfl rfl)<|by cases ns<;>rfl) rfl
    by_cases hn:ns=[]
    . subst hn;exact⟨_,by omega,by omega,zt nn rfl⟩
    . have lp:0<ns.length:=List.length_pos_iff.mpr hn;obtain⟨v,w⟩:=Zl (as:=[sT<|zi ns,sI k,sI Sk,sI<|(k:Int)*k+7*k+11,none,none]) (a:=fV 0) (b:=f2 zj (fP w9 yV) zJ) (ns:=ns) (k:=(k:Int)%(ns.length:Int)) (za rfl) (zY (za (i:=1) rfl) (wl _ rfl)<|by omega) (zyN _<|by omega) (zyH _<|by omega);have q0:=zyN v (show(1000003:Int)≠0 by decide);have q2:0<=v%1000003*(2*k+1):=Int.mul_nonneg q0 (by omega);have q3:v%1000003*(2*k+1)<=1000003*201:=Int.mul_le_mul (by omega) (by omega) (by omega) (by omega);have ne:(!ns.isEmpty)=true:=by
       cases ns with
       |nil=>exact absurd rfl hn
       |cons _ _=>rfl
      rw[ne]at nn;exact⟨_,by omega,by omega,xx nn<|zE (i:=3) (zN (za (i:=3) rfl)<|y_ (zY w zb<|by decide) (zN (y_ zb (za (i:=1) rfl) (zK (by decide)<|by decide) kb) zb) (zK (by omega)<|by omega)<|zK (by omega)<|by omega)<|zg rfl⟩
   obtain⟨as',hf,x,y,e5,rfl,_⟩:=yS (g:=gN 5) (f:=gi) (λi as=>∃(x y:Int) (e5:Option O),as=[sT<|zi ns,sI k,sI Sk,sI x,sI y,e5]/\0<=x/\x<10 ^ 12) (yU 0 8) 0 [sT<|zi ns,sI k,sI Sk,sI x0,sI 0,none] (λi z as hz hI=>by
    obtain⟨x,y,e5,rfl,b0,b1⟩:=hI;obtain⟨rfl,hi⟩:=xu hz;have xb:x.natAbs<big:=zK (by omega) (by omega);have c0:=zyN (x*x+48271*x+69621*(0+(i:Int))+k) (show(2147483629:Int)≠0 by decide);exact⟨[sT<|zi ns,sI k,sI Sk,sI x,sI y,sI<|0+(i:Int)],rfl,_,zr (zE (i:=3) (zY (zN (zN (zN (y_ (za (i:=3) rfl) (za (i:=3) rfl) xb xb)<|y_ zb (za (i:=3) rfl) (zK (by decide)<|by decide) xb)<|y_ zb (za (i:=5) rfl) (zK (by decide)<|by decide)<|zK (by omega)<|by omega)<|za (i:=1) rfl) zb<|by decide)<|zg rfl)<|zE (i:=4) (zN (KM (za (i:=4) rfl) zb<|by decide)<|zY (KM (za (i:=3) rfl) zb<|by decide) zb<|by decide)<|zg rfl,_,_,_,rfl,c0,by omega⟩)
    ⟨x0,0,none,rfl,p0,p1⟩
   refine⟨_,zyN _<|Int.ne_of_gt ME,x6 rfl<|zr s2<|zr t0<|zr s3<|zr s4<|zr (zE (i:=4) zb<|zg rfl)<|zr (yr (xk (zd (zb (x:=.int 8)) zo) (by decide)<|by decide) hf)<|xR<|zY (za (i:=4) rfl) (za (i:=2) rfl) ME⟩
def WU(ns:List Int){k:Nat}(hk:k<=100):∃x:Int,0<=x/\∀(as:AS) (b:EF),as[0]? = some (sT<|zi ns)->WD b as true (.int k)->WD (ze (aC zk<|aC b aN) ye) as true (.int x):=by
 obtain⟨x,h0,h⟩:=J6 hk;exact⟨x,h0,λas b h1 h2=>RJ (zd (za h1)<|zd h2 zo) h⟩
noncomputable def DM(x at_ st:Int)(k j:Nat):Nat:=97+((x/(53761+26*(j:Int)*j)+(if(j:Int)=at_ then(k:Int)*(st+1)else 0))%26).toNat
def Mc(x at_ st:Int)(sz k:Nat):Str:=⟨((List.range sz).map<|DM x at_ st k).toArray⟩
abbrev lH(st:Int):Prop:=st=0\/st=2\/st=4\/st=6\/st=8\/st=10\/st=14\/st=16
def Jo{x at_ st:Int}{sz k l:Nat}(hs:lH st)(h0:0<=at_)(h1:at_<sz)(hk:k<10)(hl:l<10)(h:Mc x at_ st sz k=Mc x at_ st sz l):k=l:=by
 injection h with h
 have h:=congrArg Array.toList h;have e:=congrArg (λt:List Nat=>t[at_.toNat]?) h;have hr:(List.range sz)[at_.toNat]? = some at_.toNat:=List.getElem?_range (by omega)
 simp only[zzI,hr]at e;have e:=zzZ e;unfold DM at e;rw[show(at_.toNat:Int)=at_ by omega,if_pos rfl,if_pos rfl]at e;have a0:=zyN ⋯ (show(26:Int)≠0 by decide);have b0:=zyN ⋯ (show(26:Int)≠0 by decide);generalize x/_=q at e a0 b0
 rcases hs with rfl|rfl|rfl|rfl|rfl|rfl|rfl|rfl<;>omega
def DC{x y:Str}(h:x.length+y.length<=sizeLine):Z4 .Add (.str x) (.str y)=some (.im<|.str<|x++y):=if_pos h
abbrev EX(x:Int)(mn sz:Nat)(at_ st:Int)(os:List O)(a b c d:Option O):AS:=[sI x,sI mn,sT<|.str CU,sI<|(sz:Int)-1,sI at_,sI st,sN os,a,b,c,d]
abbrev jw:SF:=(zh (zm true 10 uN)
 (zh (xg (fT<|f2 (fV 9) zT<|zC .Eq) uu yT)
 nh))
def rD{x:Int}{mn sz:Nat}{at_ st:Int}{os:List O}{k:Nat}{c d:Option O}(hz:sz<=8)(hk:k<10)(hs:lH st):∃c' d',forL (gN 9) jw (yU 0 sz) (EX x mn sz at_ st os (sI k) (sT<|.str ⟨#[]⟩) c d)=some (.nx<|EX x mn sz at_ st os (sI k) (sT<|.str<|Mc x at_ st sz k) c' d'):=by
 have st16:0<=st/\st<=16:=by rcases hs with rfl|rfl|rfl|rfl|rfl|rfl|rfl|rfl<;>decide
 obtain⟨as',hf,c',d',rfl⟩:=yS (g:=gN 9) (f:=jw) (λi as=>∃c' d',as=EX x mn sz at_ st os (sI k) (sT<|.str<|Mc x at_ st i k) c' d') (yU 0 sz) 0 _ (λi z as hz' hI=>by
  obtain⟨c',d',rfl⟩:=hI;obtain⟨rfl,hi⟩:=xu hz';rw[zyX,Int.zero_add];have i2:0<=(i:Int)*i:=Int.mul_nonneg (by omega) (by omega);have i3:(i:Int)*i<=64:=Int.mul_le_mul (c:=8) (d:=8) (by omega) (by omega) (by omega) (by omega);have i4:26*(i:Int)*i=26*((i:Int)*i):=Int.mul_assoc ..;have s10:∀d',zm true 10 uN (EX x mn sz at_ st os (sI k) (sT<|.str<|Mc x at_ st i k) (sI i) d')=some _:=λd'=>zE (i:=10) (xl (za (i:=0) rfl) (zN zb<|y_ (y_ zb (za (i:=9) rfl) (zK (by decide)<|by decide)<|zK (by omega)<|by omega) (za (i:=9) rfl) (zK (by omega)<|by omega)<|zK (by omega)<|by omega) (by omega)<|zK (by omega)<|by omega)<|zg rfl;have s11:xg (fT<|f2 (fV 9) zT<|zC .Eq) uu yT (EX x mn sz at_ st os (sI k) (sT<|.str<|Mc x at_ st i k) (sI i)<|sI<|x/(53761+26*(i:Int)*i))=some (.nx<|EX x mn sz at_ st os (sI k) (sT<|.str<|Mc x at_ st i k) (sI i)<|sI<|x/(53761+26*(i:Int)*i)+(if(i:Int)=at_ then(k:Int)*(st+1)else 0)):=by
   by_cases e:(i:Int)=at_
   . rw[if_pos e];exact xx (eqT (za (i:=9) rfl) (za (i:=4) rfl)<|by simp[e])<|zE (i:=10) (zN (za (i:=10) rfl)<|y_ (za (i:=7) rfl) (zN (za (i:=5) rfl) zb) (zK (by omega)<|by omega)<|zK (by omega)<|by omega)<|zg rfl
   . rw[if_neg e,Int.add_zero];exact zt (eqT (za (i:=9) rfl) (za (i:=4) rfl)<|by simp[e]) rfl
  have q0:=zyN (x/(53761+26*(i:Int)*i)+(if(i:Int)=at_ then(k:Int)*(st+1)else 0)) (show(26:Int)≠0 by decide);have q1:=zyH (x/(53761+26*(i:Int)*i)+(if(i:Int)=at_ then(k:Int)*(st+1)else 0)) (show(0:Int)<26 by decide);have ln:(Mc x at_ st i k).length=i:=by
   show(((List.range i).map<|DM x at_ st k).toArray).size=i;rw[zzH,zzB,zyU]
  have ea:Mc x at_ st i k++(⟨#[DM x at_ st k i]⟩:Str)=Mc x at_ st (i+1) k:=by
   show(⟨((List.range i).map<|DM x at_ st k).toArray ++ #[DM x at_ st k i]⟩:Str)=_;unfold Mc;rw[List.range_succ];simp
  have s8:=zE (st:=true) (i:=8) (as:=EX x mn sz at_ st os (sI k) (sT<|.str<|Mc x at_ st i k) (sI i)<|sI<|x/(53761+26*(i:Int)*i)+(if(i:Int)=at_ then(k:Int)*(st+1)else 0)) (zV (za (i:=8) rfl) (zV (za (i:=2) (s:=true) rfl) ⋯ (DI q0 q1) rfl) (DC<|S7 (by rw[ln];show i+1<=_;omega)) rfl)<|zg rfl;rw[show(⟨#[97+((x/(53761+26*(i:Int)*i)+(if(i:Int)=at_ then(k:Int)*(st+1)else 0))%26).toNat]⟩:Str)=⟨#[DM x at_ st k i]⟩from rfl,ea]at s8;exact⟨EX x mn sz at_ st os (sI k) (sT<|.str<|Mc x at_ st i k) (sI i) d',rfl,_,zr (s10 d')<|zr s11 s8,_,_,rfl⟩)
  ⟨c,d,rfl⟩
 rw[y9,zyX]at hf;exact⟨c',d',hf⟩
def Mn(x:Int){mn:Nat}(hm:mn<=10):∃ss:List Str,ss.length=mn/\ss.Nodup/\RE (Yd [(true,.int x),(true,.int mn)]) (.lst<|ss.map D.str):=by
 have s2:zm true 2 (fC<|.str "abcdefghijklmnopqrstuvwxyz") [sI x,sI mn,none,none,none,none,none,none,none,none,none]=some (.nx [sI x,sI mn,sT<|.str CU,none,none,none,none,none,none,none,none]):=zE (i:=2) zb<|zg rfl;have e0:=zyN x (show(8:Int)≠0 by decide);obtain⟨sz,hz1,hz8,hz⟩:∃sz:Nat,1<=sz/\sz<=8/\x%8=(sz:Int)-1:=⟨(x%8+1).toNat,by omega,by omega,by omega⟩;have s3:YV o5 (gT 3<|yI (gN 3)<|yI X4<|yI (gN 5) Yq) [sI x,sI mn,sT<|.str CU,none,none,none,none,none,none,none,none]=some (.nx [sI x,sI mn,sT<|.str CU,sI<|(sz:Int)-1,sI<|x/8%840,sI<|x/8/840%8,none,none,none,none,none]):=by
  rw[<-hz];exact Ef (Eo (sz:=[8,840,8]) (by decide) (by decide) (WD.e<|za (i:=0) rfl)<|xi (os:=[GB 8,GB 840,GB 8]) (zF zb<|zF zb<|zF zb yy) (WY rfl) rfl rfl) rfl
 have f0:=zyN (x/8/840) (show(8:Int)≠0 by decide);have f1:=zyH (x/8/840) (show(0:Int)<8 by decide);obtain⟨st,hst,hs⟩:=SN (r:=[0,2,4,6,8,10,14,16]) (P:=lH) f0 f1 (by decide);have s5:zm true 5 nP [sI x,sI mn,sT<|.str CU,sI<|(sz:Int)-1,sI<|x/8%840,sI<|x/8/840%8,none,none,none,none,none]=some (.nx _):=zE (i:=5) (MQ (xi (zF zb<|zF zb<|zF zb<|zF zb<|zF zb<|zF zb<|zF zb<|zF zb yy) (WY rfl) rfl rfl) (WD.e<|za (i:=5) rfl) hst)<|zg rfl;have h0:=zyN (x/8%840) (show(sz:Int)-1+1≠0 by omega);have h1:=zyH (x/8%840) (show(0:Int)<(sz:Int)-1+1 by omega);have s4:zm true 4 (f2 zT (f2 zA zD zp) zJ) [sI x,sI mn,sT<|.str CU,sI<|(sz:Int)-1,sI<|x/8%840,sI st,none,none,none,none,none]=some (.nx _):=zE (i:=4) (zY (za (i:=4) rfl) (zN (za (i:=3) rfl) zb)<|by omega)<|zg rfl;generalize x/8%840%((sz:Int)-1+1)=at_ at s4 h0 h1
 obtain⟨as',hf,os,a,b,c,d,rfl,ho⟩:=yS (g:=gN 7) (f:=(zh (zm true 8<|fC<|.str "")
  _))
  (λi as=>∃os a b c d,as=EX x mn sz at_ st os a b c d/\Ows D.str (λ_=>True) os ((List.range i).map<|Mc x at_ st sz))
  (yU 0 mn) 0 (EX x mn sz at_ st [] none none none none) (λi z as hz' hI=>by
   obtain⟨os,a,b,c,d,rfl,ho⟩:=hI;obtain⟨rfl,hi⟩:=xu hz';rw[zyX]at ho ⊢;rw[Int.zero_add];obtain⟨c',d',hin⟩:=rD (x:=x) (mn:=mn) (at_:=at_) (os:=os) (k:=i) (c:=c) (d:=d) hz8 (by omega) hs;have wr:WA (aC (f2 zA zD zp) aN) (EX x mn sz at_ st os (sI i) (sT<|.str ⟨#[]⟩) c d) [(true,.int (sz:Int))]:=by
    have:=zd (zN (as:=EX x mn sz at_ st os (sI i) (sT<|.str ⟨#[]⟩) c d) (za (i:=3) (x:=.int<|(sz:Int)-1) (s:=true) rfl)<|zb (x:=.int 1)) zo
    rwa [Int.sub_add_cancel]at this
   have hrun:=xk wr (by omega) (by omega);rw[zyI]at hrun;obtain⟨os',o1,o2⟩:=SZ (as:=EX x mn sz at_ st os (sI i) (sT<|.str<|Mc x at_ st sz i) c' d') (x:=Mc x at_ st sz i) (i:=6) (toD:=D.str) (Q:=λ_=>True) (a:=fV 8) rfl ho (by rw[zzB,zyU];omega) (WD.e<|za (i:=8) rfl) True.intro;exact⟨EX x mn sz at_ st os (sI i) b c d,rfl,_,zr (zE (i:=8) (x:=.str ⟨#[]⟩) zb<|zg rfl)<|zr (yr hrun hin) o2,os',_,_,_,_,rfl,by rw[List.range_succ,zyM];exact o1⟩)
  ⟨[],none,none,none,none,rfl,Ows.nil⟩
 rw[y9,zyX]at ho;have hrun:=xk (as:=EX x mn sz at_ st [] none none none none) (zd (za (i:=1) (x:=.int mn) (s:=true) rfl) zo) (by omega) (by omega);rw[zyI]at hrun;refine⟨(List.range mn).map<|Mc x at_ st sz,by rw[zzB,zyU], ?_,zG rfl<|zc s2<|zc s3<|zc s5<|zc s4<|zc (vC (i:=6) (Y7 yy<|WY rfl)<|zg rfl)<|zc (yr hrun hf)<|Ows.retB (i:=6) rfl ho⟩;exact List.pairwise_map.mpr<|(List.nodup_range (n:=mn)).imp_of_mem λha hb hne he=>hne<|Jo hs h0 (by omega) (by have:=List.mem_range.mp ha;omega) (by have:=List.mem_range.mp hb;omega) he
abbrev PZ:Type:=List<|Int×Nat
noncomputable abbrev pD(p:Int×Nat):D:=.tup [.int p.1,.int p.2]
abbrev Y6(P:PZ):D:=.lst<|P.map pD
noncomputable def PN:PZ->Nat
 | []=>1
 |p::r=>PN r*p.2
noncomputable def sp:PZ->Int->List Int
 | [],_=>[]
 |p::r,v=>v%p.2::sp r (v/p.2)
noncomputable def ld:PZ->List Int->Int
 |p::r,d::t=>ld r t*p.2+d
 |_,_=>0
def jX:PZ->Int->Int->Int
 | [],_,_=>0
 |p::r,v,w=>jB p.2 (jX r) (jK p.1 p.2) v w
def eX:PZ->Int
 | []=>0
 |p::r=>eX r*p.2+eK p.1
noncomputable def dS(x:Int):Nat->Int
 |0=>0
 |k+1=>dS x k+x/3 ^ k%3
def dK(k:Int)(n:Nat)(x c a:Int):Int:=
 if k=0 then(x%n*a+x/n%n*c)%n
 else if k=1 then(if dS x a.toNat<(n:Int)-1 then dS x a.toNat else(n:Int)-1)
 else if k=2 then(if 0<a then 1+x/6 ^ a.toNat%((n:Int)-1)else 0)
 else if x%2=0 then a else sP a
def dX:PZ->Int->Int->Int->Int
 | [],_,_,_=>0
 |p::r,x,c,v=>dB p.2 (dX r x) (dK p.1 p.2 x) c v
abbrev PK(P:PZ):Prop:=∀p ∈ P,KN p.1 p.2/\2<=p.2/\p.2<=7
theorem ER:∀{P:PZ},PK P->1<=PN P
 | [],_=>zzN _
 |p::r,h=>Nat.mul_pos (ER λq m=>h q<|zzD _ m) (by have:=(h p<|zzF ..).2.1;omega)
theorem sU:∀{P:PZ},PK P->LJ (PN P) (jX P) (eX P)
 | [],_=>⟨λ_ _ _ _=>⟨Int.le_refl _,Int.one_pos⟩,⋯,λa ha=>(by have h1:a<1:=ha.2;show 0=a;omega),λa ha=>(by have h1:a<1:=ha.2;show 0=a;omega),λ_ _ _ _ _ _=>rfl⟩
 |p::r,h=>iS (sU λq m=>h q<|zzD _ m) (js (h p<|zzF ..).1) (by have:=(h p<|zzF ..).2.1;omega)
def Fx(x:Int):∀{a b:Nat},a<=b->dS x a<=dS x b:=λ{a b} h=>by
 induction h with
 |refl=>exact Int.le_refl _
 | @step k _ ih=>
  refine Int.le_trans ih ?_;have:=zyN (x/3 ^ k) (show 3≠0 by decide);exact Int.le_add_of_nonneg_right this
def qG(x:Int)(a:Nat):0<=dS x a:=Fx x<|Nat.zero_le a
def ldK{k x:Int}{n m:Nat}(h:KN k n)(n2:2<=n)(m1:1<=m)(hm:k=0->m=n):LD n m (jK k n) (eK k) (dK k n x):=by
 rcases h with⟨rfl,_⟩|⟨rfl,_⟩|⟨rfl,_⟩|⟨rfl,rfl⟩
 . have e:=hm rfl;subst e;exact LD.congr ⋯ (jF ⋯) (hG (x0:=x%m) (x1:=x/m%m) ⋯ ⋯ ⋯ (Int.dvd_refl _) (Int.dvd_refl _)) (λ_ _ _ _=>rfl) λc a _ _=>by
    show(x%m*a+x/m%m*c)%m=_;rw[Int.ediv_self ⋯,Int.mul_one,Int.mul_comm _,Int.mul_comm<|x/m%m]
 . refine i0 (r:=λa=>if dS x a.toNat<n-1 then dS x a.toNat else n-1) m1 ?_ (λa _=>?_) λa b ha hb hab=>?_
   . show(if 0<(n:Int)-1 then 0 else _-1)=0;rw[if_pos ⋯]
   . have:=qG x a.toNat
     split<;>exact⟨⋯,⋯⟩
   . have:=Fx x (show a.toNat<=b.toNat by omega)
     split<;>split<;>omega
 . have g0:∀a:Int,0<=x/6 ^ a.toNat%(n-1)/\x/6 ^ a.toNat%_<n-1:=λa=>⟨zyN _ ⋯,zyH _ ⋯⟩;refine iQ rfl (λa _=>?_) λa ha hn=>?_
   . have:=g0 a;show zQ n (if 0<a then _ else _)
     split<;>exact ⋯
   . have:=g0 a;show(if 0<a then 1+x/6 ^ a.toNat%_ else 0)≠0;rw[if_pos ⋯];omega
 . refine ir ?_
   by_cases e:x%2=0
   . exact .inl λa _=>if_pos e
   . exact .inr λa _=>if_neg e
theorem lr{x:Int}{m:Nat}(m1:1<=m):∀{P:PZ},PK P->(∀p ∈ P,p.1=0->m=p.2)->LD (PN P) m (jX P) (eX P) (dX P x)
 | [],_,_=>⟨λ_ _ _ _=>⟨Int.le_refl _,Int.one_pos⟩,rfl,λ_ _ _ _ _ _ _ _=>rfl⟩
 |p::r,h,hm=>iu (sU λq m=>h q<|zzD _ m) (js (h p<|zzF ..).1) (by have:=(h p<|zzF ..).2.1;omega) (lr m1 (λq m=>h q<|zzD _ m) λq m=>hm q<|zzD _ m)<|ldK (h p<|zzF ..).1 (h p<|zzF ..).2.1 m1<|hm p<|zzF ..
noncomputable def z3(f:Int->Nat->Int->Int->Int):PZ->List Int->List Int->List Int
 |p::P,a::s,b::t=>f p.1 p.2 a b::z3 f P s t
 |_,_,_=>[]
noncomputable def z2(f:Int->Nat->Int->Int):PZ->List Int->List Int
 |p::P,a::s=>f p.1 p.2 a::z2 f P s
 |_,_=>[]
theorem A_:∀(P:PZ) (v w:Int),ld P (z3 jK P (sp P v)<|sp P w)=jX P v w
 | [],_,_=>rfl
 |p::r,v,w=>by
  show ld r _*p.2+jK p.1 p.2 _ _=_;rw[A_ r];rfl
theorem Dj(x c:Int):∀(P:PZ) (v:Int),ld P (z2 (λk n a=>dK k n x c a) P<|sp P v)=dX P x c v
 | [],_=>rfl
 |p::r,v=>by
  show ld r _*p.2+dK p.1 p.2 x c _=_;rw[Dj x c r];rfl
theorem KJ:∀(P:PZ) (v:Int),(sp P v).length=P.length
 | [],_=>rfl
 |_::r,v=>congrArg _<|KJ r _
theorem jA:∀P:PZ,ld P (P.map λp=>eK p.1)=eX P
 | []=>rfl
 |p::r=>by
  show ld r _*p.2+eK p.1=_;rw[jA r];rfl
theorem jE:∀P:PZ,ld P (P.map λp=>(p.2:Int)-1)+1=(PN P:Int)
 | []=>rfl
 |p::r=>by
  show ld r _*p.2+(p.2-1)+1=((PN r*p.2:Nat):Int);rw[zzV,<-jE r,Int.add_mul];omega
end G43
end
section
set_option exponentiation.threshold 5000
namespace G43
open PySem PySem.Spec PyProof.Rows PF
local macro_rules |`(⋯)=>`(by first|with_reducible rfl|assumption|exact zb|exact zo|exact yy|exact zg|(with_reducible refine za ?_;first|rfl|assumption)|(with_reducible refine WD.e ?_;exact ⋯)|(with_reducible refine zd ?_ ?_ <;> exact ⋯)|(with_reducible refine zF ?_ ?_ <;> exact ⋯)|(with_reducible refine zN ?_ ?_ <;> exact ⋯)|(with_reducible refine wV ?_ ?_ <;> exact ⋯)|(with_reducible refine zY ?_ ?_ ?_ <;> exact ⋯)|(with_reducible refine xl ?_ ?_ ?_ ?_ <;> exact ⋯)|(with_reducible refine y_ ?_ ?_ ?_ ?_ <;> exact ⋯)|(with_reducible refine zV ?_ ?_ rfl rfl <;> exact ⋯)|(with_reducible refine zz ?_;exact ⋯)|(with_reducible refine xR ?_;exact ⋯)|(with_reducible refine xG ?_ rfl;exact ⋯)|exact zK (by decide)|omega|rfl|decide)
def K7{p:Int×Nat}{a b:Int}(h:KN p.1 p.2)(ha:zQ p.2 a)(hb:zQ p.2 b):wO [(true,pD p),(true,.int a),(true,.int b)]=sI (jK p.1 p.2 a b):=by
 obtain⟨k,n⟩:=p;have s0:∀{k:Int}{n:Nat},YV zk (gT 2<|yI (gN 3)<|yI X4 Yq) [sT<|pD (k,n),sI a,sI b,none,none]=some (.nx [sT<|pD (k,n),sI a,sI b,sI k,sI n]):=Ef (WD.e<|za (i:=0) rfl) rfl
 rcases h with⟨rfl,hn⟩|⟨rfl,hn⟩|⟨rfl,hn⟩|⟨rfl,rfl⟩
 . exact x6 rfl (zr s0<|Zd<|xx (eqT (za (i:=3) rfl) zb rfl)<|xR<|zY (zN (za (i:=1) rfl)<|za (i:=2) rfl) (za (i:=4) rfl)<|by omega)
 . exact x6 rfl ⋯
 . exact x6 rfl<|zr s0<|zr (zt (eqT (za (i:=3) rfl) zb rfl) rfl)<|zr (zt (eqT (za (i:=3) rfl) zb rfl) rfl)<|Zd<|xx (eqT (za (i:=3) rfl) zb rfl)<|xR<|MQ (xi (zF (za (i:=2) rfl)<|zF (za (i:=1) rfl) yy) (WY rfl) rfl rfl) (WD.e ⋯)<|qN.trans (by show _=some (R0.im<|.int<|jL a b);unfold jL;by_cases h:b=0<;>simp[h])
 . obtain⟨a0,a1⟩:=ha;obtain⟨b0,b1⟩:=hb;have a1:a<4:=a1;have b1:b<4:=b1;have LL:WE uk [sT<|pD (3,4),sI a,sI b,sI 3,sI (4:Nat)] (.lst [.int<|b/2,.int<|b%2]):=xi ⋯ (WY rfl) rfl rfl;have pk:∀{i:Int},i=0\/i=1->zw (.lst [.int<|b/2,.int<|b%2]) (.int i)=some (.im<|.int<|iP b i):=λh=>by
    rcases h with rfl|rfl<;>rfl
   have ib:∀i,0<=iP b i/\iP b i<4:=λi=>by unfold iP;split<;>constructor<;>omega
   have:=ib<|a/2;exact x6 rfl (zr s0<|zr (zt (eqT (za (i:=3) rfl) zb rfl) rfl)<|zr (zt (eqT (za (i:=3) rfl) zb rfl) rfl)<|zr (zt (eqT (za (i:=3) rfl) zb rfl) rfl)<|xR<|zN (y_ zb (MQ LL (WD.e ⋯)<|pk<|by omega) (zK (by decide)<|by decide)<|zK (by omega)<|by omega)<|MQ LL (WD.e<|zY (za (i:=1) rfl) zb<|by decide)<|pk<|by omega)
theorem Cd(x:Int):∀k:Nat,((List.range k).map λi=>x/3 ^ i%3).sum=dS x k
 |0=>rfl
 |k+1=>by
  rw[List.range_succ,zyM,List.sum_append_int,Cd x k];show dS x k+(x/3 ^ k%3+0)=dS x k+x/3 ^ k%3;rw[Int.add_zero]
def gb:∀i:Nat,i<7->zw (zi [1,3,9,27,81,243,729]) (.int (i:Int))=some (.im<|.int<|3 ^ i)
 |0,_=>rfl|1,_=>rfl|2,_=>rfl|3,_=>rfl|4,_=>rfl|5,_=>rfl|6,_=>rfl
 |n+7,h=>⋯
def gh:∀i:Nat,i<7->zw (zi [1,6,36,216,1296,7776,46656]) (.int (i:Int))=some (.im<|.int<|6 ^ i)
 |0,_=>rfl|1,_=>rfl|2,_=>rfl|3,_=>rfl|4,_=>rfl|5,_=>rfl|6,_=>rfl
 |n+7,h=>⋯
def pb(b:Int)(h1:1<=b)(h2:b<=6):∀i:Nat,i<7->(0:Int)<b ^ i/\b ^ i<=1000000:=λi hi=>by
 have e:i=0\/i=1\/i=2\/i=3\/i=4\/i=5\/i=6:=⋯;have f:b=1\/b=2\/b=3\/b=4\/b=5\/b=6:=⋯
 rcases e with rfl|rfl|rfl|rfl|rfl|rfl|rfl<;>rcases f with rfl|rfl|rfl|rfl|rfl|rfl<;>decide
def l7{as:AS}{a b c d e f g:Int}:WE (ya<|dC (fC<|.int a)<|dC (fC<|.int b)<|dC (fC<|.int c)<|dC (fC<|.int d)<|dC (fC<|.int e)<|dC (fC<|.int f)<|dC (fC<|.int g) dN) as (zi [a,b,c,d,e,f,g]):=xi ⋯ (WY rfl) rfl rfl
theorem GN:∀l:List Int,We (l.map D.int)=some l
 | []=>rfl
 |x::l=>by show(We _).bind _=_;rw[GN l];rfl
def Ny{k:Int}{n:Nat}{x c a:Int}{m:Nat}(h:KN k n)(n2:2<=n)(n7:n<=7)(hc:zQ m c)(m6:m<=6)(ha:zQ n a):xq [(true,pD (k,n)),(true,.int x),(true,.int c),(true,.int a)]=sI (dK k n x c a):=by
 obtain⟨a0,a1⟩:=ha;obtain⟨c0,c1⟩:=hc;have s0:∀{k:Int}{n:Nat},YV zk (gT 2<|yI X4<|yI (gN 5) Yq) [sT<|pD (k,n),sI x,sI c,sI a,none,none]=some (.nx [sT<|pD (k,n),sI x,sI c,sI a,sI k,sI n]):=Ef (WD.e<|za (i:=0) rfl) rfl;have x0:=zyN x (show(n:Int)≠0 by omega);have x1:=zyH x (show(0:Int)<n by omega);have y0:=zyN (x/n) (show(n:Int)≠0 by omega);have y1:=zyH (x/n) (show(0:Int)<n by omega);have nb:((n:Int)).natAbs<big:=zK (by omega) (by omega)
 rcases h with⟨rfl,hn⟩|⟨rfl,hn⟩|⟨rfl,hn⟩|⟨rfl,rfl⟩
 . exact x6 rfl (zr s0<|Zd<|xx (eqT (za (i:=4) rfl) zb rfl)<|xR<|zY (zN (y_ (zY (za (i:=1) rfl) (za (i:=5) rfl)<|by omega) (za (i:=3) rfl) (zK (by omega)<|by omega)<|zK (by omega)<|by omega)<|y_ (zY (xl (za (i:=1) rfl) (za (i:=5) rfl) (by omega) nb) (za (i:=5) rfl)<|by omega) (za (i:=2) rfl) (zK (by omega)<|by omega)<|zK (by omega)<|by omega) (za (i:=5) rfl)<|by omega)
 . obtain⟨b,rfl⟩:∃b:Nat,a=(b:Int):=⟨a.toNat,by omega⟩;have wc:=Vq (h:=λi:Nat=>D.int<|x/3 ^ i%3) (it:=λi:Nat=>(true,D.int<|0+(i:Int))) (fi:=yt ZZ yM) (cap:=[none,some 1]) (gg:=gN 0) (fe:=f2 oX ZY zJ) (List.range b) (by
    have:=xk (as:=[sT<|pD (1,n),sI x,sI c,sI (b:Int),sI 1,sI n]) (zd (za (i:=3) (x:=.int (b:Int)) (s:=true) rfl) zo) (by omega) (by omega)
    rwa [zyI]at this) (by rw[zyU];omega) λi mi=>by
    have hi:=List.mem_range.mp mi;rw[Int.zero_add];have:=pb 3 (by decide) (by decide) i (by omega);exact⟨[sI i,sI x],rfl,WD.e<|zY (xl (za (i:=1) rfl) (MQ l7 (WD.e<|za (i:=0) (x:=.int i) rfl)<|gb i<|by omega) this.1<|zK (by omega)<|by omega) zb<|by decide⟩
   have e1:((List.range b).map λi:Nat=>D.int<|x/3 ^ i%3)=((List.range b).map λi=>x/3 ^ i%3).map D.int:=by rw[zyB];rfl
   rw[e1]at wc;have ws:=yJ (g:=tR) (x:=.int<|dS x b) (yZ wc zo) (by
    show(We<|((List.range b).map λi=>x/3 ^ i%3).map D.int).bind _=_;rw[GN,<-Cd x b];rfl) rfl
   have wm:=yJ (g:=T5) (x:=.int<|dK 1 n x c (b:Int)) (zd (wV (za (i:=5) (x:=.int n) (s:=true) rfl)<|zb (x:=.int 1))<|zd ws zo) rfl rfl;exact x6 rfl<|zr s0<|zr (zt (eqT (za (i:=4) rfl) zb rfl) rfl)<|Zd<|xx (eqT (za (i:=4) rfl) zb rfl)<|xR wm
 . obtain⟨b,rfl⟩:∃b:Nat,a=(b:Int):=⟨a.toNat,by omega⟩;have q:=pb 6 (by decide) (by decide) b (by omega);have wm:=yJ (g:=Gg) (x:=.int<|(n:Int)-1) (zd (zb (as:=[sT<|pD (2,n),sI x,sI c,sI (b:Int),sI 2,sI n]) (x:=.int 1))<|zd (wV (za (i:=5) (x:=.int n) (s:=true) rfl)<|zb (x:=.int 1)) zo) (by
    show some (R0.im<|.int<|if(n:Int)-1 > 1 then(n:Int)-1 else 1)=_
    split
    . rfl
    . rw[show(n:Int)-1=1 by omega]) rfl
   have r0:=zyN (x/6 ^ b) (show(n:Int)-1≠0 by omega);have r1:=zyH (x/6 ^ b) (show(0:Int)<(n:Int)-1 by omega);have wi:=yJ (g:=VP) (x:=.int<|if(0:Int)<b then 1 else 0) (zd (zV (g:=zC .Gt) (z:=.bl<|decide ((0:Int)<b)) (za (as:=[sT<|pD (2,n),sI x,sI c,sI (b:Int),sI 2,sI n]) (i:=3) (x:=.int (b:Int)) (s:=true) rfl) (zb (x:=.int 0)) rfl rfl) zo) (by
    show VP [.bl<|decide ((0:Int)<b)]=_
    by_cases h:(0:Int)<b
    . rw[zyO h,if_pos h];rfl
    . rw[zyG h,if_neg h];rfl) rfl
   have wv:=y_ wi (zN (zb (x:=.int 1))<|zY (xl (za (i:=1) (x:=.int x) (s:=true) rfl) (MQ l7 (WD.e<|za (i:=3) (x:=.int (b:Int)) rfl)<|gh b<|by omega) q.1<|zK (by omega)<|by omega) wm<|by omega) (zK (by split<;>decide)<|by split<;>decide) (zK (by omega)<|by omega);have e2:(if(0:Int)<b then(1:Int)else 0)*(1+x/6 ^ b%((n:Int)-1))=dK 2 n x c (b:Int):=by
    show _=if(0:Int)<b then 1+x/6 ^ (((b:Nat):Int)).toNat%((n:Int)-1)else 0
    rw[zyI]
    split
    . rw[Int.one_mul]
    . rw[Int.zero_mul]
   rw[e2]at wv;exact x6 rfl<|zr s0<|zr (zt (eqT (za (i:=4) rfl) zb rfl) rfl)<|zr (zt (eqT (za (i:=4) rfl) zb rfl) rfl)<|Zd<|xx (eqT (za (i:=4) rfl) zb rfl)<|xR wv
 . have tt:WT (fT<|f2 (f2 zj yE zJ) zM<|zC .Eq) [sT<|pD (3,4),sI x,sI c,sI a,sI 3,sI (4:Nat)] (x%2==0):=eqT (zY (za (i:=1) rfl) zb<|by decide) zb rfl
   by_cases e:x%2=0
   . rw[show(x%2==0)=true by simp[e]]at tt;have d:dK 3 4 x c a=a:=if_pos e;rw[d];exact x6 rfl<|zr s0<|zr (zt (eqT (za (i:=4) rfl) zb rfl) rfl)<|zr (zt (eqT (za (i:=4) rfl) zb rfl) rfl)<|zr (zt (eqT (za (i:=4) rfl) zb rfl) rfl)<|Zd<|xx tt<|xR<|za (i:=3) rfl
   . rw[show(x%2==0)=false by simp[e]]at tt;have d:dK 3 4 x c a=sP a:=if_neg e;rw[d];exact x6 rfl (zr s0<|zr (zt (eqT (za (i:=4) rfl) zb rfl) rfl)<|zr (zt (eqT (za (i:=4) rfl) zb rfl) rfl)<|zr (zt (eqT (za (i:=4) rfl) zb rfl) rfl)<|zr (zt tt rfl)<|xR<|wV (zN (y_ zb (wV zb<|zY (za (i:=3) rfl) zb<|by decide) (zK (by decide)<|by decide)<|zK (by omega)<|by omega) zb)<|xl (za (i:=3) rfl) zb (by decide)<|zK (by decide)<|by decide)
def Kz{p:Int×Nat}{x c a:Int}{m:Nat}(h:KN p.1 p.2/\2<=p.2/\p.2<=7)(hc:zQ m c)(m6:m<=6)(ha:zQ p.2 a):xq [(true,pD p),(true,.int x),(true,.int c),(true,.int a)]=sI (dK p.1 p.2 x c a):=Ny h.1 h.2.1 h.2.2 hc m6 ha
def PK.tail{p:Int×Nat}{P:PZ}(h:PK (p::P)):PK P:=λq m=>h q<|zzD _ m
abbrev iF:SF:=(zh (yk<|Zn 2 (dC (f2 zj zT zJ) dN) ZD)
 (zm true 1<|f2 zj zT zy))
theorem HS{B:Option O}:∀(P:PZ) (v:Int) (acc:List Int) (e3 e4:Option O),PK P->acc.length+P.length<=900->∃v' e3' e4',forL (gT 2<|yI (gN 3)<|yI X4 Yq) iF (P.map λp=>(true,pD p)) [B,sI v,some<|vQ acc,e3,e4]=some (.nx [B,sI v',some<|vQ<|acc++sp P v,e3',e4'])
 | [],v,acc,e3,e4,_,_=>⟨v,e3,e4,by rw[show acc++sp [] v=acc from zyE _];rfl⟩
 |p::P,v,acc,e3,e4,h,hl=>by
  have hp:=(h p<|zzF ..).2;rw[zzT]at hl;obtain⟨v',f3,f4,hf⟩:=HS P _ (acc++[v%p.2]) _ _ h.tail (by rw[zzJ];show acc.length+1+P.length<=900;omega);rw[zxA]at hf;refine⟨v',f3,f4,vT rfl (zr (as1:=[B,sI v,some _,sI p.1,sI p.2]) ?_<|zE (xl ⋯ ⋯ ⋯ (zK ⋯ ⋯))<|zg rfl) hf⟩;have ap:=V0 (i:=2) (as:=[B,sI v,some<|vQ acc,sI p.1,sI p.2]) rfl (zY (za (i:=1) rfl) (za (i:=4) rfl) ⋯) rfl (by rw[zzB];exact slt ⋯)
  rwa [<-N4]at ap
def CA{P:PZ}{v:Int}(h:PK P)(hl:P.length<=10):X5 [(true,Y6 P),(true,.int v)]=some (vQ<|sp P v):=by
 obtain⟨v',e3,e4,hf⟩:=HS P v [] none none h (by show 0+_<=_;omega);have it:XF zk [sT<|Y6 P,sI v,some<|vQ [],none,none]=some (P.map λp=>(true,pD p),[sT<|Y6 P,sI v,some<|vQ [],none,none]):=by
  have:=Ep<|WD.e<|za (as:=[sT<|Y6 P,sI v,some<|vQ [],none,none]) (i:=0) rfl
  rwa [zyB]at this
 exact x6 rfl<|zr ⋯ (zr (yr it hf)<|Ry rfl (Zk _).2.1)
def pq{f:EF}{as:AS}{ds:List D}(h:WD f as true (.lst ds)):WE (XE f oN (oS<|f1 zD LW) s_) as (.lst ds.reverse):=by
 refine⟨.nd .ls _, ?_,Xe _,congrArg D.lst<|Vd _⟩;unfold XE;rw[h];show(if _=true then some (RV.ow<|.nd .ls<|ds.reverse.map<|SG true)else none:Option RV).bind _=_;rw[if_pos<|by simp];show some _=_;rw[show(SG true)=O.lf true from funext λd=>by show O.lf _ d=_;rw[zyD]]
theorem XS:∀(P:PZ) (ds:List Int),Q2 true (P.map pD) (ds.map D.int)=(P.zip ds).map λq=>(true,D.tup [pD q.1,.int q.2])
 | [],_=>rfl
 |_::_,[]=>rfl
 |p::P,d::ds=>congrArg _<|XS P ds
theorem FZ:∀(P:PZ) (ds:List Int),P.length=ds.length->(P.zip ds).foldr (λq v=>v*(q.1.2:Int)+q.2) 0=ld P ds
 | [],[],_=>rfl
 | [],_::_,h=>⋯
 |_::_,[],h=>⋯
 |p::P,d::ds,h=>by
  show(P.zip ds).foldr _ 0*p.2+d=ld P ds*p.2+d;rw[FZ P ds<|by simpa using h]
abbrev gf:SF:=pA
theorem S0{B C:Option O}:∀(l:List ((Int×Nat)×Int)) (v:Int) (e3 e4:Option O),(∀q ∈ l,q.1.2<=7)->∃e3' e4',forL (gT 2<|yI (gN 3)<|yI X4 Yq) gf (l.map λq=>(true,D.tup [pD q.1,.int q.2])) [B,C,sI v,e3,e4]=some (.nx [B,C,sI<|l.foldl (λv q=>v*(q.1.2:Int)+q.2) v,e3',e4'])
 | [],v,e3,e4,_=>⟨e3,e4,rfl⟩
 |q::l,v,e3,e4,h=>by
  have hq:=h q<|zzF ..;obtain⟨f3,f4,hf⟩:=S0 l _ (sT<|pD q.1) (sI q.2) λx m=>h x<|zzD _ m;exact⟨f3,f4,vT rfl (zE (zN (KM ⋯ ⋯ ⋯) ⋯)<|zg rfl) hf⟩
def LC{P:PZ}{ds:List Int}(h:PK P)(hl:P.length=ds.length):xh [(true,Y6 P),(true,zi ds)]=sI (ld P ds):=by
 obtain⟨e3,e4,hf⟩:=S0 (P.zip ds).reverse 0 none none λq m=>by
  have:=List.of_mem_zip<|List.mem_reverse.mp<|m;exact(h _ this.1).2.2
 rw[List.foldl_reverse,FZ P ds hl]at hf;have ez:(P.zip ds).reverse=P.reverse.zip ds.reverse:=List.reverse_zipWith hl;have w1:=pq (as:=[sT<|Y6 P,sT<|zi ds,sI 0,none,none])<|za (i:=0) rfl;have w2:=pq (as:=[sT<|Y6 P,sT<|zi ds,sI 0,none,none])<|za (i:=1) rfl;rw[<-List.map_reverse]at w1 w2;have it:XB tw [sT<|Y6 P,sT<|zi ds,sI 0,none,none]=some ((P.zip ds).reverse.map λq=>(true,D.tup [pD q.1,.int q.2]),[sT<|Y6 P,sT<|zi ds,sI 0,none,none]):=by
  rw[ez,<-XS];have hw:=yZ w1<|yZ w2 ⋯;unfold XB tw;rw[hw];rfl
 exact x6 rfl<|zr ⋯ (zr (yr it hf) ⋯)
def Ij{as:AS}{a b:EF}{i:Nat}{l:List Int}{k v:Int}(h:as[i]? = some (some<|vQ l))(hl:l.length<900)(ha:WD a as true (.int k))(hb:WD b as true (.int v))(k0:0<=k)(k1:k<1000):∃l':List Int,l'.Perm (v::l)/\yk (Zn i (dC a<|dC b dN) Bx) as=some (.nx<|as.set i<|some<|vQ l'):=by
 refine⟨l.take _++v::l.drop (WR k l.length),List.perm_middle.trans (by rw[List.take_append_drop]), ?_⟩;unfold yk Zn;rw[h];have e:=zF ha<|zF hb yy;rw[e];show(Option.bind (match as[i]? with|some (some<|.nd .ls os)=>_|_=>none) _)=_;rw[h];show((Bx _ _).bind _).bind _=_;have e2:Bx (l.map GB) [.lf true<|.int k,GB v]=some ((l.take (WR k l.length)++v::l.drop (WR k l.length)).map GB,.lf true .non):=by
  show(if _/\(l.map GB).length<sizeLine then _ else _)=_;rw[if_pos ⟨⋯,by rw[zzB];exact slt ⋯⟩,zzB,zyM,zyS,List.map_take,List.map_drop]
 rw[e2];rfl
def HX{x:Int}{n:Nat}(n8:n<=8):∃F:List Int,F.Perm (U3 n)/\RE (X9 [(true,.int x),(true,.int n)]) (zi F):=by
 obtain⟨as',hf,x',F,e3,rfl,hp⟩:=yS (g:=gN 3) (f:=(zh rZ
  (zm true 0<|f2 zk (f2 zA zD zp) zy)))
  (λi as=>∃(x':Int) (F:List Int) (e3:Option O),as=[sI x',sI n,some<|vQ F,e3]/\F.Perm (U3 i)) (yU 0 n) 0 [sI x,sI n,some _,none] (λi z as hz hI=>by
   obtain⟨x',F,e3,rfl,hp⟩:=hI;obtain⟨rfl,hi⟩:=xu hz;rw[zyX]at hp ⊢;rw[Int.zero_add];have fl:F.length=i:=by rw[hp.length_eq,zzB,zyU]
   have q0:=zyN x' (show(i:Int)+1≠0 by omega);have q1:=zyH x' (show 0<(i:Int)+1 by omega);obtain⟨F',p',hs⟩:=Ij (as:=[sI x',sI n,some<|vQ F,sI i]) (b:=fV 3) (i:=2) rfl (by omega) (zY ⋯ ⋯ (by omega)) ⋯ q0 (by omega);refine⟨[sI x',sI n,some<|vQ F,sI i],rfl,_,zr hs<|zE (xl ⋯ ⋯ (by omega) (zK (by omega)<|by omega))<|zg rfl,_,F',_,rfl, ?_⟩;show F'.Perm ((List.range<|i+1).map λ(i:Nat)=>i);rw[List.range_succ,zyM];exact p'.trans<|(hp.cons _).trans (List.perm_append_singleton _ _).symm)
  ⟨x,[],none,rfl,List.Perm.refl _⟩
 rw[y9,zyX]at hp;have hrun:=xk (as:=[sI x,sI n,some<|vQ [],none]) (zd (za (i:=1) rfl) zo) (by omega) (by omega);exact⟨F,hp,zG rfl<|zc (vC (Y7 yy<|WY rfl)<|zg rfl)<|zc (yr hrun hf) ⟨_,Ry rfl (Zk F).2.1,(VD F).1,(VD F).2⟩⟩
def WL(fr:DF)(as:AS)(xs:List D):Prop:=∃os,fr as=some (os,as)/\O.strs os=true/\O.toDs os=xs
def XY{as:AS}:WL dN as []:=⟨[],rfl,rfl,rfl⟩
def yc{a:EF}{fr:DF}{as:AS}{x:D}{xs:List D}(h:WE a as x)(t:WL fr as xs):WL (dC a fr) as (x::xs):=by
 obtain⟨o,h1,h2,h3⟩:=h;obtain⟨os,t1,t2,t3⟩:=t;refine⟨o::os,Hn h1 t1, ?_, ?_⟩
 . show(o.str&&O.strs os)=true;rw[h2,t2];rfl
 . show o.toD::O.toDs os=_;rw[h3,t3]
def Vj{fr:DF}{as:AS}{xs:List D}(h:WL fr as xs)(hl:Nat.ble xs.length 1000=true):WE (ya fr) as (.lst xs):=by
 obtain⟨os,h1,h2,h3⟩:=h;have e:os.length=xs.length:=by rw[<-h3,Yc]
 exact xi h1 (by rw[e];exact WY hl) h2<|congrArg D.lst h3
noncomputable def kW:List PZ:=[[(0,3)],[(2,3)],[(1,4)],[(0,2),(2,2)],[(3,4)],[(2,4)],[(0,2),(1,3)],[(0,5)],[(2,2),(3,4)],[(1,2),(2,3)],[(0,4)],[(3,4)],[(1,6)],[(0,2),(3,4)],[(2,7)],[(0,6)]]
def mh(P:PZ):Bool:=P.all (λp=>((p.1==0&&p.2<=6)||p.1==1||p.1==2||(p.1==3&&p.2==4))&&2<=p.2&&p.2<=7)&&PN P<=8&&P.tail.all (λp=>p.1 != 0)&&P.length<=2&&P != []
def Jk:∀P ∈ kW,mh P=true:=by decide
structure Pt(P:PZ):Prop where
 k:PK P
 n8:PN P<=8
 tl:∀p ∈ P.tail,p.1≠0
 l2:P.length<=2
 ne:P≠[]
 z6:∀p ∈ P,p.1=0->p.2<=6
def qa{P:PZ}(h:mh P=true):Pt P:=by
 unfold mh at h;simp only[zyC,List.all_eq_true,Bool.or_eq_true,beq_iff_eq,decide_eq_true_eq,bne_iff_ne,ne_eq]at h;obtain⟨⟨⟨⟨h1,h2⟩,h3⟩,h4⟩,h5⟩:=h;refine⟨λp mp=>?_,h2,h3,h4,h5,λp mp e=>?_⟩
 . obtain⟨⟨h,a⟩,b⟩:=h1 p mp;refine⟨?_,a,b⟩
   rcases h with((h|h)|h)|h
   . exact .inl ⟨h.1,by omega⟩
   . exact .inr<|.inl ⟨h,by omega⟩
   . exact .inr<|.inr<|.inl ⟨h,by omega⟩
   . exact .inr<|.inr<|.inr ⟨h.1,h.2⟩
 . obtain⟨⟨h,a⟩,b⟩:=h1 p mp
   rcases h with((h|h)|h)|h
   . exact h.2
   . omega
   . omega
   . omega
def lL{as:AS}{k:Int}{n:Nat}:WE (yh<|dC (fC<|.int k)<|dC (fC<|.int (n:Int)) dN) as (pD (k,n)):=yA (WD.e zb)<|WD.e zb
def Oj{as:AS}{k:Int}{n:Nat}:WE (ya<|dC (yh<|dC (fC<|.int k)<|dC (fC<|.int (n:Int)) dN) dN) as (Y6 [(k,n)]):=Vj (yc lL XY) rfl
def pH{as:AS}{k l:Int}{n m:Nat}:WE (ya<|dC (yh<|dC (fC<|.int k)<|dC (fC<|.int (n:Int)) dN)<|dC (yh<|dC (fC<|.int l)<|dC (fC<|.int (m:Int)) dN) dN) as (Y6 [(k,n),(l,m)]):=Vj (yc lL<|yc lL XY) rfl
def BP(x:Int):∃P:PZ,Pt P/\RE (Wg [(true,.int x)]) (Y6 P):=by
 have q0:=zyN x (show(16:Int)≠0 by decide);have q1:=zyH x (show(0:Int)<16 by decide);obtain⟨P,hP,mP⟩:=uA Y6 (T:=kW) (P:=λP=>mh P=true) q0 q1 Jk;have s1:=yO (p:=1) (as:=[sI x,none]) (Vj (yc (Oj (k:=0) (n:=3))<|yc (Oj (k:=2) (n:=3))<|yc (Oj (k:=1) (n:=4))<|yc (pH (k:=0) (n:=2) (l:=2) (m:=2))<|yc (Oj (k:=3) (n:=4))<|yc (Oj (k:=2) (n:=4))<|yc (pH (k:=0) (n:=2) (l:=1) (m:=3))<|yc (Oj (k:=0) (n:=5)) XY) rfl)<|zg rfl;have s2:=yO (p:=1) (as:=[sI x,sT<|.lst<|([[(0,3)],[(2,3)],[(1,4)],[(0,2),(2,2)],[(3,4)],[(2,4)],[(0,2),(1,3)],[(0,5)]]:List PZ).map Y6]) (Ou (WD.e<|za (i:=1) rfl) (Vj (yc (pH (k:=2) (n:=2) (l:=3) (m:=4))<|yc (pH (k:=1) (n:=2) (l:=2) (m:=3))<|yc (Oj (k:=0) (n:=4))<|yc (Oj (k:=3) (n:=4))<|yc (Oj (k:=1) (n:=6))<|yc (pH (k:=0) (n:=2) (l:=3) (m:=4)) XY) rfl)<|add_lists<|WY rfl)<|zg rfl;have s3:=yO (p:=1) (as:=[sI x,sT<|.lst<|([[(0,3)],[(2,3)],[(1,4)],[(0,2),(2,2)],[(3,4)],[(2,4)],[(0,2),(1,3)],[(0,5)],[(2,2),(3,4)],[(1,2),(2,3)],[(0,4)],[(3,4)],[(1,6)],[(0,2),(3,4)]]:List PZ).map Y6]) (Ou (WD.e<|za (i:=1) rfl) (Vj (yc (Oj (k:=2) (n:=7))<|yc (Oj (k:=0) (n:=6)) XY) rfl)<|add_lists<|WY rfl)<|zg rfl;exact⟨P,qa mP,zG rfl<|zc s1<|zc s2<|zc s3<|zz<|WD.e<|wW (as:=[sI x,sT<|.lst<|kW.map Y6]) (za (i:=1) rfl) (zY (za (i:=0) rfl) zb<|by decide) hP⟩
section
variable{α:Type}{fi:IF}{cap:List (Option Nat)}{gg:GF}{fe:EF}{as:AS}{it:α->wA}
def G3{h:α->Int}(l:List α)(h1:fi as=some (l.map it,as))(hl:l.length<=1000)(H:∀q ∈ l,∃as1,gg (it q) (Zz cap as)=some as1/\WD fe as1 true (.int<|h q)):zX fi cap gg yD fe as=some (.ow<|vQ<|l.map h,as):=by
 have c:∀l:List α,(∀q ∈ l,∃as1,gg (it q) (Zz cap as)=some as1/\WD fe as1 true (.int<|h q))->xr gg yD fe (Zz cap as) (l.map it)=some ((l.map h).map GB):=by
  intro l
  induction l with
  |nil=>exact λ_=>rfl
  |cons q l ih=>
   intro H;obtain⟨as1,a,b⟩:=H q<|zzF ..;exact QK a b<|ih λz m=>H z<|zzD _ m
 exact Qd h1 (by rw[zzB];exact S7 ⋯)<|c l H
def S9{h:α->D}(l:List α)(h1:fi as=some (l.map it,as))(hl:l.length<=1000)(H:∀q ∈ l,∃as1,gg (it q) (Zz cap as)=some as1/\WE fe as1 (h q)):∃os,zX fi cap gg yD fe as=some (.ow<|.nd .ls os,as)/\O.strs os=true/\O.toDs os=l.map h:=by
 have c:∀l:List α,(∀q ∈ l,∃as1,gg (it q) (Zz cap as)=some as1/\WE fe as1 (h q))->∃os,xr gg yD fe (Zz cap as) (l.map it)=some os/\O.strs os=true/\O.toDs os=l.map h:=by
  intro l
  induction l with
  |nil=>exact λ_=>⟨[],rfl,rfl,rfl⟩
  |cons q l ih=>
   intro H;obtain⟨as1,a,o,b1,b2,b3⟩:=H q<|zzF ..;obtain⟨os,c1,c2,c3⟩:=ih λz m=>H z<|zzD _ m;refine⟨o::os,Nl a b1 b2 c1, ?_, ?_⟩
   . show(o.str&&O.strs os)=_;rw[b2,c2];rfl
   . show o.toD::O.toDs os=_;rw[b3,c3];rfl
 obtain⟨os,c1,c2,c3⟩:=c l H;exact⟨os,Qd h1 (by rw[zzB];exact S7 ⋯) c1,c2,c3⟩
end
def IK{as:AS}{fr:AF}{n:Nat}{u:Bool}(h:WA fr as [(u,.int n)])(hn:n<=1000):yt fr yM as=some ((List.range n).map λi:Nat=>(true,D.int<|0+(i:Int)),as):=by
 have:=xk h ⋯ ⋯
 rwa [zyI]at this
theorem any_ints(b:Int):∀r:List Int,∃t,anyF (λy=>Yx 50 y<|.int b) (r.map D.int)=some t
 | []=>⟨_,rfl⟩
 |x::r=>by
  obtain⟨t,h⟩:=any_ints b r;refine⟨(x==b)||t, ?_⟩;show(some _).bind _=_;rw[h];rfl
theorem N9{b:Int}:∀{r:List Int},b ∈ r->∃j:Nat,j<r.length/\r[j]? = some b/\LS (λy=>Yx 50 y<|.int b) (r.map D.int)=some j
 |x::r,m=>by
  by_cases e:x=b
  . obtain⟨t,h⟩:=any_ints b r;refine⟨0,Nat.succ_pos _,by rw[e];rfl, ?_⟩;show(some _).bind _=_;rw[show(x==b)=true by simp[e]];rw[h];rfl
  . obtain⟨j,h1,h3,h2⟩:=N9<|(zzC.mp m).resolve_left λz=>e z.symm;refine⟨j+1,Nat.succ_lt_succ h1,⋯, ?_⟩;show(some _).bind _=_;rw[show(x==b)=false by simp[e]];rw[h2];rfl
def Gj(r:List Int)(b:Int):Int:=(((LS (λy=>Yx 50 y<|.int b)<|r.map D.int).getD 0:Nat):Int)
def HN{n:Nat}{r:List Int}{b:Int}(hl:r.length=n)(hb:b ∈ r):zQ n (Gj r b)/\vV r (Gj r b)=b/\LS (λy=>Yx 50 y<|.int b) (r.map D.int)=some (Gj r b).toNat:=by
 obtain⟨j,j1,j2,j3⟩:=N9 hb;have e:Gj r b=j:=by unfold Gj;rw[j3];rfl
 rw[e];refine⟨⋯, ?_,j3⟩;unfold vV;rw[zyI,j2];rfl
def ik{as:AS}{r:List Int}{i j:Nat}{x:Int}(hl:r.length<=1000)(hx:x ∈ r)(hi:as[i]? = some (sT<|zi r))(hj:as[j]? = some (sI x)):WD (Ka .lst (fV i) (aC (fV j) aN) E6) as true (.int<|Gj r x):=by
 obtain⟨a1,a2,a3⟩:=HN rfl hx;refine JF (za hi) rfl (zd (za hj) zo) ?_ rfl;show(LS _ _).bind _=_;rw[a3];show(if(r.map D.int).length<=1000 then some _ else none)=_;rw[if_pos (by rwa [zzB]),show(((Gj r x).toNat:Nat):Int)=Gj r x by omega]
section
variable{n:Nat}{F:List Int}
def Z9(h:F.Perm (U3 n)){x:Int}(hx:zQ n x):zQ n (Gj F x)/\vV F (Gj F x)=x:=
 have k:=HN (xI h).1.1 ((xI h).2 x hx.1 hx.2)
 ⟨k.1,k.2.1⟩
def Ws(h:F.Perm (U3 n)){v:Int}(hv:zQ n v):zQ n (vV F v):=(rowAt (xI h).1 hv).2
def Tf(h:F.Perm (U3 n)){a:Int}(ha:zQ n a):Gj F (vV F a)=a:=
 have k:=Z9 h (Ws h ha)
 O4 h k.1 ha k.2
end
def pin:PZ->List Int->Prop
 | [],[]=>True
 |p::P,a::s=>zQ p.2 a/\pin P s
 |_,_=>False
theorem Ln:∀{P:PZ},PK P->∀v,pin P<|sp P v
 | [],_,_=>trivial
 |p::P,h,v=>⟨Wf (by have:=(h p<|zzF ..).2.1;omega),Ln h.tail _⟩
theorem Of(f:Int->Nat->Int->Int->Int):∀{P:PZ}{s t:List Int},pin P s->pin P t->P.length=(z3 f P s t).length
 | [],[],[],_,_=>rfl
 |_::_,_::_,_::_,h,k=>congrArg _<|Of f h.2 k.2
 | [],_::_,_,h,_=>h.elim
 |_::_,[],_,h,_=>h.elim
 | [],[],_::_,_,h=>h.elim
 |_::_,_::_,[],_,h=>h.elim
theorem HA(f:Int->Nat->Int->Int):∀{P:PZ}{s:List Int},pin P s->P.length=(z2 f P s).length
 | [],[],_=>rfl
 |_::_,_::_,h=>congrArg _<|HA f h.2
 | [],_::_,h=>h.elim
 |_::_,[],h=>h.elim
abbrev jj:EF:=ze (aC zk<|aC zj w6) wO
theorem Az:∀{P:PZ}{s t:List Int},PK P->pin P s->pin P t->xr D8 yD jj [none,none,none] (Xi true (P.map pD) (s.map D.int)<|t.map D.int)=some ((z3 jK P s t).map GB)
 | [],[],[],_,_,_=>rfl
 |p::P,a::s,b::t,h,ha,hb=>QK rfl (RJ (zd (za rfl)<|zd (za rfl)<|zd (za rfl) zo)<|K7 (h p<|zzF ..).1 ha.1 hb.1)<|Az h.tail ha.2 hb.2
 | [],_::_,_,_,h,_=>h.elim
 |_::_,[],_,_,h,_=>h.elim
 | [],[],_::_,_,_,h=>h.elim
 |_::_,_::_,[],_,_,h=>h.elim
abbrev ig:EF:=ze (aC zk<|aC zB<|aC zA we) xq
theorem AC{x c:Int}{m:Nat}(hc:zQ m c)(m6:m<=6):∀{P:PZ}{s:List Int},PK P->pin P s->xr (gT 2<|yI xC<|yI (gN 1) Yq) yD ig [none,none,sI x,sI c] (Q2 true (P.map pD)<|s.map D.int)=some ((z2 (λk n a=>dK k n x c a) P s).map GB)
 | [],[],_,_=>rfl
 |p::P,a::s,h,ha=>QK rfl (RJ (zd (za rfl)<|zd (za rfl)<|zd (za rfl)<|zd (za rfl) zo)<|Kz (h p<|zzF ..) hc m6 ha.1)<|AC hc m6 h.tail ha.2
 | [],_::_,_,h=>h.elim
 |_::_,[],_,h=>h.elim
def Al{P:PZ}{u v:Int}(h:PK P)(l2:P.length<=2):WD (ze (aC zj<|aC (zX (Fm<|aC zj<|aC zB w9) [none,none,none] D8 yD jj) aN) xh) [sT<|zi<|sp P v,sT<|Y6 P,sT<|zi<|sp P u] true (.int<|jX P u v):=by
 have p1:=Ln h u;have p2:=Ln h v;have it:Fm (aC zj<|aC zB w9) [sT<|zi<|sp P v,sT<|Y6 P,sT<|zi<|sp P u]=some (Xi true (P.map pD) ((sp P u).map D.int)<|(sp P v).map D.int,[sT<|zi<|sp P v,sT<|Y6 P,sT<|zi<|sp P u]):=by
  show(if(P.map pD).length=((sp P u).map D.int).length/\((sp P u).map D.int).length=((sp P v).map D.int).length then _ else _)=_;rw[if_pos<|by simp only[zzB,KJ,and_self]];rfl
 have wc:=Qd (cap:=[none,none,none]) it (by rw[QD _ _ _ _ (by simp only[zzB,KJ]) (by simp only[zzB,KJ]),zzB];exact S7 ⋯)<|Az h p1 p2;have:=EU (WD.e ⋯) (Qy wc)<|LC h<|Of jK p1 p2
 rwa [A_]at this
def rK{P:PZ}{x c v:Int}{m:Nat}(h:PK P)(l2:P.length<=2)(hc:zQ m c)(m6:m<=6):WD (ze (aC zj<|aC (zX (XB<|aC zj w9) [none,none,some 2,some 3] (gT 2<|yI xC<|yI (gN 1) Yq) yD ig) aN) xh) [sT<|zi<|sp P v,sT<|Y6 P,sI x,sI c] true (.int<|dX P x c v):=by
 have p1:=Ln h v;have it:XB (aC zj w9) [sT<|zi<|sp P v,sT<|Y6 P,sI x,sI c]=some _:=rfl;have wc:=Qd (cap:=[none,none,some 2,some 3]) it (by rw[VO,zzB];exact S7 ⋯)<|AC hc m6 h p1;have:=EU (WD.e ⋯) (Qy wc)<|LC h<|HA _ p1
 rwa [Dj]at this
def Hu{n:Nat}{g:GF}{f:SF}{S:List O->Option O->AS}{it:Nat->wA}{v:Nat->O}{w:Nat->Option O}(hn:n<=900)(H:∀i,i<n->∀os e,os.length<900->g (it i) (S os e)=some (S os<|w i)/\f (S os<|w i)=some (.nx<|S (os++[v i])<|w i))(e0:Option O):∃e',forL g f ((List.range n).map it) (S [] e0)=some (.nx<|S ((List.range n).map v) e'):=by
 obtain⟨as',hf,e',rfl⟩:=yS (λi as=>∃e,as=S ((List.range i).map v) e) _ 0 _ (λi x as hx hI=>by
  obtain⟨e,rfl⟩:=hI;rw[zyX];have hi:i<n:=by
   have:=(zzG.mp hx).1
   rwa [zzB,zyU]at this
  rw[zzI,List.getElem?_range hi]at hx;cases hx;obtain⟨h1,h2⟩:=H i hi ((List.range i).map v) e (by rw[zzB,zyU];omega);exact⟨_,h1,_,h2,w i,by rw[List.range_succ,zyM];rfl⟩) ⟨e0,rfl⟩
 rw[zzB,zyU,zyX]at hf;exact⟨e',hf⟩
def qB{as:AS}{i:Nat}{s:Bool}{r:List Int}(h:as[i]? = some (some<|.lf s<|zi r)):xZ (fV i) as=some (r.map λx=>(true,D.int x),as):=by
 refine IH (za h) ?_;show some _=_;unfold kids;rw[zyB];rfl
def oE{as:AS}{i:Nat}{T:TZ}(h:as[i]? = some (some<|MJ T)):xZ (fV i) as=some (T.map λr=>(false,zi r),as):=by
 unfold xZ;rw[NK h];show((match as[i]? with|some (some<|.nd .ls os)=>some _|some (some<|.nd .tp os)=>some _|_=>none:Option _).bind λl=>some _)=_;rw[h];show some _=_;unfold Pa;rw[zyB]
 congr 2
 refine List.map_congr_left λr _=>?_;show(false,(vQ r).toD)=_;rw[(VD r).2]
section
variable{n m:Nat}{F:List Int}{P:PZ}
def jy{as:AS}{i:Nat}{T:TZ}(hF:Row n F)(hi:as[i]? = some (some<|MJ T))(hc:∀d:wA,gN 0 d (Zz [none,some 5] as)=some [some<|.lf d.1 d.2,sT<|zi F])(hl:T.length<=900)(hr:∀r ∈ T,r.length<=900/\∀x ∈ r,zQ n x):∃os,zX (xZ<|fV i) [none,some 5] xC yD B9 as=some (.ow<|.nd .ls os,as)/\O.strs os=true/\O.toDs os=(T.map λr=>r.map<|vV F).map zi:=by
 obtain⟨os,h1,h2,h3⟩:=S9 T (oE hi) ⋯ λr mr=>by
  refine⟨_,hc _, ?_⟩;have wi:=G3 (as:=[some<|.lf false _,sT _]) (cap:=[none,some 1]) (gg:=gN 0) r (qB (i:=0) rfl) (by have:=(hr r mr).1;omega) λx mx=>⟨_,rfl,zV (za (i:=1) rfl) (za (i:=0) rfl) (rowAt hF<|(hr r mr).2 x mx).1 rfl⟩;exact Qy wi
 exact⟨os,h1,h2,by rw[h3,zyB];rfl⟩
def Jh(P:PZ)(F:List Int)(n a:Nat):List Int:=(List.range n).map λb:Nat=>jX P (Gj F a)<|Gj F b
def KI(P:PZ)(F:List Int)(n:Nat):TZ:=((List.range n).map<|Jh P F n).map λr=>r.map<|vV F
def Fk(P:PZ)(F:List Int)(n:Nat)(x:Int)(c:Nat):List Int:=(List.range n).map λa:Nat=>dX P x c<|Gj F a
def DV(P:PZ)(F:List Int)(n m:Nat)(x:Int):TZ:=((List.range m).map<|Fk P F n x).map λr=>r.map<|vV F
def JU{g:Nat->Int}{v:Int}(hv:zQ n v):vV ((List.range n).map g) v=g v.toNat:=by
 unfold vV;rw[zzI,List.getElem?_range ⋯];rfl
def HI{k:Nat}{g:Nat->Nat->Int}{u v:Int}(hu:zQ k u)(hv:zQ n v):yG (((List.range k).map λa=>(List.range n).map<|g a).map λr=>r.map<|vV F) u v=vV F (g u.toNat v.toNat):=by
 unfold yG;rw[zzI,zzI,List.getElem?_range ⋯];show vV (((List.range n).map _).map _) v=_;rw[zyB,JU hv];rfl
def F_{k:Nat}{g:Nat->Nat->Int}(hF:Row n F)(hg:∀a b,a<k->b<n->zQ n (g a b)):Tab k n (((List.range k).map λa=>(List.range n).map<|g a).map λr=>r.map<|vV F):=by
 refine⟨by rw[zzB,zzB,zyU],λr mr=>?_⟩;obtain⟨q,mq,rfl⟩:=zxB.mp mr;obtain⟨a,ma,rfl⟩:=zxB.mp mq;refine⟨by rw[zzB,zzB,zyU],λx mx=>?_⟩;obtain⟨y,my,rfl⟩:=zxB.mp mx;obtain⟨b,mb,rfl⟩:=zxB.mp my;exact(rowAt hF<|hg a b (List.mem_range.mp ma)<|List.mem_range.mp mb).2
def E7{i:Nat}(h:i<n):zQ n (i:Int):=⋯
def A5(hP:PK P)(hn:n=PN P)(hF:F.Perm (U3 n)){a b:Nat}(ha:a<n)(hb:b<n):zQ n (jX P (Gj F a)<|Gj F b):=by
 have:=(sU hP).cl;rw[<-hn]at this;exact this _ _ (Z9 hF<|E7 ha).1 (Z9 hF<|E7 hb).1
def Di{x:Int}(hP:PK P)(hn:n=PN P)(m1:1<=m)(hm:∀p ∈ P,p.1=0->m=p.2)(hF:F.Perm (U3 n)){c a:Nat}(hc:c<m)(ha:a<n):zQ n (dX P x c<|Gj F a):=by
 have:=(lr (x:=x) m1 hP hm).cl;rw[<-hn]at this;exact this _ _ (E7 hc) (Z9 hF<|E7 ha).1
def Bv(hP:PK P)(hn:n=PN P)(hF:F.Perm (U3 n)):Tab n n (KI P F n)/\LJ n (yG<|KI P F n) (vV F<|eX P)/\∀a b,zQ n a->zQ n b->yG (KI P F n) (vV F a) (vV F b)=vV F (jX P a b):=by
 have q:∀a b,zQ n a->zQ n b->yG (KI P F n) _ _=vV F _:=λa b ha hb=>by
  have ia:=Ws hF ha;have ib:=Ws hF hb;refine(HI ia ib).trans ?_;rw[show(((vV F a).toNat:Nat):Int)=vV F a by omega,show(((vV F b).toNat:Nat):Int)=vV F b by omega,Tf hF ha,Tf hF hb]
 have hL:=sU hP;rw[<-hn]at hL;exact⟨F_ (xI hF).1 λa b ha hb=>A5 hP hn hF ha hb,iI hL (λa ha=>Ws hF ha) (λa ha=>(Z9 hF ha).1) (λa ha=>(Z9 hF ha).2) q,q⟩
def Jg{x:Int}(hP:PK P)(hn:n=PN P)(m1:1<=m)(hm:∀p ∈ P,p.1=0->m=p.2)(hF:F.Perm (U3 n)):Tab m n (DV P F n m x)/\LD n m (yG<|KI P F n) (vV F<|eX P) (yG<|DV P F n m x):=by
 have hL:=sU hP;have hD:=lr (x:=x) m1 hP hm;rw[<-hn]at hL hD;refine⟨F_ (xI hF).1 λc a hc ha=>Di hP hn m1 hm hF hc ha,iY ⋯ hL hD (λa ha=>Ws hF ha) (λa ha=>(Z9 hF ha).1) (λa ha=>(Z9 hF ha).2) (Bv hP hn hF).2.2 λc a hc ha=>?_⟩;have ia:=Ws hF ha;refine(HI hc ia).trans ?_;rw[show(((vV F a).toNat:Nat):Int)=vV F a by omega,show c.toNat=c by omega,Tf hF ha]
end
abbrev ji:SF:=p8
abbrev ju:SF:=qL
abbrev jf:SF:=rL
abbrev jT:SF:=q5
abbrev jJ:SF:=nM
abbrev j6:SF:=qh
abbrev jh:SF:=(zm false 7<|ya dN)
abbrev jV:SF:=(yu (XF xj) (gN 8) kh)
abbrev gu:SF:=(zm false 7<|zX (xZ YN) [none,some 5] xC yD B9)
abbrev vD(P:PZ)(F:List Int)(n:Nat):D:=.lst ((List.range n).map λa:Nat=>zi<|sp P<|Gj F a)
abbrev A7(ns:List Int)(P:PZ)(n m:Nat)(F:List Int)(l:AS):AS:=sT (zi ns)::sI 0::sT (Y6 P)::sI n::sI m::sT (zi F)::sT (vD P F n)::l
structure Hd(P:PZ)(n m:Nat)(F:List Int):Prop where
 p:Pt P
 nn:n=PN P
 m1:1<=m
 m6:m<=6
 z:∀p ∈ P,p.1=0->m=p.2
 f:F.Perm (U3 n)
def oQ{as:AS}{P:PZ}(h:as[2]? = some (sT<|Y6 P)):xZ zB as=some (P.map λp=>(true,pD p),as):=Ys ⋯
def Dh{as:AS}{P:PZ}{fe:EF}{f:Int×Nat->Int}(hP:Pt P)(h:as[2]? = some (sT<|Y6 P))(hf:∀p:Int×Nat,WD fe [sI p.1,sI p.2] true<|.int<|f p):WD (ze (aC zB<|aC (zX (xZ zB) [none,none] (gT 2<|yI xC<|yI (gN 1) Yq) yD fe) aN) xh) as true (.int<|ld P<|P.map f):=
 EU ⋯ (Qy<|G3 P (oQ h) (by have:=hP.l2;omega) λp _=>⟨[sI p.1,sI p.2],rfl,hf p⟩) (LC hP.k (zzB ..).symm)
def JM(ns:List Int):∃P n m F,Hd P n m F/\∀(g:SF) (d:D),Rt (g<|A7 ns P n m F [none,none,none,none,none,none,none,none,none,none]) d->Rt (zh ji (zh ju<|zh jf<|zh jT<|zh jJ<|zh j6 g) [sT<|zi ns,sI 0,none,none,none,none,none,none,none,none,none,none,none,none,none,none,none]) d:=by
 obtain⟨x0,hx0,w0⟩:=WU ns (k:=0) (by omega);obtain⟨x1,hx1,w1⟩:=WU ns (k:=1) (by omega);obtain⟨P,hP,rP⟩:=BP x0;have nN:=jE P;have n8:=hP.n8;have n1:=ER hP.k;obtain⟨F,hF,rF⟩:=HX (x:=x1) n8;have s1:ji [sT<|zi ns,sI 0,none,none,none,none,none,none,none,none,none,none,none,none,none,none,none]=some (.nx _):=yO (p:=2) (xO (WD.e<|w0 _ _ rfl<|za (i:=1) rfl) rP)<|zg rfl;have s2:ju [sT<|zi ns,sI 0,sT<|Y6 P,none,none,none,none,none,none,none,none,none,none,none,none,none,none]=some (.nx [sT<|zi ns,sI 0,sT<|Y6 P,sI<|PN P,none,none,none,none,none,none,none,none,none,none,none,none,none]):=by
  have w:=zN (Dh (as:=[sT<|zi ns,sI 0,sT<|Y6 P,none,none,none,none,none,none,none,none,none,none,none,none,none,none]) (fe:=f2 zj zD yX) hP rfl λp=>wV (za (i:=1) rfl) zb)<|zb (x:=.int 1);rw[nN]at w;exact zE (i:=3) w<|zg rfl
 have q0:=zyN (x0/16) (show(4:Int)≠0 by decide);obtain⟨m0,em⟩:∃k:Nat,(k:Int)=1+x0/16%4:=⟨(1+x0/16%4).toNat,by omega⟩;have s3:jf [sT<|zi ns,sI 0,sT<|Y6 P,sI<|PN P,none,none,none,none,none,none,none,none,none,none,none,none,none]=some (.nx [sT<|zi ns,sI 0,sT<|Y6 P,sI<|PN P,sI m0,none,none,none,none,none,none,none,none,none,none,none,none]):=by
  have w:=zN (zb (x:=.int 1)) (zY (xl (w0 [sT<|zi ns,sI 0,sT<|Y6 P,sI<|PN P,none,none,none,none,none,none,none,none,none,none,none,none,none] zj rfl<|za (i:=1) rfl) (zb (x:=.int 16)) (by decide)<|zK (by decide)<|by decide) (zb (x:=.int 4))<|by decide);rw[<-em]at w;exact zE (i:=4) w<|zg rfl
 obtain⟨m,m1,m6,mz,s4⟩:∃m:Nat,1<=m/\m<=6/\(∀p ∈ P,p.1=0->m=p.2)/\jT [sT<|zi ns,sI 0,sT<|Y6 P,sI<|PN P,sI m0,none,none,none,none,none,none,none,none,none,none,none,none]=some (.nx [sT<|zi ns,sI 0,sT<|Y6 P,sI<|PN P,sI m,none,none,none,none,none,none,none,none,none,none,none,none]):=by
  obtain _|⟨p,Q⟩:=P
  . exact absurd rfl hP.ne
  have wp:WD (f2 zB zM zw) [sT<|zi ns,sI 0,sT<|Y6 (p::Q),sI<|PN (p::Q),sI m0,none,none,none,none,none,none,none,none,none,none,none,none] true (pD p):=wW (za (i:=2) (x:=Y6 (p::Q)) rfl) (zb)<|vU (f:=pD) (l:=p::Q) (i:=0) rfl;have tl:=hP.tl
  by_cases hz:p.1=0
  . have k:=hP.z6 p (zzF ..) hz;have k2:=hP.k p<|zzF ..;refine⟨p.2,by omega,k,λq mq e=>?_,xx (eqT (zV wp zb rfl rfl) zb<|by rw[hz];rfl)<|zE (i:=4) (zV wp zb rfl rfl)<|zg rfl⟩
    rcases zzC.mp mq with rfl|mq
    . rfl
    . exact absurd e<|tl q mq
  . refine⟨m0,by omega,by omega,λq mq e=>?_,zt (eqT (zV wp zb rfl rfl) zb<|beq_eq_false_iff_ne.mpr hz) rfl⟩
    rcases zzC.mp mq with rfl|mq
    . exact absurd e hz
    . exact absurd e<|tl q mq
 have s5:jJ [sT<|zi ns,sI 0,sT<|Y6 P,sI<|PN P,sI m,none,none,none,none,none,none,none,none,none,none,none,none]=some (.nx _):=yO (p:=5) (yB (WD.e<|w1 _ _ rfl ⋯) (WD.e<|za (i:=3) rfl) rF)<|zg rfl;have s6:j6 [sT<|zi ns,sI 0,sT<|Y6 P,sI<|PN P,sI m,sT<|zi F,none,none,none,none,none,none,none,none,none,none,none]=some (.nx<|A7 ns P (PN P) m F [none,none,none,none,none,none,none,none,none,none]):=by
  obtain⟨os,o1,o2,o3⟩:=S9 (cap:=[none,some 2,some 5]) (gg:=gN 0) (List.range<|PN P) (IK (as:=[sT<|zi ns,sI 0,sT<|Y6 P,sI<|PN P,sI m,sT<|zi F,none,none,none,none,none,none,none,none,none,none,none]) (zd (za (i:=3) rfl) zo)<|by omega) (by rw[zyU];omega) λa ma=>by
   have ha:=List.mem_range.mp ma;rw[Int.zero_add];refine⟨[sI a,sT<|Y6 P,sT<|zi F],rfl,yB (WD.e<|za (i:=1) rfl) (WD.e<|ik (i:=2) (j:=0) (by have:=(xI hF).1.1;omega) ((xI hF).2 a (by omega)<|by omega) rfl rfl) ⟨_,CA hP.k (by have:=hP.l2;omega),VD _⟩⟩
  exact yO (p:=6) ⟨_,o1,o2,congrArg D.lst o3⟩<|zg rfl
 exact⟨P,PN P,m,F,⟨hP,rfl,m1,m6,mz,hF⟩,λg d h=>zc s1<|zc s2<|zc s3<|zc s4<|zc s5<|zc s6 h⟩
abbrev nB:SF:=(zm false 9<|ya dN)
abbrev nF:SF:=pR
abbrev m3:SF:=qR
abbrev qQ:SF:=(zm false 15<|ya dN)
abbrev lF:SF:=oO
abbrev ky:SF:=qX
section
variable{ns F:List Int}{P:PZ}{n m:Nat}
def CY(h:Hd P n m F):∃os b,O.strs os=true/\O.toDs os=(KI P F n).map zi/\∀(g:SF) (d:D),Rt (g<|A7 ns P n m F [sN os,b,none,none,none,none,none,none,none,none]) d->Rt (zh jh (zh jV<|zh gu g)<|A7 ns P n m F [none,none,none,none,none,none,none,none,none,none]) d:=by
 have n8:=h.p.n8;rw[<-h.nn]at n8;have l2:=h.p.l2;have s7:jh (A7 ns P n m F [none,none,none,none,none,none,none,none,none,none])=some _:=vC ⋯ (zg rfl);obtain⟨b,hb⟩:=Hu (n:=n) (g:=gN 8) (f:=kh) (S:=λos e=>A7 ns P n m F [sN os,e,none,none,none,none,none,none,none,none]) (it:=λa=>(true,zi<|sp P<|Gj F a)) ⋯ (λa ha os e hl=>⟨rfl,V0 rfl (G3 _ (Ys<|WD.e ⋯) (by rw[zyU];omega) λb mb=>⟨[sT _,sT _,sT _],rfl,Al h.p.k l2⟩) rfl<|slt ⋯⟩) none;have s8:jV (A7 ns P n m F [sN [],none,none,none,none,none,none,none,none,none])=some (.nx<|A7 ns P n m F [some<|MJ<|(List.range n).map<|Jh P F n,b,none,none,none,none,none,none,none,none]):=by
  refine yr (FL ⋯) ?_;rw[zyB];refine hb.trans ?_;show _=some (Out.nx<|A7 ns P n m F [sN _,b,none,none,none,none,none,none,none,none]);rw[zyB];rfl
 have hR:=(xI h.f).1;obtain⟨os,o1,o2,o3⟩:=jy (i:=7) (as:=A7 ns P n m F [some<|MJ<|(List.range n).map<|Jh P F n,b,none,none,none,none,none,none,none,none]) hR rfl (λd=>rfl) (by rw[zzB,zyU];omega) (λr mr=>by
  obtain⟨a,ma,rfl⟩:=zxB.mp mr;have ha:=List.mem_range.mp ma;refine⟨by unfold Jh;rw[zzB,zyU];omega,λx mx=>?_⟩;obtain⟨b,mb,rfl⟩:=zxB.mp mx;exact A5 h.p.k h.nn h.f ha<|List.mem_range.mp mb)
 exact⟨os,b,o2,o3,λg d hg=>zc s7<|zc s8<|zc (vC o1<|zg rfl) hg⟩
abbrev AJ(P:PZ)(n m:Nat)(F:List Int)(p:Str×TZ):Prop:=Tab m n p.2/\LD n m (yG<|KI P F n) (vV F<|eX P) (yG p.2)
abbrev V4(ns:List Int)(P:PZ)(n m:Nat)(F:List Int)(o7:List O)(ss:List Str)(o9:List O)(b8 b11 b12 b13 b14 b15:Option O):AS:=A7 ns P n m F [sN o7,b8,sN o9,sT<|.lst<|ss.map D.str,b11,b12,b13,b14,b15,none]
def SW{o7:List O}{b:Option O}(h:Hd P n m F):∃ss o9 Ds b8 b11 b12 b13 b14,ss.length=7/\ss.Nodup/\Ows Xy (AJ P n m F) o9 Ds/\1<=Ds.length/\Ds.length<=4/\Ds.map (·.1)=(List.range Ds.length).map (λj=>(ss[j]?).getD ("":Str))/\∀(g:SF) (d:D),Rt (g<|V4 ns P n m F o7 ss o9 b8 b11 b12 b13 b14 none) d->Rt (zh nB (zh nF<|zh m3 g)<|A7 ns P n m F [sN o7,b,none,none,none,none,none,none,none,none]) d:=by
 have n8:=h.p.n8;rw[<-h.nn]at n8;have l2:=h.p.l2;have m6:=h.m6;have hR:=(xI h.f).1;obtain⟨x2,_,w2⟩:=WU ns (k:=2) (by omega);obtain⟨x3,_,w3⟩:=WU ns (k:=3) (by omega);obtain⟨ss,sl,sn,rs⟩:=Mn x2 (mn:=7) (by omega);have sg:∀i,i<7->ss[i]? = some ((ss[i]?).getD ("":Str)):=λi hi=>by rw[zzE<|by omega];rfl
 have s10:nB (A7 ns P n m F [sN o7,b,none,none,none,none,none,none,none,none])=some (.nx<|A7 ns P n m F [sN o7,b,sN [],none,none,none,none,none,none,none]):=vC (i:=9) (Y7 yy<|WY rfl)<|zg rfl;have s11:nF (A7 ns P n m F [sN o7,b,sN [],none,none,none,none,none,none,none])=some (.nx<|V4 ns P n m F o7 ss [] b none none none none none):=yO (p:=10) (yB (WD.e<|w2 _ _ rfl<|zN (za (i:=1) (x:=.int 0) (s:=true) rfl)<|zb (x:=.int 2)) (WD.e<|zb (x:=.int 7)) rs)<|zg rfl;have q0:=zyN x3 (show(4:Int)≠0 by decide);have q1:=zyH x3 (show(0:Int)<4 by decide);obtain⟨k,ek⟩:∃k:Nat,(k:Int)=1+x3%4:=⟨(1+x3%4).toNat,by omega⟩;obtain⟨as',hl,o9,Ds,b11,b12,b13,b14,rfl,hO,hN,hK⟩:=yS (g:=gN 11) (f:=jm)
  (λi as=>∃(o9:List O) (Ds:DD) (b11 b12 b13 b14:Option O),as=V4 ns P n m F o7 ss o9 b b11 b12 b13 b14 none/\Ows Xy (AJ P n m F) o9 Ds/\Ds.map (·.1)=(List.range i).map (λj=>(ss[j]?).getD ("":Str))/\Ds.length=i) (yU 0 k) 0 (V4 ns P n m F o7 ss [] b none none none none none) (λi y as hy hI=>by
   obtain⟨o9,Ds,b11,b12,b13,b14,rfl,hO,hN,hK⟩:=hI;obtain⟨rfl,hi⟩:=xu hy;rw[zyX]at hN hK ⊢;rw[Int.zero_add];obtain⟨x,_,wx⟩:=WU ns (k:=4+i) (by omega);have t1:zm true 12 nu (V4 ns P n m F o7 ss o9 b (sI i) b12 b13 b14 none)=some (.nx<|V4 ns P n m F o7 ss o9 b (sI i) (sI x) b13 b14 none):=by
    have w:=zN (zN (za (as:=V4 ns P n m F o7 ss o9 b (sI i) b12 b13 b14 none) (i:=1) (x:=.int 0) (s:=true) rfl)<|zb (x:=.int 4))<|za (i:=11) (x:=.int i) (s:=true) rfl;exact zE (i:=12) (wx _ _ rfl w)<|zg rfl
   have t2:zm false 13 (ya dN) (V4 ns P n m F o7 ss o9 b (sI i) (sI x) b13 b14 none)=some (.nx<|V4 ns P n m F o7 ss o9 b (sI i) (sI x) (sN []) b14 none):=vC (i:=13) (Y7 yy<|WY rfl)<|zg rfl;obtain⟨e,he⟩:=Hu (n:=m) (g:=gN 14) (f:=lM) (S:=λos e=>V4 ns P n m F o7 ss o9 b (sI i) (sI x) (sN os) e none) (it:=λc:Nat=>(true,D.int<|0+(c:Int))) (v:=λc=>vQ<|Fk P F n x c) (w:=λc=>sI c) (by omega) (λc hc os e hl=>by
    rw[Int.zero_add];exact⟨rfl,V0 (os:=os) (i:=13) rfl (G3 (h:=λa:Nat=>dX P x c<|Gj F a) (List.range n) (Ys<|WD.e<|za (i:=6) rfl) (by rw[zyU];omega) λa ma=>⟨[sT<|zi<|sp P<|Gj F a,sT<|Y6 P,sI x,sI c],rfl,rK h.p.k l2 (E7 hc) m6⟩) rfl<|slt<|by omega⟩) b14
   have t3:yu (yt (aC zT aN) yM) (gN 14) lM (V4 ns P n m F o7 ss o9 b (sI i) (sI x) (sN []) b14 none)=some (.nx<|V4 ns P n m F o7 ss o9 b (sI i) (sI x) (some<|MJ<|(List.range m).map<|Fk P F n x) e none):=by
    refine yr (IK (zd (za (i:=4) rfl) zo)<|by omega)<|he.trans ?_;show _=some (Out.nx<|V4 ns P n m F o7 ss o9 b (sI i) (sI x) (sN<|((List.range m).map<|Fk P F n x).map vQ) e none);rw[zyB];rfl
   obtain⟨os,o1,o2,o3⟩:=jy (n:=n) (F:=F) (i:=13) (as:=V4 ns P n m F o7 ss o9 b (sI i) (sI x) (some<|MJ<|(List.range m).map<|Fk P F n x) e none) hR rfl (λd=>rfl) (by rw[zzB,zyU];omega) (λr mr=>by
    obtain⟨c,mc,rfl⟩:=zxB.mp mr;have hc:=List.mem_range.mp mc;refine⟨by unfold Fk;rw[zzB,zyU];omega,λy my=>?_⟩;obtain⟨a,ma,rfl⟩:=zxB.mp my;exact Di h.p.k h.nn h.m1 h.z h.f hc<|List.mem_range.mp ma)
   have wt:WE pX (V4 ns P n m F o7 ss o9 b (sI i) (sI x) (some<|MJ<|(List.range m).map<|Fk P F n x) e none) (Xy ((ss[i]?).getD ("":Str),DV P F n m x)):=yA (WD.e<|zV (za (i:=10) (x:=.lst<|ss.map D.str) (s:=true) rfl) (za (i:=11) (x:=.int i) (s:=true) rfl) (vU<|sg i<|by omega) rfl) ⟨_,o1,o2,congrArg D.lst o3⟩;obtain⟨os',p1,p2⟩:=SZ (i:=9) (os:=o9) (l:=Ds) rfl hO (by omega) wt<|Jg h.p.k h.nn h.m1 h.z h.f;exact⟨_,rfl,_,zr t1<|zr t2<|zr t3 p2,os',_,_,_,_,_,rfl,p1,by rw[zyM,hN,List.range_succ,zyM];rfl,by rw[zzJ,hK];rfl⟩)
  ⟨[],[],none,none,none,none,rfl,Ows.nil,rfl,rfl⟩
 rw[y9,zyX]at hN hK;have hr:=xk (as:=V4 ns P n m F o7 ss [] b none none none none none) (zd (zN (zb (x:=.int 1))<|zY (w3 _ _ rfl<|zN (za (i:=1) (x:=.int 0) (s:=true) rfl)<|zb (x:=.int 3)) (zb (x:=.int 4))<|by decide) zo) (by omega) (by omega);rw[<-ek,zyI]at hr;exact⟨ss,o9,Ds,b,b11,b12,b13,b14,sl,sn,hO,by omega,by omega,by rw[hK];exact hN,λg d hg=>zc s10<|zc s11<|zc (yr hr hl) hg⟩
end
section
variable{ns F:List Int}{P:PZ}{n m:Nat}
def hW:∀i:Nat,i<8->∃k:Int,0<k/\k<1000/\zw (zi [1,2,4,8,16,32,64,128]) (.int (i:Int))=some (.im<|.int k)
 |0,_=>⟨1,by decide,by decide,rfl⟩
 |1,_=>⟨2,by decide,by decide,rfl⟩
 |2,_=>⟨4,by decide,by decide,rfl⟩
 |3,_=>⟨8,by decide,by decide,rfl⟩
 |4,_=>⟨16,by decide,by decide,rfl⟩
 |5,_=>⟨32,by decide,by decide,rfl⟩
 |6,_=>⟨64,by decide,by decide,rfl⟩
 |7,_=>⟨128,by decide,by decide,rfl⟩
 |i+8,h=>absurd h ⋯
def l8{as:AS}{a b c d e f g h:Int}:WE (ya<|dC (fC<|.int a)<|dC (fC<|.int b)<|dC (fC<|.int c)<|dC (fC<|.int d)<|dC (fC<|.int e)<|dC (fC<|.int f)<|dC (fC<|.int g)<|dC (fC<|.int h) dN) as (zi [a,b,c,d,e,f,g,h]):=xi ⋯ (WY rfl) rfl rfl
def Bq{as:AS}{fi:IF}{cap:List (Option Nat)}{gg:GF}{tt:TF}{fe:EF}{it:Nat->wA}(l:List Nat)(h1:fi as=some (l.map it,as))(hl:l.length<=1000000)(H:∀q ∈ l,∃as1 t,gg (it q) (Zz cap as)=some as1/\WT tt as1 t/\WE fe as1 (.int q)):∃r:List Int,WE (zX fi cap gg tt fe) as (zi r):=by
 have:∃p:Nat->Bool,∀q ∈ l,∃as1,gg (it q) (Zz cap as)=some as1/\WT tt as1 (p q)/\WE fe as1 (.int q):=by
  refine⟨λq=>((gg (it q)<|Zz cap as).bind tt).elim false (·.1),λq mq=>?_⟩;obtain⟨as1,t,h1,h2,h3⟩:=H q mq;refine⟨as1,h1, ?_,h3⟩;show WT tt as1 (((gg _ _).bind tt).elim false _);rw[h1];show _=some ((tt as1).elim false _,as1);rw[h2];rfl
 obtain⟨p,hp⟩:=this;have w:=CD l h1 hl λq mq=>by
  obtain⟨as1,h1,h2,h3⟩:=hp q mq;exact⟨as1,h1,h2,λ_=>h3⟩
 refine⟨(l.filter p).map λq:Nat=>q, ?_⟩;show WE _ _ (D.lst _)
 rwa [zyB]
def Oa{o7 o9:List O}{ss:List Str}{b8 b11 b12 b13 b14:Option O}(h:Hd P n m F)(sl:ss.length=7):∃o15 S c11 c12,Ows UJ (λ_=>True) o15 S/\1<=S.length/\S.length<=3/\S.map (·.1)=(List.range S.length).map (λj=>(ss[4+j]?).getD ("":Str))/\∀(g:SF) (d:D),Rt (g<|V4 ns P n m F o7 ss o9 b8 c11 c12 b13 b14<|sN o15) d->Rt (zh qQ (zh lF g)<|V4 ns P n m F o7 ss o9 b8 b11 b12 b13 b14 none) d:=by
 have n8:=h.p.n8;rw[<-h.nn]at n8;obtain⟨x3,_,w3⟩:=WU ns (k:=8) (by omega);have sg:∀i,i<7->ss[i]? = some ((ss[i]?).getD ("":Str)):=λi hi=>by rw[zzE<|by omega];rfl
 have s13:qQ (V4 ns P n m F o7 ss o9 b8 b11 b12 b13 b14 none)=some _:=vC (i:=15) (Y7 yy<|WY rfl)<|zg rfl;have q0:=zyN x3 (show(3:Int)≠0 by decide);obtain⟨k,ek⟩:∃k:Nat,(k:Int)=1+x3%3:=⟨(1+x3%3).toNat,by omega⟩;obtain⟨as',hl,o15,S,c11,c12,rfl,hO,hN,hK⟩:=yS (g:=gN 11) (f:=j9)
  (λi as=>∃(o15:List O) (S:SS) (b11 b12:Option O),as=V4 ns P n m F o7 ss o9 b8 b11 b12 b13 b14 (sN o15)/\Ows UJ (λ_=>True) o15 S/\S.map (·.1)=(List.range i).map (λj=>(ss[4+j]?).getD ("":Str))/\S.length=i) (yU 0 k) 0 (V4 ns P n m F o7 ss o9 b8 b11 b12 b13 b14<|sN []) (λi y as hy hI=>by
   obtain⟨o15,S,b11,b12,rfl,hO,hN,hK⟩:=hI;obtain⟨rfl,hi⟩:=xu hy;rw[zyX]at hN hK ⊢;rw[Int.zero_add];obtain⟨x,_,wx⟩:=WU ns (k:=9+i) (by omega);have t1:zm true 12 nv (V4 ns P n m F o7 ss o9 b8 (sI i) b12 b13 b14<|sN o15)=some (.nx<|V4 ns P n m F o7 ss o9 b8 (sI i) (sI<|x/7) b13 b14<|sN o15):=by
    have w:=zN (zN (za (as:=V4 ns P n m F o7 ss o9 b8 (sI i) b12 b13 b14<|sN o15) (i:=1) (x:=.int 0) (s:=true) rfl)<|zb (x:=.int 9))<|za (i:=11) (x:=.int i) (s:=true) rfl;exact zE (i:=12) (xl (wx _ _ rfl w) (zb (x:=.int 7)) (by decide)<|zK (by decide)<|by decide)<|zg rfl
   obtain⟨r,wr⟩:=Bq (as:=V4 ns P n m F o7 ss o9 b8 (sI i) (sI<|x/7) b13 b14<|sN o15) (cap:=[none,some 12]) (gg:=gN 0) (tt:=nK) (fe:=fV 0) (List.range n) (IK (zd (za (i:=3) rfl) zo)<|by omega) (by rw[zyU];omega) λq mq=>by
    have hq:=List.mem_range.mp mq;rw[Int.zero_add];obtain⟨z,z0,z1,ez⟩:=hW q (by omega);exact⟨[sI q,sI<|x/7],_,rfl,eqT (zY (xl (za (i:=1) rfl) (MQ l8 (WD.e<|za (i:=0) (x:=.int q) rfl) ez) z0<|zK (by omega)<|by omega) zb<|by decide) zb rfl,WD.e<|za (i:=0) rfl⟩
   have wn:WD (f2 (fV 10) (f2 Z5 Tj zp) zw) (V4 ns P n m F o7 ss o9 b8 (sI i) (sI<|x/7) b13 b14<|sN o15) true (.str<|(ss[4+i]?).getD ("":Str)):=by
    have w:=zN (zb (x:=.int 4))<|za (as:=V4 ns P n m F o7 ss o9 b8 (sI i) (sI<|x/7) b13 b14<|sN o15) (i:=11) (x:=.int i) (s:=true) rfl;exact zV (za (i:=10) (s:=true) rfl) w (vU<|sg (4+i)<|by omega) rfl
   obtain⟨os',p1,p2⟩:=SZ (i:=15) (os:=o15) (l:=S) (x:=((ss[4+i]?).getD ("":Str),r)) rfl hO (by omega) (yA (WD.e wn) wr) True.intro;exact⟨_,rfl,_,zr t1 p2,os',_,_,_,rfl,p1,by rw[zyM,hN,List.range_succ,zyM];rfl,by rw[zzJ,hK];rfl⟩)
  ⟨[],[],b11,b12,rfl,Ows.nil,rfl,rfl⟩
 rw[y9,zyX]at hN hK;have hr:=xk (as:=V4 ns P n m F o7 ss o9 b8 b11 b12 b13 b14<|sN []) (zd (zN (zb (x:=.int 1))<|zY (w3 _ _ rfl ⋯) (zb (x:=.int 3))<|by decide) zo) (by omega) (by omega);rw[<-ek,zyI]at hr;exact⟨o15,S,c11,c12,hO,by omega,by omega,by rw[hK];exact hN,λg d hg=>zc s13<|zc (yr hr hl) hg⟩
def HR{ss:List Str}(nd:ss.Nodup){i j:Nat}(hi:i<ss.length)(hj:j<ss.length)(e:ss[i]=ss[j]):i=j:=by
 have p:=List.pairwise_iff_getElem.mp nd
 rcases Nat.lt_trichotomy i j with h|h|h
 . exact absurd e<|p i j hi hj h
 . exact h
 . exact absurd e.symm<|p j i hj hi h
def KW{ss:List Str}{k a:Nat}(nd:ss.Nodup)(hk:a+k<=ss.length):((List.range k).map λj=>(ss[a+j]?).getD ("":Str)).Nodup:=by
 refine List.pairwise_map.mpr<|(List.nodup_range).imp_of_mem λ{i j} mi mj hne he=>hne ?_;have hi:=List.mem_range.mp mi;have hj:=List.mem_range.mp mj;rw[zzE ⋯,zzE ⋯]at he;have:=HR nd ⋯ ⋯ he;omega
structure Cx.Gd(c:Cx):Prop where
 ok:c.Ok
 sl:c.S.length<=4
 sn:(c.S.map (·.1)).Nodup
 dd:1<=c.Ds.length
def Ez(ns:List Int):∃c:Cx,c.Gd/\RE (Yn [(true,zi ns),(true,.int 0)]) c.g:=by
 obtain⟨P,n,m,F,h,g1⟩:=JM ns;obtain⟨o7,b,j1,j2,g2⟩:=CY h;obtain⟨ss,o9,Ds,b8,b11,b12,b13,b14,sl,sn,hD,d1,d4,dn,g3⟩:=SW h;obtain⟨o15,S,c11,c12,hS,s1,s3,sm,g4⟩:=Oa h sl;obtain⟨tJ,lJ,qJ⟩:=Bv h.p.k h.nn h.f;have hR:=(xI h.f).1;have e0:=(sU h.p.k).ce;rw[<-h.nn]at e0;have n8:=h.p.n8;have n1:=ER h.p.k;rw[<-h.nn]at n8 n1;let Z:=V4 ns P n m F o7 ss o9 b8 c11 c12 b13 b14<|sN o15;have s15:ky Z=some (.nx<|A7 ns P n m F [sN o7,b8,sN o9,sT<|.lst<|ss.map D.str,c11,c12,b13,b14,sN o15,sI<|vV F<|eX P]):=by
  have w:=Dh (as:=Z) h.p rfl λp=>by
   have w:=yJ (as:=[sI p.1,sI p.2]) (g:=VP) (zd (RN (za (i:=0) rfl) (zb (x:=.int 3)) rfl) zo) rfl rfl
   rwa [show(if(p.1==3)=true then(1:Int)else 0)=eK p.1 by unfold eK;by_cases h:p.1=3<;>simp[h]]at w
  rw[jA]at w;exact zE (zV ⋯ w (rowAt hR e0).1 rfl)<|zg rfl
 have wr:oW (A7 ns P n m F [sN o7,b8,sN o9,sT<|.lst<|ss.map D.str,c11,c12,b13,b14,sN o15,sI<|vV F<|eX P])=some (_,_):=
  vO (za (i:=3) rfl) (vO (za (i:=4) rfl)<|Pq (j:=7) rfl<|vO (za rfl)<|Pq (j:=9) rfl<|Pq rfl rfl)
 have hfin:=FE wr<|WY rfl;have hf7:(O.nd .ls o7).frz = .lf true (wF<|KI P F n):=by
  show O.lf (O.strs o7) (.lst<|O.toDs o7)=_;rw[j1,j2]
 rw[hf7,hD.frz,hS.frz]at hfin;have rt:=Lq hfin rfl;have nd1:(Ds.map (·.1)).Nodup:=by
  rw[dn];have:=KW (k:=Ds.length) (a:=0) sn (by omega);simp at this;exact this
 have nd2:(S.map (·.1)).Nodup:=by
  rw[sm];exact KW sn (by omega)
 exact⟨⟨n,m,KI P F n,vV F<|eX P,Ds,S⟩,⟨⟨⟨n1,n8,h.m1,h.m6,tJ,(rowAt hR e0).2.1,(rowAt hR e0).2.2,by show Ds.length<=6;omega,λp mp=>(hD.al p mp).1,nd1⟩,⟨lJ,λp mp=>(hD.al p mp).2⟩⟩,by show S.length<=4;omega,nd2,d1⟩,zG rfl<|g1 _ _<|g2 _ _<|g3 _ _<|g4 _ _<|zc s15 ⟨_,rt,rfl,rfl⟩⟩
end
abbrev hU:SF:=(zm true 1 jc)
abbrev jg:SF:=qP
abbrev jo:SF:=(zm true 3<|f2 zA zD zp)
abbrev jZ:SF:=(zm true 4<|f2 zT zD zp)
abbrev ic:SF:=nt
abbrev iw:SF:=qZ
abbrev iy:SF:=nR
abbrev iD:SF:=(zm false 11<|ya dN)
abbrev iM:SF:=(yu (yt BE yM) (gN 12) kP)
abbrev lP:SF:=(zm false 14<|ya dN)
abbrev lD:SF:=(yu (yt (aC xj aN) yM) (gN 12) kK)
def Au{ds:List Int}{a n:Nat}(h:a+n<=ds.length):Ww (zi ds) (some (a:Int)) (some ((a+n:Nat):Int))=some (.fl<|((ds.drop a).take n).map D.int):=by
 show some _=_
 congr 2
 unfold PF.cutD;rw[HT.YW,HT.YW,zzB,Nat.min_eq_left h,Nat.min_eq_left ⋯,<-List.map_drop,<-List.map_take,Nat.add_sub_cancel_left]
def Ao{ds:List Int}{a n N:Nat}(h:a+n<=ds.length)(hd:∀x ∈ ds,zQ N x)(e:n=N):Row N ((ds.drop a).take n):=by
 refine⟨by rw[zzS,List.length_drop];omega,λx m=>hd x<|List.mem_of_mem_drop<|List.mem_of_mem_take m⟩
def mR{f fl fh:EF}{as:AS}{ds:List Int}{a n:Nat}{lo hi:Int}(h:a+n<=ds.length)(hf:WD f as true (zi ds))(h1:WD fl as true (.int lo))(h2:WD fh as true (.int hi))(e1:lo=(a:Int))(e2:hi=((a+n:Nat):Int)):WE (XE f (oS fl) (oS fh) Ww) as (zi<|(ds.drop a).take n):=by
 subst e1 e2;exact F6 ⋯ (Oy h1) (Oy h2) (Au h)
def Jy{xs:List D}{k:Int}(h : -(2 ^ 63)<=k/\k<2 ^ 63/\xs.length*k.toNat<=sizeLine):Z4 .Mult (.lst xs) (.int k)=some (.fl (List.replicate k.toNat xs).flatten):=if_pos h
def Oc{as:AS}{a b:EF}{x:Int}{k:Nat}(ha:WD a as true (.int x))(hb:WD b as true (.int (k:Int)))(hk:k<=900):WE (f2 (ya<|dC a dN) b zS) as (zi<|List.replicate k x):=by
 refine Ou (xi (zF ha yy) (WY rfl) rfl rfl) (WD.e hb) ?_;show Z4 .Mult (.lst [D.int x]) _=_;rw[Jy ⟨⋯,⋯,S7 (by show 1*k<=_;omega)⟩,zyI,List.flatten_replicate_singleton,List.map_replicate]
abbrev hV:EF:=XE zj (oS<|f2 zB zk zS) (oS<|f2 (f2 zB zk zS) zB zp) Ww
def Dc{as:AS}{j n k:Nat}{cap:List (Option Nat)}{ds:List Int}(n8:n<=8)(k8:k<=8)(hc:∀b:Int,gN 0 (true,.int b) (Zz cap as)=some [sI b,sT<|zi ds,sI n])(hr:as[j]? = some (sI k))(hl:ds.length=n*k)(hd:∀x ∈ ds,zQ n x):∃T:TZ,Tab k n T/\WE (zX (yt (aC (fV j) aN) yM) cap xC yD hV) as (wF T):=by
 obtain⟨T,t1,t2,t3⟩:=sh zi (zd (za hr) zo) ⋯ λb b0 b1=>by
  have ha:n*b.toNat+n<=n*k:=by rw[<-Nat.mul_succ];exact Nat.mul_le_mul_left n ⋯
  have eb:b.toNat=b:=⋯;have w:WD (f2 zB zk zS) [sI b,sT<|zi ds,sI n] true _:=y_ ⋯ ⋯ (zK ⋯ (by omega)) (zK ⋯ ⋯);refine⟨[sI b,sT _,sI n],_,hc b,mR (a:=n*b.toNat) ⋯ (za (i:=1) rfl) w (zN w<|za (i:=2) rfl) (by rw[zzV,eb]) (by rw[Int.natCast_add,zzV,eb]),Ao ⋯ hd rfl⟩
 exact⟨T,⟨t1,t2⟩,t3⟩
def CO{ns:List Int}:∃r:List Int,r.length<=12/\Ww (zi ns) none (some 12)=some (.fl<|r.map D.int):=by
 refine⟨ns.take<|min 12 ns.length,by rw[zzS];omega, ?_⟩;show some (R0.fl<|PF.cutD _ none<|some ((12:Nat):Int))=_
 congr 2
 unfold PF.cutD;rw[HT.YW,HT.Pk,zzB,List.drop_zero,Nat.sub_zero,<-List.map_take]
def Fe{f:EF}{as:AS}{r:List Int}(h:WE f as (zi r)):WD (fP (aC f aN) yV) as true (.int r.length):=by
 have:=Qt (g:=yV) h rfl
 rwa [zzB]at this
def SX{ns:List Int}{as:AS}(h:as[0]? = some (sT<|zi ns)):∃cs:List Int,cs.length=12/\WE jc as (zi cs):=by
 obtain⟨r,hr,e⟩:=CO;have ws:WE (XE zk oN _ Ww) as _:=Q1 (za h) rfl ⋯ e;have w1:=Qy<|G3 (cap:=[none]) (gg:=gN 0) r (Ys ws) ⋯ λx _=>⟨_,rfl,za (i:=0) rfl⟩;rw[List.map_id']at w1;have w2:WD qk as true (.int ((12-r.length:Nat):Int)):=by
  have:=wV (zb (x:=.int 12))<|Fe ws
  rwa [show 12-_=((12-r.length:Nat):Int) by omega]at this
 refine⟨r++List.replicate (12-r.length) 0,by rw[zzJ,List.length_replicate];omega, ?_⟩;refine Ou w1 (Oc zb w2 ⋯) ?_;rw[zyM];exact if_pos (by rw[zzB,zzB,List.length_replicate];exact S7 ⋯)
section
variable{ns cs:List Int}{o z:Int}{n m k s:Nat}
abbrev B8(ns cs:List Int)(o:Int)(n m k s:Nat)(z:Int)(l:AS):AS:=sT (zi ns)::sT (zi cs)::sI o::sI n::sI m::sI k::sI s::sI z::l
abbrev Nh(ns cs:List Int)(o:Int)(n m k s:Nat)(z:Int)(ss:List Str)(b9:Option O)(J:TZ)(o11:List O)(b12 b13 b14 b15:Option O):AS:=B8 ns cs o n m k s z [sT<|.lst<|ss.map D.str,b9,sT<|wF J,sN o11,b12,b13,b14,b15]
structure Bd(cs:List Int)(n m k s:Nat):Prop where
 c:cs.length=12
 n1:1<=n
 n8:n<=8
 m1:1<=m
 m6:m<=6
 k6:k<=6
 s4:s<=4
def qm(ns:List Int):∃cs o n m k s z ss b9 J,Bd cs n m k s/\ss.length=10/\ss.Nodup/\Tab n n J/\0<=z/\∀(g:SF) (d:D),Rt (g<|Nh ns cs o n m k s z ss b9 J [] none none none none) d->Rt (zh hU (zh jg<|zh jo<|zh jZ<|zh ic<|zh iw<|zh iy<|zh iD g) [sT<|zi ns,none,none,none,none,none,none,none,none,none,none,none,none,none,none,none]) d:=by
 obtain⟨cs,hc,wc⟩:=SX (ns:=ns) (as:=[sT<|zi ns,none,none,none,none,none,none,none,none,none,none,none,none,none,none,none]) rfl;have s1:=yO (p:=1) wc<|zg rfl;obtain⟨c,w0⟩:=Zl (as:=[sT<|zi ns,sT<|zi cs,none,none,none,none,none,none,none,none,none,none,none,none,none,none]) (za (i:=1) rfl) (zb (x:=.int 0)) (by omega) (by omega);have wd:WE qy _ (zi [c%2,c/2%8,c/2/8%6,c/2/8/6%7,c/2/8/6/7%5,c/2/8/6/7/5%8]):=Eo (sz:=[2,8,6,7,5,8]) (by decide) (by decide) (WD.e w0)<|xi (zF zb<|zF zb<|zF zb<|zF zb<|zF zb<|zF zb yy) (WY rfl) rfl rfl;have bd:∀(x y:Int),0<y->∃r:Nat,(r:Int)=x%y/\(r:Int)<y:=λx y hy=>by
  have:=zyN x (show y≠0 by omega);have:=zyH x hy;exact⟨(x%y).toNat,by omega,by omega⟩
 obtain⟨n',en,n8⟩:=bd (c/2) 8 (by decide);obtain⟨m',em,m8⟩:=bd (c/2/8) 6 (by decide);obtain⟨k,ek,k8⟩:=bd (c/2/8/6) 7 (by decide);obtain⟨s,es,s8⟩:=bd (c/2/8/6/7) 5 (by decide);obtain⟨z,ez,z8⟩:=bd (c/2/8/6/7/5) 8 (by decide);rw[<-en,<-em,<-ek,<-es,<-ez]at wd;generalize c%2=o at wd;have s2:jg _=some (.nx _):=Ef wd rfl;have s3:jo [sT<|zi ns,sT<|zi cs,sI o,sI n',sI m',sI k,sI s,sI z,none,none,none,none,none,none,none,none]=some (.nx _):=zE (i:=3) (zN (za (i:=3) (x:=.int n') (s:=true) rfl)<|zb (x:=.int 1))<|zg rfl;have s4:jZ [sT<|zi ns,sT<|zi cs,sI o,sI ((n'+1:Nat):Int),sI m',sI k,sI s,sI z,none,none,none,none,none,none,none,none]=some _:=zE (i:=4) (zN (za (i:=4) (x:=.int m') (s:=true) rfl)<|zb (x:=.int 1))<|zg rfl;have n9:n'+1<=8:=by omega
 have nn:=Nat.mul_le_mul n9 n9;obtain⟨x,_,wx⟩:=WU ns (k:=12) (by omega);obtain⟨ss,sl,sn,rs⟩:=Mn x (mn:=10) (by omega);have s5:ic (B8 ns cs o (n'+1) (m'+1) k s z [none,none,none,none,none,none,none,none])=some _:=yO (p:=8) (yB (WD.e<|wx _ _ rfl<|zb (x:=.int 12)) (WD.e<|zb (x:=.int 10)) rs)<|zg rfl;obtain⟨c1,w1⟩:=Zl (as:=B8 ns cs o (n'+1) (m'+1) k s z [sT<|.lst<|ss.map D.str,none,none,none,none,none,none,none]) (za (i:=1) rfl) (zb (x:=.int 1)) (by omega) (by omega);have wm:=y_ (za (as:=B8 ns cs o (n'+1) (m'+1) k s z [sT<|.lst<|ss.map D.str,none,none,none,none,none,none,none]) (i:=3) (s:=true) rfl) (za (i:=3) (s:=true) rfl) (zK (by omega)<|by omega) (zK (by omega)<|by omega);rw[<-zzV]at wm;have s6:=yO (p:=9) (Eo (λy my=>by rw[List.eq_of_mem_replicate my];omega) (by rw[List.length_replicate];omega) (WD.e w1)<|Oc (za (i:=3) rfl) wm<|by omega)<|zg rfl;obtain⟨J,tJ,wJ⟩:=Dc (as:=B8 ns cs o (n'+1) (m'+1) k s z [sT<|.lst<|ss.map D.str,sT<|zi<|dg c1<|List.replicate ((n'+1)*(n'+1)) ((n'+1:Nat):Int),none,none,none,none,none,none]) (j:=3) (n:=n'+1) (k:=n'+1) (cap:=[none,some 9,some 3]) n9 n9 (λb=>rfl) rfl (by rw[P2,List.length_replicate])<|Fv (by omega) _ _;have s7:=yO (p:=10) wJ<|zg rfl;exact⟨cs,o,n'+1,m'+1,k,s,z,ss,_,J,⟨hc,by omega,n9,by omega,by omega,by omega,by omega⟩,sl,sn,tJ,by omega,λg d h=>zc s1<|zc s2<|zc s3<|zc s4<|zc s5<|zc s6<|zc s7<|zc (vC (i:=11) (Y7 yy<|WY rfl)<|zg rfl) h⟩
end
section
variable{ns cs:List Int}{o z:Int}{n m k s:Nat}{ss:List Str}{b9:Option O}{J:TZ}
def DK(h:Bd cs n m k s)(sl:ss.length=10):∃o11 Ds b12 b13,Ows Xy (λp=>Tab m n p.2) o11 Ds/\Ds.length=k/\Ds.map (·.1)=(List.range k).map (λj=>(ss[j]?).getD ("":Str))/\iM (Nh ns cs o n m k s z ss b9 J [] none none none none)=some (.nx<|Nh ns cs o n m k s z ss b9 J o11 b12 b13 none none):=by
 have n1:=h.n1;have n8:=h.n8;have m6:=h.m6;have k6:=h.k6;have hc:=h.c;have nm:=Nat.mul_le_mul n8 m6;have sg:∀i,i<10->ss[i]? = some ((ss[i]?).getD ("":Str)):=λi hi=>by rw[zzE<|by omega];rfl
 obtain⟨as',hl,o11,Ds,b12,b13,rfl,hO,hN,hK⟩:=yS (g:=gN 12) (f:=kP)
  (λi as=>∃(o11:List O) (Ds:DD) (b12 b13:Option O),as=Nh ns cs o n m k s z ss b9 J o11 b12 b13 none none/\Ows Xy (λp=>Tab m n p.2) o11 Ds/\Ds.map (·.1)=(List.range i).map (λj=>(ss[j]?).getD ("":Str))/\Ds.length=i) (yU 0 k) 0 _ (λi y as hy hI=>by
   obtain⟨o11,Ds,b12,b13,rfl,hO,hN,hK⟩:=hI;obtain⟨rfl,hi⟩:=xu hy;rw[zyX]at hN hK ⊢;rw[Int.zero_add];obtain⟨c,wc⟩:=Zl (as:=Nh ns cs o n m k s z ss b9 J o11 (sI i) b13 none none) (za (i:=1) rfl) (zN (zb (x:=.int 2))<|za (i:=12) (s:=true) rfl) (by omega) (by omega);have wm:=y_ (za (as:=Nh ns cs o n m k s z ss b9 J o11 (sI i) b13 none none) (i:=3) (s:=true) rfl) (za (i:=4) (s:=true) rfl) (zK (by omega)<|by omega) (zK (by omega)<|by omega);have t1:=yO (p:=13) (Eo (λy my=>by rw[List.eq_of_mem_replicate my];omega) (by rw[List.length_replicate];omega) (WD.e wc)<|Oc (za (i:=3) (x:=.int n) (s:=true) rfl) wm<|by omega)<|zg rfl;obtain⟨T,tT,wT⟩:=Dc (as:=Nh ns cs o n m k s z ss b9 J o11 (sI i) (sT<|zi<|dg c _) none none) (j:=4) (n:=n) (k:=m) (cap:=[none,some 13,some 3]) n8 (by omega) (λb=>rfl) rfl (by rw[P2,List.length_replicate])<|Fv n1 _ _;obtain⟨os',p1,p2⟩:=SZ (i:=11) (os:=o11) (l:=Ds) (x:=((ss[i]?).getD ("":Str),T)) rfl hO (by omega) (yA (WD.e<|zV (za (i:=8) (s:=true) rfl) ⋯ (vU<|sg i<|by omega) rfl) wT) tT;exact⟨_,rfl,_,zr t1 p2,os',_,_,_,rfl,p1,by rw[zyM,hN,List.range_succ,zyM];rfl,by rw[zzJ,hK];rfl⟩)
  ⟨[],[],none,none,rfl,Ows.nil,rfl,rfl⟩
 rw[y9,zyX]at hN hK;have hr:=xk (as:=Nh ns cs o n m k s z ss b9 J [] none none none none) (zd (za (i:=5) (x:=.int k) (s:=true) rfl) zo) (by omega) (by omega);exact⟨o11,Ds,b12,b13,hO,hK,hN,yr hr hl⟩
def Dw{o11:List O}{b12 b13:Option O}(h:Bd cs n m k s)(sl:ss.length=10):∃o14 S b12' b15,Ows UJ (λ_=>True) o14 S/\S.length=s/\S.map (·.1)=(List.range s).map (λj=>(ss[9-j]?).getD ("":Str))/\lD (Nh ns cs o n m k s z ss b9 J o11 b12 b13 (sN []) none)=some (.nx<|Nh ns cs o n m k s z ss b9 J o11 b12' b13 (sN o14) b15):=by
 have n1:=h.n1;have n8:=h.n8;have s4:=h.s4;have hc:=h.c;have sg:∀i,i<10->ss[i]? = some ((ss[i]?).getD ("":Str)):=λi hi=>by rw[zzE<|by omega];rfl
 obtain⟨as',hl,o14,S,b12',b15,rfl,hO,hN,hK⟩:=yS (g:=gN 12) (f:=kK)
  (λi as=>∃(o14:List O) (S:SS) (b12 b15:Option O),as=Nh ns cs o n m k s z ss b9 J o11 b12 b13 (sN o14) b15/\Ows UJ (λ_=>True) o14 S/\S.map (·.1)=(List.range i).map (λj=>(ss[9-j]?).getD ("":Str))/\S.length=i) (yU 0 s) 0 _ (λi y as hy hI=>by
   obtain⟨o14,S,b12,b15,rfl,hO,hN,hK⟩:=hI;obtain⟨rfl,hi⟩:=xu hy;rw[zyX]at hN hK ⊢;rw[Int.zero_add];obtain⟨c,wc⟩:=Zl (as:=Nh ns cs o n m k s z ss b9 J o11 (sI i) b13 (sN o14) b15) (za (i:=1) rfl) (zN (zb (x:=.int 8))<|za (i:=12) (x:=.int i) (s:=true) rfl) (by omega) (by omega);have t1:=yO (p:=15) (Eo (λy my=>by rw[List.eq_of_mem_replicate my];omega) (by rw[List.length_replicate];omega) (WD.e wc)<|Oc (zb (x:=.int 2)) (za (i:=3) (x:=.int n) (s:=true) rfl)<|by omega)<|zg rfl;obtain⟨r,wr⟩:=Bq (as:=Nh ns cs o n m k s z ss b9 J o11 (sI i) b13 (sN o14)<|sT _) (cap:=[none,some 15]) (gg:=gN 0) (tt:=(fT<|f2 (f2 zj zk zw) zD<|zC .Eq)) (fe:=fV 0) (List.range n) (IK (zd (za (i:=3) rfl) zo)<|by omega) (by rw[zyU];omega) λq mq=>by
    have hq:=List.mem_range.mp mq;rw[Int.zero_add];obtain⟨v,wv⟩:=Zl (as:=[sI q,sT<|zi<|dg c<|List.replicate n 2]) (za (i:=1) rfl) (za (i:=0) (x:=.int q) rfl) (by omega) (by rw[P2,List.length_replicate];omega);exact⟨_,_,rfl,eqT wv zb rfl,WD.e<|za (i:=0) rfl⟩
   have wn:WD (f2 (fV 8) (f2 (fC<|.int 9) (fV 12) yX) zw) (Nh ns cs o n m k s z ss b9 J o11 (sI i) b13 (sN o14)<|sT<|zi<|dg c<|List.replicate n 2) true (.str<|(ss[9-i]?).getD ("":Str)):=by
    have w:=wV (as:=Nh ns cs o n m k s z ss b9 J o11 (sI i) b13 (sN o14)<|sT<|zi<|dg c<|List.replicate n 2) (zb (x:=.int 9))<|za (i:=12) (x:=.int i) (s:=true) rfl;rw[show(9:Int)-i=((9-i:Nat):Int) by omega]at w;exact zV (za (i:=8) (s:=true) rfl) w (vU<|sg (9-i)<|by omega) rfl
   obtain⟨os',p1,p2⟩:=SZ (i:=14) (os:=o14) (l:=S) (x:=((ss[9-i]?).getD ("":Str),r)) rfl hO (by omega) (yA (WD.e wn) wr) True.intro;exact⟨_,rfl,_,zr t1 p2,os',_,_,_,rfl,p1,by rw[zyM,hN,List.range_succ,zyM];rfl,by rw[zzJ,hK];rfl⟩)
  ⟨[],[],b12,none,rfl,Ows.nil,rfl,rfl⟩
 rw[y9,zyX]at hN hK;have hr:=xk (as:=Nh ns cs o n m k s z ss b9 J o11 b12 b13 (sN []) none) (zd (za (i:=6) (x:=.int s) (s:=true) rfl) zo) (by omega) (by omega);exact⟨o14,S,b12',b15,hO,hK,hN,yr hr hl⟩
def Aa{ss:List Str}{k a:Nat}(nd:ss.Nodup)(ha:a<ss.length)(hk:k<=a):((List.range k).map λj=>(ss[a-j]?).getD ("":Str)).Nodup:=by
 refine List.pairwise_map.mpr<|(List.nodup_range).imp_of_mem λ{i j} mi mj hne he=>hne ?_;have hi:=List.mem_range.mp mi;have hj:=List.mem_range.mp mj;rw[zzE ⋯,zzE ⋯]at he;have:=HR nd ⋯ ⋯ he;omega
def Ly(ns:List Int):∃c:Cx,Alg c.n c.m c.J c.e c.Ds/\c.S.length<=4/\(c.S.map (·.1)).Nodup/\RE (wM [(true,zi ns)]) c.g:=by
 obtain⟨cs,o,n,m,k,s,z,ss,b9,J,h,sl,sn,tJ,z0,g1⟩:=qm ns;obtain⟨o11,Ds,b12,b13,hD,dl,dn,e9⟩:=DK (o:=o) (z:=z) (J:=J) h sl;obtain⟨o14,S,c12,b15,hS,slen,sm,e11⟩:=Dw (o:=o) (z:=z) (J:=J) h sl;have n1:=h.n1;have k6:=h.k6;have s4:=h.s4;have e10:lP (Nh ns cs o n m k s z ss b9 J o11 b12 b13 none none)=some _:=vC (Y7 yy<|WY rfl)<|zg rfl;have hz:=Wf (x:=z) h.n1;have wr:q8 (Nh ns cs o n m k s z ss b9 J o11 c12 b13 (sN o14) b15)=some (_,_):=
  vO (za (i:=3) rfl) (vO (za (i:=4) rfl)<|vO (za rfl)<|vO (zY (za (i:=7) rfl) (za (i:=3) rfl)<|by omega)<|Pq (j:=11) rfl<|Pq (j:=14) rfl rfl)
 have hfin:=FE wr<|WY rfl;rw[hD.frz,hS.frz]at hfin;have rt:=Lq hfin rfl;have nd1:(Ds.map (·.1)).Nodup:=by
  rw[dn];have:=KW (k:=k) (a:=0) sn (by omega);simp at this;exact this
 have nd2:(S.map (·.1)).Nodup:=by
  rw[sm];exact Aa sn (by omega) (by omega)
 exact⟨⟨n,m,J,z%n,Ds,S⟩,⟨h.n1,h.n8,h.m1,h.m6,tJ,hz.1,hz.2,by show Ds.length<=6;omega,hD.al,nd1⟩,by show S.length<=4;omega,nd2,zG rfl<|g1 _ _<|zc e9<|zc e10<|zc e11 ⟨_,rt,rfl,rfl⟩⟩
end
theorem CN(k:Nat):∀r s:List Int,Dd (Yx<|k+1) (r.map D.int) (s.map D.int)=some (r==s)
 | [],[]=>rfl
 | [],_::_=>rfl
 |_::_,[]=>rfl
 |a::r,b::s=>by
  show(some _).bind _=_;rw[CN k r s];rfl
def pF(r s:List Int):Yx 60 (zi r) (zi s)=some (r==s):=CN 58 r s
def OC:∀xs:List D,Yx 60 (.lst xs) (.lst [])=some xs.isEmpty
 | []=>rfl
 |_::_=>rfl
def Rf(r:Option Out)(I:AS->Prop):Prop:=(∃as,r=some (.nx as)/\I as)\/r=some (.rt<|.lf true<|.bl false)
theorem Rf.loop{g:GF}{f:SF}(I:Nat->AS->Prop):∀(xs:List wA) (k:Nat) (as:AS),(∀i x as,xs[i]? = some x->I (k+i) as->∃as1,g x as=some as1/\Rf (f as1) (I<|k+i+1))->I k as->Rf (forL g f xs as) (I<|k+xs.length)
 | [],k,as,_,h=>.inl ⟨as,rfl,h⟩
 |x::xs,k,as,H,h=>by
  obtain⟨as1,h1,h2⟩:=H 0 x as rfl h
  rcases h2 with⟨as2,h2,h3⟩|h2
  . have:=Rf.loop I xs _ as2 (λi y as hy hI=>by
     have:=H _ y as hy (by rwa [show k+(i+1)=k+1+i by omega])
     rwa [show k+_+1=k+1+i+1 by omega]at this) h3
    rw[show k+1+xs.length=k+(x::xs).length by rw[zzT];omega]at this;have e:forL g f (x::xs) as=forL g f xs as2:=by
     show(g x as).bind _=_;rw[h1];show(f as1).bind _=_;rw[h2];rfl
    rwa [e]
  . right;show(g x as).bind _=_;rw[h1];show(f as1).bind _=_;rw[h2];rfl
def Rf.seq{f g:SF}{as as1:AS}{I:AS->Prop}(h:f as=some (.nx as1))(k:Rf (g as1) I):Rf (zh f g as) I:=by
 rcases k with⟨a,b,c⟩|k
 . exact .inl ⟨a,zr h b,c⟩
 . exact .inr<|zr h k
def Rf.no{c:TF}{as:AS}{I:AS->Prop}{t:Bool}(h:WT c as t)(k:t=false->I as):Rf (xg c (zx<|fC<|.bl false) yT as) I:=by
 cases t with
 |false=>exact .inl ⟨as,zt h rfl,k rfl⟩
 |true=>exact .inr (xx h rfl)
def Rf.bind{f g:SF}{as:AS}{I K:AS->Prop}(h:Rf (f as) I)(k:∀as1,I as1->Rf (g as1) K):Rf (zh f g as) K:=by
 rcases h with⟨a,b,c⟩|h
 . exact(k a c).seq b
 . exact .inr<|Zd h
def mW{a b:EF}{as:AS}{x y:Int}{s t:Bool}(ha:WD a as s (.int x))(hb:WD b as t (.int y)):WT (fT<|f2 a b<|zC .NotEq) as (!(x==y)):=xG (AU ha hb rfl) rfl
def tW{x y:Int}(h:(!(x==y))=false):x=y:=by
 rw[Bool.not_eq_false']at h;exact beq_iff_eq.mp h
section
variable{n m:Nat}{J T:TZ}{a b:Int}
abbrev D9(m:Nat)(J T:TZ)(a b:Int)(l:AS):AS:=sI m::sT (wF J)::sT (wF T)::sI a::sI b::l
abbrev Cw(m:Nat)(J T:TZ)(a b i k:Int):Prop:=yG T ((i+k)%m) (yG J a b)=yG J (yG T i a) (yG T k b)
def Iw(hJ:Tab n n J)(hT:Tab m n T)(m1:1<=m)(m6:m<=6)(ha:zQ n a)(hb:zQ n b):∃t,RE (Vs [(true,.int m),(true,wF J),(true,wF T),(true,.int a),(true,.int b)]) (.bl t)/\(t=true->∀i k,zQ m i->zQ m k->Cw m J T a b i k):=by
 have hr:=λl=>by
  have:=xk (as:=D9 m J T a b l) (zd (za (i:=0) rfl) zo) (by omega) (by omega)
  rwa [zyI]at this
 have key:=Rf.loop (g:=gN 5) (λi as=>∃x y z w,as=D9 m J T a b [x,y,z,w]/\∀i':Nat,i'<i->∀k,zQ m k->Cw m J T a b i' k) (yU 0 m) 0 (D9 m J T a b [none,none,none,none]) (λi y as hy hI=>by
  obtain⟨x,y,z,w,rfl,hI⟩:=hI;obtain⟨rfl,hi⟩:=xu hy;rw[zyX]at hI ⊢;rw[Int.zero_add];refine⟨D9 m J T a b [sI i,y,z,w],rfl, ?_⟩;have inn:=Rf.loop (g:=gN 6) (f:=ml) (λk as=>∃y z w,as=D9 m J T a b [sI i,y,z,w]/\∀k':Nat,k'<k->Cw m J T a b i k') (yU 0 m) 0 (D9 m J T a b [sI i,y,z,w]) (λk y as hy hK=>by
   obtain⟨y,z,w,rfl,hK⟩:=hK;obtain⟨rfl,hk⟩:=xu hy;rw[zyX]at hK ⊢;rw[Int.zero_add];refine⟨D9 m J T a b [sI i,sI k,z,w],rfl, ?_⟩;have w1:=(X2 (as:=D9 m J T a b [sI i,sI k,z,w]) hT (Wf (x:=(i:Int)+k)<|by omega) (QR hJ ha hb) (za (i:=2) rfl) (zY ⋯ ⋯ (by omega))<|wq hJ ha hb (za (i:=1) rfl) (za (i:=3) rfl)<|za (i:=4) rfl).1;have z1:=X2 (as:=D9 m J T a b [sI i,sI k,sI<|yG T (((i:Int)+k)%m)<|yG J a b,w]) hT (E7 hi) ha (za (i:=2) rfl) (za (i:=5) rfl)<|za (i:=3) rfl;have z2:=X2 (as:=D9 m J T a b [sI i,sI k,sI<|yG T (((i:Int)+k)%m)<|yG J a b,w]) hT (E7 hk) hb (za (i:=2) rfl) (za (i:=6) rfl)<|za (i:=4) rfl;refine(Rf.no ⋯ λh=>⟨_,_,_,rfl,λk' hk'=>?_⟩).seq (zE (wq hJ z1.2 z2.2 (za (i:=1) rfl) z1.1 z2.1)<|zg rfl) |>.seq (zE (i:=7) w1<|zg rfl)
   rcases Nat.lt_or_eq_of_le (Nat.le_of_lt_succ hk')with h1|rfl
   . exact hK k' h1
   . exact tW h) ⟨_,_,_,rfl,λk' hk'=>absurd hk'<|Nat.not_lt_zero _⟩
  rw[y9,zyX]at inn;have fin:∀{r},forL (gN 6) ml (yU 0 m) _=r->(yu (yt w9 yM) (gN 6) ml) (D9 m J T a b [sI i,y,z,w])=r:=λh=>yr (hr _) h
  rcases inn with⟨as2,h1,y',z',w',rfl,h2⟩|h1
  . refine .inl ⟨_,fin h1,_,_,_,_,rfl,λi' hi' k hk=>?_⟩
    rcases Nat.lt_or_eq_of_le (Nat.le_of_lt_succ hi')with h3|rfl
    . exact hI i' h3 k hk
    . have:=h2 k.toNat<|⋯
      rwa [show((k.toNat:Nat):Int)=k by omega]at this
  . exact .inr<|fin h1) ⟨_,_,_,_,rfl,λk' hk'=>absurd hk'<|Nat.not_lt_zero _⟩
 rw[y9,zyX]at key
 rcases key with⟨as2,h1,x',y',z',w',rfl,h2⟩|h1
 . refine⟨true,zG rfl<|zc (yr (hr _) h1)<|zz<|WD.e zb,λ_ i k hi hk=>?_⟩;have:=h2 i.toNat (⋯) k hk
   rwa [show((i.toNat:Nat):Int)=i by omega]at this
 . exact⟨false,zG rfl<|yi ⟨_,yr (hr _) h1,rfl,rfl⟩,λh=>nomatch h⟩
end
def uV{a b c d e:EF}{as:AS}{x y z u v o:D}{g:List (Bool×D)->Option O}(ha:WE a as x)(hb:WE b as y)(hc:WE c as z)(hd:WE d as u)(he:WE e as v)(hg:RE (g [(true,x),(true,y),(true,z),(true,u),(true,v)]) o):WE (ze (aC a<|aC b<|aC c<|aC d<|aC e aN) g) as o:=by
 obtain⟨r,h1,h2,rfl⟩:=hg;exact⟨r,Ze (yZ ha<|yZ hb<|yZ hc<|yZ hd<|yZ he zo) (by simp;exact h1),h2,rfl⟩
def km{a b:EF}{as:AS}{x y:Int}(ha:WD a as true (.int x))(hb:WD b as true (.int y))(h0:0<y)(h1:y<1000):WD (fP (aC a<|aC b aN) JA) as true (.tup [.int<|x/y,.int<|x%y]):=
 Mh (zd ha<|zd hb zo) (by show(if 0<y/\y<1073741824 then _ else _)=_;rw[if_pos ⟨h0,⋯⟩]) rfl
def Iq{n:Nat}{r:List Int}{v:Int}{f:Int->Int}(hl:r.length=n)(hv:zQ n v):vV (r.map f) v=f (vV r v):=by
 unfold vV;rw[zzI,zzE ⋯];rfl
abbrev G7(c:Cx)(l:AS):AS:=sT c.g::sI c.n::sI c.m::sT (wF c.J)::sI c.e::sT (.lst<|c.Ds.map Xy)::sT (.lst<|c.S.map UJ)::l
structure pFac(c:Cx)(a b:Int):Prop where
 u:yG c.J c.e a=a
 v:yG c.J a c.e=a
 s:∀v,zQ c.n v->yG c.J (yG c.J a b) v=yG c.J a (yG c.J b v)
 d:∀q ∈ c.Ds,∀i k,zQ c.m i->zQ c.m k->Cw c.m c.J q.2 a b i k
section
variable{c:Cx}
def Av(A:Alg c.n c.m c.J c.e c.Ds){p:Nat}(hp:p<c.n*c.n){x8 x9 x10 x11:Option O}:Rf (lu<|G7 c [sI p,x8,x9,x10,x11,none]) (λas=>(∃x7 x8 x9 x10 x11,as=G7 c [x7,x8,x9,x10,x11,none])/\pFac c ((p:Int)/c.n) ((p:Int)%c.n)):=by
 have n1:=A.n1;have n8:=A.n8;have hb:zQ c.n ((p:Int)%c.n):=Wf n1;have ha:zQ c.n ((p:Int)/c.n):=⟨Int.ediv_nonneg (by omega) (by omega),by
  have:=Nat.div_lt_of_lt_mul<|Nat.mul_comm .. ▸ hp;omega⟩
 have he:zQ c.n c.e:=⟨A.e0,A.en⟩;have s1:ni (G7 c [sI p,x8,x9,x10,x11,none])=some _:=Ef (WD.e<|km (za (i:=7) rfl) (za (i:=1) rfl) (by omega)<|by omega) rfl;generalize (p:Int)/c.n=a,(p:Int)%c.n=b at ha hb s1 ⊢;have hab:=QR A.j ha hb;have wJ:∀l,WD zA (G7 c l) true (wF c.J):=λl=>za (i:=3) rfl;refine Rf.seq s1<|Rf.bind (I:=λas=>as=G7 c [sI p,sI a,sI b,x10,x11,none]/\yG c.J c.e a=a/\yG c.J a c.e=a) (Rf.no (t:=!(yG c.J c.e a==a) || !(yG c.J a c.e==a)) (Hl (mW (wq A.j he ha (wJ _) (za (i:=4) rfl)<|za (i:=8) rfl)<|za (i:=8) rfl) (λh=>by rw[h];exact mW (wq A.j ha he (wJ _) (za (i:=8) rfl)<|za (i:=4) rfl)<|za (i:=8) rfl) λh=>by rw[h];rfl) λh=>by
  rw[Bool.or_eq_false_iff]at h;exact⟨rfl,tW h.1,tW h.2⟩) ?_
 rintro _ ⟨rfl,u1,u2⟩
 obtain⟨i1,r1⟩:=v_ A.j hab;obtain⟨i2,r2⟩:=v_ A.j hb;refine Rf.bind (I:=λas=>as=G7 c [sI p,sI a,sI b,x10,x11,none]/\∀v,zQ c.n v->yG c.J (yG c.J a b) v=yG c.J a (yG c.J b v)) (Rf.no (xG (MK (WD.e<|wW (wJ _) (wq A.j ha hb (wJ _) (za (i:=8) rfl)<|za (i:=9) rfl) i1) (Qy<|G3 (Qz c.J b) (Ys<|WD.e<|wW (wJ _) (za (i:=9) rfl) i2) (by rw[r2.1];omega) λv mv=>⟨[sI v,sT<|wF c.J,sI a],rfl,wq A.j ha (r2.2 v mv) (za (i:=1) rfl) (za (i:=2) rfl)<|za (i:=0) rfl⟩)<|pF _ _) rfl) λh=>⟨rfl,λv hv=>?_⟩) ?_
 . rw[Bool.not_eq_false']at h;have e:=beq_iff_eq.mp h;show vV (Qz c.J<|yG c.J a b) v=yG c.J a (vV (Qz c.J b) v);rw[e,Iq r2.1 hv]
 rintro _ ⟨rfl,u3⟩
 have key:=Rf.loop (g:=(gT 2<|yI (gN 10)<|yI (gN 11) Yq)) (λi as=>∃y z,as=G7 c [sI p,sI a,sI b,y,z,none]/\∀j q,j<i->c.Ds[j]? = some q->∀i k,zQ c.m i->zQ c.m k->Cw c.m c.J q.2 a b i k) ((c.Ds.map Xy).map λd=>(true,d)) 0 (G7 c [sI p,sI a,sI b,x10,x11,none]) (λi y as hy hI=>by
  obtain⟨y,z,rfl,hI⟩:=hI;rw[zyB,zzI]at hy;obtain⟨q,hq,rfl⟩:=zzX.mp hy;rw[zyX]at hI ⊢;refine⟨G7 c _,rfl, ?_⟩;obtain⟨t,w,ht⟩:=Iw A.j (A.ds q<|zyA hq) A.m1 A.m6 ha hb;refine Rf.no (XQ<|uP<|uV (WD.e<|za (i:=2) rfl) (WD.e<|wJ _) (WD.e<|za (i:=11) rfl) (WD.e<|za (i:=8) rfl) (WD.e<|za (i:=9) rfl) w) λh=>⟨_,_,rfl,λj r hj hr=>?_⟩
  rcases Nat.lt_or_eq_of_le (Nat.le_of_lt_succ hj)with h1|rfl
  . exact hI j r h1 hr
  . rw[hq]at hr;cases hr;exact ht<|(Bool.not_eq_false' ..).mp h) ⟨_,_,rfl,λj _ hj=>absurd hj<|Nat.not_lt_zero _⟩
 rw[zyX,zzB,zzB]at key
 rcases key with⟨as2,h1,y,z,rfl,h2⟩|h1
 . refine .inl ⟨_,yr (FL<|za (i:=5) rfl) h1,⟨_,_,_,_,_,rfl⟩,u1,u2,u3,λq mq=>?_⟩;obtain⟨j,hj,e⟩:=List.getElem_of_mem mq;exact h2 j q hj (by rw[zzE hj,e])
 . exact .inr<|yr (FL<|za (i:=5) rfl) h1
end
section
variable{c:Cx}
def JE(A:Alg c.n c.m c.J c.e c.Ds):∃t,RE (Yo [(true,c.g)]) (.bl t)/\(t=true->LawA c.n c.m c.J c.e c.Ds/\1<=c.Ds.length):=by
 have n1:=A.n1;have n8:=A.n8;have nn:=Nat.mul_le_mul n8 n8;have s1:Jw [sT c.g,none,none,none,none,none,none,none,none,none,none,none,none]=some (.nx<|G7 c _):=Ef (WD.e<|za (i:=0) rfl) rfl;have wm:=y_ (za (as:=G7 c [none,none,none,none,none,none]) (i:=1) (s:=true) rfl) (za (i:=1) (s:=true) rfl) (zK (by omega)<|by omega) (zK (by omega)<|by omega);rw[<-zzV]at wm;have hr:=xk (zd wm zo) (by omega) (by omega);have key:=Rf.loop (g:=gN 7) (f:=lu) (λi as=>(∃x7 x8 x9 x10 x11,as=G7 c [x7,x8,x9,x10,x11,none])/\∀p:Nat,p<i->pFac c ((p:Int)/c.n) ((p:Int)%c.n)) (yU 0<|c.n*c.n) 0 (G7 c [none,none,none,none,none,none]) (λi y as hy hI=>by
  obtain⟨⟨x7,x8,x9,x10,x11,rfl⟩,hI⟩:=hI;obtain⟨rfl,hi⟩:=xu hy;rw[zyX]at hI ⊢;rw[Int.zero_add];refine⟨_,rfl, ?_⟩
  rcases Av A hi (x8:=x8) (x9:=x9) (x10:=x10) (x11:=x11)with⟨as,h1,h2,h3⟩|h1
  . refine .inl ⟨as,h1,h2,λp hp=>?_⟩
    rcases Nat.lt_or_eq_of_le (Nat.le_of_lt_succ hp)with h4|rfl
    . exact hI p h4
    . exact h3
  . exact .inr h1) ⟨⟨_,_,_,_,_,rfl⟩,λj hj=>absurd hj<|Nat.not_lt_zero _⟩
 rw[y9,zyX]at key
 rcases key with⟨as2,h1,⟨x7,x8,x9,x10,x11,rfl⟩,h2⟩|h1
 . have pf:∀a b,zQ c.n a->zQ c.n b->pFac c a b:=λa b ha hb=>by
    have:=ha.1;have:=ha.2;have:=hb.1;have:=hb.2;have e1:(b.toNat+c.n*a.toNat)/c.n=a.toNat:=by rw[Nat.add_mul_div_left _ _ n1,Nat.div_eq_of_lt (by omega),zyX]
    have e2:(b.toNat+c.n*a.toNat)%c.n=b.toNat:=by rw[Nat.add_mul_mod_self_left,Nat.mod_eq_of_lt<|by omega]
    have:=h2 (b.toNat+c.n*a.toNat) (by
     have:c.n*a.toNat+c.n<=c.n*c.n:=by rw[<-Nat.mul_succ];exact Nat.mul_le_mul_left _ (by omega)
     omega)
    rwa [<-Int.natCast_ediv,<-Int.natCast_emod,e1,e2,zyY (by omega),zyY<|by omega]at this
   have he:zQ c.n c.e:=⟨A.e0,A.en⟩;have z0:zQ c.m 0:=⟨by omega,by have:=A.m1;omega⟩;have wf:=CD (as:=G7 c [x7,x8,x9,x10,x11,none]) (cap:=[none,none,some 4]) (gg:=gT 2<|yI xC<|yI (gN 1) Yq) (fe:=fV 0) c.Ds (Ys (f:=fV 5)<|WD.e<|za (i:=5) rfl) (by have:=A.dl;omega) λq mq=>⟨_,rfl,mW (X2 (A.ds q mq) z0 he (za (i:=1) rfl) zb<|za (i:=2) rfl).1<|za (i:=2) rfl,λ_=>WD.e<|za (i:=0) rfl⟩;have s3:=yO (p:=12) wf<|zg rfl;have wn:∀{as:AS},WE (ya dN) as (.lst []):=λ{as}=>Vj XY rfl;generalize hF:(c.Ds.filter λq:Str×TZ=>!(yG q.2 0 c.e==c.e))=fl at s3;refine⟨(fl.map λq:Str×TZ=>D.str q.1).isEmpty&&(!(c.Ds.map Xy).isEmpty && !(c.S.map UJ).isEmpty),zG rfl (zc s1<|zc (yr hr h1)<|zc s3<|zz<|WD.e<|TJ (uU (WD.e<|za (i:=12) rfl) wn<|OC _) (λh=>by rw[h,Bool.true_and];exact TJ (MK (WD.e<|za (i:=5) rfl) wn<|OC _) (λh=>by rw[h,Bool.true_and];exact MK (WD.e<|za (i:=6) rfl) wn<|OC _) λh=>by rw[h];rfl) λh=>by rw[h];rfl),λht=>?_⟩;have hE:fl=[]:=by
    rw[zyC,List.isEmpty_iff,List.map_eq_nil_iff]at ht;exact ht.1
   have hE2:1<=c.Ds.length:=by
    rw[zyC,zyC]at ht;have h:=ht.2.1;cases z:c.Ds with
    |nil=>rw[z]at h;exact nomatch h
    |cons a b=>exact Nat.succ_le_succ (Nat.zero_le _)
   refine⟨?_,hE2⟩;refine⟨⟨λa b ha hb=>QR A.j ha hb,he,λa ha=>(pf a a ha ha).u,λa ha=>(pf a a ha ha).v,λa b v ha hb hv=>(pf a b ha hb).s v hv⟩,λq mq=>⟨λk a hk ha=>(rowAt (v_ (A.ds q mq) hk).2 ha).2, ?_,λa i b k ha hi hb hk=>(pf a b ha hb).d q mq i k hi hk⟩⟩
   by_cases hx:yG q.2 0 c.e=c.e
   . exact hx
   . have:=hF ▸ List.mem_filter.mpr ⟨mq,by rw[beq_eq_false_iff_ne.mpr hx];rfl⟩;rw[hE]at this;exact absurd this List.not_mem_nil
 . exact⟨false,zG rfl<|zc s1<|yi ⟨_,yr hr h1,rfl,rfl⟩,λh=>nomatch h⟩
end
def uS(ns:List Int):∃c:Cx,c.Gd/\RE (Wz [(true,zi ns)]) c.g:=by
 obtain⟨c0,g0,r0⟩:=Ez ns;have e0:∀l,Rt (zx _ ⋯) c0.g:=λl=>zz<|yB ⋯ (WD.e zb) r0;obtain⟨t,ht⟩:∃t,WT rJ [sT _,none] t:=by
  have wl:WT (fT<|f2 (fP w9 yV) zM<|zC .Gt) [sT<|zi ns,none] (decide _):=xG (zV (Fe<|WD.e<|za rfl) zb rfl rfl) rfl
  by_cases h:(0:Int)<ns.length
  . obtain⟨v,wv⟩:=Zl (as:=[sT _,none]) ⋯ (zb (x:=.int 0)) (by omega) (by omega);exact⟨_,SL wl (λ_=>eqT (zY wv zb<|by decide) zb rfl) (λz=>by rw[zyO h]at z;exact nomatch z)⟩
  . exact⟨false,SL wl (λz=>by rw[zyG h]at z;exact nomatch z) λ_=>rfl⟩
 cases t with
 |false=>exact⟨c0,g0,zG rfl<|zc (zt ht rfl)<|e0 _⟩
 |true=>
  obtain⟨c,A,s4,sn,rc⟩:=Ly ns;obtain⟨t,rg,hg⟩:=JE A;have s1:zm true 1 (ze w9 wM) [sT _,none]=some _:=yO (xO (WD.e<|za rfl) rc)<|zg rfl;have w:=uP<|xO (WD.e<|za (as:=[sT<|zi ns,sT c.g]) (i:=1) rfl) rg;cases t with
  |true=>exact⟨c,⟨⟨A,(hg rfl).1⟩,s4,sn,(hg rfl).2⟩,zG rfl<|yi<|yz ht<|zc s1<|yz w<|zz<|WD.e<|za rfl⟩
  |false=>exact⟨c0,g0,zG rfl<|zc (xx ht<|zr s1<|zt w rfl)<|e0 _⟩
def sO{fr:DF}{as:AS}{xs:List D}(h:WL fr as xs)(hl:Nat.ble xs.length 1000=true):WE (yh fr) as (.tup xs):=by
 obtain⟨os,h1,h2,h3⟩:=h;have e:os.length=xs.length:=by rw[<-h3,Yc]
 exact Jp h1 (by rw[e];exact WY hl) h2<|congrArg D.tup h3
def O1{α:Type}{fi:IF}{cap:List (Option Nat)}{gg:GF}{fe:EF}{as:AS}{it:α->wA}{h:α->D}(l:List α)(h1:fi as=some (l.map it,as))(hl:l.length<=1000)(H:∀q ∈ l,∃as1,gg (it q) (Zz cap as)=some as1/\WE fe as1 (h q)):WE (zX fi cap gg yD fe) as (.lst<|l.map h):=by
 obtain⟨os,o1,o2,o3⟩:=S9 l h1 hl H;exact⟨_,o1,o2,congrArg D.lst o3⟩
def qr{as:AS}{i k n:Nat}{T:TZ}(k9:k<=900)(hT:Tab k n T)(h:as[i]? = some (sT<|wF T)):WE (zX (xZ<|fV i) [none] xC yD<|fP w9 lstP) as (wF T):=
 O1 T (Ys ⋯) (by rw[hT.1];omega) λr _=>⟨[sT _],rfl,Eh ⋯⟩
def Ap{c:Cx}(h:c.Gd):RE (YZ [(true,c.g)]) c.g:=by
 have A:=h.ok.A;have n8:=A.n8;have m6:=A.m6;have dl:=A.dl;have s4:=h.sl;have s1:Jw [sT c.g,none,none,none,none,none,none]=some (.nx<|G7 c []):=Ef (WD.e ⋯) rfl;have s2:qp (G7 c [])=some (.nx<|G7 c []):=yO (O1 c.Ds (Ys<|WD.e<|za rfl) ⋯ λq mq=>⟨_,rfl,yA (WD.e<|za rfl)<|qr ⋯ (A.ds q mq) rfl⟩)<|zg rfl;exact zG rfl<|zc s1<|zc s2<|zz<|sO (yc (WD.e<|za rfl)<|yc (WD.e<|za rfl)<|yc (qr ⋯ A.j rfl)<|yc (WD.e<|za rfl)<|yc (WD.e<|za rfl)<|yc (O1 c.S (Ys<|WD.e<|za rfl) ⋯ λq mq=>⟨[sT _,sT _],rfl,yA (WD.e<|za rfl)<|Eh<|za rfl⟩) XY) rfl
def FB{a b c:EF}{as:AS}{i j k:Int}{s t u:Bool}(ha:WD a as s (.int i))(hb:WD b as t (.int j))(hc:WD c as u (.int k))(h1:i<=j)(h2:j<=k):WD (Nc a b c (zC .LtE)<|zC .LtE) as true (.bl true):=by
 unfold WD at *;unfold Nc;rw[ha];simp;rw[hb];simp only[RV.frz,O.frz,RV.view,O.toD,O.str,zyL,zC,BS,AK,Fw,h1,h2,hc];rfl
def QO{x k:Int}(h0:0<=x)(h1:x<=k):w5 [(true,.int x),(true,.int 0),(true,.int k)]=sT (.bl true):=
 x6 rfl (xR<|TJ (k:=true) ⋯ (λ_=>FB ⋯ ⋯ ⋯ h0 h1) ⋯)
def Jc{x:Int}{n:Nat}(n1:1<=n)(n8:n<=8):∃r:List Int,r.length<=59/\(∀v ∈ r,zQ n v)/\RE (Q0 [(true,.int x),(true,.int n),(true,.int 11)]) (zi r):=by
 have q0:=zyN x (show(12:Int)≠0 by decide);have r0:=zyN (x/512) (show(40:Int)≠0 by decide);have s1:zm true 3 (f2 zk (f2 zB zD zp) zJ) [sI x,sI n,sI 11,none]=some _:=zE ⋯ (zg rfl);obtain⟨k,k9,s2⟩:∃k:Nat,k<=59/\qw [sI x,sI n,sI 11,sI<|x%12]=some (.nx [sI x,sI n,sI 11,sI k]):=by
  have wt:WT qI [sI x,sI n,sI 11,sI<|x%12] (x/64%8==1):=eqT ⋯ zb rfl;cases hc:x/64%8==1 with
  |true=>
   rw[hc]at wt;obtain⟨k,ek⟩:∃k:Nat,(k:Int)=20+x/512%40:=⟨(20+x/512%40).toNat,by omega⟩;refine⟨k,by omega,xx wt ?_⟩;rw[ek];exact zE ⋯ (zg rfl)
  |false=>
   rw[hc]at wt;refine⟨(x%12).toNat,by omega,zt wt ?_⟩;rw[zyY q0];rfl
 exact⟨_,by rw[P2,List.length_replicate];exact k9,Fv n1 k _,zG rfl<|zc s1<|zc s2<|zz<|Eo (λy my=>by rw[List.eq_of_mem_replicate my];omega) (by rw[List.length_replicate];omega) (WD.e<|xl (za rfl) zb (by decide) ⋯)<|Oc (za rfl) (za (i:=3) rfl)<|by omega⟩
noncomputable abbrev Rc:List Str:=["way","trees"]
abbrev xy(c:Cx)(ts:List D):O:=.nd (.ob "Makes" Rc) [.lf true c.w,.nd .ls<|ts.map<|O.lf true]
abbrev Gp(c:Cx)(ts:List D):D:=.ob "Makes" Rc [c.w,.lst ts]
section
variable{c:Cx}{ts:List D}{as:AS}{i:Nat}
theorem FG:∀ts:List D,(ts.map<|O.lf true).all O.isLf=true
 | []=>rfl
 |_::r=>FG r
def Rv:Pu (some<|some<|xy c ts)=some (Gp c ts):=by
 show(if true=true/\(ts.map _).all O.isLf=true/\O.strs _=true then some _ else none)=_;rw[if_pos ⟨rfl,FG ts,Xe ts⟩,Vd]
def Vn:(xy c ts).str=true:=by
 show(true&&(O.strs _&&true))=_;rw[Xe];rfl
def NW{m:Str}{tbl:List (Str×Fn)}{g:Fn}{a:EF}{x:D}{o:O}(h:as[i]? = some (some<|xy c ts))(hm:m ∉ Rc)(ht:EO tbl "Makes"=some g)(ha:WE a as x)(hg:g [(true,Gp c ts),(true,x)]=some o)(ho:Dx Rc o=true):wB i tbl m (aC a aN) as=some (.ow o,as):=by
 have hr:=yZ ha zo;unfold wB;rw[h,Rv];show(if m ∈ Rc then none else some "Makes":Option Str).bind _=_;rw[if_neg hm];show(EO tbl "Makes").bind _=_;rw[ht];rw[hr];show(Pu as[i]?).bind _=_;rw[h,Rv];show(g [_,(zv x||true,x)]).bind _=_;rw[zyD,hg];show(if Dx Rc o=true then some _ else none)=_;rw[if_pos ho]
def Yw{m:Str}{g:List wA->O->Option (D×O)}{fr:AF}{rs:List RV}{xs:List wA}{v:Int}{ts':List D}(h:as[i]? = some (some<|xy c ts))(hm:m ∉ Rc)(hr:fr as=some (rs,as))(ha:GG i as rs=some xs)(hg:g xs (xy c ts)=some (.int v,xy c ts')):YA i "Makes" m g fr as=some (.ow<|.lf true<|.int v,as.set i<|some<|xy c ts'):=by
 unfold YA;rw[h];show(if m ∈ Rc then none else some "Makes":Option Str).bind _=_;rw[if_neg hm,zyL,hr];show(GG i as rs).bind _=_;rw[ha];rw[h];show(g xs _).bind _=_;rw[hg];show(if zv _=true/\(xy c ts').str=true then _ else _)=_;rw[if_pos ⟨rfl,Vn⟩]
def YH{f:SF}{g:VF}{as1:AS}{x:Option (D×AS)}(h:f as=some (.nx as1))(k:g as1=x):Zi f g as=x:=by
 unfold Zi
 rwa [h]
def Je:y2 "Makes" [(true,c.w)]=some (xy c []):=⋯
def Bu{d:D}(hl:ts.length<900):yC [(true,d)] (xy c ts)=some (.int ts.length,xy c<|ts++[d]):=by
 have s1:qH 0 1 wD "trees" [some<|xy c ts,sT d]=some (.nx [some<|xy c<|ts++[d],sT d]):=by
  show(if _ ∈ wD/\("trees":Str)="trees"/\("way":Str)≠"trees"/\(ts.map _).length<sizeLine then some _ else none)=_;rw[if_pos ⟨⋯,rfl,⋯,by rw[zzB];exact slt ⋯⟩];show _=some (Out.nx [some<|.nd _ _,sT d]);rw[zyM];rfl
 have w:WD (nj 0 wD "trees") [some<|xy c<|ts++[d],sT d] true (.int ((ts.length+1:Nat):Int)):=by
  show(if("Makes":Str) ∈ wD/\("trees":Str)="trees"/\("way":Str)≠"trees" then some _ else none)=_;rw[zzB,zzJ];rfl
 have w2:=wV w<|zb (x:=.int 1);rw[show(_:Int)-1=ts.length by omega]at w2;have hv:ZH _=some _:=YH s1 (by
  unfold Vo;rw[w2];rfl)
 show(ZH [some _,sT d]).bind _=_;rw[hv];show(if(xy c _).str=true/\zv _=true then _ else _)=_;rw[if_pos ⟨Vn,rfl⟩]
def nO(h:WD (fV i) as true (Gp c ts)):WD (f1 (fV i)<|z9 yL "way") as true c.w:=by
 have:=K5 (n:="way") h (by decide +kernel:_ ∈ yL) rfl
 rwa [zyD]at this
def H_{v:Int}(hv:zQ c.n v):RE (Zr [(true,c.w),(true,.int v)]) (.bl true):=by
 have w:WD _ [sT c.w,sI v] true (.int c.n):=⋯;exact zG rfl<|zz<|zZ (WD.e ⋯) ⋯ (WD.e<|wV w ⋯) (RE.of<|QO hv.1 ⋯)
def Kn{v:Int}(hv:zQ c.n v):yn [(true,Gp c ts),(true,.int v)]=sT .non:=by
 have h:wo (vX 2 [(true,Gp c ts),(true,.int v)])=some _:=zt (XQ<|uP<|Be ⋯ ⋯ rfl (WD.e ⋯) (H_ hv)) rfl;unfold yn xD;rw[h];rfl
def Er{k:Nat}{d:D}(hk:ts[k]? = some d):RE (xt [(true,Gp c ts),(true,.int k)]) d:=by
 have kl:=(zzG.mp hk).1;have wl:WD Dy [sT<|Gp c ts,sI k] true _:=Qt (WD.e ⋯) rfl;have w:=uP<|zZ (WD.e<|za (i:=1) rfl) (WD.e ⋯) (WD.e<|wV wl<|zb (x:=.int 1))<|RE.of<|QO ⋯ ⋯;refine zG rfl<|zc (zt (XQ w) rfl)<|zz<|WD.e<|MQ (WD.e ⋯) (WD.e ⋯) ?_;have:=vU (f:=λd:D=>d) hk
 rwa [List.map_id']at this
end
section
variable{c:Cx}{ts:List D}{as:AS}{i:Nat}{r:List Int}
def qg{s:Bool}(h:as[i]? = some (some<|.lf s<|zi r)):XF (fV i) as=some (r.map λx=>(true,D.int x),as):=by
 rw[Hq h];unfold kids;rw[zyB];rfl
def CW{k:Int}(h:k<=300):vG [(true,.int k)]=sT .non:=by
 have h:Y_ (vX 1 [(true,.int k)])=some _:=zt (xG ⋯ (by show some (decide _)=_;rw[zyG ⋯])) rfl;unfold vG xD;rw[h];rfl
def HJ{s:Bool}(h:c.Ok)(hl:r.length<=300)(hv:c.In r)(tl:ts.length<900):∃d,OT c d r/\xT [(s,zi r)] (xy c ts)=some (.int ts.length,xy c<|ts++[d]):=by
 obtain⟨d,⟨o,t1,t2,t3⟩,hd⟩:=CS h (by omega) hv s;have s1:xg (vL<|fT<|Lm zj "list") CV yT [some<|xy c ts,some<|.lf s<|zi r,none]=some (.nx _):=zt (XQ (k:=true) rfl) rfl;obtain⟨as',h2,e,rfl⟩:=yS (g:=gN 2) (f:=yk<|wB 0 y8 "check_value" w6) (λ_ as=>∃e,as=[some<|xy c ts,some<|.lf s<|zi r,e]) (r.map λx=>(true,D.int x)) 0 [some<|xy c ts,some<|.lf s<|zi r,none] (λj x as hx hI=>by
  obtain⟨e,rfl⟩:=hI;rw[zzI]at hx;obtain⟨v,hv',rfl⟩:=zzX.mp hx;refine⟨[some<|xy c ts,some<|.lf s<|zi r,sI v],rfl,[some<|xy c ts,some<|.lf s<|zi r,sI v], ?_,_,rfl⟩;unfold yk;rw[NW (i:=0) (c:=c) (ts:=ts) (g:=yn) rfl (by decide +kernel) rfl (WD.e<|za (i:=2) rfl) (Kn<|hv v<|zyA hv') rfl];rfl) ⟨_,rfl⟩
 have s2:=yr (qg (i:=1) (r:=r) rfl) h2;have wl:WD (fP we yV) [some<|xy c ts,some<|.lf s<|zi r,e] true (.int r.length):=by
  have:=yJ (as:=[some<|xy c ts,some<|.lf s<|zi r,e]) (g:=yV) (zd (za (i:=1) (s:=s) rfl) zo) rfl rfl
  rwa [zzB]at this
 have s3:yk (ze (aC (fP we yV) aN) vG) [some<|xy c ts,some<|.lf s<|zi r,e]=some (.nx [some<|xy c ts,some<|.lf s<|zi r,e]):=by
  unfold yk;have:=D2 (WD.e wl) (CW<|by omega);rw[this];rfl
 have wy:WD (MB 0 yL "way") [some<|xy c ts,some<|.lf s<|zi r,e] true c.w:=if_pos (c:=("Makes":Str) ∈ yL/\("way":Str)="way") (e:=none) ⟨by decide +kernel,rfl⟩;have wt:=Ze (zd wy<|zd (za (i:=1) (x:=zi r) (s:=s) rfl) zo) t1;have hk:=Yw (i:=0) (c:=c) (ts:=ts) (m:="keep") (g:=yC) rfl (by decide +kernel) (yZ ⟨o,wt,t2,t3⟩ zo) (by
  show some [(zv d||true,d)]=_;rw[zyD])<|Bu tl
 refine⟨d,hd, ?_⟩;have hc:ZG _=some _:=YH s1 (YH s2<|YH s3<|by
  unfold Vo;rw[hk];rfl)
 unfold xT JH;show(ZG [some<|xy c ts,some<|.lf s<|zi r,none]).bind _=_;rw[hc];show(if(xy c<|ts++[d]).str=true/\zv (.int ts.length)=true then _ else _)=_;rw[if_pos ⟨Vn,rfl⟩]
end
section
variable{n m:Nat}{J:TZ}{e:Int}{Ds:DD}{S:SS}
def EA{p:Str×TZ}(nd:(Ds.map (·.1)).Nodup)(hp:p ∈ Ds):RE (ZR [(true,P6 n m J e Ds S),(true,.str p.1)]) (vZ p.2):=by
 have ww:WD (f1 zk<|z9 YF "waits") [sT<|P6 n m J e Ds S,sT<|.str p.1] true _:=uh rfl ⋯ rfl;refine zG rfl<|zz<|Nz (WD.e ww) (WD.e ⋯) ?_;show CL _=_;rw[Rr hp nd];rfl
def Ju{p:Str×TZ}(nd:(Ds.map (·.1)).Nodup)(hp:p ∈ Ds):RE (ZV [(true,P6 n m J e Ds S),(true,.str p.1)]) (.bl true):=by
 have ww:WD (f1 zk<|z9 YF "waits") [sT<|P6 n m J e Ds S,sT<|.str p.1] true _:=uh rfl ⋯ rfl;have i1:WD (Lm zj "str") [sT<|P6 n m J e Ds S,sT<|.str p.1] true (.bl true):=rfl;refine zG rfl<|zz<|WD.e<|TJ i1 (λ_=>zV ⋯ ww ?_ rfl) ⋯;show((some (Q_ _ _).isSome).bind λb=>some _)=_;rw[Rr hp nd];rfl
end
def mf{f:EF}{as:AS}{k:Int}(h:WD f as true (.int k)):oS f as=some (some k,as):=by
 unfold oS;rw[h];rfl
def jN{as:AS}{a b:D}{i j:Nat}(hi:i<as.length)(hj:j<as.length):gT 2 (yI (gN i)<|yI (gN j) Yq) (true,.tup [a,b]) as=some ((as.set i<|sT a).set j<|sT b):=by
 show yI _ _ (kids true [a,b]) as=_;rw[Vh];show(gN i _ as).bind _=_;unfold gN;rw[if_pos hi];show((if j<(as.set i _).length then _ else _:Option AS)).bind _=_;rw[if_pos<|by rwa [zzU]];rfl
def pC{as:AS}{f:EF}{a b:D}{i j:Nat}(h:WE f as (.tup [a,b]))(hi:i<as.length)(hj:j<as.length):YV f (gT 2<|yI (gN i)<|yI (gN j) Yq) as=some (.nx<|(as.set i<|sT a).set j<|sT b):=by
 obtain⟨o,h,h1,h2⟩:=h;exact Ed h (by rw[h1,h2];exact jN hi hj)
def HV{a b d:EF}{as:AS}{s:Bool}{r:List Int}{i k:Nat}(ha:WD a as s (zi r))(hb:WD b as true (.int i))(hd:WD d as true (.int k))(h1:i<=k)(h2:k<=r.length):WE (XE a (oS b) (oS d) Ww) as (zi<|(r.take k).drop i):=by
 refine Q1 ha (mf hb) (mf hd) ?_;show some _=_;unfold PF.cutD;rw[HT.YW,HT.YW,zzB,Nat.min_eq_left h2,Nat.min_eq_left<|zzO h1 h2,List.drop_take,<-List.map_drop,<-List.map_take]
section
variable{c:Cx}{x y d:D}{r s R:List Int}{p q:Nat}{ts:List D}{as:AS}
def sF(h:c.Ok){T:TZ}(hT:c.W T)(k:OT c d R):∃d',RE (Za [(true,c.w),(true,d),(true,vZ T)]) d'/\OT c d' (c.ap (some T) R):=by
 rcases k with⟨rfl,rfl⟩|⟨p,k⟩
 . exact⟨.non,zG rfl<|yi<|yz ⋯ ⋯,.n⟩
 . obtain⟨d',a,b⟩:=LP h hT k;exact⟨d',a,b.o⟩
def O_(h:c.Ok)(k:OT c d R):∃d',RE (xU [(true,c.w),(true,d)]) d'/\OT c d' R.reverse:=by
 rcases k with⟨rfl,rfl⟩|⟨p,k⟩
 . exact⟨.non,zG rfl<|yi<|yz ⋯ ⋯,.n⟩
 . obtain⟨d',a,b⟩:=QZ h k;exact⟨d',a,b.o⟩
def TK.one(k:TK c d R 0):R.length=1:=by
 generalize e:0=p at k;cases k with
 |lf=>rfl
 |nd=>omega
theorem Lc(h:c.Ok):∀(n:Nat) {d:D}{R:List Int}{p:Nat}(i:Nat),TK c d R p->p<n->R.length<=1000->i<=R.length->∃a b,RE (xJ n [(true,c.w),(true,d),(true,.int i)]) (.tup [a,b])/\OT c a (R.take i)/\OT c b (R.drop i)
 |0,_,_,_,_,_,h,_,_=>absurd h (Nat.not_lt_zero _)
 |n+1,d,R,p,i,k,hp,hl,hi=>by
  have v1:∀a b e,WD zj [sT c.w,sT d,sI i,a,b,e] true d:=λ_ _ _=>za (i:=1) rfl;have v2:∀a b e,WD zB [sT c.w,sT d,sI i,a,b,e] true (.int i):=λ_ _ _=>za (i:=2) rfl;have wy:∀a b e,WE zk [sT c.w,sT d,sI i,a,b,e] c.w:=λ_ _ _=>WD.e<|za (i:=0) rfl;have eqN:∀{f g:EF}{as:AS}{a b:Nat},WD f as true (.int a)->WD g as true (.int b)->WT (fT<|f2 f g<|zC .Eq) as (decide (a=b)):=λ{f g as a b} h1 h2=>xG (RN (c:=decide (a=b)) h1 h2 (by
   show some ((a:Int)==b)=_
   by_cases z:a=b
   . subst z;rw[zyO rfl,beq_self_eq_true]
   . rw[zyG z,beq_eq_false_iff_ne.mpr<|by omega])) rfl
  have t1:=eqN (v2 none none none)<|zb (x:=.int (0:Nat));have t2:=eqN (v2 none none none)<|k.size<|v1 none none none
  by_cases e0:i=0
  . rw[zyO e0]at t1;subst e0;exact⟨.non,d,zG rfl<|yi<|yz t1<|zz<|yA (WD.e zb)<|WD.e<|v1 _ _ _,.n,k.o⟩
  rw[zyG e0]at t1
  by_cases e1:i=R.length
  . rw[zyO e1]at t2;refine⟨d,.non,zG rfl<|zc (zt t1 rfl)<|yi<|yz t2<|zz<|yA (WD.e<|v1 _ _ _)<|WD.e zb, ?_, ?_⟩
    . rw[e1,List.take_length];exact k.o
    . rw[e1,List.drop_length];exact .n
  rw[zyG e1]at t2;have p0:p≠0:=λz=>by subst z;have:=k.one;omega
  obtain⟨x,y,r,s,u,v,k0,k1,k2,_,_,rfl,rfl⟩:=ZP h k p0;rw[zzJ]at hl hi e1;have s3:=yO (p:=3) (yB (wy none none none) (WD.e<|v1 _ _ _) k0)<|zg rfl;have u0:∀b e,WD (f2 zA zM zw) [sT c.w,sT d,sI i,sT<|.tup [x,y],b,e] true x:=λ_ _=>vA (j:=3) rfl rfl;have u1:∀b e,WD (f2 zA zD zw) [sT c.w,sT d,sI i,sT<|.tup [x,y],b,e] true y:=λ_ _=>vA (j:=3) rfl rfl;have s4:=zE (i:=4) (st:=true) (k1.size<|u0 none none)<|zg rfl;have v4:∀e,WD zT [sT c.w,sT d,sI i,sT<|.tup [x,y],sI r.length,e] true (.int r.length):=λ_=>za (i:=4) rfl;have t5:=xG (Cr (v2 (sT<|.tup [x,y]) (sI r.length) none)<|v4 none) rfl
  by_cases g:i<r.length
  . rw[zyO<|by omega]at t5;obtain⟨a,b,a1,a2,a3⟩:=Lc h n i k1 (by omega) (by omega) (by omega);obtain⟨f,f1,f2⟩:=FF h a3 k2.o (by rw[List.length_drop];omega) (by omega);have s5:=yO (p:=5) (zZ (wy _ _ _) (WD.e<|u0 (sI r.length) none) (WD.e<|v2 _ _ _) a1)<|zg rfl;refine⟨a,f,zG rfl<|zc (zt t1 rfl)<|zc (zt t2 rfl)<|zc s3<|zc s4<|yi<|yz t5<|zc s5<|zz<|yA (WD.e<|vA (j:=5) rfl rfl)<|zZ (wy _ _ _) (WD.e<|vA (j:=5) rfl rfl) (WD.e<|u1 _ _) f1, ?_, ?_⟩
    . rw[List.take_append_of_le_length<|by omega];exact a2
    . rw[List.drop_append_of_le_length<|by omega];exact f2
  . rw[zyG<|by omega]at t5;obtain⟨a,b,a1,a2,a3⟩:=Lc h n (i-r.length) k2 (by omega) (by omega) (by omega);obtain⟨f,f1,f2⟩:=FF h k1.o a2 (by omega) (by rw[zzS];omega);have ws:=wV (v2 (sT<|.tup [x,y]) (sI r.length) none)<|v4 none;rw[show(i:Int)-r.length=((i-r.length:Nat):Int) by omega]at ws;have s5:=yO (p:=5) (zZ (wy _ _ _) (WD.e<|u1 _ _) (WD.e ws) a1)<|zg rfl;refine⟨f,b,zG rfl<|zc (zt t1 rfl)<|zc (zt t2 rfl)<|zc s3<|zc s4<|zc (zt t5 rfl)<|zc s5<|zz<|yA (zZ (wy _ _ _) (WD.e<|u0 _ _) (WD.e<|vA (j:=5) rfl rfl) f1)<|WD.e<|vA (j:=5) rfl rfl, ?_, ?_⟩
    . rw[List.take_append,List.take_of_length_le<|by omega];exact f2
    . rw[List.drop_append,List.drop_of_length_le (by omega),List.nil_append];exact a3
def OI(h:c.Ok)(k:OT c d R)(i:Nat)(hl:R.length<=1000)(hi:i<=R.length):∃a b,RE (xJ 20 [(true,c.w),(true,d),(true,.int i)]) (.tup [a,b])/\OT c a (R.take i)/\OT c b (R.drop i):=by
 rcases k with⟨rfl,rfl⟩|⟨p,k⟩
 . cases Nat.le_zero.mp hi;exact⟨.non,.non,zG rfl<|yi<|yz ⋯ (zz<|yA ⋯ (WD.e ⋯)),.n,.n⟩
 . exact Lc h 20 i k (k.lt hl) hl hi
theorem HF(k:Nat):∀r:List Int,(r.map D.int).all (nc Rc<|k+1)=true
 | []=>rfl
 |_::r=>HF k r
theorem Hc(k:Nat):∀T:TZ,(T.map Qi).all (nc Rc<|k+2)=true
 | []=>rfl
 |r::T=>by
  show(((r.map D.int).all _)&&(T.map Qi).all _)=_;rw[HF,Hc k T];rfl
theorem TK.nc(k:TK c d R p):∀j,p+4<=j->nc Rc j d=true:=by
 induction k with
 |lf v t _=>
  intro j hj;obtain⟨j,rfl⟩:∃i,j=i+2:=⟨j-2,⋯⟩;rfl
 | @nd w t x y r s p q R a b _ _ hw e i1 i2=>
  intro j hj;obtain⟨j,rfl⟩:∃i,j=i+4:=⟨j-4,⋯⟩;have h1:=i1 (j+3) ⋯;have h2:=i2 (j+3) ⋯;have h3:PF.nc Rc (j+3) (Jf w)=true:=by
   cases w with
   |none=>rfl
   |some T=>exact Hc j T
  show(decide _&&(true&&(true&&(PF.nc Rc _ _&&(true&&(PF.nc Rc _ x&&(PF.nc Rc _ y&&_)))))))=_;rw[h1,h2,h3];rfl
theorem OT.nc(k:OT c d R)(hl:R.length<=1000){j:Nat}(hj:24<=j):nc Rc j d=true:=by
 rcases k with⟨rfl,_⟩|⟨p,k⟩
 . obtain⟨j,rfl⟩:∃i,j=i+1:=⟨j-1,⋯⟩;rfl
 . exact k.nc j (by have:=k.lt hl;omega)
def II{x a b:Int}(h0:a<=x)(h1:x<=b):w5 [(true,.int x),(true,.int a),(true,.int b)]=sT (.bl true):=
 x6 rfl (xR<|TJ (k:=true) ⋯ (λ_=>FB ⋯ ⋯ ⋯ h0 h1) ⋯)
def Oo{x a b:Int}(h0:a<=x)(h1:x<=b):yW [(true,.int x),(true,.int a),(true,.int b)]=sT .non:=by
 have h:Yk (vX 3 [(true,.int x),(true,.int a),(true,.int b)])=some _:=zt (XQ<|uP<|WD.e<|OU (WD.e ⋯) (WD.e ⋯) (WD.e ⋯)<|II h0 h1) rfl;unfold yW xD;rw[h];rfl
def MN{f g h:EF}{x a b:Int}(wf:WE f as (.int x))(wg:WE g as (.int a))(wh:WE h as (.int b))(h0:a<=x)(h1:x<=b):yk (ze (aC f<|aC g<|aC h aN) yW) as=some (.nx as):=by
 have:=OU wf wg wh<|Oo h0 h1;unfold yk;rw[this];rfl
def Qh(h:c.Ok){k:Nat}(hk:ts[k]? = some d)(hd:OT c d R)(hl:R.length<=900){i j:Nat}(h1:i<=j)(h2:j<=R.length):∃x y z,yo [(true,Gp c ts),(true,.int k),(true,.int i),(true,.int j)]=sT (.tup [x,y,z])/\OT c x (R.take i)/\OT c y ((R.take j).drop i)/\OT c z (R.drop j):=by
 obtain⟨a,z,a1,a2,a3⟩:=OI h hd j (by omega) h2;obtain⟨x,y,b1,b2,b3⟩:=OI h a2 i (by rw[zzS];omega) (by rw[zzS];omega);have wt:WE (vR ZM "tree_at" zk we) [sT<|Gp c ts,sI k,sI i,sI j,none,none,none] d:=Be (za (i:=0) rfl) (by decide +kernel) rfl (WD.e<|za (i:=1) rfl)<|Er hk;have s4:=yO (p:=4) wt<|zg rfl;have ws:WE (ze (aC zT aN) vY) [sT<|Gp c ts,sI k,sI i,sI j,sT d,none,none] (.int R.length):=xO (WD.e<|za (i:=4) rfl)<|F7 hd;have s5:=MN (WD.e<|za (i:=2) (s:=true) (x:=.int i) rfl) (WD.e<|zb (x:=.int 0)) ws (by omega) (by omega);have s6:=MN (WD.e<|za (i:=3) (s:=true) (x:=.int j) rfl) (WD.e<|za (i:=2) (s:=true) (x:=.int i) rfl) ws (by omega) (by omega);have s7:=yO (p:=5) (as:=[sT<|Gp c ts,sI k,sI i,sI j,sT d,none,none]) (zZ (WD.e<|nO<|za (i:=0) rfl) (WD.e<|za (i:=4) rfl) (WD.e<|za (i:=3) rfl) a1)<|zg rfl;have s8:=yO (p:=6) (as:=[sT<|Gp c ts,sI k,sI i,sI j,sT d,sT<|.tup [a,z],none]) (zZ (WD.e<|nO<|za (i:=0) rfl) (WD.e<|vA (j:=5) (i:=0) rfl rfl) (WD.e<|za (i:=2) rfl) b1)<|zg rfl;rw[List.take_take,Nat.min_eq_left h1]at b2;exact⟨x,y,z,x6 rfl<|zr s4<|zr s5<|zr s6<|zr s7<|zr s8<|xR<|sQ (zF (vA (j:=6) rfl rfl)<|zF (vA (j:=6) rfl rfl)<|zF (vA (j:=5) rfl rfl) yy) (WY rfl) rfl,b2,b3,a3⟩
def ES{f:EF}{x:D}(h:WE f as x):WD (MA f) as true x:=by
 obtain⟨o,h1,h2,h3⟩:=h;unfold WD MA;rw[h1];show some (RV.ow<|.lf o.str o.toD,as)=_;rw[h2,h3]
def E4(h:c.Ok){u v w:D}{a b e:List Int}(ha:OT c u a)(hb:OT c v b)(he:OT c w e)(hl:a.length+b.length+e.length<=900):∃d,zO [(true,Gp c ts),(true,u),(true,v),(true,w)]=sT d/\OT c d (a++b++e):=by
 obtain⟨d1,p1,p2⟩:=FF h ha hb ⋯ ⋯;obtain⟨d,q1,q2⟩:=FF h p2 he (by rw[zzJ];omega) ⋯;exact⟨d,x6 rfl<|xR<|ES<|zZ (WD.e ⋯) (zZ (WD.e ⋯) (WD.e ⋯) (WD.e ⋯) p1) (WD.e ⋯) q1,q2⟩
end
section
variable{c:Cx}{ts:List D}{as:AS}{i:Nat}{d:D}{R:List Int}{k:Nat}
def Uq{m:Str}{tbl:List (Str×Fn)}{g:Fn}{fr:AF}{xs:List (Bool×D)}{o:O}(h:as[i]? = some (some<|xy c ts))(hm:m ∉ Rc)(ht:EO tbl "Makes"=some g)(b:WA fr as xs)(hg:g ((true,Gp c ts)::xs.map λx=>(zv x.2||x.1,x.2))=some o)(ho:Dx Rc o=true):wB i tbl m fr as=some (.ow o,as):=by
 unfold wB;rw[h,Rv];show(if m ∈ Rc then none else some "Makes":Option Str).bind _=_;rw[if_neg hm];show(EO tbl "Makes").bind _=_;rw[ht];rw[b];show(Pu as[i]?).bind _=_;rw[h,Rv];rw[YE];show(g _).bind _=_;rw[hg];show(if Dx Rc o=true then some _ else none)=_;rw[if_pos ho]
def uQ(h:as[0]? = some (some<|xy c ts)):WD (MB 0 yL "way") as true c.w:=by
 unfold WD MB;rw[h];exact if_pos ⋯
def OL{fr:AF}{d:D}(h:as[0]? = some (some<|xy c ts))(hr:WA fr as [(true,d)])(tl:ts.length<900):Vo (YA 0 "Makes" "keep" yC fr) as=some (.int ts.length,as.set 0<|some<|xy c<|ts++[d]):=by
 have hk:=Yw (m:="keep") h ⋯ hr (by
  show some [(zv d||true,d)]=_;rw[zyD]) (Bu tl)
 unfold Vo;rw[hk];rfl
def ki{n m:Nat}{f:VF}{xs:List wA}{ts':List D}{v:Int}{l:AS}(hn:xs.length+1=m)(hc:f (wz n (xy c ts::xs.map Fc))=some (.int v,some (xy c ts')::l)):JH n m f xs (xy c ts)=some (.int v,xy c ts'):=by
 unfold JH;rw[if_pos hn];rw[hc];show(if(xy c ts').str=true/\zv _=true then _ else _)=_;rw[if_pos ⟨Vn,rfl⟩]
def Fj{k:Nat}{d:D}(hk:ts[k]? = some d):xt [(true,Gp c ts),(true,.int k)]=sT d:=by
 have kl:=(zzG.mp hk).1;have wl:WD Dy [sT<|Gp c ts,sI k] true _:=Qt (WD.e ⋯) rfl;have w:=uP<|zZ (WD.e<|za (i:=1) rfl) (WD.e ⋯) (WD.e<|wV wl<|zb (x:=.int 1))<|RE.of<|QO ⋯ ⋯;refine x6 rfl<|zr (zt (XQ w) rfl)<|xR<|MQ (WD.e ⋯) (WD.e ⋯) ?_;have:=vU (f:=λd:D=>d) hk
 rwa [List.map_id']at this
def Th{x y z:D}{a b e:List Int}(ha:OT c x a)(hb:OT c y b)(he:OT c z e)(l1:a.length<=1000)(l2:b.length<=1000)(l3:e.length<=1000):Dx Rc (.lf true<|.tup [x,y,z])=true:=by
 show(PF.nc Rc 59 x&&(PF.nc Rc 59 y&&(PF.nc Rc 59 z&&true)))=_;rw[ha.nc l1 ⋯,hb.nc l2 ⋯,he.nc l3 ⋯];rfl
section
variable(h:c.Ok)(hk:ts[k]? = some d)(hd:OT c d R)(hl:R.length<=900){i j:Nat}(h1:i<=j)(h2:j<=R.length)(tl:ts.length<900)
include h hk hd hl h1 h2 tl
def OO{p:Str×TZ}(hp:p ∈ c.Ds):∃d',OT c d' (R.take i++c.ap (some p.2) ((R.take j).drop i)++R.drop j)/\vE [(true,.int k),(true,.int i),(true,.int j),(true,.str p.1)] (xy c ts)=some (.int ts.length,xy c<|ts++[d']):=by
 obtain⟨x,y,z,t1,ox,oy,oz⟩:=Qh h hk hd hl h1 h2;obtain⟨y',r1,oy'⟩:=sF h ⟨h.A.ds p hp,h.L.ld p hp⟩ oy;have lx:(R.take i).length<=900:=by rw[zzS];omega
 have ly:((R.take j).drop i).length<=900:=by rw[List.length_drop,zzS];omega
 have lz:(R.drop j).length<=900:=by rw[List.length_drop];omega
 obtain⟨d',g1,od⟩:=E4 (ts:=ts) h ox oy' oz (by rw[Vl,List.length_drop,zzS,zzS,List.length_drop];omega);have w1:WD C4 [some<|xy c ts,sI k,sI i,sI j,sT<|.str p.1,none,none] true (.tup [x,y,z]):=Uq (c:=c) (ts:=ts) (g:=yo) rfl (by decide +kernel) rfl (zd (za (i:=1) rfl)<|zd (za (i:=2) rfl)<|zd (za (i:=3) rfl) zo) t1 (Th ox oy oz (by omega) (by omega)<|by omega);have s1:=zE (st:=true) (i:=5) w1<|zg rfl;have wy:∀e,WD (MB 0 yL "way") [some<|xy c ts,sI k,sI i,sI j,sT<|.str p.1,sT<|.tup [x,y,z],e] true c.w:=λe=>uQ rfl;have wd:WE (vR Vi "is_deed" (MB 0 yL "way")<|aC zT aN) _ (.bl true):=Be (wy none) (by decide +kernel) rfl (WD.e<|za (i:=4) rfl)<|Ju h.A.nd hp;have ww:WE (vR Vp "wait_of" (MB 0 yL "way")<|aC zT aN) _ (vZ p.2):=Be (wy none) (by decide +kernel) rfl (WD.e<|za (i:=4) rfl)<|EA h.A.nd hp;have s3:=yO (p:=6) (zZ (WD.e<|wy none) (WD.e<|vA (j:=5) (i:=1) rfl rfl) ww r1)<|zg rfl;have w4:WD rj [some<|xy c ts,sI k,sI i,sI j,sT<|.str p.1,sT<|.tup [x,y,z],sT y'] true d':=Uq (c:=c) (ts:=ts) (g:=zO) rfl (by decide +kernel) rfl (zd (vA (j:=5) rfl rfl)<|zd (za (i:=6) rfl)<|zd (vA (j:=5) rfl rfl) zo) (by
  show zO [_,(zv x||true,x),(zv y'||true,y'),(zv z||true,z)]=_
  rwa [zyD,zyD,zyD]) (od.nc (by rw[zzJ,zzJ,Vl,List.length_drop,zzS,zzS,List.length_drop];omega)<|by omega)
 exact⟨d',od,ki (l:=_) rfl<|YH s1<|YH (zt (XQ (k:=true)<|uP wd) rfl)<|YH s3<|OL rfl (zd w4 zo) tl⟩
def Em:∃d',OT c d' (R.take i++((R.take j).drop i).reverse++R.drop j)/\xM [(true,.int k),(true,.int i),(true,.int j)] (xy c ts)=some (.int ts.length,xy c<|ts++[d']):=by
 obtain⟨x,y,z,t1,ox,oy,oz⟩:=Qh h hk hd hl h1 h2;obtain⟨y',r1,oy'⟩:=O_ h oy;have lx:(R.take i).length<=900:=by rw[zzS];omega
 have ly:((R.take j).drop i).length<=900:=by rw[List.length_drop,zzS];omega
 have lz:(R.drop j).length<=900:=by rw[List.length_drop];omega
 obtain⟨d',g1,od⟩:=E4 h ox oy' oz (by rw[List.length_reverse,List.length_drop,zzS,zzS,List.length_drop];omega);have w1:WD C4 [some<|xy c ts,sI k,sI i,sI j,none] true (.tup [x,y,z]):=Uq (g:=yo) rfl ⋯ rfl (zd (za rfl)<|zd (za rfl)<|zd (za rfl) zo) t1 (Th ox oy oz (by omega) (by omega)<|by omega);have s1:=zE (st:=true) (i:=4) w1<|zg rfl;have wy:WD _ [some<|xy c ts,sI k,sI i,sI j,sT<|.tup [x,y,z]] true c.w:=uQ rfl;have w3:=yB (WD.e wy) (WD.e<|vA (j:=4) (i:=1) rfl rfl) r1;have w4:WD nC [some<|xy c ts,sI k,sI i,sI j,sT<|.tup [x,y,z]] true d':=by
  refine Uq rfl ⋯ rfl (zd (vA rfl rfl)<|yZ w3<|zd (vA rfl rfl) zo) ?_ (od.nc (by rw[zzJ,zzJ,List.length_reverse,List.length_drop,zzS,zzS,List.length_drop];omega)<|by omega);show zO [_,(zv x||true,x),(zv y'||true,y'),(zv z||true,z)]=_
  rwa [zyD,zyD,zyD]
 exact⟨d',od,ki rfl<|YH s1<|OL rfl (zd w4 zo) tl⟩
omit h1 h2 in
theorem Nk{v:Int}(hi:i<R.length)(hv:zQ c.n v):∃d',OT c d' (R.take i++[v]++R.drop (i+1))/\xv [(true,.int k),(true,.int i),(true,.int v)] (xy c ts)=some (.int ts.length,xy c<|ts++[d']):=by
 obtain⟨x,y,z,t1,ox,oy,oz⟩:=Qh h hk hd hl (show i<=i+1 by omega) (by omega);obtain⟨y',r1,oy'⟩:=CS h (r:=[v]) (by show 1<=_;omega) (λw mw=>by rw[zzR.mp mw];exact hv) true;have lx:(R.take i).length<=900:=by rw[zzS];omega
 have ly:((R.take<|i+1).drop i).length<=900:=by rw[List.length_drop,zzS];omega
 have lz:(R.drop<|i+1).length<=900:=by rw[List.length_drop];omega
 obtain⟨d',g1,od⟩:=E4 (ts:=ts) h ox oy' oz (by rw[zzS,List.length_drop];show _+1+_<=_;omega);have w0:WD (wB 0 ZM "tree_at" we) [some<|xy c ts,sI k,sI i,sI v,none,none] true d:=Uq (c:=c) (ts:=ts) (g:=xt) rfl (by decide +kernel) rfl (zd (za (i:=1) rfl) zo) (Fj hk) (hd.nc (by omega)<|by omega);have s0:=zE (st:=true) (i:=4) w0<|zg rfl;have ws:WD (f2 (ze (aC zT aN) vY) zD yX) [some<|xy c ts,sI k,sI i,sI v,sT d,none] true (.int<|R.length-1):=wV (mD rfl<|xO (WD.e<|za (i:=4) rfl)<|F7 hd) zb;have s1:=MN (WD.e<|za (i:=2) (s:=true) (x:=.int i) rfl) (WD.e<|zb (x:=.int 0)) (WD.e ws) (by omega) (by omega);have s2:yk (wB 0 y8 "check_value" ZZ) [some<|xy c ts,sI k,sI i,sI v,sT d,none]=some (.nx [some<|xy c ts,sI k,sI i,sI v,sT d,none]):=by
  unfold yk;rw[NW (i:=0) (c:=c) (ts:=ts) (tbl:=y8) (g:=yn) (o:=.lf true .non) rfl (by decide +kernel) rfl (WD.e<|za (i:=3) rfl) (Kn hv) rfl];rfl
 have w1:WD pw [some<|xy c ts,sI k,sI i,sI v,sT d,none] true (.tup [x,y,z]):=Uq (c:=c) (ts:=ts) (g:=yo) rfl (by decide +kernel) rfl (zd (za (i:=1) rfl)<|zd (za (i:=2) rfl)<|zd (zN (za (i:=2) rfl)<|zb (x:=.int 1)) zo) t1 (Th ox oy oz (by omega) (by omega)<|by omega);have s3:=zE (st:=true) (i:=5) w1<|zg rfl;have wy:WD (MB 0 yL "way") [some<|xy c ts,sI k,sI i,sI v,sT d,sT<|.tup [x,y,z]] true c.w:=uQ rfl;have w3:=yB (g:=wY 20) (WD.e wy) (xi (os:=[GB v]) (x:=zi [v]) (zF (za (i:=3) rfl) yy) (WY rfl) rfl rfl) r1;have w4:WD nW [some<|xy c ts,sI k,sI i,sI v,sT d,sT<|.tup [x,y,z]] true d':=by
  refine Uq (c:=c) (ts:=ts) (g:=zO) rfl (by decide +kernel) rfl (zd (vA (j:=5) rfl rfl)<|yZ w3<|zd (vA (j:=5) rfl rfl) zo) ?_ (od.nc (by rw[zzJ,zzJ,zzS,List.length_drop];show _+1+_<=_;omega)<|by omega);show zO [_,(zv x||true,x),(zv y'||true,y'),(zv z||true,z)]=_;rw[zyD,zyD,zyD];exact g1
 exact⟨d',od,ki (l:=_) rfl<|YH s0<|YH s1<|YH s2<|YH s3<|OL rfl (zd w4 zo) tl⟩
end
end
def su{a b:EF}{as:AS}{s:Bool}{r:List Int}{k:Nat}(ha:WD a as s (zi r))(hb:WD b as true (.int k))(hk:k<=r.length):WE (XE a oN (oS b) Ww) as (zi<|r.take k):=by
 have c1:=CJ (xs:=(r.take k).map D.int) (ys:=(r.drop k).map D.int);rw[<-zyM,List.take_append_drop,zzB,zzS,Nat.min_eq_left hk]at c1;exact Q1 ha rfl (mf hb) c1
def E2{a b:EF}{as:AS}{s:Bool}{r:List Int}{k:Nat}(ha:WD a as s (zi r))(hb:WD b as true (.int k))(hk:k<=r.length):WE (XE a (oS b) oN Ww) as (zi<|r.drop k):=by
 have c1:=Ms (xs:=(r.take k).map D.int) (ys:=(r.drop k).map D.int);rw[<-zyM,List.take_append_drop,zzB,zzS,Nat.min_eq_left hk]at c1;exact Q1 ha (mf hb) rfl c1
def Q7{a b:EF}{as:AS}{r s:List Int}(ha:WE a as (zi r))(hb:WE b as (zi s))(hl:r.length+s.length<=1000):WE (f2 a b zp) as (zi<|r++s):=by
 have:=Ou ha hb (add_lists<|by rw[zzB,zzB];exact S7 ⋯)
 rwa [<-zyM]at this
def j_{r:Option O}{d:D}(hd:zv d=true)(h:RE r d):r=sT d:=by
 obtain⟨o,h,h1,h2⟩:=h;cases o with
 |lf s x=>subst h2;rwa [show s=true from h1]at h
 |nd k os=>subst h2;cases k<;>cases hd
abbrev Mz(rs:TZ):List O:=(rs.map zi).map<|O.lf true
def qj{as:AS}{i:Nat}{rs:TZ}{b:EF}{k:Nat}{r:List Int}(h:as[i]? = some (sN<|Mz rs))(hb:WD b as true (.int k))(hr:rs[k]? = some r):WD (f2 (fV i) b zw) as true (zi r):=
 qY h (FG _) (Xe _) hb (by rw[Vd];exact vU hr)
section
variable{c:Cx}{R:List Int}
def Oe(h:c.Ok){p:Str×TZ}(hp:p ∈ c.Ds)(hr:c.In R)(hl:R.length<=1000):RE (Y8 [(true,c.g),(true,.str p.1),(true,zi R)]) (zi<|c.ap (some p.2) R):=by
 have W:c.W p.2:=⟨h.A.ds p hp,h.L.ld p hp⟩;have m1:=h.A.m1;have w0:WE (fP (aC (f2 zk Z5 zw) aN) Pg) [sT c.g,sT<|.str p.1,sT<|zi R,none] _:=DJ h.A.nd<|WD.e ⋯;have s3:=yO (p:=3) (Nz (g:=zw) w0 (WD.e<|za (i:=1) rfl) (by
  show CL _=_;rw[Rr hp h.A.nd];rfl))<|zg rfl
 have ib:=Ys (as:=[sT c.g,sT<|.str p.1,sT<|zi R,sT<|wF p.2])<|WD.e<|za (i:=2) rfl;have wm:=Vq (cap:=[none,some 3,some 0]) (gg:=gN 0) R ib ⋯ (λv mv=>⟨_,rfl,WD.e<|zV (wW (za (i:=1) rfl) (zY ⋯ (zV (g:=zw) (za (i:=2) rfl) (zb (x:=.int 1)) rfl rfl) ⋯) (v_ W.t h.m1).1) (za (i:=0) rfl) (rowAt (v_ W.t h.m1).2<|hr v mv).1 rfl⟩);refine zG rfl<|zc s3<|zz ?_;show WE _ _ (.lst<|(R.map _).map D.int)
 rwa [zyB]
end
def iE{as:AS}{a b d:D}{i j k:Nat}(hi:i<as.length)(hj:j<as.length)(hk:k<as.length):gT 3 (yI (gN i)<|yI (gN j)<|yI (gN k) Yq) (true,.lst [a,b,d]) as=some (((as.set i<|sT a).set j<|sT b).set k<|sT d):=by
 show yI _ _ (kids true [a,b,d]) as=_;rw[Vh];show(gN i _ as).bind _=_;unfold gN;rw[if_pos hi];show((if j<(as.set i _).length then _ else _:Option AS)).bind _=_;rw[if_pos<|by rwa [zzU]];show((if k<((as.set i _).set j _).length then _ else _:Option AS)).bind _=_;rw[if_pos<|by rwa [zzU,zzU]];rfl
def Ki(x:Int)(n:Nat)(hn:n<=1000):∃i j:Nat,i<=j/\j<=n/\RE (ZC [(true,.int x),(true,.int n)]) (.tup [.int i,.int j]):=by
 have wd:=Eo (a:=fV 0) (as:=[sI x,sI n,none,none,none]) (x:=x) (sz:=[27720,27720,5]) (by decide) (by decide) (WD.e<|za (i:=0) rfl)<|Vj (yc (WD.e zb)<|yc (WD.e zb)<|yc (WD.e zb) XY) rfl;obtain⟨o,d1,d2,d3⟩:=wd;have s1:=Ed d1 (by rw[d2,d3];exact iE (i:=2) (j:=3) (k:=4) (zg rfl) (zg rfl)<|zg rfl);generalize x%27720=a at s1;generalize x/27720%27720=b at s1;generalize x/27720/27720%5=k at s1;have hm:∀y:Int,∃q:Nat,y%(n+1)=q/\q<=n:=λy=>by
  have h0:=zyN y (show(n:Int)+1≠0 by omega);have h1:=zyH y (show(0:Int)<n+1 by omega);exact⟨(y%(n+1)).toNat,by omega,by omega⟩
 obtain⟨p,ep,pn⟩:=hm a;obtain⟨q,eq,qn⟩:=hm b;have s2:=zE (st:=true) (i:=2) (zY (za (as:=[sI x,sI n,sI a,sI b,sI k]) (i:=2) (x:=.int a) (s:=true) rfl) (zN (za (i:=1) (x:=.int n) (s:=true) rfl)<|zb (x:=.int 1))<|by omega)<|zg rfl;rw[ep]at s2;have s3:=zE (st:=true) (i:=3) (zY (za (as:=[sI x,sI n,sI p,sI b,sI k]) (i:=3) (x:=.int b) (s:=true) rfl) (zN (za (i:=1) (x:=.int n) (s:=true) rfl)<|zb (x:=.int 1))<|by omega)<|zg rfl;rw[eq]at s3;have e4:∀z,WT (fT<|f2 zT (fC<|.int z)<|zC .Eq) [sI x,sI n,sI p,sI q,sI k] (k==z):=λz=>eqT (za (i:=4) rfl) zb rfl;have v1:WD zj [sI x,sI n,sI p,sI q,sI k] true (.int n):=za (i:=1) rfl;have v2:WD zB [sI x,sI n,sI p,sI q,sI k] true (.int p):=za (i:=2) rfl;have v3:WD zA [sI x,sI n,sI p,sI q,sI k] true (.int q):=za (i:=3) rfl;have t0:=e4 0;cases z0:k==0 with
 |true=>
  rw[z0]at t0;exact⟨0,n,by omega,by omega,zG rfl<|zc s1<|zc s2<|zc s3<|yi<|yz t0<|zz<|yA (WD.e zb)<|WD.e v1⟩
 |false=>
  rw[z0]at t0;have t1:=e4 1;cases z1:k==1 with
  |true=>
   rw[z1]at t1;have w:=yJ (g:=T5) (zd (zN v2<|zb (x:=.int 1))<|zd v1 zo) (by
    show some _=_;rw[show(if(n:Int)<(p:Int)+1 then(n:Int)else(p:Int)+1)=((min (p+1) n:Nat):Int) by split<;>omega]) rfl
   exact⟨p,min (p+1) n,by omega,by omega,zG rfl<|zc s1<|zc s2<|zc s3<|zc (zt t0 rfl)<|yi<|yz t1<|zz<|yA (WD.e v2)<|WD.e w⟩
  |false=>
   rw[z1]at t1;have w:=yJ (g:=T5) (zd v2<|zd v3 zo) (by
    show some _=_;rw[show(if(q:Int)<p then(q:Int)else p)=((min p q:Nat):Int) by split<;>omega]) rfl
   have w':=yJ (g:=Gg) (zd v2<|zd v3 zo) (by
    show some (R0.im<|.int<|if(q:Int) > p then(q:Int)else p)=_;rw[show(if(q:Int) > p then(q:Int)else p)=((max p q:Nat):Int) by split<;>omega]) rfl
   exact⟨min p q,max p q,by omega,by omega,zG rfl<|zc s1<|zc s2<|zc s3<|zc (zt t0 rfl)<|zc (zt t1 rfl)<|zz<|yA (WD.e w)<|WD.e w'⟩
section
variable{c:Cx}{R:List Int}
def DP(r:List Int)(x:Int):c.h (r++[x])=if r=[]then x else yG c.J (c.h r) x:=by
 cases r with
 |nil=>rfl
 |cons y t=>rw[if_neg<|by simp];show(t++_).foldl _ y=_;rw[List.foldl_append];rfl
def kZ{a b:D}(k:Bool):zw (.lst [a,b]) (.int (if k=true then 1 else 0))=some (.im (if k=true then b else a)):=by
 cases k with
 |true=>
  rfl
 |false=>
  rfl
abbrev i9:SF:=pP
def Ky(h:c.Ok)(hr:c.In R)(hl:R.length<=1000):RE (Zj [(true,c.g),(true,zi R)]) (.int<|c.h R):=by
 have s2:=yO (p:=2) (as:=[sT c.g,sT<|zi R,none,none,none]) (WD.e<|zV (g:=zw) (za (i:=0) rfl) (zb (x:=.int 3)) rfl rfl)<|zg rfl;have hi:=nG<|za (as:=[sT c.g,sT<|zi R,sI c.e,none,none]) (i:=1) rfl;obtain⟨as',hf,e3,e4,rfl⟩:=yS (f:=i9) (λi as=>∃e3 e4,as=[sT c.g,sT _,sI<|c.h<|R.take i,e3,e4]) _ 0 [sT c.g,sT _,sI c.e,none,none] (λi y as hy hI=>by
  obtain⟨e3,e4,rfl⟩:=hI;obtain⟨d,hd,rfl⟩:=QN hy;rw[zzI]at hd;obtain⟨x,hx,rfl⟩:=zzX.mp hd;rw[zyX];have lx:=(zzG.mp hx).1;have ix:=hr x<|zyA hx;have iv:zQ c.n (c.h<|R.take i):=v8 h.L.lj λv mv=>hr v<|List.mem_of_mem_take mv;refine⟨[sT c.g,sT _,sI _,sI i,sI x],jN (i:=3) (j:=4) (zg rfl)<|zg rfl, ?_⟩;have wj:=wq (as:=[sT c.g,sT<|zi R,sI<|c.h<|R.take i,sI i,sI x]) h.A.j iv ix ⋯ ⋯ (za (i:=4) rfl);have wk:WD (fP (aC (f2 zA zM<|zC .Eq) aN) VP) [sT c.g,sT<|zi R,sI<|c.h<|R.take i,sI i,sI x] true _:=Qt (WD.e ⋯) rfl;have wf:=MQ (xi (x:=.lst [.int _,.int x]) (zF wj<|zF (za (i:=4) rfl) yy) (WY rfl) rfl rfl) (WD.e wk)<|kZ _;have e1:(if((i:Int)==0)=true then D.int x else D.int<|yG c.J (c.h<|R.take i) x) = .int (c.h<|R.take<|i+1):=by
   rw[List.take_succ,hx];show _=D.int (c.h<|R.take i++[x]);rw[DP]
   by_cases z:i=0
   . subst z;rfl
   . rw[if_neg (by simpa using z),if_neg<|by intro y;have:=congrArg List.length y;rw[zzS,List.length_nil]at this;omega]
  rw[e1]at wf;exact⟨_,yO (WD.e wf)<|zg rfl,_,_,rfl⟩) ⟨none,none,rfl⟩
 rw[Q4,zzB,zyX,List.take_length]at *;exact zG rfl<|zc s2<|zc ⋯ (zz<|WD.e ⋯)
def By{n m:Nat}{J:TZ}{e:Int}{Ds:DD}{S:SS}:RE (ZX [(true,P6 n m J e Ds S)]) (.int e):=zG rfl<|zz<|WD.e ⋯
def O6{d:D}(k:OT c d R):RE (Vg [(true,c.w),(true,d)]) (.int<|c.h R):=by
 rcases k with⟨rfl,rfl⟩|⟨p,k⟩
 . exact zG rfl<|zz<|Lw ⋯ (oC ⋯ ⋯ rfl By)
 . exact zG rfl<|zz<|K3 (k.isN ⋯)<|WD.e<|k.whole ⋯
def Kq{ts:List D}{d:D}{k i j:Nat}(h:c.Ok)(hk:ts[k]? = some d)(hd:OT c d R)(hl:R.length<=900)(h1:i<=j)(h2:j<=R.length):RE (wC [(true,Gp c ts),(true,.int k),(true,.int i),(true,.int j)]) (.int<|c.h<|(R.take j).drop i):=by
 obtain⟨x,y,z,t1,ox,oy,oz⟩:=Qh h hk hd hl h1 h2;have w1:WE (vR xF "three_parts" zk _) [sT _,sI k,sI i,sI j] _:=OV (za rfl) ⋯ rfl (WD.e ⋯) (WD.e ⋯) (WD.e ⋯) ⟨_,t1,rfl,rfl⟩;exact zG rfl<|zz<|yB (WD.e ⋯) (WD.e<|MQ w1 (WD.e<|zb)<|rfl)<|O6 oy
end
def DQ(x:Int)(k:Nat)(hk:0<k):∃w:Nat,x%(k:Int)=w/\w<k:=by
 have h0:=zyN x (show(k:Int)≠0 by omega);have h1:=zyH x (show(0:Int)<k by omega);exact⟨(x%k).toNat,⋯,⋯⟩
def C8{a b:EF}{as as1:AS}{v w:Int}(ha:a as=some (.ow<|.lf true<|.int v,as1))(hb:WD b as1 true (.int w))(e:v=w):vL (fT<|ze (aC a<|aC b aN) yw) as=some (false,as1):=by
 have hr:aC a (aC b aN) as=some ([.ow<|.lf true<|.int v,.ow<|.lf true<|.int w],as1):=by
  have:=zd hb zo;show(a as).bind _=_;rw[ha];show(aC b aN as1).bind _=_;rw[this];rfl
 have h2:ze (aC a<|aC b aN) yw as=some (.ow<|.lf true<|.bl<|v==w,as1):=by
  unfold ze;rw[hr];rfl
 unfold vL fT;rw[h2,e,beq_self_eq_true];rfl
def mF{c:TF}{f g:SF}{as as1:AS}(h:c as=some (false,as1)):xg c f g as=g as1:=by
 unfold xg;rw[h];rfl
def J0{xs:List D}{x:D}:zw (.lst<|xs++[x]) (.int (-1))=some (.im x):=by
 have:L2.atI (xs++[x]) (-1)=some x:=by
  unfold L2.atI L2.ixN;rw[if_neg (by decide),zzJ,if_pos (by show -(((xs.length+1:Nat)):Int) <= -1;omega)];show _[(-1+((xs.length+1:Nat):Int)).toNat]? = _;rw[show(-1+(_:Int)).toNat=xs.length by omega,zyR<|zzN _,Nat.sub_self];rfl
 show CL _=_;rw[this];rfl
def lG{as:AS}{i:Nat}{rs:TZ}{r:List Int}(h:as[i]? = some (sN<|Mz<|rs++[r])):WD (f2 (fV i) (f1 zD LW) zw) as true (zi r):=
 qY h (FG _) (Xe _) ⋯ (by rw[Vd,zyM];exact J0)
def rQ{as:AS}{i:Nat}{rs:TZ}(h:as[i]? = some (sN<|Mz rs)):WD (fP (aC (fV i) aN) yV) as true (.int rs.length):=by
 have:=kM h
 rwa [zzB,zzB]at this
structure Ls(c:Cx)(ts:List D)(rs:TZ)(n:Nat):Prop where
 ln:ts.length=rs.length
 ot:∀(i:Nat) d r,ts[i]? = some d->rs[i]? = some r->OT c d r
 sz:∀r ∈ rs,r.length=n/\c.In r
section
variable{c:Cx}{rs:TZ}{n:Nat}
def Ls.snoc{ts:List D}{d:D}{r:List Int}(h:Ls c ts rs n)(hd:OT c d r)(h1:r.length=n)(h2:c.In r):Ls c (ts++[d]) (rs++[r]) n:=by
 refine⟨by rw[zzJ,zzJ,h.ln];rfl,λi e q he hq=>?_,λq mq=>?_⟩
 . rcases Nat.lt_or_ge i ts.length with hi|hi
   . rw[zyP hi]at he;rw[zyP<|by have:=h.ln;omega]at hq;exact h.ot i e q he hq
   . rw[zyR hi]at he;rw[zyR (by have:=h.ln;omega),<-h.ln]at hq;cases hk:i-ts.length with
     |zero=>
      rw[hk]at he hq;cases he;cases hq;exact hd
     |succ k=>
      rw[hk]at he;cases he
 . rcases zzM.mp mq with m|m
   . exact h.sz q m
   . rw[zzR.mp m];exact⟨h1,h2⟩
def qO{a b:EF}{as:AS}{k:Nat}{p:Str×TZ}(ha:WD a as true c.g)(hb:WD b as true (.int k))(hp:c.Ds[k]? = some p):WD (f2 (f2 a Z5 zw) b zw) as true (Xy p):=wW (wW ha zb rfl) hb<|vU hp
def rS{a:EF}{as:AS}(ha:WD a as true c.g):WD (fP (aC (f2 a Z5 zw) aN) yV) as true (.int (c.Ds.length:Nat)):=by
 have:=yJ (g:=yV) (zd (wW (g:=zw) ha (zb (x:=.int 4)) rfl) zo) rfl rfl
 rwa [zzB]at this
def Ls.get{ts:List D}(h:Ls c ts rs n){k:Nat}(hk:k<rs.length):∃d r,ts[k]? = some d/\rs[k]? = some r/\OT c d r/\r.length=n/\c.In r:=by
 have h1:=zzE hk;have h2:=zzE (show k<ts.length by have:=h.ln;omega);exact⟨_,_,h2,h1,h.ot _ _ _ h2 h1,h.sz _<|zyA h1⟩
def oB{as:AS}{i k x y z:Nat}{a b:Nat}{R:List Int}{p:Str×TZ}(h:c.Ok)(hp:p ∈ c.Ds)(hr:c.In R)(hl:R.length<=60)(h1:a<=b)(h2:b<=R.length)(e1:as[i]? = some (sT c.g))(e2:as[k]? = some (sT<|zi R))(e3:as[x]? = some (sI a))(e4:as[y]? = some (sI b))(e5:as[z]? = some (sT<|.str p.1)):WD (MA<|f2 (f2 (XE (fV k) oN (oS<|fV x) Ww) (ze (aC (fV i)<|aC (fV z)<|aC (XE (fV k) (oS<|fV x) (oS<|fV y) Ww) aN) Y8) zp) (XE (fV k) (oS<|fV y) oN Ww) zp) as true (zi<|R.take a++c.ap (some p.2) ((R.take b).drop a)++R.drop b):=by
 have v3:=za e2;refine ES<|Q7 (Q7 (su v3 ⋯ ⋯) (zZ ⋯ ⋯ (HV v3 ⋯ ⋯ h1 h2) (Oe h hp (λv mv=>hr v<|List.mem_of_mem_take<|List.mem_of_mem_drop mv) ?_)) ?_) (E2 v3 ⋯ h2) ?_
 . rw[List.length_drop,zzS];omega
 . rw[Vl,List.length_drop,zzS,zzS];omega
 . rw[zzJ,Vl,List.length_drop,zzS,zzS,List.length_drop];omega
def oR{a b:Nat}{R:List Int}{T:TZ}(h1:a<=b)(h2:b<=R.length):(R.take a++c.ap (some T) ((R.take b).drop a)++R.drop b).length=R.length:=by
 rw[zzJ,zzJ,Vl,List.length_drop,zzS,zzS,List.length_drop];omega
def La{as:AS}{i:Nat}{rs:TZ}{f:EF}{r:List Int}(h:as[i]? = some (sN<|Mz rs))(hl:rs.length<900)(hf:WD f as true (zi r)):yk (Zn i (dC f dN) ZD) as=some (.nx<|as.set i<|sN<|Mz<|rs++[r]):=by
 refine(uv h (by rw[zzB,zzB];exact slt ⋯) hf).trans ?_;show _=some (Out.nx<|as.set i<|sN<|((rs++_).map zi).map _);rw[zyM,zyM];rfl
def Ac{as:AS}{i k:Nat}{rs:TZ}(h:as[i]? = some (sN<|Mz rs))(e:rs.length=k+1):WD (f2 (fP (aC (fV i) aN) yV) zD yX) as true (.int k):=by
 have w:=wV (rQ h)<|zb (x:=.int 1)
 rwa [show(rs.length:Int)-1=k by omega]at w
def qz{f:EF}{as:AS}{r:List Int}(h:WE f as (zi r)):WE (XE f oN (oS<|f1 zD LW) s_) as (zi r.reverse):=by
 refine F6 h rfl ⋯ ?_;show(if(none:Option Int)=none/\some (-1:Int)=some (-1)then some _ else none)=_;rw[if_pos ⋯,List.map_reverse]
def qc{ta:TF}{f g:VF}{as:AS}{x:Option (D×AS)}(h:WT ta as true)(k:f as=x):tK ta f g as=x:=by
 unfold tK
 rwa [h]
def Dz{ta:TF}{f g:VF}{as:AS}{x:Option (D×AS)}(h:WT ta as false)(k:g as=x):tK ta f g as=x:=by
 unfold tK
 rwa [h]
def HU{f:EF}{as as1:AS}{v:Int}(h:f as=some (.ow<|.lf true<|.int v,as1)):Vo f as=some (.int v,as1):=by
 unfold Vo;rw[h];rfl
abbrev V9(c:Cx)(ts:List D)(rs:TZ)(x:Int)(e4 e5 e6 e7 e8:Option O):AS:=[sT c.g,some<|xy c ts,sN<|Mz rs,sI x,e4,e5,e6,e7,e8]
def JZ(g:c.Gd){ts:List D}{x:Int}(h:Ls c ts rs n)(hn:n<=60)(h1:1<=rs.length)(h2:rs.length<=200):∃d r,Ls c (ts++[d]) (rs++[r]) n/\xQ [(true,c.g),(true,.int x)] (xy c ts) (.nd .ls<|Mz rs)=some (.int ts.length,xy c<|ts++[d],.nd .ls<|Mz<|rs++[r]):=by
 obtain⟨rs0,R,rfl⟩:∃l r,rs=l++[r]:=⟨rs.dropLast,rs.getLast (by intro z;rw[z]at h1;simp at h1),(List.dropLast_concat_getLast _).symm⟩;have ln:=h.ln;rw[zzJ]at ln h1 h2;have ln:ts.length=rs0.length+1:=ln;have h2:rs0.length+1<=200:=h2;obtain⟨d,R',g1,g2,g3,g4,g5⟩:=h.get (k:=rs0.length) (by rw[zzJ];show _<_+1;omega);rw[zyR<|zzN _,Nat.sub_self]at g2;cases g2;have m1:=g.ok.A.n1;have s4:=zE (st:=true) (i:=4) (lG (as:=V9 c ts (rs0++[R]) x none none none none none) (i:=2) (rs:=rs0) rfl)<|zg rfl;have s5:=zE (st:=true) (i:=5) (Ac (as:=V9 c ts (rs0++[R]) x (sT<|zi R) none none none none) (i:=2) (k:=rs0.length) (rs:=rs0++[R]) rfl<|by rw[zzJ];rfl)<|zg rfl;obtain⟨i,j,b1,b2,pl⟩:=Ki (x/1000) R.length (by omega);have wl:WD (fP (aC zT aN) yV) (V9 c ts (rs0++[R]) x (sT<|zi R) (sI rs0.length) none none none) true (.int R.length):=Fe<|WD.e<|za (i:=4) (x:=zi R) rfl;have s6:=pC (i:=6) (j:=7) (yB (WD.e<|xl (za (as:=V9 c ts (rs0++[R]) x (sT<|zi R) (sI rs0.length) none none none) (i:=3) (x:=.int x) (s:=true) rfl) (zb (x:=.int 1000)) (by decide)<|zK (by decide)<|by decide) (WD.e wl) pl) (zg rfl)<|zg rfl;obtain⟨w,ew,hw⟩:=DQ (x/7) c.Ds.length g.dd;obtain⟨p,hp⟩:∃p,c.Ds[w]? = some p:=⟨_,zzE hw⟩;have hp':=zyA hp;have v0:WD zk (V9 c ts (rs0++[R]) x (sT<|zi R) (sI rs0.length) (sI i) (sI j) none) true c.g:=za (i:=0) rfl;have w8:=zY (xl (za (as:=V9 c ts (rs0++[R]) x (sT<|zi R) (sI rs0.length) (sI i) (sI j) none) (i:=3) (x:=.int x) (s:=true) rfl) (zb (x:=.int 7)) (by decide)<|zK (by decide)<|by decide) (rS v0) (by have:=g.dd;omega);rw[ew]at w8;have s8:=zE (st:=true) (i:=8) (wW (g:=zw) (z:=.str p.1) (qO v0 w8 hp) (zb (x:=.int 0)) rfl)<|zg rfl;have v3:∀ts rs,WD zA (V9 c ts rs x (sT<|zi R) (sI rs0.length) (sI i) (sI j)<|sT<|.str p.1) true (.int x):=λ_ _=>za (i:=3) rfl;have v4:∀ts rs,WD zT (V9 c ts rs x (sT<|zi R) (sI rs0.length) (sI i) (sI j)<|sT<|.str p.1) true (zi R):=λ_ _=>za (i:=4) rfl;have v6:∀ts rs,WD xj (V9 c ts rs x (sT<|zi R) (sI rs0.length) (sI i) (sI j)<|sT<|.str p.1) true (.int i):=λ_ _=>za (i:=6) rfl;have v7:∀ts rs,WD YN (V9 c ts rs x (sT<|zi R) (sI rs0.length) (sI i) (sI j)<|sT<|.str p.1) true (.int j):=λ_ _=>za (i:=7) rfl;have t0:∀z:Int,WT (fT<|f2 (f2 zA ZY zJ) (fC<|.int z)<|zC .Eq) (V9 c ts (rs0++[R]) x (sT<|zi R) (sI rs0.length) (sI i) (sI j)<|sT<|.str p.1) (x%3==z):=λz=>eqT (zY (v3 _ _) (zb (x:=.int 3))<|by decide) zb rfl;have fin:∀{d':D}{Q:List Int}{rest:VF},OT c d' Q->Q.length=R.length->rest (V9 c ts (rs0++[R]) x (sT<|zi R) (sI rs0.length) (sI i) (sI j)<|sT<|.str p.1)=some (.int ts.length,V9 c (ts++[d']) (rs0++[R]++[Q]) x (sT<|zi R) (sI rs0.length) (sI i) (sI j)<|sT<|.str p.1)->Y0=(Zi (zm true 4<|f2 zB (f1 zD LW) zw)<|Zi (zm true 5<|f2 (fP w6 yV) zD yX)<|Zi rG<|Zi rE rest)->∃d r,Ls c (ts++[d]) (rs0++[R]++[r]) n/\xQ [(true,c.g),(true,.int x)] (xy c ts) (.nd .ls<|Mz<|rs0++[R])=some (.int ts.length,xy c<|ts++[d],.nd .ls<|Mz<|rs0++[R]++[r]):=λ{d' Q rest} od lq hr he=>by
  refine⟨d',Q,h.snoc od (by omega)<|od.in g.ok, ?_⟩;unfold xQ kX;rw[if_pos<|by exact⟨rfl,by show 1<=2;omega⟩];show(Y0<|V9 c ts (rs0++[R]) x none none none none none).bind _=_;rw[he,YH s4<|YH s5<|YH s6<|YH s8 hr];show(if(xy c<|ts++[d']).str=true/\(O.nd .ls<|Mz<|rs0++[R]++[Q]).str=true/\zv (.int ts.length)=true then _ else _)=_;rw[if_pos ⟨Vn,Xe _,rfl⟩]
 have tl:ts.length<900:=by omega
 have wk:∀ts rs,WD yN (V9 c ts rs x (sT<|zi R) (sI rs0.length) (sI i) (sI j)<|sT<|.str p.1) true (.int rs0.length):=λ_ _=>za (i:=5) rfl;have w8':∀ts rs,WD (fV 8) (V9 c ts rs x (sT<|zi R) (sI rs0.length) (sI i) (sI j)<|sT<|.str p.1) true (.str p.1):=λ_ _=>za (i:=8) rfl;have rl:(rs0++[R]).length<900:=by rw[zzJ];show rs0.length+1<900;omega
 have t1:=t0 0;cases z0:x%3==0 with
 |true=>
  rw[z0]at t1;obtain⟨d',od,md⟩:=OO g.ok g1 g3 (by omega) b1 (by omega) tl hp';have sa:=La (i:=2) (rs:=rs0++[R]) rfl rl<|oB (as:=V9 c ts (rs0++[R]) x (sT<|zi R) (sI rs0.length) (sI i) (sI j)<|sT<|.str p.1) (i:=0) (k:=4) (x:=6) (y:=7) (z:=8) g.ok hp' g5 (by omega) b1 b2 rfl rfl rfl rfl rfl;exact fin od (oR b1 b2) (qc t1<|YH sa<|HU<|Yw (i:=1) (c:=c) (ts:=ts) (m:="done") (g:=vE) rfl (by decide +kernel) (zd (wk _ _)<|zd (v6 _ _)<|zd (v7 _ _)<|zd (w8' _ _) zo) rfl md) rfl
 |false=>
  rw[z0]at t1;have t2:WT oF (V9 c ts (rs0++[R]) x (sT<|zi R) (sI rs0.length) (sI i) (sI j)<|sT<|.str p.1) (x%3==1||(i:Int)==R.length):=by
   refine Hl (t0 1) (λz=>?_) λz=>by rw[z];rfl
   rw[z];exact eqT (v6 _ _) (Fe<|WD.e<|v4 _ _) rfl
  cases z1:(x%3==1||(i:Int)==R.length)with
  |true=>
   rw[z1]at t2;obtain⟨d',od,md⟩:=Em g.ok g1 g3 (by omega) b1 (by omega) tl;have sa:=La (i:=2) (rs:=rs0++[R]) (f:=MA qd) (r:=R.take i++((R.take j).drop i).reverse++R.drop j) rfl rl (ES<|Q7 (Q7 (su (v4 _ _) (v6 _ _)<|by omega) (qz<|HV (v4 ts<|rs0++[R]) (v6 _ _) (v7 _ _) b1 b2)<|by rw[List.length_reverse,List.length_drop,zzS,zzS];omega) (E2 (v4 _ _) (v7 _ _) b2)<|by rw[zzJ,List.length_reverse,List.length_drop,zzS,zzS,List.length_drop];omega);exact fin od (by rw[zzJ,zzJ,List.length_reverse,List.length_drop,zzS,zzS,List.length_drop];omega) (Dz t1<|qc t2<|YH sa<|HU<|Yw (i:=1) (c:=c) (ts:=ts) (m:="turned") (g:=xM) rfl (by decide +kernel) (zd (wk _ _)<|zd (v6 _ _)<|zd (v7 _ _) zo) rfl md) rfl
  |false=>
   rw[z1]at t2;have hi:i<R.length:=by
    have:=(Bool.or_eq_false_iff.mp z1).2;have:(i:Int)≠R.length:=by simpa using this
    omega
   have n8:=g.ok.A.n8;have wv:=λts rs=>zY (xl (v3 ts rs) (zb (x:=.int 5)) (by decide)<|zK (by decide)<|by decide) (zV (g:=zw) (z:=.int c.n) (za (i:=0) (x:=c.g) (s:=true) rfl) (zb (x:=.int 0)) rfl rfl) (by omega);obtain⟨d',od,md⟩:=Nk (v:=x/5%c.n) g.ok g1 g3 (by omega) tl hi (Wf<|by omega);have wi:WD (f2 xj zD zp) (V9 c ts (rs0++[R]) x (sT<|zi R) (sI rs0.length) (sI i) (sI j)<|sT<|.str p.1) true (.int (i+1:Nat)):=zN (v6 _ _)<|zb (x:=.int 1);have wL:WE (ya<|dC (MA uW) dN) (V9 c ts (rs0++[R]) x (sT<|zi R) (sI rs0.length) (sI i) (sI j)<|sT<|.str p.1) (zi [x/5%c.n]):=xi (os:=[GB<|x/5%c.n]) (zF (ES<|WD.e<|wv _ _) yy) (WY rfl) rfl rfl;have sa:=La (i:=2) (rs:=rs0++[R]) (r:=R.take i++[x/5%c.n]++R.drop (i+1)) rfl rl<|ES<|Q7 (Q7 (su (v4 ts<|rs0++[R]) (v6 _ _)<|by omega) wL (by rw[zzS];show _+1<=_;omega)) (E2 (v4 _ _) wi<|by omega) (by rw[zzJ,zzS,List.length_drop];show _+1+_<=_;omega);exact fin od (by rw[zzJ,zzJ,zzS,List.length_drop];show _+1+_=_;omega) (Dz t1<|Dz t2<|YH sa<|HU<|Yw (i:=1) (c:=c) (ts:=ts) (m:="changed") (g:=xv) rfl (by decide +kernel) (zd (wk _ _)<|zd (v6 _ _)<|zd (wv _ _) zo) rfl md) rfl
end
section
variable{c:Cx}{rs:TZ}{n:Nat}{ts:List D}
abbrev A8(c:Cx)(ts:List D)(rs:TZ)(x:Int)(e4 e5 e6 e7:Option O):AS:=[sT c.g,sT<|Gp c ts,sT<|.lst<|rs.map zi,sI x,e4,e5,e6,e7]
abbrev iH:SF:=(zh pU
 (zh pe
 ql))
def FC(g:c.Gd)(h:Ls c ts rs n)(hn:n<=60){x:Int}{k:Nat}(hk:k<rs.length){e5 e6 e7:Option O}:∃y5 y6 y7,iH (A8 c ts rs x (sI k) e5 e6 e7)=some (.nx<|A8 c ts rs x (sI k) y5 y6 y7):=by
 obtain⟨d,R,g1,g2,g3,g4,g5⟩:=h.get hk;have wr:∀a b e,WD (f2 zB zT zw) (A8 c ts rs x (sI k) a b e) true (zi R):=λa b e=>wW (za rfl) (za (i:=4) rfl)<|vU g2;obtain⟨i,j,b1,b2,pl⟩:=Ki (x/100000) R.length (by omega);have s1:=pC (i:=5) (j:=6) (yB (WD.e<|xl (za (as:=A8 c ts rs x (sI k) e5 e6 e7) (i:=3) rfl) (zb) (by decide) ⋯) (WD.e<|Fe<|WD.e<|wr _ _ _) pl) (zg rfl)<|zg rfl;have s2:=yO (p:=7) (as:=A8 c ts rs x (sI k) (sI i) (sI j) e7) (OV (tbl:=ZL) (m:="asked") (g:=wC) (za (i:=1) rfl) (by decide +kernel) rfl (WD.e<|za (i:=4) rfl) (WD.e<|za (i:=5) rfl) (WD.e<|za (i:=6) rfl)<|Kq g.ok g1 g3 (by omega) b1 b2)<|zg rfl;have wc:=yB (WD.e<|za (as:=A8 c ts rs x (sI k) (sI i) (sI j)<|sI<|c.h<|(R.take j).drop i) (i:=0) rfl) (HV (wr _ _ _) (za (i:=5) rfl) (za (i:=6) rfl) b1 b2) (Ky g.ok (λv mv=>g5 v<|List.mem_of_mem_take<|List.mem_of_mem_drop mv)<|by rw[List.length_drop,zzS];omega);have s3:=mF (f:=zx<|fC<|.bl false) (g:=yT)<|C8 (za (i:=7) rfl) (mD rfl wc) rfl;exact⟨_,_,_,zr s1<|zr s2 s3⟩
def ny(g:c.Gd)(h:Ls c ts rs n)(hn:n<=60)(h1:1<=rs.length){x:Int}:yR [(true,c.g),(true,Gp c ts),(true,.lst<|rs.map zi),(true,.int x)]=sT (.bl true):=by
 have wl:WD (fP w6 yV) (A8 c ts rs x none none none none) true (.int rs.length):=Qt (WD.e<|za (i:=2) rfl) (by show some _=_;rw[zzB]);obtain⟨w,ew,hw⟩:=DQ (x/11) rs.length h1;have w1:WD (f2 (fP w6 yV) zD yX) (A8 c ts rs x none none none none) true (.int (rs.length-1:Nat)):=by
  have:=wV wl<|zb (x:=.int 1)
  rwa [show(rs.length:Int)-1=((rs.length-1:Nat):Int) by omega]at this
 have w2:=zY (xl (za (i:=3) rfl) (zb (x:=.int 11)) (by decide) ⋯) wl (by omega);rw[ew]at w2;have hi:=Ep<|xi (zF w1<|zF w2 yy) (WY rfl) rfl rfl;obtain⟨y5,y6,y7,b1⟩:=FC g h hn (x:=x) (k:=rs.length-1) (by omega);obtain⟨z5,z6,z7,b2⟩:=FC g h hn (x:=x) (k:=w) hw (e7:=y7);exact x6 rfl<|zr (yr hi<|vT rfl b1<|vT rfl b2 rfl)<|xR zb
def pz{as:AS}{f:EF}{z:D}{s:Bool}(hf:WD f (um as) s z)(fl:zv z=true):WD (QU f) as true z:=by
 unfold WD at ⊢;unfold QU;rw[hf];show((if zv z=true then some z else none:Option D).bind _)=_;rw[if_pos fl];rfl
def uH:(xy c ts).frz = .lf true (Gp c ts):=by
 show O.lf (xy c ts).str (xy c ts).toD=_;rw[Vn];show O.lf true (.ob "Makes" Rc [c.w,.lst _])=_;rw[Vd]
def uE:(O.nd .ls<|Mz rs).frz = .lf true (.lst<|rs.map zi):=by
 show O.lf (O.strs _) (.lst _)=_;rw[Xe,Vd]
end
section
variable{c:Cx}{rs:TZ}{n:Nat}{ts:List D}{ns:List Int}
abbrev L9(ns:List Int)(c:Cx)(ts:List D)(rs:TZ)(e4 e5 e6 e7 e8:Option O):AS:=[sT<|zi ns,sT c.g,some<|xy c ts,sN<|Mz rs,e4,e5,e6,e7,e8]
def jC{e4 e5 e6 e7 e8:Option O}:um (L9 ns c ts rs e4 e5 e6 e7 e8)=[sT<|zi ns,sT c.g,sT<|Gp c ts,sT<|.lst<|rs.map zi,e4.map O.frz,e5.map O.frz,e6.map O.frz,e7.map O.frz,e8.map O.frz]:=by
 show[_,_,some (xy c ts).frz,some (O.nd .ls _).frz,_,_,_,_,_]=_;rw[uH,uE];rfl
def HQ(g:c.Gd)(h:Ls c ts rs n)(hn:n<=60)(h1:1<=rs.length){x:Int}{e4 e5 e6 e7 e8:Option O}{f:EF}(hf:WD f (um<|L9 ns c ts rs e4 e5 e6 e7 e8) true (.int x)):WT (vL<|fT<|QU<|ze (aC zj<|aC zB<|aC zA<|aC f aN) yR) (L9 ns c ts rs e4 e5 e6 e7 e8) false:=by
 rw[jC]at hf;refine XQ<|xG (pz (z:=.bl true) (s:=true) ?_ rfl) rfl;rw[jC];refine RJ (zd ⋯ (zd ⋯ (zd ⋯ (zd hf zo)))) ?_;exact ny g h hn h1
def BM{x:Int}{e4 e6 e7 e8:Option O}{v:Int}{ts':List D}{rs':TZ}(hs:xQ [(true,c.g),(true,.int x)] (xy c ts) (.nd .ls<|Mz rs)=some (.int v,xy c ts',.nd .ls<|Mz rs')):Pn 1 2 3 (aC zj<|aC zB<|aC zA BE) xQ (L9 ns c ts rs e4 (sI x) e6 e7 e8)=some (.ow<|.lf true<|.int v,L9 ns c ts' rs' e4 (sI x) e6 e7 e8):=by
 have hr:(aC zj<|aC zB<|aC zA BE) (L9 ns c ts rs e4 (sI x) e6 e7 e8)=some _:=rfl;unfold Pn;show((xQ [(true,c.g),(true,.int x)] _ _).bind _)=_;rw[hs];show(if zv _=true/\(xy c ts').str=true/\(O.nd .ls _).str=true/\2≠3 then _ else _)=_;rw[if_pos ⟨rfl,Vn,Xe _,by decide⟩];rfl
abbrev jx:SF:=(zh (zm true 5<|ze (aC zk<|aC zT aN) ye)
 (zh oK
 (xg sD (zx<|fC<|.bl false) yT)))
def Jb(g:c.Gd)(h:Ls c ts rs n)(hn:n<=60)(h1:1<=rs.length)(h2:rs.length<=200){k:Nat}(hk:k<=100){e5:Option O}:∃d r y5,Ls c (ts++[d]) (rs++[r]) n/\jx (L9 ns c ts rs (sI k) e5 none none none)=some (.nx<|L9 ns c (ts++[d]) (rs++[r]) (sI k) y5 none none none):=by
 obtain⟨x,_,wx⟩:=WU ns hk;obtain⟨d,r,hL,hs⟩:=JZ g h hn h1 h2;have s5:=zE (st:=true) (i:=5) (wx (L9 ns c ts rs (sI k) e5 none none none) _ rfl ⋯)<|zg rfl;have wl:WD _ (L9 ns c (ts++[d]) (rs++[r]) (sI k) (sI x) none none none) true (.int ts.length):=Ac (i:=3) rfl (by rw[zzJ,h.ln];rfl);have s6:=mF (f:=zx<|fC<|.bl false) (g:=yT)<|C8 (BM hs) wl rfl;have s7:xg sD (zx<|fC<|.bl false) yT (L9 ns c _ _ (sI k) (sI x) none none none)=some _:=zt (HQ g hL hn (by rw[zzJ];omega) ⋯) rfl;exact⟨d,r,sI x,hL,zr s5<|zr s6 s7⟩
end
def ui{c:Cx}{as:AS}{ts:List D}{d:D}{R:List Int}{i j:Nat}{a b e:EF}(g:c.Gd)(e2:as[2]? = some (some<|xy c ts))(hk:ts[0]? = some d)(hd:OT c d R)(hl:R.length<=900)(ha:WD a as true (.int (0:Nat)))(hb:WD b as true (.int i))(he:WD e as true (.int j))(h1:i<=j)(h2:j<=R.length):WD (MA<|wB 2 ZL "asked" (aC a<|aC b<|aC e aN)) as true (.int<|c.h<|(R.take j).drop i):=
 ES ⟨_,Uq (g:=wC) e2 ⋯ rfl (zd ha<|zd hb<|zd he zo) (j_ rfl<|Kq g.ok hk hd hl h1 h2) rfl,rfl,rfl⟩
def orM{f g:TF}{as as1:AS}(a:f as=some (false,as1))(b:g as1=some (false,as1)):P0 f g as=some (false,as1):=by
 unfold P0
 rwa [a]
def S3(ns:List Int)(hns:ns.length<=63):GY [(true,.lst<|ns.map .int)]=sT (.bl true):=by
 obtain⟨c,g,ra⟩:=uS ns;have wm:∀(as:AS) (i:Nat),as[i]? = some (sT c.g)->ze (aC (ze (aC (ze (aC (fV i) aN) YZ) aN)<|xp "Ways") aN) (y2 "Makes") as=some (.ow<|xy c [],as):=λas i h=>Ze (yZ (xO (xO (WD.e<|za h)<|Ap g)<|IL (S:=c.S) g.ok.A g.ok.L g.sl g.sn) zo) (by
  show y2 "Makes" [(zv c.w||true,c.w)]=_;rw[zyD];exact Je)
 have s1:(zm true 1<|ze w9 Wz) [sT<|zi ns,none,none,none,none,none,none,none,none]=some (.nx [sT<|zi ns,sT c.g,none,none,none,none,none,none,none]):=yO (p:=1) (xO (WD.e<|za (i:=0) rfl) ra)<|zg rfl;have s2:=vC (i:=2) (wm [sT<|zi ns,sT c.g,none,none,none,none,none,none,none] 1 rfl)<|zg rfl;obtain⟨x3,x30,w3⟩:=WU ns (k:=13) (by decide);obtain⟨r,r1,r2,rr⟩:=Jc (x:=x3) g.ok.A.n1 g.ok.A.n8;have s3:=vC (i:=3) (Y7 (zF (ES<|zZ (WD.e<|w3 [sT<|zi ns,sT c.g,some<|xy c [],none,none,none,none,none,none] _ rfl<|zb (x:=.int 13)) (WD.e<|zV (g:=zw) (z:=.int c.n) (za (i:=1) (x:=c.g) (s:=true) rfl) (zb (x:=.int 0)) rfl rfl) (WD.e<|zb (x:=.int 11)) rr) yy)<|WY rfl)<|zg rfl;obtain⟨d,o1,m1⟩:=HJ (s:=true) (ts:=[]) (r:=r) g.ok (by omega) r2 (by decide);have h0:Ls c [d] [r] r.length:=⟨rfl,(λi e q he hq=>by
  cases i with
  |zero=>cases he;cases hq;exact o1
  |succ i=>cases he),(λq mq=>by rw[zzR.mp mq];exact⟨rfl,r2⟩)⟩
 have q1:=Yw (as:=L9 ns c [] [r] none none none none none) (i:=2) (c:=c) (m:="made") (g:=xT) rfl (by decide +kernel) (yZ (Eh<|qj (i:=3) (k:=0) (rs:=[r]) rfl (zb (x:=.int (0:Nat))) rfl) zo) rfl m1;have s4:=mF (f:=zx<|fC<|.bl false) (g:=yT) (as1:=L9 ns c [d] [r] none none none none none) (c:=P0 rT nI) (as:=L9 ns c [] [r] none none none none none) (by
  have a:=C8 q1 (zb (x:=.int 0)) rfl;have b:=HQ (ns:=ns) (e4:=none) (e5:=none) (e6:=none) (e7:=none) (e8:=none) g h0 (by omega) (zzN 1)<|zb (x:=.int 0);unfold WT at b;exact orM a b)
 obtain⟨k,k9,hr⟩:∃k:Nat,k<=49/\yt o6 Ah (L9 ns c [d] [r] none none none none none)=some (yU 14 k,L9 ns c [d] [r] none none none none none):=by
  have w1:=Fe<|WD.e<|za (as:=L9 ns c [d] [r] none none none none none) (i:=0) (x:=zi ns) rfl;have w2:=yJ (g:=T5) (zd w1<|zd (zb (x:=.int 63)) zo) rfl rfl;have w3:=yJ (g:=Gg) (zd (zb (x:=.int 22))<|zd w2 zo) rfl rfl;generalize hm:(if(if(63:Int)<ns.length then(63:Int)else ns.length) > 22 then(if(63:Int)<ns.length then(63:Int)else ns.length)else 22)=M at w3;have m0:22<=M/\M<=63:=by
   rw[<-hm]
   split<;>split<;>omega
  have:=Cg (zd (zb (x:=.int 14))<|zd w3 zo) (by omega) (by omega) (by omega) (by omega);exact⟨(M-14).toNat,by omega,this⟩
 obtain⟨as',hA,ts,rs,y4,y5,rfl,hL,hK,h00,h01⟩:=yS (g:=gN 4) (f:=jx) (λi as=>∃(ts:List D) (rs:TZ) (y4 y5:Option O),as=L9 ns c ts rs y4 y5 none none none/\Ls c ts rs r.length/\rs.length=i+1/\ts[0]? = some d/\rs[0]? = some r) (yU 14 k) 0 (L9 ns c [d] [r] none none none none none) (λi y as hy hI=>by
  obtain⟨ts,rs,y4,y5,rfl,hL,hK,h00,h01⟩:=hI;obtain⟨rfl,hi⟩:=xu hy;obtain⟨d',r',z5,hL',hb⟩:=Jb (ns:=ns) g hL (by omega) (by omega) (by omega) (k:=14+i) (by omega) (e5:=y5);refine⟨_,rfl,_,hb,_,_,_,_,rfl,hL',by rw[zzJ,hK];show _+1=_;omega, ?_, ?_⟩
  . rw[zyP<|by have:=hL.ln;omega];exact h00
  . rw[zyP<|by omega];exact h01) ⟨_,_,none,none,rfl,h0,rfl,rfl,rfl⟩
 have s5:=yr hr hA;have w0:∀e6 e7 e8,WD (f2 zA zM zw) (L9 ns c ts rs y4 y5 e6 e7 e8) true (zi r):=λ_ _ _=>qj (i:=3) (k:=0) (rs:=rs) rfl (zb (x:=.int (0:Nat))) h01;have s6:=zE (st:=true) (i:=6) (Fe<|WD.e<|w0 none none none)<|zg rfl;obtain⟨q,eq,hq⟩:=DQ (x3/3) (r.length+1) (by omega);have s7:zm true 7 qu (L9 ns c ts rs y4 y5 (sI r.length) none none)=some (.nx<|L9 ns c ts rs y4 y5 (sI r.length) (sI q) none):=by
  have w:=zY (xl (w3 (L9 ns c ts rs y4 y5 (sI r.length) none none) _ rfl<|zb (x:=.int 13)) (zb (x:=.int 3)) (by decide)<|zK (by decide)<|by decide) (zN (za (i:=6) (x:=.int r.length) (s:=true) rfl)<|zb (x:=.int 1)) (by omega);rw[show x3/3%((r.length:Int)+1)=q from eq]at w;exact zE (st:=true) (i:=7) w<|zg rfl
 have a0:∀e8,WD zM (L9 ns c ts rs y4 y5 (sI r.length) (sI q) e8) true (.int (0:Nat)):=λ_=>zb;have v6:∀e8,WD xj (L9 ns c ts rs y4 y5 (sI r.length) (sI q) e8) true (.int r.length):=λ_=>za (i:=6) rfl;have v7:∀e8,WD YN (L9 ns c ts rs y4 y5 (sI r.length) (sI q) e8) true (.int q):=λ_=>za (i:=7) rfl;have p1:=ui (as:=L9 ns c ts rs y4 y5 (sI r.length) (sI q) none) g rfl h00 o1 (by omega) (a0 _) (a0 _) (v7 _) (by omega) (by omega);have p2:=ui (as:=L9 ns c ts rs y4 y5 (sI r.length) (sI q) none) g rfl h00 o1 (by omega) (a0 _) (v7 _) (v6 _) (by omega) (by omega);have p3:=ui (as:=L9 ns c ts rs y4 y5 (sI r.length) (sI q) none) g rfl h00 o1 (by omega) (a0 _) (a0 _) (v6 _) (by omega) (by omega);rw[List.drop_zero]at p1 p3;rw[List.take_length]at p2 p3;have s8:=yO (p:=8) (xi (zF p1<|zF p2<|zF p3 yy) (WY rfl) rfl rfl)<|zg rfl;have lix:∀(i:Nat) (z:Int),[c.h<|r.take q,c.h<|r.drop q,c.h r][i]? = some z->WD (f2 (fV 8) (fC<|.int i) zw) (L9 ns c ts rs y4 y5 (sI r.length) (sI q)<|sT<|.lst [.int<|c.h<|r.take q,.int<|c.h<|r.drop q,.int<|c.h r]) true (.int z):=λi z hz=>zV (za (i:=8) rfl) zb (vU (f:=D.int) (l:=[c.h<|r.take q,c.h<|r.drop q,c.h r]) hz) rfl;have l0:=lix 0 _ rfl;have l1:=lix 1 _ rfl;have l2:=lix 2 _ rfl;have wc:=yB (g:=Zj) (WD.e<|za (as:=L9 ns c ts rs y4 y5 (sI r.length) (sI q)<|sT<|.lst [.int<|c.h<|r.take q,.int<|c.h<|r.drop q,.int<|c.h r]) (i:=1) rfl) (WD.e<|w0 _ _ _) (Ky g.ok r2<|by omega);have s9:=mF (f:=zx<|fC<|.bl false) (g:=yT)<|C8 l2 (mD rfl wc) rfl;have it:c.In (r.take q):=λv mv=>r2 v<|List.mem_of_mem_take mv;have id:c.In (r.drop q):=λv mv=>r2 v<|List.mem_of_mem_drop mv;have wj:=wq g.ok.A.j (v8 g.ok.L.lj it) (v8 g.ok.L.lj id) (wW (g:=zw) (z:=wF c.J) (za (i:=1) (x:=c.g) rfl) (zb (x:=.int 2)) rfl) l0 l1;have ej:yG c.J (c.h<|r.take q) (c.h<|r.drop q)=c.h r:=by
  have:=Fb g.ok.L.lj it id;rw[List.take_append_drop]at this;exact this.symm
 rw[ej]at wj;exact j_ rfl<|zG rfl<|zc s1<|zc s2<|zc s3<|zc s4<|zc s5<|zc s6<|zc s7<|zc s8<|zc s9<|zz<|WD.e<|RN (c:=true) wj l2 (by show some (_==_)=_;rw[beq_self_eq_true])
end G43
end
end
open PySem PySem.W PyProof.Rows
set_option maxRecDepth 100000 in
set_option maxHeartbeats 0 in
theorem PySem.Challenge.cw_stretchdeeds_k43_what_stretches_come_to_holds : PySem.Challenge.rw_stretchdeeds_k43_what_stretches_come_to.Holds := by
 w_on;refine holds_law G43.ws λsaid=>?_
 refine holds_open (q:=G43.qv) (loose:=[]) (Xt:=G43.Xt) (XP:=XL G43.qv []) (Yf:=Hook.obs<|kHook G43.K G43.kA G43.kAe) (Ya:=Hook.val<|kHook G43.K G43.kA G43.kAe) (YP:=Hook.says<|kHook G43.K G43.kA G43.kAe) (N:=6000) G43.hl (Hook.of<|kHook G43.K G43.kA G43.kAe) (Hook.keeps<|kHook G43.K G43.kA G43.kAe) (λs e=>xl_of s (Bool.and_eq_true_iff.mp e).1) XL.keeps (by rfl) (by rfl) (by rfl) (λs e=>recFacts_of (Bool.and_eq_true_iff.mp e).2) (by rfl) (by first|assumption|decide +kernel) (by decide +kernel) ⟨rfl,rfl,rfl,rfl,rfl,by decide +kernel⟩ ?hw ?hc
 (case hw=>w_witness2)
 k_fill
 refine G43.walk (l:=PySem.Challenge.rw_stretchdeeds_k43_what_stretches_come_to) rfl rfl (λw h Y=>W.kIn_of Y) G43.S3 ?F
 case F=>
  intro w mg fa h KX G hmg;refine G43.DY (kd:=PF.kdL []<|PF.Ga mg) h hmg λbase=>?_;constructor
  all_goals first|exact W.mg_none_of KX G (by k_is)|exact PF.qK KX G (by k_is) ⟨_,⟨_,_,_,_,_,_,_,_,_,rfl,by k_is,by k_is⟩,by k_is⟩|exact PF.o4 KX G (by k_is) (by k_is)|exact PF.pj KX G (by k_is) (by k_is) (by k_is) (by k_is) ⟨_,⟨_,_,_,_,_,_,_,_,_,rfl,by k_is,by k_is⟩,by k_is⟩|exact PF.rh KX G (by k_is) (by k_is) (by k_is) (by k_is) (by k_is) (by k_is) (by k_is)|exact PF.kdN|exact PF.GC.int (W.mg_of KX G<|by k_is)
#print axioms PySem.Challenge.cw_stretchdeeds_k43_what_stretches_come_to_holds
