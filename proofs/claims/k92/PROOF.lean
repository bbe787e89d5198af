import PyProof.Rows.All
import Wide.All
import OpenK.AllK
import PySem.Challenge.RW_stretchdeeds_k92_whole_wide_makes
set_option Elab.async false
set_option linter.all false
set_option maxRecDepth 100000
set_option genSizeOf false
set_option compiler.extract_closed false
set_option bootstrap.genMatcherCode false
local macro_rules |`(⋯)=>`(by first|with_reducible rfl|assumption|omega|rfl|simp)
noncomputable section
abbrev zzA:=PySem.W.Frag
abbrev zzB:=@List.length_map
abbrev zzC:=@List.mem_cons
abbrev zzD:=@List.mem_cons_of_mem
abbrev zzE:=@List.getElem?_eq_getElem
abbrev zzF:=@List.mem_cons_self
abbrev zzG:=@List.getElem?_eq_some_iff
abbrev zzH:=@List.size_toArray
abbrev zzI:=@List.getElem?_map
abbrev zzJ:=@List.length_append
abbrev zzK:=@Nat.lt_of_lt_of_le
abbrev zzL:=@List.mem_append_right
abbrev zzM:=@List.mem_append
abbrev zzN:=@Nat.le_refl
abbrev zzO:=@Nat.le_trans
abbrev zzP:=@List.mem_append_left
abbrev zzQ:=@Nat.ne_of_lt
abbrev zzR:=@List.mem_singleton
abbrev zzS:=@List.length_take
abbrev zzT:=@List.length_cons
abbrev zzU:=@List.length_set
abbrev zzV:=@Int.natCast_mul
abbrev zzW:=@List.nodup_cons
abbrev zzX:=@Option.map_eq_some_iff
abbrev zzY:=@List.getElem?_set_ne
abbrev zzZ:=@Option.some.inj
abbrev zyA:=@List.mem_of_getElem?
abbrev zyB:=@List.map_map
abbrev zyC:=@Bool.and_eq_true
abbrev zyD:=@Bool.or_true
abbrev zyE:=@List.append_nil
abbrev zyF:=@List.getD_eq_getElem?_getD
abbrev zyG:=@decide_eq_false
abbrev zyH:=@Int.emod_lt_of_pos
abbrev zyI:=@Int.toNat_natCast
abbrev zyJ:=@List.nodup_nil
abbrev zyK:=@List.getElem?_set_self
abbrev zyL:=@Option.bind_some
abbrev zyM:=@List.map_append
abbrev zyN:=@Int.emod_nonneg
abbrev zyO:=@decide_eq_true
abbrev zyP:=@List.getElem?_append_left
abbrev zyQ:=@List.drop_eq_getElem_cons
abbrev zyR:=@List.getElem?_append_right
abbrev zyS:=@List.map_cons
abbrev zyT:=@Array.length_toList
abbrev zyU:=@List.length_range
abbrev zyV:=@Bool.false_ne_true
abbrev zyW:=@Nat.le_succ
abbrev zyX:=@Nat.zero_add
abbrev zyY:=@List.getElem_mem
abbrev zyZ:=@Nat.lt_succ_of_lt
abbrev zxA:=@List.not_mem_nil
abbrev zxB:=@List.append_assoc
abbrev zxC:=@List.mem_map
abbrev zxD:=@List.nodup_append
abbrev zxE:=@PySem.wpAny_bind
abbrev zxF:=@PySem.wpAny_pure
abbrev zxG:=@PySem.Heap.get?_push_of_some
abbrev zxH:=@PySem.Heap.lt_size
abbrev zxI:=@PySem.Heap.get?_push_size
abbrev zxJ:=@PySem.wpAny_holding
abbrev zxK:=@PySem.Heap.size_push
abbrev zxL:=@PySem.wpAny_mono
abbrev zxM:=@PySem.wpAny_call_entry
section
namespace L2
open PySem PySem.Spec PyProof.Rows
abbrev Key:=Sum Int Str
def Sr:Key->Value->Bool
 | .inl k,v=>Value.isInt k v
 | .inr x,v=>Value.isStrOf x v
def ej(w:World):Key->Int
 | .inl k=>hashInt k
 | .inr x=>hashStr w x
def xv:∀{k:Key}{v:Value},Sr k v=true->(∃i t,k=Sum.inl i/\v=Value.int i t)\/(∃x t,k=Sum.inr x/\v=Value.str x t)
 | .inl i,v,h=>by
  obtain⟨t,e⟩:=Value.isInt_shape h;exact .inl ⟨i,t,rfl,e⟩
 | .inr x,v,h=>by
  obtain⟨t,e⟩:=Value.isStrOf_shape h;exact .inr ⟨x,t,rfl,e⟩
def ug(i)(t):Sr (.inl i) (.int i t)=true:=by simp[Sr,Value.isInt]
def uK(x)(t):Sr (.inr x) (.str x t)=true:=by simp[Sr,Value.isStrOf]
def jd(a b):decide ((Sum.inl a:Key)=Sum.inl b)=(a==b):=by
 by_cases e:a=b
 . subst e;simp
 . have h:¬(Sum.inl a:Key)=Sum.inl b:=λq=>e<|Sum.inl.inj q;rw[zyG h];exact(beq_eq_false_iff_ne.mpr e).symm
def jH(a b):decide ((Sum.inr a:Key)=Sum.inr b)=decide (a=b):=⋯
def jb(a)(b):decide ((Sum.inl a:Key)=Sum.inr b)=false:=⋯
def kL(a)(b):decide ((Sum.inr a:Key)=Sum.inl b)=false:=⋯
def YG(prog:Program)(w:World):PySem.KeyKind prog w Key where
 is:=Sr
 hash:=ej w
 inj:=λv a b ha hb=>by
  rcases xv ha with⟨i,t,rfl,rfl⟩|⟨x,t,rfl,rfl⟩
  . rcases xv hb with⟨j,u,rfl,e⟩|⟨y,u,rfl,e⟩
    . injection e with e1 _;rw[e1]
    . exact nomatch e
  . rcases xv hb with⟨j,u,rfl,e⟩|⟨y,u,rfl,e⟩
    . exact nomatch e
    . injection e with e1 _;rw[e1]
 byValue:=λk v h=>by
  rcases xv h with⟨i,t,rfl,rfl⟩|⟨x,t,rfl,rfl⟩<;>rfl
 pyHash:=λhv h=>by
  rcases xv hv with⟨i,t,rfl,rfl⟩|⟨x,t,rfl,rfl⟩
  . exact wpAny_pyHash_int h
  . exact wpAny_pyHash_str h
 eqBool:=λhu hv h=>by
  rcases xv hu with⟨i,t,rfl,rfl⟩|⟨x,t,rfl,rfl⟩
  . rcases xv hv with⟨j,u,rfl,rfl⟩|⟨y,u,rfl,rfl⟩
    . rw[jd]at h;exact wpAny_eqBool_int h
    . rw[jb]at h;exact SeqAt.EqAt.int_str i t y u _ _ _ _ h
  . rcases xv hv with⟨j,u,rfl,rfl⟩|⟨y,u,rfl,rfl⟩
    . rw[kL]at h;exact SeqAt.EqAt.str_int x t j u _ _ _ _ h
    . rw[jH]at h;exact wpAny_eqBool_str h
 «strs» := λk x t v h=>by
  rcases xv h with⟨i,u,rfl,e⟩|⟨y,u,rfl,e⟩
  . exact nomatch e
  . injection e with e1 _
    subst e1;cases v<;>rfl
def Cr(prog)(w)(i)(t):(YG prog w).is (.inl i) (.int i t)=true:=ug i t
def Pn(prog)(w)(x)(t):(YG prog w).is (.inr x) (.str x t)=true:=uK x t
end L2
namespace L2
open PySem PySem.Spec PyProof.Rows
inductive V where
 |non|bl (b:Bool)|int (i:Int)|str (x:Str)|byt (b:Array UInt8)|flt (b:UInt64)|ref (a:Addr)|ty (n:String)
 deriving DecidableEq
def RelV:V->Value->Prop
 | .non,u=>u=Value.none
 | .bl b,u=>u=Value.bool b
 | .int i,u=>∃t,u=Value.int i t
 | .str x,u=>∃t,u=Value.str x t
 | .byt b,u=>∃t,u=Value.bytes b t
 | .flt b,u=>∃t,u=Value.float b t
 | .ref a,u=>u=Value.ref a
 | .ty n,u=>u=Value.type n
abbrev zR:List V->List Value->Prop:=Paired RelV
theorem zR.length(r:zR xs us):xs.length=us.length:=Paired.length r
theorem zR.get:∀{xs:List V}{us:List Value}{i:Nat}{x:V},zR xs us->xs[i]? = some x->∃u,us[i]? = some u/\RelV x u
 |_,_,_,_,.nil,e=>by simp at e
 |_,_,0,_,.cons r _,e=>by simp at e;subst e;exact⟨_,rfl,r⟩
 |_,_,i+1,x,.cons _ t,e=>by
  obtain⟨u,h1,h2⟩:=zR.get t (by simpa using e);exact⟨u,by simpa using h1,h2⟩
theorem zR.set(r:RelV x u):∀{xs:List V}{us:List Value}(i:Nat),zR xs us->zR (xs.set i x) (us.set i u)
 |_,_,_,.nil=>.nil
 |_,_,0,.cons _ t=>.cons r t
 |_,_,i+1,.cons q t=>.cons q<|zR.set r i t
theorem zR.append:∀{xs ys:List V}{us ws:List Value},zR xs us->zR ys ws->zR (xs++ys) (us++ws)
 |_,_,_,_,.nil,s=>s
 |_,_,_,_,.cons r t,s=>.cons r<|zR.append t s
theorem zR.take:∀{xs:List V}{us:List Value}(n:Nat),zR xs us->zR (xs.take n) (us.take n)
 |_,_,0,_=>.nil
 |_,_,_+1,.nil=>.nil
 |_,_,n+1,.cons r t=>.cons r<|zR.take n t
theorem zR.drop:∀{xs:List V}{us:List Value}(n:Nat),zR xs us->zR (xs.drop n) (us.drop n)
 |_,_,0,r=>r
 |_,_,_+1,.nil=>.nil
 |_,_,n+1,.cons _ t=>zR.drop n t
def Kj:Option V->Option Value->Prop
 |some v,some u=>RelV v u
 |none,none=>True
 |_,_=>False
def KV{κ:Type}:List (κ×V)->List (κ×Value)->Prop:=Paired λ(p:κ×V) (q:κ×Value)=>p.1=q.1/\RelV p.2 q.2
def kV:Key->V
 | .inl i=>.int i
 | .inr x=>.str x
inductive HO where
 |lst (xs:List V)
 |tup (xs:List V)
 |dK (kvs:List (Key×V))|dT (kvs:List (List Key×V))
 |set (S:Int->Bool) (n:Nat)
 |ins (C dx:Addr) (fs:List (Str×V))
 |own (x:Addr)
 |xd (fs:List (Str×V))
 |met (f x:Addr)
 |rng (lo hi:Int)
 |frz (o:Obj) (u:HO)
 |tbl (ps:Array Value)
 |ext (φ:Heap->Prop)
abbrev Hp:=Addr->Option HO
def upd(H:Hp)(a:Addr)(o:HO):Hp:=λb=>if b=a then some o else H b
def yd:upd H a o a=some o:=by unfold upd;rw[if_pos rfl]
def zK(h:b≠a):upd H a o b=H b:=by unfold upd;rw[if_neg h]
def yg{H:Hp}{a b o}(h:H a=some o)(h':H b=none):a≠b:=by
 intro e;subst e;rw[h]at h';cases h'
section
variable(P:Program)(w:World)
def ZW(H:Hp)(h:Heap)(a:Addr):HO->Prop
 | .lst xs=>xs.length<=sizeLine/\∃(its:List Value) (n:Nat),zR xs its/\h.get? a=some {cls:=.type "list",data:=.seq its.toArray n}
 | .tup xs=>xs.length<=sizeLine/\∃its:List Value,zR xs its/\IsTup h a its.toArray
 | .dK kvs=>kvs.length<=sizeLine/\(a==sysModules)=false/\∃vs,KV kvs vs/\h.DictOf (YG P w) a vs
 | .dT kvs=>kvs.length<=sizeLine/\(a==sysModules)=false/\∃xs:List (List Key×Addr×Value),
  Paired (λ(p:List Key×V) (q:List Key×Addr×Value)=>p.1=q.1/\H q.2.1=some (.tup<|p.1.map kV)/\RelV p.2 q.2.2) kvs xs/\
  ∃o es ep,h.get? a=some o/\o.ExactDict/\o.data = .dict es ep/\es.toList=xs.map (entryOfKey<|tupleKind<|YG P w)/\(xs.map (·.1)).Nodup
 | .set S n=>h.SetOf (intKind P w) a S n
 | .ins C dx fs=>H dx=some (.own a)/\fs.length<=1000/\dx≠a/\h.get? a=some (W.instObj C dx)/\
  ∃mA,h.Ns1 dx mA/\(∀f,Kj (fs.lookup f)<|mA f)/\PySem.Within mA (fs.map (·.1))
 | .own _=>∃o,h.get? a=some o
 | .xd fs=>∃mA,h.Ns1 a mA/\∀f,Kj (fs.lookup f)<|mA f
 | .rng lo hi=>∃t u v,h.get? a=some {cls:=.type "range",data:=.fields #[.int lo t,.int hi u,.int 1 v]}
 | .frz o u=>h.get? a=some o/\ZW H h a u
 | .tbl ps=>h.get? a=some {cls:=.none,data:=.fields ps}
 | .met f x=>h.get? a=some (W.methodObj (.ref f)<|.ref x)
 | .ext φ=>φ h/\(∃o,h.get? a=some o)/\∀h1 h2:Heap,φ h1->(∀o,h1.get? a=some o->h2.get? a=some o)->φ h2
def Nl(H:Hp)(h:Heap):Prop:=∀a o,H a=some o->ZW P w H h a o
end
section
variable{P:Program}{w:World}{H H':Hp}{h h':Heap}{a:Addr}{o:HO}
theorem ZW.lt(x:ZW P w H h a o):a<h.objs.size:=by
 cases o with
 |lst xs=>obtain⟨_,_,_,_,e⟩:=x;exact zxH e
 |tup xs=>obtain⟨_,_,_,p⟩:=x;exact p.lt
 |dK kvs=>obtain⟨_,_,_,_,o,_,_,e,_⟩:=x;exact zxH e
 |dT kvs=>obtain⟨_,_,_,_,o,_,_,e,_⟩:=x;exact zxH e
 |set S n=>obtain⟨o,_,_,_,e,_⟩:=x;exact zxH e
 |ins C dx fs=>obtain⟨_,_,_,e,_⟩:=x;exact zxH e
 |own y=>obtain⟨_,e⟩:=x;exact zxH e
 |xd fs=>obtain⟨_,⟨_,_,_,e,_⟩,_⟩:=x;exact zxH e
 |rng lo hi=>obtain⟨_,_,_,e⟩:=x;exact zxH e
 |frz ob u=>obtain⟨e,_⟩:=x;exact zxH e
 |tbl ps=>exact zxH (x)
 |met f y=>exact zxH (x)
 |ext φ=>obtain⟨_,⟨_,e⟩,_⟩:=x;exact zxH e
theorem Paired.mapP:∀{l₁:List α}{l₂:List β},Paired F l₁ l₂->(∀a b,F a b->G a b)->Paired G l₁ l₂
 |_,_,.nil,_=>.nil
 |_,_,.cons r t,f=>.cons (f _ _ r)<|Paired.mapP t f
def ZW.stay(x:ZW P w H h a o)(k:∀b u,(b=a\/H b=some (.own a))->h.get? b=some u->h'.get? b=some u)
 (ho:∀b,H b=some (.own a)->H' b=some (.own a)) (ht:∀b xs,H b=some (.tup xs)->H' b=some (.tup xs)):ZW P w H' h' a o:=by
 induction o with
 |lst xs=>obtain⟨z,its,n,r,e⟩:=x;exact⟨z,its,n,r,k _ _ (.inl rfl) e⟩
 |tup xs=>obtain⟨z,its,r,ob,e,c⟩:=x;exact⟨z,its,r,ob,k _ _ (.inl rfl) e,c⟩
 |dK kvs=>obtain⟨z,y,vs,r,ob,es,ep,e,c⟩:=x;exact⟨z,y,vs,r,ob,es,ep,k _ _ (.inl rfl) e,c⟩
 |dT kvs=>
  obtain⟨z,y,xs,r,ob,es,ep,e,c⟩:=x;exact⟨z,y,xs,Paired.mapP r λp q z=>⟨z.1,ht _ _ z.2.1,z.2.2⟩,ob,es,ep,k _ _ (.inl rfl) e,c⟩
 |set S n=>obtain⟨ob,es,ep,t,e,c⟩:=x;exact⟨ob,es,ep,t,k _ _ (.inl rfl) e,c⟩
 |ins C dx fs=>
  obtain⟨d,z,ne,e,mA,⟨od,es,ep,e2,c⟩,r⟩:=x;exact⟨ho _ d,z,ne,k _ _ (.inl rfl) e,mA,⟨od,es,ep,k _ _ (.inr d) e2,c⟩,r⟩
 |own y=>obtain⟨ob,e⟩:=x;exact⟨ob,k _ _ (.inl rfl) e⟩
 |xd fs=>obtain⟨mA,⟨od,es,ep,e,c⟩,r⟩:=x;exact⟨mA,⟨od,es,ep,k _ _ (.inl rfl) e,c⟩,r⟩
 |rng lo hi=>obtain⟨t,u,v,e⟩:=x;exact⟨t,u,v,k _ _ (.inl rfl) e⟩
 |frz ob u ih=>obtain⟨e,q⟩:=x;exact⟨k _ _ (.inl rfl) e,ih q⟩
 |tbl ps=>
  have e:=x;exact k a _ (.inl rfl) e
 |met f y=>
  have e:=x;exact k a _ (.inl rfl) e
 |ext φ=>obtain⟨p,⟨o,e⟩,st⟩:=x;exact⟨st _ _ p λo q=>k _ _ (.inl rfl) q,⟨o,k _ _ (.inl rfl) e⟩,st⟩
theorem Nl.lt(x:Nl P w H h)(e:H a=some o):a<h.objs.size:=(x a o e).lt
def Nl.fresh(x:Nl P w H h)(e:h.objs.size<=a):H a=none:=by
 cases q:H a with
 |none=>rfl
 |some u=>exact absurd (zzK (x.lt q) e) (Nat.lt_irrefl _)
def Nl.kept(x:Nl P w H h)(k:∀b u,h.get? b=some u->h'.get? b=some u):Nl P w H h':=λa o e=>
 (x a o e).stay (λb u _ q=>k b u q) (λ_ q=>q) λ_ _ q=>q
def Nl.laid(x:Nl P w H h)(k:∀b u,h.get? b=some u->h'.get? b=some u)(hp:h.objs.size<=a)(new:ZW P w (upd H a o) h' a o):Nl P w (upd H a o) h':=λb u e=>by
 have hn:=x.fresh hp
 by_cases hb:b=a
 . subst hb;rw[yd]at e;cases e;exact new
 . rw[zK hb]at e;exact(x b u e).stay (λc v _ q=>k c v q) (λc q=>by rwa [zK<|yg q hn]) λc xs q=>by rwa [zK<|yg q hn]
end
def Rd(H:Hp)(a:Addr)(u:HO):Prop:=H a=some u\/∃o,H a=some (.frz o u)
def Rd.ok(r:Rd H a u)(x:Nl P w H h):ZW P w H h a u:=by
 rcases r with r|⟨o,r⟩
 . exact x a u r
 . obtain⟨_,q⟩:=x a _ r;exact q
def fR:Option HO->Prop
 |some (.lst _)=>True
 |some (.dK _)=>True
 |some (.dT _)=>True
 |some (.set _ _)=>True
 |some (.ins _ _ _)=>True
 |some (.ext _)=>True
 |_=>False
section
variable{P:Program}{w:World}{H:Hp}{h h':Heap}{x e:Addr}{o':HO}
def Nl.write(ok:Nl P w H h)(mu:fR (H x))(he:e=x\/H e=some (.own x))(k:∀b u,b≠e->h.get? b=some u->h'.get? b=some u)(heo:∃u,h'.get? e=some u)
 (new:ZW P w (upd H x o') h' x o'):Nl P w (upd H x o') h':=λb u q=>by
 have nown:∀c y,H c=some (.own y)->c≠x:=λc y r z=>by subst z;rwa [r]at mu
 have ntup:∀c xs,H c=some (.tup xs)->c≠x:=λc xs r z=>by subst z;rwa [r]at mu
 by_cases hb:b=x
 . subst hb;rw[yd]at q;cases q;exact new
 . rw[zK hb]at q
   by_cases hbe:b=e
   . have q':H b=some (.own x):=by
      rcases he with z|z
      . exact absurd (hbe.trans z) hb
      . rwa [hbe]
     rw[q]at q';cases q';obtain⟨v,hv⟩:=heo;exact⟨v,by rwa [hbe]⟩
   . refine(ok b u q).stay (λc v hc r=>k c v ?_ r) (λc r=>by rwa [zK<|nown c b r]) λc xs r=>by rwa [zK<|ntup c xs r]
     rcases hc with rfl|hc
     . exact hbe
     . rintro rfl
       rcases he with z|z
       . exact nown c b hc z
       . rw[hc]at z;cases z;exact hb rfl
end
structure Un(fs ex:List Addr)(H H':Hp)(h h':Heap):Prop where
 keep:∀b o,h.get? b=some o->H b=none->b ∉ fs->b ∉ ex->h'.get? b=some o
 slot:∀b o,h.get? b=some o->H b=none->b ∈ fs->b ∉ ex->∃sl,h'.get? b=some {o with slots:=sl}
 free:∀b o,h.get? b=some o->H b=none->b ∉ ex->H' b=none
 there:∀b o,h.get? b=some o->b ∉ ex->∃o',h'.get? b=some o'
 tups:∀b xs,H b=some (.tup xs)->H' b=some (.tup xs)
 frzs:∀b o u,H b=some (.frz o u)->H' b=some (.frz o u)
 tbls:∀b ps,H b=some (.tbl ps)->∃more,H' b=some (.tbl<|ps++more)
section
variable{fs fs' ex ex':List Addr}{H H1 H2:Hp}{h h1 h2 h':Heap}{a x e:Addr}{o:HO}
def Un.any(u:Un fs ex H H1 h h1)(q:h.get? b=some ob)(n:H b=none)(hx:b ∉ ex):∃sl,h1.get? b=some {ob with slots:=sl}:=by
 by_cases hb:b ∈ fs
 . exact u.slot b ob q n hb hx
 . exact⟨ob.slots,u.keep b ob q n hb hx⟩
def Un.kept(k:∀b u,h.get? b=some u->h'.get? b=some u):Un fs ex H H h h':=
 ⟨λb ob q _ _ _=>k b ob q,λb ob q _ _ _=>⟨ob.slots,k b ob q⟩,λ_ _ _ n _=>n,λb ob q _=>⟨ob,k b ob q⟩,λ_ _ q=>q,λ_ _ _ q=>q,λ_ ps q=>⟨#[],by rw[q];simp⟩⟩
def Un.refl:Un fs ex H H h h:=Un.kept λ_ _ q=>q
def Un.laid(k:∀b u,h.get? b=some u->h'.get? b=some u)(hp:h.objs.size<=a)(hn:H a=none):Un fs ex H (upd H a o) h h' where
 keep:=λb u q _ _ _=>k b u q
 slot:=λb u q _ _ _=>⟨u.slots,k b u q⟩
 free:=λb u q n _=>by rwa [zK<|zzQ<|zzK (zxH q) hp]
 there:=λb u q _=>⟨u,k b u q⟩
 tups:=λb xs q=>by rwa [zK<|yg q hn]
 frzs:=λb u xs q=>by rwa [zK<|yg q hn]
 tbls:=λb ps q=>⟨#[],by rw[zK<|yg q hn,q];simp⟩
def Un.write(mu:fR (H x))(he:e=x\/H e=some (.own x))(k:∀b u,b≠e->h.get? b=some u->h'.get? b=some u)(heo:∃u,h'.get? e=some u):Un fs ex H (upd H x o) h h':=by
 have hx:∀b,H b=none->b≠x:=λb n z=>by subst z;rwa [n]at mu
 have hb:∀b,H b=none->b≠e:=λb n z=>by
  subst z
  rcases he with r|r
  . exact hx b n r
  . rw[n]at r;cases r
 have hm:∀b u,H b=some u->¬fR (some u)->b≠x:=λb u q nm z=>by subst z;rw[q]at mu;exact nm mu
 refine⟨λb u q n _ _=>k b u (hb b n) q,λb u q n _ _=>⟨u.slots,k b u (hb b n) q⟩,λb u q n _=>by rw[zK<|hx b n];exact n,λb u q _=>?_,
  λb xs q=>by rw[zK<|hm b _ q λz=>z];exact q,λb u xs q=>by rw[zK<|hm b _ q λz=>z];exact q,λb ps q=>⟨#[],by rw[zK<|hm b _ q λz=>z,q];simp⟩⟩
 by_cases hbe:b=e
 . subst hbe;exact heo
 . exact⟨u,k b u hbe q⟩
end
def trk(h:Heap)(H:Hp):List Addr:=(List.range h.objs.size).filter λa=>(H a).isSome
def uL(h:Heap)(H:Hp):Heap:=W.hideAll h<|trk h H
def uZ(h)(H):(uL h H).objs.size=h.objs.size:=W.hideAll_size _ _
def tG(e:h.get? b=some o)(n:H b=none):(uL h H).get? b=some o:=
 W.hideAll_get _ e λhm=>by
  have q:=(List.mem_filter.mp hm).2;rw[n]at q;simp at q
def pU(e:(uL h H).get? b=some o):h.get? b=some o/\H b=none:=by
 have e':h.get? b=some o:=W.of_hideAll _ e;refine⟨e', ?_⟩;cases q:H b with
 |none=>rfl
 |some x=>
  have hm:b ∈ trk h H:=List.mem_filter.mpr ⟨List.mem_range.mpr<|zxH e',by simp[q]⟩;have z:(uL h H).get? b=none:=W.hideAll_none _ hm;rw[z]at e;cases e
end L2
namespace L2
open PySem PySem.Spec PyProof.Rows
structure Mod(K:zzA)(mg:Str->Option Value)(base:Heap):Prop where
 kin:K.In base
 glob:base.Ns mainGlobals mg
 blt:∃mb,base.Ns builtinsNs mb/\∀x:Str,x≠"__name__"->mb x=bootBuiltins x
 nolimit:base.NoLimit
structure Cx where
 prog:Program
 w:World
 K:zzA
 mg:Str->Option Value
 base:Heap
 A:Around
 N:List Str
 s₀:Shared
 H₀:Hp
 env:Env
 outer:List Env
 stack:List Env
 ex:List Addr
 fn:Str->Bool
 calm:Bool
 pn:List (Addr×Obj)
 xe:Value->Shared->Prop
def u4(l:List Env):List Addr:=l.filterMap (·.frame)
abbrev Cx.fs(X:Cx):List Addr:=u4 X.outer
def fF(sc:Scope)(x:Str):Prop:=sc.names.lookup x=some .local\/sc.names.lookup x=some .cell\/sc.names.lookup x=some .free
def Loc(sc:Scope)(x:Str):Prop:=sc.names.lookup x=some .local\/sc.names.lookup x=some .cell
def Look(env:Env)(h:Heap)(m:Str->Option Value)(x:Str)(u:Value):Prop:=
 (env.kindOf x=some .local/\m x=some u)\/((env.kindOf x=some .cell\/env.kindOf x=some .free)/\∃c,env.cells.lookup x=some c/\h.IsCell c (some u))
structure Cx.Ok(X:Cx):Prop where
 mod:Mod X.K X.mg X.base
 kind:X.env.scope.kind = .function
 glob:X.env.globals=mainGlobals
 blt:X.env.builtins=builtinsNs
 above:X.s₀.heap.objs.size<=X.env.locals
 inj:∀x y c,X.env.cells.lookup x=some c->X.env.cells.lookup y=some c->x=y
 has:∀x,(X.env.kindOf x=some .cell\/X.env.kindOf x=some .free)->∃c,X.env.cells.lookup x=some c
 cab:∀x c,X.fn x=true->X.env.cells.lookup x=some c->X.s₀.heap.objs.size<=c
 hd:X.calm=true->X.A.handled=none
 frames:X.A.frames=some X.stack
 stk:X.stack=X.outer\/(X.stack=X.env::X.outer/\X.env.frame=some X.env.locals)
 exf:∀b ∈ X.ex,b≠X.env.locals/\∀x c,X.env.cells.lookup x=some c->c≠b
 bs:∀b o,X.base.get? b=some o->X.s₀.heap.get? b=some o/\X.H₀ b=none
 bsz:X.base.objs.size<=X.s₀.heap.objs.size
 noex:∀b o,X.base.get? b=some o->b ∉ X.ex
 exfs:∀b ∈ X.ex,b ∉ X.fs
 funs:X.s₀.heap.FunFrames X.base X.outer
 frf:∀b ∈ X.fs,X.H₀ b=none
structure Inv(X:Cx)(pins:List (Addr×Obj))(σ:List (Option V))(H:Hp)(s:Shared):Prop where
 ok:X.Ok
 os:s.os=X.s₀.os
 bare:AllBare s.gens
 base:Un X.fs X.ex X.H₀ H X.s₀.heap s.heap
 loc:∃m,s.heap.Ns X.env.locals m/\∀(i:Nat) (x:Str) (v:V),X.N[i]? = some x->σ[i]? = some (some v)->fF X.env.scope x->∃u,RelV v u/\Look X.env s.heap m x u
 cell:∀x c,X.env.cells.lookup x=some c->∃v,s.heap.IsCell c v
 free:H X.env.locals=none
 freeC:∀x c,X.env.cells.lookup x=some c->H c=none
 pin:∀p ∈ X.pn++pins,s.heap.get? p.1=some p.2/\H p.1=none/\p.1≠X.env.locals/\p.1 ∉ X.fs/\∀v,p.2.data ≠ .cell v
 hok:Nl X.prog X.w H s.heap
 len:σ.length=X.N.length
section
variable{X:Cx}{pins:List (Addr×Obj)}{σ:List (Option V)}{H H':Hp}{s:Shared}{h':Heap}
def Cx.Ok.nofr(ok:X.Ok)(e:X.base.get? b=some o):b ∉ X.fs:=λhb=>by
 have:=(ok.funs.mem hb).1;rw[e]at this;cases this
theorem Inv.bs(I:Inv X pins σ H s):∀b o,X.base.get? b=some o->s.heap.get? b=some o/\H b=none:=λb o e=>
 ⟨I.base.keep b o (I.ok.bs b o e).1 (I.ok.bs b o e).2 (I.ok.nofr e)<|I.ok.noex b o e,I.base.free b o (I.ok.bs b o e).1 (I.ok.bs b o e).2<|I.ok.noex b o e⟩
def Inv.bk(I:Inv X pins σ H s):∀b o,X.base.get? b=some o->s.heap.get? b=some o:=λb o e=>(I.bs b o e).1
theorem Inv.mod(I:Inv X pins σ H s):Mod X.K X.mg X.base:=I.ok.mod
def Inv.kIn(I:Inv X pins σ H s):X.K.In s.heap:=I.ok.mod.kin.keeps I.bk
theorem Inv.lt(I:Inv X pins σ H s):X.env.locals<s.heap.objs.size:=let⟨_,hn,_⟩:=I.loc;hn.lt
def Inv.sz(I:Inv X pins σ H s):X.s₀.heap.objs.size<=s.heap.objs.size:=zzO I.ok.above<|Nat.le_of_lt I.lt
def Inv.nofs(I:Inv X pins σ H s)(h:s.heap.objs.size<=a):a ∉ X.fs:=λhb=>by
 obtain⟨_,o,ho,_⟩:=I.ok.funs.mem hb;exact absurd (zzK (zxH ho)<|zzO I.sz h)<|Nat.lt_irrefl _
def Inv.cne(I:Inv X pins σ H s):∀x c,X.env.cells.lookup x=some c->c≠X.env.locals:=λx c e z=>by
 obtain⟨v,o,ho,hd⟩:=I.cell x c e;obtain⟨m,⟨o',es,ep,ho',hd',_⟩,_⟩:=I.loc;rw[z,ho']at ho;cases ho;rw[hd']at hd;cases hd
theorem Inv.funs(I:Inv X pins σ H s):s.heap.FunFrames X.base X.outer:=by
 have all:∀l,(∀b ∈ u4 l,b ∈ X.fs)->X.s₀.heap.FunFrames X.base l->s.heap.FunFrames X.base l:=by
  intro l
  induction l with
  |nil=>intro _ _;trivial
  |cons env r ih=>
   intro hs hl;obtain⟨hk,⟨L,o,hf,hn,ho,hd⟩,hr⟩:=hl;have hL:=hs L (by unfold u4;rw[List.filterMap_cons,hf];exact zzF);obtain⟨sl,e⟩:=I.base.slot L o ho (I.ok.frf L hL) hL λz=>I.ok.exfs L z hL;exact⟨hk,⟨L,_,hf,hn,e,hd⟩,ih (λb hb=>hs b<|by unfold u4;rw[List.filterMap_cons,hf];exact zzD _ hb) hr⟩
 exact all X.outer (λ_ hb=>hb) I.ok.funs
theorem Inv.stack(I:Inv X pins σ H s):s.heap.FunFrames X.base X.stack:=by
 rcases I.ok.stk with e|⟨e,hf⟩
 . rw[e];exact I.funs
 . rw[e];obtain⟨m,hn,_⟩:=I.loc;refine .cons (by rw[I.ok.kind];decide) hf hn ?_ I.funs;exact Heap.get?_none_of_le<|zzO I.ok.bsz I.ok.above
def Inv.stkSub(I:Inv X pins σ H s):∀b ∈ u4 X.stack,b ∈ X.env.locals::X.fs:=λb hb=>by
 rcases I.ok.stk with e|⟨e,hf⟩
 . rw[e]at hb;exact zzD _ hb
 . rw[e]at hb;unfold u4 at hb
   rwa [List.filterMap_cons,hf]at hb
def Inv.stkFree(I:Inv X pins σ H s):∀b ∈ u4 X.stack,H b=none:=λb hb=>by
 rcases zzC.mp (I.stkSub b hb)with e|hb
 . rw[e];exact I.free
 . obtain⟨_,o,ho,_⟩:=I.ok.funs.mem hb;exact I.base.free b o ho (I.ok.frf b hb) λz=>I.ok.exfs b z hb
def Inv.step{g'}{t':Nat}{d'}{ch:List Addr}(I:Inv X pins σ H s)
 (hch:∀b ∈ ch,(b ∈ X.ex\/X.s₀.heap.objs.size<=b)/\b≠X.env.locals/\(∀x c,X.env.cells.lookup x=some c->c≠b)/\∀p ∈ X.pn++pins,p.1≠b)
 (keep:∀b o,b≠X.env.locals->b ∉ X.fs->b ∉ ch->s.heap.get? b=some o->H b=none->h'.get? b=some o)
 (slot:∀b o,b≠X.env.locals->b ∈ X.fs->b ∉ ch->s.heap.get? b=some o->H b=none->∃sl,h'.get? b=some {o with slots:=sl}) (free:∀b o,b ∉ ch->s.heap.get? b=some o->H b=none->H' b=none)
 (there:∀b o,b ∉ ch->s.heap.get? b=some o->∃o',h'.get? b=some o')
 (tups:∀b xs,H b=some (.tup xs)->H' b=some (.tup xs)) (frzs:∀b o u,H b=some (.frz o u)->H' b=some (.frz o u)) (tbls:∀b ps,H b=some (.tbl ps)->∃more,H' b=some (.tbl<|ps++more))
 (ns:∀m,s.heap.Ns X.env.locals m->h'.Ns X.env.locals m) (hok:Nl X.prog X.w H' h') (hg:AllBare g'):
 Inv X pins σ H' {s with heap:=h',gens:=g',drawn:=d',toks:=t'}:=by
 have neL:∀b o,X.s₀.heap.get? b=some o->b≠X.env.locals:=λb o e=>zzQ<|zzK (zxH e) I.ok.above;have neC:∀b o,X.s₀.heap.get? b=some o->b ∉ X.ex->b ∉ ch:=λb o e hx hb=>by
  rcases(hch b hb).1 with z|z
  . exact hx z
  . exact absurd (zzK (zxH e) z)<|Nat.lt_irrefl _
 have cellK:∀x c,X.env.cells.lookup x=some c->∀v,s.heap.IsCell c v->h'.IsCell c v:=λx c e v ⟨o,ho,hd⟩=>by
  have nch:=λz=>(hch c z).2.2.1 x c e rfl
  by_cases hc:c ∈ X.fs
  . obtain⟨sl,q⟩:=slot c o (I.cne x c e) hc nch ho<|I.freeC x c e;exact⟨_,q,hd⟩
  . exact⟨o,keep c o (I.cne x c e) hc nch ho<|I.freeC x c e,hd⟩
 refine⟨I.ok,I.os,hg,⟨λb o e n hb hx=>?_,λb o e n hb hx=>?_,λb o e n hx=>?_,λb o e hx=>?_,λb xs e=>tups b xs<|I.base.tups b xs e,λb o xs e=>frzs b o xs<|I.base.frzs b o xs e,λb ps e=>?_⟩, ?_,λx c e=>?_, ?_,λx c e=>?_,λp hp=>?_,hok,I.len⟩
 . exact keep b o (neL b o e) hb (neC b o e hx) (I.base.keep b o e n hb hx)<|I.base.free b o e n hx
 . obtain⟨sl,e1⟩:=I.base.slot b o e n hb hx;obtain⟨sl',e2⟩:=slot b _ (neL b o e) hb (neC b o e hx) e1<|I.base.free b o e n hx;exact⟨sl',e2⟩
 . obtain⟨o',e1⟩:=I.base.there b o e hx;exact free b o' (neC b o e hx) e1<|I.base.free b o e n hx
 . obtain⟨o',e1⟩:=I.base.there b o e hx;exact there b o' (neC b o e hx) e1
 . obtain⟨m1,e1⟩:=I.base.tbls b ps e;obtain⟨m2,e2⟩:=tbls b _ e1;exact⟨m1++m2,by rw[e2,Array.append_assoc]⟩
 . obtain⟨m,hn,hl⟩:=I.loc;refine⟨m,ns m hn,λi x v e1 e2 e3=>?_⟩;obtain⟨u,r,l⟩:=hl i x v e1 e2 e3;refine⟨u,r, ?_⟩
   rcases l with l|⟨k,c,e,z⟩
   . exact .inl l
   . exact .inr ⟨k,c,e,cellK x c e _ z⟩
 . obtain⟨v,z⟩:=I.cell x c e;exact⟨v,cellK x c e v z⟩
 . obtain⟨m,⟨o,_,_,ho,_⟩,_⟩:=I.loc;exact free _ o (λz=>(hch _ z).2.1 rfl) ho I.free
 . obtain⟨v,o,ho,hd⟩:=I.cell x c e;exact free c o (λz=>(hch c z).2.2.1 x c e rfl) ho<|I.freeC x c e
 . obtain⟨e,n,ne,nf,d⟩:=I.pin p hp;have nch:=λz=>(hch p.1 z).2.2.2 p hp rfl;exact⟨keep p.1 p.2 ne nf nch e n,free p.1 p.2 nch e n,ne,nf,d⟩
def Inv.un{t':Nat}(I:Inv X pins σ H s)(u:Un X.fs [] H H' s.heap h')(hok:Nl X.prog X.w H' h'):Inv X pins σ H' {s with heap:=h',toks:=t'}:=by
 obtain⟨m,⟨o,es,ep,ho,r⟩,_⟩:=id I.loc;obtain⟨sl,hL⟩:=u.any ho I.free (by simp);exact I.step (g':=s.gens) (d':=s.drawn) (ch:=[]) (λ_ z=>nomatch z) (λb o _ hb _ e n=>u.keep b o e n hb<|by simp) (λb o _ hb _ e n=>u.slot b o e n hb<|by simp) (λb o _ e n=>u.free b o e n<|by simp) (λb o _ e=>u.there b o e<|by simp) u.tups u.frzs u.tbls (λm' hm=>by
  obtain⟨o',es',ep',ho',r'⟩:=hm;rw[ho]at ho';cases ho';exact⟨_,es',ep',hL,r'⟩) hok I.bare
def Inv.call{g'}{t':Nat}{d'}{ch:List Addr}(I:Inv X pins σ H s)(u:Un (u4 X.stack) ch H H' s.heap h')(hok:Nl X.prog X.w H' h')(hg:AllBare g')
 (hch:∀b ∈ ch,(b ∈ X.ex\/X.s₀.heap.objs.size<=b)/\b≠X.env.locals/\(∀x c,X.env.cells.lookup x=some c->c≠b)/\∀p ∈ X.pn++pins,p.1≠b):
 Inv X pins σ H' {s with heap:=h',gens:=g',drawn:=d',toks:=t'}:=by
 obtain⟨m,⟨o,es,ep,ho,r⟩,_⟩:=id I.loc;obtain⟨sl,hL⟩:=u.any ho I.free λz=>(hch _ z).2.1 rfl;exact I.step hch (λb o hL hb hc e n=>u.keep b o e n (λz=>(zzC.mp<|I.stkSub b z).elim hL hb) hc) (λb o _ _ hc e n=>u.any e n hc) (λb o hc e n=>u.free b o e n hc) (λb o hc e=>u.there b o e hc) u.tups u.frzs u.tbls (λm' hm=>by
  obtain⟨o',es',ep',ho',r'⟩:=hm;rw[ho]at ho';cases ho';exact⟨_,es',ep',hL,r'⟩) hok hg
def Inv.turned{t':Nat}{it:Addr}(I:Inv X pins σ H s)(k:∀b o,b≠it->s.heap.get? b=some o->h'.get? b=some o)(hn:H it=none)(hL:it≠X.env.locals)
 (h1:it ∈ X.ex\/X.s₀.heap.objs.size<=it) (h2:∀x c,X.env.cells.lookup x=some c->c≠it) (h3:∀p ∈ X.pn++pins,p.1≠it):Inv X pins σ H {s with heap:=h',toks:=t'}:=by
 have nit:∀b u,H b=some u->b≠it:=λb u e z=>by rw[z,hn]at e;cases e
 refine I.step (g':=s.gens) (d':=s.drawn) (ch:=[it]) (λb hb=>?_) (λb o _ _ hc e _=>k b o (λz=>hc<|by simp[z]) e) (λb o _ _ hc e _=>⟨o.slots,k b o (λz=>hc<|by simp[z]) e⟩) (λ_ _ _ _ n=>n)
  (λb o hc e=>⟨o,k b o (λz=>hc<|by simp[z]) e⟩) (λ_ _ e=>e) (λ_ _ _ e=>e) (λb ps e=>⟨#[],by rw[e];simp⟩) (λm hm=>?_) (λb u e=>?_) I.bare
 . have e:b=it:=by simpa using hb
   subst e;exact⟨h1,hL,h2,h3⟩
 . obtain⟨o,es,ep,ho,r⟩:=hm;exact⟨o,es,ep,k _ o (Ne.symm hL) ho,r⟩
 . refine(I.hok b u e).stay (λc v hc q=>k c v ?_ q) (λ_ q=>q) λ_ _ q=>q
   rcases hc with z|z
   . rw[z];exact nit b u e
   . exact nit c _ z
def Inv.tok(I:Inv X pins σ H s)(t:Nat):Inv X pins σ H {s with toks:=t}:=I.un (h':=s.heap) (t':=t) Un.refl I.hok
theorem Inv.kept(I:Inv X pins σ H s)(k:∀b u,s.heap.get? b=some u->h'.get? b=some u):Inv X pins σ H {s with heap:=h',toks:=t'}:=I.un (Un.kept k)<|I.hok.kept k
theorem Inv.laid(I:Inv X pins σ H s)(k:∀b u,s.heap.get? b=some u->h'.get? b=some u)(hp:s.heap.objs.size<=a)(new:ZW X.prog X.w (upd H a o) h' a o):
 Inv X pins σ (upd H a o) {s with heap:=h',toks:=t'}:=I.un (Un.laid k hp<|I.hok.fresh hp)<|I.hok.laid k hp new
theorem Inv.write(I:Inv X pins σ H s)(mu:fR (H x))(he:e=x\/H e=some (.own x))(k:∀b u,b≠e->s.heap.get? b=some u->h'.get? b=some u)(heo:∃u,h'.get? e=some u)
 (new:ZW X.prog X.w (upd H x o) h' x o):Inv X pins σ (upd H x o) {s with heap:=h',toks:=t'}:=I.un (Un.write mu he k heo)<|I.hok.write mu he k heo new
def Inv.weak(I:Inv X pins σ H s)(hl:σ'.length=σ.length)(w:∀(i:Nat) v,σ'[i]? = some (some v)->σ[i]? = some (some v)):Inv X pins σ' H s:=
 ⟨I.ok,I.os,I.bare,I.base,let⟨m,hn,hl'⟩:=I.loc;⟨m,hn,λi x v e1 e2 e3=>hl' i x v e1 (w i v e2) e3⟩,I.cell,I.free,I.freeC,I.pin,I.hok,hl.trans I.len⟩
def Inv.pins_of(I:Inv X pins σ H s)(h:∀p ∈ pins',s.heap.get? p.1=some p.2/\H p.1=none/\p.1≠X.env.locals/\p.1 ∉ X.fs/\∀v,p.2.data ≠ .cell v):Inv X pins' σ H s:=
 ⟨I.ok,I.os,I.bare,I.base,I.loc,I.cell,I.free,I.freeC,λp hp=>(zzM.mp hp).elim (λz=>I.pin p<|zzP _ z)<|h p,I.hok,I.len⟩
def Cq{N:List Str}(hN:N.Nodup){i j:Nat}{x}(a:N[i]? = some x)(b:N[j]? = some x):i=j:=by
 obtain⟨h1,e1⟩:=zzG.mp a;obtain⟨h2,e2⟩:=zzG.mp b;exact(List.getElem_inj hN).mp<|e1.trans e2.symm
def Hb{M A E}{i:Nat}{x v u Q}(I:Inv X pins σ H s)(hN:X.N.Nodup)(hi:X.N[i]? = some x)(hx:Loc X.env.scope x)(r:RelV v u)
 (h:∀s',Inv X pins (σ.set i<|some v) H s'->(∃a,Heap.SameBut a s.heap s'.heap/\(a=X.env.locals\/X.env.cells.lookup x=some a))->Q () s') (hf:X.fn x=true\/X.env.scope.names.lookup x=some .local:=by first|exact .inl rfl|exact .inr rfl|assumption):wpAny M A (storeName X.env x u) Q E s:=by
 obtain⟨m,hn,hl⟩:=id I.loc;have hcls:(X.env.scope.kind == .class||(X.env.scope.kind == .module&&X.env.locals != X.env.globals))=false:=by rw[I.ok.kind];rfl
 have hiσ:i<σ.length:=by rw[I.len];exact(zzG.mp hi).1
 have cne:=I.cne;have tracked:∀{a:Addr}{h':Heap},(∃o,s.heap.get? a=some o/\H a=none)->Heap.SameBut a s.heap h'->Nl X.prog X.w H h':=λ{a h'} ha hs b ob e=>by
  obtain⟨_,_,hfree⟩:=ha;refine(I.hok b ob e).stay (λc w' hc q=>(hs.2 c ?_).trans q) (λ_ q=>q) λ_ _ q=>q
  rintro rfl
  rcases hc with rfl|hc
  . rw[hfree]at e;cases e
  . rw[hfree]at hc;cases hc
 rcases hx with hk|hk
 . refine wpAny_storeName_local hk hn (λh' hn' hs=>?_) hcls;obtain⟨oL,_,_,hoL,_⟩:=id hn;refine h _ ⟨I.ok,I.os,I.bare,⟨λb o e n hb hx=>?_,λb o e n hb hx=>?_,I.base.free,λb o e hx=>?_,I.base.tups,I.base.frzs,I.base.tbls⟩,⟨_,hn',λj y v' e1 e2 e3=>?_⟩,λy c e=>?_,I.free,I.freeC,λp hp=>?_,tracked ⟨oL,hoL,I.free⟩ hs,by simpa using I.len⟩ ⟨_,hs,.inl rfl⟩
   . exact(hs.2 b<|zzQ<|zzK (zxH e) I.ok.above).trans<|I.base.keep b o e n hb hx
   . obtain⟨sl,e1⟩:=I.base.slot b o e n hb hx;exact⟨sl,(hs.2 b<|zzQ<|zzK (zxH e) I.ok.above).trans e1⟩
   . obtain⟨o',e1⟩:=I.base.there b o e hx;exact⟨o',(hs.2 b<|zzQ<|zzK (zxH e) I.ok.above).trans e1⟩
   . by_cases hj:j=i
     . subst hj;rw[hi]at e1;cases e1;rw[zyK hiσ]at e2;cases e2;exact⟨u,r,.inl ⟨hk,by simp⟩⟩
     . rw[zzY<|Ne.symm hj]at e2;obtain⟨u',r',q⟩:=hl j y v' e1 e2 e3;refine⟨u',r', ?_⟩
       rcases q with⟨k,e⟩|⟨k,c,e,z⟩
       . refine .inl ⟨k, ?_⟩;have:y≠x:=λe=>hj<|Cq hN e1<|e ▸ hi;simp[this,e]
       . exact .inr ⟨k,c,e,z.sameBut hs<|cne y c e⟩
   . obtain⟨w',z⟩:=I.cell y c e;exact⟨w',z.sameBut hs<|cne y c e⟩
   . obtain⟨e,n,ne,nf,d⟩:=I.pin p hp;exact⟨(hs.2 p.1 ne).trans e,n,ne,nf,d⟩
 . have hfn:X.fn x=true:=by
    rcases hf with z|z
    . exact z
    . rw[z]at hk;cases hk
   obtain⟨c,hc⟩:=I.ok.has x<|.inl hk;obtain⟨w',z⟩:=I.cell x c hc;refine wpAny_storeName_cell I.ok.kind hk hc z λh' hc' hs=>?_;obtain⟨oc,hoc,hocd⟩:=id z;refine h {s with heap:=h'} ⟨I.ok,I.os,I.bare,⟨λb o e n hb hx=>?_,λb o e n hb hx=>?_,I.base.free,λb o e hx=>?_,I.base.tups,I.base.frzs,I.base.tbls⟩,⟨m,hn.sameBut hs<|Ne.symm<|cne x c hc,λj y v' e1 e2 e3=>?_⟩,λy c' e=>?_,I.free,I.freeC,λp hp=>?_,tracked ⟨oc,hoc,I.freeC x c hc⟩ hs,by simpa using I.len⟩ ⟨c,hs,.inr hc⟩
   . exact(hs.2 b<|zzQ<|zzK (zxH e)<|I.ok.cab x c hfn hc).trans<|I.base.keep b o e n hb hx
   . obtain⟨sl,e1⟩:=I.base.slot b o e n hb hx;exact⟨sl,(hs.2 b<|zzQ<|zzK (zxH e)<|I.ok.cab x c hfn hc).trans e1⟩
   . obtain⟨o',e1⟩:=I.base.there b o e hx;exact⟨o',(hs.2 b<|zzQ<|zzK (zxH e)<|I.ok.cab x c hfn hc).trans e1⟩
   . by_cases hj:j=i
     . subst hj;rw[hi]at e1;cases e1;rw[zyK hiσ]at e2;cases e2;exact⟨u,r,.inr ⟨.inl hk,c,hc,hc'⟩⟩
     . rw[zzY<|Ne.symm hj]at e2;obtain⟨u',r',q⟩:=hl j y v' e1 e2 e3;refine⟨u',r', ?_⟩
       rcases q with q|⟨k,c',e,z'⟩
       . exact .inl q
       . refine .inr ⟨k,c',e,z'.sameBut hs ?_⟩
         rintro rfl
         exact hj<|Cq hN e1<|I.ok.inj _ _ _ e hc ▸ hi
   . by_cases hcc:c'=c
     . subst hcc;exact⟨_,hc'⟩
     . obtain⟨w2,z2⟩:=I.cell y c' e;exact⟨w2,z2.sameBut hs hcc⟩
   . obtain⟨e,n,ne,nf,d⟩:=I.pin p hp;refine⟨(hs.2 p.1 ?_).trans e,n,ne,nf,d⟩;intro q;rw[q,hoc]at e;have q':oc=p.2:=zzZ e;exact d w' (by rwa [<-q'])
def IY(I:Inv X pins σ H s)(hN:X.N.Nodup)(hi:X.N[i]? = some x)(hx:Loc X.env.scope x)(r:RelV v u)
 (h:∀s',Inv X pins (σ.set i<|some v) H s'->Q () s') (hf:X.fn x=true\/X.env.scope.names.lookup x=some .local:=by first|exact .inl rfl|exact .inr rfl|assumption):wpAny M A (storeName X.env x u) Q E s:=
 Hb I hN hi hx r (λs' I' _=>h s' I') hf
def Inv.call'(I:Inv X pins σ H s)(ho:s'.os=s.os)(u:Un (u4 X.stack) ch H H' s.heap s'.heap)(hok:Nl X.prog X.w H' s'.heap)(hg:AllBare s'.gens)
 (hch:∀b ∈ ch,(b ∈ X.ex\/X.s₀.heap.objs.size<=b)/\b≠X.env.locals/\(∀x c,X.env.cells.lookup x=some c->c≠b)/\∀p ∈ X.pn++pins,p.1≠b):Inv X pins σ H' s':=by
 obtain⟨h',g',d',t',o'⟩:=s';have e:=ho;subst e;exact I.call (g':=g') (t':=t') (d':=d') u hok hg hch
end
abbrev XK:=Value->Option Addr->Hp->Prop
abbrev St:=List<|Option V
abbrev VK:=V->Hp->Prop
abbrev TE:=St->Hp->VK->Prop
abbrev TT:=St->Hp->(Bool->Hp->Prop)->Prop
abbrev TA:=St->Hp->(List V->Hp->Prop)->Prop
structure Ends where
 nx:St->Hp->Prop
 rt:VK
 bk:St->Hp->Prop:=λ_ _=>False
 ct:St->Hp->Prop:=λ_ _=>False
abbrev TS:=Ends->St->Hp->Prop
def EP(X:Cx)(pins:List (Addr×Obj))(σ:St)(Q:VK)(u:Value)(s':Shared):Prop:=∃v H',Inv X pins σ H' s'/\RelV v u/\Q v H'
def TP(X:Cx)(pins:List (Addr×Obj))(σ:St)(Q:Bool->Hp->Prop)(b:Bool)(s':Shared):Prop:=∃H',Inv X pins σ H' s'/\Q b H'
def AP(X:Cx)(pins:List (Addr×Obj))(σ:St)(Q:List V->Hp->Prop)(us:List Value)(s':Shared):Prop:=∃vs H',Inv X pins σ H' s'/\zR vs us/\Q vs H'
def SP(X:Cx)(pins:List (Addr×Obj))(D:Ends)(f:Flow)(s':Shared):Prop:=
 match f with
 | .next=>∃σ' H',Inv X pins σ' H' s'/\D.nx σ' H'
 | .brk=>∃σ' H',Inv X pins σ' H' s'/\D.bk σ' H'
 | .cont=>∃σ' H',Inv X pins σ' H' s'/\D.ct σ' H'
 | .ret u=>∃v σ' H',Inv X pins σ' H' s'/\RelV v u/\D.rt v H'
def PE(X:Cx)(e:Expr)(t:TE):Prop:=
 ∀(pins:List (Addr×Obj)) (s:Shared) (σ:St) (H:Hp) (Q:VK),Inv X pins σ H s->t σ H Q->wpAny (model X.prog X.w) X.A (eval e X.env) (EP X pins σ Q) X.xe s
def PT(X:Cx)(e:Expr)(t:TT):Prop:=
 ∀(pins:List (Addr×Obj)) (s:Shared) (σ:St) (H:Hp) (Q:Bool->Hp->Prop),Inv X pins σ H s->t σ H Q->wpAny (model X.prog X.w) X.A (isTrue e X.env<|eval e X.env) (TP X pins σ Q) X.xe s
def PW(X:Cx)(e:Expr)(t:TT):Prop:=
 ∀(whole:Sem Value) (pins:List (Addr×Obj)) (s:Shared) (σ:St) (H:Hp) (Q:Bool->Hp->Prop),Inv X pins σ H s->t σ H Q->wpAny (model X.prog X.w) X.A (isTrue e X.env whole) (TP X pins σ Q) X.xe s
def PW.pt(h:PW X e t):PT X e t:=h _
def PA(X:Cx)(es:List Expr)(t:TA):Prop:=
 ∀(pos:Pos) (pins:List (Addr×Obj)) (s:Shared) (σ:St) (H:Hp) (Q:List V->Hp->Prop),Inv X pins σ H s->t σ H Q->wpAny (model X.prog X.w) X.A (spliced<|backTo pos<|starEach es X.env) (AP X pins σ Q) X.xe s
def PS(X:Cx)(st:Stmt)(t:TS):Prop:=
 ∀(pins:List (Addr×Obj)) (s:Shared) (σ:St) (H:Hp) (D:Ends),Inv X pins σ H s->t D σ H->wpAny (model X.prog X.w) X.A (exec st X.env) (SP X pins D) X.xe s
def HW(X:Cx)(st:List Stmt)(t:TS):Prop:=
 ∀(pins:List (Addr×Obj)) (s:Shared) (σ:St) (H:Hp) (D:Ends),Inv X pins σ H s->t D σ H->wpAny (model X.prog X.w) X.A (execs st X.env) (SP X pins D) X.xe s
def vK(h:wpAny M A t Q E s)(hQ:∀a s,Q a s->Q' a s):wpAny M A t Q' E s:=zxL h hQ λ_ _ x=>x
end L2
namespace L2
open PySem PySem.Spec PyProof.Rows
section
variable{X:Cx}
def U0(i:Nat):TE:=λσ H Q=>∃v,σ[i]? = some (some v)/\Q v H
def tC(v:V):TE:=λ_ H Q=>Q v H
def tq(hN:X.N[i]? = some x)(hv:fF X.env.scope x)(hd:(x==("__debug__":Str))=false:=by decide)(hcd:(x==("__classdict__":Str))=false:=by decide):PE X (.Name x pos) (U0 i):=by
 intro pins s σ H Q I h;obtain⟨v,e,h⟩:=h;obtain⟨m,hn,hl⟩:=I.loc;obtain⟨u,r,l⟩:=hl i x v hN e hv;have fin:EP X pins σ Q u s:=⟨v,H,I,r,h⟩
 rcases l with⟨hk,hm⟩|⟨hk,c,hc,hcell⟩
 . exact wpAny_Name (wpAny_loadName_local I.ok.kind hk hn hm fin) hd
 . rcases hk with hk|hk
   . exact wpAny_Name (wpAny_loadName_cell I.ok.kind hk hc hcell fin) hd
   . exact wpAny_Name (wpAny_loadName_free I.ok.kind hk hc hcell fin hcd) hd
def ky:PE X (.Constant (.int i) j pos) (tC<|.int i):=λ_ _ _ H _ I h=>wpAny_Constant_int ⟨.int i,H,I.tok _,⟨_,rfl⟩,h⟩
def iF:PE X (.Constant (.bool b) j pos) (tC<|.bl b):=λ_ _ _ H _ I h=>Constant_bool ⟨.bl b,H,I,rfl,h⟩
def lX:PE X (.Constant .none j pos) (tC .non):=λ_ _ _ H _ I h=>Constant_none ⟨.non,H,I,rfl,h⟩
def Gl(X:Cx)(x:Str):Prop:=X.env.kindOf x=some .globalImplicit
def Cb(I:Inv X pins σ H s)(hg:Gl X x)(hm:X.mg x=some u)(h:Q u s)
 (hd:(x==("__debug__":Str))=false:=by decide):wpAny (model X.prog X.w) X.A (eval (.Name x pos) X.env) Q E s:=
 Calls.Name_function_global I.ok.kind hg (Calls.loadGlobal_global (by rw[I.ok.glob];exact I.mod.glob.keeps I.bk) hm h) hd
def RG(I:Inv X pins σ H s)(hg:Gl X x)(hm:X.mg x=none)(hv:bootBuiltins x=some u)(h:Q u s)
 (hn:x≠"__name__":=by decide) (hd:(x==("__debug__":Str))=false:=by decide):wpAny (model X.prog X.w) X.A (eval (.Name x pos) X.env) Q E s:=by
 obtain⟨mb,h1,h2⟩:=I.mod.blt;exact Calls.Name_function_global I.ok.kind hg (Calls.loadGlobal_builtin (by rw[I.ok.glob];exact I.mod.glob.keeps I.bk) hm (by rw[I.ok.blt];exact h1.keeps I.bk) ((h2 x hn).trans hv) h) hd
def ny(hg:Gl X x)(hm:X.mg x=some u)(r:RelV v u)(hd:(x==("__debug__":Str))=false:=by decide):PE X (.Name x pos) (tC v):=
 λ_ _ _ H _ I h=>Cb I hg hm ⟨v,H,I,r,h⟩ hd
def nv(hg:Gl X x)(hm:X.mg x=none)(hv:bootBuiltins x=some u)(r:RelV v u)(hn:x≠"__name__":=by decide)(hd:(x==("__debug__":Str))=false:=by decide):PE X (.Name x pos) (tC v):=
 λ_ _ _ H _ I h=>RG I hg hm hv ⟨v,H,I,r,h⟩ hn hd
variable{a b:Expr}{ta tb:TE}{pos:Pos}
variable{tA tB':TT}{rest:List Expr}
def de(t u:TT):TT:=λσ H Q=>t σ H λc H1=>if c=true then u σ H1 Q else Q false H1
def c8(t u:TT):TT:=λσ H Q=>t σ H λc H1=>if c=true then Q true H1 else u σ H1 Q
def dm(t:TT):TT:=λσ H Q=>t σ H λc H1=>Q (!c) H1
def pf(ha:PT X a tA):PW X (.BoolOp .And [a] pos) tA:=by
 intro wh pins s σ H Q I h;refine isTrue_and<|vK (ha pins s σ H Q I h) λc s1 e=>?_;cases c with
 |true=>exact isTrue_and_nil e
 |false=>exact e
def kN(ha:PT X a tA):PW X (.BoolOp .Or [a] pos) tA:=by
 intro wh pins s σ H Q I h;refine isTrue_or<|vK (ha pins s σ H Q I h) λc s1 e=>?_;cases c with
 |false=>exact isTrue_or_nil e
 |true=>exact e
def jr(ha:PT X a tA)(hb:PW X (.BoolOp .And (b::rest) pos) tB'):PW X (.BoolOp .And (a::b::rest) pos) (de tA tB'):=by
 intro wh pins s σ H Q I h;refine isTrue_and<|vK (ha pins s σ H _ I h) λc s1 ⟨H1,I1,q1⟩=>?_;cases c with
 |true=>exact hb wh pins s1 σ H1 Q I1 q1
 |false=>exact⟨H1,I1,q1⟩
def gi(ha:PT X a tA)(hb:PW X (.BoolOp .Or (b::rest) pos) tB'):PW X (.BoolOp .Or (a::b::rest) pos) (c8 tA tB'):=by
 intro wh pins s σ H Q I h;refine isTrue_or<|vK (ha pins s σ H _ I h) λc s1 ⟨H1,I1,q1⟩=>?_;cases c with
 |true=>exact⟨H1,I1,q1⟩
 |false=>exact hb wh pins s1 σ H1 Q I1 q1
def lh(ha:PT X a tA):PT X (.UnaryOp .Not a pos) (dm tA):=by
 intro pins s σ H Q I h;exact isTrue_not<|ha pins s σ H _ I h
def gh(ta tb:TE):TE:=λσ H Q=>ta σ H λx H1=>∃c,x = .bl c/\if c=true then tb σ H1 Q else Q (.bl false) H1
def dQ(ta tb:TE):TE:=λσ H Q=>ta σ H λx H1=>∃c,x = .bl c/\if c=true then Q (.bl true) H1 else tb σ H1 Q
def gm(ta:TE):TE:=λσ H Q=>ta σ H λx H1=>∃c,x = .bl c/\Q (.bl<|!c) H1
def js(ha:PE X a ta)(hb:PE X (.BoolOp .And (b::rest) pos) tb):PE X (.BoolOp .And (a::b::rest) pos) (gh ta tb):=by
 intro pins s σ H Q I h;refine BoolOp_and<|vK (ha pins s σ H _ I h) λv s1 ⟨x,H1,I1,r1,q1⟩=>?_;obtain⟨c,rfl,q1⟩:=q1;cases r1;refine wpAny_truthy_bool ?_;cases c with
 |true=>exact hb pins s1 σ H1 Q I1 q1
 |false=>exact⟨.bl false,H1,I1,rfl,q1⟩
def iP(ha:PE X a ta)(hb:PE X (.BoolOp .Or (b::rest) pos) tb):PE X (.BoolOp .Or (a::b::rest) pos) (dQ ta tb):=by
 intro pins s σ H Q I h;refine BoolOp_or<|vK (ha pins s σ H _ I h) λv s1 ⟨x,H1,I1,r1,q1⟩=>?_;obtain⟨c,rfl,q1⟩:=q1;cases r1;refine wpAny_truthy_bool ?_;cases c with
 |false=>exact hb pins s1 σ H1 Q I1 q1
 |true=>exact⟨.bl true,H1,I1,rfl,q1⟩
def m8(ha:PE X a ta):PE X (.UnaryOp .Not a pos) (gm ta):=by
 intro pins s σ H Q I h;refine UnaryOp_<|vK (ha pins s σ H _ I h) λv s1 ⟨x,H1,I1,r1,q1⟩=>?_;obtain⟨c,rfl,q1⟩:=q1;cases r1;exact not_of<|wpAny_truthy_bool ⟨.bl _,H1,I1,rfl,q1⟩
def c9(t:TT)(ta tb:TE):TE:=λσ H Q=>t σ H λc H1=>if c=true then ta σ H1 Q else tb σ H1 Q
def sG(hc:PT X c tA)(ha:PE X a ta)(hb:PE X b tb):PE X (.IfExp c a b pos) (c9 tA ta tb):=by
 intro pins s σ H Q I h;refine wpAny_IfExp<|vK (hc pins s σ H _ I h) λd s1 ⟨H1,I1,q1⟩=>?_;cases d with
 |true=>exact ha pins s1 σ H1 Q I1 q1
 |false=>exact hb pins s1 σ H1 Q I1 q1
end
end L2
namespace L2
open PySem PySem.Spec PyProof.Rows
def FT(K:zzA)(H:Hp)(a:Addr)(xs:List V):Prop:=
 Rd H a (.lst xs) \/
  ∃(o:Obj) (its:Array Value) (n:Nat),K.lookup a=some o/\o.cls = .type "list"/\o.dict=none/\o.data = .seq its n/\its.size<=sizeLine/\zR xs its.toList
def sS(K:zzA)(H:Hp)(a:Addr)(xs:List V):Prop:=
 Rd H a (.lst xs)\/∃(its:Array Value) (n:Nat),K.lookup a=some {cls:=.type "list",data:=.seq its n}/\its.size<=sizeLine/\zR xs its.toList
def Gx(K:zzA)(H:Hp)(a:Addr)(xs:List V):Prop:=
 Rd H a (.tup xs) \/
  ∃(o:Obj) (its:Array Value) (n:Nat),K.lookup a=some o/\o.cls = .type "tuple"/\o.data = .seq its n/\its.size<=sizeLine/\zR xs its.toList
def fW:Value->Option V
 | .none=>some .non
 | .bool b=>some<|.bl b
 | .int i _=>some<|.int i
 | .str x _=>some<|.str x
 | .bytes b _=>some<|.byt b
 | .float b _=>some<|.flt b
 | .ref a=>some<|.ref a
 | .type n=>some (.ty n)
 |_=>none
def RelV.abs(r:RelV x u):fW u=some x:=by
 cases x with
 |non=>cases r;rfl
 |bl _=>cases r;rfl
 |int _=>obtain⟨t,rfl⟩:=r;rfl
 |str _=>obtain⟨t,rfl⟩:=r;rfl
 |byt _=>obtain⟨t,rfl⟩:=r;rfl
 |flt _=>obtain⟨t,rfl⟩:=r;rfl
 |ref _=>cases r;rfl
 |ty _=>cases r;rfl
def RelV.inj(r:RelV x u)(q:RelV y u):x=y:=zzZ<|r.abs.symm.trans q.abs
theorem zR.inj:∀{xs ys:List V}{us:List Value},zR xs us->zR ys us->xs=ys
 |_,_,_,.nil,.nil=>rfl
 |_,_,_,.cons r t,.cons r' t'=>by rw[r.inj r',zR.inj t t']
section
variable{X:Cx}{pins:List (Addr×Obj)}{σ:St}{H:Hp}{s:Shared}{a:Addr}{xs ys:List V}
def Inv.list(I:Inv X pins σ H s)(h:FT X.K H a xs):∃its:List Value,zR xs its/\PlainL s.heap a its.toArray/\xs.length<=sizeLine:=by
 rcases h with h|⟨o,its,n,hk,hc,hd,hs,hz,r⟩
 . obtain⟨z,its,n,r,e⟩:=h.ok I.hok;exact⟨its,r,⟨_,n,e,rfl,rfl,rfl⟩,z⟩
 . refine⟨its.toList,r,⟨o,n,I.kIn a o hk,hc,hd,by simpa using hs⟩, ?_⟩;have e:=r.length;simp at e;omega
def Inv.tuple(I:Inv X pins σ H s)(h:Gx X.K H a xs):∃its:List Value,zR xs its/\IsTup s.heap a its.toArray/\xs.length<=sizeLine:=by
 rcases h with h|⟨o,its,n,hk,hc,hs,hz,r⟩
 . obtain⟨z,its,r,p⟩:=h.ok I.hok;exact⟨its,r,p,z⟩
 . refine⟨its.toList,r,⟨o,I.kIn a o hk,hc,n,by simpa using hs⟩, ?_⟩;have e:=r.length;simp at e;omega
def Inv.list_inj(I:Inv X pins σ H s)(h:FT X.K H a xs)(h':FT X.K H a ys):xs=ys:=by
 obtain⟨its,r,⟨o,n,e,_,_,d⟩,_⟩:=I.list h;obtain⟨its',r',⟨o',n',e',_,_,d'⟩,_⟩:=I.list h';rw[e]at e';cases e';rw[d]at d';injection d' with d1 _
 have:its=its':=by simpa using congrArg Array.toList d1
 subst this;exact r.inj r'
def Inv.tuple_inj(I:Inv X pins σ H s)(h:Gx X.K H a xs)(h':Gx X.K H a ys):xs=ys:=by
 obtain⟨its,r,⟨o,e,_,n,d⟩,_⟩:=I.tuple h;obtain⟨its',r',⟨o',e',_,n',d'⟩,_⟩:=I.tuple h';rw[e]at e';cases e';rw[d]at d';injection d' with d1 _
 have:its=its':=by simpa using congrArg Array.toList d1
 subst this;exact r.inj r'
end
abbrev Cx.wish(X:Cx)(E:Value->Shared->Prop):Cx:={X with xe:=E}
abbrev Cx.nox(X:Cx):Cx:=X.wish λ_ _=>False
theorem Cx.Ok.wish{X:Cx}(ok:X.Ok)(E):(X.wish E).Ok:=
 ⟨ok.mod,ok.kind,ok.glob,ok.blt,ok.above,ok.inj,ok.has,ok.cab,ok.hd,ok.frames,ok.stk,ok.exf,ok.bs,ok.bsz,ok.noex,ok.exfs,ok.funs,ok.frf⟩
def Cx.Ok.unwish{X:Cx}{E}(ok:(X.wish E).Ok):X.Ok:=
 ⟨ok.mod,ok.kind,ok.glob,ok.blt,ok.above,ok.inj,ok.has,ok.cab,ok.hd,ok.frames,ok.stk,ok.exf,ok.bs,ok.bsz,ok.noex,ok.exfs,ok.funs,ok.frf⟩
section
variable{X:Cx}{pins:List (Addr×Obj)}{σ:St}{H:Hp}{s:Shared}{E:Value->Shared->Prop}
theorem Inv.wish(I:Inv X pins σ H s)(E:Value->Shared->Prop):Inv (X.wish E) pins σ H s:=⟨I.ok.wish E,I.os,I.bare,I.base,I.loc,I.cell,I.free,I.freeC,I.pin,I.hok,I.len⟩
theorem Inv.unwish(I:Inv (X.wish E) pins σ H s):Inv X pins σ H s:=⟨I.ok.unwish,I.os,I.bare,I.base,I.loc,I.cell,I.free,I.freeC,I.pin,I.hok,I.len⟩
theorem SP.unwish(h:SP (X.wish E) pins D f s'):SP X pins D f s':=by
 cases f with
 |next=>obtain⟨σ',H',I,q⟩:=h;exact⟨σ',H',I.unwish,q⟩
 |brk=>obtain⟨σ',H',I,q⟩:=h;exact⟨σ',H',I.unwish,q⟩
 |cont=>obtain⟨σ',H',I,q⟩:=h;exact⟨σ',H',I.unwish,q⟩
 |ret u=>obtain⟨v,σ',H',I,r,q⟩:=h;exact⟨v,σ',H',I.unwish,r,q⟩
theorem HW.nox{st t}(h:HW X.nox st t):HW X st t:=λpins s σ H D I hw=>
 zxL (h pins s σ H D (I.wish _) hw) (λ_ _ q=>q.unwish) λ_ _ z=>False.elim z
end
section
variable{X:Cx}{st:Stmt}{rest:List Stmt}{t u:TS}{e:Expr}{te:TE}{pos:Pos}
def gy:TS:=λD σ H=>D.nx σ H
def dy(t u:TS):TS:=λD σ H=>t {D with nx:=u D} σ H
def M4:HW X [] gy:=λ_ _ σ H _ I h=>wpAny_execs_nil ⟨σ,H,I,h⟩
def Wj(h1:PS X st t)(h2:HW X rest u):HW X (st::rest) (dy t u):=by
 intro pins s σ H D I h;refine wpAny_execs_cons<|vK (h1 pins s σ H {D with nx:=u D} I h) λf s1 q=>?_;cases f with
 |next=>
  obtain⟨σ',H',I',q⟩:=q;exact h2 pins s1 σ' H' D I' q
 |ret v=>exact q
 |brk=>exact q
 |cont=>exact q
def GZ(h1:PS X st t):HW X [st] t:=by
 intro pins s σ H D I h;refine wpAny_execs_cons<|vK (h1 pins s σ H D I h) λf s1 q=>?_;cases f with
 |next=>exact wpAny_execs_nil q
 |ret v=>exact q
 |brk=>exact q
 |cont=>exact q
def Inv.quiet(I:Inv X pins σ H s):interactive X.env=false:=by simp[interactive,I.ok.kind]
def gc(te:TE):TS:=λD σ H=>te σ H λ_ H1=>D.nx σ H1
def MO(he:PE X e te)(hs:swapsWith e none pos.line X.env=pure false:=by rfl):PS X (.Expr e pos) (gc te):=by
 intro pins s σ H D I h;exact wpAny_Expr_any (vK (he pins s σ H _ I h) λv s1 ⟨x,H1,I1,r1,q1⟩=>⟨σ,H1,I1,q1⟩) I.quiet hs
def eZ(te:TE):TS:=λD σ H=>te σ H D.rt
def sQ(he:PE X e te):PS X (.Return (some e) pos) (eZ te):=by
 intro pins s σ H D I h;exact wpAny_Return_some<|vK (he pins s σ H _ I h) λv s1 ⟨x,H1,I1,r1,q1⟩=>⟨x,σ,H1,I1,r1,q1⟩
def j_:TS:=λD _ H=>D.rt .non H
def nq:PS X (.Return none pos) j_:=λ_ _ σ H _ I h=>wpAny_Return_none ⟨.non,σ,H,I,rfl,h⟩
def dz(c:TT)(t u:TS):TS:=λD σ H=>c σ H λb H1=>if b=true then t D σ H1 else u D σ H1
def AU(hc:PT X c tc)(ha:HW X a t)(hb:HW X b u):PS X (.If c a b pos) (dz tc t u):=by
 intro pins s σ H D I h;refine wpAny_If<|vK (hc pins s σ H _ I h) λd s1 ⟨H1,I1,q1⟩=>?_;cases d with
 |true=>exact ha pins s1 σ H1 D I1 q1
 |false=>exact hb pins s1 σ H1 D I1 q1
end
abbrev TG:=V->St->Hp->(St->Hp->Prop)->Prop
abbrev kW:=List V->St->Hp->(St->Hp->Prop)->Prop
def PG(X:Cx)(target:Expr)(t:TG):Prop:=
 ∀(pins:List (Addr×Obj)) (s:Shared) (σ:St) (H:Hp) (v:V) (u:Value) (Q:St->Hp->Prop),Inv X pins σ H s->RelV v u->t v σ H Q->
  wpAny (model X.prog X.w) X.A (assign target X.env u) (λ_ s'=>∃σ' H',Inv X pins σ' H' s'/\Q σ' H') X.xe s
def mX(X:Cx)(ts:List Expr)(t:kW):Prop:=
 ∀(pins:List (Addr×Obj)) (s:Shared) (σ:St) (H:Hp) (vs:List V) (us:List Value) (Q:St->Hp->Prop),Inv X pins σ H s->zR vs us->t vs σ H Q->
  wpAny (model X.prog X.w) X.A (assignInOrder ((assignEach ts X.env).map (·.2)) us) (λ_ s'=>∃σ' H',Inv X pins σ' H' s'/\Q σ' H') X.xe s
abbrev iA:=V->V->V->Hp->(Hp->Prop)->Prop
def ic(X:Cx)(t:iA):Prop:=
 ∀(pins:List (Addr×Obj)) (s:Shared) (σ:St) (H:Hp) (o i v:V) (ov iv u:Value) (Q:Hp->Prop),Inv X pins σ H s->RelV o ov->RelV i iv->RelV v u->t o i v H Q->
  wpAny (model X.prog X.w) X.A (setItem ov iv u) (λ_ s'=>∃H',Inv X pins σ H' s'/\Q H') X.xe s
section
variable{X:Cx}{pos:Pos}
def DU(i:Nat):TG:=λv σ H Q=>Q (σ.set i<|some v) H
def q9(hN:X.N.Nodup)(hi:X.N[i]? = some x)(hx:Loc X.env.scope x)(hf:X.fn x=true\/X.env.scope.names.lookup x=some .local:=by first|exact .inl rfl|exact .inr rfl|assumption):PG X (.Name x pos) (DU i):=by
 intro pins s σ H v u Q I r h;exact wpAny_assign_Name<|IY I hN hi hx r (λs' I'=>⟨_,H,I',h⟩) hf
def dv:kW:=λvs σ H Q=>vs=[]/\Q σ H
def ia(t:TG)(u:kW):kW:=λvs σ H Q=>∃v r,vs=v::r/\t v σ H λσ' H'=>u r σ' H' Q
def pW:mX X [] dv:=by
 intro pins s σ H vs us Q I r h;obtain⟨e,h⟩:=h;subst e;exact assignInOrder_nil ⟨σ,H,I,h⟩
def tM(h1:PG X e t)(h2:mX X es u)
 (hs:(assignEach (e::es) X.env).map (·.2)=assign e X.env::(assignEach es X.env).map (·.2):=by rfl):mX X (e::es) (ia t u):=by
 intro pins s σ H vs us Q I r h;obtain⟨v,vr,e1,h⟩:=h;subst e1;cases r with
 |cons r rr=>
  rw[hs];refine assignInOrder_cons<|vK (h1 pins s σ H _ _ _ I r h) λ_ s1 ⟨σ1,H1,I1,q1⟩=>?_;exact h2 pins s1 σ1 H1 _ _ Q I1 rr q1
def eh(K:zzA)(n:Nat)(t:kW):TG:=λv σ H Q=>∃a xs,v = .ref a/\Gx K H a xs/\xs.length=n/\t xs σ H Q
def kK(hc:X.calm=true)(h:mX X es t)
 (hn:(assignEach es X.env).length=n:=by rfl) (hst:(assignEach es X.env).findIdx? (·.1)=none:=by rfl):PG X (.Tuple es k pos) (eh X.K n t):=by
 intro pins s σ H v u Q I r hw;obtain⟨a,xs,e1,hq,hl,hw⟩:=hw;subst e1;cases r;obtain⟨its,rv,ht,hz⟩:=I.tuple hq;refine assign_Tuple_tuple (I.ok.hd hc) ht (by simp[hn,<-hl,rv.length]) hst λh' hx=>?_;have I1:=I.kept (t':=s.toks) λb o e=>hx b o (zzQ<|zxH e) e;exact h pins _ σ H xs _ Q I1 (by simpa using rv) hw
def ef(to ti:TE)(t:iA):TG:=λv σ H Q=>to σ H λo H1=>ti σ H1 λi H2=>t o i v H2 λH3=>Q σ H3
def jw(ho:PE X o to)(hi:PE X i ti)(hs:ic X t)
 (ha:∀v,assign (.Subscript o i pos) X.env v=(do
  let ov <-holding [v] (eval o X.env);let iv <-holding [v,ov] (eval i X.env)
  standAt pos
  holding [v,ov,iv] (setItem ov iv v)
  release [v,ov,iv] []):=by intro _;rfl):PG X (.Subscript o i pos) (ef to ti t):=by
 intro pins s σ H v u Q I r h;rw[ha];refine zxE<|zxJ<|vK (ho pins s σ H _ I h) λov s1 ⟨x,H1,I1,r1,q1⟩=>?_;refine zxE<|zxJ<|vK (hi pins s1 σ H1 _ I1 q1) λiv s2 ⟨y,H2,I2,r2,q2⟩=>?_;refine zxE<|wpAny_standAt<|zxE<|zxJ<|vK (hs pins s2 σ H2 x y v ov iv u _ I2 r1 r2 r q2) λ_ s3 ⟨H3,I3,q3⟩=>?_;exact wpAny_release ⟨σ,H3,I3,q3⟩
def jk(te:TE)(g:TG):TS:=λD σ H=>te σ H λx H1=>g x σ H1 D.nx
def rn(he:PE X e te)(hg:PG X tg g)(hs:swapsWithSole [tg] e pos.line X.env=pure false:=by rfl)(hw:swappedStores [tg] e X.env=pure none:=by rfl)
 (h1:(assignEach [tg] X.env).map (·.2)=[assign tg X.env]:=by rfl):PS X (.Assign [tg] e pos) (jk te g):=by
 intro pins s σ H D I h;refine wpAny_Assign_stores (vK (he pins s σ H _ I h) λv s1 ⟨x,H1,I1,r1,q1⟩=>?_) hs hw;rw[h1];exact vK (hg pins s1 σ H1 x v _ I1 r1 q1) λ_ s2 q=>q
def tW(hN:X.N.Nodup)(hi:X.N[i]? = some x)(hx:Loc X.env.scope x)(he:PE X e te)(hs:swapsWith e (some<|.Name x pos') pos.line X.env=pure false:=by rfl)(hf:X.fn x=true\/X.env.scope.names.lookup x=some .local:=by first|exact .inl rfl|exact .inr rfl|assumption):
 PS X (.Assign [.Name x pos'] e pos) (jk te<|DU i):=by
 intro pins s σ H D I h;refine wpAny_Assign_Name (vK (he pins s σ H _ I h) λv s1 ⟨y,H1,I1,r1,q1⟩=>?_) hs;exact IY I1 hN hi hx r1 (λs2 I2=>⟨_,H1,I2,q1⟩) hf
end
structure It where
 go:Nat->Hp->Prop
 yld:Nat->Hp->V->Hp->Prop
 stop:Nat->Hp->Prop
def Mv(X:Cx)(pins:List (Addr×Obj))(H:Hp)(b:Addr):Prop:=
 H b=none/\b≠X.env.locals/\b ∉ X.fs/\(b ∈ X.ex\/X.s₀.heap.objs.size<=b)/\(∀x c,X.env.cells.lookup x=some c->c≠b)/\∀p ∈ X.pn++pins,p.1≠b
def Inv.fpOk(I:Inv X pins σ H s)(hb:s.heap.objs.size<=b)(hn:H' b=none):Mv X pins H' b:=by
 refine⟨hn,Nat.ne_of_gt<|zzK I.lt hb,I.nofs hb,.inr<|zzO I.sz hb,λx c e z=>?_,λp hp z=>?_⟩
 . obtain⟨v,q⟩:=I.cell x c e;exact absurd (zzK q.lt<|by rwa [z])<|Nat.lt_irrefl _
 . exact absurd (zzK (zxH (I.pin p hp).1)<|by rwa [z])<|Nat.lt_irrefl _
structure Turn(P:Program)(w:World)(K:zzA)(tg:Expr)(J:It)(fp:List Addr)(it:Addr)(tn:Nat->Heap->Prop):Prop where
 mem:it ∈ fp
 obj:∀i h,tn i h->∀b ∈ fp,∃o,h.get? b=some o/\∀v,o.data ≠ .cell v
 keep:∀i h h',tn i h->(∀b ∈ fp,∀o,h.get? b=some o->h'.get? b=some o)->tn i h'
 item:∀(X:Cx),X.prog=P->X.w=w->X.K=K->X.calm=true->∀(i:Nat) (pins:List (Addr×Obj)) (s:Shared) (σ:St) (H:Hp) (E:Value->Shared->Prop),Inv X pins σ H s->(∀b ∈ fp,Mv X pins H b)->tn i s.heap->J.go i H->
  wpAny (model P w) X.A (pyNext<|.ref it) (λr s1=>∃u,r=some u/\
   wpAny (model P w) X.A (letOwnedTupleGo tg (.ref it) u) (λ_ s2=>∃x H',Inv X pins σ H' s2/\RelV x u/\J.yld i H x H'/\tn (i+1) s2.heap/\∀b ∈ fp,H' b=none) E s1) E s
 done:∀(X:Cx),X.prog=P->X.w=w->X.K=K->X.calm=true->∀(i:Nat) (pins:List (Addr×Obj)) (s:Shared) (σ:St) (H:Hp) (E:Value->Shared->Prop),Inv X pins σ H s->(∀b ∈ fp,Mv X pins H b)->tn i s.heap->J.stop i H->
  wpAny (model P w) X.A (pyNext<|.ref it) (λr s1=>r=none/\Inv X pins σ H s1) E s
 self:∀(A:Around) (i:Nat) (s:Shared) (Q:Value->Shared->Prop) (E:Value->Shared->Prop),tn i s.heap->Q (.ref it) s->wpAny (model P w) A (pyIter<|.ref it) Q E s
abbrev TI:=St->Hp->(It->Hp->Prop)->Prop
def cB(X:Cx)(pins:List (Addr×Obj))(σ:St)(tg:Expr)(R:It->Hp->Prop)(itv:Value)(s2:Shared):Prop:=
 ∃(it:Addr) (fp:List Addr) (tn:Nat->Heap->Prop) (J:It) (H':Hp),itv = .ref it/\Inv X pins σ H' s2/\Turn X.prog X.w X.K tg J fp it tn/\tn 0 s2.heap/\(∀b ∈ fp,Mv X pins H' b)/\R J H'
def PI(X:Cx)(tg iter:Expr)(wi:TI):Prop:=
 ∀(pins:List (Addr×Obj)) (s:Shared) (σ:St) (H:Hp) (R:It->Hp->Prop),Inv X pins σ H s->wi σ H R->
  wpAny (model X.prog X.w) X.A (eval iter X.env) (λv s1=>wpAny (model X.prog X.w) X.A (pyIter v) (cB X pins σ tg R) X.xe s1) X.xe s
def qt(ho:s.heap.get? it=some o)(hc:o.cls = .type n)(hd:o.data = .fields vs)
 (hn : ["enumerate","zip","dict_itemiterator","dict_reverseitemiterator","odict_iterator","itertools.zip_longest","itertools.pairwise"].contains n=false) (hQ:Q () s):wpAny M A (letOwnedTupleGo tg (.ref it) u) Q E s:=by
 cases tg<;>first
  |exact zxF hQ
  |(cases u<;>first
   |exact zxF hQ
   | (refine zxE (wpAny_load ho ?_)
      rw[hc,hd];show wpAny M A (if _=true then _ else _) Q E s;rw[if_neg (by intro h;rw[hn]at h;cases h)];exact zxF hQ))
def fA(K:zzA)(a:Addr):It:=
 ⟨λi H=>∃xs x,FT K H a xs/\xs[i]? = some x,λi H x H'=>H'=H/\∀xs,FT K H a xs->xs[i]? = some x,λi H=>∃xs,FT K H a xs/\xs.length<=i⟩
def fG(K:zzA)(a:Addr):It:=
 ⟨λi H=>∃xs x,Gx K H a xs/\xs[i]? = some x,λi H x H'=>H'=H/\∀xs,Gx K H a xs->xs[i]? = some x,λi H=>∃xs,Gx K H a xs/\xs.length<=i⟩
def jX(lo:Int)(n:Nat):It:=⟨λi _=>i<n,λi H x H'=>H'=H/\x = .int (lo+i),λi _=>n<=i⟩
def D1{P w K tg}(a it):Turn P w K tg (fA K a) [it] it (λi h=>h.IsListIter it a i)where
 mem:=by simp
 obj:=λi h st b hb=>by
  have e:b=it:=by simpa using hb
  subst e;obtain⟨o,e,c,d⟩:=st;exact⟨o,e,λv z=>by rw[d]at z;cases z⟩
 keep:=λi h h' st k=>st.at λo e=>k it (by simp) o e
 item:=by
  intro X hP hw hK hc i pins s σ H E I hf st hg;subst hP hw hK;obtain⟨xs,x,hq,hx⟩:=hg;obtain⟨its,rv,p,hz⟩:=I.list hq;obtain⟨u,hu,ru⟩:=rv.get hx;obtain⟨f0,f1,f2,f3,f4,f5⟩:=hf it (by simp);refine wpAny_pyNext_list_item st p.isList (by simpa using hu) λh' st' sb=>?_;have I1:=I.turned (t':=s.toks) (λb o hb e=>(sb.2 b hb).trans e) f0 f1 f3 f4 f5;obtain⟨o,e,c,d⟩:=id st';exact⟨u,rfl,qt e c d (by decide) ⟨x,H,I1,ru,⟨rfl,λys hy=>by rwa [I.list_inj hy hq]⟩,st',λb hb=>(hf b hb).1⟩⟩
 done:=by
  intro X hP hw hK hc i pins s σ H E I hf st hg;subst hP hw hK;obtain⟨xs,hq,hx⟩:=hg;obtain⟨its,rv,p,hz⟩:=I.list hq;obtain⟨f0,f1,f2,f3,f4,f5⟩:=hf it (by simp);have hl:=rv.length;exact wpAny_pyNext_list_end (I.ok.hd hc) st p.isList (by simp;omega) λh' eb=>⟨rfl,I.turned (t':=s.toks) (λb o hb e=>eb b o hb e) f0 f1 f3 f4 f5⟩
 self:=λ_ _ _ _ _ st h=>wpAny_pyIter_listiter st h
def JH{P w K tg}(a it):Turn P w K tg (fG K a) [it] it (λi h=>h.IsTupleIter it a i)where
 mem:=by simp
 obj:=λi h st b hb=>by
  have e:b=it:=by simpa using hb
  subst e;obtain⟨o,e,c,d⟩:=st;exact⟨o,e,λv z=>by rw[d]at z;cases z⟩
 keep:=λi h h' st k=>st.at λo e=>k it (by simp) o e
 item:=by
  intro X hP hw hK hc i pins s σ H E I hf st hg;subst hP hw hK;obtain⟨xs,x,hq,hx⟩:=hg;obtain⟨its,rv,p,hz⟩:=I.tuple hq;obtain⟨u,hu,ru⟩:=rv.get hx;obtain⟨f0,f1,f2,f3,f4,f5⟩:=hf it (by simp);refine wpAny_pyNext_tuple_item st (p) (by simpa using hu) λh' st' sb=>?_;have I1:=I.turned (t':=s.toks) (λb o hb e=>(sb.2 b hb).trans e) f0 f1 f3 f4 f5;obtain⟨o,e,c,d⟩:=id st';exact⟨u,rfl,qt e c d (by decide) ⟨x,H,I1,ru,⟨rfl,λys hy=>by rwa [I.tuple_inj hy hq]⟩,st',λb hb=>(hf b hb).1⟩⟩
 done:=by
  intro X hP hw hK hc i pins s σ H E I hf st hg;subst hP hw hK;obtain⟨xs,hq,hx⟩:=hg;obtain⟨its,rv,p,hz⟩:=I.tuple hq;obtain⟨f0,f1,f2,f3,f4,f5⟩:=hf it (by simp);have hl:=rv.length;exact wpAny_pyNext_tuple_end (I.ok.hd hc) st (p) (by simp;omega) λh' eb=>⟨rfl,I.turned (t':=s.toks) (λb o hb e=>eb b o hb e) f0 f1 f3 f4 f5⟩
 self:=λ_ _ _ _ _ st h=>wpAny_pyIter_tupleiter st h
def JD{P w K tg}(it)(lo)(n:Nat):Turn P w K tg (jX lo n) [it] it (λi h=>IsRangeIter h it (lo+(i:Nat)*1) ((n:Int)-(i:Nat)) 1)where
 mem:=by simp
 obj:=λi h st b hb=>by
  have e:b=it:=by simpa using hb
  subst e;exact⟨_,st,λv z=>by
   have z':Data.fields _=Data.cell v:=z;cases z'⟩
 keep:=λi h h' st k=>k it (by simp) _ st
 item:=by
  intro X hP hw hK hc i pins s σ H E I hf st hg;subst hP hw hK;obtain⟨f0,f1,f2,f3,f4,f5⟩:=hf it (by simp);have W:=Walks.range (prog:=X.prog) (w:=X.w) (I.ok.hd hc) it lo 1 n;refine W.item i s _ _ hg st λv h' tk hv st' kk=>?_;obtain⟨t,rfl⟩:=hv;have I1:Inv X pins σ H {s with heap:=h',toks:=tk}:=I.turned (λb o hb e=>kk b o (by simpa using hb) e) f0 f1 f3 f4 f5;refine⟨_,rfl,qt st' rfl rfl (by decide) ⟨.int _,H,I1,⟨t, ?_⟩,⟨rfl,rfl⟩,st',λb hb=>(hf b hb).1⟩⟩;rw[Int.mul_one]
 done:=by
  intro X hP hw hK hc i pins s σ H E I hf st hg;subst hP hw hK;obtain⟨f0,f1,f2,f3,f4,f5⟩:=hf it (by simp);exact wpAny_pyNext_range_end (I.ok.hd hc) st (by have:n<=i:=hg;omega) λh' eb=>⟨rfl,I.turned (t':=s.toks) (λb o hb e=>eb b o hb e) f0 f1 f3 f4 f5⟩
 self:=λ_ _ _ _ _ st h=>wpAny_pyIter_rangeiter st h
end L2
namespace L2
open PySem PySem.Spec PyProof.Rows
section
variable{X:Cx}{tg:Expr}
def iw(K:zzA)(tl:TE):TI:=λσ H R=>tl σ H λx H1=>∃a,x = .ref a/\(∃xs,FT K H1 a xs)/\R (fA K a) H1
def du(K:zzA)(tl:TE):TI:=λσ H R=>tl σ H λx H1=>∃a,x = .ref a/\(∃xs,Gx K H1 a xs)/\R (fG K a) H1
def H_{l tl}(hl:PE X l tl):PI X tg l (iw X.K tl):=by
 intro pins s σ H R I h;refine vK (hl pins s σ H _ I h) λv s1 ⟨x,H1,I1,r1,q1⟩=>?_;obtain⟨a,e,⟨xs,hq⟩,q⟩:=q1;subst e;cases r1;obtain⟨its,rv,p,hz⟩:=I1.list hq;refine wpAny_pyIter_list p.isList ?_;refine⟨s1.heap.objs.size,[s1.heap.objs.size],_,_,H1,rfl,I1.kept (t':=s1.toks) λb o e=>zxG _ e,D1 a _,⟨_,zxI _ rfl,rfl,rfl⟩,λb hb=>?_,q⟩;have e:b=s1.heap.objs.size:=by simpa using hb
 subst e;exact I1.fpOk (zzN _)<|I1.hok.fresh<|zzN _
def Jy{l tl}(hl:PE X l tl):PI X tg l (du X.K tl):=by
 intro pins s σ H R I h;refine vK (hl pins s σ H _ I h) λv s1 ⟨x,H1,I1,r1,q1⟩=>?_;obtain⟨a,e,⟨xs,hq⟩,q⟩:=q1;subst e;cases r1;obtain⟨its,rv,p,hz⟩:=I1.tuple hq;refine wpAny_pyIter_tuple (p) ?_;refine⟨s1.heap.objs.size,[s1.heap.objs.size],_,_,H1,rfl,I1.kept (t':=s1.toks) λb o e=>zxG _ e,JH a _,⟨_,zxI _ rfl,rfl,rfl⟩,λb hb=>?_,q⟩;have e:b=s1.heap.objs.size:=by simpa using hb
 subst e;exact I1.fpOk (zzN _)<|I1.hok.fresh<|zzN _
def Ib{pins σ H s R E lo hi t u v}{tk:Nat}(I:Inv X pins σ H s)(h1 : -(2 ^ 62)<=lo)(h2:lo<2 ^ 62)(h3 : -(2 ^ 62)<=hi)(h4:hi<2 ^ 62)
 (q:R (jX lo (hi-lo).toNat) H):wpAny (model X.prog X.w) X.A (pyIter<|.ref s.heap.objs.size) (cB X pins σ tg R) E {s with heap:=s.heap.push {cls:=.type "range",data:=.fields #[.int lo t,.int hi u,.int 1 v]},toks:=tk}:=by
 refine wpAny_pyIter_range (IsRange.new ..) (small_one h1 h2 h3 h4) ?_;have I1:Inv X pins σ H {s with heap:=s.heap.push {cls:=.type "range",data:=.fields #[.int lo t,.int hi u,.int 1 v]},toks:=tk}:=I.kept λb o e=>zxG _ e;refine⟨(s.heap.push {cls:=.type "range",data:=.fields #[.int lo t,.int hi u,.int 1 v]}).objs.size,[(s.heap.push {cls:=.type "range",data:=.fields #[.int lo t,.int hi u,.int 1 v]}).objs.size],_,_,H,rfl,
  I1.kept (t':=tk) λb o e=>zxG _ e,JD _ lo (hi-lo).toNat, ?_,λb hb=>?_,q⟩
 . have e1:lo+((0:Nat):Int)*1=lo:=by simp
   have e2:(((hi-lo).toNat:Nat):Int)-((0:Nat):Int)=Builtin.Range.rangeSize lo hi 1:=by rw[rangeSize_one];split<;>omega
   rw[e1,e2];exact zxI _ rfl
 . have e:b=(s.heap.push {cls:=.type "range",data:=.fields #[.int lo t,.int hi u,.int 1 v]}).objs.size:=by simpa using hb
   subst e;exact I1.fpOk (zzN _)<|I1.hok.fresh<|zzN _
def iz(ta:TA):TI:=λσ H R=>ta σ H λvs H1=>∃j:Int,vs=[.int j] /\ -(2 ^ 62)<=j/\j<2 ^ 62/\R (jX 0 j.toNat) H1
def ib(ta:TA):TI:=λσ H R=>ta σ H λvs H1=>∃i j:Int,vs=[.int i,.int j]/\(-(2 ^ 62)<=i/\i<2 ^ 62 /\ -(2 ^ 62)<=j/\j<2 ^ 62)/\R (jX i (j-i).toNat) H1
def Sx{a ta p pos}(hg:Gl X "range")(hm:X.mg "range"=none)(ha:PA X [a] ta)(hs:starEach [a] X.env=[(false,eval a X.env)]:=by rfl):PI X tg (.Call (.Name "range" p) [a] [] pos) (iz ta):=by
 intro pins s σ H R I h;refine Call_<|RG I hg hm boot_range<|PyProof.Rows.callWith_type1 (vK (ha pos pins s σ H _ I h) λus s1 ⟨vs,H1,I1,r1,q1⟩=>?_) hs rfl;obtain⟨j,e,q1,q2,q⟩:=q1;subst e;cases r1 with
 |cons r rr=>
  cases rr;obtain⟨t,rfl⟩:=r;exact call_range_1 (Ib I1 (by omega) (by omega) q1 q2<|by simpa using q)
def uq(hg:Gl X "range")(hm:X.mg "range"=none)(ha:PA X [a,b] ta)(hs:starEach [a,b] X.env=[(false,eval a X.env),(false,eval b X.env)]:=by rfl)(hs2:starEach [b] X.env=[(false,eval b X.env)]:=by rfl):
 PI X tg (.Call (.Name "range" p) [a,b] [] pos) (ib ta):=by
 intro pins s σ H R I h;refine Call_ (RG I hg hm boot_range<|PyProof.Rows.callWith_type1 (vK (ha pos pins s σ H _ I h) λus s1 ⟨vs,H1,I1,r1,q1⟩=>?_) (by rw[hs,hs2])<|by rw[hs2];rfl);obtain⟨i,j,e,⟨q1,q2,q3,q4⟩,q⟩:=q1;subst e;cases r1 with
 |cons r rr=>
  cases rr with
  |cons r' rr=>
   cases rr;obtain⟨t,rfl⟩:=r;obtain⟨t',rfl⟩:=r';exact call_range_2<|Ib I1 q1 q2 q3 q4 q
def eI(wi:TI)(g:TG)(tb:TS):TS:=λD σ H=>wi σ H λJ H1=>∃W:Nat->Nat->St->Hp->Prop,(∃m,W 0 m σ H1)/\∀i m σ H,W i m σ H->
 (J.stop i H/\D.nx σ H)\/(J.go i H/\∃N:St->Hp->Prop,(∀σ' H',N σ' H'->∃m',m'<m/\W (i+1) m' σ' H')/\∀x H',J.yld i H x H'->g x σ H' λσ2 H2=>tb {D with nx:=N,ct:=N,bk:=D.nx} σ2 H2)
def Jz(fp:List Addr)(h:Heap):List (Addr×Obj):=fp.filterMap λb=>(h.get? b).map λo=>(b,o)
def Qt(hb:b ∈ fp)(e:h.get? b=some o):(b,o) ∈ Jz fp h:=List.mem_filterMap.mpr ⟨b,hb,by rw[e];rfl⟩
def uI(hp:p ∈ Jz fp h):p.1 ∈ fp/\h.get? p.1=some p.2:=by
 obtain⟨b,hb,e⟩:=List.mem_filterMap.mp hp;cases q:h.get? b with
 |none=>rw[q]at e;cases e
 |some o=>
  rw[q]at e;have e':_=p:=zzZ e;subst e';exact⟨hb,q⟩
def Inv.pinned(I:Inv X pins σ H s)(hf:∀b ∈ fp,Mv X pins H b)(ho:∀b ∈ fp,∃o,s.heap.get? b=some o/\∀v,o.data ≠ .cell v):Inv X (pins++Jz fp s.heap) σ H s:=
 I.pins_of λp hp=>(zzM.mp hp).elim (λz=>I.pin p<|zzL _ z) λz=>by
  obtain⟨hb,e⟩:=uI z;obtain⟨f0,f1,f2,_⟩:=hf p.1 hb;obtain⟨o,e',d⟩:=ho p.1 hb;rw[e]at e';cases e';exact⟨e,f0,f1,f2,d⟩
def Inv.unpinned(I:Inv X (pins++pl) σ H s):Inv X pins σ H s:=I.pins_of λp hp=>I.pin p<|zzL _<|zzP _ hp
def sr(hp:PassesOwn (model X.prog X.w) X.A X.env X.xe)(hc:X.calm=true)(hi:PI X tg iter wi)(hg:PG X tg g)(hb:HW X body tb)
 (hs:∀x,foldedSetIterable iter X.env x=pure x:=by intro _;rfl):PS X (.For tg iter body [] pos) (eI wi g tb):=by
 intro pins s σ H D I h;refine wpAny_For (vK (hi pins s σ H _ I h) λv s1 h1=>vK h1 λitv s2 h2=>?_) hs;obtain⟨it,fp,tn,J,H2,e,I2,T,st2,f2,W,⟨m0,w0⟩,turn⟩:=h2;subst e;have stat:∀{H':Hp},(∀b ∈ fp,H' b=none)->∀b ∈ fp,Mv X pins H' b:=λhn b hb=>⟨hn b hb,(f2 b hb).2⟩;refine codeAny_forLoop_any (λn s'=>∃i σ' H',Inv X pins σ' H' s'/\tn i s'.heap/\(∀b ∈ fp,H' b=none)/\W i n σ' H') ?_ m0 ⟨0,σ,H2,I2,st2,λb hb=>(f2 b hb).1,w0⟩
 rintro n s3 ⟨i,σ3,H3,I3,st3,fr3,w3⟩
 rcases turn i n σ3 H3 w3 with⟨stop,qn⟩|⟨go,N,hN,step⟩
 . refine wpAny_passesOwn hp<|vK (T.done X rfl rfl rfl hc i pins s3 σ3 H3 X.xe I3 (stat fr3) st3 stop) λr s4 ⟨hr,I4⟩=>?_;subst hr;exact wpAny_execs_nil ⟨σ3,H3,I4,qn⟩
 . refine wpAny_passesOwn hp<|vK (T.item X rfl rfl rfl hc i pins s3 σ3 H3 X.xe I3 (stat fr3) st3 go) λr s4 ⟨u,hr,h4⟩=>?_;subst hr;refine wpAny_passesOwn hp<|vK h4 λ_ s5 ⟨x,H5,I5,r5,y5,st5,fr5⟩=>?_;have I5':=I5.pinned (stat fr5)<|T.obj _ _ st5;refine wpAny_passesOwn hp<|vK (hg _ s5 σ3 H5 x u _ I5' r5<|step x H5 y5) λ_ s6 ⟨σ6,H6,I6,q6⟩=>?_;refine wpAny_passesOwn hp<|vK (hb _ s6 σ6 H6 _ I6 q6) λf s7 q7=>?_;have again:∀{σ7:St}{H7:Hp},Inv X _ σ7 H7 s7->N σ7 H7->∃m,m<n/\∃i σ' H',Inv X pins σ' H' s7/\tn i s7.heap/\(∀b ∈ fp,H' b=none)/\W i m σ' H':=λ{σ7 H7} I7 n7=>by
    obtain⟨m',hm,w7⟩:=hN σ7 H7 n7;refine⟨m',hm,i+1,σ7,H7,I7.unpinned,T.keep _ _ _ st5 λb hb o e=>(I7.pin (b,o)<|zzL _<|zzL _<|Qt hb e).1,λb hb=>?_,w7⟩;obtain⟨o,e,d⟩:=T.obj _ _ st5 b hb;exact(I7.pin (b,o)<|zzL _<|zzL _<|Qt hb e).2.1
   cases f with
   |next=>obtain⟨σ7,H7,I7,n7⟩:=q7;exact again I7 n7
   |cont=>obtain⟨σ7,H7,I7,n7⟩:=q7;exact again I7 n7
   |brk=>obtain⟨σ7,H7,I7,q7⟩:=q7;exact⟨σ7,H7,I7.unpinned,q7⟩
   |ret v=>obtain⟨x7,σ7,H7,I7,r7,q7⟩:=q7;exact⟨x7,σ7,H7,I7.unpinned,r7,q7⟩
end
end L2
namespace L2
open PySem PySem.Spec PyProof.Rows
abbrev R2:=V->V->Hp->VK->Prop
def LP(X:Cx)(f:Value->Value->Sem Value)(r:R2):Prop:=
 ∀(pins:List (Addr×Obj)) (s:Shared) (σ:St) (H:Hp) (x y:V) (v u:Value) (Q:VK),Inv X pins σ H s->RelV x v->RelV y u->r x y H Q->
  wpAny (model X.prog X.w) X.A (f v u) (EP X pins σ Q) X.xe s
def fS(X:Cx)(f:Value->Sem Value)(r:V->Hp->VK->Prop):Prop:=
 ∀(pins:List (Addr×Obj)) (s:Shared) (σ:St) (H:Hp) (x:V) (v:Value) (Q:VK),Inv X pins σ H s->RelV x v->r x H Q->
  wpAny (model X.prog X.w) X.A (f v) (EP X pins σ Q) X.xe s
def UL(X:Cx)(f:Value)(r:List V->Hp->VK->Prop):Prop:=
 ∀(pins:List (Addr×Obj)) (s:Shared) (σ:St) (H:Hp) (xs:List V) (us:List Value) (Q:VK),Inv X pins σ H s->zR xs us->r xs H Q->
  wpAny (model X.prog X.w) X.A (call f us) (EP X pins σ Q) X.xe s
def eQ(X:Cx)(r:V->Hp->(Bool->Hp->Prop)->Prop):Prop:=
 ∀(pins:List (Addr×Obj)) (s:Shared) (σ:St) (H:Hp) (x:V) (v:Value) (Q:Bool->Hp->Prop),Inv X pins σ H s->RelV x v->r x H Q->
  wpAny (model X.prog X.w) X.A (truthy v) (TP X pins σ Q) X.xe s
def gO(r:R2)(ta tb:TE):TE:=λσ H Q=>ta σ H λx H1=>tb σ H1 λy H2=>r x y H2 Q
def bB(r:V->Hp->VK->Prop)(ta:TE):TE:=λσ H Q=>ta σ H λx H1=>r x H1 Q
def rI(C:Int->Int->Prop)(g:Int->Int->V):R2:=λx y H Q=>∃i j,x = .int i/\y = .int j/\C i j/\Q (g i j) H
def n_(g:Int->Int->V):R2:=λx y H Q=>∃i j,x = .int i/\y = .int j/\Q (g i j) H
def rU(g:Int->V):V->Hp->VK->Prop:=λx H Q=>∃i,x = .int i/\Q (g i) H
section
variable{X:Cx}{a b c:Expr}{ta tb tc:TE}{pos:Pos}
def lW(ha:PE X a ta)(hb:PE X b tb){pins s σ H}{R:V->V->Hp->Prop}(I:Inv X pins σ H s)
 (h:ta σ H λx H1=>tb σ H1 λy H2=>R x y H2) {Q:Value->Shared->Prop}{f:Value->Value->Sem Value}
 (hf:∀v u s2 x y H2,Inv X pins σ H2 s2->RelV x v->RelV y u->R x y H2->wpAny (model X.prog X.w) X.A (f v u) Q X.xe s2):
 wpAny (model X.prog X.w) X.A (eval a X.env) (λv s₁=>wpAny (model X.prog X.w) X.A (eval b X.env) (λu s₂=>wpAny (model X.prog X.w) X.A (f v u) Q X.xe s₂) X.xe s₁) X.xe s:=by
 refine vK (ha pins s σ H _ I h) λv s1 ⟨x,H1,I1,r1,q1⟩=>?_;refine vK (hb pins s1 σ H1 _ I1 q1) λu s2 ⟨y,H2,I2,r2,q2⟩=>?_;exact hf v u s2 x y H2 I2 r1 r2 q2
def ig{op}{r:R2}(ho:LP X (binaryOp op) r)(ha:PE X a ta)(hb:PE X b tb):PE X (.BinOp a op b pos) (gO r ta tb):=by
 intro pins s σ H Q I h;exact wpAny_BinOp<|lW ha hb I h λv u s2 x y H2 I2 rx ry q=>ho pins s2 σ H2 x y v u Q I2 rx ry q
def iZ(ho:fS X (unaryOp op) r)(ha:PE X a ta):PE X (.UnaryOp op a pos) (bB r ta):=by
 intro pins s σ H Q I h;exact UnaryOp_<|vK (ha pins s σ H _ I h) λv s1 ⟨x,H1,I1,r1,q1⟩=>ho pins s1 σ H1 x v Q I1 r1 q1
def cf{f C}{g:Int->Int->Int}
 (rule:∀(i j:Int) (t u:Tok) (s:Shared) (Q:Value->Shared->Prop) (E:Value->Shared->Prop),C i j->Q (.int (g i j) s.toks) {s with toks:=s.toks+1}->wpAny (model X.prog X.w) X.A (f (.int i t)<|.int j u) Q E s):
 LP X f (rI C λi j=>.int<|g i j):=by
 intro pins s σ H x y v u Q I rx ry h;obtain⟨i,j,rfl,rfl,hc,q⟩:=h;obtain⟨t,rfl⟩:=rx;obtain⟨t',rfl⟩:=ry;exact rule i j t t' s _ _ hc ⟨.int _,H,I.tok _,⟨_,rfl⟩,q⟩
def j8{f}{g:Int->Int->Int}
 (rule:∀(i j:Int) (t u:Tok) (s:Shared) (Q:Value->Shared->Prop) (E:Value->Shared->Prop),Q (.int (g i j) s.toks) {s with toks:=s.toks+1}->wpAny (model X.prog X.w) X.A (f (.int i t)<|.int j u) Q E s):
 LP X f (n_ λi j=>.int<|g i j):=by
 intro pins s σ H x y v u Q I rx ry h;obtain⟨i,j,rfl,rfl,q⟩:=h;obtain⟨t,rfl⟩:=rx;obtain⟨t',rfl⟩:=ry;exact rule i j t t' s _ _ ⟨.int _,H,I.tok _,⟨_,rfl⟩,q⟩
def pK{f}{g:Int->Int->Bool}
 (rule:∀(i j:Int) (t u:Tok) (s:Shared) (Q:Value->Shared->Prop) (E:Value->Shared->Prop),Q (.bool<|g i j) s->wpAny (model X.prog X.w) X.A (f (.int i t)<|.int j u) Q E s):
 LP X f (n_ λi j=>.bl<|g i j):=by
 intro pins s σ H x y v u Q I rx ry h;obtain⟨i,j,rfl,rfl,q⟩:=h;obtain⟨t,rfl⟩:=rx;obtain⟨t',rfl⟩:=ry;exact rule i j t t' s _ _ ⟨.bl _,H,I,rfl,q⟩
def dP(i j:Int):Prop:=0<=j/\j<=1000000/\i.natAbs<2 ^ 64
def Ab:LP X (binaryOp .Add) (n_ λi j=>.int<|i+j):=j8 λ_ _ _ _ _ _ _ q=>add_int q
def jO:LP X (binaryOp .Sub) (n_ λi j=>.int<|i-j):=j8 λ_ _ _ _ _ _ _ q=>sub_int q
def jy:LP X (binaryOp .Mod) (rI (λ_ j=>0<j) λi j=>.int<|i%j):=cf λi j _ _ _ _ _ hc q=>mod_int' (by omega) (by rwa [Int.fmod_eq_emod_of_nonneg i<|by omega])
def kX:LP X (binaryOp .Pow) (rI dP λi j=>.int<|i ^ j.toNat):=cf λ_ _ _ _ _ _ _ hc q=>pow_int_small hc.1 hc.2.1 hc.2.2 q
def bH{f}{g:Int->Int}
 (rule:∀(i:Int) (t:Tok) (s:Shared) (Q:Value->Shared->Prop) (E:Value->Shared->Prop),Q (.int (g i) s.toks) {s with toks:=s.toks+1}->wpAny (model X.prog X.w) X.A (f<|.int i t) Q E s):
 fS X f (rU λi=>.int<|g i):=by
 intro pins s σ H x v Q I rx h;obtain⟨i,rfl,q⟩:=h;obtain⟨t,rfl⟩:=rx;exact rule i t s _ _ ⟨.int _,H,I.tok _,⟨_,rfl⟩,q⟩
def lP:fS X (unaryOp .USub) (rU λi=>.int (-i)):=bH λ_ _ _ _ _ q=>neg_int q
end
section
variable{X:Cx}{a b c:Expr}{ta tb tc:TE}{pos:Pos}
def Zg(I:Inv X pins σ H s)(q:Q (.bl k) H)(e:k=k'):EP X pins σ Q (.bool k') s:=by
 subst e;exact⟨.bl k,H,I,rfl,q⟩
def gf:LP X (compareOp .Lt) (n_ λi j=>.bl<|decide (i<j)):=pK λ_ _ _ _ _ _ _ q=>lt_int q
def gx:LP X (compareOp .LtE) (n_ λi j=>.bl<|decide (i<=j)):=pK λ_ _ _ _ _ _ _ q=>le_int q
def hJ:LP X (compareOp .Gt) (n_ λi j=>.bl<|decide (j<i)):=pK λ_ _ _ _ _ _ _ q=>gt_int q
def gE:LP X (compareOp .GtE) (n_ λi j=>.bl<|decide (j<=i)):=pK λ_ _ _ _ _ _ _ q=>ge_int q
def D4:LP X (compareOp .In) (λx y H Q=>∃i j,x = .str i/\y = .str j/\Q (.bl<|!(Builtin.Str.occurrences j i 0 j.length 1).isEmpty) H):=by
 intro pins s σ H x y v u Q I rx ry h;obtain⟨i,j,rfl,rfl,q⟩:=h;obtain⟨t,rfl⟩:=rx;obtain⟨t',rfl⟩:=ry;exact in_str<|Zg I q rfl
def jI:LP X (compareOp .Is) (λx y H Q=>y = .non/\Q (.bl<|decide (x = .non)) H):=by
 intro pins s σ H x y v u Q I rx ry h;obtain⟨rfl,q⟩:=h;cases ry;refine is_none_gen<|Zg I q ?_;cases x<;>first
  |(cases rx;rfl)
  |(obtain⟨t,rfl⟩:=rx;rfl)
def qY:LP X (compareOp .IsNot) (λx y H Q=>y = .non/\Q (.bl<|!decide (x = .non)) H):=by
 intro pins s σ H x y v u Q I rx ry h;obtain⟨rfl,q⟩:=h;cases ry;refine isnot_none_gen<|Zg I q ?_;cases x<;>first
  |(cases rx;rfl)
  |(obtain⟨t,rfl⟩:=rx;rfl)
def Ow:LP X (compareOp .NotIn) (λx y H Q=>∃i j,x = .str i/\y = .str j/\Q (.bl<|!(!(Builtin.Str.occurrences j i 0 j.length 1).isEmpty)) H):=by
 intro pins s σ H x y v u Q I rx ry h;obtain⟨i,j,rfl,rfl,q⟩:=h;obtain⟨t,rfl⟩:=rx;obtain⟨t',rfl⟩:=ry;exact notIn_str<|Zg I q rfl
def sx(b)(h:op ≠ .In:=by decide)(h2:op ≠ .NotIn:=by decide):behindInMarks op b=false:=by
 have e1:(op==CmpOp.In)=false:=by cases op<;>first|rfl|exact absurd rfl h
 have e2:(op==CmpOp.NotIn)=false:=by cases op<;>first|rfl|exact absurd rfl h2
 cases b<;>simp[behindInMarks,e1,e2]
def o6{op}{r:R2}(ho:LP X (compareOp op) r)(ha:PE X a ta)(hb:PE X b tb)(hm:behindInMarks op b=false):PE X (.Compare a [op] [b] pos) (gO r ta tb):=by
 intro pins s σ H Q I h;exact wpAny_Compare1 (lW ha hb I h λv u s2 x y H2 I2 rx ry q=>ho pins s2 σ H2 x y v u Q I2 rx ry q) hm
def iu(t:TE):TT:=λσ H Q=>t σ H λx H'=>∃k,x = .bl k/\Q k H'
def qT(ho:LP X (compareOp op) r)(ha:PE X a ta)(hb:PE X b tb)(hm:behindInMarks op b=false):PT X (.Compare a [op] [b] pos) (iu<|gO r ta tb):=by
 intro pins s σ H Q I h;refine wpAny_isTrue_Compare1 (vK (ha pins s σ H _ I h) λv s1 ⟨x,H1,I1,r1,q1⟩=>vK (hb pins s1 σ H1 _ I1 q1) λu s2 ⟨y,H2,I2,r2,q2⟩=>
  vK (ho pins s2 σ H2 x y v u _ I2 r1 r2 q2) λc s3 ⟨z,H3,I3,r3,k,e,q3⟩=>?_) hm
 subst e;cases r3;exact wpAny_truthy_bool ⟨H3,I3,q3⟩
def lG(r r':R2)(ta tb tc:TE):TE:=λσ H Q=>ta σ H λx H1=>tb σ H1 λy H2=>r x y H2 λz H3=>∃k,z = .bl k/\
 (if k=true then tc σ H3 λw' H4=>r' y w' H4 Q else Q (.bl false) H3)
def qg(ho:LP X (compareOp op) r)(ho':LP X (compareOp op') r')(ha:PE X a ta)(hb:PE X b tb)(hc:PE X c tc)
 (hm:lastMarks [op,op'] [b,c]=false:=by with_unfolding_all rfl):PE X (.Compare a [op,op'] [b,c] pos) (lG r r' ta tb tc):=by
 intro pins s σ H Q I h;refine Compare_chain (vK (ha pins s σ H _ I h) λv s1 ⟨x,H1,I1,r1,q1⟩=>chain_link<|vK (hb pins s1 σ H1 _ I1 q1) λu s2 ⟨y,H2,I2,r2,q2⟩=>
  vK (ho pins s2 σ H2 x y v u _ I2 r1 r2 q2) λd s3 ⟨z,H3,I3,r3,k,e,q3⟩=>?_) hm
 subst e;cases r3;refine wpAny_truthy_bool ?_;cases k with
 |false=>exact ite_ff ⟨.bl false,H3,I3,rfl,q3⟩
 |true=>exact ite_tt (chain_last<|vK (hc pins s3 σ H3 _ I3 q3) λw' s4 ⟨z',H4,I4,r4,q4⟩=>ho' pins s4 σ H4 y z' u w' Q I4 r2 r4 q4)
def k_(K:zzA)(x:V)(H:Hp)(k:Bool):Prop:=
 match x with
 | .non=>k=false
 | .bl b=>k=b
 | .int i=>k=(i != 0)
 | .str y=>y.length<=sizeLine/\k=((y.length:Int) != 0)
 | .byt y=>y.size<=sizeLine/\k=((y.size:Int) != 0)
 | .ref p=>(∃xs,FT K H p xs/\k = !xs.isEmpty)\/(∃xs,Gx K H p xs/\k = !xs.isEmpty)\/∃kvs,H p=some (.dK kvs)/\k = !kvs.isEmpty
 |_=>False
def JU(r:KV kvs vs):(!vs.isEmpty) = !kvs.isEmpty:=by
 cases r<;>rfl
def Fg(r:zR xs its):(!its.toArray.isEmpty) = !xs.isEmpty:=by
 cases r<;>simp
def Gg:(sizeLine:Nat)<2 ^ 63:=by decide
def jA:eQ X (λx H Q=>∃k,k_ X.K x H k/\Q k H):=by
 intro pins s σ H x v Q I rx h;obtain⟨k,e,q⟩:=h;have hl:=Gg;have hs:=sizeLine_eq;cases x with
 |non=>
  cases rx;have e':k=false:=e;subst e';exact truthy_none ⟨H,I,q⟩
 |bl b=>
  cases rx;have e':k=b:=e;subst e';exact wpAny_truthy_bool ⟨H,I,q⟩
 |int i=>
  obtain⟨t,rfl⟩:=rx;have e':k=(i != 0):=e;subst e';exact PySem.P.truthy_int ⟨H,I,q⟩
 |str y=>
  obtain⟨t,rfl⟩:=rx;obtain⟨hy,e'⟩:y.length<=sizeLine/\k=_:=e;subst e';exact PySem.P.truthy_str (by omega) ⟨H,I.tok _,q⟩
 |byt y=>
  obtain⟨t,rfl⟩:=rx;obtain⟨hy,e'⟩:y.size<=sizeLine/\k=_:=e;subst e';exact W.truthy_bytes (by omega) ⟨H,I.tok _,q⟩
 |ref p=>
  cases rx;have e':_\/_\/∃kvs,H p=some (.dK kvs)/\k = !kvs.isEmpty:=e
  rcases e' with⟨xs,hx,e'⟩|⟨xs,hx,e'⟩|⟨kvs,hx,e'⟩
  . subst e';obtain⟨its,r,pl,hz⟩:=I.list hx;have hlen:=r.length;exact wpAny_truthy_list pl.isList (by simp only[zzH];omega) ⟨H,I.tok _,by rw[Fg r];exact q⟩
  . subst e';obtain⟨its,r,pl,hz⟩:=I.tuple hx;have hlen:=r.length;exact truthy_tuple pl (by simp only[zzH];omega) ⟨H,I.tok _,by rw[Fg r];exact q⟩
  . subst e';obtain⟨hz,hS,vs,r,m⟩:kvs.length<=sizeLine/\_=false/\∃vs,KV kvs vs/\s.heap.DictOf _ p vs:=I.hok p _ hx;have hlen:=Paired.length r;exact wpAny_truthy_dict hS m (by omega) ⟨H,I.tok _,by rw[JU r];exact q⟩
 |_=>exact(e).elim
def rf(ha:PE X a ta)(he:∀whole,isTrue a X.env whole=(do let v <-whole;standAt a.pos;holding [v] (truthy v))):
 PT X a (λσ H Q=>ta σ H λx H'=>∃k,k_ X.K x H' k/\Q k H'):=by
 intro pins s σ H Q I h;exact isTrue_plain (vK (ha pins s σ H _ I h) λv s1 ⟨x,H1,I1,r1,q1⟩=>jA pins s1 σ H1 x v Q I1 r1 q1)<|he _
def Ah:LP X (binaryOp .Add) (λx y H Q=>∃i j,x = .str i/\y = .str j/\i.length+j.length<=sizeLine/\Q (.str<|i++j) H):=by
 intro pins s σ H x y v u Q I rx ry h;obtain⟨i,j,rfl,rfl,hz,q⟩:=h;obtain⟨t,rfl⟩:=rx;obtain⟨t',rfl⟩:=ry;exact add_str (λt' tk=>⟨.str _,H,I.tok _,⟨_,rfl⟩,q⟩) hz
def vals1(r:zR [x] us):∃u,us=[u]/\RelV x u:=by
 cases r with
 |cons r1 r2=>cases r2;exact⟨_,rfl,r1⟩
def vals2(r:zR [x,y] us):∃u w',us=[u,w']/\RelV x u/\RelV y w':=by
 cases r with
 |cons r1 r2=>
  cases r2 with
  |cons r3 r4=>cases r4;exact⟨_,_,rfl,r1,r3⟩
def uC(hc:X.calm=true):UL X (.builtin "max") (λxs H Q=>∃i j,xs=[.int i,.int j]/\Q (.int (if j > i then j else i)) H):=by
 intro pins s σ H xs us Q I r h;obtain⟨i,j,rfl,q⟩:=h;obtain⟨u,w',rfl,⟨t,rfl⟩,⟨t',rfl⟩⟩:=vals2 r;refine max_two_ints (I.ok.hd hc) λh' tk k=>⟨_,H,I.kept k, ?_,q⟩
 by_cases hj:j > i
 . rw[if_pos hj,if_pos hj];exact⟨_,rfl⟩
 . rw[if_neg hj,if_neg hj];exact⟨_,rfl⟩
def uT(hc:X.calm=true):UL X (.builtin "min") (λxs H Q=>∃i j,xs=[.int i,.int j]/\Q (.int (if j<i then j else i)) H):=by
 intro pins s σ H xs us Q I r h;obtain⟨i,j,rfl,q⟩:=h;obtain⟨u,w',rfl,⟨t,rfl⟩,⟨t',rfl⟩⟩:=vals2 r;refine min_two_ints (I.ok.hd hc) λh' tk k=>⟨_,H,I.kept k, ?_,q⟩
 by_cases hj:j<i
 . rw[if_pos hj,if_pos hj];exact⟨_,rfl⟩
 . rw[if_neg hj,if_neg hj];exact⟨_,rfl⟩
def Hj:UL X (.type "int") (λxs H Q=>(∃i,xs=[.int i]/\Q (.int i) H)\/∃k,xs=[.bl k]/\Q (.int (if k then 1 else 0)) H):=by
 intro pins s σ H xs us Q I r h
 rcases h with⟨i,rfl,q⟩|⟨k,rfl,q⟩
 . obtain⟨u,rfl,t,rfl⟩:=vals1 r;exact call_int_int ⟨.int i,H,I,⟨_,rfl⟩,q⟩
 . obtain⟨u,rfl,r1⟩:=vals1 r;cases r1;exact call_int_bool ⟨.int _,H,I.tok _,⟨_,rfl⟩,q⟩
def dR(K:zzA)(x:V)(H:Hp)(n:Nat):Prop:=
 match x with
 | .str y=>y.length<=sizeLine/\n=y.length
 | .byt y=>y.size<=sizeLine/\n=y.size
 | .ref p=>(∃xs,FT K H p xs/\n=xs.length)\/∃xs,Gx K H p xs/\n=xs.length
 |_=>False
def rk:UL X (.builtin "len") (λxs H Q=>∃x n,xs=[x]/\dR X.K x H n/\Q (.int n) H):=by
 intro pins s σ H xs us Q I r h;obtain⟨x,n,rfl,e,q⟩:=h;obtain⟨u,rfl,rx⟩:=vals1 r;have hs:=sizeLine_eq;cases x with
 |str y=>
  obtain⟨t,rfl⟩:=rx;obtain⟨hy,e'⟩:y.length<=sizeLine/\n=y.length:=e;subst e';exact len_str (by omega) ⟨.int _,H,I.tok _,⟨_,rfl⟩,q⟩
 |byt y=>
  obtain⟨t,rfl⟩:=rx;obtain⟨hy,e'⟩:y.size<=sizeLine/\n=y.size:=e;subst e';exact W.len_bytes (by omega) ⟨.int _,H,I.tok _,⟨_,rfl⟩,q⟩
 |ref p=>
  cases rx;have e':_\/∃xs,Gx X.K H p xs/\n=xs.length:=e
  rcases e' with⟨xs,hx,e'⟩|⟨xs,hx,e'⟩
  . subst e';obtain⟨its,r',pl,hz⟩:=I.list hx;have hlen:=r'.length;exact Calls.call_len_list pl.isList (by simp only[zzH];omega) ⟨.int xs.length,H,I.tok _,⟨_,by simp only[zzH];rw[hlen]⟩,q⟩
  . subst e';obtain⟨its,r',pl,hz⟩:=I.tuple hx;have hlen:=r'.length;exact len_tuple pl (by simp only[zzH];omega) ⟨.int xs.length,H,I.tok _,⟨_,by simp only[zzH];rw[hlen]⟩,q⟩
 |_=>exact(e).elim
end
end L2
namespace L2
open PySem PySem.Spec PyProof.Rows
structure ObjM(h:Heap)(x dx C:Addr)(mA:Str->Option Value):Prop where
 obj:h.get? x=some (W.instObj C dx)
 ns:h.Ns1 dx mA
 ne:dx≠x
def uw{h:Heap}{dx mA}(n:h.Ns1 dx mA):∃od,h.get? dx=some od/\∀name,W.lookIn name od=some (mA name):=by
 obtain⟨o,es,ep,ho,hd,hk,_,hm⟩:=n;refine⟨o,ho,λname=>?_⟩;have e:=hm name;unfold nsFind findBy at e;rw[<-Array.find?_toList]at e;unfold W.lookIn;rw[hd];dsimp only
 split
 . rename_i y q;rw[q]at e;exact congrArg some e
 . rename_i q;rw[q]at e;have a:es.toList.any (·.refKey)=false:=by
    rw[List.any_eq_false];intro y hy;obtain⟨z,t,hkey⟩:=hk y<|Array.mem_toList_iff.mp hy;simp[DictEntry.refKey,hkey]
   have a':¬es.toList.any (·.refKey)=true:=by rw[a];exact zyV
   rw[if_neg a'];exact congrArg some e
def ObjM.look(I:ObjM h x dx C mA):∃od,PySem.W.InstAt h x (W.instObj C dx) C (some od)/\∀name,W.lookIn name od=some (mA name):=
 let⟨od,ho,hl⟩:=uw I.ns
 ⟨od,⟨I.obj,rfl,rfl,ho⟩,hl⟩
section
variable{prog:Program}{w:World}{A:Around}{E:Value->Shared->Prop}{s:Shared}{K:zzA}{x dx C f:Addr}{mA:Str->Option Value}{name:Str}{v:Value}
def pB(X:K.In s.heap)(I:ObjM s.heap x dx C mA)(hg:W.plainGet K C name=true)(hh:W.hasDictIn K C=true)
 (ha:W.findIn K (.ref C) name=some none) (hv:mA name=some v) (hv':W.handedIn v=true) (h:Q v {s with toks:=s.toks+1}):
 wpAny (model prog w) A (getAttr (.ref x) name expr) Q E s:=by
 obtain⟨od,J,hl⟩:=I.look;exact W.get_value X J (W.plainGet_of hg).1 (W.findObj_own hh ha rfl<|by rw[hl,hv]) hv' h
def rg(X:K.In s.heap)(I:ObjM s.heap x dx C mA)(hg:W.plainGet K C name=true)
 (hf:W.findIn K (.ref C) name=some (some<|.ref f)) (ht:W.isFn K (.ref f)=true) (hv:mA name=none) (h:Q (.ref f,[.ref x]) s):
 wpAny (model prog w) A (getMethod (.ref x) name pl) Q E s:=by
 obtain⟨od,J,hl⟩:=I.look;exact W.method_fn X J (W.plainGet_of hg).1 (W.plainGet_of hg).2 hf (beq_iff_eq.mp ht) (by show(W.lookIn name od).map _=_;rw[hl,hv];rfl) h
def qP(X:K.In s.heap)(I:ObjM s.heap x dx C mA)
 (hs:W.findIn K (.ref C) "__setattr__"=some (some<|.builtin "object.__setattr__")) (hp:W.plainOver K C=true) (ht:W.takerIn K C name=some none) (hh:W.hasDictIn K C=true)
 (hw:PySem.Within mA ns) (hsz:ns.length<=sizeLine)
 (h:∀h',ObjM h' x dx C (λy=>if y=name then some v else mA y)->Heap.SameBut dx s.heap h'->Q () {s with heap:=h',toks:=s.toks+2}):
 wpAny (model prog w) A (setAttr (.ref x) name v) Q E s:=by
 obtain⟨od,J,hl⟩:=I.look;refine W.set_plain X J hs<|W.osa_open X J hp ht λb=>?_;obtain⟨cd,hc,hd'⟩:=W.any_some hh;have hx:=I.obj;refine zxE<|zxF<|zxE<|zxE<|wpAny_loadPart hx<|zxE<|PySem.W.Looks.here (W.looks_clsIn X hc) ?_;rw[hd'];refine zxF<|zxE<|zxF<|zxE ?_;refine wpAny_nsSet1 I.ns λh' hn2 hs2=>?_;obtain⟨oD,esD,epD,hoD,hdD,hcD⟩:=hn2.count<|PySem.Within.cons name v hw;refine zxE<|wpAny_lookBehind hoD (by rw[hdD];exact pastItsLine_dict<|zzO hcD<|by rw[zzT];omega) ?_;exact zxF<|h _ ⟨(hs2.2 _<|Ne.symm I.ne).trans I.obj,hn2,I.ne⟩ hs2
def su(X:K.In s.heap)(hm:W.makesIn K C=true)
 (hi:W.findIn K (.ref C) "__init__"=some (some<|.ref f)) (hf:W.typeIn K (.ref f)=some (.type "function"))
 (h:codeAny (model prog w) (A.under<|.builtin "type.__call__" ⟨.ref C::vs,kw⟩) (.call (.ref f) ⟨.ref (s.heap.objs.size+1)::vs,kw⟩) (PySem.W.InitBack (s.heap.objs.size+1) R)
  {s with heap:=(s.heap.push W.emptyDict).push (W.instObj C s.heap.objs.size)}):
 codeAny (model prog w) A (.call (.ref C) ⟨vs,kw⟩) R s:=W.make_core (W.makes_of X hm) (W.looks_findIn X hi) (λself=>W.bind_fn X self hf) (.inl rfl) h
end
def U4(f:Str)(v:V):List (Str×V)->List (Str×V)
 | []=>[(f,v)]
 |(g,x)::r=>if g=f then(g,v)::r else(g,x)::U4 f v r
theorem NJ(f g)(v):∀fs:List (Str×V),(U4 f v fs).lookup g=if g=f then some v else fs.lookup g
 | []=>by
  show List.lookup g [_]=_
  by_cases h:g=f
  . have hb:=beq_iff_eq.mpr h;simp only[List.lookup,hb,if_pos h]
  . have hb:=beq_eq_false_iff_ne.mpr h;simp only[List.lookup,hb,if_neg h]
 |(k,x)::r=>by
  have ih:=NJ f g v r;rw[show U4 f v _=(if k=f then _::r else _::U4 f v r)from rfl]
  by_cases hk:k=f
  . rw[if_pos hk]
    by_cases h:g=k
    . have hb:=beq_iff_eq.mpr h;simp only[List.lookup,hb,if_pos<|h.trans hk]
    . have hb:=beq_eq_false_iff_ne.mpr h;simp only[List.lookup,hb,if_neg (λe:g=f=>h<|e.trans hk.symm)]
  . rw[if_neg hk]
    by_cases h:g=k
    . have hb:=beq_iff_eq.mpr h;simp only[List.lookup,hb,if_neg (λe:g=f=>hk<|h.symm.trans e)]
    . have hb:=beq_eq_false_iff_ne.mpr h;simp only[List.lookup,hb];exact ih
theorem L0(f)(v):∀fs:List (Str×V),f ∈ (U4 f v fs).map (·.1)/\∀g,g ∈ fs.map (·.1)->g ∈ (U4 f v fs).map (·.1)
 | []=>⟨by simp[U4],λg h=>by simp at h⟩
 |(k,x)::r=>by
  obtain⟨i1,i2⟩:=L0 f v r;rw[show U4 f v _=(if k=f then _::r else _::U4 f v r)from rfl]
  by_cases hk:k=f
  . rw[if_pos hk];subst hk;exact⟨by simp,λg h=>by simpa using h⟩
  . rw[if_neg hk];refine⟨?_,λg h=>?_⟩
    . rw[zyS];exact zzD _ i1
    . rw[zyS]at h ⊢
      rcases zzC.mp h with e|e
      . exact zzC.mpr<|.inl e
      . exact zzD _<|i2 g e
theorem N7(f)(v):∀fs:List (Str×V),(U4 f v fs).length<=fs.length+1
 | []=>by simp[U4]
 |(k,x)::r=>by
  have ih:=N7 f v r;rw[show U4 f v _=(if k=f then _::r else _::U4 f v r)from rfl]
  by_cases hk:k=f
  . rw[if_pos hk,zzT,zzT];omega
  . rw[if_neg hk,zzT,zzT];omega
def Kj.some_of(r:Kj (some v) o):∃u,o=some u/\RelV v u:=by
 cases o with
 |none=>exact(r).elim
 |some u=>exact⟨u,rfl,r⟩
def Kj.none_of(r:Kj none o):o=none:=by
 cases o with
 |none=>rfl
 |some u=>exact(r).elim
def uz(r:RelV v u):W.handedIn u=true:=by
 cases v with
 |non=>cases(r);rfl
 |bl b=>cases(r);rfl
 |int i=>obtain⟨t,e⟩:=(r);cases e;rfl
 |str x=>obtain⟨t,e⟩:=(r);cases e;rfl
 |byt b=>obtain⟨t,e⟩:=(r);cases e;rfl
 |flt b=>obtain⟨t,e⟩:=(r);cases e;rfl
 |ref a=>cases(r);rfl
 |ty n=>cases(r);rfl
section
variable{P:Program}{w:World}{H H':Hp}{h h':Heap}{a C dx:Addr}{fs fs':List (Str×V)}
def OX(hok:Nl P w H h)(e:H a=some (.ins C dx fs)):∃mA,ObjM h a dx C mA/\(∀f,Kj (fs.lookup f)<|mA f)/\PySem.Within mA (fs.map (·.1))/\fs.length<=1000/\H dx=some (.own a):=by
 obtain⟨d,z,ne,ob,mA,n,r,q⟩:=(hok a _ e);exact⟨mA,⟨ob,n,ne⟩,r,q,z,d⟩
end
structure Cls(K:zzA)(C:Addr):Prop where
 pg:W.plainGet K C Str.empty=true
 hd:W.hasDictIn K C=true
 po:W.plainOver K C=true
 sa:W.findIn K (.ref C) "__setattr__"=some (some<|.builtin "object.__setattr__")
def Cls.get{K C}(c:Cls K C)(f):W.plainGet K C f=true:=c.pg
def xt(K:zzA)(C:Addr)(f:Str):Prop:=W.findIn K (.ref C) f=some none
def xt.taker{K C f}(n:xt K C f):W.takerIn K C f=some none:=by
 unfold W.takerIn;rw[show W.findIn K _ f=some none from n];rfl
structure Meth(K:zzA)(C:Addr)(m:Str)(f:Addr):Prop where
 at_:W.findIn K (.ref C) m=some (some<|.ref f)
 fn:W.isFn K (.ref f)=true
 kp:W.keepIn K (.ref f)=true
section
variable{X:Cx}{pins:List (Addr×Obj)}{σ:St}{H:Hp}{s:Shared}{a C dx:Addr}{fs:List (Str×V)}{f:Str}{v:V}{A:Around}{E:Value->Shared->Prop}
def JI(I:Inv X pins σ H s)(e:H a=some (.ins C dx fs))(c:Cls X.K C)(n:xt X.K C f)(l:fs.lookup f=some v)
 (h:∀u s',Inv X pins σ H s'->RelV v u->Q u s'):wpAny (model X.prog X.w) A (getAttr (.ref a) f b) Q E s:=by
 obtain⟨mA,O,r,_,_,_⟩:=OX I.hok e;obtain⟨u,hu,ru⟩:=Kj.some_of (by rw[<-l];exact r f);exact pB I.kIn O (c.get f) c.hd n hu (uz ru)<|h u _ (I.tok _) ru
def EC(I:Inv X pins σ H s)(e:H a=some (.ins C dx fs))(c:Cls X.K C)(k:Meth X.K C m g)(l:fs.lookup m=none)
 (h:Q (.ref g,[.ref a]) s):wpAny (model X.prog X.w) A (getMethod (.ref a) m pl) Q E s:=by
 obtain⟨mA,O,r,_,_,_⟩:=OX I.hok e;have hn:=Kj.none_of (by rw[<-l];exact r m);exact rg I.kIn O (c.get m) k.at_ k.fn hn h
def Jv(I:Inv X pins σ H s)(e:H a=some (.ins C dx fs))(c:Cls X.K C)(n:xt X.K C f)(hl:fs.length<1000)(ry:RelV y u)
 (h:∀s',Inv X pins σ (upd H a<|.ins C dx<|U4 f y fs) s'->Q () s'):wpAny (model X.prog X.w) A (setAttr (.ref a) f u) Q E s:=by
 obtain⟨mA,O,r,wi,_,ho⟩:=OX I.hok e;have hz:(fs.map (·.1)).length<=sizeLine:=by rw[zzB,sizeLine_eq];omega
 refine qP I.kIn O c.sa c.po n.taker c.hd wi hz λh' O' sb=>h _ ?_;have hd:∃o,h'.get? dx=some o:=let⟨o,_,_,e',_⟩:=O'.ns;⟨o,e'⟩;refine I.write (by rw[e];exact True.intro) (.inr ho) (λb q hb z=>(sb.2 b hb).trans z) hd ?_;refine⟨by rw[zK O.ne];exact ho, ?_,O.ne,O'.obj,_,O'.ns,λg=>?_,λg hg=>?_⟩
 . have:=N7 f y fs;omega
 . show Kj _ _;rw[NJ]
   by_cases q:g=f
   . rwa [if_pos q,if_pos q]
   . rw[if_neg q,if_neg q];exact r g
 . by_cases q:g=f
   . rw[q];exact(L0 f y fs).1
   . refine(L0 f y fs).2 g<|wi g λz=>hg ?_;show(if g=f then some u else mA g)=_
     rwa [if_neg q]
def Inv.made(I:Inv X pins σ H s):Inv X pins σ (upd (upd H s.heap.objs.size<|.own<|s.heap.objs.size+1) (s.heap.objs.size+1)<|.ins C s.heap.objs.size [])
 {s with heap:=(s.heap.push W.emptyDict).push (W.instObj C s.heap.objs.size)}:=by
 have e1:(s.heap.push W.emptyDict).get? s.heap.objs.size=some W.emptyDict:=zxI s.heap rfl;have e2:((s.heap.push W.emptyDict).push<|W.instObj C s.heap.objs.size).get? (s.heap.objs.size+1)=some (W.instObj C s.heap.objs.size):=by
  have:=zxI (s.heap.push W.emptyDict) (o:=W.instObj C s.heap.objs.size) rfl
  rwa [zxK]at this
 have e3:(s.heap.push W.emptyDict).Ns s.heap.objs.size _:=⟨W.emptyDict,#[],_,e1,rfl,(λe he=>absurd he<|by simp),λ_=>rfl⟩;have I1:=I.laid (o:=.own<|s.heap.objs.size+1) (h':=s.heap.push W.emptyDict) (t':=s.toks) (λb u q=>zxG _ q) (zzN _) ⟨_,e1⟩;refine I1.laid (t':=s.toks) (λb u q=>zxG _ q) (Nat.le_of_eq<|zxK _ _) ?_;have ne:s.heap.objs.size≠s.heap.objs.size+1:=zzQ<|Nat.lt_succ_self _;refine⟨by rw[zK ne,yd],Nat.zero_le _,ne,e2,λ_=>none,(Heap.Ns1.of_empty e3).at λo q=>zxG _ q,λ_=>True.intro,λy hy=>absurd rfl hy⟩
def p9(hb:attributeBase e f env (eval e env)=eval e env)
 (h:wpAny (model prog w) A (eval e env) (λo s₁=>wpAny (model prog w) A (getAttr o f true) Q E s₁) E s):wpAny (model prog w) A (eval (.Attribute e f pos) env) Q E s:=
 Attribute_any_ h (by rw[arm_eval_Attribute,hb])
end
def dq(K:zzA)(ta:TE)(f:Str):TE:=λσ H Q=>ta σ H λx H1=>∃a C dx fs v,x = .ref a/\H1 a=some (.ins C dx fs)/\Cls K C/\xt K C f/\fs.lookup f=some v/\Q v H1
def fX(K:zzA)(ta tv:TE)(f:Str):TS:=λD σ H=>tv σ H λy H1=>ta σ H1 λx H2=>∃a C dx fs,x = .ref a/\H2 a=some (.ins C dx fs)/\Cls K C/\xt K C f/\fs.length<1000/\
 D.nx σ (upd H2 a<|.ins C dx<|U4 f y fs)
section
variable{X:Cx}{o e value:Expr}{f:Str}{pos pos' tpos:Pos}{ta tv:TE}
def H0(he:PE X e ta)(hb:attributeBase e f X.env (eval e X.env)=eval e X.env):PE X (.Attribute e f pos) (dq X.K ta f):=by
 intro pins s σ H Q I h;refine p9 hb<|vK (he pins s σ H _ I h) λu s1 hq0=>?_;obtain⟨x,H1,I1,rx,a,C,dx,fs,v,ex,ea,c,n,l,q⟩:=hq0;subst ex;obtain rfl:u=Value.ref a:=rx;exact JI I1 ea c n l λu' s2 I2 ru=>⟨v,H1,I2,ru,q⟩
def rA(ha:PE X o ta)(hv:PE X value tv)(hs:swapsWith value (some<|.Attribute o f pos') pos.line X.env=pure false):PS X (.Assign [.Attribute o f pos'] value pos) (fX X.K ta tv f):=by
 intro pins s σ H D I h;refine plainObj_wpAny_Assign_Attribute (vK (hv pins s σ H _ I h) λu s1 ⟨y,H1,I1,ry,q⟩=>vK (ha pins s1 σ H1 _ I1 q) λov s2 hq0=>?_) hs;obtain⟨x,H2,I2,rx,a,C,dx,fs,ex,ea,c,n,l,q2⟩:=hq0;subst ex;obtain rfl:ov=Value.ref a:=rx;exact Jv I2 ea c n l ry λs3 I3=>⟨σ,_,I3,q2⟩
end
section
variable{X:Cx}{pins:List (Addr×Obj)}{σ:St}{H:Hp}{s:Shared}{A:Around}{E:Value->Shared->Prop}{Q:Value->Shared->Prop}{c:Value}{b:Bool}
inductive TyOf(K:zzA)(H:Hp):V->Value->Prop where
 |non:TyOf K H .non (.type "NoneType")
 |bl (x:Bool):TyOf K H (.bl x) (.type "bool")
 |int (i:Int):TyOf K H (.int i) (.type "int")
 |str (x:Str):TyOf K H (.str x) (.type "str")
 |flt (x:UInt64):TyOf K H (.flt x) (.type "float")
 |lst {a:Addr}{xs:List V}(e:H a=some (.lst xs)):TyOf K H (.ref a) (.type "list")
 |frz {a:Addr}{o:Obj}{xs:List V}(e:H a=some (.frz o (.lst xs))):TyOf K H (.ref a) (.type "list")
 |tup {a:Addr}{xs:List V}(e:H a=some (.tup xs)):TyOf K H (.ref a) (.type "tuple")
 |dK {a:Addr}{kvs:List (Key×V)}(e:H a=some (.dK kvs)):TyOf K H (.ref a) (.type "dict")
 |dT {a:Addr}{kvs:List (List Key×V)}(e:H a=some (.dT kvs)):TyOf K H (.ref a) (.type "dict")
 |ins {a C dx:Addr}{fs:List (Str×V)}(e:H a=some (.ins C dx fs)) (cl:Cls K C) (ha:W.findIn K (.ref C) "__class__"=some (some (.builtin "object.__class__")))
  (hn:W.specialIn K (.builtin "object.__class__") "__get__"=some (some<|.builtin "getset_descriptor.__get__")) (htk:W.takesIn K (.builtin "object.__class__")=some true)
  (hm:W.mroIn K C (.type "object")=some true):TyOf K H (.ref a) (.ref C)
end
end L2
namespace L2
open PySem PySem.Spec PyProof.Rows
structure Room(k:Nat)(A:Around):Prop where
 hd:A.handled=none
 dp:A.depth+3*k+5<recursionLimit
 un:A.units+16*k+200<cLine
 gd:A.guards=some []
def Room.mono(r:Room k A)(h:j<=k):Room j A:=⟨r.hd,by have:=r.dp;omega,by have:=r.un;omega,r.gd⟩
theorem Room.deeper(r:Room (k+1) A)(env):Room k (A.deeper env):=
 ⟨r.hd,by have:=r.dp;show A.depth+1+3*k+5<_;omega,by have:=r.un;show A.units+3+16*k+200<_;omega,r.gd⟩
def JL{A:Around}{C us kw}:(A.under<|.builtin "type.__call__" ⟨.ref C::us,kw⟩).depth=A.depth+1:=rfl
def JF{A:Around}{C us kw}:(A.under<|.builtin "type.__call__" ⟨.ref C::us,kw⟩).units=A.units+1:=rfl
def Room.make{k:Nat}{A:Around}(r:Room (k+1) A)(C)(us)(kw):Room k (A.under<|.builtin "type.__call__" ⟨.ref C::us,kw⟩):=
 ⟨r.hd,by have:=r.dp;rw[JL];omega,by have:=r.un;rw[JF];omega,r.gd⟩
theorem Room.depth(r:Room k A):A.depth<recursionLimit:=by have:=r.dp;omega
def kZ:TA:=λ_ H Q=>Q [] H
def n9(ta:TE)(tr:TA):TA:=λσ H Q=>ta σ H λx H1=>tr σ H1 λxs H2=>Q (x::xs) H2
section
variable{X:Cx}{e:Expr}{es:List Expr}{te:TE}{t:TA}{pos:Pos}
def LH:PA X [] kZ:=λ_ _ _ _ H Q I h=>Calls.spliced_nil ⟨[],H,I,.nil,h⟩
def Q4(ha:PE X e te)(hr:PA X es t)(hs:starEach (e::es) X.env=(false,eval e X.env)::starEach es X.env:=by rfl):PA X (e::es) (n9 te t):=by
 intro pos pins s σ H Q I h;rw[hs];refine Calls.spliced_cons<|vK (ha pins s σ H _ I h) λu s1 ⟨x,H1,I1,r1,q1⟩=>?_;exact vK (hr pos pins s1 σ H1 _ I1 q1) λus s2 ⟨xs,H2,I2,r2,q2⟩=>⟨x::xs,H2,I2,.cons r1 r2,q2⟩
def dH(t:TA):TE:=λσ H Q=>t σ H λxs H1=>xs.length<=sizeLine/\∀p,H1 p=none->Q (.ref p) (upd H1 p<|.tup xs)
def dM(t:TA):TE:=λσ H Q=>t σ H λxs H1=>xs.length<=sizeLine/\∀p,H1 p=none->Q (.ref p) (upd H1 p<|.lst xs)
def kz(h:PA X es t):PE X (.Tuple es x1 pos) (dH t):=by
 intro pins s σ H Q I hq;refine wpAny_Tuple_spliced<|vK (h pos pins s σ H _ I hq) λus s1 ⟨xs,H1,I1,r,z,q⟩=>⟨by rw[<-r.length];exact z, ?_⟩;have hf:=I1.hok.fresh<|zzN _;refine⟨.ref s1.heap.objs.size,upd H1 s1.heap.objs.size _,I1.laid (t':=s1.toks) (λb u e=>zxG _ e) (zzN _) ?_,rfl,q _ hf⟩;exact⟨z,us,r,⟨_,zxI _ rfl,rfl,_,rfl⟩⟩
def ke(h:PA X es t):PE X (.List es pos) (dM t):=by
 intro pins s σ H Q I hq;refine wpAny_List_spliced<|vK (h pos pins s σ H _ I hq) λus s1 ⟨xs,H1,I1,r,z,q⟩=>⟨by rw[<-r.length];exact z, ?_⟩;have hf:=I1.hok.fresh<|zzN _;refine⟨.ref s1.heap.objs.size,upd H1 s1.heap.objs.size _,I1.laid (t':=s1.toks) (λb u e=>zxG _ e) (zzN _) ?_,rfl,q _ hf⟩;exact⟨z,us,0,r,zxI _ rfl⟩
end
abbrev Sp:=List V->Hp->VK->XK->Prop
abbrev mL:=List Env->Hp->Shared->XK->Value->Shared->Prop
structure Env0(P:Program)(w:World)(K:zzA)(mg:Str->Option Value)(base:Heap)(A:Around)(outer:List Env)(s:Shared)(H:Hp):Prop where
 frames:A.frames=some outer
 mod:Mod K mg base
 bs:∀b o,base.get? b=some o->s.heap.get? b=some o/\H b=none
 bsz:base.objs.size<=s.heap.objs.size
 funs:s.heap.FunFrames base outer
 frf:∀b ∈ u4 outer,H b=none
 hok:Nl P w H s.heap
 bare:AllBare s.gens
def CE(outer:List Env)(P:Program)(w:World)(H:Hp)(s:Shared)(Q:VK)(u:Value)(s':Shared):Prop:=
 ∃v H',s'.os=s.os/\AllBare s'.gens/\Un (u4 outer) [] H H' s.heap s'.heap/\Nl P w H' s'.heap/\RelV v u/\Q v H'
def CR(CX:mL)(outer:List Env)(P:Program)(w:World)(H:Hp)(s:Shared)(Q:VK)(E:XK)(r:Result)(s':Shared):Prop:=
 match r with
 | .ok (.ret u)=>CE outer P w H s Q u s'
 | .ok _=>False
 | .error e=>CX outer H s E e s'
structure FnOk(P:Program)(w:World)(K:zzA)(mg:Str->Option Value)(base:Heap)(CX:mL)(k:Nat)(f:Addr)(fd:FuncData)(ps:List Str)(sp:Sp):Prop where
 len:∀vs H Q E,sp vs H Q E->vs.length=ps.length
 run:∀(A:Around) (outer:List Env) (s:Shared) (H:Hp) (args:Args) (us:List Value) (vs:List V) (Q:VK) (E:XK),Room k A->Env0 P w K mg base A outer s H->BindsTo s fd args (ps.zip us)->zR vs us->sp vs H Q E->
  codeAny (model P w) A (.call (.ref f) args) (CR CX outer P w H s Q E) s
def FnOk.imp{P w K mg base CX}{k:Nat}{f fd ps sp sp'}(F:FnOk P w K mg base CX k f fd ps sp)
 (h:∀vs H Q E,sp' vs H Q E->sp vs H Q E):FnOk P w K mg base CX k f fd ps sp':=
 ⟨λvs H Q E q=>F.len vs H Q E<|h _ _ _ _ q,λA outer s H args us vs Q E hr he hb hv hs=>F.run A outer s H args us vs Q E hr he hb hv<|h _ _ _ _ hs⟩
def Env0.make{P w K mg base A outer s H}(e:Env0 P w K mg base A outer s H)(C)(us)(kw):
 Env0 P w K mg base (A.under<|.builtin "type.__call__" ⟨.ref C::us,kw⟩) outer s H:=⟨by first|exact e.frames|(simpa[Around.under,Code.envs,Code.isFrame,pushEnvs]using e.frames),e.mod,e.bs,e.bsz,e.funs,e.frf,e.hok,e.bare⟩
section
variable{X:Cx}{pins:List (Addr×Obj)}{σ:St}{H:Hp}{s s':Shared}
def Inv.env0(I:Inv X pins σ H s):Env0 X.prog X.w X.K X.mg X.base X.A X.stack s H:=
 ⟨I.ok.frames,I.ok.mod,I.bs,zzO I.ok.bsz I.sz,I.stack,I.stkFree,I.hok,I.bare⟩
def Inv.after(I:Inv X pins σ H s)(h:CE X.stack X.prog X.w H s Q u s'):EP X pins σ Q u s':=by
 obtain⟨v,H',os,bare,un,hok,r,q⟩:=h;obtain⟨hh,g,d,t,os'⟩:=s';obtain rfl:os'=s.os:=os;exact⟨v,H',I.call (h':=hh) (g':=g) (d':=d) (t':=t) un hok bare (λb z=>absurd z<|by simp),r,q⟩
end
def tu(sp:Sp)(dvs:List V)(E:XK)(t:TA):TE:=λσ H Q=>t σ H λvs H1=>sp (vs++dvs) H1 Q E
def nX(C:Addr)(sp:Sp)(dvs:List V)(E:XK)(t:TA):TE:=λσ H Q=>t σ H λvs H1=>∀x dx,H1 x=none->H1 dx=none->dx≠x->
 sp (.ref x::(vs++dvs)) (upd (upd H1 dx<|.own x) x<|.ins C dx []) (λv H2=>v = .non/\Q (.ref x) H2) E
def Binds(K:zzA)(fd:FuncData)(ps:List Str)(ds:List Value):Prop:=
 ∀(s:Shared) (us:List Value),K.In s.heap->(us++ds).length=ps.length->BindsTo s fd ⟨us,[]⟩ (ps.zip<|us++ds)
def Binds.all{K fd ps}(h:∀us:List Value,us.length=ps.length->bindArgs fd ⟨us,[]⟩=pure (ps.zip us)):Binds K fd ps []:=λs us _ hl=>by
 rw[zyE]at hl ⊢;exact .of_eq<|h us hl
def ZE(CX:mL)(X:Cx)(E:XK):Prop:=∀(pins:List (Addr×Obj)) (σ:St) (H:Hp) (s:Shared) (e:Value) (s':Shared),Inv X pins σ H s->CX X.stack H s E e s'->X.xe e s'
section
variable{X:Cx}{CX:mL}{k:Nat}{f C:Addr}{fd:FuncData}{ps:List Str}{sp:Sp}{dvs:List V}{ds:List Value}{E:XK}{x m:Str}{p pos apos:Pos}{e o:Expr}{es:List Expr}{ta:TE}{t:TA}
def Ay(F:FnOk X.prog X.w X.K X.mg X.base CX k f fd ps sp)(hr:Room k X.A)(hb:Binds X.K fd ps ds)(hd:zR dvs ds)(hx:ZE CX X E)
 (I:Inv X pins σ H s) (r:zR vs us) (h:sp (vs++dvs) H Q E):wpAny (model X.prog X.w) X.A (call (.ref f) us) (EP X pins σ Q) X.xe s:=by
 have r2:=r.append hd;have hl:(us++ds).length=ps.length:=by rw[<-r2.length];exact F.len _ _ _ _ h
 refine wpAny_call<|codeAny_mono (F.run X.A X.stack s H _ _ _ Q E hr I.env0 (hb s us I.kIn hl) r2 h) λr s' hq=>?_;cases r with
 |error e=>exact hx pins σ H s e s' I hq
 |ok fl=>
  cases fl with
  |ret u=>exact I.after hq
  |next=>exact False.elim hq
  |brk=>exact False.elim hq
  |cont=>exact False.elim hq
def Hu(F:FnOk X.prog X.w X.K X.mg X.base CX k f fd ps sp)(hr:Room k X.A)(hg:Gl X x)(hm:X.mg x=some (.ref f))(hk:W.keepIn X.K (.ref f)=true)(hb:Binds X.K fd ps ds)(hd:zR dvs ds)(hx:ZE CX X E)
 (ha:PA X (e::es) t) (hdb:(x==("__debug__":Str))=false:=by decide) (he:starEach (e::es) X.env=(false,eval e X.env)::starEach es X.env:=by rfl) (hpl:(backTo pos<|starEach es X.env).any (·.1)=false:=by rfl):
 PE X (.Call (.Name x p) (e::es) [] pos) (tu sp dvs E t):=by
 intro pins s σ H Q I h;refine wpAny_Call_Name_kw<|Cb I hg hm ?_ hdb;refine W.callWith_K I.ok.mod.kin hk (vK (ha pos pins s σ H _ I h) λus s1 ⟨vs,H1,I1,r,q⟩=>⟨I1.kIn, ?_⟩) he hpl;exact Ay F hr hb hd hx I1 r q
structure Mk(K:zzA)(C f:Addr):Prop where
 makes:W.makesIn K C=true
 init:W.findIn K (.ref C) "__init__"=some (some<|.ref f)
 fn:W.isFn K (.ref f)=true
 kp:W.keepIn K (.ref C)=true
def rH(M:Mk X.K C f)(F:FnOk X.prog X.w X.K X.mg X.base CX k f fd ps sp)(hr:Room (k+1) X.A)(hb:Binds X.K fd ps ds)(hd:zR dvs ds)
 (hx:ZE CX X E) (I:Inv X pins σ H s) (r:zR vs us)
 (h:∀x dx,H x=none->H dx=none->dx≠x->sp (.ref x::(vs++dvs)) (upd (upd H dx<|.own x) x<|.ins C dx []) (λv H2=>v = .non/\Q (.ref x) H2) E):
 wpAny (model X.prog X.w) X.A (call (.ref C) us) (EP X pins σ Q) X.xe s:=by
 have hq:=h _ s.heap.objs.size (I.hok.fresh<|zyW _) (I.hok.fresh<|zzN _)<|zzQ<|Nat.lt_succ_self _;have I2:=Inv.made (C:=C) I;have r2:zR (V.ref (s.heap.objs.size+1)::_) _:=.cons rfl<|r.append hd;have hl:(Value.ref (s.heap.objs.size+1)::us++ds).length=ps.length:=by
  have e:=r2.length;rw[F.len _ _ _ _ hq]at e;exact e.symm
 refine wpAny_call<|su I.kIn M.makes M.init (beq_iff_eq.mp M.fn)<|codeAny_mono (F.run _ X.stack _ _ _ _ _ _ E (hr.make C us [])
  (I2.env0.make C us []) (hb _ _ I2.kIn hl) r2 hq) λr s' hq'=>?_
 cases r with
 |error e=>exact hx pins σ _ _ e s' I2 hq'
 |ok fl=>
  cases fl with
  |ret u=>
   obtain⟨v,H',I3,rv,ev,q3⟩:=I2.after hq';subst ev;exact⟨rv,⟨V.ref _,H',I3,rfl,q3⟩⟩
  |next=>exact False.elim hq'
  |brk=>exact False.elim hq'
  |cont=>exact False.elim hq'
def pq(M:Mk X.K C f)(F:FnOk X.prog X.w X.K X.mg X.base CX k f fd ps sp)(hr:Room (k+1) X.A)(hg:Gl X x)(hm:X.mg x=some (.ref C))(hb:Binds X.K fd ps ds)(hd:zR dvs ds)(hx:ZE CX X E)
 (ha:PA X (e::es) t) (hdb:(x==("__debug__":Str))=false:=by decide) (he:starEach (e::es) X.env=(false,eval e X.env)::starEach es X.env:=by rfl) (hpl:(backTo pos<|starEach es X.env).any (·.1)=false:=by rfl):
 PE X (.Call (.Name x p) (e::es) [] pos) (nX C sp dvs E t):=by
 intro pins s σ H Q I h;refine wpAny_Call_Name_kw<|Cb I hg hm ?_ hdb;refine W.callWith_K I.ok.mod.kin M.kp (vK (ha pos pins s σ H _ I h) λus s1 ⟨vs,H1,I1,r,q⟩=>⟨I1.kIn, ?_⟩) he hpl;exact rH M F hr hb hd hx I1 r q
end
section
variable{X:Cx}{CX:mL}{k:Nat}{f C:Addr}{fd:FuncData}{ps ks:List Str}{sp:Sp}{E:XK}{x m:Str}{p pos apos kpos:Pos}{e o:Expr}{es:List Expr}{kws:List Keyword}{te ta:TE}{t tk:TA}{nm:Option Str}
variable{g:List Value->List Value->List Value}{gV:List V->List V->List V}
end
structure FnScope(N P:List Str)(sc:Scope):Prop where
 kind:sc.kind = .function
 co:sc.isCoroutine=false
 gen:sc.isGenerator=false
 nd:N.Nodup
 pre:N.take P.length=P
 par:∀x ∈ P,sc.names.lookup x=some .local\/sc.names.lookup x=some .cell
 nofree:∀y ∈ sc.names,y.2 ≠ .free
theorem S0{kindOf x}:∀{binds:List (Str×Value)}{m:Str->Option Value},(∀v,(x,v) ∉ binds)->bindL kindOf binds m x=m x
 | [],_,_=>rfl
 |(n,v)::r,m,h=>by
  unfold bindL;rw[S0 λw hw=>h w<|zzD _ hw]
  split
  . have:x≠n:=by rintro rfl;exact h v zzF
    simp[this]
  . rfl
theorem S3{kindOf x}:∀{binds:List (Str×Value)}{m:Str->Option Value},(∀v,(x,v) ∉ binds)->bindC kindOf binds m x=m x
 | [],_,_=>rfl
 |(n,v)::r,m,h=>by
  unfold bindC;rw[S3 λw hw=>h w<|zzD _ hw]
  split
  . rfl
  . have:x≠n:=by rintro rfl;exact h v zzF
    simp[this]
theorem Ss{kindOf x v}:∀{P:List Str}{vs:List Value}{i:Nat}{m:Str->Option Value},P.Nodup->P[i]? = some x->vs[i]? = some v->kindOf x=some .local->
 bindL kindOf (P.zip vs) m x=some v
 | [],_,_,_,_,h,_,_=>by simp at h
 |_::_,[],_,_,_,_,h,_=>by simp at h
 |p::P,w::vs,0,m,nd,h1,h2,hk=>by
  simp at h1 h2;subst h1;subst h2;show bindL kindOf (_::P.zip vs) m p=_;unfold bindL;rw[S0 λv hv=>(zzW.mp nd).1 (List.of_mem_zip hv).1,if_pos hk];simp
 |p::P,w::vs,i+1,m,nd,h1,h2,hk=>by
  unfold bindL;exact Ss (zzW.mp nd).2 (by simpa using h1) (by simpa using h2) hk
theorem SX{kindOf x v}:∀{P:List Str}{vs:List Value}{i:Nat}{m:Str->Option Value},P.Nodup->P[i]? = some x->vs[i]? = some v->kindOf x≠some .local->
 bindC kindOf (P.zip vs) m x=some v
 | [],_,_,_,_,h,_,_=>by simp at h
 |_::_,[],_,_,_,_,h,_=>by simp at h
 |p::P,w::vs,0,m,nd,h1,h2,hk=>by
  simp at h1 h2;subst h1;subst h2;show bindC kindOf (_::P.zip vs) m p=_;unfold bindC;rw[S3 λv hv=>(zzW.mp nd).1 (List.of_mem_zip hv).1,if_neg hk];simp
 |p::P,w::vs,i+1,m,nd,h1,h2,hk=>by
  unfold bindC;exact SX (zzW.mp nd).2 (by simpa using h1) (by simpa using h2) hk
def start(N:List Str)(vs:List V):St:=vs.map some++List.replicate (N.length-vs.length) none
def FB(CX:mL)(P:Program)(w:World)(K:zzA)(mg:Str->Option Value)(base:Heap)(N:List Str)(qual:Str)(scope:Scope)(f:Addr)(cd:Value)(A:Around)(outer:List Env)(s:Shared)(H:Hp)(E:XK):Cx where
 prog:=P
 w:=w
 K:=K
 mg:=mg
 base:=base
 A:=A.deeper (envOfC qual scope s.heap.objs.size f cd)
 N:=N
 s₀:=s
 H₀:=H
 env:=envOfC qual scope s.heap.objs.size f cd
 outer:=outer
 stack:=envOfC qual scope s.heap.objs.size f cd::outer
 ex:=[]
 calm:=true
 fn:=λ_=>true
 pn:=[]
 xe:=λe s'=>wpAny (model P w) (A.deeper<|envOfC qual scope s.heap.objs.size f cd) (leaving (envOfC qual scope s.heap.objs.size f cd) e) (λ_ s''=>CX outer H s E e s'') (λe' s''=>CX outer H s E e' s'') s'
def Cg{sc:Scope}{n:Nat}{x}(h:sc.names.lookup x=some .cell):∃c,(cellsFrom n sc.names []).lookup x=some c:=by
 have q:=W.cellsFrom_some sc.names n []<|.inl h;exact Option.isSome_iff_exists.mp q
def D6{CX P w K mg base N ps qual scope f cd A outer s s1 H E us vs}
 (S:FnScope N ps scope) (hd:A.handled=none) (e0:Env0 P w K mg base A outer s H) (hl:vs.length=ps.length) (r:zR vs us)
 (x:InCallC s s.heap.objs.size (bindL (envOfC qual scope s.heap.objs.size f cd).kindOf (ps.zip us) λ_=>none) (cellsFrom (s.heap.objs.size+1) scope.names []) (bindC (envOfC qual scope s.heap.objs.size f cd).kindOf (ps.zip us) λ_=>none) s1):
 Inv (FB CX P w K mg base N qual scope f cd A outer s H E) [] (start N vs) H s1:=by
 have hpl:ps.length<=N.length:=by have:=congrArg List.length S.pre;rw[zzS]at this;omega
 obtain⟨h1,tk,rfl,hk⟩:=x.done;have noA:∀b:Addr,b ∉ (FB CX P w K mg base N qual scope f cd A outer s H E).ex:=λb z=>absurd (show b ∈ ([]:List Addr)from z) (by simp);refine⟨⟨e0.mod,S.kind,rfl,rfl,zzN _,λy z c h1 h2=>?_,λy hy=>?_,λy c _ h=>?_,λ_=>hd,Around.frames_deeper e0.frames,.inr ⟨rfl,rfl⟩,λb z=>absurd z<|noA b,e0.bs,e0.bsz,λb _ _=>noA b,λb z=>absurd z<|noA b,e0.funs,e0.frf⟩,
  rfl,e0.bare,Un.kept hk,⟨_,x.toInCall.ns,λi y v h1 h2 h3=>?_⟩,λy c h=>⟨_,x.cell y c h⟩,e0.hok.fresh<|zzN _,λy c h=>?_,λp hp=>absurd (show p ∈ ([]:List _)from hp) (by simp),e0.hok.kept hk, ?_⟩
 . exact name_of_addr x.apart (PySem.mem_of_lookup h1)<|PySem.mem_of_lookup h2
 . have hy:=hy
   rcases hy with hy|hy
   . exact Cg hy
   . exact absurd rfl<|S.nofree _<|PySem.mem_of_lookup hy
 . exact Nat.le_of_lt<|x.above y c<|PySem.mem_of_lookup h
 . have hi:i<vs.length:=by
    unfold start at h2
    by_cases hi:i<vs.length
    . exact hi
    . rw[zyR<|by simpa using hi]at h2;rw[List.getElem?_replicate]at h2
      split at h2<;>cases h2
   have ha:vs[i]? = some v:=by
    unfold start at h2;rw[zyP (by simpa using hi),zzI]at h2;cases e:vs[i]? with
    |none=>rw[e]at h2;cases h2
    |some a=>rw[e]at h2;cases h2;rfl
   obtain⟨u,hu,rv⟩:=r.get ha;have hp:ps[i]? = some y:=by
    rwa [<-S.pre,List.getElem?_take_of_lt<|by omega]
   have ndP:ps.Nodup:=by rw[<-S.pre];exact S.nd.sublist<|List.take_sublist _ _
   refine⟨u,rv, ?_⟩
   rcases S.par y (zyA hp)with k|k
   . exact .inl ⟨k,Ss ndP hp hu k⟩
   . obtain⟨c,e⟩:=Cg k;refine .inr ⟨.inl k,c,e, ?_⟩;have q:=x.cell y c e
     rwa [SX ndP hp hu (by show scope.names.lookup y≠_;rw[k];decide)]at q
 . exact e0.hok.fresh<|Nat.le_of_lt<|x.above y c<|PySem.mem_of_lookup h
 . unfold start;show _=N.length;rw[zzJ,zzB,List.length_replicate];omega
def gM{CX P w K mg base}{k:Nat}{f name qual params body scope dV kV doc pm cdv ct oc an od}
 {osl N ps sp}(lk:K.lookup f=some ⟨oc,od,.func<|W.fnOf name qual params body scope dV kV doc pm an cdv ct,osl⟩) (hcd:W.codeIn K cdv qual=true) (S:FnScope N ps scope)
 (len:∀vs H Q E,sp vs H Q E->vs.length=ps.length)
 (hbody:∀(A:Around) (outer:List Env) (s:Shared) (H:Hp) (vs:List V) (Q:VK) (E:XK),Room k (A.deeper<|envOfC qual scope s.heap.objs.size f cdv)->sp vs H Q E->
  ∃t,HW (FB CX P w K mg base N qual scope f cdv A outer s H E) body t/\t {nx:=λ_ H'=>Q .non H',rt:=Q} (start N vs) H):
 FnOk P w K mg base CX (k+1) f (W.fnOf name qual params body scope dV kV doc pm an cdv ct) ps sp:=by
 refine⟨len,λA outer s H args us vs Q E hr e0 hb r hsp=>?_⟩;have hl:=len _ _ _ _ hsp;have KX:=e0.mod.kin.keeps λb o e=>(e0.bs b o e).1;have lim:=e0.mod.nolimit.keeps λb o e=>(e0.bs b o e).1;have hkind:∀y ∈ ps.zip us,scope.names.lookup y.1=some .local\/(scope.names.lookup y.1=some .cell/\((cellsFrom (s.heap.objs.size+1) scope.names []).lookup y.1).isSome=true):=λ⟨n,v⟩ hy=>by
  rcases S.par n (List.of_mem_zip hy).1 with q|q
  . exact .inl q
  . exact .inr ⟨q,W.cellsFrom_some _ _ _<|.inl q⟩
 refine codeAny_call_function hr.depth (KX _ _ lk) rfl S.co S.gen rfl (W.codeRec_of KX hcd)<|hb _ _ _ _ ?_;refine wpAny_newFunctionEnv_cells S.kind hkind λenv he s1 x=>?_;subst he;refine⟨lim.keeps x.toInCall.keep,codeAny_func ?_⟩;obtain⟨t,ht,hq⟩:=hbody A outer s H vs Q E (hr.deeper _) hsp;have I:Inv (FB CX P w K mg base N qual scope f cdv A outer s H E) [] _ H s1:=D6 S hr.hd e0 hl r x;refine zxL (ht [] s1 _ H _ I hq) (λfl s' hs=>?_) λe s' hs=>hs;have fin:∀{σ':St}{H':Hp}{v:V}{u:Value},Inv (FB CX P w K mg base N qual scope f cdv A outer s H E) [] σ' H' s'->RelV v u->Q v H'->CE outer P w H s Q u s':=
  λ{σ' H' v u} J rv q=>⟨v,H',J.os,J.bare,J.base,J.hok,rv,q⟩
 cases fl with
 |ret u=>
  obtain⟨v,σ',H',J,rv,q⟩:=hs;exact fin J rv q
 |next=>
  obtain⟨σ',H',J,q⟩:=hs;exact fin (v:=V.non) J rfl q
 |brk=>
  obtain⟨_,_,_,q⟩:=hs;exact False.elim q
 |cont=>
  obtain⟨_,_,_,q⟩:=hs;exact False.elim q
end L2
namespace L2
open PySem PySem.Spec PyProof.Rows
section
variable{X:Cx}{x:Str}{p pos:Pos}{e:Expr}{es:List Expr}{t:TA}{id T:String}{r:List V->Hp->VK->Prop}
def cI(r:List V->Hp->VK->Prop)(t:TA):TE:=λσ H Q=>t σ H λvs H1=>r vs H1 Q
def FS(hc:UL X (.builtin id) r)(hg:Gl X x)(hm:X.mg x=none)(hv:bootBuiltins x=some (.builtin id))(ha:PA X (e::es) t)(hn:x≠"__name__":=by decide)(hdb:(x==("__debug__":Str))=false:=by decide)
 (he:starEach (e::es) X.env=(false,eval e X.env)::starEach es X.env:=by rfl) (hpl:(backTo pos<|starEach es X.env).any (·.1)=false:=by rfl):PE X (.Call (.Name x p) (e::es) [] pos) (cI r t):=by
 intro pins s σ H Q I h;refine wpAny_Call_Name_kw<|RG I hg hm hv ?_ hn hdb;exact PyProof.Rows.callWith_builtin1 (vK (ha pos pins s σ H _ I h) λus s1 ⟨vs,H1,I1,r1,q1⟩=>hc pins s1 σ H1 vs us Q I1 r1 q1) he hpl
def uU(hc:UL X (.type T) r)(hg:Gl X x)(hm:X.mg x=none)(hv:bootBuiltins x=some (.type T))(ha:PA X (e::es) t)(hn:x≠"__name__":=by decide)(hdb:(x==("__debug__":Str))=false:=by decide)
 (he:starEach (e::es) X.env=(false,eval e X.env)::starEach es X.env:=by rfl) (hpl:(backTo pos<|starEach es X.env).any (·.1)=false:=by rfl):PE X (.Call (.Name x p) (e::es) [] pos) (cI r t):=by
 intro pins s σ H Q I h;refine wpAny_Call_Name_kw<|RG I hg hm hv ?_ hn hdb;exact PyProof.Rows.callWith_type1 (vK (ha pos pins s σ H _ I h) λus s1 ⟨vs,H1,I1,r1,q1⟩=>hc pins s1 σ H1 vs us Q I1 r1 q1) he hpl
end
end L2
namespace L2
open PySem PySem.Spec PyProof.Rows
section
variable{κ:Type}[DecidableEq κ]
def LW(kvs:List (κ×V))(k:κ):Option V:=(kvs.find? λkv=>decide (kv.1=k)).map (·.2)
def qd{p r}{k:κ}(e:p.1=k):LW (p::r) k=some p.2:=by simp[LW,e]
def tL{p r}{k:κ}(e:¬p.1=k):LW (p::r) k=LW r k:=by simp[LW,e]
def Kj.isSome_eq(r:Kj o u):o.isSome=u.isSome:=by
 cases o with
 |none=>cases u with
  |none=>rfl
  |some _=>exact(r).elim
 |some _=>cases u with
  |none=>exact(r).elim
  |some _=>rfl
def KV.val{kvs vs}(r:KV kvs vs)(k:κ):Kj (LW kvs k) (valueAt vs k):=by
 induction r with
 |nil=>exact True.intro
 | @cons p q ps qs h t ih=>
  obtain⟨h1,h2⟩:=h
  by_cases e:p.1=k
  . have e':q.1=k:=h1.symm.trans e;have b:valueAt (q::qs) k=some q.2:=by simp[valueAt,e']
    rwa [qd e,b]
  . have e':¬q.1=k:=λz=>e<|h1.trans z;have b:valueAt (q::qs) k=valueAt qs k:=by simp[valueAt,e']
    rwa [tL e,b]
theorem KV.length(r:KV kvs vs):kvs.length=vs.length:=Paired.length r
end
def rG(r:RelV (kV k) u):(YG P w).is k u=true:=by
 cases k with
 |inl i=>obtain⟨t,e⟩:=(r);subst e;exact Cr P w i t
 |inr x=>obtain⟨t,e⟩:=(r);subst e;exact Pn P w x t
section
variable{P:Program}{w:World}{H:Hp}{h:Heap}{a:Addr}
def i8(ok:Nl P w H h)(e:Rd H a u):ZW P w H h a u:=e.ok ok
def iO(ok:Nl P w H h)(e:Rd H a (.dK kvs)):kvs.length<=sizeLine/\(a==sysModules)=false/\∃vs,KV kvs vs/\h.DictOf (YG P w) a vs:=
 show ZW P w H h a _ from i8 ok e
end
end L2
namespace HT
open PySem PyProof.Rows
section
variable{prog:Program}{w:World}{A:Around}{E:Value->Shared->Prop}{s:Shared}
def oe(ht:IsTup s.heap t vs.toArray)(hb:IsTup s.heap b ws.toArray)(hv:vs≠[])
 (h1:ws=[]->Q (.ref t) s) (h2:ws≠[]->Q (.ref s.heap.objs.size) {s with heap:=s.heap.push {cls:=.type "tuple",data:=.seq (vs++ws).toArray}})
 (hsz:vs.length+ws.length<=sizeLine):wpAny (model prog w) A (binaryOp .Add (.ref t)<|.ref b) Q E s:=by
 obtain⟨⟨cls,dd,data,sl⟩,ho,hc,n,hd⟩:=id ht;obtain⟨⟨cls2,dd2,data2,sl2⟩,ho2,hc2,n2,hd2⟩:=id hb;subst hc hd hc2 hd2;have e:vs.toArray++ws.toArray=(vs++ws).toArray:=by simp
 by_cases hw:ws=[]
 . exact concat_meets ⟨_,ho,rfl⟩ ⟨_,ho2,rfl⟩ noFill_tuple_add seq_tuple_add PySem.F.slot_tuple_add PySem.F.entry_tuple_add (PySem.F.args_tuple_add_2 _ _)
    (tuple_addW1 t b vs.toArray ws.toArray n n2 dd dd2 sl sl2 (by simpa using hv)<|by simp[hw]) ⟨ho,ho2,h1 hw⟩
 . refine concat_meets ⟨_,ho,rfl⟩ ⟨_,ho2,rfl⟩ noFill_tuple_add seq_tuple_add PySem.F.slot_tuple_add PySem.F.entry_tuple_add (PySem.F.args_tuple_add_2 _ _)
    (tuple_addW2 t b vs.toArray ws.toArray n n2 dd dd2 sl sl2 (by simpa using hv) (by simpa using hw)<|hsz) ⟨ho,ho2, ?_⟩
   rw[e];exact h2 hw
def sIx(n d:Nat):Option Int->Nat
 |none=>d
 |some v=>if v<0 then(v+(n:Int)).toNat else min v.toNat n
def Fo(n d:Nat):sIx n d none=d:=rfl
def PK(n d k:Nat):sIx n d (some (k:Int))=min k n:=rfl
def AJ(v)(n d:Nat):(if v<0 then max (v+(n:Int)) 0 else min v (n:Int))=((sIx n d (some v):Nat):Int):=by
 show _=(((if v<0 then(v+_).toNat else min v.toNat n):Nat):Int)
 by_cases hv:v<0
 . simp only[if_pos hv];omega
 . simp only[if_neg hv];omega
def JJ(lo hi)(n:Nat):Builtin.Slice.sliceAdjust lo hi 1 (n:Int)=(((sIx n 0 lo:Nat):Int),((sIx n n hi:Nat):Int)):=by
 refine Prod.ext ?_ ?_
 . cases lo with
   |none=>rfl
   |some v=>exact AJ v n 0
 . cases hi with
   |none=>rfl
   |some v=>exact AJ v n n
def JW(i j:Nat):Builtin.Slice.slicePlaces (i:Int) (j:Int) 1=j-i:=by
 unfold Builtin.Slice.slicePlaces;have h1:(1:Int) > 0:=by omega
 simp
 split<;>omega
def Fu(p:IsPart v o)(h:Q o s):wpAny (model prog w) A (Builtin.Slice.slicePartIndex v) Q E s:=by
 cases p with
 |none=>exact slicePart_none h
 |int i t=>exact slicePart_int h
def L_{sl vl vu lo hi}{n:Nat}{Q}(hs:s.heap.IsSliceOf sl vl vu .none)(pl:IsPart vl lo)(pu:IsPart vu hi)
 (h:Q (((sIx n 0 lo:Nat):Int),1,sIx n n hi-sIx n 0 lo) s):wpAny (model prog w) A (Builtin.Slice.sliceApplied (.ref sl)<|pure (n:Int)) Q E s:=by
 obtain⟨os,hos,hcs,hds⟩:=id hs;refine zxE<|zxE<|wpAny_field hos hds rfl<|zxE<|wpAny_field hos hds rfl<|zxE<|wpAny_field hos hds rfl<|zxF ?_;refine zxE<|slicePart_none ?_;refine zxE<|Fu pl<|zxE<|Fu pu<|zxE<|zxF ?_;show wpAny _ _ (match Builtin.Slice.sliceAdjust lo hi 1 _ with|(lo,hi)=>pure (lo,_,Builtin.Slice.slicePlaces lo hi 1)) _ _ s;rw[JJ lo hi n];show wpAny _ _ (pure _) _ _ s;rw[JW];exact zxF h
def sX(xs:Array Value)(i k:Nat):((List.range k).filterMap λ(m:Nat)=>xs[((i:Int)+(m:Int)*1).toNat]?).toArray=((xs.toList.drop i).take k).toArray:=by
 have e:(λ(m:Nat)=>xs[(i+(m:Int)*1).toNat]?)=λm=>xs[i+m]? := by
  funext m;have:(i+(m:Int)*1).toNat=i+m:=by omega
  rw[this]
 rw[e];have:=pick_run xs i k;rw[List.filterMap_map]at this;have e2:(_∘λx=>i+x)=λm=>xs[i+m]? := rfl;rw[e2]at this;rw[this]
def K7{t sl items vl vu lo hi Q}(ht:IsTup s.heap t items)(hs:s.heap.IsSliceOf sl vl vu .none)(pl:IsPart vl lo)(pu:IsPart vu hi)
 (hw:¬(sIx items.size 0 lo=0/\sIx items.size items.size hi=items.size))
 (h:Q (.ref s.heap.objs.size) {s with heap:=s.heap.push {cls:=.type "tuple",data:=.seq ((items.toList.drop<|sIx items.size 0 lo).take<|sIx items.size items.size hi-sIx items.size 0 lo).toArray}})
 (hsz:items.size<=sizeLine):wpAny (model prog w) A (getItem (.ref t)<|.ref sl) Q E s:=by
 have htake:sizeOk (.seq ((items.toList.drop<|sIx items.size 0 lo).take<|sIx items.size items.size hi-sIx items.size 0 lo).toArray):=by
  show((items.toList.drop _).take _).toArray.size<=sizeLine;rw[zzH,zzS,List.length_drop,zyT];omega
 obtain⟨os,hos,hcs,hds⟩:=id hs;have hTs:s.TypeIs (.ref sl) "slice":=⟨os,hos,hcs⟩;unfold getItem
 try with_reducible refine zxJ ?_
 first|refine zxE _|skip
 refine zxE<|wpAny_sequenceKey ht.typeIs (by decide) ?_;refine zxE<|wpAny_callSpecial?_slot ht.typeIs PyProof.Rows.slot_tuple_getitem
  (zxM PyProof.Rows.slot_tuple_getitem ht.typeIs entry_tuple_getitem ?_<|args_tuple_getitem _ _)
 show wpAny _ _ (Builtin.Tuple.tupleItemsOf _ >>= _) _ _ s;refine zxE<|tupleItemsOf_ ht ?_;refine zxE<|wpAny_typeOf hTs ?_;refine zxE<|L_ hs pl pu ?_;have hno:¬((((sIx items.size 0 lo:Nat):Int)==0&&(1:Int)==1&&(sIx items.size items.size hi-sIx items.size 0 lo)==items.size)=true):=by
  intro q;rw[zyC,zyC]at q;have q1:=eq_of_beq q.1.1;have q2:=eq_of_beq q.2;exact hw ⟨by omega,by omega⟩
 show wpAny _ _ (if _=true then _ else _) _ _ s;rw[if_neg hno,sX]
 first
  |exact zxE (wpAny_newObj_type (zxF ⟨_,rfl,zxF h⟩) htake)
  |exact zxE _
  |exact zxE _
  |exact zxE _
end
end HT
namespace L2
open PySem PySem.Spec PyProof.Rows
abbrev TO:=St->Hp->(Option Int->Hp->Prop)->Prop
def PO(X:Cx)(e:Option Expr)(t:TO):Prop:=
 ∀(pins:List (Addr×Obj)) (s:Shared) (σ:St) (H:Hp) (Q:Option Int->Hp->Prop),Inv X pins σ H s->t σ H Q->
  wpAny (model X.prog X.w) X.A (evalPart e X.env) (λu s'=>∃o H',Inv X pins σ H' s'/\IsPart u o/\Q o H') X.xe s
def Dk:TO:=λ_ H Q=>Q none H
def il(t:TE):TO:=λσ H Q=>t σ H λx H1=>∃i,x = .int i/\Q (some i) H1
def intsAre_of:∀{us:List Value},zR (ns.map V.int) us->IntsAre us ns:=by
 induction ns with
 |nil=>intro us r;cases r;exact .nil
 |cons n ns ih=>
  intro us r;cases r with
  |cons r1 r2=>
   obtain⟨t,e⟩:=r1;subst e;exact .cons n t<|ih r2
section
variable{X:Cx}{e:Expr}{te:TE}{lo hi:Option Expr}{tl th:TO}{pos p2:Pos}
def qZ:PO X none Dk:=by
 intro pins s σ H Q I h;rw[evalPart_none];exact zxF ⟨none,H,I,.none,h⟩
def oF(h:PE X e te):PO X (some e) (il te):=by
 intro pins s σ H Q I hw;rw[evalPart_some];refine vK (h pins s σ H _ I hw) λu s1 ⟨x,H1,I1,r1,q1⟩=>?_;obtain⟨i,rfl,q⟩:=q1;obtain⟨t,rfl⟩:=r1;exact⟨some i,H1,I1,.int i t,q⟩
def fQ(X:Cx)(r:V->Option Int->Option Int->Hp->VK->Prop):Prop:=
 ∀(pins:List (Addr×Obj)) (s:Shared) (σ:St) (H:Hp) (x:V) (v vl vu:Value) (lo hi:Option Int) (sl:Addr) (Q:VK),Inv X pins σ H s->RelV x v->s.heap.IsSliceOf sl vl vu .none->IsPart vl lo->IsPart vu hi->r x lo hi H Q->
  ∃T id,typeLookup (.type T) "__getitem__"=pure (some<|.builtin id)/\s.TypeIs v T/\wpAny (model X.prog X.w) X.A (getItem v<|.ref sl) (EP X pins σ Q) X.xe s
def dZ(r:V->Option Int->Option Int->Hp->VK->Prop)(te:TE)(tl th:TO):TE:=λσ H Q=>te σ H λx H1=>tl σ H1 λl H2=>th σ H2 λu H3=>r x l u H3 Q
def rY(hr:fQ X r)(he:PE X e te)(hl:PO X lo tl)(hu:PO X hi th):PE X (.Subscript e (.Slice lo hi none p2) pos) (dZ r te tl th):=by
 intro pins s σ H Q I h;refine Subscript_<|vK (he pins s σ H _ I h) λv s1 ⟨x,H1,I1,r1,q1⟩=>?_;refine wpAny_Slice<|vK (hl pins s1 σ H1 _ I1 q1) λvl s2 ⟨l,H2,I2,pl,q2⟩=>vK (hu pins s2 σ H2 _ I2 q2) λvu s3 ⟨u,H3,I3,pu,q3⟩=>?_;rw[evalPart_none];refine zxF ?_;have I4:Inv X pins σ H3 {s3 with heap:=s3.heap.push {cls:=.type "slice",data:=.fields #[vl,vu,.none]}}:=I3.kept (t':=s3.toks) λb ob q=>zxG _ q;obtain⟨T,id,hT,ht,hg⟩:=hr pins {s3 with heap:=s3.heap.push {cls:=.type "slice",data:=.fields #[vl,vu,.none]}} σ H3 x v vl vu l u s3.heap.objs.size Q I4 r1 (Heap.IsSliceOf.new ..) pl pu q3;exact tail_any ht hT hg (by with_unfolding_all rfl)
def uv(xs:List V)(lo hi:Option Int):List V:=(xs.drop<|HT.sIx xs.length 0 lo).take<|HT.sIx xs.length xs.length hi-HT.sIx xs.length 0 lo
def NW(xs)(lo hi):(uv xs lo hi).length<=xs.length:=by
 unfold uv;rw[zzS,List.length_drop];omega
def dt(K:zzA):V->Option Int->Option Int->Hp->VK->Prop:=λx lo hi H Q=>∃a xs,x = .ref a/\Gx K H a xs/\
 ¬(HT.sIx xs.length 0 lo=0/\HT.sIx xs.length xs.length hi=xs.length)/\∀p,H p=none->Q (.ref p) (upd H p<|.tup<|uv xs lo hi)
def jS:fQ X (dt X.K):=by
 intro pins s σ H x v vl vu lo hi sl Q I rx hs pl pu h;obtain⟨a,xs,rfl,hx,hw,q⟩:=h;cases rx;obtain⟨its,r,ht,hz⟩:=I.tuple hx;have hlen:its.toArray.size=xs.length:=by rw[zzH];exact r.length.symm
 refine⟨"tuple",_,PyProof.Rows.slot_tuple_getitem.lookup,ht.typeIs, ?_⟩;refine HT.K7 ht hs pl pu (by rw[hlen];exact hw) ?_ (by rw[hlen];exact hz);rw[hlen];refine⟨.ref s.heap.objs.size,_,I.laid (t':=s.toks) (λb ob q=>zxG _ q) (zzN _) ?_,rfl,q _<|I.hok.fresh<|zzN _⟩;exact⟨zzO (NW xs lo hi) hz,_,(r.drop _).take _,IsTup.new _ _⟩
def iN(K:zzA):R2:=λx y H Q=>∃a b xs ys,x = .ref a/\y = .ref b/\Gx K H a xs/\Gx K H b ys/\xs≠[]/\xs.length+ys.length<=sizeLine/\
 (ys=[]->Q (.ref a) H)/\(ys≠[]->∀p,H p=none->Q (.ref p) (upd H p<|.tup<|xs++ys))
def zR.nil_iff(r:zR xs us):us=[] ↔ xs=[]:=by
 cases r with
 |nil=>simp
 |cons _ _=>simp
def pZ:LP X (binaryOp .Add) (iN X.K):=by
 intro pins s σ H x y v u Q I rx ry h;obtain⟨a,b,xs,ys,rfl,rfl,ha,hb,hx,hz,q1,q2⟩:=h;cases rx;cases ry;obtain⟨its,r1,p1,_⟩:=I.tuple ha;obtain⟨its2,r2,p2,_⟩:=I.tuple hb;refine HT.oe p1 p2 (λz=>hx<|r1.nil_iff.mp z) (λz=>⟨.ref a,H,I,rfl,q1<|r2.nil_iff.mp z⟩) (λz=>?_) (by rw[<-r1.length,<-r2.length];exact hz);refine⟨.ref s.heap.objs.size,_,I.laid (t':=s.toks) (λb ob q=>zxG _ q) (zzN _) ?_,rfl,q2 (λw=>z<|r2.nil_iff.mpr w) _<|I.hok.fresh<|zzN _⟩;exact⟨by rw[zzJ];exact hz,_,r1.append r2,IsTup.new _ _⟩
end
end L2
namespace L2
open PySem PySem.Spec PyProof.Rows
def qG(n:Nat)(i:Int):Option Nat:=if 0<=i then(if i<n then some i.toNat else none)else if -(n:Int)<=i then some (i+n).toNat else none
def C_{α:Type}(xs:List α)(i:Int):Option α:=(qG xs.length i).bind λj=>xs[j]?
def DQ(h:qG n i=some j):seqIndex? i n=some j/\j<n /\ -(n:Int)<=i/\i<n:=by
 unfold qG at h
 by_cases h0:0<=i
 . rw[if_pos h0]at h
   by_cases h1:i<n
   . rw[if_pos h1]at h;have e:=zzZ h;exact⟨by rw[seqIndex_of h0 h1,e],by omega,by omega,h1⟩
   . rw[if_neg h1]at h;cases h
 . rw[if_neg h0]at h
   by_cases h1 : -n<=i
   . rw[if_pos h1]at h;have e:=zzZ h;exact⟨by rw[seqIndex_neg (by omega) h1,e],by omega,h1,by omega⟩
   . rw[if_neg h1]at h;cases h
def Ca(h:C_ xs i=some v):∃j,seqIndex? i xs.length=some j/\xs[j]? = some v/\j<xs.length /\ -(xs.length:Int)<=i/\i<xs.length:=by
 unfold C_ at h;cases e:qG xs.length i with
 |none=>rw[e]at h;cases h
 |some j=>
  rw[e]at h;obtain⟨h1,h2,h3,h4⟩:=DQ e;exact⟨j,h1,h,h2,h3,h4⟩
def PN{α:Type}{xs}{j:Nat}{v:α}(h:xs[j]? = some v):C_ xs (j:Int)=some v:=by
 have hj:=(zzG.mp h).1;have e:qG xs.length (j:Int)=some j:=by
  unfold qG;rw[if_pos (by omega),if_pos<|by omega];simp
 unfold C_;rw[e];exact h
def Hz(b:Expr):Prop:=∀o i,subscripted b false o i=operate [o,i] (getItem o i)
def gY(X:Cx)(r:R2):Prop:=
 ∀(value slice:Expr) (pins:List (Addr×Obj)) (s:Shared) (σ:St) (H:Hp) (x y:V) (v u:Value) (Q:VK),Inv X pins σ H s->RelV x v->RelV y u->r x y H Q->
  subscripted slice false v u=operate [v,u] (getItem v u)->wpAny (model X.prog X.w) X.A (subscriptTail value slice v u) (EP X pins σ Q) X.xe s
def cM(X:Cx)(id:String)(r:V->List V->Hp->VK->Prop):Prop:=
 ∀(pins:List (Addr×Obj)) (s:Shared) (σ:St) (H:Hp) (x:V) (xs:List V) (v:Value) (us:List Value) (Q:VK),Inv X pins σ H s->RelV x v->zR xs us->r x xs H Q->
  wpAny (model X.prog X.w) X.A (call (.builtin id) (v::us)) (EP X pins σ Q) X.xe s
section
variable{X:Cx}{a b:Expr}{ta tb:TE}{pos:Pos}
def gK(hr:gY X r)(ha:PE X a ta)(hb:PE X b tb)(hs:Hz b):PE X (.Subscript a b pos) (gO r ta tb):=by
 intro pins s σ H Q I h;exact Subscript_<|lW ha hb I h λv u s2 x y H2 I2 rx ry q=>hr a b pins s2 σ H2 x y v u Q I2 rx ry q<|hs _ _
def dB(K:zzA):R2:=λx y H Q=>∃p xs i v,x = .ref p/\y = .int i/\FT K H p xs/\C_ xs i=some v/\Q v H
def eK(K:zzA):R2:=λx y H Q=>∃p xs i v,x = .ref p/\y = .int i/\Gx K H p xs/\C_ xs i=some v/\Q v H
def eM:R2:=λx y H Q=>∃z i c,x = .str z/\y = .int i/\z.length<=sizeLine/\C_ z.cps.toList i=some c/\Q (.str ⟨#[c]⟩) H
def pd:gY X (dB X.K):=by
 intro value slice pins s σ H x y v u Q I rx ry h hs;obtain⟨p,xs,i,z,rfl,rfl,hq,he,q⟩:=h;cases rx;obtain⟨t,rfl⟩:=ry;obtain⟨its,r,pl,hz⟩:=I.list hq;obtain⟨j,h1,h2,h3,h4,h5⟩:=Ca he;obtain⟨w,ew,rw'⟩:=r.get h2;have hl:=r.length;have hn:=Gg;have fin:EP X pins σ Q w s:=⟨z,H,I,rw',q⟩
 by_cases h0:0<=i
 . have hj:i.toNat=j:=by
    rw[seqIndex_of h0 h5]at h1;exact zzZ h1
   exact item_listR pl.isList h0 (by omega) (by rw[hj];simpa using ew) fin hs
 . have hj:(i+(its.toArray.size:Int)).toNat=j:=by
    rw[seqIndex_neg (by omega) h4]at h1;rw[zzH,<-hl];exact zzZ h1
   exact subscriptTail_builtinR pl.isList.typeIs slot_list_getitem.lookup
    (wpAny_getItem_list_neg pl.isList (by omega) (by rw[zzH]<;>omega) (by omega) (by rw[hj];simpa using ew) ⟨rfl,fin⟩) hs
def jM:gY X (eK X.K):=by
 intro value slice pins s σ H x y v u Q I rx ry h hs;obtain⟨p,xs,i,z,rfl,rfl,hq,he,q⟩:=h;cases rx;obtain⟨t,rfl⟩:=ry;obtain⟨its,r,pl,hz⟩:=I.tuple hq;obtain⟨j,h1,h2,h3,h4,h5⟩:=Ca he;obtain⟨w,ew,rw'⟩:=r.get h2;have hl:=r.length;have hn:=Gg;have fin:EP X pins σ Q w s:=⟨z,H,I,rw',q⟩;exact subscriptTail_builtinR pl.typeIs slot_tuple_getitem.lookup
  (getItem_tuple pl (by omega) (by omega) (by rw[zzH,<-hl];exact h1) (by simpa using ew) ⟨rfl,fin⟩) hs
def jz:gY X eM:=by
 intro value slice pins s σ H x y v u Q I rx ry h hs;obtain⟨z,i,c,rfl,rfl,hz,he,q⟩:=h;obtain⟨t,rfl⟩:=rx;obtain⟨t',rfl⟩:=ry;obtain⟨j,h1,h2,h3,h4,h5⟩:=Ca he;have hl:z.cps.toList.length=z.length:=by simp[Str.length]
 rw[hl]at h1 h4 h5;have hn:=Gg;exact tail_any (typeIs_str s z t) slot_str_getitem.lookup (getItem_str (by
  have e1:decide (i < -(2 ^ 63:Int))=false:=zyG (by omega);have e2:decide (i ≥ 2 ^ 63)=false:=zyG (by omega);rw[e1,e2,Bool.or_false]) (by rw[h1];simpa using h2) ⟨.str ⟨#[c]⟩,H,I.tok _,⟨_,rfl⟩,q⟩) hs
def J1(its:List Value)(n j:Nat)(u):Obj.mapSeq (·.setIfInBounds j u) {cls:=.type "list",data:=.seq its.toArray n}={cls:=.type "list",data:=.seq (its.set j u).toArray n}:=by
 simp[Obj.mapSeq]
theorem Inv.lst(I:Inv X pins σ H s)(h:H p=some (.lst xs)):
 ∃(its:List Value) (n:Nat),zR xs its/\s.heap.get? p=some {cls:=.type "list",data:=.seq its.toArray n}/\xs.length<=sizeLine:=by
 obtain⟨z,its,n,r,e⟩:=I.hok p _ h;exact⟨its,n,r,e,z⟩
def Inv.lstUpd{pins σ H s p xs ys}{its its':List Value}{n n':Nat}{f}(I:Inv X pins σ H s)(h:H p=some (.lst xs))
 (ho:s.heap.get? p=some {cls:=.type "list",data:=.seq its.toArray n}) (hf:f {cls:=.type "list",data:=.seq its.toArray n}={cls:=.type "list",data:=.seq its'.toArray n'}) (r:zR ys its') (hz:ys.length<=sizeLine) (t:Nat):
 Inv X pins σ (upd H p<|.lst ys) {s with heap:=s.heap.update p f,toks:=t}:=by
 have e:(s.heap.update p f).get? p=some {cls:=.type "list",data:=.seq its'.toArray n'}:=by
  rw[Heap.get?_update_self f ho (by rw[hf]<;>rfl),hf]
 refine I.write (by rw[h];trivial) (.inl rfl) (λb u hb q=>(Heap.get?_update_other _ _<|Ne.symm hb).trans q) ⟨_,e⟩ ?_;exact⟨hz,its',n',r,e⟩
def hE:V->V->V->Hp->(Hp->Prop)->Prop:=λo i v H Q=>∃p xs k j,o = .ref p/\i = .int k/\H p=some (.lst xs)/\qG xs.length k=some j/\Q (upd H p<|.lst<|xs.set j v)
def set_list:ic X hE:=by
 intro pins s σ H o i v ov iv u Q I ro ri rv h;obtain⟨p,xs,k,j,rfl,rfl,hp,hj,q⟩:=h;cases ro;obtain⟨t,rfl⟩:=ri;obtain⟨its,n,r,ho,hz⟩:=I.lst hp;obtain⟨h1,h2,h3,h4⟩:=DQ hj;have hl:=r.length;have hn:=Gg;have I':Inv X pins σ _ {s with heap:=s.heap.update p _}:=
  I.lstUpd hp ho (J1 its n j u) (r.set rv j) (by rw[zzU];exact hz) s.toks
 by_cases h0:0<=k
 . have hk:k.toNat=j:=by
    rw[seqIndex_of h0 h4]at h1;exact zzZ h1
   exact W.ki_setAt ho h0 (by omega) (by rw[zzH,<-hl];exact h4) (by rw[hk];exact⟨_,I',q⟩)
 . have hk:(k+(its.toArray.size:Int)).toNat=j:=by
    rw[seqIndex_neg (by omega) h3]at h1;rw[zzH,<-hl];exact zzZ h1
   exact W.ki_setBack ho (by omega) (by rw[zzH,<-hl];exact h3) (by omega) (by rw[hk];exact⟨_,I',q⟩)
def O1(lo hi)(n:Nat):(sliceBounds lo hi none n).1=((HT.sIx n 0 lo:Nat):Int)/\(sliceBounds lo hi none n).2.1=((HT.sIx n n hi:Nat):Int)/\(sliceBounds lo hi none n).2.2=1:=by
 refine⟨?_, ?_,rfl⟩
 . cases lo with
   |none=>simp[sliceBounds,HT.sIx]
   |some i=>
    simp only[sliceBounds,HT.sIx,Option.getD_none,show 1 > 0 by decide,if_true]
    by_cases h:i<0
    . simp only[h,if_true]<;>omega
    . simp only[h,if_false]<;>omega
 . cases hi with
   |none=>simp[sliceBounds,HT.sIx]
   |some i=>
    simp only[sliceBounds,HT.sIx,Option.getD_none,show 1 > 0 by decide,if_true]
    by_cases h:i<0
    . simp only[h,if_true]<;>omega
    . simp only[h,if_false]<;>omega
def Sb(its:List Value)(lo hi):slicePick its.toArray lo hi none=((its.drop<|HT.sIx its.length 0 lo).take<|HT.sIx its.length its.length hi-HT.sIx its.length 0 lo).toArray:=by
 obtain⟨h1,h2,h3⟩:=O1 lo hi its.toArray.size;unfold slicePick;rw[h1,h2,h3];simp only[sliceRange_one,pick_run,zzH]<;>rfl
def dE(K:zzA):V->Option Int->Option Int->Hp->VK->Prop:=λx lo hi H Q=>∃a xs,x = .ref a/\FT K H a xs/\∀p,H p=none->Q (.ref p) (upd H p<|.lst<|uv xs lo hi)
def oM:fQ X (dE X.K):=by
 intro pins s σ H x v vl vu lo hi sl Q I rx hs pl pu h;obtain⟨a,xs,rfl,hx,q⟩:=h;cases rx;obtain⟨its,r,ht,hz⟩:=I.list hx;have hlen:=r.length;refine⟨"list",_,slot_list_getitem.lookup,ht.isList.typeIs, ?_⟩;refine wpAny_getItem_list_slice ht.isList hs pl pu .none (by simp) ?_ (by rw[zzH]<;>omega);rw[Sb,<-hlen];refine⟨.ref s.heap.objs.size,_,I.laid (t':=s.toks) (λb ob q=>zxG _ q) (zzN _) ?_,rfl,q _<|I.hok.fresh<|zzN _⟩;exact⟨zzO (NW xs lo hi) hz,_,0,(r.drop _).take _,zxI _ rfl⟩
def Kb:UL X (.builtin "len") (λxs H Q=>∃p ys,xs=[.ref p]/\(FT X.K H p ys\/Gx X.K H p ys)/\Q (.int ys.length) H):=by
 intro pins s σ H xs us Q I r h;obtain⟨p,ys,rfl,hq,q⟩:=h;obtain⟨u,rfl,rx⟩:=vals1 r;cases rx;have hn:=Gg
 rcases hq with hq|hq
 . obtain⟨its,r',pl,hz⟩:=I.list hq;have hlen:=r'.length;exact Calls.call_len_list pl.isList (by simp only[zzH]<;>omega) ⟨.int ys.length,H,I.tok _,⟨s.toks+1,by rw[zzH,hlen]⟩,q⟩
 . obtain⟨its,r',pl,hz⟩:=I.tuple hq;have hlen:=r'.length;exact len_tuple pl (by simp only[zzH]<;>omega) ⟨.int ys.length,H,I.tok _,⟨s.toks+1,by rw[zzH,hlen]⟩,q⟩
def Os:UL X (.builtin "len") (λxs H Q=>∃z,xs=[.str z]/\z.length<=sizeLine/\Q (.int z.length) H):=by
 intro pins s σ H xs us Q I r h;obtain⟨z,rfl,hz,q⟩:=h;obtain⟨u,rfl,t,rfl⟩:=vals1 r;have hn:=Gg;exact len_str (by omega) ⟨.int z.length,H,I.tok _,⟨_,rfl⟩,q⟩
def Kr:UL X (.type "list") (λxs H Q=>∃p ys,xs=[.ref p]/\(FT X.K H p ys\/Gx X.K H p ys)/\∀l,H l=none->Q (.ref l) (upd H l<|.lst ys)):=by
 intro pins s σ H xs us Q I r h;obtain⟨p,ys,rfl,hq,q⟩:=h;obtain⟨u,rfl,rx⟩:=vals1 r;cases rx;have fin:∀its,zR ys its->ys.length<=sizeLine->∀h' c',_->
  h'.get? s.heap.objs.size=some {cls:=.type "list",dict:=none,data:=.seq its.toArray c',slots:=#[]}->EP X pins σ Q _ {s with heap:=h'}:=λits r' hz h' c' kp e=>
  ⟨.ref s.heap.objs.size,_,I.laid (t':=s.toks) kp (zzN _) (show ZW X.prog X.w _ h' _ (.lst ys)from⟨hz,its,c',r',e⟩),rfl,q _<|I.hok.fresh<|zzN _⟩
 rcases hq with hq|hq
 . obtain⟨its,r',pl,hz⟩:=I.list hq;have hlen:=r'.length;obtain⟨o,ho,hc,n,hd⟩:=pl.isList;exact call_list_seq p (.inl rfl) ho hc hd (λh' c' kp e=>fin its r' hz h' c' kp e) (by simp only[zzH]<;>omega)
 . obtain⟨its,r',pl,hz⟩:=I.tuple hq;have hlen:=r'.length;obtain⟨o,ho,hc,n,hd⟩:=pl;exact call_list_seq p (.inr rfl) ho hc hd (λh' c' kp e=>fin its r' hz h' c' kp e) (by simp only[zzH]<;>omega)
def TC:UL X (.type "tuple") (λxs H Q=>∃p ys,xs=[.ref p]/\((FT X.K H p ys/\∀l,H l=none->Q (.ref l) (upd H l<|.tup ys))\/(Gx X.K H p ys/\Q (.ref p) H))):=by
 intro pins s σ H xs us Q I r h;obtain⟨p,ys,rfl,h⟩:=h;obtain⟨u,rfl,rx⟩:=vals1 r;cases rx
 rcases h with⟨hq,q⟩|⟨hq,q⟩
 . obtain⟨its,r',pl,hz⟩:=I.list hq;have hlen:=r'.length;refine call_tuple_list pl.isList (λh' kp=>?_) (by simp only[zzH]<;>omega);have I1:=I.kept (t':=s.toks) kp;have I2:=
    I1.laid (t':=s.toks) (λb o e=>zxG _ e) (zzN _) (show ZW X.prog X.w _ _ _ (.tup ys)from⟨hz,its,r',IsTup.new _ _⟩)
   exact⟨.ref h'.objs.size,_,I2,rfl,q _<|I1.hok.fresh<|zzN _⟩
 . obtain⟨its,r',pl,hz⟩:=I.tuple hq;exact call_tuple_same pl ⟨.ref p,H,I,rfl,q⟩
def cF(K:zzA)(T:String)(x:V)(H:Hp):Prop:=match x with
 | .str _=>T="str"
 | .int _=>T="int"
 | .ref p=>(T="list"/\∃xs,FT K H p xs)\/(T="tuple"/\∃o,K.lookup p=some o/\o.cls = .type "tuple"/\o.dict=none) \/
  (T="dict"/\((∃kvs,H p=some (.dK kvs))\/∃kvs,H p=some (.dT kvs)))\/(T="set"/\∃S n,H p=some (.set S n))
 |_=>False
def kx(I:Inv X pins σ H s)(r:RelV x v)(ty:cF X.K T x H):
 s.TypeIs v T/\∀a,v = .ref a->∃ob,s.heap.get? a=some ob/\ob.dict=none:=by
 cases x with
 |str z=>
  obtain⟨t,rfl⟩:=r;cases(ty);exact⟨typeIs_str s z t,λ_ e=>nomatch e⟩
 |int i=>
  obtain⟨t,rfl⟩:=r;cases(ty);exact⟨typeIs_int s i t,λ_ e=>nomatch e⟩
 |ref p=>
  cases r
  rcases ty with⟨rfl,xs,hq⟩|⟨rfl,o,hk,hc,hd⟩|⟨rfl,hk⟩|⟨rfl,S,n,hk⟩
  . obtain⟨its,_,pl,_⟩:=I.list hq;refine⟨pl.isList.typeIs,λa e=>?_⟩;cases e;obtain⟨o,n,e,c,hd,_⟩:=pl;exact⟨o,e,hd⟩
  . refine⟨⟨o,I.kIn p o hk,hc⟩,λa e=>?_⟩;cases e;exact⟨o,I.kIn _ o hk,hd⟩
  . have z:∃o,s.heap.get? p=some o/\o.ExactDict:=by
     rcases hk with⟨kvs,hk⟩|⟨kvs,hk⟩
     . obtain⟨_,_,_,_,o,_,_,e,ex,_⟩:=I.hok p _ hk;exact⟨o,e,ex⟩
     . obtain⟨_,_,_,_,o,_,_,e,ex,_⟩:=I.hok p _ hk;exact⟨o,e,ex⟩
    obtain⟨o,e,ex⟩:=z;refine⟨⟨o,e,ex.1⟩,λa e2=>?_⟩;cases e2;exact⟨o,e,ex.2.1⟩
  . obtain⟨o,_,_,_,e,ex,_⟩:=I.hok p _ hk;refine⟨⟨o,e,ex.1⟩,λa e2=>?_⟩;cases e2;exact⟨o,e,ex.2.1⟩
 |_=>exact False.elim ty
def cC(K:zzA)(T:String)(r:V->List V->Hp->VK->Prop)(to:TE)(t:TA):TE:=λσ H Q=>to σ H λx H1=>cF K T x H1/\t σ H1 λxs H2=>r x xs H2 Q
variable{o e:Expr}{es:List Expr}{to:TE}{t:TA}{name:Str}{apos cpos:Pos}{T id:String}{r:V->List V->Hp->VK->Prop}
def mF(pa:PlainAttrs T)(slot:Slot T name id)(hty:typeOf (.builtin id)=pure (.type "method_descriptor"))(hm:cM X id r)(ho:PE X o to)(ha:PA X (e::es) t)
 (hbase:attributeBase o name X.env (eval o X.env)=eval o X.env:=by rfl)
 (hfew:((backTo cpos<|starEach (e::es) X.env).all (λx=>!x.1)&&(backToKw cpos<|keywordEach [] X.env).all (λx=>x.1.isSome)
  && decide ((e::es).length+([]:List Keyword).length+(if([]:List Keyword).isEmpty then 0 else 1)<30))=true:=by rfl)
 (hline:(apos.endLine==cpos.line)=true:=by rfl) (hs:starEach (e::es) X.env=(false,eval e X.env)::starEach es X.env:=by rfl) (hplain:(backTo cpos<|starEach es X.env).any (·.1)=false:=by rfl):
 PE X (.Call (.Attribute o name apos) (e::es) [] cpos) (cC X.K T r to t):=by
 intro pins s σ H Q I h;refine wpAny_Call_method_late hbase hfew hline rfl<|vK (ho pins s σ H _ I h) λv s1 ⟨x,H1,I1,r1,ty,q1⟩=>?_;obtain⟨h1,h2⟩:=kx I1 r1 ty;refine⟨T,id,pa,slot,hty,h1,h2, ?_⟩;have hA:=ha cpos pins s1 σ H1 _ I1 q1;rw[hs]at hA ⊢;refine Calls.callWith_builtin (by show(false||(backTo cpos _).any (·.1))=false;rw[hplain]<;>rfl)<|Calls.evalArgs_plain ?_;exact vK hA λus s2 ⟨vs,H2,I2,r2,q2⟩=>hm pins s2 σ H2 x vs v us Q I2 r1 r2 q2
end
end L2
namespace L2
open PySem PySem.Spec PyProof.Rows
def cu(X:Cx)(id:String)(r:V->List V->Hp->VK->Prop):Prop:=
 ∀(pins:List (Addr×Obj)) (s:Shared) (σ:St) (H:Hp) (x:V) (xs:List V) (v:Value) (us:List Value) (Q:VK),Inv X pins σ H s->RelV x v->zR xs us->r x xs H Q->
  wpAny (model X.prog X.w) X.A (call (.builtin id) (v::us)) (EP X pins σ Q) X.xe s
def zR.one:∀{x:V}{us:List Value},zR [x] us->∃u,us=[u]/\RelV x u:=by
 intro x us h;cases h with
 |cons r t=>cases t;exact⟨_,rfl,r⟩
theorem zR.reverse(h:zR xs us):zR xs.reverse us.reverse:=by
 induction h with
 |nil=>exact .nil
 |cons r t ih=>rw[List.reverse_cons,List.reverse_cons];exact zR.append ih<|.cons r .nil
theorem zR.rep(h:zR xs us):∀k:Nat,zR (List.replicate k xs).flatten (List.replicate k us).flatten
 |0=>.nil
 |k+1=>by
  rw[List.replicate_succ,List.replicate_succ,List.flatten_cons,List.flatten_cons];exact zR.append h<|zR.rep h k
theorem foldl_rep(its):∀(k:Nat) (acc:List Value),
 List.foldl (λx1 x2=>x1++x2) acc.toArray (List.replicate k its.toArray)=(acc++(List.replicate k its).flatten).toArray
 |0,acc=>by simp
 |k+1,acc=>by
  have e:acc.toArray++its.toArray=(acc++its).toArray:=by simp
  have e2:(acc++its)++(List.replicate k its).flatten=acc++(List.replicate (k+1) its).flatten:=by
   rw[List.replicate_succ,List.flatten_cons,zxB]
  rw[<-e2,<-foldl_rep its k _,<-e,List.replicate_succ,List.foldl_cons]
section
variable{X:Cx}{pins:List (Addr×Obj)}{σ:St}{H:Hp}{s:Shared}{l b:Addr}{xs ys zs:List V}
def Inv.lset{its its':List Value}{n:Nat}{f}{t':Nat}(I:Inv X pins σ H s)(hH:H l=some (.lst xs))
 (e:s.heap.get? l=some {cls:=.type "list",data:=.seq its.toArray n}) (hf:f its.toArray=its'.toArray) (hv:zR ys its') (hz:ys.length<=sizeLine):
 Inv X pins σ (upd H l<|.lst ys) {s with heap:=s.heap.update l<|Obj.mapSeq f,toks:=t'}:=by
 have q:=PySem.IsL.update e f;rw[hf]at q;refine I.write (by rw[hH];exact trivial) (.inl rfl) (λb' u hb hu=>(Heap.get?_update_other s.heap _<|Ne.symm hb).trans hu) ⟨_,q⟩ ?_;exact⟨hz,its',_,hv,q⟩
def Inv.lnew(I:Inv X pins σ H s)(hv:zR ys its)(hz:ys.length<=sizeLine):
 Inv X pins σ (upd H s.heap.objs.size<|.lst ys) {s with heap:=s.heap.push {cls:=.type "list",data:=.seq its.toArray},toks:=t'}:=
 I.laid (λ_ _ q=>zxG _ q) (zzN _) ⟨hz,its,0,hv,zxI _ rfl⟩
theorem Inv.fresh(I:Inv X pins σ H s):H s.heap.objs.size=none:=I.hok.fresh<|zzN _
def Inv.lstM(I:Inv X pins σ H s)(hH:H l=some (.lst xs)):xs.length<=sizeLine/\∃(its:List Value) (n:Nat),zR xs its/\xs.length=its.length/\s.heap.get? l=some {cls:=.type "list",data:=.seq its.toArray n}:=by
 obtain⟨z,its,n,r,e⟩:=I.hok l _ hH;exact⟨z,its,n,r,r.length,e⟩
def rO(h:n<=sizeLine):Builtin.List.listTooLong n=false:=by
 unfold Builtin.List.listTooLong;exact zyG (by omega)
end
section
variable{X:Cx}
def Dy:V->List V->Hp->VK->Prop:=λx vs H Q=>∃l xs y,x = .ref l/\vs=[y]/\H l=some (.lst xs)/\xs.length<sizeLine/\Q .non (upd H l<|.lst<|xs++[y])
def Lh:cu X "list.append" Dy:=by
 intro pins s σ H x vs v us Q I rx rv h;obtain⟨l,xs,y,rfl,rfl,hH,hz,q⟩:=h;cases rx;obtain⟨u,rfl,ru⟩:=rv.one;obtain⟨z,its,n,r,hl,e⟩:=I.lstM hH;refine call_meets F.slot_list_append ⟨_,e,rfl⟩ F.entry_list_append (F.args_list_append_2 _ _) (PySem.list_append l its.toArray n u<|by rw[zzH];omega) ⟨e, ?_⟩;refine⟨.non,_,I.lset (its':=its++[u]) hH e (by simp) (r.append<|.cons ru .nil) ?_,rfl,q⟩;rw[zzJ,List.length_singleton];omega
def len_rep(xs:List α)(k:Nat):(List.replicate k xs).flatten.length=k*xs.length:=by
 induction k with
 |zero=>simp
 |succ k ih=>rw[List.replicate_succ,List.flatten_cons,zzJ,ih,Nat.succ_mul,Nat.add_comm]
end
end L2
namespace Att
open PySem PySem.W PySem.Calls PyProof.Rows
def MI:∀(ns:List Int) (vs:List Value),WellAll P h vs (ns.map WData.int)->IntsAre vs ns:=by
 intro ns
 induction ns with
 |nil=>
  intro vs w;rw[List.map_nil]at w;cases w;exact .nil
 |cons n ns ih=>
  intro vs w;rw[zyS]at w;cases w with
  |cons a b=>
   cases a;exact .cons _ _<|ih _ b
def D_{l:OpenLaw}{n:Nat}(hn:l.most=some n){P h args vals}
 (hpre:l.row.toRowW.claim.pre args=true) (hwl:WellAll P h vals args):
 ∃a vs ns,vals=[Value.ref a]/\args=[WData.list<|ns.map WData.int]/\h.get? a=some {cls:=.type "list",data:=.seq vs.toArray}/\IntsAre vs ns/\ns.length<=n:=by
 have hsh:=(pre_splitW hpre).1;have hc:l.pre.holds [] {args:=args}=true:=(pre_splitW hpre).2;obtain⟨d,r,rfl,h1,h2⟩:=hasAllW_cons hsh;obtain rfl:=hasAllW_nil h2;obtain⟨xs,rfl,h3⟩:=hasW_list h1;obtain⟨ns,rfl⟩:=items_int h3;have hlen:ns.length<=n:=by
  unfold OpenLaw.pre at hc;have h4:(WTm.not<|.lt (.lit<|.int (n:Int))<|.len<|.arg 0).holds [] {args:=[.list<|ns.map .int]}=true:=by
   have h4:=(holds_andW hc).1;rw[hn]at h4;exact h4
  have h5:=condW_of h4<|w_not<|w_lt w_lit<|w_len_list<|w_arg rfl;rw[zzB]at h5;refine Nat.le_of_not_lt λq=>?_;have q':n<(ns.length:Int):=by omega
  first
   |(rw[zyO q']at h5;exact absurd h5 (by decide))
   |(simp at h5;omega)
 cases hwl with
 |cons w1 w2=>
  cases w2;cases w1 with
  |list ho hall=>exact⟨_,_,ns,rfl,rfl,ho,MI ns _ hall,hlen⟩
def uF(l:OpenLaw)(args):l.row.toRowW.claim.post args (.bool true) args=true:=
 postW_of
  (show WShape.has [] _ .bool=true by first|rfl|decide|simp[WShape.has,WShape.arms,WShape.armsAll])
  (w_eq_bool (w_res rfl) w_lit) rfl
@[irreducible] def bg:Nat:=2 ^ 1048576
theorem tV{i:Int}:∀{ns:List Int},i ∈ ns->Builtin.Int.intBits i<=WData.weightAll (ns.map WData.int)
 |a::r,h=>by
  show _<=WData.weight (.int a)+1+WData.weightAll (r.map WData.int)
  rcases zzC.mp h with rfl|h
  . exact zzO (Nat.le_of_eq rfl)<|zzO (Nat.le_add_right _ 1)<|Nat.le_add_right _ _
  . exact zzO (tV h)<|Nat.le_add_left _ _
def jJ{ns:List Int}(h:WData.layableAll [.list<|ns.map .int]=true):∀i ∈ ns,i.natAbs<bg:=λi m=>by
 have h:=of_decide_eq_true (Bool.and_eq_true_iff.mp (Bool.and_eq_true_iff.mp h).1).2;have g:Builtin.Int.intBits i<=1048576:=zzO (tV m) h;unfold Builtin.Int.intBits at g;unfold bg
 by_cases z:i=0
 . subst z;exact Nat.two_pow_pos _
 . rw[if_neg<|by simpa using z]at g;exact(Nat.log2_lt<|by omega).mp g
def Ii{l:OpenLaw}{n:Nat}{q loose XP YP d}
 (hn:l.most=some n) (hdf:d.params.defaults=[])
 (call:∀(w:World) (s₀ s₁:Shared) (mg mb:Str->Option Value) (fa:Addr) (o:Obj) (pm cd doc:Value) (a:Addr) (vs:List Value) (ns:List Int),
  Ground q loose [] XP w s₀ mg mb s₁.heap->YP w s₁.heap->
  s₁.heap.get? fa=some o->o.data = .func (docDef d.name d.params d.body d.scope pm cd doc)->s₁.heap.CodeRec cd d.name->mg d.name=some (.ref fa)->
  s₁.heap.get? a=some {cls:=.type "list",data:=.seq vs.toArray}->IntsAre vs ns->ns.length<=n->s₁.gens = #[]->(∀i ∈ ns,i.natAbs<bg)->
  codeAny (model l.prog w) callerA (.call (.ref fa) ⟨[.ref a],[]⟩) (λr s'=>r = .ok (.ret<|.bool true)/\OldK s₁.heap s'.heap/\s'.os=s₁.os/\AllBare s'.gens) s₁):
 WalkO q loose XP YP l.row.toRowW d [] (λf vs=>PySem.call f vs):=by
 intro w s₀ s₁ mg mb G Y fa o pm cd doc dV kV ho hd hcd hD hmg hg args vals as hpre hlay hrd hwl hlo;obtain rfl:dV = .none:=Dflts.none hD hdf;obtain rfl:kV = .none:=Dflts.noKw hD;obtain⟨a,vs,ns,rfl,rfl,hobj,hints,hlen⟩:=D_ hn hpre hwl;refine enter_call<|codeAny_mono (call w s₀ s₁ mg mb fa o pm cd doc a vs ns G Y ho (fd_plain hd) hcd hmg hobj hints hlen hg<|jJ hlay) λr s' hq=>?_;obtain⟨rfl,h2,h3,h4⟩:=hq;exact⟨.inl ⟨.bool true,.bool true,[],rfl,λ_=>rfl,.bool true,uF l _,λ_=>⟨List.Pairwise.nil,λ_ hm=>(nomatch hm)⟩⟩,h2,h3,h4⟩
end Att
namespace L2
open PySem PySem.Spec PyProof.Rows
theorem SU:∀{vs:List Value}{ns:List Int},IntsAre vs ns->zR (ns.map V.int) vs
 |_,_,.nil=>.nil
 |_,_,.cons n t h=>.cons ⟨t,rfl⟩<|SU h
def jE(H:Hp):Prop:=∀b,H b=none\/∃o xs,H b=some (.frz o<|.lst xs)
def rd{P w K mg mb CX}{k:Nat}{fa a fd x sp s₁ vs ns}
 (KX:K.In s₁.heap) (hns:s₁.heap.Ns mainGlobals mg) (hb:s₁.heap.Ns builtinsNs mb) (hbb:∀x:Str,x≠"__name__"->mb x=bootBuiltins x) (hlim:s₁.heap.NoLimit) (hg:s₁.gens = #[])
 (ha:s₁.heap.get? a=some {cls:=.type "list",data:=.seq vs.toArray}) (hi:IntsAre vs ns) (hl:ns.length<=sizeLine) (hr:Room k callerA)
 (F:∀base:Heap,K.In base->base.Ns mainGlobals mg->FnOk P w K mg base CX k fa fd [x] sp) (hbind:∀(s:Shared) (u:Value),BindsTo s fd ⟨[u],[]⟩ [(x,u)])
 (hsp:∀H:Hp,jE H->sS K H a (ns.map V.int)->sp [.ref a] H (λv _=>v = .bl true) λ_ _ _=>False)
 (hCX:∀H e s',CX [] H s₁ (λ_ _ _=>False) e s'->False):
 codeAny (model P w) callerA (.call (.ref fa) ⟨[.ref a],[]⟩) (λr s'=>r = .ok (.ret<|.bool true)/\OldK s₁.heap s'.heap/\s'.os=s₁.os/\AllBare s'.gens) s₁:=by
 have rv:=SU hi;have lenV:=hi.length;have core:∀H:Hp,jE H->sS K H a (ns.map V.int)->Nl P w H s₁.heap->(∀b,H b≠none->b=a)->(H a≠none->K.lookup a=none)->
  codeAny (model P w) callerA (.call (.ref fa) ⟨[.ref a],[]⟩) (λr s'=>r = .ok (.ret<|.bool true)/\OldK s₁.heap s'.heap/\s'.os=s₁.os/\AllBare s'.gens) s₁:=by
  intro H hO hS hok hA hK;have base_of:∀{b:Addr}{o:Obj},s₁.heap.get? b=some o->H b=none->(uL s₁.heap H).get? b=some o:=λe n=>tG e n;have noA:∀{b:Addr}{o:Obj}{es:Array DictEntry}{ep:Nat},s₁.heap.get? b=some o->o.data = .dict es ep->H b=none:=λ{b o es ep} e d=>by
   cases q:H b with
   |none=>rfl
   |some u=>
    have e':b=a:=hA b (by rw[q];simp);subst e';rw[ha]at e;cases e;have d':Data.seq vs.toArray _=Data.dict es ep:=d;cases d'
  have nsK:∀{b:Addr}{m:Str->Option Value},s₁.heap.Ns b m->(uL s₁.heap H).Ns b m:=λ{b m} ⟨o,es,ep,e,d,r⟩=>⟨o,es,ep,base_of e<|noA e d,d,r⟩;have hKb:=λb o e=>base_of (KX b o e) (by
   cases q:H b with
   |none=>rfl
   |some u=>
    have e':b=a:=hA b (by rw[q];simp);subst e';rw[hK<|by rw[q];simp]at e;cases e)
  have hM:Mod K mg _:=⟨hKb,nsK hns,⟨mb,nsK hb,hbb⟩,let⟨mc,h1,h2⟩:=hlim;⟨mc,nsK h1,h2⟩⟩;have e0:Env0 P w K mg _ callerA [] s₁ H:=⟨rfl,hM,λb o e=>pU e,Nat.le_of_eq<|uZ _ _,trivial,λb hb=>absurd (show b ∈ ([]:List Addr)from hb) (by simp),hok,.of_eq hg⟩;refine codeAny_mono ((F _ hKb<|nsK hns).run callerA [] s₁ H ⟨_,[]⟩ [.ref a] [.ref a] _ _ hr e0 (hbind s₁<|.ref a) (.cons rfl .nil)<|hsp H hO hS) λr s' h=>?_;cases r with
  |error e=>exact(hCX H e s' h).elim
  |ok fl=>
   cases fl with
   |next=>exact False.elim h
   |brk=>exact False.elim h
   |cont=>exact False.elim h
   |ret u=>
    obtain⟨v,H',os,bare,un,hok',r',q⟩:=h;have q':v = .bl true:=q;subst q';obtain rfl:u=Value.bool true:=r';refine⟨rfl,OldK.of_keep λb o e=>?_,os,bare⟩;cases q:H b with
    |none=>exact un.keep b o e q (by intro z;exact absurd (show b ∈ ([]:List Addr)from z)<|by simp) (by simp)
    |some u=>
     rcases hO b with z|⟨ob,xs,z⟩
     . rw[q]at z;cases z
     . have z2:=un.frzs b ob _ z;obtain⟨e1,_⟩:=hok b _ z;obtain⟨e2,_⟩:=hok' b _ z2;rw[e]at e1;cases e1;exact e2
 cases hk:K.lookup a with
 |some o=>
  have e:=KX a o hk;rw[ha]at e;cases e;refine core (λ_=>none) (λ_=>.inl rfl) (.inr ⟨vs.toArray,_,hk,by rw[zzH,lenV];exact hl,by simpa using rv⟩) (λb u z=>by have z':none=some u:=z;cases z') (λb z=>absurd rfl z) λz=>absurd rfl z
 |none=>
  refine core (λb=>if b=a then some _ else none) (λb=>?_) (.inl<|.inr ⟨{cls:=.type "list",data:=.seq vs.toArray},if_pos rfl⟩) (λb u z=>?_) (λb z=>?_) λ_=>hk
  . by_cases hb:b=a
    . exact .inr ⟨_,_,if_pos hb⟩
    . exact .inl<|if_neg hb
  . by_cases hb:b=a
    . have z':=(if_pos hb).symm.trans z;cases z';subst hb;exact⟨ha,by rw[zzB];exact hl,vs,_,rv,ha⟩
    . have z':=(if_neg hb).symm.trans z;cases z'
  . by_cases hb:b=a
    . exact hb
    . exact absurd (if_neg hb) z
end L2
namespace L2
open PySem PySem.Spec PyProof.Rows
def walk_of{l:PySem.W.OpenLaw}{n k:Nat}{q loose XP YP d}{K:Params->zzA}{CX:World->mL}{sp:World->Sp}{x}
 (hn:l.most=some n) (hn2:n<=sizeLine) (hdf:d.params.defaults=[]) (hr:Room k callerA)
 (hY:∀(w:World) (h:Heap),YP w h->(K w.params).In h)
 (F:∀(w:World) (mg:Str->Option Value) (fa:Addr) (h:Heap),(K w.params).In h->h.Ns mainGlobals mg->mg d.name=some (.ref fa)->
  ∃fd:FuncData,(∀(s:Shared) (u:Value),BindsTo s fd ⟨[u],[]⟩ [(x,u)])/\
   ∀base:Heap,(K w.params).In base->base.Ns mainGlobals mg->FnOk l.prog w (K w.params) mg base (CX w) k fa fd [x] (sp w))
 (hsp:∀(w:World) (H:Hp) (a:Addr) (ns:List Int),ns.length<=n->(∀i ∈ ns,i.natAbs<Att.bg)->jE H->sS (K w.params) H a (ns.map V.int)->sp w [.ref a] H (λv _=>v = .bl true) λ_ _ _=>False)
 (hCX:∀(w:World) (H:Hp) (s:Shared) (e:Value) (s':Shared),CX w [] H s (λ_ _ _=>False) e s'->False):
 PySem.W.WalkO q loose XP YP l.row.toRowW d [] (λf vs=>PySem.call f vs):=by
 refine Att.Ii hn hdf λw s₀ s₁ mg mb fa o pm cd doc a vs ns G Y ho hd hcd hmg hobj hints hlen hg hb'=>?_;have KX:=hY w _ Y;obtain⟨fd,hb,hF⟩:=F w mg fa _ KX G.T.g hmg;exact rd KX G.T.g G.T.b G.T.builtins G.T.nolimit hg hobj hints (zzO hlen hn2) hr hF hb (λH hO hS=>hsp w H a ns hlen hb' hO hS) λH e s'=>hCX w H s₁ e s'
end L2
namespace L2
open PySem PySem.Spec PyProof.Rows
def inClass(s:Stmt)(j:Nat):Stmt:=match s with
 | .ClassDef _ _ _ body _ _ _ _ _ _ _=>body.getD j (.Pass ⟨0,0,0,0⟩)
 |_=>.Pass ⟨0,0,0,0⟩
def M9(s:Stmt):Arguments:=match s with
 | .FunctionDef _ a _ _ _ _ _ _ _ _=>a
 |_=>{posonlyargs:=[],args:=[],vararg:=none,kwonlyargs:=[],kw_defaults:=[],kwarg:=none,defaults:=[]}
def YI(s:Stmt):List Stmt:=match s with
 | .FunctionDef _ _ b _ _ _ _ _ _ _=>b
 |_=>[]
def zc(s:Stmt):Scope:=match s with
 | .FunctionDef _ _ _ _ _ _ sc _ _ _=>sc
 |_=>{kind:=.function,names:=[],isGenerator:=false,isCoroutine:=false}
abbrev xJ:mL:=λ_ _ _ _ _ _=>False
abbrev E0:XK:=λ_ _ _=>False
def yP:ZE xJ X E0:=λ_ _ _ _ _ _ _ h=>h.elim
structure Fun(K:zzA)(x qual:Str)(st:Stmt)(f:Addr)(fd:FuncData):Prop where
 ex:∃(oc:Value) (od:Option Addr) (kV doc pm:Value) (an:Option Addr) (cdv ct:Value) (osl:Array (Option Value)),
  fd=W.fnOf x qual (M9 st) (YI st) (zc st) .none kV doc pm an cdv ct/\K.lookup f=some ⟨oc,od,.func fd,osl⟩/\W.codeIn K cdv qual=true
 kp:W.keepIn K (.ref f)=true
section
variable{P:Program}{w:World}{K:zzA}{mg:Str->Option Value}{base:Heap}
def Fun.ok{x qual st f fd N ps}{k:Nat}{sp}(F:Fun K x qual st f fd)(S:FnScope N ps (zc st))(len:∀vs H Q E,sp vs H Q E->vs.length=ps.length)
 (hbody:∀(cdv:Value) (A:Around) (outer:List Env) (s:Shared) (H:Hp) (vs:List V) (Q:VK) (E:XK),Room k (A.deeper<|envOfC qual (zc st) s.heap.objs.size f cdv)->sp vs H Q E->
  ∃t,HW (FB xJ P w K mg base N qual (zc st) f cdv A outer s H E).nox (YI st) t/\t {nx:=λ_ H'=>Q .non H',rt:=Q} (start N vs) H):FnOk P w K mg base xJ (k+1) f fd ps sp:=by
 obtain⟨oc,od,kV,doc,pm,an,cdv,ct,osl,rfl,lk,hcd⟩:=F.ex;refine gM lk hcd S len λA outer s H vs Q E hr hsp=>?_;obtain⟨t,h,q⟩:=hbody cdv A outer s H vs Q E hr hsp;exact⟨t,h.nox,q⟩
def Fun.binds{x qual st f fd ps}(F:Fun K x qual st f fd)
 (h:∀(kV doc pm:Value) (an:Option Addr) (cdv ct:Value) (us:List Value),us.length=ps.length->bindArgs (W.fnOf x qual (M9 st) (YI st) (zc st) .none kV doc pm an cdv ct) ⟨us,[]⟩=pure (ps.zip us)):Binds K fd ps []:=by
 obtain⟨oc,od,kV,doc,pm,an,cdv,ct,osl,rfl,lk,hcd⟩:=F.ex;exact .all<|h kV doc pm an cdv ct
end
def Wd(h:n<=1000):n<sizeLine:=Nat.lt_of_le_of_lt h (by decide)
section
variable{X:Cx}
def pv(i:Nat)(hN:X.N[i]? = some x:=by rfl)(hv:fF X.env.scope x:=by first|exact Or.inl rfl|exact Or.inr (Or.inl rfl)|exact Or.inr (Or.inr rfl))(hd:(x==("__debug__":Str))=false:=by decide)
 (hcd:(x==("__classdict__":Str))=false:=by decide):PE X (.Name x pos) (U0 i):=tq hN hv hd hcd
end
end L2
end
section
namespace G92
open PySem PySem.W PyProof.Rows L2
def top(i:Nat):Stmt:=PySem.Challenge.pw_stretchdeeds_k92_whole_wide_makes.main.body.getD i<|.Pass ⟨0,0,0,0⟩
abbrev Ul:Stmt:=top 10
abbrev Vb:Stmt:=top 12
abbrev ZC:Stmt:=inClass (top 14) 0
abbrev PD:Stmt:=top 15
abbrev Vg:Stmt:=inClass (top 38) 3
abbrev Wa:Stmt:=inClass (top 40) 0
abbrev YR:Stmt:=inClass (top 41) 0
abbrev XX:Stmt:=inClass (top 39) 3
abbrev PH:Stmt:=top 16
abbrev Pw:Stmt:=top 17
abbrev PC:Stmt:=top 18
abbrev Vc:Stmt:=inClass (top 38) 1
abbrev X5:Stmt:=inClass (top 39) 1
abbrev ZD:Stmt:=inClass (top 37) 4
abbrev Qy:Stmt:=top 19
abbrev YV:Stmt:=inClass (top 38) 4
abbrev Z_:Stmt:=inClass (top 39) 4
abbrev Z0:Stmt:=inClass (top 37) 8
abbrev X7:Stmt:=top 20
abbrev X1:Stmt:=inClass (top 38) 5
abbrev YL:Stmt:=inClass (top 39) 5
abbrev XI:Stmt:=inClass (top 37) 9
abbrev QR:Stmt:=top 21
abbrev X0:Stmt:=top 22
abbrev Qp:Stmt:=top 23
abbrev KG:Stmt:=top 24
abbrev KH:Stmt:=top 25
abbrev YJ:Stmt:=top 26
abbrev ZS:Stmt:=top 27
abbrev GN:Stmt:=top 28
abbrev Yb:Stmt:=top 29
abbrev Vj:Stmt:=top 30
abbrev YM:Stmt:=top 33
abbrev XO:Stmt:=top 34
abbrev Y0:Stmt:=top 43
abbrev W_:Stmt:=top 44
abbrev Vp:Stmt:=top 45
abbrev X_:Stmt:=top 46
abbrev XU:Stmt:=top 47
abbrev YZ:Stmt:=top 48
abbrev Vi:Stmt:=top 49
abbrev QV:Stmt:=top 50
abbrev Qw:Stmt:=top 51
abbrev ZZ:Stmt:=top 52
abbrev Z9:Stmt:=top 53
abbrev QT:Stmt:=top 54
abbrev G3:Stmt:=top 55
abbrev vU:Stmt:=inClass (top 37) 0
abbrev PP:Stmt:=top 56
abbrev XT:Stmt:=top 57
abbrev XQ:Stmt:=inClass (top 35) 1
abbrev Yk:Stmt:=inClass (top 38) 0
abbrev Zx:Stmt:=inClass (top 39) 0
abbrev vT:Stmt:=inClass (top 37) 1
abbrev xI:Stmt:=inClass (top 35) 3
abbrev XH:Stmt:=inClass (top 35) 6
abbrev Zt:Stmt:=inClass (top 35) 2
abbrev xG:Stmt:=inClass (top 35) 4
abbrev Zq:Stmt:=inClass (top 37) 2
abbrev Zw:Stmt:=inClass (top 37) 7
abbrev y8:Stmt:=inClass (top 35) 5
abbrev Wb:Stmt:=inClass (top 35) 7
abbrev Z1:Stmt:=inClass (top 35) 8
abbrev Zs:Stmt:=inClass (top 35) 9
abbrev Z8:Stmt:=inClass (top 35) 10
abbrev Ve:Stmt:=inClass (top 35) 11
abbrev Zm:Stmt:=top 58
abbrev Vo:Stmt:=top 59
abbrev ZY:Stmt:=inClass (top 35) 13
abbrev X4:Stmt:=inClass (top 35) 12
abbrev X2:Stmt:=top 60
abbrev Zz:Stmt:=inClass (top 37) 3
abbrev vZ:Stmt:=inClass (top 37) 5
abbrev YT:Stmt:=inClass (top 35) 16
abbrev YH:Stmt:=inClass (top 35) 14
abbrev YS:Stmt:=top 61
abbrev vQ:Stmt:=inClass (top 35) 0
abbrev Dn:Stmt:=top 62
abbrev hpg:=PySem.Challenge.pw_stretchdeeds_k92_whole_wide_makes
abbrev hva:Value:=.str "__main__" 164
abbrev hvb:Value:=.str "stretchdeeds.errors" 194
abbrev hvc:Value:=.str "stretchdeeds.terms" 310
abbrev hvd:Value:=.str "stretchdeeds.algebras" 319
abbrev hve:Value:=.str "stretchdeeds.trees" 330
abbrev hvf:Value:=.str "stretchdeeds.makes" 528
abbrev hvg:Value:=.str "stretchdeeds.wides" 742
abbrev hvh:Value:=.str "law_stretchdeeds_k92_whole_wide_makes" 1000
abbrev hem:List Value:=[(.type "ValueError"), (.type "Exception"), (.type "BaseException"), (.type "object")]
abbrev kF(n q:Str)(s:Stmt)(pm hcd:Value):Obj:=⟨.type "function",none,.func<|fnOf n q (M9 s) (YI s) (zc s) .none .none .none pm none hcd .none,#[]⟩
abbrev kD(es:List DictEntry)(n:Nat):Obj:=⟨.type "dict",none,.dict es.toArray n,#[]⟩
abbrev kE(P:Params)(x:Str)(t:Nat)(v:Value):DictEntry:=⟨PyData.keyHash P x,.str x t,v⟩
abbrev kR(P:Params)(x:Str)(t:Nat)(a:Addr):DictEntry:=kE P x t<|.ref a
abbrev hfl(c:Value)(l:List Value):Obj:=⟨c,none,.fields l.toArray,#[]⟩
abbrev hco(n q:Str)(t u:Nat)(l k g:Int)(b:Bool)(a:Nat)(r s v:Value):Obj:=hfl (.type "code") [.str n t,.str q<|t+1,.str "/claim/cut.py" (t+2),.int l 0,.int k 0,.int 0 0,.int 0 0,.int g 0,.ref a,.bool b,.int 181 0,.ref<|a+1,.none,r,s,v,.int u 0,.int l 0,.str "/claim/cut.py" (u+1)]
abbrev hc7(n q:Str)(t u:Nat)(l k:Int)(a:Nat):=hco n q t u l k 3 true a (.ref<|a+2) (.ref<|a+3)<|.ref<|a+4
abbrev hc5(n q:Str)(t:Nat)(l k:Int)(a:Nat):=hco n q t (t+3) l k 3 true a .none .none<|.ref<|a+2
noncomputable abbrev hen(P:Params):List DictEntry:=[kE P "__doc__" 166 .none,kE P "__package__" 167 .none,kE P "__loader__" 168<|.builtin "__main__.__loader__#opaque",kE P "__spec__" 169 .none,kR P "__annotations__" 170 6,kR P "__builtins__" 171 4,kE P "__file__" 173<|.str "/claim/cut.py" 172,kE P "__cached__" 174 .none,kR P "_wall" 193 21,kR P "StretchError" 213 31,kR P "NoMake" 229 44,kR P "NoStretch" 245 56,kR P "NoValue" 261 68,kR P "NoDeed" 277 80,kR P "NoSign" 293 92,kR P "TooGreat" 309 104,kR P "is_whole" 318 113,kR P "is_within" 329 120,kR P "Knot" 372 137,kR P "leaf_of" 379 148,kR P "knot_of" 388 155,kR P "tree_of" 397 162,kR P "size_of" 404 169,kR P "whole_of" 412 176,kR P "both_waits" 421 183,kR P "done_all" 432 190,kR P "turned_all" 440 197,kR P "parts_of" 450 204,kR P "gather" 465 211,kR P "row_of" 474 218,kR P "leaned_left" 485 225,kR P "leaned_right" 496 232,kR P "evened" 505 239,kR P "put_together" 515 246,kR P "parted_at" 527 253,kE P "MOST_IN_ROW" 531<|.int (300) 530,kR P "check_place" 540 260,kR P "check_size" 547 267,kR P "Makes" 741 396,kR P "Wides" 836 472,kR P "Sums" 892 522,kR P "Picks" 951 572,kR P "Mosts" 975 591,kR P "Leasts" 999 610,kR P "_law_cell_at" 1009 619,kR P "_law_mixed" 1018 626,kR P "_law_whole" 1025 633,kR P "_law_stream" 1036 640,kR P "_law_number" 1043 647,kR P "_law_numbers" 1054 654,kR P "_law_value" 1063 661,kR P "_law_deed" 1069 666,kR P "_law_both" 1078 673,kR P "_law_joined" 1084 678,kR P "_law_at_place" 1090 683,kR P "_law_made" 1103 690,kR P "_law_is" 1113 697,kR P "_law_way" 1121 704,kR P "_law_values" 1127 709,kR P "_law_changed" 1133 714,kR P "_law_first" 1146 721,kR P "_law_listed" 1158 728,kR P "_law_answers" 1175 735,kR P "law" 1193 742]
def K(P:Params):Frag:=
 (nat_lit 3,kD (kE P "__name__" 165 hvh::hen P) 65)::
 (nat_lit 112,hc7 "is_whole" "is_whole" 312 316 20 1 107)::
 (nat_lit 113,kF "is_whole" "is_whole" Ul hvc<|.ref 112)::
 (nat_lit 119,hc7 "is_within" "is_within" 321 327 23 3 114)::
 (nat_lit 120,kF "is_within" "is_within" Vb hvd<|.ref 119)::
 (nat_lit 133,hc7 "__init__" "Knot.__init__" 344 354 28 7 128)::
 (nat_lit 134,kF "__init__" "Knot.__init__" ZC hve<|.ref 133)::
 (nat_lit 136,kD [kE P "__module__" 339 hve,kE P "__firstlineno__" 343<|.int (26) 342,kR P "__init__" 356 134,kR P "__static_attributes__" 365 135,kR P "__dict__" 367 138,kR P "__weakref__" 369 139,kE P "__doc__" 370 .none] 4)::
 (nat_lit 137,⟨(.type "type"),none,.cls {name:="Knot",bases:=[(.type "object")],mro:=[(.ref 137),(.type "object")],ns:=136,qualname:="Knot",hasDict:=true,slotNames:=[],subclasses:=[],abstract:=false,collection:=none,hasDel:=false},#[none,none,some<|.str "Knot" 332,some<|.str "Knot" 340,some<|.builtin "object.__new__",some<|.bool true]⟩)::
 (nat_lit 147,hc7 "leaf_of" "leaf_of" 373 377 37 1 142)::
 (nat_lit 148,kF "leaf_of" "leaf_of" PD hve<|.ref 147)::
 (nat_lit 154,hc7 "knot_of" "knot_of" 380 386 39 3 149)::
 (nat_lit 155,kF "knot_of" "knot_of" PH hve<|.ref 154)::
 (nat_lit 161,hc7 "tree_of" "tree_of" 389 395 41 2 156)::
 (nat_lit 162,kF "tree_of" "tree_of" Pw hve<|.ref 161)::
 (nat_lit 168,hc7 "size_of" "size_of" 398 402 48 1 163)::
 (nat_lit 169,kF "size_of" "size_of" PC hve<|.ref 168)::
 (nat_lit 175,hc7 "whole_of" "whole_of" 405 410 50 2 170)::
 (nat_lit 176,kF "whole_of" "whole_of" Qy hve<|.ref 175)::
 (nat_lit 182,hc7 "both_waits" "both_waits" 413 419 52 3 177)::
 (nat_lit 183,kF "both_waits" "both_waits" X7 hve<|.ref 182)::
 (nat_lit 189,hc7 "done_all" "done_all" 422 430 58 3 184)::
 (nat_lit 190,kF "done_all" "done_all" QR hve<|.ref 189)::
 (nat_lit 196,hc7 "turned_all" "turned_all" 433 438 66 2 191)::
 (nat_lit 197,kF "turned_all" "turned_all" X0 hve<|.ref 196)::
 (nat_lit 203,hc7 "parts_of" "parts_of" 441 448 70 2 198)::
 (nat_lit 204,kF "parts_of" "parts_of" Qp hve<|.ref 203)::
 (nat_lit 210,hc7 "gather" "gather" 451 463 79 5 205)::
 (nat_lit 211,kF "gather" "gather" KG hve<|.ref 210)::
 (nat_lit 217,hc7 "row_of" "row_of" 466 472 88 2 212)::
 (nat_lit 218,kF "row_of" "row_of" KH hve<|.ref 217)::
 (nat_lit 224,hc7 "leaned_left" "leaned_left" 475 483 93 3 219)::
 (nat_lit 225,kF "leaned_left" "leaned_left" YJ hve<|.ref 224)::
 (nat_lit 231,hc7 "leaned_right" "leaned_right" 486 494 99 3 226)::
 (nat_lit 232,kF "leaned_right" "leaned_right" ZS hve<|.ref 231)::
 (nat_lit 238,hc7 "evened" "evened" 497 503 105 3 233)::
 (nat_lit 239,kF "evened" "evened" GN hve<|.ref 238)::
 (nat_lit 245,hc7 "put_together" "put_together" 506 513 111 3 240)::
 (nat_lit 246,kF "put_together" "put_together" Yb hve<|.ref 245)::
 (nat_lit 252,hc7 "parted_at" "parted_at" 516 525 123 3 247)::
 (nat_lit 253,kF "parted_at" "parted_at" Vj hve<|.ref 252)::
 (nat_lit 259,hc7 "check_place" "check_place" 532 538 137 3 254)::
 (nat_lit 260,kF "check_place" "check_place" YM hvf<|.ref 259)::
 (nat_lit 266,hc7 "check_size" "check_size" 541 545 140 1 261)::
 (nat_lit 267,kF "check_size" "check_size" XO hvf<|.ref 266)::
 (nat_lit 280,hc7 "__init__" "Makes.__init__" 560 565 145 2 275)::
 (nat_lit 281,kF "__init__" "Makes.__init__" vQ hvf<|.ref 280)::
 (nat_lit 287,hc7 "keep" "Makes.keep" 568 573 149 2 282)::
 (nat_lit 288,kF "keep" "Makes.keep" XQ hvf<|.ref 287)::
 (nat_lit 294,hc7 "tree_at" "Makes.tree_at" 576 581 153 2 289)::
 (nat_lit 295,kF "tree_at" "Makes.tree_at" Zt hvf<|.ref 294)::
 (nat_lit 301,hc7 "check_value" "Makes.check_value" 584 589 158 2 296)::
 (nat_lit 302,kF "check_value" "Makes.check_value" xI hvf<|.ref 301)::
 (nat_lit 308,hc7 "three_parts" "Makes.three_parts" 592 602 162 4 303)::
 (nat_lit 309,kF "three_parts" "Makes.three_parts" xG hvf<|.ref 308)::
 (nat_lit 315,hc7 "three_together" "Makes.three_together" 605 612 170 4 310)::
 (nat_lit 316,kF "three_together" "Makes.three_together" y8 hvf<|.ref 315)::
 (nat_lit 322,hc7 "made" "Makes.made" 615 621 173 2 317)::
 (nat_lit 323,kF "made" "Makes.made" XH hvf<|.ref 322)::
 (nat_lit 329,hc7 "done" "Makes.done" 624 634 181 5 324)::
 (nat_lit 330,kF "done" "Makes.done" Wb hvf<|.ref 329)::
 (nat_lit 336,hc7 "turned" "Makes.turned" 637 645 188 4 331)::
 (nat_lit 337,kF "turned" "Makes.turned" Z1 hvf<|.ref 336)::
 (nat_lit 343,hc7 "changed" "Makes.changed" 648 657 192 4 338)::
 (nat_lit 344,kF "changed" "Makes.changed" Zs hvf<|.ref 343)::
 (nat_lit 350,hc7 "put_in" "Makes.put_in" 660 670 199 4 345)::
 (nat_lit 351,kF "put_in" "Makes.put_in" Z8 hvf<|.ref 350)::
 (nat_lit 357,hc7 "cut" "Makes.cut" 673 682 207 4 352)::
 (nat_lit 358,kF "cut" "Makes.cut" Ve hvf<|.ref 357)::
 (nat_lit 364,hc7 "many" "Makes.many" 685 690 212 2 359)::
 (nat_lit 365,kF "many" "Makes.many" X4 hvf<|.ref 364)::
 (nat_lit 371,hc7 "listed" "Makes.listed" 693 698 215 2 366)::
 (nat_lit 372,kF "listed" "Makes.listed" ZY hvf<|.ref 371)::
 (nat_lit 378,hc7 "asked" "Makes.asked" 701 708 218 4 373)::
 (nat_lit 379,kF "asked" "Makes.asked" YH hvf<|.ref 378)::
 (nat_lit 392,hc7 "first" "Makes.first" 719 729 224 4 387)::
 (nat_lit 393,kF "first" "Makes.first" YT hvf<|.ref 392)::
 (nat_lit 395,kD [kE P "__module__" 555 hvf,kE P "__firstlineno__" 559<|.int (143) 558,kR P "__init__" 567 281,kR P "keep" 575 288,kR P "tree_at" 583 295,kR P "check_value" 591 302,kR P "three_parts" 604 309,kR P "three_together" 614 316,kR P "made" 623 323,kR P "done" 636 330,kR P "turned" 647 337,kR P "changed" 659 344,kR P "put_in" 672 351,kR P "cut" 684 358,kR P "many" 692 365,kR P "listed" 700 372,kR P "asked" 710 379,kR P "walk" 718 386,kR P "first" 731 393,kR P "__static_attributes__" 734 394,kR P "__dict__" 736 397,kR P "__weakref__" 738 398,kE P "__doc__" 739 .none] 4)::
 (nat_lit 396,⟨(.type "type"),none,.cls {name:="Makes",bases:=[(.type "object")],mro:=[(.ref 396),(.type "object")],ns:=395,qualname:="Makes",hasDict:=true,slotNames:=[],subclasses:=[],abstract:=false,collection:=none,hasDel:=false},#[none,none,some<|.str "Makes" 548,some<|.str "Makes" 556,some<|.builtin "object.__new__",some<|.bool true]⟩)::
 (nat_lit 413,hc7 "__init__" "Wides.__init__" 756 761 238 2 408)::
 (nat_lit 414,kF "__init__" "Wides.__init__" vU hvg<|.ref 413)::
 (nat_lit 418,hc5 "is_value" "Wides.is_value" 764 241 2 415)::
 (nat_lit 419,kF "is_value" "Wides.is_value" vT hvg<|.ref 418)::
 (nat_lit 423,hc5 "is_deed" "Wides.is_deed" 770 246 2 420)::
 (nat_lit 424,kF "is_deed" "Wides.is_deed" Zq hvg<|.ref 423)::
 (nat_lit 430,hc7 "is_sign" "Wides.is_sign" 776 781 254 2 425)::
 (nat_lit 431,kF "is_sign" "Wides.is_sign" Zz hvg<|.ref 430)::
 (nat_lit 437,hc7 "nothing" "Wides.nothing" 784 788 259 1 432)::
 (nat_lit 438,kF "nothing" "Wides.nothing" ZD hvg<|.ref 437)::
 (nat_lit 444,hc7 "has_sign" "Wides.has_sign" 791 798 262 3 439)::
 (nat_lit 445,kF "has_sign" "Wides.has_sign" vZ hvg<|.ref 444)::
 (nat_lit 458,hc7 "wait_of" "Wides.wait_of" 808 813 269 2 453)::
 (nat_lit 459,kF "wait_of" "Wides.wait_of" Zw hvg<|.ref 458)::
 (nat_lit 463,hc5 "behind" "Wides.behind" 816 272 3 460)::
 (nat_lit 464,kF "behind" "Wides.behind" Z0 hvg<|.ref 463)::
 (nat_lit 468,hc5 "made" "Wides.made" 822 278 4 465)::
 (nat_lit 469,kF "made" "Wides.made" XI hvg<|.ref 468)::
 (nat_lit 471,kD [kE P "__module__" 751 hvg,kE P "__firstlineno__" 755<|.int (236) 754,kR P "__init__" 763 414,kR P "is_value" 769 419,kR P "is_deed" 775 424,kR P "is_sign" 783 431,kR P "nothing" 790 438,kR P "has_sign" 800 445,kR P "idle" 807 452,kR P "wait_of" 815 459,kR P "behind" 821 464,kR P "made" 827 469,kR P "__static_attributes__" 829 470,kR P "__dict__" 831 473,kR P "__weakref__" 833 474,kE P "__doc__" 834 .none] 4)::
 (nat_lit 472,⟨(.type "type"),none,.cls {name:="Wides",bases:=[(.type "object")],mro:=[(.ref 472),(.type "object")],ns:=471,qualname:="Wides",hasDict:=true,slotNames:=[],subclasses:=[(.ref 522),(.ref 572)],abstract:=false,collection:=none,hasDel:=false},#[none,none,some<|.str "Wides" 744,some<|.str "Wides" 752,some<|.builtin "object.__new__",some<|.bool true]⟩)::
 (nat_lit 489,hc7 "is_part" "Sums.is_part" 849 854 285 2 484)::
 (nat_lit 490,kF "is_part" "Sums.is_part" Yk hvg<|.ref 489)::
 (nat_lit 496,hc7 "zero" "Sums.zero" 857 861 288 1 491)::
 (nat_lit 497,kF "zero" "Sums.zero" Vc hvg<|.ref 496)::
 (nat_lit 508,hc5 "join" "Sums.join" 871 294 3 505)::
 (nat_lit 509,kF "join" "Sums.join" Vg hvg<|.ref 508)::
 (nat_lit 513,hc5 "across" "Sums.across" 877 297 3 510)::
 (nat_lit 514,kF "across" "Sums.across" YV hvg<|.ref 513)::
 (nat_lit 518,hc5 "often" "Sums.often" 883 300 3 515)::
 (nat_lit 519,kF "often" "Sums.often" X1 hvg<|.ref 518)::
 (nat_lit 521,kD [kE P "__module__" 844 hvg,kE P "__firstlineno__" 848<|.int (283) 847,kR P "is_part" 856 490,kR P "zero" 863 497,kR P "unit" 870 504,kR P "join" 876 509,kR P "across" 882 514,kR P "often" 888 519,kR P "__static_attributes__" 889 520,kE P "__doc__" 890 .none] 2)::
 (nat_lit 522,⟨(.type "type"),none,.cls {name:="Sums",bases:=[(.ref 472)],mro:=[(.ref 522),(.ref 472),(.type "object")],ns:=521,qualname:="Sums",hasDict:=true,slotNames:=[],subclasses:=[],abstract:=false,collection:=none,hasDel:=false},#[some<|.ref 477,none,some<|.str "Sums" 837,some<|.str "Sums" 845,some<|.builtin "object.__new__",some<|.bool true]⟩)::
 (nat_lit 537,hc7 "is_part" "Picks.is_part" 905 910 304 2 532)::
 (nat_lit 538,kF "is_part" "Picks.is_part" Zx hvg<|.ref 537)::
 (nat_lit 544,hc7 "zero" "Picks.zero" 913 917 307 1 539)::
 (nat_lit 545,kF "zero" "Picks.zero" X5 hvg<|.ref 544)::
 (nat_lit 556,hc5 "join" "Picks.join" 927 313 3 553)::
 (nat_lit 557,kF "join" "Picks.join" XX hvg<|.ref 556)::
 (nat_lit 561,hc5 "across" "Picks.across" 933 316 3 558)::
 (nat_lit 562,kF "across" "Picks.across" Z_ hvg<|.ref 561)::
 (nat_lit 568,hc7 "often" "Picks.often" 939 945 319 3 563)::
 (nat_lit 569,kF "often" "Picks.often" YL hvg<|.ref 568)::
 (nat_lit 571,kD [kE P "__module__" 900 hvg,kE P "__firstlineno__" 904<|.int (302) 903,kR P "is_part" 912 538,kR P "zero" 919 545,kR P "unit" 926 552,kR P "join" 932 557,kR P "across" 938 562,kR P "often" 947 569,kR P "__static_attributes__" 948 570,kE P "__doc__" 949 .none] 2)::
 (nat_lit 572,⟨(.type "type"),none,.cls {name:="Picks",bases:=[(.ref 472)],mro:=[(.ref 572),(.ref 472),(.type "object")],ns:=571,qualname:="Picks",hasDict:=true,slotNames:=[],subclasses:=[(.ref 591),(.ref 610)],abstract:=false,collection:=none,hasDel:=false},#[some<|.ref 525,none,some<|.str "Picks" 893,some<|.str "Picks" 901,some<|.builtin "object.__new__",some<|.bool true]⟩)::
 (nat_lit 587,hc7 "best" "Mosts.best" 964 969 323 2 582)::
 (nat_lit 588,kF "best" "Mosts.best" Wa hvg<|.ref 587)::
 (nat_lit 590,kD [kE P "__module__" 959 hvg,kE P "__firstlineno__" 963<|.int (321) 962,kR P "best" 971 588,kR P "__static_attributes__" 972 589,kE P "__doc__" 973 .none] 2)::
 (nat_lit 591,⟨(.type "type"),none,.cls {name:="Mosts",bases:=[(.ref 572)],mro:=[(.ref 591),(.ref 572),(.ref 472),(.type "object")],ns:=590,qualname:="Mosts",hasDict:=true,slotNames:=[],subclasses:=[],abstract:=false,collection:=none,hasDel:=false},#[some<|.ref 575,none,some<|.str "Mosts" 952,some<|.str "Mosts" 960,some<|.builtin "object.__new__",some<|.bool true]⟩)::
 (nat_lit 606,hc7 "best" "Leasts.best" 988 993 327 2 601)::
 (nat_lit 607,kF "best" "Leasts.best" YR hvg<|.ref 606)::
 (nat_lit 609,kD [kE P "__module__" 983 hvg,kE P "__firstlineno__" 987<|.int (325) 986,kR P "best" 995 607,kR P "__static_attributes__" 996 608,kE P "__doc__" 997 .none] 2)::
 (nat_lit 610,⟨(.type "type"),none,.cls {name:="Leasts",bases:=[(.ref 572)],mro:=[(.ref 610),(.ref 572),(.ref 472),(.type "object")],ns:=609,qualname:="Leasts",hasDict:=true,slotNames:=[],subclasses:=[],abstract:=false,collection:=none,hasDel:=false},#[some<|.ref 594,none,some<|.str "Leasts" 976,some<|.str "Leasts" 984,some<|.builtin "object.__new__",some<|.bool true]⟩)::
 (nat_lit 618,hc7 "_law_cell_at" "_law_cell_at" 1002 1007 330 2 613)::
 (nat_lit 619,kF "_law_cell_at" "_law_cell_at" Y0 hvh<|.ref 618)::
 (nat_lit 625,hc7 "_law_mixed" "_law_mixed" 1010 1016 334 2 620)::
 (nat_lit 626,kF "_law_mixed" "_law_mixed" W_ hvh<|.ref 625)::
 (nat_lit 632,hc7 "_law_whole" "_law_whole" 1019 1023 337 1 627)::
 (nat_lit 633,kF "_law_whole" "_law_whole" Vp hvh<|.ref 632)::
 (nat_lit 639,hc7 "_law_stream" "_law_stream" 1026 1034 339 2 634)::
 (nat_lit 640,kF "_law_stream" "_law_stream" X_ hvh<|.ref 639)::
 (nat_lit 646,hc7 "_law_number" "_law_number" 1037 1041 349 1 641)::
 (nat_lit 647,kF "_law_number" "_law_number" XU hvh<|.ref 646)::
 (nat_lit 653,hc7 "_law_numbers" "_law_numbers" 1044 1052 353 3 648)::
 (nat_lit 654,kF "_law_numbers" "_law_numbers" YZ hvh<|.ref 653)::
 (nat_lit 660,hc7 "_law_value" "_law_value" 1055 1061 361 3 655)::
 (nat_lit 661,kF "_law_value" "_law_value" Vi hvh<|.ref 660)::
 (nat_lit 665,hc5 "_law_deed" "_law_deed" 1064 363 3 662)::
 (nat_lit 666,kF "_law_deed" "_law_deed" QV hvh<|.ref 665)::
 (nat_lit 672,hc7 "_law_both" "_law_both" 1070 1076 367 3 667)::
 (nat_lit 673,kF "_law_both" "_law_both" Qw hvh<|.ref 672)::
 (nat_lit 677,hc5 "_law_joined" "_law_joined" 1079 373 3 674)::
 (nat_lit 678,kF "_law_joined" "_law_joined" ZZ hvh<|.ref 677)::
 (nat_lit 682,hc5 "_law_at_place" "_law_at_place" 1085 379 5 679)::
 (nat_lit 683,kF "_law_at_place" "_law_at_place" Z9 hvh<|.ref 682)::
 (nat_lit 689,hc7 "_law_made" "_law_made" 1091 1101 391 4 684)::
 (nat_lit 690,kF "_law_made" "_law_made" QT hvh<|.ref 689)::
 (nat_lit 696,hc7 "_law_is" "_law_is" 1104 1111 396 2 691)::
 (nat_lit 697,kF "_law_is" "_law_is" G3 hvh<|.ref 696)::
 (nat_lit 703,hc7 "_law_way" "_law_way" 1114 1119 403 2 698)::
 (nat_lit 704,kF "_law_way" "_law_way" PP hvh<|.ref 703)::
 (nat_lit 708,hc5 "_law_values" "_law_values" 1122 409 4 705)::
 (nat_lit 709,kF "_law_values" "_law_values" XT hvh<|.ref 708)::
 (nat_lit 713,hc5 "_law_changed" "_law_changed" 1128 412 6 710)::
 (nat_lit 714,kF "_law_changed" "_law_changed" Zm hvh<|.ref 713)::
 (nat_lit 720,hc7 "_law_first" "_law_first" 1134 1144 434 5 715)::
 (nat_lit 721,kF "_law_first" "_law_first" Vo hvh<|.ref 720)::
 (nat_lit 727,hc7 "_law_listed" "_law_listed" 1147 1156 440 3 722)::
 (nat_lit 728,kF "_law_listed" "_law_listed" X2 hvh<|.ref 727)::
 (nat_lit 734,hc7 "_law_answers" "_law_answers" 1159 1173 448 6 729)::
 (nat_lit 735,kF "_law_answers" "_law_answers" YS hvh<|.ref 734)::
 (nat_lit 741,hc7 "law" "law" 1176 1191 463 1 736)::
 (nat_lit 742,kF "law" "law" Dn hvh<|.ref 741)::
 []
def kA:List Addr:=[3,112,113,119,120,133,134,136,137,147,148,154,155,161,162,168,169,175,176,182,183,189,190,196,197,203,204,210,211,217,218,224,225,231,232,238,239,245,246,252,253,259,260,266,267,280,281,287,288,294,295,301,302,308,309,315,316,322,323,329,330,336,337,343,344,350,351,357,358,364,365,371,372,378,379,392,393,395,396,413,414,418,419,423,424,430,431,437,438,444,445,458,459,463,464,468,469,471,472,489,490,496,497,508,509,513,514,518,519,521,522,537,538,544,545,556,557,561,562,568,569,571,572,587,588,590,591,606,607,609,610,618,619,625,626,632,633,639,640,646,647,653,654,660,661,665,666,672,673,677,678,682,683,689,690,696,697,703,704,708,709,713,714,720,721,727,728,734,735,741,742]
def qv:Program:={hpg with main:={hpg.main with body:=[0,2,3,4,5,6,7,8,10,12,14,15,16,17,18,19,20,21,22,23,24,25,26,27,28,29,30,32,33,34,35,37,38,39,40,41,43,44,45,46,47,48,49,50,51,52,53,54,55,56,57,58,59,60,61,62].map top}}
theorem kAe(P:Params):kA=(K P).map (·.1):=by kernel_rfl
set_option maxRecDepth 100000
theorem ws:PySem.Challenge.rw_stretchdeeds_k92_whole_wide_makes.wellSaid=true:=by kernel_rfl
abbrev Xt(s:Shared):Bool:=xlAt qv [] s&&recOk (RowW.records<|OpenRow.toRowW PySem.Challenge.rw_stretchdeeds_k92_whole_wide_makes.row) s
abbrev hk:Hook:=kHook K kA kAe
def htp(l:List Value):Obj:=⟨.type "tuple",none,.seq l.toArray 0,#[]⟩
def htx:Nat->List Str->List Value
 |_,[]=>[]
 |t,x::l=>.str x t::htx (t+1) l
noncomputable def hfO(a t:Nat)(r:Str)(v:Value)(s:Stmt):List Obj:=match s with
 | .FunctionDef n p b _ _ _ c _ _ o=>
  let q:=r++n;let S:Obj:=⟨.none,none,.func {name:=n,qualname:=q,params:=p,body:=.stmts b,scope:=c,globals:=0,closure:=[],defaults:=.none,kwdefaults:=.none},#[]⟩
  match localNames p c (.stmts b) with
  |some (x,_)=>[htp [],hfl .none [],htp<|htx (t+3) x,htp [],S,hc7 n q t (t+3+x.length) o.line p.args.length a,kF n q s v<|.ref<|a+5]
  |none=>[htp [],hfl .none [],S,hc5 n q t o.line p.args.length a,kF n q s v<|.ref<|a+3]
 |_=>[]
noncomputable def htk(s:Stmt):Nat:=match s with
 | .FunctionDef _ p b _ _ _ c _ _ _=>match localNames p c (.stmts b) with
  |some (x,_)=>6+x.length
  |none=>6
 |_=>0
noncomputable def hms(P:Params)(c:Str)(v:Value):Nat->Nat->List Stmt->List Obj×List DictEntry×List Value×Nat
 |_,t,[]=>([],[],[],t)
 |a,t,s::r=>match s with
  | .FunctionDef n _ _ _ _ _ _ _ _ o=>let f:=hfO a t (c++".") v s;let l:=a+f.length;let u:=t+htk s;let z:=hms P c v l u r;(f++z.1,kR P n (u-1) (l-1)::z.2.1,.int o.line 0:: .int 4 0:: .ref (l-2)::z.2.2.1,z.2.2.2)
  |_=>hms P c v a t r
def hfm(a b:Addr)(v:Value):Obj:=⟨.type "frame",none,.plain,#[some<|.ref a,some<|.ref 3,some<|.ref b,none,some v,none,some<|.ref 0]⟩
def hbf(x:String)(v:Value):Obj:=hfl (.type "builtin_function_or_method") [.builtin x,v]
def hgd(x:Str)(t:Nat)(c:Addr)(g s:Value):Obj:=hfl (.type "getset_descriptor") [.str x t,.ref c,g,s]
noncomputable def hcO(P:Params)(a t:Nat)(v:Value)(bv mr sb:List Value)(nw:String)(d:Nat)(s:Stmt):List Obj:=match s with
 | .ClassDef n _ _ b _ _ _ _ _ sa o=>
  let m:=hms P n v (a+7) (t+12) b;let e:=a+7+m.1.length;let k:=m.2.2.2+sa.length;let z:=k+1;let C:=e+2
  let x:=kE P "__module__" (t+7) v;let f:=kE P "__firstlineno__" (t+11)<|.int o.line<|t+10;let y:=kR P "__static_attributes__" k e
  let W:=λt:Nat=>hgd "__weakref__" t C (.builtin "ExceptionGroup.__weakref__") .none
  let D:List DictEntry×List Obj:=match d with
   |0=>([],[])
   |1=>([kR P "__weakref__" (z+1)<|C+1],[W z])
   |_=>([kR P "__dict__" (z+1)<|C+1,kR P "__weakref__" (z+3)<|C+2],[hgd "__dict__" z C (.builtin "function.__dict__")<|.builtin "function.__dict__#set",W<|z+2])
  [htp bv,hbf "type.__prepare__" (.type "type"),kD (x::kE P "__qualname__" (t+9) (.str n<|t+8)::f::m.2.1++[y])<|4+m.2.1.length,htp [],hfl .none m.2.2.1,hco n n (t+2) (t+5) o.line 0 0 false (a+3) .none .none .none,hfm (a+5) (a+2) v]++m.1++[htp<|htx m.2.2.2 sa,kD (x::f::m.2.1++y::D.1++[kE P "__doc__" (z+2*d) .none])<|2+d,⟨.type "type",none,.cls {name:=n,bases:=if bv.isEmpty then [.type "object"] else bv,mro:=.ref C::mr,ns:=e+1,qualname:=n,hasDict:=true,slotNames:=[],subclasses:=sb},#[if bv.isEmpty then none else some<|.ref a,none,some<|.str n t,some<|.str n<|t+8,some<|.builtin nw,some<|.bool true]⟩]++D.2++[hfl (.type "super") [.ref C,.ref C,.ref C],hbf "object.__init_subclass__" (.ref C)]
 |_=>[]
def hcs:List (Int×Addr):=[(1,20),(5,27),(7,40),(9,52),(11,64),(13,76),(15,88),(17,100),(20,112),(23,119),(26,126),(37,147),(39,154),(41,161),(48,168),(50,175),(52,182),(58,189),(66,196),(70,203),(79,210),(88,217),(93,224),(99,231),(105,238),(111,245),(123,252),(137,259),(140,266),(143,273),(236,406),(283,482),(302,530),(321,580),(325,599),(330,618),(334,625),(337,632),(339,639),(349,646),(353,653),(361,660),(363,665),(367,672),(373,677),(379,682),(391,689),(396,696),(403,703),(409,708),(412,713),(434,720),(440,727),(448,734),(463,741)]
noncomputable def hhp(P:Params)(v:Value)(g c:Nat)(l:List Obj):Heap:=⟨⟨boot_o_0 P::boot_o_1 P::boot_o_2 P::kD (kE P "__name__" 165 v::(hen P).take g) (g+1)::boot_o_4 P::boot_o_5 P::boot_o_6 P::boot_o_7 P::boot_o_8 P::boot_o_9 P::boot_o_10 P::htp []::hfl .none ((hcs.take c).flatMap λp=>[.int p.1 0,.int 0 0,.ref p.2])::hco "<module>" "<module>" 182 185 1 0 0 false 11 .none .none .none::hfm 13 3 (.str "__main__" 164)::l⟩,(boot_heap P).life⟩
abbrev hbd:=behindTheImports hpg
abbrev hev:Env:={scope:=hpg.main.scope,locals:=mainNs,globals:=mainNs,cells:=[],code:=.ref 13,frame:=some 14}
abbrev hcd:Code:=.body hbd hev
noncomputable abbrev hSh(t:Nat)(h:Heap)(o:OsState):Shared:=⟨h,⟨[]⟩,boot_drawn,t,o⟩
def hl0(P:Params):List Obj:=hfO 15 187 "" hva (top 0)++hcO P 22 196 hvb [(.type "ValueError")] hem [(.ref 44),(.ref 56),(.ref 68),(.ref 80),(.ref 92),(.ref 104)] "ValueError.__new__" 1 (top 2)++hcO P 35 214 hvb [(.ref 31)] ((.ref 31)::hem) [] "ValueError.__new__" 0 (top 3)++hcO P 47 230 hvb [(.ref 31)] ((.ref 31)::hem) [] "ValueError.__new__" 0 (top 4)++hcO P 59 246 hvb [(.ref 31)] ((.ref 31)::hem) [] "ValueError.__new__" 0 (top 5)++hcO P 71 262 hvb [(.ref 31)] ((.ref 31)::hem) [] "ValueError.__new__" 0 (top 6)++hcO P 83 278 hvb [(.ref 31)] ((.ref 31)::hem) [] "ValueError.__new__" 0 (top 7)++hcO P 95 294 hvb [(.ref 31)] ((.ref 31)::hem) [] "ValueError.__new__" 0 (top 8)++hfO 107 312 "" hvc (top 10)++hfO 114 321 "" hvd (top 12)++hcO P 121 332 hve [] [(.type "object")] [] "object.__new__" 2 (top 14)++hfO 142 373 "" hve (top 15)++hfO 149 380 "" hve (top 16)++hfO 156 389 "" hve (top 17)++hfO 163 398 "" hve (top 18)++hfO 170 405 "" hve (top 19)++hfO 177 413 "" hve (top 20)++hfO 184 422 "" hve (top 21)++hfO 191 433 "" hve (top 22)++hfO 198 441 "" hve (top 23)++hfO 205 451 "" hve (top 24)
def hl1(P:Params):List Obj:=hl0 P++hfO 212 466 "" hve (top 25)++hfO 219 475 "" hve (top 26)++hfO 226 486 "" hve (top 27)++hfO 233 497 "" hve (top 28)++hfO 240 506 "" hve (top 29)++hfO 247 516 "" hve (top 30)++hfO 254 532 "" hvf (top 33)++hfO 261 541 "" hvf (top 34)++hcO P 268 548 hvf [] [(.type "object")] [] "object.__new__" 2 (top 35)
def hl2(P:Params)(sb:List Value):List Obj:=hl1 P++hcO P 401 744 hvg [] [(.type "object")] sb "object.__new__" 2 (top 37)++hcO P 477 837 hvg [(.ref 472)] ((.ref 472)::[(.type "object")]) [] "object.__new__" 0 (top 38)
def hl3(P:Params):List Obj:=hl2 P [(.ref 522),(.ref 572)]++hcO P 525 893 hvg [(.ref 472)] ((.ref 472)::[(.type "object")]) [(.ref 591),(.ref 610)] "object.__new__" 0 (top 39)++hcO P 575 952 hvg [(.ref 572)] ((.ref 572)::[(.ref 472),(.type "object")]) [] "object.__new__" 0 (top 40)++hcO P 594 976 hvg [(.ref 572)] ((.ref 572)::[(.ref 472),(.type "object")]) [] "object.__new__" 0 (top 41)
def hl4(P:Params):List Obj:=hl3 P++hfO 613 1002 "" hvh (top 43)++hfO 620 1010 "" hvh (top 44)++hfO 627 1019 "" hvh (top 45)++hfO 634 1026 "" hvh (top 46)++hfO 641 1037 "" hvh (top 47)++hfO 648 1044 "" hvh (top 48)++hfO 655 1055 "" hvh (top 49)++hfO 662 1064 "" hvh (top 50)++hfO 667 1070 "" hvh (top 51)++hfO 674 1079 "" hvh (top 52)
def hl5(P:Params):List Obj:=hl4 P++hfO 679 1085 "" hvh (top 53)++hfO 684 1091 "" hvh (top 54)++hfO 691 1104 "" hvh (top 55)++hfO 698 1114 "" hvh (top 56)++hfO 705 1122 "" hvh (top 57)++hfO 710 1128 "" hvh (top 58)++hfO 715 1134 "" hvh (top 59)++hfO 722 1147 "" hvh (top 60)++hfO 729 1159 "" hvh (top 61)++hfO 736 1176 "" hvh (top 62)
theorem hr0(w:World)(o:OsState):topGo treeTable hpg w 11 (some<|.ref 6) 12 (hSh boot_toks (boot_heap w.params) o) (topStub hpg)=some (hSh 187 (hhp w.params (.str "__main__" 164) 8 0 []) o,⟨denote treeTable hcd,hcd,⟨0,0,0,0⟩,[topFrame ⟨0,0,0,0⟩]⟩):=by kernel_rfl
theorem hr1(w:World)(o:OsState):segRun treeTable hpg w 11 (some<|.ref 6) 1 1 (hSh 187 (hhp w.params (.str "__main__" 164) 8 0 []) o) (blockOf hbd hev hcd ⟨0,0,0,0⟩ [topFrame ⟨0,0,0,0⟩])=some (.next,hSh 187 (hhp w.params (.str "__main__" 164) 8 0 []) o,hcd,⟨0,0,0,0⟩):=by kernel_rfl
theorem hs0(w:World)(o:OsState):segRun treeTable hpg w 11 (some<|.ref 6) 1 2137 (hSh 187 (hhp w.params (.str "__main__" 164) 8 0 []) o) (piecesOf (hbd.take 25) hev hcd ⟨0,0,0,0⟩ [topFrame ⟨0,0,0,0⟩])=some (.next,hSh 466 (hhp w.params hve 29 21<|hl0 w.params) o,hcd,⟨79,0,87,46⟩):=by kernel_rfl
abbrev hb0:=hbd.drop 25
theorem hs1(w:World)(o:OsState):segRun treeTable hpg w 11 (some<|.ref 6) 1 1044 (hSh 466 (hhp w.params hve 29 21<|hl0 w.params) o) (piecesOf (hb0.take 11) hev hcd ⟨79,0,87,46⟩ [topFrame ⟨0,0,0,0⟩])=some (.next,hSh 742 (hhp w.params hvf 39 30<|hl1 w.params) o,hcd,⟨143,0,234,19⟩):=by kernel_rfl
abbrev hb1:=hb0.drop 11
theorem hs2(w:World)(o:OsState):segRun treeTable hpg w 11 (some<|.ref 6) 1 894 (hSh 742 (hhp w.params hvf 39 30<|hl1 w.params) o) (piecesOf (hb1.take 3) hev hcd ⟨143,0,234,19⟩ [topFrame ⟨0,0,0,0⟩])=some (.next,hSh 893 (hhp w.params hvg 41 32<|hl2 w.params [(.ref 522)]) o,hcd,⟨283,0,301,49⟩):=by kernel_rfl
abbrev hb2:=hb1.drop 3
theorem hs3(w:World)(o:OsState):segRun treeTable hpg w 11 (some<|.ref 6) 1 912 (hSh 893 (hhp w.params hvg 41 32<|hl2 w.params [(.ref 522)]) o) (piecesOf (hb2.take 3) hev hcd ⟨283,0,301,49⟩ [topFrame ⟨0,0,0,0⟩])=some (.next,hSh 1000 (hhp w.params hvg 44 35<|hl3 w.params) o,hcd,⟨325,0,328,48⟩):=by kernel_rfl
abbrev hb3:=hb2.drop 3
theorem hs4(w:World)(o:OsState):segRun treeTable hpg w 11 (some<|.ref 6) 1 309 (hSh 1000 (hhp w.params hvg 44 35<|hl3 w.params) o) (piecesOf (hb3.take 11) hev hcd ⟨325,0,328,48⟩ [topFrame ⟨0,0,0,0⟩])=some (.next,hSh 1085 (hhp w.params hvh 54 45<|hl4 w.params) o,hcd,⟨373,0,378,28⟩):=by kernel_rfl
abbrev hb4:=hb3.drop 11
theorem hs5(w:World)(o:OsState):topRun treeTable hpg w 11 (some<|.ref 6) 326 (hSh 1085 (hhp w.params hvh 54 45<|hl4 w.params) o) (restOf hb4 hev hcd ⟨373,0,378,28⟩ [topFrame ⟨0,0,0,0⟩])=some (hSh 1194 (hhp w.params hvh 64 55<|hl5 w.params) o):=by kernel_rfl
theorem hpa{w:World}{n N t t':Nat}{h h':Heap}{o:OsState}{r:Shared}{b:List Stmt}(m:Nat){p p':Pos}(x:segRun treeTable hpg w 11 (some<|.ref 6) 1 n (hSh t h o) (piecesOf (b.take m) hev hcd p [topFrame ⟨0,0,0,0⟩])=some (.next,hSh t' h' o,hcd,p'))(y:topRun treeTable hpg w 11 (some<|.ref 6) N (hSh t' h' o) (restOf (b.drop m) hev hcd p' [topFrame ⟨0,0,0,0⟩])=some r):topRun treeTable hpg w 11 (some<|.ref 6) (n+N) (hSh t h o) (restOf b hev hcd p [topFrame ⟨0,0,0,0⟩])=some r:=by
 have z:=piece_app x y;rwa[List.take_append_drop] at z
theorem hhr(w:World)(o:OsState):topRun treeTable hpg w 11 (some<|.ref 6) (12+(1+(2137+(1044+(894+(912+(309+326))))))) (hSh boot_toks (boot_heap w.params) o) (topStub hpg)=some (hSh 1194 (hhp w.params hvh 64 55<|hl5 w.params) o):=go_top (hr0 w o)<|piece_block (hr1 w o)<|hpa _ (hs0 w o)<|hpa _ (hs1 w o)<|hpa _ (hs2 w o)<|hpa _ (hs3 w o)<|hpa _ (hs4 w o)<|hs5 w o
def hhf(P:Params):Heap:=hhp P hvh 64 55<|hl5 P
theorem hhq(w:World):(λo=>((staticsOk (importedModules hpg.main.body) (boot_heap w.params) (hhf w.params)&&namesBound hpg (hhf w.params)&&gensDone (hSh 1194 (hhf w.params) o)&&laidKept (boot_heap w.params) (hhf w.params)),openSeen qv [] (importedModules hpg.main.body) Xt true<|hSh 1194 (hhf w.params) o,hk.obs<|hSh 1194 (hhf w.params) o))=λ_=>(true,openGood qv [],hk.val w):=by kernel_rfl
theorem hl:LeftO PySem.Challenge.pw_stretchdeeds_k92_whole_wide_makes qv [] Xt hk.obs hk.val 6000:=LeftO.of_pieces (H₀:=boot_heap) (H₁:=hhf) (boot_open (by kernel_rfl) rfl λ_=>by kernel_rfl) (λ_=>by kernel_rfl) hhr rfl hhq
end G92
end
section
namespace PF
open PySem PySem.Spec PyProof.Rows L2
abbrev St:=L2.St
structure KD where
 d:Addr->List (Key×V)->Prop
 c:Str->Addr
instance:CoeFun KD (λ_=>Addr->List (Key×V)->Prop):=⟨KD.d⟩
inductive D where
 |non|bl (b:Bool)|int (i:Int)|str (x:Str)|tup (ds:List D)|lst (ds:List D)|dct (kvs:List (Key×D))|cl (c:Str)|ob (c:Str) (ns:List Str) (ds:List D)
mutual
inductive Rp(K:zzA)(kd:KD)(O:Addr->Prop)(H:Hp):V->D->Prop
 |non:Rp K kd O H .non .non
 |bl (b:Bool):Rp K kd O H (.bl b) (.bl b)
 |int (i:Int):Rp K kd O H (.int i) (.int i)
 |str (x:Str):Rp K kd O H (.str x) (.str x)
 |tup {a:Addr}{vs:List V}{ds:List D}:¬O a->Rd H a (.tup vs)->RpL K kd O H vs ds->Rp K kd O H (.ref a) (.tup ds)
 |tupK {a:Addr}{o:Obj}{its:Array Value}{n:Nat}{vs:List V}{ds:List D}:K.lookup a=some o->o.cls = .type "tuple"->o.data = .seq its n->its.size<=sizeLine->zR vs its.toList->RpL K kd O H vs ds->Rp K kd O H (.ref a) (.tup ds)
 |lst {a:Addr}{vs:List V}{ds:List D}:¬O a->Rd H a (.lst vs)->RpL K kd O H vs ds->Rp K kd O H (.ref a) (.lst ds)
 |lstK {a:Addr}{its:Array Value}{n:Nat}{vs:List V}{ds:List D}:K.lookup a=some {cls:=.type "list",data:=.seq its n}->its.size<=sizeLine->zR vs its.toList->RpL K kd O H vs ds->Rp K kd O H (.ref a) (.lst ds)
 |dct {a:Addr}{kvs:List (Key×V)}{ds:List (Key×D)}:¬O a->Rd H a (.dK kvs)->RpM K kd O H kvs ds->Rp K kd O H (.ref a) (.dct ds)
 |dctK {a:Addr}{kvs:List (Key×V)}{ds:List (Key×D)}:kd a kvs->RpM K kd O H kvs ds->Rp K kd O H (.ref a) (.dct ds)
 |cl (c:Str):Rp K kd O H (.ref (kd.c c)) (.cl c)
 |ob {a dx:Addr}{c:Str}{ns:List Str}{vs:List V}{ds:List D}:¬O a->H a=some (.ins (kd.c c) dx (ns.zip vs))->ns.length=vs.length->RpL K kd O H vs ds->Rp K kd O H (.ref a) (.ob c ns ds)
inductive RpL(K:zzA)(kd:KD)(O:Addr->Prop)(H:Hp):List V->List D->Prop
 |nil:RpL K kd O H [] []
 |cons {v:V}{d:D}{vs:List V}{ds:List D}:Rp K kd O H v d->RpL K kd O H vs ds->RpL K kd O H (v::vs) (d::ds)
inductive RpM(K:zzA)(kd:KD)(O:Addr->Prop)(H:Hp):List (Key×V)->List (Key×D)->Prop
 |nil:RpM K kd O H [] []
 |cons {k:Key}{v:V}{d:D}{vs:List (Key×V)}{ds:List (Key×D)}:Rp K kd O H v d->RpM K kd O H vs ds->RpM K kd O H ((k,v)::vs) ((k,d)::ds)
end
structure Grow(W:Addr->Prop)(H:Hp)(W':Addr->Prop)(H':Hp):Prop where
 keep:∀b o,H b=some o->¬W b->H' b=some o
 own:∀b,W' b->W b\/H b=none
def Grow.refl:Grow W H W H:=⟨λ_ _ h _=>h,λ_ h=>.inl h⟩
def Grow.trans(a:Grow W H W1 H1)(b:Grow W1 H1 W2 H2):Grow W H W2 H2 where
 keep:=λx o h n=>b.keep x o (a.keep x o h n) λq=>(a.own x q).elim n λz=>by rw[z]at h;cases h
 own:=λx q=>by
  rcases b.own x q with h|h
  . exact a.own x h
  . cases e:H x with
    |none=>exact .inr rfl
    |some o=>
     refine .inl<|Classical.byContradiction λn=>?_;rw[a.keep x o e n]at h;cases h
def Grow.less(h:∀a,W' a->W a):Grow W H W' H:=⟨λ_ _ q _=>q,λb q=>.inl<|h b q⟩
abbrev TB(F W:Addr->Prop):Addr->Prop:=λa=>F a\/W a
section
variable{K:zzA}{kd:KD}{F W W':Addr->Prop}{H H':Hp}
def GI(g:Grow W H W' H')(n:¬W a)(h:Rd H a u):Rd H' a u:=by
 rcases h with h|⟨o,h⟩
 . exact .inl<|g.keep _ _ h n
 . exact .inr ⟨o,g.keep _ _ h n⟩
def pF(h:Rd H a u):H a≠none:=by
 rcases h with h|⟨o,h⟩<;>(rw[h];simp)
def GK(g:Grow W H W' H')(n:¬TB F W a)(h:Rd H a u):¬TB F W' a:=λq=>
 q.elim (λz=>n<|.inl z) λz=>(g.own a z).elim (λy=>n<|.inr y) λy=>pF h y
def Rp.grow(g:Grow W H W' H')(h:Rp K kd (TB F W) H v d):Rp K kd (TB F W') H' v d:=
 Rp.rec .non .bl .int .str (λn h _ r=>.tup (GK g n h) (GI g (λz=>n<|.inr z) h) r) (λa b c e f _ r=>.tupK a b c e f r) (λn h _ r=>.lst (GK g n h) (GI g (λz=>n<|.inr z) h) r) (λa e f _ r=>.lstK a e f r) (λn h _ r=>.dct (GK g n h) (GI g (λz=>n<|.inr z) h) r) (λh _ r=>.dctK h r) .cl (λn h l _ r=>.ob (GK g n<|.inl h) (g.keep _ _ h λz=>n<|.inr z) l r) .nil (λ_ _ h r=>.cons h r) .nil (λ_ _ h r=>.cons h r) h
def RpL.ind{P:List V->List D->Prop}(h0:P [] [])(h1:∀{v d vs ds},Rp K kd O H v d->RpL K kd O H vs ds->P vs ds->P (v::vs) (d::ds))(h:RpL K kd O H vs ds):P vs ds:=
 RpL.rec (motive_1:=λ_ _ _=>True) (motive_3:=λ_ _ _=>True) ⋯ ⋯ ⋯ ⋯ (λ_ _ _ _=>⋯) (λ_ _ _ _ _ _ _=>⋯) (λ_ _ _ _=>⋯) (λ_ _ _ _ _=>⋯) (λ_ _ _ _=>⋯) (λ_ _ _=>⋯) ⋯ (λ_ _ _ _ _=>⋯) h0 (λa r _ ih=>h1 a r ih) ⋯ (λ_ _ _ _=>⋯) h
def RpM.ind{P:List (Key×V)->List (Key×D)->Prop}(h0:P [] [])(h1:∀{k v d vs ds},Rp K kd O H v d->RpM K kd O H vs ds->P vs ds->P ((k,v)::vs) ((k,d)::ds))(h:RpM K kd O H vs ds):P vs ds:=
 RpM.rec (motive_1:=λ_ _ _=>True) (motive_2:=λ_ _ _=>True) ⋯ ⋯ ⋯ ⋯ (λ_ _ _ _=>⋯) (λ_ _ _ _ _ _ _=>⋯) (λ_ _ _ _=>⋯) (λ_ _ _ _ _=>⋯) (λ_ _ _ _=>⋯) (λ_ _ _=>⋯) ⋯ (λ_ _ _ _ _=>⋯) ⋯ (λ_ _ _ _=>⋯) h0 (λa r _ ih=>h1 a r ih) h
theorem RpL.grow(g:Grow W H W' H'){vs:List V}(h:RpL K kd (TB F W) H vs ds):RpL K kd (TB F W') H' vs ds:=RpL.ind .nil (λa _ r=>.cons (Rp.grow g a) r) h
def Rp.less(g:∀a,O' a->O a)(h:Rp K kd O H v d):Rp K kd O' H v d:=
 Rp.rec .non .bl .int .str (λn h _ r=>.tup (λz=>n<|g _ z) h r) (λa b c e f _ r=>.tupK a b c e f r) (λn h _ r=>.lst (λz=>n<|g _ z) h r) (λa e f _ r=>.lstK a e f r) (λn h _ r=>.dct (λz=>n<|g _ z) h r) (λh _ r=>.dctK h r) .cl (λn h l _ r=>.ob (λz=>n<|g _ z) h l r) .nil (λ_ _ h r=>.cons h r) .nil (λ_ _ h r=>.cons h r) h
theorem RpL.less{O O':Addr->Prop}(g:∀a,O' a->O a)(h:RpL K kd O H vs ds):RpL K kd O' H vs ds:=RpL.ind .nil (λa _ r=>.cons (Rp.less g a) r) h
theorem RpM.less{O O':Addr->Prop}(g:∀a,O' a->O a)(h:RpM K kd O H vs ds):RpM K kd O' H vs ds:=RpM.ind .nil (λa _ r=>.cons (Rp.less g a) r) h
theorem RpL.length{O:Addr->Prop}(h:RpL K kd O H vs ds):vs.length=ds.length:=RpL.ind (P:=λa b=>a.length=b.length) rfl (λ_ _ r=>congrArg _ r) h
theorem RpM.length{O:Addr->Prop}(h:RpM K kd O H vs ds):vs.length=ds.length:=RpM.ind (P:=λa b=>a.length=b.length) rfl (λ_ _ r=>congrArg _ r) h
def RpL.get{vs:List V}{i:Nat}(h:RpL K kd O H vs ds)(e:ds[i]? = some d):∃v,vs[i]? = some v/\Rp K kd O H v d:=
 RpL.ind (P:=λb c=>∀i,c[i]? = some d->∃v,b[i]? = some v/\Rp K kd O H v d) (λi e=>by cases e) (λa _ f i e=>by
  cases i with
  |zero=>cases e;exact⟨_,rfl,a⟩
  |succ i=>exact f i e) h i e
def RpL.append{O:Addr->Prop}(h:RpL K kd O H vs ds)(r:RpL K kd O H ws es):RpL K kd O H (vs++ws) (ds++es):=RpL.ind (P:=λb c=>RpL K kd O H (b++ws)<|c++es) r (λa _ t=>.cons a t) h
theorem RpL.take{O:Addr->Prop}(n:Nat)(h:RpL K kd O H vs ds):RpL K kd O H (vs.take n) (ds.take n):=
 RpL.ind (P:=λb c=>∀n,RpL K kd O H (b.take n)<|c.take n) (λn=>by rw[List.take_nil,List.take_nil];exact .nil) (λa _ d n=>by
  cases n with
  |zero=>exact .nil
  |succ n=>exact .cons a (d n)) h n
theorem RpL.drop{O:Addr->Prop}(n:Nat)(h:RpL K kd O H vs ds):RpL K kd O H (vs.drop n) (ds.drop n):=
 RpL.ind (P:=λc d=>∀n,RpL K kd O H (c.drop n)<|d.drop n) (λn=>by rw[List.drop_nil,List.drop_nil];exact .nil) (λa b e n=>by
  cases n with
  |zero=>exact .cons a b
  |succ n=>exact e n) h n
theorem RpL.rep(h:RpL K kd O H vs ds):∀k:Nat,RpL K kd O H (List.replicate k vs).flatten (List.replicate k ds).flatten
 |0=>.nil
 |k+1=>h.append<|RpL.rep h k
end
inductive Vw(K:zzA)(kd:KD)(O:Addr->Prop)(H:Hp):V->D->Prop
 |non:Vw K kd O H .non .non
 |bl (b:Bool):Vw K kd O H (.bl b) (.bl b)
 |int (i:Int):Vw K kd O H (.int i) (.int i)
 |str (x:Str):Vw K kd O H (.str x) (.str x)
 |tup {a:Addr}{vs:List V}{ds:List D}:Rp K kd O H (.ref a) (.tup ds)->Gx K H a vs->RpL K kd O H vs ds->Vw K kd O H (.ref a) (.tup ds)
 |lst {a:Addr}{vs:List V}{ds:List D}:sS K H a vs->RpL K kd O H vs ds->Vw K kd O H (.ref a) (.lst ds)
 |dct {a:Addr}{kvs:List (Key×V)}{ds:List (Key×D)}:(Rd H a (.dK kvs)\/kd a kvs)->RpM K kd O H kvs ds->Vw K kd O H (.ref a) (.dct ds)
 |cl (c:Str):Vw K kd O H (.ref (kd.c c)) (.cl c)
 |ob {a dx:Addr}{c:Str}{ns:List Str}{vs:List V}{ds:List D}:H a=some (.ins (kd.c c) dx (ns.zip vs))->ns.length=vs.length->RpL K kd O H vs ds->Vw K kd O H (.ref a) (.ob c ns ds)
def Rp.vw{K}(h:Rp K kd O H v d):Vw K kd O H v d:=by
 cases h with
 |non=>exact .non
 |bl b=>exact .bl b
 |int i=>exact .int i
 |str x=>exact .str x
 |tup n h r=>exact .tup (.tup n h r) (.inl h) r
 |tupK a b c e f r=>exact .tup (.tupK a b c e f r) (.inr ⟨_,_,_,a,b,c,e,f⟩) r
 |lst n h r=>exact .lst (.inl h) r
 |lstK a e f r=>exact .lst (.inr ⟨_,_,a,e,f⟩) r
 |dct n h r=>exact .dct (.inl h) r
 |dctK h r=>exact .dct (.inr h) r
 |cl c=>exact .cl c
 |ob n h l r=>exact .ob h l r
def _root_.L2.sS.sq{K}(h:sS K H a xs):FT K H a xs:=by
 rcases h with h|⟨b,n,k,z,r⟩
 . exact .inl h
 . exact .inr ⟨_,b,n,k,rfl,rfl,rfl,z,r⟩
def JZ(I:Inv X pins σ H s)(h:sS X.K H a xs):
 xs.length<=sizeLine/\∃(its:List Value) (n:Nat),zR xs its/\s.heap.get? a=some {cls:=.type "list",data:=.seq its.toArray n}:=by
 rcases h with h|⟨b,n,k,z,r⟩
 . exact h.ok I.hok
 . refine⟨by rw[r.length];simpa using z,b.toList,n,r,by simpa using I.kIn _ _ k⟩
def Rp.cl_eq{K}(h:Rp K kd O H (.ref C) (.cl c)):C=kd.c c:=by
 cases h;rfl
def zu:D->Bool
 | .non=>true | .bl _=>true | .int _=>true | .str _=>true|_=>false
def Rp.flat{K}(h:Rp K kd O H v d)(e:zu d=true):Rp K kd O' H' v d:=by
 cases h with
 |non=>exact .non
 |bl b=>exact .bl b
 |int i=>exact .int i
 |str x=>exact .str x
 |_=>cases e
inductive Kind where
 |ls|tp|dc (ks:List Key)|ob (c:Str) (ns:List Str)
inductive O where
 |lf (st:Bool) (d:D)|nd (k:Kind) (os:List O)
abbrev sk(st:Bool)(d:D):O:=.lf (zu d||st) d
mutual
inductive Ro(L:Bool->V->D->Prop)(N:Addr->Prop)(H:Hp):V->O->List Addr->Prop
 |lf {st:Bool}{v:V}{d:D}:L st v d->Ro L N H v (.lf st d) []
 |ls {a:Addr}{vs:List V}{os:List O}{fp:List Addr}:H a=some (.lst vs)->RoL L N H vs os fp->Ro L N H (.ref a) (.nd .ls os) (a::fp)
 |dc {a:Addr}{ks:List Key}{vs:List V}{os:List O}{fp:List Addr}:H a=some (.dK (ks.zip vs))->ks.length=vs.length->RoL L N H vs os fp->Ro L N H (.ref a) (.nd (.dc ks) os) (a::fp)
 |ob {a dx C:Addr}{c:Str}{ns:List Str}{vs:List V}{os:List O}{fp:List Addr}:L true (.ref C) (.cl c)->H a=some (.ins C dx (ns.zip vs))->ns.length=vs.length->RoL L N H vs os fp->Ro L N H (.ref a) (.nd (.ob c ns) os) (a::fp)
 |tp {a:Addr}{vs:List V}{os:List O}{fp:List Addr}:N a->H a=some (.tup vs)->RoL L N H vs os fp->Ro L N H (.ref a) (.nd .tp os) fp
inductive RoL(L:Bool->V->D->Prop)(N:Addr->Prop)(H:Hp):List V->List O->List Addr->Prop
 |nil:RoL L N H [] [] []
 |cons {v:V}{o:O}{vs:List V}{os:List O}{fp fq:List Addr}:Ro L N H v o fp->RoL L N H vs os fq->RoL L N H (v::vs) (o::os) (fp++fq)
end
mutual
def O.toD:O->D
 | .lf _ d=>d
 | .nd .ls os=>.lst<|O.toDs os
 | .nd .tp os=>.tup<|O.toDs os
 | .nd (.dc ks) os=>.dct<|ks.zip<|O.toDs os
 | .nd (.ob c ns) os=>.ob c ns<|O.toDs os
def O.toDs:List O->List D
 | []=>[]
 |o::r=>o.toD::O.toDs r
end
mutual
def O.str:O->Bool
 | .lf st _=>st
 | .nd _ os=>O.strs os
def O.strs:List O->Bool
 | []=>true
 |o::r=>o.str&&O.strs r
end
section
variable{L L':Bool->V->D->Prop}{N N':Addr->Prop}{H H':Hp}{K:zzA}{kd:KD}{Ob:Addr->Prop}
def Ro.mono(hL:∀st v d,L st v d->L' st v d)(hN:∀a vs,N a->H a=some (.tup vs)->N' a/\H' a=some (.tup vs))(k:∀a ∈ fp,∀u,H a=some u->H' a=some u)(h:Ro L N H v o fp):Ro L' N' H' v o fp:=
 Ro.rec (motive_2:=λvs os fp _=>_->RoL L' N' H' vs os fp)
  (λh _=>.lf<|hL _ _ _ h) (λh _ r k=>.ls (k _ zzF _ h)<|r λa m=>k a<|zzD _ m) (λh l _ r k=>.dc (k _ zzF _ h) l<|r λa m=>k a<|zzD _ m) (λc h l _ r k=>.ob (hL _ _ _ c) (k _ zzF _ h) l<|r λa m=>k a<|zzD _ m) (λn h _ r k=>.tp (hN _ _ n h).1 (hN _ _ n h).2<|r k)
  (λ_=>.nil) (λ_ _ h r k=>.cons (h λa m=>k a<|zzP _ m)<|r λa m=>k a<|zzL _ m) h k
def RoL.ind{P:List V->List O->List Addr->Prop}(h0:P [] [] [])(h1:∀{v o vs os fp fq},Ro L N H v o fp->RoL L N H vs os fq->P vs os fq->P (v::vs) (o::os) (fp++fq)){os}(h:RoL L N H vs os fp):P vs os fp:=
 RoL.rec (motive_1:=λ_ _ _ _=>True) (λ_=>⋯) (λ_ _ _=>⋯) (λ_ _ _ _=>⋯) (λ_ _ _ _ _=>⋯) (λ_ _ _ _=>⋯) h0 (λa r _ ih=>h1 a r ih) h
theorem RoL.mono(hL:∀st v d,L st v d->L' st v d)(hN:∀a vs,N a->H a=some (.tup vs)->N' a/\H' a=some (.tup vs)){vs:List V}{os}(k:∀a ∈ fp,∀u,H a=some u->H' a=some u)(h:RoL L N H vs os fp):RoL L' N' H' vs os fp:=
 RoL.ind (P:=λc e b=>(∀a ∈ b,∀u,H a=some u->H' a=some u)->RoL L' N' H' c e b) (λ_=>.nil) (λh _ r k=>.cons (Ro.mono hL hN (λa m=>k a<|zzP _ m) h)<|r λa m=>k a<|zzL _ m) h k
theorem MK:∀{ks:List Key}{vs:List V}{ds:List D},RpL K kd Ob H vs ds->ks.length=vs.length->RpM K kd Ob H (ks.zip vs) (ks.zip ds)
 | [],_,_,_,_=>.nil
 |_::_,_,_,.nil,e=>by simp at e
 |_::_,_,_,.cons h r,e=>.cons h (MK r<|by simpa using e)
def Ro.rp(b)(hL:∀st v d,(b=true->st=true)->L st v d->Rp K kd Ob H v d)(hN:∀a,N a->¬Ob a){v}(s:b=true->o.str=true)(k:∀a ∈ fp,¬Ob a)(h:Ro L N H v o fp):Rp K kd Ob H v o.toD:=
 Ro.rec (motive_2:=λi g f _=>_->_->RpL K kd Ob H i _)
  (λh s _=>hL _ _ _ s h) (λh _ r s k=>.lst (k _ zzF) (.inl h)<|r s λa m=>k a<|zzD _ m) (λh l _ r s k=>.dct (k _ zzF) (.inl h)<|MK (r s λa m=>k a<|zzD _ m) l) (λc h l _ r s k=>by
   have e:=(hL _ _ _ (λ_=>rfl) c).cl_eq;subst e;exact .ob (k _ zzF) h l<|r s λa m=>k a<|zzD _ m) (λn h _ r s k=>.tup (hN _ n) (.inl h)<|r s k)
  (λ_ _=>.nil) (λ_ _ h r s k=>.cons (h (λz=>((zyC _ _).mp<|s z).1) λa m=>k a<|zzP _ m)<|r (λz=>((zyC _ _).mp<|s z).2) λa m=>k a<|zzL _ m) h s k
theorem RoL.rp(b:Bool)(hL:∀st v d,(b=true->st=true)->L st v d->Rp K kd Ob H v d)(hN:∀a,N a->¬Ob a){os}(s:b=true->O.strs os=true)(k:∀a ∈ fp,¬Ob a)(h:RoL L N H vs os fp):RpL K kd Ob H vs (O.toDs os):=
 RoL.ind (P:=λe c f=>(b=true->O.strs c=true)->(∀a ∈ f,¬Ob a)->RpL K kd Ob H e (O.toDs c)) (λ_ _=>.nil) (λh _ r s k=>.cons (Ro.rp b hL hN (λz=>((zyC _ _).mp<|s z).1) (λa m=>k a<|zzP _ m) h)<|r (λz=>((zyC _ _).mp<|s z).2) λa m=>k a<|zzL _ m) h s k
theorem RoL.length{vs:List V}{os}(h:RoL L N H vs os fp):vs.length=os.length:=RoL.ind (P:=λa b _=>a.length=b.length) rfl (λ_ _ r=>congrArg _ r) h
theorem ND:∀os:List O,(O.toDs os).length=os.length
 | []=>rfl
 |_::r=>congrArg _<|ND r
def Cd(os):O.toDs os=os.map O.toD:=by
 induction os with
 |nil=>rfl
 |cons o r a=>show o.toD::O.toDs r=_;rw[a];rfl
def RoL.append{vs ws:List V}{os ps}(h:RoL L N H vs os f)(r:RoL L N H ws ps g):RoL L N H (vs++ws) (os++ps) (f++g):=RoL.ind (P:=λa b f=>RoL L N H (a++ws) (b++ps)<|f++g) r (λh _ t=>by rw[zxB];exact .cons h t) h
def RoL.one(h:Ro L N H v o f):RoL L N H [v] [o] f:=by
 have:=RoL.cons h<|RoL.nil
 rwa [zyE]at this
end
abbrev AS:=List<|Option O
abbrev Ad:=Nat->List Addr
def Gw(T:List Addr)(ad:Ad):Addr->Prop:=λa=>a ∈ T\/∃i,a ∈ ad i
abbrev Lv(F B G:Addr->Prop)(st:Bool):Addr->Prop:=TB (λa=>(st=true/\F a)\/B a) G
abbrev Lf(K:zzA)(kd:KD)(F B G:Addr->Prop)(H:Hp):Bool->V->D->Prop:=λst v d=>Rp K kd (Lv F B G st) H v d
abbrev Nf(F B G:Addr->Prop):Addr->Prop:=λa=>¬Lv F B G true a
abbrev Xy(K:zzA)(kd:KD)(F B G:Addr->Prop)(H:Hp):V->O->List Addr->Prop:=Ro (Lf K kd F B G H) (Nf F B G) H
abbrev ZN(K:zzA)(kd:KD)(F B G:Addr->Prop)(H:Hp):List V->List O->List Addr->Prop:=RoL (Lf K kd F B G H) (Nf F B G) H
def E6(K:zzA)(kd:KD)(F B G:Addr->Prop)(H:Hp):Option O->Option (Option V)->List Addr->Prop
 |none,_,fp=>fp=[]
 |some o,s,fp=>∃v,s=some (some v)/\Xy K kd F B G H v o fp
structure Rel(K:zzA)(kd:KD)(F B:Addr->Prop)(T:List Addr)(ad:Ad)(as:AS)(σ:St)(H:Hp):Prop where
 len:as.length=σ.length
 out:∀i,as.length<=i->ad i=[]
 nd:∀i,(ad i).Nodup
 inj:∀i j a,a ∈ ad i->a ∈ ad j->i=j
 tnd:T.Nodup
 dis:∀i a,a ∈ ad i->a ∉ T
 ftr:∀a,F a->H a≠none
 btr:∀a,B a->H a≠none/\¬F a/\¬Gw T ad a
 gtr:∀a,Gw T ad a->H a≠none/\¬F a
 sl:∀i s,as[i]? = some s->E6 K kd F B (Gw T ad) H s σ[i]? (ad i)
inductive RV where
 |ow (o:O)|bo (i:Nat)
def wU(K:zzA)(kd:KD)(F B:Addr->Prop)(T:List Addr)(ad:Ad)(σ:St)(H:Hp)(v:V):RV->Prop
 | .ow o=>Xy K kd F B (Gw T ad) H v o T
 | .bo i=>T=[]/\σ[i]? = some (some v)
def O.frz(o:O):O:=.lf o.str o.toD
def RV.frz:RV->RV
 | .ow o=>.ow o.frz
 | .bo i=>.bo i
def O.isLf:O->Bool
 | .lf _ _=>true
 |_=>false
def O.kl:O->Option Bool
 | .lf st _=>some st
 | .nd _ os=>if os.all O.isLf=true then some (O.strs os)else none
def RV.view(as:AS):RV->Option (D×Option Bool)
 | .ow o=>some (o.toD,some o.str)
 | .bo i=>match as[i]? with
  |some (some o)=>some (o.toD,o.kl)
  |_=>none
def MW(F B G:Addr->Prop):Option Bool->Addr->Prop
 |some st=>Lv F B G st
 |none=>λ_=>False
section
variable{K:zzA}{kd:KD}{F B F' B':Addr->Prop}{G G':Addr->Prop}{T T':List Addr}{ad ad1:Ad}{as as1:AS}{σ:St}{H H1 H':Hp}{v:V}{r:RV}{o:O}{fp:List Addr}{vs:List V}{os:List O}
theorem Xy.grow(g:Grow G H G' H')(k:∀a ∈ fp,∀u,H a=some u->H' a=some u)(h:Xy K kd F B G H v o fp):Xy K kd F B G' H' v o fp:=
 Ro.mono (λst v d r=>Rp.grow g r) (λa vs n e=>⟨λz=>z.elim (λy=>n<|.inl y) λy=>(g.own a y).elim (λw=>n<|.inr w) λw=>(by rw[w]at e;cases e),g.keep a _ e λw=>n<|.inr w⟩) k h
theorem ZN.grow(g:Grow G H G' H')(k:∀a ∈ fp,∀u,H a=some u->H' a=some u)(h:ZN K kd F B G H vs os fp):ZN K kd F B G' H' vs os fp:=
 RoL.mono (λst v d r=>Rp.grow g r) (λa vs n e=>⟨λz=>z.elim (λy=>n<|.inl y) λy=>(g.own a y).elim (λw=>n<|.inr w) λw=>(by rw[w]at e;cases e),g.keep a _ e λw=>n<|.inr w⟩) k h
def Xy.lv(g:∀st a,Lv F' B' G' st a->Lv F B G st a)(h:Xy K kd F B G H v o fp):Xy K kd F' B' G' H v o fp:=
 Ro.mono (λst v d r=>r.less<|g st) (λa vs n e=>⟨λz=>n<|g true a z,e⟩) (λ_ _ _ e=>e) h
def ZN.lv(g:∀st a,Lv F' B' G' st a->Lv F B G st a)(h:ZN K kd F B G H vs os fp):ZN K kd F' B' G' H vs os fp:=
 RoL.mono (λst v d r=>r.less<|g st) (λa vs n e=>⟨λz=>n<|g true a z,e⟩) (λ_ _ _ e=>e) h
def Xy.less(g:∀a,G' a->G a)(h:Xy K kd F B G H v o fp):Xy K kd F B G' H v o fp:=Xy.lv (λ_ a z=>z.elim .inl λy=>.inr<|g a y) h
def Gw.drop:∀a,Gw [] ad a->Gw T ad a:=λ_ h=>h.elim ⋯ .inr
def Rel.trk(R:Rel K kd F B T ad as σ H)(st):∀a,Lv F B (Gw T ad) st a->H a≠none:=λa h=>by
 rcases h with(h|h)|h
 . exact R.ftr a h.2
 . exact(R.btr a h).1
 . exact(R.gtr a h).1
def Rel.tr(R:Rel K kd F B T ad as σ H)(lv):∀a,MW F B (Gw T ad) lv a->H a≠none:=λa h=>by
 cases lv with
 |none=>exact h.elim
 |some st=>exact R.trk st a h
theorem E6.lv(g:∀st a,Lv F' B' G' st a->Lv F B G st a)(h:E6 K kd F B G H s x fp):E6 K kd F' B' G' H s x fp:=by
 cases s with
 |none=>exact h
 |some o=>obtain⟨v,e,r⟩:=h;exact⟨v,e,Xy.lv g r⟩
def E6.less(g:∀a,G' a->G a)(h:E6 K kd F B G H s x fp):E6 K kd F B G' H s x fp:=h.lv λ_ a z=>z.elim .inl λy=>.inr<|g a y
theorem E6.grow(g:Grow G H G' H')(k:∀a ∈ fp,∀u,H a=some u->H' a=some u)(h:E6 K kd F B G H s x fp):E6 K kd F B G' H' s x fp:=by
 cases s with
 |none=>exact h
 |some o=>obtain⟨v,e,r⟩:=h;exact⟨v,e,Xy.grow g k r⟩
theorem Rel.drop(R:Rel K kd F B T ad as σ H):Rel K kd F B [] ad as σ H where
 len:=R.len
 out:=R.out
 nd:=R.nd
 inj:=R.inj
 tnd:=zyJ
 dis:=λ_ _ _ z=>nomatch z
 ftr:=R.ftr
 btr:=λa h=>let⟨h1,h2,h3⟩:=R.btr a h;⟨h1,h2,λz=>h3<|Gw.drop a z⟩
 gtr:=λa h=>R.gtr a (Gw.drop a h)
 sl:=λi s e=>(R.sl i s e).less Gw.drop
def JC(R:Rel K kd F B T ad as σ H)(h:Xy K kd F B (Gw T ad) H v o T):Rp K kd (Lv F B (Gw [] ad) o.str) H v o.toD:=
 Ro.rp o.str (λst v d hs r=>r.less λa z=>z.elim (λy=>.inl<|y.elim (λx=>.inl ⟨hs x.1,x.2⟩) .inr) λy=>.inr<|Gw.drop a y)
  (λa n z=>n<|z.elim (λy=>.inl<|y.elim (λx=>.inl ⟨rfl,x.2⟩) .inr) λy=>.inr<|Gw.drop a y) id
  (λa m z=>by
   rcases z with(z|z)|z|⟨i,z⟩
   . exact(R.gtr a<|.inl m).2 z.2
   . exact(R.btr a z).2.2<|.inl m
   . cases z
   . exact R.dis i a z m) h
def wU.drop(R:Rel K kd F B T ad as σ H)(h:wU K kd F B T ad σ H v r):wU K kd F B [] ad σ H v r.frz:=by
 cases r with
 |ow o=>exact .lf (JC R h)
 |bo i=>exact⟨rfl,h.2⟩
theorem wU.grow(g:Grow (Gw [] ad) H (Gw [] ad1) H1)(h:wU K kd F B [] ad σ H v r):wU K kd F B [] ad1 σ H1 v r:=by
 cases r with
 |ow o=>exact Xy.grow g ⋯ h
 |bo i=>exact h
def rZ(h:ZN K kd F B G H vs os fp):os.all O.isLf=true->fp=[]:=
 RoL.ind (P:=λ_ os fp=>os.all O.isLf=true->fp=[]) ⋯ (λh _ ih e=>by
  rw[List.all_cons,zyC]at e;rw[ih e.2];cases h with
  |lf=>rfl
  |ls=>cases e.1
  |dc=>cases e.1
  |ob=>cases e.1
  |tp=>cases e.1) h
def GD{st}(hs:b=true->st=true):∀a,Lv F B G b a->Lv F B G st a:=λa z=>z.elim (λy=>.inl<|y.elim (λx=>.inl ⟨hs x.1,x.2⟩) .inr) .inr
def L5(h:ZN K kd F B G H vs os fp)(e:os.all O.isLf=true):RpL K kd (Lv F B G<|O.strs os) H vs (O.toDs os):=by
 have:=rZ h e;subst this;exact RoL.rp _ (λst v d hs r=>r.less<|GD hs) (λa n z=>n<|GD ⋯ a z) id ⋯ h
def Kn(h:ZN K kd F B G H vs os fp):RpL K kd (λ_=>False) H vs (O.toDs os):=RoL.rp false (λst v d _ r=>r.less λ_ z=>z.elim) (λ_ _ z=>z) ⋯ (λ_ _ z=>z) h
def Bn(h:Xy K kd F B G H v o fp):Rp K kd (λ_=>False) H v o.toD:=Ro.rp false (λst v d _ r=>r.less λ_ z=>z.elim) (λ_ _ z=>z) ⋯ (λ_ _ z=>z) h
def Eg(h:Xy K kd F B G H v o []):Rp K kd (Lv F B G o.str) H v o.toD:=
 Ro.rp o.str (λst v d hs r=>r.less<|GD hs) (λa n z=>n<|GD ⋯ a z) id ⋯ h
theorem Xy.vw(h:Xy K kd F B G H v o fp):Vw K kd (MW F B G o.kl) H v o.toD:=by
 cases h with
 |lf h=>exact h.vw
 |ls hH r=>
  rename_i a vs' os' fp';show Vw K kd (MW F B G (if os'.all O.isLf=true then some _ else none)) H _ _
  by_cases e:os'.all O.isLf=true
  . rw[if_pos e];exact .lst (.inl<|.inl hH)<|L5 r e
  . rw[if_neg e];exact .lst (.inl<|.inl hH) (Kn r)
 |dc hH l r=>
  rename_i a ks vs' os' fp';show Vw K kd (MW F B G (if os'.all O.isLf=true then some _ else none)) H _ _
  by_cases e:os'.all O.isLf=true
  . rw[if_pos e];exact .dct (.inl<|.inl hH)<|MK (L5 r e) l
  . rw[if_neg e];exact .dct (.inl<|.inl hH) (MK (Kn r) l)
 |ob hc hH l r=>
  rename_i a dx C c ns vs' os' fp';have ec:=hc.cl_eq;subst ec;show Vw K kd (MW F B G (if os'.all O.isLf=true then some _ else none)) H _ _
  by_cases e:os'.all O.isLf=true
  . rw[if_pos e];exact .ob hH l<|L5 r e
  . rw[if_neg e];exact .ob hH l (Kn r)
 |tp n hH r=>
  rename_i a vs' os';show Vw K kd (MW F B G (if os'.all O.isLf=true then some _ else none)) H _ _
  by_cases e:os'.all O.isLf=true
  . rw[if_pos e];have rl:=L5 r e;exact .tup (.tup (λz=>n<|GD (λ_=>rfl) _ z) (.inl hH) rl) (.inl<|.inl hH) rl
  . rw[if_neg e];exact .tup (.tup (λz=>z) (.inl hH)<|Kn r) (.inl<|.inl hH)<|Kn r
theorem wU.vw(R:Rel K kd F B [] ad as σ H)(h:wU K kd F B [] ad σ H v r)(e:r.view as=some (d,lv)):Vw K kd (MW F B (Gw [] ad) lv) H v d:=by
 cases r with
 |ow o=>
  cases e;exact(Eg h).vw
 |bo i=>
  have e:(match as[i]? with|some (some o)=>some _|_=>none)=some _:=e;cases k:as[i]? with
  |none=>rw[k]at e;cases e
  |some s=>
   cases s with
   |none=>rw[k]at e;cases e
   |some o=>
    rw[k]at e;cases e;obtain⟨w,hw,ro⟩:=R.sl i _ k;rw[h.2]at hw;cases hw;exact ro.vw
def Rel.add(R:Rel K kd F B T ad as σ H)(hn:N.Nodup)(hl:∀a ∈ N,H a=none)(k:∀b u,H b=some u->H' b=some u)(h1:∀a ∈ N,H' a≠none):Rel K kd F B (N++T) ad as σ H'/\Grow (Gw T ad) H (Gw (N++T) ad) H':=by
 have g:Grow (Gw T ad) H (Gw _ ad) H':=⟨λb u h _=>k b u h,λb h=>by
  rcases h with h|h
  . rcases zzM.mp h with h|h
    . exact .inr<|hl b h
    . exact .inl<|.inl h
  . exact .inl<|.inr h⟩
 have kn:∀a,H a≠none->H' a≠none:=λa z=>by
  cases e:H a with
  |none=>exact absurd e z
  |some u=>rw[k a u e];simp
 refine⟨⟨R.len,R.out,R.nd,R.inj, ?_,λi a m z=>?_,λa z=>kn a<|R.ftr a z,λa z=>?_,λa z=>?_,λi s e=>(R.sl i s e).grow g λa _ u h=>k a u h⟩,g⟩
 . refine zxD.mpr ⟨hn,R.tnd,λa m b m' e=>?_⟩;subst e;exact(R.gtr a<|.inl m').1<|hl a m
 . rcases zzM.mp z with z|z
   . exact(R.gtr a<|.inr ⟨i,m⟩).1<|hl a z
   . exact R.dis i a m z
 . obtain⟨b1,b2,b3⟩:=R.btr a z;refine⟨kn a b1,b2,λy=>?_⟩
   rcases y with y|y
   . rcases zzM.mp y with y|y
     . exact b1<|hl a y
     . exact b3<|.inl y
   . exact b3<|.inr y
 . rcases z with z|z
   . rcases zzM.mp z with z|z
     . exact⟨h1 a z,λf=>R.ftr a f<|hl a z⟩
     . exact⟨kn a (R.gtr a<|.inl z).1,(R.gtr a<|.inl z).2⟩
   . exact⟨kn a (R.gtr a<|.inr z).1,(R.gtr a<|.inr z).2⟩
def Rel.more(R:Rel K kd F B T ad as σ H)(k:∀b u,H b=some u->H' b=some u):Rel K kd F B T ad as σ H'/\Grow (Gw T ad) H (Gw T ad) H':=
 R.add zyJ ⋯ k ⋯
def Rel.news(R:Rel K kd F B [] ad as σ H)(hn:T'.Nodup)(hl:∀a ∈ T',H a=none)(k:∀b u,H b=some u->H' b=some u)(h1:∀a ∈ T',H' a≠none):Rel K kd F B T' ad as σ H'/\Grow (Gw [] ad) H (Gw T' ad) H':=by
 have:=R.add hn hl k h1
 rwa [zyE]at this
end
inductive R0 where
 |im (d:D)|fl (ds:List D)|fd (kvs:List (Key×D))
def RQ(K:zzA)(kd:KD)(O:Addr->Prop)(H:Hp)(Q:VK):R0->Prop
 | .im d=>∀v H',(∀b o,H b=some o->H' b=some o)->Rp K kd O H' v d->Q v H'
 | .fl ds=>∀l vs H',H l=none->(∀b o,H b=some o->H' b=some o)->H' l=some (.lst vs)->RpL K kd (TB O (· = l)) H' vs ds->Q (.ref l) H'
 | .fd ds=>∀l vs H',H l=none->(∀b o,H b=some o->H' b=some o)->H' l=some (.dK vs)->RpM K kd (TB O (· = l)) H' vs ds->Q (.ref l) H'
def wrap(lv:Option Bool):R0->Option RV
 | .im d=>if(zu d||lv.isSome)=true then some (.ow<|sk (lv.getD false) d)else none
 | .fl ds=>if(ds.all zu||lv.isSome)=true then some (.ow<|.nd .ls<|ds.map<|sk<|lv.getD false)else none
 | .fd kvs=>if((kvs.map (·.2)).all zu||lv.isSome)=true then some (.ow (.nd (.dc (kvs.map (·.1))) ((kvs.map (·.2)).map<|sk<|lv.getD false)))else none
def bS_{α β:Type}{o}{f:α->Option β}{b}(h:o.bind f=some b):∃a,o=some a/\f a=some b:=by
 cases o with
 |none=>cases h
 |some a=>exact⟨a,rfl,h⟩
def ite_some'{α:Type}{c:Prop}[Decidable c]{a}{b:α}(h:(if c then a else none)=some b):c/\a=some b:=by
 by_cases hc:c
 . rw[if_pos hc]at h;exact⟨hc,h⟩
 . rw[if_neg hc]at h;cases h
def zy{α:Type}{c:Prop}[Decidable c]{a b:α}(h:(if c then some a else none)=some b):c/\a=b:=by
 by_cases hc:c
 . rw[if_pos hc]at h;cases h;exact⟨hc,rfl⟩
 . rw[if_neg hc]at h;cases h
section
variable{K:zzA}{kd:KD}{F B:Addr->Prop}{G:Addr->Prop}{ad:Ad}{as:AS}{σ:St}{H H':Hp}{v:V}{r:R0}{rv:RV}{Q:VK}{lv:Option Bool}
def nH(h:zu d=true\/lv.isSome=true)(hO:∀st,lv=some st->∀a,Lv F B G st a->Ob a)(rp:Rp K kd Ob H v d):Lf K kd F B G H (zu d||lv.getD false) v d:=by
 cases e:zu d with
 |true=>exact rp.flat e
 |false=>
  rw[e]at h;cases lv with
  |none=>rcases h with h|h<;>cases h
  |some st=>exact rp.less (hO st rfl)
def Hq(hO:∀st,lv=some st->∀a,Lv F B G st a->Ob a)(e:(ds.all zu||lv.isSome)=true)(h:RpL K kd Ob H vs ds):RoL (Lf K kd F B G H) N H vs (ds.map<|sk<|lv.getD false) []:=
 RpL.ind (P:=λvs ds=>(ds.all zu||lv.isSome)=true->RoL _ N H vs (ds.map _) []) (λ_=>.nil) (λ{v d vs ds} h _ ih e=>by
  rw[List.all_cons]at e;have e1:zu d=true\/lv.isSome=true:=by
   cases h1:lv.isSome<;>cases h2:zu d<;>simp[h1,h2]at e ⊢
  have e2:(ds.all zu||lv.isSome)=true:=by
   cases h1:lv.isSome with
   |true=>simp
   |false=>
    rw[h1,Bool.or_false,zyC]at e;rw[Bool.or_false];exact e.2
  exact RoL.cons (.lf<|nH e1 hO h)<|ih e2) h e
def D5{O}(h:RpM K kd O H vs ds):vs=(ds.map (·.1)).zip (vs.map (·.2))/\RpL K kd O H (vs.map (·.2)) (ds.map (·.2)):=
 RpM.ind (P:=λvs ds=>vs=(ds.map _).zip (vs.map _)/\RpL K kd O H (vs.map _) (ds.map _)) ⟨rfl,.nil⟩ (λh _ ih=>by
  obtain⟨h1,h2⟩:=ih;refine⟨?_,.cons h h2⟩
  conv=>lhs;rw[h1]
  rfl) h
def Va(R:Rel K kd F B [] ad as σ H)(e:wrap lv r=some rv)(q:∀v T' H',Rel K kd F B T' ad as σ H'->wU K kd F B T' ad σ H' v rv->Grow (Gw [] ad) H (Gw T' ad) H'->Q v H'):RQ K kd (MW F B (Gw [] ad) lv) H Q r:=by
 have hO:∀l st,lv=some st->∀a,Lv F B (Gw l ad) st a->TB (MW F B (Gw [] ad) lv) (· ∈ l) a:=by
  intro l st e a z;subst e
  rcases z with z|z|z
  . exact .inl<|.inl z
  . exact .inr z
  . exact .inl<|.inr<|.inr z
 cases r with
 |im d=>
  obtain⟨c,rfl⟩:=zy e;intro v H' k rp;obtain⟨R',g⟩:=R.more k;refine q v [] H' R' (.lf<|nH ((Bool.or_eq_true _ _).mp c) (λst e a z=>?_) rp) g;exact(hO [] st e a z).elim id λm=>nomatch m
 |fl ds=>
  obtain⟨c,rfl⟩:=zy e;intro l vs H' hl k hl' rp;obtain⟨R',g⟩:=R.news (T':=[l]) ⋯ (λa m=>by rwa [zzR.mp m]) k (λa m=>by rw[zzR.mp m,hl'];simp);exact q _ [l] H' R' (.ls hl'<|Hq (λst e a z=>(hO [l] st e a z).elim .inl λm=>.inr<|zzR.mp m) c rp) g
 |fd ds=>
  obtain⟨c,rfl⟩:=zy e;intro l vs H' hl k hl' rp;obtain⟨R',g⟩:=R.news (T':=[l]) ⋯ (λa m=>by rwa [zzR.mp m]) k (λa m=>by rw[zzR.mp m,hl'];simp);obtain⟨e1,r1⟩:=D5 rp;refine q _ [l] H' R' (.dc (by rw[hl',<-e1]) (by rw[zzB,zzB,rp.length])<|Hq (λst e a z=>(hO [l] st e a z).elim .inl λm=>.inr<|zzR.mp m) c r1) g
end
abbrev EF:=AS->Option (RV×AS)
def al(K:zzA)(kd:KD)(f:EF):TE:=λσ H Q=>∃F B ad as r as',Rel K kd F B [] ad as σ H/\f as=some (r,as')/\
 ∀v T' ad' H',Rel K kd F B T' ad' as' σ H'->wU K kd F B T' ad' σ H' v r->Grow (Gw [] ad) H (Gw T' ad') H'->Q v H'
@[irreducible] def AE(X:Cx)(kd:KD)(e:Expr)(f:EF):Prop:=PE X e<|al X.K kd f
def yo(h:PE X e t)(k:∀σ H Q,t' σ H Q->t σ H Q):PE X e t':=λpins s σ H Q I q=>h pins s σ H Q I<|k σ H Q q
section
variable{K:zzA}{kd:KD}{F B:Addr->Prop}{ad:Ad}{as as1:AS}{σ:St}{H:Hp}{r:RV}{f:EF}{P:VK}
def YE(R:Rel K kd F B [] ad as σ H)(e:f as=some (r,as1))(k:∀v ad1 H1,Rel K kd F B [] ad1 as1 σ H1->wU K kd F B [] ad1 σ H1 v r.frz->Grow (Gw [] ad) H (Gw [] ad1) H1->P v H1):al K kd f σ H P:=
 ⟨F,B,ad,as,r,as1,R,e,λv T' ad' H' R' rv g=>k v ad' H' R'.drop (wU.drop R' rv)<|g.trans<|Grow.less Gw.drop⟩
end
def kJ(X:Cx)(kd:KD)(f:Value->Value->Sem Value)(g:D->D->Option R0):Prop:=
 LP X f (λx y H Q=>∃O d e r,(∀a,O a->H a≠none)/\Vw X.K kd O H x d/\Vw X.K kd O H y e/\g d e=some r/\RQ X.K kd O H Q r)
def cj(X:Cx)(kd:KD)(f:Value->Sem Value)(g:D->Option R0):Prop:=
 fS X f (λx H Q=>∃O d r,(∀a,O a->H a≠none)/\Vw X.K kd O H x d/\g d=some r/\RQ X.K kd O H Q r)
inductive VwL(K:zzA)(kd:KD)(O:Addr->Prop)(H:Hp):List V->List D->Prop
 |nil:VwL K kd O H [] []
 |cons {v:V}{d:D}{vs:List V}{ds:List D}:Vw K kd O H v d->VwL K kd O H vs ds->VwL K kd O H (v::vs) (d::ds)
def UI(X:Cx)(kd:KD)(f:Value)(g:List D->Option R0):Prop:=
 UL X f (λxs H Q=>∃O ds r,(∀a,O a->H a≠none)/\VwL X.K kd O H xs ds/\g ds=some r/\RQ X.K kd O H Q r)
def cA(X:Cx)(kd:KD)(g:D->D->Option R0):Prop:=
 gY X (λx y H Q=>∃O d e r,(∀a,O a->H a≠none)/\Vw X.K kd O H x d/\Vw X.K kd O H y e/\g d e=some r/\RQ X.K kd O H Q r)
def meet:Option Bool->Option Bool->Option Bool
 |some a,some b=>some (a&&b)
 |_,_=>none
def MW.meet1:∀x,MW F B G (meet a b) x->MW F B G a x:=λx h=>by
 cases a with
 |none=>cases b<;>exact h.elim
 |some p=>
  cases b with
  |none=>exact h.elim
  |some q=>exact GD (λz=>((zyC _ _).mp z).1) x h
def MW.meet2:∀x,MW F B G (meet a b) x->MW F B G b x:=λx h=>by
 cases a with
 |none=>cases b<;>exact h.elim
 |some p=>
  cases b with
  |none=>exact h.elim
  |some q=>exact GD ⋯ x h
theorem Vw.less{K O O'}(g:∀a,O' a->O a)(h:Vw K kd O H v d):Vw K kd O' H v d:=by
 cases h with
 |non=>exact .non
 |bl b=>exact .bl b
 |int i=>exact .int i
 |str x=>exact .str x
 |tup r s l=>exact .tup (r.less g) s (l.less g)
 |lst h l=>exact .lst h (l.less g)
 |dct h l=>exact .dct h (l.less g)
 |cl c=>exact .cl c
 |ob h k l=>exact .ob h k (l.less g)
def f2(fa fb:EF)(g:D->D->Option R0):EF:=λas=>(fa as).bind λp=>(fb p.2).bind λq=>(p.1.frz.view q.2).bind λx=>(q.1.frz.view q.2).bind λy=>(g x.1 y.1).bind λr=>(wrap (meet x.2 y.2) r).bind λz=>some (z,q.2)
def Dc{fa fb}{as as':AS}(h:f2 fa fb g as=some (rv,as')):
 ∃p as1 q x y lx ly r,fa as=some (p,as1)/\fb as1=some (q,as')/\p.frz.view as'=some (x,lx)/\q.frz.view as'=some (y,ly)/\g x y=some r/\wrap (meet lx ly) r=some rv:=by
 obtain⟨⟨p,as1⟩,h1,h⟩:=bS_ h;obtain⟨⟨q,as2⟩,h2,h⟩:=bS_ h;obtain⟨⟨x,lx⟩,h3,h⟩:=bS_ h;obtain⟨⟨y,ly⟩,h4,h⟩:=bS_ h;obtain⟨r,h5,h⟩:=bS_ h;obtain⟨z,h6,h⟩:=bS_ h;cases h;exact⟨p,as1,q,x,y,lx,ly,r,h1,h2,h3,h4,h5,h6⟩
section
variable{X:Cx}{kd:KD}{a b c:Expr}{fa fb fc:EF}{pos:Pos}
def fK(hr:∀x y H Q,(∃O d e r,(∀a,O a->H a≠none)/\Vw X.K kd O H x d/\Vw X.K kd O H y e/\g d e=some r/\RQ X.K kd O H Q r)->R2' x y H Q)
 (h:al X.K kd (f2 fa fb g) σ H Q):gO R2' (al X.K kd fa) (al X.K kd fb) σ H Q:=by
 obtain⟨F,B,ad,as,r,as',R,e,q⟩:=h;obtain⟨p,as1,z,x,y,lx,ly,r0,h1,h2,h3,h4,h5,h6⟩:=Dc e;refine YE R h1 λv ad1 H1 R1 rv1 g1=>YE R1 h2 λu ad2 H2 R2 rv2 g2=>hr _ _ _ _ ?_;exact⟨_,x,y,r0,R2.tr _,(wU.vw R2 (rv1.grow g2) h3).less MW.meet1,(wU.vw R2 rv2 h4).less MW.meet2,h5,Va R2 h6 λw T' H' R' rv' g'=>q w T' ad2 H' R' rv'<|(g1.trans g2).trans g'⟩
def lI(ho:kJ X kd (binaryOp op) g)(ha:AE X kd a fa)(hb':AE X kd b fb):AE X kd (.BinOp a op b pos) (f2 fa fb g):=by with_unfolding_all exact(yo (ig ho ha hb') λσ H Q h=>fK (λ_ _ _ _ z=>z) h)
def kq(ho:kJ X kd (compareOp op) g)(ha:AE X kd a fa)(hb':AE X kd b fb)(hm:behindInMarks op b=false):AE X kd (.Compare a [op] [b] pos) (f2 fa fb g):=by with_unfolding_all exact(yo (o6 ho ha hb' hm) λσ H Q h=>fK (λ_ _ _ _ z=>z) h)
def i9(ho:cA X kd g)(ha:AE X kd a fa)(hb':AE X kd b fb)(hm:Hz b):AE X kd (.Subscript a b pos) (f2 fa fb g):=by with_unfolding_all exact(yo (gK ho ha hb' hm) λσ H Q h=>fK (λ_ _ _ _ z=>z) h)
def fC(d:D):EF:=λas=>some (.ow<|.lf true d,as)
noncomputable def fV(i:Nat):EF:=λas=>match as[i]? with
 |some (some (.lf st d))=>some (.ow<|.lf st d,as)
 |some (some (.nd _ _))=>some (.bo i,as)
 |_=>none
def Od(h:PE X a (tC v))(hr:∀O H,Rp X.K kd O H v d):AE X kd a (fC d):=by with_unfolding_all exact(yo h λσ H Q h=>by
 obtain⟨F,B,ad,as,r,as',R,e,q⟩:=h;cases e;exact q v [] ad H R (.lf<|hr _ _) Grow.refl)
def jx{i:Nat}(h:PE X a (U0 i)):AE X kd a (fV i):=by with_unfolding_all exact(yo h λσ H Q h=>by
 obtain⟨F,B,ad,as,r,as',R,e,q⟩:=h;unfold fV at e;cases k:as[i]? with
 |none=>rw[k]at e;cases e
 |some s=>
  rw[k]at e;cases s with
  |none=>cases e
  |some o=>
   obtain⟨v,h1,h2⟩:=R.sl i _ k;cases o with
   |lf st d=>
    cases e;have e0:ad i=[]:=by
     generalize hfp:ad i=fp at h2;cases h2;rfl
    rw[e0]at h2;exact⟨v,h1,q v [] ad H R h2 Grow.refl⟩
   |nd kk os=>
    cases e;exact⟨_,h1,q _ [] ad H R ⟨rfl,h1⟩ Grow.refl⟩)
end
def Y8(ad:Ad)(i:Nat)(x:List Addr):Ad:=λj=>if j=i then x else ad j
section
variable{K:zzA}{kd:KD}{F B:Addr->Prop}{T T1 T2:List Addr}{ad ad1:Ad}{as as1:AS}{σ:St}{H H1:Hp}{v:V}{r:RV}{o:O}{i:Nat}
def ya:Y8 ad i x i=x:=if_pos rfl
def ye{j:Nat}(h:j≠i):Y8 ad i x j=ad j:=if_neg h
def Wf:∀a,Gw T (Y8 ad i []) a->Gw T ad a:=λa h=>by
 rcases h with h|⟨j,h⟩
 . exact .inl h
 . by_cases e:j=i
   . subst e;rw[ya]at h;cases h
   . rw[ye e]at h;exact .inr ⟨j,h⟩
def QB:∀a,Gw [] (Y8 ad i T) a->Gw T ad a:=λa h=>by
 rcases h with h|⟨j,h⟩
 . cases h
 . by_cases e:j=i
   . subst e;rw[ya]at h;exact .inl h
   . rw[ye e]at h;exact .inr ⟨j,h⟩
def Dd:∀st a,Lv F (λa=>B a\/a ∈ T) (Gw [] ad) st a->Lv F B (Gw T ad) st a:=λst a z=>by
 rcases z with(z|z|z)|z
 . exact .inl<|.inl z
 . exact .inl<|.inr z
 . exact .inr<|.inl z
 . exact .inr<|Gw.drop a z
def L9:∀st a,Lv F B (Gw (T1++T2) ad) st a->Lv F (λa=>B a\/a ∈ T1) (Gw T2 ad) st a:=λst a z=>by
 rcases z with(z|z)|z|z
 . exact .inl<|.inl z
 . exact .inl<|.inr<|.inl z
 . rcases zzM.mp z with z|z
   . exact .inl<|.inr<|.inr z
   . exact .inr<|.inl z
 . exact .inr<|.inr z
def Rel.hide(R:Rel K kd F B T ad as σ H):Rel K kd F (λa=>B a\/a ∈ T) [] ad as σ H where
 len:=R.len
 out:=R.out
 nd:=R.nd
 inj:=R.inj
 tnd:=zyJ
 dis:=λ_ _ _ z=>nomatch z
 ftr:=R.ftr
 btr:=λa h=>by
  rcases h with h|h
  . obtain⟨h1,h2,h3⟩:=R.btr a h;exact⟨h1,h2,λz=>h3<|Gw.drop a z⟩
  . exact⟨(R.gtr a<|.inl h).1,(R.gtr a<|.inl h).2,λz=>z.elim ⋯ λ⟨j,y⟩=>R.dis j a y h⟩
 gtr:=λa h=>R.gtr a (Gw.drop a h)
 sl:=λi s e=>(R.sl i s e).lv Dd
def Rel.unhide(hn:T1.Nodup)(hb:∀a ∈ T1,¬B a)(R:Rel K kd F (λa=>B a\/a ∈ T1) T2 ad as σ H):Rel K kd F B (T1++T2) ad as σ H where
 len:=R.len
 out:=R.out
 nd:=R.nd
 inj:=R.inj
 tnd:=zxD.mpr ⟨hn,R.tnd,λa m b m' e=>by subst e;exact(R.btr a<|.inr m).2.2<|.inl m'⟩
 dis:=λi a m z=>by
  rcases zzM.mp z with z|z
  . exact(R.btr a<|.inr z).2.2<|.inr ⟨i,m⟩
  . exact R.dis i a m z
 ftr:=R.ftr
 btr:=λa h=>by
  obtain⟨h1,h2,h3⟩:=R.btr a<|.inl h;refine⟨h1,h2,λz=>?_⟩
  rcases z with z|z
  . rcases zzM.mp z with z|z
    . exact hb a z h
    . exact h3<|.inl z
  . exact h3 (.inr z)
 gtr:=λa h=>by
  rcases h with h|h
  . rcases zzM.mp h with h|h
    . exact⟨(R.btr a<|.inr h).1,(R.btr a<|.inr h).2.1⟩
    . exact R.gtr a<|.inl h
  . exact R.gtr a (.inr h)
 sl:=λi s e=>(R.sl i s e).lv L9
theorem Rel.frz(R:Rel K kd F B T ad as σ H)(h:as[i]? = some (some o)):
 Rel K kd F B T (Y8 ad i []) (as.set i<|some o.frz) σ H/\∃v,σ[i]? = some (some v)/\Rp K kd (Lv F B (Gw T<|Y8 ad i []) o.str) H v o.toD:=by
 obtain⟨v,hv,ro⟩:=R.sl i _ h;have rp:Rp K kd (Lv F B (Gw T<|Y8 ad i []) o.str) H v o.toD:=
  Ro.rp o.str (λst v d hs r=>r.less λa z=>z.elim (λy=>.inl<|y.elim (λx=>.inl ⟨hs x.1,x.2⟩) .inr) λy=>.inr<|Wf a y)
   (λa n z=>n<|z.elim (λy=>.inl<|y.elim (λx=>.inl ⟨rfl,x.2⟩) .inr) λy=>.inr<|Wf a y) id
   (λa m z=>by
    rcases z with(z|z)|z|⟨j,z⟩
    . exact(R.gtr a<|.inr ⟨i,m⟩).2 z.2
    . exact(R.btr a z).2.2<|.inr ⟨i,m⟩
    . exact R.dis i a m z
    . by_cases e:j=i
      . subst e;rw[ya]at z;cases z
      . rw[ye e]at z;exact e<|R.inj j i a z m) ro
 have hi:=(zzG.mp h).1;refine⟨⟨by rw[zzU];exact R.len,λj hj=>?_,λj=>?_,λj k a h1 h2=>?_,R.tnd,λj a h1=>?_,R.ftr,λa h1=>?_,λa h1=>R.gtr a<|Wf a h1,λj s e=>?_⟩,v,hv,rp⟩
 . rw[zzU]at hj;rw[ye ⋯];exact R.out j hj
 . by_cases e:j=i
   . subst e;rw[ya];exact zyJ
   . rw[ye e];exact R.nd j
 . by_cases e:j=i
   . subst e;rw[ya]at h1;cases h1
   . by_cases e':k=i
     . subst e';rw[ya]at h2;cases h2
     . rw[ye e]at h1;rw[ye e']at h2;exact R.inj j k a h1 h2
 . by_cases e:j=i
   . subst e;rw[ya]at h1;cases h1
   . rw[ye e]at h1;exact R.dis j a h1
 . obtain⟨b1,b2,b3⟩:=R.btr a h1;exact⟨b1,b2,λz=>b3<|Wf a z⟩
 . by_cases q:j=i
   . subst q;rw[zyK hi]at e;cases e;rw[ya];exact⟨v,hv,.lf rp⟩
   . rw[zzY<|Ne.symm q]at e;rw[ye q];exact(R.sl j s e).less Wf
def Rel.put(R:Rel K kd F B T ad as σ H)(hi:i<as.length)(h:Xy K kd F B (Gw T ad) H v o T):Rel K kd F B [] (Y8 ad i T) (as.set i<|some o) (σ.set i<|some v) H:=by
 have hi':i<σ.length:=by rwa [<-R.len]
 refine⟨by rw[zzU,zzU];exact R.len,λj hj=>?_,λj=>?_,λj k a h1 h2=>?_,zyJ,(λ_ _ _ z=>nomatch z),R.ftr,λa h1=>?_,λa h1=>R.gtr a<|QB a h1,λj s e=>?_⟩
 . rw[zzU]at hj;rw[ye ⋯];exact R.out j hj
 . by_cases e:j=i
   . subst e;rw[ya];exact R.tnd
   . rw[ye e];exact R.nd j
 . by_cases e:j=i
   . subst e;rw[ya]at h1
     by_cases e':k=j
     . exact e'.symm
     . rw[ye e']at h2;exact(R.dis k a h2 h1).elim
   . rw[ye e]at h1
     by_cases e':k=i
     . subst e';rw[ya]at h2;exact(R.dis j a h1 h2).elim
     . rw[ye e']at h2;exact R.inj j k a h1 h2
 . obtain⟨b1,b2,b3⟩:=R.btr a h1;exact⟨b1,b2,λz=>b3<|QB a z⟩
 . by_cases q:j=i
   . subst q;rw[zyK hi]at e;cases e;rw[ya,zyK hi'];exact⟨v,rfl,h.less QB⟩
   . rw[zzY<|Ne.symm q]at e;rw[ye q,zzY<|Ne.symm q];exact(R.sl j s e).less QB
def jZ(as:AS):RV->Option (O×AS)
 | .ow o=>some (o,as)
 | .bo i=>match as[i]? with
  |some (some o)=>some (o.frz,as.set i<|some o.frz)
  |_=>none
def En(R:Rel K kd F B T ad as σ H)(h:wU K kd F B T ad σ H v r)(e:jZ as r=some (o,as')):∃ad',Rel K kd F B T ad' as' σ H/\Xy K kd F B (Gw T ad') H v o T/\∀a,Gw T ad' a->Gw T ad a:=by
 cases r with
 |ow o'=>cases e;exact⟨ad,R,h,λ_ z=>z⟩
 |bo i=>
  have e:(match as[i]? with|some (some o)=>some _|_=>none)=some _:=e;cases k:as[i]? with
  |none=>rw[k]at e;cases e
  |some s=>
   cases s with
   |none=>rw[k]at e;cases e
   |some o1=>
    rw[k]at e;cases e;obtain⟨hT,hs⟩:=h;subst hT;obtain⟨R',w,hw,rp⟩:=R.frz k;rw[hs]at hw;cases hw;exact⟨_,R',.lf rp,Wf⟩
end
abbrev TF:=AS->Option (Bool×AS)
def qK(K:zzA)(kd:KD)(f:TF):TT:=λσ H Q=>∃F B ad as b as',Rel K kd F B [] ad as σ H/\f as=some (b,as')/\
 ∀ad' H',Rel K kd F B [] ad' as' σ H'->Grow (Gw [] ad) H (Gw [] ad') H'->Q b H'
@[irreducible] def AT(X:Cx)(kd:KD)(e:Expr)(f:TF):Prop:=PT X e<|qK X.K kd f
@[irreducible] def AW(X:Cx)(kd:KD)(e:Expr)(f:TF):Prop:=PW X e<|qK X.K kd f
def truth:D->Option Bool
 | .non=>some false
 | .bl b=>some b
 | .int i=>some<|i != 0
 | .str x=>if x.length<=sizeLine then some ((x.length:Int) != 0)else none
 | .tup ds=>some<|!ds.isEmpty
 | .lst ds=>some (!ds.isEmpty)
 |_=>none
def fT(f:EF):TF:=λas=>(f as).bind λp=>(p.1.frz.view p.2).bind λx=>(truth x.1).bind λb=>some (b,p.2)
def Za(f g:TF):TF:=λas=>(f as).bind λp=>if p.1=true then g p.2 else some (false,p.2)
def Rg(f g:TF):TF:=λas=>(f as).bind λp=>if p.1=true then some (true,p.2)else g p.2
def y_(f:TF):TF:=λas=>(f as).bind λp=>some (!p.1,p.2)
def Jn(c:TF)(f g:EF):EF:=λas=>(c as).bind λp=>if p.1=true then f p.2 else g p.2
def Jj:D->Option Int
 | .int i=>some i
 |_=>none
def dW:D->Option Str
 | .str i=>some i
 |_=>none
def hV:D->Option (List D)
 | .lst i=>some i
 |_=>none
def cn:D->Option (List D)
 | .tup i=>some i
 |_=>none
def OW(e:hV d=some i):d = .lst i:=by
 cases d with
 |lst j=>cases e;rfl
 |_=>cases e
def m9(e:cn d=some i):d = .tup i:=by
 cases d with
 |tup j=>cases e;rfl
 |_=>cases e
def Js(h:Jj d=some c):d = .int c:=by
 cases d with
 |int i=>cases h;rfl
 |_=>cases h
def cy:D->Option Bool
 | .bl i=>some i
 |_=>none
def jo(h:cy d=some c):d = .bl c:=by
 cases d with
 |bl i=>cases h;rfl
 |_=>cases h
def ey:RV->Option D
 | .ow (.lf _ d)=>some d
 |_=>none
def qe(h:ey r=some d):∃st,r = .ow (.lf st d):=by
 cases r with
 |bo i=>cases h
 |ow o=>
  cases o with
  |nd k os=>cases h
  |lf st d=>cases h;exact⟨st,rfl⟩
def fM(r:RV):Option Bool:=(ey r).bind cy
def Ac(h:fM r=some c):∃st,r = .ow (.lf st<|.bl c):=by
 obtain⟨d,h1,h⟩:=bS_ h;cases jo h;exact qe h1
def cx(r:RV):Option Int:=(ey r).bind Jj
def k6(h:cx r=some c):∃st,r = .ow (.lf st<|.int c):=by
 obtain⟨d,h1,h⟩:=bS_ h;cases Js h;exact qe h1
def iB{α:Type}:List α->Option (α×α)
 | [a,b]=>some (a,b)
 |_=>none
def Dt{α:Type}{os}{p:α×α}(h:iB os=some p):os=[p.1,p.2]:=by
 cases os with
 |nil=>cases h
 |cons x r=>
  cases r with
  |nil=>cases h
  |cons y r=>
   cases r with
   |nil=>cases h;rfl
   |cons _ _=>cases h
def G0(f g:EF):EF:=λas=>(f as).bind λp=>(fM p.1).bind λc=>if c=true then g p.2 else some (.ow<|.lf true<|.bl false,p.2)
def jY(f g:EF):EF:=λas=>(f as).bind λp=>(fM p.1).bind λc=>if c=true then some (.ow<|.lf true<|.bl true,p.2)else g p.2
def D8(f:EF):EF:=λas=>(f as).bind λp=>(fM p.1).bind λc=>some (.ow<|.lf true<|.bl<|!c,p.2)
def f1(fa:EF)(g:D->Option R0):EF:=λas=>(fa as).bind λp=>(p.1.frz.view p.2).bind λx=>(g x.1).bind λr=>(wrap x.2 r).bind λz=>some (z,p.2)
section
variable{X:Cx}{kd:KD}{a b c:Expr}{fa fb:EF}{ta tb:TF}{pos:Pos}{es rest:List Expr}
def JM(h:PT X e t)(k:∀σ H Q,t' σ H Q->t σ H Q):PT X e t':=λpins s σ H Q I q=>h pins s σ H Q I<|k σ H Q q
def qD(h:PW X e t)(k:∀σ H Q,t' σ H Q->t σ H Q):PW X e t':=λw pins s σ H Q I q=>h w pins s σ H Q I<|k σ H Q q
def lY{O}(h:Vw X.K kd O H v d)(e:truth d=some k):k_ X.K v H k:=by
 cases h with
 |non=>cases e;rfl
 |bl b=>cases e;rfl
 |int i=>cases e;rfl
 |str x=>
  have e:(if x.length<=sizeLine then some _ else none)=some k:=e
  by_cases hl:x.length<=sizeLine
  . rw[if_pos hl]at e;cases e;exact⟨hl,rfl⟩
  . rw[if_neg hl]at e;cases e
 |tup r hs hr=>
  cases e;refine .inr<|.inl ⟨_,hs, ?_⟩;cases hr<;>rfl
 |lst hs hr=>
  cases e;refine .inl ⟨_,hs.sq, ?_⟩;cases hr<;>rfl
 |dct=>cases e
 |cl=>cases e
 |ob=>cases e
def QM(ha:AE X kd a fa)(he:∀whole,isTrue a X.env whole=(do let v <-whole;standAt a.pos;holding [v] (truthy v))):AT X kd a (fT fa):=by with_unfolding_all exact(JM (rf ha he) λσ H Q h=>by
 obtain⟨F,B,ad,as,bb,as',R,e,q⟩:=h;obtain⟨_,h1,e⟩:=bS_<|e;obtain⟨_,h2,e⟩:=bS_ e;obtain⟨k,h3,e⟩:=bS_ e;cases e;exact YE R h1 λv ad1 H1 R1 rv1 g1=>⟨_,lY (wU.vw R1 rv1 h2) h3,q ad1 H1 R1 g1⟩)
def lb(ho:kJ X kd (compareOp op) g)(hg:∀x y r,g x y=some r->∃k,r = .im (.bl k))(ha:AE X kd a fa)(hb:AE X kd b fb)(hm:behindInMarks op b=false):
 AT X kd (.Compare a [op] [b] pos) (fT<|f2 fa fb g):=by with_unfolding_all exact(JM (qT ho ha hb hm) λσ H Q h=>by
 obtain⟨F,B,ad,as,bb,as',R,e,q⟩:=h;obtain⟨⟨p,as1⟩,h1,e⟩:=bS_<|e;obtain⟨_,h2,e⟩:=bS_ e;obtain⟨k,h3,e⟩:=bS_ e;cases e;obtain⟨_,_,_,x,y,_,_,r0,_,_,_,_,hp,hw⟩:=Dc h1;obtain⟨k',rfl⟩:=hg _ _ _ hp;cases hw;cases h2;cases h3;refine fK (λ_ _ _ _ z=>z) ⟨F,B,ad,as,_,_,R,h1,λv T' ad' H' R' rv g'=>?_⟩;cases rv with
 |lf rp=>
  cases rp;exact⟨_,rfl,q ad' H' R' g'⟩)
def RF(ha:AT X kd a ta):AT X kd (.UnaryOp .Not a pos) (y_ ta):=by with_unfolding_all exact(JM (lh ha) λσ H Q h=>by
 obtain⟨F,B,ad,as,bb,as',R,e,q⟩:=h;obtain⟨⟨p,as1⟩,h1,e⟩:=bS_<|e;cases e;exact⟨F,B,ad,as,p,_,R,h1,λad' H' R' g=>q ad' H' R' g⟩)
def QO(ha:AT X kd a ta):AW X kd (.BoolOp .And [a] pos) ta:=by with_unfolding_all exact(pf ha)
def uQ(ha:AT X kd a ta):AW X kd (.BoolOp .Or [a] pos) ta:=by with_unfolding_all exact(kN ha)
def FF(ha:AT X kd a ta)(hb:AW X kd (.BoolOp .And (b::rest) pos) tb):AW X kd (.BoolOp .And (a::b::rest) pos) (Za ta tb):=by with_unfolding_all exact(qD (jr ha hb) λσ H Q h=>by
 obtain⟨F,B,ad,as,bb,as',R,e,q⟩:=h;obtain⟨⟨p,as1⟩,h1,e⟩:=bS_<|e;refine⟨F,B,ad,as,p,as1,R,h1,λad' H' R' g=>?_⟩;cases p with
 |true=>exact⟨F,B,ad',as1,bb,as',R',e,λad2 H2 R2 g2=>q ad2 H2 R2<|g.trans g2⟩
 |false=>cases e;exact q ad' H' R' g)
def gq(ha:AT X kd a ta)(hb:AW X kd (.BoolOp .Or (b::rest) pos) tb):AW X kd (.BoolOp .Or (a::b::rest) pos) (Rg ta tb):=by with_unfolding_all exact(qD (gi ha hb) λσ H Q h=>by
 obtain⟨F,B,ad,as,bb,as',R,e,q⟩:=h;obtain⟨⟨p,as1⟩,h1,e⟩:=bS_<|e;refine⟨F,B,ad,as,p,as1,R,h1,λad' H' R' g=>?_⟩;cases p with
 |false=>exact⟨F,B,ad',as1,bb,as',R',e,λad2 H2 R2 g2=>q ad2 H2 R2<|g.trans g2⟩
 |true=>cases e;exact q ad' H' R' g)
def AW.at_(h:AW X kd e ta):AT X kd e ta:=by with_unfolding_all exact(PW.pt h)
def CO(hc:AT X kd c ta)(ha:AE X kd a fa)(hb:AE X kd b fb):AE X kd (.IfExp c a b pos) (Jn ta fa fb):=by with_unfolding_all exact(yo (sG hc ha hb) λσ H Q h=>by
 obtain⟨F,B,ad,as,r,as',R,e,q⟩:=h;obtain⟨⟨p,as1⟩,h1,e⟩:=bS_<|e;refine⟨F,B,ad,as,p,as1,R,h1,λad' H' R' g=>?_⟩;cases p with
 |true=>exact⟨F,B,ad',as1,r,as',R',e,λv T2 ad2 H2 R2 rv g2=>q v T2 ad2 H2 R2 rv<|g.trans g2⟩
 |false=>exact⟨F,B,ad',as1,r,as',R',e,λv T2 ad2 H2 R2 rv g2=>q v T2 ad2 H2 R2 rv<|g.trans g2⟩)
def tI{K ad st c}(h:wU K kd F B T ad σ H v (.ow<|.lf st<|.bl c)):T=[]/\v = .bl c:=by
 cases h with
 |lf rp=>cases rp;exact ⋯
def Fy(ha:AE X kd a fa):AE X kd (.BoolOp op [a] pos) fa:=by with_unfolding_all exact ⋯
def O6(ha:AE X kd a fa)(hb:AE X kd (.BoolOp .And (b::rest) pos) fb):AE X kd (.BoolOp .And (a::b::rest) pos) (G0 fa fb):=by with_unfolding_all exact(yo (js ha hb) λσ H Q h=>by
 obtain⟨F,B,ad,as,r,as',R,e,q⟩:=h;obtain⟨⟨p,as1⟩,h1,e⟩:=bS_<|e;refine⟨F,B,ad,as,p,as1,R,h1,λv T' ad' H' R' rv g=>?_⟩;obtain⟨k,e1,e⟩:=bS_ e;obtain⟨st,rfl⟩:=Ac e1;obtain⟨rfl,rfl⟩:=tI rv;cases k with
 |true=>exact⟨true,rfl,⟨F,B,ad',as1,r,as',R',e,λv T2 ad2 H2 R2 rv g2=>q v T2 ad2 H2 R2 rv<|g.trans g2⟩⟩
 |false=>
  cases e;exact⟨false,rfl,q _ [] ad' H' R' (.lf<|.bl false) g⟩)
def mW(ha:AE X kd a fa)(hb:AE X kd (.BoolOp .Or (b::rest) pos) fb):AE X kd (.BoolOp .Or (a::b::rest) pos) (jY fa fb):=by with_unfolding_all exact(yo (iP ha hb) λσ H Q h=>by
 obtain⟨F,B,ad,as,r,as',R,e,q⟩:=h;obtain⟨⟨p,as1⟩,h1,e⟩:=bS_<|e;refine⟨F,B,ad,as,p,as1,R,h1,λv T' ad' H' R' rv g=>?_⟩;obtain⟨k,e1,e⟩:=bS_ e;obtain⟨st,rfl⟩:=Ac e1;obtain⟨rfl,rfl⟩:=tI rv;cases k with
 |false=>exact⟨false,rfl,⟨F,B,ad',as1,r,as',R',e,λv T2 ad2 H2 R2 rv g2=>q v T2 ad2 H2 R2 rv<|g.trans g2⟩⟩
 |true=>
  cases e;exact⟨true,rfl,q _ [] ad' H' R' (.lf<|.bl true) g⟩)
def jL(ha:AE X kd a fa):AE X kd (.UnaryOp .Not a pos) (D8 fa):=by with_unfolding_all exact(yo (m8 ha) λσ H Q h=>by
 obtain⟨F,B,ad,as,r,as',R,e,q⟩:=h;obtain⟨⟨p,as1⟩,h1,e⟩:=bS_<|e;refine⟨F,B,ad,as,p,as1,R,h1,λv T' ad' H' R' rv g=>?_⟩;obtain⟨k,e1,e⟩:=bS_ e;obtain⟨st,rfl⟩:=Ac e1;obtain⟨rfl,rfl⟩:=tI rv;cases e;exact⟨k,rfl,q _ [] ad' H' R' (.lf<|.bl _) g⟩)
def iD(ho:cj X kd (unaryOp op) g)(ha:AE X kd a fa):AE X kd (.UnaryOp op a pos) (f1 fa g):=by with_unfolding_all exact(yo (iZ ho ha) λσ H Q h=>by
 obtain⟨F,B,ad,as,r,as',R,e,q⟩:=h;obtain⟨_,h1,e⟩:=bS_<|e;obtain⟨⟨x,lv⟩,h2,e⟩:=bS_ e;obtain⟨z,h3,e⟩:=bS_ e;obtain⟨y,h4,e⟩:=bS_ e;cases e;refine YE R h1 λv ad1 H1 R1 rv1 g1=>⟨_,x,z,R1.tr _,wU.vw R1 rv1 h2,h3,Va R1 h4 λw T' H' R' rv' g'=>q w T' ad1 H' R' rv'<|g1.trans g'⟩)
end
abbrev AF:=AS->Option (List RV×AS)
inductive RVs(K:zzA)(kd:KD)(F B:Addr->Prop)(ad:Ad)(σ:St)(H:Hp):List V->List RV->Prop
 |nil:RVs K kd F B ad σ H [] []
 |cons {v:V}{r:RV}{vs:List V}{rs:List RV}:wU K kd F B [] ad σ H v r->RVs K kd F B ad σ H vs rs->RVs K kd F B ad σ H (v::vs) (r::rs)
def mB(K:zzA)(kd:KD)(f:AF):TA:=λσ H Q=>∃F B ad as rs as',Rel K kd F B [] ad as σ H/\f as=some (rs,as')/\
 ∀vs ad' H',Rel K kd F B [] ad' as' σ H'->RVs K kd F B ad' σ H' vs rs->Grow (Gw [] ad) H (Gw [] ad') H'->Q vs H'
@[irreducible] def AA(X:Cx)(kd:KD)(es:List Expr)(f:AF):Prop:=PA X es<|mB X.K kd f
def aN:AF:=λas=>some ([],as)
def aC(fa:EF)(fr:AF):AF:=λas=>(fa as).bind λp=>(fr p.2).bind λq=>some (p.1.frz::q.1,q.2)
def Hr(h:PA X e t)(k:∀σ H Q,t' σ H Q->t σ H Q):PA X e t':=λpos pins s σ H Q I q=>h pos pins s σ H Q I<|k σ H Q q
abbrev DF:=AS->Option (List O×AS)
def cg(K:zzA)(kd:KD)(f:DF):TA:=λσ H Q=>∃F B ad as os as',Rel K kd F B [] ad as σ H/\f as=some (os,as')/\
 ∀vs T' ad' H',Rel K kd F B T' ad' as' σ H'->ZN K kd F B (Gw T' ad') H' vs os T'->Grow (Gw [] ad) H (Gw T' ad') H'->Q vs H'
@[irreducible] def AD(X:Cx)(kd:KD)(es:List Expr)(f:DF):Prop:=PA X es<|cg X.K kd f
def dN:DF:=λas=>some ([],as)
def dC(fa:EF)(fr:DF):DF:=λas=>(fa as).bind λp=>(jZ p.2 p.1).bind λx=>(fr x.2).bind λq=>some (x.1::q.1,q.2)
def views(as:AS):List RV->Option (List D×Option Bool)
 | []=>some ([],some true)
 |r::rs=>(r.view as).bind λx=>(views as rs).bind λy=>some (x.1::y.1,meet x.2 y.2)
def fP(fr:AF)(g:List D->Option R0):EF:=λas=>(fr as).bind λp=>(views p.2 p.1).bind λx=>(g x.1).bind λr=>(wrap x.2 r).bind λz=>some (z,p.2)
def fz(as:AS):RV->Option (Bool×D)
 | .ow o=>some (zu o.toD||o.str,o.toD)
 | .bo i=>match as[i]? with
  |some (some o)=>some (false,o.toD)
  |_=>none
def Xh(as:AS):List RV->Option (List<|Bool×D)
 | []=>some []
 |r::rs=>(fz as r).bind λx=>(Xh as rs).bind λy=>some (x::y)
def zd(fr:AF)(g:List (Bool×D)->Option O):EF:=λas=>(fr as).bind λp=>(Xh p.2 p.1).bind λx=>(g x).bind λo=>some (.ow o,p.2)
def e_(K:zzA)(kd:KD)(F:Addr->Prop)(H:Hp)(Q:VK)(o:O):Prop:=
 ∀v T H',T.Nodup->(∀a ∈ T,H a=none)->(∀b u,H b=some u->H' b=some u)->(∀a ∈ T,H' a≠none)->Ro (λ_ v d=>Rp K kd (TB F (· ∈ T)) H' v d) (λa=>¬TB F (· ∈ T) a) H' v o T->Q v H'
inductive RpA(K:zzA)(kd:KD)(F:Addr->Prop)(H:Hp):List V->List (Bool×D)->Prop
 |nil:RpA K kd F H [] []
 |cons {v:V}{st:Bool}{d:D}{vs:List V}{ds:List (Bool×D)}:Rp K kd (λa=>st=true/\F a) H v d->RpA K kd F H vs ds->RpA K kd F H (v::vs) ((st,d)::ds)
def VT(K:zzA)(kd:KD)(g:List (Bool×D)->Option O):Sp:=λvs H Q _=>∃F ds o,(∀a,F a->H a≠none)/\RpA K kd F H vs ds/\g ds=some o/\e_ K kd F H Q o
def Np(os:List O):O:=if os.all O.isLf=true then .lf (O.strs os) (.tup<|O.toDs os)else .nd .tp os
def Ze(fr:DF):EF:=λas=>(fr as).bind λp=>if p.1.length<=sizeLine then some (.ow<|Np p.1,p.2)else none
def x9(fr:DF):EF:=λas=>(fr as).bind λp=>if p.1.length<=sizeLine then some (.ow<|.nd .ls p.1,p.2)else none
section
variable{X:Cx}{kd:KD}{a b c:Expr}{fa fb:EF}{ta tb:TF}{pos:Pos}{es rest:List Expr}{fr:AF}{fd:DF}
theorem RpA.length{K}(h:RpA K kd F H vs ds):vs.length=ds.length:=by
 induction h with
 |nil=>rfl
 |cons _ _ ih=>exact congrArg _ ih
def zg:AA X kd [] aN:=by with_unfolding_all exact(Hr LH λσ H Q h=>by
 obtain⟨F,B,ad,as,rs,as',R,e,q⟩:=h;cases e;exact q [] ad H R .nil Grow.refl)
def oX(ha:AE X kd a fa)(hr:AA X kd es fr)(hs:starEach (a::es) X.env=(false,eval a X.env)::starEach es X.env):AA X kd (a::es) (aC fa fr):=by with_unfolding_all exact(Hr (Q4 ha hr hs) λσ H Q h=>by
 obtain⟨F,B,ad,as,rs,as',R,e,q⟩:=h;obtain⟨⟨p,as1⟩,h1,e⟩:=bS_<|e;obtain⟨⟨z,as2⟩,h2,e⟩:=bS_ e;cases e;refine YE R h1 λv ad1 H1 R1 rv1 g1=>⟨F,B,ad1,as1,z,_,R1,h2,λvs ad2 H2 R2 rv2 g2=>?_⟩;exact q _ ad2 H2 R2 (.cons (rv1.grow g2) rv2)<|g1.trans g2)
def yx:AD X kd [] dN:=by with_unfolding_all exact(Hr LH λσ H Q h=>by
 obtain⟨F,B,ad,as,rs,as',R,e,q⟩:=h;cases e;exact q [] [] ad H R .nil Grow.refl)
def p7(ha:AE X kd a fa)(hr:AD X kd es fd)(hs:starEach (a::es) X.env=(false,eval a X.env)::starEach es X.env):AD X kd (a::es) (dC fa fd):=by with_unfolding_all exact(Hr (Q4 ha hr hs) λσ H Q h=>by
 obtain⟨F,B,ad,as,rs,as',R,e,q⟩:=h;obtain⟨⟨p,as1⟩,h1,e⟩:=bS_<|e;obtain⟨⟨o,as2⟩,h2,e⟩:=bS_ e;obtain⟨⟨os,as3⟩,h3,e⟩:=bS_ e;cases e;refine⟨F,B,ad,as,p,as1,R,h1,λv T1 ad1 H1 R1 rv1 g1=>?_⟩;obtain⟨ad2,R2,ro2,le2⟩:=En R1 rv1 h2;refine⟨F,_,ad2,as2,os,_,R2.hide,h3,λvs T3 ad3 H3 R3 ro3 g3=>?_⟩;have kT:=λa m u e=>g3.keep a u e λz=>z.elim ⋯ λ⟨i,y⟩=>R2.dis i a y m;have r1:=Xy.lv L9<|Xy.grow g3 kT<|Xy.lv Dd ro2;have r3:=ZN.lv L9 ro3;refine q _ _ ad3 H3 (R3.unhide R2.tnd λa m z=>(R2.btr a z).2.2<|.inl m) (.cons r1 r3)<|(g1.trans<|Grow.less le2).trans ⟨λb u e n=>g3.keep b u e λz=>n<|Gw.drop b z,λb z=>?_⟩
 rcases z with z|z
 . rcases zzM.mp z with z|z
   . exact .inl<|.inl z
   . exact(g3.own b<|.inl z).elim (λy=>.inl<|Gw.drop b y) .inr
 . exact(g3.own b<|.inr z).elim (λy=>.inl<|Gw.drop b y) .inr)
def ZH(h:AD X kd es fd):AE X kd (.Tuple es x1 pos) (Ze fd):=by with_unfolding_all exact(yo (kz h) λσ H Q h=>by
 obtain⟨F,B,ad,as,r,as',R,e,q⟩:=h;obtain⟨⟨os,as1⟩,h1,e⟩:=bS_<|e;obtain⟨hz,e⟩:=zy e;cases e;refine⟨F,B,ad,as,os,_,R,h1,λvs T1 ad1 H1 R1 ro1 g1=>⟨by rw[ro1.length];exact hz,λp hp=>?_⟩⟩;have k:∀b o,H1 b=some o->upd H1 p (.tup vs) b=some o:=λb o hb=>by rwa [zK<|yg hb hp]
 obtain⟨R2,g2⟩:=R1.more k;have ro2:=ZN.grow g2 (λa _ u h=>k a u h) ro1;have np:=λst z=>R1.trk st p z hp;refine q _ T1 ad1 _ R2 ?_<|g1.trans g2;unfold Np
 by_cases hl:os.all O.isLf=true
 . rw[if_pos hl];have:=rZ ro2 hl;subst this;exact .lf<|.tup (np _) (.inl yd)<|L5 ro2 hl
 . rw[if_neg hl];exact .tp (np _) yd ro2)
def vO(h:AD X kd es fd):AE X kd (.List es pos) (x9 fd):=by with_unfolding_all exact(yo (ke h) λσ H Q h=>by
 obtain⟨F,B,ad,as,r,as',R,e,q⟩:=h;obtain⟨⟨os,as1⟩,h1,e⟩:=bS_<|e;obtain⟨hz,e⟩:=zy e;cases e;refine⟨F,B,ad,as,os,_,R,h1,λvs T1 ad1 H1 R1 ro1 g1=>⟨by rw[ro1.length];exact hz,λp hp=>?_⟩⟩;have k:∀b o,H1 b=some o->upd H1 p (.lst vs) b=some o:=λb o hb=>by rwa [zK<|yg hb hp]
 obtain⟨R2,g2⟩:=R1.add (N:=[p]) ⋯ (λa m=>by rwa [zzR.mp m]) k (λa m=>by rw[zzR.mp m,yd];simp);exact q _ _ ad1 _ R2 (.ls yd<|ZN.grow g2 (λa _ u h=>k a u h) ro1)<|g1.trans g2)
theorem VwL.less{K O O'}(g:∀a,O' a->O a)(h:VwL K kd O H vs ds):VwL K kd O' H vs ds:=by
 induction h with
 |nil=>exact .nil
 |cons h _ ih=>exact .cons (h.less g) ih
def KS{K ad}(R:Rel K kd F B [] ad as σ H)(h:RVs K kd F B ad σ H vs rs)(e:views as rs=some (ds,lv)):VwL K kd (MW F B (Gw [] ad) lv) H vs ds:=by
 induction h generalizing ds lv with
 |nil=>cases e;exact .nil
 |cons h t ih=>
  obtain⟨_,h1,e⟩:=bS_<|e;obtain⟨_,h2,e⟩:=bS_ e;cases e;exact .cons ((wU.vw R h h1).less MW.meet1)<|(ih h2).less MW.meet2
def dU{R':List V->Hp->VK->Prop}(hr:∀vs H Q,(∃O ds r,(∀a,O a->H a≠none)/\VwL X.K kd O H vs ds/\g ds=some r/\RQ X.K kd O H Q r)->R' vs H Q)
 (h:al X.K kd (fP fr g) σ H Q):mB X.K kd fr σ H λvs H1=>R' vs H1 Q:=by
 obtain⟨F,B,ad,as,r,as',R,e,q⟩:=h;obtain⟨⟨p,as1⟩,h1,e⟩:=bS_<|e;obtain⟨⟨ds,lv⟩,h2,e⟩:=bS_ e;obtain⟨z,h3,e⟩:=bS_ e;obtain⟨y,h4,e⟩:=bS_ e;cases e;exact⟨F,B,ad,as,p,_,R,h1,λvs ad1 H1 R1 rv1 g1=>hr _ _ _ ⟨_,ds,z,R1.tr _,KS R1 rv1 h2,h3,Va R1 h4 λw T' H' R' rv' g'=>q w T' ad1 H' R' rv'<|g1.trans g'⟩⟩
def MY{K ad}(R:Rel K kd F B [] ad as σ H)(h:RVs K kd F B ad σ H vs rs)(e:Xh as rs=some ds):RpA K kd (Lv F B (Gw [] ad) true) H vs ds:=by
 induction h generalizing ds with
 |nil=>cases e;exact .nil
 |cons h t ih=>
  rename_i v r vs rs;obtain⟨_,h1,e⟩:=bS_<|e;obtain⟨ds,h2,e⟩:=bS_ e;cases e;refine .cons ?_<|ih h2;cases r with
  |ow o=>
   cases h1;cases hf:zu o.toD with
   |true=>exact(Bn h).flat hf
   |false=>
    refine(Eg h).less λa z=>?_;have zs:o.str=true:=z.1;rw[zs];exact z.2
  |bo i=>
   have e:(match as[i]? with|some (some o)=>some _|_=>none)=some _:=h1;cases k:as[i]? with
   |none=>rw[k]at e;cases e
   |some s=>
    cases s with
    |none=>rw[k]at e;cases e
    |some o=>
     rw[k]at e;cases e;obtain⟨w,hw,ro⟩:=R.sl i _ k;rw[h.2]at hw;cases hw;exact(Bn ro).less λa z=>nomatch z.1
def Ag{K ad}(R:Rel K kd F B [] ad as σ H)(q:∀v T' H',Rel K kd F B T' ad as σ H'->wU K kd F B T' ad σ H' v (.ow o)->Grow (Gw [] ad) H (Gw T' ad) H'->Q v H'):
 e_ K kd (Lv F B (Gw [] ad) true) H Q o:=λv T H' hn hl k h1 ro=>by
 obtain⟨R',g⟩:=R.news hn hl k h1;have le:∀st a,Lv F B (Gw T ad) st a->TB (Lv F B (Gw [] ad) true) _ a:=λst a z=>by
  rcases z with(z|z)|z|z
  . exact .inl<|.inl<|.inl ⟨rfl,z.2⟩
  . exact .inl<|.inl<|.inr z
  . exact .inr z
  . exact .inl<|.inr<|.inr z
 exact q v T H' R' (Ro.mono (λst v d r=>r.less<|le st) (λa vs n e=>⟨λz=>n<|le true a z,e⟩) (λ_ _ _ e=>e) ro) g
def jK(h:al X.K kd (zd fr g) σ H Q):tu (VT X.K kd g) [] E (mB X.K kd fr) σ H Q:=by
 obtain⟨F,B,ad,as,r,as',R,e,q⟩:=h;obtain⟨⟨p,as1⟩,h1,e⟩:=bS_<|e;obtain⟨ds,h2,e⟩:=bS_ e;obtain⟨o,h3,e⟩:=bS_ e;cases e;refine⟨F,B,ad,as,p,_,R,h1,λvs ad1 H1 R1 rv1 g1=>?_⟩;show VT X.K kd g _ H1 Q E;rw[zyE];exact⟨_,ds,o,R1.trk true,MY R1 rv1 h2,h3,Ag R1 λw T' H' R' rv' g'=>q w T' ad1 H' R' rv'<|g1.trans g'⟩
end
inductive Out where
 |nx (as:AS)|rt (o:O)|bk (as:AS)|ct (as:AS)
abbrev SF:=AS->Option Out
structure RetOk(K:zzA)(kd:KD)(F:Addr->Prop)(T:List Addr)(H:Hp)(v:V)(o:O):Prop where
 nd:T.Nodup
 tr:∀a ∈ T,H a≠none
 ro:Ro (λ_ v d=>Rp K kd (TB F (· ∈ T)) H v d) (λa=>¬TB F (· ∈ T) a) H v o T
def DS(K:zzA)(kd:KD)(F B:Addr->Prop)(ad:Ad)(H:Hp)(D:Ends):Out->Prop
 | .nx as'=>∀σ' ad' H',Rel K kd F B [] ad' as' σ' H'->Grow (Gw [] ad) H (Gw [] ad') H'->D.nx σ' H'
 | .bk as'=>∀σ' ad' H',Rel K kd F B [] ad' as' σ' H'->Grow (Gw [] ad) H (Gw [] ad') H'->D.bk σ' H'
 | .ct as'=>∀σ' ad' H',Rel K kd F B [] ad' as' σ' H'->Grow (Gw [] ad) H (Gw [] ad') H'->D.ct σ' H'
 | .rt o=>∀v T H',RetOk K kd F T H' v o->Grow (Gw [] ad) H (· ∈ T) H'->D.rt v H'
def be(K:zzA)(kd:KD)(f:SF):TS:=λD σ H=>∃F B ad as o,Rel K kd F B [] ad as σ H/\f as=some o/\DS K kd F B ad H D o
@[irreducible] def Jl(X:Cx)(kd:KD)(st:Stmt)(f:SF):Prop:=PS X st<|be X.K kd f
@[irreducible] def ua(X:Cx)(kd:KD)(st:List Stmt)(f:SF):Prop:=HW X st<|be X.K kd f
def vE(h:PS X e t)(k:∀D σ H,t' D σ H->t D σ H):PS X e t':=λa s σ H D I q=>h a s σ H D I<|k D σ H q
def XM(h:HW X e t)(k:∀D σ H,t' D σ H->t D σ H):HW X e t':=λa s σ H D I q=>h a s σ H D I<|k D σ H q
def DS.pre{K ad ad1 D}(g:Grow (Gw [] ad) H (Gw [] ad1) H1)(h:DS K kd F B ad H D o):DS K kd F B ad1 H1 D o:=by
 cases o with
 |nx as=>exact λσ' ad' H' R g'=>h σ' ad' H' R (g.trans g')
 |bk as=>exact λσ' ad' H' R g'=>h σ' ad' H' R (g.trans g')
 |ct as=>exact λσ' ad' H' R g'=>h σ' ad' H' R (g.trans g')
 |rt r=>exact λv T H' R g'=>h v T H' R<|g.trans g'
noncomputable def vB:SF:=λas=>some<|.nx as
def zx(f g:SF):SF:=λas=>(f as).bind λo=>match o with | .nx as'=>g as'|o=>some o
def xD(c:TF)(f g:SF):SF:=λas=>(c as).bind λp=>if p.1=true then f p.2 else g p.2
def yO(f:EF):SF:=λas=>(f as).bind λp=>some<|.nx p.2
def qy(as:AS):RV->Option O
 | .ow o=>if o.str=true then some o else none
 | .bo i=>match as[i]? with
  |some (some o)=>if o.str=true then some o else none
  |_=>none
def zz(f:EF):SF:=λas=>(f as).bind λp=>(qy p.2 p.1).bind λo=>some<|.rt o
def zE(z:Bool)(i:Nat)(f:EF):SF:=λas=>(f as).bind λp=>(jZ p.2 (if z=true then p.1.frz else p.1)).bind λx=>if i<x.2.length then some (.nx<|x.2.set i<|some x.1)else none
def Ro.strong(h:Ro L N H v o fp)(e:o.str=true):Ro (λst v d=>st=true/\L st v d) N H v o fp:=
 Ro.rec (motive_2:=λvs os fp _=>O.strs os=true->RoL _ N H vs os fp)
  (λh e=>.lf ⟨e,h⟩) (λh _ r e=>.ls h<|r e) (λh l _ r e=>.dc h l<|r e) (λc h l _ r e=>.ob ⟨rfl,c⟩ h l<|r e) (λn h _ r e=>.tp n h<|r e) (λ_=>.nil) (λ_ _ h r e=>.cons (h ((zyC _ _).mp e).1)<|r ((zyC _ _).mp e).2) h e
section
variable{K:zzA}{kd:KD}{F B:Addr->Prop}{T:List Addr}{ad ad1:Ad}{as as1:AS}{σ:St}{H H1:Hp}{v:V}{r:RV}{o:O}
def Hn(R:Rel K kd F B T ad as σ H)(hn:T'.Nodup)(hs:∀a ∈ T',Gw T ad a)(h:Xy K kd F B (Gw T ad) H v o T')(e:o.str=true):RetOk K kd F T' H v o:=by
 have b:∀a,TB F _ a->Lv F B _ true a:=λa z=>z.elim (λy=>.inl<|.inl ⟨rfl,y⟩) λy=>.inr<|hs a y;exact⟨hn,λa m=>(R.gtr a<|hs a m).1,Ro.mono (λc v d r=>by obtain⟨rfl,r⟩:=r;exact r.less b) (λa f n e=>⟨λz=>n<|b a z,e⟩) (λ_ _ _ e=>e)<|Ro.strong h e⟩
def Rel.ret(R:Rel K kd F B T ad as σ H)(hr:wU K kd F B T ad σ H v r)(e:qy as r=some o):∃T',RetOk K kd F T' H v o/\∀b ∈ T',Gw T ad b:=by
 cases r with
 |ow g=>
  obtain⟨c,rfl⟩:=zy e;exact⟨T,Hn R R.tnd (λa m=>.inl m) hr c,λa m=>.inl m⟩
 |bo i=>
  have e:(match as[i]? with|some (some o)=>if o.str=true then some o else none|_=>none)=some o:=e;cases k:as[i]? with
  |none=>rw[k]at e;cases e
  |some s=>
   cases s with
   |none=>rw[k]at e;cases e
   |some h=>
    rw[k]at e;obtain⟨c,rfl⟩:=zy e;obtain⟨w,d,f⟩:=R.sl i _ k;rw[hr.2]at d;cases d;exact⟨ad i,Hn R (R.nd i) (λa m=>.inr ⟨i,m⟩) f c,λa m=>.inr ⟨i,m⟩⟩
end
section
variable{X:Cx}{kd:KD}{st:Stmt}{sts rest:List Stmt}{a b c e:Expr}{fa fb:EF}{ta:TF}{pos:Pos}{f g:SF}
def yR:ua X kd [] vB:=by with_unfolding_all exact(XM M4 λD σ H h=>by
 obtain⟨F,B,a,as,o,R,e,q⟩:=h;cases e;exact q σ a H R Grow.refl)
def yb(h1:Jl X kd st f)(h2:ua X kd rest g):ua X kd (st::rest) (zx f g):=by with_unfolding_all exact(XM (Wj h1 h2) λD σ H h=>by
 obtain⟨F,B,ad,as,o,R,e,q⟩:=h;obtain⟨o1,e1,e⟩:=bS_<|e;refine⟨F,B,ad,as,o1,R,e1, ?_⟩;cases o1 with
 |nx as1=>exact λσ' ad' H' R' g'=>⟨F,B,ad',as1,o,R',e,q.pre g'⟩
 |bk as1=>cases e;exact q
 |ct as1=>cases e;exact q
 |rt r=>cases e;exact q)
def zT(h1:Jl X kd st f):ua X kd [st] f:=by with_unfolding_all exact(GZ h1)
def qL:SF:=λ_=>none
def gz:Jl X kd st qL:=by with_unfolding_all exact(λa s σ H D I h=>by obtain⟨F,B,b,as,o,R,e,q⟩:=h;cases e)
def Zb(hc:AT X kd c ta)(ha:ua X kd sts f)(hb:ua X kd rest g):Jl X kd (.If c sts rest pos) (xD ta f g):=by with_unfolding_all exact(vE (AU hc ha hb) λD σ H h=>by
 obtain⟨F,B,i,as,o,R,e,q⟩:=h;obtain⟨⟨p,a⟩,j,e⟩:=bS_<|e;refine⟨F,B,i,as,p,a,R,j,λb k d g=>?_⟩;cases p with
 |true=>exact⟨F,B,b,a,o,d,e,q.pre g⟩
 |false=>exact⟨F,B,b,a,o,d,e,q.pre g⟩)
def pS(he:AE X kd e fa)(hs:swapsWith e none pos.line X.env=pure false):Jl X kd (.Expr e pos) (yO fa):=by with_unfolding_all exact(vE (MO he hs) λD σ H h=>by
 obtain⟨F,B,c,as,o,R,e,q⟩:=h;obtain⟨⟨p,a⟩,d,e⟩:=bS_<|e;cases e;exact⟨F,B,c,as,p,a,R,d,λv j b f i k g=>q σ b f i.drop<|g.trans<|Grow.less Gw.drop⟩)
def yE(he:AE X kd e fa):Jl X kd (.Return (some e) pos) (zz fa):=by with_unfolding_all exact(vE (sQ he) λD σ H h=>by
 obtain⟨F,B,b,as,o,R,e,q⟩:=h;obtain⟨⟨p,a⟩,c,e⟩:=bS_<|e;obtain⟨r,d,e⟩:=bS_ e;cases e;refine⟨F,B,b,as,p,a,R,c,λv s f i j k g=>?_⟩;obtain⟨l,m,n⟩:=j.ret k d;exact q v l i m<|g.trans<|Grow.less n)
def HR{K ad}{i:Nat}(R:Rel K kd F B T ad as σ H)(rv:wU K kd F B T ad σ H v r)
 (h2:jZ as (if z=true then r.frz else r)=some (o,as2)) (hl:i<as2.length):∃ad',Rel K kd F B [] ad' (as2.set i<|some o) (σ.set i<|some v) H/\∀a,Gw [] ad' a->Gw T ad a:=by
 cases z with
 |true=>
  obtain⟨b,c,d,e⟩:=En R.drop (wU.drop R rv) h2;exact⟨_,c.put hl d,λa y=>Gw.drop a<|e a<|QB a y⟩
 |false=>
  obtain⟨b,c,d,e⟩:=En R rv h2;exact⟨_,c.put hl d,λa y=>e a<|QB a y⟩
def rQ(hN:X.N.Nodup)(hi:X.N[i]? = some x)(hx:Loc X.env.scope x)(he:AE X kd e fa)(hs:swapsWith e (some<|.Name x pos') pos.line X.env=pure false)(hf:X.fn x=true\/X.env.scope.names.lookup x=some .local):
 Jl X kd (.Assign [.Name x pos'] e pos) (zE z i fa):=by with_unfolding_all exact(vE (tW hN hi hx he hs hf) λD σ H h=>by
 obtain⟨F,B,c,as,o,R,e,q⟩:=h;obtain⟨⟨p,a⟩,d,e⟩:=bS_<|e;obtain⟨_,j,e⟩:=bS_ e;obtain⟨k,e⟩:=zy e;cases e;refine⟨F,B,c,as,p,a,R,d,λv t l m n r g=>?_⟩;obtain⟨b,R2,s⟩:=HR n r j k;exact q _ b m R2<|g.trans<|Grow.less s)
end
def VR(n:Nat)(ds:List (Bool×D)):AS:=ds.map (λx=>some<|.lf x.1 x.2)++List.replicate (n-ds.length) none
def eY:Out->Option O
 | .nx _=>some<|.lf true .non
 | .rt o=>some o
 |_=>none
def wY(n m:Nat)(f:SF)(ds:List (Bool×D)):Option O:=if ds.length=m then(f<|VR n ds).bind eY else none
theorem RpA.get{K}:∀{vs:List V}{ds:List (Bool×D)}{i:Nat}{x:Bool×D},RpA K kd F H vs ds->ds[i]? = some x->∃v,vs[i]? = some v/\Rp K kd (λa=>x.1=true/\F a) H v x.2
 |_,_,_,_,.nil,e=>by simp at e
 |_,_,0,_,.cons h _,e=>by simp at e;subst e;exact⟨_,rfl,h⟩
 |_,_,i+1,_,.cons _ r,e=>by
  obtain⟨v,b,c⟩:=RpA.get r ⋯;exact⟨v,⋯,c⟩
def ud{K}(ht:∀a,F a->H a≠none)(rp:RpA K kd F H vs ds):
 Rel K kd F (λ_=>False) [] (λ_=>[]) (VR N.length ds) (L2.start N vs) H:=by
 have c:=rp.length;have f:∀a,¬Gw [] (λ_=>[]) a:=λa z=>z.elim ⋯ λ⟨_,y⟩=>nomatch y;refine⟨by unfold VR L2.start;simp[c],λ_ _=>rfl,λ_=>zyJ,(λ_ _ _ z=>nomatch z),zyJ,(λ_ _ _ z=>nomatch z),ht,⋯,λa z=>(f a z).elim,λi s e=>?_⟩;unfold VR at e;unfold L2.start
 by_cases g:i<ds.length
 . rw[zyP (by rwa [zzB]),zzI]at e;obtain⟨d,h,b⟩:=zzX.mp e;subst b;obtain⟨v,j,k⟩:=rp.get h;rw[zyP (by rwa [zzB,c]),zzI,j];refine⟨v,rfl,.lf<|k.less λa z=>?_⟩
   rcases z with(z|z)|z
   . exact z
   . exact z.elim
   . exact(f a z).elim
 . rw[zyR<|by rw[zzB];omega]at e;have:=zyA e;have b:=(List.mem_replicate.mp this).2;subst b;rfl
section
variable{P:Program}{w:World}{K:zzA}{mg:Str->Option Value}{base:Heap}
def sP(q:e_ K kd F H Q o)(ro:RetOk K kd F T H' v o)(g:Grow (Gw [] λ_=>[]) H (· ∈ T) H'):Q v H':=by
 have c:∀a,¬Gw [] (λ_=>[]) a:=λa z=>z.elim ⋯ λ⟨_,y⟩=>nomatch y;exact q v T H' ro.nd (λa m=>(g.own a m).resolve_left<|c a) (λb u h=>g.keep b u h<|c b) ro.tr ro.ro
def xb{st}{k:Nat}(Fn:Fun K x qual st f fd)(S:FnScope N ps (zc st))
 (hb:∀(cdv:Value) (A:Around) (outer:List Env) (s:Shared) (H:Hp) (E:XK),Room k (A.deeper<|envOfC qual (zc st) s.heap.objs.size f cdv)->ua (FB xJ P w K mg base N qual (zc st) f cdv A outer s H E).nox kd (YI st) c):
 FnOk P w K mg base xJ (k+1) f fd ps (VT K kd<|wY N.length ps.length c):=by
 with_unfolding_all (
 refine Fn.ok S (λvs H Q E h=>?_) λcdv A outer s H vs Q E hr h=>⟨_,hb cdv A outer s H E hr, ?_⟩
 . obtain⟨F,ds,r,_,rp,e,_⟩:=h;unfold wY at e
   by_cases hl:ds.length=ps.length
   . rw[rp.length,hl]
   . rw[if_neg hl]at e;cases e
 . obtain⟨F,ds,r,ht,rp,e,q⟩:=h;unfold wY at e
   by_cases hl:ds.length=ps.length
   . rw[if_pos hl]at e;obtain⟨o,e1,e⟩:=bS_ e;refine⟨F,λ_=>False,λ_=>[],VR N.length ds,o,ud ht rp,e1, ?_⟩;cases o with
     |nx as=>cases e;exact λσ' ad' H' R g=>sP q ⟨zyJ,⋯,.lf .non⟩ (g.trans<|Grow.less ⋯)
     |rt o=>cases e;exact λv T H' ro g=>sP q ro g
     |bk=>cases e
     |ct=>cases e
   . rw[if_neg hl]at e;cases e)
end
abbrev ZA:=Bool×D
abbrev GF:=ZA->AS->Option AS
abbrev mY:=List ZA->AS->Option AS
def kids(st:Bool)(ds:List D):List ZA:=ds.map λd=>(zu d||st,d)
inductive RpI(K:zzA)(kd:KD)(F B G:Addr->Prop)(H:Hp):List V->List ZA->Prop
 |nil:RpI K kd F B G H [] []
 |cons {v:V}{x:ZA}{vs:List V}{ds:List ZA}:Rp K kd (Lv F B G x.1) H v x.2->RpI K kd F B G H vs ds->RpI K kd F B G H (v::vs) (x::ds)
def gF(K:zzA)(kd:KD)(S:List Nat)(g:GF):TG:=λv σ H Q=>∃F B ad as x as',Rel K kd F B [] ad as σ H/\Rp K kd (Lv F B (Gw [] ad) x.1) H v x.2/\g x as=some as'/\
 ∀σ' ad' H',Rel K kd F B [] ad' as' σ' H'->Grow (Gw [] ad) H (Gw [] ad') H'->(∀j,j ∉ S->σ'[j]? = σ[j]?)->Q σ' H'
def ei(K:zzA)(kd:KD)(S:List Nat)(g:mY):kW:=λvs σ H Q=>∃F B ad as ds as',Rel K kd F B [] ad as σ H/\RpI K kd F B (Gw [] ad) H vs ds/\g ds as=some as'/\
 ∀σ' ad' H',Rel K kd F B [] ad' as' σ' H'->Grow (Gw [] ad) H (Gw [] ad') H'->(∀j,j ∉ S->σ'[j]? = σ[j]?)->Q σ' H'
@[irreducible] def AG(X:Cx)(kd:KD)(tg:Expr)(S:List Nat)(g:GF):Prop:=PG X tg<|gF X.K kd S g
@[irreducible] def nV(X:Cx)(kd:KD)(tg:List Expr)(S:List Nat)(g:mY):Prop:=mX X tg<|ei X.K kd S g
def lZ(h:PG X e t)(k:∀v σ H Q,t' v σ H Q->t v σ H Q):PG X e t':=λa s σ H v u Q I r q=>h a s σ H v u Q I r<|k v σ H Q q
def AL(h:mX X e t)(k:∀v σ H Q,t' v σ H Q->t v σ H Q):mX X e t':=λa s σ H v u Q I r q=>h a s σ H v u Q I r<|k v σ H Q q
def gN(i:Nat):GF:=λx as=>if i<as.length then some (as.set i<|some<|.lf x.1 x.2)else none
def MV:mY:=λds as=>match ds with | []=>some as|_::_=>none
def Wz(g:GF)(gs:mY):mY:=λds as=>match ds with | []=>none|d::r=>(g d as).bind λas1=>gs r as1
def gT(n:Nat)(gs:mY):GF:=λx as=>match x.2 with
 | .tup ds=>if ds.length=n then gs (kids x.1 ds) as else none
 | .lst ds=>if ds.length=n then gs (kids x.1 ds) as else none
 |_=>none
section
variable{K:zzA}{kd:KD}{F B G G':Addr->Prop}{H H':Hp}
theorem RpI.length(h:RpI K kd F B G H vs ds):vs.length=ds.length:=by
 induction h with
 |nil=>rfl
 |cons _ _ a=>exact congrArg _ a
theorem RpI.grow(g:Grow G H G' H')(h:RpI K kd F B G H vs ds):RpI K kd F B G' H' vs ds:=by
 induction h with
 |nil=>exact .nil
 |cons h _ a=>exact .cons (Rp.grow g h) a
def RpI.get{i:Nat}(h:RpI K kd F B G H vs ds)(e:ds[i]? = some x):∃v,vs[i]? = some v/\Rp K kd (Lv F B G x.1) H v x.2:=by
 induction h generalizing i with
 |nil=>simp at e
 |cons h r a=>
  cases i with
  |zero=>simp at e;subst e;exact⟨_,rfl,h⟩
  |succ i=>
   obtain⟨v,b,c⟩:=a ⋯;exact⟨v,⋯,c⟩
def PM{st}(h:RpL K kd (Lv F B G st) H vs ds):RpI K kd F B G H vs (kids st ds):=
 RpL.ind (P:=λa b=>RpI K kd F B G H a<|kids st b) .nil (λ{v d a b} h _ c=>by
  refine .cons (x:=(zu d||st,d)) ?_ c;cases e:zu d with
  |true=>exact h.flat e
  |false=>exact h) h
end
section
variable{prog:Program}{w:World}{A:Around}{E:Value->Shared->Prop}{s:Shared}
theorem SM(hne:l≠it):∀(n i:Nat) (s:Shared) (Q:List Value->Shared->Prop),s.heap.IsListIter it l i->s.heap.IsList l items->i+n<=items.size->
 (∀h',h'.IsListIter it l (i+n)->Heap.SameBut it s.heap h'->Q ((items.toList.drop i).take n) {s with heap:=h'})->wpAny (model prog w) A (draw (.ref it) n) Q E s
 |0,i,s,Q,a,_,_,f=>zxF (by simpa using f s.heap a (Heap.SameBut.refl ..))
 |n+1,i,s,Q,a,h,j,f=>by
  have b:i<items.size:=⋯;refine zxE<|wpAny_pyNext_list_item a h (x:=items[i]) ⋯ λo c d=>?_;refine zxE<|zxJ<|SM hne n _ _ _ c (h.extBut d.extBut hne) ⋯ λk e g=>zxF ?_;have m:items.toList.drop i=items[i]::items.toList.drop (i+1):=by simp[zyQ,b]
  have:=f k (by rwa [show i+_=i+1+n by omega])<|d.trans g
  rwa [m]at this
def CN(hh:A.handled=none)(ht:s.heap.IsList l items)
 (hn:targets.length=items.size) (hstar:targets.findIdx? (·.1)=none)
 (h:∀h',Heap.ExtBut s.heap.objs.size s.heap h'->wpAny (model prog w) A (assignInOrder (targets.map (·.2)) items.toList) Q E {s with heap:=h'}):
 wpAny (model prog w) A (unpack (.ref l) targets) Q E s:=by
 unfold unpack;rw[hn,hstar];refine zxE<|zxJ ?_;have a:l≠s.heap.objs.size:=by obtain⟨o,k,_⟩:=ht;exact zzQ<|zxH k
 refine zxE ?_;refine zxE<|wpAny_specialOf ht.typeIs PySem.F.slot_list_iter.lookup ?_;refine zxF ?_;refine zxE<|zxJ<|wpAny_pyIter_list ht ?_;refine zxE<|zxJ<|SM a items.size 0 _ _ ⟨_,zxI _ rfl,rfl,rfl⟩ (ht.push _) ⋯ λm c d=>?_;have f:List.take items.size (List.drop 0 items.toList)=items.toList:=List.take_of_length_le ⋯;rw[f];rw[if_neg ⋯];have g:=(ht.push _).extBut d.extBut a;refine zxE<|zxJ<|wpAny_pyNext_list_end hh c g ⋯ λn i=>?_;exact zxF<|h n λb o j e=>i b o j<|d.extBut b o j<|zxG _ e
end
section
variable{X:Cx}{kd:KD}{a b c e tg iter:Expr}{es:List Expr}{body:List Stmt}{fa fb:EF}{pos:Pos}{g:GF}{gs:mY}{f:SF}{ta:TF}{S S1 S2:List Nat}
def fY(K:zzA)(n:Nat)(t:kW):TG:=λv σ H Q=>∃a xs,v = .ref a/\FT K H a xs/\xs.length=n/\t xs σ H Q
def tX(hc:X.calm=true)(h:mX X es t)(hn:(assignEach es X.env).length=n)(hst:(assignEach es X.env).findIdx? (·.1)=none):PG X (.Tuple es k pos) (fY X.K n t):=by
 intro c s σ H v u Q I r d;obtain⟨a,g,i,j,l,d⟩:=d;subst i;cases r;obtain⟨m,f,p,y⟩:=I.list j;refine zxE<|wpAny_standAt<|CN (I.ok.hd hc) p.isList (by simp[hn,<-l,f.length]) hst λq w=>?_;have x:=I.kept (t':=s.toks) λb o e=>w b o (zzQ<|zxH e) e;exact h c _ σ H g _ Q x ⋯ d
def DN(hN:X.N.Nodup)(hi:X.N[i]? = some x)(hx:Loc X.env.scope x)(hf:X.fn x=true\/X.env.scope.names.lookup x=some .local):AG X kd (.Name x pos) [i] (gN i):=by with_unfolding_all exact(lZ (q9 hN hi hx hf) λv σ H Q h=>by
 obtain⟨F,B,f,as,y,a,R,b,e,q⟩:=h;obtain⟨c,e⟩:=zy e;cases e;exact q _ _ H (R.put c<|.lf b) (Grow.less QB) λj d=>zzY λz=>d<|by rw[z];simp)
def OG:nV X kd [] [] MV:=by with_unfolding_all exact(AL pW λd σ H Q h=>by
 obtain⟨F,B,a,as,f,b,R,c,e,q⟩:=h;cases c with
 |nil=>cases e;exact⟨rfl,q σ a H R Grow.refl λ_ _=>rfl⟩
 |cons=>cases e)
def GQ(h1:AG X kd a S1 g)(h2:nV X kd es S2 gs)(hs:(assignEach (a::es) X.env).map (·.2)=assign a X.env::(assignEach es X.env).map (·.2)):nV X kd (a::es) (S1++S2) (Wz g gs):=by with_unfolding_all exact(AL (tM h1 h2 hs) λx σ H Q h=>by
 obtain⟨F,B,l,as,y,c,R,m,e,q⟩:=h;cases m with
 |nil=>cases e
 |cons r n=>
  obtain⟨b,o,e⟩:=bS_<|e;refine⟨_,_,rfl,F,B,l,as,_,b,R,r,o,λA d C p i s=>?_⟩;exact⟨F,B,d,b,_,c,p,n.grow i,e,λt f u R2 v w=>q t f u R2 (i.trans v) λj k=>(w j λz=>k<|zzL _ z).trans<|s j λz=>k<|zzP _ z⟩)
def Jo{k n:Nat}(hc:X.calm=true)(h:nV X kd es S gs)(hn:(assignEach es X.env).length=n)(hst:(assignEach es X.env).findIdx? (·.1)=none):AG X kd (.Tuple es k pos) S (gT n gs):=by
 with_unfolding_all (
 intro pins s σ H v u Q I r hw;obtain⟨F,B,ad,as,⟨st,d⟩,as',R,rp,e,q⟩:=hw;cases d with
 |tup ds=>
  have e:(if ds.length=n then gs _ as else none)=some as':=e
  by_cases hl:ds.length=n
  . rw[if_pos hl]at e;have go:∃a xs,v = .ref a/\Gx X.K H a xs/\RpL X.K kd (Lv F B (Gw [] ad) st) H xs ds:=by
     cases rp with
     |tup n h r=>exact⟨_,_,rfl,.inl h,r⟩
     |tupK a b c e f r=>exact⟨_,_,rfl,.inr ⟨_,_,_,a,b,c,e,f⟩,r⟩
    obtain⟨a,xs,rfl,hs,rl⟩:=go;exact kK hc h hn hst pins s σ H _ u Q I r ⟨a,xs,rfl,hs,by rw[rl.length,hl],F,B,ad,as,_,as',R,PM rl,e,q⟩
  . rw[if_neg hl]at e;cases e
 |lst ds=>
  have e:(if ds.length=n then gs _ as else none)=some as':=e
  by_cases hl:ds.length=n
  . rw[if_pos hl]at e;cases rp with
    |lstK a b c r'=>exact tX hc h hn hst pins s σ H _ u Q I r ⟨_,_,rfl,.inr ⟨_,_,_,a,rfl,rfl,rfl,b,c⟩,by rw[r'.length,hl],F,B,ad,as,_,as',R,PM r',e,q⟩
    |lst n h' r'=>exact tX hc h hn hst pins s σ H _ u Q I r ⟨_,_,rfl,.inl h',by rw[r'.length,hl],F,B,ad,as,_,as',R,PM r',e,q⟩
  . rw[if_neg hl]at e;cases e
 |_=>cases e)
def L3(as:AS)(r:RV):Option (ZA×AS):=(jZ as r.frz).bind λx=>match x.1 with | .lf st d=>some ((st,d),x.2)|_=>none
def Qi{K ad}(R:Rel K kd F B T ad as σ H)(h:wU K kd F B T ad σ H v r)(e:L3 as r=some (x,as')):
 ∃ad',Rel K kd F B [] ad' as' σ H/\Rp K kd (Lv F B (Gw [] ad') x.1) H v x.2/\∀a,Gw [] ad' a->Gw T ad a:=by
 obtain⟨⟨o,c⟩,f,e⟩:=bS_ e;obtain⟨b,g,i,j⟩:=En R.drop (wU.drop R h) f;cases o with
 |lf l d=>
  cases e;refine⟨b,g, ?_,λa y=>Gw.drop a<|j a y⟩;have:=Eg i;exact this
 |nd k m=>cases e
def tw(f:EF)(g:GF):SF:=λas=>(f as).bind λp=>(L3 p.2 p.1).bind λq=>(g q.1 q.2).bind λas'=>some<|.nx as'
def jC(he:AE X kd e fa)(hg:AG X kd tg S g)(hs:swapsWithSole [tg] e pos.line X.env=pure false)(hw:swappedStores [tg] e X.env=pure none)(h1:(assignEach [tg] X.env).map (·.2)=[assign tg X.env]):
 Jl X kd (.Assign [tg] e pos) (tw fa g):=by with_unfolding_all exact(vE (rn he hg hs hw h1) λD σ H h=>by
 obtain⟨F,B,ad,as,o,R,e,q⟩:=h;obtain⟨⟨p,as1⟩,h1,e⟩:=bS_<|e;obtain⟨⟨x,as2⟩,h2,e⟩:=bS_ e;obtain⟨as3,h3,e⟩:=bS_ e;cases e;refine⟨F,B,ad,as,p,as1,R,h1,λv T' ad' H' R' rv g1=>?_⟩;obtain⟨ad2,R2,rp,le⟩:=Qi R' rv h2;exact⟨F,B,ad2,as2,_,as3,R2,rp,h3,λσ' ad' H' R' g' _=>q σ' ad' H' R'<|(g1.trans<|Grow.less le).trans g'⟩)
structure ItOk(K:zzA)(kd:KD)(F B:Addr->Prop)(ad:Ad)(H:Hp)(J:It)(ds:List ZA):Prop where
 all:∀(ad2:Ad) (H2:Hp),Grow (Gw [] ad) H (Gw [] ad2) H2->(∀st a,Lv F B (Gw [] ad2) st a->H2 a≠none)->∀i,(i<ds.length->J.go i H2)/\(ds.length<=i->J.stop i H2)/\
  ∀v H3,J.yld i H2 v H3->(∀b o,H2 b=some o->H3 b=some o)/\∀x,ds[i]? = some x->Rp K kd (Lv F B (Gw [] ad2) x.1) H3 v x.2
abbrev IF:=AS->Option (List ZA×AS)
def cT(K:zzA)(kd:KD)(f:IF):TI:=λσ H R=>∃F B ad as ds as',Rel K kd F B [] ad as σ H/\f as=some (ds,as')/\
 ∀J ad' H',Rel K kd F B [] ad' as' σ H'->Grow (Gw [] ad) H (Gw [] ad') H'->ItOk K kd F B ad' H' J ds->R J H'
@[irreducible] def AI(X:Cx)(kd:KD)(tg iter:Expr)(f:IF):Prop:=PI X tg iter<|cT X.K kd f
def forL(g:GF)(f:SF):List ZA->AS->Option Out
 | [],as=>some (.nx as)
 |d::r,as=>(g d as).bind λas1=>(f as1).bind λo=>match o with
  | .nx as'=>forL g f r as'
  | .ct as'=>forL g f r as'
  | .bk as'=>some<|.nx as'
  | .rt r=>some<|.rt r
def XW(fi:IF)(g:GF)(f:SF):SF:=λas=>(fi as).bind λp=>forL g f p.1 p.2
def Lz(hp:PassesOwn (model X.prog X.w) X.A X.env X.xe)(hc:X.calm=true)(hi:AI X kd tg iter fi)(hg:AG X kd tg S g)(hb:ua X kd body f)(hs:∀x,foldedSetIterable iter X.env x=pure x):
 Jl X kd (.For tg iter body [] pos) (XW fi g f):=by with_unfolding_all exact(vE (sr hp hc hi hg hb hs) λD σ H h=>by
 obtain⟨F,B,ad,as,o,R,e,q⟩:=h;obtain⟨⟨ds,as1⟩,h1,e⟩:=bS_<|e;refine⟨F,B,ad,as,ds,as1,R,h1,λJ ad1 H1 R1 g1 it=>?_⟩;refine⟨λi m σ2 H2=>m+i=ds.length/\∃ad2 as2,Rel X.K kd F B [] ad2 as2 σ2 H2/\Grow _ H1 (Gw [] ad2) H2/\forL g f (ds.drop i) as2=some o,⟨ds.length,rfl,ad1,as1,R1,Grow.refl,e⟩, ?_⟩
 rintro i m σ2 H2 ⟨hm,ad2,as2,R2,g2,e2⟩
 obtain⟨k1,k2,k3⟩:=it.all ad2 H2 g2 R2.trk i
 by_cases hi:i<ds.length
 . refine .inr ⟨k1 hi,λσ3 H3=>∃ad3 as3,Rel X.K kd F B [] ad3 as3 σ3 H3/\Grow _ H1 _ H3/\forL g f _ as3=some o,λσ3 H3 ⟨ad3,as3,R3,g3,e3⟩=>⟨m-1,⋯,⋯,ad3,as3,R3,g3,e3⟩,λv H3 hy=>?_⟩;obtain⟨kp,rp⟩:=k3 v H3 hy;rw[zyQ hi]at e2;obtain⟨as3,e3,e2⟩:=bS_<|e2;obtain⟨o3,e4,e2⟩:=bS_ e2;obtain⟨R3,g3⟩:=R2.more kp;refine⟨F,B,ad2,as2,_,as3,R3,rp _<|zzE hi,e3,λσ4 ad4 H4 R4 g4 _=>?_⟩;refine⟨F,B,ad4,as3,o3,R4,e4, ?_⟩;have gg:=(g2.trans g3).trans g4;cases o3 with
   |nx as5=>exact λσ5 ad5 H5 R5 g5=>⟨ad5,as5,R5,gg.trans g5,e2⟩
   |ct as5=>exact λσ5 ad5 H5 R5 g5=>⟨ad5,as5,R5,gg.trans g5,e2⟩
   |bk as5=>
    cases e2;exact λσ5 ad5 H5 R5 g5=>q σ5 ad5 H5 R5 (g1.trans<|gg.trans g5)
   |rt r=>
    cases e2;exact λv T H5 ro g5=>q v T H5 ro<|g1.trans<|gg.trans g5
 . refine .inl ⟨k2 ⋯, ?_⟩;rw[List.drop_eq_nil_of_le ⋯]at e2;cases e2;exact q σ2 ad2 H2 R2<|g1.trans g2)
def Sw:ZA->Option (List ZA)
 |(st,.lst ds)=>some (kids st ds)
 |(st,.tup ds)=>some (kids st ds)
 |_=>none
def Mw(f:EF):IF:=λas=>(f as).bind λp=>(L3 p.2 p.1).bind λq=>(Sw q.1).bind λds=>some (ds,q.2)
def Do{K ad a}(hs:∀(ad3:Ad) (H3:Hp),Grow (Gw [] ad) H (Gw [] ad3) H3->FT K H3 a vs)(r:RpI K kd F B (Gw [] ad) H vs ds):ItOk K kd F B ad H (fA K a) ds:=⟨λc j h _ i=>by
 have b:=hs c j h;have e:=r.grow h;refine⟨λf=>?_,λf=>⟨_,b,by rwa [r.length]⟩,λv o k=>?_⟩
 . obtain⟨u,g,_⟩:=r.get<|zzE f;exact⟨_,u,b,g⟩
 . obtain⟨rfl,l⟩:=k;refine⟨λ_ _ z=>z,λd m=>?_⟩;obtain⟨u,g,n⟩:=e.get m;have:=l _ b;rw[g]at this;cases this;exact n⟩
def kU{K ad a}(hs:∀(ad3:Ad) (H3:Hp),Grow (Gw [] ad) H (Gw [] ad3) H3->Gx K H3 a vs)(r:RpI K kd F B (Gw [] ad) H vs ds):ItOk K kd F B ad H (fG K a) ds:=⟨λc j h _ i=>by
 have b:=hs c j h;have e:=r.grow h;refine⟨λf=>?_,λf=>⟨_,b,by rwa [r.length]⟩,λv o k=>?_⟩
 . obtain⟨u,g,_⟩:=r.get<|zzE f;exact⟨_,u,b,g⟩
 . obtain⟨rfl,l⟩:=k;refine⟨λ_ _ z=>z,λd m=>?_⟩;obtain⟨u,g,n⟩:=e.get m;have:=l _ b;rw[g]at this;cases this;exact n⟩
def FK(he:AE X kd e fa):AI X kd tg e (Mw fa):=by
 with_unfolding_all (
 intro pins s σ H R I h;obtain⟨F,B,ad,as,ds,as',Rl,e,q⟩:=h;obtain⟨⟨p,as1⟩,h1,e⟩:=bS_<|e;obtain⟨⟨⟨st,x⟩,as2⟩,h2,e⟩:=bS_ e;obtain⟨ys,h3,e⟩:=bS_ e;cases e;cases x with
 |lst xs=>
  cases h3;refine H_ he pins s σ H R I ⟨F,B,ad,as,p,as1,Rl,h1,λv T1 ad1 H1 R1 rv1 g1=>?_⟩;obtain⟨ad2,R2,rp,le⟩:=Qi R1 rv1 h2;cases rp with
  |lst hn hr rl=>exact⟨_,rfl,⟨_,.inl hr⟩,q _ ad2 H1 R2 (g1.trans<|Grow.less le)<|Do (λad3 H3 g3=>.inl<|GI g3 (λz=>hn<|.inr z) hr)<|PM rl⟩
  |lstK a b c rl=>exact⟨_,rfl,⟨_,.inr ⟨_,_,_,a,rfl,rfl,rfl,b,c⟩⟩,q _ ad2 H1 R2 (g1.trans<|Grow.less le)<|Do (λad3 H3 g3=>.inr ⟨_,_,_,a,rfl,rfl,rfl,b,c⟩)<|PM rl⟩
 |tup xs=>
  cases h3;refine Jy he pins s σ H R I ⟨F,B,ad,as,p,as1,Rl,h1,λv T1 ad1 H1 R1 rv1 g1=>?_⟩;obtain⟨ad2,R2,rp,le⟩:=Qi R1 rv1 h2;have go:∃a ys,v = .ref a/\(∀ad3 H3,Grow (Gw [] ad2) H1 (Gw [] ad3) H3->Gx X.K H3 a ys)/\RpL X.K kd (Lv F B (Gw [] ad2) st) H1 ys xs:=by
   cases rp with
   |tup n h r=>exact⟨_,_,rfl,λad3 H3 g3=>.inl<|GI g3 (λz=>n<|.inr z) h,r⟩
   |tupK a b c e f r=>exact⟨_,_,rfl,λad3 H3 g3=>.inr ⟨_,_,_,a,b,c,e,f⟩,r⟩
  obtain⟨a,ys,rfl,hs,rl⟩:=go;exact⟨_,rfl,⟨_,hs ad2 H1 Grow.refl⟩,q _ ad2 H1 R2 (g1.trans<|Grow.less le)<|kU hs<|PM rl⟩
 |_=>cases h3)
def Xl(lo:Int)(n:Nat):List ZA:=(List.range n).map λ(i:Nat)=>(true,D.int<|lo+(i:Int))
def tY{K ad}(lo)(n:Nat):ItOk K kd F B ad H (jX lo n) (Xl lo n):=⟨λe h g _ i=>by
 have c:(Xl lo n).length=n:=by unfold Xl;simp
 refine⟨λa=>by rw[c]at a;exact a,λa=>by rw[c]at a;exact a,λv j f=>?_⟩;obtain⟨rfl,rfl⟩:=f;refine⟨λ_ _ z=>z,λd b=>?_⟩;have a:i<n:=by rw[<-c];exact(zzG.mp b).1
 unfold Xl at b;rw[zzI,List.getElem?_range a]at b;cases b;exact .int _⟩
def iS:List D->Option D
 | [x]=>some x
 |_=>none
def oU(h:iS ds=some d):ds=[d]:=by
 cases ds with
 |nil=>cases h
 |cons x r=>
  cases r with
  |nil=>cases h;rfl
  |cons _ _=>cases h
def Rc(ds:List D):Option (List ZA):=((iS ds).bind Jj).bind λj=>if -(2 ^ 62)<=j/\j<2 ^ 62 then some (Xl 0 j.toNat)else none
def A9(h:Rc ds=some xs):∃j,ds=[.int j]/\(if -(2 ^ 62)<=j/\j<2 ^ 62 then some (Xl 0 j.toNat)else none)=some xs:=by
 obtain⟨j,a,h⟩:=bS_ h;obtain⟨d,b,a⟩:=bS_ a;cases Js a;exact⟨j,oU b,h⟩
def JO:List D->Option (List ZA)
 | [.int i,.int j]=>if -(2 ^ 62)<=i/\i<2 ^ 62 /\ -(2 ^ 62)<=j/\j<2 ^ 62 then some (Xl i (j-i).toNat)else none
 |_=>none
def Xo(fr:AF)(h:List D->Option (List ZA)):IF:=λas=>(fr as).bind λp=>(views p.2 p.1).bind λds=>(h ds.1).bind λxs=>some (xs,p.2)
def Lu(hg:Gl X "range")(hm:X.mg "range"=none)(ha:AA X kd [a] fr)(hs:starEach [a] X.env=[(false,eval a X.env)]):AI X kd tg (.Call (.Name "range" p) [a] [] pos) (Xo fr Rc):=by
 with_unfolding_all (
 intro b s σ H R I h;obtain⟨F,B,k,as,A,l,m,e,q⟩:=h;obtain⟨⟨n,o⟩,r,e⟩:=bS_<|e;obtain⟨⟨C,D⟩,t,e⟩:=bS_ e;obtain⟨E,c,e⟩:=bS_ e;cases e;obtain⟨j,rfl,c⟩:=A9 c
 . obtain⟨g,u⟩:=zy c;cases u;refine Sx hg hm ha hs b s σ H R I ⟨F,B,k,as,n,_,m,r,λG d v i f w=>?_⟩;have x:=KS i f t;cases x with
   |cons y z=>
    cases z;cases y;exact⟨j,rfl,g.1,g.2,q _ d v i w<|tY 0 _⟩)
def So(hg:Gl X "range")(hm:X.mg "range"=none)(ha:AA X kd [a,b] fr)(hs:starEach [a,b] X.env=[(false,eval a X.env),(false,eval b X.env)])(hs2:starEach [b] X.env=[(false,eval b X.env)]):AI X kd tg (.Call (.Name "range" p) [a,b] [] pos) (Xo fr JO):=by
 with_unfolding_all (
 intro c s σ H R I h;obtain⟨F,B,n,as,o,r,t,e,q⟩:=h;obtain⟨⟨u,v⟩,w,e⟩:=bS_<|e;obtain⟨⟨x,J⟩,d,e⟩:=bS_ e;obtain⟨K,f,e⟩:=bS_ e;cases e
 match x,f,d with
 | [.int i,.int j],f,d=>
  obtain⟨y,z⟩:=zy<|f;cases z;refine uq hg hm ha hs hs2 c s σ H R I ⟨F,B,n,as,u,_,t,w,λL g A m k C=>?_⟩;have D:=KS m k d;cases D with
  |cons E l=>
   cases l with
   |cons l G=>
    cases G;cases E;cases l;exact⟨i,j,rfl,y,q _ g A m C<|tY i _⟩)
def Rel.mut{K ad}{i:Nat}(R:Rel K kd F B T ad as σ H)(hi:i<as.length)(hl:ad i=l::fp)(hs:σ[i]? = some (some<|.ref l))
 (hsub:∀a ∈ fp'++fo,a ∈ fp++T) (hnd:(fp'++fo).Nodup) (hu:H l≠none)
 (ro:∀(H':Hp) (G':Addr->Prop),H' l=some u->Grow (Gw T ad) H G' H'->(∀a ∈ fp',∀w,H a=some w->H' a=some w)->Xy K kd F B G' H' (.ref l) n (l::fp')):
 Rel K kd F B fo (Y8 ad i (l::fp')) (as.set i<|some n) σ (upd H l u)/\Grow (Gw T ad) H (Gw fo<|Y8 ad i (l::fp')) (upd H l u):=by
 have hli:l ∈ ad i:=by rw[hl];exact zzF
 have lT:=R.dis i l hli;have lfp:l ∉ fp:=by have:=R.nd i;rw[hl]at this;exact(zzW.mp this).1
 have lsub:∀a ∈ fp'++fo,a≠l:=λa m e=>by
  subst e
  rcases zzM.mp (hsub _ m)with z|z
  . exact lfp z
  . exact lT z
 have sub:∀a ∈ fp'++fo,Gw T ad a:=λa m=>by
  rcases zzM.mp (hsub a m)with z|z
  . exact .inr ⟨i,by rw[hl];exact zzD _ z⟩
  . exact .inl z
 have gsub:∀a,Gw fo (Y8 ad i (l::fp')) a->Gw T ad a:=λa z=>by
  rcases z with z|⟨j,z⟩
  . exact sub a<|zzL _ z
  . by_cases e:j=i
    . subst e;rw[ya]at z
      rcases zzC.mp z with z|z
      . subst z;exact .inr ⟨j,hli⟩
      . exact sub a<|zzP _ z
    . rw[ye e]at z;exact .inr ⟨j,z⟩
 have g:Grow _ H _ (upd H l u):=⟨λb w h n=>by rw[zK λe=>n<|by subst e;exact .inr ⟨i,hli⟩];exact h,λb z=>.inl<|gsub b z⟩;have kn:∀a,H a≠none->upd H l u a≠none:=λa z=>by
  by_cases e:a=l
  . subst e;rw[yd];simp
  . rwa [zK e]
 obtain⟨hnd1,hnd2,hnd3⟩:=zxD.mp hnd;have inT:∀j a,j≠i->a ∈ ad j->a ∈ fp'++fo->False:=λj a hj m m'=>by
  rcases zzM.mp (hsub a m')with z|z
  . exact hj (R.inj j i a m<|by rw[hl];exact zzD _ z)
  . exact R.dis j a m z
 refine⟨⟨by rw[zzU];exact R.len,λj hj=>?_,λj=>?_,λj k a h1 h2=>?_,hnd2,λj a h1 h2=>?_,λa z=>kn a<|R.ftr a z,λa z=>?_,λa z=>⟨kn a (R.gtr a<|gsub a z).1,(R.gtr a<|gsub a z).2⟩,λj s e=>?_⟩,g⟩
 . rw[zzU]at hj;rw[ye<|by omega];exact R.out j hj
 . by_cases e:j=i
   . subst e;rw[ya];exact zzW.mpr ⟨λm=>lsub l (zzP _ m) rfl,hnd1⟩
   . rw[ye e];exact R.nd j
 . by_cases e:j=i
   . subst e
     by_cases e':k=j
     . exact e'.symm
     . rw[ya]at h1;rw[ye e']at h2
       rcases zzC.mp h1 with z|z
       . subst z;exact R.inj j k a hli h2
       . exact(inT k a e' h2<|zzP _ z).elim
   . rw[ye e]at h1
     by_cases e':k=i
     . subst e';rw[ya]at h2
       rcases zzC.mp h2 with z|z
       . subst z;exact R.inj j k a h1 hli
       . exact(inT j a e h1<|zzP _ z).elim
     . rw[ye e']at h2;exact R.inj j k a h1 h2
 . by_cases e:j=i
   . subst e;rw[ya]at h1
     rcases zzC.mp h1 with z|z
     . subst z;exact lsub a (zzL _ h2) rfl
     . exact hnd3 a z a h2 rfl
   . rw[ye e]at h1;exact inT j a e h1<|zzL _ h2
 . obtain⟨b1,b2,b3⟩:=R.btr a z;exact⟨kn a b1,b2,λy=>b3<|gsub a y⟩
 . by_cases q:j=i
   . subst q;rw[zyK hi]at e;cases e;rw[ya];refine⟨_,hs,ro _ _ yd g λa m w h=>?_⟩
     rwa [zK<|lsub a<|zzP _ m]
   . rw[zzY<|Ne.symm q]at e;rw[ye q];refine(R.sl j s e).grow g λa m w h=>?_
     rwa [zK λz=>q<|R.inj j i l (by rwa [<-z]) hli]
abbrev MG:=List O->List O->Option (List O×O)
def Qj(i:Nat)(fr:DF)(g:MG):EF:=λas=>match as[i]? with
 |some (some (.nd .ls _))=>(fr as).bind λp=>match p.2[i]? with
  |some (some (.nd .ls os))=>(g os p.1).bind λz=>some (.ow z.2,p.2.set i<|some<|.nd .ls z.1)
  |_=>none
 |_=>none
def dJ(X:Cx)(kd:KD)(r:V->List V->Hp->VK->Prop)(g:MG):Prop:=
 ∀(F B G:Addr->Prop) (l:Addr) (vs ws:List V) (os es os':List O) (o:O) (fp fq:List Addr) (H:Hp) (Q:VK),H l=some (.lst vs)->ZN X.K kd F B G H vs os fp->ZN X.K kd F B G H ws es fq->(fp++fq).Nodup->g os es=some (os',o)->
  (∀v vs' fp' fo,ZN X.K kd F B G H vs' os' fp'->Xy X.K kd F B G H v o fo->(∀a ∈ fp'++fo,a ∈ fp++fq)->(fp'++fo).Nodup->Q v (upd H l<|.lst vs'))->r (.ref l) ws H Q
def gA{i:Nat}{fr g r}(hr:dJ X kd r g)
 (h:al X.K kd (Qj i fr g) σ H Q):cC X.K "list" r (U0 i) (cg X.K kd fr) σ H Q:=by
 obtain⟨F,B,U,as,z,as',R,e,q⟩:=h;unfold Qj at e;cases k:as[i]? with
 |none=>rw[k]at e;cases e
 |some a0=>
  rw[k]at e
  match a0,e,k with
  |some (.nd .ls os0),e,k=>
   obtain⟨⟨G,s⟩,h1,e⟩:=bS_<|e;obtain⟨v0,f,t⟩:=R.sl i _ k;generalize W:U i=fp0 at t;cases t with
   |ls I rl0=>
   rename_i l vs0 Y;refine⟨_,f,.inl ⟨rfl,_,.inl<|.inl I⟩,F,B,U,as,G,s,R,h1,λws J x L j M g1=>?_⟩;cases p:s[i]? with
   |none=>rw[p]at e;cases e
   |some a2=>
    rw[p]at e
    match a2,e,p with
    |some (.nd .ls Z),e,p=>
     obtain⟨⟨y,o⟩,h3,e⟩:=bS_<|e;cases e;obtain⟨v1,A,C⟩:=j.sl i _ p;rw[f]at A;cases A;generalize c:x i=fp1 at C;cases C with
     |ls hH rl=>
     rename_i vs fp;have N:=zxD.mpr ⟨by have:=j.nd i;rw[c]at this;exact(zzW.mp this).2,j.tnd,λa m b m' e=>by
          subst e;exact j.dis i a (by rw[c];exact zzD _ m) m'⟩
     refine hr F B _ _ vs ws Z G y o fp J L Q hH rl M N h3 λv D fp' fo O P d E=>?_;obtain⟨R3,g3⟩:=j.mut (zzG.mp p).1 c f d E (by rw[hH];simp) λH' G' S gr kp=>.ls S<|ZN.grow gr kp O;have T:∀a ∈ fo,∀w,L a=some w->upd L l (.lst D) a=some w:=λa m w h=>by
          rw[zK λe=>?_]
          . exact h
          . subst e
            rcases zzM.mp (d _<|zzL _ m)with z|z
            . have:=j.nd i;rw[c]at this;exact(zzW.mp this).1 z
            . exact j.dis i _ (by rw[c];exact zzF) z
     exact q v fo _ _ R3 (Xy.grow g3 T P)<|g1.trans g3
end
end PF
end
section
set_option exponentiation.threshold 5000
namespace PF
open PySem PySem.Spec PyProof.Rows L2
section
variable{K:zzA}{kd:KD}{O:Addr->Prop}{H:Hp}{Q:VK}
def yj(q:RQ K kd O H Q (.im d))(r:Rp K kd O H v d):Q v H:=q v H (λ_ _ z=>z) r
def Dm(hp:H p=none)(r:RpL K kd O H vs ds):RpL K kd (TB O (· = p)) (upd H p o) vs ds:=
 RpL.grow ⟨λb u q _=>by rw[zK<|yg q hp];exact q,λb z=>.inr<|by rwa [z]⟩ (r.less λa z=>z.elim id False.elim)
def ZX{p o}(hp:H p=none):∀b u,H b=some u->upd H p o b=some u:=λb u q=>by rwa [zK<|yg q hp]
def LA{vs ds}(q:RQ K kd O H Q (.fl ds))(r:RpL K kd O H vs ds):∀p,H p=none->Q (.ref p) (upd H p<|.lst vs):=λp hp=>
 q p vs _ hp (ZX hp) yd (Dm hp r)
def Ox{vs ds}(ht:∀a,O a->H a≠none)(q:RQ K kd O H Q (.im<|.tup ds))(r:RpL K kd O H vs ds):∀p,H p=none->Q (.ref p) (upd H p<|.tup vs):=λp hp=>
 q _ _ (ZX hp) (.tup (λz=>ht p z hp) (.inl yd)<|(Dm hp r).less λa z=>.inl z)
end
def big:Nat:=2 ^ 4000
def pC{i}(h:i.natAbs<2 ^ 64):Builtin.Int.intBits i<=64:=by
 unfold Builtin.Int.intBits
 split
 . exact Nat.zero_le _
 . rcases Nat.eq_zero_or_pos i.natAbs with h0|hp
   . rw[h0];decide
   . exact(Nat.log2_lt<|Nat.ne_of_gt hp).mpr h
abbrev bg:=Att.bg
def Ju:big<bg:=by
 unfold big bg Att.bg;exact Nat.pow_lt_pow_right (m:=4000) (n:=1048576) (by decide) (by decide)
def Dw(h:i.natAbs<bg):Builtin.Int.intBits i<=2 ^ 20:=by
 unfold bg Att.bg at h;exact zzO (intBits_le_iff.mpr h) (by decide)
def pH(f:Int->Int->Option R0)(x y:D):Option R0:=(Jj x).bind λi=>(Jj y).bind λj=>f i j
def eH(x y:D):Option R0:=match x with
 | .int i=>(Jj y).bind λj=>some<|.im<|.int<|i+j
 | .str x=>(dW y).bind λy=>if x.length+y.length<=sizeLine then some (.im<|.str<|x++y)else none
 | .lst xs=>(hV y).bind λys=>if xs.length+ys.length<=sizeLine then some (.fl<|xs++ys)else none
 | .tup xs=>(cn y).bind λys=>if xs.length+ys.length<=sizeLine then some (.im<|.tup<|xs++ys)else none
 |_=>none
def f_(x y:D):Option R0:=match x with
 | .int i=>(Jj y).bind λj=>if(i.natAbs<bg/\j.natAbs<bg)\/j.natAbs<2 ^ 64 then some (.im<|.int<|i*j)else none
 | .lst xs=>(Jj y).bind λk=>if -(2 ^ 63)<=k/\k<2 ^ 63/\xs.length*k.toNat<=sizeLine then some (.fl (List.replicate k.toNat xs).flatten)else none
 | .tup xs=>(Jj y).bind λk=>if 1<=k/\k<2 ^ 63/\xs.length≠0/\xs.length*k.toNat<=sizeLine then some (.im<|.tup (List.replicate k.toNat xs).flatten)else none
 |_=>none
def W7(o:Operator)(x y:D):Option R0:=match o with
 | .Add=>eH x y
 | .Sub=>pH (λi j=>some<|.im<|.int<|i-j) x y
 | .Mult=>f_ x y
 | .FloorDiv=>pH (λi j=>if 0<j/\j.natAbs<big then some (.im<|.int<|i/j)else none) x y
 | .Mod=>pH (λi j=>if 0<j then some (.im<|.int<|i%j)else none) x y
 | .Pow=>pH (λi j=>if 0<=j/\j<=1000000/\i.natAbs<2 ^ 64 then some (.im<|.int<|i ^ j.toNat)else none) x y
 |_=>none
def QA{K kd O H v d i}(h:Vw K kd O H v d)(e:Jj d=some i):d = .int i/\v = .int i:=by
 cases h with
 |int j=>cases e;exact ⋯
 |_=>cases e
def lg{K kd O H v d i}(h:Vw K kd O H v d)(e:dW d=some i):d = .str i/\v = .str i:=by
 cases h with
 |str j=>cases e;exact ⋯
 |_=>cases e
def QL{K kd O H v w d e f r}(vx:Vw K kd O H v d)(vy:Vw K kd O H w e)(h:pH f d e=some r):∃i j,v = .int i/\w = .int j/\f i j=some r:=by
 obtain⟨i,a,h⟩:=bS_<|h;obtain⟨j,b,h⟩:=bS_ h;exact⟨i,j,(QA vx a).2,(QA vy b).2,h⟩
section
variable{X:Cx}{kd:KD}
def pj:LP X (binaryOp .Add) (λx y H Q=>∃l b xs zs,x = .ref l/\y = .ref b/\sS X.K H l xs/\sS X.K H b zs/\xs.length+zs.length<=sizeLine/\∀p,H p=none->Q (.ref p) (upd H p<|.lst<|xs++zs)):=by
 intro d s σ H x y v u Q I g i h;obtain⟨l,b,w,A,rfl,rfl,j,k,B,q⟩:=h;cases g;cases i;obtain⟨z,c,n,r,e⟩:=JZ I j;obtain⟨C,a,D,f,m⟩:=JZ I k;have E:=r.length;have o:=f.length;refine PySem.P.add_list e m ?_ (by rw[zzH,zzH];omega);have t:c.toArray++a.toArray=(c++a).toArray:=⋯;rw[t];exact⟨.ref _,_,I.lnew (t':=s.toks) (r.append f) (by rw[zzJ];omega),rfl,q _ I.fresh⟩
def qS:LP X (binaryOp .Mult) (λx y H Q=>∃l k xs,x = .ref l/\y = .int k/\sS X.K H l xs /\ -(2 ^ 63)<=k/\k<2 ^ 63/\xs.length*k.toNat<=sizeLine/\
 ∀p,H p=none->Q (.ref p) (upd H p<|.lst (List.replicate k.toNat xs).flatten)):=by
 intro w s σ H x y v u Q I B C h;obtain⟨l,k,N,rfl,rfl,D,E,G,A,q⟩:=h;cases B;obtain⟨t,rfl⟩:=C;obtain⟨z,b,n,r,e⟩:=JZ I D;have J:=r.length;have d:b.toArray.size*k.toNat<=sizeLine:=by rwa [zzH,<-J]
 have f:¬b.toArray.size*k.toNat > (2 ^ 63-1)/8:=by
  have:sizeLine<=(2 ^ 63-1)/8:=by decide
  omega
 have g:¬(!Builtin.List.listFitsIndex k)=true:=by
  rw[fitsIndex_both E G];exact zyV
 have c:¬Builtin.List.listTooLong (b.toArray.size*k.toNat)=true:=by
  rw[rO d];exact zyV
 have i:List.foldl (λj o=>j++o) #[] (List.replicate (if b.toArray.isEmpty=true then 0 else k.toNat) b.toArray)=(List.replicate k.toNat b).flatten.toArray:=by
  have L:=λm=>by
   have:=foldl_rep b m []
   rwa [List.nil_append]at this
  rw[L];cases b with
  |nil=>simp
  |cons a O=>rw[if_neg<|by simp]
 refine wpAny_binaryOp_repeat_ref (by decide) ⟨_,e,rfl⟩ (λM=>typeIs_int M k t) noFill_list_mul F.fills_int_mul F.slot_int_rmul repeat_list F.slot_int_index.lookup
  (call_meets F.slot_int_rmul ⋯ F.entry_int_rmul ⋯ (int___rmul___int_list k t l b.toArray n)
   ⟨e,rfl,⟨_,e,rfl⟩,call_meets F.slot_list_mul ⟨_,e,rfl⟩ F.entry_list_mul (F.args_list_mul_2 _ _) (AutoListH.list___mul___list_int_3 l b.toArray n k t g f c) ⟨e, ?_⟩⟩)
 rw[i];refine⟨.ref _,_,I.lnew (t':=s.toks) (r.rep k.toNat) ?_,rfl,q _ I.fresh⟩
 rwa [len_rep,Nat.mul_comm]
def tuple_addW0(l b)(items items2)(n n2:Nat)(dd dd2)(sl sl2)(h0:items.isEmpty=true):
 Meets (Builtin.«tuple.__add__» {pos:=[.ref l,.ref b]}) (λ_ R s=>s.heap.get? l=some {cls:=.type "tuple",dict:=dd,data:=.seq items n,slots:=sl}/\s.heap.get? b=some {cls:=.type "tuple",dict:=dd2,data:=.seq items2 n2,slots:=sl2}/\R (.ok<|.ret<|.ref b) s):=
 .of_wp λa w A R s h=>by
  obtain⟨c,e,h⟩:=h;have f2:=AutoSeq1.sub_tuple_tuple
  wp_walk using wpAny_loadPart' c,wpAny_loadPart' e
  exact⟨_,rfl,h⟩
def IP(l)(items)(n:Nat)(dd)(sl)(u):
 Meets (Builtin.«tuple.__mul__» {pos:=[.ref l,.int 1 u]}) (λ_ R s=>s.heap.get? l=some {cls:=.type "tuple",dict:=dd,data:=.seq items n,slots:=sl}/\R (.ok<|.ret<|.ref l) s):=
 .of_wp λa w A R s h=>by
  obtain⟨b,h⟩:=h
  wp_walk using wpAny_loadPart' b
  exact⟨_,rfl,h⟩
def IQ(l)(items its2:Array Value)(n:Nat)(dd)(sl)(x)(u)(c1:¬(decide (x < -2 ^ 63)||decide (x ≥ 2 ^ 63))=true)(c2:¬(items.isEmpty||x==1)=true)(c3:¬(decide (x<=0)||items.isEmpty)=true)
 (hcap:¬(items.size:Int)*x > (2 ^ 63-1)/8) (ht:¬Builtin.Tuple.tupleTooMany (items.size*x)=true) (hz:¬(List.foldl (λx1 x2=>x1++x2) #[] (List.replicate x.toNat items)).size > sizeLine):
 Meets (Builtin.«tuple.__mul__» {pos:=[.ref l,.int x u]}) (λ_ R s=>s.heap.get? l=some {cls:=.type "tuple",dict:=dd,data:=.seq items n,slots:=sl}/\R (.ok<|.ret<|.ref s.heap.objs.size) {s with heap:=s.heap.push {cls:=.type "tuple",data:=.seq (List.foldl (λx1 x2=>x1++x2) #[] (List.replicate x.toNat items))}}):=
 .of_wp λa w A R s h=>by
  obtain⟨b,h⟩:=h
  wp_walk using wpAny_loadPart' b
  rw[if_neg c1]
  wp_walk using wpAny_loadPart' b
  rw[if_neg hcap]
  wp_walk
  exact⟨_,rfl,h⟩
def Ll:fillsNumberSlot (Value.type "tuple") "mul"=pure false:=⋯
def HL:seqRepeat? (Value.type "tuple")=pure (some<|Value.builtin "tuple.__mul__"):=⋯
def Fi(a)(t)(l)(items)(n:Nat)(dd)(sl):
 Meets (Builtin.«int.__rmul__» {pos:=[.int a t,.ref l]}) (λ_ R s=>s.heap.get? l=some {cls:=.type "tuple",dict:=dd,data:=.seq items n,slots:=sl}/\R (.ok<|.ret .notImplemented) s):=
 .of_wp λb w A R s h=>by
  obtain⟨c,h⟩:=h
  wp_walk using wpAny_load' c,wpAny_loadPart' c
  exact⟨_,rfl,h⟩
def o7:LP X (binaryOp .Add) (λx y H Q=>∃a b ys,x = .ref a/\y = .ref b/\Gx X.K H a []/\Gx X.K H b ys/\Q (.ref b) H):=by
 intro j s σ H x y v u Q I t w h;obtain⟨a,b,M,rfl,rfl,z,A,q⟩:=h;cases t;cases w;obtain⟨B,C,D,_⟩:=I.tuple z;obtain⟨k,N,E,_⟩:=I.tuple A;cases C;obtain⟨⟨cls,G,l,J⟩,m,o,n,p⟩:=id D;obtain⟨⟨r,f,g,i⟩,c,d,L,e⟩:=id E;subst o p d e;exact concat_meets ⟨_,m,rfl⟩ ⟨_,c,rfl⟩ noFill_tuple_add seq_tuple_add PySem.F.slot_tuple_add PySem.F.entry_tuple_add (PySem.F.args_tuple_add_2 _ _) (tuple_addW0 a b _ _ n L G f J i rfl) ⟨m,c,⟨.ref b,H,I,rfl,q⟩⟩
def nr:LP X (binaryOp .Mult) (λx y H Q=>∃l k xs,x = .ref l/\y = .int k/\Gx X.K H l xs/\xs≠[]/\1<=k/\k<2 ^ 63/\xs.length*k.toNat<=sizeLine/\(k=1->Q (.ref l) H)/\
 (2<=k->∀p,H p=none->Q (.ref p) (upd H p<|.tup (List.replicate k.toNat xs).flatten))):=by
 intro A s σ H x y v u Q I M N h;obtain⟨l,k,B,rfl,rfl,O,i,Y,Z,C,P,R⟩:=h;cases M;obtain⟨t,rfl⟩:=N;obtain⟨c,r,p,_⟩:=I.tuple O;have j:=r.length;have f:c.toArray.size*k.toNat<=sizeLine:=by rwa [zzH,<-j]
 have g:((c.toArray.size:Int)*k)=((c.toArray.size*k.toNat:Nat):Int):=by
  rw[zzV,Int.toNat_of_nonneg<|by omega]
 have D:c.toArray.isEmpty=false:=by
  cases c with
  |nil=>rw[List.length_nil]at j;exact absurd (List.length_eq_zero_iff.mp j) i
  |cons a r'=>rfl
 have d:List.foldl (λS V=>S++V) #[] (List.replicate k.toNat c.toArray)=(List.replicate k.toNat c).flatten.toArray:=by
  have:=foldl_rep c k.toNat [];exact this
 obtain⟨⟨cls,m,E,w⟩,e,G,n,J⟩:=id p;subst G J;refine wpAny_binaryOp_repeat_ref (by decide) ⟨_,e,rfl⟩ (λW=>typeIs_int W k t) Ll F.fills_int_mul F.slot_int_rmul HL F.slot_int_index.lookup
  (call_meets F.slot_int_rmul (typeIs_int s k t) F.entry_int_rmul (F.args_int_rmul_2 _ _) (Fi k t l c.toArray n m w) ⟨e,rfl,⟨_,e,rfl⟩, ?_⟩)
 by_cases L:k=1
 . subst L;exact call_meets F.slot_tuple_mul ⟨_,e,rfl⟩ F.entry_tuple_mul ⋯ (IP l c.toArray n m w t) ⟨e,⟨.ref l,H,I,rfl,P rfl⟩⟩
 . have z:(List.replicate k.toNat B).flatten.length<=sizeLine:=by rwa [len_rep,Nat.mul_comm]
   refine call_meets F.slot_tuple_mul ⟨_,e,rfl⟩ F.entry_tuple_mul (F.args_tuple_mul_2 _ _) (IQ l c.toArray #[] n m w k t (by simp;omega) (by rw[D];simpa using L) (by rw[D];simp;omega) ?_ ?_ ?_) ⟨e, ?_⟩
   . rw[g];have:(sizeLine:Int)<=(2 ^ 63-1)/8:=by decide
     omega
   . unfold Builtin.Tuple.tupleTooMany;rw[g];simp only[gt_iff_lt,decide_eq_true_eq];omega
   . rw[d,zzH,len_rep,Nat.mul_comm];rw[zzH]at f;omega
   . rw[d];refine⟨.ref s.heap.objs.size,_,I.laid (t':=s.toks) (λb ob q=>zxG _ q) (zzN _) ?_,rfl,R (by omega) _<|I.hok.fresh<|zzN _⟩;exact⟨z,_,r.rep k.toNat,IsTup.new _ _⟩
def km(op):kJ X kd (binaryOp op) (W7 op):=by
 intro pins s σ H x y v u Q I rx ry h;obtain⟨O,d,e,r,ht,vx,vy,he,q⟩:=h;cases op with
 |Add=>
  cases vx with
  |int i=>
   obtain⟨j,h1,he⟩:=bS_<|he;obtain⟨rfl,rfl⟩:=QA vy h1;cases he;exact Ab pins s σ H _ _ v u Q I rx ry ⟨_,_,rfl,rfl,yj q<|.int _⟩
  |str i=>
   obtain⟨j,h1,he⟩:=bS_<|he;obtain⟨rfl,rfl⟩:=lg vy h1;obtain⟨c,rfl⟩:=zy he;exact Ah pins s σ H _ _ v u Q I rx ry ⟨_,_,rfl,rfl,c,yj q<|.str _⟩
  |lst hx rx'=>
   obtain⟨j,h1,he⟩:=bS_<|he;cases OW h1;obtain⟨c,rfl⟩:=zy he;cases vy with
   |lst hy ry'=>exact pj pins s σ H _ _ v u Q I rx ry ⟨_,_,_,_,rfl,rfl,hx,hy,by rw[rx'.length,ry'.length];exact c,LA q<|rx'.append ry'⟩
  | @tup a1 vs1 ds1 r1 hx rx'=>
   obtain⟨j,h1,he⟩:=bS_<|he;cases m9 h1;obtain⟨c,rfl⟩:=zy he;cases vy with
   |tup r2 hy ry'=>
    by_cases h0:vs1=([]:List V)
    . subst h0;cases rx';exact o7 pins s σ H _ _ v u Q I rx ry ⟨_,_,_,rfl,rfl,hx,hy,yj q r2⟩
    refine pZ pins s σ H _ _ v u Q I rx ry ⟨_,_,_,_,rfl,rfl,hx,hy,h0,by rw[rx'.length,ry'.length];exact c,λhn=>?_,λhn=>Ox ht q<|rx'.append ry'⟩
    . subst hn;cases ry';rw[zyE]at q;exact yj q r1
  |_=>cases he
 |Sub=>
  obtain⟨i,j,rfl,rfl,he⟩:=QL vx vy he;cases he;exact jO pins s σ H _ _ v u Q I rx ry ⟨_,_,rfl,rfl,yj q<|.int _⟩
 |Mult=>
  cases vx with
  |int i=>
   obtain⟨j,h1,he⟩:=bS_<|he;obtain⟨rfl,rfl⟩:=QA vy h1;obtain⟨c,rfl⟩:=zy he;obtain⟨t,rfl⟩:=rx;obtain⟨t',rfl⟩:=ry;exact mul_int ⟨.int _,H,I.tok _,⟨_,rfl⟩,yj q<|.int _⟩ (c.elim (λc=>IntMulOk.of_bits (Dw c.1)<|Dw c.2) λc=>IntMulOk.of_right<|pC c)
  |lst hx rx'=>
   obtain⟨j,h1,he⟩:=bS_<|he;obtain⟨rfl,rfl⟩:=QA vy h1;obtain⟨c,rfl⟩:=zy he;exact qS pins s σ H _ _ v u Q I rx ry ⟨_,_,_,rfl,rfl,hx,c.1,c.2.1,by rw[rx'.length];exact c.2.2,LA q<|rx'.rep _⟩
  |tup r1 hx rx'=>
   obtain⟨j,h1,he⟩:=bS_<|he;obtain⟨rfl,rfl⟩:=QA vy h1;obtain⟨c,rfl⟩:=zy he;refine nr pins s σ H _ _ v u Q I rx ry ⟨_,_,_,rfl,rfl,hx,λe=>?_,c.1,c.2.1,by rw[rx'.length];exact c.2.2.2,λe=>?_,λ_=>Ox ht q<|rx'.rep _⟩
   . have:=rx'.length;rw[e]at this;exact c.2.2.1 this.symm
   . subst e;refine yj q ?_;rw[show(1:Int).toNat=1 from rfl,List.replicate_one,List.flatten_cons,List.flatten_nil,zyE];exact r1
  |_=>cases he
 |FloorDiv=>
  obtain⟨i,j,rfl,rfl,he⟩:=QL vx vy he;obtain⟨c,rfl⟩:=zy he;obtain⟨t,rfl⟩:=rx;obtain⟨t',rfl⟩:=ry;refine floordiv_int (by omega) ?_<|.inl<|PyProof.noPylong_of_log2 ?_
  . rw[Int.fdiv_eq_ediv_of_nonneg _<|by omega];exact⟨.int _,H,I.tok _,⟨_,rfl⟩,yj q<|.int _⟩
  . exact zzK ((Nat.log2_lt<|by have:=c.1;omega).mpr<|c.2) (by decide)
 |Mod=>
  obtain⟨i,j,rfl,rfl,he⟩:=QL vx vy he;obtain⟨c,rfl⟩:=zy he;exact jy pins s σ H _ _ v u Q I rx ry ⟨_,_,rfl,rfl,c,yj q<|.int _⟩
 |Pow=>
  obtain⟨i,j,rfl,rfl,he⟩:=QL vx vy he;obtain⟨c,rfl⟩:=zy he;exact kX pins s σ H _ _ v u Q I rx ry ⟨_,_,rfl,rfl,c,yj q<|.int _⟩
 |_=>cases he
end
def qF(f:D->D->Option Bool):List D->List D->Option Bool
 | [],[]=>some true
 |x::r,y::t=>(f x y).bind λb=>(qF f r t).bind λc=>some (b&&c)
 |_,_=>some false
def Tu:Nat->D->D->Option Bool
 |0,_,_=>none
 |_+1,.non,.non=>some true
 |_+1,.bl a,.bl b=>some (a==b)
 |_+1,.int a,.int b=>some (a==b)
 |_+1,.str a,.str b=>some (a==b)
 |_+1,.bl a,.int b=>some ((if a then 1 else 0)==b)
 |_+1,.int a,.bl b=>some (a==(if b then 1 else 0))
 |n+1,.lst xs,.lst ys=>qF (Tu n) xs ys
 |n+1,.tup xs,.tup ys=>qF (Tu n) xs ys
 |_+1,.dct _,_=>none
 |_+1,.cl _,_=>none
 |_+1,.ob _ _ _,_=>none
 |_+1,_,.dct _=>none
 |_+1,_,.cl _=>none
 |_+1,_,.ob _ _ _=>none
 |_+1,_,_=>some false
def oZ(f:D->D->Option Bool)(xs ys:List D)(j:Nat):Bool:=match xs[j]?,ys[j]? with
 |some d,some e=>(f d e).getD false
 |_,_=>false
theorem ES:∀{xs ys:List D}{b:Bool},qF f xs ys=some b->(∀(j:Nat) d e,xs[j]? = some d->ys[j]? = some e->∃c,f d e=some c)/\
 b=((List.range<|min xs.length ys.length).all (oZ f xs ys)&&xs.length==ys.length)
 | [],[],b,h=>by cases h;exact⟨λj d e h=>by simp at h,⋯⟩
 | [],y::t,b,h=>by cases h;exact⟨λj d e h=>by simp at h,⋯⟩
 |x::r,[],b,h=>by cases h;exact⟨λj d e _ h=>by simp at h,⋯⟩
 |x::r,y::t,b,h=>by
  obtain⟨b1,h1,h⟩:=bS_<|h;obtain⟨c1,h2,h⟩:=bS_ h;cases h;obtain⟨k1,k2⟩:=ES h2;refine⟨λj d e hd he=>?_, ?_⟩
  . cases j with
    |zero=>simp at hd he;subst hd he;exact⟨b1,h1⟩
    |succ j=>exact k1 j d e ⋯ ⋯
  . have e0:min (x::r).length (y::t).length=min r.length t.length+1:=by simp only[zzT];omega
    rw[e0,List.range_succ_eq_map,List.all_cons,List.all_map,k2];have e1:oZ f (x::r) (y::t) 0=b1:=by show(f x y).getD false=b1;rw[h1];rfl
    have e2:(oZ f (x::r) (y::t)∘Nat.succ)=oZ f r t:=⋯;have e3:((x::r).length==(y::t).length)=(r.length==t.length):=⋯;rw[e1,e2,e3,Bool.and_assoc]
structure EqAll(A:Around)(s:Shared)(u v:Value)(b:Bool):Prop where
 rc:SeqAt.RcAt A s u v b
 ne:SeqAt.RcNeAt A s u v (!b)
 eq:SeqAt.EqAt A s u v b
section
variable{X:Cx}{kd:KD}{pins:List (Addr×Obj)}{σ:St}{H:Hp}{s:Shared}{O:Addr->Prop}
def DX(I:Inv X pins σ H s)(h:Gx X.K H a xs)(h':FT X.K H a ys):False:=by
 obtain⟨_,_,⟨o,e,c,_⟩,_⟩:=I.tuple h;obtain⟨_,_,⟨f,n,b,d,_⟩,_⟩:=I.list h';rw[e]at b;cases b;rw[c]at d;exact absurd d (by decide)
theorem AQ(I:Inv X pins σ H s):∀(n:Nat) (v:V) (d e:D) (b:Bool),Vw X.K kd O H v d->Vw X.K kd O H v e->Tu n d e=some b->b=true
 |0,_,_,_,_,_,_,h=>by cases h
 |n+1,v,d,e,b,p,f,h=>by
  have lst:∀i (l m:List D) b,RpL X.K kd O H i l->RpL X.K kd O H i m->qF (Tu n) l m=some b->b=true:=by
   intro i
   induction i with
   |nil=>intro l m b g a h;cases g;cases a;cases h;rfl
   |cons v i q=>
    intro l m b g a h;cases g with
    |cons r g=>
     cases a with
     | cons t a=>
            obtain⟨y,u,h⟩:=bS_<|h;obtain⟨z,w,h⟩:=bS_ h;cases h;rw[AQ I n _ _ _ _ r.vw t.vw u,q _ _ _ g a w];rfl
  cases p with
  |non=>cases f;cases h;rfl
  |bl x=>cases f;cases h;simp
  |int x=>cases f;cases h;simp
  |str x=>cases f;cases h;simp
  |tup g j o=>
   cases f with
   |tup a c k=>
    have:=I.tuple_inj j c;subst this;exact lst _ _ _ _ o k h
   |lst c k=>exact(DX I j c.sq).elim
   |_=>cases h
  |lst j o=>
   cases f with
   |tup a c k=>exact(DX I c j.sq).elim
   |lst c k=>
    have:=I.list_inj j.sq c.sq;subst this;exact lst _ _ _ _ o k h
   |_=>cases h
  |_=>cases h
theorem OB(I:Inv X pins σ H s):∀(n:Nat) (A:Around) (x y:V) (d e:D) (u v:Value) (b:Bool),A.units+n<cLine->Vw X.K kd O H x d->Vw X.K kd O H y e->RelV x u->RelV y v->Tu n d e=some b->EqAll A s u v b
 |0,_,_,_,_,_,_,_,_,_,_,_,_,_,h=>by cases h
 |n+1,A,x,y,d,e,u,v,b,hu,h1,E,R,k,h=>by
  have f:A.units<cLine:=by omega
  have W:∀{vs ws:List V}{l g:List Value}{S T:List D},RpL X.K kd O H vs S->RpL X.K kd O H ws T->zR vs l->zR ws g->(∀(j:Nat) d e,S[j]? = some d->T[j]? = some e->∃c,Tu n d e=some c)->
   ∀j h1 (E:j<g.toArray.size),SeqAt.EqAt A.in1 s l.toArray[j] g.toArray[j] (oZ (Tu n) S T j):=by
   intro vs ws l g S T F q v1 v2 hd j j1 j2;have q1:j<S.length:=by rw[<-F.length,v1.length];simpa using j1
   have q2:j<T.length:=by rw[<-q.length,v2.length];simpa using j2
   obtain⟨L,ha1,ra1⟩:=F.get<|zzE q1;obtain⟨M,ha2,ra2⟩:=q.get<|zzE q2;obtain⟨u1,hu1,ru1⟩:=v1.get ha1;obtain⟨u2,hu2,ru2⟩:=v2.get ha2;obtain⟨c,hc⟩:=hd j _ _ (zzE q1)<|zzE q2;have e1:l.toArray[j]=u1:=by
    have:=(zzG.mp hu1).2;simpa using this
   have e2:g.toArray[j]=u2:=by
    have:=(zzG.mp hu2).2;simpa using this
   rw[e1,e2];have e3:oZ (Tu n) S T j=c:=by
    unfold oZ;rw[zzE q1,zzE q2];show(Tu n _ _).getD false=c;rw[hc];rfl
   rw[e3];exact(OB I n A.in1 L M _ _ u1 u2 c (by show A.units+1+n<cLine;omega) ra1.vw ra2.vw ru1 ru2 hc).eq
  have G:∀{a a':Addr},x = .ref a->y = .ref a'->a=a'->b=true:=by
   intro a a' e1 e2 e3;subst e1 e2 e3;exact AQ I (n+1) _ _ _ _ h1 E h
  cases h1 with
  |non=>
   cases R;cases E with
   |non=>cases k;cases h;exact⟨SeqAt.RcAt.none_none,SeqAt.RcNeAt.none_none,SeqAt.EqAt.same _⟩
   |bl=>cases k;cases h;exact⟨SeqAt.RcAt.none_bool _,SeqAt.RcNeAt.none_bool _,SeqAt.EqAt.none_bool _⟩
   |int=>obtain⟨t,rfl⟩:=k;cases h;exact⟨SeqAt.RcAt.none_int _ _,SeqAt.RcNeAt.none_int _ _,SeqAt.EqAt.none_int _ _⟩
   |str=>obtain⟨t,rfl⟩:=k;cases h;exact⟨SeqAt.RcAt.none_str _ _,SeqAt.RcNeAt.none_str _ _,SeqAt.EqAt.none_str _ _⟩
   |tup r o q=>
    cases k;cases h;obtain⟨l,J,p,_⟩:=I.tuple o;exact⟨SeqAt.RcAt.none_tuple p f,SeqAt.RcNeAt.none_tuple p f,SeqAt.EqAt.none_tuple p f⟩
   |lst o q=>
    cases k;cases h;obtain⟨l,J,p,_⟩:=I.list o.sq;exact⟨SeqAt.RcAt.none_list p.isList f,SeqAt.RcNeAt.none_list p.isList f,SeqAt.EqAt.none_list p.isList f⟩
   |_=>cases h
  |bl c=>
   cases R;cases E with
   |non=>cases k;cases h;exact⟨SeqAt.RcAt.bool_none _,SeqAt.RcNeAt.bool_none _,SeqAt.EqAt.bool_none _⟩
   |bl=>cases k;cases h;exact⟨SeqAt.RcAt.bool_bool _ _,SeqAt.RcNeAt.bool_bool _ _,SeqAt.EqAt.bool_bool _ _⟩
   |int=>obtain⟨t,rfl⟩:=k;cases h;exact⟨SeqAt.RcAt.bool_int _ _ _,SeqAt.RcNeAt.bool_int _ _ _,SeqAt.EqAt.bool_int _ _ _⟩
   |str=>obtain⟨t,rfl⟩:=k;cases h;exact⟨SeqAt.RcAt.bool_str _ _ _,SeqAt.RcNeAt.bool_str _ _ _,SeqAt.EqAt.bool_str _ _ _⟩
   |tup r o q=>
    cases k;cases h;obtain⟨l,J,p,_⟩:=I.tuple o;exact⟨SeqAt.RcAt.bool_tuple _ p f,SeqAt.RcNeAt.bool_tuple _ p f,SeqAt.EqAt.bool_tuple _ p f⟩
   |lst o q=>
    cases k;cases h;obtain⟨l,J,p,_⟩:=I.list o.sq;exact⟨SeqAt.RcAt.bool_list _ p.isList f,SeqAt.RcNeAt.bool_list _ p.isList f,SeqAt.EqAt.bool_list _ p.isList f⟩
   |_=>cases h
  |int c=>
   obtain⟨t0,rfl⟩:=R;cases E with
   |non=>cases k;cases h;exact⟨SeqAt.RcAt.int_none _ _,SeqAt.RcNeAt.int_none _ _,SeqAt.EqAt.int_none _ _⟩
   |bl=>cases k;cases h;exact⟨SeqAt.RcAt.int_bool _ _ _,SeqAt.RcNeAt.int_bool _ _ _,SeqAt.EqAt.int_bool _ _ _⟩
   |int=>obtain⟨t,rfl⟩:=k;cases h;exact⟨SeqAt.RcAt.int_int _ _ _ _,SeqAt.RcNeAt.int_int _ _ _ _,SeqAt.EqAt.int_int _ _ _ _⟩
   |str=>obtain⟨t,rfl⟩:=k;cases h;exact⟨SeqAt.RcAt.int_str _ _ _ _,SeqAt.RcNeAt.int_str _ _ _ _,SeqAt.EqAt.int_str _ _ _ _⟩
   |tup r o q=>
    cases k;cases h;obtain⟨l,J,p,_⟩:=I.tuple o;exact⟨SeqAt.RcAt.int_tuple _ _ p f,SeqAt.RcNeAt.int_tuple _ _ p f,SeqAt.EqAt.int_tuple _ _ p f⟩
   |lst o q=>
    cases k;cases h;obtain⟨l,J,p,_⟩:=I.list o.sq;exact⟨SeqAt.RcAt.int_list _ _ p.isList f,SeqAt.RcNeAt.int_list _ _ p.isList f,SeqAt.EqAt.int_list _ _ p.isList f⟩
   |_=>cases h
  |str c=>
   obtain⟨t0,rfl⟩:=R;cases E with
   |non=>cases k;cases h;exact⟨SeqAt.RcAt.str_none _ _,SeqAt.RcNeAt.str_none _ _,SeqAt.EqAt.str_none _ _⟩
   |bl=>cases k;cases h;exact⟨SeqAt.RcAt.str_bool _ _ _,SeqAt.RcNeAt.str_bool _ _ _,SeqAt.EqAt.str_bool _ _ _⟩
   |int=>obtain⟨t,rfl⟩:=k;cases h;exact⟨SeqAt.RcAt.str_int _ _ _ _,SeqAt.RcNeAt.str_int _ _ _ _,SeqAt.EqAt.str_int _ _ _ _⟩
   |str=>obtain⟨t,rfl⟩:=k;cases h;exact⟨SeqAt.RcAt.str_str _ _ _ _,SeqAt.RcNeAt.str_str _ _ _ _,SeqAt.EqAt.str_str _ _ _ _⟩
   |tup r o q=>
    cases k;cases h;obtain⟨l,J,p,_⟩:=I.tuple o;exact⟨SeqAt.RcAt.str_tuple _ _ p f,SeqAt.RcNeAt.str_tuple _ _ p f,SeqAt.EqAt.str_tuple _ _ p f⟩
   |lst o q=>
    cases k;cases h;obtain⟨l,J,p,_⟩:=I.list o.sq;exact⟨SeqAt.RcAt.str_list _ _ p.isList f,SeqAt.RcNeAt.str_list _ _ p.isList f,SeqAt.EqAt.str_list _ _ p.isList f⟩
   |_=>cases h
  | @tup L vs1 N r s1 F=>
   cases R;obtain⟨m,z,i,_⟩:=I.tuple s1;cases E with
   |non=>cases k;cases h;exact⟨SeqAt.RcAt.tuple_none i f,SeqAt.RcNeAt.tuple_none i f,SeqAt.EqAt.tuple_none i f⟩
   |bl=>cases k;cases h;exact⟨SeqAt.RcAt.tuple_bool _ i f,SeqAt.RcNeAt.tuple_bool _ i f,SeqAt.EqAt.tuple_bool _ i f⟩
   |int=>obtain⟨t,rfl⟩:=k;cases h;exact⟨SeqAt.RcAt.tuple_int _ _ i f,SeqAt.RcNeAt.tuple_int _ _ i f,SeqAt.EqAt.tuple_int _ _ i f⟩
   |str=>obtain⟨t,rfl⟩:=k;cases h;exact⟨SeqAt.RcAt.tuple_str _ _ i f,SeqAt.RcNeAt.tuple_str _ _ i f,SeqAt.EqAt.tuple_str _ _ i f⟩
   | @tup M vs2 P r' o q=>
    cases k;obtain⟨g,w,B,_⟩:=I.tuple o;obtain⟨k1,k2⟩:=ES h;have Y:=W F q z w k1;have Z:((List.range<|min m.toArray.size g.toArray.size).all (oZ (Tu n) N P)&&m.toArray.size==g.toArray.size)=b:=by
     rw[k2,zzH,zzH,<-z.length,<-w.length,F.length,q.length]
    have U:=SeqAt.RcAt.tuples i B f Y;have b2:=SeqAt.RcNeAt.tuples i B f Y;rw[Z]at U b2;refine⟨U,b2, ?_⟩
    by_cases Q:L=M
    . have hb:=G rfl rfl Q;subst Q;rw[hb];exact SeqAt.EqAt.same _
    . exact SeqAt.EqAt.of_refs Q U
   |lst o q=>
    cases k;cases h;obtain⟨l,J,p,_⟩:=I.list o.sq;exact⟨SeqAt.RcAt.tuple_list i p.isList f,SeqAt.RcNeAt.tuple_list i p.isList f,SeqAt.EqAt.tuple_list i p.isList f⟩
   |_=>cases h
  | @lst L vs1 N s1 F=>
   cases R;obtain⟨m,z,i,_⟩:=I.list s1.sq;cases E with
   |non=>cases k;cases h;exact⟨SeqAt.RcAt.list_none i.isList f,SeqAt.RcNeAt.list_none i.isList f,SeqAt.EqAt.list_none i.isList f⟩
   |bl=>cases k;cases h;exact⟨SeqAt.RcAt.list_bool _ i.isList f,SeqAt.RcNeAt.list_bool _ i.isList f,SeqAt.EqAt.list_bool _ i.isList f⟩
   |int=>obtain⟨t,rfl⟩:=k;cases h;exact⟨SeqAt.RcAt.list_int _ _ i.isList f,SeqAt.RcNeAt.list_int _ _ i.isList f,SeqAt.EqAt.list_int _ _ i.isList f⟩
   |str=>obtain⟨t,rfl⟩:=k;cases h;exact⟨SeqAt.RcAt.list_str _ _ i.isList f,SeqAt.RcNeAt.list_str _ _ i.isList f,SeqAt.EqAt.list_str _ _ i.isList f⟩
   |tup r' o q=>
    cases k;cases h;obtain⟨g,w,B,_⟩:=I.tuple o;exact⟨SeqAt.RcAt.list_tuple i.isList B f,SeqAt.RcNeAt.list_tuple i.isList B f,SeqAt.EqAt.list_tuple i.isList B f⟩
   | @lst M vs2 P o q=>
    cases k;obtain⟨g,w,B,_⟩:=I.list o.sq;obtain⟨k1,k2⟩:=ES h;have Y:=W F q z w k1;have ez1:=zzH.trans<|z.length.symm.trans F.length;have ez2:=zzH.trans<|w.length.symm.trans q.length;have C:SeqAt.RcAt A s (.ref L) (.ref M) b/\SeqAt.RcNeAt A s (.ref L) (.ref M) (!b):=by
     by_cases hz:m.toArray.size=g.toArray.size
     . have U:=SeqAt.RcAt.lists i.isList B.isList hz f Y;have b2:=SeqAt.RcNeAt.lists i.isList B.isList hz f Y;have Z:(List.range m.toArray.size).all (oZ (Tu n) N P)=b:=by
        rw[k2,<-ez1,<-ez2,<-hz,Nat.min_self];simp
       rw[Z]at U b2;exact⟨U,b2⟩
     . have hz':(m.toArray.size != g.toArray.size)=true:=by simpa using hz
       have Z:b=false:=by
        rw[k2,<-ez1,<-ez2];have:(m.toArray.size==g.toArray.size)=false:=by simpa using hz
        rw[this,Bool.and_false]
       rw[Z];exact⟨SeqAt.RcAt.lists_lengths i.isList B.isList hz' f,SeqAt.RcNeAt.lists_lengths i.isList B.isList hz' f⟩
    refine⟨C.1,C.2, ?_⟩
    by_cases Q:L=M
    . have hb:=G rfl rfl Q;subst Q;rw[hb];exact SeqAt.EqAt.same _
    . exact SeqAt.EqAt.of_refs Q C.1
   |_=>cases h
  |_=>cases h
end
structure DkAt(P:Program)(w:World)(h:Heap)(a:Addr)(kvs:List (Key×V)):Prop where
 le:kvs.length<=sizeLine
 ns:(a==sysModules)=false
 ex:∃vs,KV kvs vs/\h.DictOf (YG P w) a vs
structure KdOk(X:Cx)(kd:KD):Prop where
 inj:∀a k k',kd a k->kd a k'->k=k'
 inK:∀a k,kd a k->∃o,X.K.lookup a=some o
 at_:∀a k h,kd a k->X.K.In h->DkAt X.prog X.w h a k
section
variable{X:Cx}{kd:KD}{pins:List (Addr×Obj)}{σ:St}{H:Hp}{s:Shared}{O:Addr->Prop}
def IC(I:Inv X pins σ H s)(hk:KdOk X kd)(h:Rd H a (.dK kvs)\/kd a kvs):DkAt X.prog X.w s.heap a kvs:=by
 rcases h with h|h
 . obtain⟨z,hd,vs,rel,dd⟩:=iO I.hok h;exact⟨z,hd,vs,rel,dd⟩
 . exact hk.at_ _ _ _ h I.kIn
theorem u6(I:Inv X pins σ H s):∀(n:Nat) (v:V) (d e x:D) (b c:Bool),Vw X.K kd O H v d->Vw X.K kd O H v e->Tu n d x=some b->Tu n e x=some c->b=c
 |0,_,_,_,_,_,_,_,_,h,_=>by cases h
 |n+1,v,d,e,x,b,c,h1,h2,h,h'=>by
  have lst:∀vs (ds es xs:List D) (b c:Bool),RpL X.K kd O H vs ds->RpL X.K kd O H vs es->qF (Tu n) ds xs=some b->qF (Tu n) es xs=some c->b=c:=by
   intro vs
   induction vs with
   |nil=>intro ds es xs b c r1 r2 h h';cases r1;cases r2;exact zzZ (h.symm.trans h')
   |cons v vs ih=>
    intro ds es xs b c r1 r2 h h';cases r1 with
    |cons a1 r1=>
     cases r2 with
     | cons a2 r2=>
            cases xs with
            |nil=>cases h;cases h';rfl
            |cons x xs=>
             obtain⟨b1,k1,h⟩:=bS_<|h;obtain⟨c1,k2,h⟩:=bS_ h;obtain⟨b2,k3,h'⟩:=bS_<|h';obtain⟨c2,k4,h'⟩:=bS_ h';cases h;cases h';rw[u6 I n _ _ _ _ _ _ a1.vw a2.vw k1 k3,ih _ _ _ _ _ r1 r2 k2 k4]
  cases h1 with
  |tup r1 s1 l1=>
   cases h2 with
   |tup r2 s2 l2=>
    have:=I.tuple_inj s1 s2;subst this;cases x with
    |tup xs=>exact lst _ _ _ _ _ _ l1 l2 h h'
    |_=>exact zzZ (h.symm.trans h')
   |lst s2 l2=>exact(DX I s1 s2.sq).elim
   |_=>cases h'
  |lst s1 l1=>
   cases h2 with
   |tup r2 s2 l2=>exact(DX I s2 s1.sq).elim
   |lst s2 l2=>
    have:=I.list_inj s1.sq s2.sq;subst this;cases x with
    |lst xs=>exact lst _ _ _ _ _ _ l1 l2 h h'
    |_=>exact zzZ (h.symm.trans h')
   |_=>cases h'
  |dct s1 l1=>cases h
  |cl=>cases h
  |ob=>cases h
  |_=>cases h2;exact zzZ<|h.symm.trans h'
end
def jD:D->Option Key
 | .int i=>some<|.inl i
 | .str x=>some (.inr x)
 |_=>none
def OO(kvs:List (Key×D))(k:Key):Option D:=(kvs.find? λkv=>decide (kv.1=k)).map (·.2)
def Ou{K O}(k)(h:RpM K kd O H vs ds):(∃v d,LW vs k=some v/\OO ds k=some d/\Rp K kd O H v d)\/(LW vs k=none/\OO ds k=none):=
 RpM.ind (P:=λvs ds=>(∃v d,LW vs k=some v/\OO ds k=some d/\Rp K kd O H v d)\/(LW vs k=none/\OO ds k=none)) (.inr ⟨rfl,rfl⟩) (λ{k' v d vs ds} a _ ih=>by
  by_cases e:k'=k
  . left;refine⟨_,_, ?_, ?_,a⟩
    . unfold LW;simp[e]
    . unfold OO;simp[e]
  . rcases ih with⟨v,d,h1,h2,h3⟩|⟨h1,h2⟩
    . left;refine⟨v,d, ?_, ?_,h3⟩
      . unfold LW at h1 ⊢;simpa[e]using h1
      . unfold OO at h2 ⊢;simpa[e]using h2
    . right;refine⟨?_, ?_⟩
      . unfold LW at h1 ⊢;simpa[e]using h1
      . unfold OO at h2 ⊢;simpa[e]using h2) h
def anyF(f:D->Option Bool):List D->Option Bool
 | []=>some false
 |x::r=>(f x).bind λb=>(anyF f r).bind λc=>some (b||c)
def qN(b:Bool):R0:=.im<|.bl b
def dX(x:D):D->Option Bool
 | .lst ys=>anyF (λy=>Tu 50 y x) ys
 | .tup ys=>anyF (λy=>Tu 50 y x) ys
 | .str y=>match x with | .str i=>some (!(Builtin.Str.occurrences y i 0 y.length 1).isEmpty)|_=>none
 | .dct kvs=>(jD x).bind λk=>some (OO kvs k).isSome
 |_=>none
def eJ:D->D->Option Bool
 |d,.non=>some (match d with | .non=>true|_=>false)
 |d,.bl b=>match d with | .bl c=>some (c==b)|_=>some false
 |_,_=>none
def JK(f:Int->Int->Bool):D->D->Option R0:=pH λi j=>some<|qN<|f i j
def zo(o:CmpOp)(d e:D):Option R0:=match o with
 | .Eq=>(Tu 60 d e).bind λb=>some<|qN b
 | .NotEq=>(Tu 60 d e).bind λb=>some<|qN !b
 | .Lt=>JK (λi j=>decide (i<j)) d e
 | .LtE=>JK (λi j=>decide (i<=j)) d e
 | .Gt=>JK (λi j=>decide (j<i)) d e
 | .GtE=>JK (λi j=>decide (j<=i)) d e
 | .In=>(dX d e).bind λb=>some<|qN b
 | .NotIn=>(dX d e).bind λb=>some<|qN !b
 | .Is=>(eJ d e).bind λb=>some<|qN b
 | .IsNot=>(eJ d e).bind λb=>some<|qN !b
def Px{o:Option Bool}{f:Bool->Bool}(h:(o.bind λb=>some<|qN<|f b)=some r):∃k,r = .im (.bl k):=by
 obtain⟨b,_,h⟩:=bS_ h;cases h;exact⟨_,rfl⟩
def M5(h:JK f x y=some r):∃k,r = .im (.bl k):=by
 obtain⟨i,_,h⟩:=bS_<|h;obtain⟨j,_,h⟩:=bS_ h;cases h;exact⟨_,rfl⟩
def oB(op:CmpOp)(x y:D)(r)(h:zo op x y=some r):∃k,r = .im (.bl k):=by
 cases op with
 |Eq=>exact Px h
 |NotEq=>exact Px h
 |Lt=>exact M5 h
 |LtE=>exact M5 h
 |Gt=>exact M5 h
 |GtE=>exact M5 h
 |In=>exact Px h
 |NotIn=>exact Px h
 |Is=>exact Px h
 |IsNot=>exact Px h
section
variable{X:Cx}{kd:KD}{pins:List (Addr×Obj)}{σ:St}{H:Hp}{s:Shared}{O:Addr->Prop}
noncomputable def fB(K:zzA)(kd:KD)(O:Addr->Prop)(H:Hp)(n:Nat)(x:D)(u:Value):Bool:=@decide (∃v d,RelV v u/\Rp K kd O H v d/\Tu n d x=some true)<|Classical.propDecidable _
def sE(I:Inv X pins σ H s)(hk:KdOk X kd){n:Nat}(r:RelV v u)(p:Rp X.K kd O H v d)(e:Tu n d x=some b):fB X.K kd O H n x u=b:=by
 cases b with
 |true=>exact @zyO _ (Classical.propDecidable _) ⟨v,d,r,p,e⟩
 |false=>
  refine @zyG _ (Classical.propDecidable _) λ⟨v',d',r',p',e'⟩=>?_;have:=r.inj r';subst this;exact Bool.noConfusion<|u6 I n _ _ _ _ _ _ p.vw p'.vw e e'
def M0(I:Inv X pins σ H s)(hk:KdOk X kd){n:Nat}(hv:zR vs us)(h:RpL X.K kd O H vs ds)(e:anyF (λy=>Tu n y x) ds=some b):us.any (fB X.K kd O H n x)=b:=
 RpL.ind (P:=λvs ds=>∀us b,zR vs us->anyF _ ds=some b->us.any _=b) (λus b hv e=>by cases e;cases hv;rfl) (λ{v d vs ds} a _ ih us b hv h=>by
  cases hv with
  |cons r t=>
   obtain⟨b1,h1,h⟩:=bS_<|h;obtain⟨c1,h2,h⟩:=bS_ h;cases h;rw[List.any_cons,sE I hk r a h1,ih _ _ t h2]) h us b hv e
theorem UZ:∀{ds:List D}{b:Bool},anyF f ds=some b->∀d ∈ ds,∃c,f d=some c
 | [],_,_,d,hd=>by simp at hd
 |x::r,b,h,d,hd=>by
  obtain⟨b1,h1,h⟩:=bS_<|h;obtain⟨c1,h2,h⟩:=bS_ h
  rcases zzC.mp hd with e|e
  . subst e;exact⟨b1,h1⟩
  . exact UZ h2 d e
def MP(I:Inv X pins σ H s)(hk:KdOk X kd){n:Nat}(hu:A.units+n<cLine)(vx:Vw X.K kd O H x d)(rx:RelV x v)(hv:zR vs us)(h:RpL X.K kd O H vs ds)(k:∀e ∈ ds,∃c,Tu n e d=some c):∀u ∈ us,SeqAt.EqAt A s u v (fB X.K kd O H n d u):=
 RpL.ind (P:=λvs ds=>∀us,zR vs us->(∀e ∈ ds,∃c,Tu n e d=some c)->∀u ∈ us,SeqAt.EqAt A s u v<|fB X.K kd O H n d u) (λus hv _ u hu=>by cases hv;simp at hu) (λa q ih us hv h u hm=>by
  cases hv with
  |cons r t=>
   rcases zzC.mp hm with e|e
   . subst e;obtain⟨c,hc⟩:=h _ zzF;rw[sE I hk r a hc];exact(OB I n A _ _ _ _ _ _ _ hu a.vw vx r rx hc).eq
   . exact ih _ t (λe he=>h e<|zzD _ he) u e) h us hv k
def ED(vx:Vw X.K kd O H x d)(rx:RelV x v)(e:eJ d (.bl b)=some c)(h:Q c s):wpAny (model X.prog X.w) A (isSame v<|.bool b) Q E s:=by
 cases vx with
 |non=>cases rx;cases e;exact zxF h
 |bl k=>
  cases rx;cases e;refine zxF ?_;cases k<;>cases b<;>exact h
 |int=>obtain⟨t,rfl⟩:=rx;cases e;exact zxF h
 |str=>obtain⟨t,rfl⟩:=rx;cases e;exact zxF h
 |tup=>cases rx;cases e;exact zxF h
 |lst=>cases rx;cases e;exact zxF h
 |dct=>cases rx;cases e;exact zxF h
 |cl=>cases rx;cases e;exact zxF h
 |ob=>cases rx;cases e;exact zxF h
def RW(hk:KdOk X kd)(hu:X.A.units+100<cLine)(op):kJ X kd (compareOp op) (zo op):=by
 intro pins s σ H x y v u Q I rx ry h;obtain⟨O,d,e,r,ht,vx,vy,he,q⟩:=h;cases op with
 |Eq=>
  obtain⟨b,h1,he⟩:=bS_<|he;cases he;exact(OB I 60 X.A x y d e v u b (by omega) vx vy rx ry h1).rc _ _ _ _ (Zg I (yj q<|.bl _) rfl)
 |NotEq=>
  obtain⟨b,h1,he⟩:=bS_<|he;cases he;exact(OB I 60 X.A x y d e v u b (by omega) vx vy rx ry h1).ne _ _ _ _ (Zg I (yj q<|.bl _) rfl)
 |Lt=>
  obtain⟨i,j,rfl,rfl,he⟩:=QL vx vy he;cases he;exact gf pins s σ H _ _ v u Q I rx ry ⟨_,_,rfl,rfl,yj q<|.bl _⟩
 |LtE=>
  obtain⟨i,j,rfl,rfl,he⟩:=QL vx vy he;cases he;exact gx pins s σ H _ _ v u Q I rx ry ⟨_,_,rfl,rfl,yj q<|.bl _⟩
 |Gt=>
  obtain⟨i,j,rfl,rfl,he⟩:=QL vx vy he;cases he;exact hJ pins s σ H _ _ v u Q I rx ry ⟨_,_,rfl,rfl,yj q<|.bl _⟩
 |GtE=>
  obtain⟨i,j,rfl,rfl,he⟩:=QL vx vy he;cases he;exact gE pins s σ H _ _ v u Q I rx ry ⟨_,_,rfl,rfl,yj q<|.bl _⟩
 |In=>
  obtain⟨b,h1,he⟩:=bS_<|he;cases he;cases vy with
  |lst hs rl=>
   cases ry;obtain⟨its,rv,p,_⟩:=I.list hs.sq;refine SeqAt.in_listAt _ p.isList (λw hw=>MP I hk (by show X.A.units+1+50<cLine;omega) vx rx rv rl (UZ h1) w<|by simpa using hw) ?_;have:=M0 I hk rv rl h1;rw[show its.toArray.any _=b by rw[<-this];simp];exact Zg (I) (yj q<|.bl _) rfl
  |tup rp hs rl=>
   cases ry;obtain⟨its,rv,p,_⟩:=I.tuple hs;refine SeqAt.in_tupleAt _ p (λw hw=>MP I hk (by show X.A.units+1+50<cLine;omega) vx rx rv rl (UZ h1) w<|by simpa using hw) ?_;have:=M0 I hk rv rl h1;rw[show its.toArray.any _=b by rw[<-this];simp];exact Zg (I) (yj q<|.bl _) rfl
  |str z=>
   cases vx with
   |str i=>cases h1;exact D4 pins s σ H _ _ v u Q I rx ry ⟨_,_,rfl,rfl,yj q<|.bl _⟩
   |_=>cases h1
  |dct hs rm=>
   cases ry;obtain⟨k,k1,h1⟩:=bS_ h1;cases h1;obtain⟨z,hd,vs,rel,dd⟩:=IC I hk hs;have ek:x=kV k:=by
    cases vx with
    |int i=>cases k1;rfl
    |str i=>cases k1;rfl
    |_=>cases k1
   subst ek;refine wpAny_in_of (rG rx) hd dd.mapOf ?_;rw[<-(rel.val k).isSome_eq]
   rcases Ou k rm with⟨v1,d1,e1,e2,_⟩|⟨e1,e2⟩
   . rw[e1];rw[e2]at q;exact Zg (I.tok _) (yj q<|.bl _) rfl
   . rw[e1];rw[e2]at q;exact Zg (I.tok _) (yj q<|.bl _) rfl
  |_=>cases h1
 |NotIn=>
  obtain⟨b,h1,he⟩:=bS_<|he;cases he;cases vy with
  |lst hs rl=>
   cases ry;obtain⟨its,rv,p,_⟩:=I.list hs.sq;refine SeqAt.notIn_listAt _ p.isList (λw hw=>MP I hk (by show X.A.units+1+50<cLine;omega) vx rx rv rl (UZ h1) w<|by simpa using hw) ?_;have:=M0 I hk rv rl h1;rw[show its.toArray.any _=b by rw[<-this];simp];exact Zg (I) (yj q<|.bl _) rfl
  |tup rp hs rl=>
   cases ry;obtain⟨its,rv,p,_⟩:=I.tuple hs;refine SeqAt.notIn_tupleAt _ p (λw hw=>MP I hk (by show X.A.units+1+50<cLine;omega) vx rx rv rl (UZ h1) w<|by simpa using hw) ?_;have:=M0 I hk rv rl h1;rw[show its.toArray.any _=b by rw[<-this];simp];exact Zg (I) (yj q<|.bl _) rfl
  |str z=>
   cases vx with
   |str i=>cases h1;exact Ow pins s σ H _ _ v u Q I rx ry ⟨_,_,rfl,rfl,yj q<|.bl _⟩
   |_=>cases h1
  |dct hs rm=>
   cases ry;obtain⟨k,k1,h1⟩:=bS_ h1;cases h1;obtain⟨z,hd,vs,rel,dd⟩:=IC I hk hs;have ek:x=kV k:=by
    cases vx with
    |int i=>cases k1;rfl
    |str i=>cases k1;rfl
    |_=>cases k1
   subst ek;refine wpAny_notIn_of (rG rx) hd dd.mapOf ?_;rw[<-(rel.val k).isSome_eq]
   rcases Ou k rm with⟨v1,d1,e1,e2,_⟩|⟨e1,e2⟩
   . rw[e1];rw[e2]at q;exact Zg (I.tok _) (yj q<|.bl _) rfl
   . rw[e1];rw[e2]at q;exact Zg (I.tok _) (yj q<|.bl _) rfl
  |_=>cases h1
 |Is=>
  obtain⟨b,h1,he⟩:=bS_<|he;cases he;cases vy with
  |non=>
   refine jI pins s σ H _ _ v u Q I rx ry ⟨rfl, ?_⟩;have:decide (x=V.non)=b:=by cases vx<;>(cases h1;rfl)
   rw[this];exact yj q (.bl b)
  |bl c=>
   cases ry;exact zxE (ED vx rx h1<|zxF<|Zg I (yj q<|.bl _) rfl)
  |_=>cases h1
 |IsNot=>
  obtain⟨b,h1,he⟩:=bS_<|he;cases he;cases vy with
  |non=>
   refine qY pins s σ H _ _ v u Q I rx ry ⟨rfl, ?_⟩;have:decide (x=V.non)=b:=by cases vx<;>(cases h1;rfl)
   rw[this];exact yj q (.bl _)
  |bl c=>
   cases ry;exact zxE (ED vx rx h1<|zxF<|Zg I (yj q<|.bl _) rfl)
  |_=>cases h1
end
def Dp{K kd O H vs ds i d}(r:RpL K kd O H vs ds)(h:C_ ds i=some d):∃v,C_ vs i=some v/\Rp K kd O H v d:=by
 unfold C_ at ⊢;obtain⟨j,a,b⟩:=bS_ h;rw[r.length,a];exact r.get b
def qM(o:Option D):Option R0:=o.bind λd=>some<|.im d
def zZ(x y:D):Option R0:=match x with
 | .lst xs=>(Jj y).bind λi=>qM<|C_ xs i
 | .tup xs=>(Jj y).bind λi=>qM<|C_ xs i
 | .str x=>(Jj y).bind λi=>if x.length<=sizeLine then(C_ x.cps.toList i).bind λc=>some (.im<|.str ⟨#[c]⟩)else none
 | .dct kvs=>(jD y).bind λk=>qM (OO kvs k)
 |_=>none
def Fw(h:qM o=some r):∃d,o=some d/\r = .im d:=by
 obtain⟨d,a,b⟩:=bS_<|h;cases b;exact⟨d,a,rfl⟩
section
variable{X:Cx}{kd:KD}
def jm{K O H x d k}(vx:Vw K kd O H x d)(e:jD d=some k):x=kV k:=by
 cases vx with
 |int i=>cases e;rfl
 |str i=>cases e;rfl
 |_=>cases e
def df(hk:KdOk X kd):cA X kd zZ:=by
 intro b f g s σ H x y v u Q I A B h C;obtain⟨O,d,e,r,U,P,D,a,q⟩:=h;cases P with
 |lst m E=>
  obtain⟨i,n,a⟩:=bS_<|a;obtain⟨rfl,rfl⟩:=QA D n;obtain⟨d,l,rfl⟩:=Fw a;obtain⟨w,p,j⟩:=Dp E l;exact pd b f g s σ H _ _ v u Q I A B ⟨_,_,_,w,rfl,rfl,m.sq,p,yj q j⟩ C
 |tup J m E=>
  obtain⟨i,n,a⟩:=bS_<|a;obtain⟨rfl,rfl⟩:=QA D n;obtain⟨d,l,rfl⟩:=Fw a;obtain⟨w,p,j⟩:=Dp E l;exact jM b f g s σ H _ _ v u Q I A B ⟨_,_,_,w,rfl,rfl,m,p,yj q j⟩ C
 |str z=>
  obtain⟨i,n,a⟩:=bS_<|a;obtain⟨rfl,rfl⟩:=QA D n;obtain⟨R,a⟩:=ite_some' a;obtain⟨c,l,a⟩:=bS_ a;cases a;exact jz b f g s σ H _ _ v u Q I A B ⟨_,_,c,rfl,rfl,R,l,yj q<|.str _⟩ C
 |dct m S=>
  obtain⟨k,l,a⟩:=bS_<|a;obtain⟨d,K,rfl⟩:=Fw a;cases A;obtain⟨z,V,T,G,L⟩:=IC I hk m;have:=jm D l;subst this
  rcases Ou k S with⟨M,W,N,t,J⟩|⟨N,t⟩
  . rw[K]at t;cases t;obtain⟨Y,p,j⟩:=Kj.some_of (by rw[<-N];exact G.val k);exact tail_any L.typeIs PySem.F.slot_dict_getitem.lookup (wpAny_getItem_of (rG B) L.mapOf p ⟨M,H,I.tok _,j,yj q J⟩) C
  . rw[K]at t;cases t
 |_=>cases a
def cutD(xs:List D)(lo hi:Option Int):List D:=(xs.drop<|HT.sIx xs.length 0 lo).take<|HT.sIx xs.length xs.length hi-HT.sIx xs.length 0 lo
def DZ{K O H vs ds}(r:RpL K kd O H vs ds)(lo hi):RpL K kd O H (uv vs lo hi) (cutD ds lo hi):=by
 unfold uv;rw[r.length];exact(r.drop _).take _
def Ql(x:D)(lo hi:Option Int):Option R0:=match x with
 | .lst xs=>some<|.fl<|cutD xs lo hi
 | .tup xs=>if HT.sIx xs.length 0 lo=0/\HT.sIx xs.length xs.length hi=xs.length then none else some (.im<|.tup<|cutD xs lo hi)
 |_=>none
abbrev OF:=AS->Option (Option Int×AS)
def oN:OF:=λas=>some (none,as)
def oS(f:EF):OF:=λas=>(f as).bind λp=>(cx p.1).bind λi=>some (some i,p.2)
def V1(fa:EF)(fl fh:OF)(g:D->Option Int->Option Int->Option R0):EF:=λas=>(fa as).bind λp=>(fl p.2).bind λl=>(fh l.2).bind λh=>(p.1.frz.view h.2).bind λx=>(g x.1 l.1 h.1).bind λr=>(wrap x.2 r).bind λz=>some (z,h.2)
def bI(K:zzA)(kd:KD)(f:OF):TO:=λσ H Q=>∃F B ad as o as',Rel K kd F B [] ad as σ H/\f as=some (o,as')/\
 ∀ad' H',Rel K kd F B [] ad' as' σ H'->Grow (Gw [] ad) H (Gw [] ad') H'->Q o H'
@[irreducible] def AO(X:Cx)(kd:KD)(e:Option Expr)(f:OF):Prop:=PO X e<|bI X.K kd f
def qr(h:PO X e t)(k:∀σ H Q,t' σ H Q->t σ H Q):PO X e t':=λa s σ H Q I q=>h a s σ H Q I<|k σ H Q q
def vG:AO X kd none oN:=by with_unfolding_all exact(qr qZ λσ H Q h=>by
 obtain⟨F,B,a,as,o,b,R,e,q⟩:=h;cases e;exact q a H R Grow.refl)
def je{K F B T ad σ H v st c}(h:wU K kd F B T ad σ H v (.ow<|.lf st<|.int c)):T=[]/\v = .int c:=by
 cases h with
 |lf a=>cases a;exact ⋯
def yL{a fa}(ha:AE X kd a fa):AO X kd (some a) (oS fa):=by with_unfolding_all exact(qr (oF ha) λσ H Q h=>by
 obtain⟨F,B,d,as,o,f,R,e,q⟩:=h;obtain⟨⟨p,g⟩,j,e⟩:=bS_<|e;obtain⟨i,k,e⟩:=bS_ e;obtain⟨r,rfl⟩:=k6 k;cases e;refine⟨F,B,d,as,_,_,R,j,λv s b l m c n=>?_⟩;obtain⟨rfl,rfl⟩:=je c;exact⟨i,rfl,q b l m n⟩)
def er:fQ X (λx lo hi H Q=>∃O d r,(∀a,O a->H a≠none)/\Vw X.K kd O H x d/\Ql d lo hi=some r/\RQ X.K kd O H Q r):=by
 intro b s σ H x v j k e f l Q I m n o p h;obtain⟨O,d,r,t,u,c,q⟩:=h;cases u with
 |lst i g=>cases c;exact oM b s σ H _ v j k e f l Q I m n o p ⟨_,_,rfl,i.sq,LA q<|DZ g e f⟩
 |tup y i g=>
  have c:(if _ then none else some _:Option R0)=_:=c
  split at c
  . cases c
  . rename_i w;cases c;exact jS b s σ H _ v j k e f l Q I m n o p ⟨_,_,rfl,i,by rw[g.length];exact w,Ox t q<|DZ g e f⟩
 |_=>cases c
def yS{a lo hi fa fl fh pos p2}(ha:AE X kd a fa)(hl:AO X kd lo fl)(hh:AO X kd hi fh):AE X kd (.Subscript a (.Slice lo hi none p2) pos) (V1 fa fl fh Ql):=by with_unfolding_all exact(yo (rY er ha hl hh) λσ H Q h=>by
 obtain⟨F,B,O,as,r,s,R,e,q⟩:=h;obtain⟨⟨p,c⟩,t,e⟩:=bS_<|e;obtain⟨⟨l,b⟩,x,e⟩:=bS_ e;obtain⟨⟨u,y⟩,A,e⟩:=bS_ e;obtain⟨⟨d,P⟩,C,e⟩:=bS_ e;obtain⟨D,E,e⟩:=bS_ e;obtain⟨z,G,e⟩:=bS_ e;cases e;refine YE R t λv f S I g J=>⟨F,B,f,c,l,b,I,x,λi T R2 n=>⟨F,B,i,b,u,_,R2,A,λj U k o=>?_⟩⟩;exact⟨_,d,D,k.tr _,wU.vw k ((g.grow n).grow o) C,E,Va k G λw K L M m N=>q w K j L M m<|((J.trans n).trans o).trans N⟩)
def pV:D->Option R0
 | .int i=>some (.im<|.int (-i))
 |_=>none
def eC:cj X kd (unaryOp .USub) pV:=by
 intro a s σ H x v Q I c h;obtain⟨O,d,r,f,e,b,q⟩:=h;cases e with
 |int i=>cases b;exact lP a s σ H _ v Q I c ⟨i,rfl,yj q<|.int _⟩
 |_=>cases b
def ll:D->String
 | .non=>"NoneType" | .bl _=>"bool" | .int _=>"int" | .str _=>"str" | .tup _=>"tuple" | .lst _=>"list" | .dct _=>"dict"|_=>""
def Au:D->Bool
 | .cl _=>false | .ob _ _ _=>false|_=>true
def SE(t c:String):Bool:=t==c||(t=="bool"&&c=="int")
def KN(c:String):Bool:=c=="int"||c=="bool"||c=="str"||c=="list"||c=="tuple"||c=="dict"
def kr(K)(d)(c)(h:KN c=true)(ho:Au d=true):W.kitOne K (.type<|ll d) (.type c)=some (SE (ll d) c):=by
 have:c="int"\/c="bool"\/c="str"\/c="list"\/c="tuple"\/c="dict":=by
  unfold KN at h;simp at h
  rcases h with((((h|h)|h)|h)|h)|h<;>simp[h]
 rcases this with rfl|rfl|rfl|rfl|rfl|rfl<;>cases d<;>first|rfl|cases ho
def lL(hk:KdOk X kd){pins σ H s O A E Q c x u d}(I:Inv X pins σ H s)(rx:RelV x u)(vx:Vw X.K kd O H x d)(hc:KN c=true)(ho:Au d=true)
 (h:∀tk,Q (.bool<|SE (ll d) c) {s with toks:=tk}):wpAny (model X.prog X.w) A (call (.builtin "isinstance") [u,.type c]) Q E s:=by
 have e:=kr X.K d c hc ho;cases vx with
 |non=>cases rx;exact W.kia_one W.kitx_none I.kIn True.intro e ⋯ h
 |bl y=>cases rx;exact W.kia_one W.kitx_bool I.kIn True.intro e ⋯ h
 |int i=>obtain⟨t,rfl⟩:=rx;exact W.kia_one W.kitx_int I.kIn True.intro e ⋯ h
 |str y=>obtain⟨t,rfl⟩:=rx;exact W.kia_one W.kitx_str I.kIn True.intro e ⋯ h
 |lst a j=>
  cases rx;obtain⟨g,k,⟨o,n,b,f,_⟩,_⟩:=I.list a.sq;exact W.kia_one W.kitx_list I.kIn ⟨o,b,f⟩ e ⋯ h
 |tup m a j=>
  cases rx;obtain⟨g,k,⟨o,b,f,_⟩,_⟩:=I.tuple a;exact W.kia_one W.kitx_tuple I.kIn ⟨o,b,f⟩ e ⋯ h
 |dct a p=>
  cases rx;obtain⟨z,q,r,l,⟨o,v,B,b,f,_⟩⟩:=IC I hk a;exact W.kia_one W.kitx_dict I.kIn ⟨o,b,f.1⟩ e ⋯ h
 |cl=>cases ho
 |ob=>cases ho
end
def WR:List D->Option (List Int)
 | []=>some []
 | .int i::r=>(WR r).bind λs=>some (i::s)
 |_::_=>none
def gj:List Int->Int
 | []=>0
 |x::r=>r.foldl (λa b=>if a<b then b else a) x
def iI:List Int->Int
 | []=>0
 |x::r=>r.foldl (λa b=>if b<a then b else a) x
theorem Sk:∀(r:List Int) (x:Int),r.foldl (λa b=>if a<b then b else a) x ∈ x::r/\∀a ∈ x::r,a<=r.foldl (λa b=>if a<b then b else a) x
 | [],x=>⋯
 |y::r,x=>by
  rw[List.foldl_cons];obtain⟨h1,h2⟩:=Sk r _;refine⟨?_,λa ha=>?_⟩
  . rcases zzC.mp h1 with e|e
    . rw[e];split<;>simp
    . exact zzD _<|zzD _ e
  . have h3:=h2 _ zzF
    rcases zzC.mp ha with e|e
    . subst e;exact Int.le_trans ⋯ h3
    . rcases zzC.mp e with e|e
      . subst e;exact Int.le_trans ⋯ h3
      . exact h2 a<|zzD _ e
theorem Hh:∀(r:List Int) (x:Int),r.foldl (λa b=>if b<a then b else a) x ∈ x::r/\∀a ∈ x::r,r.foldl (λa b=>if b<a then b else a) x<=a
 | [],x=>⋯
 |y::r,x=>by
  rw[List.foldl_cons];obtain⟨h1,h2⟩:=Hh r _;refine⟨?_,λa ha=>?_⟩
  . rcases zzC.mp h1 with e|e
    . rw[e];split<;>simp
    . exact zzD _<|zzD _ e
  . have h3:=h2 _ zzF
    rcases zzC.mp ha with e|e
    . subst e;exact Int.le_trans h3 ⋯
    . rcases zzC.mp e with e|e
      . subst e;exact Int.le_trans h3 ⋯
      . exact h2 a<|zzD _ e
def ou(h1:M ∈ ns)(h2:∀a ∈ ns,a<=M):gj ns=M:=by
 cases ns with
 |nil=>simp at h1
 |cons x r=>
  obtain⟨k1,k2⟩:=Sk r x;have a1:=k2 M h1;have a2:=h2 _ k1;show r.foldl _ x=M;omega
def qQ(h1:M ∈ ns)(h2:∀a ∈ ns,M<=a):iI ns=M:=by
 cases ns with
 |nil=>simp at h1
 |cons x r=>
  obtain⟨k1,k2⟩:=Hh r x;have a1:=k2 M h1;have a2:=h2 _ k1;show r.foldl _ x=M;omega
def gk(f:D->Option R0)(ds:List D):Option R0:=match ds with
 | [x]=>f x
 |_=>none
def HU{K O}(vl:VwL K kd O H xs ds)(h:gk f ds=some r):∃x d,xs=[x]/\Vw K kd O H x d/\f d=some r:=by
 cases vl with
 |nil=>cases h
 |cons a b=>
  cases b with
  |nil=>exact⟨_,_,rfl,a,h⟩
  |cons _ _=>cases h
def ed:D->Option R0
 | .lst ds=>some<|.im<|.int ds.length
 | .tup ds=>some<|.im<|.int ds.length
 | .str x=>if x.length<=sizeLine then some (.im<|.int x.length)else none
 | .dct kvs=>some (.im<|.int kvs.length)
 |_=>none
def z_:List D->Option R0:=gk ed
def dh:D->Option R0
 | .int i=>some<|.im<|.int i
 | .bl b=>some (.im<|.int (if b then 1 else 0))
 |_=>none
def tupP:List D->Option R0
 | [.lst ds]=>some<|.im<|.tup ds
 | [.tup ds]=>some (.im<|.tup ds)
 |_=>none
def eu:D->Option R0
 | .lst ds=>some<|.fl ds
 | .tup ds=>some (.fl ds)
 |_=>none
def lstP:List D->Option R0:=gk eu
def B9(ds:List D):Option R0:=match ds with
 | [x,y]=>pH (λi j=>some<|.im<|.int (if j > i then j else i)) x y
 | [x]=>(hV x).bind λds=>(WR ds).bind λns=>if 0<ns.length then some (.im<|.int<|gj ns)else none
 |_=>none
def Ij:List D->Option R0
 | [.int i,.int j]=>some<|.im<|.int (if j<i then j else i)
 | [.lst ds]=>(WR ds).bind λns=>if 0<ns.length then some (.im<|.int<|iI ns)else none
 |_=>none
def M_{K O}(h:VwL K kd O H xs [d]):∃x,xs=[x]/\Vw K kd O H x d:=by
 cases h with
 |cons a b=>cases b;exact⟨_,rfl,a⟩
def nk{K O}(h:VwL K kd O H xs [d,e]):∃x y,xs=[x,y]/\Vw K kd O H x d/\Vw K kd O H y e:=by
 cases h with
 |cons a b=>
  cases b with
  |cons b c=>cases c;exact⟨_,_,rfl,a,b⟩
def Ct{K O}(h:RpL K kd O H vs ds)(e:WR ds=some ns):vs=ns.map V.int:=
 RpL.ind (P:=λvs ds=>∀ns,WR ds=some ns->vs=ns.map V.int) (λns e=>by cases e;rfl) (λ{v d vs ds} a _ ih ns e=>by
  cases d with
  |int i=>
   obtain⟨s,h1,h2⟩:=bS_<|e;cases h2;cases a;rw[ih _ h1];rfl
  |_=>cases e) h ns e
section
variable{X:Cx}{kd:KD}
def yc(hk:KdOk X kd):UI X kd (.builtin "len") z_:=by
 intro pins s σ H xs us Q I r h;obtain⟨O,ds,z,ht,vl,he,q⟩:=h;obtain⟨x,d,rfl,vx,he⟩:=HU vl he;cases vx with
 |lst hr rl=>cases he;exact Kb pins s σ H _ us Q I r ⟨_,_,rfl,.inl hr.sq,by rw[rl.length];exact yj q<|.int _⟩
 |tup rp hr rl=>cases he;exact Kb pins s σ H _ us Q I r ⟨_,_,rfl,.inr hr,by rw[rl.length];exact yj q<|.int _⟩
 |str y=>
  obtain⟨c,rfl⟩:=zy he;exact Os pins s σ H _ us Q I r ⟨_,rfl,c,yj q<|.int _⟩
 |dct hr rm=>
  cases he;obtain⟨u,rfl,ru⟩:=vals1 r;cases ru;obtain⟨z,hd,vs,rel,dd⟩:=IC I hk hr;refine call_len_dict hd dd (by rw[<-rel.length];rw[sizeLine_eq]at z;omega) ?_;rw[<-rel.length,rm.length];exact⟨.int _,H,I.tok _,⟨_,rfl⟩,yj q<|.int _⟩
 |_=>cases he
def SY:UI X kd (.type "tuple") tupP:=by
 intro pins s σ H xs us Q I r h;obtain⟨O,ds,z,ht,vl,he,q⟩:=h;unfold tupP at he
 split at he
 . cases he;obtain⟨x,rfl,vx⟩:=M_ vl;cases vx with
   |lst hr rl=>exact TC pins s σ H _ us Q I r ⟨_,_,rfl,.inl ⟨hr.sq,Ox ht q rl⟩⟩
 . cases he;obtain⟨x,rfl,vx⟩:=M_ vl;cases vx with
   |tup rp hr rl=>exact TC pins s σ H _ us Q I r ⟨_,_,rfl,.inr ⟨hr,yj q rp⟩⟩
 . cases he
def LQ:UI X kd (.type "list") lstP:=by
 intro pins s σ H xs us Q I r h;obtain⟨O,ds,z,ht,vl,he,q⟩:=h;obtain⟨x,d,rfl,vx,he⟩:=HU vl he;cases vx with
 |lst hr rl=>cases he;exact Kr pins s σ H _ us Q I r ⟨_,_,rfl,.inl hr.sq,LA q rl⟩
 |tup rp hr rl=>cases he;exact Kr pins s σ H _ us Q I r ⟨_,_,rfl,.inr hr,LA q rl⟩
 |_=>cases he
def SD(hc:X.calm=true):UI X kd (.builtin "max") B9:=by
 intro pins s σ H xs us Q I r h;obtain⟨O,ds,z,ht,vl,he,q⟩:=h;cases vl with
 |nil=>cases he
 |cons vx vl=>
  cases vl with
  |nil=>
   obtain⟨ds,h0,he⟩:=bS_<|he;cases OW h0;obtain⟨ns,h1,he⟩:=bS_ he;obtain⟨c,rfl⟩:=zy he;cases vx with
   |lst hr rl=>
    obtain⟨u,rfl,ru⟩:=vals1 r;cases ru;obtain⟨its,rv,p,_⟩:=I.list hr.sq;rw[Ct rl h1]at rv;have hi:=intsAre_of rv;obtain⟨ys,e⟩:=hi.allInts.items;have hns:ns=ys.toList.map (·.1):=by rw[<-hi.numsOf,<-nums_intItems,<-e]
    have hsz:0<ys.size:=by
     have h3:=c;rwa [hns,zzB]at h3
    have hl:=p.isList;rw[e]at hl;refine max_intList (I.ok.hd hc) hl hsz λv h' tk hv kp=>?_;obtain⟨t,rfl⟩:=intItems_at hv;obtain⟨k1,k2⟩:=argBest_gt (numAt ys)<|ys.size-1;refine⟨.int _,H,I.kept kp,⟨t, ?_⟩,yj q<|.int _⟩
    congr 1
    refine(ou ?_ λa ha=>?_).symm
    . rw[hns,numAt_eq];have hlt:argBest (λi j=>decide (numAt ys i > numAt ys j)) (ys.size-1)<(ys.toList.map (·.1)).length:=by rw[zzB,zyT];omega
      rw[zyF,zzE hlt];exact zyY hlt
    . rw[hns]at ha;obtain⟨j,hj,rfl⟩:=List.getElem_of_mem ha;have hj':=hj;rw[zzB,zyT]at hj;have:=k2 j ⋯
      rwa [numAt_eq ys j,zyF,zzE hj']at this
  |cons vy vl=>
   cases vl with
   |nil=>
    obtain⟨i,j,rfl,rfl,he⟩:=QL vx vy he;cases he;exact uC hc pins s σ H _ us Q I r ⟨_,_,rfl,yj q<|.int _⟩
   |cons _ _=>cases he
def uk(hc:X.calm=true):UI X kd (.builtin "min") Ij:=by
 intro pins s σ H xs us Q I r h;obtain⟨O,ds,z,ht,vl,he,q⟩:=h;unfold Ij at he
 split at he
 . cases he;obtain⟨x,y,rfl,vx,vy⟩:=nk vl;cases vx;cases vy;exact uT hc pins s σ H _ us Q I r ⟨_,_,rfl,yj q<|.int _⟩
 . obtain⟨ns,h1,he⟩:=bS_ he;obtain⟨c,rfl⟩:=zy he;obtain⟨x,rfl,vx⟩:=M_ vl;cases vx with
   |lst hr rl=>
    obtain⟨u,rfl,ru⟩:=vals1 r;cases ru;obtain⟨its,rv,p,_⟩:=I.list hr.sq;rw[Ct rl h1]at rv;have hi:=intsAre_of rv;obtain⟨ys,e⟩:=hi.allInts.items;have hns:ns=ys.toList.map (·.1):=by rw[<-hi.numsOf,<-nums_intItems,<-e]
    have hsz:0<ys.size:=by
     have h3:=c;rwa [hns,zzB]at h3
    have hl:=p.isList;rw[e]at hl;refine min_intList (I.ok.hd hc) hl hsz λv h' tk hv kp=>?_;obtain⟨t,rfl⟩:=intItems_at hv;obtain⟨k1,k2⟩:=argBest_lt (numAt ys)<|ys.size-1;refine⟨.int _,H,I.kept kp,⟨t, ?_⟩,yj q<|.int _⟩
    congr 1
    refine(qQ ?_ λa ha=>?_).symm
    . rw[hns,numAt_eq];have hlt:argBest (λi j=>decide (numAt ys i<numAt ys j)) (ys.size-1)<(ys.toList.map (·.1)).length:=by rw[zzB,zyT];omega
      rw[zyF,zzE hlt];exact zyY hlt
    . rw[hns]at ha;obtain⟨j,hj,rfl⟩:=List.getElem_of_mem ha;have hj':=hj;rw[zzB,zyT]at hj;have:=k2 j ⋯
      rwa [numAt_eq ys j,zyF,zzE hj']at this
 . cases he
end
def WW(env:Env):List (Str×NameKind)->List (Str×Addr)->List (Str×Addr)
 | [],cs=>cs
 |(n,k)::r,cs=>WW env r (if k == .free then((n,(env.cells.lookup n).getD 0)::cs)else cs)
def Tc(h:∀x ∈ scope.names,x.2 = .free->∃c,env.cells.lookup x.1=some c):closureFor scope env=pure (WW env scope.names []):=by
 have s:∀b i f,
  (∀d g i,f (d,g) i=if g == .free then(do let a <-cellOf env d;pure (.yield ((d,a)::i)))else pure<|.yield i)->
  (∀x ∈ b,x.2 = .free->∃c,env.cells.lookup x.1=some c)->(forIn b i f:Sem _)=pure (WW env b i):=by
  intro b
  induction b with
  |nil=>intro i f _ _;rfl
  |cons x r p=>
   intro i f l m;obtain⟨n,k⟩:=x;rw[List.forIn_cons,l];unfold WW
   by_cases j:(k == .free)=true
   . obtain⟨c,q⟩:=m _ zzF (by simpa using j);rw[if_pos j,if_pos j];have e:cellOf env n=pure c:=by unfold cellOf;rw[q]
     rw[e,q];exact p _ f l λy o=>m y<|zzD _ o
   . rw[if_neg j,if_neg j];exact p _ f l λy o=>m y<|zzD _ o
 simp only[closureFor];rw[s scope.names [] _ (λd g i=>?_) h]
 . rfl
 . rfl
theorem Hf:∀(names:List (Str×NameKind)) (cs:List (Str×Addr)) (p:Str×Addr),p ∈ WW env names cs->p ∈ cs\/((p.1,NameKind.free) ∈ names/\p.2=(env.cells.lookup p.1).getD 0)
 | [],_,_,h=>.inl h
 |(n,k)::r,b,p,h=>by
  rcases Hf r _ p h with h|h
  . by_cases a:(k == .free)=true
    . rw[if_pos a]at h
      rcases zzC.mp h with e|h
      . subst e;have:k = .free:=by simpa using a
        subst this;exact .inr ⟨zzF,rfl⟩
      . exact .inl h
    . rw[if_neg a]at h;exact .inl h
  . exact .inr ⟨zzD _ h.1,h.2⟩
theorem Fm:∀(names:List (Str×NameKind)) (cs:List (Str×Addr)) (p:Str×Addr),p ∈ cs->p ∈ WW env names cs
 | [],_,_,h=>h
 |_::r,a,p,h=>by
  refine Fm r _ p ?_
  split
  . exact zzD _ h
  . exact h
theorem S7:∀(names:List (Str×NameKind)) (cs:List (Str×Addr)) (x:Str),(x,NameKind.free) ∈ names->(x,(env.cells.lookup x).getD 0) ∈ WW env names cs
 |_::r,a,x,h=>by
  rcases zzC.mp h with e|h
  . cases e;exact Fm r _ _ ⋯
  . exact S7 r _ x h
theorem VA:∀{l:List (Str×α)},(∀p ∈ l,p.1=x->p.2=a)->(∃b,(x,b) ∈ l)->l.lookup x=some a
 | [],_,h=>by obtain⟨_,h⟩:=h;cases h
 |(k,v)::r,u,h=>by
  rw[List.lookup_cons];cases hb:x==k with
  |true=>
   have:=u _ zzF (beq_iff_eq.mp hb).symm;exact congrArg some this
  |false=>
   refine VA (λp c=>u p<|zzD _ c) ?_;obtain⟨b,h⟩:=h
   rcases zzC.mp h with e|h
   . cases e;simp at hb
   . exact⟨b,h⟩
theorem LX:∀(names:List (Str×NameKind)) (h:Heap) (acc:List (Str×Addr)) (p:Str×Addr),p ∈ cellsFrom h.objs.size names acc->
 p ∈ acc\/((p.1,NameKind.cell) ∈ names/\(pushCells h names).IsCell p.2 none/\h.objs.size<=p.2)
 | [],_,_,_,m=>.inl m
 |(n,k)::r,h,b,p,m=>by
  unfold cellsFrom at m;unfold pushCells
  split at m
  . rename_i a;rw[if_pos a];have e:(h.push {cls:=.type "cell",data:=.cell none}).objs.size=h.objs.size+1:=zxK ..;rw[<-e]at m
    rcases LX r _ _ p m with m|⟨c,d,f⟩
    . rcases zzC.mp m with g|m
      . subst g;have:k = .cell:=by simpa using a
        subst this;refine .inr ⟨zzF, ?_,zzN _⟩;have z:(h.push {cls:=.type "cell",data:=.cell none}).IsCell h.objs.size none:=⟨_,zxI _ rfl,rfl⟩;exact z.keeps<|pushCells_keeps r _
      . exact .inl m
    . exact .inr ⟨zzD _ c,d,by rw[e]at f;omega⟩
  . rename_i a;rw[if_neg a]
    rcases LX r h b p m with m|⟨c,d,f⟩
    . exact .inl m
    . exact .inr ⟨zzD _ c,d,f⟩
theorem Q2:∀(names:List (Str×NameKind)) (n:Nat) (acc:List (Str×Addr)) (p:Str×Addr),p ∈ acc->p ∈ cellsFrom n names acc
 | [],_,_,_,m=>m
 |_::r,n,a,p,m=>by
  unfold cellsFrom
  split
  . exact Q2 r _ _ p<|zzD _ m
  . exact Q2 r _ _ p m
theorem Nd:∀(names:List (Str×NameKind)) (n:Nat) (acc:List (Str×Addr)) (x:Str),(x,NameKind.cell) ∈ names->∃c,(x,c) ∈ cellsFrom n names acc
 |_::r,n,a,x,m=>by
  unfold cellsFrom
  rcases zzC.mp m with e|m
  . cases e;exact⟨n,Q2 r _ _ _ zzF⟩
  . split
    . exact Nd r _ _ x m
    . exact Nd r _ _ x m
theorem LB:∀(names:List (Str×NameKind)) (n:Nat) (acc:List (Str×Addr)),(∀p ∈ acc,p.2<n)->(∀p ∈ acc,∀q ∈ acc,p.2=q.2->p.1=q.1)->∀p ∈ cellsFrom n names acc,∀q ∈ cellsFrom n names acc,p.2=q.2->p.1=q.1
 | [],_,_,_,h=>h
 |_::r,n,c,b,h=>by
  unfold cellsFrom
  split
  . refine LB r _ _ (λp m=>?_) λp m q a e=>?_
    . rcases zzC.mp m with z|m
      . subst z;exact Nat.lt_succ_self _
      . exact zyZ<|b p m
    . rcases zzC.mp m with z|m
      . rcases zzC.mp a with d|a
        . rw[z,d]
        . subst z;have:=b q a;rw[<-e]at this;exact absurd this ⋯
      . rcases zzC.mp a with d|a
        . subst d;have:=b p m;rw[e]at this;exact absurd this ⋯
        . exact h p m q a e
  . exact LB r n c b h
section
variable{M:Model}{A:Around}{E:Value->Shared->Prop}{s:Shared}
def Rj(scope:Scope)(env:Env)(cl:List (Str×Addr))(L:Addr):Env:=
 {scope:=relabel scope env,locals:=L,globals:=env.globals,cells:=cellsFrom (L+1) scope.names cl,qual:=env.qual,func:=none,code:=env.code,frame:=env.frame,builtins:=env.builtins}
def OA
 (h:∀h' env',{env' with scope:=relabel scope env}=Rj scope env cl s.heap.objs.size->env'.locals=s.heap.objs.size->(∀b o,s.heap.get? b=some o->h'.get? b=some o)->h'.Ns s.heap.objs.size (λ_=>none)->
  (∀p ∈ cellsFrom (s.heap.objs.size+1) scope.names cl,p ∈ cl\/((p.1,NameKind.cell) ∈ scope.names/\h'.IsCell p.2 none/\s.heap.objs.size+1<=p.2))->Q env' {s with heap:=h'}):
 wpAny M A (newFunctionEnv scope env.globals cl [] env.qual none .none<|some env) Q E s:=by
 simp only[newFunctionEnv,Option.isSome_some,if_true];refine zxE<|wpAny_alloc ?_;refine zxE<|wpAny_layCells _ ⋯ _ _ _ _ ?_;have e:(s.heap.push {cls:=.type "dict",data:=.dict #[]}).objs.size=s.heap.objs.size+1:=zxK ..;refine zxE<|zxF<|zxF<|h _ _ ?_ rfl (λb o q=>pushCells_keeps _ _ b o<|zxG _ q) ((Heap.Ns.new s.heap _).keeps<|pushCells_keeps _ _) λp m=>?_
 . unfold Rj;rw[<-e]
 . rw[<-e]at m
   rcases LX _ _ _ p m with m|⟨g,i,f⟩
   . exact .inl m
   . exact .inr ⟨g,i,by rwa [e]at f⟩
end
abbrev y2(X:Cx)(N:List Str)(scope:Scope)(cl:List (Str×Addr))(s:Shared)(H:Hp)(fp:List Addr):Cx:=
 {X with N:=N,s₀:=s,H₀:=H,env:=Rj scope X.env cl<|s.heap.objs.size+1,outer:=X.stack,ex:=fp,fn:=λx=>scope.names.lookup x==some .cell,pn:=[],xe:=λ_ _=>False}
def gB(σ:St):Option Nat->Option V
 |none=>none
 |some j=>(σ[j]?).getD none
def XG(cap:List (Option Nat))(σ:St):St:=cap.map<|gB σ
def RZ(N XN:List Str)(names:List (Str×NameKind))(envNames:List (Str×NameKind))(cap:List (Option Nat)):Bool:=
 N.length==cap.length&&(N.zip cap).all (λp=>match p.2 with|none=>true|some j=>XN[j]? == some p.1&&names.contains (p.1,NameKind.free)) &&
 names.all (λp=>p.2 != .free||envNames.lookup p.1==some .cell||envNames.lookup p.1==some .free)&&decide (names.map (·.1)).Nodup
def D3(X:Cx)(ifs:List Expr)(t:TT):Prop:=
 ∀(pins:List (Addr×Obj)) (s:Shared) (σ:St) (H:Hp) (Q:Bool->Hp->Prop),Inv X pins σ H s->t σ H Q->
  wpAny (model X.prog X.w) X.A (forIn ifs true λc r=>if r=true then do let ok <-isTrue c X.env (eval c X.env);pure (ForInStep.yield ok)else pure<|ForInStep.yield r) (TP X pins σ Q) X.xe s
def oT:D3 X [] (λ_ H Q=>Q true H):=λa s σ H Q I h=>wpAny_tests_nil ⟨H,I,h⟩
def qX(h:PT X c t):D3 X [c] t:=λa s σ H Q I q=>wpAny_tests_one<|h a s σ H Q I q
def sH(wi:TI)(cap:List (Option Nat))(g:TG)(tt:TT)(te:TE):TE:=λσ H Q=>wi σ H λJ H1=>∃W:Nat->Nat->List V->Hp->Prop,(∃m,W 0 m [] H1)/\∀i m ys H,W i m ys H->ys.length<=sizeLine/\
 ((J.stop i H/\∀p,H p=none->Q (.ref p) (upd H p<|.lst ys))\/(J.go i H/\∀x H',J.yld i H x H'->g x (XG cap σ) H' λσ2 H2=>(∀(j:Nat) v,(XG cap σ)[j]? = some (some v)->σ2[j]? = some (some v))/\
   tt σ2 H2 λb H3=>if b=true then ys.length<sizeLine/\te σ2 H3 λy H4=>∃m',m'<m/\W (i+1) m' (ys++[y]) H4 else ∃m',m'<m/\W (i+1) m' ys H3))
section
variable{prog:Program}{w:World}{A:Around}{E:Value->Shared->Prop}{R:Result->Shared->Prop}{s:Shared}
def ON(I:Nat->Shared->Prop)
 (turn:∀n s (E:Value->Shared->Prop),I n s->wpAny (model prog w) A (pyNext it) (λr s₁=>match r with
  |none=>R (.ok .next) s₁
  |some v=>wpAny (model prog w) A (letOwnedTupleGo target it v) (λ_ s₁=>wpAny (model prog w) A (assign target env v) (λ_ s₂=>
   wpAny (model prog w) A (forIn ifs true λc r=>if r=true then do let ok <-isTrue c env (eval c env);pure (ForInStep.yield ok)else pure<|ForInStep.yield r) (λok s₃=>
            if ok=true then wpAny (model prog w) A (eval elt env) (λx s₄=>
             wpAny (model prog w) A (call (.builtin "list.append") [acc,x]) (λ_ s₅=>∃m,m<n/\I m s₅) E s₄) E s₃
            else ∃m,m<n/\I m s₃) E s₂) E s₁) E s₁) E s)
 (n:Nat) (h:I n s):
 codeAny (model prog w) A (.compLoop (.ListComp elt [⟨target,iter,ifs,0⟩] scope pos) 0 it acc env) R s:=by
 refine codeAny_loop rfl I (λn s e=>?_) n h;refine wpAny_noted ?_;rw[compTurn_list];refine zxE<|wpAny_standAt<|zxE<|zxL (turn n s _ e) (λr f b=>?_) λ_ _ a=>a;cases r with
 |none=>exact zxF b
 |some v=>
  refine zxE<|zxL b (λ_ f b=>?_) λ_ _ a=>a;refine zxE<|zxL b (λ_ k g=>zxE<|zxL g (λok l d=>?_) λ_ _ a=>a) λ_ _ a=>a;cases ok with
  |false=>exact zxF ⟨rfl,d⟩
  |true=>
   exact zxE<|zxE<|zxL d (λx o i=>zxE<|zxL i (λ_ p j=>zxF<|zxF ⟨rfl,j⟩) λ_ _ a=>a) λ_ _ a=>a
end
structure CapOk(N XN:List Str)(names:List (Str×NameKind))(envNames:List (Str×NameKind))(cap:List (Option Nat)):Prop where
 len:N.length=cap.length
 at_:∀(i:Nat) x (j:Nat),N[i]? = some x->cap[i]? = some (some j)->XN[j]? = some x/\(x,NameKind.free) ∈ names
 fr:∀p ∈ names,p.2 = .free->envNames.lookup p.1=some .cell\/envNames.lookup p.1=some .free
 nd:(names.map (·.1)).Nodup
def Il(h:RZ N XN names envNames cap=true):CapOk N XN names envNames cap:=by
 unfold RZ at h;simp only[zyC,beq_iff_eq,List.all_eq_true,decide_eq_true_eq]at h;obtain⟨⟨⟨a,b⟩,c⟩,d⟩:=h;refine⟨a,λi x j f g=>?_,λp k e=>?_,d⟩
 . have m:(x,some j) ∈ N.zip cap:=zyA (by rw[List.getElem?_zip_eq_some];exact⟨f,g⟩);have:=b _ m;simp at this;exact ⋯
 . have:=c p k;rw[e]at this;simpa using this
def Oh{names:List (Str×NameKind)}(h:(names.map (·.1)).Nodup)(m:(x,k) ∈ names)(m':(x,k') ∈ names):k=k':=by
 induction names with
 |nil=>cases m
 |cons p r ih=>
  obtain⟨h1,h2⟩:=zzW.mp<|h
  rcases zzC.mp m with e|m
  . rcases zzC.mp m' with e'|m'
    . rw[<-e]at e';cases e';rfl
    . exact absurd (zxC.mpr ⟨_,m',by rw[<-e]⟩) h1
  . rcases zzC.mp m' with e'|m'
    . exact absurd (zxC.mpr ⟨_,m,by rw[<-e']⟩) h1
    . exact ih h2 m m'
def Ln{names:List (Str×NameKind)}(h:(names.map (·.1)).Nodup)(m:(x,k) ∈ names):names.lookup x=some k:=
 VA (λp a e=>by cases(e);exact Oh h a m) ⟨k,m⟩
def Pj(x):(relabel scope env).names.lookup x=(scope.names.lookup x).map λk=>if(k == .free&&env.scope.kind == .function&&env.kindOf x==some .cell)=true then NameKind.cell else k:=by
 unfold relabel;generalize scope.names=a
 induction a with
 |nil=>rfl
 |cons p r b=>
  obtain⟨n,k⟩:=p;rw[List.lookup_cons];cases hb:x==n with
  |true=>
   have e:=beq_iff_eq.mp hb;subst e;show List.lookup x ((if _=true then _ else _)::_)=_;show _=some (if _=true then NameKind.cell else k)
   split
   . rw[List.lookup_cons,hb]
   . rw[List.lookup_cons,hb]
  |false=>
   show List.lookup x ((if _=true then _ else _)::_)=_
   split
   . rwa [List.lookup_cons,hb]
   . rwa [List.lookup_cons,hb]
def JS(I:Inv X pins σ H s)(C:CapOk N X.N scope.names X.env.scope.names cap)(hk:scope.kind = .function)
 (hf:∀b ∈ fp,Mv X pins H b) (ho:∀b ∈ fp,∃o,s.heap.get? b=some o)
 (old:∀b o,s.heap.get? b=some o->h'.get? b=some o) (ns:h'.Ns (s.heap.objs.size+1) (λ_=>none))
 (hc:∀p ∈ cellsFrom (s.heap.objs.size+1+1) scope.names (WW X.env scope.names []),p ∈ WW X.env scope.names []\/((p.1,NameKind.cell) ∈ scope.names/\h'.IsCell p.2 none/\s.heap.objs.size+1+1<=p.2)):
 Inv (y2 X N scope (WW X.env scope.names []) s H fp) [] (XG cap σ) H {s with heap:=h'}:=by
 have has:∀x,(x,NameKind.free) ∈ scope.names->∃c,X.env.cells.lookup x=some c:=λx m=>I.ok.has x<|C.fr _ m rfl;have clo:∀p ∈ WW X.env scope.names [],X.env.cells.lookup p.1=some p.2/\(p.1,NameKind.free) ∈ scope.names:=λp m=>by
  rcases Hf _ _ p m with z|⟨z1,z2⟩
  . cases z
  . obtain⟨c,e⟩:=has _ z1;rw[e]at z2;exact⟨by rw[e];exact congrArg some z2.symm,z1⟩
 have look:∀x c,(cellsFrom _ scope.names _).lookup x=some c->_\/_:=λx c e=>by
  rcases hc _ (mem_of_lookup e)with m|m
  . exact .inl<|clo _ m
  . exact .inr m
 have lt:∀x c,X.env.cells.lookup x=some c->c<s.heap.objs.size:=λx c e=>by obtain⟨v,z⟩:=I.cell x c e;exact z.lt
 have lookF:∀x,(x,NameKind.free) ∈ scope.names->∃c,(cellsFrom _ scope.names _).lookup x=some c/\X.env.cells.lookup x=some c:=λx m=>by
  obtain⟨c,e⟩:=has x m;have m1:=Q2 scope.names (s.heap.objs.size+1+1) _ _<|S7 (env:=X.env) scope.names [] x m;refine⟨c,VA (λp hp ep=>?_) ⟨_,m1⟩,e⟩
  rcases hc p hp with z|z
  . have:=(clo p z).1;rw[ep,e]at this;exact(zzZ this).symm
  . rw[ep]at z;exact absurd (Oh C.nd z.1 m) (by decide)
 have kinds:∀x,((relabel scope X.env).names.lookup x=some .cell\/(relabel scope X.env).names.lookup x=some .free)->(x,NameKind.free) ∈ scope.names\/(x,NameKind.cell) ∈ scope.names:=λx h=>by
  rw[Pj]at h;cases e:scope.names.lookup x with
  |none=>rw[e]at h;rcases h with h|h<;>cases h
  |some k=>
   have m:=mem_of_lookup e;cases k with
   |free=>exact .inl m
   |cell=>exact .inr m
   |_=>rw[e]at h;rcases h with h|h<;>(simp at h)
 have lsz:=ns.lt;refine⟨⟨I.ok.mod,hk,I.ok.glob,I.ok.blt,zyW _, ?_, ?_, ?_,I.ok.hd,I.ok.frames,.inl rfl, ?_,I.bs,zzO I.ok.bsz I.sz, ?_, ?_,I.stack,I.stkFree⟩,rfl,I.bare,(Un.kept old),⟨_,ns, ?_⟩, ?_,I.hok.fresh<|zyW _, ?_,(λ_ z=>nomatch z),I.hok.kept old, ?_⟩
 . intro x y c e1 e2;refine LB scope.names _ _ (λp m=>?_) (λp m q m' e=>?_) (x,c) (mem_of_lookup e1) (y,c) (mem_of_lookup e2) rfl
   . exact zyZ<|zyZ<|lt _ _ (clo p m).1
   . refine I.ok.inj _ _ _ (clo p m).1 ?_;rw[e];exact(clo q m').1
 . intro x h
   rcases kinds x h with m|m
   . obtain⟨c,e,_⟩:=lookF x m;exact⟨c,e⟩
   . obtain⟨c,e⟩:=Nd scope.names _ _ x m;cases q:(cellsFrom _ scope.names _).lookup x with
     |some c'=>exact⟨c',q⟩
     |none=>
      exfalso;have:=List.lookup_eq_none_iff.mp q (x,c) e;simp at this
 . intro x c hx e;have hx:=hx;have m:=mem_of_lookup<|beq_iff_eq.mp hx
   rcases look x c e with z|z
   . exact absurd (Oh C.nd z.2 m) (by decide)
   . exact zzO (zzO (zyW _)<|zyW _) z.2.2
 . intro b hb;obtain⟨o,e⟩:=ho b hb;refine⟨zzQ<|zyZ<|zxH e,λx c ec=>?_⟩
   rcases look x c ec with z|z
   . exact(hf b hb).2.2.2.2.1 x c z.1
   . have:=zxH e;intro q;subst q;exact absurd (zzK this<|zzO (zzO (zyW _)<|zyW _) z.2.2)<|Nat.lt_irrefl _
 . intro b o e hb
   rcases(hf b hb).2.2.2.1 with z|z
   . exact I.ok.noex b o e z
   . exact absurd (zzK (zxH e)<|zzO I.ok.bsz z)<|Nat.lt_irrefl _
 . intro b hb hm
   rcases zzC.mp (I.stkSub b hm)with z|z
   . exact(hf b hb).2.1 z
   . exact(hf b hb).2.2.1 z
 . intro i x v e1 e2 e3;have e2:=e2;unfold XG at e2;rw[zzI]at e2;cases ec:cap[i]? with
   |none=>rw[ec]at e2;cases e2
   |some c=>
    cases c with
    |none=>rw[ec]at e2;cases e2
    |some j=>
     rw[ec]at e2;have e2:(σ[j]?).getD none=some v:=zzZ e2;obtain⟨xn,m⟩:=C.at_ i x j e1 ec;have es:σ[j]? = some (some v):=by
      cases q:σ[j]? with
      |none=>rw[q]at e2;cases e2
      |some y=>rw[q]at e2;exact congrArg some e2
     have kf:=C.fr _ m rfl;obtain⟨mm,hn,hl⟩:=I.loc;obtain⟨u,r,l⟩:=hl j x v xn es (by rcases kf with k|k;exact .inr<|.inl k;exact .inr<|.inr k);refine⟨u,r,.inr ⟨?_, ?_⟩⟩
     . show(relabel scope X.env).names.lookup x=some .cell\/(relabel scope X.env).names.lookup x=some .free;rw[Pj,Ln C.nd m];show some (if _ then _ else _)=_\/some (if _ then _ else _)=_
       split
       . exact .inl rfl
       . exact .inr rfl
     . obtain⟨c,ec,eo⟩:=lookF x m;refine⟨c,ec, ?_⟩
       rcases l with⟨k1,_⟩|⟨_,c2,e4,z⟩
       . have k1:X.env.scope.names.lookup x=some .local:=k1
         rcases kf with k|k<;>(rw[k1]at k;cases k)
       . rw[eo]at e4;cases e4;exact z.keeps old
 . intro x c e
   rcases look x c e with z|z
   . obtain⟨v,q⟩:=I.cell x c z.1;exact⟨v,q.keeps old⟩
   . exact⟨none,z.2.1⟩
 . intro x c e
   rcases look x c e with z|z
   . exact I.freeC x c z.1
   . exact I.hok.fresh<|zzO (zzO (zyW _)<|zyW _) z.2.2
 . show _=_;unfold XG;rw[zzB,C.len]
abbrev lobj(its:List Value):Obj:={cls:=.type "list",data:=.seq its.toArray its.length}
section
variable{X:Cx}{pins:List (Addr×Obj)}{σ:St}{H2:Hp}{s2:Shared}{elt tg iter:Expr}{ifs:List Expr}{scope:Scope}{pos:Pos}{N:List Str}{cap:List (Option Nat)}{g:TG}{tt:TT}{te:TE}{wi:TI}
set_option maxHeartbeats 1000000
def Fx{Q:VK}{R:Value->Addr->Result->Shared->Prop}
 (hc:X.calm=true) (C:CapOk N X.N scope.names X.env.scope.names cap) (hk:scope.kind = .function)
 (hg:∀cl s H fp,PG (y2 X N scope cl s H fp) tg g) (ht:∀cl s H fp,D3 (y2 X N scope cl s H fp) ifs tt) (he:∀cl s H fp,PE (y2 X N scope cl s H fp) elt te)
 (I2:Inv X pins σ H2 s2) (T:Turn X.prog X.w X.K tg J fp it tn) (st2:tn 0 s2.heap) (f2:∀b ∈ fp,Mv X pins H2 b)
 (W:Nat->Nat->List V->Hp->Prop) (m0:Nat) (w0:W 0 m0 [] H2)
 (turn:∀i m ys H,W i m ys H->ys.length<=sizeLine/\((J.stop i H/\∀p,H p=none->Q (.ref p) (upd H p<|.lst ys))\/(J.go i H/\∀x H',J.yld i H x H'->g x (XG cap σ) H' λσ2 H2=>(∀(j:Nat) v,(XG cap σ)[j]? = some (some v)->σ2[j]? = some (some v))/\
  tt σ2 H2 λb H3=>if b=true then ys.length<sizeLine/\te σ2 H3 λy H4=>∃m',m'<m/\W (i+1) m' (ys++[y]) H4 else ∃m',m'<m/\W (i+1) m' ys H3)))
 (fin:∀ys H3 s1 m,Inv X pins σ (upd H3 s2.heap.objs.size<|.lst ys) s1->s1.heap.Ns (s2.heap.objs.size+1) m->Mv X pins (upd H3 s2.heap.objs.size<|.lst ys) (s2.heap.objs.size+1)->
  Q (.ref s2.heap.objs.size) (upd H3 s2.heap.objs.size<|.lst ys)->R (.ref s2.heap.objs.size) (s2.heap.objs.size+1) (.ok .next) s1):
 wpAny (model X.prog X.w) X.A (newList []) (λacc s₃=>wpAny (model X.prog X.w) X.A (newFunctionEnv scope X.env.globals (WW X.env scope.names []) [] X.env.qual none .none<|some X.env) (λcenv s₄=>
  codeAny (model X.prog X.w) X.A (.compStart (.ListComp elt [⟨tg,iter,ifs,0⟩] scope pos) 0 (.ref it) acc {cenv with scope:=relabel scope X.env}) (R acc cenv.locals) s₄) E s₃) E s2:=by
 refine wpAny_newObj_type<|OA λh' env' eE eL old hns hcells=>?_;have e1:(s2.heap.push {cls:=.type "list",dict:=none,data:=.seq ([]:List Value).toArray}).objs.size=s2.heap.objs.size+1:=zxK ..;dsimp only at eE eL old hns hcells;rw[e1]at eE eL hns hcells;have hD0:(s2.heap.push {cls:=.type "list",dict:=none,data:=.seq ([]:List Value).toArray}).get? s2.heap.objs.size=some (lobj []):=zxI _ rfl;have hD:=old _ _ hD0;have old':∀b o,s2.heap.get? b=some o->h'.get? b=some o:=λb o q=>old b o<|zxG _ q;have fex:∀b ∈ fp,∃o,s2.heap.get? b=some o:=λb hb=>by obtain⟨o,e,_⟩:=T.obj _ _ st2 b hb;exact⟨o,e⟩
 have flt:∀b ∈ fp,b<s2.heap.objs.size:=λb hb=>by obtain⟨o,e⟩:=fex b hb;exact zxH e
 have I':=JS I2 C hk f2 fex old' hns hcells;rw[eE,eL];generalize hX:y2 X N scope (WW X.env scope.names []) s2 H2 fp=X' at I';have xP:X'.prog=X.prog:=by rw[<-hX]
 have xw:X'.w=X.w:=by rw[<-hX]
 have xK:X'.K=X.K:=by rw[<-hX]
 have xA:X'.A=X.A:=by rw[<-hX]
 have xe:X'.env=Rj scope X.env (WW X.env scope.names []) (s2.heap.objs.size+1):=by rw[<-hX]
 have xL:X'.env.locals=s2.heap.objs.size+1:=by rw[xe];rfl
 have xfs:X'.fs=u4 X.stack:=by rw[<-hX]
 have xex:X'.ex=fp:=by rw[<-hX]
 have xs:X'.s₀=s2:=by rw[<-hX]
 have xH:X'.H₀=H2:=by rw[<-hX]
 have xpn:X'.pn=[]:=by rw[<-hX]
 have xc:X'.calm=true:=by rw[<-hX];exact hc
 have xE:X'.xe=λ_ _=>False:=by rw[<-hX]
 have hg':PG X' tg g:=by rw[<-hX];exact hg _ _ _ _
 have ht':D3 X' ifs tt:=by rw[<-hX];exact ht _ _ _ _
 have he':PE X' elt te:=by rw[<-hX];exact he _ _ _ _
 have H2D:=I2.hok.fresh<|zzN _;have Dfs:s2.heap.objs.size ∉ X'.fs:=by
  rw[xfs];intro hm
  rcases zzC.mp (I2.stkSub _ hm)with z|z
  . exact absurd I2.lt (by rw[<-z];exact Nat.lt_irrefl _)
  . exact I2.nofs (zzN _) z
 have DL:s2.heap.objs.size≠X'.env.locals:=by rw[xL];exact zzQ<|Nat.lt_succ_self _
 have pinD:∀{σ':St}{H':Hp}{s':Shared}{its:List Value}{ps:List (Addr×Obj)},Inv X' ps σ' H' s'->s'.heap.get? s2.heap.objs.size=some (lobj its)->H' s2.heap.objs.size=none->Inv X' [(s2.heap.objs.size,lobj its)] σ' H' s':=λI e n=>
  I.pins_of λp hp=>by
   cases zzR.mp hp;exact⟨e,n,DL,Dfs,λv z=>by cases z⟩
 have stat:∀{H':Hp}{its:List Value},(∀b ∈ fp,H' b=none)->∀b ∈ fp,Mv X' [(s2.heap.objs.size,lobj its)] H' b:=λhn b hb=>by
  refine⟨hn b hb, ?_, ?_,.inl (by rw[xex];exact hb),(I'.ok.exf b<|by rw[xex];exact hb).2,λp hp=>?_⟩
  . exact(I'.ok.exf b<|by rw[xex];exact hb).1
  . exact I'.ok.exfs b (by rw[xex];exact hb)
  . rw[xpn,List.nil_append]at hp;cases zzR.mp hp;exact Nat.ne_of_gt<|flt b hb
 have loop:∀n s',(∃i ys its H3,Inv X' [(s2.heap.objs.size,lobj its)] (XG cap σ) H3 s'/\tn i s'.heap/\(∀b ∈ fp,H3 b=none)/\zR ys its/\W i n ys H3)->
  codeAny (model X.prog X.w) X.A (.compLoop (.ListComp elt [⟨tg,iter,ifs,0⟩] scope pos) 0 (.ref it) (.ref s2.heap.objs.size)<|Rj scope X.env (WW X.env scope.names [])<|s2.heap.objs.size+1)
   (R (.ref s2.heap.objs.size)<|s2.heap.objs.size+1) s':=by
  intro n s' h0;refine ON (λn s'=>∃i ys its H3,Inv X' [(s2.heap.objs.size,lobj its)] (XG cap σ) H3 s'/\tn i s'.heap/\(∀b ∈ fp,H3 b=none)/\zR ys its/\W i n ys H3) ?_ n h0;clear h0 n s'
  rintro n s3 E' ⟨i,ys,its,H3,I3,st3,fr3,rv3,w3⟩
  obtain⟨hz,hstep⟩:=turn i n ys H3 w3
  rcases hstep with⟨stop,qn⟩|⟨go,step⟩
  . have:=T.done X' xP xw xK xc i _ s3 _ H3 E' I3 (stat fr3) st3 stop;rw[xA]at this;refine zxL this (λr s4 ⟨hr,I4⟩=>?_) λ_ _ z=>z;subst hr;obtain⟨gD,nD,_⟩:=I4.pin (s2.heap.objs.size,lobj its) (by rw[xpn];simp);obtain⟨m,hn,_⟩:=I4.loc;rw[xL]at hn;have b4:=I4.base;rw[xfs,xex,xH,xs]at b4;have nL:H3 (s2.heap.objs.size+1)=none:=by have:=I4.free;rw[xL]at this;exact this
    have neD:∀b o,s2.heap.get? b=some o->b≠s2.heap.objs.size:=λb o e=>zzQ<|zxH e;have neH:∀b u,H2 b=some u->b≠s2.heap.objs.size:=λb u e z=>by rw[z,H2D]at e;cases e
    have ne3:∀b u,H3 b=some u->b≠s2.heap.objs.size:=λb u e z=>by rw[z,nD]at e;cases e
    have hok4:=I4.hok;rw[xP,xw]at hok4;refine fin ys H3 s4 m (I2.call' ?_ ⟨b4.keep,b4.slot,λb o e n hx=>?_,b4.there,λb xs e=>?_,λb o u e=>?_,λb ps e=>?_⟩ ?_ I4.bare λb hb=>?_) hn (I2.fpOk (zyW _)<|by rw[zK<|Nat.ne_of_gt<|Nat.lt_succ_self _];exact nL)<|qn _ nD
    . have:=I4.os;rw[xs]at this;exact this
    . rw[zK<|neD b o e];exact b4.free b o e n hx
    . rw[zK<|neH b _ e];exact b4.tups b xs e
    . rw[zK<|neH b _ e];exact b4.frzs b o u e
    . rw[zK<|neH b _ e];exact b4.tbls b ps e
    . intro b u e
      by_cases hb:b=s2.heap.objs.size
      . subst hb;rw[yd]at e;cases e;exact⟨hz,its,its.length,rv3,gD⟩
      . rw[zK hb]at e;exact(hok4 b u e).stay (λc v _ q=>q) (λc q=>by rw[zK<|ne3 c _ q];exact q) λc xs q=>by rw[zK<|ne3 c _ q];exact q
    . obtain⟨f0,f1,f3,f4,f5,f6⟩:=f2 b hb;exact⟨f4,f1,f5,f6⟩
  . have:=T.item X' xP xw xK xc i _ s3 _ H3 E' I3 (stat fr3) st3 go;rw[xA]at this;refine zxL this (λr s4 ⟨u,hr,h4⟩=>?_) λ_ _ z=>z;subst hr;refine zxL h4 (λ_ s5 ⟨x,H5,I5,r5,y5,st5,fr5⟩=>?_) λ_ _ z=>z;have I5':=I5.pinned (stat fr5)<|T.obj _ _ st5;have h6:=hg' _ s5 _ H5 x u _ I5' r5<|step x H5 y5;rw[xP,xw,xA,xe,xE]at h6;refine zxL h6 (λ_ s6 ⟨σ6,H6,I6,cap6,q6⟩=>?_) λ_ _ z=>z.elim;have h7:=ht' _ s6 σ6 H6 _ I6 q6;rw[xP,xw,xA,xe,xE]at h7;refine zxL h7 (λb s7 ⟨H7,I7,q7⟩=>?_) λ_ _ z=>z.elim;have keep:∀{H8:Hp}{s8:Shared},Inv X' _ σ6 H8 s8->Inv X' [(s2.heap.objs.size,lobj its)] (XG cap σ) H8 s8/\tn (i+1) s8.heap/\∀b ∈ fp,H8 b=none:=λ{H8 s8} I8=>by
     refine⟨I8.unpinned.weak ?_ cap6,T.keep _ _ _ st5 λb hb o e=>(I8.pin (b,o)<|zzL _<|zzL _<|Qt hb e).1,λb hb=>?_⟩
     . rw[I3.len];exact I8.len.symm
     . obtain⟨o,e,d⟩:=T.obj _ _ st5 b hb;exact(I8.pin (b,o)<|zzL _<|zzL _<|Qt hb e).2.1
    cases b with
    |false=>
     obtain⟨m',hm,w7⟩:=q7;obtain⟨k1,k2,k3⟩:=keep I7;exact⟨m',hm,i+1,ys,its,H7,k1,k2,k3,rv3,w7⟩
    |true=>
     obtain⟨hz2,q7⟩:=q7;have h8:=he' _ s7 σ6 H7 _ I7 q7;rw[xP,xw,xA,xe,xE]at h8;refine zxL h8 (λyv s8 ⟨y,H8,I8,ry,m',hm,w8⟩=>?_) λ_ _ z=>z.elim;obtain⟨k1,k2,k3⟩:=keep I8;obtain⟨gD,nD,_⟩:=k1.pin (s2.heap.objs.size,lobj its) (by rw[xpn];simp);have hl:=rv3.length;refine append_at gD (λh9 sb gD9=>?_) (by rw[zzH];omega);have I9:=(k1.pins_of (pins':=[]) (λ_ z=>nomatch z)).turned (t':=s8.toks) (λb o hb e=>(sb.2 b hb).trans e) nD DL (.inr<|by rw[xs];exact zzN _) (λx c ec z=>by
      obtain⟨v,o,ho,hd⟩:=k1.cell x c ec;rw[z,gD]at ho;cases ho;cases hd) (λp hp=>by rw[xpn]at hp;cases hp)
     have gD9':h9.get? s2.heap.objs.size=some (lobj<|its++[yv]):=by
      rw[gD9]
      congr 1
      show({cls:=.type "list",data:=.seq _ _}:Obj)={cls:=.type "list",data:=.seq (its++[yv]).toArray (its++[yv]).length};rw[zzJ,List.length_singleton,List.push_toArray]
     refine⟨m',hm,i+1,ys++[y],its++[yv],H8,pinD I9 gD9' nD,T.keep _ _ _ k2 λb hb o e=>(sb.2 b<|zzQ<|flt b hb).trans e,k3,rv3.append<|.cons ry .nil,w8⟩
 have start:∃i ys its H3,Inv X' [(s2.heap.objs.size,lobj its)] (XG cap σ) H3 {s2 with heap:=h'}/\tn i h'/\(∀b ∈ fp,H3 b=none)/\zR ys its/\W i m0 ys H3:=
  ⟨0,[],[],H2,pinD I' hD H2D,T.keep _ _ _ st2 λb hb o e=>old' b o e,λb hb=>(f2 b hb).1,.nil,w0⟩
 exact codeAny_compStart_list (loop m0 _ start)<|T.self _ 0 _ _ _ (T.keep _ _ _ st2 λb hb o e=>old' b o e)<|loop m0 _ start
def oW(hc:X.calm=true)(hi:PI X tg iter wi)(hk:scope.kind = .function)(hcap:RZ N X.N scope.names X.env.scope.names cap=true)
 (hg:∀cl s H fp,PG (y2 X N scope cl s H fp) tg g) (ht:∀cl s H fp,D3 (y2 X N scope cl s H fp) ifs tt) (he:∀cl s H fp,PE (y2 X N scope cl s H fp) elt te)
 (hs:∀x,foldedSetIterable iter X.env x=pure x):PE X (.ListComp elt [⟨tg,iter,ifs,0⟩] scope pos) (sH wi cap g tt te):=by
 intro a s σ H Q I h;have C:=Il hcap;refine wpAny_comprehension_free rfl hs (Tc λx m e=>I.ok.has x.1<|C.fr x m e) hk (λy m e=>Ln C.nd<|by rwa [<-e]) ?_;refine vK (hi a s σ H _ I h) λv O i=>vK i λj k l=>?_;obtain⟨P,S,U,J,V,e,n,T,d,f2,W,⟨p,t⟩,c⟩:=l;subst e;refine Fx hc C hk hg ht he n T d f2 W p t c λY Z z m B D fl q=>?_;refine⟨m,D,λh' E=>?_⟩;obtain⟨F,f1,f3,G,K,L⟩:=fl;exact⟨.ref k.heap.objs.size,_,B.turned (t':=z.toks) (λb o M e=>(E.2 b M).trans e) F f1 G K L,rfl,q⟩
def A6(hN:X.N.Nodup)(hiy:X.N[i]? = some y)(hy:Loc X.env.scope y)(hf:X.fn y=true\/X.env.scope.names.lookup y=some .local)
 (hsw:swapsWith (.ListComp elt [⟨tg,iter,ifs,0⟩] scope pos) (some<|.Name y py) spos.line X.env=pure true)
 (hc:X.calm=true) (hi:PI X tg iter wi) (hk:scope.kind = .function) (hcap:RZ N X.N scope.names X.env.scope.names cap=true)
 (hg:∀cl s H fp,PG (y2 X N scope cl s H fp) tg g) (ht:∀cl s H fp,D3 (y2 X N scope cl s H fp) ifs tt) (he:∀cl s H fp,PE (y2 X N scope cl s H fp) elt te)
 (hs:∀x,foldedSetIterable iter X.env x=pure x):PS X (.Assign [.Name y py] (.ListComp elt [⟨tg,iter,ifs,0⟩] scope pos) spos) (jk (sH wi cap g tt te)<|DU i):=by
 intro c s σ H D I h;have C:=Il hcap;rw[exec_Assign_Name_used _ _ _ _ hsw];refine zxE<|wpAny_standAt<|zxE ?_;refine zxE<|zxL (wpAny_comprehension_free rfl hs (Tc λx m e=>I.ok.has x.1<|C.fr x m e) hk (λy m e=>Ln C.nd<|by rwa [<-e]) ?_) (λ_ d t=>zxF<|zxF t) λ_ _ e=>e;refine vK (hi c s σ H _ I h) λv s1 u=>vK u λB E F=>?_;obtain⟨it,fp,tn,J,H2,e,G,T,k,f2,W,⟨K,L⟩,f⟩:=F;subst e;refine Fx (Q:=λx M=>DU i x σ M D.nx) hc C hk hg ht he G T k f2 W K L f λys H3 s3 m O P fl q=>?_;obtain⟨S,f1,f3,U,p,V⟩:=fl;refine wpAny_assign_Name<|Hb O hN hiy hy (v:=.ref E.heap.objs.size) rfl (λY Z ⟨a,sb,j⟩=>?_) hf;refine⟨m,P.sameBut sb λz=>?_,λh' n=>?_⟩
 . rcases j with j|j
   . exact f1<|z.trans j
   . exact p y a j z.symm
 . exact⟨_,_,Z.turned (t':=Y.toks) (λb o hb e=>(n.2 b hb).trans e) S f1 U p V,q⟩
end
structure ItC(K:zzA)(kd:KD)(F:Addr->Prop)(H:Hp)(J:It)(ds:List ZA):Prop where
 all:∀(H2:Hp) (T:Addr->Prop),(∀b u,H b=some u->H2 b=some u)->(∀a,T a->H a=none/\H2 a≠none)->∀i,(i<ds.length->J.go i H2)/\(ds.length<=i->J.stop i H2)/\
  ∀v H3,J.yld i H2 v H3->(∀b o,H2 b=some o->H3 b=some o)/\∀x,ds[i]? = some x->Rp K kd (λa=>x.1=true/\(F a\/T a)) H3 v x.2
def d5(K:zzA)(kd:KD)(f:IF):TI:=λσ H R=>∃F B ad as ds as',Rel K kd F B [] ad as σ H/\f as=some (ds,as')/\
 ∀J ad' H',Rel K kd F B [] ad' as' σ H'->Grow (Gw [] ad) H (Gw [] ad') H'->ItC K kd (Lv F B (Gw [] ad') true) H' J ds->R J H'
@[irreducible] def oG(X:Cx)(kd:KD)(tg iter:Expr)(f:IF):Prop:=PI X tg iter<|d5 X.K kd f
def OM(os:List O):List ZA:=os.map λo=>match o with | .lf st d=>(st,d)|o=>(false,o.toD)
def dj(as:AS):RV->Option (List ZA)
 | .ow o=>Sw (o.str,o.toD)
 | .bo i=>match as[i]? with
  |some (some (.nd .ls os))=>some (OM os)
  |some (some (.nd .tp os))=>some (OM os)
  |_=>none
def Vz(f:EF):IF:=λas=>(f as).bind λp=>(dj p.2 p.1).bind λds=>some (ds,p.2)
section
variable{K:zzA}{kd:KD}{F B:Addr->Prop}{G:Addr->Prop}{T:List Addr}{ad:Ad}{as:AS}{σ:St}{H H':Hp}
inductive RpC(K:zzA)(kd:KD)(F:Addr->Prop)(H:Hp):List V->List ZA->Prop
 |nil:RpC K kd F H [] []
 |cons {v:V}{x:ZA}{vs:List V}{ds:List ZA}:Rp K kd (λa=>x.1=true/\F a) H v x.2->RpC K kd F H vs ds->RpC K kd F H (v::vs) (x::ds)
theorem RpC.length(h:RpC K kd F H vs ds):vs.length=ds.length:=by
 induction h with
 |nil=>rfl
 |cons _ _ ih=>exact congrArg _ ih
def RpC.get{i:Nat}(h:RpC K kd F H vs ds)(e:ds[i]? = some x):∃v,vs[i]? = some v/\Rp K kd (λa=>x.1=true/\F a) H v x.2:=by
 induction h generalizing i with
 |nil=>simp at e
 |cons h r ih=>
  cases i with
  |zero=>simp at e;subst e;exact⟨_,rfl,h⟩
  |succ i=>
   obtain⟨v,h1,h2⟩:=ih ⋯;exact⟨v,⋯,h2⟩
def Rp.since{T}(k:∀b u,H b=some u->H' b=some u)(hT:∀a,T a->H a=none)(h:Rp K kd Ob H v d):Rp K kd (TB Ob T) H' v d:=
 Rp.grow (W':=T) (H':=H') ⟨λb u q _=>k b u q,λb z=>.inr<|hT b z⟩ (h.less λa z=>z.elim id False.elim)
def E4{st}(h:RpL K kd (Lv F B G st) H vs ds):RpC K kd (Lv F B G true) H vs (kids st ds):=
 RpL.ind (P:=λvs ds=>RpC K kd _ H vs<|kids st ds) .nil (λ{v d vs ds} h _ ih=>by
  refine .cons (x:=(zu d||st,d)) ?_ ih;cases e:zu d with
  |true=>exact h.flat e
  |false=>
   refine h.less λa z=>?_;have zs:st=true:=z.1;rw[zs];exact z.2) h
def mJ{os}(h:ZN K kd F B G H vs os fp):RpC K kd (Lv F B G true) H vs (OM os):=
 RoL.ind (P:=λvs os _=>RpC K kd _ H vs<|OM os) .nil (λ{v o vs os fp fq} h _ ih=>by
  have ha:=Bn h;refine .cons ?_ ih;cases h with
  |lf rp=>exact rp.less λa z=>(by have zs:=z.1;dsimp only at zs;rw[zs];exact z.2)
  |ls=>exact ha.less λa z=>nomatch z.1
  |dc=>exact ha.less λa z=>nomatch z.1
  |ob=>exact ha.less λa z=>nomatch z.1
  |tp=>exact ha.less λa z=>nomatch z.1) h
def E8(h:FT K H a vs)(r:RpC K kd F H vs ds):ItC K kd F H (fA K a) ds:=⟨λH3 T k hT i=>by
 have hr3:FT K H3 a vs:=by
  rcases h with(h|⟨o,h⟩)|h
  . exact .inl<|.inl<|k _ _ h
  . exact .inl<|.inr ⟨o,k _ _ h⟩
  . exact .inr h
 refine⟨λhi=>?_,λhi=>⟨_,hr3,by rwa [r.length]⟩,λv H4 hy=>?_⟩
 . obtain⟨u,hu,_⟩:=r.get<|zzE hi;exact⟨_,u,hr3,hu⟩
 . obtain⟨rfl,hv⟩:=hy;refine⟨λ_ _ z=>z,λd hd=>?_⟩;obtain⟨u,hu,ru⟩:=r.get hd;have:=hv _ hr3;rw[hu]at this;cases this;exact(ru.since k λa z=>(hT a z).1).less λa z=>z.2.elim (λy=>.inl ⟨z.1,y⟩) .inr⟩
def Df(h:Gx K H a vs)(r:RpC K kd F H vs ds):ItC K kd F H (fG K a) ds:=⟨λH3 T k hT i=>by
 have hr3:Gx K H3 a vs:=by
  rcases h with(h|⟨o,h⟩)|h
  . exact .inl<|.inl<|k _ _ h
  . exact .inl<|.inr ⟨o,k _ _ h⟩
  . exact .inr h
 refine⟨λhi=>?_,λhi=>⟨_,hr3,by rwa [r.length]⟩,λv H4 hy=>?_⟩
 . obtain⟨u,hu,_⟩:=r.get<|zzE hi;exact⟨_,u,hr3,hu⟩
 . obtain⟨rfl,hv⟩:=hy;refine⟨λ_ _ z=>z,λd hd=>?_⟩;obtain⟨u,hu,ru⟩:=r.get hd;have:=hv _ hr3;rw[hu]at this;cases this;exact(ru.since k λa z=>(hT a z).1).less λa z=>z.2.elim (λy=>.inl ⟨z.1,y⟩) .inr⟩
def oh(lo)(n:Nat):ItC K kd F H (jX lo n) (Xl lo n):=⟨λH2 T k hT i=>by
 have hl:(Xl lo n).length=n:=by unfold Xl;simp
 refine⟨λhi=>by rw[hl]at hi;exact hi,λhi=>by rw[hl]at hi;exact hi,λv H3 hy=>?_⟩;obtain⟨rfl,rfl⟩:=hy;refine⟨λ_ _ z=>z,λd hd=>?_⟩;have hi:i<n:=by rw[<-hl];exact(zzG.mp hd).1
 unfold Xl at hd;rw[zzI,List.getElem?_range hi]at hd;cases hd;exact .int _⟩
end
def sZ(he:AE X kd e fa):oG X kd tg e (Vz fa):=by
 with_unfolding_all (
 intro pins s σ H R I h;obtain⟨F,B,ad,as,ds,as',Rl,e,q⟩:=h;obtain⟨⟨p,as1⟩,h1,e⟩:=bS_<|e;obtain⟨ys,h2,e⟩:=bS_ e;cases e;cases p with
 |ow o=>
  have h2:Sw _=some ds:=h2;generalize hd:o.toD=d at h2;cases d with
  |lst xs=>
   cases h2;refine H_ he pins s σ H R I ⟨F,B,ad,as,_,as1,Rl,h1,λv T1 ad1 H1 R1 rv1 g1=>?_⟩;have rp:=JC R1 rv1;rw[hd]at rp;cases rp with
   |lst hn hr rl=>exact⟨_,rfl,⟨_,.inl hr⟩,q _ ad1 H1 R1.drop (g1.trans<|Grow.less Gw.drop)<|E8 (.inl hr)<|E4 rl⟩
   |lstK a b c rl=>exact⟨_,rfl,⟨_,.inr ⟨_,_,_,a,rfl,rfl,rfl,b,c⟩⟩,q _ ad1 H1 R1.drop (g1.trans<|Grow.less Gw.drop)<|E8 (.inr ⟨_,_,_,a,rfl,rfl,rfl,b,c⟩)<|E4 rl⟩
  |tup xs=>
   cases h2;refine Jy he pins s σ H R I ⟨F,B,ad,as,_,as1,Rl,h1,λv T1 ad1 H1 R1 rv1 g1=>?_⟩;have rp:=JC R1 rv1;rw[hd]at rp;have go:∃a ys,v = .ref a/\Gx X.K H1 a ys/\RpL X.K kd (Lv F B (Gw [] ad1) o.str) H1 ys xs:=by
    cases rp with
    |tup n h r=>exact⟨_,_,rfl,.inl h,r⟩
    |tupK a b c e f r=>exact⟨_,_,rfl,.inr ⟨_,_,_,a,b,c,e,f⟩,r⟩
   obtain⟨a,ys,rfl,hs,rl⟩:=go;exact⟨_,rfl,⟨_,hs⟩,q _ ad1 H1 R1.drop (g1.trans<|Grow.less Gw.drop)<|Df hs<|E4 rl⟩
  |_=>cases h2
 |bo i=>
  have h2:(match as1[i]? with|some (some<|.nd .ls os)=>some _|some (some<|.nd .tp os)=>some _|_=>none)=some ds:=h2;cases k:as1[i]? with
  |none=>rw[k]at h2;cases h2
  |some s0=>
   rw[k]at h2
   match s0,h2,k with
   |some (.nd .ls os),h2,k=>
    cases h2;refine H_ he pins s σ H R I ⟨F,B,ad,as,_,as1,Rl,h1,λv T1 ad1 H1 R1 rv1 g1=>?_⟩;obtain⟨rfl,hs⟩:=rv1;obtain⟨w,hw,ro⟩:=R1.sl i _ k;rw[hs]at hw;cases hw;generalize hfp:ad1 i=fp at ro;cases ro with
    |ls hH rl=>exact⟨_,rfl,⟨_,.inl<|.inl hH⟩,q _ ad1 H1 R1 g1<|E8 (.inl<|.inl hH)<|mJ rl⟩
   |some (.nd .tp os),h2,k=>
    cases h2;refine Jy he pins s σ H R I ⟨F,B,ad,as,_,as1,Rl,h1,λv T1 ad1 H1 R1 rv1 g1=>?_⟩;obtain⟨rfl,hs⟩:=rv1;obtain⟨w,hw,ro⟩:=R1.sl i _ k;rw[hs]at hw;cases hw;generalize hfp:ad1 i=fp at ro;cases ro with
    |tp n hH rl=>exact⟨_,rfl,⟨_,.inl<|.inl hH⟩,q _ ad1 H1 R1 g1<|Df (.inl<|.inl hH)<|mJ rl⟩)
def SI(hg:Gl X "range")(hm:X.mg "range"=none)(ha:AA X kd [a] fr)(hs:starEach [a] X.env=[(false,eval a X.env)]):oG X kd tg (.Call (.Name "range" p) [a] [] pos) (Xo fr Rc):=by
 with_unfolding_all (
 intro pins s σ H R I h;obtain⟨F,B,ad,as,ds,as',Rl,e,q⟩:=h;obtain⟨⟨ps,as1⟩,h1,e⟩:=bS_<|e;obtain⟨⟨xs,lv⟩,h2,e⟩:=bS_ e;obtain⟨ys,h3,e⟩:=bS_ e;cases e;obtain⟨j,rfl,h3⟩:=A9 h3
 . obtain⟨hj,e3⟩:=zy h3;cases e3;refine Sx hg hm ha hs pins s σ H R I ⟨F,B,ad,as,ps,_,Rl,h1,λvs ad1 H1 R1 rv1 g1=>?_⟩;have vl:=KS R1 rv1 h2;cases vl with
   |cons v1 v2=>
    cases v2;cases v1;exact⟨j,rfl,hj.1,hj.2,q _ ad1 H1 R1 g1<|oh 0 _⟩)
def eO(as:AS):Option Nat->Option O
 |none=>none
 |some j=>match as[j]? with
  |some (some (.lf st d))=>some (.lf st d)
  |some (some o)=>some (.lf false o.toD)
  |_=>none
def Oi(cap:List (Option Nat))(as:AS):AS:=cap.map<|eO as
def XD(g:GF)(tt:TF)(fe:EF)(as0:AS):List ZA->Option (List O)
 | []=>some []
 |x::r=>(g x as0).bind λas1=>(tt as1).bind λb=>if b.1=true then(fe b.2).bind λp=>(jZ p.2 p.1).bind λq=>if q.1.str=true then(XD g tt fe as0 r).bind λos=>some (q.1::os)else none
  else XD g tt fe as0 r
def yK(fi:IF)(cap:List (Option Nat))(g:GF)(tt:TF)(fe:EF):EF:=λas=>(fi as).bind λp=>if p.1.length<=sizeLine then(XD g tt fe (Oi cap p.2) p.1).bind λos=>some (.ow<|.nd .ls os,p.2)else none
def YD:TF:=λas=>some (true,as)
section
variable{K:zzA}{kd:KD}{F B:Addr->Prop}{T:List Addr}{ad:Ad}{as:AS}{σ:St}{H H':Hp}{cap:List (Option Nat)}
def oV(R:Rel K kd F B [] ad as σ H)(k:∀b u,H b=some u->H' b=some u)(hT:∀a ∈ T,H a=none)(hT':∀a ∈ T,H' a≠none):
 Rel K kd (TB (Lv F B (Gw [] ad) true) (· ∈ T)) (λ_=>False) [] (λ_=>[]) (Oi cap as) (XG cap σ) H':=by
 have no:∀a,¬Gw [] (λ_=>[]) a:=λa z=>z.elim ⋯ λ⟨_,y⟩=>nomatch y;have kn:∀a,H a≠none->H' a≠none:=λa z=>by
  cases e:H a with
  |none=>exact absurd e z
  |some u=>rw[k a u e];simp
 have up:∀{st:Bool}{v:V}{d:D},Rp K kd (λa=>st=true/\Lv F B (Gw [] ad) true a) H v d->Rp K kd (Lv (TB _ _) (λ_=>False) _ st) H' v d:=λ{st v d} h=>by
  have:=Rp.grow (W':=_) (H':=H') ⟨λb u q _=>k b u q,λb z=>.inr<|hT b z⟩<|h.less λa z=>z.elim id False.elim;refine this.less λa z=>?_
  rcases z with(⟨z1,z2⟩|z)|z
  . rcases z2 with z2|z2
    . exact .inl ⟨z1,z2⟩
    . exact .inr z2
  . exact z.elim
  . exact(no a z).elim
 refine⟨by unfold Oi XG;rw[zzB,zzB],λ_ _=>rfl,λ_=>zyJ,(λ_ _ _ z=>nomatch z),zyJ,(λ_ _ _ z=>nomatch z),λa z=>z.elim (λy=>kn a<|R.trk true a y)<|hT' a,(λ_ z=>z.elim),λa z=>(no a z).elim,λi s e=>?_⟩;unfold Oi at e;rw[zzI]at e;obtain⟨c,hc,rfl⟩:=zzX.mp e;have es:(XG cap σ)[i]? = some (gB σ c):=by
  unfold XG;rw[zzI,hc];rfl
 rw[es];cases c with
 |none=>rfl
 |some j=>
  show E6 _ _ _ _ _ _ (match as[j]? with|some (some<|.lf st d)=>some _|some (some o)=>some _|_=>none) _ _;cases k2:as[j]? with
  |none=>rfl
  |some s0=>
   cases s0 with
   |none=>rfl
   |some o=>
    obtain⟨v,hv,ro⟩:=R.sl j _ k2;cases o with
    |lf st d=>
     have e0:ad j=[]:=by
            generalize hfp:ad j=fp at ro;cases ro;rfl
     rw[e0]at ro;refine⟨v,by show some ((σ[j]?).getD none)=_;rw[hv];rfl,.lf<|up ?_⟩;exact(Eg ro).less λa z=>by have zs:=z.1;rw[zs];exact z.2
    |nd kk os=>exact⟨v,by show some ((σ[j]?).getD none)=_;rw[hv];rfl,.lf<|up ((Bn ro).less λa z=>nomatch z.1)⟩
def Az(hS:∀i ∈ S,cap[i]? = some none)(h:al K kd (yK fi cap g tt fe) σ H Q):
 sH (d5 K kd fi) cap (gF K kd S g) (qK K kd tt) (al K kd fe) σ H Q:=by
 obtain⟨F,B,ad,as,r,as',R,e,q⟩:=h;obtain⟨⟨ds,as1⟩,h1,e⟩:=bS_<|e
 by_cases hz:ds.length<=sizeLine
 . have e:(if ds.length<=sizeLine then(XD g tt fe (Oi cap as1) ds).bind λos=>some (RV.ow<|.nd .ls os,as1)else none)=some (r,as'):=e;rw[if_pos hz]at e;obtain⟨os,h2,e⟩:=bS_ e;cases e;refine⟨F,B,ad,as,ds,as',R,h1,λJ ad1 H1 R1 g1 it=>?_⟩;refine⟨λi m ys H3=>m+i=ds.length/\∃T os1 os2,os=os1++os2/\XD g tt fe (Oi cap as') (ds.drop i)=some os2/\os1.length<=i/\T.Nodup/\(∀a ∈ T,H1 a=none/\H3 a≠none)/\(∀b u,H1 b=some u->H3 b=some u)/\
    RoL (λ_ v d=>Rp K kd (TB (Lv F B (Gw [] ad1) true) (· ∈ T)) H3 v d) (λa=>¬TB (Lv F B (Gw [] ad1) true) (· ∈ T) a) H3 ys os1 T,⟨ds.length,rfl,[],[],os,rfl,h2,zzN _,zyJ,(λ_ m=>nomatch m),(λ_ _ z=>z),.nil⟩, ?_⟩
   rintro i m ys H3 ⟨hm,T,os1,os2,eo,ec,hl,tnd,tf,k3,rl⟩
   obtain⟨i1,i2,i3⟩:=it.all H3 (· ∈ T) k3 tf i;have yl:=rl.length;refine⟨by omega, ?_⟩
   by_cases hi:i<ds.length
   . refine .inr ⟨i1 hi,λv H4 hy=>?_⟩;obtain⟨k4,rp⟩:=i3 v H4 hy;rw[zyQ hi]at ec;obtain⟨as2,e2,ec⟩:=bS_<|ec;obtain⟨⟨b,as3⟩,e3,ec⟩:=bS_ ec;have k14:=λb u h=>k4 b u<|k3 b u h;have kn4:∀a,H3 a≠none->H4 a≠none:=λa z=>by
      cases e:H3 a with
      |none=>exact absurd e z
      |some u=>rw[k4 a u e];simp
     have R4:=oV (cap:=cap) R1 k14 (λa z=>(tf a z).1) λa z=>kn4 a (tf a z).2;have no:∀a,¬Gw [] (λ_=>[]) a:=λa z=>z.elim (λy=>nomatch y) λ⟨_,y⟩=>nomatch y;refine⟨_,_,_,_,ds[i],as2,R4,(rp _<|zzE hi).less λa z=>?_,e2,λσ5 ad5 H5 R5 g5 keep5=>⟨λj w hw=>?_,_,_,ad5,as2,b,as3,R5,e3,λad6 H6 R6 g6=>?_⟩⟩
     . rcases z with(z|z)|z
       . exact z
       . exact z.elim
       . exact(no a z).elim
     . rw[keep5 j λz=>?_]
       . exact hw
       . have:=hS j z;unfold XG at hw;rw[zzI,this]at hw;cases hw
     . -- what stood is kept
       have g46:=g5.trans g6;have k46:=λb u h=>g46.keep b u h<|no b;have k36:=λb u h=>k46 b u<|k4 b u h;have kn6:∀a,H3 a≠none->H6 a≠none:=λa z=>by
        cases e:H3 a with
        |none=>exact absurd e z
        |some u=>rw[k36 a u e];simp
       have up:∀{H7:Hp}{T2:List Addr},_->_->RoL (λ_ v d=>Rp K kd (TB _ (· ∈ T++T2)) H7 v d) (λa=>¬TB _ (· ∈ T++T2) a) H7 ys os1 T:=λ{H7 T2} k7 f7=>
        RoL.mono (λst v d r=>(r.since k7 f7).less λa z=>z.elim (λy=>.inl<|.inl y) λy=>(zzM.mp y).elim (λx=>.inl<|.inr x) .inr)
            (λa vs n e=>⟨λz=>z.elim (λy=>n<|.inl y) λy=>(zzM.mp y).elim (λx=>n<|.inr x) λx=>(by have:=f7 a x;rw[this]at e;cases e),k7 _ _ e⟩) (λa _ u h=>k7 a u h) rl
       cases b with
       |false=>
        have:=up (T2:=[]) k36 (λ_ m=>nomatch m);rw[zyE]at this;exact⟨m-1,by omega,by omega,T,os1,os2,eo,ec,Nat.le_succ_of_le hl,tnd,λa z=>⟨(tf a z).1,kn6 a (tf a z).2⟩,λb u h=>k36 b u<|k3 b u h,this⟩
       |true=>
        rw[if_pos rfl]at ec;obtain⟨⟨p,as7⟩,e7,ec⟩:=bS_ ec;obtain⟨⟨o,as8⟩,e8,ec⟩:=bS_ ec
        by_cases hs:o.str=true
        . have ec:=ec;rw[if_pos hs]at ec;obtain⟨os3,e9,ec⟩:=bS_ ec;cases ec;refine⟨by omega,_,_,ad6,as3,p,as7,R6,e7,λy T2 ad7 H7 R7 rv7 g7=>?_⟩;obtain⟨ad8,R8,ro8,le8⟩:=En R7 rv7 e8;have g47:=g46.trans g7;have k47:=λb u h=>g47.keep b u h<|no b;have k37:=λb u h=>k47 b u<|k4 b u h;have f42:=λa z=>(g47.own a<|.inl z).resolve_left<|no a;have f32:∀a ∈ T2,H3 a=none:=λa z=>by
             cases e:H3 a with
             |none=>rfl
             |some u=>have:=k4 a u e;rw[f42 a z]at this;cases this
          have rt:=Hn R8 R8.tnd (λa z=>.inl z) ro8 hs;have ro9:Ro (λ_ v d=>Rp K kd (TB _ (· ∈ T++T2)) H7 v d) (λa=>¬TB _ (· ∈ T++T2) a) H7 y o T2:=
             Ro.mono (λst v d r=>r.less λa z=>z.elim (λy=>.inl<|.inl y) λy=>(zzM.mp y).elim (λx=>.inl<|.inr x) .inr)
              (λa vs n e=>⟨λz=>n<|z.elim (λy=>.inl<|.inl y) λy=>(zzM.mp y).elim (λx=>.inl<|.inr x) .inr,e⟩) (λ_ _ _ h=>h) rt.ro
          refine⟨m-1,by omega,by omega,T++T2,os1++[o],os3,by rw[eo,zxB];rfl,e9,by rw[zzJ,List.length_singleton];omega,zxD.mpr ⟨tnd,rt.nd,λa z b z' e=>?_⟩,λa z=>?_,λb u h=>k37 b u<|k3 b u h,(up k37 f32).append<|RoL.one ro9⟩
          . subst e;exact(tf a z).2<|f32 a z'
          . rcases zzM.mp z with z|z
            . refine⟨(tf a z).1, ?_⟩;cases e:H3 a with
              |none=>exact absurd e (tf a z).2
              |some u=>rw[k37 a u e];simp
            . refine⟨?_,rt.tr a z⟩;cases e:H1 a with
              |none=>rfl
              |some u=>have:=k3 a u e;rw[f32 a z]at this;cases this
        . have ec:=ec;rw[if_neg hs]at ec;cases ec
   . refine .inl ⟨i2 (by omega),λp hp=>?_⟩;rw[List.drop_eq_nil_of_le<|by omega]at ec;cases ec;rw[zyE]at eo;subst eo;have pT:=λz=>(tf p z).2 hp;have H1p:H1 p=none:=by
      cases e:H1 p with
      |none=>rfl
      |some u=>have:=k3 p u e;rw[hp]at this;cases this
     have kp:∀b u,H3 b=some u->upd H3 p (.lst ys) b=some u:=λb u h=>by rw[zK<|yg h hp];exact h
     obtain⟨R9,g9⟩:=R1.news (T':=p::T) (H':=upd H3 p<|.lst ys) (zzW.mpr ⟨pT,tnd⟩) (λa z=>(zzC.mp z).elim (λe=>by rw[e];exact H1p) λz=>(tf a z).1) (λb u h=>kp b u<|k3 b u h) (λa z=>by
      rcases zzC.mp z with e|z
      . rw[e,yd];simp
      . cases e:H3 a with
        |none=>exact absurd e (tf a z).2
        |some u=>rw[kp a u e];simp)
     refine q _ (p::T) ad1 _ R9 (.ls yd ?_)<|g1.trans g9;have le:∀st a,Lv F B (Gw (p::T) ad1) st a->TB (TB (Lv F B (Gw [] ad1) true) (· ∈ T)) (· = p) a:=λst a z=>by
      rcases z with(z|z)|z|z
      . exact .inl<|.inl<|.inl<|.inl ⟨rfl,z.2⟩
      . exact .inl<|.inl<|.inl<|.inr z
      . exact(zzC.mp z).elim .inr λy=>.inl<|.inr y
      . exact .inl<|.inl<|.inr<|.inr z
     exact RoL.mono (λst v d r=>(r.since kp λa z=>by rw[z];exact hp).less<|le st) (λa vs n e=>⟨λz=>(le true a z).elim n λy=>(by rw[y,hp]at e;cases e),kp _ _ e⟩) (λa _ u h=>kp a u h) rl
 . have e:=e;rw[if_neg hz]at e;cases e
end
section
variable{X:Cx}{kd:KD}{elt tg iter e a b c:Expr}{es ifs:List Expr}{scope:Scope}{pos:Pos}{N:List Str}{cap:List (Option Nat)}{g:GF}{tt:TF}{fe fa fb:EF}{fi:IF}{S:List Nat}{fr:AF}{fd:DF}
def O0:D3 X [] (qK X.K kd YD):=λa s σ H Q I h=>by
 obtain⟨F,B,c,as,b,d,R,e,q⟩:=h;cases e;exact oT a s σ H Q I<|q c H R Grow.refl
def ni(h:AT X kd c tt):D3 X [c] (qK X.K kd tt):=by with_unfolding_all exact(qX h)
def pw(hc:X.calm=true)(hi:oG X kd tg iter fi)(hk:scope.kind = .function)(hcap:RZ N X.N scope.names X.env.scope.names cap=true)(hS:S.all (λi=>cap[i]? == some none)=true)
 (hg:∀cl s H fp,AG (y2 X N scope cl s H fp) kd tg S g) (ht:∀cl s H fp,D3 (y2 X N scope cl s H fp) ifs<|qK X.K kd tt) (he:∀cl s H fp,AE (y2 X N scope cl s H fp) kd elt fe)
 (hs:∀x,foldedSetIterable iter X.env x=pure x):AE X kd (.ListComp elt [⟨tg,iter,ifs,0⟩] scope pos) (yK fi cap g tt fe):=by with_unfolding_all exact(yo (oW (g:=gF X.K kd S g) (te:=al X.K kd fe) hc hi hk hcap hg ht he hs) λσ H Q h=>Az (λi m=>by simpa using List.all_eq_true.mp hS i m) h)
def A5(hN:X.N.Nodup)(hiy:X.N[i]? = some y)(hy:Loc X.env.scope y)(hf:X.fn y=true\/X.env.scope.names.lookup y=some .local)
 (hsw:swapsWith (.ListComp elt [⟨tg,iter,ifs,0⟩] scope pos) (some<|.Name y py) spos.line X.env=pure true)
 (hc:X.calm=true) (hi:oG X kd tg iter fi) (hk:scope.kind = .function) (hcap:RZ N X.N scope.names X.env.scope.names cap=true) (hS:S.all (λi=>cap[i]? == some none)=true)
 (hg:∀cl s H fp,AG (y2 X N scope cl s H fp) kd tg S g) (ht:∀cl s H fp,D3 (y2 X N scope cl s H fp) ifs<|qK X.K kd tt) (he:∀cl s H fp,AE (y2 X N scope cl s H fp) kd elt fe)
 (hs:∀x,foldedSetIterable iter X.env x=pure x):Jl X kd (.Assign [.Name y py] (.ListComp elt [⟨tg,iter,ifs,0⟩] scope pos) spos) (zE z i<|yK fi cap g tt fe):=by with_unfolding_all exact(vE (A6 (g:=gF X.K kd S g) (te:=al X.K kd fe) hN hiy hy hf hsw hc hi hk hcap hg ht he hs) λD σ H h=>by
 obtain⟨F,B,c,as,o,R,e,q⟩:=h;obtain⟨⟨p,a⟩,d,e⟩:=bS_<|e;obtain⟨_,j,e⟩:=bS_ e;obtain⟨k,e⟩:=zy e;cases e;refine Az (λi m=>by simpa using List.all_eq_true.mp hS i m) ⟨F,B,c,as,p,a,R,d,λv A n r t u g=>?_⟩;obtain⟨b,R2,w⟩:=HR t u j k;exact q _ b r R2<|g.trans<|Grow.less w)
def DR(F:FnOk X.prog X.w X.K X.mg X.base xJ k f fdt ps (VT X.K kd gg))(hr:Room k X.A)(hg:Gl X x)(hm:X.mg x=some (.ref f))(hk:W.keepIn X.K (.ref f)=true)
 (hb:Binds X.K fdt ps []) (hx:ZE xJ X (λ_ _ _=>False)) (ha:AA X kd (e::es) fr) (hdb:(x==("__debug__":Str))=false) (he:starEach (e::es) X.env=(false,eval e X.env)::starEach es X.env) (hpl:(backTo pos<|starEach es X.env).any (·.1)=false):
 AE X kd (.Call (.Name x p) (e::es) [] pos) (zd fr gg):=by with_unfolding_all exact(yo (Hu F hr hg hm hk hb .nil hx ha hdb he hpl) λσ H Q h=>jK h)
def lM{id}(hc:UI X kd (.builtin id) gg)(hg:Gl X x)(hm:X.mg x=none)(hv:bootBuiltins x=some (.builtin id))(ha:AA X kd (e::es) fr)(hn:x≠"__name__")(hdb:(x==("__debug__":Str))=false)
 (he:starEach (e::es) X.env=(false,eval e X.env)::starEach es X.env) (hpl:(backTo pos<|starEach es X.env).any (·.1)=false):AE X kd (.Call (.Name x p) (e::es) [] pos) (fP fr gg):=by with_unfolding_all exact(yo (FS hc hg hm hv ha hn hdb he hpl) λσ H Q h=>dU (λ_ _ _ z=>z) h)
def jG(hc:UI X kd (.type T) gg)(hg:Gl X x)(hm:X.mg x=none)(hv:bootBuiltins x=some (.type T))(ha:AA X kd (e::es) fr)(hn:x≠"__name__")(hdb:(x==("__debug__":Str))=false)
 (he:starEach (e::es) X.env=(false,eval e X.env)::starEach es X.env) (hpl:(backTo pos<|starEach es X.env).any (·.1)=false):AE X kd (.Call (.Name x p) (e::es) [] pos) (fP fr gg):=by with_unfolding_all exact(yo (uU hc hg hm hv ha hn hdb he hpl) λσ H Q h=>dU (λ_ _ _ z=>z) h)
def QE(fa:EF)(c:String):EF:=λas=>(fa as).bind λp=>(p.1.frz.view p.2).bind λx=>if Au x.1=true then some (.ow<|.lf true<|.bl<|SE (ll x.1) c,p.2)else none
def u7(hk:KdOk X kd):UL X (.builtin "isinstance") (λxs H Q=>∃x c O d,xs=[x,.ty c]/\KN c=true/\Vw X.K kd O H x d/\Au d=true/\Q (.bl<|SE (ll d) c) H):=by
 intro b s σ H l m Q I r h;obtain⟨x,c,O,d,rfl,e,f,g,q⟩:=h;cases r with
 |cons i a=>
  cases a with
  |cons a j=>
   cases j;cases(a);exact lL hk I i f e g λk=>⟨.bl _,H,I.tok k,rfl,q⟩
def EX{c}(hkd:KdOk X kd)(hc:KN c=true)(hg:Gl X x)(hm:X.mg x=none)(hv:bootBuiltins x=some (.builtin "isinstance"))(hg2:Gl X y)(hm2:X.mg y=none)(hv2:bootBuiltins y=some (.type c))(ha:AE X kd a fa)
 (hn:x≠"__name__") (hdb:(x==("__debug__":Str))=false) (hn2:y≠"__name__") (hdb2:(y==("__debug__":Str))=false)
 (he:starEach [a,.Name y p2] X.env=(false,eval a X.env)::starEach [.Name y p2] X.env) (he2:starEach [.Name y p2] X.env=(false,eval (.Name y p2) X.env)::starEach [] X.env) (hpl:(backTo pos<|starEach [.Name y p2] X.env).any (·.1)=false):
 AE X kd (.Call (.Name x p) [a,.Name y p2] [] pos) (QE fa c):=by with_unfolding_all exact(yo (FS (u7 hkd) hg hm hv (Q4 ha (Q4 (nv (v:=.ty c) hg2 hm2 hv2 rfl hn2 hdb2) LH he2) he) hn hdb he hpl) λσ H Q h=>by
 obtain⟨F,B,s,as,r,i,R,e,q⟩:=h;obtain⟨_,k,e⟩:=bS_<|e;obtain⟨⟨d,t⟩,l,e⟩:=bS_ e;obtain⟨m,e⟩:=zy e;cases e;exact YE R k λv b n g f o=>⟨v,c,_,d,rfl,hc,wU.vw g f l,m,q _ [] b n g (.lf<|.bl _) o⟩)
def W5:MG:=λos es=>match es with | [o]=>if os.length<sizeLine then some (os++[o],.lf true .non)else none|_=>none
def sO:dJ X kd Dy W5:=by
 intro F B G l f p q r g o s t H Q h c b d e k;unfold W5 at e
 split at e
 . obtain⟨i,e⟩:=zy e;cases e;cases b with
   |cons j n=>
    cases n;rw[zyE]at d k;exact⟨l,f,_,rfl,rfl,h,by rw[c.length];exact i,k _ _ _ [] (c.append<|RoL.one j) (.lf .non) ⋯ (by rwa [zyE])⟩
 . cases e
def rL{i:Nat}{id}(hm:cu X id r)(hr:dJ X kd r gg)(slot:Slot "list" name id)(hty:typeOf (.builtin id)=pure (.type "method_descriptor"))(ho:PE X (.Name x p) (U0 i))(ha:AD X kd (e::es) fd)
 (hbase:attributeBase (.Name x p) name X.env (eval (.Name x p) X.env)=eval (.Name x p) X.env)
 (hfew:((backTo cpos<|starEach (e::es) X.env).all (λx=>!x.1)&&(backToKw cpos<|keywordEach [] X.env).all (λx=>x.1.isSome)
  && decide ((e::es).length+([]:List Keyword).length+(if([]:List Keyword).isEmpty then 0 else 1)<30))=true)
 (hline:(apos.endLine==cpos.line)=true) (hs:starEach (e::es) X.env=(false,eval e X.env)::starEach es X.env) (hplain:(backTo cpos<|starEach es X.env).any (·.1)=false):
 AE X kd (.Call (.Attribute (.Name x p) name apos) (e::es) [] cpos) (Qj i fd gg):=by with_unfolding_all exact(yo (mF PySem.F.plainAttrs_list slot hty hm ho ha hbase hfew hline hs hplain) λσ H Q h=>gA hr h)
end
inductive Ty where
 |str|lst|dct|int
section
variable{K:zzA}{kd:KD}{F B G:Addr->Prop}{T:List Addr}{ad:Ad}{as:AS}{σ:St}{H H':Hp}
inductive RPs(K:zzA)(kd:KD)(F B G:Addr->Prop)(H:Hp):List (V×V)->List (Key×O)->Prop
 |nil:RPs K kd F B G H [] []
 |cons {k:Key}{v:V}{o:O}{ps:List (V×V)}{kos:List (Key×O)}:Xy K kd F B G H v o []->RPs K kd F B G H ps kos->RPs K kd F B G H ((kV k,v)::ps) ((k,o)::kos)
end
abbrev Fn:=List (Bool×D)->Option O
section
variable{P:Program}{w:World}{K:zzA}{mg:Str->Option Value}{base:Heap}{kd:KD}
def Ot:FnOk P w K mg base xJ k f fd ps (VT K kd λ_=>none):=
 ⟨λc H Q E h=>(by obtain⟨_,_,_,_,_,e,_⟩:=h;cases e),λA a s H b d c Q E _ _ _ _ h=>(by obtain⟨_,_,_,_,_,e,_⟩:=h;cases e)⟩
def NC(hr:Room k A):A.units+100<cLine:=by have:=hr.un;omega
def yU(P:Program)(w:World)(K:zzA)(kd:KD):Prop:=∀X:Cx,X.prog=P->X.w=w->X.K=K->KdOk X kd
theorem Pk{O}:∀ns:List Int,RpL K kd O H (ns.map V.int)<|ns.map D.int
 | []=>.nil
 |_::r=>.cons (.int _)<|Pk r
def lF{ns:List Int}(hg:g [(true,.lst<|ns.map D.int)]=some (.lf true<|.bl true))(hS:sS K H a (ns.map V.int)):VT K kd g [.ref a] H (λv _=>v = .bl true) E:=by
 refine⟨λ_=>False,[_],.lf true _,⋯,.cons ?_ .nil,hg,λv T e _ _ _ _ b=>?_⟩
 . rcases hS with h|⟨c,n,k,z,r⟩
   . exact .lst (λz=>z.2) h<|Pk ns
   . exact .lstK k z r<|Pk ns
 . cases b with
   |lf d=>cases d;rfl
end
namespace Bt
theorem len:bootBuiltins "len"=some (.builtin "len"):=⋯
theorem max:bootBuiltins "max"=some (.builtin "max"):=⋯
theorem min:bootBuiltins "min"=some (.builtin "min"):=⋯
theorem sum:bootBuiltins "sum"=some (.builtin "sum"):=⋯
theorem isinstance:bootBuiltins "isinstance"=some (.builtin "isinstance"):=⋯
theorem all:bootBuiltins "all"=some (.builtin "all"):=⋯
theorem int:bootBuiltins "int"=some (.type "int"):=⋯
theorem bool:bootBuiltins "bool"=some (.type "bool"):=⋯
theorem list:bootBuiltins "list"=some (.type "list"):=⋯
theorem tuple:bootBuiltins "tuple"=some (.type "tuple"):=⋯
def n(x)(h:(x==("__name__":Str))=false):x≠"__name__":=λe=>by subst e;simp at h
end Bt
def WD(f:EF)(as:AS)(st:Bool)(d:D):Prop:=f as=some (.ow<|.lf st d,as)
def WT(f:TF)(as:AS)(b:Bool):Prop:=f as=some (b,as)
def WA(f:AF)(as:AS)(rs:List (Bool×D)):Prop:=f as=some (rs.map λx=>.ow<|.lf x.1 x.2,as)
def WO(f:DF)(as:AS)(os:List O):Prop:=f as=some (os,as)
section
variable{as:AS}{f a b:EF}{s t:Bool}{x y z:D}{i j:Int}
def zb:WD (fC x) as true x:=rfl
def za{i:Nat}(h:as[i]? = some (some<|.lf s x)):WD (fV i) as s x:=by unfold WD fV;rw[h]
def mT(ha:WD a as s x)(hb:WD b as t y)(hg:g x y=some (.im z)):WD (f2 a b g) as (zu z||(s&&t)) z:=by
 unfold WD f2 at *;rw[ha];show((b as).bind _)=_;rw[hb];show((g x y).bind _)=_;rw[hg];show(if _=true then _ else _:Option RV).bind _=_;rw[if_pos<|by unfold meet;simp];rfl
def j7(ha:a as=some (.ow oa,as))(hb:b as=some (.ow ob,as))(hg:g oa.toD ob.toD=some (.im z)):WD (f2 a b g) as (zu z||(oa.str&&ob.str)) z:=by
 unfold WD f2 at *;rw[ha];show((b as).bind _)=_;rw[hb];show((g oa.toD ob.toD).bind _)=_;rw[hg];show(if _=true then _ else _:Option RV).bind _=_;rw[if_pos<|by unfold meet;simp];rfl
def zY(ha:WD a as s x)(hb:WD b as t y)(hg:g x y=some (.im z))(e:zu z=true):WD (f2 a b g) as true z:=by
 have:=mT ha hb hg;rwa [e]at this
def yA(ha:WD a as s (.int i))(hb:WD b as t (.int j)):WD (f2 a b<|W7 .Add) as true (.int<|i+j):=zY ha hb rfl rfl
def Xa(ha:WD a as s (.int i))(hb:WD b as t (.int j)):WD (f2 a b<|W7 .Sub) as true (.int<|i-j):=zY ha hb rfl rfl
def DA(ha:WD a as s (.int i))(hb:WD b as t (.int j))(h:j.natAbs<2 ^ 64):WD (f2 a b<|W7 .Mult) as true (.int<|i*j):=zY ha hb (by show(if _ then _ else _)=_;rw[if_pos<|.inr h]) rfl
def Ea(ha:WD a as s (.int i))(hb:WD b as t (.int j))(h1:i.natAbs<bg)(h2:j.natAbs<bg):WD (f2 a b<|W7 .Mult) as true (.int<|i*j):=zY ha hb (by show(if _ then _ else _)=_;rw[if_pos<|.inl ⟨h1,h2⟩]) rfl
def Yh(ha:WD a as s (.int i))(hb:WD b as t (.int j))(h1:i.natAbs<big)(h2:j.natAbs<big):WD (f2 a b<|W7 .Mult) as true (.int<|i*j):=Ea ha hb (Nat.lt_trans h1 Ju)<|Nat.lt_trans h2 Ju
def WB(ha:WD a as s (.int i))(hb:WD b as t (.int j))(h1:0<j)(h2:j.natAbs<big):WD (f2 a b<|W7 .FloorDiv) as true (.int<|i/j):=zY ha hb (by show(if _ then _ else _)=_;rw[if_pos ⟨h1,h2⟩]) rfl
def Z6(ha:WD a as s (.int i))(hb:WD b as t (.int j))(h1:0<j):WD (f2 a b<|W7 .Mod) as true (.int<|i%j):=zY ha hb (by show(if _ then _ else _)=_;rw[if_pos h1]) rfl
def sd(ha:WD a as s (.int i))(hb:WD b as t (.int j))(h1:0<=j/\j<=1000000/\i.natAbs<2 ^ 64):WD (f2 a b<|W7 .Pow) as true (.int<|i ^ j.toNat):=zY ha hb (by show(if _ then _ else _)=_;rw[if_pos h1]) rfl
def Yo(ha:WD a as s x)(hb:WD b as t y)(h:Tu 60 x y=some c):WD (f2 a b<|zo .Eq) as true (.bl c):=zY ha hb (by show(Tu 60 x y).bind _=_;rw[h];rfl) rfl
def Du(ha:WD a as s x)(hb:WD b as t y)(h:Tu 60 x y=some c):WD (f2 a b<|zo .NotEq) as true (.bl<|!c):=zY ha hb (by show(Tu 60 x y).bind _=_;rw[h];rfl) rfl
def N8(ha:WD a as s (.int i))(hb:WD b as t (.int j)):WD (f2 a b<|zo .Lt) as true (.bl<|decide (i<j)):=zY ha hb rfl rfl
def DM(ha:WD a as s (.int i))(hb:WD b as t (.int j)):WD (f2 a b<|zo .Gt) as true (.bl<|decide (j<i)):=zY ha hb rfl rfl
def mV(ha:WD a as s (.int i))(hb:WD b as t (.int j)):WD (f2 a b<|zo .LtE) as true (.bl<|decide (i<=j)):=zY ha hb rfl rfl
def t7(ha:WD a as s (.int i))(hb:WD b as t (.int j)):WD (f2 a b<|zo .GtE) as true (.bl<|decide (j<=i)):=zY ha hb rfl rfl
def lr(ha:WD a as s (.int i)):WD (f1 a pV) as true (.int (-i)):=by
 unfold WD f1 at *;rw[ha];rfl
def zC(h:WD f as s x)(e:truth x=some c):WT (fT f) as c:=by
 unfold WT fT;rw[h];show((truth x).bind _)=_;rw[e];rfl
def xX(h:WT c as k):WT (y_ c) as (!k):=by unfold WT y_ at *;rw[h];rfl
def W3(h:WT c as k)(h2:k=true->WT e as l)(h3:k=false->l=false):WT (Za c e) as l:=by
 unfold WT Za at *;rw[h];cases k with
 |true=>exact h2 rfl
 |false=>rw[h3 rfl];rfl
def Tf(h:WT c as k)(h2:k=false->WT e as l)(h3:k=true->l=true):WT (Rg c e) as l:=by
 unfold WT Rg at *;rw[h];cases k with
 |false=>exact h2 rfl
 |true=>rw[h3 rfl];rfl
def QY(h:WD a as s (.bl k))(h2:k=true->WD b as true (.bl l))(h3:k=false->l=false):WD (G0 a b) as true (.bl l):=by
 unfold WD G0 at *;rw[h];cases k with
 |true=>exact h2 rfl
 |false=>rw[h3 rfl];rfl
def mZ(h:WD a as s (.bl k))(h2:k=false->WD b as true (.bl l))(h3:k=true->l=true):WD (jY a b) as true (.bl l):=by
 unfold WD jY at *;rw[h];cases k with
 |false=>exact h2 rfl
 |true=>rw[h3 rfl];rfl
def zv:WA aN as []:=rfl
def zh(ha:WD a as s x)(hr:WA fr as rs):WA (aC a fr) as ((s,x)::rs):=by
 unfold WA aC at *;rw[ha];show((fr as).bind _)=_;rw[hr];rfl
theorem We:∀rs:List (Bool×D),Xh as (rs.map λx=>.ow<|.lf x.1 x.2)=some (rs.map λx=>(zu x.2||x.1,x.2))
 | []=>rfl
 |r::a=>by
  show(Xh as _).bind _=_;rw[We a];rfl
theorem GT:∀rs:List (Bool×D),views as (rs.map λx=>.ow<|.lf x.1 x.2)=some (rs.map (·.2),some (rs.all (·.1)))
 | []=>rfl
 |r::a=>by
  show(views as _).bind _=_;rw[GT a];rfl
def Pv(ha:WA fr as rs)(hg:g (rs.map λx=>(zu x.2||x.1,x.2))=some (.lf s x)):WD (zd fr g) as s x:=by
 unfold WD zd;rw[ha];show(Xh as _).bind _=_;rw[We];show(g _).bind _=_;rw[hg];rfl
def YW(ha:WA fr as rs)(hg:g (rs.map λx=>(zu x.2||x.1,x.2))=some o):zd fr g as=some (.ow o,as):=by
 unfold zd;rw[ha];show(Xh as _).bind _=_;rw[We];show(g _).bind _=_;rw[hg];rfl
def Dz(ha:WA fr as rs)(hg:g (rs.map (·.2))=some (.im x)):WD (fP fr g) as (zu x||rs.all (·.1)) x:=by
 unfold WD fP;rw[ha];show(views as _).bind _=_;rw[GT];show(g _).bind _=_;rw[hg];show(if _=true then _ else _:Option RV).bind _=_;rw[if_pos ⋯];rfl
def yT(ha:WA fr as rs)(hg:g (rs.map (·.2))=some (.im x))(e:zu x=true):WD (fP fr g) as true x:=by
 have:=Dz ha hg;rwa [e]at this
def xp:WO dN as []:=rfl
def y4{os}(ha:WD a as s x)(hr:WO fr as os):WO (dC a fr) as (.lf s x::os):=by
 unfold WO dC at *;rw[ha];show((fr as).bind _)=_;rw[hr];rfl
def Gn{os}(h:WO fr as os)(hl:os.length<=sizeLine):x9 fr as=some (.ow<|.nd .ls os,as):=by
 unfold x9;rw[h];show(if os.length<=sizeLine then _ else _)=_;rw[if_pos hl]
def zL{f g}(h1:f as=some (.nx as1))(h2:g as1=o):zx f g as=o:=by unfold zx;rwa [h1]
def G_{f g}(h1:f as=some (.rt o)):zx f g as=some (.rt o):=by unfold zx;rw[h1];rfl
def WY{f g}(h:WT c as true)(h1:f as=o):xD c f g as=o:=by unfold xD;rwa [h]
def zq{f g}(h:WT c as false)(h1:g as=o):xD c f g as=o:=by unfold xD;rwa [h]
def yQ{i:Nat}{st}(h:WD f as s x)(hi:i<as.length):zE st i f as=some (.nx<|as.set i<|some<|.lf s x):=by
 unfold zE;rw[h];cases st<;>exact if_pos hi
def Vh{i:Nat}(h:f as=some (.ow o,as))(hi:i<as.length):zE false i f as=some (.nx<|as.set i<|some o):=by
 unfold zE;rw[h];exact if_pos hi
def ph{i:Nat}(h:f as=some (.ow o,as))(hi:i<as.length):zE true i f as=some (.nx<|as.set i<|some o.frz):=by
 unfold zE;rw[h];exact if_pos hi
def wu(h:WD f as true x):zz f as=some (.rt<|.lf true x):=by unfold zz;rw[h];rfl
def vJ(hl:ds.length=m)(h:c (VR n ds)=some (.rt o)):wY n m c ds=some o:=by unfold wY;rw[if_pos hl,h];rfl
theorem Y5{f}(I:Nat->AS->Prop):∀(xs:List ZA) (k:Nat) (as:AS),(∀i x as,xs[i]? = some x->I (k+i) as->∃as1,g x as=some as1/\∃as2,f as1=some (.nx as2)/\I (k+i+1) as2)->I k as->∃as',forL g f xs as=some (.nx as')/\I (k+xs.length) as'
 | [],k,as,_,h=>⟨as,rfl,h⟩
 |x::r,k,as,d,h=>by
  obtain⟨a,j,b,l,m⟩:=d 0 x as rfl h;obtain⟨c,n,o⟩:=Y5 I r (k+1) b (λi y as e q=>by
   obtain⟨u,p,v,s,t⟩:=d _ y as e (by rwa [show k+(i+1)=k+1+i by omega]);exact⟨u,p,v,s,by rwa [show k+1+i+1=k+(i+1)+1 by omega]⟩) m
  refine⟨c, ?_,by rwa [zzT,show k+_=k+1+r.length by omega]⟩;show(g x as).bind _=_;rw[j];show(f a).bind _=_
  rwa [l]
def vC{f}(h:fi as=some (xs,as'))(h2:forL g f xs as'=o):XW fi g f as=o:=by unfold XW;rwa [h]
def sy{lo}{n i:Nat}{x}(h:(Xl lo n)[i]? = some x):x=(true,.int<|lo+i)/\i<n:=by
 unfold Xl at h;rw[zzI]at h;cases e:(List.range n)[i]? with
 |none=>rw[e]at h;cases h
 |some k=>
  rw[e]at h;obtain⟨a,b⟩:=zzG.mp e;rw[zyU]at a;rw[List.getElem_range]at b;subst b;exact⟨(zzZ h).symm,a⟩
def Oz(h:WA fr as [(u,.int j)])(h0:0<=j)(h1:j<1000000):Xo fr Rc as=some (Xl 0 j.toNat,as):=by
 unfold Xo;rw[h];show((if -_<=j/\j<2 ^ 62 then some _ else none).bind _)=_;rw[if_pos ⋯];rfl
def se(ha:a as=some (.ow o,as))(hr:WA fr as rs):WA (aC a fr) as ((o.str,o.toD)::rs):=by
 unfold WA aC at *;rw[ha];show((fr as).bind _)=_;rw[hr];rfl
def O4{i:Nat}(h:as[i]? = some (some o)):RV.view as (.bo i)=some (o.toD,o.kl):=by simp only[RV.view,h]
def oJ{i:Nat}(h:as[i]? = some (some o))(hs:o.str=true):qy as (.bo i)=some o:=by simp only[qy,h,hs,if_true]
def Ek{i:Nat}{os}(h:as[i]? = some (some<|.nd k os)):fV i as=some (.bo i,as):=by unfold fV;rw[h]
def wZ{f}(h1:g d as=some as1)(h2:f as1=some (.nx as2))(h3:forL g f r as2=o):forL g f (d::r) as=o:=by
 show(g d as).bind _=_;rw[h1];show(f as1).bind _=_
 rwa [h2]
def qB{f}(h1:g d as=some as1)(h2:f as1=some (.rt o)):forL g f (d::r) as=some (.rt o):=by
 show(g d as).bind _=_;rw[h1];show(f as1).bind _=_;rw[h2];rfl
def Fz{i:Nat}{os}(h:as[i]? = some (some<|.nd .ls os))(hl:os.length<sizeLine)(ha:WD a as s x):yO (Qj i (dC a dN) W5) as=some (.nx<|as.set i<|some<|.nd .ls<|os++[.lf s x]):=by
 unfold yO Qj;rw[h];have e:=y4 ha xp;rw[e];show(Option.bind (match as[i]? with|some (some<|.nd .ls os)=>_|_=>none) _)=_;rw[h];show((W5 os _).bind _).bind _=_;have e2:W5 os [.lf s x]=some _:=if_pos hl;rw[e2];rfl
def DH{i:Nat}(h:as[i]? = some (some o))(hs:o.str=true):zz (fV i) as=some (.rt o):=by
 cases o with
 |lf a d=>unfold zz fV;rw[h];have:=hs;subst this;rfl
 |nd k b=>
  unfold zz;rw[Ek h];show(qy as _).bind _=_;rw[oJ h hs];rfl
def tP{os}(h:WO fr as os)(hl:os.length<=sizeLine)(ha:os.all O.isLf=true):WD (Ze fr) as (O.strs os) (.tup<|O.toDs os):=by
 unfold WD Ze;rw[h];show(if os.length<=sizeLine then some _ else _)=_;rw[if_pos hl];unfold Np;rw[if_pos ha]
def lU(ha:a as=some (.ow oa,as1))(hb:b as1=some (.ow ob,as2))(hg:g oa.toD ob.toD=some (.fl zs)):f2 a b g as=some (.ow<|.nd .ls<|zs.map<|sk<|oa.str&&ob.str,as2):=by
 unfold f2;rw[ha];show((b as1).bind _)=_;rw[hb];show((g oa.toD ob.toD).bind _)=_;rw[hg];show(if _=true then _ else _:Option RV).bind _=_;rw[if_pos<|by unfold meet;simp];rfl
def Aj(ha:WD a as true x)(hb:WD b as true y)(hg:g x y=some (.im z)):WD (f2 a b g) as true z:=by
 have:=mT ha hb hg
 rwa [show(zu z||_)=true by simp]at this
def KJ:∀zs:List D,zs.map (sk true)=zs.map (O.lf true)
 | []=>rfl
 |z::r=>⋯
def pk(ha:a as=some (.ow oa,as1))(hb:b as1=some (.ow ob,as2))(hg:g oa.toD ob.toD=some (.fl zs))(h1:oa.str=true)(h2:ob.str=true):f2 a b g as=some (.ow<|.nd .ls<|zs.map<|O.lf true,as2):=by
 have:=lU ha hb hg
 rwa [h1,h2,show(true&&true)=true from rfl,KJ]at this
def Ki{os}(ha:a as=some (.ow o,as1))(hr:fr as1=some (os,as2)):dC a fr as=some (o::os,as2):=by
 unfold dC;rw[ha];show((fr as1).bind _)=_;rw[hr];rfl
def add_lists(h:xs.length+ys.length<=sizeLine):W7 .Add (.lst xs) (.lst ys)=some (.fl<|xs++ys):=if_pos h
def Ng(lo)(n:Nat):Xl lo (n+1)=(true,.int lo)::Xl (lo+1) n:=by
 unfold Xl;rw[List.range_succ_eq_map,zyS,zyB]
 congr 1
 . simp
 . apply List.map_congr_left;intro i _;show(true,D.int _)=_
   congr 2
   omega
def sR(ha:WA fr as rs)(hg:g (rs.map (·.2))=some (.im x))(e:rs.all (·.1)=true):WD (fP fr g) as true x:=by
 have:=Dz ha hg;rwa [e,zyD]at this
end
def Sz(h:Nat.ble n 1000=true):n<=sizeLine:=Nat.le_of_lt<|Wd<|Nat.le_of_ble_eq_true h
def zk(h:Nat.ble (a+1) b=true):a<b:=Nat.le_of_ble_eq_true h
def yu(h0 : -(10 ^ 200)<i)(h1:i<10 ^ 200):i.natAbs<big:=by
 have:10 ^ 200<big:=by decide +kernel
 have e:((10 ^ 200:Nat):Int)=10 ^ 200:=by norm_cast
 omega
def GC(K:zzA)(kd:KD)(mg:Str->Option Value)(x:Str)(d:D):Prop:=∃v u,mg x=some u/\RelV v u/\∀(O:Addr->Prop) (H:Hp),Rp K kd O H v d
section
variable{X:Cx}{kd:KD}{K:zzA}{mg:Str->Option Value}
def jQ(h:GC X.K kd X.mg x d)(hg:Gl X x)(hd:(x==("__debug__":Str))=false):AE X kd (.Name x pos) (fC d):=by
 (
 obtain⟨v,u,h1,h2,h3⟩:=h;exact Od (ny hg h1 h2 hd) h3)
theorem GC.int(h:mg x=some (.int i t)):GC K kd mg x (.int i):=⟨.int i,_,h,⟨t,rfl⟩,λ_ _=>.int i⟩
theorem GC.str(h:mg x=some (.str y t)):GC K kd mg x (.str y):=⟨.str y,_,h,⟨t,rfl⟩,λ_ _=>.str y⟩
theorem GC.tup{n:Nat}(h:mg x=some (.ref a))(hk:K.lookup a=some ⟨.type "tuple",od,.seq its n,sl⟩)(hz:its.size<=sizeLine)(hv:zR vs its.toList)
 (hr:∀(O:Addr->Prop) (H:Hp),RpL K kd O H vs ds):GC K kd mg x (.tup ds):=⟨.ref a,_,h,rfl,λO H=>.tupK hk rfl rfl hz hv<|hr O H⟩
def dA(K:zzA)(g:Fn):Sp:=λvs H Q E=>∀kd:KD,VT K kd g vs H Q E
end
def RC(fa fb fc:EF)(g g':D->D->Option R0):EF:=λas=>(fa as).bind λp=>(fb p.2).bind λq=>(p.1.frz.view q.2).bind λx=>(q.1.frz.view q.2).bind λy=>(g x.1 y.1).bind λr=>match r with
 | .im (.bl true)=>(fc q.2).bind λt=>(q.1.frz.view t.2).bind λy'=>(t.1.frz.view t.2).bind λz=>(g' y'.1 z.1).bind λr'=>(wrap (meet y'.2 z.2) r').bind λo=>some (o,t.2)
 | .im (.bl false)=>some (.ow<|.lf true<|.bl false,q.2)
 |_=>none
section
variable{X:Cx}{kd:KD}{a b c:Expr}{fa fb fc:EF}{pos:Pos}
def E7(ho:kJ X kd (compareOp op) g)(ho':kJ X kd (compareOp op') g')(ha:AE X kd a fa)(hb:AE X kd b fb)(hc:AE X kd c fc)(hm:lastMarks [op,op'] [b,c]=false):
 AE X kd (.Compare a [op,op'] [b,c] pos) (RC fa fb fc g g'):=by with_unfolding_all exact(yo (qg ho ho' ha hb hc hm) λσ H Q h=>by
 obtain⟨F,B,ad,as,r,O,R,e,q⟩:=h;obtain⟨_,S,e⟩:=bS_<|e;obtain⟨_,T,e⟩:=bS_ e;obtain⟨⟨x,U⟩,V,e⟩:=bS_ e;obtain⟨⟨y,W⟩,Y,e⟩:=bS_ e;obtain⟨K,Z,e⟩:=bS_ e;refine YE R S λv ad1 H1 R1 k L=>YE R1 T λu l H2 R2 d m=>⟨_,x,y,K,R2.tr _,(wU.vw R2 (k.grow m) V).less MW.meet1,(wU.vw R2 d Y).less MW.meet2,Z, ?_⟩
 match K,e with
 | .im (.bl true),e=>
  obtain⟨⟨t,as3⟩,h6,e⟩:=bS_<|e;obtain⟨⟨y',n⟩,h7,e⟩:=bS_ e;obtain⟨⟨z',s⟩,h8,e⟩:=bS_ e;obtain⟨r1,h9,e⟩:=bS_ e;obtain⟨o,A,e⟩:=bS_ e;cases e;intro w M C D;cases D;obtain⟨E,f⟩:=R2.more C;refine⟨true,rfl, ?_⟩;refine YE E h6 λw' G H4 i I N=>⟨_,y',z',r1,i.tr _,(wU.vw i ((d.grow f).grow N) h7).less MW.meet1,(wU.vw i I h8).less MW.meet2,h9, ?_⟩;exact Va i A λw T' H' R' J g'=>q w T' G H' R' J<|(((L.trans m).trans f).trans N).trans g'
 | .im (.bl false),e=>
  cases e;intro w M C D;cases D;obtain⟨E,f⟩:=R2.more C;refine⟨false,rfl, ?_⟩;exact q _ [] l M E (.lf<|.bl _)<|(L.trans m).trans f)
end
def Li:List D->Option (List Bool)
 | []=>some []
 | .bl b::r=>(Li r).bind λs=>some (b::s)
 |_::_=>none
def t_:List D->Option R0
 | [.lst ds]=>(Li ds).bind λbs=>some (.im<|.bl<|bs.all id)
 |_=>none
theorem Iq{K O}:∀{vs:List V}{us:List Value}{ds:List D}{bs:List Bool},RpL K kd O H vs ds->zR vs us->Li ds=some bs->LSm.BoolsAre us bs
 |_,_,_,_,.nil,.nil,e=>by cases e;exact .nil
 |_,_,_,_,.cons (d:=d) a r,.cons b t,e=>by
  cases d with
  |bl c=>
   obtain⟨s,f,g⟩:=bS_<|e;cases g;cases a;cases b;exact .cons _ (Iq r t f)
  |_=>cases e
section
variable{X:Cx}{kd:KD}
def D7{h h':Heap}(hk:∀b x,b ∉ [h.objs.size]->(h.push ob).get? b=some x->h'.get? b=some x)(b)(x)(e:h.get? b=some x):h'.get? b=some x:=by
 refine hk b x (λm=>?_)<|zxG _ e;have:=zxH e;rw[zzR.mp m]at this;exact absurd this ⋯
def uV(hc:X.calm=true):UI X kd (.builtin "all") t_:=by
 intro g s σ H E F Q I r h;obtain⟨O,G,z,J,m,c,q⟩:=h;unfold t_ at c
 split at c
 . obtain⟨bs,n,c⟩:=bS_ c;cases c;obtain⟨x,rfl,o⟩:=M_ m;cases o with
   |lst t w=>
    rename_i l K;obtain⟨u,rfl,y⟩:=vals1 r;cases y;obtain⟨a,B,p,_⟩:=I.list t.sq;have j:=Iq w B n;have d:=p.isList;have f:l<s.heap.objs.size:=by obtain⟨_,e,_⟩:=d;exact zxH e
    refine call_all_walk<|wpAny_pyIter_list d ?_;refine⟨s.heap.objs.size,[s.heap.objs.size,l],[s.heap.objs.size],a.toArray.size,_,_,(λi=>(bs[i]?).getD true),rfl,Walks.list (A:=X.A.in1) (I.ok.hd hc) _ l (zzQ f) a.toArray,⟨⟨_,zxI _ rfl,rfl,rfl⟩,d.push _⟩, ?_, ?_⟩
    . intro i v L M N C k;obtain⟨b,e,rfl⟩:=j.get i v (by simpa using C);simp only[e]at k;exact wpAny_truthy_bool k
    . intro P R D;have e:((List.range a.toArray.size).all λi=>(bs[i]?).getD true)=bs.all id:=by
       rw[zzH,j.length];exact LSm.range_all bs
      rw[e];exact⟨.bl _,H,I.kept<|D7 D,rfl,yj q<|.bl _⟩
 . cases c
end
inductive Ents(w:World):List DictEntry->List (Key×V)->Prop
 |nil:Ents w [] []
 |str {x:Str}{t:Tok}{v:V}{u:Value}{r:List DictEntry}{s:List (Key×V)}:RelV v u->Ents w r s->Ents w (⟨PyData.keyHash w.params x,.str x t,u⟩::r) ((.inr x,v)::s)
theorem Ents.keys:∀{es:List DictEntry}{kvs:List (Key×V)},Ents w es kvs->∀e ∈ es,∃k,(YG P w).is k e.key=true/\e.hash=(YG P w).hash k
 |_,_,.nil,_,m=>nomatch m
 |_,_,.str (x:=x) (t:=t) _ r,e,m=>by
  rcases zzC.mp m with rfl|m
  . exact⟨.inr x,Pn P w x t,rfl⟩
  . exact r.keys e m
theorem Ents.pairs:∀{es:List DictEntry}{kvs:List (Key×V)},Ents w es kvs->∃vs,KV kvs vs/\Pairs (YG P w) es vs/\vs.map (·.1)=kvs.map (·.1)
 |_,_,.nil=>⟨[],.nil,.nil,rfl⟩
 |_,_,.str (x:=x) (t:=t) (u:=u) h r=>by
  obtain⟨a,b,c,d⟩:=r.pairs;exact⟨(.inr x,u)::a,.cons ⟨rfl,h⟩ b,.cons (Pn P w x t) rfl c,by rw[zyS,zyS,d]⟩
structure DctAt(w:World)(K:zzA)(a:Addr)(kvs:List (Key×V)):Prop where
 ex:∃es ep,K.lookup a=some {cls:=.type "dict",data:=.dict es ep}/\Ents w es.toList kvs
 nd:(kvs.map (·.1)).Nodup
 le:kvs.length<=sizeLine
 ns:(a==sysModules)=false
def sf(l:List (Addr×List (Key×V)))(c:Str->Addr:=λ_=>0):KD:=⟨λa k=>l.lookup a=some k,c⟩
def lookup_mem{l:List (Addr×List (Key×V))}(h:l.lookup a=some k):(a,k) ∈ l:=by
 induction l with
 |nil=>cases h
 |cons p r b=>
  rw[List.lookup_cons]at h
  by_cases e:a=p.1
  . subst e;rw[beq_self_eq_true]at h;cases h;exact zzF
  . rw[show _=false from beq_eq_false_iff_ne.mpr e]at h;exact zzD _<|b h
def sg{K}(h:∀p ∈ l,DctAt w K p.1 p.2):yU P w K (sf l c):=λX n o r=>by
 subst o;subst r;refine⟨λa k v b d=>zzZ<|b.symm.trans d,λa k b=>?_,λa k y b f=>?_⟩
 . obtain⟨g,i,e,_⟩:=(h _<|lookup_mem b).ex;exact⟨_,e⟩
 . have q:=h _<|lookup_mem b;obtain⟨g,i,e,j⟩:=q.ex;obtain⟨s,d,t,u⟩:=j.pairs;refine⟨q.le,q.ns,s,d,_,g,i,f _ _ e,⟨rfl,rfl,rfl⟩,rfl,λx m=>j.keys x (by simpa using m),t,by rw[u];exact q.nd⟩
section
variable{K:zzA}{kd:KD}{mg:Str->Option Value}
theorem GC.dct(h:mg x=some (.ref a))(hk:kd a kvs)(hr:∀(O:Addr->Prop) (H:Hp),RpM K kd O H kvs ds):GC K kd mg x (.dct ds):=⟨.ref a,_,h,rfl,λO H=>.dctK hk<|hr O H⟩
end
def isStar:Expr->Bool
 | .Starred .. => true
 |_=>false
def Sq(h:isStar a=false):starEach (a::es) env=(false,eval a env)::starEach es env:=by
 cases a<;>first|rfl|cases h
section
variable{as:AS}{f a b c:EF}{s t u:Bool}{x y z:D}{i j k:Int}
def lV(h:WD f as s x)(ho:Au x=true:=by rfl):WD (QE f cl) as true (.bl<|SE (ll x) cl):=by
 unfold WD QE at *;rw[h];show(if Au x=true then _ else _)=_;rw[if_pos ho];rfl
def Qu(h:WD f as s x)(e:SE (ll x) cl=q)(ho:Au x=true:=by rfl):WD (QE f cl) as true (.bl q):=by subst e;exact lV h ho
def gn:zZ (.tup (x::ds)) (.int 0)=some (.im x):=by
 show qM _=_;rw[show 0=((0:Nat):Int)from rfl,PN rfl];rfl
def Aw(h:WD f as s (.bl q)):WD (D8 f) as true (.bl<|!q):=by
 unfold WD D8 at *;rw[h];rfl
def uO(h1:g w as0=some as1)(h2:WT tt as1 false)(h3:XD g tt fe as0 r=o):XD g tt fe as0 (w::r)=o:=by
 show(g w as0).bind _=_;rw[h1];show(tt as1).bind _=_
 rwa [h2]
def WE(f:EF)(as:AS)(x:D):Prop:=∃o,f as=some (.ow o,as)/\o.str=true/\o.toD=x
def RE(r:Option O)(x:D):Prop:=∃o,r=some o/\o.str=true/\o.toD=x
def WD.e(h:WD f as true x):WE f as x:=⟨_,h,rfl,rfl⟩
def RE.of(h:r=some (.lf true x)):RE r x:=⟨_,h,rfl,rfl⟩
def YU{os}(h:WO fr as os)(hl:os.length<=sizeLine)(hs:O.strs os=true)(e:D.lst (O.toDs os)=x):WE (x9 fr) as x:=⟨_,Gn h hl,hs,e⟩
def xu(h:WE a as x)(hr:WA fr as rs):WA (aC a fr) as ((true,x)::rs):=by
 obtain⟨o,b,c,rfl⟩:=h;have:=se b hr
 rwa [c]at this
def Xq(ha:WE a as x)(hg:RE (g [(true,x)]) z):WE (zd (aC a aN) g) as z:=by
 obtain⟨o,b,c,d⟩:=hg;exact⟨o,YW (xu ha zv) (by show g [(zu x||true,x)]=_;rwa [zyD]),c,d⟩
def y9(ha:WE a as x)(hb:WE b as y)(hg:RE (g [(true,x),(true,y)]) z):WE (zd (aC a<|aC b aN) g) as z:=by
 obtain⟨o,c,d,e⟩:=hg;exact⟨o,YW (xu ha<|xu hb zv) (by show g [(zu x||true,x),(zu y||true,y)]=_;rwa [zyD,zyD]),d,e⟩
def zQ(ha:WE a as x)(hb:WE b as y)(hc:WE c as w)(hg:RE (g [(true,x),(true,y),(true,w)]) z):WE (zd (aC a<|aC b<|aC c aN) g) as z:=by
 obtain⟨o,d,e,f⟩:=hg;exact⟨o,YW (xu ha<|xu hb<|xu hc zv) (by show g [(zu x||true,x),(zu y||true,y),(zu w||true,w)]=_;rwa [zyD,zyD,zyD]),e,f⟩
def Fv(ha:WE a as x)(hg:g [(true,x)]=some (.lf s z)):WD (zd (aC a aN) g) as s z:=YW (xu ha zv) (by show g [(zu x||true,x)]=_;rwa [zyD])
def rD(ha:WE a as x)(hb:WE b as y)(hc:WE c as w)(hg:g [(true,x),(true,y),(true,w)]=some (.lf s z)):WD (zd (aC a<|aC b<|aC c aN) g) as s z:=YW (xu ha<|xu hb<|xu hc zv) (by show g [(zu x||true,x),(zu y||true,y),(zu w||true,w)]=_;rwa [zyD,zyD,zyD])
def j3(ha:WE a as x)(hb:WE b as y)(hg:g x y=some (.im z)):WD (f2 a b g) as true z:=by
 obtain⟨o,c,d,rfl⟩:=ha;obtain⟨p,e,f,rfl⟩:=hb;have:=j7 c e hg
 rwa [d,f,Bool.and_true,zyD]at this
def bC(ha:WE a as x)(hb:WE b as y)(hg:g x y=some (.fl zs)):f2 a b g as=some (.ow<|.nd .ls<|zs.map<|O.lf true,as):=by
 obtain⟨o,c,d,rfl⟩:=ha;obtain⟨p,e,f,rfl⟩:=hb;exact pk c e hg d f
theorem NA:∀zs:List D,O.strs (zs.map<|O.lf true)=true
 | []=>rfl
 |_::r=>NA r
theorem N6:∀zs:List D,O.toDs (zs.map<|O.lf true)=zs
 | []=>rfl
 |z::r=>congrArg _<|N6 r
def j5(ha:WE a as x)(hb:WE b as y)(hg:g x y=some (.fl zs)):WE (f2 a b g) as (.lst zs):=⟨_,bC ha hb hg,NA zs,congrArg D.lst<|N6 zs⟩
def xo(h:WE f as x)(hi:p<as.length):zE true p f as=some (.nx<|as.set p<|some<|.lf true x):=by
 obtain⟨o,a,b,rfl⟩:=h;have:=ph a hi
 rwa [show o.frz = .lf true o.toD by unfold O.frz;rw[b]]at this
def Ai(ha:WE a as x)(hg:g [x]=some (.im z)):WD (fP (aC a aN) g) as true z:=sR (xu ha zv) hg rfl
def u9{os}(ha:a as=some (.ow o,as))(hr:WO fr as os):WO (dC a fr) as (o::os):=Ki ha hr
def kj{os}(h:WO fr as os)(hl:os.length<=sizeLine):Ze fr as=some (.ow<|Np os,as):=by
 unfold Ze;rw[h];show(if os.length<=sizeLine then some _ else _)=_;rw[if_pos hl]
def M7{lo hi}(ha:WE a as y)(hl:fl as=some (lo,as))(hh:fh as=some (hi,as))(hg:g y lo hi=some (.fl zs)):WE (V1 a fl fh g) as (.lst zs):=by
 obtain⟨o,b,c,rfl⟩:=ha;refine⟨.nd .ls _, ?_,NA zs,congrArg D.lst<|N6 zs⟩;unfold V1;rw[b];show((fl as).bind _)=_;rw[hl];show((fh as).bind _)=_;rw[hh];show((g o.toD lo hi).bind _)=_;rw[hg];show(if _=true then some (RV.ow<|.nd .ls<|zs.map<|sk<|(some o.str).getD false)else none:Option RV).bind _=_;rw[if_pos ⋯,c];show some (RV.ow<|.nd .ls<|zs.map<|sk true,as)=_;rw[KJ]
def CG:Ql (.lst<|xs++ys) (some (xs.length:Int)) none=some (.fl ys):=by
 show some _=_
 congr 2
 unfold cutD;rw[HT.PK,HT.Fo,zzJ,Nat.min_eq_left ⋯,List.drop_left,List.take_of_length_le ⋯]
theorem Ly:∀ds:List D,kids true ds=ds.map λd=>(true,d)
 | []=>rfl
 |d::r=>by show(zu d||true,d)::kids true r=_;rw[Ly r,zyD];rfl
def nO(h:WE f as (.lst ds)):Vz f as=some (ds.map λd=>(true,d),as):=by
 obtain⟨o,a,b,c⟩:=h;unfold Vz;rw[a];show(Sw _).bind _=_;rw[b,c];show some _=_;rw[Ly]
def mP(h:WD f as true (.tup ds)):Mw f as=some (ds.map λd=>(true,d),as):=by
 unfold Mw;rw[h];show some (kids true ds,as)=_;rw[Ly]
end
section
variable{X:Cx}{kd:KD}
def eP:D->Option R0
 | .str x=>if x.length<=640 then(PySem.intText? x).bind λn=>some (.im<|.int n)else none
 |d=>dh d
def U8:List D->Option R0:=gk eP
def EJ:UI X kd (.type "int") U8:=by
 intro c s σ H m e Q I r h;obtain⟨O,o,z,p,f,a,q⟩:=h;obtain⟨x,d,rfl,g,a⟩:=HU f a;cases g with
 |str y=>
  obtain⟨j,a⟩:=ite_some' a;obtain⟨n,k,a⟩:=bS_ a;cases a;obtain⟨u,rfl,l⟩:=vals1 r;obtain⟨t,rfl⟩:=l;exact PySem.W.KIN.call_text k j ⟨.int _,H,I.tok _,⟨_,rfl⟩,yj q<|.int _⟩
 |int i=>cases a;exact Hj c s σ H _ e Q I r (.inl ⟨_,rfl,yj q<|.int _⟩)
 |bl b=>cases a;exact Hj c s σ H _ e Q I r (.inr ⟨_,rfl,yj q<|.int _⟩)
 |_=>cases a
end
section
variable{X:Cx}{pins:List (Addr×Obj)}{σ:List (Option V)}{H:Hp}{s:Shared}{h':Heap}
def HH{t':Nat}{ch:List Addr}(I:Inv X pins σ H s)(hf:∀b ∈ ch,Mv X pins H b)(k:∀b u,b ∉ ch->s.heap.get? b=some u->h'.get? b=some u)(hp:s.heap.objs.size<=T)
 (new:ZW X.prog X.w (upd H T o) h' T o):Inv X pins σ (upd H T o) {s with heap:=h',toks:=t'}:=by
 have hn:=I.hok.fresh hp;have nT:∀b u,s.heap.get? b=some u->b≠T:=λb u e z=>absurd (zzK (zxH e)<|by rwa [z])<|Nat.lt_irrefl _;have nc:∀b u,H b=some u->b ∉ ch:=λb u e z=>by have:=(hf b z).1;rw[e]at this;cases this
 refine I.step (g':=s.gens) (d':=s.drawn) (λb hb=>?_) (λb o _ _ hc e _=>k b o hc e) (λb o _ _ hc e _=>⟨o.slots,k b o hc e⟩) (λb o _ e n=>by rwa [zK<|nT b o e])
  (λb o hc e=>⟨o,k b o hc e⟩) (λb xs e=>by rwa [zK<|yg e hn]) (λb o u e=>by rwa [zK<|yg e hn]) (λb ps e=>⟨#[],by rw[zK<|yg e hn,e];simp⟩) (λm hm=>?_) (λb u e=>?_) I.bare
 . obtain⟨f0,f1,f2,f3,f4,f5⟩:=hf b hb;exact⟨f3,f1,f4,f5⟩
 . obtain⟨o,es,ep,ho,r⟩:=hm;exact⟨o,es,ep,k _ o (λz=>(hf _ z).2.1 rfl) ho,r⟩
 . by_cases hb:b=T
   . subst hb;rw[yd]at e;cases e;exact new
   . rw[zK hb]at e;refine(I.hok b u e).stay (λc v hc q=>k c v ?_ q) (λc q=>by rwa [zK<|yg q hn]) λc xs q=>by rwa [zK<|yg q hn]
     rcases hc with z|z
     . rw[z];exact nc b u e
     . exact nc c _ z
end
section
variable{as:AS}{f a b:EF}{s t:Bool}{x y z:D}
def Ft(h:WE f as (.tup ds)):Vz f as=some (ds.map λd=>(true,d),as):=by
 obtain⟨o,a,b,c⟩:=h;unfold Vz;rw[a];show(Sw _).bind _=_;rw[b,c];show some _=_;rw[Ly]
def s_:Ql (.lst<|xs++ys) none (some (xs.length:Int))=some (.fl xs):=by
 show some _=_
 congr 2
 unfold cutD;rw[HT.PK,HT.Fo,zzJ,Nat.min_eq_left ⋯,List.drop_zero,Nat.sub_zero,List.take_left]
end
def JG{t':Nat}{ch:List Addr}(I:Inv X pins σ H s)(hf:∀b ∈ ch,Mv X pins H b)(k:∀b u,b ∉ ch->s.heap.get? b=some u->h'.get? b=some u):Inv X pins σ H {s with heap:=h',toks:=t'}:=by
 have nc:∀b u,H b=some u->b ∉ ch:=λb u e z=>by have:=(hf b z).1;rw[e]at this;cases this
 refine I.step (g':=s.gens) (d':=s.drawn) (λb hb=>?_) (λb o _ _ hc e _=>k b o hc e) (λb o _ _ hc e _=>⟨o.slots,k b o hc e⟩) (λb o _ e n=>n)
  (λb o hc e=>⟨o,k b o hc e⟩) (λb xs e=>e) (λb o u e=>e) (λb ps e=>⟨#[],⋯⟩) (λm hm=>?_) (λb u e=>?_) I.bare
 . obtain⟨f0,f1,f2,f3,f4,f5⟩:=hf b hb;exact⟨f3,f1,f4,f5⟩
 . obtain⟨o,es,ep,ho,r⟩:=hm;exact⟨o,es,ep,k _ o (λz=>(hf _ z).2.1 rfl) ho,r⟩
 . refine(I.hok b u e).stay (λc v hc q=>k c v ?_ q) (λc q=>q) λc xs q=>q
   rcases hc with z|z
   . rw[z];exact nc b u e
   . exact nc c _ z
section
variable{X:Cx}{tg:Expr}
def uo(I l1 l2:Nat)(h1:l1<I)(h2:l2<I):ZipApart (I+4) (I+2) (I+3) I (I+1) l1 l2:=by
 constructor<;>(show(_:Nat)≠_;omega)
end
section
variable{X:Cx}{kd:KD}{tg e:Expr}{fa:EF}
def EI(st:Bool):List D->List D->List ZA
 |x::r,y::t=>(st,.tup [x,y])::EI st r t
 |_,_=>[]
theorem EN(st):∀(xs ys:List D),(EI st xs ys).length=min xs.length ys.length
 | [],_=>⋯
 |_::_,[]=>⋯
 |_::r,_::t=>by simp only[EI,zzT,EN st r t];omega
theorem FZ{st}:∀{xs ys:List D}{i:Nat}{y:ZA},(EI st xs ys)[i]? = some y->∃d e,xs[i]? = some d/\ys[i]? = some e/\y=(st,.tup [d,e])
 | [],_,_,_,h=>by simp[EI]at h
 |_::_,[],_,_,h=>by simp[EI]at h
 |x::r,y::t,0,z,h=>by
  cases h;exact⟨x,y,rfl,rfl,rfl⟩
 |x::r,y::t,i+1,z,h=>by
  simp only[EI]at h;obtain⟨d,e,h1,h2,h3⟩:=FZ h;exact⟨d,e,⋯,⋯,h3⟩
end
def pN{K O}(h:RpL K kd O H vs ds)(hv:zR vs us)(e:WR ds=some ns):IntsAre us ns:=
 RpL.ind (P:=λvs ds=>∀us ns,zR vs us->WR ds=some ns->IntsAre us ns) (λus ns hv e=>by cases e;cases hv;exact .nil) (λ{v d vs ds} a _ ih us ns hv e=>by
  cases hv with
  |cons b t=>
   cases a with
   |int x=>
    obtain⟨ys,h1,h2⟩:=bS_<|e;cases h2;obtain⟨tk,rfl⟩:=b;exact .cons _ _ (ih _ _ t h1)
   |_=>cases e) h us ns hv e
theorem N0:∀{vs:List V}{us:List Value},vs.length=us.length->(∀(i:Nat) v u,vs[i]? = some v->us[i]? = some u->RelV v u)->zR vs us
 | [],[],_,_=>.nil
 | [],_::_,h,_=>by simp at h
 |_::_,[],h,_=>by simp at h
 |v::c,u::d,h,k=>.cons (k 0 v u rfl rfl)<|N0 (by simpa using h) λi a b x y=>k (i+1) a b ⋯ ⋯
def WN(n:Nat)(os:List O):AS:=os.map some++List.replicate (n-os.length) none
theorem AZ:∀(ls:List O) {vs:List V}{fp:List Addr},ls.all O.isLf=true->RoL L N H vs ls fp->fp=[]
 | [],_,_,_,r=>by cases r;rfl
 |o::ls,_,_,h,r=>by
  rw[List.all_cons,zyC]at h;cases r with
  |cons a r=>
   cases a with
   |lf _=>rw[AZ ls h.2 r];rfl
   |_=>exact absurd h.1 (by simp[O.isLf])
def AM(h:RoL L N H vs ls fp):vs.length=ls.length:=RoL.length h
theorem AH:∀(ls:List O) {vs:List V}{fp:List Addr}{i:Nat}{o:O},ls.all O.isLf=true->RoL L N H vs ls fp->ls[i]? = some o->∃v,vs[i]? = some v/\Ro L N H v o []
 | [],_,_,_,_,_,_,e=>by simp at e
 |d::ls,_,_,i,o,h,r,e=>by
  rw[List.all_cons,zyC]at h;cases r with
  |cons a r=>
   cases i with
   |zero=>
    simp at e;subst e;cases a with
    |lf z=>exact⟨_,rfl,.lf z⟩
    |_=>exact absurd h.1 (by simp[O.isLf])
   |succ i=>
    obtain⟨v,b,c⟩:=AH ls h.2 r ⋯;exact⟨v,⋯,c⟩
def Ej{K}(ht:∀a,F a->H a≠none)(hn:T.Nodup)(hT:∀a ∈ T,H a≠none/\¬F a)(hl:ls.all O.isLf=true)(hN:(o::ls).length<=N.length)(ro:ZN K kd F (λ_=>False) (· ∈ T) H vs (o::ls) T):
 Rel K kd F (λ_=>False) [] (λi=>if i=0 then T else[]) (WN N.length (o::ls)) (L2.start N vs) H:=by
 have b:=AM ro;have n:∀a,Gw [] (λi=>if i=0 then T else[]) a ↔ a ∈ T:=λa=>⟨λz=>z.elim ⋯ λ⟨i,y⟩=>by
  by_cases e:i=0
  . subst e;simpa using y
  . simp[e]at y,λz=>.inr ⟨0,⋯⟩⟩
 have p:∀f a,Lv F (λ_=>False) _ f a->Lv F (λ_=>False) _ f a:=λf a z=>z.imp id (n a).mp;refine⟨by unfold WN L2.start;simp[b];omega,λi c=>?_,λi=>?_,λi j a x y=>?_,zyJ,(λ_ _ _ z=>nomatch z),ht,⋯,λa z=>hT a<|(n a).mp z,λi s e=>?_⟩
 . have:i≠0:=λz=>by subst z;unfold WN at c;simp at c
   simp[this]
 . by_cases e:i=0
   . subst e;simpa using hn
   . simp[e]
 . have g:i=0:=by
    by_cases e:i=0
    . exact e
    . simp[e]at x
   have h:j=0:=by
    by_cases e:j=0
    . exact e
    . simp[e]at y
   rw[g,h]
 . unfold WN at e;unfold L2.start
   by_cases c:i<(o::ls).length
   . rw[zyP (by rwa [zzB]),zzI]at e;obtain⟨d,k,l⟩:=zzX.mp e;subst l;rw[zyP<|by rwa [zzB,b]];cases ro with
     |cons a r=>
      rename_i v q A t;have u:=AZ ls hl r;subst u;cases i with
      |zero=>
       simp at k;subst k;exact⟨v,rfl,by simpa using Xy.lv p a⟩
      |succ i=>
       obtain⟨w,g,h⟩:=AH ls hl r ⋯;exact⟨w,by simp[g],by simpa using Xy.lv p h⟩
   . rw[zyR<|by rw[zzB];omega]at e;have:=zyA e;have l:=(List.mem_replicate.mp this).2;subst l;have m:i≠0:=λz=>by subst z;exact c ⋯
     show _=[];rw[if_neg m]
section
variable{K:zzA}{kd:KD}{F B G:Addr->Prop}{H:Hp}
theorem IL{st}(h:L st v d):∀(os:List O) {vs:List V}{fp:List Addr},RoL L N H vs os fp->RoL L N H (vs++[v]) (os++[.lf st d]) fp
 | [],_,_,r=>by cases r;exact .cons (.lf h) .nil
 |o::b,_,_,r=>by
  cases r with
  |cons a r=>
   exact .cons a<|IL h b r
end
section
variable{K:zzA}{kd:KD}{F B G:Addr->Prop}{H:Hp}
def Ey(hp:G p):Grow G H G (upd H p u):=⟨λb w h n=>by rw[zK λe=>n<|by subst e;exact hp];exact h,λb z=>.inl z⟩
theorem SV(h:L st' v d'):∀(os:List O) {vs:List V}{fp:List Addr}{n:Nat}{st:Bool}{d:D},RoL L N H vs os fp->os[n]? = some (.lf st d)->RoL L N H (vs.set n v) (os.set n<|.lf st' d') fp
 | [],_,_,_,_,_,_,e=>by simp at e
 |f::b,_,_,n,c,d,r,e=>by
  cases r with
  |cons a r=>
   cases n with
   |zero=>
    simp at e;subst e;cases a with
    |lf _=>exact .cons (.lf h) r
   |succ n=>exact .cons a (SV h b r ⋯)
end
section
variable{K:zzA}{kd:KD}{F B:Addr->Prop}{ad:Ad}{as:AS}{σ:St}{H:Hp}{i:Nat}{o:O}
def Rel.slotU(R:Rel K kd F B [] ad as σ H)(k:as[i]? = some (some o)):
 ∃v,σ[i]? = some (some v)/\Xy K kd F B (Gw [] ad) H v o (ad i)/\(ad i).Nodup/\(∀a ∈ ad i,Gw [] ad a)/\
  ∀(p:Addr) (u:HO) (o':O),p ∈ ad i->Xy K kd F B (Gw [] ad) (upd H p u) v o' (ad i)->Rel K kd F B [] ad (as.set i<|some o') σ (upd H p u)/\Grow (Gw [] ad) H (Gw [] ad) (upd H p u):=by
 obtain⟨v,d,n⟩:=R.sl i _ k;have r:=(zzG.mp k).1;refine⟨v,d,n,R.nd i,λa m=>.inr ⟨i,m⟩,λp u t f b=>?_⟩;have g:Grow _ H (Gw [] ad) (upd H p u):=Ey<|.inr ⟨i,f⟩;have c:∀a,H a≠none->upd H p u a≠none:=λa z=>by
  by_cases e:a=p
  . subst e;rw[yd];simp
  . rwa [zK e]
 refine⟨⟨by rw[zzU];exact R.len,λj l=>R.out j (by rwa [zzU]at l),R.nd,R.inj,R.tnd,R.dis,λa z=>c a<|R.ftr a z,λa z=>⟨c a (R.btr a z).1,(R.btr a z).2⟩,λa z=>⟨c a (R.gtr a z).1,(R.gtr a z).2⟩,λj s e=>?_⟩,g⟩
 by_cases q:j=i
 . subst q;rw[zyK r]at e;cases e;exact⟨v,d,b⟩
 . rw[zzY<|Ne.symm q]at e;exact(R.sl j s e).grow g λa m u h=>by rwa [zK λe=>q<|R.inj j i a m<|by rwa [e]]
end
abbrev p8:=AS->Option Int
def cS(K:zzA)(kd:KD)(f:p8):TE:=λσ H Q=>∃F B ad as k,Rel K kd F B [] ad as σ H/\f as=some k/\Q (.int k) H
@[irreducible] def AK(X:Cx)(kd:KD)(e:Expr)(f:p8):Prop:=PE X e<|cS X.K kd f
def sW:O->Option (List O)
 | .nd .ls os=>some os
 |_=>none
def J4:O->Option D
 | .lf _ d=>some d
 |_=>none
def atO{α:Type}(f:O->Option α)(os:List O)(k:Nat):Option α:=os[k]?.bind f
def nU{α:Type}(f:O->Option α)(as:AS)(i:Nat):Option α:=as[i]?.bind λs=>s.bind f
def oE{os}(h:sW o=some os):o = .nd .ls os:=by
 cases o with
 |lf s d=>cases h
 |nd k a=>cases k<;>cases h;rfl
def AR(h:J4 o=some d):∃st,o = .lf st d:=by
 cases o with
 |lf s d=>cases h;exact⟨s,rfl⟩
 |nd k a=>cases h
def kQ{α:Type}{f os}{k:Nat}{a:α}(h:atO f os k=some a):∃o,os[k]? = some o/\f o=some a:=bS_ h
def sC(h:nU f as k=some a):∃o,as[k]? = some (some o)/\f o=some a:=by
 obtain⟨s,b,h⟩:=bS_ h;obtain⟨o,rfl,h⟩:=bS_ h;exact⟨o,b,h⟩
def di{os}{d:D}{k:Nat}(h:atO J4 os k=some d):∃st,os[k]? = some (.lf st d):=by
 obtain⟨o,a,h⟩:=kQ h;obtain⟨b,rfl⟩:=AR h;exact⟨b,a⟩
def dk{inner}{k:Nat}(h:nU sW as k=some inner):as[k]? = some (some<|.nd .ls inner):=by
 obtain⟨o,a,h⟩:=sC h;cases oE h;exact a
def et(h:nU J4 as k=some d):∃st,as[k]? = some (some<|.lf st d):=by
 obtain⟨o,a,h⟩:=sC h;obtain⟨b,rfl⟩:=AR h;exact⟨b,a⟩
def xV(i:Nat):p8:=λas=>(nU J4 as i).bind Jj
section
variable{X:Cx}{kd:KD}{f g:p8}{a b:Expr}
def tB(hv:PE X (.Name x p) (U0 i)):AK X kd (.Name x p) (xV i):=by
 with_unfolding_all exact(yo hv λσ H Q h=>by
  obtain⟨F,B,ad,as,k,R,e,q⟩:=h;obtain⟨d,e1,e⟩:=bS_<|e;cases Js e;obtain⟨st,k1⟩:=et e1;obtain⟨v,hv,ro⟩:=R.sl i _ k1;generalize ad i=fp at ro;cases ro with
  |lf rp=>cases rp;exact⟨_,hv,q⟩)
end
def q8(h:j<n):qG n (j:Int)=some j:=by
 unfold qG;rw[if_pos ⋯,if_pos ⋯];simp
def ng(h0:0<=k)(h:k.toNat<n):qG n k=some k.toNat:=by
 have:=q8 h
 rwa [show k.toNat=k by omega]at this
def cY{α:Type}{P:List α->Prop}(h:∀a,P [a]):∀us:List α,us.length=1->P us
 | [a],_=>h a
def bA{α:Type}{P:List α->Prop}(h:∀a b,P [a,b]):∀us:List α,us.length=2->P us
 | [a,b],_=>h a b
def cL{α:Type}{P:List α->Prop}(h:∀a b c,P [a,b,c]):∀us:List α,us.length=3->P us
 | [a,b,c],_=>h a b c
def bE{α:Type}{P:List α->Prop}(h:∀a b c d,P [a,b,c,d]):∀us:List α,us.length=4->P us
 | [a,b,c,d],_=>h a b c d
def cZ{α:Type}{P:List α->Prop}(h:∀a b c d e,P [a,b,c,d,e]):∀us:List α,us.length=5->P us
 | [a,b,c,d,e],_=>h a b c d e
def c6{α:Type}{P:List α->Prop}(h:∀a b c d e f,P [a,b,c,d,e,f]):∀us:List α,us.length=6->P us
 | [a,b,c,d,e,f],_=>h a b c d e f
section
variable{X:Cx}{kd:KD}
def aI:AE X kd (.Constant (.int c) j pos) (fC<|.int c):=Od ky λ_ _=>.int _
def aZ:AE X kd (.Constant .none j pos) (fC .non):=Od lX λ_ _=>.non
def aB:AE X kd (.Constant (.bool c) j pos) (fC<|.bl c):=Od iF λ_ _=>.bl _
def ax{K}(hkd:yU P w K kd)(ha:AE X kd a fa)(hb:AE X kd b fb)(h1:X.prog=P:=by rfl)(h2:X.w=w:=by rfl)(h3:X.K=K:=by rfl)(hm:Hz b:=by exact λ_ _=>rfl):AE X kd (.Subscript a b pos) (f2 fa fb zZ):=i9 (df<|hkd _ h1 h2 h3) ha hb hm
def sv(z)(i:Nat)(hN:X.N.Nodup)(he:AE X kd e fa)(hi:X.N[i]? = some x:=by rfl)(hx:Loc X.env.scope x:=by first|exact Or.inl rfl|exact Or.inr rfl)(hs:swapsWith e (some<|.Name x pos') pos.line X.env=pure false:=by rfl)(hf:X.fn x=true\/X.env.scope.names.lookup x=some .local:=by first|exact Or.inl rfl|exact Or.inr rfl):
 Jl X kd (.Assign [.Name x pos'] e pos) (zE z i fa):=rQ hN hi hx he hs hf
def an(i:Nat)(hN:X.N.Nodup)(hi:X.N[i]? = some x:=by rfl)(hx:Loc X.env.scope x:=by first|exact Or.inl rfl|exact Or.inr rfl)(hf:X.fn x=true\/X.env.scope.names.lookup x=some .local:=by first|exact Or.inl rfl|exact Or.inr rfl):AG X kd (.Name x pos) [i] (gN i):=DN hN hi hx hf
def av(i:Nat)(hN:X.N[i]? = some x:=by rfl)(hv:fF X.env.scope x:=by first|exact Or.inl rfl|exact Or.inr (Or.inl rfl)|exact Or.inr (Or.inr rfl))(hd:(x==("__debug__":Str))=false:=by decide)
 (hcd:(x==("__classdict__":Str))=false:=by decide):AE X kd (.Name x pos) (fV i):=jx<|tq hN hv hd hcd
end
def JR{α:Type}:List Str->List α->Str->Option α
 | [],_,_=>none
 |_,[],_=>none
 |n::ns,a::as,f=>if f=n then some a else JR ns as f
theorem Wy(f):∀(ns:List Str) (vs:List V),(ns.zip vs).lookup f=JR ns vs f
 | [],_=>rfl
 |_::_,[]=>rfl
 |n::a,v::b=>by
  show List.lookup f (_::a.zip b)=if f=n then some v else JR a b f
  rw[List.lookup_cons]
  by_cases h:f=n
  . rw[if_pos h,beq_iff_eq.mpr h]
  . rw[if_neg h,beq_eq_false_iff_ne.mpr h];exact Wy f a b
theorem qm{K O}:∀{ns:List Str}{vs:List V}{ds:List D},RpL K kd O H vs ds->JR ns ds f=some d->∃v,JR ns vs f=some v/\Rp K kd O H v d
 | [],_,_,_,e=>by cases e
 |_::_,_,_,.nil,e=>by cases e
 |n::a,_,_,.cons (v:=v) (d:=b) (vs:=c) (ds:=g) h r,e=>by
  have e:(if f=n then some b else JR a g f)=some d:=e;show ∃w,(if f=n then some v else JR a c f)=some w/\_
  by_cases q:f=n
  . rw[if_pos q]at e ⊢;cases e;exact⟨v,rfl,h⟩
  . rw[if_neg q]at e ⊢;exact qm r e
theorem Km:∀{ns:List Str}{vs:List α},f ∉ ns->JR ns vs f=none
 | [],_,_=>rfl
 |_::_,[],_=>rfl
 |n::a,v::b,h=>by
  show(if f=n then some v else JR a b f)=_;rw[if_neg λe=>h<|by rw[e];exact zzF];exact Km λm=>h<|zzD _ m
theorem F_:∀{ns:List Str}{vs:List V},ns.length=vs.length->f ∉ ns->U4 f v (ns.zip vs)=(ns++[f]).zip (vs++[v])
 | [],[],_,_=>rfl
 | [],_::_,h,_=>by cases h
 |_::_,[],h,_=>by cases h
 |n::a,w::b,h,c=>by
  show(if n=f then _::a.zip b else _::U4 f v (a.zip b))=_::(a++_).zip (b++_);rw[if_neg λe=>c (by rw[e];exact zzF),F_ (Nat.succ.inj h) λm=>c<|zzD _ m]
def zJ(cs:List Str)(f:Str):D->Option R0
 | .ob c ns ds=>if c ∈ cs then(JR ns ds f).bind λd=>some (.im d)else none
 |_=>none
def CF(K:zzA)(kd:KD)(cs:List Str)(f:Str):Prop:=∀c ∈ cs,Cls K (kd.c c)/\xt K (kd.c c) f
section
variable{X:Cx}{kd:KD}{a e o:Expr}{es:List Expr}{fa fo fe:EF}{fr:AF}{pos pos' apos:Pos}{m f:Str}{cs:List Str}
def lA(hc:CF X.K kd cs f)(ha:AE X kd a fa)(hb:attributeBase a f X.env (eval a X.env)=eval a X.env):AE X kd (.Attribute a f pos) (f1 fa<|zJ cs f):=by
 with_unfolding_all exact(yo (H0 ha hb) λσ H Q h=>by
  obtain⟨F,B,P,as,r,m,R,e,q⟩:=h;obtain⟨_,o,e⟩:=bS_<|e;obtain⟨⟨x,S⟩,s,e⟩:=bS_ e;obtain⟨z,b,e⟩:=bS_ e;obtain⟨y,t,e⟩:=bS_ e;cases e;refine YE R o λv c u k g A=>?_;have C:=wU.vw k g s;have D:=Va k t λw E G I i J=>q w E c G I i<|A.trans J;cases C with
  |ob L T M=>
   obtain⟨l,b⟩:=ite_some' b;obtain⟨d,N,b⟩:=bS_ b;cases b;obtain⟨w,O,j⟩:=qm M N;exact⟨_,_,_,_,w,rfl,L,(hc _ l).1,(hc _ l).2,(Wy _ _ _).trans O,D w u (λ_ _ z=>z) j⟩
  |_=>cases b)
def rM(X:Cx)(m:Str)(ta:TE)(t:TA):TE:=λσ H Q=>ta σ H λx H1=>∃a C dx fs k f fd ps sp,x = .ref a/\H1 a=some (.ins C dx fs)/\Cls X.K C/\Meth X.K C m f/\fs.lookup m=none/\
 FnOk X.prog X.w X.K X.mg X.base xJ k f fd ps sp/\Room k X.A/\Binds X.K fd ps []/\t σ H1 λvs H2=>sp (x::vs) H2 Q λ_ _ _=>False
def Ae(he:PE X o ta)(hx:ZE xJ X λ_ _ _=>False)(ha:PA X (e::es) t)
 (hst:starEach (e::es) X.env=(false,eval e X.env)::starEach es X.env) (hpl:(backTo pos<|starEach es X.env).any (·.1)=false)
 (ht:eval (.Call (.Attribute o m apos) (e::es) [] pos) X.env=(do
  let ov <-eval o X.env
  standAt apos.atName
  let(f,first) <-holding [ov] (getMethod ov m pl)
  callWith pos f first (backTo pos<|starEach (e::es) X.env) (backToKw pos<|keywordEach [] X.env))):
 PE X (.Call (.Attribute o m apos) (e::es) [] pos) (rM X m ta t):=by
 intro b s σ H Q I h;refine W.methodCall_KW (vK (he b s σ H _ I h) λu j hq0=>?_) ht;obtain⟨x,n,d,p,a,C,E,G,k,f,fd,J,K,v,w,c,g,l,F,y,z,q⟩:=hq0;subst v;obtain rfl:u=Value.ref a:=p;refine EC d w c g l ?_;refine W.callWith_K I.ok.mod.kin g.kp (vK (ha pos b j σ n _ d q) λA L ⟨B,M,i,r,D⟩=>⟨i.kIn, ?_⟩) hst hpl;refine Ay (vs:=.ref a::B) F y z .nil hx i (.cons rfl r) ?_
 rwa [zyE]
def q0(he:PE X o ta)(hx:ZE xJ X λ_ _ _=>False)
 (ht:eval (.Call (.Attribute o m apos) [] [] pos) X.env=(do
  let ov <-eval o X.env
  standAt apos.atName
  let(f,first) <-holding [ov] (getMethod ov m pl)
  callWith pos f first (backTo pos<|starEach [] X.env) (backToKw pos<|keywordEach [] X.env))):
 PE X (.Call (.Attribute o m apos) [] [] pos) (rM X m ta kZ):=by
 intro b s σ H Q I h;refine W.methodCall_KW (vK (he b s σ H _ I h) λu r hq0=>?_) ht;obtain⟨x,t,d,g,a,C,v,w,k,f,fd,y,z,i,j,c,e,l,F,n,p,q⟩:=hq0;subst i;obtain rfl:u=Value.ref a:=g;refine EC d j c e l ?_;exact W.callWith_K0 d.kIn e.kp<|Ay (vs:=[.ref a]) F n p .nil hx d (.cons rfl .nil) q
end
def Nx:List (Str×Fn)->Str->Option Fn
 | [],_=>none
 |p::r,c=>if c=p.1 then some p.2 else Nx r c
def MT(P:Program)(w:World)(K:zzA)(mg:Str->Option Value)(base:Heap)(kd:KD)(m:Str)(k:Nat)(tbl:List (Str×Fn)):Prop:=
 ∀c g,Nx tbl c=some g->∃k' f fd ps,k'<=k/\Cls K (kd.c c)/\Meth K (kd.c c) m f/\FnOk P w K mg base xJ k' f fd ps (VT K kd g)/\Binds K fd ps []
section
variable{P:Program}{w:World}{K:zzA}{mg:Str->Option Value}{base:Heap}{kd:KD}{m:Str}{k:Nat}{tbl:List (Str×Fn)}
def xq:MT P w K mg base kd m k []:=λc g h=>by cases h
def pY(hk:k'<=k)(cl:Cls K (kd.c c))(me:Meth K (kd.c c) m f)(F:FnOk P w K mg base xJ k' f fd ps (VT K kd g))(b:Binds K fd ps [])(h:MT P w K mg base kd m k tbl):MT P w K mg base kd m k ((c,g)::tbl):=λc' g' e=>by
 have e:(if c'=c then some g else Nx tbl c')=some g':=e
 by_cases q:c'=c
 . rw[if_pos q]at e;cases e;subst q;exact⟨k',f,fd,ps,hk,cl,me,F,b⟩
 . rw[if_neg q]at e;exact h c' g' e
end
def d_(m:Str):D->Option Str
 | .ob c ns _=>if m ∈ ns then none else some c
 |_=>none
def yn(tbl:List (Str×Fn))(m:Str)(fo:EF)(fr:AF):EF:=λas=>(fo as).bind λp=>(p.1.frz.view p.2).bind λw=>(d_ m w.1).bind λc=>(Nx tbl c).bind λg=>(fr p.2).bind λq=>(Xh q.2 (p.1.frz::q.1)).bind λx=>(g x).bind λo=>some (.ow o,q.2)
section
variable{X:Cx}{kd:KD}{a e o:Expr}{es:List Expr}{fa fo fe:EF}{fr:AF}{pos pos' apos:Pos}{m f:Str}{cs:List Str}{tbl:List (Str×Fn)}{k:Nat}
def mR(hT:MT X.prog X.w X.K X.mg X.base kd m k tbl)(hr:Room k X.A)(ht:∀σ H Q,mB X.K kd fr σ H Q->t σ H Q)(h:al X.K kd (yn tbl m fo fr) σ H Q):rM X m (al X.K kd fo) t σ H Q:=by
 obtain⟨F,B,ad,as,r,E,R,e,q⟩:=h;obtain⟨⟨p,i⟩,G,e⟩:=bS_<|e;obtain⟨⟨w,lv⟩,I,e⟩:=bS_ e;obtain⟨c,a,e⟩:=bS_ e;obtain⟨g,J,e⟩:=bS_ e;obtain⟨⟨L,j⟩,M,e⟩:=bS_ e;obtain⟨N,O,e⟩:=bS_ e;obtain⟨o,P,e⟩:=bS_ e;cases e;refine YE R G λv l H1 z d S=>?_;have T:=wU.vw z d I;cases T with
 | @ob a' dx U C V W Y hl rl=>
  have a:(if m ∈ C then none else some U)=some c:=a
  by_cases n:m ∈ C
  . rw[if_pos n]at a;cases a
  . rw[if_neg n]at a;cases a;obtain⟨Z,f,fd,ps,s,cl,me,F1,b⟩:=hT _ _ J;refine⟨_,_,_,_,Z,f,fd,ps,_,rfl,Y,cl,me,(Wy _ _ _).trans<|Km n,F1,hr.mono s,b,ht _ _ _ ⟨F,B,l,i,L,j,z,M,λvs u H2 R2 x D=>?_⟩⟩;exact⟨_,N,o,R2.trk true,MY R2 (.cons (d.grow D) x) O,P,Ag R2 λw T' H' R' y g'=>q w T' u H' R' y<|(S.trans D).trans g'⟩
 |_=>cases a
def jh(hT:MT X.prog X.w X.K X.mg X.base kd m k tbl)(hr:Room k X.A)(hx:ZE xJ X λ_ _ _=>False)(ho:AE X kd o fo)(ha:AA X kd (e::es) fr)
 (hst:starEach (e::es) X.env=(false,eval e X.env)::starEach es X.env) (hpl:(backTo pos<|starEach es X.env).any (·.1)=false)
 (ht:eval (.Call (.Attribute o m apos) (e::es) [] pos) X.env=(do
  let ov <-eval o X.env
  standAt apos.atName
  let(f,first) <-holding [ov] (getMethod ov m pl)
  callWith pos f first (backTo pos<|starEach (e::es) X.env) (backToKw pos<|keywordEach [] X.env))):
 AE X kd (.Call (.Attribute o m apos) (e::es) [] pos) (yn tbl m fo fr):=by
 with_unfolding_all exact(yo (Ae ho hx ha hst hpl ht) λσ H Q h=>mR hT hr (λ_ _ _ z=>z) h)
def px(hT:MT X.prog X.w X.K X.mg X.base kd m k tbl)(hr:Room k X.A)(hx:ZE xJ X λ_ _ _=>False)(ho:AE X kd o fo)
 (ht:eval (.Call (.Attribute o m apos) [] [] pos) X.env=(do
  let ov <-eval o X.env
  standAt apos.atName
  let(f,first) <-holding [ov] (getMethod ov m pl)
  callWith pos f first (backTo pos<|starEach [] X.env) (backToKw pos<|keywordEach [] X.env))):
 AE X kd (.Call (.Attribute o m apos) [] [] pos) (yn tbl m fo aN):=by
 with_unfolding_all exact(yo (q0 ho hx ht) λσ H Q h=>mR hT hr (λσ H Q z=>by
  obtain⟨F,B,a,as,c,b,R,e,q⟩:=z;cases e;exact q [] a H R .nil Grow.refl) h)
end
abbrev u5:=AS->Option AS
def bf(K:zzA)(kd:KD)(f:u5):TS:=λD σ H=>∃F B ad as as',Rel K kd F B [] ad as σ H/\f as=some as'/\∀ad' H',Rel K kd F B [] ad' as' σ H'->Grow (Gw [] ad) H (Gw [] ad') H'->D.nx σ H'
@[irreducible] def fJ(X:Cx)(kd:KD)(st:List Stmt)(f:u5):Prop:=HW X st<|bf X.K kd f
@[irreducible] def fN(X:Cx)(kd:KD)(st:Stmt)(f:u5):Prop:=PS X st<|bf X.K kd f
def Gu(i:Nat)(cs:List Str)(f:Str)(fe:EF):u5:=λas=>(fe as).bind λp=>(L3 p.2 p.1).bind λx=>match x.2[i]? with
 |some (some (.nd (.ob c ns) os))=>if c ∈ cs/\f ∉ ns/\ns.length<1000 then some (x.2.set i<|some<|.nd (.ob c<|ns++[f])<|os++[.lf x.1.1 x.1.2])else none
 |_=>none
def UY(f g:u5):u5:=λas=>(f as).bind g
section
variable{X:Cx}{kd:KD}{e o:Expr}{st:Stmt}{rest:List Stmt}{fe:EF}{f g:u5}{pos pos':Pos}{cs:List Str}{n:Str}
def YY(hc:CF X.K kd cs n)(ho:PE X o (U0 j))(he:AE X kd e fe)(hs:swapsWith e (some<|.Attribute o n pos') pos.line X.env=pure false):fN X kd (.Assign [.Attribute o n pos'] e pos) (Gu j cs n fe):=by
 with_unfolding_all exact(vE (rA ho he hs) λD σ H h=>by
  obtain⟨F,B,P,as,o,R,e,q⟩:=h;obtain⟨⟨p,t⟩,Q,e⟩:=bS_<|e;obtain⟨⟨⟨A,d⟩,w⟩,S,e⟩:=bS_ e;cases f:w[j]? with
  |none=>rw[f]at e;cases e
  |some T=>
   rw[f]at e
   match T,e,f with
   |some (.nd (.ob c E) G),e,f=>
    obtain⟨⟨I,U,V⟩,e⟩:=zy e;cases e;refine⟨F,B,P,as,p,t,R,Q,λv T1 W J Y x Z=>?_⟩;obtain⟨b,R2,rp,le⟩:=Qi Y x S;obtain⟨v0,g,i⟩:=R2.sl j _ f;refine⟨v0,g, ?_⟩;generalize k:b j=fp1 at i;cases i with
    |ob hC L s rl=>
     rename_i l M C O fp;have ec:=hC.cl_eq;subst ec;have r:=R2.nd j;rw[k]at r;have y : ZN X.K kd F B (Gw [] b) J (O++[v]) (G++[.lf A d]) fp:=by
            have:=rl.append<|RoL.one<|Ro.lf rp
            rwa [zyE]at this
     refine⟨l,_,M,_,rfl,L,(hc _ I).1,(hc _ I).2,by rw[List.length_zip,s,Nat.min_self,<-s];exact V, ?_⟩;rw[F_ s U];obtain⟨R4,g4⟩:=R2.mut (n:=.nd (.ob c<|E++[n]) _) (zzG.mp f).1 k g (fp':=fp) (λa m=>m) (by rw[zyE];exact(zzW.mp r).2) (by rw[L];simp) λH' G' z gr kp=>.ob (.cl c) z (by rw[zzJ,zzJ,s];rfl)<|ZN.grow gr kp y;exact q _ _ R4<|(Z.trans<|Grow.less le).trans g4)
def Of(h:fN X kd st f):fJ X kd [st] f:=by
 with_unfolding_all exact(GZ h)
def Y6(h1:fN X kd st f)(h2:fJ X kd rest g):fJ X kd (st::rest) (UY f g):=by
 with_unfolding_all exact(XM (Wj h1 h2) λD σ H h=>by
  obtain⟨F,B,d,as,o,R,e,q⟩:=h;obtain⟨c,i,e⟩:=bS_<|e;exact⟨F,B,d,as,c,R,i,λa n j k=>⟨F,B,a,c,o,j,e,λb l R2 m=>q b l R2<|k.trans m⟩⟩)
end
def jW(c:Str):O:=.nd (.ob c []) []
def qH(x:Bool×D):O:=.lf x.1 x.2
def slot0:AS->Option O
 |some o::_=>if o.str=true then some o else none
 |_=>none
def lD(c:Str)(n m:Nat)(f:u5)(ds:List (Bool×D)):Option O:=if ds.length+1=m then(f<|WN n (jW c::ds.map qH)).bind slot0 else none
def lO(K:zzA)(kd:KD)(c:Str)(g:Fn):Sp:=λvs H Q _=>∃F x dx vs' ds o,vs = .ref x::vs'/\H x=some (.ins (kd.c c) dx [])/\(∀a,F a->H a≠none)/\¬F x/\RpI K kd F (λ_=>False) (· = x) H vs' ds/\g ds=some o/\
 ∀T H',T.Nodup->(∀a ∈ T,a=x\/H a=none)->(∀b u,H b=some u->b≠x->H' b=some u)->(∀a ∈ T,H' a≠none)->Ro (λ_ v d=>Rp K kd (TB F (· ∈ T)) H' v d) (λa=>¬TB F (· ∈ T) a) H' (.ref x) o T->Q .non H'
def u_{K}(h:RpI K kd F B G H vs ds):ZN K kd F B G H vs (ds.map qH) []:=by
 induction h with
 |nil=>exact .nil
 |cons a _ b=>exact RoL.cons (Ro.lf a) b
def De(ds:List (Bool×D)):(ds.map qH).all O.isLf=true:=by
 induction ds with
 |nil=>rfl
 |cons x r a=>exact a
section
variable{P:Program}{w:World}{K:zzA}{mg:Str->Option Value}{base:Heap}
def Jx{st}{k:Nat}(Fn:Fun K x qual st f fd)(S:FnScope N ps (zc st))(hps:ps.length<=N.length)
 (hb:∀(cdv:Value) (A:Around) (outer:List Env) (s:Shared) (H:Hp) (E:XK),Room k (A.deeper<|envOfC qual (zc st) s.heap.objs.size f cdv)->fJ (FB xJ P w K mg base N qual (zc st) f cdv A outer s H E).nox kd (YI st) b):
 FnOk P w K mg base xJ (k+1) f fd ps (lO K kd c<|lD c N.length ps.length b):=by
 with_unfolding_all (
 refine Fn.ok S (λvs H Q E h=>?_) λcdv A outer s H vs Q E hr h=>⟨_,hb cdv A outer s H E hr, ?_⟩
 . obtain⟨F,x,dx,vs',ds,o,rfl,_,_,_,rp,e,_⟩:=h;obtain⟨hl,_⟩:=ite_some'<|e;rw[zzT,rp.length,hl]
 . obtain⟨F,x,dx,vs',ds,o,rfl,hx,ht,hF,rp,e,q⟩:=h;obtain⟨hl,e⟩:=ite_some'<|e;obtain⟨as',e1,e2⟩:=bS_ e;have ro:ZN K kd F (λ_=>False) (· ∈ [x]) H (V.ref x::vs') (jW c::ds.map qH) [x]:=by
    have e0:(λa=>a ∈ [x])=(λa=>a=x):=⋯;rw[e0];exact RoL.cons (Ro.ob (.cl c) hx rfl .nil)<|u_ rp
   have R0:=Ej (N:=N) ht ⋯ (λa m=>by rw[zzR.mp m,hx];exact⟨⋯,hF⟩) (De ds) (by rw[zzT,zzB];omega) ro;have gw:∀a,Gw [] (λi=>if i=0 then[x]else[]) a->a=x:=λa z=>z.elim ⋯ λ⟨i,y⟩=>by
    by_cases e:i=0
    . subst e;simpa using y
    . simp[e]at y
   refine⟨F,λ_=>False,_,_,as',R0,e1,λad' H' R' g'=>?_⟩
   match as',e2,R' with
   |some o'::r,e2,R'=>
    obtain⟨hs,e2⟩:=zy<|e2;subst e2;obtain⟨v,hv,ro'⟩:=R'.sl 0 _ rfl;have hv0:(L2.start N (V.ref x::vs'))[0]? = some _:=rfl;cases hv;have rt:=Hn R' (R'.nd 0) (λa m=>.inr ⟨0,m⟩) ro' hs;exact q _ H' rt.nd (λa m=>(g'.own a<|.inr ⟨0,m⟩).imp (gw a) id) (λb u h hb=>g'.keep b u h λz=>hb<|gw b z) rt.tr rt.ro)
end
section
variable{X:Cx}{kd:KD}{e:Expr}{es:List Expr}{fr:AF}{pos p:Pos}{g:Fn}
def lJ(h:al X.K kd (zd fr g) σ H Q):nX (kd.c c) (lO X.K kd c g) [] E (mB X.K kd fr) σ H Q:=by
 obtain⟨F,B,G,as,r,I,R,e,q⟩:=h;obtain⟨⟨p,J⟩,L,e⟩:=bS_<|e;obtain⟨M,A,e⟩:=bS_ e;obtain⟨o,C,e⟩:=bS_ e;cases e;refine⟨F,B,G,as,p,_,R,L,λN d f n i O x j l s P=>?_⟩;rw[zyE];have k:∀b u,f b=some u->upd (upd f j<|.own x) x (.ins (kd.c c) j []) b=some u:=λb u h=>by rwa [zK<|yg h l,zK<|yg h s]
 have D:∀b,upd _ x _ b=none->f b=none:=λb h=>by
  cases e:f b with
  |none=>rfl
  |some u=>rw[k b u e]at h;cases h
 refine⟨Lv F B _ true,x,j,N,M,o,rfl,yd,λa z y=>n.trk true a z<|D a y,λz=>n.trk true x z l, ?_,C,λT t S U V Y Z=>⟨rfl, ?_⟩⟩
 . have ra:=MY n i A;clear e C A i
   induction ra with
   |nil=>exact .nil
   |cons h _ ih=>
    refine .cons ?_ ih;exact Rp.grow (W:=λ_=>False) (W':=_) ⟨λb u h _=>k b u h,λb e=>.inr<|by rwa [e]⟩<|h.less λa z=>z.elim ⋯ λy=>y.elim
 . exact Ag n (λw T' t R' v g'=>q w T' d t R' v<|O.trans g') _ T t S (λa m=>(U a m).elim (λe=>by rwa [e])<|D a) (λb u h=>V b u (k b u h)<|yg h l) Y Z
def qR(hC:kd.c c=C)(M:Mk X.K C f)(F:FnOk X.prog X.w X.K X.mg X.base xJ k f fdt ps (lO X.K kd c g))(hr:Room (k+1) X.A)(hg:Gl X x)(hm:X.mg x=some (.ref C))(hb:Binds X.K fdt ps [])(hx:ZE xJ X λ_ _ _=>False)
 (ha:AA X kd (e::es) fr) (hdb:(x==("__debug__":Str))=false) (he:starEach (e::es) X.env=(false,eval e X.env)::starEach es X.env) (hpl:(backTo pos<|starEach es X.env).any (·.1)=false):
 AE X kd (.Call (.Name x p) (e::es) [] pos) (zd fr g):=by
 subst hC
 with_unfolding_all exact(yo (pq M F hr hg hm hb .nil hx ha hdb he hpl) λσ H Q h=>lJ h)
end
def FX(mg:Str->Option Value):Str->Addr:=λx=>match mg x with
 |some (.ref a)=>a
 |_=>0
def Vq(h:mg x=some (.ref a)):FX mg x=a:=by
 unfold FX;rw[h]
structure CI(K:zzA)(kd:KD)(mg:Str->Option Value)(c:Str)(C:Addr):Prop where
 eq:kd.c c=C
 cl:Cls K C
 mks:W.makesIn K C=true
 kp:W.keepIn K (.ref C)=true
 mg:mg c=some (.ref C)
section
variable{P:Program}{w:World}{K:zzA}{mg:Str->Option Value}{base:Heap}{kd:KD}{m f:Str}{k:Nat}{tbl:List (Str×Fn)}{cs:List Str}{c:Str}{C:Addr}
def zP{k':Nat}{f}(ci:CI K kd mg c C)(me:Meth K C m f)(F:FnOk P w K mg base xJ k' f fd ps (VT K kd g))(hk:k'<=k)(b:Binds K fd ps [])(h:MT P w K mg base kd m k tbl):MT P w K mg base kd m k ((c,g)::tbl):=by
 have e:=ci.eq;subst e;exact pY hk ci.cl me F b h
def Wi:CF K kd [] f:=λc h=>nomatch h
def Yz(ci:CI K kd mg c C)(n:xt K C f)(h:CF K kd cs f):CF K kd (c::cs) f:=λb a=>by
 have e:=ci.eq;subst e
 rcases zzC.mp a with rfl|a
 . exact⟨ci.cl,n⟩
 . exact h b a
def CI.mk'{f}(ci:CI K kd mg c C)(me:Meth K C "__init__" f):Mk K C f:=⟨ci.mks,me.at_,me.fn,ci.kp⟩
end
def K3{prog w A E s it l}{i:Nat}{items x Q}(hit:s.heap.IsTupleIter it l i)(hl:s.heap.IsTuple l items)(hx:items[i]? = some x)
 (h:∀h':Heap,h'.IsTupleIter it l (i+1)->Heap.SameBut it s.heap h'->Q x {s with heap:=h'}):wpAny (model prog w) A (Builtin.SmallTypes.nextOf<|.ref it) Q E s:=by
 obtain⟨o,ho,hc,hd⟩:=id hit;obtain⟨ol,hol,hcl,nl,hdl⟩:=hl;refine zxE<|wpAny_callSpecial?_slot hit.typeIs F.slot_tuple_iterator_next<|zxM F.slot_tuple_iterator_next hit.typeIs F.entry_tuple_iterator_next ?_;unfold Builtin.«tuple_iterator.__next__»
 wp_walk using wpAny_field ho hd rfl,wpAny_seqItems hol hdl
 rw[hdl]
 wp_walk
 rw[zyI,hx];refine zxE<|wpAny_setField ho hd (by simp) ?_;refine zxF ⟨x,rfl,zxF<|h _ ⟨_,Heap.get?_update_self _ ho<|Obj.isFreed_of_fields<|Obj.data_mapFields hd _,(Obj.cls_mapFields o _).trans hc,(Obj.data_mapFields hd _).trans<|by simp[rawInt]⟩<|Heap.SameBut.update _ _ _⟩
def L4{prog w A E s it l}{i:Nat}{items Q}(hh:A.handled=none)(hit:s.heap.IsTupleIter it l i)(hl:s.heap.IsTuple l items)(hx:items[i]? = none)
 (h:∀(h':Heap) (e:Addr),Heap.ExtBut it s.heap h'->(∃o,h'.get? e=some o/\o.cls = .type "StopIteration")->E (.ref e) {s with heap:=h'}):wpAny (model prog w) A (Builtin.SmallTypes.nextOf<|.ref it) Q E s:=by
 obtain⟨o,ho,hc,hd⟩:=id hit;obtain⟨ol,hol,hcl,nl,hdl⟩:=hl;refine zxE<|wpAny_callSpecial?_slot hit.typeIs F.slot_tuple_iterator_next<|zxM F.slot_tuple_iterator_next hit.typeIs F.entry_tuple_iterator_next ?_;unfold Builtin.«tuple_iterator.__next__»
 wp_walk using wpAny_field ho hd rfl,wpAny_seqItems hol hdl
 rw[hdl]
 wp_walk
 rw[zyI,hx];refine zxE (wpAny_rule<|zxE<|wpAny_setField ho hd (by simp) ?_)
 wp_walk
 refine wpAny_raiseNew_none hh<|h _ _ (((Heap.SameBut.update _ _ _).extBut.push _).push _) ⟨_,zxI _ rfl,rfl⟩
def UG(b:Bool)(h:Heap)(it l:Addr)(k:Nat):Prop:=if b=true then h.IsTupleIter it l k else h.IsListIter it l k
def MX(b:Bool)(h:Heap)(l:Addr)(xs:Array Value):Prop:=if b=true then h.IsTuple l xs else h.IsList l xs
def ZM{prog w A E s it l}{i:Nat}{items x Q}:∀{b:Bool},UG b s.heap it l i->MX b s.heap l items->items[i]? = some x->
 (∀h':Heap,UG b h' it l (i+1)->Heap.SameBut it s.heap h'->Q x {s with heap:=h'})->wpAny (model prog w) A (Builtin.SmallTypes.nextOf<|.ref it) Q E s
 |true,h1,h2,h3,h4=>K3 h1 h2 h3 h4
 |false,h1,h2,h3,h4=>wpAny_nextOf_list_item h1 h2 h3 h4
def Q7{prog w A E s it l}{i:Nat}{items Q}(hh:A.handled=none):∀{b:Bool},UG b s.heap it l i->MX b s.heap l items->items[i]? = none->
 (∀(h':Heap) (e:Addr),Heap.ExtBut it s.heap h'->(∃o,h'.get? e=some o/\o.cls = .type "StopIteration")->E (.ref e) {s with heap:=h'})->wpAny (model prog w) A (Builtin.SmallTypes.nextOf<|.ref it) Q E s
 |true,h1,h2,h3,h4=>L4 hh h1 h2 h3 h4
 |false,h1,h2,h3,h4=>wpAny_nextOf_list_end hh h1 h2 h3 h4
def UG.ext{a h h' it l}{k:Nat}:∀{b:Bool},UG b h it l k->Heap.ExtBut a h h'->it≠a->UG b h' it l k
 |true,x,e,n=>Heap.IsTupleIter.extBut x e n
 |false,x,e,n=>Heap.IsListIter.extBut x e n
def MX.ext{a h h' l xs}:∀{b:Bool},MX b h l xs->Heap.ExtBut a h h'->l≠a->MX b h' l xs
 |true,x,e,n=>Heap.IsTuple.extBut x e n
 |false,x,e,n=>Heap.IsList.extBut x e n
def UG.at{h h' it l}{k:Nat}(k':∀o,h.get? it=some o->h'.get? it=some o):∀{b:Bool},UG b h it l k->UG b h' it l k
 |true,⟨o,e,c⟩=>⟨o,k' o e,c⟩
 |false,⟨o,e,c⟩=>⟨o,k' o e,c⟩
theorem UG.push{h it l}{k:Nat}{o b}(x:UG b h it l k):UG b (h.push o) it l k:=x.at λ_ e=>zxG _ e
def B8{M A E s a Q}(h:Q (s.heap.get? a) s):wpAny M A (loadIfAlive a) Q E s:=λΓ p hΓ=>⋯
def Cc(h:Heap)(z TI TO:Addr)(f0:Value)(f1:Bool):Prop:=h.get? z=some {cls:=.type "zip",data:=.fields #[f0,.bool f1,.bool false,.ref TI,.ref TO]}
def Zf(f0:Value):Prop:=f0 = .none\/∃n:Int,f0=rawInt n
def Di{prog w A E s z TI TO f0 f1 Q}(hz:Cc s.heap z TI TO f0 f1)(hf:Zf f0)(h1:Q true s)(h2:∀h' f1',Cc h' z TI TO f0 f1'->Heap.SameBut z s.heap h'->Q false {s with heap:=h'}):
 wpAny (model prog w) A (Builtin.SmallTypes.ownedTupleIsFree<|.ref z) Q E s:=by
 rcases hf with rfl|⟨n,rfl⟩
 . exact zxE<|wpAny_field hz rfl rfl<|zxF h1
 . refine zxE<|wpAny_field hz rfl rfl ?_;refine zxE<|B8 ?_;cases e:s.heap.get? n.toNat with
   |none=>exact zxF h1
   |some o=>
    refine zxE<|wpAny_field hz rfl rfl ?_;cases f1 with
    |true=>exact zxF (h2 s.heap true hz<|Heap.SameBut.refl _ _)
    |false=>exact zxE (wpAny_setField_rec hz ⋯ λh' hz' hs=>zxF<|h2 h' true hz' hs)
def rP{b1 b2 prog w A E s z TI TO i1 i2 l1 l2}{k1 k2:Nat}{xs ys}{x y a b f0:Value}{f1:Bool}{Q:Value->Shared->Prop}(D:ZipApart z TI TO i1 i2 l1 l2)
 (hz:Cc s.heap z TI TO f0 f1) (hf:Zf f0) (hTI:IsPair s.heap TI (.ref i1) (.ref i2)) (hTO:IsPair s.heap TO a b) (h1:UG b1 s.heap i1 l1 k1) (h2:UG b2 s.heap i2 l2 k2) (q1:MX b1 s.heap l1 xs) (q2:MX b2 s.heap l2 ys) (hx:xs[k1]? = some x) (hy:ys[k2]? = some y)
 (h:∀(h':Heap) (g0:Value) (g1:Bool),Cc h' z TI TO g0 g1->Zf g0->(∃p q,IsPair h' TO p q)->UG b1 h' i1 l1 (k1+1)->UG b2 h' i2 l2 (k2+1)->IsPair h' s.heap.objs.size x y->(∀c o,c≠z->c≠TO->c≠i1->c≠i2->s.heap.get? c=some o->h'.get? c=some o)->Q (.ref s.heap.objs.size) {s with heap:=h'}):
 wpAny (model prog w) A (Builtin.«zip.__next__» {pos:=[.ref z]}) (λfin s'=>∃v,fin=Fin.done (Flow.ret v)/\Q v s') E s:=by
 change wpAny (model prog w) A (bind (field (.ref z) 2) _) _ E s;refine zxE<|wpAny_field hz rfl rfl ?_;refine zxE<|wpAny_field hz rfl rfl<|zxE<|wpAny_seqItems hTI rfl ?_;refine zxE<|Di hz hf ?_ λh₁ g1 z1 hs₁=>?_
 . rw[if_pos rfl];refine zxE<|wpAny_rule<|zxE<|wpAny_field hz rfl rfl ?_;refine zxE<|wpAny_setField_rec hz (by simp) λh₁ hz₁ hs₁=>?_;refine zxE ?_;rw[show(#[Value.ref i1,Value.ref i2].toList.zipIdx)=[(Value.ref i1,0),(Value.ref i2,1)]from rfl,List.forIn_cons];have x1:=h1.ext hs₁.extBut D.i1z;have y1:=q1.ext hs₁.extBut D.l1z;refine zxE<|zxE<|wpAny_onRaise ?_;refine zxE<|ZM x1 y1 hx λh₂ x2 hs₂=>zxF ?_;have t2:IsPair h₂ TO a b:=hs₂.extBut TO _ D.TOi1<|hs₁.extBut TO _ D.TOz hTO;refine zxE<|wpAny_seqItems t2 rfl<|zxE<|wpAny_updateSeq_pair t2 λh₃ t3 hs₃=>?_;refine zxE<|wpAny_letGo<|zxF ?_;have x3:=((h2.ext hs₁.extBut D.i2z).ext hs₂.extBut D.i12.symm).ext hs₃.extBut D.TOi2.symm;have y3:=((q2.ext hs₁.extBut D.l2z).ext hs₂.extBut D.l2i1).ext hs₃.extBut D.l2TO;change wpAny (model prog w) A (forIn [(Value.ref i2,1)] _ _) _ E _;rw[List.forIn_cons];refine zxE<|zxE<|wpAny_onRaise ?_;refine zxE<|ZM x3 y3 hy λh₄ x4 hs₄=>zxF ?_;have t4:IsPair h₄ TO x b:=hs₄.extBut TO _ D.TOi2 t3;refine zxE<|wpAny_seqItems t4 rfl<|zxE<|wpAny_updateSeq_pair t4 λh₅ t5 hs₅=>?_;refine zxE<|wpAny_letGo<|zxF ?_;change wpAny (model prog w) A (forIn [] _ _) _ E _;rw[List.forIn_nil];refine zxF ?_;have t5:IsPair h₅ TO x y:=t5;refine zxE<|wpAny_seqItems t5 rfl<|zxE<|wpAny_newTuple ?_;have e5:h₅.objs.size=s.heap.objs.size:=hs₅.1.trans<|hs₄.1.trans<|hs₃.1.trans<|hs₂.1.trans hs₁.1;have z1:Cc h₁ z TI TO .ellipsis f1:=hz₁;have z5:Cc h₅ z TI TO .ellipsis f1:=hs₅.extBut z _ D.TOz.symm<|hs₄.extBut z _ D.i2z.symm<|hs₃.extBut z _ D.TOz.symm<|hs₂.extBut z _ D.i1z.symm z1;refine zxE ?_;refine zxE<|wpAny_setField_rec (zxG _ z5) (by simp) λh₇ z7 hs₇=>?_;refine wpAny_setField_rec z7 (by simp) λh₆ z6 hs₆'=>zxF ⟨_,rfl, ?_⟩;have hs₆:=hs₇.trans hs₆';have lt:=λc o q n=>hs₆.extBut c o n<|zxG _ q;have nz:h₅.objs.size≠z:=λe=>by
    have:=zxH z5;rw[<-e]at this;exact Nat.lt_irrefl _ this
   rw[e5];refine h h₆ (rawInt (h₅.objs.size:Int)) false z6 (.inr ⟨_,rfl⟩) ⟨_,_,lt TO _ t5 D.TOz⟩ ?_ ?_ ?_ λc o c1 c2 c3 c4 q=>?_
   . have:=((x2.ext hs₃.extBut D.TOi1.symm).ext hs₄.extBut D.i12).ext hs₅.extBut D.TOi1.symm;exact(UG.push this).ext hs₆.extBut D.i1z
   . exact(UG.push<|x4.ext hs₅.extBut D.TOi2.symm).ext hs₆.extBut D.i2z
   . rw[<-e5];exact hs₆.extBut _ _ nz<|zxI _ rfl
   . exact lt c o (hs₅.extBut c o c2<|hs₄.extBut c o c4<|hs₃.extBut c o c2<|hs₂.extBut c o c3<|hs₁.extBut c o c1 q) c1
 . rw[if_neg<|by simp];change wpAny (model prog w) A (bind (forIn #[Value.ref i1,Value.ref i2] _ _) _) _ E _;rw[<-Array.forIn_toList,List.forIn_cons];have x1:=h1.ext hs₁.extBut D.i1z;have y1:=q1.ext hs₁.extBut D.l1z;refine zxE<|zxE<|zxE<|zxJ ?_;refine zxE<|ZM x1 y1 hx λh₂ x2 hs₂=>zxF<|zxF ?_;change wpAny (model prog w) A (forIn [Value.ref i2] _ _) _ E _;rw[List.forIn_cons];have x3:=(h2.ext hs₁.extBut D.i2z).ext hs₂.extBut D.i12.symm;have y3:=(q2.ext hs₁.extBut D.l2z).ext hs₂.extBut D.l2i1;refine zxE<|zxE<|zxJ ?_;refine zxE<|ZM x3 y3 hy λh₄ x4 hs₄=>zxF<|zxF ?_;change wpAny (model prog w) A (forIn [] _ _) _ E _;rw[List.forIn_nil];refine zxF<|zxE<|wpAny_newTuple ?_ (show 2<=sizeLine by decide);refine zxF ⟨_,rfl, ?_⟩;have e4:h₄.objs.size=s.heap.objs.size:=hs₄.1.trans<|hs₂.1.trans hs₁.1;have z4:Cc h₄ z TI TO f0 g1:=hs₄.extBut z _ D.i2z.symm<|hs₂.extBut z _ D.i1z.symm z1;have t4:IsPair h₄ TO a b:=hs₄.extBut TO _ D.TOi2<|hs₂.extBut TO _ D.TOi1<|hs₁.extBut TO _ D.TOz hTO;rw[e4];refine h _ f0 g1 (zxG _ z4) hf ⟨_,_,zxG _ t4⟩ (UG.push<|x2.ext hs₄.extBut D.i12) (UG.push x4) ?_ λc o c1 c2 c3 c4 q=>zxG _<|hs₄.extBut c o c4<|hs₂.extBut c o c3<|hs₁.extBut c o c1 q;rw[<-e4];exact zxI _ rfl
def pI{b1 b2 prog w A E s z TI TO i1 i2 l1 l2}{k1 k2:Nat}{xs ys a b f0 f1 Q}(hh:A.handled=none)(D:ZipApart z TI TO i1 i2 l1 l2)
 (hz:Cc s.heap z TI TO f0 f1) (hf:Zf f0) (hTI:IsPair s.heap TI (.ref i1) (.ref i2)) (hTO:IsPair s.heap TO a b) (h1:UG b1 s.heap i1 l1 k1) (h2:UG b2 s.heap i2 l2 k2) (q1:MX b1 s.heap l1 xs) (q2:MX b2 s.heap l2 ys) (hx:xs[k1]? = none\/ys[k2]? = none)
 (h:∀(h':Heap) (e:Addr),(∀c o,c≠z->c≠TO->c≠i1->c≠i2->s.heap.get? c=some o->h'.get? c=some o)->(∃o,h'.get? e=some o/\o.cls = .type "StopIteration")->E (.ref e) {s with heap:=h'}):
 wpAny (model prog w) A (Builtin.«zip.__next__» {pos:=[.ref z]}) Q E s:=by
 have fin:∀(h':Heap) (e:Addr),(∃f g,Cc h' z TI TO f g)->(∀c o,c≠z->c≠TO->c≠i1->c≠i2->s.heap.get? c=some o->h'.get? c=some o)->(∃o,h'.get? e=some o/\o.cls = .type "StopIteration")->
  wpAny (model prog w) A (setField (.ref z) 0 Value.none) (λ_ s''=>E (.ref e) s'') E {s with heap:=h'}:=λh' e ⟨f,g,hf⟩ kk ⟨o,ho,hc⟩=>by
  refine wpAny_setField_rec (s:={s with heap:=h'}) hf (by simp) λh'' z'' hs=>?_;have ne:e≠z:=λe'=>by
   subst e';have:=(hf).symm.trans ho;cases this;exact absurd (show Value.type "zip"=Value.type "StopIteration" from hc) (by decide)
  exact h h'' e (λc o c1 c2 c3 c4 q=>hs.extBut c o c1<|kk c o c1 c2 c3 c4 q) ⟨o,hs.extBut e o ne ho,hc⟩
 change wpAny (model prog w) A (bind (field (.ref z) 2) _) _ E s;refine zxE<|wpAny_field hz rfl rfl ?_;refine zxE<|wpAny_field hz rfl rfl<|zxE<|wpAny_seqItems hTI rfl ?_;refine zxE<|Di hz hf ?_ λh₁ g1 z1 hs₁=>?_
 . rw[if_pos rfl];refine zxE<|wpAny_rule<|zxE<|wpAny_field hz rfl rfl ?_;refine zxE<|wpAny_setField_rec hz (by simp) λh₁ hz₁ hs₁=>?_;refine zxE ?_;rw[show(#[Value.ref i1,Value.ref i2].toList.zipIdx)=[(Value.ref i1,0),(Value.ref i2,1)]from rfl,List.forIn_cons];have z1:=hz₁;have x1:=h1.ext hs₁.extBut D.i1z;have y1:=q1.ext hs₁.extBut D.l1z;refine zxE<|zxE<|wpAny_onRaise ?_;cases e1:xs[k1]? with
   |none=>exact zxE (Q7 hh x1 y1 e1 λh' e ex ho=>fin h' e ⟨_,_,ex z _ D.i1z.symm z1⟩ (λc o c1 c2 c3 c4 q=>ex c o c3<|hs₁.extBut c o c1 q) ho)
   |some x=>
    have hy:ys[k2]? = none:=hx.resolve_left (by rw[e1];simp);refine zxE<|ZM x1 y1 e1 λh₂ x2 hs₂=>zxF ?_;have t2:=hs₂.extBut TO _ D.TOi1<|hs₁.extBut TO _ D.TOz hTO;refine zxE<|wpAny_seqItems t2 rfl<|zxE<|wpAny_updateSeq_pair t2 λh₃ t3 hs₃=>?_;refine zxE<|wpAny_letGo<|zxF ?_;have x3:=((h2.ext hs₁.extBut D.i2z).ext hs₂.extBut D.i12.symm).ext hs₃.extBut D.TOi2.symm;have y3:=((q2.ext hs₁.extBut D.l2z).ext hs₂.extBut D.l2i1).ext hs₃.extBut D.l2TO;change wpAny (model prog w) A (forIn [(Value.ref i2,1)] _ _) _ E _;rw[List.forIn_cons];refine zxE<|zxE<|wpAny_onRaise ?_;exact zxE<|Q7 hh x3 y3 hy λh' e ex ho=>fin h' e ⟨_,_,ex z _ D.i2z.symm<|hs₃.extBut z _ D.TOz.symm<|hs₂.extBut z _ D.i1z.symm z1⟩
     (λc o c1 c2 c3 c4 q=>ex c o c4<|hs₃.extBut c o c2<|hs₂.extBut c o c3<|hs₁.extBut c o c1 q) ho
 . rw[if_neg<|by simp];change wpAny (model prog w) A (bind (forIn #[Value.ref i1,Value.ref i2] _ _) _) _ E _;rw[<-Array.forIn_toList,List.forIn_cons];have x1:=h1.ext hs₁.extBut D.i1z;have y1:=q1.ext hs₁.extBut D.l1z;refine zxE<|zxE<|zxE<|zxJ ?_;cases e1:xs[k1]? with
   |none=>exact zxE (Q7 hh x1 y1 e1 λh' e ex ho=>h h' e (λc o c1 c2 c3 c4 q=>ex c o c3<|hs₁.extBut c o c1 q) ho)
   |some x=>
    have hy:ys[k2]? = none:=hx.resolve_left (by rw[e1];simp);refine zxE<|ZM x1 y1 e1 λh₂ x2 hs₂=>zxF<|zxF ?_;change wpAny (model prog w) A (forIn [Value.ref i2] _ _) _ E _;rw[List.forIn_cons];have x3:=(h2.ext hs₁.extBut D.i2z).ext hs₂.extBut D.i12.symm;have y3:=(q2.ext hs₁.extBut D.l2z).ext hs₂.extBut D.l2i1;refine zxE<|zxE<|zxJ ?_;exact zxE<|Q7 hh x3 y3 hy λh' e ex ho=>h h' e (λc o c1 c2 c3 c4 q=>ex c o c4<|hs₂.extBut c o c3<|hs₁.extBut c o c1 q) ho
def Cz{b1 b2 prog w A E s z TI TO i1 i2 l1 l2}{k1 k2:Nat}{xs ys x y a b f0 f1 Q}(D:ZipApart z TI TO i1 i2 l1 l2)
 (hz:Cc s.heap z TI TO f0 f1) (hf:Zf f0) (hTI:IsPair s.heap TI (.ref i1) (.ref i2)) (hTO:IsPair s.heap TO a b) (h1:UG b1 s.heap i1 l1 k1) (h2:UG b2 s.heap i2 l2 k2) (q1:MX b1 s.heap l1 xs) (q2:MX b2 s.heap l2 ys) (hx:xs[k1]? = some x) (hy:ys[k2]? = some y)
 (h:∀(h':Heap) (g0:Value) (g1:Bool),Cc h' z TI TO g0 g1->Zf g0->(∃p q,IsPair h' TO p q)->UG b1 h' i1 l1 (k1+1)->UG b2 h' i2 l2 (k2+1)->IsPair h' s.heap.objs.size x y->(∀c o,c≠z->c≠TO->c≠i1->c≠i2->s.heap.get? c=some o->h'.get? c=some o)->Q (some<|.ref s.heap.objs.size) {s with heap:=h'}):
 wpAny (model prog w) A (pyNext<|.ref z) Q E s:=by
 have hT:s.TypeIs (.ref z) "zip":=⟨_,hz,rfl⟩;exact zxE<|wpAny_attempt<|wpAny_callSpecial?_slot hT F.slot_zip_next<|zxM F.slot_zip_next hT F.entry_zip_next (rP D hz hf hTI hTO h1 h2 q1 q2 hx hy λh' g0 g1 a1 a2 a3 a4 a5 a6 a7=>zxF<|h h' g0 g1 a1 a2 a3 a4 a5 a6 a7)<|F.args_zip_next_1 _
def Ia{b1 b2 prog w A E s z TI TO i1 i2 l1 l2}{k1 k2:Nat}{xs ys a b f0 f1 Q}(hh:A.handled=none)(D:ZipApart z TI TO i1 i2 l1 l2)
 (hz:Cc s.heap z TI TO f0 f1) (hf:Zf f0) (hTI:IsPair s.heap TI (.ref i1) (.ref i2)) (hTO:IsPair s.heap TO a b) (h1:UG b1 s.heap i1 l1 k1) (h2:UG b2 s.heap i2 l2 k2) (q1:MX b1 s.heap l1 xs) (q2:MX b2 s.heap l2 ys) (hx:xs[k1]? = none\/ys[k2]? = none)
 (h:∀h':Heap,(∀c o,c≠z->c≠TO->c≠i1->c≠i2->s.heap.get? c=some o->h'.get? c=some o)->Q none {s with heap:=h'}):wpAny (model prog w) A (pyNext<|.ref z) Q E s:=by
 have hT:s.TypeIs (.ref z) "zip":=⟨_,hz,rfl⟩;exact zxE<|wpAny_attempt<|wpAny_callSpecial?_slot hT F.slot_zip_next<|zxM F.slot_zip_next hT F.entry_zip_next (pI hh D hz hf hTI hTO h1 h2 q1 q2 hx λh' e hk _=>zxE<|wpAny_isInstance ⋯ isSubtype_stop (zxF<|h h' hk))<|F.args_zip_next_1 _
def uX{prog w A E s z TI TO T f0 f1 Q}(tg)(hz:Cc s.heap z TI TO f0 f1)(hf:Zf f0)
 (h:∀(h':Heap) (g0:Value),Cc h' z TI TO g0 f1->Zf g0->Heap.SameBut z s.heap h'->Q () {s with heap:=h'}):wpAny (model prog w) A (letOwnedTupleGo tg (.ref z)<|.ref T) Q E s:=by
 have no:wpAny (model prog w) A _ Q E s:=zxF<|h s.heap f0 hz hf<|Heap.SameBut.refl _ _;have go:wpAny (model prog w) A (bind (load z) λo=>match o.cls,o.data with
  |Value.type n,Data.fields vs=>if(["enumerate","zip","dict_itemiterator","dict_reverseitemiterator","odict_iterator","itertools.zip_longest","itertools.pairwise"].contains n&&vs[0]? == some (rawInt T))=true then(do rule "for.unpacks-the-owned-tuple";updateField z 0 Value.none)else pure ()
  |_,_=>pure ()) Q E s:=by
  refine zxE<|wpAny_load hz ?_;show wpAny _ A (if _ then _ else _) Q E s
  split
  . refine zxE<|wpAny_rule ?_;exact wpAny_setField_rec hz ⋯ λh' z' hs=>h h' .none z' (.inl rfl) hs
  . exact no
 cases tg with
 |Tuple elts k pos=>exact go
 |List elts pos=>exact go
 |_=>exact no
def Vd(b:Bool)(l:Addr):Obj:={cls:=.type (if b=true then "tuple_iterator" else "list_iterator"),data:=.fields #[.ref l,.int 0 0]}
def Jb{prog w A E s l xs Q}:∀{b:Bool},MX b s.heap l xs->Q (.ref s.heap.objs.size) {s with heap:=s.heap.push (Vd b l)}->wpAny (model prog w) A (pyIter<|.ref l) Q E s
 |true,h1,h2=>wpAny_pyIter_tuple h1 h2
 |false,h1,h2=>wpAny_pyIter_list h1 h2
def MX.at{h h' l xs}(k:∀o,h.get? l=some o->h'.get? l=some o):∀{b:Bool},MX b h l xs->MX b h' l xs
 |true,⟨o,e,c⟩=>⟨o,k o e,c⟩
 |false,⟨o,e,c⟩=>⟨o,k o e,c⟩
def qk{b1 b2}(l1 l2)(xs ys):Meets (Builtin.«zip.__new__» {pos:=[.type "zip",.ref l1,.ref l2]}) λ_ R s=>MX b1 s.heap l1 xs/\MX b2 s.heap l2 ys/\
 ∀h':Heap,Cc h' (s.heap.objs.size+4) (s.heap.objs.size+2) (s.heap.objs.size+3) .none false->IsPair h' (s.heap.objs.size+2) (.ref s.heap.objs.size) (.ref<|s.heap.objs.size+1)->IsPair h' (s.heap.objs.size+3) .none .none->UG b1 h' s.heap.objs.size l1 0->UG b2 h' (s.heap.objs.size+1) l2 0->
  (∀c o,s.heap.get? c=some o->h'.get? c=some o)->R (.ok<|.ret<|.ref<|s.heap.objs.size+4) {s with heap:=h'}:=
 .of_wp λprog w A R s h=>by
  obtain⟨hp,g,d,tk,os⟩:=s;obtain⟨hl1,hl2,h⟩:=h;have hsub:=sub_zip;have p1:∀{Q:Value->Shared->Prop}{E:Value->Shared->Prop}{A:Around},Q (.ref hp.objs.size) ⟨hp.push<|Vd b1 l1,g,d,tk,os⟩->wpAny (model prog w) A (pyIter<|.ref l1) Q E ⟨hp,g,d,tk,os⟩:=λh=>Jb hl1 h;have p2:∀{Q:Value->Shared->Prop}{E:Value->Shared->Prop}{A:Around},Q (.ref (hp.push<|Vd b1 l1).objs.size) ⟨(hp.push<|Vd b1 l1).push<|Vd b2 l2,g,d,tk,os⟩->wpAny (model prog w) A (pyIter<|.ref l2) Q E ⟨hp.push<|Vd b1 l1,g,d,tk,os⟩:=λh=>Jb (s:=⟨hp.push<|Vd b1 l1,g,d,tk,os⟩) (hl2.at λo e=>zxG _ e) h
  wp_walk using p1,p2
  refine⟨_,rfl, ?_⟩;have s1:(hp.push<|Vd b1 l1).objs.size=hp.objs.size+1:=zxK _ _;have s2:((hp.push<|Vd b1 l1).push<|Vd b2 l2).objs.size=hp.objs.size+2:=(zxK _ _).trans (congrArg (· + 1) s1);generalize hh2:(hp.push<|Vd b1 l1).push (Vd b2 l2)=h2 at s2 ⊢;have i1:UG b1 h2 hp.objs.size l1 0:=by
   have:h2.get? hp.objs.size=some (Vd b1 l1):=by rw[<-hh2];exact zxG _<|zxI _ rfl
   cases b1<;>exact⟨_,this,rfl,rfl⟩
  have i2:UG b2 h2 (hp.objs.size+1) l2 0:=by
   have:h2.get? (hp.objs.size+1)=some (Vd b2 l2):=by rw[<-hh2,<-s1];exact zxI _ rfl
   cases b2<;>exact⟨_,this,rfl,rfl⟩
  have kp:∀c o,hp.get? c=some o->h2.get? c=some o:=λc o q=>by rw[<-hh2];exact zxG _<|zxG _ q
  rw[s1];change R (.ok<|.ret<|.ref ((h2.push {cls:=.type "tuple",data:=.seq #[.ref hp.objs.size,.ref<|hp.objs.size+1]}).push {cls:=.type "tuple",data:=.seq #[.none,.none]}).objs.size)
   ⟨((h2.push {cls:=.type "tuple",data:=.seq #[.ref hp.objs.size,.ref<|hp.objs.size+1]}).push {cls:=.type "tuple",data:=.seq #[.none,.none]}).push {cls:=.type "zip",data:=.fields #[.none,.bool false,.bool false,.ref h2.objs.size,.ref (h2.push {cls:=.type "tuple",data:=.seq #[.ref hp.objs.size,.ref<|hp.objs.size+1]}).objs.size]},g,d,tk,os⟩
  have g3:=zxI h2 (o:={cls:=.type "tuple",data:=.seq #[.ref hp.objs.size,.ref<|hp.objs.size+1]}) rfl;have s3:(h2.push {cls:=.type "tuple",data:=.seq #[.ref hp.objs.size,.ref<|hp.objs.size+1]}).objs.size=hp.objs.size+3:=(zxK _ _).trans (congrArg (· + 1) s2);rw[s2]at g3;rw[s2,s3];have k3:∀c o,h2.get? c=some o->(h2.push {cls:=.type "tuple",data:=.seq #[.ref hp.objs.size,.ref<|hp.objs.size+1]}).get? c=some o:=λc o q=>zxG _ q;generalize (h2.push {cls:=.type "tuple",data:=.seq #[.ref hp.objs.size,.ref<|hp.objs.size+1]})=h3 at *;have g4:=zxI h3 (o:={cls:=.type "tuple",data:=.seq #[.none,.none]}) rfl;have s4:(h3.push {cls:=.type "tuple",data:=.seq #[.none,.none]}).objs.size=hp.objs.size+4:=(zxK _ _).trans (congrArg (· + 1) s3);have k4:∀c o,h3.get? c=some o->(h3.push {cls:=.type "tuple",data:=.seq #[.none,.none]}).get? c=some o:=λc o q=>zxG _ q;rw[s3]at g4;rw[s4];generalize (h3.push {cls:=.type "tuple",data:=.seq #[.none,.none]})=h4 at *;have g5:=zxI h4 (o:={cls:=.type "zip",data:=.fields #[.none,.bool false,.bool false,.ref<|hp.objs.size+2,.ref<|hp.objs.size+3]}) rfl;rw[s4]at g5;exact h _ g5 (zxG _<|k4 _ _ g3) (zxG _ g4) (i1.at λo e=>zxG _<|k4 _ _<|k3 _ _ e) (i2.at λo e=>zxG _<|k4 _ _<|k3 _ _ e) λc o q=>zxG _<|k4 _ _<|k3 _ _<|kp c o q
def uR{b1 b2 prog w A E s l1 l2 xs ys Q}(hl1:MX b1 s.heap l1 xs)(hl2:MX b2 s.heap l2 ys)
 (h:∀h':Heap,Cc h' (s.heap.objs.size+4) (s.heap.objs.size+2) (s.heap.objs.size+3) .none false->IsPair h' (s.heap.objs.size+2) (.ref s.heap.objs.size) (.ref<|s.heap.objs.size+1)->IsPair h' (s.heap.objs.size+3) .none .none->UG b1 h' s.heap.objs.size l1 0->UG b2 h' (s.heap.objs.size+1) l2 0->
  (∀c o,s.heap.get? c=some o->h'.get? c=some o)->Q (.ref<|s.heap.objs.size+4) {s with heap:=h'}):wpAny (model prog w) A (call (.type "zip") [.ref l1,.ref l2]) Q E s:=
 callType_new F.called_zip (by decide) ⋯ (F.newCall_zip_2 _ _) (λobj=>F.args_object_init_3 obj _ _) F.entry_zip_new (qk l1 l2 xs ys)
  ⟨hl1,hl2,λh' a1 a2 a3 a4 a5 a6=>⟨⟨_,a1,rfl⟩,h h' a1 a2 a3 a4 a5 a6⟩⟩
def NV{prog w A E s z TI TO f0 f1 Q}(hz:Cc s.heap z TI TO f0 f1)(h:Q (.ref z) s):wpAny (model prog w) A (pyIter<|.ref z) Q E s:=by
 have hT:s.TypeIs (.ref z) "zip":=⟨_,hz,rfl⟩;exact wpAny_pyIter_slot hT F.slot_zip_iter<|zxM F.slot_zip_iter hT F.entry_zip_iter (zxF ⟨.ref z,rfl,"zip",.builtin "zip.__next__",hT,F.slot_zip_next.lookup,h⟩)<|F.args_zip_iter_1 _
def B_(K:zzA)(H:Hp):Bool->Addr->List V->Prop
 |true,a,xs=>Gx K H a xs
 |false,a,xs=>FT K H a xs
def B_.ok{X pins σ H s}(I:Inv X pins σ H s):∀{b:Bool}{a:Addr}{xs:List V},B_ X.K H b a xs->∃its:List Value,zR xs its/\MX b s.heap a its.toArray
 |true,a,xs,h=>by obtain⟨its,rv,p,_⟩:=I.tuple h;exact⟨its,rv,p⟩
 |false,a,xs,h=>by obtain⟨its,rv,p,_⟩:=I.list h;exact⟨its,rv,p.isList⟩
def B_.inj{X pins σ H s}(I:Inv X pins σ H s):∀{b:Bool}{a:Addr}{xs ys:List V},B_ X.K H b a xs->B_ X.K H b a ys->xs=ys
 |true,_,_,_,h,h'=>I.tuple_inj h h'
 |false,_,_,_,h,h'=>I.list_inj h h'
def MX.ex{h l xs}:∀{b:Bool},MX b h l xs->∃o,h.get? l=some o
 |true,⟨o,e,_⟩=>⟨o,e⟩
 |false,⟨o,e,_⟩=>⟨o,e⟩
def UG.ex{h it l}{k:Nat}:∀{b:Bool},UG b h it l k->∃o,h.get? it=some o/\∀v,o.data ≠ .cell v
 |true,⟨o,e,_,d⟩=>⟨o,e,λv z=>by rw[d]at z;cases z⟩
 |false,⟨o,e,_,d⟩=>⟨o,e,λv z=>by rw[d]at z;cases z⟩
def oH(K:zzA)(b1 b2:Bool)(a b:Addr):It:=
 ⟨λi H=>∃xs ys x y,B_ K H b1 a xs/\B_ K H b2 b ys/\xs[i]? = some x/\ys[i]? = some y,
  λi H v H'=>∃T x y,H T=none/\v = .ref T/\H'=upd H T (.tup [x,y])/\(∀xs,B_ K H b1 a xs->xs[i]? = some x)/\∀ys,B_ K H b2 b ys->ys[i]? = some y,
  λi H=>∃xs ys,B_ K H b1 a xs/\B_ K H b2 b ys/\(xs.length<=i\/ys.length<=i)⟩
def uN{P w K tg b1 b2}(a b z TI TO i1 i2)(D:ZipApart z TI TO i1 i2 a b):Turn P w K tg (oH K b1 b2 a b) [z,TI,TO,i1,i2] z
 (λi h=>(∃f0 f1,Cc h z TI TO f0 f1/\Zf f0)/\IsPair h TI (.ref i1) (.ref i2)/\(∃p q,IsPair h TO p q)/\UG b1 h i1 a i/\UG b2 h i2 b i)where
 mem:=by simp
 obj:=λi h st c hc=>by
  obtain⟨⟨f0,f1,hz,_⟩,hTI,⟨p,q,hTO⟩,h1,h2⟩:=st;simp at hc
  rcases hc with rfl|rfl|rfl|rfl|rfl
  . exact⟨_,hz,λv z=>by cases z⟩
  . exact⟨_,hTI,λv z=>by cases z⟩
  . exact⟨_,hTO,λv z=>by cases z⟩
  . exact h1.ex
  . exact h2.ex
 keep:=λi h h' st kk=>by
  obtain⟨⟨f0,f1,hz,hf⟩,hTI,⟨p,q,hTO⟩,h1,h2⟩:=st;exact⟨⟨f0,f1,kk z (by simp) _ hz,hf⟩,kk TI (by simp) _ hTI,⟨p,q,kk TO (by simp) _ hTO⟩,h1.at λo e=>kk i1 (by simp) o e,h2.at λo e=>kk i2 (by simp) o e⟩
 item:=by
  intro X hP hw hK hc i pins s σ H E I hf st hg;subst hP hw hK;obtain⟨xs,ys,x,y,hq,hr,hx,hy⟩:=hg;obtain⟨its,rv,p⟩:=hq.ok I;obtain⟨jts,rw',p'⟩:=hr.ok I;obtain⟨u,hu,ru⟩:=rv.get hx;obtain⟨u',hu',ru'⟩:=rw'.get hy;obtain⟨⟨f0,f1,hz,zf⟩,hTI,⟨pp,qq,hTO⟩,h1,h2⟩:=st;refine Cz D hz zf hTI hTO h1 h2 p p' (by simpa using hu) (by simpa using hu') λh' g0 g1 z' zf' to' i1' i2' pr kk=>⟨_,rfl,uX tg z' zf' λh9 e0 z2 zf2 hs=>?_⟩;have hn:=I.hok.fresh<|zzN _;have fr:∀c o,s.heap.get? c=some o->c≠s.heap.objs.size:=λc o e z=>by
   have:=zxH e;rw[z]at this;exact Nat.lt_irrefl _ this
  have nz:=(fr z _ hz).symm;have k2:∀c o,c ∉ [z,TI,TO,i1,i2]->s.heap.get? c=some o->h9.get? c=some o:=λc o hb q=>by
   simp at hb;exact hs.extBut c o hb.1<|kk c o hb.1 hb.2.2.1 hb.2.2.2.1 hb.2.2.2.2 q
  have hTI2:=hs.extBut TI _ D.TIz<|kk TI _ D.TIz D.TITO D.TIi1 D.TIi2 hTI;obtain⟨p1,q1,to1⟩:=to';refine⟨.ref s.heap.objs.size,upd H s.heap.objs.size<|.tup [x,y],HH (s:=s) (t':=s.toks) I hf k2 (zzN _) ⟨by show 2<=sizeLine;decide,[u,u'],.cons ru<|.cons ru' .nil,⟨_,hs.extBut _ _ nz pr,rfl,_,rfl⟩⟩,rfl,
   ⟨_,x,y,hn,rfl,rfl,λq hq'=>by rw[B_.inj I hq' hq];exact hx,λq hq'=>by rw[B_.inj I hq' hr];exact hy⟩,⟨⟨e0,g1,z2,zf2⟩,hTI2,⟨p1,q1,hs.extBut TO _ D.TOz to1⟩,i1'.ext hs.extBut D.i1z,i2'.ext hs.extBut D.i2z⟩,λc hc=>?_⟩
  have hcT:c≠s.heap.objs.size:=by
   simp at hc
   rcases hc with rfl|rfl|rfl|rfl|rfl
   . exact fr _ _ hz
   . exact fr _ _ hTI
   . exact fr _ _ hTO
   . obtain⟨o,e,_⟩:=h1.ex;exact fr _ _ e
   . obtain⟨o,e,_⟩:=h2.ex;exact fr _ _ e
  rw[zK hcT];exact(hf c hc).1
 done:=by
  intro X hP hw hK hc i pins s σ H E I hf st hg;subst hP hw hK;obtain⟨xs,ys,hq,hr,hx⟩:=hg;obtain⟨its,rv,p⟩:=hq.ok I;obtain⟨jts,rw',p'⟩:=hr.ok I;have hl:=rv.length;have hl':=rw'.length;obtain⟨⟨f0,f1,hz,zf⟩,hTI,⟨pp,qq,hTO⟩,h1,h2⟩:=st;refine Ia (I.ok.hd hc) D hz zf hTI hTO h1 h2 p p' (hx.imp (λh=>by simp;omega) λh=>by simp;omega) λh' eb=>⟨rfl,JG (t':=s.toks) I hf λc o hc q=>?_⟩;simp at hc;exact eb c o hc.1 hc.2.2.1 hc.2.2.2.1 hc.2.2.2.2 q
 self:=λ_ _ _ _ _ st h=>let⟨⟨_,_,hz,_⟩,_⟩:=st;NV hz h
section
variable{X:Cx}{tg:Expr}
def kB(K:zzA)(ta:TA):TI:=λσ H R=>ta σ H λvs H1=>∃a b b1 b2,vs=[.ref a,.ref b]/\(∃xs,B_ K H1 b1 a xs)/\(∃ys,B_ K H1 b2 b ys)/\R (oH K b1 b2 a b) H1
def DG{l l' ta p pos}(hg:Gl X "zip")(hm:X.mg "zip"=none)(ha:PA X [l,l'] ta)(hs:starEach [l,l'] X.env=[(false,eval l X.env),(false,eval l' X.env)])(hs2:starEach [l'] X.env=[(false,eval l' X.env)]):
 PI X tg (.Call (.Name "zip" p) [l,l'] [] pos) (kB X.K ta):=by
 intro pins s σ H R I h;refine Call_ (RG I hg hm boot_zip<|PyProof.Rows.callWith_type1 (vK (ha pos pins s σ H _ I h) λus s1 ⟨vs,H1,I1,r1,q1⟩=>?_) (by rw[hs,hs2])<|by rw[hs2];rfl);obtain⟨a,b,b1,b2,rfl,⟨xs,hq⟩,⟨ys,hr⟩,q⟩:=q1;cases r1 with
 |cons r rr=>
  cases rr with
  |cons r' rr=>
   cases rr;cases r;cases r';obtain⟨its,rv,pl⟩:=hq.ok I1;obtain⟨jts,rw',pl'⟩:=hr.ok I1;obtain⟨o1,ho1⟩:=pl.ex;obtain⟨o2,ho2⟩:=pl'.ex;refine uR pl pl' λh' hZ hTI hTO hi1 hi2 hk=>?_;refine NV hZ ⟨s1.heap.objs.size+4,[s1.heap.objs.size+4,s1.heap.objs.size+2,s1.heap.objs.size+3,s1.heap.objs.size,s1.heap.objs.size+1],_,_,H1,rfl,I1.kept (t':=s1.toks) hk,uN a b _ _ _ _ _<|uo _ _ _ (zxH ho1)<|zxH ho2,⟨⟨_,_,hZ,.inl rfl⟩,hTI,⟨_,_,hTO⟩,hi1,hi2⟩,λc hc=>?_,q⟩;have hb':s1.heap.objs.size<=c:=by
    simp at hc
    rcases hc with rfl|rfl|rfl|rfl|rfl<;>first|exact zzN _|exact Nat.le_add_right _ _
   exact I1.fpOk hb'<|I1.hok.fresh hb'
end
section
variable{X:Cx}{kd:KD}{tg e:Expr}{fa:EF}
def nC{K F B ad H a b b1 b2 vs ws st ds es}(hs:∀(ad3:Ad) (H3:Hp),Grow (Gw [] ad) H (Gw [] ad3) H3->B_ K H3 b1 a vs)(hs':∀(ad3:Ad) (H3:Hp),Grow (Gw [] ad) H (Gw [] ad3) H3->B_ K H3 b2 b ws)
 (r:RpL K kd (Lv F B (Gw [] ad) st) H vs ds) (r':RpL K kd (Lv F B (Gw [] ad) st) H ws es):ItOk K kd F B ad H (oH K b1 b2 a b) (EI st ds es):=⟨λad3 H3 g3 tr i=>by
 have hr3:=hs ad3 H3 g3;have hr4:=hs' ad3 H3 g3;have rl3:=RpL.grow g3 r;have rl4:=RpL.grow g3 r';have hlen:=EN st ds es;have l1:=r.length;have l2:=r'.length;refine⟨λhi=>?_,λhi=>⟨_,_,hr3,hr4,⋯⟩,λv H4 hy=>?_⟩
 . obtain⟨u,hu,_⟩:=r.get<|zzE (show i<ds.length by omega);obtain⟨u',hu',_⟩:=r'.get<|zzE (show i<es.length by omega);exact⟨_,_,u,u',hr3,hr4,hu,hu'⟩
 . obtain⟨T,x,y,hn,rfl,rfl,hv,hv'⟩:=hy;refine⟨ZX hn,λq hq=>?_⟩;obtain⟨d,e,hd,he,rfl⟩:=FZ hq;obtain⟨u,hu,ru⟩:=rl3.get hd;obtain⟨u',hu',ru'⟩:=rl4.get he;have:=hv _ hr3;rw[hu]at this;cases this;have:=hv' _ hr4;rw[hu']at this;cases this;exact .tup (λz=>tr _ _ z hn) (.inl yd)<|.cons (Rp.grow ⟨λb o q _=>ZX hn b o q,λb z=>.inl z⟩ ru)<|.cons (Rp.grow ⟨λb o q _=>ZX hn b o q,λb z=>.inl z⟩ ru') .nil⟩
def pQ{K F H a b b1 b2 vs ws st ds es}(ft:∀a,F a->H a≠none)(hs:∀H3:Hp,(∀b u,H b=some u->H3 b=some u)->B_ K H3 b1 a vs)(hs':∀H3:Hp,(∀b u,H b=some u->H3 b=some u)->B_ K H3 b2 b ws)
 (r:RpL K kd (λa=>st=true/\F a) H vs ds) (r':RpL K kd (λa=>st=true/\F a) H ws es):ItC K kd F H (oH K b1 b2 a b) (EI st ds es):=⟨λH3 T k hT i=>by
 have hr3:=hs H3 k;have hr4:=hs' H3 k;have hlen:=EN st ds es;have l1:=r.length;have l2:=r'.length;refine⟨λhi=>?_,λhi=>⟨_,_,hr3,hr4,⋯⟩,λv H4 hy=>?_⟩
 . obtain⟨u,hu,_⟩:=r.get<|zzE (show i<ds.length by omega);obtain⟨u',hu',_⟩:=r'.get<|zzE (show i<es.length by omega);exact⟨_,_,u,u',hr3,hr4,hu,hu'⟩
 . obtain⟨A,x,y,hn,rfl,rfl,hv,hv'⟩:=hy;have hnH:H A=none:=by
    cases e:H A with
    |none=>rfl
    |some u=>rw[k A u e]at hn;cases hn
   refine⟨ZX hn,λq hq=>?_⟩;obtain⟨d,e,hd,he,rfl⟩:=FZ hq;obtain⟨u,hu,ru⟩:=r.get hd;obtain⟨u',hu',ru'⟩:=r'.get he;have:=hv _ hr3;rw[hu]at this;cases this;have:=hv' _ hr4;rw[hu']at this;cases this;have up:∀{v:V}{d:D},Rp K kd (λa=>st=true/\F a) H v d->Rp K kd (λa=>st=true/\(F a\/T a)) (upd H3 A<|.tup [x,y]) v d:=λrp=>
    (rp.since (λb o q=>ZX hn b o<|k b o q) λa z=>(hT a z).1).less λa z=>z.2.elim (λy=>.inl ⟨z.1,y⟩) .inr
   exact .tup (λz=>z.2.elim (λy=>ft A y hnH) λy=>(hT A y).2 hn) (.inl yd)<|.cons (up ru)<|.cons (up ru') .nil⟩
def kS:RV->Option (Bool×Bool×List D)
 | .ow (.lf s (.lst l))=>some (s,false,l)
 | .ow (.lf s (.tup l))=>some (s,true,l)
 |_=>none
def Yn(fr:AF):IF:=λas=>(fr as).bind λp=>(iB p.1).bind λo=>(kS o.1).bind λa=>(kS o.2).bind λb=>some (EI (a.1&&b.1) a.2.2 b.2.2,p.2)
def MN{K F B ad σ H v r x}(e:kS r=some x)(rv:wU K kd F B [] ad σ H v r):∃a vs,v = .ref a/\B_ K H x.2.1 a vs/\(∀H3:Hp,(∀b u,¬Gw [] ad b->H b=some u->H3 b=some u)->B_ K H3 x.2.1 a vs)/\RpL K kd (Lv F B (Gw [] ad) x.1) H vs x.2.2:=by
 cases r with
 |bo i=>cases e
 |ow o=>
  cases o with
  |nd k os=>cases e
  |lf s d=>
   cases rv with
   |lf rp=>
    cases rp with
    |lst hn hr rl=>
     cases e;refine⟨_,_,rfl,.inl hr,λH3 k=>?_,rl⟩
     rcases hr with hr|⟨o,hr⟩
     . exact .inl<|.inl<|k _ _ (λz=>hn<|.inr z) hr
     . exact .inl (.inr ⟨o,k _ _ (λz=>hn<|.inr z) hr⟩)
    |lstK a b c rl=>cases e;exact⟨_,_,rfl,.inr ⟨_,_,_,a,rfl,rfl,rfl,b,c⟩,λH3 k=>.inr ⟨_,_,_,a,rfl,rfl,rfl,b,c⟩,rl⟩
    |tup hn hr rl=>
     cases e;refine⟨_,_,rfl,.inl hr,λH3 k=>?_,rl⟩
     rcases hr with hr|⟨o,hr⟩
     . exact .inl<|.inl<|k _ _ (λz=>hn<|.inr z) hr
     . exact .inl (.inr ⟨o,k _ _ (λz=>hn<|.inr z) hr⟩)
    |tupK a b c e' f rl=>cases e;exact⟨_,_,rfl,.inr ⟨_,_,_,a,b,c,e',f⟩,λH3 k=>.inr ⟨_,_,_,a,b,c,e',f⟩,rl⟩
    |_=>cases e
def pX{F B G p q}:∀a,Lv F B G (p&&q) a->Lv F B G p a:=GD λz=>(Bool.and_eq_true_iff.mp z).1
def nA{F B G p q}:∀a,Lv F B G (p&&q) a->Lv F B G q a:=GD λz=>(Bool.and_eq_true_iff.mp z).2
def nu{l l' fr p pos}(hg:Gl X "zip")(hm:X.mg "zip"=none)(ha:AA X kd [l,l'] fr)(hs:starEach [l,l'] X.env=[(false,eval l X.env),(false,eval l' X.env)])(hs2:starEach [l'] X.env=[(false,eval l' X.env)]):
 AI X kd tg (.Call (.Name "zip" p) [l,l'] [] pos) (Yn fr):=by
 with_unfolding_all (
 intro pins s σ H R I h;obtain⟨F,B,ad,as,ds,as',Rl,e',q⟩:=h;obtain⟨⟨rs,as1⟩,h1,e'⟩:=bS_<|e';obtain⟨_,e1,e'⟩:=bS_ e';obtain⟨x1,e2,e'⟩:=bS_ e';obtain⟨x2,e3,e'⟩:=bS_ e';cases Dt e1;cases e';refine DG hg hm ha hs hs2 pins s σ H R I ⟨F,B,ad,as,_,as1,Rl,h1,λvs ad1 H1 R1 rv1 g1=>?_⟩;cases rv1 with
 |cons r1 rr=>
  cases rr with
  |cons r2 rr=>
   cases rr;obtain⟨a,vs,rfl,sa,ka,ra⟩:=MN e2 r1;obtain⟨b,ws,rfl,sb,kb,rb⟩:=MN e3 r2;exact⟨a,b,_,_,rfl,⟨_,sa⟩,⟨_,sb⟩,q _ ad1 H1 R1 g1<|nC (λad3 H3 g3=>ka H3 λb u n h=>g3.keep b u h n) (λad3 H3 g3=>kb H3 λb u n h=>g3.keep b u h n) (ra.less pX)<|rb.less nA⟩)
def o8{l l' fr p pos}(hg:Gl X "zip")(hm:X.mg "zip"=none)(ha:AA X kd [l,l'] fr)(hs:starEach [l,l'] X.env=[(false,eval l X.env),(false,eval l' X.env)])(hs2:starEach [l'] X.env=[(false,eval l' X.env)]):
 oG X kd tg (.Call (.Name "zip" p) [l,l'] [] pos) (Yn fr):=by
 with_unfolding_all (
 intro pins s σ H R I h;obtain⟨F,B,ad,as,ds,as',Rl,e',q⟩:=h;obtain⟨⟨rs,as1⟩,h1,e'⟩:=bS_<|e';obtain⟨_,e1,e'⟩:=bS_ e';obtain⟨x1,e2,e'⟩:=bS_ e';obtain⟨x2,e3,e'⟩:=bS_ e';cases Dt e1;cases e';refine DG hg hm ha hs hs2 pins s σ H R I ⟨F,B,ad,as,_,as1,Rl,h1,λvs ad1 H1 R1 rv1 g1=>?_⟩;cases rv1 with
 |cons r1 rr=>
  cases rr with
  |cons r2 rr=>
   cases rr;obtain⟨a,vs,rfl,sa,ka,ra⟩:=MN e2 r1;obtain⟨b,ws,rfl,sb,kb,rb⟩:=MN e3 r2;refine⟨a,b,_,_,rfl,⟨_,sa⟩,⟨_,sb⟩,q _ ad1 H1 R1 g1<|pQ (R1.trk true) (λH3 k=>ka H3 λb u n h=>k b u h) (λH3 k=>kb H3 λb u n h=>k b u h) (ra.less λa z=>?_)<|rb.less λa z=>?_⟩
   . have z1:=(Bool.and_eq_true_iff.mp z.1).1;rw[z1];exact z.2
   . have z1:=(Bool.and_eq_true_iff.mp z.1).2;rw[z1];exact z.2)
end
def j6:List D->Option R0:=gk λx=>(hV x).bind λds=>(WR ds).bind λns=>some<|.im<|.int ns.sum
theorem Fb:∀{us:List Value}{ns:List Int},IntsAre us ns->∃ps:List (Int×Tok),us=ps.map (λp=>Value.int p.1 p.2)/\ps.map (·.1)=ns
 |_,_,.nil=>⟨[],rfl,rfl⟩
 |_,_,.cons a t h=>by
  obtain⟨b,rfl,rfl⟩:=Fb h;exact⟨(a,t)::b,rfl,rfl⟩
theorem CZ{ps:List (Int×Tok)}:∀k,k<=ps.length->preSum (numAt ps.toArray) k=((ps.take k).map (·.1)).sum
 |0,_=>⋯
 |k+1,h=>by
  have a:=CZ (ps:=ps) k ⋯;rw[List.take_add_one,zyM,List.sum_append];show preSum _ k+numAt ps.toArray k=_
  congr 1
  show((ps.toArray[k]?).map _).getD 0=_;rw[List.getElem?_toArray,zzE ⋯];simp
section
variable{X:Cx}{kd:KD}
def uu(hc:X.calm=true):UI X kd (.builtin "sum") j6:=by
 intro f s σ H E F Q I r h;obtain⟨O,G,J,K,i,a,q⟩:=h;obtain⟨x,d,rfl,j,a⟩:=HU i a;obtain⟨l,k,b⟩:=bS_<|a;cases OW k
 . obtain⟨m,n,c⟩:=bS_ b;cases c
   . cases j with
     |lst o p=>
      obtain⟨u,rfl,t⟩:=vals1 r;cases t;obtain⟨e,v,w,L⟩:=I.list o.sq;obtain⟨g,y,z⟩:=Fb<|pN p v n;refine sum_intListG (I.ok.hd hc) (xs:=g.toArray) ?_ λM A B C=>?_
      . have D:intItems g.toArray=e.toArray:=by rw[y];simp[intItems]
        rw[D];exact w.isList
      . refine⟨.int m.sum,H,I.kept (t':=A) C,⟨B, ?_⟩,yj q<|.int _⟩;rw[zzH,CZ _<|zzN _,List.take_length,z]
end
section
variable{K:zzA}{kd:KD}{F B G:Addr->Prop}{H:Hp}
def o4{n:Nat}{st st'}(rp:Rp K kd (Lv F B G st') H w d')(r:Xy K kd F B G H v (.nd .ls inner) fp)(hn:fp.Nodup)(hG:∀a ∈ fp,G a)(e:inner[n]? = some (.lf st d)):
 ∃p ivs,v = .ref p/\p ∈ fp/\H p=some (.lst ivs)/\n<ivs.length/\Xy K kd F B G (upd H p<|.lst<|ivs.set n w) v (.nd .ls<|inner.set n<|.lf st' d') fp:=by
 cases r with
 |ls hp ir=>
  rename_i p ivs ifp;have hpfp:=(zzW.mp hn).1;have gp:=hG p zzF;exact⟨p,ivs,rfl,zzF ..,hp,by rw[AM ir];exact(zzG.mp e).1,.ls yd<|SV (Rp.grow (Ey gp) rp) inner (ZN.grow (Ey gp) (λx m w h=>by rwa [zK λe=>hpfp<|by subst e;exact m]) ir) e⟩
end
def CC(i:Nat)(f:p8)(fv:EF):SF:=λas=>(fv as).bind λp=>(L3 p.2 p.1).bind λx=>(f x.2).bind λk=>if 0<=k then(nU sW x.2 i).bind λos=>(atO J4 os k.toNat).bind λ_=>some (.nx<|x.2.set i<|some<|.nd .ls<|os.set k.toNat<|.lf x.1.1 x.1.2)else none
section
variable{X:Cx}{kd:KD}{f:p8}{fv:EF}{e1 ev:Expr}{i:Nat}
def o5(ho:PE X (.Name x p) (U0 i))(h1:AK X kd e1 f)(hv:AE X kd ev fv)
 (ha:∀v,assign (.Subscript (.Name x p) e1 tpos) X.env v=(do
  let ov <-holding [v] (eval (.Name x p) X.env);let iv <-holding [v,ov] (eval e1 X.env)
  standAt tpos
  holding [v,ov,iv] (setItem ov iv v)
  release [v,ov,iv] []))
 (hs:swapsWithSole [.Subscript (.Name x p) e1 tpos] ev pos.line X.env=pure false) (hw:swappedStores [.Subscript (.Name x p) e1 tpos] ev X.env=pure none)
 (hm:(assignEach [.Subscript (.Name x p) e1 tpos] X.env).map (·.2)=[assign (.Subscript (.Name x p) e1 tpos) X.env]):
 Jl X kd (.Assign [.Subscript (.Name x p) e1 tpos] ev pos) (CC i f fv):=by
 with_unfolding_all exact(vE (rn hv (jw ho h1 set_list ha) hs hw hm) λD σ H h=>by
  obtain⟨F,B,m,as,o,R,e,q⟩:=h;obtain⟨⟨n,b⟩,r,e⟩:=bS_<|e;obtain⟨⟨_,c⟩,t,e⟩:=bS_ e;obtain⟨k,w,e⟩:=bS_ e;obtain⟨y,e⟩:=ite_some' e;obtain⟨Y,z,e⟩:=bS_ e;obtain⟨d,A,e⟩:=bS_ e;have C:=dk z;obtain⟨Z,E⟩:=di A;cases e;refine⟨F,B,m,as,n,b,R,r,λv T1 G H1 I g J=>?_⟩;obtain⟨a,R2,K,L⟩:=Qi I g t;obtain⟨u,sv,M,N,O,P⟩:=R2.slotU C;obtain⟨p,j,rfl,Q,S,T,l⟩:=o4 K M N O E;obtain⟨U,V⟩:=P p _ _ Q l;exact⟨_,sv,F,B,a,c,k,R2,w,p,j,k,k.toNat,rfl,rfl,S,ng y T,q σ a _ U<|(J.trans<|Grow.less L).trans V⟩)
end
def pb(h:n<=1000000):n<=sizeLine:=zzO h (by decide)
section
variable{as:AS}{f fo a b:EF}{fr:AF}{s t:Bool}{x y z d:D}{c m:Str}{ns cs:List Str}{ds:List D}{tbl:List (Str×Fn)}{g:Fn}{o:O}
def M6(h:WD fo as s (.ob c ns ds))(hc:c ∈ cs)(hl:JR ns ds n=some d):WD (f1 fo<|zJ cs n) as (zu d||s) d:=by
 unfold WD f1 at *;rw[h];show(if c ∈ cs then(JR ns ds n).bind λd=>some _ else none:Option R0).bind _=_;rw[if_pos hc,hl];show(if _=true then _ else _:Option RV).bind _=_;rw[if_pos ⋯];rfl
def MQ(ho:WD fo as s (.ob c ns ds))(hm:m ∉ ns)(ht:Nx tbl c=some g)(hr:WA fr as rs)(hg:g ((s,.ob c ns ds)::rs.map λx=>(zu x.2||x.1,x.2))=some o):yn tbl m fo fr as=some (.ow o,as):=by
 unfold yn;rw[ho];show(if m ∈ ns then none else some c:Option Str).bind _=_;rw[if_neg hm];show(Nx tbl c).bind _=_;rw[ht];rw[hr];show((Xh as _).bind _:Option _).bind _=_;rw[We];show(g ((s,.ob c ns ds)::_)).bind _=_;rw[hg];rfl
def m3(ho:WD fo as true (.ob c ns ds))(hm:m ∉ ns)(ht:Nx tbl c=some g)(hg:RE (g [(true,.ob c ns ds)]) z):WE (yn tbl m fo aN) as z:=by
 obtain⟨o,a,b,d⟩:=hg;exact⟨o,MQ ho hm ht zv a,b,d⟩
def Wk(ho:WD fo as true (.ob c ns ds))(hm:m ∉ ns)(ht:Nx tbl c=some g)(ha:WE a as x)(hg:RE (g [(true,.ob c ns ds),(true,x)]) z):WE (yn tbl m fo<|aC a aN) as z:=by
 obtain⟨o,b,d,e⟩:=hg;exact⟨o,MQ ho hm ht (xu ha zv) (by show g [_,(zu x||true,x)]=_;rwa [zyD]),d,e⟩
def NF(ho:WD fo as true (.ob c ns ds))(hm:m ∉ ns)(ht:Nx tbl c=some g)(ha:WE a as x)(hb:WE b as y)(hg:RE (g [(true,.ob c ns ds),(true,x),(true,y)]) z):WE (yn tbl m fo<|aC a<|aC b aN) as z:=by
 obtain⟨o,d,e,f⟩:=hg;exact⟨o,MQ ho hm ht (xu ha<|xu hb zv) (by show g [_,(zu x||true,x),(zu y||true,y)]=_;rwa [zyD,zyD]),e,f⟩
def DE(ho:WD fo as true (.ob c ns ds))(hm:m ∉ ns)(ht:Nx tbl c=some g)(ha:WE a as x)(hb:WE b as y)(he:WE e as w)(hg:RE (g [(true,.ob c ns ds),(true,x),(true,y),(true,w)]) z):WE (yn tbl m fo<|aC a<|aC b<|aC e aN) as z:=by
 obtain⟨o,d,f,h⟩:=hg;exact⟨o,MQ ho hm ht (xu ha<|xu hb<|xu he zv) (by show g [_,(zu x||true,x),(zu y||true,y),(zu w||true,w)]=_;rwa [zyD,zyD,zyD]),f,h⟩
inductive SqD:D->List D->Prop
 |l (ds:List D):SqD (.lst ds) ds
 |t (ds:List D):SqD (.tup ds) ds
theorem CS(st):∀(xs ys:List D),EI st xs ys=(xs.zip ys).map λq=>(st,.tup [q.1,q.2])
 | [],_=>rfl
 |_::_,[]=>rfl
 |x::r,y::t=>congrArg _<|CS st r t
def Wo(ha:WE a as x)(hb:WE b as y)(hx:SqD x xs)(hy:SqD y ys):Yn (aC a<|aC b aN) as=some ((xs.zip ys).map λq=>(true,.tup [q.1,q.2]),as):=by
 have h:=xu ha<|xu hb zv;unfold Yn;rw[h,<-CS];cases hx<;>cases hy<;>rfl
def Gp(hi:i<as.length)(hj:j<as.length):gT 2 (Wz (gN i)<|Wz (gN j) MV) (true,.tup [x,y]) as=some ((as.set i<|some<|.lf true x).set j<|some<|.lf true y):=by
 show(if _ then some (as.set i<|some<|.lf (zu x||true) x)else none:Option AS).bind _=_;rw[if_pos hi,zyD];show(if j<(as.set i _).length then some ((as.set i _).set j<|some<|.lf (zu y||true) y)else none:Option AS).bind _=_;rw[if_pos (by rwa [zzU]),zyD];rfl
theorem Sl:∀(l:List α),(∀q ∈ l,∃as1,gg (it q) as0=some as1/\WE fe as1 (h q))->∃os,XD gg YD fe as0 (l.map it)=some os/\O.strs os=true/\O.toDs os=l.map h
 | [],_=>⟨[],rfl,rfl,rfl⟩
 |q::l,H=>by
  obtain⟨a,d,e,f⟩:=Sl l λp m=>H p<|zzD _ m;obtain⟨b,g,o,i,c,j⟩:=H q zzF;refine⟨o::a, ?_,by show(o.str&&O.strs a)=_;rw[c,e];rfl,by show o.toD::O.toDs a=_;rw[j,f];rfl⟩;show XD gg YD fe as0 (it q::l.map it)=_;unfold XD;rw[g];show((fe b).bind _)=_;rw[i];show(if o.str=true then _ else _)=_;rw[if_pos c,d];rfl
theorem PB:∀(l:List α),(∀q ∈ l,∃as1,gg (it q) as0=some as1/\WT tt as1 (p q)/\(p q=true->WE fe as1 (h q)))->∃os,XD gg tt fe as0 (l.map it)=some os/\O.strs os=true/\O.toDs os=(l.filter p).map h
 | [],_=>⟨[],rfl,rfl,rfl⟩
 |q::l,H=>by
  obtain⟨c,d,e,f⟩:=PB l λp m=>H p<|zzD _ m;obtain⟨a,g,b,j⟩:=H q zzF;cases hp:p q with
  |false=>
   rw[hp]at b;refine⟨c,uO g b d,e, ?_⟩
   rwa [List.filter_cons_of_neg<|by simp[hp]]
  |true=>
   rw[hp]at b;obtain⟨o,k,i,n⟩:=j hp;refine⟨o::c, ?_,by show(o.str&&O.strs c)=_;rw[i,e];rfl, ?_⟩
   . unfold WT at b;show XD gg tt fe as0 (it q::l.map it)=_;unfold XD;rw[g];show(tt a).bind _=_;rw[b];show((fe a).bind _)=_;rw[k];show(if o.str=true then _ else _)=_;rw[if_pos i,d];rfl
   . rw[List.filter_cons_of_pos hp];show o.toD::O.toDs c=_;rw[n,f];rfl
def Iv{os}(h1:fi as=some (xs,as))(hl:xs.length<=1000000)(h2:XD gg tt fe (Oi cap as) xs=some os)(hs:O.strs os=true)(e:O.toDs os=zs):WE (yK fi cap gg tt fe) as (.lst zs):=by
 refine⟨.nd .ls os, ?_,hs,congrArg D.lst e⟩;unfold yK;rw[h1];show(if xs.length<=sizeLine then _ else _)=_;rw[if_pos<|pb hl,h2];rfl
def ZF(l:List α)(h1:fi as=some (l.map it,as))(hl:l.length<=1000000)(H:∀q ∈ l,∃as1,gg (it q) (Oi cap as)=some as1/\WE fe as1 (h q)):WE (yK fi cap gg YD fe) as (.lst<|l.map h):=by
 obtain⟨d,a,b,c⟩:=Sl l H;exact Iv h1 (by rwa [zzB]) a b c
def t6(l:List α)(h1:fi as=some (l.map it,as))(hl:l.length<=1000000)(H:∀q ∈ l,∃as1,gg (it q) (Oi cap as)=some as1/\WT tt as1 (p q)/\(p q=true->WE fe as1 (h q))):WE (yK fi cap gg tt fe) as (.lst<|(l.filter p).map h):=by
 obtain⟨d,a,b,c⟩:=PB l H;exact Iv h1 (by rwa [zzB]) a b c
def Rt(r:Option Out)(x:D):Prop:=∃o,r=some (.rt o)/\o.str=true/\o.toD=x
def zG{n m:Nat}{c ds}(hl:ds.length=m)(h:Rt (c<|VR n ds) x):RE (wY n m c ds) x:=by
 obtain⟨o,a,b,d⟩:=h;exact⟨o,vJ hl a,b,d⟩
def zj{f g}(h1:f as=some (.nx as1))(h2:Rt (g as1) x):Rt (zx f g as) x:=by
 obtain⟨o,e,h⟩:=h2;exact⟨o,zL h1 e,h⟩
def yi{f g}(h1:Rt (f as) x):Rt (zx f g as) x:=by
 obtain⟨o,e,h⟩:=h1;exact⟨o,G_ e,h⟩
def yJ{c f g}(h:WT c as true)(h1:Rt (f as) x):Rt (xD c f g as) x:=by
 obtain⟨o,e,a⟩:=h1;exact⟨o,WY h e,a⟩
def zp(h:WE f as x):Rt (zz f as) x:=by
 obtain⟨o,b,a,c⟩:=h;refine⟨o, ?_,a,c⟩;unfold zz;rw[b];show((if o.str=true then some o else none).bind _)=_;rw[if_pos a];rfl
def U1{c}(h:WT c as true)(ha:WE a as x):WE (Jn c a b) as x:=by
 obtain⟨o,d,e,f⟩:=ha;exact⟨o,by unfold Jn;rw[h];exact d,e,f⟩
def Pm{c}(h:WT c as false)(hb:WE b as x):WE (Jn c a b) as x:=by
 obtain⟨o,d,e,f⟩:=hb;exact⟨o,by unfold Jn;rw[h];exact d,e,f⟩
def vF{g}(ha:WE a as x)(hg:g [x]=some (.im z)):WE (fP (aC a aN) g) as z:=WD.e<|Ai ha hg
def qj{os}(h:WO fd as os)(hl:os.length<=1000000)(hs:O.strs os=true)(e:O.toDs os=zs):WE (Ze fd) as (.tup zs):=by
 refine⟨Np os,kj h<|pb hl, ?_, ?_⟩
 . unfold Np;split
   . exact hs
   . exact hs
 . subst e;unfold Np;split
   . rfl
   . rfl
def ko{os}(h:WE a as x)(hr:WO fd as os):∃o,o.str=true/\o.toD=x/\WO (dC a fd) as (o::os):=by
 obtain⟨o,b,c,d⟩:=h;exact⟨o,c,d,u9 b hr⟩
def pG(ha:WE a as x):WE (Ze<|dC a dN) as (.tup [x]):=by
 obtain⟨o,b,rfl,c⟩:=ko ha xp;exact qj c ⋯ (by show(o.str&&true)=_;rw[b];rfl) rfl
def ZU(ha:WE a as x)(hb:WE b as y):WE (Ze<|dC a<|dC b dN) as (.tup [x,y]):=by
 obtain⟨p,c,rfl,d⟩:=ko hb xp;obtain⟨o,e,rfl,f⟩:=ko ha d;exact qj f ⋯ (by show(o.str&&(p.str&&true))=_;rw[e,c];rfl) rfl
def wG{g}(ha:WE a as x)(hb:WE b as y)(hg:g x y=some (.im z)):WE (f2 a b g) as z:=WD.e<|j3 ha hb hg
end
abbrev Pt:=Option Int
def pD:Pt->D
 |none=>.non
 |some i=>.int i
abbrev vD(v:List Pt):D:=.tup<|v.map pD
abbrev dD(R:List (List Pt))(m:List Pt):D:=.tup [.tup<|R.map vD,vD m]
def op(k:Nat)(a b:Int):Int:=if k=1 then(if a<b then b else a)else(if b<a then b else a)
def Cy(k:Nat)(a b c):op k (op k a b) c=op k a (op k b c):=by
 unfold op
 by_cases h:k=1
 . simp only[if_pos h];repeat' split
   all_goals omega
 . simp only[if_neg h];repeat' split
   all_goals omega
def qV(k:Nat)(a b):op k a b=op k b a:=by
 unfold op
 by_cases h:k=1
 . simp only[if_pos h];split<;>split<;>omega
 . simp only[if_neg h];split<;>split<;>omega
def pe(k:Nat)(a):op k a a=a:=by
 unfold op
 by_cases h:k=1
 . simp only[if_pos h];split<;>omega
 . simp only[if_neg h];split<;>omega
def Ab(k:Nat)(a b c):op k a b+c=op k (a+c) (b+c):=by
 unfold op
 by_cases h:k=1
 . simp;split<;>split<;>omega
 . simp;split<;>split<;>omega
def UR(k:Nat):List Int->Pt
 | []=>none
 |x::r=>some<|r.foldl (op k) x
def jn(k:Nat)(a b:Pt):Pt:=if k=0 then some (a.getD 0+b.getD 0)else match a,b with
 |none,b=>b
 |some x,none=>some x
 |some x,some y=>some<|op k x y
def tm(k:Nat)(a b:Pt):Pt:=if k=0 then some (a.getD 0*b.getD 0)else match a,b with
 |some x,some y=>some (x+y)
 |_,_=>none
def ze(k:Nat):Pt:=if k=0 then some 0 else none
def sm(k:Nat)(l:List Pt):Pt:=l.foldr (jn k)<|ze k
def ac(k:Nat)(r v:List Pt):Pt:=sm k<|List.zipWith (tm k) r v
def of(k:Nat)(n:Int)(p:Pt):Pt:=if k=0 then some (p.getD 0*n)else p
def Vl(k:Nat)(p:Pt):Prop:=k=0->p≠none
def fI:jn 0 a b=some (a.getD 0+b.getD 0):=rfl
def qI(h:k≠0):jn k a b=match a,b with
 |none,b=>b
 |some x,none=>some x
 |some x,some y=>some (op k x y):=if_neg h
def WC(k:Nat)(a b c):jn k (jn k a b) c=jn k a (jn k b c):=by
 by_cases h:k=0
 . subst h;simp only[fI,Option.getD_some,Int.add_assoc]
 . simp only[qI h];cases a<;>cases b<;>cases c<;>simp only[Cy]
def Oa(k:Nat)(a b):jn k a b=jn k b a:=by
 by_cases h:k=0
 . subst h;simp only[fI,Int.add_comm]
 . simp only[qI h];cases a<;>cases b<;>first|rfl|exact congrArg some (qV _ _ _)
def Fd(h:Vl k a):jn k a (ze k)=a:=by
 by_cases e:k=0
 . subst e;cases a with
   |none=>exact absurd rfl (h rfl)
   |some x=>show some (x+0)=_;rw[Int.add_zero]
 . rw[qI e];unfold ze;rw[if_neg e];cases a<;>rfl
def iM(h:Vl k a):jn k (ze k) a=a:=by rw[Oa,Fd h]
def DB(k:Nat)(a b):Vl k (jn k a b):=λe=>by subst e;rw[fI];simp
def Iy(k:Nat):Vl k (ze k):=λe=>by subst e;simp[ze]
def hW:Vl k (of k n p):=λe=>by subst e;simp[of]
def CY(k:Nat):∀l:List Pt,Vl k<|sm k l
 | []=>Iy k
 |_::_=>DB k _ _
def AV(k:Nat)(p)(l):sm k (p::l)=jn k p (sm k l):=rfl
theorem Jf(k:Nat):∀(r:List Int) (a y:Int),r.foldl (op k) (op k a y)=op k a (r.foldl (op k) y)
 | [],_,_=>rfl
 |x::r,a,y=>by
  show r.foldl _ _=op k a (r.foldl _ _);rw[Cy,Jf k r]
def ui(h:k≠0)(x)(l):UR k (x::l)=jn k (some x) (UR k l):=by
 rw[qI h];cases l with
 |nil=>rfl
 |cons y r=>
  show some (r.foldl _ _)=some _;rw[Jf]
theorem PJ(h:k≠0):∀l:List Pt,UR k (l.filterMap id)=sm k l
 | []=>by show none=ze k;unfold ze;rw[if_neg h]
 |none::l=>by
  show UR k (l.filterMap id)=jn k none (sm k l);rw[PJ h l,qI h]
 |some x::l=>by
  show UR k (x::l.filterMap id)=jn k _ (sm k l);rw[ui h,PJ h l]
def Dg(h:l≠[]):B9 [.lst<|l.map .int]=some (.im<|pD<|UR 1 l):=by
 cases l with
 |nil=>exact absurd rfl h
 |cons x r=>
  have e:∀l:List Int,WR (l.map D.int)=some l:=λl=>by
   induction l with
   |nil=>rfl
   |cons y t a=>show(WR _).bind _=_;rw[a];rfl
  show(WR _).bind _=_;rw[e];rfl
theorem JQ:∀l:List Int,WR (l.map D.int)=some l
 | []=>rfl
 |y::t=>by show(WR _).bind _=_;rw[JQ t];rfl
def Dv(hk:k≠1)(h:l≠[]):Ij [.lst<|l.map .int]=some (.im<|pD<|UR k l):=by
 cases l with
 |nil=>exact absurd rfl h
 |cons x r=>
  show(WR _).bind _=_;rw[JQ];show some (R0.im<|.int<|r.foldl _ x)=some (R0.im<|.int _);have:op k=λa b=>if b<a then b else a:=by funext a b;unfold op;rw[if_neg hk]
  rw[this]
abbrev cls(k:Nat):Str:=if k=0 then "Sums" else if k=1 then "Mosts" else "Leasts"
abbrev MZ(k w:Nat):D:=.ob (cls k) ["width"] [.int w]
def Ht(h:c≠n):Nx ((n,g)::r) c=Nx r c:=if_neg h
def FN:Nx ((c,g)::r) c=some g:=if_pos rfl
def uf(hk:k<=2):Nx [("Sums",a),("Mosts",b),("Leasts",c)] (cls k)=some (if k=0 then a else if k=1 then b else c):=by
 have:k=0\/k=1\/k=2:=⋯
 rcases this with rfl|rfl|rfl
 . exact FN
 . rw[Ht<|by decide +kernel];exact FN
 . rw[Ht (by decide +kernel),Ht<|by decide +kernel];exact FN
def dY(h0:k≠0)(hk:k<=2):Nx [("Mosts",b),("Leasts",c)] (cls k)=some (if k=1 then b else c):=by
 have:k=1\/k=2:=⋯
 rcases this with rfl|rfl
 . exact FN
 . rw[Ht<|by decide +kernel];exact FN
def oC:cls k ∈ (["Sums","Mosts","Leasts"]:List Str):=by
 show(if k=0 then _ else if k=1 then _ else _) ∈ _
 split
 . simp
 . split<;>simp
def M3(p):zu (pD p)=true:=by cases p<;>rfl
def Z4(ha:WD a as s (pD p)):WD (f2 a (fC .non)<|zo .IsNot) as true (.bl p.isSome):=zY ha zb (by cases p<;>rfl) rfl
def Pc(ha:WD a as s (pD p)):WD (f2 a (fC .non)<|zo .Is) as true (.bl p.isNone):=zY ha zb (by cases p<;>rfl) rfl
def iY(p q):Tu (n+1) (pD p) (pD q)=some (decide (p=q)):=by
 cases p with
 |none=>cases q<;>rfl
 |some x=>
  cases q with
  |none=>rfl
  |some y=>
   show some _=_
   congr 1
   by_cases h:x=y<;>simp[h]
open AutoSeq1 (wpAny_loadPart')
section
variable{X:Cx}{kd:KD}
def eT(x:D)(lo hi:Option Int):Option R0:=(hV x).bind λxs=>if lo=none/\hi=some (-1)then some (.fl xs.reverse)else none
theorem IG:∀r:List Value,(List.range r.length).filterMap (λk=>r[k]?)=r
 | []=>rfl
 |a::r=>by
  rw[zzT,List.range_succ_eq_map,List.filterMap_cons,List.filterMap_map];show a::(List.range r.length).filterMap (λk=>r[k]?)=_;rw[IG r]
theorem Pg{α β:Type}{f g:α->Option β}:∀{l:List α},(∀a ∈ l,f a=g a)->l.filterMap f=l.filterMap g
 | [],_=>rfl
 |a::l,h=>by rw[List.filterMap_cons,List.filterMap_cons,h a zzF,Pg λb hb=>h b<|zzD _ hb]
def rC(l:List Value):slicePick l.toArray none none (some (-1))=l.reverse.toArray:=by
 have e:sliceBounds none none (some (-1)) l.toArray.size=((l.length:Int)-1, -1, -1):=⋯;unfold slicePick;rw[e];have e2:(sliceRange (l.length-1) (-1) (-1))=(List.range l.length).map λk=>l.length-1-k:=by
  unfold sliceRange;rw[if_neg<|by decide]
  rcases Nat.eq_zero_or_pos l.length with h|h
  . rw[h];rfl
  . rw[if_pos ⋯,Int.neg_neg,Int.ediv_one];have:((l.length:Int)-1 - -1 - -1-1).toNat=l.length:=⋯;show List.map _ _=_;rw[this];refine List.map_congr_left λk hk=>?_;have:=List.mem_range.mp hk;omega
 rw[e2]
 congr 1
 rw[List.filterMap_map];have e3:(List.range l.length).filterMap (λk=>l.toArray[l.length-1-k]?)=(List.range l.reverse.length).filterMap (λk=>l.reverse[k]?):=by
  rw[List.length_reverse];refine Pg λk hk=>?_;rw[List.getElem?_reverse<|List.mem_range.mp hk];simp
 exact e3.trans<|IG _
def oI{K O H vs ds}(r:RpL K kd O H vs ds):RpL K kd O H vs.reverse ds.reverse:=RpL.ind (P:=λvs ds=>RpL K kd O H vs.reverse ds.reverse) .nil (λa _ ih=>by
 rw[List.reverse_cons,List.reverse_cons];exact ih.append<|.cons a .nil) r
def ja{e st te th p2 pos}(he:PE X e te)(hst:PO X (some st) th):PE X (.Subscript e (.Slice none none (some st) p2) pos)
 (dZ (λx lo u H Q=>∃a xs,x = .ref a/\FT X.K H a xs/\u=some (-1)/\∀p,H p=none->Q (.ref p) (upd H p<|.lst xs.reverse)) te Dk th):=by
 intro pins s σ H Q I h;refine Subscript_<|vK (he pins s σ H _ I h) λv s1 ⟨x,H1,I1,r1,q1⟩=>?_;refine wpAny_Slice ?_;refine zxF<|zxF<|vK (hst pins s1 σ H1 _ I1 q1) λvu s3 ⟨u,H3,I3,pu,q3⟩=>?_;have I4:Inv X pins σ H3 {s3 with heap:=s3.heap.push {cls:=.type "slice",data:=.fields #[.none,.none,vu]}}:=I3.kept (t':=s3.toks) λb ob q=>zxG _ q;obtain⟨a,xs,rfl,hx,rfl,q⟩:=q3;cases r1;obtain⟨its,r',pl,hz⟩:=I4.list hx;have hlen:=r'.length;refine tail_any pl.isList.typeIs slot_list_getitem.lookup (wpAny_getItem_list_slice pl.isList (Heap.IsSliceOf.new ..) .none .none pu (by decide) ?_<|by rw[zzH];omega) ⋯;rw[rC];exact⟨.ref _,_,I4.lnew (t':=s3.toks) r'.reverse (by rwa [List.length_reverse]),rfl,q _ I4.fresh⟩
def jF{a st fa fs pos p2}(ha:AE X kd a fa)(hs:AE X kd st fs):AE X kd (.Subscript a (.Slice none none (some st) p2) pos) (V1 fa oN (oS fs) eT):=by with_unfolding_all exact(yo (ja ha<|yL hs) λσ H Q h=>by
 obtain⟨F,B,ad,as,r,as',R,e,q⟩:=h;obtain⟨⟨p,as1⟩,h1,e⟩:=bS_<|e;obtain⟨_,h2,e⟩:=bS_ e;cases h2;obtain⟨⟨u,as3⟩,h3,e⟩:=bS_ e;obtain⟨⟨d,lv⟩,h4,e⟩:=bS_ e;obtain⟨r',h5,e⟩:=bS_ e;obtain⟨z,h6,e⟩:=bS_ e;cases e;obtain⟨xs,h7,h5⟩:=bS_<|h5;obtain⟨c,e5⟩:=zy h5;cases e5;refine YE R h1 λv ad1 H1 R1 rv1 g1=>⟨F,B,ad1,as1,u,_,R1,h3,λad3 H3 R3 g3=>?_⟩;have vx:=wU.vw R3 (rv1.grow g3) h4;have rq:=Va R3 h6 λw T' H' R' rv' g'=>q w T' ad3 H' R' rv'<|(g1.trans g3).trans g';cases OW h7;cases vx with
 |lst hr rl=>exact⟨_,_,rfl,hr.sq,c.2,LA rq<|oI rl⟩)
end
def oK(n:Nat)(K:zzA)(kd:KD)(F B:Addr->Prop)(ad:Ad)(σ:St)(H:Hp)(D:Ends):Out->Prop
 | .nx as'=>∀σ' ad' H',(∀i,i<n->σ'[i]? = σ[i]?)->Rel K kd F B [] ad' as' σ' H'->Grow (Gw [] ad) H (Gw [] ad') H'->D.nx σ' H'
 | .bk as'=>∀σ' ad' H',(∀i,i<n->σ'[i]? = σ[i]?)->Rel K kd F B [] ad' as' σ' H'->Grow (Gw [] ad) H (Gw [] ad') H'->D.bk σ' H'
 | .ct as'=>∀σ' ad' H',(∀i,i<n->σ'[i]? = σ[i]?)->Rel K kd F B [] ad' as' σ' H'->Grow (Gw [] ad) H (Gw [] ad') H'->D.ct σ' H'
 | .rt _=>False
def bp(n:Nat)(K:zzA)(kd:KD)(f:SF):TS:=λD σ H=>∃F B ad as o,Rel K kd F B [] ad as σ H/\f as=some o/\oK n K kd F B ad σ H D o
@[irreducible] def AP(X:Cx)(kd:KD)(n:Nat)(st:Stmt)(f:SF):Prop:=PS X st<|bp n X.K kd f
@[irreducible] def nJ(X:Cx)(kd:KD)(n:Nat)(st:List Stmt)(f:SF):Prop:=HW X st<|bp n X.K kd f
def oK.pre{n:Nat}{K ad ad1 D}(s:∀i,i<n->σ1[i]? = σ[i]?)(g:Grow (Gw [] ad) H (Gw [] ad1) H1)(h:oK n K kd F B ad σ H D o):oK n K kd F B ad1 σ1 H1 D o:=by
 cases o with
 |nx as=>exact λσ' ad' H' s' R g'=>h σ' ad' H' (λi hi=>(s' i hi).trans<|s i hi) R (g.trans g')
 |bk as=>exact λσ' ad' H' s' R g'=>h σ' ad' H' (λi hi=>(s' i hi).trans<|s i hi) R (g.trans g')
 |ct as=>exact λσ' ad' H' s' R g'=>h σ' ad' H' (λi hi=>(s' i hi).trans<|s i hi) R (g.trans g')
 |rt _=>exact h
section
variable{X:Cx}{kd:KD}{n:Nat}{e c tg iter:Expr}{st:Stmt}{rest sts body:List Stmt}{fa:EF}{ta:TF}{f g:SF}{pos pos':Pos}
def Dr:nJ X kd n [] vB:=by with_unfolding_all exact(XM M4 λD σ H h=>by
 obtain⟨F,B,a,as,o,R,e,q⟩:=h;cases e;exact q σ a H (λ_ _=>rfl) R Grow.refl)
def E5(h1:AP X kd n st f)(h2:nJ X kd n rest g):nJ X kd n (st::rest) (zx f g):=by with_unfolding_all exact(XM (Wj h1 h2) λD σ H h=>by
 obtain⟨F,B,ad,as,o,R,e,q⟩:=h;obtain⟨o1,e1,e⟩:=bS_<|e;refine⟨F,B,ad,as,o1,R,e1, ?_⟩;cases o1 with
 |nx as1=>exact λσ' ad' H' s' R' g'=>⟨F,B,ad',as1,o,R',e,q.pre s' g'⟩
 |bk as1=>cases e;exact q
 |ct as1=>cases e;exact q
 |rt r=>cases e;exact q)
def GV(h1:AP X kd n st f):nJ X kd n [st] f:=by with_unfolding_all exact(GZ h1)
def n6(hc:AT X kd c ta)(ha:nJ X kd n sts f)(hb:nJ X kd n rest g):AP X kd n (.If c sts rest pos) (xD ta f g):=by with_unfolding_all exact(vE (AU hc ha hb) λD σ H h=>by
 obtain⟨F,B,i,as,o,R,e,q⟩:=h;obtain⟨⟨p,a⟩,j,e⟩:=bS_<|e;refine⟨F,B,i,as,p,a,R,j,λb k d g=>?_⟩;cases p with
 |true=>exact⟨F,B,b,a,o,d,e,q.pre (λ_ _=>rfl) g⟩
 |false=>exact⟨F,B,b,a,o,d,e,q.pre (λ_ _=>rfl) g⟩)
def Uk(he:AE X kd e fa)(hs:swapsWith e none pos.line X.env=pure false):AP X kd n (.Expr e pos) (yO fa):=by with_unfolding_all exact(vE (MO he hs) λD σ H h=>by
 obtain⟨F,B,c,as,o,R,e,q⟩:=h;obtain⟨⟨p,a⟩,d,e⟩:=bS_<|e;cases e;exact⟨F,B,c,as,p,a,R,d,λv j b f i k g=>q σ b f (λ_ _=>rfl) i.drop<|g.trans<|Grow.less Gw.drop⟩)
def k8{i:Nat}(hn:n<=i)(hN:X.N.Nodup)(hi:X.N[i]? = some x)(hx:Loc X.env.scope x)(he:AE X kd e fa)(hs:swapsWith e (some<|.Name x pos') pos.line X.env=pure false)(hf:X.fn x=true\/X.env.scope.names.lookup x=some .local):
 AP X kd n (.Assign [.Name x pos'] e pos) (zE z i fa):=by with_unfolding_all exact(vE (tW hN hi hx he hs hf) λD σ H h=>by
 obtain⟨F,B,c,as,o,R,e,q⟩:=h;obtain⟨⟨p,a⟩,d,e⟩:=bS_<|e;obtain⟨_,j,e⟩:=bS_ e;obtain⟨l,e⟩:=zy e;cases e;refine⟨F,B,c,as,p,a,R,d,λv w m r s t g=>?_⟩;obtain⟨b,R2,u⟩:=HR s t j l;exact q _ b r (λk A=>zzY ⋯) R2<|g.trans<|Grow.less u)
def tU(hS:∀i,i<n->i ∉ S)(hp:PassesOwn (model X.prog X.w) X.A X.env X.xe)(hc:X.calm=true)(hi:AI X kd tg iter fi)(hg:AG X kd tg S gt)(hb:nJ X kd n body f)(hs:∀x,foldedSetIterable iter X.env x=pure x):
 AP X kd n (.For tg iter body [] pos) (XW fi gt f):=by with_unfolding_all exact(vE (sr hp hc hi hg hb hs) λD σ H h=>by
 obtain⟨F,B,ad,as,o,R,e,q⟩:=h;obtain⟨⟨ds,as1⟩,h1,e⟩:=bS_<|e;refine⟨F,B,ad,as,ds,as1,R,h1,λJ ad1 H1 R1 g1 it=>?_⟩;refine⟨λi m σ2 H2=>m+i=ds.length/\∃ad2 as2,(∀k,k<n->σ2[k]? = σ[k]?)/\Rel X.K kd F B [] ad2 as2 σ2 H2/\Grow _ H1 (Gw [] ad2) H2/\forL gt f (ds.drop i) as2=some o,⟨ds.length,rfl,ad1,as1,λ_ _=>rfl,R1,Grow.refl,e⟩, ?_⟩
 rintro i m σ2 H2 ⟨hm,ad2,as2,s2,R2,g2,e2⟩
 obtain⟨k1,k2,k3⟩:=it.all ad2 H2 g2 R2.trk i
 by_cases hi:i<ds.length
 . refine .inr ⟨k1 hi,λσ3 H3=>∃ad3 as3,_/\Rel X.K kd F B [] ad3 as3 σ3 H3/\Grow _ H1 _ H3/\forL gt f _ as3=some o,λσ3 H3 ⟨ad3,as3,s3,R3,g3,e3⟩=>⟨m-1,⋯,⋯,ad3,as3,s3,R3,g3,e3⟩,λv H3 hy=>?_⟩;obtain⟨kp,rp⟩:=k3 v H3 hy;rw[zyQ hi]at e2;obtain⟨as3,e3,e2⟩:=bS_<|e2;obtain⟨o3,e4,e2⟩:=bS_ e2;obtain⟨R3,g3⟩:=R2.more kp;refine⟨F,B,ad2,as2,_,as3,R3,rp _ ⋯,e3,λσ4 ad4 H4 R4 g4 s4=>?_⟩;refine⟨F,B,ad4,as3,o3,R4,e4, ?_⟩;have gg:=(g2.trans g3).trans g4;have s4':∀k,k<n->σ4[k]? = σ[k]? := λk hk=>(s4 k<|hS k hk).trans<|s2 k hk;cases o3 with
   |nx as5=>exact λσ5 ad5 H5 s5 R5 g5=>⟨ad5,as5,λk hk=>(s5 k hk).trans<|s4' k hk,R5,gg.trans g5,e2⟩
   |ct as5=>exact λσ5 ad5 H5 s5 R5 g5=>⟨ad5,as5,λk hk=>(s5 k hk).trans<|s4' k hk,R5,gg.trans g5,e2⟩
   |bk as5=>
    cases e2;exact λσ5 ad5 H5 s5 R5 g5=>q σ5 ad5 H5 (λk hk=>(s5 k hk).trans<|s4' k hk) R5 (g1.trans<|gg.trans g5)
   |rt r=>cases e2;exact q.elim
 . refine .inl ⟨k2 ⋯, ?_⟩;rw[List.drop_eq_nil_of_le ⋯]at e2;cases e2;exact q σ2 ad2 H2 s2 R2<|g1.trans g2)
end
section
variable{K:zzA}{kd:KD}{F B:Addr->Prop}{ad:Ad}{as:AS}{σ:St}{H H':Hp}
def G1(G:Addr->Prop)(T T':List Addr):Addr->Prop:=λa=>(G a/\a ∉ T)\/a ∈ T'
def Rel.chg1{i:Nat}(R:Rel K kd F B [] ad as σ H)(hi:i<as.length)(s0:σ[i]? = some (some v0))(nd:T0.Nodup)
 (sub:∀a ∈ T0,a ∈ ad i\/H a=none) (kp:∀c u,H c=some u->c ∉ ad i->H' c=some u) (al:∀a ∈ T0,H' a≠none)
 (r0:Xy K kd F B (G1 (Gw [] ad) (ad i) T0) H' v0 o0 T0):
 Rel K kd F B [] (Y8 ad i T0) (as.set i<|some o0) σ H'/\Grow (Gw [] ad) H (Gw []<|Y8 ad i T0) H':=by
 have v:Y8 ad i T0 i=T0:=ya;have q:∀k,k≠i->Y8 ad i T0 k=ad k:=λk h=>ye h;have r:∀k a,k≠i->a ∈ ad k->a ∉ ad i:=λk a h m z=>h<|R.inj k i a m z;have C:∀a,Gw [] (Y8 ad i T0) a->G1 (Gw [] ad) _ T0 a:=λa z=>by
  rcases z with z|⟨k,z⟩
  . exact nomatch z
  . by_cases e:k=i
    . subst e;rw[v]at z;exact .inr z
    . rw[q k e]at z;exact .inl ⟨.inr ⟨k,z⟩,r k a e z⟩
 have A:=λk a h m z=>(sub a z).elim (r k a h m) λy=>(R.gtr a<|.inr ⟨k,m⟩).1 y;have g:Grow _ H _ H':=⟨λb o h n=>kp b o h λz=>n<|.inr ⟨i,z⟩,λb z=>(C b z).elim (λy=>.inl y.1) λy=>(sub b y).elim (λx=>.inl<|.inr ⟨i,x⟩) .inr⟩;have D:∀a,H a≠none->a ∉ ad i->H' a≠none:=λa h n=>by
  cases e:H a with
  |none=>exact absurd e h
  |some u=>rw[kp a u e n];simp
 have d:∀a,a ∈ ad i->Gw [] ad a:=λa z=>.inr ⟨i,z⟩;refine⟨⟨by rw[zzU];exact R.len,λk I=>?_,λk=>?_,λk l a j p=>?_,zyJ,(λ_ _ _ z=>nomatch z),λa z=>D a (R.ftr a z) λy=>(R.gtr a<|d a y).2 z,λa z=>?_,λa z=>?_,λk s e=>?_⟩,g⟩
 . rw[zzU]at I;rw[q k ⋯];exact R.out k I
 . by_cases e:k=i
   . subst e;rwa [v]
   . rw[q k e];exact R.nd k
 . by_cases e:k=i
   . subst e;rw[v]at j
     by_cases E:l=k
     . exact E.symm
     . rw[q l E]at p;exact absurd j<|A l a E p
   . rw[q k e]at j
     by_cases t:l=i
     . subst t;rw[v]at p;exact absurd p<|A k a e j
     . rw[q l t]at p;exact R.inj k l a j p
 . obtain⟨j,p,G⟩:=R.btr a z;refine⟨D a j λy=>G<|d a y,p,λy=>(C a y).elim (λx=>G x.1) λx=>(sub a x).elim (λw=>G<|d a w) j⟩
 . rcases C a z with⟨y,n⟩|y
   . exact⟨D a (R.gtr a y).1 n,(R.gtr a y).2⟩
   . exact⟨al a y,(sub a y).elim (λw=>(R.gtr a<|d a w).2) λw f=>R.ftr a f w⟩
 . by_cases t:k=i
   . subst t;rw[zyK hi]at e;cases e;rw[v];exact⟨v0,s0,Xy.lv (λJ a z=>z.imp id<|C a) r0⟩
   . rw[zzY λz=>t z.symm]at e;rw[q k t];exact(R.sl k s e).grow g λa m u h=>kp a u h<|r k a t m
end
def rz(K:zzA)(kd:KD)(g:List ZA->O->Option O):Sp:=λvs H Q _=>∃(F B G:Addr->Prop) (T:List Addr) (ws:List V) (v:V) (xs:List ZA) (o r:O),vs=ws++[v]/\(∀a,F a->H a≠none)/\(∀a,B a->H a≠none/\¬F a/\¬G a)/\(∀a,G a->H a≠none/\¬F a)/\
 T.Nodup/\(∀a ∈ T,G a)/\RpI K kd F B G H ws xs/\Xy K kd F B G H v o T/\g xs o=some r/\
 ∀(H':Hp) (T':List Addr),(∀c u,H c=some u->c ∉ T->H' c=some u)->T'.Nodup->(∀a ∈ T',a ∈ T\/H a=none)->(∀a ∈ T',H' a≠none)->Xy K kd F B (G1 G T T') H' v r T'->Q .non H'
def IB(i:Nat):List RV->Option (List ZA)
 | []=>none
 |r::rs=>match r with
  | .bo j=>if j=i/\rs.isEmpty=true then some []else none
  | .ow (.lf st d)=>(IB i rs).bind λxs=>some ((st,d)::xs)
  | .ow (.nd _ _)=>none
theorem IR{K ad}{i:Nat}:∀{rs:List RV}{vs:List V}{xs:List ZA},RVs K kd F B ad σ H vs rs->IB i rs=some xs->∃ws v,vs=ws++[v]/\RpI K kd F B (Gw [] ad) H ws xs/\σ[i]? = some (some v)
 | [],_,_,_,e=>by cases e
 |r::rs,_,xs,h,e=>by
  cases h with
  |cons hv hr=>
   rename_i v vs;cases r with
   |bo j=>
    obtain⟨⟨e1,e2⟩,e3⟩:=zy e;cases e3;rw[List.isEmpty_iff]at e2;subst e1 e2;cases hr;exact⟨[],v,rfl,.nil,hv.2⟩
   |ow o=>
    cases o with
    |lf st d=>
     obtain⟨ys,e1,e⟩:=bS_<|e;cases e;obtain⟨ws,w,rfl,h1,h2⟩:=IR hr e1;cases hv with
     |lf rp=>exact⟨v::ws,w,rfl,.cons rp h1,h2⟩
    |nd k os=>cases e
def Ug(i:Nat)(fr:AF)(g:List ZA->O->Option O):SF:=λas=>(fr as).bind λp=>(IB i p.1).bind λxs=>(p.2[i]?).bind λa=>a.bind λo=>(g xs o).bind λr=>some<|.nx<|p.2.set i<|some r
section
variable{X:Cx}{kd:KD}{e:Expr}{es:List Expr}{fr:AF}{pos pos':Pos}
def Jg{n i k:Nat}{f}(F:FnOk X.prog X.w X.K X.mg X.base xJ k f fdt ps (rz X.K kd g))(hr:Room k X.A)(hg:Gl X x)(hm:X.mg x=some (.ref f))(hk:W.keepIn X.K (.ref f)=true)
 (hb:Binds X.K fdt ps []) (hx:ZE xJ X (λ_ _ _=>False)) (ha:AA X kd (e::es) fr) (hdb:(x==("__debug__":Str))=false) (he:starEach (e::es) X.env=(false,eval e X.env)::starEach es X.env) (hpl:(backTo pos<|starEach es X.env).any (·.1)=false)
 (hs:swapsWith (.Call (.Name x p) (e::es) [] pos) none pos'.line X.env=pure false):
 AP X kd n (.Expr (.Call (.Name x p) (e::es) [] pos) pos') (Ug i fr g):=by
 with_unfolding_all exact(vE (MO (Hu F hr hg hm hk hb .nil hx ha hdb he hpl) hs) λD σ H h=>by
  obtain⟨F,B,I,as,o,R,e,q⟩:=h;obtain⟨⟨J,d⟩,L,M⟩:=bS_<|e;obtain⟨N,P,Q⟩:=bS_ M;obtain⟨a,z,S⟩:=bS_ Q;obtain⟨T,U,V⟩:=bS_ S;obtain⟨r,j,Y⟩:=bS_ V;subst U;have l:=zzZ Y;refine(⟨F,B,I,as,J,d,R,L,λvs c Z b s g1=>?_⟩);obtain⟨C,v,rfl,t,E⟩:=IR s P;obtain⟨w0,G,u⟩:=b.sl i _ z;rw[E]at G;cases G;rw[zyE];refine⟨F,B,Gw [] c,c i,C,v,N,T,r,rfl,b.ftr,b.btr,b.gtr,b.nd i,λa m=>.inr ⟨i,m⟩,t,u,j,λH' T' kp nd y al r0=>?_⟩;obtain⟨R3,g3⟩:=b.chg1 (zzG.mp z).1 E nd y kp al r0;subst l;exact q σ _ _ (λ_ _=>rfl) R3<|g1.trans g3)
def rK{i k:Nat}(F:FnOk X.prog X.w X.K X.mg X.base xJ k f fdt ps (rz X.K kd g))(hr:Room k X.A)(hg:Gl X x)(hm:X.mg x=some (.ref f))(hk:W.keepIn X.K (.ref f)=true)
 (hb:Binds X.K fdt ps []) (hx:ZE xJ X (λ_ _ _=>False)) (ha:AA X kd (e::es) fr) (hdb:(x==("__debug__":Str))=false) (he:starEach (e::es) X.env=(false,eval e X.env)::starEach es X.env) (hpl:(backTo pos<|starEach es X.env).any (·.1)=false)
 (hs:swapsWith (.Call (.Name x p) (e::es) [] pos) none pos'.line X.env=pure false):
 Jl X kd (.Expr (.Call (.Name x p) (e::es) [] pos) pos') (Ug i fr g):=by
 have h:=Jg (n:=0) (i:=i) F hr hg hm hk hb hx ha hdb he hpl hs
 with_unfolding_all exact(vE h λD σ H h=>by
  obtain⟨F,B,ad,as,o,R,e,q⟩:=h;refine⟨F,B,ad,as,o,R,e, ?_⟩;cases o with
  |nx as'=>exact λσ' ad' H' _ R' g'=>q σ' ad' H' R' g'
  |bk as'=>exact λσ' ad' H' _ R' g'=>q σ' ad' H' R' g'
  |ct as'=>exact λσ' ad' H' _ R' g'=>q σ' ad' H' R' g'
  |rt r=>
   obtain⟨_,h1,e1⟩:=bS_<|e;obtain⟨xs,h2,e2⟩:=bS_ e1;obtain⟨a,ka,e3⟩:=bS_ e2;obtain⟨o0,qa,e4⟩:=bS_ e3;obtain⟨r,hgr,e5⟩:=bS_ e4;cases e5)
end
def br(n:Nat)(K:zzA)(kd:KD)(f:SF):TS:=λD σ H=>∃F B ad as as',Rel K kd F B [] ad as σ H/\f as=some (.nx as')/\∀σ' ad' H',(∀i,i<n->σ'[i]? = σ[i]?)->Rel K kd F B [] ad' as' σ' H'->Grow (Gw [] ad) H (Gw [] ad') H'->D.nx σ' H'/\D.rt .non H'
@[irreducible] def cw(X:Cx)(kd:KD)(n:Nat)(st:List Stmt)(f:SF):Prop:=HW X st<|br n X.K kd f
section
variable{X:Cx}{kd:KD}{n:Nat}{c:Expr}{st:Stmt}{rest:List Stmt}{ta:TF}{f g:SF}{pos pos':Pos}
def uE(hc:AT X kd c ta)(ha:AP X kd n st f)(hb:nJ X kd n rest g):cw X kd n (.If c [st,.Return none pos'] [] pos::rest) (xD ta f g):=by
 with_unfolding_all exact(XM (Wj (AU hc (Wj ha<|GZ nq) M4) hb) λD σ H h=>by
  obtain⟨F,B,r,as,s,R,e,q⟩:=h;obtain⟨⟨p,a⟩,t,e⟩:=bS_<|e;refine⟨F,B,r,as,p,a,R,t,λd u m o=>?_⟩;cases p with
  |true=>exact⟨F,B,d,a,_,m,e,λi b j k R2 l=>(q i b j k R2<|o.trans l).2⟩
  |false=>exact⟨F,B,d,a,_,m,e,λi b j k R2 l=>(q i b j k R2<|o.trans l).1⟩)
end
def Gi(n:Nat)(xs:List ZA)(o:O):AS:=(xs.map λx=>some<|O.lf x.1 x.2)++some o::List.replicate (n-(xs.length+1)) none
def gL(n m:Nat)(c:SF)(xs:List ZA)(o:O):Option O:=if xs.length+1=m then(c<|Gi n xs o).bind λout=>match out with
 | .nx as=>(as[xs.length]?).bind id
 |_=>none
 else none
def kG(k:Nat)(T:List Addr):Ad:=λi=>if i=k then T else[]
def LS{k:Nat}:Gw [] (kG k T) a ↔ a ∈ T:=by
 constructor
 . rintro(z|⟨i,z⟩)
   . exact nomatch z
   . unfold kG at z
     by_cases e:i=k
     . rwa [if_pos e]at z
     . rw[if_neg e]at z;exact nomatch z
 . intro z;exact .inr ⟨k,by unfold kG;rwa [if_pos rfl]⟩
theorem M8{K}:∀{vs:List V}{xs:List ZA},RpI K kd F B G H vs xs->vs.length=xs.length
 |_,_,.nil=>rfl
 |_,_,.cons _ h=>congrArg Nat.succ<|M8 h
theorem DO{K}:∀{vs:List V}{xs:List ZA}{i:Nat}{x:ZA},RpI K kd F B G H vs xs->xs[i]? = some x->∃v,vs[i]? = some v/\Rp K kd (Lv F B G x.1) H v x.2
 |_,_,i,x,.nil,e=>by cases e
 |_,_,0,x,.cons r h,e=>by cases e;exact⟨_,rfl,r⟩
 |_,_,i+1,x,.cons r h,e=>DO (i:=i) h e
def J9{K}(hN:xs.length+1<=N.length)(ht:∀a,F a->H a≠none)(hB:∀a,B a->H a≠none/\¬F a/\¬G a)(hG:∀a,G a->H a≠none/\¬F a)(nd:T.Nodup)(hT:∀a ∈ T,G a)
 (rpi:RpI K kd F B G H ws xs) (r0:Xy K kd F B G H v o T):Rel K kd F (λa=>B a\/(G a/\a ∉ T)) [] (kG xs.length T) (Gi N.length xs o) (L2.start N<|ws++[v]) H:=by
 have d:=M8 rpi;have k:∀c a,Lv F (λa=>B a\/(G a/\a ∉ T)) (Gw []<|kG xs.length T) c a->Lv F B G c a:=λc a z=>by
  rcases z with(z|z|z)|z
  . exact .inl<|.inl z
  . exact .inl<|.inr z
  . exact .inr z.1
  . exact .inr<|hT a<|LS.mp z
 have b:∀i,i≠xs.length->kG xs.length T i=[]:=λi h=>if_neg h;have f:kG xs.length T xs.length=T:=if_pos rfl;have l:(Gi N.length xs o).length=N.length:=by unfold Gi;simp;omega
 have c:L2.start N (ws++[v])=ws.map some++some v::List.replicate (N.length-(xs.length+1)) none:=by
  unfold L2.start;simp[d]
 refine⟨by rw[l,c];simp[d];omega,λi t=>b i (by omega),λi=>?_,λi j a x y=>?_,zyJ,(λ_ _ _ z=>nomatch z),ht,λa z=>?_,λa z=>hG a<|hT a<|LS.mp z,λi s e=>?_⟩
 . by_cases h:i=xs.length
   . subst h;rwa [f]
   . rw[b i h];exact zyJ
 . by_cases h:i=xs.length
   . by_cases g:j=xs.length
     . rw[h,g]
     . rw[b j g]at y;exact nomatch y
   . rw[b i h]at x;exact nomatch x
 . rcases z with z|z
   . exact⟨(hB a z).1,(hB a z).2.1,λy=>(hB a z).2.2<|hT a<|LS.mp y⟩
   . exact⟨(hG a z.1).1,(hG a z.1).2,λy=>z.2<|LS.mp y⟩
 . rw[c];unfold Gi at e
   by_cases h:i<xs.length
   . rw[zyP (by rwa [zzB]),zzI]at e;obtain⟨x,m,rfl⟩:=zzX.mp e;obtain⟨u,n,p⟩:=DO rpi m;rw[b i (by omega),zyP (by rwa [zzB,d]),zzI,n];exact⟨u,rfl,.lf<|p.less<|k x.1⟩
   . rw[zyR (by rw[zzB];omega),zzB]at e;rw[zyR (by rw[zzB,d];omega),zzB,d]
     by_cases g:i=xs.length
     . subst g;rw[Nat.sub_self]at e ⊢;cases e;rw[f];exact⟨v,rfl,Xy.lv k r0⟩
     . rw[b i g];obtain⟨j,q⟩:∃j,i-xs.length=j+1:=⟨i-xs.length-1,by omega⟩;rw[q]at e;have e:=e;have r:=(List.mem_replicate.mp<|zyA e).2;subst r;rfl
section
variable{P:Program}{w:World}{K:zzA}{mg:Str->Option Value}{base:Heap}
def jj{kd st}{k:Nat}(Fn:Fun K x qual st f fd)(S:FnScope N ps (zc st))(hN:ps.length<=N.length)
 (hb:∀(cdv:Value) (A:Around) (outer:List Env) (s:Shared) (H:Hp) (E:XK),Room k (A.deeper<|envOfC qual (zc st) s.heap.objs.size f cdv)->cw (FB xJ P w K mg base N qual (zc st) f cdv A outer s H E).nox kd ps.length (YI st) c):
 FnOk P w K mg base xJ (k+1) f fd ps (rz K kd<|gL N.length ps.length c):=by
 with_unfolding_all (
 refine Fn.ok S (λX H Q E h=>?_) λy A j s H X Q E Y h=>⟨_,hb y A j s H E Y, ?_⟩
 . obtain⟨F,B,G,T,I,v,d,o,r,rfl,J,L,M,nd,O,i,U,e,q⟩:=h;unfold gL at e
   by_cases p:d.length+1=ps.length
   . rwa [zzJ,M8 i]
   . rw[if_neg p]at e;cases e
 . obtain⟨F,B,G,T,I,v,d,o,r,rfl,J,L,M,nd,O,i,U,e,q⟩:=h;unfold gL at e
   by_cases p:d.length+1=ps.length
   . rw[if_pos p]at e;obtain⟨C,Z,V⟩:=bS_ e;cases C with
     |nx as=>
      obtain⟨a,k0,e3⟩:=bS_ V;have e4:=e3;subst e4;refine⟨F,_,_,Gi N.length d o,as,J9 ⋯ J L M nd O i U,Z,λσ' b H' sp R g=>?_⟩;obtain⟨u0,W,t0⟩:=R.sl d.length _ k0;rw[sp d.length ⋯]at W;have sv:(L2.start N<|I++[v])[d.length]? = some (some v):=by
       have wl:=M8 i;unfold L2.start;rw[<-wl];simp
      cases(sv.symm.trans W);have l:∀a,a ∈ b d.length->Gw [] b a:=λa z=>.inr ⟨_,z⟩;have lv:∀D a,Lv F B (G1 G T _) D a->Lv F (λa=>B a\/_) _ D a:=λD a z=>by
       rcases z with(z|z)|z|z
       . exact .inl<|.inl z
       . exact .inl<|.inr<|.inl z
       . exact .inl<|.inr<|.inr z
       . exact .inr<|l a z
      have t:=q H' _ (λc u h n=>g.keep c u h λz=>n<|LS.mp z) (R.nd _) (λa m=>(g.own a<|l a m).imp LS.mp id) (λa m=>(R.gtr a<|l a m).1)<|Xy.lv lv t0;exact⟨t,t⟩
     |_=>cases V
   . rw[if_neg p]at e;cases e)
end
section
variable{X:Cx}{kd:KD}{n:Nat}
def By(z)(i:Nat)(hn:n<=i)(hN:X.N.Nodup)(he:AE X kd e fa)(hi:X.N[i]? = some x:=by rfl)(hx:Loc X.env.scope x:=by first|exact Or.inl rfl|exact Or.inr rfl)(hs:swapsWith e (some<|.Name x pos') pos.line X.env=pure false:=by rfl)(hf:X.fn x=true\/X.env.scope.names.lookup x=some .local:=by first|exact Or.inl rfl|exact Or.inr rfl):
 AP X kd n (.Assign [.Name x pos'] e pos) (zE z i fa):=k8 hn hN hi hx he hs hf
end
section
variable{P:Program}{w:World}{K:zzA}{mg:Str->Option Value}{base:Heap}{kd:KD}
def ql{k:Nat}:FnOk P w K mg base xJ k f fd ps (rz K kd λ_ _=>none):=
 ⟨λc H Q E h=>(by obtain⟨_,_,_,_,_,_,_,_,_,_,_,_,_,_,_,_,_,e,_⟩:=h;cases e),λA a s H b d c Q E _ _ _ _ h=>(by obtain⟨_,_,_,_,_,_,_,_,_,_,_,_,_,_,_,_,_,e,_⟩:=h;cases e)⟩
end
def Qm(f:EF):EF:=λas=>(f as).bind λp=>some (p.1.frz,p.2)
def wV(h:AE X kd e fa):AE X kd e (Qm fa):=by with_unfolding_all exact(yo h λσ H Q q=>by
 obtain⟨F,B,ad,as,r,as',R,e,k⟩:=q;obtain⟨⟨p,as1⟩,h1,e⟩:=bS_<|e;cases e;exact⟨F,B,ad,as,p,as1,R,h1,λv T' ad' H' R' rv g=>k v [] ad' H' R'.drop (wU.drop R' rv)<|g.trans<|Grow.less Gw.drop⟩)
section
variable{X:Cx}{kd:KD}{P:Program}{w:World}{K:zzA}{a b e o:Expr}{es:List Expr}{fa fb fo:EF}{fr:AF}{fd_:DF}{pos p apos:Pos}{k n:Nat}
def wz(h1:sc.kind = .function:=by rfl)(h2:sc.isCoroutine=false:=by rfl)(h3:sc.isGenerator=false:=by rfl)(h4:N.Nodup:=by decide +kernel)(h5:N.take Ps.length=Ps:=by rfl)(h6:∀x ∈ Ps,sc.names.lookup x=some .local\/sc.names.lookup x=some .cell:=by decide +kernel)(h7:∀y ∈ sc.names,y.2 ≠ .free:=by decide +kernel):FnScope N Ps sc:=⟨h1,h2,h3,h4,h5,h6,h7⟩
def bs{st}(F:Fun K x qual st f fd)
 (h:∀(kV doc pm:Value) (an:Option Addr) (cdv ct:Value) (us:List Value),us.length=ps.length->bindArgs (W.fnOf x qual (M9 st) (YI st) (zc st) .none kV doc pm an cdv ct) ⟨us,[]⟩=pure (ps.zip us):=by first|exact λ_ _ _ _ _ _=>cY λ_=>rfl|exact λ_ _ _ _ _ _=>bA λ_ _=>rfl|exact λ_ _ _ _ _ _=>cL λ_ _ _=>rfl|exact λ_ _ _ _ _ _=>bE λ_ _ _ _=>rfl|exact λ_ _ _ _ _ _=>cZ λ_ _ _ _ _=>rfl|exact λ_ _ _ _ _ _=>c6 λ_ _ _ _ _ _=>rfl):Binds K fd ps []:=F.binds h
def bc(ha:AE X kd a fa)(hr:AA X kd es fr)(hs:isStar a=false:=by rfl):AA X kd (a::es) (aC fa fr):=oX ha hr<|Sq hs
def bd(ha:AE X kd a fa)(hr:AD X kd es fd_)(hs:isStar a=false:=by rfl):AD X kd (a::es) (dC fa fd_):=p7 ha hr<|Sq hs
def bn{op}(ha:AE X kd a fa)(hb:AE X kd b fb):AE X kd (.BinOp a op b pos) (f2 fa fb<|W7 op):=lI (km op) ha hb
def tc{op}(hkd:yU P w K kd)(hr:Room k X.A)(ha:AE X kd a fa)(hb:AE X kd b fb)(h1:X.prog=P:=by rfl)(h2:X.w=w:=by rfl)(h3:X.K=K:=by rfl)(hm:behindInMarks op b=false:=by exact sx _):AT X kd (.Compare a [op] [b] pos) (fT<|f2 fa fb<|zo op):=lb (RW (hkd _ h1 h2 h3) (NC hr) op) (oB op) ha hb hm
def ec{op}(hkd:yU P w K kd)(hr:Room k X.A)(ha:AE X kd a fa)(hb:AE X kd b fb)(h1:X.prog=P:=by rfl)(h2:X.w=w:=by rfl)(h3:X.K=K:=by rfl)(hm:behindInMarks op b=false:=by exact sx _):AE X kd (.Compare a [op] [b] pos) (f2 fa fb<|zo op):=kq (RW (hkd _ h1 h2 h3) (NC hr) op) ha hb hm
def fd(hc:CF X.K kd cs f)(ha:AE X kd a fa)(hb:attributeBase a f X.env (eval a X.env)=eval a X.env:=by rfl):AE X kd (.Attribute a f pos) (f1 fa<|zJ cs f):=lA hc ha hb
def ck(F:FnOk X.prog X.w X.K X.mg X.base xJ k f fdt ps (VT X.K kd gg))(hr:Room n X.A)(hm:X.mg x=some (.ref f))(hk:W.keepIn X.K (.ref f)=true)
 (hb:Binds X.K fdt ps []) (ha:AA X kd (e::es) fr) (hn:k<=n:=by omega) (hg:Gl X x:=by rfl) (hdb:(x==("__debug__":Str))=false:=by decide) (he:starEach (e::es) X.env=(false,eval e X.env)::starEach es X.env:=by rfl) (hpl:(backTo pos<|starEach es X.env).any (·.1)=false:=by rfl):
 AE X kd (.Call (.Name x p) (e::es) [] pos) (zd fr gg):=DR F (hr.mono hn) hg hm hk hb yP ha hdb he hpl
def bi{id}(hc:UI X kd (.builtin id) gg)(hm:X.mg x=none)(hv:bootBuiltins x=some (.builtin id))(ha:AA X kd (e::es) fr)(hg:Gl X x:=by rfl)(hn:x≠"__name__":=by exact Bt.n _ rfl)(hdb:(x==("__debug__":Str))=false:=by decide)
 (he:starEach (e::es) X.env=(false,eval e X.env)::starEach es X.env:=by rfl) (hpl:(backTo pos<|starEach es X.env).any (·.1)=false:=by rfl):AE X kd (.Call (.Name x p) (e::es) [] pos) (fP fr gg):=lM hc hg hm hv ha hn hdb he hpl
def jR(hc:UI X kd (.type T) gg)(hm:X.mg x=none)(hv:bootBuiltins x=some (.type T))(ha:AA X kd (e::es) fr)(hg:Gl X x:=by rfl)(hn:x≠"__name__":=by exact Bt.n _ rfl)(hdb:(x==("__debug__":Str))=false:=by decide)
 (he:starEach (e::es) X.env=(false,eval e X.env)::starEach es X.env:=by rfl) (hpl:(backTo pos<|starEach es X.env).any (·.1)=false:=by rfl):AE X kd (.Call (.Name x p) (e::es) [] pos) (fP fr gg):=jG hc hg hm hv ha hn hdb he hpl
def mq(hC:kd.c c=C)(M:Mk X.K C f)(F:FnOk X.prog X.w X.K X.mg X.base xJ k f fdt ps (lO X.K kd c g))(hr:Room n X.A)(hm:X.mg x=some (.ref C))(hb:Binds X.K fdt ps [])
 (ha:AA X kd (e::es) fr) (hn:k+1<=n:=by omega) (hg:Gl X x:=by rfl) (hdb:(x==("__debug__":Str))=false:=by decide) (he:starEach (e::es) X.env=(false,eval e X.env)::starEach es X.env:=by rfl) (hpl:(backTo pos<|starEach es X.env).any (·.1)=false:=by rfl):
 AE X kd (.Call (.Name x p) (e::es) [] pos) (zd fr g):=qR hC M F (hr.mono hn) hg hm hb yP ha hdb he hpl
def sj(i:Nat){rest}(hN:X.N.Nodup)(he:AE X kd e fa)(h2:ua X kd rest g)(hi:X.N[i]? = some x:=by rfl)(hx:Loc X.env.scope x:=by first|exact Or.inl rfl|exact Or.inr rfl)(hs:swapsWith e (some<|.Name x pos') pos.line X.env=pure false:=by rfl)(hf:X.fn x=true\/X.env.scope.names.lookup x=some .local:=by first|exact Or.inl rfl|exact Or.inr rfl):
 ua X kd (.Assign [.Name x pos'] e pos::rest) (zx (zE z i fa) g):=yb (rQ hN hi hx he hs hf) h2
def mt(hT:MT X.prog X.w X.K X.mg X.base kd m k tbl)(hr:Room n X.A)(ho:AE X kd o fo)(ha:AA X kd (e::es) fr)
 (ht:eval (.Call (.Attribute o m apos) (e::es) [] pos) X.env=(do
  let ov <-eval o X.env
  standAt apos.atName
  let(f,first) <-holding [ov] (getMethod ov m pl)
  callWith pos f first (backTo pos<|starEach (e::es) X.env) (backToKw pos<|keywordEach [] X.env)))
 (hn:k<=n:=by omega) (hst:starEach (e::es) X.env=(false,eval e X.env)::starEach es X.env:=by rfl) (hpl:(backTo pos<|starEach es X.env).any (·.1)=false:=by rfl):
 AE X kd (.Call (.Attribute o m apos) (e::es) [] pos) (yn tbl m fo fr):=jh hT (hr.mono hn) yP ho ha hst hpl ht
def cQ(hT:MT X.prog X.w X.K X.mg X.base kd m k tbl)(hr:Room n X.A)(ho:AE X kd o fo)
 (ht:eval (.Call (.Attribute o m apos) [] [] pos) X.env=(do
  let ov <-eval o X.env
  standAt apos.atName
  let(f,first) <-holding [ov] (getMethod ov m pl)
  callWith pos f first (backTo pos<|starEach [] X.env) (backToKw pos<|keywordEach [] X.env)))
 (hn:k<=n:=by omega):AE X kd (.Call (.Attribute o m apos) [] [] pos) (yn tbl m fo aN):=px hT (hr.mono hn) yP ho ht
end
def rN(K:zzA):Bool:=K.all λp=>match p.2.cls with
 | .type c=>c != "tuple"
 |_=>true
section
variable{K:zzA}{kd:KD}{O:Addr->Prop}{H:Hp}{a b:Addr}{vs0:List V}
end
section
variable{K:zzA}{kd:KD}{F B:Addr->Prop}{ad:Ad}{as:AS}{σ:St}{H:Hp}{i:Nat}{c f1 f2:Str}{st:Bool}{w:D}{ts:List O}
def Rel.mks(R:Rel K kd F B [] ad as σ H)(k:as[i]? = some (some<|.nd (.ob c [f1,f2]) [.lf st w,.nd .ls ts])):∃a dx l v1 vs fp,σ[i]? = some (some<|.ref a)/\H a=some (.ins (kd.c c) dx [(f1,v1),(f2,.ref l)])/\Rp K kd (Lv F B (Gw [] ad) st) H v1 w/\H l=some (.lst vs)/\ZN K kd F B (Gw [] ad) H vs ts fp/\ad i=a::l::fp:=by
 obtain⟨v,e,d⟩:=R.sl i _ k;generalize f:ad i=g at d;cases d with
 |ob h j t m=>
  have ec:=h.cl_eq;subst ec;cases m with
  |cons n o=>
   cases n with
   |lf p=>
    cases o with
    |cons q r=>
     cases r with
     |nil=>
      cases q with
      |ls s b=>exact⟨_,_,_,_,_,_,e,j,p,s,b,⋯⟩
end
def Me(i:Nat)(cs:List Str)(f:Str):EF:=λas=>match as[i]? with
 |some (some (.nd (.ob c [f1,f2]) [.lf st w,.nd .ls ts]))=>if c ∈ cs/\f=f1 then some (.ow<|.lf st w,as)else none
 |_=>none
def gu(i:Nat)(cs:List Str)(f:Str):EF:=λas=>match as[i]? with
 |some (some (.nd (.ob c [f1,f2]) [.lf st w,.nd .ls ts]))=>if c ∈ cs/\f=f2/\f1≠f2 then some (.ow<|.lf true<|.int ts.length,as)else none
 |_=>none
def ix(i j:Nat)(cs:List Str)(f:Str):SF:=λas=>match as[i]?,as[j]? with
 |some (some (.nd (.ob c [f1,f2]) [.lf st w,.nd .ls ts])),some (some (.lf s d))=>if c ∈ cs/\f=f2/\f1≠f2/\ts.length<sizeLine then some (.nx<|as.set i<|some<|.nd (.ob c [f1,f2]) [.lf st w,.nd .ls<|ts++[.lf s d]])else none
 |_,_=>none
def o_{i:Nat}{cs f as x}(e:Me i cs f as=some x):∃c f2 st w ts,as[i]? = some (some<|.nd (.ob c [f,f2]) [.lf st w,.nd .ls ts])/\c ∈ cs/\x=(.ow<|.lf st w,as):=by
 unfold Me at e;cases hi:as[i]? with
 |none=>rw[hi]at e;cases e
 |some s=>
 rw[hi]at e;cases s with
 |none=>cases e
 |some o=>
 cases o with
 |lf=>cases e
 |nd k os=>
 cases k with
 |ls=>cases e
 |tp=>cases e
 |dc _=>cases e
 |ob c ns=>
 cases ns with
 |nil=>cases e
 |cons f1 ns=>
 cases ns with
 |nil=>cases e
 |cons f2 ns=>
 cases ns with
 |cons=>cases e
 |nil=>
 cases os with
 |nil=>cases e
 |cons a os=>
 cases a with
 |nd=>cases e
 |lf st w=>
 cases os with
 |nil=>cases e
 |cons b os=>
 cases b with
 |lf=>cases e
 |nd k2 ts=>
 cases os with
 |cons=>cases k2<;>cases e
 |nil=>
 cases k2 with
 |tp=>cases e
 |dc _=>cases e
 |ob _ _=>cases e
 |ls=>
  obtain⟨⟨a,b⟩,d⟩:=zy e;subst b;cases d;exact⟨_,_,_,_,_,rfl,a,rfl⟩
def pL{i:Nat}{cs f as x}(e:gu i cs f as=some x):∃c f1 st w ts,as[i]? = some (some<|.nd (.ob c [f1,f]) [.lf st w,.nd .ls ts])/\c ∈ cs/\f1≠f/\x=(.ow<|.lf true<|.int ts.length,as):=by
 unfold gu at e;cases hi:as[i]? with
 |none=>rw[hi]at e;cases e
 |some s=>
 rw[hi]at e;cases s with
 |none=>cases e
 |some o=>
 cases o with
 |lf=>cases e
 |nd k os=>
 cases k with
 |ls=>cases e
 |tp=>cases e
 |dc _=>cases e
 |ob c ns=>
 cases ns with
 |nil=>cases e
 |cons f1 ns=>
 cases ns with
 |nil=>cases e
 |cons f2 ns=>
 cases ns with
 |cons=>cases e
 |nil=>
 cases os with
 |nil=>cases e
 |cons a os=>
 cases a with
 |nd=>cases e
 |lf st w=>
 cases os with
 |nil=>cases e
 |cons b os=>
 cases b with
 |lf=>cases e
 |nd k2 ts=>
 cases os with
 |cons=>cases k2<;>cases e
 |nil=>
 cases k2 with
 |tp=>cases e
 |dc _=>cases e
 |ob _ _=>cases e
 |ls=>
  obtain⟨⟨a,b,d⟩,g⟩:=zy e;subst b;cases g;exact⟨_,_,_,_,_,rfl,a,d,rfl⟩
def pP{i j:Nat}{cs f as x}(e:ix i j cs f as=some x):∃c f1 st w ts s d,as[i]? = some (some<|.nd (.ob c [f1,f]) [.lf st w,.nd .ls ts])/\as[j]? = some (some<|.lf s d)/\c ∈ cs/\f1≠f/\ts.length<sizeLine/\x = .nx (as.set i<|some<|.nd (.ob c [f1,f]) [.lf st w,.nd .ls<|ts++[.lf s d]]):=by
 unfold ix at e;cases hi:as[i]? with
 |none=>rw[hi]at e;cases e
 |some s=>
 rw[hi]at e;cases s with
 |none=>cases e
 |some o=>
 cases o with
 |lf=>cases e
 |nd k os=>
 cases k with
 |ls=>cases e
 |tp=>cases e
 |dc _=>cases e
 |ob c ns=>
 cases ns with
 |nil=>cases e
 |cons f1 ns=>
 cases ns with
 |nil=>cases e
 |cons f2 ns=>
 cases ns with
 |cons=>cases e
 |nil=>
 cases os with
 |nil=>cases e
 |cons a os=>
 cases a with
 |nd=>cases e
 |lf st w=>
 cases os with
 |nil=>cases e
 |cons b os=>
 cases b with
 |lf=>cases e
 |nd k2 ts=>
 cases os with
 |cons=>cases k2<;>cases e
 |nil=>
 cases k2 with
 |tp=>cases e
 |dc _=>cases e
 |ob _ _=>cases e
 |ls=>
  cases hj:as[j]? with
  |none=>rw[hj]at e;cases e
  |some z=>
   rw[hj]at e;cases z with
   |none=>cases e
   |some y=>
    cases y with
    |nd=>cases e
    |lf s d=>
     obtain⟨⟨b,g,h,l⟩,m⟩:=zy e;subst g;cases m;exact⟨_,_,_,_,_,_,_,rfl,rfl,b,h,l,rfl⟩
section
variable{X:Cx}{kd:KD}{i j n:Nat}{cs:List Str}{f x y:Str}{p p' pos apos cpos:Pos}
def NO(hc:CF X.K kd cs f)(ho:PE X (.Name x p) (U0 i))(hb:attributeBase (.Name x p) f X.env (eval (.Name x p) X.env)=eval (.Name x p) X.env):AE X kd (.Attribute (.Name x p) f pos) (Me i cs f):=by
 with_unfolding_all exact(yo (H0 ho hb) λσ H Q h=>by
  obtain⟨F,B,g,as,r,j,R,e,q⟩:=h;obtain⟨c,f2,u,w,v,k,b,e⟩:=o_ e;cases e;obtain⟨a,m,l,d,y,z,n,o,s,A,C,t⟩:=R.mks k;exact⟨.ref a,n,a,_,m,_,d,rfl,o,(hc _ b).1,(hc _ b).2,⋯,q d [] g H R (.lf s) Grow.refl⟩)
def iW(hc:CF X.K kd cs f)(ho:PE X (.Name x p) (U0 i))(hb:attributeBase (.Name x p) f X.env (eval (.Name x p) X.env)=eval (.Name x p) X.env)(hg:Gl X "len")(hm:X.mg "len"=none)
 (he:starEach [.Attribute (.Name x p) f pos] X.env=(false,eval (.Attribute (.Name x p) f pos) X.env)::starEach [] X.env) (hpl:(backTo cpos<|starEach [] X.env).any (·.1)=false):
 AE X kd (.Call (.Name "len" p') [.Attribute (.Name x p) f pos] [] cpos) (gu i cs f):=by
 with_unfolding_all exact(yo (FS rk hg hm rfl (Q4 (H0 ho hb) LH he) (by decide) (by decide) he hpl) λσ H Q h=>by
  obtain⟨F,B,ad,as,r,as',R,e,q⟩:=h;obtain⟨c,f1,st,w,ts,k,hm,hne,e⟩:=pL e;cases e;obtain⟨a,dx,l,v1,vs,fp,hs,hH,rp,hL,rl,hfp⟩:=R.mks k;refine⟨.ref a,hs,a,_,dx,_,.ref l,rfl,hH,(hc _ hm).1,(hc _ hm).2, ?_,.ref l,ts.length,rfl,.inl ⟨vs,.inl<|.inl hL,rl.length.symm⟩,q _ [] ad H R (.lf<|.int _) Grow.refl⟩;rw[List.lookup_cons,beq_eq_false_iff_ne.mpr<|Ne.symm hne];simp)
def h_(hc:CF X.K kd cs f)(ho:PE X (.Name x p) (U0 i))(hy:PE X (.Name y p') (U0 j))(hb:attributeBase (.Name x p) f X.env (eval (.Name x p) X.env)=eval (.Name x p) X.env)
 (hbase:attributeBase (.Attribute (.Name x p) f pos) "append" X.env (eval (.Attribute (.Name x p) f pos) X.env)=eval (.Attribute (.Name x p) f pos) X.env)
 (hfew:((backTo cpos<|starEach [.Name y p'] X.env).all (λx=>!x.1)&&(backToKw cpos<|keywordEach [] X.env).all (λx=>x.1.isSome)
  && decide (([.Name y p']:List Expr).length+([]:List Keyword).length+(if([]:List Keyword).isEmpty then 0 else 1)<30))=true)
 (hline:(apos.endLine==cpos.line)=true) (hst:starEach [.Name y p'] X.env=(false,eval (.Name y p') X.env)::starEach [] X.env) (hplain:(backTo cpos<|starEach [] X.env).any (·.1)=false) {spos}
 (hsw:swapsWith (.Call (.Attribute (.Attribute (.Name x p) f pos) "append" apos) [.Name y p'] [] cpos) none spos.line X.env=pure false):
 AP X kd n (.Expr (.Call (.Attribute (.Attribute (.Name x p) f pos) "append" apos) [.Name y p'] [] cpos) spos) (ix i j cs f):=by
 with_unfolding_all exact(vE (MO (mF PySem.F.plainAttrs_list PySem.F.slot_list_append PySem.F.type_list_append Lh (H0 ho hb) (Q4 hy LH hst) hbase hfew hline hst hplain) hsw) λD σ H h=>by
  obtain⟨F,B,g,as,o,R,e,q⟩:=h;obtain⟨c,f1,O,w,E,s,d,k,k',P,G,hz,e⟩:=pP e;subst e;obtain⟨a,Q,l,v1,t,fp,S,T,rp,U,V,r⟩:=R.mks k;obtain⟨v,hj,A⟩:=R.sl j _ k';have hi:=(zzG.mp k).1;generalize hfj:g j=fj at A;cases A with
  |lf I=>
   have nd:=R.nd i;rw[r]at nd;have J:a≠l:=λe=>(zzW.mp nd).1 (by rw[e];exact zzF);have L:=(zzW.mp (zzW.mp nd).2).1;have W:l ∈ g i:=by rw[r];exact zzD _ zzF
   have M:Grow _ H (G1 (Gw [] g) (g i)<|g i) (upd H l<|.lst<|t++[v]):=⟨λb u h n=>by rw[zK λe=>n<|by subst e;exact .inr ⟨i,W⟩];exact h,λb z=>.inl<|z.elim (λy=>y.1) λy=>.inr ⟨i,y⟩⟩;obtain⟨R2,g2⟩:=R.chg1 (H':=upd H l<|.lst _) hi S (R.nd i) (λa m=>.inl m) (λb u h n=>by rwa [zK λe=>n<|by subst e;exact W]) (λb m=>by
    by_cases e:b=l
    . subst e;rw[yd];simp
    . rw[zK e];exact(R.gtr b<|.inr ⟨i,m⟩).1) (by
    have r2:=IL (Rp.grow M I) E<|ZN.grow M (λb m u h=>by rwa [zK λe=>L<|by subst e;exact m]) V;have Y:=RoL.cons (Ro.lf<|Rp.grow M rp)<|RoL.cons (Ro.ls yd r2) .nil;rw[zyE]at Y;have Z:=Ro.ob (Rp.cl c) (show upd H l _ a=some (.ins (kd.c c) Q<|[f1,f].zip [v1,.ref l]) by rwa [zK J]) rfl Y;rw[r]
    rwa [r]at Z)
   refine⟨.ref a,S,a,_,Q,_,.ref l,rfl,T,(hc _ P).1,(hc _ P).2, ?_,.inl ⟨rfl,t,.inl<|.inl U⟩,v,hj,l,t,v,rfl,rfl,U,by rw[V.length];exact hz,q σ _ _ (λ_ _=>rfl) R2 g2⟩;rw[List.lookup_cons,beq_eq_false_iff_ne.mpr<|Ne.symm G];simp)
end
def nc(n0:List Str):Nat->D->Bool
 |0,_=>false
 |n+1,.tup ds=>ds.all (nc n0 n)
 |n+1,.ob _ ns ds=>decide (ns≠n0)&&ds.all (nc n0 n)
 |_+1,.lst _=>false
 |_+1,.dct _=>false
 |_+1,_=>true
section
variable{K:zzA}{kd:KD}{O:Addr->Prop}{H:Hp}{a l C dx:Addr}{f1 f2:Str}{v1 v2:V}{vs0:List V}
def g_(ha:H a=some (.ins C dx [(f1,v1),(f2,v2)]))(hl:H l=some (.lst vs0)){v d}(h:Rp K kd O H v d):∀n,nc [f1,f2] n d=true->Rp K kd (λz=>O z\/z=a\/z=l) H v d:=
 Rp.rec (motive_2:=λg f _=>∀n,f.all _=true->RpL K kd _ H g f) (motive_3:=λ_ _ _=>True)
  (λ_ _=>.non) (λb _ _=>.bl b) (λi _ _=>.int i) (λx _ _=>.str x)
  (λ{c g f} n h _ r m e=>by
   cases m with
   |zero=>cases e
   |succ m=>
    refine .tup (λz=>z.elim n λq=>?_) h<|r m e
    rcases q with q|q<;>subst q
    . rcases h with h|⟨o,h⟩<;>(rw[ha]at h;cases h)
    . rcases h with h|⟨o,h⟩<;>(rw[hl]at h;cases h))
  (λk p s t u _ r m e=>by
   cases m with
   |zero=>cases e
   |succ m=>exact .tupK k p s t u (r m e))
  (λ_ _ _ _ m e=>by cases m<;>cases e) (λ_ _ _ _ _ m e=>by cases m<;>cases e)
  (λ_ _ _ _ m e=>by cases m<;>cases e) (λ_ _ _ m e=>by cases m<;>cases e) (λc _ _=>.cl c)
  (λ{c w A j g f} n h y _ r m e=>by
   cases m with
   |zero=>cases e
   |succ m=>
    have e:(decide _&&f.all _)=true:=e;rw[zyC]at e;refine .ob (λz=>z.elim n λq=>?_) h y<|r m e.2
    rcases q with q|q<;>subst q
    . rw[ha]at h;injection h with h
      injection h with _ _ h
      have:=List.map_fst_zip (l₁:=j) (l₂:=g) ⋯;rw[<-h]at this;exact of_decide_eq_true e.1 this.symm
    . rw[hl]at h;cases h)
  (λ_ _=>.nil) (λ_ _ h r n e=>by
   rw[List.all_cons,zyC]at e;exact .cons (h n e.1)<|r n e.2) ⋯ (λ_ _ _ _=>⋯) h
end
theorem RpA.less{K kd F F' H}(g:∀a,F' a->F a):∀{vs:List V}{ds:List (Bool×D)},RpA K kd F H vs ds->RpA K kd F' H vs ds
 |_,_,.nil=>.nil
 |_,_,.cons h r=>.cons (h.less λz q=>⟨q.1,g z q.2⟩)<|RpA.less g r
def cN(n0:List Str):O->Bool
 | .lf _ d=>nc n0 60 d
 |_=>false
def ku(n0:List Str):O->Bool
 | .lf _ d=>nc n0 60 d
 | .nd .ls os=>os.all (cN n0)
 |_=>false
def Ei:Option (Option O)->Option D
 |some (some (.nd (.ob c [f1,f2]) [.lf st w,.nd .ls ts]))=>if st=true/\ts.all O.isLf=true/\O.strs ts=true then some (.ob c [f1,f2] [w,.lst<|O.toDs ts])else none
 |_=>none
def bx:D->List Str
 | .ob _ ns _=>ns
 |_=>[]
def Ff{s d}(e:Ei s=some d):∃c f1 f2 w ts,s=some (some<|.nd (.ob c [f1,f2]) [.lf true w,.nd .ls ts])/\ts.all O.isLf=true/\O.strs ts=true/\d = .ob c [f1,f2] [w,.lst<|O.toDs ts]:=by
 unfold Ei at e
 split at e
 . obtain⟨⟨a,b,f⟩,g⟩:=zy e;subst a;cases g;exact⟨_,_,_,_,_,rfl,b,f,rfl⟩
 . cases e
def yZ(i:Nat)(tbl:List (Str×Fn))(m:Str)(fr:AF):EF:=λas=>(Ei as[i]?).bind λd0=>(d_ m d0).bind λc=>(Nx tbl c).bind λg=>(fr as).bind λq=>(Ei q.2[i]?).bind λd=>(Xh q.2 q.1).bind λx=>(g ((true,d)::x)).bind λo=>if ku (bx d) o=true then some (.ow o,q.2)else none
section
variable{K:zzA}{kd:KD}{F F' B G:Addr->Prop}{H:Hp}{T:List Addr}{n0:List Str}
def m7(cv:∀v d,nc n0 60 d=true->Rp K kd (TB F' (· ∈ T)) H v d->∀st,Rp K kd (Lv F B G st) H v d){N v o fp}(e:ku n0 o=true)(h:Ro (λ_ v d=>Rp K kd (TB F' (· ∈ T)) H v d) N H v o fp):Xy K kd F B G H v o fp:=by
 cases h with
 |lf r=>exact .lf (cv _ _ e r _)
 |ls a c=>
  refine .ls a ?_;exact RoL.ind (P:=λf b g=>b.all _=true->ZN K kd F B G H f b g) (λ_=>.nil) (λh _ i e=>by
   rw[List.all_cons,zyC]at e;cases h with
   |lf r=>exact .cons (.lf<|cv _ _ e.1 r _) (i e.2)
   |_=>cases e.1) c e
 |_=>cases e
end
section
variable{X:Cx}{kd:KD}{e:Expr}{es:List Expr}{fr:AF}{pos apos p:Pos}{m x:Str}{tbl:List (Str×Fn)}{k i:Nat}
def lK(hT:MT X.prog X.w X.K X.mg X.base kd m k tbl)(hr:Room k X.A){σ H Q t}(ht:∀σ H Q,mB X.K kd fr σ H Q->t σ H Q)(h:al X.K kd (yZ i tbl m fr) σ H Q):rM X m (U0 i) t σ H Q:=by
 obtain⟨F,B,ad,as,r,as',R,e,q⟩:=h;obtain⟨d0,h0,e⟩:=bS_<|e;obtain⟨c,p,e⟩:=bS_ e;obtain⟨g,h4,e⟩:=bS_ e;obtain⟨⟨rs,G⟩,h5,e⟩:=bS_ e;obtain⟨d,h6,e⟩:=bS_ e;obtain⟨ds,h7,e⟩:=bS_ e;obtain⟨o,h8,e⟩:=bS_ e;obtain⟨I,e⟩:=zy e;cases e;obtain⟨c0,f1,f2,w,ts,k0,_,_,e0⟩:=Ff h0;subst e0;obtain⟨a,dx,l,v1,vs0,fp,Z,hH,_,_,_,_⟩:=R.mks k0;have p:(if m ∈ _ then none else some c0)=some c:=p
 by_cases u:m ∈ [f1,f2]
 . rw[if_pos u]at p;cases p
 rw[if_neg u]at p;cases p;obtain⟨k',f,fd,ps,J,cl,me,F1,b⟩:=hT _ _ h4;refine⟨.ref a,Z,a,_,dx,_,k',f,fd,ps,_,rfl,hH,cl,me, ?_,F1,hr.mono J,b,ht _ _ _ ⟨F,B,ad,as,rs,G,R,h5,λvs j H2 R2 L g2=>?_⟩⟩
 . have:List.lookup m ([f1,f2].zip [v1,V.ref l])=none:=(Wy _ _ _).trans<|Km u;exact this
 obtain⟨c1,g1,M,w1,ts1,k1,N,O,s⟩:=Ff h6;subst s;obtain⟨a',dx',D,v1',vs',fp',x,y,P,C,S,hfp'⟩:=R2.mks k1;rw[Z]at x;cases x;refine⟨λz=>Lv F B _ true z/\z≠a/\z≠D,_,o,λz n=>R2.trk true z n.1,.cons ?_ ?_,h8,λv T H' u hT U W ro=>?_⟩
 . refine .ob (λz=>z.2.2.1 rfl) y rfl<|.cons (P.less λz q=>q.2.1)<|.cons (.lst (λz=>z.2.2.2 rfl) (.inl C) ?_) .nil;have:=L5 S N;rw[O]at this;exact this.less λz q=>q.2.1
 . exact(MY R2 L h7).less λz q=>q.1
 . obtain⟨R',g'⟩:=R2.news u hT U W;refine q v T j H' R' (m7 (F':=λz=>Lv F B _ true z/\z≠a/\z≠D) (λv d Y rp st=>?_) I ro)<|g2.trans g';refine(g_ (U _ _ y) (U _ _ C) rp 60 Y).less λz n=>?_
   by_cases s:z=a
   . exact .inr<|.inl s
   by_cases E:z=D
   . exact .inr<|.inr E
   refine .inl ?_
   rcases n with(n|n)|n|n
   . exact .inl ⟨.inl<|.inl ⟨rfl,n.2⟩,s,E⟩
   . exact .inl ⟨.inl<|.inr n,s,E⟩
   . exact .inr n
   . exact .inl ⟨.inr<|.inr n,s,E⟩
def wb{pl}(hT:MT X.prog X.w X.K X.mg X.base kd m k tbl)(hr:Room k X.A)(hx:ZE xJ X λ_ _ _=>False)(ho:PE X (.Name x p) (U0 i))(ha:AA X kd (e::es) fr)
 (hst:starEach (e::es) X.env=(false,eval e X.env)::starEach es X.env) (hpl:(backTo pos<|starEach es X.env).any (·.1)=false)
 (ht:eval (.Call (.Attribute (.Name x p) m apos) (e::es) [] pos) X.env=(do
  let ov <-eval (.Name x p) X.env
  standAt apos.atName
  let(f,first) <-holding [ov] (getMethod ov m pl)
  callWith pos f first (backTo pos<|starEach (e::es) X.env) (backToKw pos<|keywordEach [] X.env))):
 AE X kd (.Call (.Attribute (.Name x p) m apos) (e::es) [] pos) (yZ i tbl m fr):=by
 with_unfolding_all exact(yo (Ae ho hx ha hst hpl ht) λσ H Q h=>lK hT hr (λσ H Q z=>z) h)
end
def qA(i:Nat)(cs:List Str)(f:Str)(fe:EF):u5:=λas=>(fe as).bind λp=>match p.1 with
 | .ow o=>match p.2[i]? with
  |some (some (.nd (.ob c ns) os))=>if c ∈ cs/\f ∉ ns/\ns.length<1000 then some (p.2.set i<|some<|.nd (.ob c<|ns++[f])<|os++[o])else none
  |_=>none
 |_=>none
def uj{i:Nat}{cs:List Str}{f}{r:RV}{as as':AS}(e:(match r with
 | .ow o=>match as[i]? with
  |some (some (.nd (.ob c ns) os))=>if c ∈ cs/\f ∉ ns/\ns.length<1000 then some (as.set i<|some<|.nd (.ob c<|ns++[f])<|os++[o])else none
  |_=>none
 |_=>none)=some as'):∃o c ns os,r = .ow o/\as[i]? = some (some<|.nd (.ob c ns) os)/\c ∈ cs/\f ∉ ns/\ns.length<1000/\as'=as.set i (some<|.nd (.ob c<|ns++[f])<|os++[o]):=by
 split at e
 . split at e
   . obtain⟨⟨a,b,d⟩,g⟩:=zy e;cases g;rename_i k;exact⟨_,_,_,_,rfl,k,a,b,d,rfl⟩
   . cases e
 . cases e
def rV{X:Cx}{kd e o}{fe:EF}{pos pos' cs n}{j:Nat}(hc:CF X.K kd cs n)(ho:PE X o (U0 j))(he:AE X kd e fe)(hs:swapsWith e (some<|.Attribute o n pos') pos.line X.env=pure false):fN X kd (.Assign [.Attribute o n pos'] e pos) (qA j cs n fe):=by
 with_unfolding_all exact(vE (rA ho he hs) λD σ H h=>by
  obtain⟨F,B,ad,as,as',R,e,q⟩:=h;obtain⟨⟨p,as1⟩,h1,e⟩:=bS_<|e;obtain⟨o0,c,ns,os,rfl,k1,hm,hf,hz,rfl⟩:=uj e;refine⟨F,B,ad,as,_,as1,R,h1,λv T1 ad1 H1 R1 rv1 g1=>?_⟩;obtain⟨v0,hs0,ro0⟩:=R1.sl j _ k1;refine⟨v0,hs0, ?_⟩;generalize hfp:ad1 j=fp1 at ro0;cases ro0 with
  |ob hC hH hl rl=>
   rename_i l dx C vs fp;have ec:=hC.cl_eq;subst ec;have hnd:=R1.nd j;rw[hfp]at hnd;have rl':ZN X.K kd F B _ H1 _ _ _:=rl.append<|RoL.one rv1;refine⟨l,_,dx,_,rfl,hH,(hc _ hm).1,(hc _ hm).2,by rw[List.length_zip,hl,Nat.min_self,<-hl];exact hz, ?_⟩;rw[F_ hl hf];have dis:=λa m=>R1.dis j a (by rw[hfp];exact zzD _ m);obtain⟨R4,g4⟩:=R1.mut (n:=.nd (.ob c<|ns++[n]) _) (zzG.mp k1).1 hfp hs0 (fp':=fp++T1) (λa m=>by
    rwa [zyE]at m) (by
    rw[zyE];exact zxD.mpr ⟨(zzW.mp hnd).2,R1.tnd,λa m b m' e=>dis a m<|by rw[e];exact m'⟩) (by rw[hH];simp) λH' G' hl' gr kp=>.ob (.cl c) hl' (by rw[zzJ,zzJ,hl];rfl)<|ZN.grow gr kp rl'
   exact q _ _ R4<|g1.trans g4)
abbrev VF:=AS->Option (D×AS)
def bv(n:Nat)(K:zzA)(kd:KD)(f:VF):TS:=λD σ H=>∃F B ad as d as',Rel K kd F B [] ad as σ H/\f as=some (d,as')/\∀σ' ad' H' v,(∀i,i<n->σ'[i]? = σ[i]?)->Rel K kd F B [] ad' as' σ' H'->Grow (Gw [] ad) H (Gw [] ad') H'->Rp K kd (Lv F B (Gw [] ad') true) H' v d->D.rt v H'
@[irreducible] def ki(X:Cx)(kd:KD)(n:Nat)(st:List Stmt)(f:VF):Prop:=HW X st<|bv n X.K kd f
def cR:RV×AS->Option (D×AS)
 |(.ow (.lf st d),as)=>if st=true\/zu d=true then some (d,as)else none
 |_=>none
def W4(fe:EF):VF:=λas=>(fe as).bind cR
def wA(f:SF)(g:VF):VF:=λas=>(f as).bind λo=>match o with
 | .nx as1=>g as1
 |_=>none
section
variable{X:Cx}{kd:KD}{n:Nat}{e:Expr}{st:Stmt}{rest:List Stmt}{fe:EF}{f:SF}{g:VF}{pos:Pos}
def mS:AP X kd n st qL:=by with_unfolding_all exact(λa s σ H D I h=>by obtain⟨F,B,b,as,o,R,e,q⟩:=h;cases e)
def vS(he:AE X kd e fe):ki X kd n [.Return (some e) pos] (W4 fe):=by with_unfolding_all exact(XM (GZ<|sQ he) λD σ H h=>by
 obtain⟨F,B,ad,as,d,as',R,e,q⟩:=h;obtain⟨⟨p,as1⟩,h1,e⟩:=bS_<|e
 match p,e,h1 with
 | .ow (.lf st d0),e,h1=>
  obtain⟨hf,e⟩:=zy<|e;cases e;refine⟨F,B,ad,as,_,_,R,h1,λv T' ad' H' R' rv g=>?_⟩;cases rv with
  |lf rp=>exact q σ ad' H' v (λ_ _=>rfl) R' g (hf.elim (λe=>by subst e;exact rp) rp.flat))
def zW(h1:AP X kd n st f)(h2:ki X kd n rest g):ki X kd n (st::rest) (wA f g):=by with_unfolding_all exact(XM (Wj h1 h2) λD σ H h=>by
 obtain⟨F,B,l,as,d,a,R,e,q⟩:=h;obtain⟨o,p,e⟩:=bS_<|e;cases o with
 |nx b=>exact⟨F,B,l,as,_,R,p,λA c C r s t=>⟨F,B,c,b,d,a,s,e,λu j w v x R2 y z=>q u j w v (λi k=>(x i k).trans<|r i k) R2 (t.trans y) z⟩⟩
 |_=>cases e)
end
def uG(n m:Nat)(c:VF)(xs:List ZA)(o:O):Option (D×O):=if xs.length+1=m then(c<|WN n (o::xs.map qH)).bind λz=>(z.2[0]?).bind λs=>s.bind λr=>if r.str=true then some (z.1,r)else none else none
def spS(K:zzA)(kd:KD)(g:List ZA->O->Option (D×O)):Sp:=λvs H Q _=>∃(F:Addr->Prop) (T:List Addr) (v:V) (ws:List V) (xs:List ZA) (o:O) (d:D) (r:O),vs=v::ws/\(∀a,F a->H a≠none)/\T.Nodup/\(∀a ∈ T,H a≠none/\¬F a)/\RpI K kd F (λ_=>False) (· ∈ T) H ws xs/\Xy K kd F (λ_=>False) (· ∈ T) H v o T/\g xs o=some (d,r)/\
 ∀(u:V) (H':Hp) (T':List Addr),(∀c u,H c=some u->c ∉ T->H' c=some u)->T'.Nodup->(∀a ∈ T',a ∈ T\/H a=none)->(∀a ∈ T',H' a≠none)->Xy K kd F (λ_=>False) (· ∈ T') H' v r T'->Rp K kd (Lv F (λ_=>False) (· ∈ T') true) H' u d->Q u H'
section
variable{P:Program}{w:World}{K:zzA}{mg:Str->Option Value}{base:Heap}
def RY{kd x qual st f fd N ps}{k:Nat}{c}(Fn:Fun K x qual st f fd)(S:FnScope N ps (zc st))(hN:ps.length<=N.length)
 (hb:∀(cdv:Value) (A:Around) (outer:List Env) (s:Shared) (H:Hp) (E:XK),Room k (A.deeper<|envOfC qual (zc st) s.heap.objs.size f cdv)->ki (FB xJ P w K mg base N qual (zc st) f cdv A outer s H E).nox kd 1 (YI st) c):
 FnOk P w K mg base xJ (k+1) f fd ps (spS K kd<|uG N.length ps.length c):=by
 with_unfolding_all (
 refine Fn.ok S (λX H Q E h=>?_) λB A b s H X Q E Y h=>⟨_,hb B A b s H E Y, ?_⟩
 . obtain⟨F,T,v,C,t,o,d,r,rfl,L,M,O,j,U,e,q⟩:=h;obtain⟨V,_⟩:=ite_some'<|e
   rwa [zzT,j.length]
 . obtain⟨F,T,v,C,t,o,d,r,rfl,L,M,O,j,U,e,q⟩:=h;obtain⟨V,Z⟩:=ite_some'<|e;obtain⟨⟨d0,D⟩,e1,z1⟩:=bS_ Z;obtain⟨G,k0,z2⟩:=bS_ z1;obtain⟨r0,e2,z3⟩:=bS_ z2;obtain⟨hr0,z4⟩:=zy z3;subst e2;cases z4;have J:ZN K kd F (λ_=>False) (· ∈ T) H (v::C) (o::t.map qH) T:=by
    have:=RoL.cons U<|u_ j
    rwa [zyE]at this
   have R0:=Ej (N:=N) L M O (De t) (by rw[zzT,zzB];omega) J;have W:∀a,Gw [] (λi=>if i=0 then T else[]) a->a ∈ T:=λa z=>z.elim ⋯ λ⟨i,y⟩=>by
    by_cases e:i=0
    . subst e;simpa using y
    . simp[e]at y
   refine⟨F,λ_=>False,_,WN N.length _,d0,D,R0,e1,λσ' l H' u sp R g rp=>?_⟩;obtain⟨u0,G,t0⟩:=R.sl 0 _ k0;rw[sp 0 ⋯]at G;have sv:(L2.start N (v::C))[0]? = some _:=rfl;cases(sv.symm.trans G);have p:∀a,a ∈ l 0->Gw [] l a:=λa z=>.inr ⟨_,z⟩;exact q u H' _ (λc u h n=>g.keep c u h λz=>n<|W c z) (R.nd _) (λa m=>(g.own a<|p a m).imp (W a) id) (λa m=>(R.gtr a<|p a m).1) (Xy.lv (λst a z=>z.imp id<|p a) t0)<|rp.less λa z=>z.imp id<|p a)
end
def Ro.monoS{L L' N N' H}(hL:∀v d,L true v d->L' true v d)(hN:∀a,N a->N' a){v o fp}(s:o.str=true)(h:Ro L N H v o fp):Ro L' N' H v o fp:=
 Ro.rec (motive_2:=λg f b _=>O.strs f=true->RoL L' N' H g f b)
  (λ{i v d} h s=>by have e:=s;subst e;exact .lf<|hL _ _ h) (λh _ r s=>.ls h<|r s) (λh l _ r s=>.dc h l<|r s) (λc h l _ r s=>.ob (hL _ _ c) h l<|r s) (λn h _ r s=>.tp (hN _ n) h<|r s)
  (λ_=>.nil) (λ_ _ h r s=>.cons (h ((zyC _ _).mp s).1)<|r ((zyC _ _).mp s).2) h s
def Tb(i:Nat)(as:AS):List RV->Option (List ZA)
 | []=>some []
 | .ow o::rs=>(Tb i as rs).bind λy=>some ((zu o.toD||o.str,o.toD)::y)
 | .bo j::rs=>(as[j]?).bind λs=>s.bind λo=>if j=i then none else(Tb i as rs).bind λy=>some ((false,o.toD)::y)
section
variable{K:zzA}{kd:KD}{F B:Addr->Prop}{ad:Ad}{as:AS}{σ:St}{H:Hp}{i:Nat}
def DC(R:Rel K kd F B [] ad as σ H){vs rs xs}(h:RVs K kd F B ad σ H vs rs)(e:Tb i as rs=some xs):RpI K kd (λz=>Lv F B (Gw [] ad) true z/\z ∉ ad i) (λ_=>False) (· ∈ ad i) H vs xs:=by
 induction h generalizing xs with
 |nil=>cases e;exact .nil
 |cons h t l=>
  rename_i v r E q;cases r with
  |ow o=>
   obtain⟨y,f,e⟩:=bS_<|e;cases e;refine .cons ?_<|l f;cases hf:zu o.toD with
   |true=>exact(Bn h).flat hf
   |false=>
    refine(Eg h).less λa z=>?_
    rcases z with(z|z)|z
    . rw[show o.str=true from z.1];exact z.2.1
    . exact z.elim
    . exact .inr (.inr ⟨i,z⟩)
  |bo j=>
   obtain⟨s,k,u⟩:=bS_<|e;obtain⟨o,x,c⟩:=bS_ u;subst x
   by_cases g:j=i
   . rw[if_pos g]at c;cases c
   rw[if_neg g]at c;obtain⟨y,f,A⟩:=bS_ c;cases A;refine .cons ?_<|l f;obtain⟨w,p,C⟩:=R.sl j _ k;rw[h.2]at p;cases p;have ob:∀z,Lv (λz=>Lv F B (Gw [] ad) true z/\z ∉ ad i) (λ_=>False) _ false z->z ∈ ad i:=λz b=>by
    rcases b with(b|b)|b
    . exact nomatch b.1
    . exact b.elim
    . exact b
   exact Ro.rp false (λD v d _ r=>(r).less λz b=>.inr<|.inr ⟨i,ob z b⟩) (λa n z=>n<|.inr<|.inr ⟨i,ob a z⟩) ⋯ (λa m z=>g<|R.inj j i a m<|ob a z) C
end
def nM{K:zzA}{kd:KD}{F B:Addr->Prop}{ad:Ad}{as:AS}{σ:St}{H:Hp}{i:Nat}{T:List Addr}(R:Rel K kd F B [] ad as σ H){a}(z:Gw [] (Y8 ad i T) a):G1 (Gw [] ad) (ad i) T a:=by
 rcases z with z|⟨k,z⟩
 . exact nomatch z
 . by_cases e:k=i
   . subst e;rw[ya]at z;exact .inr z
   . rw[ye e]at z;exact .inl ⟨.inr ⟨k,z⟩,λy=>e<|R.inj k i a z y⟩
def cz(m:Str):Option (Option O)->Option Str
 |some (some (.nd (.ob c ns) _))=>if m ∈ ns then none else some c
 |_=>none
def wB(i:Nat)(c0 m:Str)(g:List ZA->O->Option (D×O))(fr:AF):EF:=λas=>(cz m as[i]?).bind λc=>if c=c0 then(fr as).bind λq=>(Tb i q.2 q.1).bind λxs=>(q.2[i]?).bind λs=>s.bind λo=>(g xs o).bind λz=>if z.2.str=true then some (.ow<|.lf true z.1,q.2.set i<|some z.2)else none else none
def MS(P:Program)(w:World)(K:zzA)(mg:Str->Option Value)(base:Heap)(kd:KD)(m:Str)(k:Nat)(c:Str)(g:List ZA->O->Option (D×O)):Prop:=
 ∃k' f fd ps,k'<=k/\Cls K (kd.c c)/\Meth K (kd.c c) m f/\FnOk P w K mg base xJ k' f fd ps (spS K kd g)/\Binds K fd ps []
section
variable{X:Cx}{kd:KD}{e:Expr}{es:List Expr}{fr:AF}{pos apos p:Pos}{m x c0:Str}{g:List ZA->O->Option (D×O)}{k i:Nat}
def lC(hT:MS X.prog X.w X.K X.mg X.base kd m k c0 g)(hr:Room k X.A){σ H Q t}(ht:∀σ H Q,mB X.K kd fr σ H Q->t σ H Q)(h:al X.K kd (wB i c0 m g fr) σ H Q):rM X m (U0 i) t σ H Q:=by
 obtain⟨F,B,ad,as,r,as',R,e,q⟩:=h;obtain⟨c,h0,e⟩:=bS_<|e;obtain⟨ec,z0⟩:=ite_some' e;subst ec;obtain⟨⟨rs,as2⟩,h5,z1⟩:=bS_ z0;obtain⟨xs,h6,z2⟩:=bS_ z1;obtain⟨s,k2,z3⟩:=bS_ z2;obtain⟨o,e1,z4⟩:=bS_ z3;subst e1;obtain⟨⟨d,r⟩,h7,z5⟩:=bS_ z4;obtain⟨hst,z6⟩:=zy z5;cases z6;obtain⟨ns,os,k0,hn⟩:∃ns os,as[i]? = some (some _)/\m ∉ ns:=by
  unfold cz at h0
  split at h0
  . rename_i c' ns' os' k0
    by_cases hm:m ∈ ns'
    . rw[if_pos hm]at h0;cases h0
    . rw[if_neg hm]at h0;cases h0;exact⟨_,_,k0,hm⟩
  . cases h0
 obtain⟨v,hs,ro⟩:=R.sl i _ k0;generalize hfp:ad i=fp0 at ro;cases ro with
 |ob hC hH hl rl=>
  rename_i a dx C vs0 fp;have ec:=hC.cl_eq;subst ec;obtain⟨k',f,fd,ps,hk',cl,me,F1,b⟩:=hT;refine⟨.ref a,hs,a,_,dx,_,k',f,fd,ps,_,rfl,hH,cl,me,(Wy _ _ _).trans<|Km hn,F1,hr.mono hk',b,ht _ _ _ ⟨F,B,ad,as,rs,as2,R,h5,λvs ad2 H2 R2 rv2 g2=>?_⟩⟩;obtain⟨v',hv',ro'⟩:=R2.sl i _ k2;rw[hs]at hv';cases hv';have hi:=(zzG.mp k2).1;refine⟨λz=>Lv F B _ true z/\z ∉ ad2 i,ad2 i,.ref a,vs,xs,o,d,r,rfl,λz hz=>R2.trk true z hz.1,R2.nd i,λz mz=>⟨(R2.gtr z<|.inr ⟨i,mz⟩).1,λy=>y.2 mz⟩,DC R2 rv2 h6,Xy.lv (λst z hz=>?_) ro',h7,λu H' T' kp nd sub al ro3 rp=>?_⟩
  . rcases hz with(hz|hz)|hz
    . rw[hz.1];exact hz.2.1
    . exact hz.elim
    . exact .inr<|.inr ⟨i,hz⟩
  . have le:∀z,Lv F B (G1 _ _ T') true z->Lv (λz=>Lv F B (Gw [] ad2) true z/\z ∉ ad2 i) (λ_=>False) _ true z:=λz hz=>by
     rcases hz with(hz|hz)|hz|hz
     . exact .inl<|.inl ⟨rfl,.inl<|.inl hz,λy=>(R2.gtr z<|.inr ⟨i,y⟩).2 hz.2⟩
     . exact .inl<|.inl ⟨rfl,.inl<|.inr hz,λy=>(R2.btr z hz).2.2<|.inr ⟨i,y⟩⟩
     . exact .inl<|.inl ⟨rfl,.inr hz.1,hz.2⟩
     . exact .inr hz
    have r0:Xy X.K kd F B _ H' _ r T':=Ro.monoS (λv d h=>Rp.less le h) (λz n y=>n<|le z y) hst ro3;obtain⟨R3,g3⟩:=R2.chg1 hi hs nd sub kp al r0;exact q u [] _ H' R3 (.lf<|rp.less λz y=>le z<|y.imp id<|nM R2)<|g2.trans g3
def we{pl}(hT:MS X.prog X.w X.K X.mg X.base kd m k c0 g)(hr:Room k X.A)(hx:ZE xJ X λ_ _ _=>False)(ho:PE X (.Name x p) (U0 i))(ha:AA X kd (e::es) fr)
 (hst:starEach (e::es) X.env=(false,eval e X.env)::starEach es X.env) (hpl:(backTo pos<|starEach es X.env).any (·.1)=false)
 (ht:eval (.Call (.Attribute (.Name x p) m apos) (e::es) [] pos) X.env=(do
  let ov <-eval (.Name x p) X.env
  standAt apos.atName
  let(f,first) <-holding [ov] (getMethod ov m pl)
  callWith pos f first (backTo pos<|starEach (e::es) X.env) (backToKw pos<|keywordEach [] X.env))):
 AE X kd (.Call (.Attribute (.Name x p) m apos) (e::es) [] pos) (wB i c0 m g fr):=by
 with_unfolding_all exact(yo (Ae ho hx ha hst hpl ht) λσ H Q h=>lC hT hr (λσ H Q z=>z) h)
end
def E2{P w K mg base kd m c}{k k':Nat}{C f fd ps g}(ci:CI K kd mg c C)(me:Meth K C m f)(F:FnOk P w K mg base xJ k' f fd ps (spS K kd g))(b:Binds K fd ps [])(hk:k'<=k:=by decide):MS P w K mg base kd m k c g:=by
 have e:=ci.eq;subst e;exact⟨_,_,_,_,hk,ci.cl,me,F,b⟩
structure Co(x:Str)(P:Program)(w:World)(K:zzA)(mg:Str->Option Value)(base:Heap)(kd:KD)(k:Nat)(f:Addr)(d:FuncData)(ps:List Str)(gg:List (Bool×D)->Option O):Prop where
 F:FnOk P w K mg base xJ k f d ps (VT K kd gg)
 m:mg x=some (.ref f)
 kp:W.keepIn K (.ref f)=true
 b:Binds K d ps []
def rB:List Str->List Str->List (Option Nat)->List Str
 |t::ts,XN,none::c=>t::rB ts XN c
 | [],XN,none::c=>""::rB [] XN c
 |ts,XN,some j::c=>XN.getD j ""::rB ts XN c
 |_,_,[]=>[]
def j9:Expr->Str
 | .Name x _=>x
 |_=>""
def mi:Expr->List Str
 | .Tuple es _ _=>es.map j9
 |e=>[j9 e]
def jT:Nat->List (Option Nat)->List Nat
 |_,[]=>[]
 |k,none::c=>k::jT (k+1) c
 |k,some _::c=>jT (k+1) c
theorem J5:∀(c d:List (Option Nat)) (i:Nat),i ∈ jT d.length c->(d++c)[i]? = some none
 | [],_,_,h=>nomatch h
 |none::c,d,i,h=>by
  have ih:=J5 c (d++[none]) i;rw[zzJ,zxB]at ih
  rcases zzC.mp (h)with rfl|h
  . simp
  . exact ih h
 |some x::c,d,i,h=>by
  have ih:=J5 c (d++[some x]) i;rw[zzJ,zxB]at ih;exact ih h
def qu{cap}:(jT 0 cap).all (λi=>cap[i]? == some none)=true:=List.all_eq_true.mpr λi m=>by
 have:=J5 cap [] i m;rw[List.nil_append]at this;rw[this];rfl
def bt{N:List Str}(h:decide N.Nodup=true):N.Nodup:=of_decide_eq_true h
section
variable{X:Cx}{kd:KD}{elt tg iter e:Expr}{es ifs:List Expr}{scope:Scope}{pos p:Pos}{cap:List (Option Nat)}{g:GF}{tt:TF}{fe:EF}{fi:IF}{S:List Nat}{fr:AF}{k n:Nat}
def cq{f d ps gg x}(C:Co x X.prog X.w X.K X.mg X.base kd k f d ps gg)(hr:Room n X.A)(ha:AA X kd (e::es) fr)(hn:k<=n:=by omega)(hg:Gl X x:=by rfl)(hdb:(x==("__debug__":Str))=false:=by decide)(he:starEach (e::es) X.env=(false,eval e X.env)::starEach es X.env:=by rfl)(hpl:(backTo pos<|starEach es X.env).any (·.1)=false:=by rfl):
 AE X kd (.Call (.Name x p) (e::es) [] pos) (zd fr gg):=DR C.F (hr.mono hn) hg C.m C.kp C.b yP ha hdb he hpl
def cU{a}{i:Nat}{gs}(h1:AG X kd a [i] g)(h2:nV X kd es S gs)(hs:(assignEach (a::es) X.env).map (·.2)=assign a X.env::(assignEach es X.env).map (·.2):=by rfl):nV X kd (a::es) (i::S) (Wz g gs):=GQ h1 h2 hs
def iy(X:Cx)(kd:KD)(tg:Expr)(g:GF):Prop:=∃S,AG X kd tg S g
def qC(X:Cx)(kd:KD)(es:List Expr)(gs:mY):Prop:=∃S,nV X kd es S gs
def eg(i:Nat){x}(hN:X.N.Nodup)(hi:X.N[i]? = some x:=by rfl)(hx:Loc X.env.scope x:=by first|exact Or.inl rfl|exact Or.inr rfl)(hf:X.fn x=true\/X.env.scope.names.lookup x=some .local:=by first|exact Or.inl rfl|exact Or.inr rfl):iy X kd (.Name x pos) (gN i):=⟨_,DN hN hi hx hf⟩
def dF{gs}{j m:Nat}(h:qC X kd es gs)(hc:X.calm=true:=by rfl)(hn:(assignEach es X.env).length=m:=by rfl)(hst:(assignEach es X.env).findIdx? (·.1)=none:=by rfl):iy X kd (.Tuple es j pos) (gT m gs):=h.elim λ_ h=>⟨_,Jo hc h hn hst⟩
def dw{a gs}(h1:iy X kd a g)(h2:qC X kd es gs)(hs:(assignEach (a::es) X.env).map (·.2)=assign a X.env::(assignEach es X.env).map (·.2):=by rfl):qC X kd (a::es) (Wz g gs):=h1.elim λ_ h1=>h2.elim λ_ h2=>⟨_,GQ h1 h2 hs⟩
def fU:qC X kd [] MV:=⟨_,OG⟩
def c_{body f}(hi:AI X kd tg iter fi)(hg:iy X kd tg g)(hb:ua X kd body f)(hp:PassesOwn (model X.prog X.w) X.A X.env X.xe:=by exact PassesOwn.never)(hc:X.calm=true:=by rfl)(hs:∀x,foldedSetIterable iter X.env x=pure x:=by exact λ_=>rfl):Jl X kd (.For tg iter body [] pos) (XW fi g f):=hg.elim λ_ hg=>Lz hp hc hi hg hb hs
theorem cm(hi:oG X kd tg iter fi)(hg:∀cl s H fp,AG (y2 X (rB (mi tg) X.N cap) scope cl s H fp) kd tg (jT 0 cap) g)(ht:∀cl s H fp,D3 (y2 X (rB (mi tg) X.N cap) scope cl s H fp) ifs<|qK X.K kd tt)(he:∀cl s H fp,AE (y2 X (rB (mi tg) X.N cap) scope cl s H fp) kd elt fe)
 (hc:X.calm=true:=by rfl) (hk:scope.kind = .function:=by rfl) (hcap:RZ (rB (mi tg) X.N cap) X.N scope.names X.env.scope.names cap=true:=by kernel_rfl) (hs:∀x,foldedSetIterable iter X.env x=pure x:=by exact λ_=>rfl):AE X kd (.ListComp elt [⟨tg,iter,ifs,0⟩] scope pos) (yK fi cap g tt fe):=pw hc hi hk hcap qu hg ht he hs
theorem cX{z}{i:Nat}{y py spos}(hN:X.N.Nodup)(hi:oG X kd tg iter fi)(hg:∀cl s H fp,AG (y2 X (rB (mi tg) X.N cap) scope cl s H fp) kd tg (jT 0 cap) g)(ht:∀cl s H fp,D3 (y2 X (rB (mi tg) X.N cap) scope cl s H fp) ifs<|qK X.K kd tt)(he:∀cl s H fp,AE (y2 X (rB (mi tg) X.N cap) scope cl s H fp) kd elt fe)
 (hiy:X.N[i]? = some y:=by rfl) (hy:Loc X.env.scope y:=by first|exact Or.inl rfl|exact Or.inr rfl) (hf:X.fn y=true\/X.env.scope.names.lookup y=some .local:=by first|exact Or.inl rfl|exact Or.inr rfl) (hsw:swapsWith (.ListComp elt [⟨tg,iter,ifs,0⟩] scope pos) (some<|.Name y py) spos.line X.env=pure true:=by rfl)
 (hc:X.calm=true:=by rfl) (hk:scope.kind = .function:=by rfl) (hcap:RZ (rB (mi tg) X.N cap) X.N scope.names X.env.scope.names cap=true:=by kernel_rfl) (hs:∀x,foldedSetIterable iter X.env x=pure x:=by exact λ_=>rfl):Jl X kd (.Assign [.Name y py] (.ListComp elt [⟨tg,iter,ifs,0⟩] scope pos) spos) (zE z i<|yK fi cap g tt fe):=A5 hN hiy hy hf hsw hc hi hk hcap qu hg ht he hs
end
def qJ(ta:TF)(f g:VF):VF:=λas=>(ta as).bind λp=>if p.1=true then f p.2 else g p.2
def Bp{X:Cx}{kd:KD}{n:Nat}{c:Expr}{sts rest:List Stmt}{ta:TF}{f g:VF}{pos:Pos}(hc:AT X kd c ta)(ha:ki X kd n sts f)(hb:ki X kd n rest g):ki X kd n (.If c sts [] pos::rest) (qJ ta f g):=by
 with_unfolding_all exact(XM (Wj (AU hc ha M4) hb) λD σ H h=>by
  obtain⟨F,B,ad,as,d,as',R,e,q⟩:=h;obtain⟨⟨p,as1⟩,h1,e⟩:=bS_<|e;refine⟨F,B,ad,as,p,as1,R,h1,λad' H' R' g=>?_⟩;cases p with
  |true=>exact⟨F,B,ad',as1,d,as',R',e,λσ' ad2 H2 v s R2 g2 rp=>q σ' ad2 H2 v s R2 (g.trans g2) rp⟩
  |false=>exact⟨F,B,ad',as1,d,as',R',e,λσ' ad2 H2 v s R2 g2 rp=>q σ' ad2 H2 v s R2 (g.trans g2) rp⟩)
def l_(as:AS):AS:=as.map<|Option.map O.frz
def A7{a:Addr}(z:Gw [] (λ_=>[]) a):False:=z.elim ⋯ λ⟨j,y⟩=>nomatch y
def Rel.lendA{K:zzA}{kd:KD}{F B:Addr->Prop}{ad:Ad}{as:AS}{σ:St}{H:Hp}(R:Rel K kd F B [] ad as σ H):Rel K kd F B [] (λ_=>[]) (l_ as) σ H:=by
 refine⟨by unfold l_;rw[zzB];exact R.len,λ_ _=>rfl,λ_=>zyJ,(λ_ _ _ x=>nomatch x),zyJ,(λ_ _ x=>nomatch x),R.ftr,λa z=>⟨(R.btr a z).1,(R.btr a z).2.1,A7⟩,λa z=>(A7 z).elim,λi s e=>?_⟩;unfold l_ at e;rw[zzI]at e;obtain⟨s0,k,e1⟩:=zzX.mp e;subst e1;cases s0 with
 |none=>rfl
 |some o=>
  obtain⟨R',v,hv,rp⟩:=R.frz k;exact⟨v,hv,.lf<|rp.less λa z=>z.imp id λy=>(A7 y).elim⟩
def cV:RV->Option D
 | .ow (.lf _ d)=>if zu d=true then some d else none
 |_=>none
def Q1(f:EF):EF:=λas=>(f<|l_ as).bind λp=>(cV p.1).bind λd=>some (.ow<|.lf true d,as)
def Fl{X:Cx}{kd:KD}{e:Expr}{f:EF}(he:AE X kd e f):AE X kd e (Q1 f):=by
 with_unfolding_all exact(yo he λσ H Q h=>by
  obtain⟨F,B,ad,as,r,as',R,e,q⟩:=h;obtain⟨⟨r1,as1⟩,h1,e⟩:=bS_<|e;obtain⟨d,h2,e⟩:=bS_ e;cases e;refine⟨F,B,λ_=>[],_,r1,as1,R.lendA,h1,λv T ad' H' R' rv g=>?_⟩;obtain⟨R2,g2⟩:=R.more λb u hb=>g.keep b u hb A7
  match r1,h2,rv with
  | .ow (.lf st d0),h2,rv=>
   obtain⟨hf,e⟩:=zy<|h2;cases e;cases rv with
   |lf rp=>exact q v [] ad H' R2 (.lf<|rp.flat hf) g2)
def Fq(K:zzA)(mg:Str->Option Value)(x:Str)(st:Stmt):Prop:=∃f d,Fun K x x st f d/\mg x=some (.ref f)
def Mq(K:zzA)(kd:KD)(c m q:Str)(st:Stmt):Prop:=∃f d,Meth K (kd.c c) m f/\Fun K m q st f d
def bJ{P:Program}{w:World}{K:zzA}{c:Str->Addr}:yU P w K (sf [] c):=sg λp m=>absurd m zxA
section
variable{K:zzA}{mg:Str->Option Value}{h:Heap}{KL:List (Addr×List (Key×V))}{x c m q:Str}{st:Stmt}{f C:Addr}
def d4(X:K.In h)(G:h.Ns mainGlobals mg)(a:W.nsIn K mainGlobals x=some (some<|.ref f))(l:∃d,Fun K x x st f d):Fq K mg x st:=⟨f,l.elim λd F=>⟨d,F,W.mg_of X G a⟩⟩
def cK(X:K.In h)(G:h.Ns mainGlobals mg)(a:W.nsIn K mainGlobals c=some (some<|.ref C))(p1:W.plainGet K C Str.empty=true)(p2:W.hasDictIn K C=true)(p3:W.plainOver K C=true)(p4:W.findIn K (.ref C) "__setattr__"=some (some<|.builtin "object.__setattr__"))(p5:W.makesIn K C=true)(p6:W.keepIn K (.ref C)=true):CI K (sf KL<|FX mg) mg c ((sf KL<|FX mg).c c):=by
 have e:(sf KL<|FX mg).c c=C:=Vq<|W.mg_of X G a;rw[e];exact⟨e,⟨p1,p2,p3,p4⟩,p5,p6,W.mg_of X G a⟩
def cH(X:K.In h)(G:h.Ns mainGlobals mg)(a:W.nsIn K mainGlobals c=some (some<|.ref C))(p1:W.findIn K (.ref C) m=some (some<|.ref f))(p2:W.isFn K (.ref f)=true)(p3:W.keepIn K (.ref f)=true)(l:∃d,Fun K m q st f d):Mq K (sf KL<|FX mg) c m q st:=by
 have e:(sf KL<|FX mg).c c=C:=Vq<|W.mg_of X G a;obtain⟨d,F⟩:=l;exact⟨f,d,by rw[e];exact⟨p1,p2,p3⟩,F⟩
def cE(X:K.In h)(G:h.Ns mainGlobals mg)(a:W.nsIn K mainGlobals c=some (some<|.ref C))(p:W.findIn K (.ref C) m=some none):xt K ((sf KL<|FX mg).c c) m:=by
 have e:(sf KL<|FX mg).c c=C:=Vq<|W.mg_of X G a
 rwa [e]
end
end PF
end
section
namespace L2
open PySem PySem.Spec PyProof.Rows
end L2
namespace PF
open PySem PySem.Spec PyProof.Rows L2
def fH(i:Nat):List RV->Option (List RV)
 | .bo a::r=>if a=i then some r else none
 |_=>none
def L7(i:Nat)(fr:AF)(g:List ZA->O->Option (D×O)):EF:=λas=>(fr as).bind λq=>(fH i q.1).bind λrs=>(Tb i q.2 rs).bind λxs=>(q.2[i]?).bind λs=>s.bind λo=>(g xs o).bind λz=>if z.2.str=true then some (.ow<|.lf true z.1,q.2.set i<|some z.2)else none
section
variable{X:Cx}{kd:KD}{e:Expr}{es:List Expr}{fr:AF}{pos p:Pos}{n k i:Nat}
def nh{K F B ad σ H vs rs rs'}(h:RVs K kd F B ad σ H vs rs)(e:fH i rs=some rs'):∃v ws,vs=v::ws/\σ[i]? = some (some v)/\RVs K kd F B ad σ H ws rs':=by
 cases h with
 |nil=>cases e
 |cons h t=>
  rename_i r _ _;cases r with
  |ow o=>cases e
  |bo a=>
   obtain⟨rfl,e'⟩:=zy e;cases e';exact⟨_,_,rfl,h.2,t⟩
def pO{g σ H Q E}(h:al X.K kd (L7 i fr g) σ H Q):tu (spS X.K kd g) [] E (mB X.K kd fr) σ H Q:=by
 obtain⟨F,B,ad,as,r,as',R,e,q⟩:=h;obtain⟨⟨rs0,as2⟩,h5,z0⟩:=bS_<|e;obtain⟨rs,h1,z1⟩:=bS_ z0;obtain⟨xs,h6,z2⟩:=bS_ z1;obtain⟨s,k2,z3⟩:=bS_ z2;obtain⟨o,e1,z4⟩:=bS_ z3;subst e1;obtain⟨⟨d,r⟩,h7,z5⟩:=bS_ z4;obtain⟨hst,z6⟩:=zy z5;cases z6;refine⟨F,B,ad,as,rs0,as2,R,h5,λvs ad2 H2 R2 rv2 g2=>?_⟩;show spS X.K kd g _ H2 Q E;rw[zyE];obtain⟨v,ws,rfl,hs,rv⟩:=nh rv2 h1;obtain⟨v',hv',ro'⟩:=R2.sl i _ k2;rw[hs]at hv';cases hv';have hi:=(zzG.mp k2).1;refine⟨λz=>Lv F B _ true z/\z ∉ ad2 i,ad2 i,v,ws,xs,o,d,r,rfl,λz hz=>R2.trk true z hz.1,R2.nd i,λz mz=>⟨(R2.gtr z<|.inr ⟨i,mz⟩).1,λy=>y.2 mz⟩,DC R2 rv h6,Xy.lv (λst z hz=>?_) ro',h7,λu H' T' kp nd sub al ro3 rp=>?_⟩
 . rcases hz with(hz|hz)|hz
   . rw[hz.1];exact hz.2.1
   . exact hz.elim
   . exact .inr<|.inr ⟨i,hz⟩
 . have le:∀z,Lv F B (G1 _ (ad2 i) T') true z->Lv (λz=>Lv F B (Gw [] ad2) true z/\z ∉ ad2 i) (λ_=>False) (· ∈ T') true z:=λz hz=>by
    rcases hz with(hz|hz)|hz|hz
    . exact .inl<|.inl ⟨rfl,.inl<|.inl hz,λy=>(R2.gtr z<|.inr ⟨i,y⟩).2 hz.2⟩
    . exact .inl<|.inl ⟨rfl,.inl<|.inr hz,λy=>(R2.btr z hz).2.2<|.inr ⟨i,y⟩⟩
    . exact .inl<|.inl ⟨rfl,.inr hz.1,hz.2⟩
    . exact .inr hz
   have r0:Xy X.K kd F B _ H' v r T':=Ro.monoS (λv d h=>Rp.less le h) (λz n y=>n<|le z y) hst ro3;obtain⟨R3,g3⟩:=R2.chg1 hi hs nd sub kp al r0;exact q u [] _ H' R3 (.lf<|rp.less λz y=>le z<|y.imp id<|nM R2)<|g2.trans g3
def sJ(i:Nat){f fdt ps gg x}(F:FnOk X.prog X.w X.K X.mg X.base xJ k f fdt ps (spS X.K kd gg))(hr:Room n X.A)(hm:X.mg x=some (.ref f))(hk:W.keepIn X.K (.ref f)=true)
 (hb:Binds X.K fdt ps []) (ha:AA X kd (e::es) fr) (hn:k<=n:=by omega) (hg:Gl X x:=by rfl) (hdb:(x==("__debug__":Str))=false:=by decide) (he:starEach (e::es) X.env=(false,eval e X.env)::starEach es X.env:=by rfl) (hpl:(backTo pos<|starEach es X.env).any (·.1)=false:=by rfl):
 AE X kd (.Call (.Name x p) (e::es) [] pos) (L7 i fr gg):=by with_unfolding_all exact(yo (Hu F (hr.mono hn) hg hm hk hb .nil yP ha hdb he hpl) λσ H Q h=>pO h)
end
section
variable{X:Cx}{tg:Expr}
def nZ(ta:TA):TE:=λσ H Q=>ta σ H λvs H1=>∃i j:Int,vs=[.int i,.int j]/\∀r,H1 r=none->Q (.ref r) (upd H1 r<|.rng i j)
def D2(hg:Gl X "range")(hm:X.mg "range"=none)(ha:PA X [a,b] ta)(hs:starEach [a,b] X.env=[(false,eval a X.env),(false,eval b X.env)])(hs2:starEach [b] X.env=[(false,eval b X.env)]):PE X (.Call (.Name "range" p) [a,b] [] pos) (nZ ta):=by
 intro c s σ H Q I h;refine Call_ (RG I hg hm boot_range<|PyProof.Rows.callWith_type1 (vK (ha pos c s σ H _ I h) λl f ⟨m,n,d,g,i⟩=>?_) (by rw[hs,hs2])<|by rw[hs2];rfl);obtain⟨i,j,e,q⟩:=i;subst e;cases g with
 |cons r k=>
  cases k with
  |cons r' k=>
   cases k;obtain⟨t,rfl⟩:=r;obtain⟨t',rfl⟩:=r';exact call_range_2 ⟨.ref f.heap.objs.size,_,d.laid (λb o e=>zxG _ e) (zzN _) (show ZW X.prog X.w _ _ _ (.rng i j)from⟨_,_,_,zxI _ rfl⟩),rfl,q _<|d.hok.fresh<|zzN _⟩
def jU(i j:Int):Prop:=0<=i/\i<=100000/\0<=j/\j<=100000
instance:Decidable (jU i j):=inferInstanceAs<|Decidable<|_/\_
abbrev Jm(i j:Int):List Int:=(List.range (j-i).toNat).map λ(n:Nat)=>i+n
def dO(ta:TA):TE:=λσ H Q=>n9 (nZ ta) kZ σ H λvs H2=>∃r H1,∃i j:Int,vs=[.ref r]/\H1 r=none/\H2=upd H1 r (.rng i j)/\jU i j/\∀l,H2 l=none->Q (.ref l) (upd H2 l<|.lst<|(Jm i j).map V.int)
def As(hc:X.calm=true)(hg:Gl X "range")(hm:X.mg "range"=none)(hgl:Gl X "list")(hml:X.mg "list"=none)(ha:PA X [a,b] ta)(hs:starEach [a,b] X.env=[(false,eval a X.env),(false,eval b X.env)])(hs2:starEach [b] X.env=[(false,eval b X.env)])
 (hs':starEach [.Call (.Name "range" p) [a,b] [] pos] X.env=[(false,eval (.Call (.Name "range" p) [a,b] [] pos) X.env)]):PE X (.Call (.Name "list" p') [.Call (.Name "range" p) [a,b] [] pos] [] pos') (dO ta):=by
 intro b s σ H Q I h;refine Call_<|RG I hgl hml Bt.list<|PyProof.Rows.callWith_type1 (vK ((Q4 (D2 hg hm ha hs hs2) LH hs') pos' b s σ H (λD g=>∃r o,∃i j:Int,D=[.ref r]/\o r=none/\g=upd o r (.rng i j)/\jU i j/\∀l,g l=none->Q (.ref l) (upd g l<|.lst<|(Jm i j).map V.int)) I ?_) λP E ⟨D,g,m,F,G⟩=>?_) hs' rfl
 . exact h
 obtain⟨r,o,i,j,rfl,R,rfl,T,q⟩:=G;cases F with
 |cons J K=>
  cases K;cases J;obtain⟨t,u,v,L⟩:=m.hok r _<|yd ..;obtain⟨a0,a1,a2,a3⟩:=T;have z:Builtin.Range.rangeSize i j 1=(j-i).toNat:=by rw[rangeSize_one];split<;>omega
  refine call_list_range (m.ok.hd hc) L (small_one (by omega) (by omega) (by omega)<|by omega) z (by omega) λU W A M N B c=>?_;refine⟨.ref E.heap.objs.size,_,m.laid N (zzN _) (show ZW X.prog X.w _ _ _ (.lst _)from⟨?_,A.toList,M, ?_,by simpa using B⟩),rfl,q _<|m.hok.fresh<|zzN _⟩
  . rw[zzB,zzB,zyU];exact zzO (show(j-i).toNat<=100000 by omega) (by decide)
  . refine N0 (by simpa using c.1.symm) λk x y d O=>?_;rw[zzI,zzI]at d;obtain⟨C,e⟩:=c.2 k y (by simpa using O);cases hr:(List.range (j-i).toNat)[k]? with
    |none=>rw[hr]at d;cases d
    |some n=>
     rw[hr]at d;obtain⟨_,f⟩:=zzG.mp hr;rw[List.getElem_range]at f;subst f;cases d;exact⟨C,by rw[e];simp⟩
end
section
variable{X:Cx}{kd:KD}
def oA:List D->Option R0
 | [.int i,.int j]=>if jU i j then some (.fl<|(Jm i j).map .int)else none
 |_=>none
theorem DK{K O H}:∀l:List Int,RpL K kd O H (l.map V.int)<|l.map D.int
 | []=>.nil
 |y::r=>.cons (.int y)<|DK r
def J_(hc:X.calm=true)(hg:Gl X "range")(hm:X.mg "range"=none)(hgl:Gl X "list")(hml:X.mg "list"=none)(ha:AA X kd [a,b] fr)(hs:starEach [a,b] X.env=[(false,eval a X.env),(false,eval b X.env)])(hs2:starEach [b] X.env=[(false,eval b X.env)])
 (hs':starEach [.Call (.Name "range" p) [a,b] [] pos] X.env=[(false,eval (.Call (.Name "range" p) [a,b] [] pos) X.env)]):AE X kd (.Call (.Name "list" p') [.Call (.Name "range" p) [a,b] [] pos] [] pos') (fP fr oA):=by
 with_unfolding_all exact(yo (As hc hg hm hgl hml ha hs hs2 hs') λσ H Q h=>by
  obtain⟨F,B,y,as,r,A,R,e,q⟩:=h;obtain⟨⟨C,d⟩,D,e⟩:=bS_<|e;obtain⟨⟨E,Z⟩,f,e⟩:=bS_ e;obtain⟨G,g,e⟩:=bS_ e;obtain⟨z,I,e⟩:=bS_ e;cases e
  match E,g,f with
  | [.int i,.int j],g,f=>
   obtain⟨J,M⟩:=zy<|g;cases M;refine(⟨F,B,y,as,C,d,R,D,λvs k u v m N=>?_⟩);have O:=KS v m f;have P:=Va v I λw S T U n V=>q w S k T U n<|N.trans V;cases O with
   |cons W Y=>
    cases Y with
    |cons W' Y=>
     cases Y;cases W;cases W';refine⟨i,j,rfl,λr x=>⟨r,u,i,j,rfl,x,rfl,J,λl c=>?_⟩⟩;have s:l≠r:=λe=>by rw[e,yd]at c;cases c
     have t:u l=none:=by rwa [zK s]at c
     exact P l _ _ t (λb o q=>ZX c b o<|ZX x b o q) yd<|DK _)
end
section
variable{X:Cx}{kd:KD}{n:Nat}{elt tg iter:Expr}{ifs:List Expr}{scope:Scope}{pos spos py:Pos}{y:Str}{z:Bool}{N:List Str}{cap:List (Option Nat)}{g:GF}{tt:TF}{fe:EF}{fi:IF}{S:List Nat}{i:Nat}
def pz(hn:n<=i)(hN:X.N.Nodup)(hiy:X.N[i]? = some y)(hy:Loc X.env.scope y)(hf:X.fn y=true\/X.env.scope.names.lookup y=some .local)
 (hsw:swapsWith (.ListComp elt [⟨tg,iter,ifs,0⟩] scope pos) (some<|.Name y py) spos.line X.env=pure true)
 (hc:X.calm=true) (hi:oG X kd tg iter fi) (hk:scope.kind = .function) (hcap:RZ N X.N scope.names X.env.scope.names cap=true) (hS:S.all (λi=>cap[i]? == some none)=true)
 (hg:∀cl s H fp,AG (y2 X N scope cl s H fp) kd tg S g) (ht:∀cl s H fp,D3 (y2 X N scope cl s H fp) ifs<|qK X.K kd tt) (he:∀cl s H fp,AE (y2 X N scope cl s H fp) kd elt fe)
 (hs:∀x,foldedSetIterable iter X.env x=pure x):AP X kd n (.Assign [.Name y py] (.ListComp elt [⟨tg,iter,ifs,0⟩] scope pos) spos) (zE z i<|yK fi cap g tt fe):=by with_unfolding_all exact(vE (A6 (g:=gF X.K kd S g) (te:=al X.K kd fe) hN hiy hy hf hsw hc hi hk hcap hg ht he hs) λD σ H h=>by
 obtain⟨F,B,c,as,o,R,e,q⟩:=h;obtain⟨⟨p,a⟩,d,e⟩:=bS_<|e;obtain⟨_,j,e⟩:=bS_ e;obtain⟨k,e⟩:=zy e;cases e;refine Az (λi m=>by simpa using List.all_eq_true.mp hS i m) ⟨F,B,c,as,p,a,R,d,λv A n r t u g=>?_⟩;obtain⟨b,R2,w⟩:=HR t u j k;exact q _ b r (λk A=>zzY<|by omega) R2<|g.trans<|Grow.less w)
end
local macro_rules | `(tactic| trivial)=>`(tactic| first|with_reducible first|assumption|exact Int.natCast_nonneg _|exact Nat.le_refl _|exact Int.le_refl _|exact rfl|exact leN (by assumption)|exact np1 (by assumption)|exact np2 (by assumption)|exact nq1 (by assumption)|exact nq2 (by assumption)|exact Int.natCast_pos.mpr (by assumption)|exact Nat.le_trans (by assumption) (by decide)|exact bgL _|exact bgU (by assumption)|exact mU (by assumption)|exact zI _|exact bL0 (by assumption)|exact bU0 (by assumption) (by assumption)|exact iL (by assumption)|exact iU (by assumption) (by assumption)|exact iC (by assumption)|exact iT (by assumption)|exact stL (by assumption)|exact stU (by assumption)|exact lnK (by assumption) (by assumption) (by assumption)|exact zi1 _|exact lnE (by assumption)|exact ltL (by assumption)|exact Int.toNat_of_nonneg (by assumption)|exact tS (by assumption) (by assumption)|exact b6 (by assumption)|exact Int.emod_nonneg _ (by decide)|exact Int.emod_lt_of_pos _ (by decide)|decide|omega)
abbrev Bz(x:Int):O:=.lf true<|.int x
abbrev sI(x:Int):Option O:=some<|Bz x
abbrev sT(d:D):Option O:=some<|.lf true d
abbrev sN(os:List O):Option O:=some<|.nd .ls os
theorem CK:∀(n:Nat) (k:Int),(Xl k n).length=n
 |0,_=>rfl
 |n+1,k=>by rw[Ng];exact congrArg _<|CK n _
def Nb{α:Type}{f}{l:List α}{i:Nat}{p}(h:l[i]? = some p):zZ (.lst<|l.map f) (.int (i:Int))=some (.im<|f p):=by
 have h:=PN (v:=f p) (by rw[zzI,h];rfl);show qM _=_;rw[h];rfl
structure Ows{α:Type}(toD:α->D)(Q:α->Prop)(os:List O)(l:List α):Prop where
 st:O.strs os=true
 ds:O.toDs os=l.map toD
 al:∀a ∈ l,Q a
 ln:os.length=l.length
structure OwsX{α:Type}(toD:α->D)(Q:Nat->α->Prop)(os:List O)(l:List α):Prop where
 st:O.strs os=true
 ds:O.toDs os=l.map toD
 al:∀i a,l[i]? = some a->Q i a
 ln:os.length=l.length
def q_{as as1 fr os}(h:fr as=some (os,as1))(hl:os.length<=sizeLine):Ze fr as=some (.ow<|Np os,as1):=by
 unfold Ze;rw[h];show(if os.length<=sizeLine then _ else _)=_;rw[if_pos hl]
def uh(ha:WD a as s (.int x))(hb:WD b as t (.int y)):WT (fT<|f2 a b<|zo .NotEq) as (!(x==y)):=zC (Du ha hb rfl) rfl
def Et(h:WA fr as [(u,.int i),(v,.int j)])(h0:0<=i)(h1:i<=1000)(h2:0<=j)(h3:j<=1000):Xo fr JO as=some (Xl i (j-i).toNat,as):=by
 unfold Xo;rw[h];show((if -_<=i/\i<2 ^ 62 /\ -_<=j/\j<2 ^ 62 then some _ else none).bind _)=_;rw[if_pos ⋯];rfl
def Ye{i:Nat}{os}(h:WE fe as d)(hi:as[i]? = some (some<|.nd (.ob c ns) os))(hc:c ∈ cs)(hn:f ∉ ns)(hl:ns.length<1000):Gu i cs f fe as=some (as.set i<|some<|.nd (.ob c<|ns++[f])<|os++[.lf true d]):=by
 obtain⟨o,a,b,g⟩:=h;unfold Gu;have e:L3 as (.ow o)=some _:=rfl;simp only[a,zyL,e,hi,if_pos (⟨hc,hn,hl⟩:c ∈ cs/\f ∉ ns/\ns.length<1000),b,g]
def ZL(h:f as=some as1)(h2:g as1=o):UY f g as=o:=by
 unfold UY
 rwa [h]
end PF
end
section
namespace G92
open PySem PySem.Spec PyProof.Rows L2 PF
abbrev zi:EF:=fV 1
abbrev zM:EF:=fC<|.int 0
abbrev zl:EF:=fV 0
abbrev Zl:EF:=fC<|.int 2
abbrev zV:EF:=fC<|.int 1
abbrev zA:EF:=fV 2
abbrev CM:EF:=fC<|.int 4
abbrev Jh:GF:=gN 4
abbrev zN:EF:=fV 4
abbrev zU:EF:=fV 3
abbrev ZO:GF:=gN 0
abbrev zt:=W7 .Add
abbrev yC:EF:=fV 5
abbrev BS:EF:=fC<|.int 5
abbrev yz:EF:=fV 6
abbrev Ym:EF:=fV 7
abbrev xa:EF:=fV 11
abbrev yp:=W7 .Mod
abbrev zS:=W7 .Mult
abbrev yf:=W7 .FloorDiv
abbrev O8:EF:=fC<|.int 3
abbrev ZG:=W7 .Sub
abbrev t9:EF:=fC<|.int 6
abbrev ZR:AF:=aC (fV 3) aN
abbrev BX:AF:=aC (fV 0) aN
abbrev yI:AF:=aC (fV 1) aN
abbrev yt:AF:=aC (fV 2) aN
abbrev MB:AF:=aC (fV 5) aN
abbrev EK:AF:=aC (fV 7) aN
def wC:List Str:=["Knot"]
def QN:List Str:=["Knot"]
def vW:List Str:=["Knot"]
def Vr:List Str:=["Knot"]
def Q5:List Str:=["Knot"]
def ZP:List Str:=["Knot"]
def yr:List Str:=["Knot"]
def Zr:List Str:=["Knot"]
def xQ:List Str:=["Sums","Mosts","Leasts"]
def xj:List Str:=["Makes"]
def zX:List Str:=["Makes"]
abbrev Bs:List Str:=["thing"]
def NX:FnScope Bs ["thing"] (zc Ul):=wz
def Em:SF:=
 (zz<|G0 (QE zl "int")<|D8<|QE zl "bool")
def Yp:Fn:=wY 1 1 Em
abbrev NM:List Str:=["thing","least","most"]
def HY:FnScope NM ["thing","least","most"] (zc Vb):=wz
def Nz:SF:=
 (zz<|G0 (zd BX Yp)<|RC zi zl zA (zo .LtE)<|zo .LtE)
def ZJ:Fn:=wY 3 3 Nz
abbrev Ux:List Str:=["self","whole","back","wait","turn","one","other"]
def L1:FnScope Ux ["self","whole","back","wait","turn","one","other"] (zc ZC):=wz
def Xe:u5:=
 (UY (Gu 0 wC "whole" zi)
  (UY (Gu 0 QN "back" zA)
  (UY (Gu 0 vW "wait" zU)
  (UY (Gu 0 Vr "turn" zN)
  (UY (Gu 0 Q5 "one" yC)
  (UY (Gu 0 ZP "other" yz)
  (UY (Gu 0 yr "deep" (Jn (fT<|f2 yC (fC .non)<|zo .Is) zM<|f2 zV (fP (aC (f1 yC<|zJ yr "deep")<|aC (f1 yz<|zJ yr "deep") aN) B9) zt))
  (Gu 0 Zr "size" (Jn (fT<|f2 yC (fC .non)<|zo .Is) zV<|f2 (f1 yC<|zJ Zr "size") (f1 yz<|zJ Zr "size") zt)))))))))
def yy(c:Str):Fn:=lD c 7 7 Xe
abbrev SG:List Str:=["value"]
def Br:FnScope SG ["value"] (zc PD):=wz
def Hg:SF:=
 (zz<|zd (aC zl<|aC zl<|aC (fC .non)<|aC (fC<|.bl false)<|aC (fC .non)<|aC (fC .non) aN)<|yy "Knot")
def Pz:Fn:=wY 1 1 Hg
abbrev N9:List Str:=["self","one","other"]
def KU:FnScope N9 ["self","one","other"] (zc Vg):=wz
def Nm:SF:=
 (zz<|fP (aC (yK (Yn<|aC zi yt) [none,none] (gT 2<|Wz ZO<|Wz (gN 1) MV) YD<|f2 zl zi zt) aN) tupP)
def Ry:Fn:=wY 3 3 Nm
abbrev K_:List Str:=["self","numbers"]
def TL:FnScope K_ ["self","numbers"] (zc Wa):=wz
def KZ:SF:=
 (zz<|Jn (fT zi) (fP yI B9)<|fC .non)
def Q9:Fn:=wY 2 2 KZ
abbrev Tx:List Str:=["self","numbers"]
def Po:FnScope Tx ["self","numbers"] (zc YR):=wz
def TJ:SF:=
 (zz<|Jn (fT zi) (fP yI Ij)<|fC .non)
def VC:Fn:=wY 2 2 TJ
def Hm:List (Str×Fn):=[("Mosts",Q9),("Leasts",VC)]
abbrev G2:List Str:=["self","one","other"]
def T_:FnScope G2 ["self","one","other"] (zc XX):=wz
def Lb:SF:=
 (zz<|fP (aC (yK (Yn<|aC zi yt) [none,some 0] ZO YD<|yn Hm "best" zi<|aC (yK (Vz zl) [none] ZO (fT<|f2 zl (fC .non)<|zo .IsNot) zl) aN) aN) tupP)
def X9:Fn:=wY 3 3 Lb
def Y1:List (Str×Fn):=[("Sums",Ry),("Mosts",X9),("Leasts",X9)]
abbrev Hc:List Str:=["way","one","other"]
def FC:FnScope Hc ["way","one","other"] (zc PH):=wz
def Sm:SF:=
 (zz<|zd (aC (yn Y1 "join" zl<|aC (f1 zi<|zJ wC "whole")<|aC (f1 zA<|zJ wC "whole") aN)<|aC (yn Y1 "join" zl<|aC (f1 zA<|zJ QN "back")<|aC (f1 zi<|zJ QN "back") aN)<|aC (fC .non)<|aC (fC<|.bl false)<|aC zi yt)<|yy "Knot")
def yW:Fn:=wY 3 3 Sm
abbrev Sn:List Str:=["way","row","half"]
def Ew:FnScope Sn ["way","row"] (zc Pw):=wz
def SN(self:Fn):SF:=
 (zx (xD (fT<|f2 (fP yI z_) zM<|zo .Eq) (zz<|fC .non) vB)
  (zx (xD (fT<|f2 (fP yI z_) zV<|zo .Eq) (zz<|zd (aC (f2 zi zM zZ) aN) Pz) vB)
  (zx (zE true 2<|f2 (fP yI z_) Zl yf)
  (zz<|zd (aC zl<|aC (zd (aC zl<|aC (V1 zi oN (oS zA) Ql) aN) self)<|aC (zd (aC zl<|aC (V1 zi (oS zA) oN Ql) aN) self) aN) yW))))
def yM:Nat->Fn
 |0=>λ_=>none
 |n+1=>wY 3 2<|SN<|yM n
abbrev SC:List Str:=["tree"]
def Bc:FnScope SC ["tree"] (zc PC):=wz
def SJ:SF:=
 (zz<|Jn (fT<|f2 zl (fC .non)<|zo .Is) zM<|f1 zl<|zJ Zr "size")
def yV:Fn:=wY 1 1 SJ
abbrev Nr:List Str:=["self"]
def Ku:FnScope Nr ["self"] (zc Vc):=wz
def Nn:SF:=
 (zz zM)
def Ru:Fn:=wY 1 1 Nn
abbrev G7:List Str:=["self"]
def P_:FnScope G7 ["self"] (zc X5):=wz
def K4:SF:=
 (zz<|fC .non)
def QQ:Fn:=wY 1 1 K4
def OC:List (Str×Fn):=[("Sums",Ru),("Mosts",QQ),("Leasts",QQ)]
abbrev Uo:List Str:=["self"]
def VW:FnScope Uo ["self"] (zc ZD):=wz
def Ur:SF:=
 (zz<|f2 (Ze<|dC (yn OC "zero" zl aN) dN) (f1 zl<|zJ xQ "width") zS)
def wW:Fn:=wY 1 1 Ur
def WX:List (Str×Fn):=[("Sums",wW),("Mosts",wW),("Leasts",wW)]
abbrev Fc:List Str:=["way","tree"]
def Nt:FnScope Fc ["way","tree"] (zc Qy):=wz
def FW:SF:=
 (zz<|Jn (fT<|f2 zi (fC .non)<|zo .Is) (yn WX "nothing" zl aN)<|f1 zi<|zJ wC "whole")
def Gm:Fn:=wY 2 2 FW
abbrev Tp:List Str:=["self","row","numbers"]
def RN:FnScope Tp ["self","row","numbers"] (zc YV):=wz
def T4:SF:=
 (zz<|fP (aC (yK (Yn<|aC zi yt) [none,none] (gT 2<|Wz ZO<|Wz (gN 1) MV) YD<|f2 zl zi zS) aN) j6)
def VS:Fn:=wY 3 3 T4
abbrev Ra:List Str:=["self","row","numbers"]
def UB:FnScope Ra ["self","row","numbers"] (zc Z_):=wz
def RJ:SF:=
 (zz<|yn Hm "best" zl<|aC (yK (Yn<|aC zi yt) [none,none] (gT 2<|Wz ZO<|Wz (gN 1) MV) (Za (fT<|f2 zl (fC .non)<|zo .IsNot)<|fT<|f2 zi (fC .non)<|zo .IsNot)<|f2 zl zi zt) aN)
def Wq:Fn:=wY 3 3 RJ
def vY:List (Str×Fn):=[("Sums",VS),("Mosts",Wq),("Leasts",Wq)]
abbrev RS:List Str:=["self","one","other","columns","rows","more"]
def UP:FnScope RS ["self","one","other"] (zc Z0):=wz
def Pp:SF:=
 (zx (zE true 3<|yK (Xo (aC (f1 zl<|zJ xQ "width") aN) Rc) [none,some 1] ZO YD<|yK (Vz<|f2 zi zM zZ) [none,some 0] ZO YD<|f2 zl zi zZ)
  (zx (zE true 4<|yK (Vz<|f2 zA zM zZ) [none,some 3,some 0] ZO YD<|fP (aC (yK (Vz zi) [none,some 0,some 2] ZO YD<|yn vY "across" zA<|aC zi BX) aN) tupP)
  (zx (zE true 5<|yK (Vz<|f2 zA zM zZ) [none,some 0,some 1] ZO YD<|yn vY "across" zi<|aC zl<|aC (f2 zA zV zZ) aN)
  (zz<|Ze<|dC (fP (aC zN aN) tupP)<|dC (yn Y1 "join" zl<|aC yC<|aC (f2 zA zV zZ) aN) dN))))
def vL:Fn:=wY 6 3 Pp
def Sy:List (Str×Fn):=[("Sums",vL),("Mosts",vL),("Leasts",vL)]
abbrev Kt:List Str:=["way","one","other"]
def Tw:FnScope Kt ["way","one","other"] (zc X7):=wz
def Kg:SF:=
 (zx (xD (fT<|f2 zi (fC .non)<|zo .Is) (zz zA) vB)
  (zx (xD (fT<|f2 zA (fC .non)<|zo .Is) (zz zi) vB)
  (zz<|yn Sy "behind" zl<|aC zi yt)))
def XJ:Fn:=wY 3 3 Kg
abbrev KB:List Str:=["self","more","many"]
def T7:FnScope KB ["self","more","many"] (zc X1):=wz
def Kp:SF:=
 (zz<|yK (Vz zi) [none,some 2] ZO YD<|f2 zl zi zS)
def Wc:Fn:=wY 3 3 Kp
abbrev TX:List Str:=["self","more","many"]
def Ph:FnScope TX ["self","more","many"] (zc YL):=wz
def Te:SF:=
 (zz zi)
def vA:Fn:=wY 3 3 Te
def Bx:List (Str×Fn):=[("Sums",Wc),("Mosts",vA),("Leasts",vA)]
abbrev K0:List Str:=["self","wait","value","many","found"]
def Gb:FnScope K0 ["self","wait","value","many"] (zc XI):=wz
def G9:SF:=
 (zx (xD (fT<|f2 zU zM<|zo .Eq) (zz<|yn WX "nothing" zl aN) vB)
  (zx (zE true 4<|yK (Vz<|f2 zi zM zZ) [none,some 2,some 0] ZO YD<|yn vY "across" zA<|aC zl yI)
  (zz<|yn Y1 "join" zl<|aC zN<|aC (yn Bx "often" zl<|aC (f2 zi zV zZ) ZR) aN)))
def Yd:Fn:=wY 5 4 G9
def Pu:List (Str×Fn):=[("Sums",Yd),("Mosts",Yd),("Leasts",Yd)]
abbrev Bl:List Str:=["way","tree","wait","whole","back"]
def Nk:FnScope Bl ["way","tree","wait"] (zc QR):=wz
def Bb:SF:=
 (zx (xD (fT<|f2 zi (fC .non)<|zo .Is) (zz<|fC .non) vB)
  (zx (zE true 3<|yn Pu "made" zl<|aC zA<|aC (f1 zi<|zJ wC "whole")<|aC (f1 zi<|zJ Zr "size") aN)
  (zx (xD (fT<|f2 (f1 zi<|zJ yr "deep") zM<|zo .Eq) (zz<|zd ZR Pz) vB)
  (zx (zE true 4<|yn Pu "made" zl<|aC zA<|aC (f1 zi<|zJ QN "back")<|aC (f1 zi<|zJ Zr "size") aN)
  (zz<|zd (aC zU<|aC zN<|aC (zd (aC zl<|aC (f1 zi<|zJ vW "wait") yt) XJ)<|aC (f1 zi<|zJ Vr "turn")<|aC (f1 zi<|zJ Q5 "one")<|aC (f1 zi<|zJ ZP "other") aN)<|yy "Knot")))))
def vI:Fn:=wY 5 3 Bb
abbrev G8:List Str:=["way","tree"]
def Tn:FnScope G8 ["way","tree"] (zc X0):=wz
def Ko:SF:=
 (zx (xD (fT<|f2 zi (fC .non)<|zo .Is) (zz<|fC .non) vB)
  (zz<|zd (aC (f1 zi<|zJ QN "back")<|aC (f1 zi<|zJ wC "whole")<|aC (f1 zi<|zJ vW "wait")<|aC (D8<|f1 zi<|zJ Vr "turn")<|aC (f1 zi<|zJ Q5 "one")<|aC (f1 zi<|zJ ZP "other") aN)<|yy "Knot"))
def xC:Fn:=wY 2 2 Ko
abbrev Ep:List Str:=["way","knot","one","other"]
def Ny:FnScope Ep ["way","knot"] (zc Qp):=wz
def Ee:SF:=
 (zx (zE true 2<|f1 zi<|zJ Q5 "one")
  (zx (zE true 3<|f1 zi<|zJ ZP "other")
  (zx (xD (fT<|f2 (f1 zi<|zJ vW "wait") (fC .non)<|zo .IsNot) (zx (zE true 2<|zd (aC zl<|aC zA<|aC (f1 zi<|zJ vW "wait") aN) vI)
  (zE true 3<|zd (aC zl<|aC zU<|aC (f1 zi<|zJ vW "wait") aN) vI)) vB)
  (zx (xD (fT<|f1 zi<|zJ Vr "turn") (zz<|Ze<|dC (zd (aC zl ZR) xC)<|dC (zd (aC zl yt) xC) dN) vB)
  (zz<|Ze<|dC zA<|dC zU dN)))))
def wk:Fn:=wY 4 2 Ee
abbrev CW:List Str:=["way","tree","wait","turn","row","owed","contrary","parts","part"]
def Qc:FnScope CW ["way","tree","wait","turn","row"] (zc KG):=wz
def GX(self:List ZA->O->Option O):SF:=
 (xD (fT<|f2 (f1 zi<|zJ yr "deep") zM<|zo .Eq) (yO<|Qj 4 (dC (Jn (fT<|f2 zA (fC .non)<|zo .Is) (f1 zi<|zJ wC "whole")<|yn Pu "made" zl<|aC zA<|aC (f1 zi<|zJ wC "whole")<|aC zV aN) dN) W5)
  (zx (zE true 5<|zd (aC zl<|aC (f1 zi<|zJ vW "wait") yt) XJ)
  (zx (zE true 6<|f2 (f1 zi<|zJ Vr "turn") zU<|zo .NotEq)
  (zx (zE true 7<|Jn (fT yz) (Ze<|dC (f1 zi<|zJ ZP "other")<|dC (f1 zi<|zJ Q5 "one") dN)<|Ze<|dC (f1 zi<|zJ Q5 "one")<|dC (f1 zi<|zJ ZP "other") dN)
  (XW (Mw Ym) (gN 8)<|Ug 4 (aC zl<|aC (fV 8)<|aC yC<|aC yz<|aC zN aN) self)))))
def xT:Nat->List ZA->O->Option O
 |0=>λ_ _=>none
 |n+1=>gL 9 5<|GX<|xT n
abbrev Iu:List Str:=["way","tree","row"]
def Lx:FnScope Iu ["way","tree"] (zc KH):=wz
def CJ:SF:=
 (zx (zE false 2<|x9 dN)
  (zx (xD (fT<|f2 zi (fC .non)<|zo .IsNot) (Ug 2 (aC zl<|aC zi<|aC (fC .non)<|aC (fC<|.bl false) yt)<|xT 20) vB)
  (zz zA)))
def UX:Fn:=wY 3 2 CJ
abbrev TM:List Str:=["way","one","other","parts","inner"]
def Rn:FnScope TM ["way","one","other"] (zc YJ):=wz
def P6:SF:=
 (zx (zE true 3<|zd (aC zl yI) wk)
  (zx (xD (fT<|f2 (f1 (f2 zU zM zZ)<|zJ yr "deep") (f1 (f2 zU zV zZ)<|zJ yr "deep")<|zo .GtE) (zz<|zd (aC zl<|aC (f2 zU zM zZ)<|aC (zd (aC zl<|aC (f2 zU zV zZ) yt) yW) aN) yW) vB)
  (zx (zE true 4<|zd (aC zl<|aC (f2 zU zV zZ) aN) wk)
  (zz<|zd (aC zl<|aC (zd (aC zl<|aC (f2 zU zM zZ)<|aC (f2 zN zM zZ) aN) yW)<|aC (zd (aC zl<|aC (f2 zN zV zZ) yt) yW) aN) yW))))
def Vt:Fn:=wY 5 3 P6
abbrev Ri:List Str:=["way","one","other","parts","inner"]
def UJ:FnScope Ri ["way","one","other"] (zc ZS):=wz
def Rz:SF:=
 (zx (zE true 3<|zd (aC zl yt) wk)
  (zx (xD (fT<|f2 (f1 (f2 zU zV zZ)<|zJ yr "deep") (f1 (f2 zU zM zZ)<|zJ yr "deep")<|zo .GtE) (zz<|zd (aC zl<|aC (zd (aC zl<|aC zi<|aC (f2 zU zM zZ) aN) yW)<|aC (f2 zU zV zZ) aN) yW) vB)
  (zx (zE true 4<|zd (aC zl<|aC (f2 zU zM zZ) aN) wk)
  (zz<|zd (aC zl<|aC (zd (aC zl<|aC zi<|aC (f2 zN zM zZ) aN) yW)<|aC (zd (aC zl<|aC (f2 zN zV zZ)<|aC (f2 zU zV zZ) aN) yW) aN) yW))))
def WU:Fn:=wY 5 3 Rz
abbrev IH:List Str:=["way","one","other"]
def He:FnScope IH ["way","one","other"] (zc GN):=wz
def I_:SF:=
 (zx (xD (fT<|f2 (f1 zi<|zJ yr "deep") (f2 (f1 zA<|zJ yr "deep") zV zt)<|zo .Gt) (zz<|zd (aC zl<|aC zi yt) Vt) vB)
  (zx (xD (fT<|f2 (f1 zA<|zJ yr "deep") (f2 (f1 zi<|zJ yr "deep") zV zt)<|zo .Gt) (zz<|zd (aC zl<|aC zi yt) WU) vB)
  (zz<|zd (aC zl<|aC zi yt) yW)))
def KF:Fn:=wY 3 3 I_
abbrev RT:List Str:=["way","one","other","parts"]
def Xk:FnScope RT ["way","one","other"] (zc Yb):=wz
def Rb(self:Fn):SF:=
 (zx (xD (fT<|f2 zi (fC .non)<|zo .Is) (zz zA) vB)
  (zx (xD (fT<|f2 zA (fC .non)<|zo .Is) (zz zi) vB)
  (zx (xD (fT<|f2 (f1 zi<|zJ yr "deep") (f2 (f1 zA<|zJ yr "deep") zV zt)<|zo .Gt) (zx (zE true 3<|zd (aC zl yI) wk)
  (zz<|zd (aC zl<|aC (f2 zU zM zZ)<|aC (zd (aC zl<|aC (f2 zU zV zZ) yt) self) aN) KF)) vB)
  (zx (xD (fT<|f2 (f1 zA<|zJ yr "deep") (f2 (f1 zi<|zJ yr "deep") zV zt)<|zo .Gt) (zx (zE true 3<|zd (aC zl yt) wk)
  (zz<|zd (aC zl<|aC (zd (aC zl<|aC zi<|aC (f2 zU zM zZ) aN) self)<|aC (f2 zU zV zZ) aN) KF)) vB)
  (zz<|zd (aC zl<|aC zi yt) yW)))))
def zD:Nat->Fn
 |0=>λ_=>none
 |n+1=>wY 4 3<|Rb<|zD n
abbrev Nw:List Str:=["way","tree","place","parts","ahead","pair"]
def Yi:FnScope Nw ["way","tree","place"] (zc Vj):=wz
def NU(self:Fn):SF:=
 (zx (xD (fT<|f2 zA zM<|zo .Eq) (zz<|Ze<|dC (fC .non)<|dC zi dN) vB)
  (zx (xD (fT<|f2 zA (f1 zi<|zJ Zr "size")<|zo .Eq) (zz<|Ze<|dC zi<|dC (fC .non) dN) vB)
  (zx (zE true 3<|zd (aC zl yI) wk)
  (zx (zE true 4<|f1 (f2 zU zM zZ)<|zJ Zr "size")
  (zx (xD (fT<|f2 zA zN<|zo .Lt) (zx (zE true 5<|zd (aC zl<|aC (f2 zU zM zZ) yt) self)
  (zz<|Ze<|dC (f2 yC zM zZ)<|dC (zd (aC zl<|aC (f2 yC zV zZ)<|aC (f2 zU zV zZ) aN)<|zD 20) dN)) vB)
  (zx (zE true 5<|zd (aC zl<|aC (f2 zU zV zZ)<|aC (f2 zA zN ZG) aN) self)
  (zz<|Ze<|dC (zd (aC zl<|aC (f2 zU zM zZ)<|aC (f2 yC zM zZ) aN)<|zD 20)<|dC (f2 yC zV zZ) dN)))))))
def yD:Nat->Fn
 |0=>λ_=>none
 |n+1=>wY 6 3<|NU<|yD n
abbrev TN:List Str:=["place","least","most"]
def Rk:FnScope TN ["place","least","most"] (zc YM):=wz
def Vx:SF:=
 (xD (y_<|fT<|zd (aC zl<|aC zi yt) ZJ) qL vB)
def yY:Fn:=wY 3 3 Vx
abbrev KW:List Str:=["size"]
def TY:FnScope KW ["size"] (zc XO):=wz
def Uc:SF:=
 (xD (fT<|f2 zl (fC<|.int 300)<|zo .Gt) qL vB)
def x_:Fn:=wY 1 1 Uc
abbrev Th:List Str:=["_law_script","_law_k"]
def U5:FnScope Th ["_law_script","_law_k"] (zc Y0):=wz
def Tr:SF:=
 (zx (xD (fT<|f2 zi (fP BX z_)<|zo .Lt) (zz<|f2 zl zi zZ) vB)
  (zz zM))
def yG:Fn:=wY 2 2 Tr
abbrev NL:List Str:=["_law_cell","_law_k","_law_number_here"]
def GH:FnScope NL ["_law_cell","_law_k"] (zc W_):=wz
def N_:SF:=
 (zx (zE true 2<|f2 (f2 (f2 (f2 (f2 zl (fC<|.int 2147483647) yp) (fC<|.int 48271) zS) (f2 (f2 zi zi zS) (fC<|.int 69621) zS) zt) (fC<|.int 7919) zt) (fC<|.int 2147483647) yp)
  (zz<|f2 (f2 (f2 (f2 zA zA zS) (f2 (fC<|.int 16807) zA zS) zt) zi zt) (fC<|.int 2147483629) yp))
def W9:Fn:=wY 3 2 N_
abbrev N4:List Str:=["_law_found"]
def Ld:FnScope N4 ["_law_found"] (zc Vp):=wz
def NZ:SF:=
 (zz<|G0 (QE zl "int")<|D8<|QE zl "bool")
def xB:Fn:=wY 1 1 NZ
abbrev GL:List Str:=["_law_cell","_law_many","_law_found","_law_rest","_law_k"]
def Ta:FnScope GL ["_law_cell","_law_many"] (zc X_):=wz
def GW:SF:=
 (zx (zE false 2<|x9 dN)
  (zx (zE true 3<|f2 zl Zl yf)
  (zx (XW (Xo yI Rc) Jh<|xD (fT<|f2 (f2 zl Zl yp) zM<|zo .Eq) (zx (yO<|Qj 2 (dC (f2 zU (fC<|.int 1000000007) yp) dN) W5)
  (zE true 3<|f2 zU (fC<|.int 1000000007) yf))<|yO<|Qj 2 (dC (zd (aC zU<|aC zN aN) W9) dN) W5)
  (zz zA))))
def v_:Fn:=wY 5 2 GW
abbrev Kv:List Str:=["_law_x"]
def P3:FnScope Kv ["_law_x"] (zc XU):=wz
def GB:SF:=
 (zx (xD (fT<|f2 (f2 zl CM yp) O8<|zo .Lt) (zz<|f2 (f2 (f2 zl CM yf) (fC<|.int 19) yp) (fC<|.int 9) ZG) vB)
  (zz<|f2 (f2 (f2 (f2 zl CM yf) (f2 (f2 (fC<|.int 10) (fC<|.int 59)<|W7 .Pow) (fC<|.int 9) zt) zS) (f2 (f2 Zl (f2 (fC<|.int 10) (fC<|.int 60)<|W7 .Pow) zS) zV ZG) yp) (f2 (f2 (fC<|.int 10) (fC<|.int 60)<|W7 .Pow) zV ZG) ZG))
def ZT:Fn:=wY 1 1 GB
abbrev Ga:List Str:=["_law_cell","_law_many","_law_lack","_law_found","_law_x"]
def UW:FnScope Ga ["_law_cell","_law_many","_law_lack"] (zc YZ):=wz
def P8:SF:=
 (zx (zE false 3<|x9 dN)
  (zx (XW (Mw<|zd (aC zl yI) v_) Jh<|xD (Za (fT zA)<|fT<|f2 (f2 zN BS yp) zM<|zo .Eq) (yO<|Qj 3 (dC (fC .non) dN) W5)<|yO<|Qj 3 (dC (zd (aC (f2 zN BS yf) aN) ZT) dN) W5)
  (zz zU)))
def w_:Fn:=wY 5 3 P8
abbrev NH:List Str:=["_law_cell","_law_width","_law_lack"]
def KC:FnScope NH ["_law_cell","_law_width","_law_lack"] (zc Vi):=wz
def NG:SF:=
 (zz<|fP (aC (zd (aC zl<|aC zi yt) w_) aN) tupP)
def RD:Fn:=wY 3 3 NG
abbrev Ed:List Str:=["_law_cell","_law_width","_law_lack","_law_some","_law_rows"]
def N2:FnScope Ed ["_law_cell","_law_width","_law_lack"] (zc QV):=wz
def EO:SF:=
 (zx (zE true 3<|zd (aC zl<|aC (f2 (f2 zi zi zS) zi zt) yt) w_)
  (zx (zE true 4<|yK (Xo yI Rc) [none,some 3,some 1] ZO YD<|fP (aC (V1 zi (oS<|f2 zl zA zS) (oS<|f2 (f2 zl zA zS) zA zt) Ql) aN) tupP)
  (zz<|Ze<|dC (fP (aC zN aN) tupP)<|dC (fP (aC (V1 zU (oS<|f2 zi zi zS) oN Ql) aN) tupP) dN)))
def Gq:Fn:=wY 5 3 EO
abbrev Er:List Str:=["_law_kind","_law_one","_law_other"]
def Nj:FnScope Er ["_law_kind","_law_one","_law_other"] (zc Qw):=wz
def Fj:SF:=
 (zx (xD (fT<|f2 zl zM<|zo .Eq) (zz<|f2 zi zA zt) vB)
  (zx (xD (Rg (fT<|f2 zi (fC .non)<|zo .Is)<|fT<|f2 zA (fC .non)<|zo .Is) (zz<|f2 (x9<|dC zi<|dC zA dN) (fP (aC (f2 zi (fC .non)<|zo .Is) aN) U8) zZ) vB)
  (zz<|f2 (x9<|dC (fP (aC zi yt) Ij)<|dC (fP (aC zi yt) B9) dN) (fP (aC (f2 zl zV<|zo .Eq) aN) U8) zZ)))
def QX:Fn:=wY 3 3 Fj
abbrev Qq:List Str:=["_law_kind","_law_row","_law_width","_law_found","_law_value_here","_law_place"]
def YX:FnScope Qq ["_law_kind","_law_row","_law_width"] (zc ZZ):=wz
def Ml:(["_law_place","_law_kind"]:List Str).Nodup:=by decide +kernel
def K8:SF:=
 (zx (zE false 3<|yK (Xo yt Rc) [none,some 0] ZO YD<|f2 (x9<|dC (fC .non)<|dC zM dN) (fP (aC (f2 zi zM<|zo .Eq) aN) U8) zZ)
  (zx (XW (Mw zi) Jh<|XW (Xo yt Rc) (gN 5)<|CC 3 (xV 5)<|zd (aC zl<|aC (f2 zU yC zZ)<|aC (f2 zN yC zZ) aN) QX)
  (zz<|fP ZR tupP)))
def x8:Fn:=wY 6 3 K8
abbrev Pi:List Str:=["_law_kind","_law_row","_law_more","_law_value_here","_law_many","_law_found","_law_number_here","_law_other","_law_some"]
def Ut:FnScope Pi ["_law_kind","_law_row","_law_more","_law_value_here","_law_many"] (zc Z9):=wz
def Rw:SF:=
 (zx (xD (fT<|f2 zl zM<|zo .Eq) (zx (zE true 5<|f2 zA zN zS)
  (zx (XW (Yn<|aC zi ZR) (gT 2<|Wz (gN 6)<|Wz (gN 7) MV)<|zE true 5<|f2 yC (f2 yz Ym zS) zt)
  (zz yC))) vB)
  (zx (zE false 8<|yK (Yn<|aC zi ZR) [none,none] (gT 2<|Wz ZO<|Wz (gN 1) MV) (Za (fT<|f2 zl (fC .non)<|zo .IsNot)<|fT<|f2 zi (fC .non)<|zo .IsNot)<|f2 zl zi zt)
  (zx (xD (fT<|f2 zA (fC .non)<|zo .IsNot) (yO<|Qj 8 (dC zA dN) W5) vB)
  (zx (xD (fT<|f2 (fV 8) (x9 dN)<|zo .Eq) (zz<|fC .non) vB)
  (zz<|f2 (x9<|dC (fP (aC (fV 8) aN) Ij)<|dC (fP (aC (fV 8) aN) B9) dN) (fP (aC (f2 zl zV<|zo .Eq) aN) U8) zZ)))))
def xN:Fn:=wY 9 5 Rw
abbrev FU:List Str:=["_law_kind","_law_deed_here","_law_value_here","_law_many","_law_found","_law_row","_law_more"]
def Ni:FnScope FU ["_law_kind","_law_deed_here","_law_value_here","_law_many"] (zc QT):=wz
def Fh:SF:=
 (zx (zE false 4<|x9 dN)
  (zx (XW (Yn<|aC (f2 zi zM zZ)<|aC (f2 zi zV zZ) aN) (gT 2<|Wz (gN 5)<|Wz (gN 6) MV)<|yO<|Qj 4 (dC (zd (aC zl<|aC yC<|aC yz<|aC zA ZR) xN) dN) W5)
  (zz<|fP (aC zN aN) tupP)))
def QS:Fn:=wY 7 4 Fh
abbrev C6:List Str:=["_law_found","_law_due","_law_one","_law_other"]
def SW:FnScope C6 ["_law_found","_law_due"] (zc G3):=wz
def IM:SF:=
 (zx (xD (Rg (y_<|fT<|QE zl "tuple")<|fT<|f2 (fP BX z_) (fP yI z_)<|zo .NotEq) (zz<|fC<|.bl false) vB)
  (zx (XW (Yn<|aC zl yI) (gT 2<|Wz (gN 2)<|Wz (gN 3) MV)<|xD (Rg (Za (fT<|f2 zU (fC .non)<|zo .Is)<|fT<|f2 zA (fC .non)<|zo .IsNot)<|Rg (Za (fT<|f2 zU (fC .non)<|zo .IsNot)<|y_<|fT<|zd yt xB)<|fT<|f2 zA zU<|zo .NotEq) (zz<|fC<|.bl false) vB)
  (zz<|fC<|.bl true)))
def Wp:Fn:=wY 4 2 IM
abbrev Qh:List Str:=["self","width"]
def GJ:FnScope Qh ["self","width"] (zc vU):=wz
def V5:u5:=
 (Gu 0 xQ "width" zi)
def xg(c:Str):Fn:=lD c 2 2 V5
abbrev SK:List Str:=["_law_kind","_law_width"]
def Am:FnScope SK ["_law_kind","_law_width"] (zc PP):=wz
def Ha:SF:=
 (zx (xD (fT<|f2 zl zM<|zo .Eq) (zz<|zd yI<|xg "Sums") vB)
  (zx (xD (fT<|f2 zl zV<|zo .Eq) (zz<|zd yI<|xg "Mosts") vB)
  (zz<|zd yI<|xg "Leasts")))
def PL:Fn:=wY 2 2 Ha
abbrev Kx:List Str:=["_law_cell","_law_many","_law_width","_law_lack","_law_some"]
def TH:FnScope Kx ["_law_cell","_law_many","_law_width","_law_lack"] (zc XT):=wz
def Kl:SF:=
 (zx (zE true 4<|zd (aC zl<|aC (f2 zi zA zS) ZR) w_)
  (zz<|yK (Xo yI Rc) [none,some 4,some 2] ZO YD<|fP (aC (V1 zi (oS<|f2 zl zA zS) (oS<|f2 (f2 zl zA zS) zA zt) Ql) aN) tupP))
def X6:Fn:=wY 5 4 Kl
abbrev K9:List Str:=["self","tree"]
def Sd:FnScope K9 ["self","tree"] (zc XQ):=wz
def X8:VF:=
 (wA (ix 0 1 xj "trees")
  (W4<|f2 (gu 0 xj "trees") zV ZG))
def zO:List ZA->O->Option (D×O):=uG 2 2 X8
abbrev R_:List Str:=["self","thing"]
def UQ:FnScope R_ ["self","thing"] (zc Yk):=wz
def Pe:SF:=
 (zz<|zd yI Yp)
def RL:Fn:=wY 2 2 Pe
abbrev UN:List Str:=["self","thing"]
def VZ:FnScope UN ["self","thing"] (zc Zx):=wz
def Up:SF:=
 (zz<|jY (f2 zi (fC .non)<|zo .Is)<|zd yI Yp)
def Xi:Fn:=wY 2 2 Up
def Q6:List (Str×Fn):=[("Sums",RL),("Mosts",Xi),("Leasts",Xi)]
abbrev V2:List Str:=["self","thing"]
def Vf:FnScope V2 ["self","thing"] (zc vT):=wz
def Qe:SF:=
 (zx (xD (Rg (y_<|fT<|QE zi "tuple")<|fT<|f2 (fP yI z_) (f1 zl<|zJ xQ "width")<|zo .NotEq) (zz<|fC<|.bl false) vB)
  (zz<|fP (aC (yK (Vz zi) [none,some 0] ZO YD<|yn Q6 "is_part" zi BX) aN) t_))
def xU:Fn:=wY 2 2 Qe
def Y2:List (Str×Fn):=[("Sums",xU),("Mosts",xU),("Leasts",xU)]
abbrev XF:List Str:=["self","thing"]
def Y9:FnScope XF ["self","thing"] (zc xI):=wz
def Zk:SF:=
 (xD (y_<|fT<|yn Y2 "is_value" (f1 zl<|zJ zX "way") yI) qL vB)
def yN:Fn:=wY 2 2 Zk
def xh:List (Str×Fn):=[("Makes",yN)]
abbrev Kc:List Str:=["self","row","value"]
def TR:FnScope Kc ["self","row"] (zc XH):=wz
def XR:VF:=
 (wA (xD (y_<|fT<|QE zi "list") qL vB)
  (wA (XW (Mw zi) (gN 2)<|yO<|yZ 0 xh "check_value" yt)
  (wA (yO<|zd (aC (fP yI z_) aN) x_)
  (W4<|wB 0 "Makes" "keep" zO<|aC (zd (aC (Me 0 zX "way") yI)<|yM 20) aN))))
def xx:List ZA->O->Option (D×O):=uG 3 2 XR
abbrev UO:List Str:=["self","make"]
def VX:FnScope UO ["self","make"] (zc Zt):=wz
def UH:SF:=
 (zx (xD (y_<|fT<|zd (aC zi<|aC zM<|aC (f2 (fP (aC (f1 zl<|zJ xj "trees") aN) z_) zV ZG) aN) ZJ) qL vB)
  (zz<|f2 (f1 zl<|zJ xj "trees") zi zZ))
def y6:Fn:=wY 2 2 UH
def xk:List (Str×Fn):=[("Makes",y6)]
abbrev XE:List Str:=["self","make","i","j","tree","pair","ahead"]
def Y4:FnScope XE ["self","make","i","j"] (zc xG):=wz
def XC:SF:=
 (zx (zE true 4<|yn xk "tree_at" zl yI)
  (zx (yO<|zd (aC zA<|aC zM<|aC (zd (aC zN aN) yV) aN) yY)
  (zx (yO<|zd (aC zU<|aC zA<|aC (zd (aC zN aN) yV) aN) yY)
  (zx (zE true 5<|zd (aC (f1 zl<|zJ zX "way")<|aC zN ZR)<|yD 20)
  (zx (zE true 6<|zd (aC (f1 zl<|zJ zX "way")<|aC (f2 yC zM zZ) yt)<|yD 20)
  (zz<|Ze<|dC (f2 yz zM zZ)<|dC (f2 yz zV zZ)<|dC (f2 yC zV zZ) dN))))))
def yq:Fn:=wY 7 4 XC
abbrev UM:List Str:=["self","thing","rows"]
def V3:FnScope UM ["self","thing"] (zc Zq):=wz
def Uw:SF:=
 (zx (xD (Rg (y_<|fT<|QE zi "tuple")<|fT<|f2 (fP yI z_) Zl<|zo .NotEq) (zz<|fC<|.bl false) vB)
  (zx (zE true 2<|f2 zi zM zZ)
  (zx (xD (Rg (y_<|fT<|QE zA "tuple")<|fT<|f2 (fP yt z_) (f1 zl<|zJ xQ "width")<|zo .NotEq) (zz<|fC<|.bl false) vB)
  (zz<|G0 (fP (aC (yK (Vz zA) [none,some 0] ZO YD<|yn Y2 "is_value" zi BX) aN) t_)<|yn Y2 "is_value" zl<|aC (f2 zi zV zZ) aN))))
def wR:Fn:=wY 3 2 Uw
abbrev UE:List Str:=["self","deed"]
def Qg:FnScope UE ["self","deed"] (zc Zw):=wz
def Uu:SF:=
 (zz zi)
def wO:Fn:=wY 2 2 Uu
abbrev Yl:List Str:=["self","ahead","stretch","rest"]
def ZK:FnScope Yl ["self","ahead","stretch","rest"] (zc y8):=wz
def Z2:SF:=
 (zz<|Qm<|zd (aC (f1 zl<|zJ zX "way")<|aC (zd (aC (f1 zl<|zJ zX "way")<|aC zi yt)<|zD 20) ZR)<|zD 20)
def zF:Fn:=wY 4 4 Z2
def yh:List (Str×Fn):=[("Makes",zF)]
def Q3:List (Str×Fn):=[("Sums",wO),("Mosts",wO),("Leasts",wO)]
def Ge:List (Str×Fn):=[("Sums",wR),("Mosts",wR),("Leasts",wR)]
def ym:List (Str×Fn):=[("Makes",yq)]
abbrev KR:List Str:=["self","make","i","j","deed","parts","stretch"]
def VE:FnScope KR ["self","make","i","j","deed"] (zc Wb):=wz
def K1:VF:=
 (wA (zE true 5<|yZ 0 ym "three_parts" (aC zi<|aC zA ZR))
  (wA (xD (y_<|fT<|yn Ge "is_deed" (Me 0 zX "way")<|aC zN aN) qL vB)
  (wA (zE true 6<|zd (aC (Me 0 zX "way")<|aC (f2 yC zV zZ)<|aC (yn Q3 "wait_of" (Me 0 zX "way")<|aC zN aN) aN) vI)
  (W4<|wB 0 "Makes" "keep" zO<|aC (yZ 0 yh "three_together" (aC (f2 yC zM zZ)<|aC yz<|aC (f2 yC Zl zZ) aN)) aN))))
def XZ:List ZA->O->Option (D×O):=uG 7 5 K1
abbrev RK:List Str:=["self","make","i","j","parts"]
def UU:FnScope RK ["self","make","i","j"] (zc Z1):=wz
def Pl:VF:=
 (wA (zE true 4<|yZ 0 ym "three_parts" (aC zi<|aC zA ZR))
  (W4<|wB 0 "Makes" "keep" zO<|aC (yZ 0 yh "three_together" (aC (f2 zN zM zZ)<|aC (zd (aC (Me 0 zX "way")<|aC (f2 zN zV zZ) aN) xC)<|aC (f2 zN Zl zZ) aN)) aN))
def Z5:List ZA->O->Option (D×O):=uG 5 4 Pl
abbrev UT:List Str:=["self","make","i","value","tree","parts"]
def Yq:FnScope UT ["self","make","i","value"] (zc Zs):=wz
def Uz:VF:=
 (wA (zE true 4<|yZ 0 xk "tree_at" yI)
  (wA (yO<|zd (aC zA<|aC zM<|aC (f2 (zd (aC zN aN) yV) zV ZG) aN) yY)
  (wA (yO<|yZ 0 xh "check_value" ZR)
  (wA (zE true 5<|yZ 0 ym "three_parts" (aC zi<|aC zA<|aC (f2 zA zV zt) aN))
  (W4<|wB 0 "Makes" "keep" zO<|aC (yZ 0 yh "three_together" (aC (f2 yC zM zZ)<|aC (zd (aC (Me 0 zX "way")<|aC (x9<|dC zU dN) aN)<|yM 20)<|aC (f2 yC Zl zZ) aN)) aN)))))
def Zy:List ZA->O->Option (D×O):=uG 6 4 Uz
abbrev Rm:List Str:=["self","make","i","other","tree","second","pair"]
def Zv:FnScope Rm ["self","make","i","other"] (zc Z8):=wz
def RA:VF:=
 (wA (zE true 4<|yZ 0 xk "tree_at" yI)
  (wA (zE true 5<|yZ 0 xk "tree_at" ZR)
  (wA (yO<|zd (aC zA<|aC zM<|aC (zd (aC zN aN) yV) aN) yY)
  (wA (yO<|zd (aC (f2 (zd (aC zN aN) yV) (zd MB yV) zt) aN) x_)
  (wA (zE true 6<|zd (aC (Me 0 zX "way")<|aC zN yt)<|yD 20)
  (W4<|wB 0 "Makes" "keep" zO<|aC (yZ 0 yh "three_together" (aC (f2 yz zM zZ)<|aC yC<|aC (f2 yz zV zZ) aN)) aN))))))
def ZV:List ZA->O->Option (D×O):=uG 7 4 RA
abbrev Nq:List Str:=["self","make","i","j","parts","stretch"]
def Qx:FnScope Nq ["self","make","i","j"] (zc Ve):=wz
def NN:VF:=
 (wA (zE true 4<|yZ 0 ym "three_parts" (aC zi<|aC zA ZR))
  (wA (zE true 5<|wB 0 "Makes" "keep" zO<|aC (f2 zN zV zZ) aN)
  (W4<|Ze<|dC yC<|dC (wB 0 "Makes" "keep" zO<|aC (zd (aC (Me 0 zX "way")<|aC (f2 zN zM zZ)<|aC (f2 zN Zl zZ) aN)<|zD 20) aN) dN)))
def Vn:List ZA->O->Option (D×O):=uG 6 4 NN
abbrev VP:List Str:=["_law_makes","_law_rows","_law_xs","_law_rest","_law_kind","_law_width","_law_make","_law_row","_law_i","_law_j","_law_other","_law_deed_here","_law_some","_law_there","_law_value_here"]
def yk:FnScope VP ["_law_makes","_law_rows","_law_xs","_law_rest","_law_kind","_law_width"] (zc Zm):=wz
def Nc:(["_law_value_here","_law_kind","_law_some"]:List Str).Nodup:=by decide +kernel
def Vs:VF:=
 (wA (zE true 6<|f2 (f2 zA zV zZ) (fP yI z_) yp)
  (wA (zE true 7<|f2 zi yz zZ)
  (wA (zE true 8<|f2 (f2 zA Zl zZ) (f2 (fP EK z_) zV zt) yp)
  (wA (zE true 9<|f2 (fV 8) (f2 (f2 zA O8 zZ) (f2 (f2 (fP EK z_) zV zt) (fV 8) ZG) yp) zt)
  (wA (zE true 10<|f2 zi (f2 (f2 zA CM zZ) (fP yI z_) yp) zZ)
  (wA (zE true 11<|f2 (f2 zA zM zZ) (fC<|.int 9) yp)
  (qJ (fT<|f2 xa O8<|zo .Lt) (wA (zE true 12<|zd (aC zU<|aC yC<|aC (f2 zN zM<|zo .Gt) aN) Gq)
  (wA (zE true 13<|yK (Vz<|V1 Ym (oS<|fV 8) (oS<|fV 9) Ql) [none,some 4,some 12] ZO YD<|zd (aC zi<|aC zA<|aC zl<|aC zV aN) QS)
  (W4<|Ze<|dC (Qm<|x9<|dC (Qm<|wB 0 "Makes" "done" XZ<|aC yz<|aC (fV 8)<|aC (fV 9)<|aC (fV 12) aN) dN)<|dC (Qm<|x9<|dC (Qm<|f2 (f2 (V1 Ym oN (oS<|fV 8) Ql) (fV 13) zt) (V1 Ym (oS<|fV 9) oN Ql) zt) dN) dN)))
  (qJ (fT<|f2 xa BS<|zo .Lt) (W4<|Ze<|dC (Qm<|x9<|dC (Qm<|wB 0 "Makes" "turned" Z5<|aC yz<|aC (fV 8)<|aC (fV 9) aN) dN)<|dC (Qm<|x9<|dC (Qm<|f2 (f2 (V1 Ym oN (oS<|fV 8) Ql) (V1 (V1 Ym (oS<|fV 8) (oS<|fV 9) Ql) oN (oS<|f1 zV pV) eT) zt) (V1 Ym (oS<|fV 9) oN Ql) zt) dN) dN)
  (qJ (Za (fT<|f2 xa BS<|zo .Eq)<|fT<|f2 (fV 8) (fP EK z_)<|zo .Lt) (wA (zE true 14<|zd (aC zU<|aC yC<|aC (f2 zN zM<|zo .Gt) aN) RD)
  (W4<|Ze<|dC (Qm<|x9<|dC (Qm<|wB 0 "Makes" "changed" Zy<|aC yz<|aC (fV 8)<|aC (fV 14) aN) dN)<|dC (Qm<|x9<|dC (Qm<|f2 (f2 (V1 Ym oN (oS<|fV 8) Ql) (x9<|dC (fV 14) dN) zt) (V1 Ym (oS<|f2 (fV 8) zV zt) oN Ql) zt) dN) dN))
  (qJ (Za (fT<|f2 xa t9<|zo .Eq)<|Za (fT<|f2 (fP EK z_) (fC<|.int 45)<|zo .LtE)<|fT<|f2 (fP (aC (fV 10) aN) z_) (fC<|.int 45)<|zo .LtE) (W4<|Ze<|dC (Qm<|x9<|dC (Qm<|wB 0 "Makes" "put_in" ZV<|aC yz<|aC (fV 8)<|aC (f2 (f2 zA CM zZ) (fP yI z_) yp) aN) dN)<|dC (Qm<|x9<|dC (Qm<|f2 (f2 (V1 Ym oN (oS<|fV 8) Ql) (fV 10) zt) (V1 Ym (oS<|fV 8) oN Ql) zt) dN) dN)
  (qJ (fT<|f2 xa (fC<|.int 7)<|zo .Eq) (W4<|Ze<|dC (Qm<|fP (aC (wB 0 "Makes" "cut" Vn<|aC yz<|aC (fV 8)<|aC (fV 9) aN) aN) lstP)<|dC (Qm<|x9<|dC (Qm<|V1 Ym (oS<|fV 8) (oS<|fV 9) Ql)<|dC (Qm<|f2 (V1 Ym oN (oS<|fV 8) Ql) (V1 Ym (oS<|fV 9) oN Ql) zt) dN) dN)
  (wA (zE true 12<|zd (aC zU<|aC (f2 (f2 zA BS zZ) (fC<|.int 7) yp)<|aC yC<|aC (f2 zN zM<|zo .Gt) aN) X6)
  (W4<|Ze<|dC (Qm<|x9<|dC (Qm<|wB 0 "Makes" "made" xx<|aC (fV 12) aN) dN)<|dC (Qm<|x9<|dC (fV 12) dN) dN)))))))))))))
def yF:List ZA->O->Option (D×O):=uG 15 6 Vs
abbrev N3:List Str:=["_law_kind","_law_row","_law_i","_law_sign","_law_width","_law_k","_law_there"]
def KQ:FnScope N3 ["_law_kind","_law_row","_law_i","_law_sign","_law_width"] (zc Vo):=wz
def NP:SF:=
 (zx (XW (Xo (aC zA<|aC (fP yI z_) aN) JO) (gN 5)<|zx (zE true 6<|f2 (zd (aC zl<|aC (V1 zi (oS zA) (oS<|f2 yC zV zt) Ql)<|aC zN aN) x8) (f2 zU zM zZ) zZ)
  (xD (Za (fT<|f2 yz (fC .non)<|zo .IsNot)<|fT<|f2 yz (f2 zU zV zZ)<|zo .GtE) (zz yC) vB))
  (zz<|fC .non))
def Rx:Fn:=wY 7 5 NP
abbrev RP:List Str:=["self","make"]
def UF:FnScope RP ["self","make"] (zc ZY):=wz
def RU:SF:=
 (zz<|zd (aC (f1 zl<|zJ zX "way")<|aC (yn xk "tree_at" zl yI) aN) UX)
def WS:Fn:=wY 2 2 RU
abbrev KI:List Str:=["self","make"]
def TU:FnScope KI ["self","make"] (zc X4):=wz
def GE:SF:=
 (zz<|zd (aC (yn xk "tree_at" zl yI) aN) yV)
def QZ:Fn:=wY 2 2 GE
def Qa:List (Str×Fn):=[("Makes",WS)]
def HJ:List (Str×Fn):=[("Makes",QZ)]
abbrev KP:List Str:=["_law_makes","_law_make","_law_row","_law_found","_law_one","_law_other"]
def T5:FnScope KP ["_law_makes","_law_make","_law_row"] (zc X2):=wz
def Ka:SF:=
 (zx (zE true 3<|yn Qa "listed" zl yI)
  (zx (xD (Rg (y_<|fT<|QE zU "list")<|Rg (fT<|f2 (fP ZR z_) (fP yt z_)<|zo .NotEq)<|fT<|f2 (yn HJ "many" zl yI) (fP yt z_)<|zo .NotEq) (zz<|fC<|.bl false) vB)
  (zx (XW (Yn<|aC zU yt) (gT 2<|Wz Jh<|Wz (gN 5) MV)<|xD (y_<|fT<|zd (aC zN MB) Wp) (zz<|fC<|.bl false) vB)
  (zz<|fC<|.bl true))))
def vX:Fn:=wY 6 3 Ka
abbrev Us:List Str:=["self","thing"]
def V4:FnScope Us ["self","thing"] (zc Zz):=wz
def UC:SF:=
 (zx (xD (Rg (y_<|fT<|QE zi "tuple")<|fT<|f2 (fP yI z_) Zl<|zo .NotEq) (zz<|fC<|.bl false) vB)
  (zz<|G0 (zd (aC (f2 zi zM zZ)<|aC zM<|aC (f2 (f1 zl<|zJ xQ "width") zV ZG) aN) ZJ)<|zd (aC (f2 zi zV zZ) aN) Yp))
def wK:Fn:=wY 2 2 UC
abbrev VY:List Str:=["self","sign","value","number"]
def W8:FnScope VY ["self","sign","value"] (zc vZ):=wz
def Qf:SF:=
 (zx (zE true 3<|f2 zA (f2 zi zM zZ) zZ)
  (zz<|G0 (f2 zU (fC .non)<|zo .IsNot)<|f2 zU (f2 zi zV zZ)<|zo .GtE))
def xW:Fn:=wY 4 3 Qf
def Gr:List (Str×Fn):=[("Sums",wK),("Mosts",wK),("Leasts",wK)]
def Y3:List (Str×Fn):=[("Sums",xW),("Mosts",xW),("Leasts",xW)]
abbrev P1:List Str:=["self","make","i","sign","row","whole","k"]
def Rf:FnScope P1 ["self","make","i","sign"] (zc YT):=wz
def To:SF:=
 (zx (zE true 4<|yn Qa "listed" zl yI)
  (zx (yO<|zd (aC zA<|aC zM<|aC (fP (aC zN aN) z_) aN) yY)
  (zx (xD (y_<|fT<|yn Gr "is_sign" (f1 zl<|zJ zX "way") ZR) qL vB)
  (zx (zE true 5<|yn WX "nothing" (f1 zl<|zJ zX "way") aN)
  (zx (XW (Xo (aC zA<|aC (fP (aC zN aN) z_) aN) JO) (gN 6)<|zx (zE true 5<|yn Y1 "join" (f1 zl<|zJ zX "way")<|aC yC<|aC (f2 zN yz zZ) aN)
  (xD (fT<|yn Y3 "has_sign" (f1 zl<|zJ zX "way")<|aC zU MB) (zz yz) vB))
  (zz<|fC .non))))))
def YN:Fn:=wY 7 4 To
abbrev T8:List Str:=["self","make","i","j"]
def Pr:FnScope T8 ["self","make","i","j"] (zc YH):=wz
def Ts:SF:=
 (zz<|Qm<|zd (aC (f1 zl<|zJ zX "way")<|aC (f2 (yn ym "three_parts" zl<|aC zi<|aC zA ZR) zV zZ) aN) Gm)
def YQ:Fn:=wY 4 4 Ts
def V0:List (Str×Fn):=[("Makes",YQ)]
def Fp:List (Str×Fn):=[("Makes",YN)]
abbrev P7:List Str:=["_law_makes","_law_make","_law_row","_law_xs","_law_kind","_law_width","_law_i","_law_j","_law_sign","_law_found","_law_due"]
def xZ:FnScope P7 ["_law_makes","_law_make","_law_row","_law_xs","_law_kind","_law_width"] (zc YS):=wz
def P9:SF:=
 (zx (zE true 6<|f2 (f2 zU Zl zZ) (f2 (fP yt z_) zV zt) yp)
  (zx (zE true 7<|f2 yz (f2 (f2 zU CM zZ) (f2 (f2 (fP yt z_) zV zt) yz ZG) yp) zt)
  (zx (xD (y_<|fT<|Q1<|zd (aC zl<|aC zi yt) vX) (zz<|fC<|.bl false) vB)
  (zx (xD (y_<|fT<|zd (aC (yn V0 "asked" zl<|aC zi<|aC yz EK)<|aC (zd (aC zN<|aC (V1 zA (oS yz) (oS Ym) Ql) MB) x8) aN) Wp) (zz<|fC<|.bl false) vB)
  (zx (zE true 8<|Ze<|dC (f2 (f2 zU BS zZ) yC yp)<|dC (zd (aC (f2 (f2 zU BS zZ) O8 yf) aN) ZT) dN)
  (zx (zE true 9<|yn Fp "first" zl<|aC zi<|aC yz<|aC (fV 8) aN)
  (zx (zE true 10<|zd (aC zN<|aC (V1 zA oN (oS<|f2 yz (fC<|.int 24) zt) Ql)<|aC yz<|aC (fV 8) MB) Rx)
  (zx (xD (Za (fT<|f2 (fV 10) (fC .non)<|zo .Is)<|fT<|f2 (fP yt z_) (f2 yz (fC<|.int 24) zt)<|zo .Gt) (zz<|jY (f2 (fV 9) (fC .non)<|zo .Is)<|G0 (zd (aC (fV 9) aN) xB)<|RC (f2 yz (fC<|.int 24) zt) (fV 9) (fP yt z_) (zo .LtE)<|zo .Lt) vB)
  (zx (xD (fT<|f2 (fV 10) (fC .non)<|zo .Is) (zz<|f2 (fV 9) (fC .non)<|zo .Is) vB)
  (zz<|G0 (zd (aC (fV 9) aN) xB)<|f2 (fV 9) (fV 10)<|zo .Eq))))))))))
def w5:Fn:=wY 11 6 P9
abbrev Qb:List Str:=["self","way"]
def Kf:FnScope Qb ["self","way"] (zc vQ):=wz
def YF:u5:=
 (UY (Gu 0 zX "way" zi)
  (qA 0 xj "trees" (x9 dN)))
def xf(c:Str):Fn:=lD c 2 2 YF
abbrev mK:List Str:=["_law_script","_law_kind","_law_width","_law_makes","_law_rows","_law_k","_law_cell","_law_xs","_law_rest","_law_numbers_here","_law_more","_law_number_here"]
def Z7:FnScope mK ["_law_script"] (zc Dn):=wz
def mf:SF:=
 (zx (zE true 1<|f2 (zd (aC zl<|aC zM aN) yG) O8 yp)
  (zx (zE true 2<|f2 zV (f2 (f2 (zd (aC zl<|aC zM aN) yG) O8 yf) O8 yp) zt)
  (zx (zE false 3<|zd (aC (zd (aC zi yt) PL) aN)<|xf "Makes")
  (zx (zE true 4<|x9<|dC (Qm<|zd (aC (zd (aC zl<|aC zV aN) yG)<|aC (f2 (f2 (zd (aC zl<|aC zM aN) yG) (fC<|.int 9) yf) (fC<|.int 31) yp)<|aC zA<|aC (f2 zi zM<|zo .Gt) aN) X6) dN)
  (zx (xD (fT<|f2 (wB 3 "Makes" "made" xx<|aC (fP (aC (f2 zN zM zZ) aN) lstP) aN) zM<|zo .NotEq) (zz<|fC<|.bl false) vB)
  (zx (XW (Xo (aC Zl<|aC (fC<|.int 63) aN) JO) (gN 5)<|zx (zE true 6<|f2 (zd (aC zl MB) yG) (f2 (fC<|.int 104729) yC zS) zt)
  (zx (zE true 7<|zd (aC yz<|aC t9 aN) v_)
  (zx (zE true 8<|f2 (f2 (f2 (f2 yz (f2 (fC<|.int 1000000007) t9<|W7 .Pow) yf) Zl yf) Zl zS) (f2 yz Zl yp) zt)
  (zx (tw (L7 3 (aC zU<|aC zN<|aC Ym<|aC (f2 (fV 8) (f2 Zl yC zS) zt)<|aC zi yt) yF)<|gT 2<|Wz (gN 9)<|Wz (gN 10) MV)
  (zx (xD (fT<|f2 (fV 9) (fP (aC (fP (aC zN aN) z_)<|aC (f2 (fP (aC zN aN) z_) (fP (aC (fV 10) aN) z_) zt) aN) oA)<|zo .NotEq) (zz<|fC<|.bl false) vB)
  (zx (zE true 4<|f2 zN (fV 10) zt)
  (XW (Mw<|fV 9) (gN 11)<|xD (y_<|fT<|Q1<|zd (aC zU<|aC xa<|aC (f2 zN xa zZ)<|aC Ym<|aC zi yt) w5) (zz<|fC<|.bl false) vB)))))))
  (zx (XW (Xo (aC (fP (aC zN aN) z_) aN) Rc) (gN 11)<|zx (xD (y_<|fT<|Q1<|zd (aC zU<|aC xa<|aC (f2 zN xa zZ) aN) vX) (zz<|fC<|.bl false) vB)
  (xD (y_<|fT<|zd (aC (yZ 3 V0 "asked" (aC xa<|aC zM<|aC (fP (aC (f2 zN xa zZ) aN) z_) aN))<|aC (zd (aC zi<|aC (f2 zN xa zZ) yt) x8) aN) Wp) (zz<|fC<|.bl false) vB))
  (zz<|fC<|.bl true))))))))
def SQ:Fn:=wY 12 1 mf
structure Fq(K:zzA)(mg:Str->Option Value)(x:Str)(st:Stmt)(f:Addr)(d:FuncData)(ps:List Str):Prop where
 F:Fun K x x st f d
 b:Binds K d ps []
 m:mg x=some (.ref f)
def U9{P:Program}{w:World}{K:zzA}{mg:Str->Option Value}{base:Heap}{kd:KD}{x:Str}{st:Stmt}{f:Addr}{d:FuncData}{N ps:List Str}{k:Nat}{c:SF}(Q:Fq K mg x st f d ps)(S:FnScope N ps (zc st))
 (hb:∀(cdv:Value) (A:Around) (outer:List Env) (s:Shared) (H:Hp) (E:XK),Room k (A.deeper<|envOfC x (zc st) s.heap.objs.size f cdv)->ua (FB xJ P w K mg base N x (zc st) f cdv A outer s H E).nox kd (YI st) c):
 Co x P w K mg base kd (k+1) f d ps (wY N.length ps.length c):=⟨xb Q.F S hb,Q.m,Q.F.kp,Q.b⟩
set_option genInjectivity false in
set_option genSizeOf false in
structure Adr where
 FH:Addr
 E1:FuncData
 NR:Addr
 NQ:FuncData
 XB:Addr
 Xb:FuncData
 Su:Addr
 SA:FuncData
 Pa:Addr
 Pd:FuncData
 Ui:Addr
 Um:FuncData
 VN:Addr
 VU:FuncData
 XS:Addr
 QI:FuncData
 Sv:Addr
 SZ:FuncData
 Na:Addr
 LI:FuncData
 SH:Addr
 SR:FuncData
 UV:Addr
 U2:FuncData
 XY:Addr
 Qz:FuncData
 wX:Addr
 Xv:FuncData
 Bm:Addr
 FA:FuncData
 VH:Addr
 VG:FuncData
 ZQ:Addr
 WG:FuncData
 vP:Addr
 Wv:FuncData
 Ky:Addr
 GG:FuncData
 Ua:Addr
 Uj:FuncData
 YO:Addr
 Vu:FuncData
 Yc:Addr
 QP:FuncData
 EL:Addr
 FV:FuncData
 GM:Addr
 G5:FuncData
 EH:Addr
 E3:FuncData
 Ex:Addr
 FQ:FuncData
 Jc:Addr
 Ci:FuncData
 T6:Addr
 Tj:FuncData
 RB:Addr
 RI:FuncData
 Cp:Addr
 Iz:FuncData
 WH:Addr
 Ww:FuncData
 Rr:Addr
 RM:FuncData
 P4:Addr
 Tq:FuncData
 K5:Addr
 Kk:FuncData
 Tg:Addr
 Td:FuncData
 Nh:Addr
 Nv:FuncData
 NS:Addr
 NI:FuncData
 K2:Addr
 KO:FuncData
 Lc:Addr
 G6:FuncData
 T9:Addr
 TV:FuncData
 NB:Addr
 NK:FuncData
 Fe:Addr
 Bf:FuncData
 Ec:Addr
 EA:FuncData
 Ke:Addr
 Kw:FuncData
 Pb:Addr
 Rv:FuncData
 Bh:Addr
 FG:FuncData
 Ja:Addr
 Cv:FuncData
 xR:Addr
 YB:FuncData
 SL:Addr
 S5:FuncData
 KA:Addr
 GU:FuncData
 Qv:Addr
 Ud:FuncData
 WZ:Addr
 WJ:FuncData
 Zp:Addr
 Xu:FuncData
 xY:Addr
 Yx:FuncData
 Zh:Addr
 Zc:FuncData
 Ue:Addr
 QW:FuncData
 Xc:Addr
 Xs:FuncData
 Zj:Addr
 Zi:FuncData
 wQ:Addr
 XA:FuncData
 wH:Addr
 Xj:FuncData
 wo:Addr
 x6:FuncData
 QU:Addr
 Q8:FuncData
 WK:Addr
 Ws:FuncData
 Xw:Addr
 Xg:FuncData
 W0:Addr
 WI:FuncData
 Pq:Addr
 Re:FuncData
 VI:Addr
 VD:FuncData
 NT:Addr
 Nu:FuncData
 Wm:Addr
 WQ:FuncData
 QH:Addr
 Uh:FuncData
 GS:Addr
 G4:FuncData
 wJ:Addr
 Xx:FuncData
 xS:Addr
 Yy:FuncData
 VQ:Addr
 Vv:FuncData
 VJ:Addr
 VB:FuncData
 Tz:Addr
 P2:FuncData
 Yr:Addr
 Yw:FuncData
 mM:Addr
 mC:FuncData
 Vy:Addr
 y7:Addr
 Zd:Addr
 xy:Addr
 y0:Addr
structure Txt(K:zzA)(kd:KD)(mg:Str->Option Value)(t:Adr):Prop where
 Av:Fq K mg "is_whole" Ul t.FH t.E1 ["thing"]
 Ir:Fq K mg "is_within" Vb t.NR t.NQ ["thing","least","most"]
 Mt:Fun K "__init__" "Knot.__init__" ZC t.XB t.Xb
 Mj:Binds K t.Xb ["self","whole","back","wait","turn","one","other"] []
 um:Fq K mg "leaf_of" PD t.Su t.SA ["value"]
 IK:Fun K "join" "Sums.join" Vg t.Pa t.Pd
 C9:Binds K t.Pd ["self","one","other"] []
 HK:Fun K "best" "Mosts.best" Wa t.Ui t.Um
 Om:Binds K t.Um ["self","numbers"] []
 B0:Fun K "best" "Leasts.best" YR t.VN t.VU
 B4:Binds K t.VU ["self","numbers"] []
 HG:Fun K "join" "Picks.join" XX t.XS t.QI
 GR:Binds K t.QI ["self","one","other"] []
 uB:Fq K mg "knot_of" PH t.Sv t.SZ ["way","one","other"]
 V8:Fun K "tree_of" "tree_of" Pw t.Na t.LI
 Py:Binds K t.LI ["way","row"] []
 yM:mg "tree_of"=some (.ref t.Na)
 uW:Fq K mg "size_of" PC t.SH t.SR ["tree"]
 Cn:Fun K "zero" "Sums.zero" Vc t.UV t.U2
 IE:Binds K t.U2 ["self"] []
 OK:Fun K "zero" "Picks.zero" X5 t.XY t.Qz
 La:Binds K t.Qz ["self"] []
 Mg:Fun K "nothing" "Wides.nothing" ZD t.wX t.Xv
 Xf:Binds K t.Xv ["self"] []
 Ap:Fq K mg "whole_of" Qy t.Bm t.FA ["way","tree"]
 BA:Fun K "across" "Sums.across" YV t.VH t.VG
 B6:Binds K t.VG ["self","row","numbers"] []
 EU:Fun K "across" "Picks.across" Z_ t.ZQ t.WG
 RX:Binds K t.WG ["self","row","numbers"] []
 EZ:Fun K "behind" "Wides.behind" Z0 t.vP t.Wv
 Wr:Binds K t.Wv ["self","one","other"] []
 HB:Fq K mg "both_waits" X7 t.Ky t.GG ["way","one","other"]
 OJ:Fun K "often" "Sums.often" X1 t.Ua t.Uj
 HN:Binds K t.Uj ["self","more","many"] []
 BN:Fun K "often" "Picks.often" YL t.YO t.Vu
 Tv:Binds K t.Vu ["self","more","many"] []
 O_:Fun K "made" "Wides.made" XI t.Yc t.QP
 QG:Binds K t.QP ["self","wait","value","many"] []
 J7:Fq K mg "done_all" QR t.EL t.FV ["way","tree","wait"]
 OI:Fq K mg "turned_all" X0 t.GM t.G5 ["way","tree"]
 Jq:Fq K mg "parts_of" Qp t.EH t.E3 ["way","knot"]
 FJ:Fun K "gather" "gather" KG t.Ex t.FQ
 CB:Binds K t.FQ ["way","tree","wait","turn","row"] []
 xT:mg "gather"=some (.ref t.Ex)
 tQ:Fq K mg "row_of" KH t.Jc t.Ci ["way","tree"]
 B2:Fq K mg "leaned_left" YJ t.T6 t.Tj ["way","one","other"]
 Bw:Fq K mg "leaned_right" ZS t.RB t.RI ["way","one","other"]
 tK:Fq K mg "evened" GN t.Cp t.Iz ["way","one","other"]
 xi:Fun K "put_together" "put_together" Yb t.WH t.Ww
 xM:Binds K t.Ww ["way","one","other"] []
 zD:mg "put_together"=some (.ref t.WH)
 Y7:Fun K "parted_at" "parted_at" Vj t.Rr t.RM
 Vm:Binds K t.RM ["way","tree","place"] []
 yD:mg "parted_at"=some (.ref t.Rr)
 BB:Fq K mg "check_place" YM t.P4 t.Tq ["place","least","most"]
 On:Fq K mg "check_size" XO t.K5 t.Kk ["size"]
 BP:Fq K mg "_law_cell_at" Y0 t.Tg t.Td ["_law_script","_law_k"]
 Jd:Fq K mg "_law_mixed" W_ t.Nh t.Nv ["_law_cell","_law_k"]
 Cu:Fq K mg "_law_whole" Vp t.NS t.NI ["_law_found"]
 OE:Fq K mg "_law_stream" X_ t.K2 t.KO ["_law_cell","_law_many"]
 HZ:Fq K mg "_law_number" XU t.Lc t.G6 ["_law_x"]
 BD:Fq K mg "_law_numbers" YZ t.T9 t.TV ["_law_cell","_law_many","_law_lack"]
 Ie:Fq K mg "_law_value" Vi t.NB t.NK ["_law_cell","_law_width","_law_lack"]
 An:Fq K mg "_law_deed" QV t.Fe t.Bf ["_law_cell","_law_width","_law_lack"]
 JY:Fq K mg "_law_both" Qw t.Ec t.EA ["_law_kind","_law_one","_law_other"]
 H9:Fq K mg "_law_joined" ZZ t.Ke t.Kw ["_law_kind","_law_row","_law_width"]
 EM:Fq K mg "_law_at_place" Z9 t.Pb t.Rv ["_law_kind","_law_row","_law_more","_law_value_here","_law_many"]
 JE:Fq K mg "_law_made" QT t.Bh t.FG ["_law_kind","_law_deed_here","_law_value_here","_law_many"]
 qw:Fq K mg "_law_is" G3 t.Ja t.Cv ["_law_found","_law_due"]
 LR:Fun K "__init__" "Wides.__init__" vU t.xR t.YB
 YA:Binds K t.YB ["self","width"] []
 D9:Fq K mg "_law_way" PP t.SL t.S5 ["_law_kind","_law_width"]
 Hx:Fq K mg "_law_values" XT t.KA t.GU ["_law_cell","_law_many","_law_width","_law_lack"]
 HA:Fun K "keep" "Makes.keep" XQ t.Qv t.Ud
 OD:Binds K t.Ud ["self","tree"] []
 EE:Fun K "is_part" "Sums.is_part" Yk t.WZ t.WJ
 ET:Binds K t.WJ ["self","thing"] []
 MF:Fun K "is_part" "Picks.is_part" Zx t.Zp t.Xu
 UK:Binds K t.Xu ["self","thing"] []
 L6:Fun K "is_value" "Wides.is_value" vT t.xY t.Yx
 Yv:Binds K t.Yx ["self","thing"] []
 P0:Fun K "check_value" "Makes.check_value" xI t.Zh t.Zc
 PY:Binds K t.Zc ["self","thing"] []
 OH:Fun K "made" "Makes.made" XH t.Ue t.QW
 OS:Binds K t.QW ["self","row"] []
 MH:Fun K "tree_at" "Makes.tree_at" Zt t.Xc t.Xs
 My:Binds K t.Xs ["self","make"] []
 PX:Fun K "three_parts" "Makes.three_parts" xG t.Zj t.Zi
 PR:Binds K t.Zi ["self","make","i","j"] []
 MJ:Fun K "is_deed" "Wides.is_deed" Zq t.wQ t.XA
 Xp:Binds K t.XA ["self","thing"] []
 Ms:Fun K "wait_of" "Wides.wait_of" Zw t.wH t.Xj
 Xr:Binds K t.Xj ["self","deed"] []
 Q_:Fun K "three_together" "Makes.three_together" y8 t.wo t.x6
 QJ:Binds K t.x6 ["self","ahead","stretch","rest"] []
 HS:Fun K "done" "Makes.done" Wb t.QU t.Q8
 Oy:Binds K t.Q8 ["self","make","i","j","deed"] []
 FY:Fun K "turned" "Makes.turned" Z1 t.WK t.Ws
 Be:Binds K t.Ws ["self","make","i","j"] []
 Mo:Fun K "changed" "Makes.changed" Zs t.Xw t.Xg
 MC:Binds K t.Xg ["self","make","i","value"] []
 FP:Fun K "put_in" "Makes.put_in" Z8 t.W0 t.WI
 Eo:Binds K t.WI ["self","make","i","other"] []
 CH:Fun K "cut" "Makes.cut" Ve t.Pq t.Re
 C7:Binds K t.Re ["self","make","i","j"] []
 Ti:Fun K "_law_changed" "_law_changed" Zm t.VI t.VD
 B5:Binds K t.VD ["_law_makes","_law_rows","_law_xs","_law_rest","_law_kind","_law_width"] []
 yF:mg "_law_changed"=some (.ref t.VI)
 C5:Fq K mg "_law_first" Vo t.NT t.Nu ["_law_kind","_law_row","_law_i","_law_sign","_law_width"]
 Bq:Fun K "listed" "Makes.listed" ZY t.Wm t.WQ
 Fs:Binds K t.WQ ["self","make"] []
 Hs:Fun K "many" "Makes.many" X4 t.QH t.Uh
 HI:Binds K t.Uh ["self","make"] []
 HP:Fq K mg "_law_listed" X2 t.GS t.G4 ["_law_makes","_law_make","_law_row"]
 MD:Fun K "is_sign" "Wides.is_sign" Zz t.wJ t.Xx
 Xd:Binds K t.Xx ["self","thing"] []
 LZ:Fun K "has_sign" "Wides.has_sign" vZ t.xS t.Yy
 Yt:Binds K t.Yy ["self","sign","value"] []
 BI:Fun K "first" "Makes.first" YT t.VQ t.Vv
 Sf:Binds K t.Vv ["self","make","i","sign"] []
 Sg:Fun K "asked" "Makes.asked" YH t.VJ t.VB
 BR:Binds K t.VB ["self","make","i","j"] []
 BF:Fq K mg "_law_answers" YS t.Tz t.P2 ["_law_makes","_law_make","_law_row","_law_xs","_law_kind","_law_width"]
 LF:Fun K "__init__" "Makes.__init__" vQ t.Yr t.Yw
 V6:Binds K t.Yw ["self","way"] []
 gQ:Fq K mg "law" Dn t.mM t.mC ["_law_script"]
 Wn:CI K kd mg "Knot" t.Vy
 yH:CI K kd mg "Makes" t.y7
 xO:CI K kd mg "Sums" t.Zd
 yX:CI K kd mg "Mosts" t.xy
 yw:CI K kd mg "Leasts" t.y0
 Mn:Meth K t.Vy "__init__" t.XB
 V_:Meth K t.y7 "__init__" t.Yr
 Uq:Meth K t.Zd "__init__" t.xR
 Qd:Meth K t.xy "__init__" t.xR
 Vk:Meth K t.y0 "__init__" t.xR
 O5:Meth K t.xy "best" t.Ui
 B7:Meth K t.y0 "best" t.VN
 CL:Meth K t.Zd "join" t.Pa
 HE:Meth K t.xy "join" t.XS
 BM:Meth K t.y0 "join" t.XS
 IV:Meth K t.Zd "zero" t.UV
 HD:Meth K t.xy "zero" t.XY
 B3:Meth K t.y0 "zero" t.XY
 Bo:Meth K t.Zd "nothing" t.wX
 Mb:Meth K t.xy "nothing" t.wX
 L8:Meth K t.y0 "nothing" t.wX
 BK:Meth K t.Zd "across" t.VH
 EB:Meth K t.xy "across" t.ZQ
 Mp:Meth K t.y0 "across" t.ZQ
 BJ:Meth K t.Zd "behind" t.vP
 FD:Meth K t.xy "behind" t.vP
 Mm:Meth K t.y0 "behind" t.vP
 HF:Meth K t.Zd "often" t.Ua
 Sa:Meth K t.xy "often" t.YO
 FE:Meth K t.y0 "often" t.YO
 Hw:Meth K t.y7 "made" t.Ue
 IW:Meth K t.Zd "made" t.Yc
 Ol:Meth K t.xy "made" t.Yc
 BY:Meth K t.y0 "made" t.Yc
 ER:Meth K t.Zd "is_part" t.WZ
 Mc:Meth K t.xy "is_part" t.Zp
 LY:Meth K t.y0 "is_part" t.Zp
 Mi:Meth K t.Zd "is_value" t.xY
 LV:Meth K t.xy "is_value" t.xY
 GA:Meth K t.y0 "is_value" t.xY
 Ov:Meth K t.y7 "keep" t.Qv
 PZ:Meth K t.y7 "check_value" t.Zh
 Mz:Meth K t.y7 "tree_at" t.Xc
 QD:Meth K t.y7 "three_together" t.wo
 FO:Meth K t.Zd "wait_of" t.wH
 Mr:Meth K t.xy "wait_of" t.wH
 Lq:Meth K t.y0 "wait_of" t.wH
 Bk:Meth K t.Zd "is_deed" t.wQ
 Mu:Meth K t.xy "is_deed" t.wQ
 Lw:Meth K t.y0 "is_deed" t.wQ
 PQ:Meth K t.y7 "three_parts" t.Zj
 Oe:Meth K t.y7 "done" t.QU
 Eu:Meth K t.y7 "turned" t.WK
 ME:Meth K t.y7 "changed" t.Xw
 EW:Meth K t.y7 "put_in" t.W0
 Io:Meth K t.y7 "cut" t.Pq
 E_:Meth K t.y7 "listed" t.Wm
 O3:Meth K t.y7 "many" t.QH
 EY:Meth K t.Zd "is_sign" t.wJ
 Mh:Meth K t.xy "is_sign" t.wJ
 Lp:Meth K t.y0 "is_sign" t.wJ
 Md:Meth K t.Zd "has_sign" t.xS
 Lj:Meth K t.xy "has_sign" t.xS
 Kz:Meth K t.y0 "has_sign" t.xS
 BV:Meth K t.y7 "asked" t.VJ
 BU:Meth K t.y7 "first" t.VQ
 Hy:xt K t.Vy "whole"
 IT:xt K t.Vy "back"
 CV:xt K t.Vy "wait"
 Ih:xt K t.Vy "turn"
 JP:xt K t.Vy "one"
 OL:xt K t.Vy "other"
 Je:xt K t.Vy "deep"
 CQ:xt K t.Vy "size"
 Oq:xt K t.Zd "width"
 BO:xt K t.xy "width"
 Bd:xt K t.y0 "width"
 Sj:xt K t.y7 "trees"
 Cj:xt K t.y7 "way"
 BL:GC K kd mg "MOST_IN_ROW" (.int 300)
 g8:mg "all"=none
 jt:mg "bool"=none
 sD:mg "int"=none
 Yj:mg "isinstance"=none
 vH:mg "len"=none
 Gh:mg "list"=none
 m4:mg "max"=none
 gR:mg "min"=none
 X3:mg "range"=none
 gS:mg "sum"=none
 HX:mg "tuple"=none
 nG:mg "zip"=none
 nt:rN K=true
set_option maxHeartbeats 8000000
section
variable{P:Program}{w:World}{K:zzA}{mg:Str->Option Value}{base:Heap}{kd:KD}{t:Adr}
def MR(T:Txt K kd mg t):CF K kd wC "whole":=(Yz T.Wn T.Hy Wi)
def tJ(T:Txt K kd mg t):CF K kd QN "back":=(Yz T.Wn T.IT Wi)
def Ak(T:Txt K kd mg t):CF K kd vW "wait":=(Yz T.Wn T.CV Wi)
def JX(T:Txt K kd mg t):CF K kd Vr "turn":=(Yz T.Wn T.Ih Wi)
def Dh(T:Txt K kd mg t):CF K kd Q5 "one":=(Yz T.Wn T.JP Wi)
def ML(T:Txt K kd mg t):CF K kd ZP "other":=(Yz T.Wn T.OL Wi)
def Qs(T:Txt K kd mg t):CF K kd yr "deep":=(Yz T.Wn T.Je Wi)
def LN(T:Txt K kd mg t):CF K kd Zr "size":=(Yz T.Wn T.CQ Wi)
def AY(T:Txt K kd mg t):CF K kd xQ "width":=(Yz T.xO T.Oq<|Yz T.yX T.BO<|Yz T.yw T.Bd Wi)
def MU(T:Txt K kd mg t):CF K kd xj "trees":=(Yz T.yH T.Sj Wi)
def P5(T:Txt K kd mg t):CF K kd zX "way":=(Yz T.yH T.Cj Wi)
local macro_rules | `(tactic| trivial)=>do let T:=Lean.mkIdent `T;let h:=Lean.mkIdent `hkd;let r:=Lean.mkIdent `hr;`(tactic| first|(show AE _ _ _ _;first|exact av _|exact aI|(refine ax $h ?_ ?_<;>trivial)|(refine bn ?_ ?_<;>trivial)|exact aZ|exact aB|(refine ec $h $r ?_ ?_<;>trivial)|(refine cq (by assumption) $r ?_<;>trivial)|(refine ZH ?_;trivial)|(refine vO ?_;trivial)|(refine cm ?_ ?_ ?_ ?_<;>trivial)|(refine yS ?_ ?_ ?_<;>trivial)|(refine bi (yc ($h _ rfl rfl rfl)) (Txt.vH $T) Bt.len ?_;trivial)|(refine bi (SD rfl) (Txt.m4 $T) Bt.max ?_;trivial)|(refine bi (uk rfl) (Txt.gR $T) Bt.min ?_;trivial)|(refine bi (uV rfl) (Txt.g8 $T) Bt.all ?_;trivial)|(refine bi (uu rfl) (Txt.gS $T) Bt.sum ?_;trivial)|(refine jR EJ (Txt.sD $T) Bt.int ?_;trivial)|(refine EX ($h _ rfl rfl rfl) rfl rfl (Txt.Yj $T) Bt.isinstance rfl (Txt.sD $T) Bt.int ?_ (Bt.n _ rfl) (by decide) (Bt.n _ rfl) (by decide) rfl rfl rfl;trivial)|(refine jR SY (Txt.HX $T) Bt.tuple ?_;trivial)|(refine EX ($h _ rfl rfl rfl) rfl rfl (Txt.Yj $T) Bt.isinstance rfl (Txt.HX $T) Bt.tuple ?_ (Bt.n _ rfl) (by decide) (Bt.n _ rfl) (by decide) rfl rfl rfl;trivial)|(refine jR LQ (Txt.Gh $T) Bt.list ?_;trivial)|(refine EX ($h _ rfl rfl rfl) rfl rfl (Txt.Yj $T) Bt.isinstance rfl (Txt.Gh $T) Bt.list ?_ (Bt.n _ rfl) (by decide) (Bt.n _ rfl) (by decide) rfl rfl rfl;trivial)|(refine EX ($h _ rfl rfl rfl) rfl rfl (Txt.Yj $T) Bt.isinstance rfl (Txt.jt $T) Bt.bool ?_ (Bt.n _ rfl) (by decide) (Bt.n _ rfl) (by decide) rfl rfl rfl;trivial)|(refine ae_lrange rfl rfl (Txt.X3 $T) rfl (Txt.Gh $T) ?_ rfl rfl;trivial)|(refine jL ?_;trivial)|(refine CO ?_ ?_ ?_<;>trivial)|(refine O6 ?_ ?_<;>trivial)|(refine mW ?_ ?_<;>trivial)|(refine Fy ?_;trivial)|(refine E7 (RW ($h _ rfl rfl rfl) (NC $r) _) (RW ($h _ rfl rfl rfl) (NC $r) _) ?_ ?_ ?_ (by with_unfolding_all rfl)<;>trivial)|(refine rL Lh sO PySem.F.slot_list_append PySem.F.type_list_append (pv _) ?_ rfl rfl rfl rfl rfl;trivial)|exact jQ (Txt.BL $T) rfl (by decide)|(refine fd (Qs $T) ?_;trivial)|(refine fd (LN $T) ?_;trivial)|(refine fd (MR $T) ?_;trivial)|(refine fd (tJ $T) ?_;trivial)|(refine fd (AY $T) ?_;trivial)|(refine fd (Ak $T) ?_;trivial)|(refine fd (JX $T) ?_;trivial)|(refine fd (Dh $T) ?_;trivial)|(refine fd (ML $T) ?_;trivial)|(refine fd (P5 $T) ?_;trivial)|(refine fd (MU $T) ?_;trivial)|(refine mq (Txt.Wn $T).eq ((Txt.Wn $T).mk' (Txt.Mn $T)) (by assumption) $r (Txt.Wn $T).mg (Txt.Mj $T) ?_;trivial)|(refine mq (Txt.xO $T).eq ((Txt.xO $T).mk' (Txt.Uq $T)) (by assumption) $r (Txt.xO $T).mg (Txt.b_Sums___init__ $T) ?_;trivial)|(refine mq (Txt.yX $T).eq ((Txt.yX $T).mk' (Txt.Qd $T)) (by assumption) $r (Txt.yX $T).mg (Txt.b_Mosts___init__ $T) ?_;trivial)|(refine mq (Txt.yw $T).eq ((Txt.yw $T).mk' (Txt.Vk $T)) (by assumption) $r (Txt.yw $T).mg (Txt.b_Leasts___init__ $T) ?_;trivial)|(refine mq (Txt.yH $T).eq ((Txt.yH $T).mk' (Txt.V_ $T)) (by assumption) $r (Txt.yH $T).mg (Txt.V6 $T) ?_;trivial)|(refine mt (by assumption) $r ?_ ?_ rfl<;>trivial)|(refine cQ (by assumption) $r ?_ rfl;trivial)|(refine wb (by assumption) (($r).mono (by omega)) yP (pv _) ?_ rfl rfl rfl;trivial)|(refine we (by assumption) (($r).mono (by omega)) yP (pv _) ?_ rfl rfl rfl;trivial)|(refine wV ?_;trivial))|(show AA _ _ _ _;first|(refine bc ?_ ?_<;>trivial)|exact zg)|exact O0|(refine ni ?_;trivial)|(intro _;trivial)|(show Jl _ _ _ _;first|(refine cX (by assumption) ?_ ?_ ?_ ?_<;>trivial)|(refine yE ?_;trivial)|(refine Zb ?_ ?_ ?_<;>trivial)|(refine c_ ?_ ?_ ?_<;>trivial)|(refine pS ?_ rfl;trivial)|(refine sv _ _ (by assumption) ?_;trivial)|(refine asg_ ?_ ?_<;>trivial)|exact gz)|(show ua _ _ _ _;first|(refine sj _ (by assumption) ?_ ?_<;>trivial)|(refine yb ?_ ?_<;>trivial)|(refine zT ?_;trivial)|exact yR)|(show AT _ _ _ _;first|(refine tc $h $r ?_ ?_<;>trivial)|(refine RF ?_;trivial)|(refine QM ?_ (λ_=>rfl);trivial)|(refine AW.at_ ?_;trivial))|(show AD _ _ _ _;first|(refine bd ?_ ?_<;>trivial)|exact yx)|(show AO _ _ _ _;first|(refine yL ?_;trivial)|exact vG)|(show AG _ _ _ _ _;first|exact an _ (by assumption)|exact an _ (bt (by kernel_rfl))|(refine Jo rfl ?_ rfl rfl;trivial))|(show nV _ _ _ _ _;first|(refine cU ?_ ?_<;>trivial)|exact OG)|(show iy _ _ _ _;first|exact eg _ (by assumption)|(refine dF ?_;trivial))|(show qC _ _ _ _;first|(refine dw ?_ ?_<;>trivial)|exact fU)|(show oG _ _ _ _ _;first|(refine SI rfl (Txt.X3 $T) ?_ rfl;trivial)|(refine o8 rfl (Txt.nG $T) ?_ rfl rfl;trivial)|(refine sZ ?_;trivial))|(show AI _ _ _ _ _;first|(refine Lu rfl (Txt.X3 $T) ?_ rfl;trivial)|(refine So rfl (Txt.X3 $T) ?_ rfl rfl;trivial)|(refine nu rfl (Txt.nG $T) ?_ rfl rfl;trivial)|(refine FK ?_;trivial))|(show AW _ _ _ _;first|(refine gq ?_ ?_<;>trivial)|(refine FF ?_ ?_<;>trivial)|(refine uQ ?_;trivial)|(refine QO ?_;trivial))|(show AK _ _ _ _;first|exact tB (pv _)))
local macro_rules |`(⋯)=>`(by first|with_reducible rfl|assumption|exact zb|exact zv|exact xp|exact zk|(with_reducible refine za ?_;first|rfl|assumption)|(with_reducible refine WD.e ?_;exact ⋯)|(with_reducible refine zh ?_ ?_ <;> exact ⋯)|(with_reducible refine y4 ?_ ?_ <;> exact ⋯)|(with_reducible refine yA ?_ ?_ <;> exact ⋯)|(with_reducible refine Xa ?_ ?_ <;> exact ⋯)|(with_reducible refine Z6 ?_ ?_ ?_ <;> exact ⋯)|(with_reducible refine WB ?_ ?_ ?_ ?_ <;> exact ⋯)|(with_reducible refine Yh ?_ ?_ ?_ ?_ <;> exact ⋯)|(with_reducible refine zY ?_ ?_ rfl rfl <;> exact ⋯)|(with_reducible refine zp ?_;exact ⋯)|(with_reducible refine wu ?_;exact ⋯)|(with_reducible refine zC ?_ rfl;exact ⋯)|exact yu (by decide)|omega|rfl|decide)
def QC(T:Txt K kd mg t)(hkd:yU P w K kd):Co "is_whole" P w K mg base kd 1 t.FH t.E1 ["thing"] Yp:=by
 refine U9 (N:=Bs) (k:=0) (c:=Em) T.Av NX λ_ _ _ _ _ _ hr=>?_;have:=NX.nd;conv=>arg 3;whnf
 trivial
def Rh(T:Txt K kd mg t)(hkd:yU P w K kd):Co "is_within" P w K mg base kd 2 t.NR t.NQ ["thing","least","most"] ZJ:=by
 refine U9 (N:=NM) (k:=1) (c:=Nz) T.Ir HY λcdv A outer s H E hr=>?_;exact(zT<|yE<|O6 (cq (QC T hkd) hr<|bc (av 0) zg)<|Fy<|E7 (RW (hkd _ rfl rfl rfl) (NC hr) .LtE) (RW (hkd _ rfl rfl rfl) (NC hr) .LtE) (av 1) (av 0) (av 2)<|by with_unfolding_all rfl)
def Zu(T:Txt K kd mg t)(hkd:yU P w K kd)(c:Str):FnOk P w K mg base xJ 1 t.XB t.Xb ["self","whole","back","wait","turn","one","other"] (lO K kd c<|yy c):=by
 refine Jx (N:=Ux) (k:=0) (b:=Xe) T.Mt L1 (by decide) λcdv A outer s H E hr=>?_;exact(Y6 (YY (MR T) (pv 0) (av 1) rfl)<|Y6 (YY (tJ T) (pv 0) (av 2) rfl)<|Y6 (YY (Ak T) (pv 0) (av 3) rfl)<|Y6 (YY (JX T) (pv 0) (av 4) rfl)<|Y6 (YY (Dh T) (pv 0) (av 5) rfl)<|Y6 (YY (ML T) (pv 0) (av 6) rfl)<|Y6 (YY (Qs T) (pv 0) (CO (tc hkd hr (av 5) aZ) aI<|bn aI<|bi (SD rfl) T.m4 Bt.max<|bc (fd (Qs T)<|av 5)<|bc (fd (Qs T)<|av 6) zg) rfl)<|Of<|YY (LN T) (pv 0) (CO (tc hkd hr (av 5) aZ) aI<|bn (fd (LN T)<|av 5)<|fd (LN T)<|av 6) rfl)
def SO(T:Txt K kd mg t)(hkd:yU P w K kd):Co "leaf_of" P w K mg base kd 3 t.Su t.SA ["value"] Pz:=by
 refine U9 (N:=SG) (k:=2) (c:=Hg) T.um Br λ_ _ _ _ _ _ hr=>?_;have:=Br.nd;have:=Zu (base:=base) T hkd "Knot";conv=>arg 3;whnf
 trivial
def IJ(T:Txt K kd mg t)(hkd:yU P w K kd):FnOk P w K mg base xJ 1 t.Pa t.Pd ["self","one","other"] (VT K kd Ry):=by
 refine xb (N:=N9) (k:=0) (c:=Nm) T.IK KU λ_ _ _ _ _ _ hr=>?_;have:=KU.nd;conv=>arg 3;whnf
 trivial
def Oo(T:Txt K kd mg t)(hkd:yU P w K kd):FnOk P w K mg base xJ 1 t.Ui t.Um ["self","numbers"] (VT K kd Q9):=by
 refine xb (N:=K_) (k:=0) (c:=KZ) T.HK TL λ_ _ _ _ _ _ hr=>?_;have:=TL.nd;conv=>arg 3;whnf
 trivial
def BC(T:Txt K kd mg t)(hkd:yU P w K kd):FnOk P w K mg base xJ 1 t.VN t.VU ["self","numbers"] (VT K kd VC):=by
 refine xb (N:=Tx) (k:=0) (c:=TJ) T.B0 Po λ_ _ _ _ _ _ hr=>?_;have:=Po.nd;conv=>arg 3;whnf
 trivial
def tH(T:Txt K kd mg t)(hkd:yU P w K kd):MT P w K mg base kd "best" 1 Hm:=(zP T.yX T.O5 (Oo T hkd) (by decide) T.Om<|zP T.yw T.B7 (BC T hkd) (by decide) T.B4 xq)
def Kh(T:Txt K kd mg t)(hkd:yU P w K kd):FnOk P w K mg base xJ 2 t.XS t.QI ["self","one","other"] (VT K kd X9):=by
 refine xb (N:=G2) (k:=1) (c:=Lb) T.HG T_ λ_ _ _ _ _ _ hr=>?_;have:=T_.nd;have:=tH (base:=base) T hkd;conv=>arg 3;whnf
 trivial
def OR(T:Txt K kd mg t)(hkd:yU P w K kd):MT P w K mg base kd "join" 2 Y1:=(zP T.xO T.CL (IJ T hkd) (by decide) T.C9<|zP T.yX T.HE (Kh T hkd) (by decide) T.GR<|zP T.yw T.BM (Kh T hkd) (by decide) T.GR xq)
def V7(T:Txt K kd mg t)(hkd:yU P w K kd):Co "knot_of" P w K mg base kd 3 t.Sv t.SZ ["way","one","other"] yW:=by
 refine U9 (N:=Hc) (k:=2) (c:=Sm) T.uB FC λ_ _ _ _ _ _ hr=>?_;have:=FC.nd;have:=Zu (base:=base) T hkd "Knot";have:=OR (base:=base) T hkd;conv=>arg 3;whnf
 trivial
theorem LG(T:Txt K kd mg t)(hkd:yU P w K kd):∀n:Nat,FnOk P w K mg base xJ (3+n) t.Na t.LI ["way","row"] (VT K kd<|yM n)
 |0=>Ot
 |n+1=>by
  have G:=LG T hkd n;refine xb (N:=Sn) (k:=3+n) (c:=SN<|yM n) T.V8 Ew λcdv A outer s H E hr=>?_;exact(by
  refine yb ?_ ?_;exact(Zb (tc hkd hr (bi (yc<|hkd _ rfl rfl rfl) T.vH Bt.len<|bc (av 1) zg) aI) (zT<|yE aZ) yR);refine yb ?_ ?_;exact(Zb (tc hkd hr (bi (yc<|hkd _ rfl rfl rfl) T.vH Bt.len<|bc (av 1) zg) aI) (zT<|yE<|cq (SO T hkd) hr<|bc (ax hkd (av 1) aI) zg) yR);refine sj 2 Ew.nd ?_ ?_;exact(bn (bi (yc<|hkd _ rfl rfl rfl) T.vH Bt.len<|bc (av 1) zg) aI);exact zT<|yE<|cq (V7 T hkd) hr<|bc (av 0)<|bc (ck G hr T.yM T.V8.kp T.Py<|bc (av 0)<|bc (yS (av 1) vG<|yL<|av 2) zg)<|bc (ck G hr T.yM T.V8.kp T.Py<|bc (av 0)<|bc (yS (av 1) (yL<|av 2) vG) zg) zg)
def Wh(T:Txt K kd mg t)(hkd:yU P w K kd):Co "size_of" P w K mg base kd 1 t.SH t.SR ["tree"] yV:=by
 refine U9 (N:=SC) (k:=0) (c:=SJ) T.uW Bc λ_ _ _ _ _ _ hr=>?_;have:=Bc.nd;conv=>arg 3;whnf
 trivial
def II(T:Txt K kd mg t)(hkd:yU P w K kd):FnOk P w K mg base xJ 1 t.UV t.U2 ["self"] (VT K kd Ru):=by
 refine xb (N:=Nr) (k:=0) (c:=Nn) T.Cn Ku λ_ _ _ _ _ _ hr=>?_;have:=Ku.nd;conv=>arg 3;whnf
 trivial
def Kd(T:Txt K kd mg t)(hkd:yU P w K kd):FnOk P w K mg base xJ 1 t.XY t.Qz ["self"] (VT K kd QQ):=by
 refine xb (N:=G7) (k:=0) (c:=K4) T.OK P_ λ_ _ _ _ _ _ hr=>?_;have:=P_.nd;conv=>arg 3;whnf
 trivial
def jg(T:Txt K kd mg t)(hkd:yU P w K kd):MT P w K mg base kd "zero" 1 OC:=(zP T.xO T.IV (II T hkd) (by decide) T.IE<|zP T.yX T.HD (Kd T hkd) (by decide) T.La<|zP T.yw T.B3 (Kd T hkd) (by decide) T.La xq)
def Xz(T:Txt K kd mg t)(hkd:yU P w K kd):FnOk P w K mg base xJ 2 t.wX t.Xv ["self"] (VT K kd wW):=by
 refine xb (N:=Uo) (k:=1) (c:=Ur) T.Mg VW λ_ _ _ _ _ _ hr=>?_;have:=VW.nd;have:=jg (base:=base) T hkd;conv=>arg 3;whnf
 trivial
def Le(T:Txt K kd mg t)(hkd:yU P w K kd):MT P w K mg base kd "nothing" 2 WX:=(zP T.xO T.Bo (Xz T hkd) (by decide) T.Xf<|zP T.yX T.Mb (Xz T hkd) (by decide) T.Xf<|zP T.yw T.L8 (Xz T hkd) (by decide) T.Xf xq)
def J3(T:Txt K kd mg t)(hkd:yU P w K kd):Co "whole_of" P w K mg base kd 3 t.Bm t.FA ["way","tree"] Gm:=by
 refine U9 (N:=Fc) (k:=2) (c:=FW) T.Ap Nt λ_ _ _ _ _ _ hr=>?_;have:=Nt.nd;have:=Le (base:=base) T hkd;conv=>arg 3;whnf
 trivial
def BZ(T:Txt K kd mg t)(hkd:yU P w K kd):FnOk P w K mg base xJ 1 t.VH t.VG ["self","row","numbers"] (VT K kd VS):=by
 refine xb (N:=Tp) (k:=0) (c:=T4) T.BA RN λ_ _ _ _ _ _ hr=>?_;have:=RN.nd;conv=>arg 3;whnf
 trivial
def U_(T:Txt K kd mg t)(hkd:yU P w K kd):FnOk P w K mg base xJ 2 t.ZQ t.WG ["self","row","numbers"] (VT K kd Wq):=by
 refine xb (N:=Ra) (k:=1) (c:=RJ) T.EU UB λ_ _ _ _ _ _ hr=>?_;have:=UB.nd;have:=tH (base:=base) T hkd;conv=>arg 3;whnf
 trivial
def IU(T:Txt K kd mg t)(hkd:yU P w K kd):MT P w K mg base kd "across" 2 vY:=(zP T.xO T.BK (BZ T hkd) (by decide) T.B6<|zP T.yX T.EB (U_ T hkd) (by decide) T.RX<|zP T.yw T.Mp (U_ T hkd) (by decide) T.RX xq)
def WM(T:Txt K kd mg t)(hkd:yU P w K kd):FnOk P w K mg base xJ 3 t.vP t.Wv ["self","one","other"] (VT K kd vL):=by
 refine xb (N:=RS) (k:=2) (c:=Pp) T.EZ UP λ_ _ _ _ _ _ hr=>?_;have:=UP.nd;have:=IU (base:=base) T hkd;have:=OR (base:=base) T hkd;conv=>arg 3;whnf
 trivial
def tF(T:Txt K kd mg t)(hkd:yU P w K kd):MT P w K mg base kd "behind" 3 Sy:=(zP T.xO T.BJ (WM T hkd) (by decide) T.Wr<|zP T.yX T.FD (WM T hkd) (by decide) T.Wr<|zP T.yw T.Mm (WM T hkd) (by decide) T.Wr xq)
def GY(T:Txt K kd mg t)(hkd:yU P w K kd):Co "both_waits" P w K mg base kd 4 t.Ky t.GG ["way","one","other"] XJ:=by
 refine U9 (N:=Kt) (k:=3) (c:=Kg) T.HB Tw λ_ _ _ _ _ _ hr=>?_;have:=Tw.nd;have:=tF (base:=base) T hkd;conv=>arg 3;whnf
 trivial
def OV(T:Txt K kd mg t)(hkd:yU P w K kd):FnOk P w K mg base xJ 1 t.Ua t.Uj ["self","more","many"] (VT K kd Wc):=by
 refine xb (N:=KB) (k:=0) (c:=Kp) T.OJ T7 λ_ _ _ _ _ _ hr=>?_;have:=T7.nd;conv=>arg 3;whnf
 trivial
def TQ(T:Txt K kd mg t)(hkd:yU P w K kd):FnOk P w K mg base xJ 1 t.YO t.Vu ["self","more","many"] (VT K kd vA):=by
 refine xb (N:=TX) (k:=0) (c:=Te) T.BN Ph λ_ _ _ _ _ _ hr=>?_;have:=Ph.nd;conv=>arg 3;whnf
 trivial
def nE(T:Txt K kd mg t)(hkd:yU P w K kd):MT P w K mg base kd "often" 1 Bx:=(zP T.xO T.HF (OV T hkd) (by decide) T.HN<|zP T.yX T.Sa (TQ T hkd) (by decide) T.Tv<|zP T.yw T.FE (TQ T hkd) (by decide) T.Tv xq)
def Ub(T:Txt K kd mg t)(hkd:yU P w K kd):FnOk P w K mg base xJ 3 t.Yc t.QP ["self","wait","value","many"] (VT K kd Yd):=by
 refine xb (N:=K0) (k:=2) (c:=G9) T.O_ Gb λ_ _ _ _ _ _ hr=>?_;have:=Gb.nd;have:=Le (base:=base) T hkd;have:=IU (base:=base) T hkd;have:=OR (base:=base) T hkd;have:=nE (base:=base) T hkd;conv=>arg 3;whnf
 trivial
def sU(T:Txt K kd mg t)(hkd:yU P w K kd):MT P w K mg base kd "made" 3 Pu:=(zP T.xO T.IW (Ub T hkd) (by decide) T.QG<|zP T.yX T.Ol (Ub T hkd) (by decide) T.QG<|zP T.yw T.BY (Ub T hkd) (by decide) T.QG xq)
def EG(T:Txt K kd mg t)(hkd:yU P w K kd):Co "done_all" P w K mg base kd 5 t.EL t.FV ["way","tree","wait"] vI:=by
 refine U9 (N:=Bl) (k:=4) (c:=Bb) T.J7 Nk λ_ _ _ _ _ _ hr=>?_;have:=Nk.nd;have:=sU (base:=base) T hkd;have:=SO (base:=base) T hkd;have:=Zu (base:=base) T hkd "Knot";have:=GY (base:=base) T hkd;conv=>arg 3;whnf
 trivial
def K6(T:Txt K kd mg t)(hkd:yU P w K kd):Co "turned_all" P w K mg base kd 3 t.GM t.G5 ["way","tree"] xC:=by
 refine U9 (N:=G8) (k:=2) (c:=Ko) T.OI Tn λ_ _ _ _ _ _ hr=>?_;have:=Tn.nd;have:=Zu (base:=base) T hkd "Knot";conv=>arg 3;whnf
 trivial
def Wu(T:Txt K kd mg t)(hkd:yU P w K kd):Co "parts_of" P w K mg base kd 6 t.EH t.E3 ["way","knot"] wk:=by
 refine U9 (N:=Ep) (k:=5) (c:=Ee) T.Jq Ny λ_ _ _ _ _ _ hr=>?_;have:=Ny.nd;have:=EG (base:=base) T hkd;have:=K6 (base:=base) T hkd;conv=>arg 3;whnf
 trivial
theorem Cm(T:Txt K kd mg t)(hkd:yU P w K kd):∀n:Nat,FnOk P w K mg base xJ (4+n) t.Ex t.FQ ["way","tree","wait","turn","row"] (rz K kd<|xT n)
 |0=>ql
 |n+1=>by
  have G:=Cm T hkd n;refine jj (N:=CW) (k:=4+n) (c:=GX<|xT n) T.FJ Qc (by decide) λcdv A outer s H E hr=>?_;exact(uE (tc hkd hr (fd (Qs T)<|av 1) aI) (Uk (rL Lh sO PySem.F.slot_list_append PySem.F.type_list_append (pv 4) (bd (CO (tc hkd hr (av 2) aZ) (fd (MR T)<|av 1)<|mt (sU T hkd) hr (av 0) (bc (av 2)<|bc (fd (MR T)<|av 1)<|bc aI zg) rfl) yx) rfl rfl rfl rfl rfl) rfl)<|by
  refine E5 ?_ ?_;exact(by refine By true 5 (by decide) Qc.nd ?_;exact(cq (GY T hkd) hr<|bc (av 0)<|bc (fd (Ak T)<|av 1)<|bc (av 2) zg));refine E5 ?_ ?_;exact(by refine By true 6 (by decide) Qc.nd ?_;exact(ec hkd hr (fd (JX T)<|av 1)<|av 3));refine E5 ?_ ?_;exact(by refine By true 7 (by decide) Qc.nd ?_;exact(CO (QM (av 6) λ_=>rfl) (ZH<|bd (fd (ML T)<|av 1)<|bd (fd (Dh T)<|av 1) yx)<|ZH<|bd (fd (Dh T)<|av 1)<|bd (fd (ML T)<|av 1) yx));exact GV<|tU (by decide) PassesOwn.never rfl (FK<|av 7) (an 8 Qc.nd) (GV<|Jg (i:=4) G (hr.mono<|by omega) rfl T.xT T.FJ.kp T.CB yP (bc (av 0)<|bc (av 8)<|bc (av 5)<|bc (av 6)<|bc (av 4) zg) (by decide) rfl rfl rfl) λ_=>rfl)
def qp(T:Txt K kd mg t)(hkd:yU P w K kd):Co "row_of" P w K mg base kd 25 t.Jc t.Ci ["way","tree"] UX:=by
 refine U9 (N:=Iu) (k:=24) (c:=CJ) T.tQ Lx λ_ _ _ _ _ _ hr=>?_;have:=Lx.nd;conv=>arg 3;whnf
 exact(by
  refine sj 2 Lx.nd ?_ ?_;trivial;refine yb ?_ ?_;exact(Zb (tc hkd hr (av 1) aZ) (zT<|rK (i:=2) (Cm T hkd 20) (hr.mono<|by omega) rfl T.xT T.FJ.kp T.CB yP (bc (av 0)<|bc (av 1)<|bc aZ<|bc aB<|bc (av 2) zg) (by decide) rfl rfl rfl) yR);exact zT<|yE<|av 2)
def BW(T:Txt K kd mg t)(hkd:yU P w K kd):Co "leaned_left" P w K mg base kd 7 t.T6 t.Tj ["way","one","other"] Vt:=by
 refine U9 (N:=TM) (k:=6) (c:=P6) T.B2 Rn λ_ _ _ _ _ _ hr=>?_;have:=Rn.nd;have:=Wu (base:=base) T hkd;have:=V7 (base:=base) T hkd;conv=>arg 3;whnf
 trivial
def Ez(T:Txt K kd mg t)(hkd:yU P w K kd):Co "leaned_right" P w K mg base kd 7 t.RB t.RI ["way","one","other"] WU:=by
 refine U9 (N:=Ri) (k:=6) (c:=Rz) T.Bw UJ λ_ _ _ _ _ _ hr=>?_;have:=UJ.nd;have:=Wu (base:=base) T hkd;have:=V7 (base:=base) T hkd;conv=>arg 3;whnf
 trivial
def IS(T:Txt K kd mg t)(hkd:yU P w K kd):Co "evened" P w K mg base kd 8 t.Cp t.Iz ["way","one","other"] KF:=by
 refine U9 (N:=IH) (k:=7) (c:=I_) T.tK He λ_ _ _ _ _ _ hr=>?_;have:=He.nd;have:=BW (base:=base) T hkd;have:=Ez (base:=base) T hkd;have:=V7 (base:=base) T hkd;conv=>arg 3;whnf
 trivial
theorem vN(T:Txt K kd mg t)(hkd:yU P w K kd):∀n:Nat,FnOk P w K mg base xJ (8+n) t.WH t.Ww ["way","one","other"] (VT K kd<|zD n)
 |0=>Ot
 |n+1=>by
  have G:=vN T hkd n;refine xb (N:=RT) (k:=8+n) (c:=Rb<|zD n) T.xi Xk λcdv A outer s H E hr=>?_;exact(by
  refine yb ?_ ?_;exact(Zb (tc hkd hr (av 1) aZ) (zT<|yE<|av 2) yR);refine yb ?_ ?_;exact(Zb (tc hkd hr (av 2) aZ) (zT<|yE<|av 1) yR);refine yb ?_ ?_;exact(Zb (tc hkd hr (fd (Qs T)<|av 1)<|bn (fd (Qs T)<|av 2) aI) (by
  refine sj 3 Xk.nd ?_ ?_;exact(cq (Wu T hkd) hr<|bc (av 0)<|bc (av 1) zg);exact zT<|yE<|cq (IS T hkd) hr<|bc (av 0)<|bc (ax hkd (av 3) aI)<|bc (ck G hr T.zD T.xi.kp T.xM<|bc (av 0)<|bc (ax hkd (av 3) aI)<|bc (av 2) zg) zg) yR)
  refine yb ?_ ?_;exact(Zb (tc hkd hr (fd (Qs T)<|av 2)<|bn (fd (Qs T)<|av 1) aI) (by
  refine sj 3 Xk.nd ?_ ?_;exact(cq (Wu T hkd) hr<|bc (av 0)<|bc (av 2) zg);exact zT<|yE<|cq (IS T hkd) hr<|bc (av 0)<|bc (ck G hr T.zD T.xi.kp T.xM<|bc (av 0)<|bc (av 1)<|bc (ax hkd (av 3) aI) zg)<|bc (ax hkd (av 3) aI) zg) yR)
  exact zT<|yE<|cq (V7 T hkd) hr<|bc (av 0)<|bc (av 1)<|bc (av 2) zg)
theorem RH(T:Txt K kd mg t)(hkd:yU P w K kd):∀n:Nat,FnOk P w K mg base xJ (28+n) t.Rr t.RM ["way","tree","place"] (VT K kd<|yD n)
 |0=>Ot
 |n+1=>by
  have G:=RH T hkd n;refine xb (N:=Nw) (k:=28+n) (c:=NU<|yD n) T.Y7 Yi λcdv A outer s H E hr=>?_;exact(by
  refine yb ?_ ?_;exact(Zb (tc hkd hr (av 2) aI) (zT<|yE<|ZH<|bd aZ<|bd (av 1) yx) yR);refine yb ?_ ?_;exact(Zb (tc hkd hr (av 2)<|fd (LN T)<|av 1) (zT<|yE<|ZH<|bd (av 1)<|bd aZ yx) yR);refine sj 3 Yi.nd ?_ ?_;exact(cq (Wu T hkd) hr<|bc (av 0)<|bc (av 1) zg);refine sj 4 Yi.nd ?_ ?_;exact(fd (LN T)<|ax hkd (av 3) aI);refine yb ?_ ?_;exact(Zb (tc hkd hr (av 2)<|av 4) (by
  refine sj 5 Yi.nd ?_ ?_;exact(ck G hr T.yD T.Y7.kp T.Vm<|bc (av 0)<|bc (ax hkd (av 3) aI)<|bc (av 2) zg);exact zT<|yE<|ZH<|bd (ax hkd (av 5) aI)<|bd (ck (vN T hkd 20) hr T.zD T.xi.kp T.xM<|bc (av 0)<|bc (ax hkd (av 5) aI)<|bc (ax hkd (av 3) aI) zg) yx) yR)
  refine sj 5 Yi.nd ?_ ?_;exact(ck G hr T.yD T.Y7.kp T.Vm<|bc (av 0)<|bc (ax hkd (av 3) aI)<|bc (bn (av 2)<|av 4) zg);exact zT<|yE<|ZH<|bd (ck (vN T hkd 20) hr T.zD T.xi.kp T.xM<|bc (av 0)<|bc (ax hkd (av 3) aI)<|bc (ax hkd (av 5) aI) zg)<|bd (ax hkd (av 5) aI) yx)
def YK(T:Txt K kd mg t)(hkd:yU P w K kd):Co "check_place" P w K mg base kd 3 t.P4 t.Tq ["place","least","most"] yY:=by
 refine U9 (N:=TN) (k:=2) (c:=Vx) T.BB Rk λ_ _ _ _ _ _ hr=>?_;have:=Rk.nd;have:=Rh (base:=base) T hkd;conv=>arg 3;whnf
 trivial
def GP(T:Txt K kd mg t)(hkd:yU P w K kd):Co "check_size" P w K mg base kd 1 t.K5 t.Kk ["size"] x_:=by
 refine U9 (N:=KW) (k:=0) (c:=Uc) T.On TY λ_ _ _ _ _ _ hr=>?_;have:=TY.nd;conv=>arg 3;whnf
 trivial
def Zn(T:Txt K kd mg t)(hkd:yU P w K kd):Co "_law_cell_at" P w K mg base kd 1 t.Tg t.Td ["_law_script","_law_k"] yG:=by
 refine U9 (N:=Th) (k:=0) (c:=Tr) T.BP U5 λ_ _ _ _ _ _ hr=>?_;have:=U5.nd;conv=>arg 3;whnf
 trivial
def Cf(T:Txt K kd mg t)(hkd:yU P w K kd):Co "_law_mixed" P w K mg base kd 1 t.Nh t.Nv ["_law_cell","_law_k"] W9:=by
 refine U9 (N:=NL) (k:=0) (c:=N_) T.Jd GH λ_ _ _ _ _ _ hr=>?_;have:=GH.nd;conv=>arg 3;whnf
 trivial
def U6(T:Txt K kd mg t)(hkd:yU P w K kd):Co "_law_whole" P w K mg base kd 1 t.NS t.NI ["_law_found"] xB:=by
 refine U9 (N:=N4) (k:=0) (c:=NZ) T.Cu Ld λ_ _ _ _ _ _ hr=>?_;have:=Ld.nd;conv=>arg 3;whnf
 trivial
def KM(T:Txt K kd mg t)(hkd:yU P w K kd):Co "_law_stream" P w K mg base kd 2 t.K2 t.KO ["_law_cell","_law_many"] v_:=by
 refine U9 (N:=GL) (k:=1) (c:=GW) T.OE Ta λ_ _ _ _ _ _ hr=>?_;have:=Ta.nd;have:=Cf (base:=base) T hkd;conv=>arg 3;whnf
 trivial
def Kq(T:Txt K kd mg t)(hkd:yU P w K kd):Co "_law_number" P w K mg base kd 1 t.Lc t.G6 ["_law_x"] ZT:=by
 refine U9 (N:=Kv) (k:=0) (c:=GB) T.HZ P3 λ_ _ _ _ _ _ hr=>?_;have:=P3.nd;conv=>arg 3;whnf
 trivial
def VM(T:Txt K kd mg t)(hkd:yU P w K kd):Co "_law_numbers" P w K mg base kd 3 t.T9 t.TV ["_law_cell","_law_many","_law_lack"] w_:=by
 refine U9 (N:=Ga) (k:=2) (c:=P8) T.BD UW λ_ _ _ _ _ _ hr=>?_;have:=UW.nd;have:=KM (base:=base) T hkd;have:=Kq (base:=base) T hkd;conv=>arg 3;whnf
 trivial
def Ce(T:Txt K kd mg t)(hkd:yU P w K kd):Co "_law_value" P w K mg base kd 4 t.NB t.NK ["_law_cell","_law_width","_law_lack"] RD:=by
 refine U9 (N:=NH) (k:=3) (c:=NG) T.Ie KC λ_ _ _ _ _ _ hr=>?_;have:=KC.nd;have:=VM (base:=base) T hkd;conv=>arg 3;whnf
 trivial
def JB(T:Txt K kd mg t)(hkd:yU P w K kd):Co "_law_deed" P w K mg base kd 4 t.Fe t.Bf ["_law_cell","_law_width","_law_lack"] Gq:=by
 refine U9 (N:=Ed) (k:=3) (c:=EO) T.An N2 λ_ _ _ _ _ _ hr=>?_;have:=N2.nd;have:=VM (base:=base) T hkd;conv=>arg 3;whnf
 trivial
def AC(T:Txt K kd mg t)(hkd:yU P w K kd):Co "_law_both" P w K mg base kd 1 t.Ec t.EA ["_law_kind","_law_one","_law_other"] QX:=by
 refine U9 (N:=Er) (k:=0) (c:=Fj) T.JY Nj λ_ _ _ _ _ _ hr=>?_;have:=Nj.nd;conv=>arg 3;whnf
 trivial
def QK(T:Txt K kd mg t)(hkd:yU P w K kd):Co "_law_joined" P w K mg base kd 2 t.Ke t.Kw ["_law_kind","_law_row","_law_width"] x8:=by
 refine U9 (N:=Qq) (k:=1) (c:=K8) T.H9 YX λcdv A outer s H E hr=>?_;exact(by
  refine yb ?_ ?_;exact(A5 (z:=false) (i:=3) (N:=["_law_place","_law_kind"]) (cap:=[none,some 0]) (S:=[0]) YX.nd rfl (by exact Or.inl rfl) (by exact Or.inr rfl) rfl rfl (SI rfl T.X3 (bc (av 2) zg) rfl) rfl (by change RZ _ Qq _ (zc ZZ).names _=true;decide +kernel) (by decide) (λcl s H fp=>(an 0 Ml)) (λcl s H fp=>O0) (λcl s H fp=>(ax hkd (vO<|bd aZ<|bd aI yx)<|jR EJ T.sD Bt.int<|bc (ec hkd hr (av 1) aI) zg)) λ_=>rfl);refine yb ?_ ?_;exact(Lz PassesOwn.never rfl (FK<|av 1) (an 4 YX.nd) (zT<|Lz PassesOwn.never rfl (Lu rfl T.X3 (bc (av 2) zg) rfl) (an 5 YX.nd) (zT<|o5 (pv 3) (tB<|pv 5) (cq (AC T hkd) hr<|bc (av 0)<|bc (ax hkd (av 3)<|av 5)<|bc (ax hkd (av 4)<|av 5) zg) (λ_=>rfl) rfl rfl rfl) λ_=>rfl) λ_=>rfl);exact zT<|yE<|jR SY T.HX Bt.tuple<|bc (av 3) zg)
def Bi(T:Txt K kd mg t)(hkd:yU P w K kd):Co "_law_at_place" P w K mg base kd 1 t.Pb t.Rv ["_law_kind","_law_row","_law_more","_law_value_here","_law_many"] xN:=by
 refine U9 (N:=Pi) (k:=0) (c:=Rw) T.EM Ut λ_ _ _ _ _ _ hr=>?_;have:=Ut.nd;conv=>arg 3;whnf
 trivial
def Ao(T:Txt K kd mg t)(hkd:yU P w K kd):Co "_law_made" P w K mg base kd 2 t.Bh t.FG ["_law_kind","_law_deed_here","_law_value_here","_law_many"] QS:=by
 refine U9 (N:=FU) (k:=1) (c:=Fh) T.JE Ni λ_ _ _ _ _ _ hr=>?_;have:=Ni.nd;have:=Bi (base:=base) T hkd;conv=>arg 3;whnf
 trivial
def E9(T:Txt K kd mg t)(hkd:yU P w K kd):Co "_law_is" P w K mg base kd 2 t.Ja t.Cv ["_law_found","_law_due"] Wp:=by
 refine U9 (N:=C6) (k:=1) (c:=IM) T.qw SW λ_ _ _ _ _ _ hr=>?_;have:=SW.nd;have:=U6 (base:=base) T hkd;conv=>arg 3;whnf
 trivial
def Yu(T:Txt K kd mg t)(hkd:yU P w K kd)(c:Str):FnOk P w K mg base xJ 1 t.xR t.YB ["self","width"] (lO K kd c<|xg c):=by
 refine Jx (N:=Qh) (k:=0) (b:=V5) T.LR GJ (by decide) λcdv A outer s H E hr=>?_;exact(Of<|YY (AY T) (pv 0) (av 1) rfl)
def uA(T:Txt K kd mg t)(hkd:yU P w K kd):Co "_law_way" P w K mg base kd 3 t.SL t.S5 ["_law_kind","_law_width"] PL:=by
 refine U9 (N:=SK) (k:=2) (c:=Ha) T.D9 Am λcdv A outer s H E hr=>?_;exact(by
  refine yb ?_ ?_;exact(Zb (tc hkd hr (av 0) aI) (zT<|yE<|mq T.xO.eq (T.xO.mk' T.Uq) (Yu T hkd "Sums") hr T.xO.mg T.YA<|bc (av 1) zg) yR);refine yb ?_ ?_;exact(Zb (tc hkd hr (av 0) aI) (zT<|yE<|mq T.yX.eq (T.yX.mk' T.Qd) (Yu T hkd "Mosts") hr T.yX.mg T.YA<|bc (av 1) zg) yR);exact zT<|yE<|mq T.yw.eq (T.yw.mk' T.Vk) (Yu T hkd "Leasts") hr T.yw.mg T.YA<|bc (av 1) zg)
def GO(T:Txt K kd mg t)(hkd:yU P w K kd):Co "_law_values" P w K mg base kd 4 t.KA t.GU ["_law_cell","_law_many","_law_width","_law_lack"] X6:=by
 refine U9 (N:=Kx) (k:=3) (c:=Kl) T.Hx TH λ_ _ _ _ _ _ hr=>?_;have:=TH.nd;have:=VM (base:=base) T hkd;conv=>arg 3;whnf
 trivial
def Og(T:Txt K kd mg t)(hkd:yU P w K kd):FnOk P w K mg base xJ 1 t.Qv t.Ud ["self","tree"] (spS K kd zO):=by
 refine RY (N:=K9) (k:=0) (c:=X8) T.HA Sd (by decide) λcdv A outer s H E hr=>?_;exact(zW (h_ (MU T) (pv 0) (pv 1) rfl rfl rfl rfl rfl rfl rfl)<|vS<|bn (iW (MU T) (pv 0) rfl rfl T.vH rfl rfl) aI)
def FR(T:Txt K kd mg t)(hkd:yU P w K kd):FnOk P w K mg base xJ 2 t.WZ t.WJ ["self","thing"] (VT K kd RL):=by
 refine xb (N:=R_) (k:=1) (c:=Pe) T.EE UQ λ_ _ _ _ _ _ hr=>?_;have:=UQ.nd;have:=QC (base:=base) T hkd;conv=>arg 3;whnf
 trivial
def Uy(T:Txt K kd mg t)(hkd:yU P w K kd):FnOk P w K mg base xJ 2 t.Zp t.Xu ["self","thing"] (VT K kd Xi):=by
 refine xb (N:=UN) (k:=1) (c:=Up) T.MF VZ λ_ _ _ _ _ _ hr=>?_;have:=VZ.nd;have:=QC (base:=base) T hkd;conv=>arg 3;whnf
 trivial
def uS(T:Txt K kd mg t)(hkd:yU P w K kd):MT P w K mg base kd "is_part" 2 Q6:=(zP T.xO T.ER (FR T hkd) (by decide) T.ET<|zP T.yX T.Mc (Uy T hkd) (by decide) T.UK<|zP T.yw T.LY (Uy T hkd) (by decide) T.UK xq)
def Ys(T:Txt K kd mg t)(hkd:yU P w K kd):FnOk P w K mg base xJ 3 t.xY t.Yx ["self","thing"] (VT K kd xU):=by
 refine xb (N:=V2) (k:=2) (c:=Qe) T.L6 Vf λ_ _ _ _ _ _ hr=>?_;have:=Vf.nd;have:=uS (base:=base) T hkd;conv=>arg 3;whnf
 trivial
def Eb(T:Txt K kd mg t)(hkd:yU P w K kd):MT P w K mg base kd "is_value" 3 Y2:=(zP T.xO T.Mi (Ys T hkd) (by decide) T.Yv<|zP T.yX T.LV (Ys T hkd) (by decide) T.Yv<|zP T.yw T.GA (Ys T hkd) (by decide) T.Yv xq)
def PU(T:Txt K kd mg t)(hkd:yU P w K kd):FnOk P w K mg base xJ 4 t.Zh t.Zc ["self","thing"] (VT K kd yN):=by
 refine xb (N:=XF) (k:=3) (c:=Zk) T.P0 Y9 λ_ _ _ _ _ _ hr=>?_;have:=Y9.nd;have:=Eb (base:=base) T hkd;conv=>arg 3;whnf
 trivial
def Tt(T:Txt K kd mg t)(hkd:yU P w K kd):MT P w K mg base kd "check_value" 4 xh:=(zP T.yH T.PZ (PU T hkd) (by decide) T.PY xq)
def Q0(T:Txt K kd mg t)(hkd:yU P w K kd):MS P w K mg base kd "keep" 1 "Makes" zO:=E2 T.yH T.Ov (Og T hkd) T.OD
def OQ(T:Txt K kd mg t)(hkd:yU P w K kd):FnOk P w K mg base xJ 24 t.Ue t.QW ["self","row"] (spS K kd xx):=by
 refine RY (N:=Kc) (k:=23) (c:=XR) T.OH TR (by decide) λcdv A outer s H E hr=>?_;exact(zW (n6 (RF<|QM (EX (hkd _ rfl rfl rfl) rfl rfl T.Yj Bt.isinstance rfl T.Gh Bt.list (av 1) (Bt.n _ rfl) (by decide) (Bt.n _ rfl) (by decide) rfl rfl rfl) λ_=>rfl) (GV mS) Dr)<|zW (tU (by decide) PassesOwn.never rfl (FK<|av 1) (an 2 TR.nd) (GV<|Uk (wb (Tt T hkd) (hr.mono<|by omega) yP (pv 0) (bc (av 2) zg) rfl rfl rfl) rfl) λ_=>rfl)<|zW (Uk (cq (GP T hkd) hr<|bc (bi (yc<|hkd _ rfl rfl rfl) T.vH Bt.len<|bc (av 1) zg) zg) rfl)<|vS<|we (Q0 T hkd) (hr.mono<|by omega) yP (pv 0) (bc (ck (LG T hkd 20) hr T.yM T.V8.kp T.Py<|bc (NO (P5 T) (pv 0) rfl)<|bc (av 1) zg) zg) rfl rfl rfl)
def Ma(T:Txt K kd mg t)(hkd:yU P w K kd):FnOk P w K mg base xJ 3 t.Xc t.Xs ["self","make"] (VT K kd y6):=by
 refine xb (N:=UO) (k:=2) (c:=UH) T.MH VX λ_ _ _ _ _ _ hr=>?_;have:=VX.nd;have:=Rh (base:=base) T hkd;conv=>arg 3;whnf
 trivial
def Wg(T:Txt K kd mg t)(hkd:yU P w K kd):MT P w K mg base kd "tree_at" 3 xk:=(zP T.yH T.Mz (Ma T hkd) (by decide) T.My xq)
def PV(T:Txt K kd mg t)(hkd:yU P w K kd):FnOk P w K mg base xJ 49 t.Zj t.Zi ["self","make","i","j"] (VT K kd yq):=by
 refine xb (N:=XE) (k:=48) (c:=XC) T.PX Y4 λ_ _ _ _ _ _ hr=>?_;have:=Y4.nd;have:=Wg (base:=base) T hkd;have:=YK (base:=base) T hkd;have:=Wh (base:=base) T hkd;have:=Co.mk (RH (base:=base) T hkd 20) T.yD T.Y7.kp T.Vm;conv=>arg 3;whnf
 trivial
def Xm(T:Txt K kd mg t)(hkd:yU P w K kd):FnOk P w K mg base xJ 4 t.wQ t.XA ["self","thing"] (VT K kd wR):=by
 refine xb (N:=UM) (k:=3) (c:=Uw) T.MJ V3 λ_ _ _ _ _ _ hr=>?_;have:=V3.nd;have:=Eb (base:=base) T hkd;conv=>arg 3;whnf
 trivial
def Y_(T:Txt K kd mg t)(hkd:yU P w K kd):FnOk P w K mg base xJ 1 t.wH t.Xj ["self","deed"] (VT K kd wO):=by
 refine xb (N:=UE) (k:=0) (c:=Uu) T.Ms Qg λ_ _ _ _ _ _ hr=>?_;have:=Qg.nd;conv=>arg 3;whnf
 trivial
def Qr(T:Txt K kd mg t)(hkd:yU P w K kd):FnOk P w K mg base xJ 29 t.wo t.x6 ["self","ahead","stretch","rest"] (VT K kd zF):=by
 refine xb (N:=Yl) (k:=28) (c:=Z2) T.Q_ ZK λ_ _ _ _ _ _ hr=>?_;have:=ZK.nd;have:=Co.mk (vN (base:=base) T hkd 20) T.zD T.xi.kp T.xM;conv=>arg 3;whnf
 trivial
def vR(T:Txt K kd mg t)(hkd:yU P w K kd):MT P w K mg base kd "three_together" 29 yh:=(zP T.yH T.QD (Qr T hkd) (by decide) T.QJ xq)
def ub(T:Txt K kd mg t)(hkd:yU P w K kd):MT P w K mg base kd "wait_of" 1 Q3:=(zP T.xO T.FO (Y_ T hkd) (by decide) T.Xr<|zP T.yX T.Mr (Y_ T hkd) (by decide) T.Xr<|zP T.yw T.Lq (Y_ T hkd) (by decide) T.Xr xq)
def uM(T:Txt K kd mg t)(hkd:yU P w K kd):MT P w K mg base kd "is_deed" 4 Ge:=(zP T.xO T.Bk (Xm T hkd) (by decide) T.Xp<|zP T.yX T.Mu (Xm T hkd) (by decide) T.Xp<|zP T.yw T.Lw (Xm T hkd) (by decide) T.Xp xq)
def Zo(T:Txt K kd mg t)(hkd:yU P w K kd):MT P w K mg base kd "three_parts" 49 ym:=(zP T.yH T.PQ (PV T hkd) (by decide) T.PR xq)
def Oj(T:Txt K kd mg t)(hkd:yU P w K kd):FnOk P w K mg base xJ 50 t.QU t.Q8 ["self","make","i","j","deed"] (spS K kd XZ):=by
 refine RY (N:=KR) (k:=49) (c:=K1) T.HS VE (by decide) λcdv A outer s H E hr=>?_;exact(zW (by refine By true 5 (by decide) VE.nd ?_;exact(wb (Zo T hkd) (hr.mono<|by omega) yP (pv 0) (bc (av 1)<|bc (av 2)<|bc (av 3) zg) rfl rfl rfl))<|zW (n6 (RF<|QM (mt (uM T hkd) hr (NO (P5 T) (pv 0) rfl) (bc (av 4) zg) rfl) λ_=>rfl) (GV mS) Dr)<|zW (by refine By true 6 (by decide) VE.nd ?_;exact(cq (EG T hkd) hr<|bc (NO (P5 T) (pv 0) rfl)<|bc (ax hkd (av 5) aI)<|bc (mt (ub T hkd) hr (NO (P5 T) (pv 0) rfl) (bc (av 4) zg) rfl) zg))<|vS<|we (Q0 T hkd) (hr.mono<|by omega) yP (pv 0) (bc (wb (vR T hkd) (hr.mono<|by omega) yP (pv 0) (bc (ax hkd (av 5) aI)<|bc (av 6)<|bc (ax hkd (av 5) aI) zg) rfl rfl rfl) zg) rfl rfl rfl)
def EV(T:Txt K kd mg t)(hkd:yU P w K kd):FnOk P w K mg base xJ 50 t.WK t.Ws ["self","make","i","j"] (spS K kd Z5):=by
 refine RY (N:=RK) (k:=49) (c:=Pl) T.FY UU (by decide) λcdv A outer s H E hr=>?_;exact(zW (by refine By true 4 (by decide) UU.nd ?_;exact(wb (Zo T hkd) (hr.mono<|by omega) yP (pv 0) (bc (av 1)<|bc (av 2)<|bc (av 3) zg) rfl rfl rfl))<|vS<|we (Q0 T hkd) (hr.mono<|by omega) yP (pv 0) (bc (wb (vR T hkd) (hr.mono<|by omega) yP (pv 0) (bc (ax hkd (av 4) aI)<|bc (cq (K6 T hkd) hr<|bc (NO (P5 T) (pv 0) rfl)<|bc (ax hkd (av 4) aI) zg)<|bc (ax hkd (av 4) aI) zg) rfl rfl rfl) zg) rfl rfl rfl)
def Mf(T:Txt K kd mg t)(hkd:yU P w K kd):FnOk P w K mg base xJ 50 t.Xw t.Xg ["self","make","i","value"] (spS K kd Zy):=by
 refine RY (N:=UT) (k:=49) (c:=Uz) T.Mo Yq (by decide) λcdv A outer s H E hr=>?_;exact(zW (by refine By true 4 (by decide) Yq.nd ?_;exact(wb (Wg T hkd) (hr.mono<|by omega) yP (pv 0) (bc (av 1) zg) rfl rfl rfl))<|zW (Uk (cq (YK T hkd) hr<|bc (av 2)<|bc aI<|bc (bn (cq (Wh T hkd) hr<|bc (av 4) zg) aI) zg) rfl)<|zW (Uk (wb (Tt T hkd) (hr.mono<|by omega) yP (pv 0) (bc (av 3) zg) rfl rfl rfl) rfl)<|zW (by refine By true 5 (by decide) Yq.nd ?_;exact(wb (Zo T hkd) (hr.mono<|by omega) yP (pv 0) (bc (av 1)<|bc (av 2)<|bc (bn (av 2) aI) zg) rfl rfl rfl))<|vS<|we (Q0 T hkd) (hr.mono<|by omega) yP (pv 0) (bc (wb (vR T hkd) (hr.mono<|by omega) yP (pv 0) (bc (ax hkd (av 5) aI)<|bc (ck (LG T hkd 20) hr T.yM T.V8.kp T.Py<|bc (NO (P5 T) (pv 0) rfl)<|bc (vO<|bd (av 3) yx) zg)<|bc (ax hkd (av 5) aI) zg) rfl rfl rfl) zg) rfl rfl rfl)
def FI(T:Txt K kd mg t)(hkd:yU P w K kd):FnOk P w K mg base xJ 49 t.W0 t.WI ["self","make","i","other"] (spS K kd ZV):=by
 refine RY (N:=Rm) (k:=48) (c:=RA) T.FP Zv (by decide) λcdv A outer s H E hr=>?_;exact(zW (by refine By true 4 (by decide) Zv.nd ?_;exact(wb (Wg T hkd) (hr.mono<|by omega) yP (pv 0) (bc (av 1) zg) rfl rfl rfl))<|zW (by refine By true 5 (by decide) Zv.nd ?_;exact(wb (Wg T hkd) (hr.mono<|by omega) yP (pv 0) (bc (av 3) zg) rfl rfl rfl))<|zW (Uk (cq (YK T hkd) hr<|bc (av 2)<|bc aI<|bc (cq (Wh T hkd) hr<|bc (av 4) zg) zg) rfl)<|zW (Uk (cq (GP T hkd) hr<|bc (bn (cq (Wh T hkd) hr<|bc (av 4) zg)<|cq (Wh T hkd) hr<|bc (av 5) zg) zg) rfl)<|zW (by refine By true 6 (by decide) Zv.nd ?_;exact(ck (RH T hkd 20) hr T.yD T.Y7.kp T.Vm<|bc (NO (P5 T) (pv 0) rfl)<|bc (av 4)<|bc (av 2) zg))<|vS<|we (Q0 T hkd) (hr.mono<|by omega) yP (pv 0) (bc (wb (vR T hkd) (hr.mono<|by omega) yP (pv 0) (bc (ax hkd (av 6) aI)<|bc (av 5)<|bc (ax hkd (av 6) aI) zg) rfl rfl rfl) zg) rfl rfl rfl)
def CT(T:Txt K kd mg t)(hkd:yU P w K kd):FnOk P w K mg base xJ 50 t.Pq t.Re ["self","make","i","j"] (spS K kd Vn):=by
 refine RY (N:=Nq) (k:=49) (c:=NN) T.CH Qx (by decide) λcdv A outer s H E hr=>?_;exact(zW (by refine By true 4 (by decide) Qx.nd ?_;exact(wb (Zo T hkd) (hr.mono<|by omega) yP (pv 0) (bc (av 1)<|bc (av 2)<|bc (av 3) zg) rfl rfl rfl))<|zW (by refine By true 5 (by decide) Qx.nd ?_;exact(we (Q0 T hkd) (hr.mono<|by omega) yP (pv 0) (bc (ax hkd (av 4) aI) zg) rfl rfl rfl))<|vS<|ZH<|bd (av 5)<|bd (we (Q0 T hkd) (hr.mono<|by omega) yP (pv 0) (bc (ck (vN T hkd 20) hr T.zD T.xi.kp T.xM<|bc (NO (P5 T) (pv 0) rfl)<|bc (ax hkd (av 4) aI)<|bc (ax hkd (av 4) aI) zg) zg) rfl rfl rfl) yx)
def JT(T:Txt K kd mg t)(hkd:yU P w K kd):MS P w K mg base kd "changed" 50 "Makes" Zy:=E2 T.yH T.ME (Mf T hkd) T.MC
def jP(T:Txt K kd mg t)(hkd:yU P w K kd):MS P w K mg base kd "cut" 50 "Makes" Vn:=E2 T.yH T.Io (CT T hkd) T.C7
def q5(T:Txt K kd mg t)(hkd:yU P w K kd):MS P w K mg base kd "done" 50 "Makes" XZ:=E2 T.yH T.Oe (Oj T hkd) T.Oy
def Dx(T:Txt K kd mg t)(hkd:yU P w K kd):MS P w K mg base kd "made" 24 "Makes" xx:=E2 T.yH T.Hw (OQ T hkd) T.OS
def uP(T:Txt K kd mg t)(hkd:yU P w K kd):MS P w K mg base kd "put_in" 49 "Makes" ZV:=E2 T.yH T.EW (FI T hkd) T.Eo
def u3(T:Txt K kd mg t)(hkd:yU P w K kd):MS P w K mg base kd "turned" 50 "Makes" Z5:=E2 T.yH T.Eu (EV T hkd) T.Be
def BG(T:Txt K kd mg t)(hkd:yU P w K kd):FnOk P w K mg base xJ 51 t.VI t.VD ["_law_makes","_law_rows","_law_xs","_law_rest","_law_kind","_law_width"] (spS K kd yF):=by
 refine RY (N:=VP) (k:=50) (c:=Vs) T.Ti yk (by decide) λcdv A outer s H E hr=>?_;exact(zW (by refine By true 6 (by decide) yk.nd ?_;exact(bn (ax hkd (av 2) aI)<|bi (yc<|hkd _ rfl rfl rfl) T.vH Bt.len<|bc (av 1) zg))<|zW (by refine By true 7 (by decide) yk.nd ?_;exact(ax hkd (av 1)<|av 6))<|zW (by refine By true 8 (by decide) yk.nd ?_;exact(bn (ax hkd (av 2) aI)<|bn (bi (yc<|hkd _ rfl rfl rfl) T.vH Bt.len<|bc (av 7) zg) aI))<|zW (by refine By true 9 (by decide) yk.nd ?_;exact(bn (av 8)<|bn (ax hkd (av 2) aI)<|bn (bn (bi (yc<|hkd _ rfl rfl rfl) T.vH Bt.len<|bc (av 7) zg) aI)<|av 8))<|zW (by refine By true 10 (by decide) yk.nd ?_;exact(ax hkd (av 1)<|bn (ax hkd (av 2) aI)<|bi (yc<|hkd _ rfl rfl rfl) T.vH Bt.len<|bc (av 1) zg))<|zW (by refine By true 11 (by decide) yk.nd ?_;exact(bn (ax hkd (av 2) aI) aI))<|Bp (tc hkd hr (av 11) aI) (zW (by refine By true 12 (by decide) yk.nd ?_;exact(cq (JB T hkd) hr<|bc (av 3)<|bc (av 5)<|bc (ec hkd hr (av 4) aI) zg))<|zW (pz (z:=true) (i:=13) (N:=["_law_value_here","_law_kind","_law_some"]) (cap:=[none,some 4,some 12]) (S:=[0]) (by decide) yk.nd rfl (by exact Or.inl rfl) (by exact Or.inr rfl) rfl rfl (sZ<|yS (av 7) (yL<|av 8)<|yL<|av 9) rfl (by change RZ _ VP _ (zc Zm).names _=true;decide +kernel) (by decide) (λcl s H fp=>(an 0 Nc)) (λcl s H fp=>O0) (λcl s H fp=>(cq (Ao T hkd) hr<|bc (av 1)<|bc (av 2)<|bc (av 0)<|bc aI zg)) λ_=>rfl)<|vS<|ZH<|bd (wV<|vO<|bd (wV<|we (q5 T hkd) (hr.mono<|by omega) yP (pv 0) (bc (av 6)<|bc (av 8)<|bc (av 9)<|bc (av 12) zg) rfl rfl rfl) yx)<|bd (wV<|vO<|bd (wV<|bn (bn (yS (av 7) vG<|yL<|av 8)<|av 13)<|yS (av 7) (yL<|av 9) vG) yx) yx)<|Bp (tc hkd hr (av 11) aI) (vS<|ZH<|bd (wV<|vO<|bd (wV<|we (u3 T hkd) (hr.mono<|by omega) yP (pv 0) (bc (av 6)<|bc (av 8)<|bc (av 9) zg) rfl rfl rfl) yx)<|bd (wV<|vO<|bd (wV<|bn (bn (yS (av 7) vG<|yL<|av 8)<|jF (yS (av 7) (yL<|av 8)<|yL<|av 9)<|iD eC aI)<|yS (av 7) (yL<|av 9) vG) yx) yx)<|Bp (AW.at_<|FF (tc hkd hr (av 11) aI)<|QO<|tc hkd hr (av 8)<|bi (yc<|hkd _ rfl rfl rfl) T.vH Bt.len<|bc (av 7) zg) (zW (by refine By true 14 (by decide) yk.nd ?_;exact(cq (Ce T hkd) hr<|bc (av 3)<|bc (av 5)<|bc (ec hkd hr (av 4) aI) zg))<|vS<|ZH<|bd (wV<|vO<|bd (wV<|we (JT T hkd) (hr.mono<|by omega) yP (pv 0) (bc (av 6)<|bc (av 8)<|bc (av 14) zg) rfl rfl rfl) yx)<|bd (wV<|vO<|bd (wV<|bn (bn (yS (av 7) vG<|yL<|av 8)<|vO<|bd (av 14) yx)<|yS (av 7) (yL<|bn (av 8) aI) vG) yx) yx)<|Bp (AW.at_<|FF (tc hkd hr (av 11) aI)<|FF (tc hkd hr (bi (yc<|hkd _ rfl rfl rfl) T.vH Bt.len<|bc (av 7) zg) aI)<|QO<|tc hkd hr (bi (yc<|hkd _ rfl rfl rfl) T.vH Bt.len<|bc (av 10) zg) aI) (vS<|ZH<|bd (wV<|vO<|bd (wV<|we (uP T hkd) (hr.mono<|by omega) yP (pv 0) (bc (av 6)<|bc (av 8)<|bc (bn (ax hkd (av 2) aI)<|bi (yc<|hkd _ rfl rfl rfl) T.vH Bt.len<|bc (av 1) zg) zg) rfl rfl rfl) yx)<|bd (wV<|vO<|bd (wV<|bn (bn (yS (av 7) vG<|yL<|av 8)<|av 10)<|yS (av 7) (yL<|av 8) vG) yx) yx)<|Bp (tc hkd hr (av 11) aI) (vS<|ZH<|bd (wV<|jR LQ T.Gh Bt.list<|bc (we (jP T hkd) (hr.mono<|by omega) yP (pv 0) (bc (av 6)<|bc (av 8)<|bc (av 9) zg) rfl rfl rfl) zg)<|bd (wV<|vO<|bd (wV<|yS (av 7) (yL<|av 8)<|yL<|av 9)<|bd (wV<|bn (yS (av 7) vG<|yL<|av 8)<|yS (av 7) (yL<|av 9) vG) yx) yx)<|zW (by refine By true 12 (by decide) yk.nd ?_;exact(cq (GO T hkd) hr<|bc (av 3)<|bc (bn (ax hkd (av 2) aI) aI)<|bc (av 5)<|bc (ec hkd hr (av 4) aI) zg))<|vS<|ZH<|bd (wV<|vO<|bd (wV<|we (Dx T hkd) (hr.mono<|by omega) yP (pv 0) (bc (av 12) zg) rfl rfl rfl) yx)<|bd (wV<|vO<|bd (av 12) yx) yx)
def Ig(T:Txt K kd mg t)(hkd:yU P w K kd):Co "_law_first" P w K mg base kd 3 t.NT t.Nu ["_law_kind","_law_row","_law_i","_law_sign","_law_width"] Rx:=by
 refine U9 (N:=N3) (k:=2) (c:=NP) T.C5 KQ λ_ _ _ _ _ _ hr=>?_;have:=KQ.nd;have:=QK (base:=base) T hkd;conv=>arg 3;whnf
 trivial
def Bu(T:Txt K kd mg t)(hkd:yU P w K kd):FnOk P w K mg base xJ 26 t.Wm t.WQ ["self","make"] (VT K kd WS):=by
 refine xb (N:=RP) (k:=25) (c:=RU) T.Bq UF λ_ _ _ _ _ _ hr=>?_;have:=UF.nd;have:=qp (base:=base) T hkd;have:=Wg (base:=base) T hkd;conv=>arg 3;whnf
 trivial
def OZ(T:Txt K kd mg t)(hkd:yU P w K kd):FnOk P w K mg base xJ 4 t.QH t.Uh ["self","make"] (VT K kd QZ):=by
 refine xb (N:=KI) (k:=3) (c:=GE) T.Hs TU λ_ _ _ _ _ _ hr=>?_;have:=TU.nd;have:=Wh (base:=base) T hkd;have:=Wg (base:=base) T hkd;conv=>arg 3;whnf
 trivial
def CU(T:Txt K kd mg t)(hkd:yU P w K kd):MT P w K mg base kd "listed" 26 Qa:=(zP T.yH T.E_ (Bu T hkd) (by decide) T.Fs xq)
def m_(T:Txt K kd mg t)(hkd:yU P w K kd):MT P w K mg base kd "many" 4 HJ:=(zP T.yH T.O3 (OZ T hkd) (by decide) T.HI xq)
def Gz(T:Txt K kd mg t)(hkd:yU P w K kd):Co "_law_listed" P w K mg base kd 27 t.GS t.G4 ["_law_makes","_law_make","_law_row"] vX:=by
 refine U9 (N:=KP) (k:=26) (c:=Ka) T.HP T5 λ_ _ _ _ _ _ hr=>?_;have:=T5.nd;have:=CU (base:=base) T hkd;have:=m_ (base:=base) T hkd;have:=E9 (base:=base) T hkd;conv=>arg 3;whnf
 trivial
def Xn(T:Txt K kd mg t)(hkd:yU P w K kd):FnOk P w K mg base xJ 3 t.wJ t.Xx ["self","thing"] (VT K kd wK):=by
 refine xb (N:=Us) (k:=2) (c:=UC) T.MD V4 λ_ _ _ _ _ _ hr=>?_;have:=V4.nd;have:=Rh (base:=base) T hkd;have:=QC (base:=base) T hkd;conv=>arg 3;whnf
 trivial
def YC(T:Txt K kd mg t)(hkd:yU P w K kd):FnOk P w K mg base xJ 1 t.xS t.Yy ["self","sign","value"] (VT K kd xW):=by
 refine xb (N:=VY) (k:=0) (c:=Qf) T.LZ W8 λ_ _ _ _ _ _ hr=>?_;have:=W8.nd;conv=>arg 3;whnf
 trivial
def uJ(T:Txt K kd mg t)(hkd:yU P w K kd):MT P w K mg base kd "is_sign" 3 Gr:=(zP T.xO T.EY (Xn T hkd) (by decide) T.Xd<|zP T.yX T.Mh (Xn T hkd) (by decide) T.Xd<|zP T.yw T.Lp (Xn T hkd) (by decide) T.Xd xq)
def J2(T:Txt K kd mg t)(hkd:yU P w K kd):MT P w K mg base kd "has_sign" 1 Y3:=(zP T.xO T.Md (YC T hkd) (by decide) T.Yt<|zP T.yX T.Lj (YC T hkd) (by decide) T.Yt<|zP T.yw T.Kz (YC T hkd) (by decide) T.Yt xq)
def Se(T:Txt K kd mg t)(hkd:yU P w K kd):FnOk P w K mg base xJ 27 t.VQ t.Vv ["self","make","i","sign"] (VT K kd YN):=by
 refine xb (N:=P1) (k:=26) (c:=To) T.BI Rf λ_ _ _ _ _ _ hr=>?_;have:=Rf.nd;have:=CU (base:=base) T hkd;have:=YK (base:=base) T hkd;have:=uJ (base:=base) T hkd;have:=Le (base:=base) T hkd;have:=OR (base:=base) T hkd;have:=J2 (base:=base) T hkd;conv=>arg 3;whnf
 trivial
def BH(T:Txt K kd mg t)(hkd:yU P w K kd):FnOk P w K mg base xJ 50 t.VJ t.VB ["self","make","i","j"] (VT K kd YQ):=by
 refine xb (N:=T8) (k:=49) (c:=Ts) T.Sg Pr λ_ _ _ _ _ _ hr=>?_;have:=Pr.nd;have:=J3 (base:=base) T hkd;have:=Zo (base:=base) T hkd;conv=>arg 3;whnf
 trivial
def DW(T:Txt K kd mg t)(hkd:yU P w K kd):MT P w K mg base kd "asked" 50 V0:=(zP T.yH T.BV (BH T hkd) (by decide) T.BR xq)
def ot(T:Txt K kd mg t)(hkd:yU P w K kd):MT P w K mg base kd "first" 27 Fp:=(zP T.yH T.BU (Se T hkd) (by decide) T.Sf xq)
def Si(T:Txt K kd mg t)(hkd:yU P w K kd):Co "_law_answers" P w K mg base kd 51 t.Tz t.P2 ["_law_makes","_law_make","_law_row","_law_xs","_law_kind","_law_width"] w5:=by
 refine U9 (N:=P7) (k:=50) (c:=P9) T.BF xZ λcdv A outer s H E hr=>?_;exact(by
  refine sj 6 xZ.nd ?_ ?_;exact(bn (ax hkd (av 3) aI)<|bn (bi (yc<|hkd _ rfl rfl rfl) T.vH Bt.len<|bc (av 2) zg) aI);refine sj 7 xZ.nd ?_ ?_;exact(bn (av 6)<|bn (ax hkd (av 3) aI)<|bn (bn (bi (yc<|hkd _ rfl rfl rfl) T.vH Bt.len<|bc (av 2) zg) aI)<|av 6);refine yb ?_ ?_;exact(Zb (RF<|QM (Fl<|cq (Gz T hkd) hr<|bc (av 0)<|bc (av 1)<|bc (av 2) zg) λ_=>rfl) (zT<|yE aB) yR);refine yb ?_ ?_;exact(Zb (RF<|QM (cq (E9 T hkd) hr<|bc (mt (DW T hkd) hr (av 0) (bc (av 1)<|bc (av 6)<|bc (av 7) zg) rfl)<|bc (cq (QK T hkd) hr<|bc (av 4)<|bc (yS (av 2) (yL<|av 6)<|yL<|av 7)<|bc (av 5) zg) zg) λ_=>rfl) (zT<|yE aB) yR);refine sj 8 xZ.nd ?_ ?_;exact(ZH<|bd (bn (ax hkd (av 3) aI)<|av 5)<|bd (cq (Kq T hkd) hr<|bc (bn (ax hkd (av 3) aI) aI) zg) yx);refine sj 9 xZ.nd ?_ ?_;exact(mt (ot T hkd) hr (av 0) (bc (av 1)<|bc (av 6)<|bc (av 8) zg) rfl);refine sj 10 xZ.nd ?_ ?_;exact(cq (Ig T hkd) hr<|bc (av 4)<|bc (yS (av 2) vG<|yL<|bn (av 6) aI)<|bc (av 6)<|bc (av 8)<|bc (av 5) zg);refine yb ?_ ?_;exact(Zb (AW.at_<|FF (tc hkd hr (av 10) aZ)<|QO<|tc hkd hr (bi (yc<|hkd _ rfl rfl rfl) T.vH Bt.len<|bc (av 2) zg)<|bn (av 6) aI) (zT<|yE<|mW (ec hkd hr (av 9) aZ)<|Fy<|O6 (cq (U6 T hkd) hr<|bc (av 9) zg)<|Fy<|E7 (RW (hkd _ rfl rfl rfl) (NC hr) .LtE) (RW (hkd _ rfl rfl rfl) (NC hr) .Lt) (bn (av 6) aI) (av 9) (bi (yc<|hkd _ rfl rfl rfl) T.vH Bt.len<|bc (av 2) zg)<|by with_unfolding_all rfl) yR);refine yb ?_ ?_;exact(Zb (tc hkd hr (av 10) aZ) (zT<|yE<|ec hkd hr (av 9) aZ) yR);exact zT<|yE<|O6 (cq (U6 T hkd) hr<|bc (av 9) zg)<|Fy<|ec hkd hr (av 9)<|av 10)
def LK(T:Txt K kd mg t)(hkd:yU P w K kd)(c:Str):FnOk P w K mg base xJ 1 t.Yr t.Yw ["self","way"] (lO K kd c<|xf c):=by
 refine Jx (N:=Qb) (k:=0) (b:=YF) T.LF Kf (by decide) λcdv A outer s H E hr=>?_;exact(Y6 (YY (P5 T) (pv 0) (av 1) rfl)<|Of<|rV (MU T) (pv 0) (vO yx) rfl)
def gX(T:Txt K kd mg t)(hkd:yU P w K kd):Co "law" P w K mg base kd 52 t.mM t.mC ["_law_script"] SQ:=by
 refine U9 (N:=mK) (k:=51) (c:=mf) T.gQ Z7 λcdv A outer s H E hr=>?_;exact(by
  refine sj 1 Z7.nd ?_ ?_;exact(bn (cq (Zn T hkd) hr<|bc (av 0)<|bc aI zg) aI);refine sj 2 Z7.nd ?_ ?_;exact(bn aI<|bn (bn (cq (Zn T hkd) hr<|bc (av 0)<|bc aI zg) aI) aI);refine sj 3 Z7.nd ?_ ?_;exact(mq T.yH.eq (T.yH.mk' T.V_) (LK T hkd "Makes") hr T.yH.mg T.V6<|bc (cq (uA T hkd) hr<|bc (av 1)<|bc (av 2) zg) zg);refine sj 4 Z7.nd ?_ ?_;exact(vO<|bd (wV<|cq (GO T hkd) hr<|bc (cq (Zn T hkd) hr<|bc (av 0)<|bc aI zg)<|bc (bn (bn (cq (Zn T hkd) hr<|bc (av 0)<|bc aI zg) aI) aI)<|bc (av 2)<|bc (ec hkd hr (av 1) aI) zg) yx);refine yb ?_ ?_;exact(Zb (tc hkd hr (we (Dx T hkd) (hr.mono<|by omega) yP (pv 3) (bc (jR LQ T.Gh Bt.list<|bc (ax hkd (av 4) aI) zg) zg) rfl rfl rfl) aI) (zT<|yE aB) yR);refine yb ?_ ?_;exact(Lz PassesOwn.never rfl (So rfl T.X3 (bc aI<|bc aI zg) rfl rfl) (an 5 Z7.nd) (by
  refine sj 6 Z7.nd ?_ ?_;exact(bn (cq (Zn T hkd) hr<|bc (av 0)<|bc (av 5) zg)<|bn aI<|av 5);refine sj 7 Z7.nd ?_ ?_;exact(cq (KM T hkd) hr<|bc (av 6)<|bc aI zg);refine sj 8 Z7.nd ?_ ?_;exact(bn (bn (bn (bn (av 6)<|bn aI aI) aI) aI)<|bn (av 6) aI);refine yb ?_ ?_;exact(jC (sJ 3 (BG T hkd) hr T.yF T.Ti.kp T.B5<|bc (av 3)<|bc (av 4)<|bc (av 7)<|bc (bn (av 8)<|bn aI<|av 5)<|bc (av 1)<|bc (av 2) zg) (Jo rfl (GQ (an 9 Z7.nd) (GQ (an 10 Z7.nd) OG rfl) rfl) rfl rfl) rfl rfl rfl);refine yb ?_ ?_;exact(Zb (tc hkd hr (av 9)<|J_ rfl rfl T.X3 rfl T.Gh (bc (bi (yc<|hkd _ rfl rfl rfl) T.vH Bt.len<|bc (av 4) zg)<|bc (bn (bi (yc<|hkd _ rfl rfl rfl) T.vH Bt.len<|bc (av 4) zg)<|bi (yc<|hkd _ rfl rfl rfl) T.vH Bt.len<|bc (av 10) zg) zg) rfl rfl rfl) (zT<|yE aB) yR);refine sj 4 Z7.nd ?_ ?_;exact(bn (av 4)<|av 10);exact zT<|Lz PassesOwn.never rfl (FK<|av 9) (an 11 Z7.nd) (zT<|Zb (RF<|QM (Fl<|cq (Si T hkd) hr<|bc (av 3)<|bc (av 11)<|bc (ax hkd (av 4)<|av 11)<|bc (av 7)<|bc (av 1)<|bc (av 2) zg) λ_=>rfl) (zT<|yE aB) yR) λ_=>rfl) λ_=>rfl)
  refine yb ?_ ?_;exact(Lz PassesOwn.never rfl (Lu rfl T.X3 (bc (bi (yc<|hkd _ rfl rfl rfl) T.vH Bt.len<|bc (av 4) zg) zg) rfl) (an 11 Z7.nd) (by
  refine yb ?_ ?_;exact(Zb (RF<|QM (Fl<|cq (Gz T hkd) hr<|bc (av 3)<|bc (av 11)<|bc (ax hkd (av 4)<|av 11) zg) λ_=>rfl) (zT<|yE aB) yR);exact zT<|Zb (RF<|QM (cq (E9 T hkd) hr<|bc (wb (DW T hkd) (hr.mono<|by omega) yP (pv 3) (bc (av 11)<|bc aI<|bc (bi (yc<|hkd _ rfl rfl rfl) T.vH Bt.len<|bc (ax hkd (av 4)<|av 11) zg) zg) rfl rfl rfl)<|bc (cq (QK T hkd) hr<|bc (av 1)<|bc (ax hkd (av 4)<|av 11)<|bc (av 2) zg) zg) λ_=>rfl) (zT<|yE aB) yR) λ_=>rfl)
  exact zT<|yE aB)
end
abbrev j0(K:zzA)(x:Str)(f:Addr):Prop:=W.nsIn K mainGlobals x=some (some<|.ref f)
abbrev FnAt(K:zzA)(x q:Str)(s:Stmt)(f:Addr):Prop:=∃d,Fun K x q s f d
abbrev Fk(K:zzA)(x:Str)(s:Stmt)(f:Addr):Prop:=j0 K x f/\FnAt K x x s f
def ji{l:PySem.W.OpenLaw}{w:World}{K:zzA}{h:Heap}{mg:Str->Option Value}{fa:Addr}(X:K.In h)(G:h.Ns mainGlobals mg)(hfa:mg "law"=some (.ref fa))
 {f0 f1 f2 f3 f4 f5 f6 f7 f8 f9 f10 f11 f12 f13 f14 f15 f16 f17 f18 f19 f20 f21 f22 f23 f24 f25 f26 f27 f28 f29 f30 f31 f32 f33 f34 f35 f36 f37 f38 f39 f40 f41 f42 f43 f44 f45 f46 f47 f48 f49 f50 f51 f52 f53 f54 f55 f56 f57 f58 f59 f60 f61 f62 f63 f64 f65 f66 f67 f68 f69 f70 f71 f72 f73 f74 f75 f76 f77 C0 C1 C2 C3 C4:Addr}
 {tk0_0:Tok}
 (aC0:W.nsIn K mainGlobals "Knot"=some (some<|.ref C0))
 (aC1:W.nsIn K mainGlobals "Makes"=some (some<|.ref C1))
 (aC2:W.nsIn K mainGlobals "Sums"=some (some<|.ref C2))
 (aC3:W.nsIn K mainGlobals "Mosts"=some (some<|.ref C3))
 (aC4:W.nsIn K mainGlobals "Leasts"=some (some<|.ref C4))
 (e0:W.findIn K (.ref C0) "__init__"=some (some<|.ref f2)) (ei0:W.isFn K (.ref f2)=true) (ek0:W.keepIn K (.ref f2)=true)
 (e1:W.findIn K (.ref C1) "__init__"=some (some<|.ref f76)) (ei1:W.isFn K (.ref f76)=true) (ek1:W.keepIn K (.ref f76)=true)
 (e2:W.findIn K (.ref C2) "__init__"=some (some<|.ref f47)) (ei2:W.isFn K (.ref f47)=true) (ek2:W.keepIn K (.ref f47)=true)
 (e3:W.findIn K (.ref C3) "__init__"=some (some<|.ref f47)) (ei3:W.isFn K (.ref f47)=true) (ek3:W.keepIn K (.ref f47)=true)
 (e4:W.findIn K (.ref C4) "__init__"=some (some<|.ref f47)) (ei4:W.isFn K (.ref f47)=true) (ek4:W.keepIn K (.ref f47)=true)
 (e5:W.findIn K (.ref C3) "best"=some (some<|.ref f5)) (ei5:W.isFn K (.ref f5)=true) (ek5:W.keepIn K (.ref f5)=true)
 (e6:W.findIn K (.ref C4) "best"=some (some<|.ref f6)) (ei6:W.isFn K (.ref f6)=true) (ek6:W.keepIn K (.ref f6)=true)
 (e7:W.findIn K (.ref C2) "join"=some (some<|.ref f4)) (ei7:W.isFn K (.ref f4)=true) (ek7:W.keepIn K (.ref f4)=true)
 (e8:W.findIn K (.ref C3) "join"=some (some<|.ref f7)) (ei8:W.isFn K (.ref f7)=true) (ek8:W.keepIn K (.ref f7)=true)
 (e9:W.findIn K (.ref C4) "join"=some (some<|.ref f7)) (ei9:W.isFn K (.ref f7)=true) (ek9:W.keepIn K (.ref f7)=true)
 (e10:W.findIn K (.ref C2) "zero"=some (some<|.ref f11)) (ei10:W.isFn K (.ref f11)=true) (ek10:W.keepIn K (.ref f11)=true)
 (e11:W.findIn K (.ref C3) "zero"=some (some<|.ref f12)) (ei11:W.isFn K (.ref f12)=true) (ek11:W.keepIn K (.ref f12)=true)
 (e12:W.findIn K (.ref C4) "zero"=some (some<|.ref f12)) (ei12:W.isFn K (.ref f12)=true) (ek12:W.keepIn K (.ref f12)=true)
 (e13:W.findIn K (.ref C2) "nothing"=some (some<|.ref f13)) (ei13:W.isFn K (.ref f13)=true) (ek13:W.keepIn K (.ref f13)=true)
 (e14:W.findIn K (.ref C3) "nothing"=some (some<|.ref f13)) (ei14:W.isFn K (.ref f13)=true) (ek14:W.keepIn K (.ref f13)=true)
 (e15:W.findIn K (.ref C4) "nothing"=some (some<|.ref f13)) (ei15:W.isFn K (.ref f13)=true) (ek15:W.keepIn K (.ref f13)=true)
 (e16:W.findIn K (.ref C2) "across"=some (some<|.ref f15)) (ei16:W.isFn K (.ref f15)=true) (ek16:W.keepIn K (.ref f15)=true)
 (e17:W.findIn K (.ref C3) "across"=some (some<|.ref f16)) (ei17:W.isFn K (.ref f16)=true) (ek17:W.keepIn K (.ref f16)=true)
 (e18:W.findIn K (.ref C4) "across"=some (some<|.ref f16)) (ei18:W.isFn K (.ref f16)=true) (ek18:W.keepIn K (.ref f16)=true)
 (e19:W.findIn K (.ref C2) "behind"=some (some<|.ref f17)) (ei19:W.isFn K (.ref f17)=true) (ek19:W.keepIn K (.ref f17)=true)
 (e20:W.findIn K (.ref C3) "behind"=some (some<|.ref f17)) (ei20:W.isFn K (.ref f17)=true) (ek20:W.keepIn K (.ref f17)=true)
 (e21:W.findIn K (.ref C4) "behind"=some (some<|.ref f17)) (ei21:W.isFn K (.ref f17)=true) (ek21:W.keepIn K (.ref f17)=true)
 (e22:W.findIn K (.ref C2) "often"=some (some<|.ref f19)) (ei22:W.isFn K (.ref f19)=true) (ek22:W.keepIn K (.ref f19)=true)
 (e23:W.findIn K (.ref C3) "often"=some (some<|.ref f20)) (ei23:W.isFn K (.ref f20)=true) (ek23:W.keepIn K (.ref f20)=true)
 (e24:W.findIn K (.ref C4) "often"=some (some<|.ref f20)) (ei24:W.isFn K (.ref f20)=true) (ek24:W.keepIn K (.ref f20)=true)
 (e25:W.findIn K (.ref C1) "made"=some (some<|.ref f55)) (ei25:W.isFn K (.ref f55)=true) (ek25:W.keepIn K (.ref f55)=true)
 (e26:W.findIn K (.ref C2) "made"=some (some<|.ref f21)) (ei26:W.isFn K (.ref f21)=true) (ek26:W.keepIn K (.ref f21)=true)
 (e27:W.findIn K (.ref C3) "made"=some (some<|.ref f21)) (ei27:W.isFn K (.ref f21)=true) (ek27:W.keepIn K (.ref f21)=true)
 (e28:W.findIn K (.ref C4) "made"=some (some<|.ref f21)) (ei28:W.isFn K (.ref f21)=true) (ek28:W.keepIn K (.ref f21)=true)
 (e29:W.findIn K (.ref C2) "is_part"=some (some<|.ref f51)) (ei29:W.isFn K (.ref f51)=true) (ek29:W.keepIn K (.ref f51)=true)
 (e30:W.findIn K (.ref C3) "is_part"=some (some<|.ref f52)) (ei30:W.isFn K (.ref f52)=true) (ek30:W.keepIn K (.ref f52)=true)
 (e31:W.findIn K (.ref C4) "is_part"=some (some<|.ref f52)) (ei31:W.isFn K (.ref f52)=true) (ek31:W.keepIn K (.ref f52)=true)
 (e32:W.findIn K (.ref C2) "is_value"=some (some<|.ref f53)) (ei32:W.isFn K (.ref f53)=true) (ek32:W.keepIn K (.ref f53)=true)
 (e33:W.findIn K (.ref C3) "is_value"=some (some<|.ref f53)) (ei33:W.isFn K (.ref f53)=true) (ek33:W.keepIn K (.ref f53)=true)
 (e34:W.findIn K (.ref C4) "is_value"=some (some<|.ref f53)) (ei34:W.isFn K (.ref f53)=true) (ek34:W.keepIn K (.ref f53)=true)
 (e35:W.findIn K (.ref C1) "keep"=some (some<|.ref f50)) (ei35:W.isFn K (.ref f50)=true) (ek35:W.keepIn K (.ref f50)=true)
 (e36:W.findIn K (.ref C1) "check_value"=some (some<|.ref f54)) (ei36:W.isFn K (.ref f54)=true) (ek36:W.keepIn K (.ref f54)=true)
 (e37:W.findIn K (.ref C1) "tree_at"=some (some<|.ref f56)) (ei37:W.isFn K (.ref f56)=true) (ek37:W.keepIn K (.ref f56)=true)
 (e38:W.findIn K (.ref C1) "three_together"=some (some<|.ref f60)) (ei38:W.isFn K (.ref f60)=true) (ek38:W.keepIn K (.ref f60)=true)
 (e39:W.findIn K (.ref C2) "wait_of"=some (some<|.ref f59)) (ei39:W.isFn K (.ref f59)=true) (ek39:W.keepIn K (.ref f59)=true)
 (e40:W.findIn K (.ref C3) "wait_of"=some (some<|.ref f59)) (ei40:W.isFn K (.ref f59)=true) (ek40:W.keepIn K (.ref f59)=true)
 (e41:W.findIn K (.ref C4) "wait_of"=some (some<|.ref f59)) (ei41:W.isFn K (.ref f59)=true) (ek41:W.keepIn K (.ref f59)=true)
 (e42:W.findIn K (.ref C2) "is_deed"=some (some<|.ref f58)) (ei42:W.isFn K (.ref f58)=true) (ek42:W.keepIn K (.ref f58)=true)
 (e43:W.findIn K (.ref C3) "is_deed"=some (some<|.ref f58)) (ei43:W.isFn K (.ref f58)=true) (ek43:W.keepIn K (.ref f58)=true)
 (e44:W.findIn K (.ref C4) "is_deed"=some (some<|.ref f58)) (ei44:W.isFn K (.ref f58)=true) (ek44:W.keepIn K (.ref f58)=true)
 (e45:W.findIn K (.ref C1) "three_parts"=some (some<|.ref f57)) (ei45:W.isFn K (.ref f57)=true) (ek45:W.keepIn K (.ref f57)=true)
 (e46:W.findIn K (.ref C1) "done"=some (some<|.ref f61)) (ei46:W.isFn K (.ref f61)=true) (ek46:W.keepIn K (.ref f61)=true)
 (e47:W.findIn K (.ref C1) "turned"=some (some<|.ref f62)) (ei47:W.isFn K (.ref f62)=true) (ek47:W.keepIn K (.ref f62)=true)
 (e48:W.findIn K (.ref C1) "changed"=some (some<|.ref f63)) (ei48:W.isFn K (.ref f63)=true) (ek48:W.keepIn K (.ref f63)=true)
 (e49:W.findIn K (.ref C1) "put_in"=some (some<|.ref f64)) (ei49:W.isFn K (.ref f64)=true) (ek49:W.keepIn K (.ref f64)=true)
 (e50:W.findIn K (.ref C1) "cut"=some (some<|.ref f65)) (ei50:W.isFn K (.ref f65)=true) (ek50:W.keepIn K (.ref f65)=true)
 (e51:W.findIn K (.ref C1) "listed"=some (some<|.ref f68)) (ei51:W.isFn K (.ref f68)=true) (ek51:W.keepIn K (.ref f68)=true)
 (e52:W.findIn K (.ref C1) "many"=some (some<|.ref f69)) (ei52:W.isFn K (.ref f69)=true) (ek52:W.keepIn K (.ref f69)=true)
 (e53:W.findIn K (.ref C2) "is_sign"=some (some<|.ref f71)) (ei53:W.isFn K (.ref f71)=true) (ek53:W.keepIn K (.ref f71)=true)
 (e54:W.findIn K (.ref C3) "is_sign"=some (some<|.ref f71)) (ei54:W.isFn K (.ref f71)=true) (ek54:W.keepIn K (.ref f71)=true)
 (e55:W.findIn K (.ref C4) "is_sign"=some (some<|.ref f71)) (ei55:W.isFn K (.ref f71)=true) (ek55:W.keepIn K (.ref f71)=true)
 (e56:W.findIn K (.ref C2) "has_sign"=some (some<|.ref f72)) (ei56:W.isFn K (.ref f72)=true) (ek56:W.keepIn K (.ref f72)=true)
 (e57:W.findIn K (.ref C3) "has_sign"=some (some<|.ref f72)) (ei57:W.isFn K (.ref f72)=true) (ek57:W.keepIn K (.ref f72)=true)
 (e58:W.findIn K (.ref C4) "has_sign"=some (some<|.ref f72)) (ei58:W.isFn K (.ref f72)=true) (ek58:W.keepIn K (.ref f72)=true)
 (e59:W.findIn K (.ref C1) "asked"=some (some<|.ref f74)) (ei59:W.isFn K (.ref f74)=true) (ek59:W.keepIn K (.ref f74)=true)
 (e60:W.findIn K (.ref C1) "first"=some (some<|.ref f73)) (ei60:W.isFn K (.ref f73)=true) (ek60:W.keepIn K (.ref f73)=true)
 (pg0:W.plainGet K C0 Str.empty=true) (hd0:W.hasDictIn K C0=true) (po0:W.plainOver K C0=true) (sa0:W.findIn K (.ref C0) "__setattr__"=some (some<|.builtin "object.__setattr__")) (mk0:W.makesIn K C0=true) (kc0:W.keepIn K (.ref C0)=true)
 (pg1:W.plainGet K C1 Str.empty=true) (fH:W.hasDictIn K C1=true) (po1:W.plainOver K C1=true) (sa1:W.findIn K (.ref C1) "__setattr__"=some (some<|.builtin "object.__setattr__")) (mk1:W.makesIn K C1=true) (kc1:W.keepIn K (.ref C1)=true)
 (pg2:W.plainGet K C2 Str.empty=true) (hd2:W.hasDictIn K C2=true) (po2:W.plainOver K C2=true) (sa2:W.findIn K (.ref C2) "__setattr__"=some (some<|.builtin "object.__setattr__")) (mk2:W.makesIn K C2=true) (kc2:W.keepIn K (.ref C2)=true)
 (pg3:W.plainGet K C3 Str.empty=true) (hd3:W.hasDictIn K C3=true) (po3:W.plainOver K C3=true) (sa3:W.findIn K (.ref C3) "__setattr__"=some (some<|.builtin "object.__setattr__")) (mk3:W.makesIn K C3=true) (kc3:W.keepIn K (.ref C3)=true)
 (pg4:W.plainGet K C4 Str.empty=true) (hd4:W.hasDictIn K C4=true) (po4:W.plainOver K C4=true) (sa4:W.findIn K (.ref C4) "__setattr__"=some (some<|.builtin "object.__setattr__")) (mk4:W.makesIn K C4=true) (kc4:W.keepIn K (.ref C4)=true)
 (na0:W.findIn K (.ref C0) "whole"=some none)
 (na1:W.findIn K (.ref C0) "back"=some none)
 (na2:W.findIn K (.ref C0) "wait"=some none)
 (na3:W.findIn K (.ref C0) "turn"=some none)
 (na4:W.findIn K (.ref C0) "one"=some none)
 (na5:W.findIn K (.ref C0) "other"=some none)
 (na6:W.findIn K (.ref C0) "deep"=some none)
 (na7:W.findIn K (.ref C0) "size"=some none)
 (na8:W.findIn K (.ref C2) "width"=some none)
 (na9:W.findIn K (.ref C3) "width"=some none)
 (na10:W.findIn K (.ref C4) "width"=some none)
 (na11:W.findIn K (.ref C1) "trees"=some none)
 (na12:W.findIn K (.ref C1) "way"=some none)
 (a0:Fk K "is_whole" Ul f0)
 (a1:Fk K "is_within" Vb f1)
 (l2:FnAt K "__init__" "Knot.__init__" ZC f2)
 (a3:Fk K "leaf_of" PD f3)
 (l4:FnAt K "join" "Sums.join" Vg f4)
 (l5:FnAt K "best" "Mosts.best" Wa f5)
 (l6:FnAt K "best" "Leasts.best" YR f6)
 (l7:FnAt K "join" "Picks.join" XX f7)
 (a8:Fk K "knot_of" PH f8)
 (a9:j0 K "tree_of" f9) (l9:FnAt K "tree_of" "tree_of" Pw f9)
 (a10:Fk K "size_of" PC f10)
 (l11:FnAt K "zero" "Sums.zero" Vc f11)
 (l12:FnAt K "zero" "Picks.zero" X5 f12)
 (l13:FnAt K "nothing" "Wides.nothing" ZD f13)
 (a14:Fk K "whole_of" Qy f14)
 (l15:FnAt K "across" "Sums.across" YV f15)
 (l16:FnAt K "across" "Picks.across" Z_ f16)
 (l17:FnAt K "behind" "Wides.behind" Z0 f17)
 (a18:Fk K "both_waits" X7 f18)
 (l19:FnAt K "often" "Sums.often" X1 f19)
 (l20:FnAt K "often" "Picks.often" YL f20)
 (l21:FnAt K "made" "Wides.made" XI f21)
 (a22:Fk K "done_all" QR f22)
 (a23:Fk K "turned_all" X0 f23)
 (a24:Fk K "parts_of" Qp f24)
 (a25:j0 K "gather" f25) (l25:FnAt K "gather" "gather" KG f25)
 (a26:Fk K "row_of" KH f26)
 (a27:Fk K "leaned_left" YJ f27)
 (a28:Fk K "leaned_right" ZS f28)
 (a29:Fk K "evened" GN f29)
 (a30:j0 K "put_together" f30) (l30:FnAt K "put_together" "put_together" Yb f30)
 (a31:j0 K "parted_at" f31) (l31:FnAt K "parted_at" "parted_at" Vj f31)
 (a32:Fk K "check_place" YM f32)
 (a33:Fk K "check_size" XO f33)
 (a34:Fk K "_law_cell_at" Y0 f34)
 (a35:Fk K "_law_mixed" W_ f35)
 (a36:Fk K "_law_whole" Vp f36)
 (a37:Fk K "_law_stream" X_ f37)
 (a38:Fk K "_law_number" XU f38)
 (a39:Fk K "_law_numbers" YZ f39)
 (a40:Fk K "_law_value" Vi f40)
 (a41:Fk K "_law_deed" QV f41)
 (a42:Fk K "_law_both" Qw f42)
 (a43:Fk K "_law_joined" ZZ f43)
 (a44:Fk K "_law_at_place" Z9 f44)
 (a45:Fk K "_law_made" QT f45)
 (a46:Fk K "_law_is" G3 f46)
 (l47:FnAt K "__init__" "Wides.__init__" vU f47)
 (a48:Fk K "_law_way" PP f48)
 (a49:Fk K "_law_values" XT f49)
 (l50:FnAt K "keep" "Makes.keep" XQ f50)
 (l51:FnAt K "is_part" "Sums.is_part" Yk f51)
 (l52:FnAt K "is_part" "Picks.is_part" Zx f52)
 (l53:FnAt K "is_value" "Wides.is_value" vT f53)
 (l54:FnAt K "check_value" "Makes.check_value" xI f54)
 (l55:FnAt K "made" "Makes.made" XH f55)
 (l56:FnAt K "tree_at" "Makes.tree_at" Zt f56)
 (l57:FnAt K "three_parts" "Makes.three_parts" xG f57)
 (l58:FnAt K "is_deed" "Wides.is_deed" Zq f58)
 (l59:FnAt K "wait_of" "Wides.wait_of" Zw f59)
 (l60:FnAt K "three_together" "Makes.three_together" y8 f60)
 (l61:FnAt K "done" "Makes.done" Wb f61)
 (l62:FnAt K "turned" "Makes.turned" Z1 f62)
 (l63:FnAt K "changed" "Makes.changed" Zs f63)
 (l64:FnAt K "put_in" "Makes.put_in" Z8 f64)
 (l65:FnAt K "cut" "Makes.cut" Ve f65)
 (a66:j0 K "_law_changed" f66) (l66:FnAt K "_law_changed" "_law_changed" Zm f66)
 (a67:Fk K "_law_first" Vo f67)
 (l68:FnAt K "listed" "Makes.listed" ZY f68)
 (l69:FnAt K "many" "Makes.many" X4 f69)
 (a70:Fk K "_law_listed" X2 f70)
 (l71:FnAt K "is_sign" "Wides.is_sign" Zz f71)
 (l72:FnAt K "has_sign" "Wides.has_sign" vZ f72)
 (l73:FnAt K "first" "Makes.first" YT f73)
 (l74:FnAt K "asked" "Makes.asked" YH f74)
 (a75:Fk K "_law_answers" YS f75)
 (l76:FnAt K "__init__" "Makes.__init__" vQ f76)
 (a77:Fk K "law" Dn f77)
 (cg0:W.nsIn K mainGlobals "MOST_IN_ROW"=some (some<|.int 300 tk0_0))
 (z0:W.nsIn K mainGlobals "all"=some none) (z1:W.nsIn K mainGlobals "bool"=some none) (z2:W.nsIn K mainGlobals "int"=some none) (z3:W.nsIn K mainGlobals "isinstance"=some none) (z4:W.nsIn K mainGlobals "len"=some none) (z5:W.nsIn K mainGlobals "list"=some none) (z6:W.nsIn K mainGlobals "max"=some none) (z7:W.nsIn K mainGlobals "min"=some none) (z8:W.nsIn K mainGlobals "range"=some none) (z9:W.nsIn K mainGlobals "sum"=some none) (z10:W.nsIn K mainGlobals "tuple"=some none) (z11:W.nsIn K mainGlobals "zip"=some none) (nt:rN K=true):
 ∃fd:FuncData,(∀(s:Shared) (v:Value),BindsTo s fd ⟨[v],[]⟩ [("_law_script",v)])/\∀base:Heap,K.In base->base.Ns mainGlobals mg->FnOk l.prog w K mg base xJ 52 fa fd ["_law_script"] (dA K SQ):=by
 have e:=hfa.symm.trans<|W.mg_of X G a77.1;cases e;obtain⟨a0,_,F0⟩:=a0;obtain⟨a1,_,F1⟩:=a1;obtain⟨_,F2⟩:=l2;have b2:=F2.binds (ps:=["self","whole","back","wait","turn","one","other"]) λ_ _ _ _ _ _ us hl=>match us,hl with | [_,_,_,_,_,_,_],_=>rfl
 obtain⟨a3,_,F3⟩:=a3;obtain⟨_,F4⟩:=l4;obtain⟨_,F5⟩:=l5;obtain⟨_,F6⟩:=l6;obtain⟨_,F7⟩:=l7;obtain⟨a8,_,F8⟩:=a8;obtain⟨_,F9⟩:=l9;obtain⟨a10,_,F10⟩:=a10;obtain⟨_,F11⟩:=l11;obtain⟨_,F12⟩:=l12;obtain⟨_,F13⟩:=l13;obtain⟨a14,_,F14⟩:=a14;obtain⟨_,F15⟩:=l15;obtain⟨_,F16⟩:=l16;obtain⟨_,F17⟩:=l17;obtain⟨a18,_,F18⟩:=a18;obtain⟨_,F19⟩:=l19;obtain⟨_,F20⟩:=l20;obtain⟨_,F21⟩:=l21;obtain⟨a22,_,F22⟩:=a22;obtain⟨a23,_,F23⟩:=a23;obtain⟨a24,_,F24⟩:=a24;obtain⟨_,F25⟩:=l25;obtain⟨a26,_,F26⟩:=a26;obtain⟨a27,_,F27⟩:=a27;obtain⟨a28,_,F28⟩:=a28;obtain⟨a29,_,F29⟩:=a29;obtain⟨_,F30⟩:=l30;obtain⟨_,F31⟩:=l31;obtain⟨a32,_,F32⟩:=a32;obtain⟨a33,_,F33⟩:=a33;obtain⟨a34,_,F34⟩:=a34;obtain⟨a35,_,F35⟩:=a35;obtain⟨a36,_,F36⟩:=a36;obtain⟨a37,_,F37⟩:=a37;obtain⟨a38,_,F38⟩:=a38;obtain⟨a39,_,F39⟩:=a39;obtain⟨a40,_,F40⟩:=a40;obtain⟨a41,_,F41⟩:=a41;obtain⟨a42,_,F42⟩:=a42;obtain⟨a43,_,F43⟩:=a43;obtain⟨a44,_,F44⟩:=a44;obtain⟨a45,_,F45⟩:=a45;obtain⟨a46,_,F46⟩:=a46;obtain⟨_,F47⟩:=l47;obtain⟨a48,_,F48⟩:=a48;obtain⟨a49,_,F49⟩:=a49;obtain⟨_,F50⟩:=l50;obtain⟨_,F51⟩:=l51;obtain⟨_,F52⟩:=l52;obtain⟨_,F53⟩:=l53;obtain⟨_,F54⟩:=l54;obtain⟨_,F55⟩:=l55;obtain⟨_,F56⟩:=l56;obtain⟨_,F57⟩:=l57;obtain⟨_,F58⟩:=l58;obtain⟨_,F59⟩:=l59;obtain⟨_,F60⟩:=l60;obtain⟨_,F61⟩:=l61;obtain⟨_,F62⟩:=l62;obtain⟨_,F63⟩:=l63;obtain⟨_,F64⟩:=l64;obtain⟨_,F65⟩:=l65;obtain⟨_,F66⟩:=l66;obtain⟨a67,_,F67⟩:=a67;obtain⟨_,F68⟩:=l68;obtain⟨_,F69⟩:=l69;obtain⟨a70,_,F70⟩:=a70;obtain⟨_,F71⟩:=l71;obtain⟨_,F72⟩:=l72;obtain⟨_,F73⟩:=l73;obtain⟨_,F74⟩:=l74;obtain⟨a75,_,F75⟩:=a75;obtain⟨_,F76⟩:=l76;obtain⟨a77,_,F77⟩:=a77;obtain⟨_,_,_,_,_,_,_,_,_,rfl,_,_⟩:=F77.ex;let KL:List (Addr×List (Key×V)):=[];have hkd:yU l.prog w K (sf KL<|FX mg):=sg λp m=>by
  exact absurd (show p ∈ ([]:List (Addr×List (Key×V)))from m) zxA
 have T:Txt K (sf KL<|FX mg) mg ⟨_,_,_,_,_,_,_,_,_,_,_,_,_,_,_,_,_,_,_,_,_,_,_,_,_,_,_,_,_,_,_,_,_,_,_,_,_,_,_,_,_,_,_,_,_,_,_,_,_,_,_,_,_,_,_,_,_,_,_,_,_,_,_,_,_,_,_,_,_,_,_,_,_,_,_,_,_,_,_,_,_,_,_,_,_,_,_,_,_,_,_,_,_,_,_,_,_,_,_,_,_,_,_,_,_,_,_,_,_,_,_,_,_,_,_,_,_,_,_,_,_,_,_,_,_,_,_,_,_,_,_,_,_,_,_,_,_,_,_,_,_,_,_,_,_,_,_,_,_,_,_,_,_,_,_,_,_,_,_,_,_⟩:=⟨⟨F0,bs F0,W.mg_of X G a0⟩,⟨F1,bs F1,W.mg_of X G a1⟩,F2,b2,⟨F3,bs F3,W.mg_of X G a3⟩,F4,bs F4,F5,bs F5,F6,bs F6,F7,bs F7,⟨F8,bs F8,W.mg_of X G a8⟩,F9,bs F9,W.mg_of X G a9,⟨F10,bs F10,W.mg_of X G a10⟩,F11,bs F11,F12,bs F12,F13,bs F13,⟨F14,bs F14,W.mg_of X G a14⟩,F15,bs F15,F16,bs F16,F17,bs F17,⟨F18,bs F18,W.mg_of X G a18⟩,F19,bs F19,F20,bs F20,F21,bs F21,⟨F22,bs F22,W.mg_of X G a22⟩,⟨F23,bs F23,W.mg_of X G a23⟩,⟨F24,bs F24,W.mg_of X G a24⟩,F25,bs F25,W.mg_of X G a25,⟨F26,bs F26,W.mg_of X G a26⟩,⟨F27,bs F27,W.mg_of X G a27⟩,⟨F28,bs F28,W.mg_of X G a28⟩,⟨F29,bs F29,W.mg_of X G a29⟩,F30,bs F30,W.mg_of X G a30,F31,bs F31,W.mg_of X G a31,⟨F32,bs F32,W.mg_of X G a32⟩,⟨F33,bs F33,W.mg_of X G a33⟩,⟨F34,bs F34,W.mg_of X G a34⟩,⟨F35,bs F35,W.mg_of X G a35⟩,⟨F36,bs F36,W.mg_of X G a36⟩,⟨F37,bs F37,W.mg_of X G a37⟩,⟨F38,bs F38,W.mg_of X G a38⟩,⟨F39,bs F39,W.mg_of X G a39⟩,⟨F40,bs F40,W.mg_of X G a40⟩,⟨F41,bs F41,W.mg_of X G a41⟩,⟨F42,bs F42,W.mg_of X G a42⟩,⟨F43,bs F43,W.mg_of X G a43⟩,⟨F44,bs F44,W.mg_of X G a44⟩,⟨F45,bs F45,W.mg_of X G a45⟩,⟨F46,bs F46,W.mg_of X G a46⟩,F47,bs F47,⟨F48,bs F48,W.mg_of X G a48⟩,⟨F49,bs F49,W.mg_of X G a49⟩,F50,bs F50,F51,bs F51,F52,bs F52,F53,bs F53,F54,bs F54,F55,bs F55,F56,bs F56,F57,bs F57,F58,bs F58,F59,bs F59,F60,bs F60,F61,bs F61,F62,bs F62,F63,bs F63,F64,bs F64,F65,bs F65,F66,bs F66,W.mg_of X G a66,⟨F67,bs F67,W.mg_of X G a67⟩,F68,bs F68,F69,bs F69,⟨F70,bs F70,W.mg_of X G a70⟩,F71,bs F71,F72,bs F72,F73,bs F73,F74,bs F74,⟨F75,bs F75,W.mg_of X G a75⟩,F76,bs F76,⟨F77,bs F77,W.mg_of X G a77⟩,⟨Vq<|W.mg_of X G aC0,⟨pg0,hd0,po0,sa0⟩,mk0,kc0,W.mg_of X G aC0⟩,⟨Vq<|W.mg_of X G aC1,⟨pg1,fH,po1,sa1⟩,mk1,kc1,W.mg_of X G aC1⟩,⟨Vq<|W.mg_of X G aC2,⟨pg2,hd2,po2,sa2⟩,mk2,kc2,W.mg_of X G aC2⟩,⟨Vq<|W.mg_of X G aC3,⟨pg3,hd3,po3,sa3⟩,mk3,kc3,W.mg_of X G aC3⟩,⟨Vq<|W.mg_of X G aC4,⟨pg4,hd4,po4,sa4⟩,mk4,kc4,W.mg_of X G aC4⟩,⟨e0,ei0,ek0⟩,⟨e1,ei1,ek1⟩,⟨e2,ei2,ek2⟩,⟨e3,ei3,ek3⟩,⟨e4,ei4,ek4⟩,⟨e5,ei5,ek5⟩,⟨e6,ei6,ek6⟩,⟨e7,ei7,ek7⟩,⟨e8,ei8,ek8⟩,⟨e9,ei9,ek9⟩,⟨e10,ei10,ek10⟩,⟨e11,ei11,ek11⟩,⟨e12,ei12,ek12⟩,⟨e13,ei13,ek13⟩,⟨e14,ei14,ek14⟩,⟨e15,ei15,ek15⟩,⟨e16,ei16,ek16⟩,⟨e17,ei17,ek17⟩,⟨e18,ei18,ek18⟩,⟨e19,ei19,ek19⟩,⟨e20,ei20,ek20⟩,⟨e21,ei21,ek21⟩,⟨e22,ei22,ek22⟩,⟨e23,ei23,ek23⟩,⟨e24,ei24,ek24⟩,⟨e25,ei25,ek25⟩,⟨e26,ei26,ek26⟩,⟨e27,ei27,ek27⟩,⟨e28,ei28,ek28⟩,⟨e29,ei29,ek29⟩,⟨e30,ei30,ek30⟩,⟨e31,ei31,ek31⟩,⟨e32,ei32,ek32⟩,⟨e33,ei33,ek33⟩,⟨e34,ei34,ek34⟩,⟨e35,ei35,ek35⟩,⟨e36,ei36,ek36⟩,⟨e37,ei37,ek37⟩,⟨e38,ei38,ek38⟩,⟨e39,ei39,ek39⟩,⟨e40,ei40,ek40⟩,⟨e41,ei41,ek41⟩,⟨e42,ei42,ek42⟩,⟨e43,ei43,ek43⟩,⟨e44,ei44,ek44⟩,⟨e45,ei45,ek45⟩,⟨e46,ei46,ek46⟩,⟨e47,ei47,ek47⟩,⟨e48,ei48,ek48⟩,⟨e49,ei49,ek49⟩,⟨e50,ei50,ek50⟩,⟨e51,ei51,ek51⟩,⟨e52,ei52,ek52⟩,⟨e53,ei53,ek53⟩,⟨e54,ei54,ek54⟩,⟨e55,ei55,ek55⟩,⟨e56,ei56,ek56⟩,⟨e57,ei57,ek57⟩,⟨e58,ei58,ek58⟩,⟨e59,ei59,ek59⟩,⟨e60,ei60,ek60⟩,na0,na1,na2,na3,na4,na5,na6,na7,na8,na9,na10,na11,na12,GC.int<|W.mg_of X G cg0,W.mg_none_of X G z0,W.mg_none_of X G z1,W.mg_none_of X G z2,W.mg_none_of X G z3,W.mg_none_of X G z4,W.mg_none_of X G z5,W.mg_none_of X G z6,W.mg_none_of X G z7,W.mg_none_of X G z8,W.mg_none_of X G z9,W.mg_none_of X G z10,W.mg_none_of X G z11,nt⟩;exact⟨_,λs v=>.of_eq rfl,λbase _ _=>(gX T hkd).F.imp λvs H Q E h=>h _⟩
def walk{l:PySem.W.OpenLaw}{q:Program}{loose:List Str}{XP:(Str->Option Value)->Heap->Prop}{YP:World->Heap->Prop}{d:DefRec}{K:Params->zzA}(hn:l.most=some 63)(hdf:d.params.defaults=[])
 (hY:∀(w:World) (h:Heap),YP w h->(K w.params).In h) (hm:∀ns:List Int,ns.length<=63->(∀i ∈ ns,i.natAbs<bg)->SQ [(true,.lst<|ns.map D.int)]=some (.lf true<|.bl true))
 (F:∀(w:World) (mg:Str->Option Value) (fa:Addr) (h:Heap),(K w.params).In h->h.Ns mainGlobals mg->mg d.name=some (.ref fa)->
  ∃fd:FuncData,(∀(s:Shared) (u:Value),BindsTo s fd ⟨[u],[]⟩ [("_law_script",u)])/\∀base:Heap,(K w.params).In base->base.Ns mainGlobals mg->FnOk l.prog w (K w.params) mg base xJ 52 fa fd ["_law_script"] (dA (K w.params) SQ)):
 PySem.W.WalkO q loose XP YP l.row.toRowW d [] (λf vs=>PySem.call f vs):=
 L2.walk_of (n:=63) (k:=52) (x:="_law_script") (CX:=λ_=>xJ) (sp:=λw=>dA (K w.params) SQ) hn (by decide) hdf ⟨rfl,by decide,by decide,rfl⟩ hY F (λ_ _ a ns hl hb _ hS kd=>lF (hm ns hl hb) hS) λ_ _ _ _ _ z=>z
def Bv(u v:List Pt):(((u.map pD).zip<|v.map pD).map λq=>(true,D.tup [q.1,q.2]))=(u.zip v).map λq=>(true,D.tup [pD q.1,pD q.2]):=by
 induction u generalizing v with
 |nil=>rfl
 |cons a u ih=>
  cases v with
  |nil=>rfl
  |cons b v=>exact congrArg (_ :: ·) (ih v)
def zw{α β γ:Type}(f:α->β->γ)(u:List α)(v:List β):(u.zip v).map (λq=>f q.1 q.2)=List.zipWith f u v:=by
 induction u generalizing v with
 |nil=>rfl
 |cons a u ih=>
  cases v with
  |nil=>rfl
  |cons b v=>exact congrArg (_ :: ·) (ih v)
def d6(f:Pt->Pt->Pt)(u v:List Pt):(u.zip v).map (λq=>pD<|f q.1 q.2)=(List.zipWith f u v).map pD:=by
 rw[<-zw f u v,zyB];rfl
def wE{f:EF}{as:AS}{x:D}(h:WD f as true x):WE f as x:=WD.e h
def nW{m:Str}(h:m≠"width"):m ∉ (["width"]:List Str):=λe=>h<|zzR.mp e
def Bg(p:Pt):Prop:=(p.getD 0).natAbs<bg
section
variable{k w:Nat}{u v:List Pt}{x y:D}
def iJ(hx:SqD x (u.map pD))(hy:SqD y (v.map pD))(hu:∀p ∈ u,p≠none)(hv:∀p ∈ v,p≠none)(hl:u.length<=1000):RE (Ry [(true,MZ k w),(true,x),(true,y)]) (vD<|List.zipWith (jn 0) u v):=by
 refine zG rfl<|zp<|vF (ZF (as:=[sT<|MZ k w,sT x,sT y]) (h:=λq:Pt×Pt=>pD<|jn 0 q.1 q.2) (u.zip v) (by rw[Wo (wE<|za rfl) (wE<|za rfl) hx hy,Bv]) (by rw[List.length_zip];omega) λq hq=>⟨[sT<|pD q.1,sT<|pD q.2],Gp (zk rfl)<|zk rfl, ?_⟩) ?_
 . obtain⟨a,b⟩:=q;have ha:=hu a (List.of_mem_zip hq).1;have hb:=hv b (List.of_mem_zip hq).2;cases a with
   |none=>exact absurd rfl ha
   |some a=>
    cases b with
    |none=>exact absurd rfl hb
    |some b=>exact wE (yA (za rfl)<|za rfl)
 . rw[d6];rfl
def AX(h0:k≠0){l:List Int}(hl:l.length<=1000):RE ((if k=1 then Q9 else VC) [(true,MZ k w),(true,.lst<|l.map D.int)]) (pD<|UR k l):=by
 have t:∀as:AS,as[1]? = some (sT<|.lst<|l.map D.int)->WT (fT zi) as (!(l.map D.int).isEmpty):=λas h=>zC (za h) rfl
 by_cases h1:k=1
 . subst h1;rw[if_pos rfl];cases l with
   |nil=>exact zG rfl (zp<|Pm (t _ rfl)<|wE zb)
   |cons z r=>exact zG rfl (zp<|U1 (t _ rfl)<|vF (wE<|za rfl)<|Dg<|List.cons_ne_nil z r)
 . rw[if_neg h1];cases l with
   |nil=>exact zG rfl (zp<|Pm (t _ rfl)<|wE zb)
   |cons z r=>exact zG rfl (zp<|U1 (t _ rfl)<|vF (wE<|za rfl)<|Dv h1<|List.cons_ne_nil z r)
def jf(l:List Pt):(l.filter Option.isSome).map pD=(l.filterMap id).map D.int:=by
 induction l with
 |nil=>rfl
 |cons a l ih=>
  cases a with
  |none=>exact ih
  |some a=>exact congrArg (_ :: ·) ih
def gv(h0:k≠0)(hk:k<=2)(hx:SqD x (u.map pD))(hy:SqD y (v.map pD))(hl:u.length<=1000):RE (X9 [(true,MZ k w),(true,x),(true,y)]) (vD<|List.zipWith (jn k) u v):=by
 refine zG rfl<|zp<|vF (ZF (as:=[sT<|MZ k w,sT x,sT y]) (h:=λq:Pt×Pt=>pD<|jn k q.1 q.2) (u.zip v) (by rw[Wo (wE<|za rfl) (wE<|za rfl) hx hy,Bv]) (by rw[List.length_zip];omega) λq hq=>⟨[sT<|.tup [pD q.1,pD q.2],sT<|MZ k w],rfl, ?_⟩) ?_
 . have inner:WE (yK (Vz zl) [none] ZO (fT<|f2 zl (fC .non)<|zo .IsNot) zl) [sT<|.tup [pD q.1,pD q.2],sT<|MZ k w] (.lst<|(([q.1,q.2]:List Pt).filterMap id).map D.int):=by
    rw[<-jf];exact t6 (it:=λp:Pt=>(true,pD p)) [q.1,q.2] (Ft (ds:=[pD q.1,pD q.2])<|wE<|za rfl) (by show 2<=_;omega) λp _=>⟨[sT<|pD p],rfl,zC (Z4<|za rfl) rfl,λ_=>wE<|za rfl⟩
   have e:jn k q.1 q.2=UR k (([q.1,q.2]:List Pt).filterMap id):=by
    rw[PJ h0,AV,AV];show _=jn k q.1 (jn k q.2<|ze k);rw[Fd λz=>absurd z h0]
   show WE _ _ (pD<|jn k q.1 q.2);rw[e];exact Wk (za (i:=1) rfl) (nW<|by decide +kernel) (dY h0 hk) inner<|AX h0<|zzO (List.length_filterMap_le _ _) (by show 2<=1000;omega)
 . rw[d6];rfl
def Hv(hk:k<=2)(hx:SqD x (u.map pD))(hy:SqD y (v.map pD))(hu:∀p ∈ u,Vl k p)(hv:∀p ∈ v,Vl k p)(hl:u.length<=1000):∃g,Nx Y1 (cls k)=some g/\RE (g [(true,MZ k w),(true,x),(true,y)]) (vD<|List.zipWith (jn k) u v):=by
 refine⟨_,uf hk, ?_⟩
 by_cases h0:k=0
 . subst h0;exact iJ hx hy (λp m=>hu p m rfl) (λp m=>hv p m rfl) hl
 . rw[if_neg h0,ite_self];exact gv h0 hk hx hy hl
theorem Ax:∀(u v:List Pt),sm 0 (List.zipWith (tm 0) u v)=some (((u.zip v).map λq=>q.1.getD 0*q.2.getD 0).sum)
 | [],_=>rfl
 |_::_,[]=>rfl
 |a::u,b::v=>by
  show jn 0 (tm 0 a b) (sm 0<|List.zipWith (tm 0) u v)=_;rw[Ax u v];show some (a.getD 0*b.getD 0+_)=some (List.sum (_::_));rw[List.sum_cons];rfl
theorem OP{k:Nat}(h0:k≠0):∀(u v:List Pt),(((u.zip v).filter λq=>q.1.isSome&&q.2.isSome).map λq=>q.1.getD 0+q.2.getD 0)=(List.zipWith (tm k) u v).filterMap id
 | [],_=>rfl
 |_::_,[]=>rfl
 |a::u,b::v=>by
  have ih:=OP h0 u v;show(List.filter _ ((a,b)::u.zip v)).map _=List.filterMap id (tm k a b::_);have e:tm k a b=match a,b with|some x,some y=>some (x+y)|_,_=>none:=if_neg h0
  rw[e];cases a with
  |none=>exact ih
  |some a=>
   cases b with
   |none=>exact ih
   |some b=>exact congrArg (_ :: ·) ih
def S9(hk:k<=2)(hx:SqD x (u.map pD))(hy:SqD y (v.map pD))(hu:∀p ∈ u,Vl k p)(hv:∀p ∈ v,Vl k p)(bu:k=0->∀p ∈ u,Bg p)(bv:k=0->∀p ∈ v,Bg p)(hl:u.length<=1000):∃g,Nx vY (cls k)=some g/\RE (g [(true,MZ k w),(true,x),(true,y)]) (pD<|ac k u v):=by
 refine⟨_,uf hk, ?_⟩;have hz:Yn (aC zi yt) [sT<|MZ k w,sT x,sT y]=some ((u.zip v).map λq=>(true,D.tup [pD q.1,pD q.2]),[sT<|MZ k w,sT x,sT y]):=by rw[Wo (wE<|za rfl) (wE<|za rfl) hx hy,Bv]
 have hl2:(u.zip v).length<=1000000:=by rw[List.length_zip];omega
 by_cases h0:k=0
 . subst h0;show RE (VS _) _;have hc:=ZF (cap:=[none,none]) (gg:=gT 2<|Wz ZO<|Wz (gN 1) MV) (fe:=f2 zl zi zS) (h:=λq:Pt×Pt=>D.int<|q.1.getD 0*q.2.getD 0) (u.zip v) hz hl2 λq hq=>⟨[sT<|pD q.1,sT<|pD q.2],Gp (zk rfl)<|zk rfl,by
    obtain⟨a,b⟩:=q;have ha:=hu a (List.of_mem_zip hq).1 rfl;have hb:=hv b (List.of_mem_zip hq).2 rfl;have ba:=bu rfl a (List.of_mem_zip hq).1;have bb:=bv rfl b (List.of_mem_zip hq).2;cases a with
    |none=>exact absurd rfl ha
    |some a=>
     cases b with
     |none=>exact absurd rfl hb
     |some b=>exact wE (Ea (za rfl) (za rfl) ba bb)⟩
   rw[show((u.zip v).map λq:Pt×Pt=>D.int<|q.1.getD 0*q.2.getD 0)=((u.zip v).map λq:Pt×Pt=>q.1.getD 0*q.2.getD 0).map D.int by rw[zyB];rfl]at hc;refine zG rfl<|zp<|vF hc ?_;show(WR _).bind _=_;rw[JQ];show some (R0.im<|.int _)=some (R0.im<|pD<|sm 0<|List.zipWith (tm 0) u v);rw[Ax];rfl
 . rw[if_neg h0,ite_self];have hc:=t6 (cap:=[none,none]) (gg:=gT 2<|Wz ZO<|Wz (gN 1) MV) (tt:=Za (fT<|f2 zl (fC .non)<|zo .IsNot)<|fT<|f2 zi (fC .non)<|zo .IsNot) (fe:=f2 zl zi zt) (p:=λq:Pt×Pt=>q.1.isSome&&q.2.isSome) (h:=λq:Pt×Pt=>D.int<|q.1.getD 0+q.2.getD 0) (u.zip v) hz hl2 λq hq=>⟨[sT<|pD q.1,sT<|pD q.2],Gp (zk rfl)<|zk rfl,W3 (zC (Z4<|za rfl) rfl) (λe=>by
    have:=zC (Z4 (as:=[sT<|pD q.1,sT<|pD q.2]) (a:=fV 1) (s:=true) (p:=q.2)<|za rfl) rfl;simp only[e,Bool.true_and];exact this) (λe=>by simp only[e,Bool.false_and]),λe=>by
    obtain⟨a,b⟩:=q;cases a with
    |none=>exact nomatch e
    |some a=>
     cases b with
     |none=>exact nomatch e
     |some b=>exact wE (yA (za rfl)<|za rfl)⟩
   rw[show(((u.zip v).filter λq:Pt×Pt=>q.1.isSome&&q.2.isSome).map λq:Pt×Pt=>D.int<|q.1.getD 0+q.2.getD 0)=((List.zipWith (tm k) u v).filterMap id).map D.int by rw[<-OP h0,zyB];rfl]at hc;refine zG rfl<|zp ?_;have:ac k u v=UR k ((List.zipWith (tm k) u v).filterMap id):=(PJ h0 _).symm;rw[this];exact Wk (za (i:=0) rfl) (nW<|by decide +kernel) (dY h0 hk) hc (AX h0<|zzO (List.length_filterMap_le _ _)<|by rw[List.length_zipWith];omega)
def qc(hk:k<=2){n:Int}(hn:n.natAbs<2 ^ 64)(hu:∀p ∈ u,Vl k p)(bu:k=0->∀p ∈ u,Bg p)(hl:u.length<=1000):∃g z,Nx Bx (cls k)=some g/\SqD z ((u.map<|of k n).map pD)/\RE (g [(true,MZ k w),(true,vD u),(true,.int n)]) z:=by
 by_cases h0:k=0
 . subst h0;refine⟨Wc,_,uf hk,.l _,zG rfl<|zp ?_⟩;rw[zyB];refine ZF (it:=λp:Pt=>(true,pD p)) u (by rw[Ft<|wE<|za rfl,zyB];rfl) (by omega) λp hp=>⟨[sT<|pD p,sI n],rfl, ?_⟩;have ha:=hu p hp rfl;have ba:=bu rfl p hp;cases p with
   |none=>exact absurd rfl ha
   |some a=>exact wE (DA (za rfl) (za rfl) hn)
 . refine⟨vA,vD u,(uf (a:=Wc) (b:=vA) (c:=vA) hk).trans (by rw[if_neg h0,ite_self]), ?_,zG rfl<|zp<|wE<|za rfl⟩;have:u.map (of k n)=u:=by
    conv=>rhs;rw[<-List.map_id u]
    exact List.map_congr_left λp _=>if_neg h0
   rw[this];exact .t _
def oP(hk:k<=2):∃g,Nx OC (cls k)=some g/\RE (g [(true,MZ k w)]) (pD<|ze k):=by
 refine⟨_,uf hk, ?_⟩
 by_cases h0:k=0
 . subst h0;show RE (Ru [(true,MZ 0 w)]) (.int 0);exact zG rfl<|zp<|wE zb
 . rw[if_neg h0,ite_self,show ze k=none from if_neg h0];exact zG rfl<|zp<|wE zb
def V9{as:AS}{f:EF}(h:WD f as true (MZ k w)):WD (f1 f<|zJ xQ "width") as true (.int w):=
 M6 (cs:=xQ) (n:="width") (d:=.int w) h oC (if_pos rfl)
theorem Iw(z:D):∀n:Nat,(List.replicate n [z]).flatten=List.replicate n z
 |0=>rfl
 |n+1=>by rw[List.replicate_succ,List.flatten_cons,Iw z n];rfl
def Ar(hk:k<=2)(w0:1<=w)(w1:w<=3):RE (wW [(true,MZ k w)]) (vD<|List.replicate w<|ze k):=by
 obtain⟨g,g1,g2⟩:=oP (w:=w) hk;refine zG rfl<|zp<|wG (pG<|m3 (za rfl) (nW<|by decide +kernel) g1 g2) (wE<|V9<|za rfl) ?_;show(if 1<=(w:Int)/\(w:Int)<2 ^ 63/\([pD<|ze k]:List D).length≠0/\([pD<|ze k]:List D).length*(w:Int).toNat<=sizeLine then _ else _)=_;rw[if_pos ⟨by omega,by omega,by simp,by rw[zyI];exact pb (by show 1*w<=_;omega)⟩,zyI,Iw];show some (R0.im<|D.tup _)=some (R0.im<|D.tup<|List.map pD<|List.replicate w<|ze k);rw[List.map_replicate]
end
def OU{c:Str}{w:Int}(hc:c ∈ xQ):RE (xg c [(true,.int w)]) (.ob c ["width"] [.int w]):=by
 refine⟨.nd (.ob c ["width"]) [.lf true<|.int w], ?_,rfl,rfl⟩;unfold xg lD;rw[if_pos<|show[(true,D.int w)].length+1=2 from rfl];show(Gu 0 xQ "width" zi [some<|jW c,sI w]).bind slot0=_;have:Gu 0 xQ "width" zi [some<|jW c,sI w]=some [some<|.nd (.ob c ["width"]) [.lf true<|.int w],sI w]:=by
  show(if c ∈ xQ/\("width":Str) ∉ ([]:List Str)/\([]:List Str).length<1000 then _ else _)=_;rw[if_pos ⟨hc,zxA,by decide⟩];rfl
 rw[this];rfl
def tR{f:EF}{as:AS}{x:D}{g:List D->Option R0}{zs:List D}(ha:WE f as x)(hg:g [x]=some (.fl zs)):WE (fP (aC f aN) g) as (.lst zs):=by
 have h:=xu ha zv;unfold WA at h;refine⟨.nd .ls<|zs.map<|O.lf true, ?_,NA zs,congrArg D.lst<|N6 zs⟩;unfold fP;rw[h];simp only[zyL,GT];show(g [x]).bind _=_;rw[hg];show(if(zs.all zu||true)=true then some (RV.ow<|.nd .ls<|zs.map<|sk true)else none:Option RV).bind _=_;rw[if_pos (by simp),KJ];rfl
section
variable{k w:Nat}{v m:List Pt}{R:List (List Pt)}
structure Ok(k:Nat)(l:List Pt):Prop where
 len:l.length<=1000
 vl:∀p ∈ l,Vl k p
 bg:k=0->∀p ∈ l,Bg p
abbrev eU(k:Nat)(R:List (List Pt))(m v:List Pt)(n:Int):List Pt:=List.zipWith (jn k) (R.map λr=>ac k r v)<|m.map<|of k n
def iq{x y:D}{ds:List D}:zZ (.tup (x::y::ds)) (.int 1)=some (.im y):=by
 show qM (C_ _ _)=_;rw[show(1:Int)=((1:Nat):Int)from rfl,PN (v:=y) rfl];rfl
def qW(hk:k<=2){n:Int}(n0:n≠0)(hn:n.natAbs<2 ^ 64)(hR:R.length<=1000)(oR:∀r ∈ R,Ok k r)(om:Ok k m)(ov:Ok k v):RE (Yd [(true,MZ k w),(true,dD R m),(true,vD v),(true,.int n)]) (vD<|eU k R m v n):=by
 have t0:WT (fT<|f2 zU zM<|zo .Eq) [sT<|MZ k w,sT<|dD R m,sT<|vD v,sI n,none] false:=zC (Yo (za rfl) zb rfl) (by show some (n==0)=_;simp[n0]);have w0:WE (f2 zi zM zZ) [sT<|MZ k w,sT<|dD R m,sT<|vD v,sI n,none] (.tup<|R.map vD):=wG (wE<|za rfl) (wE zb) gn;have w4:WE (yK (Vz<|f2 zi zM zZ) [none,some 2,some 0] ZO YD<|yn vY "across" zA<|aC zl yI) [sT<|MZ k w,sT<|dD R m,sT<|vD v,sI n,none] (.lst<|(R.map λr=>ac k r v).map pD):=by
  rw[zyB];refine ZF (it:=λr:List Pt=>(true,vD r)) R (by rw[Ft w0,zyB];rfl) (by omega) λr hr=>⟨[sT<|vD r,sT<|vD v,sT<|MZ k w],rfl, ?_⟩;obtain⟨g,g1,g2⟩:=S9 (w:=w) hk (.t _) (.t _) (oR r hr).vl ov.vl (oR r hr).bg ov.bg (oR r hr).len;exact NF (za (i:=2) rfl) (nW<|by decide +kernel) g1 (wE<|za rfl) (wE<|za rfl) g2
 obtain⟨g,z,g1,g2,g3⟩:=qc (w:=w) hk hn om.vl om.bg om.len;obtain⟨g',j1,j2⟩:=Hv (w:=w) (u:=R.map λr=>ac k r v) (v:=m.map<|of k n) hk (.l _) g2 (λp hp=>by
  obtain⟨r,_,rfl⟩:=zxC.mp hp;exact CY k _) (λp hp=>by
  obtain⟨q,_,rfl⟩:=zxC.mp hp;exact hW) (by rw[zzB];exact hR)
 refine zG rfl<|zj (zq t0 rfl)<|zj (xo (p:=4) w4<|zk rfl)<|zp ?_;exact NF (za (i:=0) rfl) (nW<|by decide +kernel) j1 (wE<|za (i:=4) rfl) (NF (za (i:=0) rfl) (nW<|by decide +kernel) g1 (wG (wE<|za rfl) (wE zb) iq) (wE<|za rfl) g3) j2
def pE{x:D}:RE (wO [(true,MZ k w),(true,x)]) x:=zG rfl<|zp<|wE<|za rfl
end
section
variable{k w:Nat}{a b c d:Pt}{u v x m r:List Pt}{R:List (List Pt)}
def cD:jn k (jn k a b) (jn k c d)=jn k (jn k a c) (jn k b d):=by
 rw[WC,<-WC k b,Oa k b c,WC k c,<-WC]
def fL:tm 0 a b=some (a.getD 0*b.getD 0):=rfl
def gP(h:k≠0):tm k a b=match a,b with
 |some x,some y=>some (x+y)
 |_,_=>none:=if_neg h
def DI:tm k a b=tm k b a:=by
 by_cases h:k=0
 . subst h;rw[fL,fL,Int.mul_comm]
 . rw[gP h,gP h];cases a<;>cases b<;>first|rfl|exact congrArg some (Int.add_comm _ _)
def gU:tm k (tm k a b) c=tm k a (tm k b c):=by
 by_cases h:k=0
 . subst h;simp only[fL,Option.getD_some,Int.mul_assoc]
 . simp only[gP h];cases a<;>cases b<;>cases c<;>first|rfl|exact congrArg some (Int.add_assoc _ _ _)
def mD:tm k a (jn k b c)=jn k (tm k a b) (tm k a c):=by
 by_cases h:k=0
 . subst h;simp only[fL,fI,Option.getD_some,Int.mul_add]
 . simp only[gP h,qI h];cases a<;>cases b<;>cases c<;>first|rfl|(rename_i x y z;exact congrArg some<|by rw[Int.add_comm,PF.Ab,Int.add_comm y,Int.add_comm z])
def Aq:tm k a (ze k)=ze k:=by
 by_cases h:k=0
 . subst h;show some (_*0)=_;rw[Int.mul_zero];rfl
 . rw[gP h,show ze k=none from if_neg h];cases a<;>rfl
def kO:tm k (ze k) a=ze k:=by rw[DI,Aq]
def jN{n:Nat}:of k ((1+n:Nat):Int) a=jn k (of k 1 a) (of k n a):=by
 by_cases h:k=0
 . subst h;show some (_*_)=some (_*1+_*_);rw[<-Int.mul_add];rfl
 . show(if k=0 then _ else a)=jn k (if k=0 then _ else a) (if k=0 then _ else a);rw[if_neg h,if_neg h,if_neg h,qI h];cases a with
   |none=>rfl
   |some x=>exact congrArg some (pe k x).symm
def k9(h:Vl k a):of k 1 a=a:=by
 by_cases e:k=0
 . subst e;cases a with
   |none=>exact absurd rfl (h rfl)
   |some x=>show some (x*1)=_;rw[Int.mul_one]
 . exact if_neg e
def eB(h:∀p ∈ m,Vl k p):m.map (of k 1)=m:=by
 conv=>rhs;rw[<-List.map_id m]
 exact List.map_congr_left λp mp=>k9<|h p mp
abbrev jv(k:Nat)(u v:List Pt):List Pt:=List.zipWith (jn k) u v
theorem mN:∀(u v x:List Pt),jv k (jv k u v) x=jv k u (jv k v x)
 | [],_,_=>rfl
 |_::_,[],_=>rfl
 |_::_,_::_,[]=>rfl
 |a::u,b::v,c::x=>by show _::_=_::_;rw[WC,show List.zipWith (jn k) (List.zipWith (jn k) u v) x=_ from mN u v x]
theorem mn:∀(v:List Pt),(∀p ∈ v,Vl k p)->jv k v (List.replicate v.length<|ze k)=v
 | [],_=>rfl
 |a::v,h=>by
  show jn k a _::jv k v (List.replicate v.length<|ze k)=_;rw[Fd<|h a zzF,mn v λp m=>h p<|zzD _ m]
theorem n4:∀(v:List Pt),(∀p ∈ v,Vl k p)->jv k (List.replicate v.length<|ze k) v=v
 | [],_=>rfl
 |a::v,h=>by
  show jn k _ a::jv k (List.replicate v.length<|ze k) v=_;rw[iM<|h a zzF,n4 v λp m=>h p<|zzD _ m]
theorem Qk{f:Pt->Pt->Pt}{p:Pt}:∀{u v:List Pt},p ∈ List.zipWith f u v->∃a ∈ u,∃b ∈ v,p=f a b
 | [],_,h=>nomatch h
 |_::_,[],h=>nomatch h
 |a::u,b::v,h=>by
  rcases zzC.mp h with rfl|h
  . exact⟨a,zzF,b,zzF,rfl⟩
  . obtain⟨x,h1,y,h2,e⟩:=Qk h;exact⟨x,zzD _ h1,y,zzD _ h2,e⟩
structure VL(k w:Nat)(v:List Pt):Prop where
 ln:v.length=w
 vl:∀p ∈ v,Vl k p
def BE(k w:Nat)(r:List (List Pt)):List Pt:=r.foldr (jv k)<|List.replicate w<|ze k
theorem VL.ze:VL k w (List.replicate w<|ze k):=⟨List.length_replicate,λp m=>by rw[(List.mem_replicate.mp m).2];exact Iy k⟩
theorem VL.jv(h:VL k w u)(g:VL k w v):VL k w (jv k u v):=⟨by rw[List.length_zipWith,h.1,g.1,Nat.min_self],λp m=>by
 obtain⟨a,_,b,_,rfl⟩:=Qk m;exact DB k a b⟩
theorem VL.hv:∀{r:List (List Pt)},(∀v ∈ r,VL k w v)->VL k w (BE k w r)
 | [],_=>.ze
 |v::r,h=>(h v zzF).jv<|VL.hv λx m=>h x<|zzD _ m
def BQ(h:VL k w v):BE k w [v]=v:=by
 show G92.jv k v (List.replicate w _)=v;rw[<-h.1];exact mn v h.2
theorem FL:∀(r s:List (List Pt)),(∀v ∈ s,VL k w v)->BE k w (r++s)=jv k (BE k w r) (BE k w s)
 | [],s,h=>by
  have h:=VL.hv h;show _=jv k (List.replicate w _) _;have e:=n4 _ h.2;rw[h.1]at e;exact e.symm
 |v::r,s,h=>by
  show jv k v (BE k w<|r++s)=_;rw[FL r s h,<-mN];rfl
def O2(r v:List Pt):ac k r v=ac k v r:=by
 unfold ac;rw[List.zipWith_comm]
 congr 2
 funext a b;exact DI
theorem Dq:∀(r u v:List Pt),u.length=v.length->ac k r (jv k u v)=jn k (ac k r u) (ac k r v)
 | [],_,_,_=>(Fd<|Iy k).symm
 |_::_,[],[],_=>(Fd<|Iy k).symm
 |_::_,[],_::_,h=>nomatch h
 |_::_,_::_,[],h=>nomatch h
 |a::r,b::u,c::v,h=>by
  show jn k (tm k a<|jn k b c) (ac k r<|jv k u v)=jn k (jn k _ _) (jn k _ _);rw[mD,Dq r u v<|Nat.succ.inj h,cD];rfl
theorem nK:∀(x v:List Pt),ac k (x.map<|tm k a) v=tm k a (ac k x v)
 | [],_=>Aq.symm
 |_::_,[]=>Aq.symm
 |b::x,c::v=>by
  show jn k (tm k (tm k a b) c) (ac k (x.map _) v)=tm k a (jn k _ _);rw[mD,gU,nK x v];rfl
theorem Jr{α:Type}:∀(l:List α) (v:List Pt),ac k (l.map λ_=>ze k) v=ze k
 | [],_=>rfl
 |_::_,[]=>rfl
 |_::l,c::v=>by
  show jn k (tm k (ze k) c) (ac k (l.map λ_=>ze k) v)=_;rw[kO,Jr l v,Fd<|Iy k]
abbrev at_(x:List Pt)(j:Nat):Pt:=(x[j]?).getD none
abbrev col(R:List (List Pt))(j:Nat):List Pt:=R.map λx=>at_ x j
def kH:∀(x:List Pt),(List.range x.length).map (at_ x)=x
 |x=>by
  apply List.ext_getElem
  . rw[zzB,zyU]
  . intro i h1 h2;rw[List.getElem_map,List.getElem_range];show(x[i]?).getD none=_;rw[zzE h2];rfl
theorem Ic{α:Type}(f g:α->Pt):∀l:List α,jv k (l.map f) (l.map g)=l.map λj=>jn k (f j)<|g j
 | []=>rfl
 |a::l=>by show _::jv k (l.map f) (l.map g)=_::_;rw[Ic f g l]
theorem sF:∀(r:List Pt) (R:List (List Pt)),(∀x ∈ R,x.length=w)->v.length=w->ac k ((List.range w).map λj=>ac k r<|col R j) v=ac k r (R.map λx=>ac k x v)
 | [],R,_,_=>Jr (List.range w) v
 |a::r,[],_,_=>Jr (List.range w) v
 |a::r,x::R,h,hv=>by
  have ih:=sF r R (λy m=>h y<|zzD _ m) hv;show ac k ((List.range w).map λj=>jn k (tm k a<|at_ x j)<|ac k r<|col R j) v=jn k (tm k a<|ac k x v) (ac k r<|R.map λx=>ac k x v);rw[<-Ic (λj=>tm k a<|at_ x j) (λj=>ac k r<|col R j),O2,Dq _ _ _ (by rw[zzB,zzB]),O2 v,O2 v,ih,<-nK x v]
  congr 2
  have e:=kH x;rw[h x zzF]at e
  conv=>rhs;rw[<-e,zyB]
  rfl
abbrev Wt:Type:=List (List Pt)×List Pt
abbrev md(k:Nat)(T:Wt)(v:List Pt)(n:Int):List Pt:=List.zipWith (jn k) (T.1.map λr=>ac k r v)<|T.2.map<|of k n
abbrev bh(k w:Nat)(T U:Wt):Wt:=(U.1.map λr=>(List.range w).map λj=>ac k r<|col T.1 j,jv k (U.1.map λr=>ac k r T.2) U.2)
theorem mE(h:u.length=v.length){n:Nat}:∀(R:List (List Pt)) (m:List Pt),md k (R,m) (jv k u v) ((1+n:Nat):Int)=jv k (md k (R,m) u 1) (md k (R,m) v n)
 | [],_=>rfl
 |_::_,[]=>rfl
 |r::R,q::m=>by
  show jn k (ac k r _) _::md k (R,m) (jv k u v) _=jn k (jn k _ _) (jn k _ _)::jv k (md k (R,m) u 1) (md k (R,m) v n);rw[mE h R m,Dq _ _ _ h,jN,cD]
structure WL(k w:Nat)(T:Wt):Prop where
 r:T.1.length=w
 m:VL k w T.2
 x:∀x ∈ T.1,VL k w x
theorem WL.md{T:Wt}(h:WL k w T){n:Int}:VL k w (md k T v n):=⟨by rw[List.length_zipWith,zzB,zzB,h.r,h.m.1,Nat.min_self],λp m=>by
 obtain⟨a,_,b,_,rfl⟩:=Qk m;exact DB k a b⟩
theorem nQ{T:Wt}(h:WL k w T):∀(r:List (List Pt)),r≠[]->(∀v ∈ r,VL k w v)->md k T (BE k w r) r.length=BE k w (r.map λv=>md k T v 1)
 | [],h,_=>absurd rfl h
 | [v],_,g=>by rw[BQ<|g v zzF];exact(BQ h.md).symm
 |v::u::r,_,g=>by
  have ih:=nQ h (u::r) (List.cons_ne_nil _ _) λx m=>g x<|zzD _ m;show md k T (jv k v<|BE k w (u::r)) _=jv k _ (BE k w<|(u::r).map λv=>md k T v 1);rw[<-ih,show((v::u::r).length:Int)=((1+(u::r).length:Nat):Int) by rw[zzT (a:=v),Nat.add_comm]];exact mE (by rw[(g v zzF).1,(VL.hv λx m=>g x<|zzD _ m).1]) T.1 T.2
theorem mG{T:Wt}(h:WL k w T)(hv:v.length=w):∀(R:List (List Pt)) (m:List Pt),(∀p ∈ m,Vl k p)->md k (bh k w T (R,m)) v 1=md k (R,m) (md k T v 1) 1
 | [],_,_=>rfl
 |_::_,[],_=>rfl
 |r::R,q::m,g=>by
  have ih:=mG h hv R m λp z=>g p<|zzD _ z;show jn k (ac k ((List.range w).map λj=>ac k r<|col T.1 j) v) (of k 1<|jn k (ac k r T.2) q)::md k (bh k w T (R,m)) v 1=jn k (ac k r<|md k T v 1) (of k 1 q)::md k (R,m) (md k T v 1) 1;rw[ih,sF r T.1 (λx z=>(h.x x z).1) hv,k9<|DB k _ _,k9<|g q zzF];have e:ac k r (md k T v 1)=jn k (ac k r<|T.1.map λx=>ac k x v) (ac k r T.2):=by
   show ac k r (jv k _<|T.2.map<|of k 1)=_;rw[eB h.m.2,Dq _ _ _<|by rw[zzB,h.r,h.m.1]]
  rw[e,WC]
theorem WL.bh{T U:Wt}(h:WL k w T)(g:WL k w U):WL k w (bh k w T U)where
 r:=by rw[zzB];exact g.r
 m:=VL.jv ⟨by rw[zzB];exact g.r,λp m=>by obtain⟨x,_,rfl⟩:=zxC.mp m;exact CY k _⟩ g.m
 x:=λx m=>by
  obtain⟨r,_,rfl⟩:=zxC.mp m;exact⟨by rw[zzB,zyU],λp m=>by obtain⟨j,_,rfl⟩:=zxC.mp m;exact CY k _⟩
abbrev Z(p:Pt):Nat:=(p.getD 0).natAbs
def p_:Z (jn 0 a b)<=Z a+Z b:=Int.natAbs_add_le _ _
def eW:Z (tm 0 a b)=Z a*Z b:=Int.natAbs_mul _ _
theorem og{A B:Nat}:∀(r v:List Pt),(∀p ∈ r,Z p<=A)->(∀p ∈ v,Z p<=B)->Z (ac 0 r v)<=r.length*(A*B)
 | [],_,_,_=>Nat.zero_le _
 |_::_,[],_,_=>Nat.zero_le _
 |a::r,b::v,h,g=>by
  have i:=og r v (λp m=>h p<|zzD _ m) λp m=>g p<|zzD _ m;have j:=p_ (a:=tm 0 a b) (b:=ac 0 r v);have e:=Nat.mul_le_mul (h a zzF)<|g b zzF;rw[eW]at j;show Z (jn 0 (tm 0 a b)<|ac 0 r v)<=(r.length+1)*_;rw[Nat.add_mul,Nat.one_mul];omega
theorem gZ{B:Nat}:∀(r:List (List Pt)),(∀v ∈ r,∀p ∈ v,Z p<=B)->∀p ∈ BE 0 w r,Z p<=r.length*B
 | [],_,p,m=>by rw[(List.mem_replicate.mp m).2];exact Nat.zero_le _
 |v::r,h,p,m=>by
  obtain⟨a,ma,b,mb,rfl⟩:=Qk m;have i:=gZ r (λv m=>h v<|zzD _ m) b mb;have j:=h v zzF a ma;have e:=p_ (a:=a) (b:=b);rw[zzT,Nat.add_mul,Nat.one_mul];omega
structure VO(k w l:Nat)(v:List Pt):Prop extends VL k w v where
 z:k=0->∀p ∈ v,Z p<=2 ^ (10+l)
structure WO(k w l:Nat)(T:Wt):Prop extends WL k w T where
 b:2<=l
 zr:k=0->∀x ∈ T.1,∀p ∈ x,Z p<=2 ^ (l-2)
 zm:k=0->∀p ∈ T.2,Z p<=2 ^ (l-2)
variable{l l':Nat}{T U:Wt}
def VO.up(h:VO k w l v)(g:l<=l'):VO k w l' v:=⟨h.toVL,λe p m=>zzO (h.z e p m)<|Nat.pow_le_pow_right (by decide)<|by omega⟩
def d7{a b c:Nat}(h:c=2+(a+b)):4*(2 ^ a*2 ^ b)=2 ^ c:=by
 rw[h,Nat.pow_add,Nat.pow_add]
theorem VO.md(w3:w<=3)(h:WO k w l' T)(g:VO k w l v):VO k w (l+l') (md k T v 1):=⟨h.toWL.md,λe p m=>by
 subst e;obtain⟨a,ma,b,mb,rfl⟩:=Qk m;obtain⟨r,mr,rfl⟩:=zxC.mp ma;obtain⟨q,mq,rfl⟩:=zxC.mp mb;have i:=og r v (h.zr rfl r mr)<|g.z rfl;have j:=h.zm rfl q mq;have n:=p_ (a:=ac 0 r v) (b:=of 0 1 q);have o:Z (of 0 1 q)=Z q:=by show(_*(1:Int)).natAbs=_;rw[Int.mul_one]
 have s:=d7 (a:=l'-2) (b:=10+l) (c:=10+(l+l')) (by have:=h.b;omega);have t:r.length*(2 ^ (l'-2)*2 ^ (10+l))<=3*(2 ^ (l'-2)*2 ^ (10+l)):=Nat.mul_le_mul_right _ (by rw[(h.x r mr).1];exact w3);have y:2 ^ (l'-2)*1<=2 ^ (l'-2)*2 ^ (10+l):=Nat.mul_le_mul_left _<|Nat.one_le_two_pow;omega⟩
theorem WO.bh(w3:w<=3)(h:WO k w l T)(g:WO k w l' U):WO k w (l+l') (bh k w T U):=by
 have s:=d7 (a:=l'-2) (b:=l-2) (c:=l+l'-2) (by have:=h.b;have:=g.b;omega);refine⟨h.toWL.bh g.toWL,by have:=h.b;omega,λe x mx p mp=>?_,λe p m=>?_⟩
 . subst e;obtain⟨r,mr,rfl⟩:=zxC.mp mx;obtain⟨j,mj,rfl⟩:=zxC.mp mp;have i:=og r (col T.1 j) (g.zr rfl r mr) (B:=2 ^ (l-2)) λp m=>by
    obtain⟨x,mx,rfl⟩:=zxC.mp m;have lx:=(h.x x mx).1;have lj:=List.mem_range.mp mj;show Z ((x[j]?).getD none)<=_;rw[zzE<|by omega];exact h.zr rfl x mx _<|zyY _
   have t:r.length*(2 ^ (l'-2)*2 ^ (l-2))<=3*(2 ^ (l'-2)*2 ^ (l-2)):=Nat.mul_le_mul_right _ (by rw[(g.x r mr).1];exact w3);omega
 . subst e;obtain⟨a,ma,b,mb,rfl⟩:=Qk m;obtain⟨r,mr,rfl⟩:=zxC.mp ma;have i:=og r T.2 (g.zr rfl r mr)<|h.zm rfl;have j:=g.zm rfl b mb;have n:=p_ (a:=ac 0 r T.2) (b:=b);have t:r.length*(2 ^ (l'-2)*2 ^ (l-2))<=3*(2 ^ (l'-2)*2 ^ (l-2)):=Nat.mul_le_mul_right _ (by rw[(g.x r mr).1];exact w3);have y:2 ^ (l'-2)*1<=2 ^ (l'-2)*2 ^ (l-2):=Nat.mul_le_mul_left _<|Nat.one_le_two_pow;omega
end
abbrev LM:Nat:=500000
def mh{n e:Nat}(h:n<=2 ^ e)(g:e<=600000):n<bg:=by
 unfold bg Att.bg;exact Nat.lt_of_le_of_lt h (Nat.pow_lt_pow_right (n:=1048576) (by decide)<|Nat.lt_of_le_of_lt g<|by decide)
structure Cx where
 k:Nat
 n:Nat
abbrev Cx.w(c:Cx):D:=MZ c.k c.n
abbrev Cx.h(c:Cx):List (List Pt)->List Pt:=BE c.k c.n
abbrev Cx.In(c:Cx)(l:Nat)(r:List (List Pt)):Prop:=∀v ∈ r,VO c.k c.n l v
structure Cx.Ok(c:Cx):Prop where
 k2:c.k<=2
 n1:1<=c.n
 n3:c.n<=3
abbrev wD(T:Wt):D:=dD T.1 T.2
def UD:Option Wt->D
 |none=>.non
 |some T=>wD T
def Cx.wok(c:Cx)(b:Nat):Option Wt->Prop
 |none=>True
 |some T=>WO c.k c.n b T
def Cx.ap(c:Cx):Option Wt->List (List Pt)->List (List Pt)
 |none,r=>r
 |some T,r=>r.map λv=>md c.k T v 1
abbrev zH(r:List (List Pt)):D:=.lst<|r.map vD
def tn:Bool->List (List Pt)->List (List Pt)
 |false,r=>r
 |true,r=>r.reverse
abbrev nI:List Str:=["whole","back","wait","turn","one","other","deep","size"]
abbrev kn(w b:List Pt)(q:D)(t:Bool)(x y:D)(p s:Int):D:=.ob "Knot" nI [vD w,vD b,q,.bl t,x,y,.int p,.int s]
inductive TK(c:Cx):Nat->D->List (List Pt)->Nat->Prop
 |lf {l:Nat}(v:List Pt) (t:Bool):VO c.k c.n l v->l<=LM->TK c l (kn v v .non t .non .non 0 1) [v] 0
 |nd {l b L:Nat}(w:Option Wt) (t:Bool) {x y:D}{r s:List (List Pt)}{p q:Nat}{R:List (List Pt)}:TK c l x r p->TK c l y s q->p<=q+1->q<=p+1->c.wok b w->l+b<=L->L<=LM->R=tn t (c.ap w (r++s))->TK c L (kn (c.h R) (c.h R.reverse) (UD w) t x y ((1+max p q:Nat):Int) (R.length:Int)) R (1+max p q)
section
variable{c:Cx}{d:D}{R:List (List Pt)}{p l l' b:Nat}
def Gc(w:Option Wt)(r:List (List Pt)):(c.ap w r).length=r.length:=by cases w with
 |none=>rfl
 |some T=>exact zzB ..
def Ef(t:Bool)(r:List (List Pt)):(tn t r).length=r.length:=by cases t with
 |false=>rfl
 |true=>exact List.length_reverse ..
def JA(w:Option Wt)(r s:List (List Pt)):c.ap w (r++s)=c.ap w r++c.ap w s:=by cases w with
 |none=>rfl
 |some T=>exact zyM ..
def nS(w:Option Wt)(t:Bool)(r:List (List Pt)):c.ap w (tn t r)=tn t (c.ap w r):=by cases w with
 |none=>rfl
 |some T=>cases t with
  |false=>rfl
  |true=>exact List.map_reverse ..
def fu(t u:Bool)(r:List (List Pt)):tn t (tn u r)=tn (u != t) r:=by cases t<;>cases u<;>first|rfl|exact List.reverse_reverse r
def nY{r:List (List Pt)}(k:c.In l r)(g:l<=l'):c.In l' r:=λv m=>(k v m).up g
def gJ(h:c.Ok){w:Option Wt}(hw:c.wok b w){r:List (List Pt)}(k:c.In l r):c.In (l+b) (c.ap w r):=by cases w with
 |none=>exact nY k (Nat.le_add_right _ _)
 |some T=>
  intro x mx;obtain⟨z,mz,rfl⟩:=zxC.mp mx;exact VO.md h.n3 hw<|k z mz
def nP{t:Bool}{r:List (List Pt)}(k:c.In l r):c.In l (tn t r):=by cases t with
 |false=>exact k
 |true=>exact λx mx=>k x<|List.mem_reverse.mp mx
def Aa{r s:List (List Pt)}(k:c.In l r)(g:c.In l s):c.In l (r++s):=λx mx=>(zzM.mp mx).elim (k x)<|g x
def Uv{r:List (List Pt)}(k:c.In l r):∀v ∈ r,VL c.k c.n v:=λv m=>(k v m).toVL
def TK.in(h:c.Ok):TK c l d R p->c.In l R:=λk=>by
 induction k with
 |lf v t hv=>exact λx mx=>by rcases zzC.mp mx with rfl|mx;exact hv;exact nomatch mx
 |nd w t a b _ _ hw g _ e i j=>subst e;exact nP<|nY (gJ h hw<|Aa i j) g
def TK.lim:TK c l d R p->l<=LM:=λk=>by cases k<;>assumption
theorem TK.up(k:TK c l d R p)(g:l<=l')(m:l'<=LM):TK c l' d R p:=by
 cases k with
 |lf v t hv=>exact .lf v t (hv.up g) m
 |nd w t a b h1 h2 hw z _ e=>exact .nd w t a b h1 h2 hw (zzO z g) m e
def TK.rev(h:c.Ok)(k:TK c l d R p):c.In l R.reverse:=nP (t:=true)<|k.in h
def fb:Nat->Nat
 |0=>1
 |1=>2
 |k+2=>fb (k+1)+fb k
def j4:∀k,fb k<=fb (k+1)
 |0=>by decide
 |k+1=>by show _<=fb (k+1)+fb k;omega
def qb{a b:Nat}(h:a<=b):fb a<=fb b:=by
 induction h with
 |refl=>exact zzN _
 |step _ i=>exact zzO i (j4 _)
theorem TK.fb(k:TK c l d R p):fb p<=R.length:=by
 induction k with
 |lf=>exact zzN _
 | @nd l b L w t x y r s p q R a b h1 h2 hw _ _ e i j=>
  subst e;rw[Ef,Gc,zzJ]
  by_cases h:q<=p
  . rw[Nat.max_eq_left h,Nat.add_comm 1 p];cases p with
    |zero=>rw[show q=0 by omega]at j;exact Nat.add_le_add i j
    |succ p=>
     have:G92.fb p<=G92.fb q:=qb (by omega);show G92.fb (p+1)+G92.fb p<=_;omega
  . rw[Nat.max_eq_right (by omega),Nat.add_comm 1 q,show q=p+1 by omega];rw[show q=p+1 by omega]at j;show G92.fb (p+1)+G92.fb p<=_;omega
def TK.lt(k:TK c l d R p)(hl:R.length<=1000):p<20:=by
 refine Nat.lt_of_not_le λh=>?_;have h1:=k.fb;have h2:=qb h;have:G92.fb 20=17711:=by decide
 omega
def TK.pos(k:TK c l d R p):1<=R.length:=zzO (qb<|Nat.zero_le p) k.fb
def TK.gt(h:c.Ok)(k:TK c l d R p):∃q t x y,d=kn (c.h R) (c.h R.reverse) q t x y p R.length:=by
 cases k with
 |lf v t hv=>exact⟨_,t,_,_,by rw[show([v]:List (List Pt)).reverse=[v]from rfl,show c.h [v]=v from BQ hv.toVL];rfl⟩
 |nd w t=>exact⟨_,_,_,_,rfl⟩
def Qo{a:EF}{as:AS}{w b:List Pt}{q x y:D}{t:Bool}{p s:Int}{cs:List Str}{f:Str}{v:D}(h:WD a as true (kn w b q t x y p s))(hc:("Knot":Str) ∈ cs)(hl:JR nI [vD w,vD b,q,.bl t,x,y,.int p,.int s] f=some v):WD (f1 a<|zJ cs f) as true v:=by
 have:=M6 h hc hl;rw[zyD]at this;exact this
variable{a:EF}{as:AS}
theorem TK.whole(h:c.Ok)(k:TK c l d R p)(ha:WD a as true d):WD (f1 a<|zJ wC "whole") as true (vD<|c.h R):=by
 obtain⟨q,t,x,y,rfl⟩:=k.gt h;exact Qo ha (by decide +kernel) rfl
theorem TK.back(h:c.Ok)(k:TK c l d R p)(ha:WD a as true d):WD (f1 a<|zJ QN "back") as true (vD<|c.h R.reverse):=by
 obtain⟨q,t,x,y,rfl⟩:=k.gt h;exact Qo ha (by decide +kernel) rfl
theorem TK.deep(h:c.Ok)(k:TK c l d R p)(ha:WD a as true d):WD (f1 a<|zJ yr "deep") as true (.int p):=by
 obtain⟨q,t,x,y,rfl⟩:=k.gt h;exact Qo ha (by decide +kernel) rfl
theorem TK.size(h:c.Ok)(k:TK c l d R p)(ha:WD a as true d):WD (f1 a<|zJ Zr "size") as true (.int R.length):=by
 obtain⟨q,t,x,y,rfl⟩:=k.gt h;exact Qo ha (by decide +kernel) rfl
def TK.isN(h:c.Ok)(k:TK c l d R p)(ha:WD a as true d):WT (fT<|f2 a (fC .non)<|zo .Is) as false:=by
 obtain⟨q,t,x,y,rfl⟩:=k.gt h;exact zC (zY (z:=.bl false) ha zb rfl rfl) rfl
def TK.isS(h:c.Ok)(k:TK c l d R p)(ha:WD a as true d):WT (fT<|f2 a (fC .non)<|zo .IsNot) as true:=by
 obtain⟨q,t,x,y,rfl⟩:=k.gt h;exact zC (zY (z:=.bl true) ha zb rfl rfl) rfl
def TK.zero(h:c.Ok)(k:TK c l d R p)(ha:WD a as true d):WT (fT<|f2 (f1 a<|zJ yr "deep") zM<|zo .Eq) as (decide (p=0)):=zC (Yo (c:=decide (p=0)) (k.deep h ha) zb (by
 show some ((p:Int)==0)=_
 by_cases h:p=0
 . subst h;rfl
 . rw[zyG h,beq_eq_false_iff_ne.mpr<|by omega])) rfl
end
section
variable{c:Cx}{as:AS}{f a e g:EF}{u v:List Pt}{T U:Wt}{R:List (List Pt)}{l b b':Nat}
def dr(h:c.Ok)(hu:VL c.k c.n u)(hv:VL c.k c.n v)(wy:WD f as true c.w)(ha:WE a as (vD u))(hb:WE e as (vD v)):WE (yn Y1 "join" f<|aC a<|aC e aN) as (vD<|jv c.k u v):=by
 obtain⟨g,g1,g2⟩:=Hv (w:=c.n) h.k2 (.t _) (.t _) hu.2 hv.2 (by rw[hu.1];have:=h.n3;omega);exact NF wy (nW<|by decide +kernel) g1 ha hb g2
def cc(h:c.Ok)(wy:WD f as true c.w):WE (yn WX "nothing" f aN) as (vD<|c.h []):=
 m3 wy (nW<|by decide +kernel) ((uf h.k2).trans<|by rw[ite_self,ite_self]) (Ar h.k2 h.n1 h.n3)
def Ok.of{l:Nat}(h:c.Ok)(hv:VL c.k c.n v)(z:c.k=0->∀p ∈ v,Z p<=2 ^ l)(g:l<=600000):Ok c.k v:=⟨by rw[hv.1];have:=h.n3;omega,hv.2,λe p m=>mh (z e p m) g⟩
def sY(h:c.Ok)(hT:WO c.k c.n b T)(hR:c.In l R)(h1:R≠[])(h2:R.length<=1000)(hl:l+b<=LM)(wy:WD f as true c.w)(ha:WE a as (wD T))(he:WE e as (vD<|c.h R))(hg:WE g as (.int R.length)):WE (yn Pu "made" f<|aC a<|aC e<|aC g aN) as (vD<|c.h<|c.ap (some T) R):=by
 have n3:=h.n3;have hl:l+b<=500000:=hl;have ln:1<=R.length:=List.length_pos_iff.mpr h1;have e1:c.h (c.ap (some T) R)=md c.k T (c.h R) R.length:=(nQ hT.toWL R h1<|Uv hR).symm;rw[e1];refine DE wy (nW<|by decide +kernel) ((uf h.k2).trans<|by rw[ite_self,ite_self]) ha he hg (qW h.k2 (by omega) (by omega) (by rw[hT.r];omega) (λr m=>Ok.of h (hT.x r m) (λe=>hT.zr e r m)<|by omega) (Ok.of h hT.m hT.zm<|by omega)<|Ok.of (l:=20+l) h (VL.hv<|Uv hR) (λe p m=>?_)<|by omega);obtain⟨k,n⟩:=c;have e:k=0:=e;subst e;refine zzO (gZ R (λv mv=>(hR v mv).z rfl) p m) ?_;exact zzO (Nat.mul_le_mul_right _ (show R.length<=2 ^ 10 by omega)) (Nat.le_of_eq<|by rw[<-Nat.pow_add];congr 1;omega)
def iV(h:c.Ok)(wy:WD f as true c.w)(ha:WE a as (wD T)):WE (yn Q3 "wait_of" f<|aC a aN) as (wD T):=
 Wk wy (nW<|by decide +kernel) ((uf h.k2).trans<|by rw[ite_self,ite_self]) ha pE
end
def Lk{a b c d e f:EF}{as:AS}{x y z u v w o:D}{g:List (Bool×D)->Option O}(ha:WE a as x)(hb:WE b as y)(hc:WE c as z)(hd:WE d as u)(he:WE e as v)(hf:WE f as w)(hg:RE (g [(true,x),(true,y),(true,z),(true,u),(true,v),(true,w)]) o):WE (zd (aC a<|aC b<|aC c<|aC d<|aC e<|aC f aN) g) as o:=by
 obtain⟨o,h1,h2⟩:=hg;exact⟨o,YW (xu ha<|xu hb<|xu hc<|xu hd<|xu he<|xu hf zv) (by show g [(zu x||true,x),(zu y||true,y),(zu z||true,z),(zu u||true,u),(zu v||true,v),(zu w||true,w)]=_;simp only[zyD];exact h1),h2⟩
abbrev k7(ns:List Str)(os:List O)(w b:List Pt)(a:D)(t:Bool)(x y:D):AS:=[some<|.nd (.ob "Knot" ns) os,sT<|vD w,sT<|vD b,sT a,sT<|.bl t,sT x,sT y]
def mH{w b:List Pt}{a x y:D}{t:Bool}{p s:Int}(hd:∀ns os,WE (Jn (fT<|f2 yC (fC .non)<|zo .Is) zM<|f2 zV (fP (aC (f1 yC<|zJ yr "deep")<|aC (f1 yz<|zJ yr "deep") aN) B9) zt) (k7 ns os w b a t x y)<|.int p)
 (hz:∀ns os,WE (Jn (fT<|f2 yC (fC .non)<|zo .Is) zV<|f2 (f1 yC<|zJ Zr "size") (f1 yz<|zJ Zr "size") zt) (k7 ns os w b a t x y)<|.int s):
 RE (yy "Knot" [(true,vD w),(true,vD b),(true,a),(true,.bl t),(true,x),(true,y)]) (kn w b a t x y p s):=by
 have v:∀(i:Nat) (d:D) ns os,(k7 ns os w b a t x y)[i]? = some (sT d)->WE (fV i) (k7 ns os w b a t x y) d:=λi d ns os h=>WD.e<|za h;have h:Xe (WN 7 (jW "Knot"::[(true,vD w),(true,vD b),(true,a),(true,.bl t),(true,x),(true,y)].map qH))=some (k7 nI [.lf true<|vD w,.lf true<|vD b,.lf true a,.lf true<|.bl t,.lf true x,.lf true y,.lf true<|.int p,.lf true<|.int s] w b a t x y):=
  ZL (Ye (c:="Knot") (i:=0) (ns:=[]) (os:=[]) (v 1 _ _ _ rfl) rfl (by decide +kernel) (by decide +kernel)<|by decide)
  (ZL (Ye (c:="Knot") (i:=0) (v 2 _ _ _ rfl) rfl (by decide +kernel) (by decide +kernel)<|by decide)
  (ZL (Ye (c:="Knot") (i:=0) (v 3 _ _ _ rfl) rfl (by decide +kernel) (by decide +kernel)<|by decide)
  (ZL (Ye (c:="Knot") (i:=0) (v 4 _ _ _ rfl) rfl (by decide +kernel) (by decide +kernel)<|by decide)
  (ZL (Ye (c:="Knot") (i:=0) (v 5 _ _ _ rfl) rfl (by decide +kernel) (by decide +kernel)<|by decide)
  (ZL (Ye (c:="Knot") (i:=0) (v 6 _ _ _ rfl) rfl (by decide +kernel) (by decide +kernel)<|by decide)
  (ZL (Ye (c:="Knot") (i:=0) (hd _ _) rfl (by decide +kernel) (by decide +kernel)<|by decide)
  (Ye (c:="Knot") (i:=0) (hz _ _) rfl (by decide +kernel) (by decide +kernel)<|by decide)))))))
 refine⟨.nd (.ob "Knot" nI) [.lf true<|vD w,.lf true<|vD b,.lf true a,.lf true<|.bl t,.lf true x,.lf true y,.lf true<|.int p,.lf true<|.int s], ?_,rfl,rfl⟩;unfold yy lD;rw[if_pos (by rfl),h];rfl
def Ik{w b:List Pt}{a:D}{t:Bool}:RE (yy "Knot" [(true,vD w),(true,vD b),(true,a),(true,.bl t),(true,.non),(true,.non)]) (kn w b a t .non .non 0 1):=
 mH (λ_ _=>U1 (zC (zY (za (i:=5) rfl) zb rfl rfl) rfl)<|WD.e zb) λ_ _=>U1 (zC (zY (za (i:=5) rfl) zb rfl rfl) rfl)<|WD.e zb
section
variable{c:Cx}{x y d:D}{r s R:List (List Pt)}{p q l b b':Nat}{T U:Wt}
def gC(n:Nat):Xl 0 n=(List.range n).map λb=>(true,D.int ((b:Nat):Int)):=by
 show(List.range n).map _=_;exact List.map_congr_left λi _=>by rw[Int.zero_add]
def Es{as:AS}{f:EF}{n:Nat}(h:WD f as true (.int n))(hn:n<=1000):Xo (aC f aN) Rc as=some ((List.range n).map λb=>(true,D.int ((b:Nat):Int)),as):=by
 rw[Oz (zh h zv) (Int.natCast_nonneg _) (by omega),zyI,gC]
def pM{x:List Pt}{n j:Nat}(h:x.length=n)(hj:j<n):zZ (vD x) (.int (j:Int))=some (.im<|pD<|at_ x j):=by
 show qM (C_ _ _)=_;rw[PN (v:=pD<|at_ x j) (by
  rw[zzI];show _=some (pD<|(x[j]?).getD none);rw[zzE<|by omega];rfl)];rfl
def iH(hT:WO c.k c.n b T){j:Nat}(hj:j<c.n):c.k=0->∀p ∈ col T.1 j,Z p<=2 ^ (b-2):=λe p m=>by
 obtain⟨x,mx,rfl⟩:=zxC.mp m;have lx:=(hT.x x mx).1;show Z ((x[j]?).getD none)<=_;rw[zzE<|by omega];exact hT.zr e x mx _<|zyY _
def iX(hT:WO c.k c.n b T){j:Nat}(hj:j<c.n):∀p ∈ col T.1 j,Vl c.k p:=λp m=>by
 obtain⟨x,mx,rfl⟩:=zxC.mp m;have lx:=(hT.x x mx).1;show Vl c.k ((x[j]?).getD none);rw[zzE<|by omega];exact(hT.x x mx).2 _<|zyY _
def gI(h:c.Ok){as:AS}{f a e:EF}{u v:List Pt}{z z':D}(hx:SqD z (u.map pD))(hy:SqD z' (v.map pD))(hu:Ok c.k u)(hv:Ok c.k v)(wy:WD f as true c.w)(ha:WE a as z)(he:WE e as z'):WE (yn vY "across" f<|aC a<|aC e aN) as (pD<|ac c.k u v):=by
 obtain⟨g,g1,g2⟩:=S9 (w:=c.n) h.k2 hx hy hu.vl hv.vl hu.bg hv.bg hu.len;exact NF wy (nW<|by decide +kernel) g1 ha he g2
def Da{as:AS}{f:EF}(x:List (List Pt))(h:WE f as (.tup<|x.map vD)):Vz f as=some (x.map λr=>(true,vD r),as):=by
 rw[Ft h,zyB];rfl
def uY(h:c.Ok)(hT:WO c.k c.n b T)(hU:WO c.k c.n b' U)(hl:b+b'<=LM):RE (vL [(true,c.w),(true,wD T),(true,wD U)]) (wD<|bh c.k c.n T U):=by
 have n3:=h.n3;have hl:b+b'<=500000:=hl;have ux:∀x ∈ U.1,Ok c.k x:=λx m=>Ok.of h (hU.x x m) (λe=>hU.zr e x m) (by omega);have s3:=xo (p:=3) (ZF (as:=[sT c.w,sT<|wD T,sT<|wD U,none,none,none]) (cap:=[none,some 1]) (gg:=gN 0) (fe:=yK (Vz<|f2 zi zM zZ) [none,some 0] ZO YD<|f2 zl zi zZ) (h:=λj:Nat=>D.lst<|(col T.1 j).map pD) (it:=λj:Nat=>(true,D.int ((j:Nat):Int))) (List.range c.n) (Es (V9<|za (i:=0) rfl)<|by omega) (by rw[zyU];omega) λj mj=>⟨[sI j,sT<|wD T],rfl,by
  show WE _ _ (D.lst<|(T.1.map λx=>at_ x j).map pD);rw[zyB];exact ZF (it:=λx:List Pt=>(true,vD x)) T.1 (Da T.1<|wG (WD.e<|za (i:=1) rfl) (WD.e zb) gn) (by rw[hT.r];omega) λx mx=>⟨[sT<|vD x,sI j],rfl,wG (WD.e<|za (i:=0) rfl) (WD.e<|za (i:=1) rfl)<|pM (hT.x x mx).1<|List.mem_range.mp mj⟩⟩)<|zk rfl
 have s4:=λC=>xo (p:=4) (ZF (as:=[sT c.w,sT<|wD T,sT<|wD U,sT<|.lst ((List.range c.n).map λj:Nat=>D.lst<|(col T.1 j).map pD),none,C]) (cap:=[none,some 3,some 0]) (gg:=gN 0) (fe:=fP (aC (yK (Vz zi) [none,some 0,some 2] ZO YD<|yn vY "across" zA<|aC zi BX) aN) tupP) (h:=λx:List Pt=>vD<|(List.range c.n).map λj=>ac c.k x<|col T.1 j) (it:=λx:List Pt=>(true,vD x)) U.1 (Da U.1<|wG (WD.e<|za (i:=2) rfl) (WD.e zb) gn) (by rw[hU.r];omega) λx mx=>⟨[sT<|vD x,sT<|.lst ((List.range c.n).map λj:Nat=>D.lst<|(col T.1 j).map pD),sT c.w],rfl,vF (ZF (h:=λj:Nat=>pD<|ac c.k x<|col T.1 j) (it:=λj:Nat=>(true,D.lst<|(col T.1 j).map pD)) (List.range c.n) (by rw[nO<|WD.e<|za (i:=1) rfl,zyB];rfl) (by rw[zyU];omega) λj mj=>⟨[sT<|D.lst<|(col T.1 j).map pD,sT<|vD x,sT c.w],rfl,gI h (.t _) (.l _) (ux x mx) ⟨by rw[zzB,hT.r];omega,iX hT<|List.mem_range.mp mj,λe p m=>mh (iH hT (List.mem_range.mp mj) e p m)<|by omega⟩ (za (i:=2) rfl) (WD.e<|za (i:=1) rfl)<|WD.e<|za (i:=0) rfl⟩) (by
  show some (R0.im<|.tup<|(List.range c.n).map λj=>pD<|ac c.k x<|col T.1 j)=some (R0.im<|.tup<|((List.range c.n).map λj=>ac c.k x<|col T.1 j).map pD);rw[zyB];rfl)⟩)<|zk rfl
 have s5:=λC D'=>xo (p:=5) (ZF (as:=[sT c.w,sT<|wD T,sT<|wD U,C,D',none]) (cap:=[none,some 0,some 1]) (gg:=gN 0) (fe:=yn vY "across" zi<|aC zl<|aC (f2 zA zV zZ) aN) (h:=λx:List Pt=>pD<|ac c.k x T.2) (it:=λx:List Pt=>(true,vD x)) U.1 (Da U.1<|wG (WD.e<|za (i:=2) rfl) (WD.e zb) gn) (by rw[hU.r];omega) λx mx=>⟨[sT<|vD x,sT c.w,sT<|wD T],rfl,gI h (.t _) (.t _) (ux x mx) (Ok.of h hT.m hT.zm<|by omega) (za (i:=1) rfl) (WD.e<|za (i:=0) rfl)<|wG (WD.e<|za (i:=2) rfl) (WD.e zb) iq⟩)<|zk rfl;obtain⟨g,g1,g2⟩:=Hv (w:=c.n) (x:=.lst<|U.1.map λx=>pD<|ac c.k x T.2) (u:=U.1.map λx=>ac c.k x T.2) (v:=U.2) h.k2 (by rw[show(U.1.map λx=>pD<|ac c.k x T.2)=(U.1.map λx=>ac c.k x T.2).map pD by rw[zyB];rfl];exact .l _) (.t _) (λp m=>by obtain⟨x,_,rfl⟩:=zxC.mp m;exact CY _ _) hU.m.2 (by rw[zzB,hU.r];omega);refine zG rfl<|zj s3<|zj (s4 none)<|zj (s5 _ _)<|zp<|ZU (vF (WD.e<|za (i:=4) rfl) ?_)<|NF (za (i:=0) rfl) (nW<|by decide +kernel) g1 (WD.e<|za (i:=5) rfl) (wG (WD.e<|za (i:=2) rfl) (WD.e zb) iq) g2;show some (R0.im<|.tup<|U.1.map λx=>vD<|(List.range c.n).map λj=>ac c.k x<|col T.1 j)=some (R0.im<|.tup<|(U.1.map λx=>(List.range c.n).map λj=>ac c.k x<|col T.1 j).map vD);rw[zyB];rfl
end
section
variable{c:Cx}{x y d:D}{r s R:List (List Pt)}{p q l l' b b':Nat}{T U:Wt}
def Bj(h:c.Ok){w b:List Pt}{a:D}{t:Bool}(k:TK c l x r p)(k':TK c l' y s q):RE (yy "Knot" [(true,vD w),(true,vD b),(true,a),(true,.bl t),(true,x),(true,y)]) (kn w b a t x y ((1+max p q:Nat):Int) ((r.length+s.length:Nat):Int)):=by
 have v5:∀ns os,WD yC (k7 ns os w b a t x y) true x:=λ_ _=>za (i:=5) rfl;have v6:∀ns os,WD yz (k7 ns os w b a t x y) true y:=λ_ _=>za (i:=6) rfl;refine mH (λns os=>Pm (k.isN h<|v5 _ _) ?_) λns os=>Pm (k.isN h<|v5 _ _) ?_
 . have h:=yA (zb (x:=.int 1))<|yT (x:=.int<|if(q:Int) > p then(q:Int)else p) (g:=B9) (zh (k.deep h<|v5 ns os)<|zh (k'.deep h<|v6 ns os) zv) rfl rfl;rw[show((1+max p q:Nat):Int)=1+(if(q:Int) > p then(q:Int)else p) by split<;>omega];exact WD.e h
 . have h:=yA (k.size h<|v5 ns os)<|k'.size h<|v6 ns os;rw[show((r.length+s.length:Nat):Int)=(r.length:Int)+s.length by omega];exact WD.e h
def DJ{v:List Pt}:RE (Pz [(true,vD v)]) (kn v v .non false .non .non 0 1):=
 zG rfl (zp<|Lk (WD.e<|za (i:=0) rfl) (WD.e<|za (i:=0) rfl) (WD.e zb) (WD.e zb) (WD.e zb) (WD.e zb) Ik)
def TK.mk{L:Nat}(w:Option Wt)(t:Bool)(hw:c.wok b w)(k:TK c l x r p)(k':TK c l y s q)(h1:p<=q+1)(h2:q<=p+1)(g:l+b<=L)(m:L<=LM){u v:List Pt}(hu:u=c.h (tn t<|c.ap w<|r++s))(hv:v=c.h (tn t<|c.ap w<|r++s).reverse):TK c L (kn u v (UD w) t x y ((1+max p q:Nat):Int) ((r.length+s.length:Nat):Int)) (tn t<|c.ap w<|r++s) (1+max p q):=by
 have:=TK.nd w t k k' h1 h2 hw g m rfl;rw[Ef,Gc,zzJ]at this;rw[hu,hv];exact this
def vV(h:c.Ok)(k:TK c l x r p)(k':TK c l y s q)(h1:p<=q+1)(h2:q<=p+1):∃d,RE (yW [(true,c.w),(true,x),(true,y)]) d/\TK c l d (r++s) (1+max p q):=by
 have v1:WD zi [sT c.w,sT x,sT y] true x:=za (i:=1) rfl;have v2:WD zA [sT c.w,sT x,sT y] true y:=za (i:=2) rfl;have wy:WD zl [sT c.w,sT x,sT y] true c.w:=za (i:=0) rfl;have w1:=dr h (VL.hv<|Uv<|k.in h) (VL.hv<|Uv<|k'.in h) wy (WD.e<|k.whole h v1)<|WD.e<|k'.whole h v2;have w2:=dr h (VL.hv<|Uv<|k'.rev h) (VL.hv<|Uv<|k.rev h) wy (WD.e<|k'.back h v2)<|WD.e<|k.back h v1;refine⟨_,zG rfl<|zp<|Lk w1 w2 (WD.e zb) (WD.e zb) (WD.e v1) (WD.e v2)<|Bj h k k',TK.mk (b:=0) none false trivial k k' h1 h2 (zzN _) k.lim ?_ ?_⟩
 . exact(FL r s<|Uv<|k'.in h).symm
 . show _=c.h (r++s).reverse;rw[List.reverse_append];exact(FL _ _<|Uv<|k.rev h).symm
def AN(h:c.Ok){w u:Option Wt}(hw:c.wok b w)(hu:c.wok b' u)(g:b+b'<=LM):∃v,RE (XJ [(true,c.w),(true,UD w),(true,UD u)]) (UD v)/\c.wok (b+b') v/\∀l r,c.In l r->c.ap v r=c.ap u (c.ap w r):=by
 have up:∀{T:Wt}{i j:Nat},WO c.k c.n i T->i<=j->WO c.k c.n j T:=λo e=>⟨o.toWL,zzO o.b e,λz x m p n=>zzO (o.zr z x m p n) (Nat.pow_le_pow_right (by decide)<|by omega),λz p n=>zzO (o.zm z p n)<|Nat.pow_le_pow_right (by decide)<|by omega⟩;cases w with
 |none=>
  refine⟨u,zG rfl<|yi<|yJ (zC (zY (za (i:=1) rfl) zb rfl rfl) rfl)<|zp<|WD.e<|za (i:=2) rfl, ?_,λ_ _ _=>rfl⟩;cases u with
  |none=>exact trivial
  |some U=>exact up hu (Nat.le_add_left _ _)
 |some A=>
  have t1:∀z,WT (fT<|f2 zi (fC .non)<|zo .Is) [sT c.w,sT<|wD A,z] false:=λz=>zC (zY (z:=.bl false) (za (i:=1) rfl) zb rfl rfl) rfl;cases u with
  |none=>exact⟨some A,zG rfl<|zj (zq (t1 _) rfl)<|yi<|yJ (zC (zY (za (i:=2) rfl) zb rfl rfl) rfl)<|zp<|WD.e<|za (i:=1) rfl,up hw<|Nat.le_add_right _ _,λ_ _ _=>rfl⟩
  |some B=>
   refine⟨some<|bh c.k c.n A B,zG rfl<|zj (zq (t1 _) rfl)<|zj (zq (zC (zY (z:=.bl false) (za (i:=2) rfl) zb rfl rfl) rfl) rfl)<|zp<|NF (za (i:=0) rfl) (nW<|by decide +kernel) ((uf h.k2).trans<|by rw[ite_self,ite_self]) (WD.e<|za (i:=1) rfl) (WD.e<|za (i:=2) rfl)<|uY h hw hu g,WO.bh h.n3 hw hu,λl r hr=>?_⟩;show r.map _=(r.map _).map _;rw[zyB];exact List.map_congr_left λa ma=>mG hw.toWL (hr a ma).1.1 B.1 B.2 hu.m.2
def O9(h:c.Ok)(hT:WO c.k c.n b T)(k:TK c l d R p)(g:l+b<=LM)(hl:R.length<=1000):∃d',RE (vI [(true,c.w),(true,d),(true,wD T)]) d'/\TK c (l+b) d' (c.ap (some T) R) p:=by
 have v1:∀a b,WD zi [sT c.w,sT d,sT<|wD T,a,b] true d:=λ_ _=>za (i:=1) rfl;have ne:R≠[]:=List.length_pos_iff.mp k.pos;have s3:=xo (p:=3) (sY (as:=[sT c.w,sT d,sT<|wD T,none,none]) h hT (k.in h) ne hl g (za (i:=0) rfl) (WD.e<|za (i:=2) rfl) (WD.e<|k.whole h<|v1 _ _)<|WD.e<|k.size h<|v1 _ _)<|zk rfl;have s4:=xo (p:=4) (sY (as:=[sT c.w,sT d,sT<|wD T,sT<|vD<|c.h<|c.ap (some T) R,none]) h hT (k.rev h) (λe=>ne<|List.reverse_eq_nil_iff.mp e) (by rw[List.length_reverse];exact hl) g (za (i:=0) rfl) (WD.e<|za (i:=2) rfl) (WD.e<|k.back h<|v1 _ _)<|by rw[List.length_reverse];exact WD.e<|k.size h<|v1 _ _)<|zk rfl;have t0:=k.zero h<|v1 (sT<|vD<|c.h<|c.ap (some T) R) none;cases k with
 |lf v t hv hL=>
  have e1:c.h (c.ap (some T) [v])=md c.k T v 1:=BQ hT.toWL.md;rw[e1]at s3 t0;exact⟨_,zG rfl<|zj (zq ((TK.lf v t hv hL).isN h<|za (i:=1) rfl) rfl)<|zj s3<|yi<|yJ t0<|zp<|Xq (WD.e<|za (i:=3) rfl) DJ,TK.lf _ false (VO.md h.n3 hT hv) g⟩
 | @nd l' b' L w t x y r s p q R k k' h1 h2 hw hL lm e=>
  have kk:=TK.nd w t k k' h1 h2 hw hL lm e;obtain⟨v,b1,b2,b3⟩:=AN h hw (show c.wok b (some T)from hT) (by omega);rw[zyG<|by omega]at t0;have f:∀{cs:List Str}{n:Str}{z:D}(a b:Option O),("Knot":Str) ∈ cs->JR nI [vD<|c.h R,vD<|c.h R.reverse,UD w,.bl t,x,y,.int ((1+max p q:Nat):Int),.int (R.length:Int)] n=some z->WE (f1 zi<|zJ cs n) [sT c.w,sT<|kn (c.h R) (c.h R.reverse) (UD w) t x y ((1+max p q:Nat):Int) (R.length:Int),sT<|wD T,a,b] z:=λa b hc hl=>WD.e<|Qo (v1 a b) hc hl;have eR:c.ap (some T) R=tn t (c.ap v<|r++s):=by rw[e,nS,b3 _ _<|Aa (k.in h)<|k'.in h]
  refine⟨_,zG rfl<|zj (zq (kk.isN h<|za (i:=1) rfl) rfl)<|zj s3<|zj (zq t0 rfl)<|zj s4<|zp<|Lk (WD.e<|za (i:=3) rfl) (WD.e<|za (i:=4) rfl) (zQ (WD.e<|za (i:=0) rfl) (f _ _ (by decide +kernel) rfl) (WD.e<|za (i:=2) rfl) b1) (f _ _ (by decide +kernel) rfl) (f _ _ (by decide +kernel) rfl) (f _ _ (by decide +kernel) rfl)<|Bj h k k', ?_⟩;have:=TK.mk v t b2 k k' h1 h2 (L:=l+b) (by omega) g (u:=c.h<|c.ap (some T) R) (v:=c.h<|c.ap (some T) R.reverse) (by rw[<-eR]) (by rw[<-eR];show c.h (R.reverse.map _)=c.h (R.map _).reverse;rw[List.map_reverse]);rw[<-eR]at this;exact this
def Lm(h:c.Ok)(k:TK c l d R p):∃d',RE (xC [(true,c.w),(true,d)]) d'/\TK c l d' R.reverse p:=by
 have v1:WD zi [sT c.w,sT d] true d:=za (i:=1) rfl;have w1:=WD.e<|k.back h v1;have w2:=WD.e<|k.whole h v1;have n0:=k.isN h v1;cases k with
 |lf v t hv hL=>
  rw[show([v]:List (List Pt)).reverse=[v]from rfl,show c.h [v]=v from BQ hv.toVL]at w1;rw[show c.h [v]=v from BQ hv.toVL]at w2;exact⟨_,zG rfl<|zj (zq n0 rfl)<|zp<|Lk w1 w2 (WD.e<|Qo v1 (by decide +kernel) rfl) (WD.e<|Aw<|Qo v1 (by decide +kernel) rfl) (WD.e<|Qo v1 (by decide +kernel) rfl) (WD.e<|Qo v1 (by decide +kernel) rfl) Ik,TK.lf _ _ hv hL⟩
 | @nd l b L w t x y r s p q R k k' h1 h2 hw hL lm e=>
  refine⟨_,zG rfl<|zj (zq n0 rfl)<|zp<|Lk w1 w2 (WD.e<|Qo v1 (by decide +kernel) rfl) (WD.e<|Aw<|Qo v1 (by decide +kernel) rfl) (WD.e<|Qo v1 (by decide +kernel) rfl) (WD.e<|Qo v1 (by decide +kernel) rfl)<|Bj h k k', ?_⟩;have eR:R.reverse=tn (!t) (c.ap w<|r++s):=by
   rw[e];cases t with
   |false=>rfl
   |true=>exact List.reverse_reverse _
  have:=TK.mk w (!t) hw k k' h1 h2 hL lm (u:=c.h R.reverse) (v:=c.h R) (by rw[<-eR]) (by rw[<-eR,List.reverse_reverse]);rw[<-eR]at this;exact this
def Wl(h:c.Ok)(k:TK c l d R p)(hp:p≠0)(hl:R.length<=1000):∃x y r s u v,RE (wk [(true,c.w),(true,d)]) (.tup [x,y])/\TK c l x r u/\TK c l y s v/\u<=v+1/\v<=u+1/\p=1+max u v/\R=r++s:=by
 cases k with
 |lf=>exact absurd rfl hp
 | @nd l' b' _ w t x y r s p q R k k' h1 h2 hw hL lm e=>
  have v1:∀a b,WD zi [sT c.w,sT<|kn (c.h R) (c.h R.reverse) (UD w) t x y ((1+max p q:Nat):Int) (R.length:Int),a,b] true (kn (c.h R) (c.h R.reverse) (UD w) t x y ((1+max p q:Nat):Int) (R.length:Int)):=λ_ _=>za (i:=1) rfl;have s2:=yQ (i:=2) (st:=true) (Qo (cs:=Q5) (f:="one") (v1 none none) (by decide +kernel) rfl)<|zk rfl;have s3:=yQ (i:=3) (st:=true) (Qo (cs:=ZP) (f:="other") (v1 (sT x) none) (by decide +kernel) rfl)<|zk rfl;have hR:R.length=r.length+s.length:=by rw[e,Ef,Gc,zzJ]
  obtain⟨x',y',q1,q2,q3⟩:∃x' y',xD (fT<|f2 (f1 zi<|zJ vW "wait") (fC .non)<|zo .IsNot) (zx (zE true 2<|zd (aC zl<|aC zA<|aC (f1 zi<|zJ vW "wait") aN) vI)<|zE true 3<|zd (aC zl<|aC zU<|aC (f1 zi<|zJ vW "wait") aN) vI) vB [sT c.w,sT<|kn (c.h R) (c.h R.reverse) (UD w) t x y ((1+max p q:Nat):Int) (R.length:Int),sT x,sT y]=some (.nx [sT c.w,sT<|kn (c.h R) (c.h R.reverse) (UD w) t x y ((1+max p q:Nat):Int) (R.length:Int),sT x',sT y'])/\TK c l x' (c.ap w r) p/\TK c l y' (c.ap w s) q:=by
   cases w with
   |none=>exact⟨x,y,zq (zC (zY (x:=.non) (z:=.bl false) (Qo (v1 _ _) (by decide +kernel) rfl) zb rfl rfl) rfl) rfl,k.up (by omega) lm,k'.up (by omega) lm⟩
   |some T=>
    obtain⟨x',a1,a2⟩:=O9 h hw k (by omega) (by omega);obtain⟨y',b1,b2⟩:=O9 h hw k' (by omega) (by omega);have wt:∀a b,WE (f1 zi<|zJ vW "wait") [sT c.w,sT<|kn (c.h R) (c.h R.reverse) (UD<|some T) t x y ((1+max p q:Nat):Int) (R.length:Int),a,b] (wD T):=λa b=>WD.e<|Qo (v1 a b) (by decide +kernel) rfl;exact⟨x',y',WY (zC (x:=.bl true) (j3 (wt _ _) (WD.e zb) rfl) rfl)<|zL (xo (p:=2) (zQ (WD.e<|za (i:=0) rfl) (WD.e<|za (i:=2) rfl) (wt _ _) a1)<|zk rfl)<|xo (p:=3) (zQ (WD.e<|za (i:=0) rfl) (WD.e<|za (i:=3) rfl) (wt _ _) b1)<|zk rfl,a2.up hL lm,b2.up hL lm⟩
  have tt:WT (fT<|f1 zi<|zJ Vr "turn") [sT c.w,sT<|kn (c.h R) (c.h R.reverse) (UD w) t x y ((1+max p q:Nat):Int) (R.length:Int),sT x',sT y'] t:=zC (x:=.bl t) (Qo (v1 _ _) (by decide +kernel) rfl) rfl;cases t with
  |false=>exact⟨x',y',_,_,p,q,zG rfl<|zj s2<|zj s3<|zj q1<|zj (zq tt rfl)<|zp<|ZU (WD.e<|za (i:=2) rfl)<|WD.e<|za (i:=3) rfl,q2,q3,h1,h2,rfl,by rw[e,JA];rfl⟩
  |true=>
   obtain⟨x'',a1,a2⟩:=Lm h q2;obtain⟨y'',b1,b2⟩:=Lm h q3;exact⟨y'',x'',_,_,q,p,zG rfl<|zj s2<|zj s3<|zj q1<|yi<|yJ tt<|zp<|ZU (y9 (WD.e<|za (i:=0) rfl) (WD.e<|za (i:=3) rfl) b1)<|y9 (WD.e<|za (i:=0) rfl) (WD.e<|za (i:=2) rfl) a1,b2,a2,h2,h1,by rw[Nat.max_comm],by rw[e,JA];exact List.reverse_append⟩
end
def SB{as:AS}{i:Nat}{fr:AF}{g:List ZA->O->Option O}{rs:List RV}{xs:List ZA}{o r:O}(h1:fr as=some (rs,as))(h2:IB i rs=some xs)(h3:as[i]? = some (some o))(h4:g xs o=some r):Ug i fr g as=some (.nx<|as.set i<|some r):=by
 unfold Ug;rw[h1];show(IB i rs).bind _=_;rw[h2];show(as[i]?).bind _=_;rw[h3];show(g xs o).bind _=_;rw[h4];rfl
def Jk{f:EF}{as:AS}{d:D}(hd:zu d=true)(h:WE f as d):WD f as true d:=by
 obtain⟨o,h,h1,h2⟩:=h;cases o with
 |lf s x=>subst h2;rw[show s=true from h1]at h;exact h
 |nd k os=>subst h2;cases k<;>cases hd
def qE{f:EF}{as:AS}{k:Bool}(h:WE f as (.bl k)):WT (fT f) as k:=zC (Jk rfl h) rfl
def nR{as:AS}{i:Nat}{os:List O}{a:EF}{x:D}(h:as[i]? = some (sN os))(hl:os.length<sizeLine)(ha:WE a as x):∃o:O,o.str=true/\o.toD=x/\yO (Qj i (dC a dN) W5) as=some (.nx<|as.set i<|sN<|os++[o]):=by
 obtain⟨o,h1,h2,h3⟩:=ha;refine⟨o,h2,h3, ?_⟩;unfold yO Qj;rw[h];have e:dC a dN as=some ([o],as):=u9 h1 xp;show((dC a dN as).bind _).bind _=_;rw[e];show(Option.bind (match as[i]? with|some (some<|.nd .ls os)=>_|_=>none) _)=_;rw[h];show((W5 os [o]).bind _).bind _=_;have e2:W5 os [o]=some (os++[o],.lf true .non):=by unfold W5;exact if_pos hl
 rw[e2];rfl
def LO(os:List O)(ds:List D):Prop:=O.strs os=true/\O.toDs os=ds
def LO.nil:LO [] []:=⟨rfl,rfl⟩
theorem LO.len:∀{os:List O}{ds:List D},LO os ds->os.length=ds.length
 | [],_,⟨_,rfl⟩=>rfl
 |o::os,_,⟨h,rfl⟩=>congrArg (· + 1)<|LO.len (os:=os) ⟨(Bool.and_eq_true_iff.mp h).2,rfl⟩
theorem LO.snoc:∀{os:List O}{ds:List D}{o:O}{d:D},LO os ds->o.str=true->o.toD=d->LO (os++[o]) (ds++[d])
 | [],_,o,_,⟨_,rfl⟩,h,rfl=>⟨by show(o.str&&true)=true;rw[h];rfl,rfl⟩
 |p::os,_,o,_,⟨g,rfl⟩,h,rfl=>by
  have g:=Bool.and_eq_true_iff.mp g;obtain⟨a,b⟩:=LO.snoc (os:=os) (o:=o) ⟨g.2,rfl⟩ h rfl;exact⟨by show(p.str&&O.strs (os++[o]))=true;rw[g.1,a];rfl,by show p.toD::O.toDs (os++[o])=_;rw[b];rfl⟩
section
variable{c:Cx}{x y d:D}{r s R:List (List Pt)}{p q l l' b b':Nat}
abbrev g9(c:Cx)(d:D)(w:Option Wt)(t:Bool)(os:List O)(a b e f:Option O):AS:=[sT c.w,sT d,sT<|UD w,sT<|.bl t,sN os,a,b,e,f]
abbrev RO(os:List O)(r:List (List Pt)):Prop:=LO os<|r.map vD
theorem Hl(h:c.Ok):∀(k:Nat) {d:D}{R:List (List Pt)}{p l b:Nat}(w:Option Wt) (t:Bool) (acc:List (List Pt)) (os:List O),TK c l d R p->c.wok b w->l+b<=LM->p<k->acc.length+R.length<=1000->RO os acc->∃os',xT k [(true,c.w),(true,d),(true,UD w),(true,.bl t)] (.nd .ls os)=sN os'/\RO os' (acc++tn t (c.ap w R))
 |0,_,_,_,_,_,_,_,_,_,_,_,_,h,_,_=>absurd h (Nat.not_lt_zero _)
 |n+1,d,R,p,l,b,w,t,acc,os,k,hw,hL,hp,hl,ho=>by
  have ol:=ho.len;rw[zzB]at ol;obtain⟨os',a',b',e',f',run,fin⟩:∃os' a b e f,GX (xT n) (g9 c d w t os none none none none)=some (.nx<|g9 c d w t os' a b e f)/\RO os' (acc++tn t (c.ap w R)):=by
   have v1:∀a b e f,WD zi (g9 c d w t os a b e f) true d:=λ_ _ _ _=>za (i:=1) rfl;have t0:=k.zero h<|v1 none none none none;have wh:=k.whole h<|v1 none none none none;have al:acc.length<1001:=by omega
   cases k with
   |lf v b hv hm=>
    have hk:=TK.lf v b hv hm;have wv:∃u,[u]=tn t (c.ap w [v])/\WE (Jn (fT<|f2 zA (fC .non)<|zo .Is) (f1 zi<|zJ wC "whole")<|yn Pu "made" zl<|aC zA<|aC (f1 zi<|zJ wC "whole")<|aC zV aN) (g9 c (kn v v .non b .non .non 0 1) w t os none none none none) (vD u):=by
     cases w with
     |none=>exact⟨v,by cases t<;>rfl,U1 (zC (zY (a:=fV 2) (b:=fC .non) (g:=zo .Is) (z:=.bl true) (za (i:=2) rfl) zb rfl rfl) rfl)<|by rw[show c.h [v]=v from BQ hv.toVL]at wh;exact WD.e wh⟩
     | some T=>
            have m:=sY h hw (hk.in h) (List.cons_ne_nil _ _) (by show 1<=1000;decide) hL (za (i:=0) rfl) (WD.e<|za (i:=2) rfl) (WD.e wh)<|WD.e<|zb (x:=.int 1);rw[show c.h (c.ap (some T) [v])=md c.k T v 1 from BQ (WO.toWL hw).md]at m;exact⟨md c.k T v 1,by cases t<;>rfl,Pm (zC (zY (a:=fV 2) (b:=fC .non) (g:=zo .Is) (z:=.bl false) (za (i:=2) rfl) zb rfl rfl) rfl) m⟩
    obtain⟨u,e,wv⟩:=wv;obtain⟨o,o1,o2,run⟩:=nR (i:=4) (os:=os) rfl (by rw[ol];exact zzK al<|pb<|by decide) wv;refine⟨os++[o],none,none,none,none,WY t0 run, ?_⟩;rw[<-e];show LO _ ((acc++[u]).map vD);rw[zyM];exact ho.snoc o1 o2
   | @nd l' b' _ u f x y r s p q R k k' h1 h2 hu hL' lm e=>
    rw[zyG<|by omega]at t0;obtain⟨v,b1,b2,b3⟩:=AN h hu hw (by omega);have hR:R.length=r.length+s.length:=by rw[e,Ef,Gc,zzJ]
    have eR:tn t (c.ap w R)=tn (f != t) (c.ap v r++c.ap v s):=by rw[e,nS,fu,<-b3 _ _ (Aa (k.in h)<|k'.in h),JA]
    rw[eR];have fl:∀{cs:List Str}{n:Str}{z:D}(a b' e g:Option O),("Knot":Str) ∈ cs->JR nI [vD<|c.h R,vD<|c.h R.reverse,UD u,.bl f,x,y,.int ((1+max p q:Nat):Int),.int (R.length:Int)] n=some z->WD (f1 zi<|zJ cs n) (g9 c (kn (c.h R) (c.h R.reverse) (UD u) f x y ((1+max p q:Nat):Int) (R.length:Int)) w t os a b' e g) true z:=λa b e g hc hl=>Qo (v1 a b e g) hc hl;have s5:=xo (p:=5) (zQ (WD.e<|za (i:=0) rfl) (WD.e<|fl (cs:=vW) (n:="wait") none none none none (by decide +kernel) rfl) (WD.e<|za (i:=2) rfl) b1)<|zk rfl;have s6:=yQ (i:=6) (st:=true) (Du (c:=f==t) (fl (cs:=Vr) (n:="turn") (sT<|UD v) none none none (by decide +kernel) rfl) (za (i:=3) rfl)<|by cases f<;>cases t<;>rfl)<|zk rfl;rw[show(!(f==t))=(f != t)from rfl]at s6;have fx:=WD.e<|fl (cs:=Q5) (n:="one") (sT<|UD v) (sT<|.bl<|f != t) none none (by decide +kernel) rfl;have fy:=WD.e<|fl (cs:=ZP) (n:="other") (sT<|UD v) (sT<|.bl<|f != t) none none (by decide +kernel) rfl;have w6:WT (fT yz) (g9 c (kn (c.h R) (c.h R.reverse) (UD u) f x y ((1+max p q:Nat):Int) (R.length:Int)) w t os (sT<|UD v) (sT<|.bl<|f != t) none none) (f != t):=zC (za (i:=6) rfl) rfl;have cl:∀{z:D}{r':List (List Pt)}{p':Nat}(a:List (List Pt)) (oa:List O) (o f':Option O),TK c l' z r' p'->p'<n->a.length+r'.length<=1000->RO oa a->∃oa',Ug 4 (aC zl<|aC (fV 8)<|aC yC<|aC yz<|aC zN aN) (xT n) [sT c.w,f',sT<|UD w,sT<|.bl t,sN oa,sT<|UD v,sT<|.bl<|f != t,o,sT z]=some (.nx [sT c.w,f',sT<|UD w,sT<|.bl t,sN oa',sT<|UD v,sT<|.bl<|f != t,o,sT z])/\RO oa' (a++tn (f != t) (c.ap v r')):=λ{z r' p'} a oa o f' k' hp' ha hoa=>by
     obtain⟨oa',g1,g2⟩:=Hl h n v (f != t) a oa k' b2 (by omega) hp' ha hoa;exact⟨oa',SB (rs:=[.ow<|.lf true c.w,.ow<|.lf true z,.ow<|.lf true<|UD v,.ow<|.lf true<|.bl<|f != t,.bo 4]) (xs:=[(true,c.w),(true,z),(true,UD v),(true,.bl<|f != t)]) rfl rfl rfl g1,g2⟩
    have lp:∀{z z':D}{r1 r2:List (List Pt)}{p1 p2:Nat}(o:Option O),TK c l' z r1 p1->TK c l' z' r2 p2->p1<n->p2<n->acc.length+r1.length+r2.length<=1000->∃oa',forL (gN 8) (Ug 4 (aC zl<|aC (fV 8)<|aC yC<|aC yz<|aC zN aN)<|xT n) [(true,z),(true,z')] (g9 c (kn (c.h R) (c.h R.reverse) (UD u) f x y ((1+max p q:Nat):Int) (R.length:Int)) w t os (sT<|UD v) (sT<|.bl<|f != t) o none)=some (.nx<|g9 c (kn (c.h R) (c.h R.reverse) (UD u) f x y ((1+max p q:Nat):Int) (R.length:Int)) w t oa' (sT<|UD v) (sT<|.bl<|f != t) o<|sT z')/\RO oa' (acc++tn (f != t) (c.ap v r1)++tn (f != t) (c.ap v r2)):=λ{z z' r1 r2 p1 p2} o k1 k2 l1 l2 hl=>by
     obtain⟨o1,g1,g2⟩:=cl acc os o _ k1 l1 (by omega) ho;obtain⟨o2,g3,g4⟩:=cl (acc++tn (f != t) (c.ap v r1)) o1 o _ k2 l2 (by rw[zzJ,Ef,Gc];exact hl) g2;exact⟨o2,wZ (as1:=g9 c _ w t os (sT<|UD v) (sT<|.bl<|f != t) o<|sT z) rfl g1<|wZ (as1:=g9 c _ w t o1 (sT<|UD v) (sT<|.bl<|f != t) o<|sT z') rfl g3 rfl,g4⟩
    cases hc:(f != t)with
    |false=>
     rw[hc]at w6 s6 lp fx fy;obtain⟨oa,g1,g2⟩:=lp (sT<|.tup [x,y]) k k' (by omega) (by omega) (by omega);rw[zxB]at g2;exact⟨_,_,_,_,_,zq t0<|zL s5<|zL s6<|zL (xo (p:=7) (Pm w6<|ZU fx fy)<|zk rfl)<|vC (mP<|za (i:=7) rfl) g1,g2⟩
    |true=>
     rw[hc]at w6 s6 lp fx fy;obtain⟨oa,g1,g2⟩:=lp (sT<|.tup [y,x]) k' k (by omega) (by omega) (by omega);rw[zxB,show tn true (c.ap v s)++tn true (c.ap v r)=tn true (c.ap v r++c.ap v s)from List.reverse_append.symm]at g2;exact⟨_,_,_,_,_,zq t0<|zL s5<|zL s6<|zL (xo (p:=7) (U1 w6<|ZU fy fx)<|zk rfl)<|vC (mP<|za (i:=7) rfl) g1,g2⟩
  refine⟨os', ?_,fin⟩;show gL 9 5 (GX<|xT n) [(true,c.w),(true,d),(true,UD w),(true,.bl t)] (.nd .ls os)=_;unfold gL;rw[if_pos (by rfl),show Gi 9 [(true,c.w),(true,d),(true,UD w),(true,.bl t)] (.nd .ls os)=g9 c d w t os none none none none from rfl,run];rfl
def kM(h:c.Ok)(k:TK c l d R p)(hl:R.length<=1000):RE (UX [(true,c.w),(true,d)]) (zH R):=by
 obtain⟨os,g1,g2⟩:=Hl h 20 (b:=0) none false [] [] k trivial k.lim (k.lt hl) (by show 0+_<=_;omega) .nil;have cl:Ug 2 (aC zl<|aC zi<|aC (fC .non)<|aC (fC<|.bl false) yt) (xT 20) [sT c.w,sT d,sN []]=some (.nx [sT c.w,sT d,sN os]):=SB (rs:=[.ow<|.lf true c.w,.ow<|.lf true d,.ow<|.lf true .non,.ow<|.lf true<|.bl false,.bo 2]) (xs:=[(true,c.w),(true,d),(true,.non),(true,.bl false)]) rfl rfl rfl g1;exact⟨.nd .ls os,vJ rfl<|zL (Vh (i:=2) (Gn xp<|Sz rfl)<|zk rfl)<|zL (WY (k.isS h<|za (i:=1) rfl) cl)<|DH (i:=2) rfl g2.1,g2.1,congrArg D.lst g2.2⟩
def oQ:RE (UX [(true,c.w),(true,.non)]) (zH []):=
 ⟨.nd .ls [],vJ rfl<|zL (Vh (i:=2) (Gn xp<|Sz rfl)<|zk rfl)<|zL (zq (zC (zY (z:=.bl false) (za (i:=1) rfl) zb rfl rfl) rfl) rfl)<|DH (i:=2) rfl rfl,rfl,rfl⟩
def OT(c:Cx)(l:Nat)(d:D)(R:List (List Pt)):Prop:=(d = .non/\R=[])\/∃p,TK c l d R p
def TK.o(k:TK c l d R p):OT c l d R:=.inr ⟨p,k⟩
def OT.n:OT c l .non []:=.inl ⟨rfl,rfl⟩
theorem OT.up(k:OT c l d R)(g:l<=l')(m:l'<=LM):OT c l' d R:=by
 rcases k with e|⟨p,k⟩
 . exact .inl e
 . exact .inr ⟨p,k.up g m⟩
theorem OT.in(h:c.Ok)(k:OT c l d R):c.In l R:=by
 rcases k with⟨_,rfl⟩|⟨p,k⟩
 . exact λ_ m=>nomatch m
 . exact k.in h
def Ks(h:c.Ok)(k:OT c l d R):RE (yV [(true,d)]) (.int R.length):=by
 rcases k with⟨rfl,rfl⟩|⟨p,k⟩
 . exact zG rfl<|zp<|U1 (zC (zY (z:=.bl true) (za (i:=0) rfl) zb rfl rfl) rfl)<|WD.e zb
 . exact zG rfl<|zp<|Pm (k.isN h<|za (i:=0) rfl)<|WD.e<|k.size h<|za (i:=0) rfl
def pJ(h:c.Ok)(k:OT c l d R):RE (Gm [(true,c.w),(true,d)]) (vD<|c.h R):=by
 rcases k with⟨rfl,rfl⟩|⟨p,k⟩
 . exact zG rfl<|zp<|U1 (zC (zY (z:=.bl true) (za (i:=1) rfl) zb rfl rfl) rfl)<|cc h<|za (i:=0) rfl
 . exact zG rfl<|zp<|Pm (k.isN h<|za (i:=1) rfl)<|WD.e<|k.whole h<|za (i:=1) rfl
def i_(h:c.Ok)(k:OT c l d R)(hl:R.length<=1000):RE (UX [(true,c.w),(true,d)]) (zH R):=by
 rcases k with⟨rfl,rfl⟩|⟨p,k⟩
 . exact oQ
 . exact kM h k hl
def vM{as:AS}{j:Nat}{i:Int}{ds:List D}{z:D}(h:as[j]? = some (sT<|.tup ds))(hz:zZ (.tup ds) (.int i)=some (.im z)):WD (f2 (fV j) (fC<|.int i) zZ) as true z:=Aj (za h) zb hz
end
def Lg(p n:Nat):Prop:=n<=2 ^ p/\(p=0\/2 ^ (p-1)<n)
def lE{p q a b:Nat}(ha:1<=a)(h1:a<=b)(h2:b<=a+1)(hp:Lg p a)(hq:Lg q b):p<=q/\q<=p+1/\Lg (1+max p q) (a+b):=by
 obtain⟨p1,p2⟩:=hp;obtain⟨q1,q2⟩:=hq;have e1:p<=q:=by
  rcases p2 with p2|p2
  . omega
  . refine Nat.le_of_not_lt λh=>?_;have:=Nat.pow_le_pow_right (n:=2) (by decide) (show q<=p-1 by omega);omega
 have e2:q<=p+1:=by
  rcases q2 with q2|q2
  . omega
  . refine Nat.le_of_not_lt λh=>?_;have:=Nat.pow_le_pow_right (n:=2) (by decide) (show p+1<=q-1 by omega);rw[Nat.pow_succ]at this;omega
 refine⟨e1,e2, ?_⟩;rw[Nat.max_eq_right e1];refine⟨?_,.inr ?_⟩
 . rw[Nat.add_comm 1 q,Nat.pow_succ];omega
 . rw[show 1+q-1=q by omega]
   rcases q2 with q2|q2
   . subst q2;show 1<a+b;omega
   . obtain⟨r,rfl⟩:∃r,q=r+1:=⟨q-1,by
      have:q≠0:=λz=>by subst z;have:(2:Nat) ^ (0-1)=1:=rfl;have z1:b<=1:=q1;omega
      omega⟩
     rw[Nat.add_sub_cancel]at q2;rw[Nat.pow_succ];omega
def Lr{f:EF}{as:AS}{y:D}{fl fh:OF}{lo hi:Option Int}{zs:List D}(ha:WD f as true y)(hl:fl as=some (lo,as))(hh:fh as=some (hi,as))(hg:Ql y lo hi=some (.fl zs)):WE (V1 f fl fh Ql) as (.lst zs):=by
 refine⟨.nd .ls<|zs.map<|O.lf true, ?_,NA zs,congrArg D.lst<|N6 zs⟩;unfold WD at ha;unfold V1;rw[ha];show((fl as).bind _)=_;rw[hl];show((fh as).bind _)=_;rw[hh];show((Ql y lo hi).bind _)=_;rw[hg];show(if(zs.all zu||(some true).isSome)=true then some (RV.ow<|.nd .ls<|zs.map<|sk true)else none:Option RV).bind _=_;rw[if_pos (by simp),KJ];rfl
section
variable{c:Cx}{x y d:D}{r s R:List (List Pt)}{p q l l' b:Nat}
theorem HC(h:c.Ok)(hL:l<=LM):∀(k:Nat) (r:List (List Pt)),1<=r.length->r.length<=2 ^ k->r.length<=1000->c.In l r->∃d p,RE (yM (k+1) [(true,c.w),(true,zH r)]) d/\TK c l d r p/\Lg p r.length
 |k,r,h1,h2,hk,hv=>by
  have wl:∀z,WD (fP yI z_) [sT c.w,sT<|zH r,z] true (.int r.length):=λz=>by
   have:=yT (as:=[sT c.w,sT<|zH r,z]) (g:=z_) (x:=.int ((r.map vD).length:Nat)) (zh (za (i:=1) (x:=zH r) rfl) zv) rfl rfl;rw[zzB]at this;exact this
  have t0:WT (fT<|f2 (fP yI z_) zM<|zo .Eq) [sT c.w,sT<|zH r,none] false:=zC (Yo (c:=false) (wl _) zb (by show some ((r.length:Int)==0)=_;rw[beq_eq_false_iff_ne.mpr<|by omega])) rfl;have t1:WT (fT<|f2 (fP yI z_) zV<|zo .Eq) [sT c.w,sT<|zH r,none] (decide (r.length=1)):=zC (Yo (c:=decide (r.length=1)) (wl _) zb (by
   show some ((r.length:Int)==1)=_
   by_cases h:r.length=1
   . rw[h];rfl
   . rw[beq_eq_false_iff_ne.mpr (by omega),zyG h])) rfl
  by_cases hr:r.length=1
  . rw[zyO hr]at t1
    match r,hr with
    | [v],_=>
     exact⟨_,0,zG rfl<|zj (zq t0 rfl)<|yi<|yJ t1<|zp<|Xq (wG (WD.e<|za (i:=1) rfl) (WD.e zb) rfl) DJ,.lf v false (hv v zzF) hL,⟨zzN _,.inl rfl⟩⟩
  . rw[zyG hr]at t1;cases k with
    |zero=>exact absurd (show r.length<=1 from h2) (by omega)
    |succ k=>
     rw[Nat.pow_succ]at h2;have s3:zE true 2 (f2 (fP yI z_) Zl yf) [sT c.w,sT<|zH r,none]=some (.nx [sT c.w,sT<|zH r,sI ((r.length/2:Nat):Int)]):=yQ (i:=2) (WB (wl none) (zb (x:=.int 2)) (by decide)<|yu (by decide)<|by decide)<|zk rfl;have l1:(r.take<|r.length/2).length=r.length/2:=by rw[zzS];omega
     have l2:(r.drop<|r.length/2).length=r.length-r.length/2:=List.length_drop;obtain⟨x,p,a1,a2,a3⟩:=HC h hL k (r.take<|r.length/2) (by omega) (by omega) (by omega) λv mv=>hv v<|List.mem_of_mem_take mv;obtain⟨y,q,b1,b2,b3⟩:=HC h hL k (r.drop<|r.length/2) (by omega) (by omega) (by omega) λv mv=>hv v<|List.mem_of_mem_drop mv;rw[l1]at a3;rw[l2]at b3;obtain⟨q1,q2,q3⟩:=lE (by omega) (by omega) (by omega) a3 b3;obtain⟨d,d1,d2⟩:=vV h a2 b2 (by omega) (by omega);have sp:(r.map vD)=(r.take<|r.length/2).map vD++(r.drop<|r.length/2).map vD:=by rw[<-zyM,List.take_append_drop]
     have c1:=s_ (xs:=(r.take<|r.length/2).map vD) (ys:=(r.drop<|r.length/2).map vD);have c2:=CG (xs:=(r.take<|r.length/2).map vD) (ys:=(r.drop<|r.length/2).map vD);rw[<-sp,zzB,l1]at c1 c2;have w1:WE (V1 zi oN (oS zA) Ql) [sT c.w,sT<|zH r,sI ((r.length/2:Nat):Int)] (zH<|r.take<|r.length/2):=Lr (za (i:=1) rfl) rfl rfl c1;have w2:WE (V1 zi (oS zA) oN Ql) [sT c.w,sT<|zH r,sI ((r.length/2:Nat):Int)] (zH<|r.drop<|r.length/2):=Lr (za (i:=1) rfl) rfl rfl c2;have wy:WE zl [sT c.w,sT<|zH r,sI ((r.length/2:Nat):Int)] c.w:=WD.e<|za (i:=0) rfl;rw[List.take_append_drop]at d2;exact⟨d,_,zG rfl<|zj (zq t0 rfl)<|zj (zq t1 rfl)<|zj s3<|zp<|zQ wy (y9 wy w1 a1) (y9 wy w2 b1) d1,d2,by rw[show r.length/2+(r.length-r.length/2)=r.length by omega]at q3;exact q3⟩
def qx(h:c.Ok)(hL:l<=LM)(hl:r.length<=1000)(hv:c.In l r):∃d,RE (yM 20 [(true,c.w),(true,zH r)]) d/\OT c l d r:=by
 by_cases e:r=[]
 . subst e;exact⟨.non,zG rfl<|yi<|yJ (zC (Yo (c:=true) (yT (x:=.int 0) (g:=z_) (zh (za (i:=1) rfl) zv) rfl rfl) zb rfl) rfl)<|zp<|WD.e zb,.n⟩
 . obtain⟨d,p,a,b,_⟩:=HC h hL 19 r (List.length_pos_iff.mpr e) (zzO hl<|by decide) hl hv;exact⟨d,a,b.o⟩
def fE(h:c.Ok){a b:EF}{as:AS}(k:TK c l x r p)(k':TK c l y s q)(ha:WD a as true x)(hb:WD b as true y):WT (fT<|f2 (f1 a<|zJ yr "deep") (f2 (f1 b<|zJ yr "deep") zV zt)<|zo .Gt) as (decide (q+1<p)):=by
 have:=zC (DM (k.deep h ha)<|yA (k'.deep h hb)<|zb (x:=.int 1)) rfl;rw[show decide ((q:Int)+1<p)=decide (q+1<p)from decide_eq_decide.mpr<|by omega]at this;exact this
def cG(h:c.Ok){a b:EF}{as:AS}(k:TK c l x r p)(k':TK c l y s q)(ha:WD a as true x)(hb:WD b as true y):WT (fT<|f2 (f1 a<|zJ yr "deep") (f1 b<|zJ yr "deep")<|zo .GtE) as (decide (q<=p)):=by
 have:=zC (t7 (k.deep h ha)<|k'.deep h hb) rfl;rw[show decide ((q:Int)<=p)=decide (q<=p)from decide_eq_decide.mpr<|by omega]at this;exact this
def oj(h:c.Ok)(k:TK c l x r p)(k':TK c l y s q)(hl:r.length+s.length<=1000)(e:p=q+2):∃d u,RE (Vt [(true,c.w),(true,x),(true,y)]) d/\TK c l d (r++s) u/\p<=u/\u<=p+1:=by
 obtain⟨x1,x2,r1,r2,p1,p2,k0,k1,k2,k3,k4,k5,rfl⟩:=Wl h k (by omega) (by omega);rw[zzJ]at hl;have wy:∀a b,WE zl [sT c.w,sT x,sT y,a,b] c.w:=λ_ _=>WD.e<|za (i:=0) rfl;have v2:∀a b,WE zA [sT c.w,sT x,sT y,a,b] y:=λ_ _=>WD.e<|za (i:=2) rfl;have s3:=xo (p:=3) (y9 (wy none none) (WD.e<|za (i:=1) rfl) k0)<|zk rfl;have u0:∀b,WD (f2 zU zM zZ) [sT c.w,sT x,sT y,sT<|.tup [x1,x2],b] true x1:=λ_=>vM (j:=3) rfl rfl;have u1:∀b,WD (f2 zU zV zZ) [sT c.w,sT x,sT y,sT<|.tup [x1,x2],b] true x2:=λ_=>vM (j:=3) rfl rfl;have t:=cG h k1 k2 (u0 none)<|u1 none
 by_cases g:p2<=p1
 . rw[zyO g]at t;obtain⟨d1,a1,a2⟩:=vV h k2 k' (by omega) (by omega);obtain⟨d2,b1,b2⟩:=vV h k1 a2 (by omega) (by omega);rw[<-zxB]at b2;exact⟨d2,_,zG rfl<|zj s3<|yi<|yJ t<|zp<|zQ (wy _ _) (WD.e<|u0 _) (zQ (wy _ _) (WD.e<|u1 _) (v2 _ _) a1) b1,b2,by omega,by omega⟩
 . rw[zyG g]at t;obtain⟨z1,z2,s1,s2,q1,q2,l0,l1,l2,l3,l4,l5,rfl⟩:=Wl h k2 (by omega) (by omega);rw[zzJ]at hl;obtain⟨d1,a1,a2⟩:=vV h k1 l1 (by omega) (by omega);obtain⟨d2,b1,b2⟩:=vV h l2 k' (by omega) (by omega);obtain⟨d3,c1,c2⟩:=vV h a2 b2 (by omega) (by omega);have s4:=xo (p:=4) (y9 (wy _ _) (WD.e<|u1 none) l0)<|zk rfl;rw[show r1++s1++(s2++s)=r1++(s1++s2)++s by simp only[zxB]]at c2;exact⟨d3,_,zG rfl<|zj s3<|zj (zq t rfl)<|zj s4<|zp<|zQ (wy _ _) (zQ (wy _ _) (WD.e<|u0 _) (WD.e<|vM (j:=4) rfl rfl) a1) (zQ (wy _ _) (WD.e<|vM (j:=4) rfl rfl) (v2 _ _) b1) c1,c2,by omega,by omega⟩
def si(h:c.Ok)(k:TK c l x r p)(k':TK c l y s q)(hl:r.length+s.length<=1000)(e:q=p+2):∃d u,RE (WU [(true,c.w),(true,x),(true,y)]) d/\TK c l d (r++s) u/\q<=u/\u<=q+1:=by
 obtain⟨x1,x2,r1,r2,p1,p2,k0,k1,k2,k3,k4,k5,rfl⟩:=Wl h k' (by omega) (by omega);rw[zzJ]at hl;have wy:∀a b,WE zl [sT c.w,sT x,sT y,a,b] c.w:=λ_ _=>WD.e<|za (i:=0) rfl;have v1:∀a b,WE zi [sT c.w,sT x,sT y,a,b] x:=λ_ _=>WD.e<|za (i:=1) rfl;have s3:=xo (p:=3) (y9 (wy none none) (WD.e<|za (i:=2) rfl) k0)<|zk rfl;have u0:∀b,WD (f2 zU zM zZ) [sT c.w,sT x,sT y,sT<|.tup [x1,x2],b] true x1:=λ_=>vM (j:=3) rfl rfl;have u1:∀b,WD (f2 zU zV zZ) [sT c.w,sT x,sT y,sT<|.tup [x1,x2],b] true x2:=λ_=>vM (j:=3) rfl rfl;have t:=cG h k2 k1 (u1 none)<|u0 none
 by_cases g:p1<=p2
 . rw[zyO g]at t;obtain⟨d1,a1,a2⟩:=vV h k k1 (by omega) (by omega);obtain⟨d2,b1,b2⟩:=vV h a2 k2 (by omega) (by omega);rw[zxB]at b2;exact⟨d2,_,zG rfl<|zj s3<|yi<|yJ t<|zp<|zQ (wy _ _) (zQ (wy _ _) (v1 _ _) (WD.e<|u0 _) a1) (WD.e<|u1 _) b1,b2,by omega,by omega⟩
 . rw[zyG g]at t;obtain⟨z1,z2,s1,s2,q1,q2,l0,l1,l2,l3,l4,l5,rfl⟩:=Wl h k1 (by omega) (by omega);rw[zzJ]at hl;obtain⟨d1,a1,a2⟩:=vV h k l1 (by omega) (by omega);obtain⟨d2,b1,b2⟩:=vV h l2 k2 (by omega) (by omega);obtain⟨d3,c1,c2⟩:=vV h a2 b2 (by omega) (by omega);have s4:=xo (p:=4) (y9 (wy _ _) (WD.e<|u0 none) l0)<|zk rfl;rw[show r++s1++(s2++r2)=r++(s1++s2++r2) by simp only[zxB]]at c2;exact⟨d3,_,zG rfl<|zj s3<|zj (zq t rfl)<|zj s4<|zp<|zQ (wy _ _) (zQ (wy _ _) (v1 _ _) (WD.e<|vM (j:=4) rfl rfl) a1) (zQ (wy _ _) (WD.e<|vM (j:=4) rfl rfl) (WD.e<|u1 _) b1) c1,c2,by omega,by omega⟩
def Dl(h:c.Ok)(k:TK c l x r p)(k':TK c l y s q)(hl:r.length+s.length<=1000)(h1:p<=q+2)(h2:q<=p+2):∃d u,RE (KF [(true,c.w),(true,x),(true,y)]) d/\TK c l d (r++s) u/\max p q<=u/\u<=1+max p q/\(p<=q+1->q<=p+1->u=1+max p q):=by
 have v1:WD zi [sT c.w,sT x,sT y] true x:=za (i:=1) rfl;have v2:WD zA [sT c.w,sT x,sT y] true y:=za (i:=2) rfl;have wy:WE zl [sT c.w,sT x,sT y] c.w:=WD.e<|za (i:=0) rfl;have t1:=fE h k k' v1 v2;have t2:=fE h k' k v2 v1
 by_cases g:q+1<p
 . rw[zyO g]at t1;obtain⟨d,u,a,b,b1,b2⟩:=oj h k k' hl (by omega);exact⟨d,u,zG rfl<|yi<|yJ t1<|zp<|zQ wy (WD.e v1) (WD.e v2) a,b,by omega,by omega,by omega⟩
 . rw[zyG g]at t1
   by_cases g2:p+1<q
   . rw[zyO g2]at t2;obtain⟨d,u,a,b,b1,b2⟩:=si h k k' hl (by omega);exact⟨d,u,zG rfl<|zj (zq t1 rfl)<|yi<|yJ t2<|zp<|zQ wy (WD.e v1) (WD.e v2) a,b,by omega,by omega,by omega⟩
   . rw[zyG g2]at t2;obtain⟨d,a,b⟩:=vV h k k' (by omega) (by omega);exact⟨d,_,zG rfl<|zj (zq t1 rfl)<|zj (zq t2 rfl)<|zp<|zQ wy (WD.e v1) (WD.e v2) a,b,by omega,by omega,λ_ _=>rfl⟩
theorem JV(h:c.Ok):∀(n:Nat) {x y:D}{r s:List (List Pt)}{p q:Nat},TK c l x r p->TK c l y s q->r.length+s.length<=1000->p<n->q<n->∃d u,RE (zD n [(true,c.w),(true,x),(true,y)]) d/\TK c l d (r++s) u/\max p q<=u/\u<=1+max p q
 |0,_,_,_,_,_,_,_,_,_,h,_=>absurd h (Nat.not_lt_zero _)
 |n+1,x,y,r,s,p,q,k,k',hl,hp,hq=>by
  have v1:∀a,WD zi [sT c.w,sT x,sT y,a] true x:=λ_=>za (i:=1) rfl;have v2:∀a,WD zA [sT c.w,sT x,sT y,a] true y:=λ_=>za (i:=2) rfl;have wy:∀a,WE zl [sT c.w,sT x,sT y,a] c.w:=λ_=>WD.e<|za (i:=0) rfl;have t1:=fE h k k' (v1 none)<|v2 none;have t2:=fE h k' k (v2 none)<|v1 none;have n1:=k.isN h<|v1 none;have n2:=k'.isN h<|v2 none
  by_cases g:q+1<p
  . rw[zyO g]at t1;obtain⟨x1,x2,r1,r2,p1,p2,k0,k1,k2,k3,k4,k5,rfl⟩:=Wl h k (by omega) (by omega);rw[zzJ]at hl;obtain⟨d,u,a1,a2,a3,a4⟩:=JV h n k2 k' (by omega) (by omega) (by omega);obtain⟨d',u',b1,b2,b3,b4,b5⟩:=Dl h k1 a2 (by rw[zzJ];omega) (by omega) (by omega);have s3:=xo (p:=3) (y9 (wy none) (WD.e<|v1 _) k0)<|zk rfl;rw[<-zxB]at b2;exact⟨d',u',zG rfl<|zj (zq n1 rfl)<|zj (zq n2 rfl)<|yi<|yJ t1<|zj s3<|zp<|zQ (wy _) (WD.e<|vM (j:=3) rfl rfl) (zQ (wy _) (WD.e<|vM (j:=3) rfl rfl) (WD.e<|v2 _) a1) b1,b2,by omega,by omega⟩
  . rw[zyG g]at t1
    by_cases g2:p+1<q
    . rw[zyO g2]at t2;obtain⟨x1,x2,r1,r2,p1,p2,k0,k1,k2,k3,k4,k5,rfl⟩:=Wl h k' (by omega) (by omega);rw[zzJ]at hl;obtain⟨d,u,a1,a2,a3,a4⟩:=JV h n k k1 (by omega) (by omega) (by omega);obtain⟨d',u',b1,b2,b3,b4,b5⟩:=Dl h a2 k2 (by rw[zzJ];omega) (by omega) (by omega);have s3:=xo (p:=3) (y9 (wy none) (WD.e<|v2 _) k0)<|zk rfl;rw[zxB]at b2;exact⟨d',u',zG rfl<|zj (zq n1 rfl)<|zj (zq n2 rfl)<|zj (zq t1 rfl)<|yi<|yJ t2<|zj s3<|zp<|zQ (wy _) (zQ (wy _) (WD.e<|v1 _) (WD.e<|vM (j:=3) rfl rfl) a1) (WD.e<|vM (j:=3) rfl rfl) b1,b2,by omega,by omega⟩
    . rw[zyG g2]at t2;obtain⟨d,a,b⟩:=vV h k k' (by omega) (by omega);exact⟨d,_,zG rfl<|zj (zq n1 rfl)<|zj (zq n2 rfl)<|zj (zq t1 rfl)<|zj (zq t2 rfl)<|zp<|zQ (wy _) (WD.e<|v1 _) (WD.e<|v2 _) a,b,by omega,by omega⟩
def ID(h:c.Ok)(k:OT c l x r)(k':OT c l y s)(hl:r.length+s.length<=1000):∃d,RE (zD 20 [(true,c.w),(true,x),(true,y)]) d/\OT c l d (r++s):=by
 have wN:WT (fT<|f2 zi (fC .non)<|zo .Is) [sT c.w,sT .non,sT y,none] true:=zC (zY (za (i:=1) rfl) zb rfl rfl) rfl
 rcases k with⟨rfl,rfl⟩|⟨p,k⟩
 . exact⟨y,zG rfl<|yi<|yJ wN<|zp<|WD.e<|za (i:=2) rfl,k'⟩
 rcases k' with⟨rfl,rfl⟩|⟨q,k'⟩
 . refine⟨x,zG rfl<|zj (zq (k.isN h<|za (i:=1) rfl) rfl)<|yi<|yJ (zC (zY (za (i:=2) rfl) zb rfl rfl) rfl)<|zp<|WD.e<|za (i:=1) rfl, ?_⟩;rw[zyE];exact k.o
 . obtain⟨d,u,a,b,_⟩:=JV h 20 k k' hl (k.lt<|by omega) (k'.lt<|by omega);exact⟨d,a,b.o⟩
end
section
variable{c:Cx}{x y d:D}{r s R:List (List Pt)}{p q l l' b:Nat}
def TK.one(k:TK c l d R 0):R.length=1:=by
 generalize e:(0:Nat)=p at k;cases k with
 |lf=>rfl
 |nd=>omega
theorem HQ(h:c.Ok):∀(n:Nat) {d:D}{R:List (List Pt)}{p:Nat}(i:Nat),TK c l d R p->p<n->R.length<=1000->i<=R.length->∃a b,RE (yD n [(true,c.w),(true,d),(true,.int i)]) (.tup [a,b])/\OT c l a (R.take i)/\OT c l b (R.drop i)
 |0,_,_,_,_,_,h,_,_=>absurd h (Nat.not_lt_zero _)
 |n+1,d,R,p,i,k,hp,hl,hi=>by
  have v1:∀a b e,WD zi [sT c.w,sT d,sI i,a,b,e] true d:=λ_ _ _=>za (i:=1) rfl;have v2:∀a b e,WD zA [sT c.w,sT d,sI i,a,b,e] true (.int i):=λ_ _ _=>za (i:=2) rfl;have wy:∀a b e,WE zl [sT c.w,sT d,sI i,a,b,e] c.w:=λ_ _ _=>WD.e<|za (i:=0) rfl;have eqN:∀{f g:EF}{as:AS}{a b:Nat},WD f as true (.int a)->WD g as true (.int b)->WT (fT<|f2 f g<|zo .Eq) as (decide (a=b)):=λ{f g as a b} h1 h2=>zC (Yo (c:=decide (a=b)) h1 h2 (by
   show some ((a:Int)==b)=_
   by_cases z:a=b
   . subst z;rw[zyO rfl,beq_self_eq_true]
   . rw[zyG z,beq_eq_false_iff_ne.mpr<|by omega])) rfl
  have t1:=eqN (v2 none none none)<|zb (x:=.int (0:Nat));have t2:=eqN (v2 none none none)<|k.size h<|v1 none none none
  by_cases e0:i=0
  . rw[zyO e0]at t1;subst e0;exact⟨.non,d,zG rfl<|yi<|yJ t1<|zp<|ZU (WD.e zb)<|WD.e<|v1 _ _ _,.n,k.o⟩
  rw[zyG e0]at t1
  by_cases e1:i=R.length
  . rw[zyO e1]at t2;refine⟨d,.non,zG rfl<|zj (zq t1 rfl)<|yi<|yJ t2<|zp<|ZU (WD.e<|v1 _ _ _)<|WD.e zb, ?_, ?_⟩
    . rw[e1,List.take_length];exact k.o
    . rw[e1,List.drop_length];exact .n
  rw[zyG e1]at t2;have p0:p≠0:=λz=>by subst z;have:=k.one;omega
  obtain⟨x,y,r,s,u,v,k0,k1,k2,_,_,rfl,rfl⟩:=Wl h k p0 hl;rw[zzJ]at hl hi e1;have s3:=xo (p:=3) (y9 (wy none none none) (WD.e<|v1 _ _ _) k0)<|zk rfl;have u0:∀b e,WD (f2 zU zM zZ) [sT c.w,sT d,sI i,sT<|.tup [x,y],b,e] true x:=λ_ _=>vM (j:=3) rfl rfl;have u1:∀b e,WD (f2 zU zV zZ) [sT c.w,sT d,sI i,sT<|.tup [x,y],b,e] true y:=λ_ _=>vM (j:=3) rfl rfl;have s4:=yQ (i:=4) (st:=true) (k1.size h<|u0 none none)<|zk rfl;have v4:∀e,WD zN [sT c.w,sT d,sI i,sT<|.tup [x,y],sI r.length,e] true (.int r.length):=λ_=>za (i:=4) rfl;have t5:=zC (N8 (v2 (sT<|.tup [x,y]) (sI r.length) none)<|v4 none) rfl
  by_cases g:i<r.length
  . rw[zyO<|by omega]at t5;obtain⟨a,b,a1,a2,a3⟩:=HQ h n i k1 (by omega) (by omega) (by omega);obtain⟨f,f1,f2⟩:=ID h a3 k2.o (by rw[List.length_drop];omega);have s5:=xo (p:=5) (zQ (wy _ _ _) (WD.e<|u0 (sI r.length) none) (WD.e<|v2 _ _ _) a1)<|zk rfl;refine⟨a,f,zG rfl<|zj (zq t1 rfl)<|zj (zq t2 rfl)<|zj s3<|zj s4<|yi<|yJ t5<|zj s5<|zp<|ZU (WD.e<|vM (j:=5) rfl rfl)<|zQ (wy _ _ _) (WD.e<|vM (j:=5) rfl rfl) (WD.e<|u1 _ _) f1, ?_, ?_⟩
    . rw[List.take_append_of_le_length<|by omega];exact a2
    . rw[List.drop_append_of_le_length<|by omega];exact f2
  . rw[zyG<|by omega]at t5;obtain⟨a,b,a1,a2,a3⟩:=HQ h n (i-r.length) k2 (by omega) (by omega) (by omega);obtain⟨f,f1,f2⟩:=ID h k1.o a2 (by rw[zzS];omega);have ws:=Xa (v2 (sT<|.tup [x,y]) (sI r.length) none)<|v4 none;rw[show(i:Int)-r.length=((i-r.length:Nat):Int) by omega]at ws;have s5:=xo (p:=5) (zQ (wy _ _ _) (WD.e<|u1 _ _) (WD.e ws) a1)<|zk rfl;refine⟨f,b,zG rfl<|zj (zq t1 rfl)<|zj (zq t2 rfl)<|zj s3<|zj s4<|zj (zq t5 rfl)<|zj s5<|zp<|ZU (zQ (wy _ _ _) (WD.e<|u0 _ _) (WD.e<|vM (j:=5) rfl rfl) f1)<|WD.e<|vM (j:=5) rfl rfl, ?_, ?_⟩
    . rw[List.take_append,List.take_of_length_le<|by omega];exact f2
    . rw[List.drop_append,List.drop_of_length_le (by omega),List.nil_append];exact a3
def Jw(h:c.Ok)(k:OT c l d R)(i:Nat)(hl:R.length<=1000)(hi:i<=R.length):∃a b,RE (yD 20 [(true,c.w),(true,d),(true,.int i)]) (.tup [a,b])/\OT c l a (R.take i)/\OT c l b (R.drop i):=by
 rcases k with⟨rfl,rfl⟩|⟨p,k⟩
 . cases Nat.le_zero.mp hi;exact⟨.non,.non,zG rfl<|yi<|yJ (zC (Yo (c:=true) (za (i:=2) rfl) zb rfl) rfl)<|zp<|ZU (WD.e zb)<|WD.e<|za (i:=1) rfl,.n,.n⟩
 . exact HQ h 20 i k (k.lt hl) hl hi
def ju(h:c.Ok){T:Wt}(hT:WO c.k c.n b T)(k:OT c l d R)(g:l+b<=LM)(hl:R.length<=1000):∃d',RE (vI [(true,c.w),(true,d),(true,wD T)]) d'/\OT c (l+b) d' (c.ap (some T) R):=by
 rcases k with⟨rfl,rfl⟩|⟨p,k⟩
 . exact⟨.non,zG rfl<|yi<|yJ (zC (zY (za (i:=1) rfl) zb rfl rfl) rfl)<|zp<|WD.e zb,.n⟩
 . obtain⟨d',a,b⟩:=O9 h hT k g hl;exact⟨d',a,b.o⟩
def qz(h:c.Ok)(k:OT c l d R):∃d',RE (xC [(true,c.w),(true,d)]) d'/\OT c l d' R.reverse:=by
 rcases k with⟨rfl,rfl⟩|⟨p,k⟩
 . exact⟨.non,zG rfl<|yi<|yJ (zC (zY (za (i:=1) rfl) zb rfl rfl) rfl)<|zp<|WD.e zb,.n⟩
 . obtain⟨d',a,b⟩:=Lm h k;exact⟨d',a,b.o⟩
end
def Oc{ns:List Int}{k:Int}(h0:0<=k)(h1:ns.length<=63):∃c:Int,yG [(true,.lst<|ns.map .int),(true,.int k)]=sI c:=by
 have wl:WD (fP BX z_) [sT<|.lst<|ns.map .int,sI k] true (.int ns.length):=yT (zh (za rfl) zv) (by show some (R0.im<|.int ((ns.map D.int).length:Nat))=_;rw[zzB]) rfl
 by_cases h:k<ns.length
 . have hk:k.toNat<ns.length:=by omega
   have e:=PN (xs:=ns.map D.int) (j:=k.toNat) (v:=D.int ns[k.toNat]) (by rw[zzI,zzE hk];rfl);rw[show((k.toNat:Nat):Int)=k by omega]at e;exact⟨_,vJ rfl<|G_<|WY (zC (N8 (za rfl) wl)<|congrArg some<|zyO h)<|wu<|zY (za (i:=0) rfl) (za (i:=1) rfl) (by show qM (C_ _ _)=_;rw[e];rfl) rfl⟩
 . exact⟨0,vJ rfl<|zL (zq (zC (N8 (za rfl) wl)<|congrArg some<|zyG h) rfl)<|wu zb⟩
abbrev Mx(x:Int):Prop:=0<=x/\x<2147483629
def qi{c k:Int}(k0:0<=k)(k1:k<100000):∃x:Int,Mx x/\W9 [(true,.int c),(true,.int k)]=sI x:=by
 have a0:=zyN c (show(2147483647:Int)≠0 by decide);have a1:=zyH c (show(0:Int)<2147483647 by decide);have kk:k*k<=100000*100000:=Int.mul_le_mul (by omega) (by omega) k0 (by decide);have kk0:0<=k*k:=Int.mul_nonneg k0 k0;have b0:=zyN (c%2147483647*48271+k*k*69621+7919) (show(2147483647:Int)≠0 by decide);have b1:=zyH (c%2147483647*48271+k*k*69621+7919) (show(0:Int)<2147483647 by decide);have bk:k.natAbs<big:=yu (by omega) (by omega);have bb:=yu (Int.lt_of_lt_of_le (by decide) b0) (Int.lt_trans b1<|by decide);refine⟨_,⟨zyN _ (by decide),zyH _<|by decide⟩,vJ rfl<|zL (yQ (i:=2) (Z6 (yA (yA (Yh (Z6 (za rfl) zb<|by decide) zb (yu (by omega)<|by omega)<|yu (by decide)<|by decide)<|Yh (Yh (za rfl) (za rfl) bk bk) zb (yu (by omega)<|by omega)<|yu (by decide)<|by decide) zb) zb<|by decide)<|zk rfl)
  (wu<|Z6 (yA (yA (Yh (za rfl) (za rfl) bb bb)<|Yh zb (za rfl) (yu (by decide)<|by decide) bb)<|za rfl) zb<|by decide)⟩
abbrev sB:SF:=(xD (fT<|f2 (f2 zl Zl yp) zM<|zo .Eq) (zx (yO<|Qj 2 (dC (f2 zU (fC<|.int 1000000007) yp) dN) W5)
 (zE true 3<|f2 zU (fC<|.int 1000000007) yf))<|yO<|Qj 2 (dC (zd (aC zU<|aC zN aN) W9) dN) W5)
def I0(ys:List Int)(w:Int):(ys++[w]).map Bz=ys.map Bz++[O.lf true<|.int w]:=by rw[zyM];rfl
theorem Gj{c:Int}{B:Option O}:∀(n:Nat) (k x:Int) (ys:List Int) (e4:Option O),0<=k->k+n<=1000->ys.length+n<=1000->(∀y ∈ ys,Mx y)->∃(x':Int) (zs:List Int) (e4':Option O),zs.length=ys.length+n/\(∀z ∈ zs,Mx z)/\
 forL Jh sB (Xl k n) [sI c,B,sN<|ys.map Bz,sI x,e4]=some (.nx [sI c,B,sN<|zs.map Bz,sI x',e4'])
 |0,k,x,ys,e4,_,_,_,h=>⟨x,ys,e4,rfl,h,rfl⟩
 |n+1,k,x,ys,e4,hk,hkn,hl,h=>by
  have hm:∀w:Int,Mx w->∀z ∈ ys++[w],Mx z:=λw hw z m=>by
   rcases zzM.mp m with m|m
   . exact h z m
   . rw[zzR.mp m];exact hw
  rw[Ng]
  by_cases h2:c%2=0
  . have w0:=zyN x (show(1000000007:Int)≠0 by decide);have w1:=zyH x (show(0:Int)<1000000007 by decide);obtain⟨x',zs,e4',z1,z2,z3⟩:=Gj (c:=c) (B:=B) n (k+1) (x/1000000007) (ys++[x%1000000007]) (sI k) (by omega) (by omega) (by rw[zzJ];show ys.length+1+n<=_;omega)<|hm _ ⟨w0,by omega⟩;refine⟨x',zs,e4',by rw[z1,zzJ];show ys.length+1+n=_;omega,z2, ?_⟩;rw[I0]at z3;exact wZ (as1:=[sI c,B,sN<|ys.map Bz,sI x,sI k]) rfl (WY (zC (Yo (Z6 (za rfl) zb<|by decide) zb rfl) (by show some (c%2==0)=_;simp[h2]))<|zL (Fz (i:=2) rfl (by rw[zzB];exact Wd<|by omega)<|Z6 (za rfl) zb<|by decide)<|yQ (i:=3) (WB (za rfl) zb (by decide)<|yu (by decide)<|by decide)<|zk rfl) z3
  . obtain⟨w,hw,em⟩:=qi (c:=x) (k:=k) hk (by omega);obtain⟨x',zs,e4',z1,z2,z3⟩:=Gj (c:=c) (B:=B) n (k+1) x (ys++[w]) (sI k) (by omega) (by omega) (by rw[zzJ];show ys.length+1+n<=_;omega)<|hm _ hw;refine⟨x',zs,e4',by rw[z1,zzJ];show ys.length+1+n=_;omega,z2, ?_⟩;rw[I0]at z3;exact wZ (as1:=[sI c,B,sN<|ys.map Bz,sI x,sI k]) rfl (zq (zC (Yo (Z6 (za rfl) zb<|by decide) zb rfl) (by show some (c%2==0)=_;simp[h2]))<|Fz (i:=2) rfl (by rw[zzB];exact Wd<|by omega)<|Pv (zh (za rfl)<|zh (za rfl) zv) em) z3
theorem Rq:∀xs:List Int,O.strs (xs.map Bz)=true/\O.toDs (xs.map Bz)=xs.map D.int
 | []=>⟨rfl,rfl⟩
 |x::r=>⟨(Rq r).1,congrArg (D.int x :: ·) (Rq r).2⟩
def Hk{c:Int}{m:Nat}(h1:m<=900):∃xs:List Int,xs.length=m/\(∀x ∈ xs,Mx x)/\RE (v_ [(true,.int c),(true,.int m)]) (.lst<|xs.map D.int):=by
 obtain⟨x',zs,e4,z1,z2,hf⟩:=Gj (c:=c) (B:=sI m) m 0 (c/2) [] none (by omega) (by omega) (by show 0+_<=_;omega) (λ_ m=>nomatch m);rw[List.length_nil,zyX]at z1;refine⟨zs,z1,z2,.nd .ls<|zs.map Bz, ?_,(Rq zs).1,congrArg D.lst (Rq zs).2⟩;refine vJ rfl<|zL (Vh (i:=2) (Gn xp<|Sz rfl)<|zk rfl)<|zL (yQ (i:=3) (WB (za rfl) zb (by decide)<|yu (by decide)<|by decide)<|zk rfl)<|zL (vC (Oz (zh (za rfl) zv) (by omega)<|by omega)<|by rw[zyI];exact hf) ?_;unfold zz;rw[show zA=fV 2 from rfl,Ek (i:=2) rfl];show(if(O.nd .ls<|zs.map Bz).str=true then some (O.nd .ls<|zs.map Bz)else none:Option O).bind _=_;rw[if_pos<|show(O.nd .ls<|zs.map Bz).str=true from(Rq zs).1];rfl
def Ho{f:EF}{as:AS}{ds:List D}(h:WE f as (.lst ds)):Mw f as=some (ds.map λd=>(true,d),as):=by
 obtain⟨o,h1,h2,h3⟩:=h;unfold Mw;rw[h1];show(Sw (o.str,o.toD)).bind _=_;rw[h2,h3];show some (kids true ds,as)=_;rw[Ly]
def FM(l:Bool)(p:Pt):Prop:=(p=none->l=true)/\∀i,p=some i -> -(10 ^ 61)<i/\i<10 ^ 61
def Hi{x:Int}(h:Mx x):∃i:Int,(-(10 ^ 61)<i/\i<10 ^ 61)/\ZT [(true,.int x)]=sI i:=by
 by_cases h3:x%4<3
 . exact⟨_,⟨by omega,by omega⟩,vJ rfl<|G_<|WY (zC (N8 (Z6 (za rfl) zb<|by decide) zb)<|congrArg some<|zyO h3)<|wu<|Xa (Z6 (WB (za rfl) zb (by decide)<|yu (by decide)<|by decide) zb<|by decide) zb⟩
 . have a0:=zyN (x/4*(10 ^ 59+9)) (show(2*10 ^ 60-1:Int)≠0 by decide);have a1:=zyH (x/4*(10 ^ 59+9)) (show(0:Int)<2*10 ^ 60-1 by decide);have hp:∀n:Nat,n<=1000->WD (f2 (fC<|.int 10) (fC<|.int n)<|W7 .Pow) [sI x] true (.int<|(10:Int) ^ n):=λn hn=>by
    have:=sd (as:=[sI x]) (zb (x:=.int 10)) (zb (x:=.int n)) ⟨by omega,by omega,by decide⟩;rw[zyI]at this;exact this
   refine⟨x/4*(10 ^ 59+9)%(2*10 ^ 60-1)-(10 ^ 60-1),⟨by omega,by omega⟩,vJ rfl<|zL (zq (zC (N8 (Z6 (za rfl) zb<|by decide) zb)<|congrArg some<|zyG h3) rfl)<|wu ?_⟩;exact Xa (Z6 (Yh (WB (za rfl) zb (by decide)<|yu (by decide)<|by decide) (yA (hp 59<|by decide) zb) (yu (by omega)<|by omega)<|yu (by decide)<|by decide) (Xa (Yh zb (hp 60<|by decide) (yu (by decide)<|by decide)<|yu (by decide)<|by decide) zb)<|by decide)<|Xa (hp 60<|by decide) zb
abbrev nB:SF:=(xD (Za (fT zA)<|fT<|f2 (f2 zN BS yp) zM<|zo .Eq) (yO<|Qj 3 (dC (fC .non) dN) W5)<|yO<|Qj 3 (dC (zd (aC (f2 zN BS yf) aN) ZT) dN) W5)
abbrev Gd(p:Pt):O:=.lf true<|pD p
theorem ZI:∀ps:List Pt,O.strs (ps.map Gd)=true/\O.toDs (ps.map Gd)=ps.map pD
 | []=>⟨rfl,rfl⟩
 |x::r=>⟨(ZI r).1,congrArg (pD x :: ·) (ZI r).2⟩
theorem N1{A B:Option O}{l:Bool}:∀(xs:List Int) (ps:List Pt) (e4:Option O),(∀x ∈ xs,Mx x)->ps.length+xs.length<=1000->(∀p ∈ ps,FM l p)->∃(qs:List Pt) (e4':Option O),qs.length=ps.length+xs.length/\(∀p ∈ qs,FM l p)/\
 forL Jh nB ((xs.map D.int).map λd=>(true,d)) [A,B,sT<|.bl l,sN<|ps.map Gd,e4]=some (.nx [A,B,sT<|.bl l,sN<|qs.map Gd,e4'])
 | [],ps,e4,_,_,h=>⟨ps,e4,rfl,h,rfl⟩
 |x::xs,ps,e4,hx,hl,h=>by
  rw[zzT]at hl;have hm:∀w:Pt,FM l w->∀z ∈ ps++[w],FM l z:=λw hw z m=>by
   rcases zzM.mp m with m|m
   . exact h z m
   . rw[zzR.mp m];exact hw
  have x0:=hx x zzF;have go:∀w:Pt,FM l w->nB [A,B,sT<|.bl l,sN<|ps.map Gd,sI x]=some (.nx [A,B,sT<|.bl l,sN<|ps.map Gd++[Gd w],sI x])->∃(qs:List Pt) (e4':Option O),qs.length=ps.length+(x::xs).length/\(∀p ∈ qs,FM l p)/\
   forL Jh nB (((x::xs).map D.int).map λd=>(true,d)) [A,B,sT<|.bl l,sN<|ps.map Gd,e4]=some (.nx [A,B,sT<|.bl l,sN<|qs.map Gd,e4']):=λw hw hb=>by
   obtain⟨qs,e4',q1,q2,q3⟩:=N1 (A:=A) (B:=B) (l:=l) xs (ps++[w]) (sI x) (λy m=>hx y<|zzD _ m) (by rw[zzJ];show ps.length+1+_<=_;omega)<|hm w hw;rw[zyM]at q3;refine⟨qs,e4',by simp only[zzJ,zzT,List.length_nil]at q1 ⊢;omega,q2, ?_⟩;exact wZ (as1:=[A,B,sT<|.bl l,sN<|ps.map Gd,sI x]) rfl hb q3
  have sl:(ps.map Gd).length<sizeLine:=by rw[zzB];exact Wd (by omega)
  by_cases hn:l=true/\x%5=0
  . refine go none ⟨λ_=>hn.1,λi e=>nomatch e⟩<|WY (W3 (k:=l) (zC (za rfl) rfl) (λ_=>zC (Yo (Z6 (za rfl) zb<|by decide) zb rfl) (by show some (x%5==0)=_;simp[hn.2])) λe=>by rw[hn.1]at e;cases e)<|Fz (i:=3) rfl sl zb
  . obtain⟨i,hi,em⟩:=Hi (x:=x/5) ⟨by omega,by omega⟩;refine go (some i) ⟨(λe=>nomatch e),λj e=>by cases e;exact hi⟩<|zq (W3 (k:=l) (zC (za rfl) rfl) (λe=>zC (Yo (Z6 (za rfl) zb<|by decide) zb rfl) (by show some (x%5==0)=_;simp;exact λz=>hn ⟨e,z⟩)) λ_=>rfl)<|Fz (i:=3) rfl sl<|Pv (zh (WB (za rfl) zb (by decide)<|yu (by decide)<|by decide) zv) em
def Gf{c:Int}{m:Nat}{l:Bool}(h1:m<=900):∃ps:List Pt,ps.length=m/\(∀p ∈ ps,FM l p)/\RE (w_ [(true,.int c),(true,.int m),(true,.bl l)]) (.lst<|ps.map pD):=by
 obtain⟨xs,x1,x2,x3⟩:=Hk (c:=c) (m:=m) h1;obtain⟨qs,e4,q1,q2,q3⟩:=N1 (A:=sI c) (B:=sI m) (l:=l) xs [] none x2 (by rw[List.length_nil];omega) (λ_ m=>nomatch m);rw[List.length_nil,zyX,x1]at q1;refine⟨qs,q1,q2,.nd .ls<|qs.map Gd, ?_,(ZI qs).1,congrArg D.lst (ZI qs).2⟩;have w:WE (zd (aC zl yI) v_) [sI c,sI m,sT<|.bl l,sN [],none] (.lst<|xs.map D.int):=y9 (WD.e<|za rfl) (WD.e<|za rfl) x3;refine vJ rfl<|zL (Vh (i:=3) (Gn xp<|Sz rfl)<|zk rfl)<|zL (vC (Ho w) q3) ?_;unfold zz;rw[show zU=fV 3 from rfl,Ek (i:=3) rfl];show(if(O.nd .ls<|qs.map Gd).str=true then some (O.nd .ls<|qs.map Gd)else none:Option O).bind _=_;rw[if_pos<|show(O.nd .ls<|qs.map Gd).str=true from(ZI qs).1];rfl
def Wx{f:EF}{as:AS}{s:Bool}{i:Int}(h:WD f as s (.int i)):oS f as=some (some i,as):=by
 unfold oS;unfold WD at h;rw[h];rfl
def fg(l:Bool)(w:Nat)(v:List Pt):Prop:=v.length=w/\∀p ∈ v,FM l p
def d8(l:Bool)(w:Nat)(R:List (List Pt))(m:List Pt):Prop:=R.length=w/\(∀r ∈ R,fg l w r)/\fg l w m
def rX{c:Int}{w:Nat}{l:Bool}(h1:w<=3):∃v:List Pt,fg l w v/\RE (RD [(true,.int c),(true,.int w),(true,.bl l)]) (vD v):=by
 obtain⟨ps,p1,p2,p3⟩:=Gf (c:=c) (m:=w) (l:=l) (by omega);refine⟨ps,⟨p1,p2⟩,zG rfl<|zp<|vF (zQ (WD.e<|za rfl) (WD.e<|za rfl) (WD.e<|za rfl) p3) ?_⟩;rfl
def lu{α:Type}(f:α->D)(l:List α)(i j:Nat)(hi:i<=l.length)(hj:j<=l.length):PF.cutD (l.map f) (some (i:Int)) (some (j:Int))=((l.drop i).take<|j-i).map f:=by
 unfold PF.cutD;rw[HT.PK,HT.PK,zzB,Nat.min_eq_left hi,Nat.min_eq_left hj,<-List.map_drop,<-List.map_take]
def dG{α:Type}(f:α->D)(l:List α)(i:Nat)(hi:i<=l.length):PF.cutD (l.map f) (some (i:Int)) none=(l.drop i).map f:=by
 unfold PF.cutD;rw[HT.PK,HT.Fo,zzB,Nat.min_eq_left hi,<-List.map_drop,<-List.map_take,List.take_of_length_le<|by rw[List.length_drop];omega]
def o9{c:Int}{w:Nat}{l:Bool}(w0:1<=w)(h1:w<=3):∃R m,d8 l w R m/\RE (Gq [(true,.int c),(true,.int w),(true,.bl l)]) (dD R m):=by
 obtain⟨ps,p1,p2,p3⟩:=Gf (c:=c) (m:=w*w+w) (l:=l) (by have:=Nat.mul_le_mul h1 h1;omega);have bw:((w:Nat):Int).natAbs<big:=yu (by omega) (by omega);have ww:WD (f2 zi zi zS) [sI c,sI w,sT<|.bl l,none,none] true (.int ((w*w:Nat):Int)):=by
  rw[zzV];exact Yh (za rfl) (za rfl) bw bw
 have s3:zE true 3 (zd (aC zl<|aC (f2 (f2 zi zi zS) zi zt) yt) w_) [sI c,sI w,sT<|.bl l,none,none]=some (.nx [sI c,sI w,sT<|.bl l,sT<|.lst<|ps.map pD,none]):=
  xo (p:=3) (zQ (WD.e<|za rfl) (WD.e<|by rw[Int.natCast_add];exact yA ww<|za rfl) (WD.e<|za rfl) p3) (zk rfl)
 have sub:∀i n,∀p ∈ (ps.drop i).take n,FM l p:=λi n p m=>p2 p<|List.mem_of_mem_drop<|List.mem_of_mem_take m;have wr:WE (yK (Xo yI Rc) [none,some 3,some 1] ZO YD<|fP (aC (V1 zi (oS<|f2 zl zA zS) (oS<|f2 (f2 zl zA zS) zA zt) Ql) aN) tupP) [sI c,sI w,sT<|.bl l,sT<|.lst<|ps.map pD,none] (.lst<|(List.range w).map λb=>vD<|(ps.drop<|b*w).take w):=by
  have hr:=Oz (as:=[sI c,sI w,sT<|.bl l,sT<|.lst<|ps.map pD,none]) (zh (za (i:=1) rfl) zv) (show(0:Int)<=(w:Nat) by omega) (by omega);rw[zyI,gC]at hr;refine ZF (List.range w) hr (by rw[zyU];omega) λb hb=>⟨[sI b,sT<|.lst<|ps.map pD,sI w],rfl, ?_⟩;have hb:=List.mem_range.mp hb;have hbw:b*w+w<=ps.length:=by
   rw[p1];have:(b+1)*w<=w*w:=Nat.mul_le_mul_right w (by omega);rw[Nat.add_mul,Nat.one_mul]at this;omega
  have wm:WD (f2 zl zA zS) [sI b,sT<|.lst<|ps.map pD,sI w] true (.int ((b*w:Nat):Int)):=by
   rw[zzV];exact Yh (za rfl) (za rfl) (yu (by omega)<|by omega) bw
  refine vF (M7 (lo:=some ((b*w:Nat):Int)) (hi:=some ((b*w+w:Nat):Int)) (zs:=((ps.drop<|b*w).take w).map pD) (WD.e<|za (i:=1) rfl) (Wx wm) (Wx<|by rw[Int.natCast_add];exact yA wm<|za rfl) ?_) rfl;show some (R0.fl<|PF.cutD (ps.map pD) _ _)=_;rw[lu pD ps (b*w) (b*w+w) (by omega) (by omega),Nat.add_sub_cancel_left]
 refine⟨(List.range w).map λb=>(ps.drop<|b*w).take w,ps.drop<|w*w,⟨by rw[zzB,zyU],λr m=>?_,⟨by rw[List.length_drop,p1];omega,λp m=>p2 p<|List.mem_of_mem_drop m⟩⟩, ?_⟩
 . obtain⟨b,hb,rfl⟩:=zxC.mp m;have hb:=List.mem_range.mp hb;refine⟨?_,sub _ _⟩;have:(b+1)*w<=w*w:=Nat.mul_le_mul_right w (by omega);rw[Nat.add_mul,Nat.one_mul]at this;rw[zzS,List.length_drop,p1];omega
 . rw[show(dD ((List.range w).map λb=>(ps.drop<|b*w).take w)<|ps.drop<|w*w) = .tup [.tup<|(List.range w).map λb=>vD<|(ps.drop<|b*w).take w,vD<|ps.drop<|w*w] by show D.tup [.tup<|List.map _<|List.map _ _,_]=_;rw[zyB];rfl];refine zG rfl<|zj s3<|zj (xo (p:=4) wr<|zk rfl)<|zp<|ZU (vF (WD.e<|za (i:=4) rfl) rfl)<|vF (M7 (lo:=some ((w*w:Nat):Int)) (hi:=none) (zs:=(ps.drop<|w*w).map pD) (WD.e<|za (i:=3) rfl) (Wx<|by rw[zzV];exact Yh (za rfl) (za rfl) bw bw) rfl ?_) rfl;show some (R0.fl<|PF.cutD (ps.map pD) _ _)=_;rw[dG pD ps (w*w)<|by omega]
def kg{k w:Nat}(hk:k<=2):RE (PL [(true,.int k),(true,.int w)]) (MZ k w):=by
 have t:∀j:Int,WT (fT<|f2 zl (fC<|.int j)<|zo .Eq) [sI k,sI w] (decide ((k:Int)=j)):=λj=>zC (Yo (za rfl) zb rfl) rfl
 by_cases h0:k=0
 . subst h0;exact zG rfl (yi<|yJ (t 0)<|zp<|Xq (WD.e<|za rfl)<|OU<|by decide +kernel)
 . by_cases h1:k=1
   . subst h1;exact zG rfl (zj (zq (t 0) rfl)<|yi<|yJ (t 1)<|zp<|Xq (WD.e<|za rfl)<|OU<|by decide +kernel)
   . have h2:k=2:=by omega
     subst h2;exact zG rfl (zj (zq (t 0) rfl)<|zj (zq (t 1) rfl)<|zp<|Xq (WD.e<|za rfl)<|OU<|by decide +kernel)
def n5{as:AS}{i:Nat}{os:List O}{b:EF}{y z:D}{g:D->D->Option R0}(h:as[i]? = some (sN os))(hb:WE b as y)(hg:g (.lst<|O.toDs os) y=some (.im z))(hz:zu z=true):WD (f2 (fV i) b g) as true z:=by
 obtain⟨o,h1,h2,rfl⟩:=hb;unfold WD f2;rw[Ek h];show(b as).bind _=_;rw[h1];show(RV.view as<|.bo i).bind _=_;rw[O4 h];show(g (.lst<|O.toDs os) o.toD).bind _=_;rw[hg];show(if(zu z||_)=true then some (RV.ow<|.lf (zu z||_) z)else none:Option RV).bind _=_;rw[hz,Bool.true_or,if_pos rfl,Bool.true_or];rfl
def DP{as:AS}{i:Nat}{os:List O}{z:D}{g:List D->Option R0}(h:as[i]? = some (sN os))(hg:g [.lst<|O.toDs os]=some (.im z))(hz:zu z=true):WD (fP (aC (fV i) aN) g) as true z:=by
 unfold WD fP aC;rw[Ek h];show((RV.view as<|.bo i).bind _:Option (List D×Option Bool)).bind _=_;rw[O4 h];show(g [.lst<|O.toDs os]).bind _=_;rw[hg];show(if(zu z||_)=true then some (RV.ow<|.lf (zu z||_) z)else none:Option RV).bind _=_;rw[hz,Bool.true_or,if_pos rfl,Bool.true_or];rfl
section
variable{k w:Nat}{r v m:List Pt}{R:List (List Pt)}{q:Pt}{n:Int}
theorem DV{A0 A1 A2 A3 A4 A8:Option O}:∀(l:List (Pt×Pt)) (a:Int) (e6 e7:Option O),(∀x ∈ l,x.1≠none/\x.2≠none/\Bg x.1/\Bg x.2)->∃e6' e7',forL (gT 2<|Wz (gN 6)<|Wz (gN 7) MV) (zE true 5<|f2 yC (f2 yz Ym zS) zt) (l.map λq=>(true,D.tup [pD q.1,pD q.2])) [A0,A1,A2,A3,A4,sI a,e6,e7,A8]=some (.nx [A0,A1,A2,A3,A4,sI<|a+(l.map λq=>q.1.getD 0*q.2.getD 0).sum,e6',e7',A8])
 | [],a,e6,e7,_=>⟨e6,e7,by show some (Out.nx _)=_;rw[List.map_nil,List.sum_nil,Int.add_zero]⟩
 |(p,q)::l,a,e6,e7,h=>by
  obtain⟨h1,h2,h3,h4⟩:=h (p,q) zzF;obtain⟨e6',e7',ih⟩:=DV (A0:=A0) (A1:=A1) (A2:=A2) (A3:=A3) (A4:=A4) (A8:=A8) l (a+p.getD 0*q.getD 0) (sT<|pD p) (sT<|pD q) λx m=>h x<|zzD _ m;refine⟨e6',e7', ?_⟩;rw[zyS,zyS,List.sum_cons,<-Int.add_assoc];refine wZ (as1:=[A0,A1,A2,A3,A4,sI a,sT<|pD p,sT<|pD q,A8]) (Gp (zk rfl)<|zk rfl) ?_ ih;cases p with
  |none=>exact absurd rfl h1
  |some x=>
   cases q with
   |none=>exact absurd rfl h2
   |some y=>exact yQ (i:=5) (yA (za rfl)<|Ea (za rfl) (za rfl) h3 h4) (zk rfl)
def C8(hk:k<=2)(hn:n.natAbs<bg)(or':Ok k r)(ov:Ok k v)(hq:Vl k q)(bq:k=0->Bg q):RE (xN [(true,.int k),(true,vD r),(true,pD q),(true,vD v),(true,.int n)]) (pD<|jn k (ac k r v)<|of k n q):=by
 have t:∀(as:AS) (j:Int),as[0]? = some (sI k)->WD (f2 zl (fC<|.int j)<|zo .Eq) as true (.bl<|decide ((k:Int)=j)):=λas j h=>Yo (za h) zb rfl;have hz:∀as:AS,as[1]? = some (sT<|vD r)->as[3]? = some (sT<|vD v)->Yn (aC zi ZR) as=some ((r.zip v).map λq=>(true,D.tup [pD q.1,pD q.2]),as):=λas h1 h3=>by rw[Wo (wE<|za h1) (wE<|za h3) (.t _)<|.t _,Bv]
 by_cases h0:k=0
 . subst h0;cases q with
   |none=>exact absurd rfl (hq rfl)
   |some y=>
    obtain⟨e6,e7,hf⟩:=DV (A0:=sI 0) (A1:=sT<|vD r) (A2:=sI y) (A3:=sT<|vD v) (A4:=sI n) (A8:=none) (r.zip v) (y*n) none none λx m=>⟨or'.vl _ (List.of_mem_zip m).1 rfl,ov.vl _ (List.of_mem_zip m).2 rfl,or'.bg rfl _ (List.of_mem_zip m).1,ov.bg rfl _ (List.of_mem_zip m).2⟩;have e:jn 0 (ac 0 r v) (of 0 n<|some y)=some (y*n+((r.zip v).map λq=>q.1.getD 0*q.2.getD 0).sum):=by
     rw[show ac 0 r v=_ from Ax r v,Int.add_comm];rfl
    rw[e];exact zG rfl<|yi<|yJ (zC (t _ 0 rfl) rfl)<|zj (yQ (i:=5) (Ea (za rfl) (za rfl) (bq rfl) hn)<|zk rfl)<|zj (vC (hz _ rfl rfl) hf)<|zp<|wE<|za rfl
 . have tk:decide ((k:Int)=0)=false:=zyG (by omega);obtain⟨os,o1,o2,o3⟩:=PB (gg:=gT 2<|Wz ZO<|Wz (gN 1) MV) (tt:=Za (fT<|f2 zl (fC .non)<|zo .IsNot)<|fT<|f2 zi (fC .non)<|zo .IsNot) (fe:=f2 zl zi zt) (as0:=[none,none]) (it:=λq:Pt×Pt=>(true,D.tup [pD q.1,pD q.2])) (p:=λq:Pt×Pt=>q.1.isSome&&q.2.isSome) (h:=λq:Pt×Pt=>D.int<|q.1.getD 0+q.2.getD 0) (r.zip v) λq hq=>⟨[sT<|pD q.1,sT<|pD q.2],Gp (zk rfl)<|zk rfl,W3 (zC (Z4<|za rfl) rfl) (λe=>by
    have:=zC (Z4 (as:=[sT<|pD q.1,sT<|pD q.2]) (a:=fV 1) (s:=true) (p:=q.2)<|za rfl) rfl;simp only[e,Bool.true_and];exact this) (λe=>by simp only[e,Bool.false_and]),λe=>by
    obtain⟨a,b⟩:=q;cases a with
    |none=>exact nomatch e
    |some a=>
     cases b with
     |none=>exact nomatch e
     |some b=>exact wE (yA (za rfl)<|za rfl)⟩
   have e3:O.toDs os=((List.zipWith (tm k) r v).filterMap id).map D.int:=by rw[o3,<-OP h0,zyB];rfl
   have hol:os.length<=1000:=by
    have:(O.toDs os).length=os.length:=ND os;rw[<-this,e3,zzB];exact zzO (List.length_filterMap_le _ _) (by rw[List.length_zipWith];have:=or'.len;omega)
   have s8:∀as:AS,as=[sI k,sT<|vD r,sT<|pD q,sT<|vD v,sI n,none,none,none,none]->zE false 8 (yK (Yn<|aC zi ZR) [none,none] (gT 2<|Wz ZO<|Wz (gN 1) MV) (Za (fT<|f2 zl (fC .non)<|zo .IsNot)<|fT<|f2 zi (fC .non)<|zo .IsNot)<|f2 zl zi zt) as=some (.nx [sI k,sT<|vD r,sT<|pD q,sT<|vD v,sI n,none,none,none,sN os]):=λas e=>by
    subst e;refine Vh (i:=8) ?_<|zk rfl;unfold yK;rw[hz _ rfl rfl];show(if(List.map _<|r.zip v).length<=sizeLine then _ else _)=_;rw[if_pos<|by rw[zzB,List.length_zip];exact pb<|by have:=or'.len;omega];show(XD _ _ _ [none,none] _).bind _=_;rw[o1];rfl
   have go:∀(os':List O) (l:List Int),O.toDs os'=l.map D.int->xD (fT<|f2 zA (fC .non)<|zo .IsNot) (yO<|Qj 8 (dC zA dN) W5) vB [sI k,sT<|vD r,sT<|pD q,sT<|vD v,sI n,none,none,none,sN os]=some (.nx [sI k,sT<|vD r,sT<|pD q,sT<|vD v,sI n,none,none,none,sN os'])->UR k l=jn k (ac k r v) (of k n q)->
    RE (xN [(true,.int k),(true,vD r),(true,pD q),(true,vD v),(true,.int n)]) (pD<|jn k (ac k r v)<|of k n q):=λos' l el hs eb=>by
    rw[<-eb];have tE:WT (fT<|f2 (fV 8) (x9 dN)<|zo .Eq) [sI k,sT<|vD r,sT<|pD q,sT<|vD v,sI n,none,none,none,sN os'] l.isEmpty:=zC (n5 (os:=os') (z:=.bl l.isEmpty) rfl (YU xp (Sz rfl) rfl rfl) (by
     rw[el];show(qF (Tu 59) (l.map D.int) []).bind _=_;cases l<;>rfl) rfl) rfl
    refine zG rfl<|zj (zq (zC (t _ 0 rfl)<|by rw[tk];rfl) rfl)<|zj (s8 _ rfl)<|zj hs ?_;cases l with
    |nil=>exact yi (yJ tE<|zp<|wE zb)
    |cons x l=>
     refine zj (zq tE rfl)<|zp ?_;have wmin:=DP (as:=[sI k,sT<|vD r,sT<|pD q,sT<|vD v,sI n,none,none,none,sN os']) (i:=8) (g:=Ij) rfl (by rw[el];exact Dv (k:=2) (by decide)<|by simp)<|M3 _;have wmax:=DP (as:=[sI k,sT<|vD r,sT<|pD q,sT<|vD v,sI n,none,none,none,sN os']) (i:=8) (g:=B9) rfl (by rw[el];exact Dg<|by simp)<|M3 _;have wi:WD (fP (aC (f2 zl zV<|zo .Eq) aN) U8) [sI k,sT<|vD r,sT<|pD q,sT<|vD v,sI n,none,none,none,sN os'] true (.int (if decide ((k:Int)=1)=true then 1 else 0)):=yT (zh (t _ 1 rfl) zv) rfl rfl;have hl:=wG (z:=pD<|UR k (x::l)) (g:=zZ) (YU (y4 wmin<|y4 wmax xp) (Sz rfl) rfl rfl) (wE wi) (by
      by_cases h1:k=1
      . subst h1;rfl
      . have:k=2:=by omega
        subst this;rfl)
     exact hl
   cases q with
   |none=>
    refine go os _ e3 (zq (zC (Z4 (p:=none)<|za rfl) rfl) rfl) ?_;rw[PJ h0,show of k n none=none from if_neg h0];show ac k r v=_;have:=(Fd (k:=k) (a:=ac k r v)<|CY k _).symm;rw[show ze k=none from if_neg h0]at this;exact this
   |some y=>
    refine go (os++[Bz y]) (((List.zipWith (tm k) r v).filterMap id)++[y]) (by rw[Cd,zyM,<-Cd,e3,zyM];rfl) (WY (zC (Z4 (p:=some y)<|za rfl) rfl)<|Fz (i:=8) rfl (Wd<|by omega)<|za rfl) ?_;rw[show(((List.zipWith (tm k) r v).filterMap id)++[y])=((List.zipWith (tm k) r v)++[some y]).filterMap id by rw[List.filterMap_append];rfl,PJ h0,show of k n (some y)=some y from if_neg h0];have app:∀l:List Pt,sm k (l++[some y])=jn k (sm k l) (some y):=λl=>by
     induction l with
     |nil=>show jn k (some y) (ze k)=jn k (ze k) (some y);rw[Oa]
     |cons a l ih=>show jn k a (sm k<|l++[some y])=jn k (jn k a<|sm k l) (some y);rw[ih,WC]
    exact app _
end
def J8{p:Pt}:xB [(true,pD p)]=sT (.bl p.isSome):=by
 cases p with
 |none=>exact vJ rfl (wu<|QY (k:=false) (Qu (za rfl) rfl) (λh=>nomatch h) λ_=>rfl)
 |some x=>exact vJ rfl (wu<|QY (k:=true) (Qu (za rfl) rfl) (λ_=>Aw (q:=false)<|Qu (za rfl) rfl) (λh=>nomatch h))
abbrev bD:SF:=(xD (Rg (Za (fT<|f2 zU (fC .non)<|zo .Is)<|fT<|f2 zA (fC .non)<|zo .IsNot)<|Rg (Za (fT<|f2 zU (fC .non)<|zo .IsNot)<|y_<|fT<|zd yt xB)<|fT<|f2 zA zU<|zo .NotEq) (zz<|fC<|.bl false) vB)
theorem tN{A B:Option O}:∀(l:List Pt) (e2 e3:Option O),∃e2' e3',forL (gT 2<|Wz (gN 2)<|Wz (gN 3) MV) bD ((l.zip l).map λq=>(true,D.tup [pD q.1,pD q.2])) [A,B,e2,e3]=some (.nx [A,B,e2',e3'])
 | [],e2,e3=>⟨e2,e3,rfl⟩
 |p::l,e2,e3=>by
  obtain⟨e2',e3',ih⟩:=tN (A:=A) (B:=B) l (sT<|pD p)<|sT<|pD p;refine⟨e2',e3',wZ (as1:=[A,B,sT<|pD p,sT<|pD p]) (Gp (zk rfl)<|zk rfl) (zq ?_ rfl) ih⟩;have a1:WT (fT<|f2 zU (fC .non)<|zo .Is) [A,B,sT<|pD p,sT<|pD p] p.isNone:=zC (Pc<|za rfl) rfl;have a2:WT (fT<|f2 zA (fC .non)<|zo .IsNot) [A,B,sT<|pD p,sT<|pD p] p.isSome:=zC (Z4<|za rfl) rfl;have a3:WT (fT<|f2 zU (fC .non)<|zo .IsNot) [A,B,sT<|pD p,sT<|pD p] p.isSome:=zC (Z4<|za rfl) rfl;have a4:WT (y_<|fT<|zd yt xB) [A,B,sT<|pD p,sT<|pD p] (!p.isSome):=xX<|zC (Fv (wE<|za rfl) J8) rfl;have a5:WT (fT<|f2 zA zU<|zo .NotEq) [A,B,sT<|pD p,sT<|pD p] false:=zC (Du (c:=true) (za rfl) (za rfl)<|by rw[iY];simp) rfl;refine Tf (k:=false) (W3 a1 (λe=>?_) λ_=>rfl) (λ_=>Tf (k:=false) (W3 a3 (λe=>?_) λ_=>rfl) (λ_=>a5) (λh=>nomatch h)) (λh=>nomatch h)
  . cases p with
    |none=>exact a2
    |some x=>exact nomatch e
  . cases p with
    |none=>exact nomatch e
    |some x=>exact a4
def tO{u:List Pt}(hl:u.length<=1000):Wp [(true,vD u),(true,vD u)]=sT (.bl true):=by
 obtain⟨e2,e3,hf⟩:=tN (A:=sT<|vD u) (B:=sT<|vD u) u none none;have wl:∀i:Nat,[sT<|vD u,sT<|vD u,none,none][i]? = some (sT<|vD u)->WD (fP (aC (fV i) aN) z_) [sT<|vD u,sT<|vD u,none,none] true (.int (u.map pD).length):=λi h=>yT (zh (za h) zv) rfl rfl;refine vJ rfl<|zL (zq (Tf (k:=false) (xX (c:=fT<|QE zl "tuple") (k:=true)<|zC (Qu (za rfl) rfl) rfl) (λ_=>zC (Du (c:=true) (wl 0 rfl) (wl 1 rfl) (by show some ((_:Int)==_)=_;simp)) rfl) (λh=>nomatch h)) rfl)<|zL (vC ?_ hf)<|wu zb;rw[Wo (wE<|za rfl) (wE<|za rfl) (.t _)<|.t _,Bv];rfl
section
variable{k w:Nat}{v m:List Pt}{R:List (List Pt)}{n:Int}
abbrev bF:SF:=(yO<|Qj 4 (dC (zd (aC zl<|aC yC<|aC yz<|aC zA ZR) xN) dN) W5)
def mI{a b c d e:EF}{as:AS}{x1 x2 x3 x4 x5 z:D}{g:List (Bool×D)->Option O}(ha:WE a as x1)(hb:WE b as x2)(hc:WE c as x3)(hd:WE d as x4)(he:WE e as x5)(hg:RE (g [(true,x1),(true,x2),(true,x3),(true,x4),(true,x5)]) z):WE (zd (aC a<|aC b<|aC c<|aC d<|aC e aN) g) as z:=by
 obtain⟨o,h1,h2,h3⟩:=hg;exact⟨o,YW (xu ha<|xu hb<|xu hc<|xu hd<|xu he zv) (by show g [(zu x1||true,x1),(zu x2||true,x2),(zu x3||true,x3),(zu x4||true,x4),(zu x5||true,x5)]=_;simp only[zyD];exact h1),h2,h3⟩
def rE{a b c d:EF}{as:AS}{x1 x2 x3 x4 z:D}{g:List (Bool×D)->Option O}(ha:WE a as x1)(hb:WE b as x2)(hc:WE c as x3)(hd:WE d as x4)(hg:RE (g [(true,x1),(true,x2),(true,x3),(true,x4)]) z):WE (zd (aC a<|aC b<|aC c<|aC d aN) g) as z:=by
 obtain⟨o,h1,h2,h3⟩:=hg;exact⟨o,YW (xu ha<|xu hb<|xu hc<|xu hd zv) (by show g [(zu x1||true,x1),(zu x2||true,x2),(zu x3||true,x3),(zu x4||true,x4)]=_;simp only[zyD];exact h1),h2,h3⟩
def Ck{o:O}{p:Pt}(h1:o.str=true)(h2:o.toD=pD p):o=Gd p:=by
 cases o with
 |lf s d=>
  have h1:s=true:=h1;have h2:d=pD p:=h2;rw[h1,h2]
 |nd kd os=>
  exfalso;cases kd<;>cases p<;>exact nomatch h2
theorem rJ(hk:k<=2)(hn:n.natAbs<bg)(ov:Ok k v){B1:Option O}:∀(l:List (List Pt×Pt)) (ps:List Pt) (e5 e6:Option O),ps.length+l.length<=1000->(∀x ∈ l,Ok k x.1/\Vl k x.2/\(k=0->Bg x.2))->
 ∃e5' e6',forL (gT 2<|Wz (gN 5)<|Wz (gN 6) MV) bF (l.map λq=>(true,D.tup [vD q.1,pD q.2])) [sI k,B1,sT<|vD v,sI n,sN<|ps.map Gd,e5,e6]=some (.nx [sI k,B1,sT<|vD v,sI n,sN<|(ps++l.map λx=>jn k (ac k x.1 v)<|of k n x.2).map Gd,e5',e6'])
 | [],ps,e5,e6,_,_=>⟨e5,e6,by rw[List.map_nil,List.map_nil,zyE];rfl⟩
 |(r,q)::l,ps,e5,e6,hl,h=>by
  obtain⟨h1,h2,h3⟩:=h (r,q) zzF;rw[zzT]at hl;have wc:WE (zd (aC zl<|aC yC<|aC yz<|aC zA ZR) xN) [sI k,B1,sT<|vD v,sI n,sN<|ps.map Gd,sT<|vD r,sT<|pD q] (pD<|jn k (ac k r v)<|of k n q):=
   mI (wE<|za rfl) (wE<|za rfl) (wE<|za rfl) (wE<|za rfl) (wE<|za rfl) (C8 hk hn h1 ov h2 h3)
  obtain⟨o,o1,o2,o3⟩:=nR (i:=4) rfl (by rw[zzB];exact Wd<|by omega) wc;rw[Ck o1 o2]at o3;obtain⟨e5',e6',i3⟩:=rJ hk hn ov (B1:=B1) l (ps++[jn k (ac k r v)<|of k n q]) (sT<|vD r) (sT<|pD q) (by rw[zzJ];show ps.length+1+_<=_;omega) λx m=>h x<|zzD _ m;rw[zxB,zyM]at i3;exact⟨e5',e6',wZ (as1:=[sI k,B1,sT<|vD v,sI n,sN<|ps.map Gd,sT<|vD r,sT<|pD q]) (Gp (zk rfl)<|zk rfl) o3 i3⟩
def pR(ps:List Pt):(ps.map Gd).all O.isLf=true:=by
 induction ps with
 |nil=>rfl
 |cons p r ih=>exact ih
def qf{as:AS}{i:Nat}{os:List O}{z:D}{g:List D->Option R0}(h:as[i]? = some (sN os))(hk:(O.nd .ls os).kl=some true)(hg:g [.lst<|O.toDs os]=some (.im z)):WE (fP (aC (fV i) aN) g) as z:=by
 refine⟨.lf (zu z||true) z, ?_,zyD _,rfl⟩;unfold fP aC;rw[Ek h];show((RV.view as<|.bo i).bind _:Option (List D×Option Bool)).bind _=_;rw[O4 h,hk];show(g [.lst<|O.toDs os]).bind _=_;rw[hg];show(if(zu z||true)=true then some (RV.ow<|.lf (zu z||true) z)else none:Option RV).bind _=_;rw[if_pos<|zyD _];rfl
def sh{as:AS}{i:Nat}{ps:List Pt}(h:as[i]? = some (sN<|ps.map Gd)):WE (fP (aC (fV i) aN) tupP) as (vD ps):=
 qf h (by simp only[O.kl,pR,if_true,(ZI ps).1]) (by rw[(ZI ps).2];rfl)
def kI(R:List (List Pt))(m:List Pt):(((R.map vD).zip<|m.map pD).map λq=>(true,D.tup [q.1,q.2]))=(R.zip m).map λq=>(true,D.tup [vD q.1,pD q.2]):=by
 induction R generalizing m with
 |nil=>rfl
 |cons a u ih=>
  cases m with
  |nil=>rfl
  |cons b v=>exact congrArg (_ :: ·) (ih v)
def CP(hk:k<=2)(hn:n.natAbs<bg)(ov:Ok k v)(hR:R.length<=900)(oR:∀r ∈ R,Ok k r)(om:Ok k m):RE (QS [(true,.int k),(true,dD R m),(true,vD v),(true,.int n)]) (vD<|eU k R m v n):=by
 obtain⟨e5,e6,hf⟩:=rJ hk hn ov (B1:=sT<|dD R m) (R.zip m) [] none none (by rw[List.length_nil,List.length_zip];omega) λx hx=>⟨oR _ (List.of_mem_zip hx).1,om.vl _ (List.of_mem_zip hx).2,λe=>om.bg e _ (List.of_mem_zip hx).2⟩;have this:∀(R:List (List Pt)) (m:List Pt),(R.zip m).map (λx=>jn k (ac k x.1 v)<|of k n x.2)=eU k R m v n:=λR=>by
  induction R with
  |nil=>intro m;rfl
  |cons r R ih=>
   intro m;cases m with
   |nil=>rfl
   |cons q m=>exact congrArg (_ :: ·) (ih m)
 rw[List.nil_append,this]at hf;have z:Yn (aC (f2 zi zM zZ)<|aC (f2 zi zV zZ) aN) [sI k,sT<|dD R m,sT<|vD v,sI n,sN [],none,none]=some ((R.zip m).map λq=>(true,D.tup [vD q.1,pD q.2]),[sI k,sT<|dD R m,sT<|vD v,sI n,sN [],none,none]):=by
  rw[Wo (wG (wE<|za rfl) (wE zb) gn) (wG (wE<|za rfl) (wE zb) iq) (.t _)<|.t _,kI]
 exact zG rfl<|zj (Vh (i:=4) (Gn xp<|Sz rfl)<|zk rfl)<|zj (vC z hf)<|zp<|sh rfl
end
abbrev lk(k:Nat):Bool:=decide ((0:Int)<(k:Int))
def gW{k:Nat}{p:Pt}(h:FM (lk k) p):Vl k p:=λe n=>by
 subst e;exact absurd (h.1 n) (by decide)
def jc{l:Bool}{p:Pt}(h:FM l p):Z p<=2 ^ 208:=by
 cases p with
 |none=>exact Nat.zero_le _
 |some i=>
  have:=h.2 i rfl;show i.natAbs<=_;have e:(10:Nat) ^ 61<=2 ^ 208:=by decide +kernel
  omega
def IZ{k w:Nat}{v:List Pt}(h:fg (lk k) w v):VO k w 210 v:=⟨⟨h.1,λp m=>gW<|h.2 p m⟩,λ_ p m=>zzO (jc<|h.2 p m)<|Nat.pow_le_pow_right (by decide)<|by omega⟩
def ik{k w:Nat}{R:List (List Pt)}{m:List Pt}(h:d8 (lk k) w R m):WO k w 210 (R,m):=
 ⟨⟨h.1,(IZ h.2.2).toVL,λx mx=>(IZ<|h.2.1 x mx).toVL⟩,by omega,λ_ x mx p mp=>jc<|(h.2.1 x mx).2 p mp,λ_ p mp=>jc<|h.2.2.2 p mp⟩
def Dj{as:AS}{k:Nat}(j:Nat)(h:as[0]? = some (sI k)):WD (f2 zl (fC<|.int j)<|zo .Eq) as true (.bl<|decide (k=j)):=by
 have:=Yo (c:=decide (k=j)) (za (x:=.int k) h) (zb (x:=.int j)) (by
  show some ((k:Int)==j)=_
  by_cases z:k=j
  . rw[z,zyO rfl,beq_self_eq_true]
  . rw[zyG z,beq_eq_false_iff_ne.mpr<|by omega])
 exact this
def iQ{k:Nat}{a b:Pt}(hk:k<=2)(ha:Vl k a)(hb:Vl k b):RE (QX [(true,.int k),(true,pD a),(true,pD b)]) (pD<|jn k a b):=by
 have t0:=zC (Dj (as:=[sI k,sT<|pD a,sT<|pD b]) 0 rfl) rfl
 by_cases h0:k=0
 . subst h0;cases a with
   |none=>exact absurd rfl (ha rfl)
   |some a=>
    cases b with
    |none=>exact absurd rfl (hb rfl)
    |some b=>exact zG rfl (yi<|yJ t0<|zp<|WD.e<|yA (za rfl)<|za rfl)
 . rw[zyG h0]at t0;have t1:=Tf (as:=[sI k,sT<|pD a,sT<|pD b]) (k:=a.isNone) (l:=a.isNone||b.isNone) (zC (Pc<|za (i:=1) rfl) rfl) (λe=>by rw[e];exact zC (Pc<|za (i:=2) rfl) rfl) (λe=>by rw[e];rfl);have wi:WD (fP (aC (f2 zi (fC .non)<|zo .Is) aN) U8) [sI k,sT<|pD a,sT<|pD b] true (.int (if a.isNone=true then 1 else 0)):=yT (zh (Pc<|za (i:=1) rfl) zv) rfl rfl;have hl:=YU (as:=[sI k,sT<|pD a,sT<|pD b]) (os:=[.lf true<|pD a,.lf true<|pD b]) (x:=.lst [pD a,pD b]) (y4 (za (i:=1) rfl)<|y4 (za (i:=2) rfl) xp) (Sz rfl) rfl rfl;cases a with
   |none=>
    refine zG rfl<|zj (zq t0 rfl)<|yi<|yJ t1<|zp ?_;rw[qI h0];exact wG hl (WD.e wi) (by cases b<;>rfl)
   |some x=>
    cases b with
    |none=>
     refine zG rfl<|zj (zq t0 rfl)<|yi<|yJ t1<|zp ?_;rw[qI h0];exact wG hl (WD.e wi) rfl
    |some y=>
     refine zG rfl<|zj (zq t0 rfl)<|zj (zq t1 rfl)<|zp ?_;rw[qI h0];have wn:=yT (as:=[sI k,sI x,sI y]) (x:=.int (if y<x then y else x)) (g:=Ij) (zh (za (i:=1) rfl)<|zh (za (i:=2) rfl) zv) rfl rfl;have wx:=yT (as:=[sI k,sI x,sI y]) (x:=.int (if y > x then y else x)) (g:=B9) (zh (za (i:=1) rfl)<|zh (za (i:=2) rfl) zv) rfl rfl;have w1:WD (fP (aC (f2 zl (fC<|.int (1:Nat))<|zo .Eq) aN) U8) [sI k,sI x,sI y] true (.int (if decide (k=1)=true then 1 else 0)):=yT (zh (Dj (as:=[sI k,sI x,sI y]) 1 rfl) zv) rfl rfl;refine wG (x:=.lst [.int (if y<x then y else x),.int (if y > x then y else x)]) (YU (os:=[Bz (if y<x then y else x),Bz (if y > x then y else x)]) (y4 wn<|y4 wx xp) (Sz rfl) rfl rfl) (WD.e w1) ?_;have:k=1\/k=2:=by omega
     rcases this with rfl|rfl<;>rfl
def fw{as:AS}{i j:Nat}{f:p8}{fv:EF}{ps:List Pt}{p:Pt}(h:as[i]? = some (sN<|ps.map Gd))(hv:WD fv as true (pD p))(hf:f as=some (j:Int))(hj:j<ps.length):CC i f fv as=some (.nx<|as.set i<|sN<|(ps.set j p).map Gd):=by
 unfold WD at hv;unfold CC;have e1:nU sW as i=some (ps.map Gd):=by unfold nU;rw[h];rfl
 have e2:PF.atO J4 (ps.map Gd) ((j:Int)).toNat=some (pD ps[j]):=by
  unfold PF.atO;rw[zyI,zzI,zzE hj];rfl
 rw[hv];show((f as).bind _)=_;rw[hf];show(if 0<=(j:Int)then _ else none)=_;rw[if_pos<|by omega];show((nU sW as i).bind _)=_;rw[e1];show((PF.atO J4 _ ((j:Int)).toNat).bind _)=_;rw[e2];show some (Out.nx<|as.set i<|sN<|(ps.map Gd).set ((j:Int)).toNat<|Gd p)=_;rw[zyI,List.map_set]
def Hq{os:List O}{ps:List Pt}(h1:O.strs os=true)(h2:O.toDs os=ps.map pD):os=ps.map Gd:=by
 induction os generalizing ps with
 |nil=>
  cases ps with
  |nil=>rfl
  |cons p ps=>cases h2
 |cons o os ih=>
  cases ps with
  |nil=>cases h2
  |cons p ps=>
   have h1:(o.str&&O.strs os)=true:=h1;rw[zyC]at h1;injection h2 with e1 e2
   rw[Ck h1.1 e1,ih h1.2 e2];rfl
def dS{z acc:List Pt}{j w:Nat}(hz:z.length=w)(ha:acc.length=w)(hj:j<w):(z.take j++acc.drop j).set j (at_ z j)=z.take (j+1)++acc.drop (j+1):=by
 apply List.ext_getElem?;intro i;have l1:(z.take j).length=j:=by rw[zzS];omega
 have l2:(z.take<|j+1).length=j+1:=by rw[zzS];omega
 rw[List.getElem?_set]
 by_cases e:j=i
 . subst e;rw[if_pos rfl,if_pos (by rw[zzJ,l1,List.length_drop];omega),zyP (by omega),List.getElem?_take_of_lt<|by omega];show some ((z[j]?).getD none)=_;rw[zzE<|by omega];rfl
 . rw[if_neg e]
   by_cases l:i<j
   . rw[zyP (by omega),zyP (by omega),List.getElem?_take_of_lt l,List.getElem?_take_of_lt<|by omega]
   . rw[zyR (by omega),zyR (by omega),l1,l2,List.getElem?_drop,List.getElem?_drop]
     congr 1;omega
abbrev J6(k w:Nat)(r:List (List Pt))(ps:List Pt)(a b:Option O):AS:=[sI k,sT<|zH r,sI w,sN<|ps.map Gd,a,b]
abbrev jB:SF:=CC 3 (xV 5)<|zd (aC zl<|aC (f2 zU yC zZ)<|aC (f2 zN yC zZ) aN) QX
def oY{k w:Nat}{r:List (List Pt)}{acc v:List Pt}{e:Option O}(hk:k<=2)(w3:w<=3)(ha:VL k w acc)(hv:VL k w v):∃e',XW (Xo yt Rc) (gN 5) jB (J6 k w r acc (sT<|vD v) e)=some (.nx<|J6 k w r (jv k acc v) (sT<|vD v) e'):=by
 have lz:=(VL.jv ha hv).1;obtain⟨as',hf,e',rfl⟩:=Y5 (g:=gN 5) (f:=jB) (λj as=>∃e,as=J6 k w r ((jv k acc v).take j++acc.drop j) (sT<|vD v) e) ((List.range w).map λb=>(true,D.int ((b:Nat):Int))) 0 (J6 k w r acc (sT<|vD v) e) (λj x as hx hI=>by
  obtain⟨e,rfl⟩:=hI;rw[zyX];rw[zzI]at hx;obtain⟨b,hb,rfl⟩:=zzX.mp hx;obtain⟨jl,eb⟩:=zzG.mp hb;rw[List.getElem_range]at eb;subst eb;rw[zyU]at jl;refine⟨J6 k w r ((jv k acc v).take j++acc.drop j) (sT<|vD v)<|sI j,rfl,_, ?_,sI j,rfl⟩;rw[<-dS lz ha.1 jl];have lt:((jv k acc v).take j).length=j:=by rw[zzS];omega
  have g0:((jv k acc v).take j++acc.drop j)[j]? = some (at_ acc j):=by
   rw[zyR (by omega),lt,List.getElem?_drop,Nat.sub_self,Nat.add_zero];show _=some ((acc[j]?).getD none);rw[zzE<|by have:=ha.1;omega];rfl
  have w3':WD (f2 zU yC zZ) (J6 k w r ((jv k acc v).take j++acc.drop j) (sT<|vD v)<|sI j) true (pD<|at_ acc j):=n5 (i:=3) rfl (WD.e<|za (i:=5) (x:=.int j) rfl) (by
   rw[(ZI _).2];show qM (C_ _ _)=_;rw[PN (v:=pD<|at_ acc j)<|by rw[zzI,g0];rfl];rfl)<|M3 _
  have w4:=wG (WD.e<|za (as:=J6 k w r ((jv k acc v).take j++acc.drop j) (sT<|vD v)<|sI j) (i:=4) (x:=vD v) rfl) (WD.e<|za (i:=5) (x:=.int j) rfl)<|pM hv.1 jl;have va:Vl k (at_ acc j):=by
   show Vl k ((acc[j]?).getD none);rw[zzE<|by have:=ha.1;omega];exact ha.2 _<|zyY _
  have vv:Vl k (at_ v j):=by
   show Vl k ((v[j]?).getD none);rw[zzE<|by have:=hv.1;omega];exact hv.2 _<|zyY _
  have ez:jn k (at_ acc j) (at_ v j)=at_ (jv k acc v) j:=by
   show jn k ((acc[j]?).getD none) ((v[j]?).getD none)=((List.zipWith (jn k) acc v)[j]?).getD none;rw[List.getElem?_zipWith,zzE (by have:=ha.1;omega),zzE<|by have:=hv.1;omega];rfl
  have hc:=zQ (WD.e<|za (as:=J6 k w r ((jv k acc v).take j++acc.drop j) (sT<|vD v)<|sI j) (i:=0) (x:=.int k) rfl) (WD.e w3') w4<|iQ hk va vv;rw[ez]at hc;exact fw (i:=3) rfl (Jk (M3 _) hc) rfl<|by rw[zzJ,lt,List.length_drop,ha.1];omega) ⟨e,rfl⟩
 refine⟨e', ?_⟩;rw[zyX,zzB,zyU,List.take_of_length_le (by omega),List.drop_of_length_le (by have:=ha.1;omega),zyE]at hf;exact vC (Es (za (i:=2) rfl)<|by omega) hf
def LU{k w:Nat}{r:List (List Pt)}(hk:k<=2)(w3:w<=3)(hr:∀v ∈ r,VL k w v):RE (x8 [(true,.int k),(true,zH r),(true,.int w)]) (vD<|BE k w r):=by
 obtain⟨os,o1,o2,o3⟩:=PB (gg:=gN 0) (tt:=YD) (fe:=f2 (x9<|dC (fC .non)<|dC zM dN) (fP (aC (f2 zi zM<|zo .Eq) aN) U8) zZ) (as0:=[none,sI k]) (it:=λb:Nat=>(true,D.int ((b:Nat):Int))) (p:=λ_=>true) (h:=λ_=>pD<|ze k) (List.range w) λb _=>⟨[sI b,sI k],rfl,rfl,λ_=>by
  have w1:WD (fP (aC (f2 zi (fC<|.int (0:Nat))<|zo .Eq) aN) U8) [sI b,sI k] true (.int (if decide (k=0)=true then 1 else 0)):=yT (zh (by
   have:=Yo (c:=decide (k=0)) (za (as:=[sI b,sI k]) (i:=1) (x:=.int k) rfl) (zb (x:=.int (0:Nat))) (by
    show some ((k:Int)==(0:Nat))=_
    by_cases z:k=0
    . rw[z];rfl
    . rw[zyG z,beq_eq_false_iff_ne.mpr<|by omega])
   exact this) zv) rfl rfl
  refine wG (x:=.lst [.non,.int 0]) (YU (os:=[.lf true .non,Bz 0]) (y4 zb<|y4 zb xp) (Sz rfl) rfl rfl) (WD.e w1) ?_
  by_cases z:k=0
  . subst z;rfl
  . rw[zyG z,show ze k=none from if_neg z];rfl⟩
 have e3:os=(List.replicate w<|ze k).map Gd:=Hq o2 (by
  rw[o3,List.filter_eq_self.mpr λ_ _=>rfl,List.map_const',List.map_replicate,zyU])
 subst e3;have s3:zE false 3 (yK (Xo yt Rc) [none,some 0] ZO YD<|f2 (x9<|dC (fC .non)<|dC zM dN) (fP (aC (f2 zi zM<|zo .Eq) aN) U8) zZ) [sI k,sT<|zH r,sI w,none,none,none]=some (.nx<|J6 k w r (List.replicate w<|ze k) none none):=by
  refine Vh (i:=3) ?_<|zk rfl;unfold yK;rw[Es (za (i:=2) rfl)<|by omega];show(if(List.map _<|List.range w).length<=sizeLine then _ else _)=_;rw[if_pos<|by rw[zzB,zyU];exact pb<|by omega];show(XD _ _ _ [none,sI k] _).bind _=_;rw[o1];rfl
 obtain⟨as',hf,a,b,rfl⟩:=Y5 (g:=gN 4) (f:=XW (Xo yt Rc) (gN 5) jB) (λi as=>∃a b,as=J6 k w r (BE k w<|r.take i) a b) ((r.map vD).map λd=>(true,d)) 0 (J6 k w r (List.replicate w<|ze k) none none) (λi x as hx hI=>by
  obtain⟨a,b,rfl⟩:=hI;rw[zyX];rw[zyB,zzI]at hx;obtain⟨v,hv',rfl⟩:=zzX.mp hx;have mv:=hr v<|zyA hv';obtain⟨e',h'⟩:=oY (r:=r) (e:=b) hk w3 (VL.hv (k:=k) (w:=w) (r:=r.take i) λu mu=>hr u<|List.mem_of_mem_take mu) mv;refine⟨J6 k w r (BE k w<|r.take i) (sT<|vD v) b,rfl,_,h',sT<|vD v,e', ?_⟩;rw[List.take_succ,hv'];show _=J6 k w r (BE k w<|r.take i++[v]) _ _;rw[FL _ _ (λu mu=>by rw[zzR.mp mu];exact mv),BQ mv]) ⟨_,_,rfl⟩
 rw[zyX,zzB,zzB,List.take_length]at hf;exact zG rfl<|zj s3<|zj (vC (Ho<|WD.e<|za (i:=1) rfl) hf)<|zp<|sh (i:=3) rfl
def S8{c:Int}{n w:Nat}{l:Bool}(n0:n<=30)(h1:w<=3):∃R:List (List Pt),R.length=n/\(∀v ∈ R,fg l w v)/\RE (X6 [(true,.int c),(true,.int n),(true,.int w),(true,.bl l)]) (zH R):=by
 obtain⟨ps,p1,p2,p3⟩:=Gf (c:=c) (m:=n*w) (l:=l) (by have:=Nat.mul_le_mul n0 h1;omega);have bw:((w:Nat):Int).natAbs<big:=yu (by omega) (by omega);have ww:WD (f2 zi zA zS) [sI c,sI n,sI w,sT<|.bl l,none] true (.int ((n*w:Nat):Int)):=by
  rw[zzV];exact Yh (za rfl) (za rfl) (yu (by omega)<|by omega) bw
 have s4:=xo (p:=4) (zQ (WD.e<|za (i:=0) rfl) (WD.e ww) (WD.e<|za (i:=3) rfl) p3)<|zk rfl;have wr:WE (yK (Xo yI Rc) [none,some 4,some 2] ZO YD<|fP (aC (V1 zi (oS<|f2 zl zA zS) (oS<|f2 (f2 zl zA zS) zA zt) Ql) aN) tupP) [sI c,sI n,sI w,sT<|.bl l,sT<|.lst<|ps.map pD] (.lst<|(List.range n).map λb=>vD<|(ps.drop<|b*w).take w):=by
  refine ZF (List.range n) (Es (za (i:=1) rfl)<|by omega) (by rw[zyU];omega) λb hb=>⟨[sI b,sT<|.lst<|ps.map pD,sI w],rfl, ?_⟩;have hb:=List.mem_range.mp hb;have hbw:b*w+w<=ps.length:=by
   rw[p1];have:(b+1)*w<=n*w:=Nat.mul_le_mul_right w (by omega);rw[Nat.add_mul,Nat.one_mul]at this;omega
  have wm:WD (f2 zl zA zS) [sI b,sT<|.lst<|ps.map pD,sI w] true (.int ((b*w:Nat):Int)):=by
   rw[zzV];exact Yh (za rfl) (za rfl) (yu (by omega)<|by omega) bw
  refine vF (M7 (lo:=some ((b*w:Nat):Int)) (hi:=some ((b*w+w:Nat):Int)) (zs:=((ps.drop<|b*w).take w).map pD) (WD.e<|za (i:=1) rfl) (Wx wm) (Wx<|by rw[Int.natCast_add];exact yA wm<|za rfl) ?_) rfl;show some (R0.fl<|PF.cutD (ps.map pD) _ _)=_;rw[lu pD ps (b*w) (b*w+w) (by omega) (by omega),Nat.add_sub_cancel_left]
 refine⟨(List.range n).map λb=>(ps.drop<|b*w).take w,by rw[zzB,zyU],λv m=>?_,zG rfl<|zj s4<|zp ?_⟩
 . obtain⟨b,hb,rfl⟩:=zxC.mp m;have hb:=List.mem_range.mp hb;refine⟨?_,λp m=>p2 p<|List.mem_of_mem_drop<|List.mem_of_mem_take m⟩;have:(b+1)*w<=n*w:=Nat.mul_le_mul_right w (by omega);rw[Nat.add_mul,Nat.one_mul]at this;rw[zzS,List.length_drop,p1];omega
 . show WE _ _ (.lst<|((List.range n).map λb=>(ps.drop<|b*w).take w).map vD);rw[zyB];exact wr
def slt{n:Nat}(h:n<1000):n<sizeLine:=zzK h (pb<|by decide)
def DT{a b c:EF}{as:AS}{i j k:Int}{s t u:Bool}(ha:WD a as s (.int i))(hb:WD b as t (.int j))(hc:WD c as u (.int k))(h1:i<=j)(h2:j<=k):WD (RC a b c (zo .LtE)<|zo .LtE) as true (.bl true):=by
 unfold WD at *;unfold RC;rw[ha];simp only[zyL];rw[hb];simp only[zyL];simp only[RV.frz,O.frz,RV.view,O.toD,O.str,zyL,zo,JK,pH,Jj,qN,h1,h2,decide_true,hc];rfl
def WV{s:Bool}{x:Int}:Yp [(s,.int x)]=sT (.bl true):=rfl
def LL{x k:Int}(h0:0<=x)(h1:x<=k):ZJ [(true,.int x),(true,.int 0),(true,.int k)]=sT (.bl true):=
 vJ rfl (wu<|QY (k:=true) (Pv (zh (za (i:=0) rfl) zv) WV) (λ_=>DT (za (i:=1) rfl) (za (i:=0) rfl) (za (i:=2) rfl) h0 h1) (λz=>nomatch z))
section
variable{c:Cx}{as:AS}
def Cw{α:Type}:∀l:List α,t_ [.lst<|l.map λ_=>D.bl true]=some (.im<|.bl true):=λl=>by
 have:Li (l.map λ_=>D.bl true)=some (l.map λ_=>true):=by
  induction l with
  |nil=>rfl
  |cons a l ih=>show(Li<|l.map λ_=>D.bl true).bind _=_;rw[ih];rfl
 show(Li<|l.map λ_=>D.bl true).bind _=_;rw[this];show some (R0.im<|.bl<|(l.map λ_=>true).all id)=_;rw[List.all_eq_true.mpr λx mx=>by obtain⟨_,_,rfl⟩:=zxC.mp mx;rfl]
def fD{g:Fn}{k:Nat}(hk:k<=2):Nx [("Sums",g),("Mosts",g),("Leasts",g)] (cls k)=some g:=(uf hk).trans (by rw[ite_self,ite_self])
def Jp(h:c.Ok){p:Pt}(hp:Vl c.k p):∃g,Nx Q6 (cls c.k)=some g/\RE (g [(true,c.w),(true,pD p)]) (.bl true):=by
 refine⟨_,uf h.k2, ?_⟩
 by_cases h0:c.k=0
 . rw[if_pos h0];cases p with
   |none=>exact absurd rfl (hp h0)
   |some x=>exact zG rfl (zp<|Xq (WD.e<|za (i:=1) rfl)<|RE.of WV)
 . rw[if_neg h0,ite_self];refine zG rfl<|zp<|WD.e<|mZ (k:=p.isNone) (Pc<|za (i:=1) rfl) (λe=>?_) λ_=>rfl;cases p with
   |none=>exact nomatch e
   |some x=>exact Pv (zh (za (i:=1) rfl) zv) WV
def U7(h:c.Ok){v:List Pt}(hv:VL c.k c.n v):RE (xU [(true,c.w),(true,vD v)]) (.bl true):=by
 have wl:WD (fP yI z_) [sT c.w,sT<|vD v] true (.int c.n):=by
  have:=yT (g:=z_) (x:=.int ((v.map pD).length:Nat)) (zh (za (as:=[sT c.w,sT<|vD v]) (i:=1) (x:=vD v) rfl) zv) rfl rfl;rw[zzB,hv.1]at this;exact this
 have t:=Tf (k:=false) (l:=false) (xX (k:=true)<|zC (Qu (cl:="tuple") (as:=[sT c.w,sT<|vD v]) (q:=true) (za (i:=1) (x:=vD v) rfl) rfl) rfl) (λ_=>by
  have:=uh wl<|V9<|za (i:=0) rfl;rw[show(!((c.n:Int)==c.n))=false by simp]at this;exact this) (λq=>nomatch q)
 refine zG rfl<|zj (zq t rfl)<|zp<|vF (ZF (as:=[sT c.w,sT<|vD v]) (h:=λ_:Pt=>D.bl true) (it:=λp:Pt=>(true,pD p)) (cap:=[none,some 0]) (gg:=gN 0) (fe:=yn Q6 "is_part" zi BX) v (by rw[Ft<|WD.e<|za (i:=1) rfl,zyB];rfl) (by rw[hv.1];have:=h.n3;omega) λp mp=>⟨[sT<|pD p,sT c.w],rfl, ?_⟩)<|Cw v;obtain⟨g,g1,g2⟩:=Jp h<|hv.2 p mp;exact Wk (za (i:=1) rfl) (nW<|by decide +kernel) g1 (WD.e<|za (i:=0) rfl) g2
def Af(h:c.Ok){T:Wt}(hT:WL c.k c.n T):RE (wR [(true,c.w),(true,wD T)]) (.bl true):=by
 have t:∀z,WT (Rg (y_<|fT<|QE zi "tuple")<|fT<|f2 (fP yI z_) Zl<|zo .NotEq) [sT c.w,sT<|wD T,z] false:=λz=>Tf (k:=false) (l:=false) (xX (k:=true)<|zC (Qu (q:=true) (za (i:=1) (x:=wD T) rfl) rfl) rfl) (λ_=>uh (x:=2) (y:=2) (yT (g:=z_) (zh (za (i:=1) (x:=wD T) rfl) zv) rfl rfl) zb) (λq=>nomatch q);have s2:=xo (p:=2) (as:=[sT c.w,sT<|wD T,none]) (wG (x:=wD T) (WD.e<|za (i:=1) rfl) (WD.e<|zb (x:=.int 0)) (show zZ (wD T) (.int 0)=some (.im<|.tup<|T.1.map vD)from rfl))<|zk rfl;have wl:WD (fP yt z_) [sT c.w,sT<|wD T,sT<|.tup<|T.1.map vD] true (.int c.n):=by
  have:=yT (g:=z_) (x:=.int ((T.1.map vD).length:Nat)) (zh (za (as:=[sT c.w,sT<|wD T,sT<|.tup<|T.1.map vD]) (i:=2) (x:=.tup<|T.1.map vD) rfl) zv) rfl rfl;rw[zzB,hT.r]at this;exact this
 have t2:=Tf (k:=false) (l:=false) (xX (k:=true)<|zC (Qu (cl:="tuple") (as:=[sT c.w,sT<|wD T,sT<|.tup<|T.1.map vD]) (q:=true) (za (i:=2) (x:=.tup<|T.1.map vD) rfl) rfl) rfl) (λ_=>by
  have:=uh wl<|V9<|za (i:=0) rfl;rw[show(!((c.n:Int)==c.n))=false by simp]at this;exact this) (λq=>nomatch q)
 have w3:=vF (ZF (as:=[sT c.w,sT<|wD T,sT<|.tup<|T.1.map vD]) (h:=λ_:List Pt=>D.bl true) (it:=λv:List Pt=>(true,vD v)) (cap:=[none,some 0]) (gg:=gN 0) (fe:=yn Y2 "is_value" zi BX) T.1 (Da T.1<|WD.e<|za (i:=2) rfl) (by rw[hT.r];have:=h.n3;omega) λv mv=>⟨[sT<|vD v,sT c.w],rfl,Wk (za (i:=1) rfl) (nW<|by decide +kernel) (fD h.k2) (WD.e<|za (i:=0) rfl)<|U7 h<|hT.x v mv⟩)<|Cw T.1;exact zG rfl<|zj (zq (t none) rfl)<|zj s2<|zj (zq t2 rfl)<|zp<|WD.e<|QY (k:=true) (Jk rfl w3) (λ_=>Jk rfl<|Wk (za (i:=0) rfl) (nW<|by decide +kernel) (fD h.k2) (wG (WD.e<|za (i:=1) rfl) (WD.e zb) iq)<|U7 h hT.m) (λq=>nomatch q)
abbrev Gy(j:Nat)(t:Int):D:=.tup [.int j,.int t]
def Jt(h:c.Ok){j:Nat}{t:Int}(hj:j<c.n):RE (wK [(true,c.w),(true,Gy j t)]) (.bl true):=by
 have t1:WT (Rg (y_<|fT<|QE zi "tuple")<|fT<|f2 (fP yI z_) Zl<|zo .NotEq) [sT c.w,sT<|Gy j t] false:=Tf (k:=false) (l:=false) (xX (k:=true)<|zC (Qu (q:=true) (za (i:=1) (x:=Gy j t) rfl) rfl) rfl) (λ_=>uh (x:=2) (y:=2) (yT (g:=z_) (zh (za (i:=1) (x:=Gy j t) rfl) zv) rfl rfl) zb) (λq=>nomatch q);have w0:WD (f2 zi zM zZ) [sT c.w,sT<|Gy j t] true (.int j):=zY (za (i:=1) rfl) zb rfl rfl;have w1:WD (f2 zi zV zZ) [sT c.w,sT<|Gy j t] true (.int t):=zY (za (i:=1) rfl) zb rfl rfl;exact zG rfl<|zj (zq t1 rfl)<|zp<|WD.e<|QY (k:=true) (Jk rfl<|zQ (WD.e w0) (WD.e zb) (WD.e<|Xa (V9<|za (i:=0) rfl) zb)<|RE.of<|LL (by omega)<|by omega) (λ_=>Jk rfl<|Xq (WD.e w1)<|RE.of WV) (λq=>nomatch q)
def oq(t:Int):Pt->Bool
 |none=>false
 |some x=>decide (t<=x)
def kh{as:AS}{a:EF}{p:Pt}{t:Int}{s:Bool}(ha:WD a as s (pD p)){b:EF}(hb:WD b as true (.int t)):WD (G0 (f2 a (fC .non)<|zo .IsNot)<|f2 a b<|zo .GtE) as true (.bl<|oq t p):=by
 refine QY (k:=p.isSome) (Z4 ha) (λe=>?_) λe=>?_
 . cases p with
   |none=>exact nomatch e
   |some x=>exact t7 ha hb
 . cases p with
   |none=>rfl
   |some x=>exact nomatch e
def CA(h:c.Ok){j:Nat}{t:Int}(hj:j<c.n){v:List Pt}(hv:VL c.k c.n v):RE (xW [(true,c.w),(true,Gy j t),(true,vD v)]) (.bl<|oq t<|at_ v j):=by
 have s3:=xo (p:=3) (as:=[sT c.w,sT<|Gy j t,sT<|vD v,none]) (wG (WD.e<|za (i:=2) rfl) (WD.e<|zY (g:=zZ) (z:=.int j) (za (i:=1) rfl) (zb (x:=.int 0)) rfl rfl)<|pM hv.1 hj)<|zk rfl;exact zG rfl<|zj s3<|zp<|WD.e<|kh (za (i:=3) rfl)<|zY (g:=zZ) (za (i:=1) rfl) (zb (x:=.int 1)) rfl rfl
end
abbrev W6:List Str:=["way","trees"]
abbrev yB(c:Cx)(ts:List D):O:=.nd (.ob "Makes" W6) [.lf true c.w,.nd .ls<|ts.map<|O.lf true]
abbrev Qn(c:Cx)(ts:List D):D:=.ob "Makes" W6 [c.w,.lst ts]
section
variable{c:Cx}{ts:List D}{as:AS}{i:Nat}
theorem mQ:∀ts:List D,(ts.map<|O.lf true).all O.isLf=true
 | []=>rfl
 |_::r=>mQ r
def MM:Ei (some<|some<|yB c ts)=some (Qn c ts):=by
 show(if true=true/\(ts.map<|O.lf true).all O.isLf=true/\O.strs (ts.map<|O.lf true)=true then some (D.ob "Makes" W6 [c.w,.lst<|O.toDs<|ts.map<|O.lf true])else none)=_;rw[if_pos ⟨rfl,mQ ts,NA ts⟩,N6]
def LC:(yB c ts).str=true:=by
 show(true&&(O.strs (ts.map<|O.lf true)&&true))=true;rw[NA];rfl
def Cs{m:Str}{tbl:List (Str×Fn)}{g:Fn}{a:EF}{x:D}{o:O}(h:as[i]? = some (some<|yB c ts))(hm:m ∉ W6)(ht:Nx tbl "Makes"=some g)(ha:WE a as x)(hg:g [(true,Qn c ts),(true,x)]=some o)(ho:ku W6 o=true):yZ i tbl m (aC a aN) as=some (.ow o,as):=by
 have hr:=xu ha zv;unfold WA at hr;unfold yZ;rw[h,MM];show(if m ∈ W6 then none else some "Makes":Option Str).bind _=_;rw[if_neg hm];show(Nx tbl "Makes").bind _=_;rw[ht];show(aC a aN as).bind _=_;rw[hr];show(Ei as[i]?).bind _=_;rw[h,MM,zyL];show(Xh as<|List.map (λx:Bool×D=>RV.ow<|O.lf x.1 x.2) [(true,x)]).bind _=_;rw[We];show(g [(true,Qn c ts),(zu x||true,x)]).bind _=_;rw[zyD,hg];show(if ku W6 o=true then some (RV.ow o,as)else none)=_;rw[if_pos ho]
def U3{m:Str}{g:List ZA->O->Option (D×O)}{fr:AF}{rs:List RV}{xs:List ZA}{v:D}{ts':List D}(h:as[i]? = some (some<|yB c ts))(hm:m ∉ W6)(hr:fr as=some (rs,as))(ha:Tb i as rs=some xs)(hg:g xs (yB c ts)=some (v,yB c ts')):wB i "Makes" m g fr as=some (.ow<|.lf true v,as.set i<|some<|yB c ts'):=by
 unfold wB;rw[h];show(if m ∈ W6 then none else some "Makes":Option Str).bind _=_;rw[if_neg hm,zyL,if_pos rfl,hr];show(Tb i as rs).bind _=_;rw[ha];show(as[i]?).bind _=_;rw[h];show(g xs<|yB c ts).bind _=_;rw[hg];show(if(yB c ts').str=true then _ else _)=_;rw[if_pos LC]
def Yg{f:SF}{g:VF}{as1:AS}{x:Option (D×AS)}(h:f as=some (.nx as1))(k:g as1=x):wA f g as=x:=by
 unfold wA;rw[h];exact k
def qU:xf "Makes" [(true,c.w)]=some (yB c []):=by
 have h:YF (WN 2 (jW "Makes"::[(true,c.w)].map qH))=some [some<|yB c [],sT c.w]:=ZL (Ye (c:="Makes") (i:=0) (ns:=[]) (os:=[]) (WD.e<|za (i:=1) rfl) rfl (by decide +kernel) (by decide +kernel)<|by decide) (by
  unfold qA;rw[Gn xp<|Sz rfl];exact if_pos (e:=none) (c:=("Makes":Str) ∈ xj/\("trees":Str) ∉ ([("way":Str)]:List Str)/\1<1000) ⟨by decide +kernel,by decide +kernel,by decide⟩)
 unfold xf lD;rw[if_pos (by rfl),h];rfl
def HM{d:D}(hl:ts.length<900):zO [(true,d)] (yB c ts)=some (.int ts.length,yB c<|ts++[d]):=by
 have s1:ix 0 1 xj "trees" [some<|yB c ts,sT d]=some (.nx [some<|yB c<|ts++[d],sT d]):=by
  show(if("Makes":Str) ∈ xj/\("trees":Str)="trees"/\("way":Str)≠"trees"/\(ts.map<|O.lf true).length<sizeLine then some (Out.nx [some<|.nd (.ob "Makes" W6) [.lf true c.w,.nd .ls<|ts.map (O.lf true)++[.lf true d]],sT d])else none)=_;rw[if_pos ⟨by decide +kernel,rfl,by decide +kernel,by rw[zzB];exact slt<|by omega⟩];show some (Out.nx [some<|.nd (.ob "Makes" W6) [.lf true c.w,.nd .ls<|ts.map (O.lf true)++[.lf true d]],sT d])=some (Out.nx [some<|.nd (.ob "Makes" W6) [.lf true c.w,.nd .ls<|(ts++[d]).map<|O.lf true],sT d]);rw[zyM];rfl
 have w:WD (gu 0 xj "trees") [some<|yB c<|ts++[d],sT d] true (.int ((ts.length+1:Nat):Int)):=by
  show(if("Makes":Str) ∈ xj/\("trees":Str)="trees"/\("way":Str)≠"trees" then some (RV.ow<|.lf true<|.int ((ts++[d]).map<|O.lf true).length,_)else none)=_;rw[if_pos ⟨by decide +kernel,rfl,by decide +kernel⟩,zzB,zzJ];rfl
 have w2:=Xa w<|zb (x:=.int 1);rw[show((ts.length+1:Nat):Int)-1=ts.length by omega]at w2;have hv:X8 [some<|yB c ts,sT d]=some (.int ts.length,[some<|yB c<|ts++[d],sT d]):=Yg s1 (by
  unfold W4;unfold WD at w2;rw[w2];rfl)
 unfold zO uG;rw[if_pos<|by rfl];show(X8 [some<|yB c ts,sT d]).bind _=_;rw[hv];show(if(yB c<|ts++[d]).str=true then _ else _)=_;rw[if_pos LC]
def IX(h:WD (fV i) as true (Qn c ts)):WD (f1 (fV i)<|zJ zX "way") as true c.w:=by
 have:=M6 (n:="way") h (by decide +kernel:("Makes":Str) ∈ zX) (d:=c.w) rfl;rw[zyD]at this;exact this
def O7(h:WD (fV i) as true (Qn c ts)):WD (f1 (fV i)<|zJ xj "trees") as true (.lst ts):=by
 have:=M6 (n:="trees") h (by decide +kernel:("Makes":Str) ∈ xj) (d:=.lst ts) rfl;rw[zyD]at this;exact this
def S_(h:c.Ok){v:List Pt}(hv:VL c.k c.n v):yN [(true,Qn c ts),(true,vD v)]=sT .non:=by
 have h:Zk (VR 2 [(true,Qn c ts),(true,vD v)])=some (.nx [sT<|Qn c ts,sT<|vD v]):=zq (xX (k:=true)<|qE<|Wk (IX<|za (i:=0) rfl) (nW<|by decide +kernel) ((uf h.k2).trans<|by rw[ite_self,ite_self]) (WD.e<|za (i:=1) rfl)<|U7 h hv) rfl;unfold yN wY;rw[if_pos (by rfl),h];rfl
def Gk{k:Nat}{d:D}(hk:ts[k]? = some d):RE (y6 [(true,Qn c ts),(true,.int k)]) d:=by
 have kl:=(zzG.mp hk).1;have wl:WD (fP (aC (f1 zl<|zJ xj "trees") aN) z_) [sT<|Qn c ts,sI k] true (.int ts.length):=Ai (WD.e<|O7<|za (i:=0) rfl) rfl;have w:=qE (zQ (WD.e<|za (as:=[sT<|Qn c ts,sI k]) (i:=1) rfl) (WD.e<|zb (x:=.int 0)) (WD.e<|Xa wl<|zb (x:=.int 1))<|RE.of<|LL (x:=k) (by omega)<|by omega);refine zG rfl<|zj (zq (xX w) rfl)<|zp<|WD.e<|j3 (WD.e<|O7<|za (i:=0) rfl) (WD.e<|za (i:=1) rfl) ?_;have:=Nb (f:=λd:D=>d) hk
 rwa [List.map_id']at this
end
section
variable{c:Cx}{ts:List D}{as:AS}{i l:Nat}{r:List (List Pt)}
def gb(h:as[i]? = some (sT<|zH r)):Mw (fV i) as=some (r.map λx=>(true,vD x),as):=by
 rw[Ho<|WD.e<|za h,zyB];rfl
def DY{k:Int}(h:k<=300):x_ [(true,.int k)]=sT .non:=by
 have h:Uc (VR 1 [(true,.int k)])=some (.nx [sI k]):=zq (zC (zY (z:=.bl<|decide ((300:Int)<k)) (za (i:=0) (x:=.int k) (s:=true) rfl) zb rfl rfl) (by show some (decide ((300:Int)<k))=_;rw[zyG<|by omega])) rfl;unfold x_ wY;rw[if_pos (by rfl),h];rfl
def Ip(h:c.Ok)(hL:l<=LM)(hl:r.length<=300)(hv:c.In l r)(tl:ts.length<900):∃d,OT c l d r/\xx [(true,zH r)] (yB c ts)=some (.int ts.length,yB c<|ts++[d]):=by
 obtain⟨d,⟨o,t1,t2,t3⟩,hd⟩:=qx h hL (by omega) hv;have s1:xD (y_<|fT<|QE zi "list") qL vB [some<|yB c ts,sT<|zH r,none]=some (.nx [some<|yB c ts,sT<|zH r,none]):=zq (xX (k:=true) rfl) rfl;obtain⟨as',h2,e,rfl⟩:=Y5 (g:=gN 2) (f:=yO<|yZ 0 xh "check_value" yt) (λ_ as=>∃e,as=[some<|yB c ts,sT<|zH r,e]) (r.map λx=>(true,vD x)) 0 [some<|yB c ts,sT<|zH r,none] (λj x as hx hI=>by
  obtain⟨e,rfl⟩:=hI;rw[zzI]at hx;obtain⟨v,hv',rfl⟩:=zzX.mp hx;refine⟨[some<|yB c ts,sT<|zH r,sT<|vD v],rfl,[some<|yB c ts,sT<|zH r,sT<|vD v], ?_,_,rfl⟩;unfold yO;rw[Cs (i:=0) (c:=c) (ts:=ts) (tbl:=xh) (g:=yN) (o:=.lf true .non) rfl (by decide +kernel) rfl (WD.e<|za (i:=2) rfl) (S_ h (hv v<|zyA hv').toVL) rfl];rfl) ⟨_,rfl⟩
 have s2:=vC (gb (as:=[some<|yB c ts,sT<|zH r,none]) (i:=1) (r:=r) rfl) h2;have wl:WD (fP yI z_) [some<|yB c ts,sT<|zH r,e] true (.int r.length):=by
  have:=yT (as:=[some<|yB c ts,sT<|zH r,e]) (g:=z_) (x:=.int ((r.map vD).length:Nat)) (zh (za (i:=1) (x:=zH r) (s:=true) rfl) zv) rfl rfl
  rwa [zzB]at this
 have s3:yO (zd (aC (fP yI z_) aN) x_) [some<|yB c ts,sT<|zH r,e]=some (.nx [some<|yB c ts,sT<|zH r,e]):=by
  unfold yO;have:=Fv (WD.e wl) (DY (k:=r.length)<|by omega);unfold WD at this;rw[this];rfl
 have wy:WD (Me 0 zX "way") [some<|yB c ts,sT<|zH r,e] true c.w:=if_pos (c:=("Makes":Str) ∈ zX/\("way":Str)="way") (e:=none) ⟨by decide +kernel,rfl⟩;have wt:zd (aC (Me 0 zX "way") yI) (yM 20) [some<|yB c ts,sT<|zH r,e]=some (.ow o,[some<|yB c ts,sT<|zH r,e]):=YW (zh wy<|zh (za (i:=1) (x:=zH r) (s:=true) rfl) zv) t1;have hk:=U3 (as:=[some<|yB c ts,sT<|zH r,e]) (i:=0) (c:=c) (ts:=ts) (m:="keep") (g:=zO) (fr:=aC (zd (aC (Me 0 zX "way") yI)<|yM 20) aN) (rs:=[.ow<|.lf true d]) (xs:=[(true,d)]) rfl (by decide +kernel) (xu ⟨o,wt,t2,t3⟩ zv) (by
  show some [(zu d||true,d)]=_;rw[zyD])<|HM tl
 refine⟨d,hd, ?_⟩;have hc:XR [some<|yB c ts,sT<|zH r,none]=some (.int ts.length,[some<|yB c<|ts++[d],sT<|zH r,e]):=Yg s1 (Yg s2<|Yg s3<|by
  unfold W4;rw[hk];rfl)
 unfold xx uG;rw[if_pos<|by rfl];show(XR [some<|yB c ts,sT<|zH r,none]).bind _=_;rw[hc];show(if(yB c<|ts++[d]).str=true then _ else _)=_;rw[if_pos LC]
def S4{k:Nat}{d:D}(h:c.Ok)(hk:ts[k]? = some d)(hd:OT c l d r)(hl:r.length<=900):RE (WS [(true,Qn c ts),(true,.int k)]) (zH r):=
 zG rfl (zp<|y9 (WD.e<|IX<|za (i:=0) rfl) (Wk (za (i:=0) rfl) (by decide +kernel) rfl (WD.e<|za (i:=1) rfl)<|Gk hk)<|i_ h hd<|by omega)
def qO{k:Nat}{d:D}(h:c.Ok)(hk:ts[k]? = some d)(hd:OT c l d r):RE (QZ [(true,Qn c ts),(true,.int k)]) (.int r.length):=
 zG rfl (zp<|Xq (Wk (za (i:=0) rfl) (by decide +kernel) rfl (WD.e<|za (i:=1) rfl)<|Gk hk)<|Ks h hd)
end
section
variable{c:Cx}{x y d:D}{ts:List D}{as:AS}{r s R:List (List Pt)}{p q l:Nat}
def uy(k:Nat)(v:List Pt):nc W6 (k+2) (vD v)=true:=by
 show(v.map pD).all (nc W6<|k+1)=true;rw[List.all_map];exact List.all_eq_true.mpr λp _=>by cases p<;>rfl
def eG(k:Nat)(w:Option Wt):nc W6 (k+4) (UD w)=true:=by
 cases w with
 |none=>rfl
 |some T=>
  show((T.1.map vD).all (nc W6<|k+2)&&(nc W6 (k+3) (vD T.2)&&true))=true;have e:(T.1.map vD).all (nc W6<|k+2)=true:=by
   rw[List.all_map];exact List.all_eq_true.mpr λv _=>uy k v
  rw[e,uy<|k+1];rfl
theorem TK.nc(k:TK c l d R p):∀j,p+5<=j->nc W6 j d=true:=by
 induction k with
 |lf v t=>
  intro j hj;obtain⟨j,rfl⟩:∃i,j=i+5:=⟨j-5,by omega⟩;show(decide (nI≠W6)&&(PF.nc W6 (j+4) (vD v)&&(PF.nc W6 (j+4) (vD v)&&(true&&(true&&(true&&(true&&(true&&(true&&true)))))))))=true;rw[uy<|j+2];rfl
 | @nd l b L w t x y r s p q R _ _ _ _ _ _ _ _ i1 i2=>
  intro j hj;obtain⟨j,rfl⟩:∃i,j=i+5:=⟨j-5,by omega⟩;show(decide (nI≠W6)&&(PF.nc W6 (j+4) (vD<|c.h R)&&(PF.nc W6 (j+4) (vD<|c.h R.reverse)&&(PF.nc W6 (j+4) (UD w)&&(true&&(PF.nc W6 (j+4) x&&(PF.nc W6 (j+4) y&&(true&&(true&&true)))))))))=true;rw[uy<|j+2,uy<|j+2,eG j w,i1 (j+4) (by omega),i2 (j+4)<|by omega];rfl
theorem OT.nc(k:OT c l d R)(hl:R.length<=1000){j:Nat}(hj:30<=j):nc W6 j d=true:=by
 rcases k with⟨rfl,_⟩|⟨p,k⟩
 . obtain⟨j,rfl⟩:∃i,j=i+1:=⟨j-1,by omega⟩;rfl
 . exact k.nc j (by have:=k.lt hl;omega)
def oo{x a b:Int}(h0:a<=x)(h1:x<=b):ZJ [(true,.int x),(true,.int a),(true,.int b)]=sT (.bl true):=
 vJ rfl (wu<|QY (k:=true) (Pv (zh (za (i:=0) rfl) zv) WV) (λ_=>DT (za (i:=1) rfl) (za (i:=0) rfl) (za (i:=2) rfl) h0 h1) (λz=>nomatch z))
def rW{x a b:Int}(h0:a<=x)(h1:x<=b):yY [(true,.int x),(true,.int a),(true,.int b)]=sT .non:=by
 have h:Vx (VR 3 [(true,.int x),(true,.int a),(true,.int b)])=some (.nx [sI x,sI a,sI b]):=zq (xX (k:=true)<|qE<|WD.e<|rD (WD.e<|za (i:=0) rfl) (WD.e<|za (i:=1) rfl) (WD.e<|za (i:=2) rfl)<|oo h0 h1) rfl;unfold yY wY;rw[if_pos (by rfl),h];rfl
def El{f g h:EF}{x a b:Int}(wf:WE f as (.int x))(wg:WE g as (.int a))(wh:WE h as (.int b))(h0:a<=x)(h1:x<=b):yO (zd (aC f<|aC g<|aC h aN) yY) as=some (.nx as):=by
 have:=rD wf wg wh<|rW h0 h1;unfold WD at this;unfold yO;rw[this];rfl
def Pf(h:c.Ok){k:Nat}(hk:ts[k]? = some d)(hd:OT c l d R)(hl:R.length<=900){i j:Nat}(h1:i<=j)(h2:j<=R.length):∃x y z,yq [(true,Qn c ts),(true,.int k),(true,.int i),(true,.int j)]=sT (.tup [x,y,z])/\OT c l x (R.take i)/\OT c l y ((R.take j).drop i)/\OT c l z (R.drop j):=by
 obtain⟨a,z,a1,a2,a3⟩:=Jw h hd j (by omega) h2;obtain⟨x,y,b1,b2,b3⟩:=Jw h a2 i (by rw[zzS];omega) (by rw[zzS];omega);have wt:WE (yn xk "tree_at" zl yI) [sT<|Qn c ts,sI k,sI i,sI j,none,none,none] d:=Wk (za (i:=0) rfl) (by decide +kernel) rfl (WD.e<|za (i:=1) rfl)<|Gk hk;have s4:=xo (p:=4) wt<|zk rfl;have ws:WE (zd (aC zN aN) yV) [sT<|Qn c ts,sI k,sI i,sI j,sT d,none,none] (.int R.length):=Xq (WD.e<|za (i:=4) rfl)<|Ks h hd;have s5:=El (WD.e<|za (i:=2) (s:=true) (x:=.int i) rfl) (WD.e<|zb (x:=.int 0)) ws (by omega) (by omega);have s6:=El (WD.e<|za (i:=3) (s:=true) (x:=.int j) rfl) (WD.e<|za (i:=2) (s:=true) (x:=.int i) rfl) ws (by omega) (by omega);have s7:=xo (p:=5) (as:=[sT<|Qn c ts,sI k,sI i,sI j,sT d,none,none]) (zQ (WD.e<|IX<|za (i:=0) rfl) (WD.e<|za (i:=4) rfl) (WD.e<|za (i:=3) rfl) a1)<|zk rfl;have s8:=xo (p:=6) (as:=[sT<|Qn c ts,sI k,sI i,sI j,sT d,sT<|.tup [a,z],none]) (zQ (WD.e<|IX<|za (i:=0) rfl) (WD.e<|vM (j:=5) (i:=0) rfl rfl) (WD.e<|za (i:=2) rfl) b1)<|zk rfl;rw[List.take_take,Nat.min_eq_left h1]at b2;exact⟨x,y,z,vJ rfl<|zL s4<|zL s5<|zL s6<|zL s7<|zL s8<|wu<|tP (os:=[.lf true x,.lf true y,.lf true z]) (y4 (vM (j:=6) rfl rfl)<|y4 (vM (j:=6) rfl rfl)<|y4 (vM (j:=5) rfl rfl) xp) (Sz rfl) rfl,b2,b3,a3⟩
def Ba{f:EF}{x:D}(h:WE f as x):WD (Qm f) as true x:=by
 obtain⟨o,h1,h2,h3⟩:=h;unfold WD Qm;rw[h1];show some (RV.ow<|.lf o.str o.toD,as)=_;rw[h2,h3]
def HV(h:c.Ok){u v w:D}{a b e:List (List Pt)}(ha:OT c l u a)(hb:OT c l v b)(he:OT c l w e)(hl:a.length+b.length+e.length<=900):∃d,zF [(true,Qn c ts),(true,u),(true,v),(true,w)]=sT d/\OT c l d (a++b++e):=by
 obtain⟨d1,p1,p2⟩:=ID h ha hb (by omega);obtain⟨d,q1,q2⟩:=ID h p2 he (by rw[zzJ];omega);exact⟨d,vJ rfl<|wu<|Ba<|zQ (WD.e<|IX<|za (i:=0) rfl) (zQ (WD.e<|IX<|za (i:=0) rfl) (WD.e<|za (i:=1) rfl) (WD.e<|za (i:=2) rfl) p1) (WD.e<|za (i:=3) rfl) q1,q2⟩
end
section
variable{c:Cx}{ts:List D}{as:AS}{i:Nat}{d:D}{R:List (List Pt)}{k l:Nat}
def US{m:Str}{tbl:List (Str×Fn)}{g:Fn}{fr:AF}{xs:List (Bool×D)}{o:O}(h:as[i]? = some (some<|yB c ts))(hm:m ∉ W6)(ht:Nx tbl "Makes"=some g)(b:WA fr as xs)(hg:g ((true,Qn c ts)::xs.map λx=>(zu x.2||x.1,x.2))=some o)(ho:ku W6 o=true):yZ i tbl m fr as=some (.ow o,as):=by
 unfold WA at b;unfold yZ;rw[h,MM];show(if m ∈ W6 then none else some "Makes":Option Str).bind _=_;rw[if_neg hm];show(Nx tbl "Makes").bind _=_;rw[ht];show(fr as).bind _=_;rw[b];show(Ei as[i]?).bind _=_;rw[h,MM,zyL];show(Xh as<|List.map (λx:Bool×D=>RV.ow<|O.lf x.1 x.2) xs).bind _=_;rw[We];show(g ((true,Qn c ts)::_)).bind _=_;rw[hg];show(if ku W6 o=true then some (RV.ow o,as)else none)=_;rw[if_pos ho]
def tZ(h:as[0]? = some (some<|yB c ts)):WD (Me 0 zX "way") as true c.w:=by
 unfold WD Me;rw[h];exact if_pos (c:=("Makes":Str) ∈ zX/\("way":Str)="way") (e:=none) ⟨by decide +kernel,rfl⟩
def A_{fr:AF}{d:D}(h:as[0]? = some (some<|yB c ts))(hr:WA fr as [(true,d)])(tl:ts.length<900):W4 (wB 0 "Makes" "keep" zO fr) as=some (.int ts.length,as.set 0<|some<|yB c<|ts++[d]):=by
 have hk:=U3 (as:=as) (i:=0) (c:=c) (ts:=ts) (m:="keep") (g:=zO) (fr:=fr) (rs:=[.ow<|.lf true d]) (xs:=[(true,d)]) h (by decide +kernel) hr (by
  show some [(zu d||true,d)]=_;rw[zyD])<|HM tl
 unfold W4;rw[hk];rfl
def cW{as1:AS}{a b:EF}{x y:D}(ha:WD a as true x)(hb:b as=some (.ow<|.lf true y,as1)):dC a (dC b dN) as=some ([.lf true x,.lf true y],as1):=by
 unfold WD at ha;show(a as).bind _=_;rw[ha];show((b as).bind _).bind _=_;rw[hb];rfl
def nN{fr:AF}{d:D}(h:as[0]? = some (some<|yB c ts))(hr:WA fr as [(true,d)])(tl:ts.length<900):wB 0 "Makes" "keep" zO fr as=some (.ow<|.lf true<|.int ts.length,as.set 0<|some<|yB c<|ts++[d]):=
 U3 (as:=as) (i:=0) (c:=c) (ts:=ts) (m:="keep") (g:=zO) (fr:=fr) (rs:=[.ow<|.lf true d]) (xs:=[(true,d)]) h (by decide +kernel) hr (by
  show some [(zu d||true,d)]=_;rw[zyD]) (HM tl)
def jV{n m:Nat}{f:VF}{xs:List ZA}{ts':List D}{v:D}{l:AS}(hn:xs.length+1=m)(hc:f (WN n (yB c ts::xs.map qH))=some (v,some (yB c ts')::l)):uG n m f xs (yB c ts)=some (v,yB c ts'):=by
 unfold uG;rw[if_pos hn];show(f<|WN n (yB c ts::xs.map qH)).bind _=_;rw[hc];show(if(yB c ts').str=true then _ else _)=_;rw[if_pos LC]
def Gs{k:Nat}{d:D}(hk:ts[k]? = some d):y6 [(true,Qn c ts),(true,.int k)]=sT d:=by
 have kl:=(zzG.mp hk).1;have wl:WD (fP (aC (f1 zl<|zJ xj "trees") aN) z_) [sT<|Qn c ts,sI k] true (.int ts.length):=Ai (WD.e<|O7<|za (i:=0) rfl) rfl;have w:=qE (zQ (WD.e<|za (as:=[sT<|Qn c ts,sI k]) (i:=1) rfl) (WD.e<|zb (x:=.int 0)) (WD.e<|Xa wl<|zb (x:=.int 1))<|RE.of<|LL (x:=k) (by omega)<|by omega);refine vJ rfl<|zL (zq (xX w) rfl)<|wu<|j3 (WD.e<|O7<|za (i:=0) rfl) (WD.e<|za (i:=1) rfl) ?_;have:=Nb (f:=λd:D=>d) hk
 rwa [List.map_id']at this
def KY{x y z:D}{a b e:List (List Pt)}(ha:OT c l x a)(hb:OT c l y b)(he:OT c l z e)(l1:a.length<=1000)(l2:b.length<=1000)(l3:e.length<=1000):ku W6 (.lf true<|.tup [x,y,z])=true:=by
 show(PF.nc W6 59 x&&(PF.nc W6 59 y&&(PF.nc W6 59 z&&true)))=true;rw[ha.nc l1 (by omega),hb.nc l2 (by omega),he.nc l3<|by omega];rfl
section
variable(h:c.Ok)(hk:ts[k]? = some d)(hd:OT c l d R)(hl:R.length<=900){i j:Nat}(h1:i<=j)(h2:j<=R.length)(tl:ts.length<900)
include h hk hd hl h1 h2 tl
def rR{T:Wt}{b:Nat}(hT:WO c.k c.n b T)(g:l+b<=LM):∃d',OT c (l+b) d' (R.take i++c.ap (some T) ((R.take j).drop i)++R.drop j)/\XZ [(true,.int k),(true,.int i),(true,.int j),(true,wD T)] (yB c ts)=some (.int ts.length,yB c<|ts++[d']):=by
 obtain⟨x,y,z,t1,ox,oy,oz⟩:=Pf h hk hd hl h1 h2;obtain⟨y',r1,oy'⟩:=ju h hT oy g (by rw[List.length_drop,zzS];omega);have lx:(R.take i).length<=900:=by rw[zzS];omega
 have ly:((R.take j).drop i).length<=900:=by rw[List.length_drop,zzS];omega
 have lz:(R.drop j).length<=900:=by rw[List.length_drop];omega
 obtain⟨d',g1,od⟩:=HV (ts:=ts) h (ox.up (Nat.le_add_right _ _) g) oy' (oz.up (Nat.le_add_right _ _) g) (by rw[Gc,List.length_drop,zzS,zzS,List.length_drop];omega);have w1:WD (yZ 0 ym "three_parts" (aC zi<|aC zA ZR)) [some<|yB c ts,sI k,sI i,sI j,sT<|wD T,none,none] true (.tup [x,y,z]):=US (c:=c) (ts:=ts) (g:=yq) rfl (by decide +kernel) rfl (zh (za (i:=1) rfl)<|zh (za (i:=2) rfl)<|zh (za (i:=3) rfl) zv) t1 (KY ox oy oz (by omega) (by omega)<|by omega);have s1:=yQ (st:=true) (i:=5) w1<|zk rfl;have wy:∀e,WD (Me 0 zX "way") [some<|yB c ts,sI k,sI i,sI j,sT<|wD T,sT<|.tup [x,y,z],e] true c.w:=λe=>tZ rfl;have wd:WE (yn Ge "is_deed" (Me 0 zX "way")<|aC zN aN) [some<|yB c ts,sI k,sI i,sI j,sT<|wD T,sT<|.tup [x,y,z],none] (.bl true):=Wk (wy none) (nW<|by decide +kernel) ((uf h.k2).trans<|by rw[ite_self,ite_self]) (WD.e<|za (i:=4) rfl)<|Af h hT.toWL;have ww:WE (yn Q3 "wait_of" (Me 0 zX "way")<|aC zN aN) [some<|yB c ts,sI k,sI i,sI j,sT<|wD T,sT<|.tup [x,y,z],none] (wD T):=iV h (wy none)<|WD.e<|za (i:=4) rfl;have s3:=xo (p:=6) (zQ (WD.e<|wy none) (WD.e<|vM (j:=5) (i:=1) rfl rfl) ww r1)<|zk rfl;have w4:WD (yZ 0 yh "three_together" (aC (f2 yC zM zZ)<|aC yz<|aC (f2 yC Zl zZ) aN)) [some<|yB c ts,sI k,sI i,sI j,sT<|wD T,sT<|.tup [x,y,z],sT y'] true d':=US (c:=c) (ts:=ts) (g:=zF) rfl (by decide +kernel) rfl (zh (vM (j:=5) rfl rfl)<|zh (za (i:=6) rfl)<|zh (vM (j:=5) rfl rfl) zv) (by
  show zF [_,(zu x||true,x),(zu y'||true,y'),(zu z||true,z)]=_;rw[zyD,zyD,zyD];exact g1) (od.nc (by rw[zzJ,zzJ,Gc,List.length_drop,zzS,zzS,List.length_drop];omega)<|by omega)
 exact⟨d',od,jV (l:=_) rfl<|Yg s1<|Yg (zq (xX (k:=true)<|qE wd) rfl)<|Yg s3<|A_ rfl (zh w4 zv) tl⟩
def J0:∃d',OT c l d' (R.take i++((R.take j).drop i).reverse++R.drop j)/\Z5 [(true,.int k),(true,.int i),(true,.int j)] (yB c ts)=some (.int ts.length,yB c<|ts++[d']):=by
 obtain⟨x,y,z,t1,ox,oy,oz⟩:=Pf h hk hd hl h1 h2;obtain⟨y',r1,oy'⟩:=qz h oy;have lx:(R.take i).length<=900:=by rw[zzS];omega
 have ly:((R.take j).drop i).length<=900:=by rw[List.length_drop,zzS];omega
 have lz:(R.drop j).length<=900:=by rw[List.length_drop];omega
 obtain⟨d',g1,od⟩:=HV (ts:=ts) h ox oy' oz (by rw[List.length_reverse,List.length_drop,zzS,zzS,List.length_drop];omega);have w1:WD (yZ 0 ym "three_parts" (aC zi<|aC zA ZR)) [some<|yB c ts,sI k,sI i,sI j,none] true (.tup [x,y,z]):=US (c:=c) (ts:=ts) (g:=yq) rfl (by decide +kernel) rfl (zh (za (i:=1) rfl)<|zh (za (i:=2) rfl)<|zh (za (i:=3) rfl) zv) t1 (KY ox oy oz (by omega) (by omega)<|by omega);have s1:=yQ (st:=true) (i:=4) w1<|zk rfl;have wy:WD (Me 0 zX "way") [some<|yB c ts,sI k,sI i,sI j,sT<|.tup [x,y,z]] true c.w:=tZ rfl;have w3:=y9 (g:=xC) (WD.e wy) (WD.e<|vM (j:=4) (i:=1) (z:=y) rfl rfl) r1;have w4:WD (yZ 0 yh "three_together" (aC (f2 zN zM zZ)<|aC (zd (aC (Me 0 zX "way")<|aC (f2 zN zV zZ) aN) xC)<|aC (f2 zN Zl zZ) aN)) [some<|yB c ts,sI k,sI i,sI j,sT<|.tup [x,y,z]] true d':=by
  refine US (c:=c) (ts:=ts) (g:=zF) rfl (by decide +kernel) rfl (zh (vM (j:=4) rfl rfl)<|xu w3<|zh (vM (j:=4) rfl rfl) zv) ?_ (od.nc (by rw[zzJ,zzJ,List.length_reverse,List.length_drop,zzS,zzS,List.length_drop];omega)<|by omega);show zF [_,(zu x||true,x),(zu y'||true,y'),(zu z||true,z)]=_;rw[zyD,zyD,zyD];exact g1
 exact⟨d',od,jV (l:=_) rfl<|Yg s1<|A_ rfl (zh w4 zv) tl⟩
def oi(t8:ts.length<800):∃d1 d2,OT c l d1 ((R.take j).drop i)/\OT c l d2 (R.take i++R.drop j)/\Vn [(true,.int k),(true,.int i),(true,.int j)] (yB c ts)=some (.tup [.int ts.length,.int (ts.length+1:Nat)],yB c<|ts++[d1]++[d2]):=by
 obtain⟨x,y,z,t1,ox,oy,oz⟩:=Pf h hk hd hl h1 h2;have lx:(R.take i).length<=900:=by rw[zzS];omega
 have ly:((R.take j).drop i).length<=900:=by rw[List.length_drop,zzS];omega
 have lz:(R.drop j).length<=900:=by rw[List.length_drop];omega
 obtain⟨d',g1,od⟩:=ID h ox oz (by rw[zzS,List.length_drop];omega);have w1:WD (yZ 0 ym "three_parts" (aC zi<|aC zA ZR)) [some<|yB c ts,sI k,sI i,sI j,none,none] true (.tup [x,y,z]):=US (c:=c) (ts:=ts) (g:=yq) rfl (by decide +kernel) rfl (zh (za (i:=1) rfl)<|zh (za (i:=2) rfl)<|zh (za (i:=3) rfl) zv) t1 (KY ox oy oz (by omega) (by omega)<|by omega);have s1:=yQ (st:=true) (i:=4) w1<|zk rfl;have k1:=nN (c:=c) (ts:=ts) (as:=[some<|yB c ts,sI k,sI i,sI j,sT<|.tup [x,y,z],none]) rfl (zh (vM (j:=4) (i:=1) (z:=y) rfl rfl) zv) (by omega);have s2:zE true 5 (wB 0 "Makes" "keep" zO<|aC (f2 zN zV zZ) aN) [some<|yB c ts,sI k,sI i,sI j,sT<|.tup [x,y,z],none]=some (.nx [some<|yB c<|ts++[y],sI k,sI i,sI j,sT<|.tup [x,y,z],sI ts.length]):=by
  unfold zE;rw[k1];rfl
 have w3:=zQ (g:=zD 20) (WD.e<|tZ (c:=c) (ts:=ts++[y]) (as:=[some<|yB c<|ts++[y],sI k,sI i,sI j,sT<|.tup [x,y,z],sI ts.length]) rfl) (WD.e<|vM (j:=4) (i:=0) (z:=x) rfl rfl) (WD.e<|vM (j:=4) (i:=2) (z:=z) rfl rfl) g1;have k2:=nN (c:=c) (ts:=ts++[y]) (as:=[some<|yB c<|ts++[y],sI k,sI i,sI j,sT<|.tup [x,y,z],sI ts.length]) rfl (xu w3 zv) (by rw[zzJ];show ts.length+1<900;omega);rw[show(ts++[y]).length=ts.length+1 from zzJ]at k2;have s3:W4 (Ze<|dC yC<|dC (wB 0 "Makes" "keep" zO<|aC (zd (aC (Me 0 zX "way")<|aC (f2 zN zM zZ)<|aC (f2 zN Zl zZ) aN)<|zD 20) aN) dN) [some<|yB c<|ts++[y],sI k,sI i,sI j,sT<|.tup [x,y,z],sI ts.length]=some (.tup [.int ts.length,.int (ts.length+1:Nat)],[some<|yB c<|ts++[y]++[d'],sI k,sI i,sI j,sT<|.tup [x,y,z],sI ts.length]):=by
  have e:dC yC (dC (wB 0 "Makes" "keep" zO<|aC (zd (aC (Me 0 zX "way")<|aC (f2 zN zM zZ)<|aC (f2 zN Zl zZ) aN)<|zD 20) aN) dN) [some<|yB c<|ts++[y],sI k,sI i,sI j,sT<|.tup [x,y,z],sI ts.length]=some ([Bz ts.length,Bz (ts.length+1:Nat)],[some<|yB c<|ts++[y]++[d'],sI k,sI i,sI j,sT<|.tup [x,y,z],sI ts.length]):=by
   exact cW (za (i:=5) rfl) k2
  unfold W4 Ze;rw[e];rfl
 exact⟨y,d',oy,od,jV (l:=_) rfl<|Yg s1<|Yg s2 s3⟩
omit h1 h2 in
theorem IA{v:List Pt}(hL:l<=LM)(hi:i<R.length)(hv:VO c.k c.n l v):∃d',OT c l d' (R.take i++[v]++R.drop (i+1))/\Zy [(true,.int k),(true,.int i),(true,vD v)] (yB c ts)=some (.int ts.length,yB c<|ts++[d']):=by
 obtain⟨x,y,z,t1,ox,oy,oz⟩:=Pf h hk hd hl (show i<=i+1 by omega) (by omega);obtain⟨y',r1,oy'⟩:=qx h hL (r:=[v]) (by show 1<=_;omega) (λw mw=>by rw[zzR.mp mw];exact hv);have lx:(R.take i).length<=900:=by rw[zzS];omega
 have ly:((R.take<|i+1).drop i).length<=900:=by rw[List.length_drop,zzS];omega
 have lz:(R.drop<|i+1).length<=900:=by rw[List.length_drop];omega
 obtain⟨d',g1,od⟩:=HV (ts:=ts) h ox oy' oz (by rw[zzS,List.length_drop];show _+1+_<=_;omega);have w0:WD (yZ 0 xk "tree_at" yI) [some<|yB c ts,sI k,sI i,sT<|vD v,none,none] true d:=US (c:=c) (ts:=ts) (g:=y6) rfl (by decide +kernel) rfl (zh (za (i:=1) rfl) zv) (Gs hk) (hd.nc (by omega)<|by omega);have s0:=yQ (st:=true) (i:=4) w0<|zk rfl;have ws:WD (f2 (zd (aC zN aN) yV) zV ZG) [some<|yB c ts,sI k,sI i,sT<|vD v,sT d,none] true (.int<|R.length-1):=Xa (Jk rfl<|Xq (WD.e<|za (i:=4) rfl)<|Ks h hd) zb;have s1:=El (WD.e<|za (as:=[some<|yB c ts,sI k,sI i,sT<|vD v,sT d,none]) (i:=2) (s:=true) (x:=.int i) rfl) (WD.e<|zb (x:=.int 0)) (WD.e ws) (by omega) (by omega);have s2:yO (yZ 0 xh "check_value" ZR) [some<|yB c ts,sI k,sI i,sT<|vD v,sT d,none]=some (.nx [some<|yB c ts,sI k,sI i,sT<|vD v,sT d,none]):=by
  unfold yO;rw[Cs (i:=0) (c:=c) (ts:=ts) (tbl:=xh) (g:=yN) (o:=.lf true .non) rfl (by decide +kernel) rfl (WD.e<|za (i:=3) rfl) (S_ h hv.toVL) rfl];rfl
 have w1:WD (yZ 0 ym "three_parts" (aC zi<|aC zA<|aC (f2 zA zV zt) aN)) [some<|yB c ts,sI k,sI i,sT<|vD v,sT d,none] true (.tup [x,y,z]):=US (c:=c) (ts:=ts) (g:=yq) rfl (by decide +kernel) rfl (zh (za (i:=1) rfl)<|zh (za (i:=2) rfl)<|zh (yA (za (i:=2) rfl)<|zb (x:=.int 1)) zv) t1 (KY ox oy oz (by omega) (by omega)<|by omega);have s3:=yQ (st:=true) (i:=5) w1<|zk rfl;have wy:WD (Me 0 zX "way") [some<|yB c ts,sI k,sI i,sT<|vD v,sT d,sT<|.tup [x,y,z]] true c.w:=tZ rfl;have w3:=y9 (g:=yM 20) (WD.e wy) (YU (os:=[.lf true<|vD v]) (x:=zH [v]) (y4 (za (i:=3) rfl) xp) (Sz rfl) rfl rfl) r1;have w4:WD (yZ 0 yh "three_together" (aC (f2 yC zM zZ)<|aC (zd (aC (Me 0 zX "way")<|aC (x9<|dC zU dN) aN)<|yM 20)<|aC (f2 yC Zl zZ) aN)) [some<|yB c ts,sI k,sI i,sT<|vD v,sT d,sT<|.tup [x,y,z]] true d':=by
  refine US (c:=c) (ts:=ts) (g:=zF) rfl (by decide +kernel) rfl (zh (vM (j:=5) rfl rfl)<|xu w3<|zh (vM (j:=5) rfl rfl) zv) ?_ (od.nc (by rw[zzJ,zzJ,zzS,List.length_drop];show _+1+_<=_;omega)<|by omega);show zF [_,(zu x||true,x),(zu y'||true,y'),(zu z||true,z)]=_;rw[zyD,zyD,zyD];exact g1
 exact⟨d',od,jV (l:=_) rfl<|Yg s0<|Yg s1<|Yg s2<|Yg s3<|A_ rfl (zh w4 zv) tl⟩
omit h1 h2 in
theorem nF{q:Nat}{d2:D}{Q:List (List Pt)}(hi:i<=R.length)(hq:ts[q]? = some d2)(hd2:OT c l d2 Q)(lq:R.length+Q.length<=300):∃d',OT c l d' (R.take i++Q++R.drop i)/\ZV [(true,.int k),(true,.int i),(true,.int q)] (yB c ts)=some (.int ts.length,yB c<|ts++[d']):=by
 obtain⟨x,z,a1,ox,oz⟩:=Jw h hd i (by omega) hi;obtain⟨d',g1,od⟩:=HV (ts:=ts) h ox hd2 oz (by rw[zzS,List.length_drop];omega);have w0:WD (yZ 0 xk "tree_at" yI) [some<|yB c ts,sI k,sI i,sI q,none,none,none] true d:=US (c:=c) (ts:=ts) (g:=y6) rfl (by decide +kernel) rfl (zh (za (i:=1) rfl) zv) (Gs hk) (hd.nc (by omega)<|by omega);have s0:=yQ (st:=true) (i:=4) w0<|zk rfl;have w1:WD (yZ 0 xk "tree_at" ZR) [some<|yB c ts,sI k,sI i,sI q,sT d,none,none] true d2:=US (c:=c) (ts:=ts) (g:=y6) rfl (by decide +kernel) rfl (zh (za (i:=3) rfl) zv) (Gs hq) (hd2.nc (by omega)<|by omega);have s1:=yQ (st:=true) (i:=5) w1<|zk rfl;have z1:WE (zd (aC zN aN) yV) [some<|yB c ts,sI k,sI i,sI q,sT d,sT d2,none] (.int R.length):=Xq (WD.e<|za (i:=4) rfl)<|Ks h hd;have z2:WE (zd MB yV) [some<|yB c ts,sI k,sI i,sI q,sT d,sT d2,none] (.int Q.length):=Xq (WD.e<|za (i:=5) rfl)<|Ks h hd2;have s2:=El (WD.e<|za (as:=[some<|yB c ts,sI k,sI i,sI q,sT d,sT d2,none]) (i:=2) (s:=true) (x:=.int i) rfl) (WD.e<|zb (x:=.int 0)) z1 (by omega) (by omega);have s3:yO (zd (aC (f2 (zd (aC zN aN) yV) (zd MB yV) zt) aN) x_) [some<|yB c ts,sI k,sI i,sI q,sT d,sT d2,none]=some (.nx [some<|yB c ts,sI k,sI i,sI q,sT d,sT d2,none]):=by
  unfold yO;have:=Fv (WD.e<|yA (Jk rfl z1)<|Jk rfl z2) (DY (k:=R.length+Q.length)<|by omega);unfold WD at this;rw[this];rfl
 have s4:=xo (p:=6) (as:=[some<|yB c ts,sI k,sI i,sI q,sT d,sT d2,none]) (zQ (WD.e<|tZ (c:=c) (ts:=ts) rfl) (WD.e<|za (i:=4) rfl) (WD.e<|za (i:=2) rfl) a1)<|zk rfl;have w4:WD (yZ 0 yh "three_together" (aC (f2 yz zM zZ)<|aC yC<|aC (f2 yz zV zZ) aN)) [some<|yB c ts,sI k,sI i,sI q,sT d,sT d2,sT<|.tup [x,z]] true d':=US (c:=c) (ts:=ts) (g:=zF) rfl (by decide +kernel) rfl (zh (vM (j:=6) rfl rfl)<|zh (za (i:=5) rfl)<|zh (vM (j:=6) rfl rfl) zv) (by
  show zF [_,(zu x||true,x),(zu d2||true,d2),(zu z||true,z)]=_;rw[zyD,zyD,zyD];exact g1) (od.nc (by rw[zzJ,zzJ,zzS,List.length_drop];omega)<|by omega)
 exact⟨d',od,jV (l:=_) rfl<|Yg s0<|Yg s1<|Yg s2<|Yg s3<|Yg s4<|A_ rfl (zh w4 zv) tl⟩
end
def S6{ts:List D}{d:D}{k i j:Nat}(h:c.Ok)(hk:ts[k]? = some d)(hd:OT c l d R)(hl:R.length<=900)(h1:i<=j)(h2:j<=R.length):YQ [(true,Qn c ts),(true,.int k),(true,.int i),(true,.int j)]=sT (vD<|c.h<|(R.take j).drop i):=by
 obtain⟨x,y,z,t1,ox,oy,oz⟩:=Pf h hk hd hl h1 h2;have w1:WE (yn ym "three_parts" zl<|aC zi<|aC zA ZR) [sT<|Qn c ts,sI k,sI i,sI j] (.tup [x,y,z]):=DE (c:="Makes") (ns:=W6) (za (i:=0) rfl) (by decide +kernel) rfl (WD.e<|za (i:=1) rfl) (WD.e<|za (i:=2) rfl) (WD.e<|za (i:=3) rfl) ⟨_,t1,rfl,rfl⟩;exact vJ rfl<|wu<|Ba<|y9 (WD.e<|IX<|za (i:=0) rfl) (WD.e<|j3 w1 (WD.e<|zb (x:=.int 1)) (show zZ (.tup [x,y,z]) (.int 1)=some (.im y)from rfl))<|pJ h oy
end
def ee{a b:EF}{as:AS}{r:List (List Pt)}{k:Nat}(ha:WD a as true (zH r))(hb:WD b as true (.int k))(hk:k<=r.length):WE (V1 a oN (oS b) Ql) as (zH<|r.take k):=by
 have c1:=s_ (xs:=(r.take k).map vD) (ys:=(r.drop k).map vD);rw[<-zyM,List.take_append_drop,zzB,zzS,Nat.min_eq_left hk]at c1;exact Lr ha rfl (Wx hb) c1
def JN{a b:EF}{as:AS}{r:List (List Pt)}{k:Nat}(ha:WD a as true (zH r))(hb:WD b as true (.int k))(hk:k<=r.length):WE (V1 a (oS b) oN Ql) as (zH<|r.drop k):=by
 have c1:=CG (xs:=(r.take k).map vD) (ys:=(r.drop k).map vD);rw[<-zyM,List.take_append_drop,zzB,zzS,Nat.min_eq_left hk]at c1;exact Lr ha (Wx hb) rfl c1
def Lo{a:EF}{as:AS}{r:List (List Pt)}(ha:WD a as true (zH r)):WD (fP (aC a aN) z_) as true (.int r.length):=by
 have:=yT (g:=z_) (x:=.int ((r.map vD).length:Nat)) (zh ha zv) rfl rfl;rw[zzB]at this;exact this
def QF{a b:EF}{as:AS}{r s:List (List Pt)}(ha:WE a as (zH r))(hb:WE b as (zH s))(hl:r.length+s.length<=1000):WE (f2 a b zt) as (zH<|r++s):=by
 have:=j5 ha hb (add_lists (xs:=r.map vD) (ys:=s.map vD)<|by rw[zzB,zzB];exact pb<|by omega);rw[<-zyM]at this;exact this
def cJ{as:AS}{a b:D}{i j:Nat}(hi:i<as.length)(hj:j<as.length):gT 2 (Wz (gN i)<|Wz (gN j) MV) (true,.tup [a,b]) as=some ((as.set i<|sT a).set j<|sT b):=by
 show Wz (gN i) (Wz (gN j) MV) (kids true [a,b]) as=_;rw[Ly];show(gN i (true,a) as).bind _=_;unfold gN;rw[if_pos hi];show((if j<(as.set i<|sT a).length then _ else _:Option AS)).bind _=_;rw[if_pos<|by rw[zzU];exact hj];rfl
def fZ{f:EF}{as:AS}{r:List (List Pt)}(h:WE f as (zH r)):WE (V1 f oN (oS<|f1 zV pV) eT) as (zH r.reverse):=by
 refine M7 (lo:=none) (hi:=some (-1)) h rfl (Wx<|lr zb) ?_;show(if(none:Option Int)=none/\some (-1:Int)=some (-1)then some (R0.fl (r.map vD).reverse)else none)=_;rw[if_pos ⟨rfl,rfl⟩,List.map_reverse]
def sL{a b d:EF}{as:AS}{r:List (List Pt)}{i k:Nat}(ha:WD a as true (zH r))(hb:WD b as true (.int i))(hd:WD d as true (.int k))(h1:i<=k)(h2:k<=r.length):WE (V1 a (oS b) (oS d) Ql) as (zH<|(r.take k).drop i):=by
 refine Lr ha (Wx hb) (Wx hd) ?_;show some (R0.fl<|PF.cutD (r.map vD) (some (i:Int))<|some (k:Int))=_;rw[lu vD r i k (by omega) h2,List.drop_take]
def ip{a b:EF}{as:AS}{r:List (List Pt)}{k:Nat}(ha:WD a as true (zH r))(hb:WD b as true (.int k)):WE (V1 a oN (oS b) Ql) as (zH<|r.take k):=by
 refine Lr ha rfl (Wx hb) ?_;show some (R0.fl<|PF.cutD (r.map vD) none<|some (k:Int))=_;unfold PF.cutD;rw[HT.PK,zzB];show some (R0.fl<|((r.map vD).take<|min k r.length).drop 0)=_;rw[List.drop_zero,<-List.map_take,List.take_eq_take_min (l:=r) (i:=k)]
def ff(V:Nat->Bool):Nat->Nat->Option Nat
 |0,_=>none
 |n+1,k=>if V k=true then some k else ff V n<|k+1
theorem qo{V:Nat->Bool}:∀{n i k:Nat},ff V n i=some k->i<=k/\k<i+n
 |n+1,i,k,h=>by
  unfold ff at h
  by_cases e:V i=true
  . rw[if_pos e]at h;cases h;omega
  . rw[if_neg e]at h;have:=qo h;omega
def eV:Option Nat->Option Nat->Option Nat
 |some k,_=>some k
 |none,x=>x
theorem tD{V:Nat->Bool}:∀(n m i:Nat),ff V (n+m) i=eV (ff V n i) (ff V m<|i+n)
 |0,m,i=>by rw[zyX];rfl
 |n+1,m,i=>by
  have e1:∀m,ff V (m+1) i=if V i=true then some i else ff V m (i+1):=λ_=>rfl
  rw[show n+1+m=n+m+1 by omega,e1,e1]
  by_cases e:V i=true
  . rw[if_pos e,if_pos e];rfl
  . rw[if_neg e,if_neg e,tD n m<|i+1,show i+1+n=i+(n+1) by omega]
theorem Im{V W:Nat->Bool}:∀{n i:Nat},(∀k,i<=k->k<i+n->V k=W k)->ff V n i=ff W n i
 |0,_,_=>rfl
 |n+1,i,h=>by
  unfold ff;rw[h i (zzN _) (by omega),Im (n:=n) (i:=i+1) λk a b=>h k (by omega)<|by omega]
abbrev kP(o:Option Nat):Pt:=o.map λk=>(k:Int)
theorem rj{G:GF}{B:SF}{V:Nat->Bool}{I:Nat->AS->Prop}{i0 N:Nat}(hB:∀(k:Nat) (as:AS),i0<=k->k<N->I k as->∃as1,G (true,.int (k:Int)) as=some as1/\(V k=true->B as1=some (.rt<|.lf true<|.int (k:Int)))/\(V k=false->∃as2,B as1=some (.nx as2)/\I (k+1) as2)):
 ∀(n i:Nat) (as:AS),i0<=i->i+n<=N->I i as->(∀k,ff V n i=some k->forL G B (Xl i n) as=some (.rt<|.lf true<|.int (k:Int)))/\(ff V n i=none->∃as',forL G B (Xl i n) as=some (.nx as'))
 |0,i,as,_,_,h=>⟨λ_ e=>(nomatch e),λ_=>⟨as,rfl⟩⟩
 |n+1,i,as,h0,h1,h=>by
  obtain⟨as1,g,b1,b2⟩:=hB i as h0 (by omega) h;rw[Ng];unfold ff;cases e:V i with
  |true=>
   rw[if_pos rfl];exact⟨λk z=>by cases z;exact qB g<|b1 e,λz=>(nomatch z)⟩
  |false=>
   rw[if_neg zyV];obtain⟨as2,c1,c2⟩:=b2 e;obtain⟨q1,q2⟩:=rj hB n (i+1) as2 (by omega) (by omega) c2;exact⟨λk z=>wZ g c1<|q1 k z,λz=>(q2 z).imp λ_ q=>wZ g c1 q⟩
section
variable{c:Cx}{ts:List D}{d:D}{R:List (List Pt)}{k l:Nat}
def NY(c:Cx)(R:List (List Pt))(i k:Nat):List Pt:=c.h<|(R.take k).drop i
def eA{i:Nat}:NY c R i i=c.h []:=by
 unfold NY;rw[List.drop_take,Nat.sub_self];rfl
def OY{i k:Nat}(hr:∀v ∈ R,VL c.k c.n v):∀v ∈ (R.take k).drop i,VL c.k c.n v:=λx m=>hr x<|List.mem_of_mem_take<|List.mem_of_mem_drop m
def kY{i k:Nat}(hr:∀v ∈ R,VL c.k c.n v):VL c.k c.n (NY c R i k):=VL.hv<|OY hr
def iG{i j:Nat}{x:List Pt}(hi:i<=j)(hx:R[j]? = some x):(R.take<|j+1).drop i=(R.take j).drop i++[x]:=by
 rw[List.take_succ,hx,List.drop_append_of_le_length<|by rw[zzS];have:=(zzG.mp hx).1;omega];rfl
def eS(hr:∀v ∈ R,VL c.k c.n v){i j:Nat}{x:List Pt}(hi:i<=j)(hx:R[j]? = some x):NY c R i (j+1)=jv c.k (NY c R i j) x:=by
 have mx:=hr x<|zyA hx;unfold NY;rw[iG hi hx];show BE _ _ _=_;rw[FL _ _ (λu mu=>by rw[zzR.mp mu];exact mx),BQ mx]
abbrev sV(c:Cx)(R:List (List Pt))(i q:Nat)(t:Int)(k:Nat):Bool:=oq t<|at_ (NY c R i<|k+1) q
def gH{as:AS}{i j k:Nat}{r:List (List Pt)}{x:List Pt}(h:as[i]? = some (sT<|zH r))(h2:as[j]? = some (sI k))(hx:r[k]? = some x):WE (f2 (fV i) (fV j) zZ) as (vD x):=
 wG (WD.e<|za h) (WD.e<|za h2) (Nb hx)
def uc(h:c.Ok)(hk':ts[k]? = some d)(hd:OT c l d R)(hl:R.length<=900){i:Nat}(hi:i<=R.length){q:Nat}{t:Int}(hq:q<c.n):RE (YN [(true,Qn c ts),(true,.int k),(true,.int i),(true,Gy q t)]) (pD<|kP<|ff (sV c R i q t) (R.length-i) i):=by
 have hr:=Uv<|hd.in h;let A:D->Option O->Option O->AS:=λx a b=>[sT<|Qn c ts,sI k,sI i,sT<|Gy q t,sT x,a,b];have s4:=xo (p:=4) (as:=[sT<|Qn c ts,sI k,sI i,sT<|Gy q t,none,none,none]) (Wk (ns:=W6) (m:="listed") (tbl:=Qa) (za (i:=0) rfl) (by decide +kernel) rfl (WD.e<|za (i:=1) rfl)<|S4 h hk' hd hl)<|zk rfl;have wn:∀a b,WD (fP (aC zN aN) z_) (A (zH R) a b) true (.int R.length):=λa b=>Lo<|za (i:=4) rfl;have s5:=El (WD.e<|za (as:=A (zH R) none none) (i:=2) (s:=true) (x:=.int i) rfl) (WD.e<|zb (x:=.int 0)) (WD.e<|wn none none) (by omega) (by omega);have wy:∀a b,WD (f1 zl<|zJ zX "way") (A (zH R) a b) true c.w:=λa b=>IX<|za (i:=0) rfl;have w6:WE (yn Gr "is_sign" (f1 zl<|zJ zX "way") ZR) (A (zH R) none none) (.bl true):=Wk (wy _ _) (nW<|by decide +kernel) (fD h.k2) (WD.e<|za (i:=3) rfl)<|Jt h hq;have s7:=xo (p:=5) (cc h<|wy none none)<|zk rfl;obtain⟨q1,q2⟩:=rj (G:=gN 6) (B:=zx (zE true 5<|yn Y1 "join" (f1 zl<|zJ zX "way")<|aC yC<|aC (f2 zN yz zZ) aN)<|xD (fT<|yn Y3 "has_sign" (f1 zl<|zJ zX "way")<|aC zU MB) (zz yz) vB) (V:=sV c R i q t) (I:=λj as=>∃e,as=A (zH R) (sT<|vD<|NY c R i j) e) (i0:=i) (N:=R.length) (λj as hj hn hI=>by
  obtain⟨e,rfl⟩:=hI;obtain⟨x,hx⟩:∃x,R[j]? = some x:=⟨_,zzE hn⟩;have wj:=dr h (kY (i:=i) (k:=j) hr) (hr x<|zyA hx) (wy (sT<|vD<|NY c R i j)<|sI j) (WD.e<|za (i:=5) rfl)<|gH (i:=4) (j:=6) (r:=R) rfl rfl hx;rw[<-eS hr hj hx]at wj;have sj:=xo (p:=5) wj<|zk rfl;have wh:=qE<|NF (tbl:=Y3) (m:="has_sign") (wy (sT<|vD<|NY c R i<|j+1)<|sI j) (nW<|by decide +kernel) (fD h.k2) (WD.e<|za (i:=3) rfl) (WD.e<|za (i:=5) rfl)<|CA (t:=t) h hq<|kY (i:=i) (k:=j+1) hr;refine⟨A (zH R) (sT<|vD<|NY c R i j)<|sI j,rfl,λz=>?_,λz=>?_⟩
  . have z:oq t (at_ (NY c R i<|j+1) q)=true:=z;rw[z]at wh;exact zL sj<|WY wh<|wu<|za (i:=6) rfl
  . have z:oq t (at_ (NY c R i<|j+1) q)=false:=z;rw[z]at wh;exact⟨_,zL sj<|zq wh rfl,_,rfl⟩) (R.length-i) i (A (zH R) (sT<|vD<|NY c R i i) none) (zzN _) (by omega) ⟨none,rfl⟩
 rw[eA]at q1 q2;have hr2:=Et (zh (za (as:=A (zH R) (sT<|vD<|c.h []) none) (i:=2) (x:=.int i) (s:=true) rfl)<|zh (wn _ _) zv) (by omega) (by omega) (by omega) (by omega);rw[show((R.length:Int)-i).toNat=R.length-i by omega]at hr2;have fin:∀{o:O},(zx (XW (Xo (aC zA<|aC (fP (aC zN aN) z_) aN) JO) (gN 6)<|zx (zE true 5<|yn Y1 "join" (f1 zl<|zJ zX "way")<|aC yC<|aC (f2 zN yz zZ) aN)<|xD (fT<|yn Y3 "has_sign" (f1 zl<|zJ zX "way")<|aC zU MB) (zz yz) vB)<|zz<|fC .non) (A (zH R) (sT<|vD<|c.h []) none)=some (.rt o)->YN [(true,Qn c ts),(true,.int k),(true,.int i),(true,Gy q t)]=some o:=λe=>vJ rfl<|zL s4<|zL s5<|zL (zq (xX (k:=true)<|qE w6) rfl)<|zL s7 e;cases z:ff (sV c R i q t) (R.length-i) i with
 |some k=>exact⟨_,fin<|G_<|vC hr2<|q1 k z,rfl,rfl⟩
 |none=>
  obtain⟨as',e⟩:=q2 z;exact⟨_,fin<|zL (vC hr2 e)<|wu zb,rfl,rfl⟩
def uH(h:c.Ok)(hr:∀v ∈ R,VL c.k c.n v)(hl:R.length<=900){i:Nat}(hi:i<=R.length){q:Nat}{t:Int}(hq:q<c.n):RE (Rx [(true,.int c.k),(true,zH R),(true,.int i),(true,Gy q t),(true,.int c.n)]) (pD<|kP<|ff (sV c R i q t) (R.length-i) i):=by
 let A:Option O->Option O->AS:=λa b=>[sI c.k,sT<|zH R,sI i,sT<|Gy q t,sI c.n,a,b];let B:SF:=zx (zE true 6<|f2 (zd (aC zl<|aC (V1 zi (oS zA) (oS<|f2 yC zV zt) Ql)<|aC zN aN) x8) (f2 zU zM zZ) zZ)<|xD (Za (fT<|f2 yz (fC .non)<|zo .IsNot)<|fT<|f2 yz (f2 zU zV zZ)<|zo .GtE) (zz yC) vB;obtain⟨q1,q2⟩:=rj (G:=gN 5) (B:=B) (V:=sV c R i q t) (I:=λ_ as=>∃a b,as=A a b) (i0:=i) (N:=R.length) (λj as hj hn hI=>by
  obtain⟨a,b,rfl⟩:=hI;have wa:=yA (za (as:=A (sI j) b) (i:=5) (x:=.int j) (s:=true) rfl)<|zb (x:=.int 1);have ws:=sL (k:=j+1) (za (as:=A (sI j) b) (i:=1) (x:=zH R) (s:=true) rfl) (za (i:=2) (x:=.int i) (s:=true) rfl) wa (by omega) (by omega);have wc:=zQ (WD.e<|za (as:=A (sI j) b) (i:=0) (x:=.int c.k) rfl) ws (WD.e<|za (i:=4) (x:=.int c.n) rfl)<|LU h.k2 h.n3<|OY hr;have w6:=wG wc (WD.e<|zY (g:=zZ) (z:=.int q) (za (i:=3) (x:=Gy q t) (s:=true) rfl) (zb (x:=.int 0)) rfl rfl)<|pM (kY (i:=i) (k:=j+1) hr).1 hq;have s6:=xo (p:=6) w6<|zk rfl;have wt:=W3 (as:=A (sI j)<|sT<|pD<|at_ (NY c R i<|j+1) q) (k:=(at_ (NY c R i<|j+1) q).isSome) (l:=oq t<|at_ (NY c R i<|j+1) q) (zC (Z4<|za (i:=6) (s:=true) rfl) rfl) (λe=>by
   have w1:WD (f2 zU zV zZ) (A (sI j)<|sT<|pD<|at_ (NY c R i<|j+1) q) true (.int t):=zY (za (i:=3) (x:=Gy q t) (s:=true) rfl) zb rfl rfl;generalize at_ (NY c R i<|j+1) q=p at e w1 ⊢
   cases p with
   |none=>exact nomatch e
   |some x=>exact zC (t7 (za (i:=6) (x:=.int x) (s:=true) rfl) w1) rfl) (λe=>by
   generalize at_ (NY c R i<|j+1) q=p at e ⊢
   cases p with
   |none=>rfl
   |some x=>exact nomatch e)
  refine⟨A (sI j) b,rfl,λz=>?_,λz=>?_⟩
  . have z:oq t (at_ (NY c R i<|j+1) q)=true:=z;rw[z]at wt;exact zL s6<|WY wt<|wu<|za (i:=5) rfl
  . have z:oq t (at_ (NY c R i<|j+1) q)=false:=z;rw[z]at wt;exact⟨_,zL s6<|zq wt rfl,_,_,rfl⟩) (R.length-i) i (A none none) (zzN _) (by omega) ⟨_,_,rfl⟩
 have hr2:=Et (zh (za (as:=A none none) (i:=2) (x:=.int i) (s:=true) rfl)<|zh (Lo<|za (i:=1) (x:=zH R) rfl) zv) (by omega) (by omega) (by omega) (by omega);rw[show((R.length:Int)-i).toNat=R.length-i by omega]at hr2;cases z:ff (sV c R i q t) (R.length-i) i with
 |some k=>exact⟨_,vJ rfl<|G_<|vC hr2<|q1 k z,rfl,rfl⟩
 |none=>
  obtain⟨as',e⟩:=q2 z;exact⟨_,vJ rfl<|zL (vC hr2 e)<|wu zb,rfl,rfl⟩
end
def tT{ta:TF}{f g:VF}{as:AS}{x:Option (D×AS)}(h:WT ta as true)(k:f as=x):qJ ta f g as=x:=by
 unfold qJ;rw[show ta as=some (true,as)from h];exact k
def Gv{ta:TF}{f g:VF}{as:AS}{x:Option (D×AS)}(h:WT ta as false)(k:g as=x):qJ ta f g as=x:=by
 unfold qJ;rw[show ta as=some (false,as)from h];exact k
def uD{a b:EF}{as as1:AS}{x y:D}(ha:a as=some (.ow<|.lf true x,as1))(hb:WD b as1 true y):W4 (Ze<|dC a<|dC b dN) as=some (.tup [x,y],as1):=by
 have h:=q_ (os:=[.lf true x,.lf true y]) (Ki ha<|Ki hb (show dN as1=some ([],as1)from rfl))<|Sz rfl;unfold W4;rw[h];rfl
def bj{f:EF}{as as1:AS}{x:D}(h:f as=some (.ow<|.lf true x,as1)):Qm f as=some (.ow<|.lf true x,as1):=by
 unfold Qm;rw[h];rfl
def iR{as:AS}{f:EF}(r:List (List Pt))(h:WE f as (zH r)):Vz f as=some (r.map λv=>(true,vD v),as):=by
 rw[nO h,zyB];rfl
def Ji{f:EF}{as as1:AS}{x:D}(h:f as=some (.ow<|.lf true x,as1)):Qm (x9<|dC (Qm f) dN) as=some (.ow<|.lf true<|.lst [x],as1):=by
 have e:dC (Qm f) dN as=some ([.lf true x],as1):=Ki (bj h) (show dN as1=some ([],as1)from rfl);have e2:x9 (dC (Qm f) dN) as=some (.ow<|.nd .ls [.lf true x],as1):=by
  unfold x9;rw[e];exact if_pos (e:=none)<|show[O.lf true x].length<=sizeLine from Sz rfl
 show(x9 (dC (Qm f) dN) as).bind _=_;rw[e2];rfl
def CD{f:EF}{as:AS}{x:D}(h:WE f as x):WE (x9<|dC (Qm f) dN) as (.lst [x]):=YU (os:=[.lf true x]) (y4 (Ba h) xp) (Sz rfl) rfl rfl
def iK{f g:EF}{as:AS}{x y:D}(h:WE f as x)(h':WE g as y):WE (x9<|dC (Qm f)<|dC (Qm g) dN) as (.lst [x,y]):=YU (os:=[.lf true x,.lf true y]) (y4 (Ba h)<|y4 (Ba h') xp) (Sz rfl) rfl rfl
def kc{f:EF}{as as1:AS}{a b:Int}(h:f as=some (.ow<|.lf true<|.tup [.int a,.int b],as1)):Qm (fP (aC f aN) lstP) as=some (.ow<|.lf true<|.lst [.int a,.int b],as1):=by
 have e:aC f aN as=some ([.ow<|.lf true<|.tup [.int a,.int b]],as1):=by
  unfold aC;rw[h];rfl
 have e2:fP (aC f aN) lstP as=some (.ow<|.nd .ls [.lf true<|.int a,.lf true<|.int b],as1):=by
  unfold fP;rw[e];rfl
 show(fP (aC f aN) lstP as).bind _=_;rw[e2];rfl
abbrev xF(rs:List (List<|List Pt)):D:=.lst<|rs.map zH
structure Ls(c:Cx)(l:Nat)(ts:List D)(rs:List (List<|List Pt)):Prop where
 len:ts.length=rs.length
 get:∀(k:Nat) d R,ts[k]? = some d->rs[k]? = some R->OT c l d R/\R.length<=90
theorem Ls.up{c:Cx}{l l':Nat}{ts rs}(h:Ls c l ts rs)(g:l<=l')(m:l'<=LM):Ls c l' ts rs:=⟨h.len,λk d R a b=>⟨(h.get k d R a b).1.up g m,(h.get k d R a b).2⟩⟩
def Ls.app{c:Cx}{l:Nat}{ts ds rs qs}(h:Ls c l ts rs)(g:Ls c l ds qs):Ls c l (ts++ds) (rs++qs):=⟨by rw[zzJ,zzJ,h.len,g.len],λk d R a b=>by
 by_cases e:k<ts.length
 . rw[zyP e]at a;rw[zyP<|by rw[<-h.len];exact e]at b;exact h.get k d R a b
 . rw[zyR<|by omega]at a;rw[zyR (by rw[<-h.len];omega),<-h.len]at b;exact g.get _ d R a b⟩
def Ls.one{c:Cx}{l:Nat}{d:D}{R:List (List Pt)}(h:OT c l d R)(g:R.length<=90):Ls c l [d] [R]:=⟨rfl,λk d' R' a b=>by
 cases k with
 |zero=>cases a;cases b;exact⟨h,g⟩
 |succ k=>cases a⟩
def Ls.two{c:Cx}{l:Nat}{d e:D}{R S:List (List Pt)}(h:OT c l d R)(g:R.length<=90)(h':OT c l e S)(g':S.length<=90):Ls c l [d,e] [R,S]:=(Ls.one h g).app<|Ls.one h' g'
def tj{n:Nat} : [(n:Int)]=Jm n (n+1:Nat):=by
 show _=(List.range<|(((n+1:Nat):Int)-n).toNat).map _;rw[show(((n+1:Nat):Int)-n).toNat=1 by omega];show _=[(n:Int)+(0:Nat)];rw[show(n:Int)+(0:Nat)=n by omega]
def eN{n:Nat} : [(n:Int),((n+1:Nat):Int)]=Jm n (n+2:Nat):=by
 show _=(List.range<|(((n+2:Nat):Int)-n).toNat).map _;rw[show(((n+2:Nat):Int)-n).toNat=2 by omega];show _=[(n:Int)+(0:Nat),(n:Int)+(1:Nat)];rw[show(n:Int)+(0:Nat)=n by omega];rfl
abbrev nm(x:Int)(k:Nat):Nat:=(x%(k:Int)).toNat
def UA(x:Int){k:Nat}(hk:1<=k):nm x k<k:=by
 have h0:=zyN x (show(k:Int)≠0 by omega);have h1:=zyH x (show(0:Int)<k by omega);show(x%(k:Int)).toNat<k;omega
def MA{a b:EF}{as:AS}{x:Int}{k:Nat}(ha:WD a as true (.int x))(hk:1<=k)(hb:WD b as true (.int k)):WD (f2 a b yp) as true (.int<|nm x k):=by
 have h0:=zyN x (show(k:Int)≠0 by omega);have:=Z6 ha hb (by omega);rw[show x%(k:Int)=((x%(k:Int)).toNat:Int) by omega]at this;exact this
def rh{α:Type}{f:α->D}{l:List α}{a:EF}{as:AS}(h:WD a as true (.lst<|l.map f)):WD (fP (aC a aN) z_) as true (.int l.length):=by
 have:=yT (g:=z_) (x:=.int ((l.map f).length:Nat)) (zh h zv) rfl rfl;rw[zzB]at this;exact this
abbrev eD(c:Cx)(ts:List D)(rs:List (List<|List Pt))(xs:List Int)(z:Int)(k n:Nat)(e6 e7 e8 e9 e10 e11 e12 e13 e14:Option O):AS:=[some<|yB c ts,sT<|xF rs,sT<|.lst<|xs.map .int,sI z,sI k,sI n,e6,e7,e8,e9,e10,e11,e12,e13,e14]
section
variable{c:Cx}{ts:List D}{rs:List (List<|List Pt)}{l:Nat}
abbrev cb(c:Cx)(l:Nat)(ts:List D)(x:Option (D×O)):Prop:=∃(ds:List D) (qs:List (List<|List Pt)),x=some (.tup [.lst<|(Jm ts.length (ts.length+qs.length:Nat)).map .int,xF qs],yB c<|ts++ds)/\Ls c (l+210) ds qs/\1<=qs.length/\qs.length<=2
def Al(h:c.Ok)(hL:l+210<=LM)(l0:210<=l)(hs:Ls c l ts rs)(r1:1<=rs.length)(r2:rs.length<=200)(x0 x1 x2 x3 x4 x5 z:Int):cb c l ts (yF [(true,xF rs),(true,.lst<|[x0,x1,x2,x3,x4,x5].map .int),(true,.int z),(true,.int c.k),(true,.int c.n)]<|yB c ts):=by
 have hL':l+210<=500000:=hL;have n3:=h.n3;have tl:ts.length<=200:=by rw[hs.len];exact r2
 let A0:Option O->Option O->Option O->Option O->Option O->Option O->AS:=λe6 e7 e8 e9 e10 e11=>eD c ts rs [x0,x1,x2,x3,x4,x5] z c.k c.n e6 e7 e8 e9 e10 e11 none none none;have wx:∀(as:AS),as[2]? = some (sT<|.lst<|[x0,x1,x2,x3,x4,x5].map .int)->∀(m:Int) (x:Int),zZ (.lst<|[x0,x1,x2,x3,x4,x5].map .int) (.int m)=some (.im<|.int x)->WD (f2 zA (fC<|.int m) zZ) as true (.int x):=λas a m x e=>zY (za a) zb e rfl;obtain⟨ml,hm⟩:∃m,m=nm x1 rs.length:=⟨_,rfl⟩;have s6:=yQ (st:=true) (i:=6) (MA (wx (A0 none none none none none none) rfl 1 x1 rfl) r1<|rh<|za (i:=1) (x:=xF rs) rfl)<|zk rfl;rw[<-hm]at s6;have lm:ml<rs.length:=by rw[hm];exact UA _ r1
 obtain⟨R,hR⟩:∃R,rs[ml]? = some R:=⟨_,zzE lm⟩;obtain⟨d,hd⟩:∃d,ts[ml]? = some d:=⟨_,zzE<|by rw[hs.len];exact lm⟩;obtain⟨od,lR⟩:=hs.get ml d R hd hR;have s7:=xo (p:=7) (as:=A0 (sI ml) none none none none none) (wG (WD.e<|za (i:=1) rfl) (WD.e<|za (i:=6) rfl)<|Nb hR)<|zk rfl;have w1:∀e8 e9 e10 e11,WD (f2 (fP EK z_) zV zt) (A0 (sI ml) (sT<|zH R) e8 e9 e10 e11) true (.int ((R.length+1:Nat):Int)):=λ_ _ _ _=>yA (Lo<|za (i:=7) rfl)<|zb (x:=.int 1);obtain⟨i,hi⟩:∃i,i=nm x2 (R.length+1):=⟨_,rfl⟩;have s8:=yQ (st:=true) (i:=8) (MA (wx (A0 (sI ml) (sT<|zH R) none none none none) rfl 2 x2 rfl) (by omega)<|w1 _ _ _ _)<|zk rfl;rw[<-hi]at s8;have li:i<=R.length:=by have:=UA x2 (k:=R.length+1) (by omega);omega
 have w2:WD (f2 (f2 (fP EK z_) zV zt) (fV 8) ZG) (A0 (sI ml) (sT<|zH R) (sI i) none none none) true (.int ((R.length+1-i:Nat):Int)):=by
  have:=Xa (w1 (sI i) none none none)<|za (i:=8) (x:=.int i) (s:=true) rfl;rw[show((R.length+1:Nat):Int)-i=((R.length+1-i:Nat):Int) by omega]at this;exact this
 obtain⟨j,hj⟩:∃j,j=i+nm x3 (R.length+1-i):=⟨_,rfl⟩;have s9:=yQ (st:=true) (i:=9) (yA (za (i:=8) (x:=.int i) (s:=true) rfl)<|MA (wx (A0 (sI ml) (sT<|zH R) (sI i) none none none) rfl 3 x3 rfl) (by omega) w2)<|zk rfl;rw[show(i:Int)+(nm x3 (R.length+1-i):Nat)=((i+nm x3 (R.length+1-i):Nat):Int)from rfl,<-hj]at s9;have ij:i<=j:=by omega
 have lj:j<=R.length:=by have:=UA x3 (k:=R.length+1-i) (by omega);omega
 obtain⟨q,hq⟩:∃q,q=nm x4 rs.length:=⟨_,rfl⟩;have lq:q<rs.length:=by rw[hq];exact UA _ r1
 obtain⟨Q,hQ⟩:∃Q,rs[q]? = some Q:=⟨_,zzE lq⟩;obtain⟨d2,hd2⟩:∃d,ts[q]? = some d:=⟨_,zzE<|by rw[hs.len];exact lq⟩;obtain⟨od2,lQ⟩:=hs.get q d2 Q hd2 hQ;have wq:∀e10 e11 e12 e13 e14,WD (f2 (f2 zA CM zZ) (fP yI z_) yp) (eD c ts rs [x0,x1,x2,x3,x4,x5] z c.k c.n (sI ml) (sT<|zH R) (sI i) (sI j) e10 e11 e12 e13 e14) true (.int q):=λe10 e11 e12 e13 e14=>by
  rw[hq];exact MA (wx _ rfl 4 x4 rfl) r1<|rh<|za (i:=1) (x:=xF rs) rfl
 have s10:=xo (p:=10) (as:=A0 (sI ml) (sT<|zH R) (sI i) (sI j) none none) (wG (WD.e<|za (i:=1) rfl) (WD.e<|wq _ _ _ _ _)<|Nb hQ)<|zk rfl;obtain⟨t,ht⟩:∃t,t=nm x0 9:=⟨_,rfl⟩;have s11:=yQ (st:=true) (i:=11) (MA (wx (A0 (sI ml) (sT<|zH R) (sI i) (sI j) (sT<|zH Q) none) rfl 0 x0 rfl) (by decide)<|zb (x:=.int (9:Nat)))<|zk rfl;rw[<-ht]at s11;let B:List D->Option O->Option O->Option O->AS:=λts' e12 e13 e14=>eD c ts' rs [x0,x1,x2,x3,x4,x5] z c.k c.n (sI ml) (sT<|zH R) (sI i) (sI j) (sT<|zH Q) (sI t) e12 e13 e14;let A:Option O->Option O->Option O->AS:=λe12 e13 e14=>B ts e12 e13 e14;have fin:∀{v:D}{ts':List D}{m:AS}{rest:VF},rest (A none none none)=some (v,some (yB c ts')::m)->Vs=(wA (zE true 6<|f2 (f2 zA zV zZ) (fP yI z_) yp)<|wA (zE true 7<|f2 zi yz zZ)<|wA (zE true 8<|f2 (f2 zA Zl zZ) (f2 (fP EK z_) zV zt) yp)<|wA (zE true 9<|f2 (fV 8) (f2 (f2 zA O8 zZ) (f2 (f2 (fP EK z_) zV zt) (fV 8) ZG) yp) zt)<|wA (zE true 10<|f2 zi (f2 (f2 zA CM zZ) (fP yI z_) yp) zZ)<|wA (zE true 11<|f2 (f2 zA zM zZ) (fC<|.int 9) yp) rest)->yF [(true,xF rs),(true,.lst<|[x0,x1,x2,x3,x4,x5].map .int),(true,.int z),(true,.int c.k),(true,.int c.n)] (yB c ts)=some (v,yB c ts'):=λ{v ts' m rest} hr he=>by
  refine jV (l:=m) rfl ?_;rw[he];exact Yg s6<|Yg s7<|Yg s8<|Yg s9<|Yg s10<|Yg s11 hr
 have mO:∀{e12 e13 e14:Option O}{m:Str}{gg:List ZA->O->Option (D×O)}{fr:AF}{rv:List RV}{xs:List ZA}{w:D}{ts':List D},m ∉ W6->fr (A e12 e13 e14)=some (rv,A e12 e13 e14)->Tb 0 (A e12 e13 e14) rv=some xs->gg xs (yB c ts)=some (w,yB c ts')->wB 0 "Makes" m gg fr (A e12 e13 e14)=some (.ow<|.lf true w,B ts' e12 e13 e14):=λhm hr ha hg=>U3 (i:=0) rfl hm hr ha hg;have v6:∀u e f g,WD yz (B u e f g) true (.int ml):=λ_ _ _ _=>za (i:=6) rfl;have v7:∀u e f g,WD Ym (B u e f g) true (zH R):=λ_ _ _ _=>za (i:=7) rfl;have v8:∀u e f g,WD (fV 8) (B u e f g) true (.int i):=λ_ _ _ _=>za (i:=8) rfl;have v9:∀u e f g,WD (fV 9) (B u e f g) true (.int j):=λ_ _ _ _=>za (i:=9) rfl;have v10:∀u e f g,WD (fV 10) (B u e f g) true (zH Q):=λ_ _ _ _=>za (i:=10) rfl;have v4:∀u e f g,WE zN (B u e f g) (.int c.k):=λ_ _ _ _=>WD.e<|za (i:=4) rfl;have v5:∀u e f g,WE yC (B u e f g) (.int c.n):=λ_ _ _ _=>WD.e<|za (i:=5) rfl;have v3:∀u e f g,WE zU (B u e f g) (.int z):=λ_ _ _ _=>WD.e<|za (i:=3) rfl;have vl:∀u e f g,WE (f2 zN zM<|zo .Gt) (B u e f g) (.bl<|lk c.k):=λ_ _ _ _=>WD.e<|DM (za (i:=4) (x:=.int c.k) rfl) zb;have wT:∀u e f g,WE (V1 Ym oN (oS<|fV 8) Ql) (B u e f g) (zH<|R.take i):=λ_ _ _ _=>ee (v7 _ _ _ _) (v8 _ _ _ _) li;have wM:∀u e f g,WE (V1 Ym (oS<|fV 8) (oS<|fV 9) Ql) (B u e f g) (zH<|(R.take j).drop i):=λ_ _ _ _=>sL (v7 _ _ _ _) (v8 _ _ _ _) (v9 _ _ _ _) ij lj;have wF:∀u e f g,WE (V1 Ym (oS<|fV 9) oN Ql) (B u e f g) (zH<|R.drop j):=λ_ _ _ _=>JN (v7 _ _ _ _) (v9 _ _ _ _) lj;have l0':(R.take i).length=i:=by rw[zzS];omega
 have la:((R.take j).drop i).length=j-i:=by rw[List.length_drop,zzS];omega
 have l2:(R.drop j).length=R.length-j:=List.length_drop ..;have upS:∀{u:D}{S:List (List Pt)},OT c l u S->OT c (l+210) u S:=λk=>k.up (by omega) hL;have tk:∀(a:Int),WD xa (A none none none) true (.int t):=λ_=>za (i:=11) rfl;have t0:WT (fT<|f2 xa O8<|zo .Lt) (A none none none) (decide ((t:Int)<3)):=zC (N8 (tk 0) zb) rfl;have out:∀{ds:List D}{qs:List (List<|List Pt)}{nums:List Int},yF [(true,xF rs),(true,.lst<|[x0,x1,x2,x3,x4,x5].map .int),(true,.int z),(true,.int c.k),(true,.int c.n)] (yB c ts)=some (.tup [.lst<|nums.map .int,xF qs],yB c<|ts++ds)->nums=Jm ts.length (ts.length+qs.length:Nat)->Ls c (l+210) ds qs->1<=qs.length->qs.length<=2->cb c l ts (yF [(true,xF rs),(true,.lst<|[x0,x1,x2,x3,x4,x5].map .int),(true,.int z),(true,.int c.k),(true,.int c.n)]<|yB c ts):=λe en a b d=>by
  subst en;exact⟨_,_,e,a,b,d⟩
 by_cases g0:(t:Int)<3
 . rw[zyO g0]at t0;obtain⟨RR,mm,hT,rT⟩:=o9 (c:=z) (w:=c.n) (l:=lk c.k) h.n1 n3;have WT:=ik hT;have s12:=xo (p:=12) (zQ (v3 ts none none none) (v5 _ _ _ _) (vl _ _ _ _) rT)<|zk rfl;have ov:∀v ∈ (R.take j).drop i,Ok c.k v:=λv mv=>by
    have:=od.in h v<|List.mem_of_mem_take<|List.mem_of_mem_drop mv;exact Ok.of h this.toVL this.z (by omega)
   have oR:∀r ∈ RR,Ok c.k r:=λr mr=>Ok.of h (WT.x r mr) (λe=>WT.zr e r mr) (by decide);have om:Ok c.k mm:=Ok.of h WT.m WT.zm (by decide);have s13:=xo (p:=13) (as:=B ts (sT<|dD RR mm) none none) (ZF (h:=λv:List Pt=>vD<|md c.k (RR,mm) v 1) (it:=λv:List Pt=>(true,vD v)) (cap:=[none,some 4,some 12]) (gg:=gN 0) (fe:=zd (aC zi<|aC zA<|aC zl<|aC zV aN) QS) ((R.take j).drop i) (iR _<|wM _ _ _ _) (by rw[la];omega) λv mv=>⟨[sT<|vD v,sI c.k,sT<|dD RR mm],rfl,rE (WD.e<|za (i:=1) rfl) (WD.e<|za (i:=2) rfl) (WD.e<|za (i:=0) rfl) (WD.e zb)<|CP h.k2 (Nat.lt_trans (yu (by decide)<|by decide) Ju) (ov v mv) (by rw[WT.r];omega) oR om⟩)<|zk rfl;obtain⟨d',od',md'⟩:=rR (T:=(RR,mm)) h hd od (by omega) ij lj (by omega) WT hL;have wI:WE (fV 13) (B (ts++[d']) (sT<|dD RR mm) (sT<|.lst<|((R.take j).drop i).map λv=>vD<|md c.k (RR,mm) v 1) none) (zH<|((R.take j).drop i).map λv=>md c.k (RR,mm) v 1):=by
    show WE _ _ (.lst<|(((R.take j).drop i).map λv=>md c.k (RR,mm) v 1).map vD);rw[zyB];exact WD.e<|za (i:=13) rfl
   refine out (ds:=[d']) (qs:=[R.take i++(((R.take j).drop i).map λv=>md c.k (RR,mm) v 1)++R.drop j]) (fin (tT t0<|Yg s12<|Yg s13<|uD (Ji<|mO (e12:=sT<|dD RR mm) (e13:=sT<|.lst<|((R.take j).drop i).map λv=>vD<|md c.k (RR,mm) v 1) (e14:=none) (by decide +kernel) (zh (v6 ts _ _ _)<|zh (v8 ts _ _ _)<|zh (v9 ts _ _ _)<|zh (za (i:=12) rfl) zv) rfl md')<|Ba<|CD<|QF (QF (wT _ _ _ _) wI<|by rw[l0',zzB,la];omega) (wF _ _ _ _)<|by rw[zzJ,l0',zzB,la,l2];omega) rfl) tj (Ls.one od'<|by rw[zzJ,zzJ,l0',zzB,la,l2];omega) (zzN _) (show 1<=2 by decide)
 rw[zyG g0]at t0;have t1:WT (fT<|f2 xa BS<|zo .Lt) (A none none none) (decide ((t:Int)<5)):=zC (N8 (tk 0) zb) rfl
 by_cases g1:(t:Int)<5
 . rw[zyO g1]at t1;obtain⟨d',od',md'⟩:=J0 h hd od (by omega) ij lj (by omega);refine out (ds:=[d']) (qs:=[R.take i++((R.take j).drop i).reverse++R.drop j]) (fin (Gv t0<|tT t1<|uD (Ji<|mO (by decide +kernel) (zh (v6 ts _ _ _)<|zh (v8 ts _ _ _)<|zh (v9 ts _ _ _) zv) rfl md')<|Ba<|CD<|QF (QF (wT (ts++[d']) _ _ _) (fZ<|wM _ _ _ _)<|by rw[l0',List.length_reverse,la];omega) (wF _ _ _ _)<|by rw[zzJ,l0',List.length_reverse,la,l2];omega) rfl) tj (Ls.one (upS od')<|by rw[zzJ,zzJ,l0',List.length_reverse,la,l2];omega) (zzN _) (show 1<=2 by decide)
 rw[zyG g1]at t1;have t2:=W3 (as:=A none none none) (k:=decide (t=5)) (l:=decide (t=5)&&decide (i<R.length)) (e:=fT<|f2 (fV 8) (fP EK z_)<|zo .Lt) (zC (Yo (c:=decide (t=5)) (tk 0) (zb (x:=.int (5:Nat))) (by
  show some ((t:Int)==(5:Nat))=_
  by_cases z:t=5
  . rw[z];rfl
  . rw[zyG z,beq_eq_false_iff_ne.mpr<|by omega])) rfl) (λe=>by
  have:=zC (N8 (v8 ts none none none)<|Lo<|v7 ts none none none) rfl;rw[e,Bool.true_and,show decide (i<R.length)=decide ((i:Int)<R.length)from decide_eq_decide.mpr<|by omega];exact this) (λe=>by rw[e];rfl)
 cases g2:(decide (t=5)&&decide (i<R.length))with
 |true=>
  rw[g2]at t2;rw[zyC]at g2;have hi':=of_decide_eq_true g2.2;obtain⟨v,hv',rv⟩:=rX (c:=z) (w:=c.n) (l:=lk c.k) n3;have VV:=IZ hv';have s14:=xo (p:=14) (zQ (v3 ts none none none) (v5 _ _ _ _) (vl _ _ _ _) rv)<|zk rfl;obtain⟨d',od',md'⟩:=IA (v:=v) h hd od (by omega) (by omega) (show l<=500000 by omega) hi'<|VV.up l0;have wi:∀u e f g,WD (f2 (fV 8) zV zt) (B u e f g) true (.int ((i+1:Nat):Int)):=λ_ _ _ _=>yA (v8 _ _ _ _)<|zb (x:=.int 1);have wL:WE (x9<|dC (fV 14) dN) (B (ts++[d']) none none<|sT<|vD v) (zH [v]):=YU (os:=[.lf true<|vD v]) (y4 (za (i:=14) rfl) xp) (Sz rfl) rfl rfl;exact out (ds:=[d']) (qs:=[R.take i++[v]++R.drop (i+1)]) (fin (Gv t0<|Gv t1<|tT t2<|Yg s14<|uD (Ji<|mO (e12:=none) (e13:=none) (e14:=sT<|vD v) (by decide +kernel) (zh (v6 ts _ _ _)<|zh (v8 ts _ _ _)<|zh (za (i:=14) rfl) zv) rfl md')<|Ba<|CD<|QF (QF (wT _ _ _ _) wL (by rw[l0'];show _+1<=_;omega)) (JN (v7 _ _ _ _) (wi _ _ _ _)<|by omega) (by rw[zzJ,l0',List.length_drop];show _+1+_<=_;omega)) rfl) tj (Ls.one (upS od') (by rw[zzJ,zzJ,l0',List.length_drop];show _+1+_<=_;omega)) (zzN _) (show 1<=2 by decide)
 |false=>
 rw[g2]at t2;have eqt:∀u:Nat,WT (fT<|f2 xa (fC<|.int u)<|zo .Eq) (A none none none) (decide (t=u)):=λu=>zC (Yo (c:=decide (t=u)) (tk 0) (zb (x:=.int u)) (by
  show some ((t:Int)==u)=_
  by_cases z:t=u
  . rw[z,zyO rfl,beq_self_eq_true]
  . rw[zyG z,beq_eq_false_iff_ne.mpr<|by omega])) rfl
 have t3:=W3 (as:=A none none none) (k:=decide (t=6)) (l:=decide (t=6)&&(decide (R.length<=45)&&decide (Q.length<=45))) (e:=Za (fT<|f2 (fP EK z_) (fC<|.int 45)<|zo .LtE)<|fT<|f2 (fP (aC (fV 10) aN) z_) (fC<|.int 45)<|zo .LtE) (eqt 6) (λe=>by
  rw[e,Bool.true_and];exact W3 (k:=decide (R.length<=45)) (by
   have:=zC (mV (Lo<|v7 ts none none none)<|zb (x:=.int 45)) rfl;rw[show decide (R.length<=45)=decide ((R.length:Int)<=45)from decide_eq_decide.mpr<|by omega];exact this) (λe=>by
   have:=zC (mV (Lo<|v10 ts none none none)<|zb (x:=.int 45)) rfl;rw[e,Bool.true_and,show decide (Q.length<=45)=decide ((Q.length:Int)<=45)from decide_eq_decide.mpr<|by omega];exact this) λe=>by rw[e];rfl) (λe=>by rw[e];rfl)
 cases g3:(decide (t=6)&&(decide (R.length<=45)&&decide (Q.length<=45)))with
 |true=>
  rw[g3]at t3;rw[zyC,zyC]at g3;have a1:=of_decide_eq_true g3.2.1;have a2:=of_decide_eq_true g3.2.2;obtain⟨d',od',md'⟩:=nF h hd od (by omega) (by omega) li hd2 od2 (by omega);exact out (ds:=[d']) (qs:=[R.take i++Q++R.drop i]) (fin (Gv t0<|Gv t1<|Gv t2<|tT t3<|uD (Ji<|mO (by decide +kernel) (zh (v6 ts _ _ _)<|zh (v8 ts _ _ _)<|zh (wq _ _ _ _ _) zv) rfl md')<|Ba<|CD<|QF (QF (wT (ts++[d']) _ _ _) (WD.e<|v10 _ _ _ _)<|by rw[l0'];omega) (JN (v7 _ _ _ _) (v8 _ _ _ _) li)<|by rw[zzJ,l0',List.length_drop];omega) rfl) tj (Ls.one (upS od')<|by rw[zzJ,zzJ,l0',List.length_drop];omega) (zzN _) (show 1<=2 by decide)
 |false=>
 rw[g3]at t3;have t4:=eqt 7
 by_cases g4:t=7
 . rw[zyO g4]at t4;obtain⟨d1,d3,o1,o3,md'⟩:=oi h hd od (by omega) ij lj (by omega) (by omega);rw[zxB]at md';exact out (ds:=[d1,d3]) (qs:=[(R.take j).drop i,R.take i++R.drop j]) (nums:=[(ts.length:Int),((ts.length+1:Nat):Int)]) (fin (Gv t0<|Gv t1<|Gv t2<|Gv t3<|tT t4<|uD (kc<|mO (by decide +kernel) (zh (v6 ts _ _ _)<|zh (v8 ts _ _ _)<|zh (v9 ts _ _ _) zv) rfl md')<|Ba<|iK (wM (ts++[d1,d3]) _ _ _)<|QF (wT _ _ _ _) (wF _ _ _ _)<|by rw[l0',l2];omega) rfl) eN (Ls.two (upS o1) (by rw[la];omega) (upS o3)<|by rw[zzJ,l0',l2];omega) (show 1<=2 by decide)<|zzN _
 rw[zyG g4]at t4;obtain⟨S,lS,hS,rS⟩:=S8 (c:=z) (n:=nm x5 7) (w:=c.n) (l:=lk c.k) (by have:=UA x5 (k:=7) (by decide);omega) n3;have s12:=xo (p:=12) (rE (v3 ts none none none) (WD.e<|MA (wx (A none none none) rfl 5 x5 rfl) (by decide)<|zb (x:=.int (7:Nat))) (v5 ts none none none) (vl ts none none none) rS)<|zk rfl;have lS':S.length<=6:=by have:=UA x5 (k:=7) (by decide);omega
 obtain⟨d',od',md'⟩:=Ip (l:=l) (ts:=ts) (r:=S) h (show l<=500000 by omega) (by omega) (λv mv=>(IZ<|hS v mv).up l0) (by omega);exact out (ds:=[d']) (qs:=[S]) (fin (Gv t0<|Gv t1<|Gv t2<|Gv t3<|Gv t4<|Yg s12<|uD (Ji<|mO (e12:=sT<|zH S) (e13:=none) (e14:=none) (by decide +kernel) (zh (za (i:=12) rfl) zv) rfl md')<|Ba<|YU (os:=[.lf true<|zH S]) (y4 (za (i:=12) rfl) xp) (Sz rfl) rfl rfl) rfl) tj (Ls.one (upS od')<|by omega) (zzN _) (show 1<=2 by decide)
end
theorem zs{β:Type}(f:D×D->β):∀l:List D,(l.zip l).map f=l.map λx=>f (x,x)
 | []=>rfl
 |a::l=>congrArg (f (a,a) :: ·)<|zs f l
def oO{a b c:EF}{as:AS}{i j k:Int}{s t u:Bool}(ha:WD a as s (.int i))(hb:WD b as t (.int j))(hc:WD c as u (.int k))(h1:i<=j)(h2:j<k):WD (RC a b c (zo .LtE)<|zo .Lt) as true (.bl true):=by
 unfold WD at *;unfold RC;rw[ha];simp only[zyL];rw[hb];simp only[zyL];simp only[RV.frz,O.frz,RV.view,O.toD,O.str,zyL,zo,JK,pH,Jj,qN,h1,h2,decide_true,hc];rfl
def da{x:Int}:(!(x==x))=false:=by simp
section
variable{c:Cx}{ts:List D}{d:D}{R:List (List Pt)}{k l:Nat}
def gG{as:AS}{i:Nat}{fr:AF}{xs:List (Bool×D)}(h:as[i]? = some (some<|yB c ts))(hr:WA fr as xs):aC (fV i) fr as=some (.bo i::xs.map (λx=>.ow<|.lf x.1 x.2),as):=by
 unfold aC;rw[Ek h];show(fr as).bind _=_;rw[show fr as=_ from hr];rfl
def D0{as:AS}{i:Nat}{fr:AF}{rs:List RV}{xs:List ZA}{g:List ZA->O->Option (D×O)}{v:D}{ts':List D}(h:as[i]? = some (some<|yB c ts))(hr:fr as=some (.bo i::rs,as))(ha:Tb i as rs=some xs)(hg:g xs (yB c ts)=some (v,yB c ts')):L7 i fr g as=some (.ow<|.lf true v,as.set i<|some<|yB c ts'):=by
 unfold L7;rw[hr];show(if i=i then some rs else none:Option (List RV)).bind _=_;rw[if_pos rfl];show(Tb i as rs).bind _=_;rw[ha];show(as[i]?).bind _=_;rw[h];show(g xs _).bind _=_;rw[hg];show(if(yB c ts').str=true then _ else _)=_;rw[if_pos LC]
def eX{f:EF}{as as1 as2:AS}{g:GF}{x:D}(h:f as=some (.ow<|.lf true x,as1))(hg:g (true,x) as1=some as2):tw f g as=some (.nx as2):=by
 unfold tw;rw[h];show(g (true,x) as1).bind _=_;rw[hg];rfl
def sM{as:AS}{f:EF}{z:D}{s:Bool}(hf:WD f (l_ as) s z)(fl:zu z=true):WD (Q1 f) as true z:=by
 unfold WD at hf ⊢;unfold Q1;rw[hf];show((if zu z=true then some z else none:Option D).bind _)=_;rw[if_pos fl];rfl
def r_:(yB c ts).frz = .lf true (Qn c ts):=by
 show O.lf (yB c ts).str (yB c ts).toD=_;rw[LC];show O.lf true (.ob "Makes" W6 [c.w,.lst<|O.toDs<|ts.map<|O.lf true])=_;rw[N6]
def Eh(h:c.Ok)(hk:ts[k]? = some d)(hd:OT c l d R)(hl:R.length<=900):RE (vX [(true,Qn c ts),(true,.int k),(true,zH R)]) (.bl true):=by
 let A:Option O->Option O->AS:=λa b=>[sT<|Qn c ts,sI k,sT<|zH R,sT<|zH R,a,b];have s3:=xo (p:=3) (as:=[sT<|Qn c ts,sI k,sT<|zH R,none,none,none]) (Wk (ns:=W6) (m:="listed") (tbl:=Qa) (za (i:=0) rfl) (by decide +kernel) rfl (WD.e<|za (i:=1) rfl)<|S4 h hk hd hl)<|zk rfl;have n1:=uh (Lo<|za (as:=A none none) (i:=3) (x:=zH R) rfl)<|Lo<|za (i:=2) (x:=zH R) rfl;have n2:=uh (Jk rfl<|Wk (as:=A none none) (ns:=W6) (m:="many") (tbl:=HJ) (za (i:=0) rfl) (by decide +kernel) rfl (WD.e<|za (i:=1) rfl)<|qO h hk hd)<|Lo<|za (i:=2) (x:=zH R) rfl;rw[da]at n1 n2;have t1:=Tf (k:=false) (l:=false) (xX (k:=true)<|zC (Qu (as:=A none none) (cl:="list") (q:=true) (za (i:=3) (x:=zH R) rfl) rfl) rfl) (λ_=>Tf (k:=false) n1 (λ_=>n2) (λq=>nomatch q)) (λq=>nomatch q);obtain⟨as',hf,a,b,rfl⟩:=Y5 (g:=gT 2<|Wz Jh<|Wz (gN 5) MV) (f:=xD (y_<|fT<|zd (aC zN MB) Wp) (zz<|fC<|.bl false) vB) (λ_ as=>∃a b,as=A a b) (R.map λv=>(true,D.tup [vD v,vD v])) 0 (A none none) (λi x as hx hI=>by
  obtain⟨a,b,rfl⟩:=hI;rw[zzI]at hx;obtain⟨v,hv,rfl⟩:=zzX.mp hx;have vl:=Uv (hd.in h) v<|zyA hv;exact⟨A (sT<|vD v)<|sT<|vD v,cJ (zk rfl)<|zk rfl,_,zq (xX (k:=true)<|qE<|y9 (WD.e<|za (i:=4) rfl) (WD.e<|za (i:=5) rfl)<|RE.of<|tO<|by rw[vl.1];have:=h.n3;omega) rfl,_,_,rfl⟩) ⟨_,_,rfl⟩
 have hz:Yn (aC zU yt) (A none none)=some (R.map λv=>(true,D.tup [vD v,vD v]),A none none):=by
  rw[Wo (WD.e<|za (i:=3) rfl) (WD.e<|za (i:=2) rfl) (.l<|R.map vD)<|.l<|R.map vD,zs,zyB];rfl
 exact zG rfl<|zj s3<|zj (zq t1 rfl)<|zj (vC hz hf)<|zp<|WD.e zb
def pA{i m k:Nat}(h:k<=m):NY c (R.take m) i k=NY c R i k:=by
 unfold NY;rw[List.take_take,Nat.min_eq_left h]
def jq{as:AS}{f a b e:EF}{i j:Nat}(h:c.Ok)(hk:ts[k]? = some d)(hd:OT c l d R)(hl:R.length<=900)(h1:i<=j)(h2:j<=R.length)(w0:WD f as true (Qn c ts))(w1:WE a as (.int k))(w2:WE b as (.int i))(w3:WE e as (.int j)):WE (yn V0 "asked" f<|aC a<|aC b<|aC e aN) as (vD<|BE c.k c.n<|(R.take j).drop i):=
 DE (ns:=W6) w0 (by decide +kernel) rfl w1 w2 w3 (RE.of<|S6 h hk hd hl h1 h2)
def lH{as:AS}{f a b e:EF}{i q:Nat}{t:Int}(h:c.Ok)(hk:ts[k]? = some d)(hd:OT c l d R)(hl:R.length<=900)(h1:i<=R.length)(hq:q<c.n)(w0:WD f as true (Qn c ts))(w1:WE a as (.int k))(w2:WE b as (.int i))(w3:WE e as (Gy q t)):WE (yn Fp "first" f<|aC a<|aC b<|aC e aN) as (pD<|kP<|ff (sV c R i q t) (R.length-i) i):=
 DE (ns:=W6) w0 (by decide +kernel) rfl w1 w2 w3 (uc h hk hd hl h1 hq)
abbrev aT:SF:=(zx (xD (Za (fT<|f2 (fV 10) (fC .non)<|zo .Is)<|fT<|f2 (fP yt z_) (f2 yz (fC<|.int 24) zt)<|zo .Gt) (zz<|jY (f2 (fV 9) (fC .non)<|zo .Is)<|G0 (zd (aC (fV 9) aN) xB)<|RC (f2 yz (fC<|.int 24) zt) (fV 9) (fP yt z_) (zo .LtE)<|zo .Lt) vB)
 (zx (xD (fT<|f2 (fV 10) (fC .non)<|zo .Is) (zz<|f2 (fV 9) (fC .non)<|zo .Is) vB)
 (zz<|G0 (zd (aC (fV 9) aN) xB)<|f2 (fV 9) (fV 10)<|zo .Eq)))
def sA{x w:D}{A8:Option O}{i j:Nat}{y z u:Option O}{F E:Option Nat}{V:Nat->Bool}(li:i<=R.length)(lt:(R.take<|i+24).length=min (i+24) R.length)(rel:F=eV E (ff V (R.length-(R.take<|i+24).length) (R.take<|i+24).length)):
 Rt (aT [sT x,y,sT<|zH R,z,u,sT w,sI i,sI j,A8,sT<|pD<|kP F,sT<|pD<|kP E]) (.bl true):=by
 let B:AS:=[sT x,y,sT<|zH R,z,u,sT w,sI i,sI j,A8,sT<|pD<|kP F,sT<|pD<|kP E];have v2:WD zA B true (zH R):=za (i:=2) rfl;have v9:WD (fV 9) B true (pD<|kP F):=za (i:=9) rfl;have w24:WD (f2 yz (fC<|.int 24) zt) B true (.int ((i+24:Nat):Int)):=yA (za (i:=6) (x:=.int i) rfl)<|zb (x:=.int 24);have v10:WD (fV 10) B true (pD<|kP E):=za (i:=10) rfl;have t10:=zC (Pc v10) rfl;have t11:=W3 (as:=B) (l:=(kP E).isNone&&decide (i+24<R.length)) t10 (λe=>by
  have:=zC (DM (Lo v2) w24) rfl;rw[e,Bool.true_and,show decide (i+24<R.length)=decide (((i+24:Nat):Int)<R.length)from decide_eq_decide.mpr<|by omega];exact this) (λe=>by rw[e];rfl)
 cases E with
 |none=>
  by_cases g:i+24<R.length
  . rw[zyO g]at t11;refine yi ?_;refine yJ t11 ?_;refine zp ?_;refine WD.e<|mZ (k:=(kP F).isNone) (Pc v9) (λe=>?_) λ_=>rfl;have rel:F=ff V (R.length-(R.take<|i+24).length) (R.take<|i+24).length:=rel;cases F with
    |none=>exact nomatch e
    |some m=>
     have:=qo rel.symm;have v9':WD (fV 9) B true (.int (m:Int)):=v9;exact QY (k:=true) (Fv (WD.e v9) J8) (λ_=>oO w24 v9' (Lo v2) (by omega)<|by omega) (λz=>nomatch z)
  . rw[zyG g]at t11;have lt':(R.take<|i+24).length=R.length:=by omega
    have rel:F=ff V (R.length-(R.take<|i+24).length) (R.take<|i+24).length:=rel;rw[lt',Nat.sub_self]at rel;have rel:F=none:=rel;subst rel;exact zj (zq t11 rfl) (yi<|yJ t10<|zp<|WD.e<|Pc v9)
 |some m=>
  have rel:F=some m:=rel;subst rel;refine zj (zq t11 rfl) ?_;refine zj (zq t10 rfl) ?_;refine zp ?_;refine WD.e<|QY (k:=true) (Fv (WD.e v9) J8) (λ_=>?_) (λz=>nomatch z);exact Yo (c:=true) v9 v10 (by show some ((m:Int)==m)=_;rw[beq_self_eq_true])
def AB(h:c.Ok)(hk:ts[k]? = some d)(hd:OT c l d R)(hl:R.length<=90)(x0 x1 x2 x3 x4 x5:Int)(hx:Mx x5):RE (w5 [(true,Qn c ts),(true,.int k),(true,zH R),(true,.lst<|[x0,x1,x2,x3,x4,x5].map .int),(true,.int c.k),(true,.int c.n)]) (.bl true):=by
 have hr:=Uv<|hd.in h;let A:Option O->Option O->Option O->Option O->Option O->AS:=λe6 e7 e8 e9 e10=>[sT<|Qn c ts,sI k,sT<|zH R,sT<|.lst<|[x0,x1,x2,x3,x4,x5].map .int,sI c.k,sI c.n,e6,e7,e8,e9,e10];have wx:∀e6 e7 e8 e9 e10,∀(m:Int) (x:Int),zZ (.lst<|[x0,x1,x2,x3,x4,x5].map .int) (.int m)=some (.im<|.int x)->WD (f2 zU (fC<|.int m) zZ) (A e6 e7 e8 e9 e10) true (.int x):=λ_ _ _ _ _ m x e=>zY (za (i:=3) rfl) zb e rfl;have v2:∀e6 e7 e8 e9 e10,WD zA (A e6 e7 e8 e9 e10) true (zH R):=λ_ _ _ _ _=>za (i:=2) rfl;have w1:∀e6 e7 e8 e9 e10,WD (f2 (fP yt z_) zV zt) (A e6 e7 e8 e9 e10) true (.int ((R.length+1:Nat):Int)):=λ_ _ _ _ _=>yA (Lo<|v2 _ _ _ _ _)<|zb (x:=.int 1);obtain⟨i,hi⟩:∃i,i=nm x2 (R.length+1):=⟨_,rfl⟩;have s6:=yQ (st:=true) (i:=6) (MA (wx none none none none none 2 x2 rfl) (by omega)<|w1 _ _ _ _ _)<|zk rfl;rw[<-hi]at s6;have li:i<=R.length:=by have:=UA x2 (k:=R.length+1) (by omega);omega
 have w2:WD (f2 (f2 (fP yt z_) zV zt) yz ZG) (A (sI i) none none none none) true (.int ((R.length+1-i:Nat):Int)):=by
  have:=Xa (w1 (sI i) none none none none)<|za (i:=6) (x:=.int i) (s:=true) rfl;rw[show((R.length+1:Nat):Int)-i=((R.length+1-i:Nat):Int) by omega]at this;exact this
 obtain⟨j,hj⟩:∃j,j=i+nm x4 (R.length+1-i):=⟨_,rfl⟩;have s7:=yQ (st:=true) (i:=7) (yA (za (i:=6) (x:=.int i) (s:=true) rfl)<|MA (wx (sI i) none none none none 4 x4 rfl) (by omega) w2)<|zk rfl;rw[show(i:Int)+(nm x4 (R.length+1-i):Nat)=((i+nm x4 (R.length+1-i):Nat):Int)from rfl,<-hj]at s7;have ij:i<=j:=by omega
 have lj:j<=R.length:=by have:=UA x4 (k:=R.length+1-i) (by omega);omega
 have v0:∀e8 e9 e10,WD zl (A (sI i) (sI j) e8 e9 e10) true (Qn c ts):=λ_ _ _=>za (i:=0) rfl;have v1:∀e8 e9 e10,WE zi (A (sI i) (sI j) e8 e9 e10) (.int k):=λ_ _ _=>WD.e<|za (i:=1) rfl;have v4:∀e8 e9 e10,WE zN (A (sI i) (sI j) e8 e9 e10) (.int c.k):=λ_ _ _=>WD.e<|za (i:=4) rfl;have v5:∀e8 e9 e10,WD yC (A (sI i) (sI j) e8 e9 e10) true (.int c.n):=λ_ _ _=>za (i:=5) rfl;have v6:∀e8 e9 e10,WD yz (A (sI i) (sI j) e8 e9 e10) true (.int i):=λ_ _ _=>za (i:=6) rfl;have v7:∀e8 e9 e10,WD Ym (A (sI i) (sI j) e8 e9 e10) true (.int j):=λ_ _ _=>za (i:=7) rfl;have t1:=xX (k:=true)<|zC (sM (as:=A (sI i) (sI j) none none none) (s:=true) (Jk rfl<|zQ (as:=A (sI i) (sI j) none none none) (WD.e<|v0 _ _ _) (v1 _ _ _) (WD.e<|v2 _ _ _ _ _)<|Eh h hk hd<|by omega) rfl) rfl;have lc:(BE c.k c.n<|(R.take j).drop i).length<=1000:=by rw[(VL.hv<|OY hr).1];have:=h.n3;omega
 have wa:=jq (as:=A (sI i) (sI j) none none none) h hk hd (by omega) ij lj (v0 _ _ _) (v1 _ _ _) (WD.e<|v6 _ _ _)<|WD.e<|v7 _ _ _;have t2:=xX (k:=true)<|qE<|y9 wa (zQ (v4 _ _ _) (sL (v2 _ _ _ _ _) (v6 _ _ _) (v7 _ _ _) ij lj) (WD.e<|v5 _ _ _)<|LU h.k2 h.n3<|OY hr)<|RE.of<|tO lc;obtain⟨q,hq⟩:∃q,q=nm x5 c.n:=⟨_,rfl⟩;have lq:q<c.n:=by rw[hq];exact UA _ h.n1
 obtain⟨tt,_,nt⟩:=Hi (x:=x5/3) ⟨by have:=hx.1;omega,by have:=hx.1;have:=hx.2;omega⟩;have wq:=MA (wx (sI i) (sI j) none none none 5 x5 rfl) h.n1<|v5 none none none;rw[<-hq]at wq;have s8:=yQ (st:=true) (i:=8) (x:=Gy q tt) (tP (os:=[Bz q,Bz tt]) (y4 wq<|y4 (Pv (zh (WB (wx (sI i) (sI j) none none none 5 x5 rfl) (zb (x:=.int 3)) (by decide)<|yu (by decide)<|by decide) zv) nt) xp) (Sz rfl) rfl)<|zk rfl;have v8:∀e9 e10,WE (fV 8) (A (sI i) (sI j) (sT<|Gy q tt) e9 e10) (Gy q tt):=λ_ _=>WD.e<|za (i:=8) rfl;have s9:=xo (p:=9) (as:=A (sI i) (sI j) (sT<|Gy q tt) none none) (lH (t:=tt) h hk hd (by omega) li lq (v0 _ _ _) (v1 _ _ _) (WD.e<|v6 _ _ _)<|v8 _ _)<|zk rfl;generalize eF:ff (sV c R i q tt) (R.length-i) i=F at s9;have v9:∀e10,WD (fV 9) (A (sI i) (sI j) (sT<|Gy q tt) (sT<|pD<|kP F) e10) true (pD<|kP F):=λ_=>za (i:=9) rfl;have w24:∀e9 e10,WD (f2 yz (fC<|.int 24) zt) (A (sI i) (sI j) (sT<|Gy q tt) e9 e10) true (.int ((i+24:Nat):Int)):=λ_ _=>yA (v6 _ _ _)<|zb (x:=.int 24);have lt:(R.take<|i+24).length=min (i+24) R.length:=zzS ..;have s10:=xo (p:=10) (as:=A (sI i) (sI j) (sT<|Gy q tt) (sT<|pD<|kP F) none) (mI (v4 _ _ _) (ip (v2 _ _ _ _ _)<|w24 _ _) (WD.e<|v6 _ _ _) (v8 _ _) (WD.e<|v5 _ _ _)<|uH (R:=R.take<|i+24) (t:=tt) h (λv m=>hr v<|List.mem_of_mem_take m) (by omega) (by omega) lq)<|zk rfl;have ec:ff (sV c (R.take<|i+24) i q tt) ((R.take<|i+24).length-i) i=ff (sV c R i q tt) ((R.take<|i+24).length-i) i:=Im λk a b=>by
  show oq tt (at_ (NY c (R.take<|i+24) i<|k+1) q)=_;rw[pA<|by omega]
 rw[ec]at s10;generalize eE:ff (sV c R i q tt) ((R.take<|i+24).length-i) i=E at s10;have rel:F=eV E (ff (sV c R i q tt) (R.length-(R.take<|i+24).length) (R.take<|i+24).length):=by
  rw[<-eF,<-eE,show R.length-i=((R.take<|i+24).length-i)+(R.length-(R.take<|i+24).length) by omega,tD,show i+((R.take<|i+24).length-i)=(R.take<|i+24).length by omega]
 have s6:zE true 6 _ (A none none none none none)=some (.nx<|A (sI i) none none none none):=s6;have s7:zE true 7 _ (A (sI i) none none none none)=some (.nx<|A (sI i) (sI j) none none none):=s7;have s8:zE true 8 _ (A (sI i) (sI j) none none none)=some (.nx<|A (sI i) (sI j) (sT<|Gy q tt) none none):=s8;have s9:zE true 9 _ (A (sI i) (sI j) (sT<|Gy q tt) none none)=some (.nx<|A (sI i) (sI j) (sT<|Gy q tt) (sT<|pD<|kP F) none):=s9;have s10:zE true 10 _ (A (sI i) (sI j) (sT<|Gy q tt) (sT<|pD<|kP F) none)=some (.nx<|A (sI i) (sI j) (sT<|Gy q tt) (sT<|pD<|kP F)<|sT<|pD<|kP E):=s10;refine zG rfl<|zj s6 ?_;refine zj s7 ?_;refine zj (zq t1 rfl) ?_;refine zj (zq t2 rfl) ?_;refine zj s8 ?_;refine zj s9 ?_;refine zj s10 ?_;exact sA (x:=Qn c ts) (w:=.int c.n) (y:=sI k) (z:=sT<|.lst<|[x0,x1,x2,x3,x4,x5].map .int) (u:=sI c.k) (A8:=sT<|Gy q tt) li lt rel
end
def bz{c:TF}{f g:SF}{as as1:AS}(h:c as=some (false,as1)):xD c f g as=g as1:=by
 unfold xD;rw[h];rfl
def dI{a:EF}{as as1:AS}(h:a as=some (.ow<|.lf true<|.int 0,as1)):fT (f2 a zM<|zo .NotEq) as=some (false,as1):=by
 unfold fT f2;rw[h];rfl
theorem ie{f:D->D->Option Bool}:∀xs:List D,(∀x ∈ xs,f x x=some true)->qF f xs xs=some true
 | [],_=>rfl
 |x::r,h=>by
  show((f x x).bind λb=>(qF f r r).bind λc=>some<|b&&c)=_;rw[h x zzF,ie r λy my=>h y<|zzD _ my];rfl
def bG(l:List Int):Tu 60 (.lst<|l.map D.int) (.lst<|l.map D.int)=some true:=ie _ λx mx=>by
 obtain⟨y,_,rfl⟩:=zxC.mp mx;show some (y==y)=_;rw[beq_self_eq_true]
def cP{a b:EF}{as:AS}{i j:Nat}(ha:WD a as true (.int i))(hb:WD b as true (.int j))(h1:i<=100000)(h2:j<=100000):WE (fP (aC a<|aC b aN) oA) as (.lst<|(Jm i j).map .int):=by
 have h:=xu (WD.e ha)<|xu (WD.e hb) zv;unfold WA at h;refine⟨.nd .ls<|((Jm i j).map D.int).map<|O.lf true, ?_,NA _,congrArg D.lst<|N6 _⟩;unfold fP;rw[h];simp only[zyL,GT];show((if jU i j then some (R0.fl<|(Jm i j).map D.int)else none).bind _:Option (RV×AS))=_;rw[if_pos (show jU i j from⟨by omega,by omega,by omega,by omega⟩)];show(if(((Jm i j).map D.int).all zu||true)=true then some (RV.ow<|.nd .ls<|((Jm i j).map D.int).map<|sk true)else none:Option RV).bind _=_;rw[if_pos (by simp),KJ];rfl
abbrev N5(ns:List Int)(c:Cx)(ts:List D)(rs:List (List<|List Pt))(e5 e6 e7 e8 e9 e10 e11:Option O):AS:=[sT<|.lst<|ns.map .int,sI c.k,sI c.n,some<|yB c ts,sT<|xF rs,e5,e6,e7,e8,e9,e10,e11]
abbrev aB:SF:=(xD (y_<|fT<|Q1<|zd (aC zU<|aC xa<|aC (f2 zN xa zZ)<|aC Ym<|aC zi yt) w5) (zz<|fC<|.bl false) vB)
abbrev lB:SF:=(zx (zE true 6<|f2 (zd (aC zl MB) yG) (f2 (fC<|.int 104729) yC zS) zt)
 (zx (zE true 7<|zd (aC yz<|aC t9 aN) v_)
 (zx (zE true 8<|f2 (f2 (f2 (f2 yz (f2 (fC<|.int 1000000007) t9<|W7 .Pow) yf) Zl yf) Zl zS) (f2 yz Zl yp) zt)
 (zx (tw (L7 3 (aC zU<|aC zN<|aC Ym<|aC (f2 (fV 8) (f2 Zl yC zS) zt)<|aC zi yt) yF)<|gT 2<|Wz (gN 9)<|Wz (gN 10) MV)
 (zx (xD (fT<|f2 (fV 9) (fP (aC (fP (aC zN aN) z_)<|aC (f2 (fP (aC zN aN) z_) (fP (aC (fV 10) aN) z_) zt) aN) oA)<|zo .NotEq) (zz<|fC<|.bl false) vB)
 (zx (zE true 4<|f2 zN (fV 10) zt)
 (XW (Mw<|fV 9) (gN 11)<|xD (y_<|fT<|Q1<|zd (aC zU<|aC xa<|aC (f2 zN xa zZ)<|aC Ym<|aC zi yt) w5) (zz<|fC<|.bl false) vB)))))))
abbrev zB:SF:=(zx (xD (y_<|fT<|Q1<|zd (aC zU<|aC xa<|aC (f2 zN xa zZ) aN) vX) (zz<|fC<|.bl false) vB)
 (xD (y_<|fT<|zd (aC (yZ 3 V0 "asked" (aC xa<|aC zM<|aC (fP (aC (f2 zN xa zZ) aN) z_) aN))<|aC (zd (aC zi<|aC (f2 zN xa zZ) yt) x8) aN) Wp) (zz<|fC<|.bl false) vB))
section
variable{c:Cx}{ts:List D}{rs:List (List<|List Pt)}{l:Nat}{ns:List Int}
def qh{as:AS}{a b:EF}{m:Nat}{R:List (List Pt)}(ha:WD a as true (xF rs))(hb:WD b as true (.int m))(hR:rs[m]? = some R):WD (f2 a b zZ) as true (zH R):=Aj ha hb<|Nb hR
def dg(h:c.Ok)(hs:Ls c l ts rs){x0 x1 x2 x3 x4 x5:Int}(hx:Mx x5){e5 e6 e8 e9 e10:Option O}{v:Nat}(hv:v<rs.length):aB (N5 ns c ts rs e5 e6 (sT<|.lst<|[x0,x1,x2,x3,x4,x5].map .int) e8 e9 e10<|sI v)=some (.nx<|N5 ns c ts rs e5 e6 (sT<|.lst<|[x0,x1,x2,x3,x4,x5].map .int) e8 e9 e10<|sI v):=by
 obtain⟨R,hR⟩:∃R,rs[v]? = some R:=⟨_,zzE hv⟩;obtain⟨d,hd⟩:∃d,ts[v]? = some d:=⟨_,zzE<|by rw[hs.len];exact hv⟩;obtain⟨od,lR⟩:=hs.get v d R hd hR;have hf:WD (zd (aC zU<|aC xa<|aC (f2 zN xa zZ)<|aC Ym<|aC zi yt) w5) (l_<|N5 ns c ts rs e5 e6 (sT<|.lst<|[x0,x1,x2,x3,x4,x5].map .int) e8 e9 e10<|sI v) true (.bl true):=by
  show WD _ [sT<|.lst<|ns.map .int,sI c.k,sI c.n,some (yB c ts).frz,sT<|xF rs,e5.map O.frz,e6.map O.frz,sT<|.lst<|[x0,x1,x2,x3,x4,x5].map .int,e8.map O.frz,e9.map O.frz,e10.map O.frz,sI v] _ _;rw[r_];exact Jk rfl<|Lk (WD.e<|za (i:=3) rfl) (WD.e<|za (i:=11) rfl) (WD.e<|qh (za (i:=4) rfl) (za (i:=11) (x:=.int v) rfl) hR) (WD.e<|za (i:=7) rfl) (WD.e<|za (i:=1) rfl) (WD.e<|za (i:=2) rfl)<|AB h hd od lR x0 x1 x2 x3 x4 x5 hx
 exact zq (xX (k:=true)<|zC (sM hf rfl) rfl) rfl
def iE(h:c.Ok)(hs:Ls c l ts rs){e5 e6 e7 e8 e9 e10:Option O}{v:Nat}(hv:v<rs.length):zB (N5 ns c ts rs e5 e6 e7 e8 e9 e10<|sI v)=some (.nx<|N5 ns c ts rs e5 e6 e7 e8 e9 e10<|sI v):=by
 obtain⟨R,hR⟩:∃R,rs[v]? = some R:=⟨_,zzE hv⟩;obtain⟨d,hd⟩:∃d,ts[v]? = some d:=⟨_,zzE<|by rw[hs.len];exact hv⟩;obtain⟨od,lR⟩:=hs.get v d R hd hR;have hr:=Uv<|od.in h;have hf:WD (zd (aC zU<|aC xa<|aC (f2 zN xa zZ) aN) vX) (l_<|N5 ns c ts rs e5 e6 e7 e8 e9 e10<|sI v) true (.bl true):=by
  show WD _ [sT<|.lst<|ns.map .int,sI c.k,sI c.n,some (yB c ts).frz,sT<|xF rs,e5.map O.frz,e6.map O.frz,e7.map O.frz,e8.map O.frz,e9.map O.frz,e10.map O.frz,sI v] _ _;rw[r_];exact Jk rfl (zQ (WD.e<|za (i:=3) rfl) (WD.e<|za (i:=11) rfl) (WD.e<|qh (za (i:=4) rfl) (za (i:=11) (x:=.int v) rfl) hR)<|Eh h hd od<|by omega)
 have wr:WD (f2 zN xa zZ) (N5 ns c ts rs e5 e6 e7 e8 e9 e10<|sI v) true (zH R):=qh (za (i:=4) rfl) (za (i:=11) (x:=.int v) rfl) hR;have lc:(BE c.k c.n R).length<=1000:=by rw[(VL.hv hr).1];have:=h.n3;omega
 have ma:=S6 (i:=0) (j:=R.length) h hd od (by omega) (Nat.zero_le _)<|zzN _;rw[List.take_length,List.drop_zero]at ma;have wa:WD (yZ 3 V0 "asked" (aC xa<|aC zM<|aC (fP (aC (f2 zN xa zZ) aN) z_) aN)) (N5 ns c ts rs e5 e6 e7 e8 e9 e10<|sI v) true (vD<|BE c.k c.n R):=US (i:=3) (g:=YQ) rfl (by decide +kernel) rfl (zh (za (i:=11) rfl)<|zh (zb (x:=.int 0))<|zh (Lo wr) zv) ma<|uy 58 _;have t2:=xX (k:=true)<|qE<|y9 (WD.e wa) (zQ (WD.e<|za (i:=1) rfl) (WD.e wr) (WD.e<|za (i:=2) rfl)<|LU h.k2 h.n3 hr)<|RE.of<|tO lc;exact zL (zq (xX (k:=true)<|zC (sM hf rfl) rfl) rfl)<|zq t2 rfl
def nj(h:c.Ok)(hns:ns.length<=63)(hL:l+210<=LM)(l0:210<=l)(hs:Ls c l ts rs)(r1:1<=rs.length)(r2:rs.length<=190){m:Nat}(hm:m<=100){e6 e7 e8 e9 e10 e11:Option O}:∃ts' rs' e6' e7' e8' e9' e10' e11',lB (N5 ns c ts rs (sI m) e6 e7 e8 e9 e10 e11)=some (.nx<|N5 ns c ts' rs' (sI m) e6' e7' e8' e9' e10' e11')/\Ls c (l+210) ts' rs'/\1<=rs'.length/\rs'.length<=rs.length+2:=by
 obtain⟨c0,hc⟩:=Oc (ns:=ns) (k:=m) (by omega) hns;have wm:∀e6 e7 e8 e9 e10 e11,WD yC (N5 ns c ts rs (sI m) e6 e7 e8 e9 e10 e11) true (.int m):=λ_ _ _ _ _ _=>za (i:=5) rfl;have s6:=yQ (st:=true) (i:=6) (as:=N5 ns c ts rs (sI m) e6 e7 e8 e9 e10 e11) (yA (Jk rfl<|y9 (WD.e<|za (i:=0) rfl) (WD.e<|wm _ _ _ _ _ _)<|RE.of hc)<|Yh (zb (x:=.int 104729)) (wm _ _ _ _ _ _) (yu (by decide)<|by decide)<|yu (by omega)<|by omega)<|zk rfl;generalize c0+104729*(m:Int)=z6 at s6;obtain⟨xs,xl,xm,xr⟩:=Hk (c:=z6) (m:=6) (by decide)
 match xs,xl with
 | [x0,x1,x2,x3,x4,x5],_=>
  have hx:Mx x5:=xm x5 (by simp);have s7:=xo (p:=7) (as:=N5 ns c ts rs (sI m) (sI z6) e7 e8 e9 e10 e11) (y9 (WD.e<|za (i:=6) rfl) (WD.e<|zb (x:=.int (6:Nat))) xr)<|zk rfl;let A:Option O->Option O->Option O->Option O->AS:=λa b d e=>N5 ns c ts rs (sI m) (sI z6) (sT<|.lst<|[x0,x1,x2,x3,x4,x5].map .int) a b d e;have w6:WD yz (A e8 e9 e10 e11) true (.int z6):=za (i:=6) rfl;have wp:=sd (as:=A e8 e9 e10 e11) (zb (x:=.int 1000000007)) (zb (x:=.int 6)) ⟨by decide,by decide,by decide⟩;have w8:=yA (DA (WB (WB w6 wp (by decide)<|yu (by decide)<|by decide) (zb (x:=.int 2)) (by decide)<|yu (by decide)<|by decide) (zb (x:=.int 2))<|by decide) (Z6 w6 (zb (x:=.int 2))<|by decide);have s8:=yQ (st:=true) (i:=8) w8<|zk rfl;generalize z6/1000000007 ^ (6:Int).toNat/2*2+z6%2=z8 at s8;obtain⟨ds,qs,hch,hn,q1,q2⟩:=Al h hL l0 hs r1 (by omega) x0 x1 x2 x3 x4 x5<|z8+2*(m:Int);have w9:=yA (za (as:=A (sI z8) e9 e10 e11) (i:=8) (x:=.int z8) (s:=true) rfl) (Yh (zb (x:=.int 2)) (wm _ _ _ _ _ _) (yu (by decide)<|by decide)<|yu (by omega)<|by omega);have cs:=D0 (as:=A (sI z8) e9 e10 e11) (i:=3) (g:=yF) rfl (gG rfl<|zh (za (i:=4) (x:=xF rs) (s:=true) rfl)<|zh (za (i:=7) rfl)<|zh w9<|zh (za (i:=1) (x:=.int c.k) rfl)<|zh (za (i:=2) (x:=.int c.n) rfl) zv) rfl hch;have s9:=eX (g:=gT 2<|Wz (gN 9)<|Wz (gN 10) MV) (as2:=N5 ns c (ts++ds) rs (sI m) (sI z6) (sT<|.lst<|[x0,x1,x2,x3,x4,x5].map .int) (sI z8) (sT<|.lst<|(Jm ts.length (ts.length+qs.length:Nat)).map .int) (sT<|xF qs) e11) cs<|cJ (i:=9) (j:=10) (zk rfl)<|zk rfl;let B:List (List<|List Pt)->Option O->AS:=λr e=>N5 ns c (ts++ds) r (sI m) (sI z6) (sT<|.lst<|[x0,x1,x2,x3,x4,x5].map .int) (sI z8) (sT<|.lst<|(Jm ts.length (ts.length+qs.length:Nat)).map .int) (sT<|xF qs) e;have l4:WD (fP (aC zN aN) z_) (B rs e11) true (.int ts.length):=by
   rw[hs.len];exact rh<|za (i:=4) (x:=xF rs) rfl
  have l10:WD (fP (aC (fV 10) aN) z_) (B rs e11) true (.int qs.length):=rh<|za (i:=10) (x:=xF qs) rfl;have tl:ts.length<=190:=by rw[hs.len];exact r2
  have wl:=cP l4 (by have:=yA l4 l10;rw[<-Int.natCast_add]at this;exact this) (by omega) (by omega);have t10:=zC (j3 (g:=zo .NotEq) (z:=.bl false) (WD.e<|za (as:=B rs e11) (i:=9) rfl) wl<|by
   show(Tu 60 _ _).bind _=_;rw[bG];rfl) rfl
  have s11:=xo (p:=4) (as:=B rs e11) (x:=xF<|rs++qs) (by
   have:=j5 (WD.e<|za (as:=B rs e11) (i:=4) (x:=xF rs) rfl) (WD.e<|za (i:=10) (x:=xF qs) rfl) (add_lists (xs:=rs.map zH) (ys:=qs.map zH)<|by rw[zzB,zzB];exact pb<|by omega);rw[<-zyM]at this;exact this)<|zk rfl
  have hs':Ls c (l+210) (ts++ds) (rs++qs):=(hs.up (by omega) hL).app hn;obtain⟨as',hf,e,rfl⟩:=Y5 (g:=gN 11) (f:=aB) (λ_ as=>∃e,as=B (rs++qs) e) ((((Jm ts.length (ts.length+qs.length:Nat)).map D.int)).map λd=>(true,d)) 0 (B (rs++qs) e11) (λu x as hx' hI=>by
   obtain⟨e,rfl⟩:=hI;rw[zzI,zzI,zzI]at hx';cases hu:(List.range (((ts.length+qs.length:Nat):Int)-(ts.length:Nat)).toNat)[u]? with
   |none=>rw[hu]at hx';cases hx'
   |some w=>
    rw[hu]at hx';cases hx';obtain⟨ul,ue⟩:=zzG.mp hu;rw[zyU]at ul;rw[List.getElem_range]at ue;subst ue;have a:=dg (ns:=ns) (e5:=sI m) (e6:=sI z6) (e8:=sI z8) (e9:=sT<|.lst<|(Jm ts.length (ts.length+qs.length:Nat)).map .int) (e10:=sT<|xF qs) (x0:=x0) (x1:=x1) (x2:=x2) (x3:=x3) (x4:=x4) (v:=ts.length+u) h hs' hx (by rw[zzJ,<-hs.len];omega);exact⟨B (rs++qs)<|sI ((ts.length+u:Nat):Int),rfl,_,a,_,rfl⟩) ⟨_,rfl⟩
  refine⟨_,_,_,_,_,_,_,_,zL s6<|zL s7<|zL s8<|zL s9<|zL (zq t10 rfl)<|zL s11<|vC (Ho<|WD.e<|za (i:=9) rfl) hf,hs',by rw[zzJ];omega,by rw[zzJ];omega⟩
end
def rF(ns:List Int)(hns:ns.length<=63)(hb:∀i ∈ ns,i.natAbs<bg):SQ [(true,.lst<|ns.map .int)]=sT (.bl true):=by
 obtain⟨c0,h0⟩:=Oc (ns:=ns) (k:=0) (by decide) hns;obtain⟨c1,h1⟩:=Oc (ns:=ns) (k:=1) (by decide) hns;have w0:∀as:AS,as[0]? = some (sT<|.lst<|ns.map .int)->WD (zd (aC zl<|aC zM aN) yG) as true (.int c0):=λas a=>Jk rfl<|y9 (WD.e<|za a) (WD.e zb)<|RE.of h0;have w1:∀as:AS,as[0]? = some (sT<|.lst<|ns.map .int)->WD (zd (aC zl<|aC zV aN) yG) as true (.int c1):=λas a=>Jk rfl<|y9 (WD.e<|za a) (WD.e zb)<|RE.of h1;have s1:=yQ (st:=true) (i:=1) (as:=[sT<|.lst<|ns.map .int,none,none,none,none,none,none,none,none,none,none,none]) (MA (w0 _ rfl) (by decide)<|zb (x:=.int (3:Nat)))<|zk rfl;have lk':=UA c0 (k:=3) (by decide);generalize nm c0 3=k at s1 lk';have d9:=WB (w0 [sT<|.lst<|ns.map .int,sI k,none,none,none,none,none,none,none,none,none,none] rfl) (zb (x:=.int 3)) (by decide) (yu (by decide)<|by decide);have w2:=yA (zb (x:=.int 1))<|MA d9 (by decide)<|zb (x:=.int (3:Nat));have ln:=UA (c0/3) (k:=3) (by decide);generalize nm (c0/3) 3=n at w2 ln;rw[show(1:Int)+n=((1+n:Nat):Int) by omega]at w2;have s2:=yQ (st:=true) (i:=2) w2<|zk rfl;obtain⟨c,hc,h⟩:∃c:Cx,c=⟨k,1+n⟩/\c.Ok:=⟨_,rfl,show k<=2 by omega,show 1<=1+n by omega,show 1+n<=3 by omega⟩;have ek:k=c.k:=by rw[hc]
 have en:1+n=c.n:=by rw[hc]
 rw[ek]at s1 s2;rw[en]at s2;let A:Option O->Option O->Option O->AS:=λa b d=>[sT<|.lst<|ns.map .int,sI c.k,sI c.n,a,b,d,none,none,none,none,none,none];have s3:zE false 3 (zd (aC (zd (aC zi yt) PL) aN)<|xf "Makes") (A none none none)=some (.nx<|A (some<|yB c []) none none):=Vh (i:=3) (YW (xu (y9 (WD.e<|za (i:=1) rfl) (WD.e<|za (i:=2) rfl)<|kg h.k2) zv) (by
  show xf "Makes" [(zu c.w||true,c.w)]=_;rw[zyD];exact qU))<|zk rfl
 have wn:=MA (WB (w0 (A (some<|yB c []) none none) rfl) (zb (x:=.int 9)) (by decide)<|yu (by decide)<|by decide) (k:=31) (by decide)<|zb (x:=.int (31:Nat));have lN:=UA (c0/9) (k:=31) (by decide);generalize nm (c0/9) 31=N at wn lN;obtain⟨S,lS,hS,rS⟩:=S8 (c:=c1) (n:=N) (w:=c.n) (l:=lk c.k) (by omega) h.n3;have s4:=xo (p:=4) (as:=A (some<|yB c []) none none) (x:=xF [S]) (CD<|rE (WD.e<|w1 _ rfl) (WD.e wn) (WD.e<|za (i:=2) rfl) (WD.e<|DM (za (i:=1) (x:=.int c.k) rfl) zb) rS)<|zk rfl;obtain⟨d',od',md'⟩:=Ip (l:=210) (ts:=[]) (r:=S) h (by decide) (by omega) (λv mv=>IZ<|hS v mv) (by decide);have wl:WE (fP (aC (f2 zN zM zZ) aN) lstP) (A (some<|yB c []) (sT<|xF [S]) none) (zH S):=tR (WD.e<|Aj (za (i:=4) (x:=xF [S]) rfl) (zb (x:=.int 0)) rfl) rfl;have m5:=U3 (as:=A (some<|yB c []) (sT<|xF [S]) none) (i:=3) (m:="made") (g:=xx) (fr:=aC (fP (aC (f2 zN zM zZ) aN) lstP) aN) (rs:=[.ow<|.lf true<|zH S]) (xs:=[(true,zH S)]) rfl (by decide +kernel) (xu wl zv) rfl md';have s5:xD (fT<|f2 (wB 3 "Makes" "made" xx<|aC (fP (aC (f2 zN zM zZ) aN) lstP) aN) zM<|zo .NotEq) (zz<|fC<|.bl false) vB (A (some<|yB c []) (sT<|xF [S]) none)=some (.nx<|N5 ns c [d'] [S] none none none none none none none):=by
  rw[bz<|dI m5];rfl
 have hs:Ls c 210 [d'] [S]:=Ls.one od' (by omega);obtain⟨as',hf,ts,rs,e5,e6,e7,e8,e9,e10,e11,rfl,hs2,r1,r2⟩:=Y5 (g:=gN 5) (f:=lB) (λi as=>∃ts rs e5 e6 e7 e8 e9 e10 e11,as=N5 ns c ts rs e5 e6 e7 e8 e9 e10 e11/\Ls c (210+210*i) ts rs/\1<=rs.length/\rs.length<=1+2*i) (Xl 2 61) 0 (N5 ns c [d'] [S] none none none none none none none) (λi x as hx hI=>by
  obtain⟨ts,rs,e5,e6,e7,e8,e9,e10,e11,rfl,hs2,r1,r2⟩:=hI;obtain⟨rfl,hi⟩:=sy hx;rw[zyX]at hs2 r2 ⊢;rw[show(2:Int)+(i:Int)=((2+i:Nat):Int) by omega];obtain⟨ts',rs',e6',e7',e8',e9',e10',e11',hB,hs',r1',r2'⟩:=nj (ns:=ns) (m:=2+i) (e6:=e6) (e7:=e7) (e8:=e8) (e9:=e9) (e10:=e10) (e11:=e11) h hns (show 210+210*i+210<=500000 by omega) (by omega) hs2 r1 (by omega) (by omega);exact⟨N5 ns c ts rs (sI ((2+i:Nat):Int)) e6 e7 e8 e9 e10 e11,rfl,_,hB,ts',rs',_,_,_,_,_,_,_,rfl,by rw[show 210+210*(i+1)=210+210*i+210 by omega];exact hs',r1',by omega⟩) ⟨_,_,_,_,_,_,_,_,_,rfl,hs,zzN _,zzN _⟩
 rw[CK,zyX]at r2;obtain⟨as2,hz,_⟩:=Y5 (g:=gN 11) (f:=zB) (λ_ as=>∃e,as=N5 ns c ts rs e5 e6 e7 e8 e9 e10 e) ((List.range rs.length).map λb=>(true,D.int ((b:Nat):Int))) 0 (N5 ns c ts rs e5 e6 e7 e8 e9 e10 e11) (λi x as hx hI=>by
  obtain⟨e,rfl⟩:=hI;rw[zzI]at hx;obtain⟨b,hb,rfl⟩:=zzX.mp hx;obtain⟨jl,eb⟩:=zzG.mp hb;rw[zyU]at jl;rw[List.getElem_range]at eb;subst eb;exact⟨N5 ns c ts rs e5 e6 e7 e8 e9 e10<|sI i,rfl,_,iE h hs2 jl,_,rfl⟩) ⟨_,rfl⟩
 have it:Xo (aC Zl<|aC (fC<|.int 63) aN) JO (N5 ns c [d'] [S] none none none none none none none)=some (Xl 2 61,N5 ns c [d'] [S] none none none none none none none):=Et (zh (zb (x:=.int 2))<|zh (zb (x:=.int 63)) zv) (by decide) (by decide) (by decide) (by decide);have it2:=Es (as:=N5 ns c ts rs e5 e6 e7 e8 e9 e10 e11) (rh<|za (i:=4) (x:=xF rs) (s:=true) rfl) (by omega);exact vJ rfl<|zL s1<|zL s2<|zL s3<|zL s4<|zL s5<|zL (vC it hf)<|zL (vC it2 hz)<|wu zb
end G92
end
end
open PySem PySem.W PyProof.Rows
set_option maxRecDepth 100000 in
set_option maxHeartbeats 0 in
theorem PySem.Challenge.cw_stretchdeeds_k92_whole_wide_makes_holds : PySem.Challenge.rw_stretchdeeds_k92_whole_wide_makes.Holds := by
 w_on;refine holds_law G92.ws λsaid=>?_
 refine holds_open (q:=G92.qv) (loose:=[]) (Xt:=G92.Xt) (XP:=XL G92.qv []) (Yf:=Hook.obs<|kHook G92.K G92.kA G92.kAe) (Ya:=Hook.val<|kHook G92.K G92.kA G92.kAe) (YP:=Hook.says<|kHook G92.K G92.kA G92.kAe) (N:=6000) G92.hl (Hook.of<|kHook G92.K G92.kA G92.kAe) (Hook.keeps<|kHook G92.K G92.kA G92.kAe) (λs e=>xl_of s (Bool.and_eq_true_iff.mp e).1) XL.keeps (by rfl) (by rfl) (by rfl) (λs e=>recFacts_of (Bool.and_eq_true_iff.mp e).2) (by rfl) (by first|assumption|decide +kernel) (by decide +kernel) ⟨rfl,rfl,rfl,rfl,rfl,by decide +kernel⟩ ?hw ?hc
 (case hw=>w_witness2)
 k_fill
 refine G92.walk (l:=PySem.Challenge.rw_stretchdeeds_k92_whole_wide_makes) rfl rfl (λw h Y=>W.kIn_of Y) G92.rF ?F
 case F=>
  intro w mg fa h KX G hmg;refine' G92.ji KX G hmg ?_ ?_ ?_ ?_ ?_ ?_ ?_ ?_ ?_ ?_ ?_ ?_ ?_ ?_ ?_ ?_ ?_ ?_ ?_ ?_ ?_ ?_ ?_ ?_ ?_ ?_ ?_ ?_ ?_ ?_ ?_ ?_ ?_ ?_ ?_ ?_ ?_ ?_ ?_ ?_ ?_ ?_ ?_ ?_ ?_ ?_ ?_ ?_ ?_ ?_ ?_ ?_ ?_ ?_ ?_ ?_ ?_ ?_ ?_ ?_ ?_ ?_ ?_ ?_ ?_ ?_ ?_ ?_ ?_ ?_ ?_ ?_ ?_ ?_ ?_ ?_ ?_ ?_ ?_ ?_ ?_ ?_ ?_ ?_ ?_ ?_ ?_ ?_ ?_ ?_ ?_ ?_ ?_ ?_ ?_ ?_ ?_ ?_ ?_ ?_ ?_ ?_ ?_ ?_ ?_ ?_ ?_ ?_ ?_ ?_ ?_ ?_ ?_ ?_ ?_ ?_ ?_ ?_ ?_ ?_ ?_ ?_ ?_ ?_ ?_ ?_ ?_ ?_ ?_ ?_ ?_ ?_ ?_ ?_ ?_ ?_ ?_ ?_ ?_ ?_ ?_ ?_ ?_ ?_ ?_ ?_ ?_ ?_ ?_ ?_ ?_ ?_ ?_ ?_ ?_ ?_ ?_ ?_ ?_ ?_ ?_ ?_ ?_ ?_ ?_ ?_ ?_ ?_ ?_ ?_ ?_ ?_ ?_ ?_ ?_ ?_ ?_ ?_ ?_ ?_ ?_ ?_ ?_ ?_ ?_ ?_ ?_ ?_ ?_ ?_ ?_ ?_ ?_ ?_ ?_ ?_ ?_ ?_ ?_ ?_ ?_ ?_ ?_ ?_ ?_ ?_ ?_ ?_ ?_ ?_ ?_ ?_ ?_ ?_ ?_ ?_ ?_ ?_ ?_ ?_ ?_ ?_ ?_ ?_ ?_ ?_ ?_ ?_ ?_ ?_ ?_ ?_ ?_ ?_ ?_ ?_ ?_ ?_ ?_ ?_ ?_ ?_ ?_ ?_ ?_ ?_ ?_ ?_ ?_ ?_ ?_ ?_ ?_ ?_ ?_ ?_ ?_ ?_ ?_ ?_ ?_ ?_ ?_ ?_ ?_ ?_ ?_ ?_ ?_ ?_ ?_ ?_ ?_ ?_ ?_ ?_ ?_ ?_ ?_ ?_ ?_ ?_ ?_ ?_ ?_ ?_ ?_ ?_ ?_ ?_ ?_ ?_ ?_ ?_ ?_ ?_ ?_ ?_ ?_ ?_ ?_ ?_ ?_ ?_ ?_ ?_ ?_ ?_ ?_ ?_ ?_ ?_ ?_ ?_ ?_ ?_ ?_ ?_ ?_ ?_ ?_ ?_ ?_ ?_ ?_ ?_ ?_ ?_
  all_goals try first|k_is|(change _=_;k_is)|exact⟨_,⟨_,_,_,_,_,_,_,_,_,rfl,by k_is,by k_is⟩,by k_is⟩|(refine⟨?_, ?_⟩;(change _=_;k_is);exact⟨_,⟨_,_,_,_,_,_,_,_,_,rfl,by k_is,by k_is⟩,by k_is⟩)|rfl
#print axioms PySem.Challenge.cw_stretchdeeds_k92_whole_wide_makes_holds
