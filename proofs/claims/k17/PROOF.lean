import PyProof.Rows.All
import Wide.All
import OpenK.AllK
import PySem.Challenge.RW_stretchdeeds_k17_no_algebras
set_option Elab.async false
set_option linter.all false
set_option maxRecDepth 100000
set_option genSizeOf false
set_option compiler.extract_closed false
set_option bootstrap.genMatcherCode false
local macro_rules |`(⋯)=>`(by first|with_reducible rfl|assumption|omega|rfl|simp)
def zqa(x:String):Lean.MacroM (Lean.TSyntax `term):=match x with|"?"=>`(?_)|"_"=>`(_)|"a"=>`(by assumption)|"d"=>`(by decide)|"="=>`(rfl)|x=>return Lean.mkIdent x.toName
def zqb(s:String):Lean.MacroM (Lean.TSyntax `tactic):=do
 (s.splitOn ";").foldrM (fun z b=>do let w:=z.splitOn " ";let a<-(w.drop 1).toArray.mapM zqa;`(tactic| first|exact $(Lean.mkIdent (w.headD "").toName) $a*|$b:tactic)) (<-`(tactic| fail))
def zqc(s:String):Lean.MacroM (Lean.TSyntax `tactic):=do
 (s.splitOn ";").foldrM (fun z b=>do let w:=z.splitOn " ";let a<-(w.drop 1).toArray.mapM zqa;`(tactic| first|(with_reducible refine $(Lean.mkIdent (w.headD "").toName) $a*<;>exact ⋯)|$b:tactic)) (<-`(tactic| fail))
noncomputable section
abbrev zzA:=PySem.W.Frag
abbrev zzB:=@List.length_map
abbrev zzC:=@List.mem_cons
abbrev zzD:=@List.mem_cons_of_mem
abbrev zzE:=@List.getElem?_eq_getElem
abbrev zzF:=@List.mem_cons_self
abbrev zzG:=@List.getElem?_eq_some_iff
abbrev zzH:=@List.size_toArray
abbrev zzI:=@List.getElem?_map
abbrev zzJ:=@List.length_append
abbrev zzK:=@Nat.lt_of_lt_of_le
abbrev zzL:=@List.mem_append_right
abbrev zzM:=@List.mem_append
abbrev zzN:=@Nat.le_refl
abbrev zzO:=@Nat.le_trans
abbrev zzP:=@List.mem_append_left
abbrev zzQ:=@Nat.ne_of_lt
abbrev zzR:=@List.mem_singleton
abbrev zzS:=@List.length_take
abbrev zzT:=@List.length_cons
abbrev zzU:=@List.length_set
abbrev zzV:=@List.nodup_cons
abbrev zzW:=@Option.map_eq_some_iff
abbrev zzX:=@List.getElem?_set_ne
abbrev zzY:=@Option.some.inj
abbrev zzZ:=@List.mem_of_getElem?
abbrev zyA:=@List.map_map
abbrev zyB:=@Bool.and_eq_true
abbrev zyC:=@Bool.or_true
abbrev zyD:=@List.append_nil
abbrev zyE:=@List.getD_eq_getElem?_getD
abbrev zyF:=@decide_eq_false
abbrev zyG:=@Int.emod_lt_of_pos
abbrev zyH:=@Int.toNat_natCast
abbrev zyI:=@List.nodup_nil
abbrev zyJ:=@List.getElem?_set_self
abbrev zyK:=@Option.bind_some
abbrev zyL:=@List.map_append
abbrev zyM:=@Int.emod_nonneg
abbrev zyN:=@decide_eq_true
abbrev zyO:=@List.getElem?_append_left
abbrev zyP:=@List.drop_eq_getElem_cons
abbrev zyQ:=@List.getElem?_append_right
abbrev zyR:=@List.map_cons
abbrev zyS:=@Array.length_toList
abbrev zyT:=@List.length_range
abbrev zyU:=@Bool.false_ne_true
abbrev zyV:=@Nat.le_succ
abbrev zyW:=@Int.toNat_of_nonneg
abbrev zyX:=@List.getElem_mem
abbrev zyY:=@Nat.lt_succ_of_lt
abbrev zyZ:=@List.not_mem_nil
abbrev zxA:=@List.append_assoc
abbrev zxB:=@List.mem_map
abbrev zxC:=@List.nodup_append
abbrev zxD:=@PySem.wpAny_bind
abbrev zxE:=@PySem.wpAny_pure
abbrev zxF:=@PySem.Heap.get?_push_of_some
abbrev zxG:=@PySem.Heap.lt_size
abbrev zxH:=@PySem.Heap.get?_push_size
abbrev zxI:=@PySem.wpAny_newObj_type
abbrev zxJ:=@PySem.Around.under_plainId
abbrev zxK:=@PySem.wpAny_holding
abbrev zxL:=@PySem.Heap.get?_update_other
abbrev zxM:=@PySem.codeAny_builtin
abbrev zxN:=@PySem.plainId_quiet
abbrev zxO:=@PySem.Heap.size_push
abbrev zxP:=@PySem.Heap.get?_update_self
abbrev zxQ:=@PySem.wpAny_mono
abbrev zxR:=@PySem.wpAny_call_entry
namespace L2
open PySem PySem.Spec PyProof.Rows
abbrev Key:=Sum Int Str
noncomputable def P7:Key->Value->Bool
 | .inl k,v=>Value.isInt k v
 | .inr x,v=>Value.isStrOf x v
noncomputable def jg(w:World):Key->Int
 | .inl k=>hashInt k
 | .inr x=>hashStr w x
def yR:∀{k:Key}{v:Value},P7 k v=true->(∃i t,k=Sum.inl i/\v=Value.int i t)\/(∃x t,k=Sum.inr x/\v=Value.str x t)
 | .inl i,v,h=>by
  obtain⟨t,e⟩:=Value.isInt_shape h;exact .inl ⟨i,t,rfl,e⟩
 | .inr x,v,h=>by
  obtain⟨t,e⟩:=Value.isStrOf_shape h;exact .inr ⟨x,t,rfl,e⟩
def Bk(i)(t):P7 (.inl i) (.int i t)=true:=by simp[P7,Value.isInt]
def BH(x)(t):P7 (.inr x) (.str x t)=true:=by simp[P7,Value.isStrOf]
def ub(a b):decide ((Sum.inl a:Key)=Sum.inl b)=(a==b):=by
 by_cases e:a=b
 . subst e;simp
 . have h:¬(Sum.inl a:Key)=Sum.inl b:=λq=>e<|Sum.inl.inj q;rw[zyF h];exact(beq_eq_false_iff_ne.mpr e).symm
def ux(a b):decide ((Sum.inr a:Key)=Sum.inr b)=decide (a=b):=⋯
def u4(a)(b):decide ((Sum.inl a:Key)=Sum.inr b)=false:=⋯
def sX(a)(b):decide ((Sum.inr a:Key)=Sum.inl b)=false:=⋯
def xy(prog:Program)(w:World):PySem.KeyKind prog w Key where
 is:=P7
 hash:=jg w
 inj:=λv a b ha hb=>by
  rcases yR ha with⟨i,t,rfl,rfl⟩|⟨x,t,rfl,rfl⟩
  . rcases yR hb with⟨j,u,rfl,e⟩|⟨y,u,rfl,e⟩
    . injection e with e1 _;rw[e1]
    . exact nomatch e
  . rcases yR hb with⟨j,u,rfl,e⟩|⟨y,u,rfl,e⟩
    . exact nomatch e
    . injection e with e1 _;rw[e1]
 byValue:=λk v h=>by
  rcases yR h with⟨i,t,rfl,rfl⟩|⟨x,t,rfl,rfl⟩<;>rfl
 pyHash:=λhv h=>by
  rcases yR hv with⟨i,t,rfl,rfl⟩|⟨x,t,rfl,rfl⟩
  . exact wpAny_pyHash_int h
  . exact wpAny_pyHash_str h
 eqBool:=λhu hv h=>by
  rcases yR hu with⟨i,t,rfl,rfl⟩|⟨x,t,rfl,rfl⟩
  . rcases yR hv with⟨j,u,rfl,rfl⟩|⟨y,u,rfl,rfl⟩
    . rw[ub]at h;exact wpAny_eqBool_int h
    . rw[u4]at h;exact SeqAt.EqAt.int_str i t y u _ _ _ _ h
  . rcases yR hv with⟨j,u,rfl,rfl⟩|⟨y,u,rfl,rfl⟩
    . rw[sX]at h;exact SeqAt.EqAt.str_int x t j u _ _ _ _ h
    . rw[ux]at h;exact wpAny_eqBool_str h
 «strs» := λk x t v h=>by
  rcases yR h with⟨i,u,rfl,e⟩|⟨y,u,rfl,e⟩
  . exact nomatch e
  . injection e with e1 _
    subst e1;cases v<;>rfl
def LP(prog)(w)(i)(t):(xy prog w).is (.inl i) (.int i t)=true:=Bk i t
def Xl(prog)(w)(x)(t):(xy prog w).is (.inr x) (.str x t)=true:=BH x t
inductive V where
 |non|bl (b:Bool)|int (i:Int)|str (x:Str)|ref (a:Addr)|ty (n:String)
 deriving DecidableEq
def RelV:V->Value->Prop
 | .non,u=>u=Value.none
 | .bl b,u=>u=Value.bool b
 | .int i,u=>∃t,u=Value.int i t
 | .str x,u=>∃t,u=Value.str x t
 | .ref a,u=>u=Value.ref a
 | .ty n,u=>u=Value.type n
abbrev zK:List V->List Value->Prop:=Paired RelV
theorem zK.length(r:zK xs us):xs.length=us.length:=Paired.length r
theorem zK.get:∀{xs:List V}{us:List Value}{i:Nat}{x:V},zK xs us->xs[i]? = some x->∃u,us[i]? = some u/\RelV x u
 |_,_,_,_,.nil,e=>by simp at e
 |_,_,0,_,.cons r _,e=>by simp at e;subst e;exact⟨_,rfl,r⟩
 |_,_,i+1,x,.cons _ t,e=>by
  obtain⟨u,h1,h2⟩:=zK.get t (by simpa using e);exact⟨u,by simpa using h1,h2⟩
theorem zK.set(r:RelV x u):∀{xs:List V}{us:List Value}(i:Nat),zK xs us->zK (xs.set i x) (us.set i u)
 |_,_,_,.nil=>.nil
 |_,_,0,.cons _ t=>.cons r t
 |_,_,i+1,.cons q t=>.cons q<|zK.set r i t
theorem zK.append:∀{xs ys:List V}{us ws:List Value},zK xs us->zK ys ws->zK (xs++ys) (us++ws)
 |_,_,_,_,.nil,s=>s
 |_,_,_,_,.cons r t,s=>.cons r<|zK.append t s
theorem zK.take:∀{xs:List V}{us:List Value}(n:Nat),zK xs us->zK (xs.take n) (us.take n)
 |_,_,0,_=>.nil
 |_,_,_+1,.nil=>.nil
 |_,_,n+1,.cons r t=>.cons r<|zK.take n t
theorem zK.drop:∀{xs:List V}{us:List Value}(n:Nat),zK xs us->zK (xs.drop n) (us.drop n)
 |_,_,0,r=>r
 |_,_,_+1,.nil=>.nil
 |_,_,n+1,.cons _ t=>zK.drop n t
def W3:Option V->Option Value->Prop
 |some v,some u=>RelV v u
 |none,none=>True
 |_,_=>False
def KV{κ:Type}:List (κ×V)->List (κ×Value)->Prop:=Paired λp q=>p.1=q.1/\RelV p.2 q.2
noncomputable def kV:Key->V
 | .inl i=>.int i
 | .inr x=>.str x
inductive HO where
 |lst (xs:List V)
 |tup (xs:List V)
 |dK (kvs:List (Key×V))|dT (kvs:List (List Key×V))
 |set (S:Int->Bool) (n:Nat)
 |ins (C dx:Addr) (fs:List (Str×V))
 |own (x:Addr)
 |xd (fs:List (Str×V))
 |met (f x:Addr)
 |rng (lo hi:Int)
 |frz (o:Obj) (u:HO)
 |tbl (ps:Array Value)
 |ext (φ:Heap->Prop)
abbrev Hp:=Addr->Option HO
noncomputable def upd(H:Hp)(a:Addr)(o:HO):Hp:=λb=>if b=a then some o else H b
def zF:upd H a o a=some o:=by unfold upd;rw[if_pos rfl]
def zu(h:b≠a):upd H a o b=H b:=by unfold upd;rw[if_neg h]
def zO{H:Hp}{a b o}(h:H a=some o)(h':H b=none):a≠b:=by
 intro e;subst e;rw[h]at h';cases h'
section
variable(P:Program)(w:World)
def xJ(H:Hp)(h:Heap)(a:Addr):HO->Prop
 | .lst xs=>xs.length<=sizeLine/\∃(zM:List Value) (n:Nat),zK xs zM/\h.get? a=some {cls:=.type "list",data:=.seq zM.toArray n}
 | .tup xs=>xs.length<=sizeLine/\∃zM,zK xs zM/\IsTup h a zM.toArray
 | .dK kvs=>kvs.length<=sizeLine/\(a==sysModules)=false/\∃vs,KV kvs vs/\h.DictOf (xy P w) a vs
 | .dT kvs=>kvs.length<=sizeLine/\(a==sysModules)=false/\∃xs,
  Paired (λp q=>p.1=q.1/\H q.2.1=some (.tup<|p.1.map kV)/\RelV p.2 q.2.2) kvs xs/\
  ∃o es ep,h.get? a=some o/\o.ExactDict/\o.data = .dict es ep/\es.toList=xs.map (entryOfKey<|tupleKind<|xy P w)/\(xs.map (·.1)).Nodup
 | .set S n=>h.SetOf (intKind P w) a S n
 | .ins C dx fs=>H dx=some (.own a)/\fs.length<=1000/\dx≠a/\h.get? a=some (W.instObj C dx)/\
  ∃mA,h.Ns1 dx mA/\(∀f,W3 (fs.lookup f)<|mA f)/\PySem.Within mA (fs.map (·.1))
 | .own _=>∃o,h.get? a=some o
 | .xd fs=>∃mA,h.Ns1 a mA/\∀f,W3 (fs.lookup f)<|mA f
 | .rng lo hi=>∃t u v,h.get? a=some {cls:=.type "range",data:=.fields #[.int lo t,.int hi u,.int 1 v]}
 | .frz o u=>h.get? a=some o/\xJ H h a u
 | .tbl ps=>h.get? a=some {cls:=.none,data:=.fields ps}
 | .met f x=>h.get? a=some (W.methodObj (.ref f)<|.ref x)
 | .ext φ=>φ h/\(∃o,h.get? a=some o)/\∀h1 h2,φ h1->(∀o,h1.get? a=some o->h2.get? a=some o)->φ h2
def Vg(H:Hp)(h:Heap):Prop:=∀a o,H a=some o->xJ P w H h a o
end
theorem xJ.lt(x:xJ P w H h a o):a<h.objs.size:=by
 cases o with
 |lst xs=>obtain⟨_,_,_,_,e⟩:=x;exact zxG e
 |tup xs=>obtain⟨_,_,_,p⟩:=x;exact p.lt
 |dK kvs=>obtain⟨_,_,_,_,o,_,_,e,_⟩:=x;exact zxG e
 |dT kvs=>obtain⟨_,_,_,_,o,_,_,e,_⟩:=x;exact zxG e
 |set S n=>obtain⟨o,_,_,_,e,_⟩:=x;exact zxG e
 |ins C dx fs=>obtain⟨_,_,_,e,_⟩:=x;exact zxG e
 |own y=>obtain⟨_,e⟩:=x;exact zxG e
 |xd fs=>obtain⟨_,⟨_,_,_,e,_⟩,_⟩:=x;exact zxG e
 |rng lo hi=>obtain⟨_,_,_,e⟩:=x;exact zxG e
 |frz ob u=>obtain⟨e,_⟩:=x;exact zxG e
 |tbl ps=>exact zxG (x)
 |met f y=>exact zxG (x)
 |ext φ=>obtain⟨_,⟨_,e⟩,_⟩:=x;exact zxG e
theorem Paired.mapP:∀{l₁:List α}{l₂:List β},Paired F l₁ l₂->(∀a b,F a b->G a b)->Paired G l₁ l₂
 |_,_,.nil,_=>.nil
 |_,_,.cons r t,f=>.cons (f _ _ r)<|Paired.mapP t f
def xJ.stay(x:xJ P w H h a o)(k:∀b u,(b=a\/H b=some (.own a))->h.get? b=some u->h'.get? b=some u)
 (ho:∀b,H b=some (.own a)->H' b=some (.own a)) (ht:∀b xs,H b=some (.tup xs)->H' b=some (.tup xs)):xJ P w H' h' a o:=by
 induction o with
 |lst xs=>obtain⟨z,zM,n,r,e⟩:=x;exact⟨z,zM,n,r,k _ _ (.inl rfl) e⟩
 |tup xs=>obtain⟨z,zM,r,ob,e,c⟩:=x;exact⟨z,zM,r,ob,k _ _ (.inl rfl) e,c⟩
 |dK kvs=>obtain⟨z,y,vs,r,ob,es,ep,e,c⟩:=x;exact⟨z,y,vs,r,ob,es,ep,k _ _ (.inl rfl) e,c⟩
 |dT kvs=>
  obtain⟨z,y,xs,r,ob,es,ep,e,c⟩:=x;exact⟨z,y,xs,Paired.mapP r λp q z=>⟨z.1,ht _ _ z.2.1,z.2.2⟩,ob,es,ep,k _ _ (.inl rfl) e,c⟩
 |set S n=>obtain⟨ob,es,ep,t,e,c⟩:=x;exact⟨ob,es,ep,t,k _ _ (.inl rfl) e,c⟩
 |ins C dx fs=>
  obtain⟨d,z,ne,e,mA,⟨od,es,ep,e2,c⟩,r⟩:=x;exact⟨ho _ d,z,ne,k _ _ (.inl rfl) e,mA,⟨od,es,ep,k _ _ (.inr d) e2,c⟩,r⟩
 |own y=>obtain⟨ob,e⟩:=x;exact⟨ob,k _ _ (.inl rfl) e⟩
 |xd fs=>obtain⟨mA,⟨od,es,ep,e,c⟩,r⟩:=x;exact⟨mA,⟨od,es,ep,k _ _ (.inl rfl) e,c⟩,r⟩
 |rng lo hi=>obtain⟨t,u,v,e⟩:=x;exact⟨t,u,v,k _ _ (.inl rfl) e⟩
 |frz ob u ih=>obtain⟨e,q⟩:=x;exact⟨k _ _ (.inl rfl) e,ih q⟩
 |tbl ps=>
  have e:=x;exact k a _ (.inl rfl) e
 |met f y=>
  have e:=x;exact k a _ (.inl rfl) e
 |ext φ=>obtain⟨p,⟨o,e⟩,st⟩:=x;exact⟨st _ _ p λo q=>k _ _ (.inl rfl) q,⟨o,k _ _ (.inl rfl) e⟩,st⟩
theorem Vg.lt(x:Vg P w H h)(e:H a=some o):a<h.objs.size:=(x a o e).lt
def Vg.fresh(x:Vg P w H h)(e:h.objs.size<=a):H a=none:=by
 cases q:H a with
 |none=>rfl
 |some u=>exact absurd (zzK (x.lt q) e) (Nat.lt_irrefl _)
def Vg.kept(x:Vg P w H h)(k:∀b u,h.get? b=some u->h'.get? b=some u):Vg P w H h':=λa o e=>
 (x a o e).stay (λb u _ q=>k b u q) (λ_ q=>q) λ_ _ q=>q
def Vg.laid(x:Vg P w H h)(k:∀b u,h.get? b=some u->h'.get? b=some u)(hp:h.objs.size<=a)(new:xJ P w (upd H a o) h' a o):Vg P w (upd H a o) h':=λb u e=>by
 have hn:=x.fresh hp
 by_cases hb:b=a
 . subst hb;rw[zF]at e;cases e;exact new
 . rw[zu hb]at e;exact(x b u e).stay (λc v _ q=>k c v q) (λc q=>by rwa [zu<|zO q hn]) λc xs q=>by rwa [zu<|zO q hn]
def Rd(H:Hp)(a:Addr)(u:HO):Prop:=H a=some u\/∃o,H a=some (.frz o u)
def Rd.ok(r:Rd H a u)(x:Vg P w H h):xJ P w H h a u:=by
 rcases r with r|⟨o,r⟩
 . exact x a u r
 . obtain⟨_,q⟩:=x a _ r;exact q
def pC:Option HO->Prop
 |some (.lst _)=>True
 |some (.dK _)=>True
 |some (.dT _)=>True
 |some (.set _ _)=>True
 |some (.ins _ _ _)=>True
 |some (.ext _)=>True
 |_=>False
def Vg.write(ok:Vg P w H h)(mu:pC (H x))(he:e=x\/H e=some (.own x))(k:∀b u,b≠e->h.get? b=some u->h'.get? b=some u)(heo:∃u,h'.get? e=some u)
 (new:xJ P w (upd H x o') h' x o'):Vg P w (upd H x o') h':=λb u q=>by
 have nown:∀c y,H c=some (.own y)->c≠x:=λc y r z=>by subst z;rwa [r]at mu
 have ntup:∀c xs,H c=some (.tup xs)->c≠x:=λc xs r z=>by subst z;rwa [r]at mu
 by_cases hb:b=x
 . subst hb;rw[zF]at q;cases q;exact new
 . rw[zu hb]at q
   by_cases i':b=e
   . have q':H b=some (.own x):=by
      rcases he with z|z
      . exact absurd (i'.trans z) hb
      . rwa [i']
     rw[q]at q';cases q';obtain⟨v,hv⟩:=heo;exact⟨v,by rwa [i']⟩
   . refine(ok b u q).stay (λc v hc r=>k c v ?_ r) (λc r=>by rwa [zu<|nown c b r]) λc xs r=>by rwa [zu<|ntup c xs r]
     rcases hc with rfl|hc
     . exact i'
     . rintro rfl
       rcases he with z|z
       . exact nown c b hc z
       . rw[hc]at z;cases z;exact hb rfl
structure Un(fs ex:List Addr)(H H':Hp)(h h':Heap):Prop where
 keep:∀b o,h.get? b=some o->H b=none->b ∉ fs->b ∉ ex->h'.get? b=some o
 slot:∀b o,h.get? b=some o->H b=none->b ∈ fs->b ∉ ex->∃sl,h'.get? b=some {o with slots:=sl}
 free:∀b o,h.get? b=some o->H b=none->b ∉ ex->H' b=none
 there:∀b o,h.get? b=some o->b ∉ ex->∃o',h'.get? b=some o'
 tups:∀b xs,H b=some (.tup xs)->H' b=some (.tup xs)
 frzs:∀b o u,H b=some (.frz o u)->H' b=some (.frz o u)
 tbls:∀b ps,H b=some (.tbl ps)->∃more,H' b=some (.tbl<|ps++more)
def Un.any(u:Un fs ex H H1 h h1)(q:h.get? b=some ob)(n:H b=none)(hx:b ∉ ex):∃sl,h1.get? b=some {ob with slots:=sl}:=by
 by_cases hb:b ∈ fs
 . exact u.slot b ob q n hb hx
 . exact⟨ob.slots,u.keep b ob q n hb hx⟩
def Un.kept(k:∀b u,h.get? b=some u->h'.get? b=some u):Un fs ex H H h h':=
 ⟨λb ob q _ _ _=>k b ob q,λb ob q _ _ _=>⟨ob.slots,k b ob q⟩,λ_ _ _ n _=>n,λb ob q _=>⟨ob,k b ob q⟩,λ_ _ q=>q,λ_ _ _ q=>q,λ_ ps q=>⟨#[],by rw[q];simp⟩⟩
def Un.refl:Un fs ex H H h h:=Un.kept λ_ _ q=>q
def Un.laid(k:∀b u,h.get? b=some u->h'.get? b=some u)(hp:h.objs.size<=a)(hn:H a=none):Un fs ex H (upd H a o) h h' where
 keep:=λb u q _ _ _=>k b u q
 slot:=λb u q _ _ _=>⟨u.slots,k b u q⟩
 free:=λb u q n _=>by rwa [zu<|zzQ<|zzK (zxG q) hp]
 there:=λb u q _=>⟨u,k b u q⟩
 tups:=λb xs q=>by rwa [zu<|zO q hn]
 frzs:=λb u xs q=>by rwa [zu<|zO q hn]
 tbls:=λb ps q=>⟨#[],by rw[zu<|zO q hn,q];simp⟩
def Un.write(mu:pC (H x))(he:e=x\/H e=some (.own x))(k:∀b u,b≠e->h.get? b=some u->h'.get? b=some u)(heo:∃u,h'.get? e=some u):Un fs ex H (upd H x o) h h':=by
 have hx:∀b,H b=none->b≠x:=λb n z=>by subst z;rwa [n]at mu
 have hb:∀b,H b=none->b≠e:=λb n z=>by
  subst z
  rcases he with r|r
  . exact hx b n r
  . rw[n]at r;cases r
 have hm:∀b u,H b=some u->¬pC (some u)->b≠x:=λb u q nm z=>by subst z;rw[q]at mu;exact nm mu
 refine⟨λb u q n _ _=>k b u (hb b n) q,λb u q n _ _=>⟨u.slots,k b u (hb b n) q⟩,λb u q n _=>by rw[zu<|hx b n];exact n,λb u q _=>?_,
  λb xs q=>by rw[zu<|hm b _ q λz=>z];exact q,λb u xs q=>by rw[zu<|hm b _ q λz=>z];exact q,λb ps q=>⟨#[],by rw[zu<|hm b _ q λz=>z,q];simp⟩⟩
 by_cases i':b=e
 . subst i';exact heo
 . exact⟨u,k b u i' q⟩
noncomputable def trk(h:Heap)(H:Hp):List Addr:=(List.range h.objs.size).filter λa=>(H a).isSome
def F9(h:Heap)(H:Hp):Heap:=W.hideAll h<|trk h H
def Bx(h)(H):(F9 h H).objs.size=h.objs.size:=W.hideAll_size _ _
def Sf(e:h.get? b=some o)(n:H b=none):(F9 h H).get? b=some o:=
 W.hideAll_get _ e λhm=>by
  have q:=(List.mem_filter.mp hm).2;rw[n]at q;simp at q
def IR(e:(F9 h H).get? b=some o):h.get? b=some o/\H b=none:=by
 have e':h.get? b=some o:=W.of_hideAll _ e;refine⟨e', ?_⟩;cases q:H b with
 |none=>rfl
 |some x=>
  have hm:b ∈ trk h H:=List.mem_filter.mpr ⟨List.mem_range.mpr<|zxG e',by simp[q]⟩;have z:(F9 h H).get? b=none:=W.hideAll_none _ hm;rw[z]at e;cases e
structure Mod(K:zzA)(mg:Str->Option Value)(base:Heap):Prop where
 kin:K.In base
 glob:base.Ns mainGlobals mg
 blt:∃mb,base.Ns builtinsNs mb/\∀x:Str,x≠"__name__"->mb x=bootBuiltins x
 nolimit:base.NoLimit
structure Cx where
 prog:Program
 w:World
 K:zzA
 mg:Str->Option Value
 base:Heap
 A:Around
 N:List Str
 s₀:Shared
 H₀:Hp
 env:Env
 outer:List Env
 stack:List Env
 ex:List Addr
 fn:Str->Bool
 calm:Bool
 pn:List (Addr×Obj)
 xe:Value->Shared->Prop
noncomputable def Q2(l:List Env):List Addr:=l.filterMap (·.frame)
abbrev Cx.fs(X:Cx):List Addr:=Q2 X.outer
def lG(sc:Scope)(x:Str):Prop:=sc.names.lookup x=some .local\/sc.names.lookup x=some .cell\/sc.names.lookup x=some .free
def Loc(sc:Scope)(x:Str):Prop:=sc.names.lookup x=some .local\/sc.names.lookup x=some .cell
def Look(env:Env)(h:Heap)(m:Str->Option Value)(x:Str)(u:Value):Prop:=
 (env.kindOf x=some .local/\m x=some u)\/((env.kindOf x=some .cell\/env.kindOf x=some .free)/\∃c,env.cells.lookup x=some c/\h.IsCell c (some u))
structure Cx.Ok(X:Cx):Prop where
 mod:Mod X.K X.mg X.base
 kind:X.env.scope.kind = .function
 glob:X.env.globals=mainGlobals
 blt:X.env.builtins=builtinsNs
 above:X.s₀.heap.objs.size<=X.env.locals
 inj:∀x y c,X.env.cells.lookup x=some c->X.env.cells.lookup y=some c->x=y
 has:∀x,(X.env.kindOf x=some .cell\/X.env.kindOf x=some .free)->∃c,X.env.cells.lookup x=some c
 cab:∀x c,X.fn x=true->X.env.cells.lookup x=some c->X.s₀.heap.objs.size<=c
 hd:X.calm=true->X.A.handled=none
 frames:X.A.frames=some X.stack
 stk:X.stack=X.outer\/(X.stack=X.env::X.outer/\X.env.frame=some X.env.locals)
 exf:∀b ∈ X.ex,b≠X.env.locals/\∀x c,X.env.cells.lookup x=some c->c≠b
 bs:∀b o,X.base.get? b=some o->X.s₀.heap.get? b=some o/\X.H₀ b=none
 bsz:X.base.objs.size<=X.s₀.heap.objs.size
 noex:∀b o,X.base.get? b=some o->b ∉ X.ex
 exfs:∀b ∈ X.ex,b ∉ X.fs
 funs:X.s₀.heap.FunFrames X.base X.outer
 frf:∀b ∈ X.fs,X.H₀ b=none
structure Inv(X:Cx)(Z':List (Addr×Obj))(σ:List (Option V))(H:Hp)(s:Shared):Prop where
 ok:X.Ok
 os:s.os=X.s₀.os
 bare:AllBare s.gens
 base:Un X.fs X.ex X.H₀ H X.s₀.heap s.heap
 loc:∃m,s.heap.Ns X.env.locals m/\∀(i:Nat) (x:Str) (v:V),X.N[i]? = some x->σ[i]? = some (some v)->lG X.env.scope x->∃u,RelV v u/\Look X.env s.heap m x u
 cell:∀x c,X.env.cells.lookup x=some c->∃v,s.heap.IsCell c v
 free:H X.env.locals=none
 freeC:∀x c,X.env.cells.lookup x=some c->H c=none
 pin:∀p ∈ X.pn++Z',s.heap.get? p.1=some p.2/\H p.1=none/\p.1≠X.env.locals/\p.1 ∉ X.fs/\∀v,p.2.data ≠ .cell v
 hok:Vg X.prog X.w H s.heap
 len:σ.length=X.N.length
section
variable{X:Cx}{Z':List (Addr×Obj)}{σ:List (Option V)}{H H':Hp}{s:Shared}{h':Heap}
def Cx.Ok.nofr(ok:X.Ok)(e:X.base.get? b=some o):b ∉ X.fs:=λhb=>by
 have:=(ok.funs.mem hb).1;rw[e]at this;cases this
theorem Inv.bs(I:Inv X Z' σ H s):∀b o,X.base.get? b=some o->s.heap.get? b=some o/\H b=none:=λb o e=>
 ⟨I.base.keep b o (I.ok.bs b o e).1 (I.ok.bs b o e).2 (I.ok.nofr e)<|I.ok.noex b o e,I.base.free b o (I.ok.bs b o e).1 (I.ok.bs b o e).2<|I.ok.noex b o e⟩
def Inv.bk(I:Inv X Z' σ H s):∀b o,X.base.get? b=some o->s.heap.get? b=some o:=λb o e=>(I.bs b o e).1
theorem Inv.mod(I:Inv X Z' σ H s):Mod X.K X.mg X.base:=I.ok.mod
def Inv.kIn(I:Inv X Z' σ H s):X.K.In s.heap:=I.ok.mod.kin.keeps I.bk
theorem Inv.lt(I:Inv X Z' σ H s):X.env.locals<s.heap.objs.size:=let⟨_,hn,_⟩:=I.loc;hn.lt
def Inv.sz(I:Inv X Z' σ H s):X.s₀.heap.objs.size<=s.heap.objs.size:=zzO I.ok.above<|Nat.le_of_lt I.lt
def Inv.nofs(I:Inv X Z' σ H s)(h:s.heap.objs.size<=a):a ∉ X.fs:=λhb=>by
 obtain⟨_,o,ho,_⟩:=I.ok.funs.mem hb;exact absurd (zzK (zxG ho)<|zzO I.sz h)<|Nat.lt_irrefl _
def Inv.cne(I:Inv X Z' σ H s):∀x c,X.env.cells.lookup x=some c->c≠X.env.locals:=λx c e z=>by
 obtain⟨v,o,ho,hd⟩:=I.cell x c e;obtain⟨m,⟨o',es,ep,va,hd',_⟩,_⟩:=I.loc;rw[z,va]at ho;cases ho;rw[hd']at hd;cases hd
theorem Inv.funs(I:Inv X Z' σ H s):s.heap.FunFrames X.base X.outer:=by
 have all:∀l,(∀b ∈ Q2 l,b ∈ X.fs)->X.s₀.heap.FunFrames X.base l->s.heap.FunFrames X.base l:=by
  intro l
  induction l with
  |nil=>intro _ _;trivial
  |cons env r ih=>
   intro hs hl;obtain⟨hk,⟨L,o,hf,hn,ho,hd⟩,hr⟩:=hl;have hL:=hs L (by unfold Q2;rw[List.filterMap_cons,hf];exact zzF);obtain⟨sl,e⟩:=I.base.slot L o ho (I.ok.frf L hL) hL λz=>I.ok.exfs L z hL;exact⟨hk,⟨L,_,hf,hn,e,hd⟩,ih (λb hb=>hs b<|by unfold Q2;rw[List.filterMap_cons,hf];exact zzD _ hb) hr⟩
 exact all X.outer (λ_ hb=>hb) I.ok.funs
theorem Inv.stack(I:Inv X Z' σ H s):s.heap.FunFrames X.base X.stack:=by
 rcases I.ok.stk with e|⟨e,hf⟩
 . rw[e];exact I.funs
 . rw[e];obtain⟨m,hn,_⟩:=I.loc;refine .cons (by rw[I.ok.kind];decide) hf hn ?_ I.funs;exact Heap.get?_none_of_le<|zzO I.ok.bsz I.ok.above
def Inv.stkSub(I:Inv X Z' σ H s):∀b ∈ Q2 X.stack,b ∈ X.env.locals::X.fs:=λb hb=>by
 rcases I.ok.stk with e|⟨e,hf⟩
 . rw[e]at hb;exact zzD _ hb
 . rw[e]at hb;unfold Q2 at hb
   rwa [List.filterMap_cons,hf]at hb
def Inv.stkFree(I:Inv X Z' σ H s):∀b ∈ Q2 X.stack,H b=none:=λb hb=>by
 rcases zzC.mp (I.stkSub b hb)with e|hb
 . rw[e];exact I.free
 . obtain⟨_,o,ho,_⟩:=I.ok.funs.mem hb;exact I.base.free b o ho (I.ok.frf b hb) λz=>I.ok.exfs b z hb
def Inv.step{g'}{t':Nat}{d'}{ch:List Addr}(I:Inv X Z' σ H s)
 (j':∀b ∈ ch,(b ∈ X.ex\/X.s₀.heap.objs.size<=b)/\b≠X.env.locals/\(∀x c,X.env.cells.lookup x=some c->c≠b)/\∀p ∈ X.pn++Z',p.1≠b)
 (keep:∀b o,b≠X.env.locals->b ∉ X.fs->b ∉ ch->s.heap.get? b=some o->H b=none->h'.get? b=some o)
 (slot:∀b o,b≠X.env.locals->b ∈ X.fs->b ∉ ch->s.heap.get? b=some o->H b=none->∃sl,h'.get? b=some {o with slots:=sl}) (free:∀b o,b ∉ ch->s.heap.get? b=some o->H b=none->H' b=none)
 (there:∀b o,b ∉ ch->s.heap.get? b=some o->∃o',h'.get? b=some o')
 (tups:∀b xs,H b=some (.tup xs)->H' b=some (.tup xs)) (frzs:∀b o u,H b=some (.frz o u)->H' b=some (.frz o u)) (tbls:∀b ps,H b=some (.tbl ps)->∃more,H' b=some (.tbl<|ps++more))
 (ns:∀m,s.heap.Ns X.env.locals m->h'.Ns X.env.locals m) (hok:Vg X.prog X.w H' h') (hg:AllBare g'):
 Inv X Z' σ H' {s with heap:=h',gens:=g',drawn:=d',toks:=t'}:=by
 have neL:∀b o,X.s₀.heap.get? b=some o->b≠X.env.locals:=λb o e=>zzQ<|zzK (zxG e) I.ok.above;have neC:∀b o,X.s₀.heap.get? b=some o->b ∉ X.ex->b ∉ ch:=λb o e hx hb=>by
  rcases(j' b hb).1 with z|z
  . exact hx z
  . exact absurd (zzK (zxG e) z)<|Nat.lt_irrefl _
 have cellK:∀x c,X.env.cells.lookup x=some c->∀v,s.heap.IsCell c v->h'.IsCell c v:=λx c e v ⟨o,ho,hd⟩=>by
  have nch:=λz=>(j' c z).2.2.1 x c e rfl
  by_cases hc:c ∈ X.fs
  . obtain⟨sl,q⟩:=slot c o (I.cne x c e) hc nch ho<|I.freeC x c e;exact⟨_,q,hd⟩
  . exact⟨o,keep c o (I.cne x c e) hc nch ho<|I.freeC x c e,hd⟩
 refine⟨I.ok,I.os,hg,⟨λb o e n hb hx=>?_,λb o e n hb hx=>?_,λb o e n hx=>?_,λb o e hx=>?_,λb xs e=>tups b xs<|I.base.tups b xs e,λb o xs e=>frzs b o xs<|I.base.frzs b o xs e,λb ps e=>?_⟩, ?_,λx c e=>?_, ?_,λx c e=>?_,λp hp=>?_,hok,I.len⟩
 . exact keep b o (neL b o e) hb (neC b o e hx) (I.base.keep b o e n hb hx)<|I.base.free b o e n hx
 . obtain⟨sl,e1⟩:=I.base.slot b o e n hb hx;obtain⟨sl',e2⟩:=slot b _ (neL b o e) hb (neC b o e hx) e1<|I.base.free b o e n hx;exact⟨sl',e2⟩
 . obtain⟨o',e1⟩:=I.base.there b o e hx;exact free b o' (neC b o e hx) e1<|I.base.free b o e n hx
 . obtain⟨o',e1⟩:=I.base.there b o e hx;exact there b o' (neC b o e hx) e1
 . obtain⟨m1,e1⟩:=I.base.tbls b ps e;obtain⟨m2,e2⟩:=tbls b _ e1;exact⟨m1++m2,by rw[e2,Array.append_assoc]⟩
 . obtain⟨m,hn,hl⟩:=I.loc;refine⟨m,ns m hn,λi x v e1 e2 e3=>?_⟩;obtain⟨u,r,l⟩:=hl i x v e1 e2 e3;refine⟨u,r, ?_⟩
   rcases l with l|⟨k,c,e,z⟩
   . exact .inl l
   . exact .inr ⟨k,c,e,cellK x c e _ z⟩
 . obtain⟨v,z⟩:=I.cell x c e;exact⟨v,cellK x c e v z⟩
 . obtain⟨m,⟨o,_,_,ho,_⟩,_⟩:=I.loc;exact free _ o (λz=>(j' _ z).2.1 rfl) ho I.free
 . obtain⟨v,o,ho,hd⟩:=I.cell x c e;exact free c o (λz=>(j' c z).2.2.1 x c e rfl) ho<|I.freeC x c e
 . obtain⟨e,n,ne,nf,d⟩:=I.pin p hp;have nch:=λz=>(j' p.1 z).2.2.2 p hp rfl;exact⟨keep p.1 p.2 ne nf nch e n,free p.1 p.2 nch e n,ne,nf,d⟩
def Inv.un{t':Nat}(I:Inv X Z' σ H s)(u:Un X.fs [] H H' s.heap h')(hok:Vg X.prog X.w H' h'):Inv X Z' σ H' {s with heap:=h',toks:=t'}:=by
 obtain⟨m,⟨o,es,ep,ho,r⟩,_⟩:=id I.loc;obtain⟨sl,hL⟩:=u.any ho I.free (by simp);exact I.step (g':=s.gens) (d':=s.drawn) (ch:=[]) (λ_ z=>nomatch z) (λb o _ hb _ e n=>u.keep b o e n hb<|by simp) (λb o _ hb _ e n=>u.slot b o e n hb<|by simp) (λb o _ e n=>u.free b o e n<|by simp) (λb o _ e=>u.there b o e<|by simp) u.tups u.frzs u.tbls (λm' hm=>by
  obtain⟨o',l0,ep',va,r'⟩:=hm;rw[ho]at va;cases va;exact⟨_,l0,ep',hL,r'⟩) hok I.bare
def Inv.call{g'}{t':Nat}{d'}{ch:List Addr}(I:Inv X Z' σ H s)(u:Un (Q2 X.stack) ch H H' s.heap h')(hok:Vg X.prog X.w H' h')(hg:AllBare g')
 (j':∀b ∈ ch,(b ∈ X.ex\/X.s₀.heap.objs.size<=b)/\b≠X.env.locals/\(∀x c,X.env.cells.lookup x=some c->c≠b)/\∀p ∈ X.pn++Z',p.1≠b):
 Inv X Z' σ H' {s with heap:=h',gens:=g',drawn:=d',toks:=t'}:=by
 obtain⟨m,⟨o,es,ep,ho,r⟩,_⟩:=id I.loc;obtain⟨sl,hL⟩:=u.any ho I.free λz=>(j' _ z).2.1 rfl;exact I.step j' (λb o hL hb hc e n=>u.keep b o e n (λz=>(zzC.mp<|I.stkSub b z).elim hL hb) hc) (λb o _ _ hc e n=>u.any e n hc) (λb o hc e n=>u.free b o e n hc) (λb o hc e=>u.there b o e hc) u.tups u.frzs u.tbls (λm' hm=>by
  obtain⟨o',l0,ep',va,r'⟩:=hm;rw[ho]at va;cases va;exact⟨_,l0,ep',hL,r'⟩) hok hg
def Inv.turned{t':Nat}{it:Addr}(I:Inv X Z' σ H s)(k:∀b o,b≠it->s.heap.get? b=some o->h'.get? b=some o)(hn:H it=none)(hL:it≠X.env.locals)
 (h1:it ∈ X.ex\/X.s₀.heap.objs.size<=it) (h2:∀x c,X.env.cells.lookup x=some c->c≠it) (h3:∀p ∈ X.pn++Z',p.1≠it):Inv X Z' σ H {s with heap:=h',toks:=t'}:=by
 have nit:∀b u,H b=some u->b≠it:=λb u e z=>by rw[z,hn]at e;cases e
 refine I.step (g':=s.gens) (d':=s.drawn) (ch:=[it]) (λb hb=>?_) (λb o _ _ hc e _=>k b o (λz=>hc<|by simp[z]) e) (λb o _ _ hc e _=>⟨o.slots,k b o (λz=>hc<|by simp[z]) e⟩) (λ_ _ _ _ n=>n)
  (λb o hc e=>⟨o,k b o (λz=>hc<|by simp[z]) e⟩) (λ_ _ e=>e) (λ_ _ _ e=>e) (λb ps e=>⟨#[],by rw[e];simp⟩) (λm hm=>?_) (λb u e=>?_) I.bare
 . have e:b=it:=by simpa using hb
   subst e;exact⟨h1,hL,h2,h3⟩
 . obtain⟨o,es,ep,ho,r⟩:=hm;exact⟨o,es,ep,k _ o (Ne.symm hL) ho,r⟩
 . refine(I.hok b u e).stay (λc v hc q=>k c v ?_ q) (λ_ q=>q) λ_ _ q=>q
   rcases hc with z|z
   . rw[z];exact nit b u e
   . exact nit c _ z
def Inv.tok(I:Inv X Z' σ H s)(t:Nat):Inv X Z' σ H {s with toks:=t}:=I.un (h':=s.heap) (t':=t) Un.refl I.hok
theorem Inv.kept(I:Inv X Z' σ H s)(k:∀b u,s.heap.get? b=some u->h'.get? b=some u):Inv X Z' σ H {s with heap:=h',toks:=t'}:=I.un (Un.kept k)<|I.hok.kept k
theorem Inv.laid(I:Inv X Z' σ H s)(k:∀b u,s.heap.get? b=some u->h'.get? b=some u)(hp:s.heap.objs.size<=a)(new:xJ X.prog X.w (upd H a o) h' a o):
 Inv X Z' σ (upd H a o) {s with heap:=h',toks:=t'}:=I.un (Un.laid k hp<|I.hok.fresh hp)<|I.hok.laid k hp new
theorem Inv.write(I:Inv X Z' σ H s)(mu:pC (H x))(he:e=x\/H e=some (.own x))(k:∀b u,b≠e->s.heap.get? b=some u->h'.get? b=some u)(heo:∃u,h'.get? e=some u)
 (new:xJ X.prog X.w (upd H x o) h' x o):Inv X Z' σ (upd H x o) {s with heap:=h',toks:=t'}:=I.un (Un.write mu he k heo)<|I.hok.write mu he k heo new
def Inv.weak(I:Inv X Z' σ H s)(hl:P'.length=σ.length)(w:∀(i:Nat) v,P'[i]? = some (some v)->σ[i]? = some (some v)):Inv X Z' P' H s:=
 ⟨I.ok,I.os,I.bare,I.base,let⟨m,hn,hl'⟩:=I.loc;⟨m,hn,λi x v e1 e2 e3=>hl' i x v e1 (w i v e2) e3⟩,I.cell,I.free,I.freeC,I.pin,I.hok,hl.trans I.len⟩
def Inv.pins_of(I:Inv X Z' σ H s)(h:∀p ∈ pins',s.heap.get? p.1=some p.2/\H p.1=none/\p.1≠X.env.locals/\p.1 ∉ X.fs/\∀v,p.2.data ≠ .cell v):Inv X pins' σ H s:=
 ⟨I.ok,I.os,I.bare,I.base,I.loc,I.cell,I.free,I.freeC,λp hp=>(zzM.mp hp).elim (λz=>I.pin p<|zzP _ z)<|h p,I.hok,I.len⟩
def Rt{N:List Str}(hN:N.Nodup){i j:Nat}{x}(a:N[i]? = some x)(b:N[j]? = some x):i=j:=by
 obtain⟨h1,e1⟩:=zzG.mp a;obtain⟨h2,e2⟩:=zzG.mp b;exact(List.getElem_inj hN).mp<|e1.trans e2.symm
def VR{M A E}{i:Nat}{x v u Q}(I:Inv X Z' σ H s)(hN:X.N.Nodup)(hi:X.N[i]? = some x)(hx:Loc X.env.scope x)(r:RelV v u)
 (h:∀s',Inv X Z' (σ.set i<|some v) H s'->(∃a,Heap.SameBut a s.heap s'.heap/\(a=X.env.locals\/X.env.cells.lookup x=some a))->Q () s') (hf:X.fn x=true\/X.env.scope.names.lookup x=some .local:=by first|exact .inl rfl|exact .inr rfl|assumption):wpAny M A (storeName X.env x u) Q E s:=by
 obtain⟨m,hn,hl⟩:=id I.loc;have hcls:(X.env.scope.kind == .class||(X.env.scope.kind == .module&&X.env.locals != X.env.globals))=false:=by rw[I.ok.kind];rfl
 have hiσ:i<σ.length:=by rw[I.len];exact(zzG.mp hi).1
 have cne:=I.cne;have tracked:∀{a:Addr}{h':Heap},(∃o,s.heap.get? a=some o/\H a=none)->Heap.SameBut a s.heap h'->Vg X.prog X.w H h':=λ{a h'} ha hs b ob e=>by
  obtain⟨_,_,hfree⟩:=ha;refine(I.hok b ob e).stay (λc w' hc q=>(hs.2 c ?_).trans q) (λ_ q=>q) λ_ _ q=>q
  rintro rfl
  rcases hc with rfl|hc
  . rw[hfree]at e;cases e
  . rw[hfree]at hc;cases hc
 rcases hx with hk|hk
 . refine wpAny_storeName_local hk hn (λh' hn' hs=>?_) hcls;obtain⟨oL,_,_,hoL,_⟩:=id hn;refine h _ ⟨I.ok,I.os,I.bare,⟨λb o e n hb hx=>?_,λb o e n hb hx=>?_,I.base.free,λb o e hx=>?_,I.base.tups,I.base.frzs,I.base.tbls⟩,⟨_,hn',λj y v' e1 e2 e3=>?_⟩,λy c e=>?_,I.free,I.freeC,λp hp=>?_,tracked ⟨oL,hoL,I.free⟩ hs,by simpa using I.len⟩ ⟨_,hs,.inl rfl⟩
   . exact(hs.2 b<|zzQ<|zzK (zxG e) I.ok.above).trans<|I.base.keep b o e n hb hx
   . obtain⟨sl,e1⟩:=I.base.slot b o e n hb hx;exact⟨sl,(hs.2 b<|zzQ<|zzK (zxG e) I.ok.above).trans e1⟩
   . obtain⟨o',e1⟩:=I.base.there b o e hx;exact⟨o',(hs.2 b<|zzQ<|zzK (zxG e) I.ok.above).trans e1⟩
   . by_cases hj:j=i
     . subst hj;rw[hi]at e1;cases e1;rw[zyJ hiσ]at e2;cases e2;exact⟨u,r,.inl ⟨hk,by simp⟩⟩
     . rw[zzX<|Ne.symm hj]at e2;obtain⟨u',r',q⟩:=hl j y v' e1 e2 e3;refine⟨u',r', ?_⟩
       rcases q with⟨k,e⟩|⟨k,c,e,z⟩
       . refine .inl ⟨k, ?_⟩;have:y≠x:=λe=>hj<|Rt hN e1<|e ▸ hi;simp[this,e]
       . exact .inr ⟨k,c,e,z.sameBut hs<|cne y c e⟩
   . obtain⟨w',z⟩:=I.cell y c e;exact⟨w',z.sameBut hs<|cne y c e⟩
   . obtain⟨e,n,ne,nf,d⟩:=I.pin p hp;exact⟨(hs.2 p.1 ne).trans e,n,ne,nf,d⟩
 . have hfn:X.fn x=true:=by
    rcases hf with z|z
    . exact z
    . rw[z]at hk;cases hk
   obtain⟨c,hc⟩:=I.ok.has x<|.inl hk;obtain⟨w',z⟩:=I.cell x c hc;refine wpAny_storeName_cell I.ok.kind hk hc z λh' hc' hs=>?_;obtain⟨oc,hoc,hocd⟩:=id z;refine h {s with heap:=h'} ⟨I.ok,I.os,I.bare,⟨λb o e n hb hx=>?_,λb o e n hb hx=>?_,I.base.free,λb o e hx=>?_,I.base.tups,I.base.frzs,I.base.tbls⟩,⟨m,hn.sameBut hs<|Ne.symm<|cne x c hc,λj y v' e1 e2 e3=>?_⟩,λy c' e=>?_,I.free,I.freeC,λp hp=>?_,tracked ⟨oc,hoc,I.freeC x c hc⟩ hs,by simpa using I.len⟩ ⟨c,hs,.inr hc⟩
   . exact(hs.2 b<|zzQ<|zzK (zxG e)<|I.ok.cab x c hfn hc).trans<|I.base.keep b o e n hb hx
   . obtain⟨sl,e1⟩:=I.base.slot b o e n hb hx;exact⟨sl,(hs.2 b<|zzQ<|zzK (zxG e)<|I.ok.cab x c hfn hc).trans e1⟩
   . obtain⟨o',e1⟩:=I.base.there b o e hx;exact⟨o',(hs.2 b<|zzQ<|zzK (zxG e)<|I.ok.cab x c hfn hc).trans e1⟩
   . by_cases hj:j=i
     . subst hj;rw[hi]at e1;cases e1;rw[zyJ hiσ]at e2;cases e2;exact⟨u,r,.inr ⟨.inl hk,c,hc,hc'⟩⟩
     . rw[zzX<|Ne.symm hj]at e2;obtain⟨u',r',q⟩:=hl j y v' e1 e2 e3;refine⟨u',r', ?_⟩
       rcases q with q|⟨k,c',e,z'⟩
       . exact .inl q
       . refine .inr ⟨k,c',e,z'.sameBut hs ?_⟩
         rintro rfl
         exact hj<|Rt hN e1<|I.ok.inj _ _ _ e hc ▸ hi
   . by_cases hcc:c'=c
     . subst hcc;exact⟨_,hc'⟩
     . obtain⟨w2,z2⟩:=I.cell y c' e;exact⟨w2,z2.sameBut hs hcc⟩
   . obtain⟨e,n,ne,nf,d⟩:=I.pin p hp;refine⟨(hs.2 p.1 ?_).trans e,n,ne,nf,d⟩;intro q;rw[q,hoc]at e;have q':oc=p.2:=zzY e;exact d w' (by rwa [<-q'])
def K3(I:Inv X Z' σ H s)(hN:X.N.Nodup)(hi:X.N[i]? = some x)(hx:Loc X.env.scope x)(r:RelV v u)
 (h:∀s',Inv X Z' (σ.set i<|some v) H s'->Q () s') (hf:X.fn x=true\/X.env.scope.names.lookup x=some .local:=by first|exact .inl rfl|exact .inr rfl|assumption):wpAny M A (storeName X.env x u) Q E s:=
 VR I hN hi hx r (λs' I' _=>h s' I') hf
def Inv.call'(I:Inv X Z' σ H s)(ho:s'.os=s.os)(u:Un (Q2 X.stack) ch H H' s.heap s'.heap)(hok:Vg X.prog X.w H' s'.heap)(hg:AllBare s'.gens)
 (j':∀b ∈ ch,(b ∈ X.ex\/X.s₀.heap.objs.size<=b)/\b≠X.env.locals/\(∀x c,X.env.cells.lookup x=some c->c≠b)/\∀p ∈ X.pn++Z',p.1≠b):Inv X Z' σ H' s':=by
 obtain⟨h',g',d',t',o'⟩:=s';have e:=ho;subst e;exact I.call (g':=g') (t':=t') (d':=d') u hok hg j'
end
abbrev XK:=Value->Option Addr->Hp->Prop
abbrev St:=List<|Option V
abbrev VK:=V->Hp->Prop
abbrev TE:=St->Hp->VK->Prop
abbrev TT:=St->Hp->(Bool->Hp->Prop)->Prop
abbrev TA:=St->Hp->(List V->Hp->Prop)->Prop
structure Ends where
 nx:St->Hp->Prop
 rt:VK
 bk:St->Hp->Prop:=λ_ _=>False
 ct:St->Hp->Prop:=λ_ _=>False
abbrev TS:=Ends->St->Hp->Prop
def EP(X:Cx)(Z':List (Addr×Obj))(σ:St)(Q:VK)(u:Value)(s':Shared):Prop:=∃v H',Inv X Z' σ H' s'/\RelV v u/\Q v H'
def TP(X:Cx)(Z':List (Addr×Obj))(σ:St)(Q:Bool->Hp->Prop)(b:Bool)(s':Shared):Prop:=∃H',Inv X Z' σ H' s'/\Q b H'
def AP(X:Cx)(Z':List (Addr×Obj))(σ:St)(Q:List V->Hp->Prop)(us:List Value)(s':Shared):Prop:=∃vs H',Inv X Z' σ H' s'/\zK vs us/\Q vs H'
def SP(X:Cx)(Z':List (Addr×Obj))(D:Ends)(f:Flow)(s':Shared):Prop:=
 match f with
 | .next=>∃P' H',Inv X Z' P' H' s'/\D.nx P' H'
 | .brk=>∃P' H',Inv X Z' P' H' s'/\D.bk P' H'
 | .cont=>∃P' H',Inv X Z' P' H' s'/\D.ct P' H'
 | .ret u=>∃v P' H',Inv X Z' P' H' s'/\RelV v u/\D.rt v H'
def PE(X:Cx)(e:Expr)(t:TE):Prop:=
 ∀Z' s σ H Q,Inv X Z' σ H s->t σ H Q->wpAny (model X.prog X.w) X.A (eval e X.env) (EP X Z' σ Q) X.xe s
def PT(X:Cx)(e:Expr)(t:TT):Prop:=
 ∀Z' s σ H Q,Inv X Z' σ H s->t σ H Q->wpAny (model X.prog X.w) X.A (isTrue e X.env<|eval e X.env) (TP X Z' σ Q) X.xe s
def PW(X:Cx)(e:Expr)(t:TT):Prop:=
 ∀whole Z' s σ H Q,Inv X Z' σ H s->t σ H Q->wpAny (model X.prog X.w) X.A (isTrue e X.env whole) (TP X Z' σ Q) X.xe s
def PW.pt(h:PW X e t):PT X e t:=h _
def PA(X:Cx)(es:List Expr)(t:TA):Prop:=
 ∀pos Z' s σ H Q,Inv X Z' σ H s->t σ H Q->wpAny (model X.prog X.w) X.A (spliced<|backTo pos<|starEach es X.env) (AP X Z' σ Q) X.xe s
def PS(X:Cx)(st:Stmt)(t:TS):Prop:=
 ∀Z' s σ H D,Inv X Z' σ H s->t D σ H->wpAny (model X.prog X.w) X.A (exec st X.env) (SP X Z' D) X.xe s
def Pw(X:Cx)(st:List Stmt)(t:TS):Prop:=
 ∀Z' s σ H D,Inv X Z' σ H s->t D σ H->wpAny (model X.prog X.w) X.A (execs st X.env) (SP X Z' D) X.xe s
def yV(h:wpAny M A t Q E s)(hQ:∀a s,Q a s->Q' a s):wpAny M A t Q' E s:=zxQ h hQ λ_ _ x=>x
section
def Vz(i:Nat):TE:=λσ H Q=>∃v,σ[i]? = some (some v)/\Q v H
def tC(v:V):TE:=λ_ H Q=>Q v H
def HH(hN:X.N[i]? = some x)(hv:lG X.env.scope x)(hd:(x==("__debug__":Str))=false:=by decide)(hcd:(x==("__classdict__":Str))=false:=by decide):PE X (.Name x pos) (Vz i):=by
 intro Z' s σ H Q I h;obtain⟨v,e,h⟩:=h;obtain⟨m,hn,hl⟩:=I.loc;obtain⟨u,r,l⟩:=hl i x v hN e hv;have fin:EP X Z' σ Q u s:=⟨v,H,I,r,h⟩
 rcases l with⟨hk,hm⟩|⟨hk,c,hc,hcell⟩
 . exact wpAny_Name (wpAny_loadName_local I.ok.kind hk hn hm fin) hd
 . rcases hk with hk|hk
   . exact wpAny_Name (wpAny_loadName_cell I.ok.kind hk hc hcell fin) hd
   . exact wpAny_Name (wpAny_loadName_free I.ok.kind hk hc hcell fin hcd) hd
def Ms:PE X (.Constant (.int i) j pos) (tC<|.int i):=λ_ _ _ H _ I h=>wpAny_Constant_int ⟨.int i,H,I.tok _,⟨_,rfl⟩,h⟩
def qU:PE X (.Constant (.bool b) j pos) (tC<|.bl b):=λ_ _ _ H _ I h=>Constant_bool ⟨.bl b,H,I,rfl,h⟩
def tZ:PE X (.Constant .none j pos) (tC .non):=λ_ _ _ H _ I h=>Constant_none ⟨.non,H,I,rfl,h⟩
def CH:PE X (.Constant (.str x) j pos) (tC<|.str x):=λ_ _ _ H _ I h=>Calls.Constant_str ⟨.str x,H,I.tok _,⟨_,rfl⟩,h⟩
def Gl(X:Cx)(x:Str):Prop:=X.env.kindOf x=some .globalImplicit
def vJ(I:Inv X Z' σ H s)(hg:Gl X x)(hm:X.mg x=some u)(h:Q u s)
 (hd:(x==("__debug__":Str))=false:=by decide):wpAny (model X.prog X.w) X.A (eval (.Name x pos) X.env) Q E s:=
 Calls.Name_function_global I.ok.kind hg (Calls.loadGlobal_global (by rw[I.ok.glob];exact I.mod.glob.keeps I.bk) hm h) hd
def YI(I:Inv X Z' σ H s)(hg:Gl X x)(hm:X.mg x=none)(hv:bootBuiltins x=some u)(h:Q u s)
 (hn:x≠"__name__":=by decide) (hd:(x==("__debug__":Str))=false:=by decide):wpAny (model X.prog X.w) X.A (eval (.Name x pos) X.env) Q E s:=by
 obtain⟨mb,h1,h2⟩:=I.mod.blt;exact Calls.Name_function_global I.ok.kind hg (Calls.loadGlobal_builtin (by rw[I.ok.glob];exact I.mod.glob.keeps I.bk) hm (by rw[I.ok.blt];exact h1.keeps I.bk) ((h2 x hn).trans hv) h) hd
def A4(hg:Gl X x)(hm:X.mg x=some u)(r:RelV v u)(hd:(x==("__debug__":Str))=false:=by decide):PE X (.Name x pos) (tC v):=
 λ_ _ _ H _ I h=>vJ I hg hm ⟨v,H,I,r,h⟩ hd
def E8(hg:Gl X x)(hm:X.mg x=none)(hv:bootBuiltins x=some u)(r:RelV v u)(hn:x≠"__name__":=by decide)(hd:(x==("__debug__":Str))=false:=by decide):PE X (.Name x pos) (tC v):=
 λ_ _ _ H _ I h=>YI I hg hm hv ⟨v,H,I,r,h⟩ hn hd
variable{tb:TE}
variable{Y':List Expr}
def kc(t u:TT):TT:=λσ H Q=>t σ H λc H1=>if c=true then u σ H1 Q else Q false H1
def gc(t u:TT):TT:=λσ H Q=>t σ H λc H1=>if c=true then Q true H1 else u σ H1 Q
def jO(t:TT):TT:=λσ H Q=>t σ H λc H1=>Q (!c) H1
def JR(ha:PT X a tA):PW X (.BoolOp .And [a] pos) tA:=by
 intro wh Z' s σ H Q I h;refine isTrue_and<|yV (ha Z' s σ H Q I h) λc s1 e=>?_;cases c with
 |true=>exact isTrue_and_nil e
 |false=>exact e
def rM(ha:PT X a tA):PW X (.BoolOp .Or [a] pos) tA:=by
 intro wh Z' s σ H Q I h;refine isTrue_or<|yV (ha Z' s σ H Q I h) λc s1 e=>?_;cases c with
 |false=>exact isTrue_or_nil e
 |true=>exact e
def qc(ha:PT X a tA)(hb:PW X (.BoolOp .And (b::Y') pos) tB'):PW X (.BoolOp .And (a::b::Y') pos) (kc tA tB'):=by
 intro wh Z' s σ H Q I h;refine isTrue_and<|yV (ha Z' s σ H _ I h) λc s1 ⟨H1,I1,q1⟩=>?_;cases c with
 |true=>exact hb wh Z' s1 σ H1 Q I1 q1
 |false=>exact⟨H1,I1,q1⟩
def mz(ha:PT X a tA)(hb:PW X (.BoolOp .Or (b::Y') pos) tB'):PW X (.BoolOp .Or (a::b::Y') pos) (gc tA tB'):=by
 intro wh Z' s σ H Q I h;refine isTrue_or<|yV (ha Z' s σ H _ I h) λc s1 ⟨H1,I1,q1⟩=>?_;cases c with
 |true=>exact⟨H1,I1,q1⟩
 |false=>exact hb wh Z' s1 σ H1 Q I1 q1
def tK(ha:PT X a tA):PT X (.UnaryOp .Not a pos) (jO tA):=by
 intro Z' s σ H Q I h;exact isTrue_not<|ha Z' s σ H _ I h
def oF(ta tb:TE):TE:=λσ H Q=>ta σ H λx H1=>∃c,x = .bl c/\if c=true then tb σ H1 Q else Q (.bl false) H1
def jF(ta tb:TE):TE:=λσ H Q=>ta σ H λx H1=>∃c,x = .bl c/\if c=true then Q (.bl true) H1 else tb σ H1 Q
def nO(ta:TE):TE:=λσ H Q=>ta σ H λx H1=>∃c,x = .bl c/\Q (.bl<|!c) H1
def uz(ha:PE X a ta)(hb:PE X (.BoolOp .And (b::Y') pos) tb):PE X (.BoolOp .And (a::b::Y') pos) (oF ta tb):=by
 intro Z' s σ H Q I h;refine BoolOp_and<|yV (ha Z' s σ H _ I h) λv s1 ⟨x,H1,I1,r1,q1⟩=>?_;obtain⟨c,rfl,q1⟩:=q1;cases r1;refine wpAny_truthy_bool ?_;cases c with
 |true=>exact hb Z' s1 σ H1 Q I1 q1
 |false=>exact⟨.bl false,H1,I1,rfl,q1⟩
def n0(ha:PE X a ta)(hb:PE X (.BoolOp .Or (b::Y') pos) tb):PE X (.BoolOp .Or (a::b::Y') pos) (jF ta tb):=by
 intro Z' s σ H Q I h;refine BoolOp_or<|yV (ha Z' s σ H _ I h) λv s1 ⟨x,H1,I1,r1,q1⟩=>?_;obtain⟨c,rfl,q1⟩:=q1;cases r1;refine wpAny_truthy_bool ?_;cases c with
 |false=>exact hb Z' s1 σ H1 Q I1 q1
 |true=>exact⟨.bl true,H1,I1,rfl,q1⟩
def u_(ha:PE X a ta):PE X (.UnaryOp .Not a pos) (nO ta):=by
 intro Z' s σ H Q I h;refine UnaryOp_<|yV (ha Z' s σ H _ I h) λv s1 ⟨x,H1,I1,r1,q1⟩=>?_;obtain⟨c,rfl,q1⟩:=q1;cases r1;exact not_of<|wpAny_truthy_bool ⟨.bl _,H1,I1,rfl,q1⟩
def gS(t:TT)(ta tb:TE):TE:=λσ H Q=>t σ H λc H1=>if c=true then ta σ H1 Q else tb σ H1 Q
def HQ(hc:PT X c tA)(ha:PE X a ta)(hb:PE X b tb):PE X (.IfExp c a b pos) (gS tA ta tb):=by
 intro Z' s σ H Q I h;refine wpAny_IfExp<|yV (hc Z' s σ H _ I h) λd s1 ⟨H1,I1,q1⟩=>?_;cases d with
 |true=>exact ha Z' s1 σ H1 Q I1 q1
 |false=>exact hb Z' s1 σ H1 Q I1 q1
end
def VJ(K:zzA)(H:Hp)(a:Addr)(xs:List V):Prop:=
 Rd H a (.lst xs) \/
  ∃(o:Obj) (zM:Array Value) (n:Nat),K.lookup a=some o/\o.cls = .type "list"/\o.dict=none/\o.data = .seq zM n/\zM.size<=sizeLine/\zK xs zM.toList
def SH(K:zzA)(H:Hp)(a:Addr)(xs:List V):Prop:=
 Rd H a (.lst xs)\/∃(zM:Array Value) (n:Nat),K.lookup a=some {cls:=.type "list",data:=.seq zM n}/\zM.size<=sizeLine/\zK xs zM.toList
def Ip(K:zzA)(H:Hp)(a:Addr)(xs:List V):Prop:=
 Rd H a (.tup xs) \/
  ∃(o:Obj) (zM:Array Value) (n:Nat),K.lookup a=some o/\o.cls = .type "tuple"/\o.data = .seq zM n/\zM.size<=sizeLine/\zK xs zM.toList
noncomputable def jN:Value->Option V
 | .none=>some .non
 | .bool b=>some<|.bl b
 | .int i _=>some<|.int i
 | .str x _=>some<|.str x
 | .ref a=>some<|.ref a
 | .type n=>some (.ty n)
 |_=>none
def RelV.abs(r:RelV x u):jN u=some x:=by
 cases x with
 |non=>cases r;rfl
 |bl _=>cases r;rfl
 |int _=>obtain⟨t,rfl⟩:=r;rfl
 |str _=>obtain⟨t,rfl⟩:=r;rfl
 |ref _=>cases r;rfl
 |ty _=>cases r;rfl
def RelV.inj(r:RelV x u)(q:RelV y u):x=y:=zzY<|r.abs.symm.trans q.abs
theorem zK.inj:∀{xs ys:List V}{us:List Value},zK xs us->zK ys us->xs=ys
 |_,_,_,.nil,.nil=>rfl
 |_,_,_,.cons r t,.cons r' t'=>by rw[r.inj r',zK.inj t t']
def Inv.list(I:Inv X Z' σ H s)(h:VJ X.K H a xs):∃zM,zK xs zM/\PlainL s.heap a zM.toArray/\xs.length<=sizeLine:=by
 rcases h with h|⟨o,zM,n,hk,hc,hd,hs,hz,r⟩
 . obtain⟨z,zM,n,r,e⟩:=h.ok I.hok;exact⟨zM,r,⟨_,n,e,rfl,rfl,rfl⟩,z⟩
 . refine⟨zM.toList,r,⟨o,n,I.kIn a o hk,hc,hd,by simpa using hs⟩, ?_⟩;have e:=r.length;simp at e;omega
def Inv.tuple(I:Inv X Z' σ H s)(h:Ip X.K H a xs):∃zM,zK xs zM/\IsTup s.heap a zM.toArray/\xs.length<=sizeLine:=by
 rcases h with h|⟨o,zM,n,hk,hc,hs,hz,r⟩
 . obtain⟨z,zM,r,p⟩:=h.ok I.hok;exact⟨zM,r,p,z⟩
 . refine⟨zM.toList,r,⟨o,I.kIn a o hk,hc,n,by simpa using hs⟩, ?_⟩;have e:=r.length;simp at e;omega
def Inv.list_inj(I:Inv X Z' σ H s)(h:VJ X.K H a xs)(h':VJ X.K H a ys):xs=ys:=by
 obtain⟨zM,r,⟨o,n,e,_,_,d⟩,_⟩:=I.list h;obtain⟨its',r',⟨o',n',e',_,_,d'⟩,_⟩:=I.list h';rw[e]at e';cases e';rw[d]at d';injection d' with d1 _
 have:zM=its':=by simpa using congrArg Array.toList d1
 subst this;exact r.inj r'
def Inv.tuple_inj(I:Inv X Z' σ H s)(h:Ip X.K H a xs)(h':Ip X.K H a ys):xs=ys:=by
 obtain⟨zM,r,⟨o,e,_,n,d⟩,_⟩:=I.tuple h;obtain⟨its',r',⟨o',e',_,n',d'⟩,_⟩:=I.tuple h';rw[e]at e';cases e';rw[d]at d';injection d' with d1 _
 have:zM=its':=by simpa using congrArg Array.toList d1
 subst this;exact r.inj r'
noncomputable abbrev Cx.wish(X:Cx)(E:Value->Shared->Prop):Cx:={X with xe:=E}
noncomputable abbrev Cx.nox(X:Cx):Cx:=X.wish λ_ _=>False
theorem Cx.Ok.wish{X:Cx}(ok:X.Ok)(E):(X.wish E).Ok:=
 ⟨ok.mod,ok.kind,ok.glob,ok.blt,ok.above,ok.inj,ok.has,ok.cab,ok.hd,ok.frames,ok.stk,ok.exf,ok.bs,ok.bsz,ok.noex,ok.exfs,ok.funs,ok.frf⟩
def Cx.Ok.unwish{X:Cx}{E}(ok:(X.wish E).Ok):X.Ok:=
 ⟨ok.mod,ok.kind,ok.glob,ok.blt,ok.above,ok.inj,ok.has,ok.cab,ok.hd,ok.frames,ok.stk,ok.exf,ok.bs,ok.bsz,ok.noex,ok.exfs,ok.funs,ok.frf⟩
theorem Inv.wish(I:Inv X Z' σ H s)(E:Value->Shared->Prop):Inv (X.wish E) Z' σ H s:=⟨I.ok.wish E,I.os,I.bare,I.base,I.loc,I.cell,I.free,I.freeC,I.pin,I.hok,I.len⟩
theorem Inv.unwish(I:Inv (X.wish E) Z' σ H s):Inv X Z' σ H s:=⟨I.ok.unwish,I.os,I.bare,I.base,I.loc,I.cell,I.free,I.freeC,I.pin,I.hok,I.len⟩
theorem SP.unwish(h:SP (X.wish E) Z' D f s'):SP X Z' D f s':=by
 cases f with
 |next=>obtain⟨P',H',I,q⟩:=h;exact⟨P',H',I.unwish,q⟩
 |brk=>obtain⟨P',H',I,q⟩:=h;exact⟨P',H',I.unwish,q⟩
 |cont=>obtain⟨P',H',I,q⟩:=h;exact⟨P',H',I.unwish,q⟩
 |ret u=>obtain⟨v,P',H',I,r,q⟩:=h;exact⟨v,P',H',I.unwish,r,q⟩
theorem Pw.nox{st t}(h:Pw X.nox st t):Pw X st t:=λZ' s σ H D I hw=>
 zxQ (h Z' s σ H D (I.wish _) hw) (λ_ _ q=>q.unwish) λ_ _ z=>False.elim z
section
variable{X:Cx}{st:Stmt}{Y':List Stmt}{t u:TS}{pos:Pos}
def pI:TS:=λD σ H=>D.nx σ H
def kO(t u:TS):TS:=λD σ H=>t {D with nx:=u D} σ H
def Q_:Pw X [] pI:=λ_ _ σ H _ I h=>wpAny_execs_nil ⟨σ,H,I,h⟩
def Zq(h1:PS X st t)(h2:Pw X Y' u):Pw X (st::Y') (kO t u):=by
 intro Z' s σ H D I h;refine wpAny_execs_cons<|yV (h1 Z' s σ H {D with nx:=u D} I h) λf s1 q=>?_;cases f with
 |next=>
  obtain⟨P',H',I',q⟩:=q;exact h2 Z' s1 P' H' D I' q
 |ret v=>exact q
 |brk=>exact q
 |cont=>exact q
def Ke(h1:PS X st t):Pw X [st] t:=by
 intro Z' s σ H D I h;refine wpAny_execs_cons<|yV (h1 Z' s σ H D I h) λf s1 q=>?_;cases f with
 |next=>exact wpAny_execs_nil q
 |ret v=>exact q
 |brk=>exact q
 |cont=>exact q
def uW:TS:=λD σ H=>D.bk σ H
def OH:PS X (.Break pos) uW:=λ_ _ σ H _ I h=>wpAny_Break ⟨σ,H,I,h⟩
def Inv.quiet(I:Inv X Z' σ H s):interactive X.env=false:=by simp[interactive,I.ok.kind]
def qO(te:TE):TS:=λD σ H=>te σ H λ_ H1=>D.nx σ H1
def GM(he:PE X e te)(hs:swapsWith e none pos.line X.env=pure false:=by rfl):PS X (.Expr e pos) (qO te):=by
 intro Z' s σ H D I h;exact wpAny_Expr_any (yV (he Z' s σ H _ I h) λv s1 ⟨x,H1,I1,r1,q1⟩=>⟨σ,H1,I1,q1⟩) I.quiet hs
def kL(te:TE):TS:=λD σ H=>te σ H D.rt
def SE(he:PE X e te):PS X (.Return (some e) pos) (kL te):=by
 intro Z' s σ H D I h;exact wpAny_Return_some<|yV (he Z' s σ H _ I h) λv s1 ⟨x,H1,I1,r1,q1⟩=>⟨x,σ,H1,I1,r1,q1⟩
def je(c:TT)(t u:TS):TS:=λD σ H=>c σ H λb H1=>if b=true then t D σ H1 else u D σ H1
def Dh(hc:PT X c tc)(ha:Pw X a t)(hb:Pw X b u):PS X (.If c a b pos) (je tc t u):=by
 intro Z' s σ H D I h;refine wpAny_If<|yV (hc Z' s σ H _ I h) λd s1 ⟨H1,I1,q1⟩=>?_;cases d with
 |true=>exact ha Z' s1 σ H1 D I1 q1
 |false=>exact hb Z' s1 σ H1 D I1 q1
end
abbrev TG:=V->St->Hp->(St->Hp->Prop)->Prop
abbrev sJ:=List V->St->Hp->(St->Hp->Prop)->Prop
def PG(X:Cx)(target:Expr)(t:TG):Prop:=
 ∀Z' s σ H v u Q,Inv X Z' σ H s->RelV v u->t v σ H Q->
  wpAny (model X.prog X.w) X.A (assign target X.env u) (λ_ s'=>∃P' H',Inv X Z' P' H' s'/\Q P' H') X.xe s
def DA(X:Cx)(ts:List Expr)(t:sJ):Prop:=
 ∀Z' s σ H vs us Q,Inv X Z' σ H s->zK vs us->t vs σ H Q->
  wpAny (model X.prog X.w) X.A (assignInOrder ((assignEach ts X.env).map (·.2)) us) (λ_ s'=>∃P' H',Inv X Z' P' H' s'/\Q P' H') X.xe s
abbrev mZ:=V->V->V->Hp->(Hp->Prop)->Prop
def nS(X:Cx)(t:mZ):Prop:=
 ∀Z' s σ H o i v ov iv u Q,Inv X Z' σ H s->RelV o ov->RelV i iv->RelV v u->t o i v H Q->
  wpAny (model X.prog X.w) X.A (setItem ov iv u) (λ_ s'=>∃H',Inv X Z' σ H' s'/\Q H') X.xe s
def Fp(i:Nat):TG:=λv σ H Q=>Q (σ.set i<|some v) H
def IU(hN:X.N.Nodup)(hi:X.N[i]? = some x)(hx:Loc X.env.scope x)(hf:X.fn x=true\/X.env.scope.names.lookup x=some .local:=by first|exact .inl rfl|exact .inr rfl|assumption):PG X (.Name x pos) (Fp i):=by
 intro Z' s σ H v u Q I r h;exact wpAny_assign_Name<|K3 I hN hi hx r (λs' I'=>⟨_,H,I',h⟩) hf
def kj:sJ:=λvs σ H Q=>vs=[]/\Q σ H
def nK(t:TG)(u:sJ):sJ:=λvs σ H Q=>∃v r,vs=v::r/\t v σ H λP' H'=>u r P' H' Q
def J0:DA X [] kj:=by
 intro Z' s σ H vs us Q I r h;obtain⟨e,h⟩:=h;subst e;exact assignInOrder_nil ⟨σ,H,I,h⟩
def OA(h1:PG X e t)(h2:DA X es u)
 (hs:(assignEach (e::es) X.env).map (·.2)=assign e X.env::(assignEach es X.env).map (·.2):=by rfl):DA X (e::es) (nK t u):=by
 intro Z' s σ H vs us Q I r h;obtain⟨v,vr,e1,h⟩:=h;subst e1;cases r with
 |cons r rr=>
  rw[hs];refine assignInOrder_cons<|yV (h1 Z' s σ H _ _ _ I r h) λ_ s1 ⟨iT,H1,I1,q1⟩=>?_;exact h2 Z' s1 iT H1 _ _ Q I1 rr q1
def lZ(K:zzA)(n:Nat)(t:sJ):TG:=λv σ H Q=>∃a xs,v = .ref a/\Ip K H a xs/\xs.length=n/\t xs σ H Q
def rY(hc:X.calm=true)(h:DA X es t)
 (hn:(assignEach es X.env).length=n:=by rfl) (vq:(assignEach es X.env).findIdx? (·.1)=none:=by rfl):PG X (.Tuple es k pos) (lZ X.K n t):=by
 intro Z' s σ H v u Q I r hw;obtain⟨a,xs,e1,hq,hl,hw⟩:=hw;subst e1;cases r;obtain⟨zM,rv,ht,hz⟩:=I.tuple hq;refine assign_Tuple_tuple (I.ok.hd hc) ht (by simp[hn,<-hl,rv.length]) vq λh' hx=>?_;have I1:=I.kept (t':=s.toks) λb o e=>hx b o (zzQ<|zxG e) e;exact h Z' _ σ H xs _ Q I1 (by simpa using rv) hw
def js(to ti:TE)(t:mZ):TG:=λv σ H Q=>to σ H λo H1=>ti σ H1 λi H2=>t o i v H2 λH3=>Q σ H3
def uR(ho:PE X o to)(hi:PE X i ti)(hs:nS X t)
 (ha:∀v,assign (.Subscript o i pos) X.env v=(do
  let ov <-holding [v] (eval o X.env);let iv <-holding [v,ov] (eval i X.env)
  standAt pos
  holding [v,ov,iv] (setItem ov iv v)
  release [v,ov,iv] []):=by intro _;rfl):PG X (.Subscript o i pos) (js to ti t):=by
 intro Z' s σ H v u Q I r h;rw[ha];refine zxD<|zxK<|yV (ho Z' s σ H _ I h) λov s1 ⟨x,H1,I1,r1,q1⟩=>?_;refine zxD<|zxK<|yV (hi Z' s1 σ H1 _ I1 q1) λiv s2 ⟨y,H2,I2,r2,q2⟩=>?_;refine zxD<|wpAny_standAt<|zxD<|zxK<|yV (hs Z' s2 σ H2 x y v ov iv u _ I2 r1 r2 r q2) λ_ s3 ⟨H3,I3,q3⟩=>?_;exact wpAny_release ⟨σ,H3,I3,q3⟩
def tU(te:TE)(g:TG):TS:=λD σ H=>te σ H λx H1=>g x σ H1 D.nx
def Cv(he:PE X e te)(hg:PG X tg g)(hs:swapsWithSole [tg] e pos.line X.env=pure false:=by rfl)(hw:swappedStores [tg] e X.env=pure none:=by rfl)
 (h1:(assignEach [tg] X.env).map (·.2)=[assign tg X.env]:=by rfl):PS X (.Assign [tg] e pos) (tU te g):=by
 intro Z' s σ H D I h;refine wpAny_Assign_stores (yV (he Z' s σ H _ I h) λv s1 ⟨x,H1,I1,r1,q1⟩=>?_) hs hw;rw[h1];exact yV (hg Z' s1 σ H1 x v _ I1 r1 q1) λ_ s2 q=>q
def C_(hN:X.N.Nodup)(hi:X.N[i]? = some x)(hx:Loc X.env.scope x)(he:PE X e te)(hs:swapsWith e (some<|.Name x pos') pos.line X.env=pure false:=by rfl)(hf:X.fn x=true\/X.env.scope.names.lookup x=some .local:=by first|exact .inl rfl|exact .inr rfl|assumption):
 PS X (.Assign [.Name x pos'] e pos) (tU te<|Fp i):=by
 intro Z' s σ H D I h;refine wpAny_Assign_Name (yV (he Z' s σ H _ I h) λv s1 ⟨y,H1,I1,r1,q1⟩=>?_) hs;exact K3 I1 hN hi hx r1 (λs2 I2=>⟨_,H1,I2,q1⟩) hf
structure It where
 go:Nat->Hp->Prop
 yld:Nat->Hp->V->Hp->Prop
 stop:Nat->Hp->Prop
def QV(X:Cx)(Z':List (Addr×Obj))(H:Hp)(b:Addr):Prop:=
 H b=none/\b≠X.env.locals/\b ∉ X.fs/\(b ∈ X.ex\/X.s₀.heap.objs.size<=b)/\(∀x c,X.env.cells.lookup x=some c->c≠b)/\∀p ∈ X.pn++Z',p.1≠b
def Inv.fpOk(I:Inv X Z' σ H s)(hb:s.heap.objs.size<=b)(hn:H' b=none):QV X Z' H' b:=by
 refine⟨hn,Nat.ne_of_gt<|zzK I.lt hb,I.nofs hb,.inr<|zzO I.sz hb,λx c e z=>?_,λp hp z=>?_⟩
 . obtain⟨v,q⟩:=I.cell x c e;exact absurd (zzK q.lt<|by rwa [z])<|Nat.lt_irrefl _
 . exact absurd (zzK (zxG (I.pin p hp).1)<|by rwa [z])<|Nat.lt_irrefl _
structure Turn(P:Program)(w:World)(K:zzA)(tg:Expr)(J:It)(fp:List Addr)(it:Addr)(tn:Nat->Heap->Prop):Prop where
 mem:it ∈ fp
 obj:∀i h,tn i h->∀b ∈ fp,∃o,h.get? b=some o/\∀v,o.data ≠ .cell v
 keep:∀i h h',tn i h->(∀b ∈ fp,∀o,h.get? b=some o->h'.get? b=some o)->tn i h'
 item:∀(X:Cx),X.prog=P->X.w=w->X.K=K->X.calm=true->∀(i:Nat) (Z':List (Addr×Obj)) (s:Shared) (σ:St) (H:Hp) (E:Value->Shared->Prop),Inv X Z' σ H s->(∀b ∈ fp,QV X Z' H b)->tn i s.heap->J.go i H->
  wpAny (model P w) X.A (pyNext<|.ref it) (λr s1=>∃u,r=some u/\
   wpAny (model P w) X.A (letOwnedTupleGo tg (.ref it) u) (λ_ s2=>∃x H',Inv X Z' σ H' s2/\RelV x u/\J.yld i H x H'/\tn (i+1) s2.heap/\∀b ∈ fp,H' b=none) E s1) E s
 done:∀(X:Cx),X.prog=P->X.w=w->X.K=K->X.calm=true->∀(i:Nat) (Z':List (Addr×Obj)) (s:Shared) (σ:St) (H:Hp) (E:Value->Shared->Prop),Inv X Z' σ H s->(∀b ∈ fp,QV X Z' H b)->tn i s.heap->J.stop i H->
  wpAny (model P w) X.A (pyNext<|.ref it) (λr s1=>r=none/\Inv X Z' σ H s1) E s
 self:∀(A:Around) (i:Nat) (s:Shared) (Q:Value->Shared->Prop) (E:Value->Shared->Prop),tn i s.heap->Q (.ref it) s->wpAny (model P w) A (pyIter<|.ref it) Q E s
abbrev TI:=St->Hp->(It->Hp->Prop)->Prop
def ic(X:Cx)(Z':List (Addr×Obj))(σ:St)(tg:Expr)(R:It->Hp->Prop)(itv:Value)(s2:Shared):Prop:=
 ∃(it:Addr) (fp:List Addr) (tn:Nat->Heap->Prop) (J:It) (H':Hp),itv = .ref it/\Inv X Z' σ H' s2/\Turn X.prog X.w X.K tg J fp it tn/\tn 0 s2.heap/\(∀b ∈ fp,QV X Z' H' b)/\R J H'
def PI(X:Cx)(tg iter:Expr)(wi:TI):Prop:=
 ∀Z' s σ H R,Inv X Z' σ H s->wi σ H R->
  wpAny (model X.prog X.w) X.A (eval iter X.env) (λv s1=>wpAny (model X.prog X.w) X.A (pyIter v) (ic X Z' σ tg R) X.xe s1) X.xe s
def EK(ho:s.heap.get? it=some o)(hc:o.cls = .type n)(hd:o.data = .fields vs)
 (hn : ["enumerate","zip","dict_itemiterator","dict_reverseitemiterator","odict_iterator","itertools.zip_longest","itertools.pairwise"].contains n=false) (hQ:Q () s):wpAny M A (letOwnedTupleGo tg (.ref it) u) Q E s:=by
 cases tg<;>first
  |exact zxE hQ
  |(cases u<;>first
   |exact zxE hQ
   | (refine zxD (wpAny_load ho ?_)
      rw[hc,hd];show wpAny M A (if _=true then _ else _) Q E s;rw[if_neg (by intro h;rw[hn]at h;cases h)];exact zxE hQ))
noncomputable def lN(K:zzA)(a:Addr):It:=
 ⟨λi H=>∃xs x,VJ K H a xs/\xs[i]? = some x,λi H x H'=>H'=H/\∀xs,VJ K H a xs->xs[i]? = some x,λi H=>∃xs,VJ K H a xs/\xs.length<=i⟩
noncomputable def qy(lo:Int)(n:Nat):It:=⟨λi _=>i<n,λi H x H'=>H'=H/\x = .int (lo+i),λi _=>n<=i⟩
def FQ{P w K tg}(a it):Turn P w K tg (lN K a) [it] it (λi h=>h.IsListIter it a i)where
 mem:=by simp
 obj:=λi h st b hb=>by
  have e:b=it:=by simpa using hb
  subst e;obtain⟨o,e,c,d⟩:=st;exact⟨o,e,λv z=>by rw[d]at z;cases z⟩
 keep:=λi h h' st k=>st.at λo e=>k it (by simp) o e
 item:=by
  intro X hP hw hK hc i Z' s σ H E I hf st hg;subst hP hw hK;obtain⟨xs,x,hq,hx⟩:=hg;obtain⟨zM,rv,p,hz⟩:=I.list hq;obtain⟨u,hu,ru⟩:=rv.get hx;obtain⟨f0,f1,f2,f3,f4,f5⟩:=hf it (by simp);refine wpAny_pyNext_list_item st p.isList (by simpa using hu) λh' st' sb=>?_;have I1:=I.turned (t':=s.toks) (λb o hb e=>(sb.2 b hb).trans e) f0 f1 f3 f4 f5;obtain⟨o,e,c,d⟩:=id st';exact⟨u,rfl,EK e c d (by decide) ⟨x,H,I1,ru,⟨rfl,λys hy=>by rwa [I.list_inj hy hq]⟩,st',λb hb=>(hf b hb).1⟩⟩
 done:=by
  intro X hP hw hK hc i Z' s σ H E I hf st hg;subst hP hw hK;obtain⟨xs,hq,hx⟩:=hg;obtain⟨zM,rv,p,hz⟩:=I.list hq;obtain⟨f0,f1,f2,f3,f4,f5⟩:=hf it (by simp);have hl:=rv.length;exact wpAny_pyNext_list_end (I.ok.hd hc) st p.isList (by simp;omega) λh' eb=>⟨rfl,I.turned (t':=s.toks) (λb o hb e=>eb b o hb e) f0 f1 f3 f4 f5⟩
 self:=λ_ _ _ _ _ st h=>wpAny_pyIter_listiter st h
def MP{P w K tg}(it)(lo)(n:Nat):Turn P w K tg (qy lo n) [it] it (λi h=>IsRangeIter h it (lo+(i:Nat)*1) ((n:Int)-(i:Nat)) 1)where
 mem:=by simp
 obj:=λi h st b hb=>by
  have e:b=it:=by simpa using hb
  subst e;exact⟨_,st,λv z=>by
   have z':Data.fields _=Data.cell v:=z;cases z'⟩
 keep:=λi h h' st k=>k it (by simp) _ st
 item:=by
  intro X hP hw hK hc i Z' s σ H E I hf st hg;subst hP hw hK;obtain⟨f0,f1,f2,f3,f4,f5⟩:=hf it (by simp);have W:=Walks.range (prog:=X.prog) (w:=X.w) (I.ok.hd hc) it lo 1 n;refine W.item i s _ _ hg st λv h' tk hv st' kk=>?_;obtain⟨t,rfl⟩:=hv;have I1:Inv X Z' σ H {s with heap:=h',toks:=tk}:=I.turned (λb o hb e=>kk b o (by simpa using hb) e) f0 f1 f3 f4 f5;refine⟨_,rfl,EK st' rfl rfl (by decide) ⟨.int _,H,I1,⟨t, ?_⟩,⟨rfl,rfl⟩,st',λb hb=>(hf b hb).1⟩⟩;rw[Int.mul_one]
 done:=by
  intro X hP hw hK hc i Z' s σ H E I hf st hg;subst hP hw hK;obtain⟨f0,f1,f2,f3,f4,f5⟩:=hf it (by simp);exact wpAny_pyNext_range_end (I.ok.hd hc) st (by have:n<=i:=hg;omega) λh' eb=>⟨rfl,I.turned (t':=s.toks) (λb o hb e=>eb b o hb e) f0 f1 f3 f4 f5⟩
 self:=λ_ _ _ _ _ st h=>wpAny_pyIter_rangeiter st h
def oY(K:zzA)(tl:TE):TI:=λσ H R=>tl σ H λx H1=>∃a,x = .ref a/\(∃xs,VJ K H1 a xs)/\R (lN K a) H1
def Gj{l tl}(hl:PE X l tl):PI X tg l (oY X.K tl):=by
 intro Z' s σ H R I h;refine yV (hl Z' s σ H _ I h) λv s1 ⟨x,H1,I1,r1,q1⟩=>?_;obtain⟨a,e,⟨xs,hq⟩,q⟩:=q1;subst e;cases r1;obtain⟨zM,rv,p,hz⟩:=I1.list hq;refine wpAny_pyIter_list p.isList ?_;refine⟨s1.heap.objs.size,[s1.heap.objs.size],_,_,H1,rfl,I1.kept (t':=s1.toks) λb o e=>zxF _ e,FQ a _,⟨_,zxH _ rfl,rfl,rfl⟩,λb hb=>?_,q⟩;have e:b=s1.heap.objs.size:=by simpa using hb
 subst e;exact I1.fpOk (zzN _)<|I1.hok.fresh<|zzN _
def Nw{Z' σ H s R E lo hi t u v}{tk:Nat}(I:Inv X Z' σ H s)(h1 : -(2 ^ 62)<=lo)(h2:lo<2 ^ 62)(h3 : -(2 ^ 62)<=hi)(h4:hi<2 ^ 62)
 (q:R (qy lo (hi-lo).toNat) H):wpAny (model X.prog X.w) X.A (pyIter<|.ref s.heap.objs.size) (ic X Z' σ tg R) E {s with heap:=s.heap.push {cls:=.type "range",data:=.fields #[.int lo t,.int hi u,.int 1 v]},toks:=tk}:=by
 refine wpAny_pyIter_range (IsRange.new ..) (small_one h1 h2 h3 h4) ?_;have I1:Inv X Z' σ H {s with heap:=s.heap.push {cls:=.type "range",data:=.fields #[.int lo t,.int hi u,.int 1 v]},toks:=tk}:=I.kept λb o e=>zxF _ e;refine⟨(s.heap.push {cls:=.type "range",data:=.fields #[.int lo t,.int hi u,.int 1 v]}).objs.size,[(s.heap.push {cls:=.type "range",data:=.fields #[.int lo t,.int hi u,.int 1 v]}).objs.size],_,_,H,rfl,
  I1.kept (t':=tk) λb o e=>zxF _ e,MP _ lo (hi-lo).toNat, ?_,λb hb=>?_,q⟩
 . have e1:lo+((0:Nat):Int)*1=lo:=by simp
   have e2:(((hi-lo).toNat:Nat):Int)-((0:Nat):Int)=Builtin.Range.rangeSize lo hi 1:=by rw[rangeSize_one];split<;>omega
   rw[e1,e2];exact zxH _ rfl
 . have e:b=(s.heap.push {cls:=.type "range",data:=.fields #[.int lo t,.int hi u,.int 1 v]}).objs.size:=by simpa using hb
   subst e;exact I1.fpOk (zzN _)<|I1.hok.fresh<|zzN _
def nW(ta:TA):TI:=λσ H R=>ta σ H λvs H1=>∃j,vs=[.int j] /\ -(2 ^ 62)<=j/\j<2 ^ 62/\R (qy 0 j.toNat) H1
def p6(ta:TA):TI:=λσ H R=>ta σ H λvs H1=>∃i j,vs=[.int i,.int j]/\(-(2 ^ 62)<=i/\i<2 ^ 62 /\ -(2 ^ 62)<=j/\j<2 ^ 62)/\R (qy i (j-i).toNat) H1
def PU{a ta p pos}(hg:Gl X "range")(hm:X.mg "range"=none)(ha:PA X [a] ta)(hs:starEach [a] X.env=[(false,eval a X.env)]:=by rfl):PI X tg (.Call (.Name "range" p) [a] [] pos) (nW ta):=by
 intro Z' s σ H R I h;refine Call_<|YI I hg hm boot_range<|PyProof.Rows.callWith_type1 (yV (ha pos Z' s σ H _ I h) λus s1 ⟨vs,H1,I1,r1,q1⟩=>?_) hs rfl;obtain⟨j,e,q1,q2,q⟩:=q1;subst e;cases r1 with
 |cons r rr=>
  cases rr;obtain⟨t,rfl⟩:=r;exact call_range_1 (Nw I1 (by omega) (by omega) q1 q2<|by simpa using q)
def BS(hg:Gl X "range")(hm:X.mg "range"=none)(ha:PA X [a,b] ta)(hs:starEach [a,b] X.env=[(false,eval a X.env),(false,eval b X.env)]:=by rfl)(hs2:starEach [b] X.env=[(false,eval b X.env)]:=by rfl):
 PI X tg (.Call (.Name "range" p) [a,b] [] pos) (p6 ta):=by
 intro Z' s σ H R I h;refine Call_ (YI I hg hm boot_range<|PyProof.Rows.callWith_type1 (yV (ha pos Z' s σ H _ I h) λus s1 ⟨vs,H1,I1,r1,q1⟩=>?_) (by rw[hs,hs2])<|by rw[hs2];rfl);obtain⟨i,j,e,⟨q1,q2,q3,q4⟩,q⟩:=q1;subst e;cases r1 with
 |cons r rr=>
  cases rr with
  |cons r' rr=>
   cases rr;obtain⟨t,rfl⟩:=r;obtain⟨t',rfl⟩:=r';exact call_range_2<|Nw I1 q1 q2 q3 q4 q
def jq(wi:TI)(g:TG)(tb:TS):TS:=λD σ H=>wi σ H λJ H1=>∃W:Nat->Nat->St->Hp->Prop,(∃m,W 0 m σ H1)/\∀i m σ H,W i m σ H->
 (J.stop i H/\D.nx σ H)\/(J.go i H/\∃N,(∀P' H',N P' H'->∃m',m'<m/\W (i+1) m' P' H')/\∀x H',J.yld i H x H'->g x σ H' λr8 H2=>tb {D with nx:=N,ct:=N,bk:=D.nx} r8 H2)
noncomputable def Me(fp:List Addr)(h:Heap):List (Addr×Obj):=fp.filterMap λb=>(h.get? b).map λo=>(b,o)
def YB(hb:b ∈ fp)(e:h.get? b=some o):(b,o) ∈ Me fp h:=List.mem_filterMap.mpr ⟨b,hb,by rw[e];rfl⟩
def BG(hp:p ∈ Me fp h):p.1 ∈ fp/\h.get? p.1=some p.2:=by
 obtain⟨b,hb,e⟩:=List.mem_filterMap.mp hp;cases q:h.get? b with
 |none=>rw[q]at e;cases e
 |some o=>
  rw[q]at e;have e':_=p:=zzY e;subst e';exact⟨hb,q⟩
def Inv.pinned(I:Inv X Z' σ H s)(hf:∀b ∈ fp,QV X Z' H b)(ho:∀b ∈ fp,∃o,s.heap.get? b=some o/\∀v,o.data ≠ .cell v):Inv X (Z'++Me fp s.heap) σ H s:=
 I.pins_of λp hp=>(zzM.mp hp).elim (λz=>I.pin p<|zzL _ z) λz=>by
  obtain⟨hb,e⟩:=BG z;obtain⟨f0,f1,f2,_⟩:=hf p.1 hb;obtain⟨o,e',d⟩:=ho p.1 hb;rw[e]at e';cases e';exact⟨e,f0,f1,f2,d⟩
def Inv.unpinned(I:Inv X (Z'++pl) σ H s):Inv X Z' σ H s:=I.pins_of λp hp=>I.pin p<|zzL _<|zzP _ hp
def Sx(hp:PassesOwn (model X.prog X.w) X.A X.env X.xe)(hc:X.calm=true)(hi:PI X tg iter wi)(hg:PG X tg g)(hb:Pw X body tb)
 (hs:∀x,foldedSetIterable iter X.env x=pure x:=by intro _;rfl):PS X (.For tg iter body [] pos) (jq wi g tb):=by
 intro Z' s σ H D I h;refine wpAny_For (yV (hi Z' s σ H _ I h) λv s1 h1=>yV h1 λitv s2 h2=>?_) hs;obtain⟨it,fp,tn,J,H2,e,I2,T,st2,f2,W,⟨m0,w0⟩,turn⟩:=h2;subst e;have stat:∀{H':Hp},(∀b ∈ fp,H' b=none)->∀b ∈ fp,QV X Z' H' b:=λhn b hb=>⟨hn b hb,(f2 b hb).2⟩;refine codeAny_forLoop_any (λn s'=>∃i P' H',Inv X Z' P' H' s'/\tn i s'.heap/\(∀b ∈ fp,H' b=none)/\W i n P' H') ?_ m0 ⟨0,σ,H2,I2,st2,λb hb=>(f2 b hb).1,w0⟩
 rintro n s3 ⟨i,i4,H3,I3,st3,fr3,w3⟩
 rcases turn i n i4 H3 w3 with⟨stop,qn⟩|⟨go,N,hN,step⟩
 . refine wpAny_passesOwn hp<|yV (T.done X rfl rfl rfl hc i Z' s3 i4 H3 X.xe I3 (stat fr3) st3 stop) λr s4 ⟨hr,I4⟩=>?_;subst hr;exact wpAny_execs_nil ⟨i4,H3,I4,qn⟩
 . refine wpAny_passesOwn hp<|yV (T.item X rfl rfl rfl hc i Z' s3 i4 H3 X.xe I3 (stat fr3) st3 go) λr s4 ⟨u,hr,h4⟩=>?_;subst hr;refine wpAny_passesOwn hp<|yV h4 λ_ s5 ⟨x,H5,I5,r5,y5,st5,fr5⟩=>?_;have I5':=I5.pinned (stat fr5)<|T.obj _ _ st5;refine wpAny_passesOwn hp<|yV (hg _ s5 i4 H5 x u _ I5' r5<|step x H5 y5) λ_ s6 ⟨r9,H6,I6,q6⟩=>?_;refine wpAny_passesOwn hp<|yV (hb _ s6 r9 H6 _ I6 q6) λf s7 q7=>?_;have again:∀{i5:St}{H7:Hp},Inv X _ i5 H7 s7->N i5 H7->∃m,m<n/\∃i P' H',Inv X Z' P' H' s7/\tn i s7.heap/\(∀b ∈ fp,H' b=none)/\W i m P' H':=λ{i5 H7} I7 n7=>by
    obtain⟨m',hm,w7⟩:=hN i5 H7 n7;refine⟨m',hm,i+1,i5,H7,I7.unpinned,T.keep _ _ _ st5 λb hb o e=>(I7.pin (b,o)<|zzL _<|zzL _<|YB hb e).1,λb hb=>?_,w7⟩;obtain⟨o,e,d⟩:=T.obj _ _ st5 b hb;exact(I7.pin (b,o)<|zzL _<|zzL _<|YB hb e).2.1
   cases f with
   |next=>obtain⟨i5,H7,I7,n7⟩:=q7;exact again I7 n7
   |cont=>obtain⟨i5,H7,I7,n7⟩:=q7;exact again I7 n7
   |brk=>obtain⟨i5,H7,I7,q7⟩:=q7;exact⟨i5,H7,I7.unpinned,q7⟩
   |ret v=>obtain⟨x7,i5,H7,I7,r7,q7⟩:=q7;exact⟨x7,i5,H7,I7.unpinned,r7,q7⟩
abbrev R2:=V->V->Hp->VK->Prop
def QF(X:Cx)(f:Value->Value->Sem Value)(r:R2):Prop:=
 ∀Z' s σ H x y v u Q,Inv X Z' σ H s->RelV x v->RelV y u->r x y H Q->
  wpAny (model X.prog X.w) X.A (f v u) (EP X Z' σ Q) X.xe s
def lW(X:Cx)(f:Value->Sem Value)(r:V->Hp->VK->Prop):Prop:=
 ∀Z' s σ H x v Q,Inv X Z' σ H s->RelV x v->r x H Q->
  wpAny (model X.prog X.w) X.A (f v) (EP X Z' σ Q) X.xe s
def Yn(X:Cx)(f:Value)(r:List V->Hp->VK->Prop):Prop:=
 ∀Z' s σ H xs us Q,Inv X Z' σ H s->zK xs us->r xs H Q->
  wpAny (model X.prog X.w) X.A (call f us) (EP X Z' σ Q) X.xe s
def kH(X:Cx)(r:V->Hp->(Bool->Hp->Prop)->Prop):Prop:=
 ∀Z' s σ H x v Q,Inv X Z' σ H s->RelV x v->r x H Q->
  wpAny (model X.prog X.w) X.A (truthy v) (TP X Z' σ Q) X.xe s
def mC(r:R2)(ta tb:TE):TE:=λσ H Q=>ta σ H λx H1=>tb σ H1 λy H2=>r x y H2 Q
def gy(r:V->Hp->VK->Prop)(ta:TE):TE:=λσ H Q=>ta σ H λx H1=>r x H1 Q
def rI(C:Int->Int->Prop)(g:Int->Int->V):R2:=λx y H Q=>∃i j,x = .int i/\y = .int j/\C i j/\Q (g i j) H
def Di(g:Int->Int->V):R2:=λx y H Q=>∃i j,x = .int i/\y = .int j/\Q (g i j) H
def rU(g:Int->V):V->Hp->VK->Prop:=λx H Q=>∃i,x = .int i/\Q (g i) H
def tN(ha:PE X a ta)(hb:PE X b tb){Z' s σ H}{R:V->V->Hp->Prop}(I:Inv X Z' σ H s)
 (h:ta σ H λx H1=>tb σ H1 λy H2=>R x y H2) {Q:Value->Shared->Prop}{f:Value->Value->Sem Value}
 (hf:∀v u s2 x y H2,Inv X Z' σ H2 s2->RelV x v->RelV y u->R x y H2->wpAny (model X.prog X.w) X.A (f v u) Q X.xe s2):
 wpAny (model X.prog X.w) X.A (eval a X.env) (λv M'=>wpAny (model X.prog X.w) X.A (eval b X.env) (λu s₂=>wpAny (model X.prog X.w) X.A (f v u) Q X.xe s₂) X.xe M') X.xe s:=by
 refine yV (ha Z' s σ H _ I h) λv s1 ⟨x,H1,I1,r1,q1⟩=>?_;refine yV (hb Z' s1 σ H1 _ I1 q1) λu s2 ⟨y,H2,I2,r2,q2⟩=>?_;exact hf v u s2 x y H2 I2 r1 r2 q2
def DO{op}{r:R2}(ho:QF X (binaryOp op) r)(ha:PE X a ta)(hb:PE X b tb):PE X (.BinOp a op b pos) (mC r ta tb):=by
 intro Z' s σ H Q I h;exact wpAny_BinOp<|tN ha hb I h λv u s2 x y H2 I2 rx ry q=>ho Z' s2 σ H2 x y v u Q I2 rx ry q
def nR(ho:lW X (unaryOp op) r)(ha:PE X a ta):PE X (.UnaryOp op a pos) (gy r ta):=by
 intro Z' s σ H Q I h;exact UnaryOp_<|yV (ha Z' s σ H _ I h) λv s1 ⟨x,H1,I1,r1,q1⟩=>ho Z' s1 σ H1 x v Q I1 r1 q1
def gB{f C}{g:Int->Int->Int}
 (rule:∀i j t u s Q E,C i j->Q (.int (g i j) s.toks) {s with toks:=s.toks+1}->wpAny (model X.prog X.w) X.A (f (.int i t)<|.int j u) Q E s):
 QF X f (rI C λi j=>.int<|g i j):=by
 intro Z' s σ H x y v u Q I rx ry h;obtain⟨i,j,rfl,rfl,hc,q⟩:=h;obtain⟨t,rfl⟩:=rx;obtain⟨t',rfl⟩:=ry;exact rule i j t t' s _ _ hc ⟨.int _,H,I.tok _,⟨_,rfl⟩,q⟩
def pb{f}{g:Int->Int->Int}
 (rule:∀i j t u s Q E,Q (.int (g i j) s.toks) {s with toks:=s.toks+1}->wpAny (model X.prog X.w) X.A (f (.int i t)<|.int j u) Q E s):
 QF X f (Di λi j=>.int<|g i j):=by
 intro Z' s σ H x y v u Q I rx ry h;obtain⟨i,j,rfl,rfl,q⟩:=h;obtain⟨t,rfl⟩:=rx;obtain⟨t',rfl⟩:=ry;exact rule i j t t' s _ _ ⟨.int _,H,I.tok _,⟨_,rfl⟩,q⟩
def Ar{f}{g:Int->Int->Bool}
 (rule:∀i j t u s Q E,Q (.bool<|g i j) s->wpAny (model X.prog X.w) X.A (f (.int i t)<|.int j u) Q E s):
 QF X f (Di λi j=>.bl<|g i j):=by
 intro Z' s σ H x y v u Q I rx ry h;obtain⟨i,j,rfl,rfl,q⟩:=h;obtain⟨t,rfl⟩:=rx;obtain⟨t',rfl⟩:=ry;exact rule i j t t' s _ _ ⟨.bl _,H,I,rfl,q⟩
def u7:QF X (binaryOp .Add) (Di λi j=>.int<|i+j):=pb λ_ _ _ _ _ _ _ q=>add_int q
def tY:QF X (binaryOp .Sub) (Di λi j=>.int<|i-j):=pb λ_ _ _ _ _ _ _ q=>sub_int q
def O5:QF X (binaryOp .Mod) (rI (λ_ j=>0<j) λi j=>.int<|i%j):=gB λi j _ _ _ _ _ hc q=>mod_int' (by omega) (by rwa [Int.fmod_eq_emod_of_nonneg i<|by omega])
def gw{f}{g:Int->Int}
 (rule:∀i t s Q E,Q (.int (g i) s.toks) {s with toks:=s.toks+1}->wpAny (model X.prog X.w) X.A (f<|.int i t) Q E s):
 lW X f (rU λi=>.int<|g i):=by
 intro Z' s σ H x v Q I rx h;obtain⟨i,rfl,q⟩:=h;obtain⟨t,rfl⟩:=rx;exact rule i t s _ _ ⟨.int _,H,I.tok _,⟨_,rfl⟩,q⟩
def uy:lW X (unaryOp .USub) (rU λi=>.int (-i)):=gw λ_ _ _ _ _ q=>neg_int q
def ZX(I:Inv X Z' σ H s)(q:Q (.bl k) H)(e:k=k'):EP X Z' σ Q (.bool k') s:=by
 subst e;exact⟨.bl k,H,I,rfl,q⟩
def qP:QF X (compareOp .Lt) (Di λi j=>.bl<|decide (i<j)):=Ar λ_ _ _ _ _ _ _ q=>lt_int q
def oI:QF X (compareOp .LtE) (Di λi j=>.bl<|decide (i<=j)):=Ar λ_ _ _ _ _ _ _ q=>le_int q
def pf:QF X (compareOp .Gt) (Di λi j=>.bl<|decide (j<i)):=Ar λ_ _ _ _ _ _ _ q=>gt_int q
def q9:QF X (compareOp .GtE) (Di λi j=>.bl<|decide (j<=i)):=Ar λ_ _ _ _ _ _ _ q=>ge_int q
def FY:QF X (compareOp .In) (λx y H Q=>∃i j,x = .str i/\y = .str j/\Q (.bl<|!(Builtin.Str.occurrences j i 0 j.length 1).isEmpty) H):=by
 intro Z' s σ H x y v u Q I rx ry h;obtain⟨i,j,rfl,rfl,q⟩:=h;obtain⟨t,rfl⟩:=rx;obtain⟨t',rfl⟩:=ry;exact in_str<|ZX I q rfl
def tQ:QF X (compareOp .Is) (λx y H Q=>y = .non/\Q (.bl<|decide (x = .non)) H):=by
 intro Z' s σ H x y v u Q I rx ry h;obtain⟨rfl,q⟩:=h;cases ry;refine is_none_gen<|ZX I q ?_;cases x<;>first
  |(cases rx;rfl)
  |(obtain⟨t,rfl⟩:=rx;rfl)
def IT:QF X (compareOp .IsNot) (λx y H Q=>y = .non/\Q (.bl<|!decide (x = .non)) H):=by
 intro Z' s σ H x y v u Q I rx ry h;obtain⟨rfl,q⟩:=h;cases ry;refine isnot_none_gen<|ZX I q ?_;cases x<;>first
  |(cases rx;rfl)
  |(obtain⟨t,rfl⟩:=rx;rfl)
def TK:QF X (compareOp .NotIn) (λx y H Q=>∃i j,x = .str i/\y = .str j/\Q (.bl<|!(!(Builtin.Str.occurrences j i 0 j.length 1).isEmpty)) H):=by
 intro Z' s σ H x y v u Q I rx ry h;obtain⟨i,j,rfl,rfl,q⟩:=h;obtain⟨t,rfl⟩:=rx;obtain⟨t',rfl⟩:=ry;exact notIn_str<|ZX I q rfl
def Sj(b)(h:op ≠ .In:=by decide)(h2:op ≠ .NotIn:=by decide):behindInMarks op b=false:=by
 have e1:(op==CmpOp.In)=false:=by cases op<;>first|rfl|exact absurd rfl h
 have e2:(op==CmpOp.NotIn)=false:=by cases op<;>first|rfl|exact absurd rfl h2
 cases b<;>simp[behindInMarks,e1,e2]
def Ja{op}{r:R2}(ho:QF X (compareOp op) r)(ha:PE X a ta)(hb:PE X b tb)(hm:behindInMarks op b=false):PE X (.Compare a [op] [b] pos) (mC r ta tb):=by
 intro Z' s σ H Q I h;exact wpAny_Compare1 (tN ha hb I h λv u s2 x y H2 I2 rx ry q=>ho Z' s2 σ H2 x y v u Q I2 rx ry q) hm
def Do(t:TE):TT:=λσ H Q=>t σ H λx H'=>∃k,x = .bl k/\Q k H'
def Ag(ho:QF X (compareOp op) r)(ha:PE X a ta)(hb:PE X b tb)(hm:behindInMarks op b=false):PT X (.Compare a [op] [b] pos) (Do<|mC r ta tb):=by
 intro Z' s σ H Q I h;refine wpAny_isTrue_Compare1 (yV (ha Z' s σ H _ I h) λv s1 ⟨x,H1,I1,r1,q1⟩=>yV (hb Z' s1 σ H1 _ I1 q1) λu s2 ⟨y,H2,I2,r2,q2⟩=>
  yV (ho Z' s2 σ H2 x y v u _ I2 r1 r2 q2) λc s3 ⟨z,H3,I3,r3,k,e,q3⟩=>?_) hm
 subst e;cases r3;exact wpAny_truthy_bool ⟨H3,I3,q3⟩
def Mi(r r':R2)(ta tb tc:TE):TE:=λσ H Q=>ta σ H λx H1=>tb σ H1 λy H2=>r x y H2 λz H3=>∃k,z = .bl k/\
 (if k=true then tc σ H3 λw' H4=>r' y w' H4 Q else Q (.bl false) H3)
def HK(ho:QF X (compareOp op) r)(va:QF X (compareOp i7) r')(ha:PE X a ta)(hb:PE X b tb)(hc:PE X c tc)
 (hm:lastMarks [op,i7] [b,c]=false:=by with_unfolding_all rfl):PE X (.Compare a [op,i7] [b,c] pos) (Mi r r' ta tb tc):=by
 intro Z' s σ H Q I h;refine Compare_chain (yV (ha Z' s σ H _ I h) λv s1 ⟨x,H1,I1,r1,q1⟩=>chain_link<|yV (hb Z' s1 σ H1 _ I1 q1) λu s2 ⟨y,H2,I2,r2,q2⟩=>
  yV (ho Z' s2 σ H2 x y v u _ I2 r1 r2 q2) λd s3 ⟨z,H3,I3,r3,k,e,q3⟩=>?_) hm
 subst e;cases r3;refine wpAny_truthy_bool ?_;cases k with
 |false=>exact ite_ff ⟨.bl false,H3,I3,rfl,q3⟩
 |true=>exact ite_tt (chain_last<|yV (hc Z' s3 σ H3 _ I3 q3) λw' s4 ⟨z',H4,I4,r4,q4⟩=>va Z' s4 σ H4 y z' u w' Q I4 r2 r4 q4)
def Sz(ho:QF X (compareOp op) r)(va:QF X (compareOp i7) r')(ha:PE X a ta)(hb:PE X b tb)(hc:PE X c tc)
 (hm:lastMarks [op,i7] [b,c]=false:=by with_unfolding_all rfl):PT X (.Compare a [op,i7] [b,c] pos) (Do<|Mi r r' ta tb tc):=by
 intro Z' s σ H Q I h;refine isTrue_chain (yV (ha Z' s σ H _ I h) λv s1 ⟨x,H1,I1,r1,q1⟩=>test_link<|yV (hb Z' s1 σ H1 _ I1 q1) λu s2 ⟨y,H2,I2,r2,q2⟩=>
  yV (ho Z' s2 σ H2 x y v u _ I2 r1 r2 q2) λd s3 ⟨z,H3,I3,r3,k,e,q3⟩=>?_) hm
 subst e;cases r3;refine wpAny_truthy_bool ?_;cases k with
 |false=>
  obtain⟨k',e',q'⟩:=q3;cases e';exact ite_ff ⟨H3,I3,q'⟩
 |true=>
  refine ite_tt<|test_last<|yV (hc Z' s3 σ H3 _ I3 q3) λw' s4 ⟨z',H4,I4,r4,q4⟩=>yV (va Z' s4 σ H4 y z' u w' _ I4 r2 r4 q4) λd' s5 ⟨z2,H5,I5,r5,k2,e2,q5⟩=>?_;subst e2;cases r5;exact wpAny_truthy_bool ⟨H5,I5,q5⟩
def sd(x:V)(k:Bool):Prop:=x = .bl k
def V0:(sizeLine:Nat)<2 ^ 63:=by decide
def rf:kH X (λx H Q=>∃k,sd x k/\Q k H):=by
 intro Z' s σ H x v Q I rx ⟨k,e,q⟩;cases e;cases rx;exact wpAny_truthy_bool ⟨H,I,q⟩
def Hk(ha:PE X a ta)(he:∀whole,isTrue a X.env whole=(do let v <-whole;standAt a.pos;holding [v] (truthy v))):
 PT X a (λσ H Q=>ta σ H λx H'=>∃k,sd x k/\Q k H'):=by
 intro Z' s σ H Q I h;exact isTrue_plain (yV (ha Z' s σ H _ I h) λv s1 ⟨x,H1,I1,r1,q1⟩=>rf Z' s1 σ H1 x v Q I1 r1 q1)<|he _
def MQ:QF X (binaryOp .Add) (λx y H Q=>∃i j,x = .str i/\y = .str j/\i.length+j.length<=sizeLine/\Q (.str<|i++j) H):=by
 intro Z' s σ H x y v u Q I rx ry h;obtain⟨i,j,rfl,rfl,hz,q⟩:=h;obtain⟨t,rfl⟩:=rx;obtain⟨t',rfl⟩:=ry;exact add_str (λt' tk=>⟨.str _,H,I.tok _,⟨_,rfl⟩,q⟩) hz
def vals1(r:zK [x] us):∃u,us=[u]/\RelV x u:=by
 cases r with
 |cons r1 r2=>cases r2;exact⟨_,rfl,r1⟩
def vals2(r:zK [x,y] us):∃u w',us=[u,w']/\RelV x u/\RelV y w':=by
 cases r with
 |cons r1 r2=>
  cases r2 with
  |cons r3 r4=>cases r4;exact⟨_,_,rfl,r1,r3⟩
def FB(hc:X.calm=true):Yn X (.builtin "max") (λxs H Q=>∃i j,xs=[.int i,.int j]/\Q (.int (if j > i then j else i)) H):=by
 intro Z' s σ H xs us Q I r h;obtain⟨i,j,rfl,q⟩:=h;obtain⟨u,w',rfl,⟨t,rfl⟩,⟨t',rfl⟩⟩:=vals2 r;refine max_two_ints (I.ok.hd hc) λh' tk k=>⟨_,H,I.kept k, ?_,q⟩
 by_cases hj:j > i
 . rw[if_pos hj,if_pos hj];exact⟨_,rfl⟩
 . rw[if_neg hj,if_neg hj];exact⟨_,rfl⟩
def FD(hc:X.calm=true):Yn X (.builtin "min") (λxs H Q=>∃i j,xs=[.int i,.int j]/\Q (.int (if j<i then j else i)) H):=by
 intro Z' s σ H xs us Q I r h;obtain⟨i,j,rfl,q⟩:=h;obtain⟨u,w',rfl,⟨t,rfl⟩,⟨t',rfl⟩⟩:=vals2 r;refine min_two_ints (I.ok.hd hc) λh' tk k=>⟨_,H,I.kept k, ?_,q⟩
 by_cases hj:j<i
 . rw[if_pos hj,if_pos hj];exact⟨_,rfl⟩
 . rw[if_neg hj,if_neg hj];exact⟨_,rfl⟩
def Pz:Yn X (.type "int") (λxs H Q=>(∃i,xs=[.int i]/\Q (.int i) H)\/∃k,xs=[.bl k]/\Q (.int (if k then 1 else 0)) H):=by
 intro Z' s σ H xs us Q I r h
 rcases h with⟨i,rfl,q⟩|⟨k,rfl,q⟩
 . obtain⟨u,rfl,t,rfl⟩:=vals1 r;exact call_int_int ⟨.int i,H,I,⟨_,rfl⟩,q⟩
 . obtain⟨u,rfl,r1⟩:=vals1 r;cases r1;exact call_int_bool ⟨.int _,H,I.tok _,⟨_,rfl⟩,q⟩
def T_:Yn X (.type "str") (λxs H Q=>∃i,xs=[.int i]/\i.natAbs.log2<1920/\Q (.str<|toString i) H):=by
 intro Z' s σ H xs us Q I r h;obtain⟨i,rfl,hz,q⟩:=h;obtain⟨u,rfl,t,rfl⟩:=vals1 r;exact PySem.P.str_of_int hz ⟨.str _,H,I.tok _,⟨_,rfl⟩,q⟩
def BM{h:Heap}{dx mA}(n:h.Ns1 dx mA):∃od,h.get? dx=some od/\∀name,W.lookIn name od=some (mA name):=by
 obtain⟨o,es,ep,ho,hd,hk,_,hm⟩:=n;refine⟨o,ho,λname=>?_⟩;have e:=hm name;unfold nsFind findBy at e;rw[<-Array.find?_toList]at e;unfold W.lookIn;rw[hd];dsimp only
 split
 . rename_i y q;rw[q]at e;exact congrArg some e
 . rename_i q;rw[q]at e;have a:es.toList.any (·.refKey)=false:=by
    rw[List.any_eq_false];intro y hy;obtain⟨z,t,hkey⟩:=hk y<|Array.mem_toList_iff.mp hy;simp[DictEntry.refKey,hkey]
   have a':¬es.toList.any (·.refKey)=true:=by rw[a];exact zyU
   rw[if_neg a'];exact congrArg some e
def W3.some_of(r:W3 (some v) o):∃u,o=some u/\RelV v u:=by
 cases o with
 |none=>exact(r).elim
 |some u=>exact⟨u,rfl,r⟩
def Bg(r:RelV v u):W.handedIn u=true:=by
 cases v with
 |non=>cases(r);rfl
 |bl b=>cases(r);rfl
 |int i=>obtain⟨t,e⟩:=(r);cases e;rfl
 |str x=>obtain⟨t,e⟩:=(r);cases e;rfl
 |ref a=>cases(r);rfl
 |ty n=>cases(r);rfl
structure Cls(K:zzA)(C:Addr):Prop where
 pg:W.plainGet K C Str.empty=true
 hd:W.hasDictIn K C=true
 po:W.plainOver K C=true
 sa:W.findIn K (.ref C) "__setattr__"=some (some<|.builtin "object.__setattr__")
def IS(hb:attributeBase e f env (eval e env)=eval e env)
 (h:wpAny (model prog w) A (eval e env) (λo M'=>wpAny (model prog w) A (getAttr o f true) Q E M') E s):wpAny (model prog w) A (eval (.Attribute e f pos) env) Q E s:=
 Attribute_any_ h (by rw[arm_eval_Attribute,hb])
inductive TyOf(K:zzA)(H:Hp):V->Value->Prop where
 |non:TyOf K H .non (.type "NoneType")
 |bl (x:Bool):TyOf K H (.bl x) (.type "bool")
 |int (i:Int):TyOf K H (.int i) (.type "int")
 |str (x:Str):TyOf K H (.str x) (.type "str")
 |lst {a:Addr}{xs:List V}(e:H a=some (.lst xs)):TyOf K H (.ref a) (.type "list")
 |frz {a:Addr}{o:Obj}{xs:List V}(e:H a=some (.frz o (.lst xs))):TyOf K H (.ref a) (.type "list")
 |tup {a:Addr}{xs:List V}(e:H a=some (.tup xs)):TyOf K H (.ref a) (.type "tuple")
 |dK {a:Addr}{kvs:List (Key×V)}(e:H a=some (.dK kvs)):TyOf K H (.ref a) (.type "dict")
 |dT {a:Addr}{kvs:List (List Key×V)}(e:H a=some (.dT kvs)):TyOf K H (.ref a) (.type "dict")
 |ins {a C dx:Addr}{fs:List (Str×V)}(e:H a=some (.ins C dx fs)) (cl:Cls K C) (ha:W.findIn K (.ref C) "__class__"=some (some (.builtin "object.__class__")))
  (hn:W.specialIn K (.builtin "object.__class__") "__get__"=some (some<|.builtin "getset_descriptor.__get__")) (htk:W.takesIn K (.builtin "object.__class__")=some true)
  (hm:W.mroIn K C (.type "object")=some true):TyOf K H (.ref a) (.ref C)
structure Room(k:Nat)(A:Around):Prop where
 hd:A.handled=none
 dp:A.depth+3*k+5<recursionLimit
 un:A.units+16*k+200<cLine
 gd:A.guards=some []
def Room.mono(r:Room k A)(h:j<=k):Room j A:=⟨r.hd,by have:=r.dp;omega,by have:=r.un;omega,r.gd⟩
theorem Room.deeper(r:Room (k+1) A)(env):Room k (A.deeper env):=
 ⟨r.hd,by have:=r.dp;show A.depth+1+3*k+5<_;omega,by have:=r.un;show A.units+3+16*k+200<_;omega,r.gd⟩
def NU{A:Around}{C us kw}:(A.under<|.builtin "type.__call__" ⟨.ref C::us,kw⟩).depth=A.depth+1:=rfl
def Mj{A:Around}{C us kw}:(A.under<|.builtin "type.__call__" ⟨.ref C::us,kw⟩).units=A.units+1:=rfl
def Room.make{k:Nat}{A:Around}(r:Room (k+1) A)(C)(us)(kw):Room k (A.under<|.builtin "type.__call__" ⟨.ref C::us,kw⟩):=
 ⟨r.hd,by have:=r.dp;rw[NU];omega,by have:=r.un;rw[Mj];omega,r.gd⟩
theorem Room.depth(r:Room k A):A.depth<recursionLimit:=by have:=r.dp;omega
def kQ:TA:=λ_ H Q=>Q [] H
def E9(ta:TE)(tr:TA):TA:=λσ H Q=>ta σ H λx H1=>tr σ H1 λxs H2=>Q (x::xs) H2
def Zn:PA X [] kQ:=λ_ _ _ _ H Q I h=>Calls.spliced_nil ⟨[],H,I,.nil,h⟩
def yj(ha:PE X e te)(hr:PA X es t)(hs:starEach (e::es) X.env=(false,eval e X.env)::starEach es X.env:=by rfl):PA X (e::es) (E9 te t):=by
 intro pos Z' s σ H Q I h;rw[hs];refine Calls.spliced_cons<|yV (ha Z' s σ H _ I h) λu s1 ⟨x,H1,I1,r1,q1⟩=>?_;exact yV (hr pos Z' s1 σ H1 _ I1 q1) λus s2 ⟨xs,H2,I2,r2,q2⟩=>⟨x::xs,H2,I2,.cons r1 r2,q2⟩
def jL(t:TA):TE:=λσ H Q=>t σ H λxs H1=>xs.length<=sizeLine/\∀p,H1 p=none->Q (.ref p) (upd H1 p<|.tup xs)
def k6(t:TA):TE:=λσ H Q=>t σ H λxs H1=>xs.length<=sizeLine/\∀p,H1 p=none->Q (.ref p) (upd H1 p<|.lst xs)
def Hi(h:PA X es t):PE X (.Tuple es x1 pos) (jL t):=by
 intro Z' s σ H Q I hq;refine wpAny_Tuple_spliced<|yV (h pos Z' s σ H _ I hq) λus s1 ⟨xs,H1,I1,r,z,q⟩=>⟨by rw[<-r.length];exact z, ?_⟩;have hf:=I1.hok.fresh<|zzN _;refine⟨.ref s1.heap.objs.size,upd H1 s1.heap.objs.size _,I1.laid (t':=s1.toks) (λb u e=>zxF _ e) (zzN _) ?_,rfl,q _ hf⟩;exact⟨z,us,r,⟨_,zxH _ rfl,rfl,_,rfl⟩⟩
def sH(h:PA X es t):PE X (.List es pos) (k6 t):=by
 intro Z' s σ H Q I hq;refine wpAny_List_spliced<|yV (h pos Z' s σ H _ I hq) λus s1 ⟨xs,H1,I1,r,z,q⟩=>⟨by rw[<-r.length];exact z, ?_⟩;have hf:=I1.hok.fresh<|zzN _;refine⟨.ref s1.heap.objs.size,upd H1 s1.heap.objs.size _,I1.laid (t':=s1.toks) (λb u e=>zxF _ e) (zzN _) ?_,rfl,q _ hf⟩;exact⟨z,us,0,r,zxH _ rfl⟩
abbrev Sp:=List V->Hp->VK->XK->Prop
abbrev Jl:=List Env->Hp->Shared->XK->Value->Shared->Prop
structure Env0(P:Program)(w:World)(K:zzA)(mg:Str->Option Value)(base:Heap)(A:Around)(outer:List Env)(s:Shared)(H:Hp):Prop where
 frames:A.frames=some outer
 mod:Mod K mg base
 bs:∀b o,base.get? b=some o->s.heap.get? b=some o/\H b=none
 bsz:base.objs.size<=s.heap.objs.size
 funs:s.heap.FunFrames base outer
 frf:∀b ∈ Q2 outer,H b=none
 hok:Vg P w H s.heap
 bare:AllBare s.gens
def CE(outer:List Env)(P:Program)(w:World)(H:Hp)(s:Shared)(Q:VK)(u:Value)(s':Shared):Prop:=
 ∃v H',s'.os=s.os/\AllBare s'.gens/\Un (Q2 outer) [] H H' s.heap s'.heap/\Vg P w H' s'.heap/\RelV v u/\Q v H'
def CR(CX:Jl)(outer:List Env)(P:Program)(w:World)(H:Hp)(s:Shared)(Q:VK)(E:XK)(r:Result)(s':Shared):Prop:=
 match r with
 | .ok (.ret u)=>CE outer P w H s Q u s'
 | .ok _=>False
 | .error e=>CX outer H s E e s'
structure FnOk(P:Program)(w:World)(K:zzA)(mg:Str->Option Value)(base:Heap)(CX:Jl)(k:Nat)(f:Addr)(fd:FuncData)(ps:List Str)(sp:Sp):Prop where
 len:∀vs H Q E,sp vs H Q E->vs.length=ps.length
 run:∀(A:Around) (outer:List Env) (s:Shared) (H:Hp) (args:Args) (us:List Value) (vs:List V) (Q:VK) (E:XK),Room k A->Env0 P w K mg base A outer s H->BindsTo s fd args (ps.zip us)->zK vs us->sp vs H Q E->
  codeAny (model P w) A (.call (.ref f) args) (CR CX outer P w H s Q E) s
def FnOk.imp{P w K mg base CX}{k:Nat}{f fd ps sp sp'}(F:FnOk P w K mg base CX k f fd ps sp)
 (h:∀vs H Q E,sp' vs H Q E->sp vs H Q E):FnOk P w K mg base CX k f fd ps sp':=
 ⟨λvs H Q E q=>F.len vs H Q E<|h _ _ _ _ q,λA outer s H args us vs Q E hr he hb hv hs=>F.run A outer s H args us vs Q E hr he hb hv<|h _ _ _ _ hs⟩
def Env0.make{P w K mg base A outer s H}(e:Env0 P w K mg base A outer s H)(C)(us)(kw):
 Env0 P w K mg base (A.under<|.builtin "type.__call__" ⟨.ref C::us,kw⟩) outer s H:=⟨by first|exact e.frames|(simpa[Around.under,Code.envs,Code.isFrame,pushEnvs]using e.frames),e.mod,e.bs,e.bsz,e.funs,e.frf,e.hok,e.bare⟩
def Inv.env0(I:Inv X Z' σ H s):Env0 X.prog X.w X.K X.mg X.base X.A X.stack s H:=
 ⟨I.ok.frames,I.ok.mod,I.bs,zzO I.ok.bsz I.sz,I.stack,I.stkFree,I.hok,I.bare⟩
def Inv.after(I:Inv X Z' σ H s)(h:CE X.stack X.prog X.w H s Q u s'):EP X Z' σ Q u s':=by
 obtain⟨v,H',os,bare,un,hok,r,q⟩:=h;obtain⟨hh,g,d,t,vk⟩:=s';obtain rfl:vk=s.os:=os;exact⟨v,H',I.call (h':=hh) (g':=g) (d':=d) (t':=t) un hok bare (λb z=>absurd z<|by simp),r,q⟩
def Dk(sp:Sp)(dvs:List V)(E:XK)(t:TA):TE:=λσ H Q=>t σ H λvs H1=>sp (vs++dvs) H1 Q E
def Binds(K:zzA)(fd:FuncData)(ps:List Str)(ds:List Value):Prop:=
 ∀s us,K.In s.heap->(us++ds).length=ps.length->BindsTo s fd ⟨us,[]⟩ (ps.zip<|us++ds)
def Binds.all{K fd ps}(h:∀us,us.length=ps.length->bindArgs fd ⟨us,[]⟩=pure (ps.zip us)):Binds K fd ps []:=λs us _ hl=>by
 rw[zyD]at hl ⊢;exact .of_eq<|h us hl
def Kf(CX:Jl)(X:Cx)(E:XK):Prop:=∀Z' σ H s e s',Inv X Z' σ H s->CX X.stack H s E e s'->X.xe e s'
def tG(F:FnOk X.prog X.w X.K X.mg X.base CX k f fd ps sp)(hr:Room k X.A)(hb:Binds X.K fd ps ds)(hd:zK dvs ds)(hx:Kf CX X E)
 (I:Inv X Z' σ H s) (r:zK vs us) (h:sp (vs++dvs) H Q E):wpAny (model X.prog X.w) X.A (call (.ref f) us) (EP X Z' σ Q) X.xe s:=by
 have r2:=r.append hd;have hl:(us++ds).length=ps.length:=by rw[<-r2.length];exact F.len _ _ _ _ h
 refine wpAny_call<|codeAny_mono (F.run X.A X.stack s H _ _ _ Q E hr I.env0 (hb s us I.kIn hl) r2 h) λr s' hq=>?_;cases r with
 |error e=>exact hx Z' σ H s e s' I hq
 |ok fl=>
  cases fl with
  |ret u=>exact I.after hq
  |next=>exact False.elim hq
  |brk=>exact False.elim hq
  |cont=>exact False.elim hq
def Aq(F:FnOk X.prog X.w X.K X.mg X.base CX k f fd ps sp)(hr:Room k X.A)(hg:Gl X x)(hm:X.mg x=some (.ref f))(hk:W.keepIn X.K (.ref f)=true)(hb:Binds X.K fd ps ds)(hd:zK dvs ds)(hx:Kf CX X E)
 (ha:PA X (e::es) t) (vv:(x==("__debug__":Str))=false:=by decide) (he:starEach (e::es) X.env=(false,eval e X.env)::starEach es X.env:=by rfl) (C':(backTo pos<|starEach es X.env).any (·.1)=false:=by rfl):
 PE X (.Call (.Name x p) (e::es) [] pos) (Dk sp dvs E t):=by
 intro Z' s σ H Q I h;refine wpAny_Call_Name_kw<|vJ I hg hm ?_ vv;refine W.callWith_K I.ok.mod.kin hk (yV (ha pos Z' s σ H _ I h) λus s1 ⟨vs,H1,I1,r,q⟩=>⟨I1.kIn, ?_⟩) he C';exact tG F hr hb hd hx I1 r q
structure FnScope(N P:List Str)(sc:Scope):Prop where
 kind:sc.kind = .function
 co:sc.isCoroutine=false
 gen:sc.isGenerator=false
 nd:N.Nodup
 pre:N.take P.length=P
 par:∀x ∈ P,sc.names.lookup x=some .local\/sc.names.lookup x=some .cell
 nofree:∀y ∈ sc.names,y.2 ≠ .free
theorem PZ{kindOf x}:∀{binds:List (Str×Value)}{m:Str->Option Value},(∀v,(x,v) ∉ binds)->bindL kindOf binds m x=m x
 | [],_,_=>rfl
 |(n,v)::r,m,h=>by
  unfold bindL;rw[PZ λw hw=>h w<|zzD _ hw]
  split
  . have:x≠n:=by rintro rfl;exact h v zzF
    simp[this]
  . rfl
theorem PB{kindOf x}:∀{binds:List (Str×Value)}{m:Str->Option Value},(∀v,(x,v) ∉ binds)->bindC kindOf binds m x=m x
 | [],_,_=>rfl
 |(n,v)::r,m,h=>by
  unfold bindC;rw[PB λw hw=>h w<|zzD _ hw]
  split
  . rfl
  . have:x≠n:=by rintro rfl;exact h v zzF
    simp[this]
theorem PQ{kindOf x v}:∀{P:List Str}{vs:List Value}{i:Nat}{m:Str->Option Value},P.Nodup->P[i]? = some x->vs[i]? = some v->kindOf x=some .local->
 bindL kindOf (P.zip vs) m x=some v
 | [],_,_,_,_,h,_,_=>by simp at h
 |_::_,[],_,_,_,_,h,_=>by simp at h
 |p::P,w::vs,0,m,nd,h1,h2,hk=>by
  simp at h1 h2;subst h1;subst h2;show bindL kindOf (_::P.zip vs) m p=_;unfold bindL;rw[PZ λv hv=>(zzV.mp nd).1 (List.of_mem_zip hv).1,if_pos hk];simp
 |p::P,w::vs,i+1,m,nd,h1,h2,hk=>by
  unfold bindL;exact PQ (zzV.mp nd).2 (by simpa using h1) (by simpa using h2) hk
theorem PL{kindOf x v}:∀{P:List Str}{vs:List Value}{i:Nat}{m:Str->Option Value},P.Nodup->P[i]? = some x->vs[i]? = some v->kindOf x≠some .local->
 bindC kindOf (P.zip vs) m x=some v
 | [],_,_,_,_,h,_,_=>by simp at h
 |_::_,[],_,_,_,_,h,_=>by simp at h
 |p::P,w::vs,0,m,nd,h1,h2,hk=>by
  simp at h1 h2;subst h1;subst h2;show bindC kindOf (_::P.zip vs) m p=_;unfold bindC;rw[PB λv hv=>(zzV.mp nd).1 (List.of_mem_zip hv).1,if_neg hk];simp
 |p::P,w::vs,i+1,m,nd,h1,h2,hk=>by
  unfold bindC;exact PL (zzV.mp nd).2 (by simpa using h1) (by simpa using h2) hk
noncomputable def start(N:List Str)(vs:List V):St:=vs.map some++List.replicate (N.length-vs.length) none
noncomputable def v9(CX:Jl)(P:Program)(w:World)(K:zzA)(mg:Str->Option Value)(base:Heap)(N:List Str)(qual:Str)(scope:Scope)(f:Addr)(cd:Value)(A:Around)(outer:List Env)(s:Shared)(H:Hp)(E:XK):Cx where
 prog:=P
 w:=w
 K:=K
 mg:=mg
 base:=base
 A:=A.deeper (envOfC qual scope s.heap.objs.size f cd)
 N:=N
 s₀:=s
 H₀:=H
 env:=envOfC qual scope s.heap.objs.size f cd
 outer:=outer
 stack:=envOfC qual scope s.heap.objs.size f cd::outer
 ex:=[]
 calm:=true
 fn:=λ_=>true
 pn:=[]
 xe:=λe s'=>wpAny (model P w) (A.deeper<|envOfC qual scope s.heap.objs.size f cd) (leaving (envOfC qual scope s.heap.objs.size f cd) e) (λ_ s''=>CX outer H s E e s'') (λe' s''=>CX outer H s E e' s'') s'
def K2{sc:Scope}{n:Nat}{x}(h:sc.names.lookup x=some .cell):∃c,(cellsFrom n sc.names []).lookup x=some c:=by
 have q:=W.cellsFrom_some sc.names n []<|.inl h;exact Option.isSome_iff_exists.mp q
def PC{CX P w K mg base N ps qual scope f cd A outer s s1 H E us vs}
 (S:FnScope N ps scope) (hd:A.handled=none) (e0:Env0 P w K mg base A outer s H) (hl:vs.length=ps.length) (r:zK vs us)
 (x:InCallC s s.heap.objs.size (bindL (envOfC qual scope s.heap.objs.size f cd).kindOf (ps.zip us) λ_=>none) (cellsFrom (s.heap.objs.size+1) scope.names []) (bindC (envOfC qual scope s.heap.objs.size f cd).kindOf (ps.zip us) λ_=>none) s1):
 Inv (v9 CX P w K mg base N qual scope f cd A outer s H E) [] (start N vs) H s1:=by
 have C':ps.length<=N.length:=by have:=congrArg List.length S.pre;rw[zzS]at this;omega
 obtain⟨h1,tk,rfl,hk⟩:=x.done;have noA:∀b,b ∉ (v9 CX P w K mg base N qual scope f cd A outer s H E).ex:=λb z=>absurd (show b ∈ ([]:List Addr)from z) (by simp);refine⟨⟨e0.mod,S.kind,rfl,rfl,zzN _,λy z c h1 h2=>?_,λy hy=>?_,λy c _ h=>?_,λ_=>hd,Around.frames_deeper e0.frames,.inr ⟨rfl,rfl⟩,λb z=>absurd z<|noA b,e0.bs,e0.bsz,λb _ _=>noA b,λb z=>absurd z<|noA b,e0.funs,e0.frf⟩,
  rfl,e0.bare,Un.kept hk,⟨_,x.toInCall.ns,λi y v h1 h2 h3=>?_⟩,λy c h=>⟨_,x.cell y c h⟩,e0.hok.fresh<|zzN _,λy c h=>?_,λp hp=>absurd (show p ∈ ([]:List _)from hp) (by simp),e0.hok.kept hk, ?_⟩
 . exact name_of_addr x.apart (PySem.mem_of_lookup h1)<|PySem.mem_of_lookup h2
 . have hy:=hy
   rcases hy with hy|hy
   . exact K2 hy
   . exact absurd rfl<|S.nofree _<|PySem.mem_of_lookup hy
 . exact Nat.le_of_lt<|x.above y c<|PySem.mem_of_lookup h
 . have hi:i<vs.length:=by
    unfold start at h2
    by_cases hi:i<vs.length
    . exact hi
    . rw[zyQ<|by simpa using hi]at h2;rw[List.getElem?_replicate]at h2
      split at h2<;>cases h2
   have ha:vs[i]? = some v:=by
    unfold start at h2;rw[zyO (by simpa using hi),zzI]at h2;cases e:vs[i]? with
    |none=>rw[e]at h2;cases h2
    |some a=>rw[e]at h2;cases h2;rfl
   obtain⟨u,hu,rv⟩:=r.get ha;have hp:ps[i]? = some y:=by
    rwa [<-S.pre,List.getElem?_take_of_lt<|by omega]
   have ndP:ps.Nodup:=by rw[<-S.pre];exact S.nd.sublist<|List.take_sublist _ _
   refine⟨u,rv, ?_⟩
   rcases S.par y (zzZ hp)with k|k
   . exact .inl ⟨k,PQ ndP hp hu k⟩
   . obtain⟨c,e⟩:=K2 k;refine .inr ⟨.inl k,c,e, ?_⟩;have q:=x.cell y c e
     rwa [PL ndP hp hu (by show scope.names.lookup y≠_;rw[k];decide)]at q
 . exact e0.hok.fresh<|Nat.le_of_lt<|x.above y c<|PySem.mem_of_lookup h
 . unfold start;show _=N.length;rw[zzJ,zzB,List.length_replicate];omega
def MY{CX P w K mg base}{k:Nat}{f name qual params body scope dV kV doc pm Mk ct oc an od}
 {osl N ps sp}(lk:K.lookup f=some ⟨oc,od,.func<|W.fnOf name qual params body scope dV kV doc pm an Mk ct,osl⟩) (hcd:W.codeIn K Mk qual=true) (S:FnScope N ps scope)
 (len:∀vs H Q E,sp vs H Q E->vs.length=ps.length)
 (hbody:∀A outer s H vs Q E,Room k (A.deeper<|envOfC qual scope s.heap.objs.size f Mk)->sp vs H Q E->
  ∃t,Pw (v9 CX P w K mg base N qual scope f Mk A outer s H E) body t/\t {nx:=λ_ H'=>Q .non H',rt:=Q} (start N vs) H):
 FnOk P w K mg base CX (k+1) f (W.fnOf name qual params body scope dV kV doc pm an Mk ct) ps sp:=by
 refine⟨len,λA outer s H args us vs Q E hr e0 hb r so=>?_⟩;have hl:=len _ _ _ _ so;have KX:=e0.mod.kin.keeps λb o e=>(e0.bs b o e).1;have lim:=e0.mod.nolimit.keeps λb o e=>(e0.bs b o e).1;have hkind:∀y ∈ ps.zip us,scope.names.lookup y.1=some .local\/(scope.names.lookup y.1=some .cell/\((cellsFrom (s.heap.objs.size+1) scope.names []).lookup y.1).isSome=true):=λ⟨n,v⟩ hy=>by
  rcases S.par n (List.of_mem_zip hy).1 with q|q
  . exact .inl q
  . exact .inr ⟨q,W.cellsFrom_some _ _ _<|.inl q⟩
 refine codeAny_call_function hr.depth (KX _ _ lk) rfl S.co S.gen rfl (W.codeRec_of KX hcd)<|hb _ _ _ _ ?_;refine wpAny_newFunctionEnv_cells S.kind hkind λenv he s1 x=>?_;subst he;refine⟨lim.keeps x.toInCall.keep,codeAny_func ?_⟩;obtain⟨t,ht,hq⟩:=hbody A outer s H vs Q E (hr.deeper _) so;have I:Inv (v9 CX P w K mg base N qual scope f Mk A outer s H E) [] _ H s1:=PC S hr.hd e0 hl r x;refine zxQ (ht [] s1 _ H _ I hq) (λfl s' hs=>?_) λe s' hs=>hs;have fin:∀{P':St}{H':Hp}{v:V}{u:Value},Inv (v9 CX P w K mg base N qual scope f Mk A outer s H E) [] P' H' s'->RelV v u->Q v H'->CE outer P w H s Q u s':=
  λ{P' H' v u} J rv q=>⟨v,H',J.os,J.bare,J.base,J.hok,rv,q⟩
 cases fl with
 |ret u=>
  obtain⟨v,P',H',J,rv,q⟩:=hs;exact fin J rv q
 |next=>
  obtain⟨P',H',J,q⟩:=hs;exact fin (v:=V.non) J rfl q
 |brk=>
  obtain⟨_,_,_,q⟩:=hs;exact False.elim q
 |cont=>
  obtain⟨_,_,_,q⟩:=hs;exact False.elim q
section
variable{X:Cx}{x:Str}{p pos:Pos}{e:Expr}{es:List Expr}{t:TA}{id T:String}{r:List V->Hp->VK->Prop}
def j7(r:List V->Hp->VK->Prop)(t:TA):TE:=λσ H Q=>t σ H λvs H1=>r vs H1 Q
def YZ(hc:Yn X (.builtin id) r)(hg:Gl X x)(hm:X.mg x=none)(hv:bootBuiltins x=some (.builtin id))(ha:PA X (e::es) t)(hn:x≠"__name__":=by decide)(vv:(x==("__debug__":Str))=false:=by decide)
 (he:starEach (e::es) X.env=(false,eval e X.env)::starEach es X.env:=by rfl) (C':(backTo pos<|starEach es X.env).any (·.1)=false:=by rfl):PE X (.Call (.Name x p) (e::es) [] pos) (j7 r t):=by
 intro Z' s σ H Q I h;refine wpAny_Call_Name_kw<|YI I hg hm hv ?_ hn vv;exact PyProof.Rows.callWith_builtin1 (yV (ha pos Z' s σ H _ I h) λus s1 ⟨vs,H1,I1,r1,q1⟩=>hc Z' s1 σ H1 vs us Q I1 r1 q1) he C'
def BK(hc:Yn X (.type T) r)(hg:Gl X x)(hm:X.mg x=none)(hv:bootBuiltins x=some (.type T))(ha:PA X (e::es) t)(hn:x≠"__name__":=by decide)(vv:(x==("__debug__":Str))=false:=by decide)
 (he:starEach (e::es) X.env=(false,eval e X.env)::starEach es X.env:=by rfl) (C':(backTo pos<|starEach es X.env).any (·.1)=false:=by rfl):PE X (.Call (.Name x p) (e::es) [] pos) (j7 r t):=by
 intro Z' s σ H Q I h;refine wpAny_Call_Name_kw<|YI I hg hm hv ?_ hn vv;exact PyProof.Rows.callWith_type1 (yV (ha pos Z' s σ H _ I h) λus s1 ⟨vs,H1,I1,r1,q1⟩=>hc Z' s1 σ H1 vs us Q I1 r1 q1) he C'
end
section
variable{κ:Type}[DecidableEq κ]
def YR(kvs:List (κ×V))(k:κ):Option V:=(kvs.find? λkv=>decide (kv.1=k)).map (·.2)
def putK(kvs:List (κ×V))(k:κ)(v:V):List (κ×V):=
 if(kvs.any λkv=>decide (kv.1=k))=true then kvs.map (λkv=>if kv.1=k then(kv.1,v)else kv)else kvs++[(k,v)]
def Nu{p r}{k:κ}(e:p.1=k):YR (p::r) k=some p.2:=by simp[YR,e]
def Nj{p r}{k:κ}(e:¬p.1=k):YR (p::r) k=YR r k:=by simp[YR,e]
theorem U8(k:κ):∀kvs,(kvs.any λkv=>decide (kv.1=k))=(YR kvs k).isSome
 | []=>rfl
 |p::r=>by
  rw[List.any_cons]
  by_cases e:p.1=k
  . simp only[Nu e,zyN e,Bool.true_or,Option.isSome_some]
  . rw[Nj e,zyF e];exact U8 k r
def Ks(kvs)(k:κ)(v):(putK kvs k v).length<=kvs.length+1:=by
 unfold putK
 split
 . rw[zzB];omega
 . rw[zzJ,zzT,List.length_nil];omega
def Cm{kvs}{k:κ}(v)(h:YR kvs k=none):putK kvs k v=kvs++[(k,v)]:=by
 unfold putK;rw[U8,h];exact if_neg (by decide)
theorem W3.getD(r:W3 o u)(rd:RelV d d'):RelV (o.getD d) (u.getD d'):=by
 cases o with
 |none=>cases u with
  |none=>exact rd
  |some _=>exact(r).elim
 |some _=>cases u with
  |none=>exact(r).elim
  |some _=>exact r
def KV.val{kvs vs}(r:KV kvs vs)(k:κ):W3 (YR kvs k) (valueAt vs k):=by
 induction r with
 |nil=>exact True.intro
 | @cons p q ps qs h t ih=>
  obtain⟨h1,h2⟩:=h
  by_cases e:p.1=k
  . have e':q.1=k:=h1.symm.trans e;have b:valueAt (q::qs) k=some q.2:=by simp[valueAt,e']
    rwa [Nu e,b]
  . have e':¬q.1=k:=λz=>e<|h1.trans z;have b:valueAt (q::qs) k=valueAt qs k:=by simp[valueAt,e']
    rwa [Nj e,b]
theorem KV.any(r:KV kvs vs)(k:κ):(kvs.any λkv=>decide (kv.1=k))=vs.any λkv=>decide (kv.1=k):=by
 induction r with
 |nil=>rfl
 |cons h t ih=>rw[List.any_cons,List.any_cons,ih,h.1]
def KV.repl(r:KV kvs vs)(k:κ)(ry:RelV y u):
 KV (kvs.map λkv=>if kv.1=k then(kv.1,y)else kv) (vs.map λkv=>if kv.1=k then(kv.1,u)else kv):=by
 induction r with
 |nil=>exact .nil
 | @cons p q ps qs h t ih=>
  rw[zyR,zyR];refine .cons ?_ ih;obtain⟨h1,h2⟩:=h
  by_cases e:p.1=k
  . rw[if_pos e,if_pos<|h1.symm.trans e];exact⟨h1,ry⟩
  . rw[if_neg e,if_neg λz=>e<|h1.trans z];exact⟨h1,h2⟩
def KV.put(r:KV kvs vs)(k:κ)(ry:RelV y u):KV (putK kvs k y) (stored vs k u):=by
 unfold putK stored;rw[r.any k]
 by_cases e:(vs.any λkv=>decide (kv.1=k))=true
 . rw[if_pos e,if_pos e];exact r.repl k ry
 . rw[if_neg e,if_neg e];exact Paired.snoc r ⟨rfl,ry⟩
end
def Ea(r:RelV (kV k) u):(xy P w).is k u=true:=by
 cases k with
 |inl i=>obtain⟨t,e⟩:=(r);subst e;exact LP P w i t
 |inr x=>obtain⟨t,e⟩:=(r);subst e;exact Xl P w x t
def pR(ok:Vg P w H h)(e:Rd H a u):xJ P w H h a u:=e.ok ok
def Dp(ok:Vg P w H h)(e:Rd H a (.dK kvs)):kvs.length<=sizeLine/\(a==sysModules)=false/\∃vs,KV kvs vs/\h.DictOf (xy P w) a vs:=
 show xJ P w H h a _ from pR ok e
def mQ(ok:Vg P w H h)(e:H a=some (.dK kvs)):kvs.length<=sizeLine/\(a==sysModules)=false/\∃vs,KV kvs vs/\h.DictOf (xy P w) a vs:=Dp ok<|.inl e
def Inv.big(I:Inv X Z' σ H s):sysModules<s.heap.objs.size:=by
 have h:=(I.mod.glob.keeps I.bk).lt;exact Nat.lt_trans (by decide) h
def IH(I:Inv X Z' σ H s)(mu:pC (H a))(hs:Heap.SameBut a s.heap h')(he:∃q,h'.get? a=some q)(new:xJ X.prog X.w (upd H a ob) h' a ob):
 Inv X Z' σ (upd H a ob) {s with heap:=h',toks:=t'}:=
 I.write mu (.inl rfl) (λb q hb z=>(hs.2 b hb).trans z) he new
def uv(z:kvs.length<=sizeLine)(hd:(a==sysModules)=false)(rel:KV kvs vs)(dd:h'.DictOf (xy P w) a vs):
 xJ P w H' h' a (.dK kvs):=⟨z,hd,vs,rel,dd⟩
def CS(h:Heap)(hb:sysModules<h.objs.size):xJ P w H (h.push {cls:=.type "dict",data:=.dict #[]}) h.objs.size (.dK []):=
 ⟨Nat.zero_le _,beq_eq_false_iff_ne.mpr<|Ne.symm<|zzQ hb,[],.nil,Heap.DictOf.new h⟩
def TY:List (TE×TE)->St->Hp->(List (V×V)->Hp->Prop)->Prop
 | [],_,H,Q=>Q [] H
 |(tk,tv)::r,σ,H,Q=>tk σ H λx H1=>tv σ H1 λy H2=>TY r σ H2 λps H3=>Q ((x,y)::ps) H3
abbrev VV:List (V×V)->List (Value×Value)->Prop:=Paired λp q=>RelV p.1 q.1/\RelV p.2 q.2
def DW(X:Cx)(pos:Pos)(keys:List (Option Expr))(values:List Expr)(trs:List (TE×TE)):Prop:=
 ∀Z' s σ H Q,Inv X Z' σ H s->TY trs σ H Q->
  wpAny (model X.prog X.w) X.A (evalPairs<|pairTrees keys values X.env pos) (λvs s'=>∃ps H',Inv X Z' σ H' s'/\VV ps vs/\Q ps H') X.xe s
def A7:DW X pos [] [] []:=λZ' s σ H Q I h=>pairTrees_nil_walk ⟨[],H,I,.nil,h⟩
def Hh(hk:PE X k tk)(hv:PE X v tv)(hr:DW X pos ks vs trs):
 DW X pos (some k::ks) (v::vs) ((tk,tv)::trs):=λZ' s σ H Q I h=>
 pairTrees_cons_walk (yV (hk Z' s σ H _ I h) λu s1 ⟨x,H1,I1,rx,q1⟩=>yV (hv Z' s1 σ H1 _ I1 q1) λw2 s2 ⟨y,H2,I2,ry,q2⟩=>
  yV (hr Z' s2 σ H2 _ I2 q2) λws s3 ⟨ps,H3,I3,rel,q3⟩=>⟨_::ps,H3,I3,.cons ⟨rx,ry⟩ rel,q3⟩)
def Wm(kvs more:List (Key×V)):List (Key×V):=more.foldl (λacc kv=>putK acc kv.1 kv.2) kvs
def KV.merge:∀{more:List (Key×V)}{rs:List (Key×Value)}{kvs:List (Key×V)}{vs:List (Key×Value)},KV more rs->KV kvs vs->KV (Wm kvs more) (merged vs rs):=by
 intro more rs kvs vs r
 induction r generalizing kvs vs with
 |nil=>intro q;exact q
 | @cons p q ps qs h t ih=>
  intro r0;have e:KV (putK kvs p.1 p.2) (stored vs q.1 q.2):=by
   have:=r0.put p.1 h.2
   rwa [<-h.1]
  exact ih e
theorem X7:∀more kvs,(Wm kvs more).length<=kvs.length+more.length
 | [],kvs=>by show kvs.length<=kvs.length+0;omega
 |p::r,kvs=>by
  have h1:=X7 r<|putK kvs p.1 p.2;have h2:=Ks kvs p.1 p.2;show(Wm (putK kvs p.1 p.2) r).length<=_;rw[zzT];omega
theorem Rh:∀{kvs:List (Key×V)}{ws:List (Value×Value)},VV (kvs.map λkv=>(kV kv.1,kv.2)) ws->∃rs,Carries (xy P w) ws rs/\KV kvs rs
 | [],_,r=>by cases r;exact⟨[],True.intro,.nil⟩
 |p::kvs,_,r=>by
  cases r with
  | @cons a b as bs h t=>
   obtain⟨rs,c,q⟩:=Rh t;obtain⟨b1,b2⟩:=b;exact⟨(p.1,b2)::rs,⟨Ea h.1,rfl,c⟩,.cons ⟨rfl,h.2⟩ q⟩
def px(trs:List (TE×TE)):TE:=λσ H Q=>∀p,H p=none->TY trs σ (upd H p<|.dK []) λps H2=>H2 p=some (.dK [])/\∃kvs,ps=kvs.map (λkv=>(kV kv.1,kv.2))/\kvs.length<=15/\Q (.ref p) (upd H2 p<|.dK<|Wm [] kvs)
def AC(h:DW X pos keys values trs)(hall:keys.all (·.isSome)=true)(hl:keys.length=values.length)(h0:keys≠[])
 (h15:keys.length<=15):PE X (.Dict keys values pos) (px trs):=by
 intro Z' s σ H Q I q;have hn:=I.hok.fresh<|zzN s.heap.objs.size;have I1:=I.laid (h':=s.heap.push {cls:=.type "dict",data:=.dict #[]}) (t':=s.toks) (λ_ _ q=>zxF _ q) (zzN _)<|CS s.heap I.big;refine wpAny_Dict_walk (knd:=xy X.prog X.w) hall hl h0 h15<|yV (h Z' _ σ _ _ I1<|q _ hn) λws s2 hq0=>?_;obtain⟨ps,H2,I2,rel,e,kvs,ep,lk,q2⟩:=hq0;subst ep;obtain⟨rs,c,rk⟩:=Rh rel;obtain⟨z,hd,vs0,r0,dd⟩:=mQ I2.hok e;cases r0;refine⟨rs,c,dd,λh' dd' hs=>⟨.ref s.heap.objs.size,_, ?_,rfl,q2⟩⟩;have hz:(Wm [] kvs).length<=sizeLine:=by
  have h1:=X7 kvs [];rw[List.length_nil]at h1;rw[sizeLine_eq];omega
 have he:∃q,h'.get? s.heap.objs.size=some q:=let⟨q,_,_,hq,_⟩:=dd';⟨q,hq⟩;exact IH I2 (by rw[e];exact True.intro) hs he<|uv hz hd (rk.merge .nil) dd'
end L2
namespace HT
open PySem PyProof.Rows
def JY(ht:IsTup s.heap t vs.toArray)(hb:IsTup s.heap b ws.toArray)(hv:vs≠[])
 (h1:ws=[]->Q (.ref t) s) (h2:ws≠[]->Q (.ref s.heap.objs.size) {s with heap:=s.heap.push {cls:=.type "tuple",data:=.seq (vs++ws).toArray}})
 (hsz:vs.length+ws.length<=sizeLine):wpAny (model prog w) A (binaryOp .Add (.ref t)<|.ref b) Q E s:=by
 obtain⟨⟨cls,dd,data,sl⟩,ho,hc,n,hd⟩:=id ht;obtain⟨⟨cls2,dd2,data2,oA⟩,ho2,hc2,n2,hd2⟩:=id hb;subst hc hd hc2 hd2;have e:vs.toArray++ws.toArray=(vs++ws).toArray:=by simp
 by_cases hw:ws=[]
 . exact concat_meets ⟨_,ho,rfl⟩ ⟨_,ho2,rfl⟩ noFill_tuple_add seq_tuple_add PySem.F.slot_tuple_add PySem.F.entry_tuple_add (PySem.F.args_tuple_add_2 _ _)
    (tuple_addW1 t b vs.toArray ws.toArray n n2 dd dd2 sl oA (by simpa using hv)<|by simp[hw]) ⟨ho,ho2,h1 hw⟩
 . refine concat_meets ⟨_,ho,rfl⟩ ⟨_,ho2,rfl⟩ noFill_tuple_add seq_tuple_add PySem.F.slot_tuple_add PySem.F.entry_tuple_add (PySem.F.args_tuple_add_2 _ _)
    (tuple_addW2 t b vs.toArray ws.toArray n n2 dd dd2 sl oA (by simpa using hv) (by simpa using hw)<|hsz) ⟨ho,ho2, ?_⟩
   rw[e];exact h2 hw
noncomputable def sIx(n d:Nat):Option Int->Nat
 |none=>d
 |some v=>if v<0 then(v+(n:Int)).toNat else min v.toNat n
def KN(n d:Nat):sIx n d none=d:=rfl
def EC(n d k:Nat):sIx n d (some (k:Int))=min k n:=rfl
end HT
namespace L2
open PySem PySem.Spec PyProof.Rows
abbrev TO:=St->Hp->(Option Int->Hp->Prop)->Prop
def PO(X:Cx)(e:Option Expr)(t:TO):Prop:=
 ∀Z' s σ H Q,Inv X Z' σ H s->t σ H Q->
  wpAny (model X.prog X.w) X.A (evalPart e X.env) (λu s'=>∃o H',Inv X Z' σ H' s'/\IsPart u o/\Q o H') X.xe s
def Et:TO:=λ_ H Q=>Q none H
def qY(t:TE):TO:=λσ H Q=>t σ H λx H1=>∃i,x = .int i/\Q (some i) H1
def intsAre_of:∀{us:List Value},zK (ns.map V.int) us->IntsAre us ns:=by
 induction ns with
 |nil=>intro us r;cases r;exact .nil
 |cons n ns ih=>
  intro us r;cases r with
  |cons r1 r2=>
   obtain⟨t,e⟩:=r1;subst e;exact .cons n t<|ih r2
section
variable{X:Cx}{e:Expr}{te:TE}{lo hi:Option Expr}{tl th:TO}{pos p2:Pos}
def Jm:PO X none Et:=by
 intro Z' s σ H Q I h;rw[evalPart_none];exact zxE ⟨none,H,I,.none,h⟩
def Jz(h:PE X e te):PO X (some e) (qY te):=by
 intro Z' s σ H Q I hw;rw[evalPart_some];refine yV (h Z' s σ H _ I hw) λu s1 ⟨x,H1,I1,r1,q1⟩=>?_;obtain⟨i,rfl,q⟩:=q1;obtain⟨t,rfl⟩:=r1;exact⟨some i,H1,I1,.int i t,q⟩
def qF(X:Cx)(r:V->Option Int->Option Int->Hp->VK->Prop):Prop:=
 ∀Z' s σ H x v vl vu lo hi sl Q,Inv X Z' σ H s->RelV x v->s.heap.IsSliceOf sl vl vu .none->IsPart vl lo->IsPart vu hi->r x lo hi H Q->
  ∃T id,typeLookup (.type T) "__getitem__"=pure (some<|.builtin id)/\s.TypeIs v T/\wpAny (model X.prog X.w) X.A (getItem v<|.ref sl) (EP X Z' σ Q) X.xe s
def iw(r:V->Option Int->Option Int->Hp->VK->Prop)(te:TE)(tl th:TO):TE:=λσ H Q=>te σ H λx H1=>tl σ H1 λl H2=>th σ H2 λu H3=>r x l u H3 Q
def OB(hr:qF X r)(he:PE X e te)(hl:PO X lo tl)(hu:PO X hi th):PE X (.Subscript e (.Slice lo hi none p2) pos) (iw r te tl th):=by
 intro Z' s σ H Q I h;refine Subscript_<|yV (he Z' s σ H _ I h) λv s1 ⟨x,H1,I1,r1,q1⟩=>?_;refine wpAny_Slice<|yV (hl Z' s1 σ H1 _ I1 q1) λvl s2 ⟨l,H2,I2,pl,q2⟩=>yV (hu Z' s2 σ H2 _ I2 q2) λvu s3 ⟨u,H3,I3,pu,q3⟩=>?_;rw[evalPart_none];refine zxE ?_;have I4:Inv X Z' σ H3 {s3 with heap:=s3.heap.push {cls:=.type "slice",data:=.fields #[vl,vu,.none]}}:=I3.kept (t':=s3.toks) λb ob q=>zxF _ q;obtain⟨T,id,hT,ht,hg⟩:=hr Z' {s3 with heap:=s3.heap.push {cls:=.type "slice",data:=.fields #[vl,vu,.none]}} σ H3 x v vl vu l u s3.heap.objs.size Q I4 r1 (Heap.IsSliceOf.new ..) pl pu q3;exact tail_any ht hT hg (by with_unfolding_all rfl)
def Ie(xs:List V)(lo hi:Option Int):List V:=(xs.drop<|HT.sIx xs.length 0 lo).take<|HT.sIx xs.length xs.length hi-HT.sIx xs.length 0 lo
def LM(xs)(lo hi):(Ie xs lo hi).length<=xs.length:=by
 unfold Ie;rw[zzS,List.length_drop];omega
def oi(K:zzA):R2:=λx y H Q=>∃a b xs ys,x = .ref a/\y = .ref b/\Ip K H a xs/\Ip K H b ys/\xs≠[]/\xs.length+ys.length<=sizeLine/\
 (ys=[]->Q (.ref a) H)/\(ys≠[]->∀p,H p=none->Q (.ref p) (upd H p<|.tup<|xs++ys))
def zK.nil_iff(r:zK xs us):us=[] ↔ xs=[]:=by
 cases r with
 |nil=>simp
 |cons _ _=>simp
def Jp:QF X (binaryOp .Add) (oi X.K):=by
 intro Z' s σ H x y v u Q I rx ry h;obtain⟨a,b,xs,ys,rfl,rfl,ha,hb,hx,hz,q1,q2⟩:=h;cases rx;cases ry;obtain⟨zM,r1,p1,_⟩:=I.tuple ha;obtain⟨its2,r2,p2,_⟩:=I.tuple hb;refine HT.JY p1 p2 (λz=>hx<|r1.nil_iff.mp z) (λz=>⟨.ref a,H,I,rfl,q1<|r2.nil_iff.mp z⟩) (λz=>?_) (by rw[<-r1.length,<-r2.length];exact hz);refine⟨.ref s.heap.objs.size,_,I.laid (t':=s.toks) (λb ob q=>zxF _ q) (zzN _) ?_,rfl,q2 (λw=>z<|r2.nil_iff.mpr w) _<|I.hok.fresh<|zzN _⟩;exact⟨by rw[zzJ];exact hz,_,r1.append r2,IsTup.new _ _⟩
end
noncomputable def B8(n:Nat)(i:Int):Option Nat:=if 0<=i then(if i<n then some i.toNat else none)else if -(n:Int)<=i then some (i+n).toNat else none
def Gr{α:Type}(xs:List α)(i:Int):Option α:=(B8 xs.length i).bind λj=>xs[j]?
def EJ(h:B8 n i=some j):seqIndex? i n=some j/\j<n /\ -(n:Int)<=i/\i<n:=by
 unfold B8 at h
 by_cases h0:0<=i
 . rw[if_pos h0]at h
   by_cases h1:i<n
   . rw[if_pos h1]at h;have e:=zzY h;exact⟨by rw[seqIndex_of h0 h1,e],by omega,by omega,h1⟩
   . rw[if_neg h1]at h;cases h
 . rw[if_neg h0]at h
   by_cases h1 : -n<=i
   . rw[if_pos h1]at h;have e:=zzY h;exact⟨by rw[seqIndex_neg (by omega) h1,e],by omega,h1,by omega⟩
   . rw[if_neg h1]at h;cases h
def G2(h:Gr xs i=some v):∃j,seqIndex? i xs.length=some j/\xs[j]? = some v/\j<xs.length /\ -(xs.length:Int)<=i/\i<xs.length:=by
 unfold Gr at h;cases e:B8 xs.length i with
 |none=>rw[e]at h;cases h
 |some j=>
  rw[e]at h;obtain⟨h1,h2,h3,h4⟩:=EJ e;exact⟨j,h1,h,h2,h3,h4⟩
def Yu{α:Type}{xs}{j:Nat}{v:α}(h:xs[j]? = some v):Gr xs (j:Int)=some v:=by
 have hj:=(zzG.mp h).1;have e:B8 xs.length (j:Int)=some j:=by
  unfold B8;rw[if_pos (by omega),if_pos<|by omega];simp
 unfold Gr;rw[e];exact h
def GQ(b:Expr):Prop:=∀o i,subscripted b false o i=operate [o,i] (getItem o i)
def o8(X:Cx)(r:R2):Prop:=
 ∀value slice Z' s σ H x y v u Q,Inv X Z' σ H s->RelV x v->RelV y u->r x y H Q->
  subscripted slice false v u=operate [v,u] (getItem v u)->wpAny (model X.prog X.w) X.A (subscriptTail value slice v u) (EP X Z' σ Q) X.xe s
def jt(X:Cx)(id:String)(r:V->List V->Hp->VK->Prop):Prop:=
 ∀Z' s σ H x xs v us Q,Inv X Z' σ H s->RelV x v->zK xs us->r x xs H Q->
  wpAny (model X.prog X.w) X.A (call (.builtin id) (v::us)) (EP X Z' σ Q) X.xe s
section
variable{X:Cx}{a:Expr}
def lb(hr:o8 X r)(ha:PE X a ta)(hb:PE X b tb)(hs:GQ b):PE X (.Subscript a b pos) (mC r ta tb):=by
 intro Z' s σ H Q I h;exact Subscript_<|tN ha hb I h λv u s2 x y H2 I2 rx ry q=>hr a b Z' s2 σ H2 x y v u Q I2 rx ry q<|hs _ _
def jx(K:zzA):R2:=λx y H Q=>∃p xs i v,x = .ref p/\y = .int i/\VJ K H p xs/\Gr xs i=some v/\Q v H
def lX(K:zzA):R2:=λx y H Q=>∃p xs i v,x = .ref p/\y = .int i/\Ip K H p xs/\Gr xs i=some v/\Q v H
def jJ:R2:=λx y H Q=>∃z i c,x = .str z/\y = .int i/\z.length<=sizeLine/\Gr z.cps.toList i=some c/\Q (.str ⟨#[c]⟩) H
def IV:o8 X (jx X.K):=by
 intro value slice Z' s σ H x y v u Q I rx ry h hs;obtain⟨p,xs,i,z,rfl,rfl,hq,he,q⟩:=h;cases rx;obtain⟨t,rfl⟩:=ry;obtain⟨zM,r,pl,hz⟩:=I.list hq;obtain⟨j,h1,h2,h3,h4,h5⟩:=G2 he;obtain⟨w,ew,rw'⟩:=r.get h2;have hl:=r.length;have hn:=V0;have fin:EP X Z' σ Q w s:=⟨z,H,I,rw',q⟩
 by_cases h0:0<=i
 . have hj:i.toNat=j:=by
    rw[seqIndex_of h0 h5]at h1;exact zzY h1
   exact item_listR pl.isList h0 (by omega) (by rw[hj];simpa using ew) fin hs
 . have hj:(i+(zM.toArray.size:Int)).toNat=j:=by
    rw[seqIndex_neg (by omega) h4]at h1;rw[zzH,<-hl];exact zzY h1
   exact subscriptTail_builtinR pl.isList.typeIs slot_list_getitem.lookup
    (wpAny_getItem_list_neg pl.isList (by omega) (by rw[zzH]<;>omega) (by omega) (by rw[hj];simpa using ew) ⟨rfl,fin⟩) hs
def rR:o8 X (lX X.K):=by
 intro value slice Z' s σ H x y v u Q I rx ry h hs;obtain⟨p,xs,i,z,rfl,rfl,hq,he,q⟩:=h;cases rx;obtain⟨t,rfl⟩:=ry;obtain⟨zM,r,pl,hz⟩:=I.tuple hq;obtain⟨j,h1,h2,h3,h4,h5⟩:=G2 he;obtain⟨w,ew,rw'⟩:=r.get h2;have hl:=r.length;have hn:=V0;have fin:EP X Z' σ Q w s:=⟨z,H,I,rw',q⟩;exact subscriptTail_builtinR pl.typeIs slot_tuple_getitem.lookup
  (getItem_tuple pl (by omega) (by omega) (by rw[zzH,<-hl];exact h1) (by simpa using ew) ⟨rfl,fin⟩) hs
def NR:o8 X jJ:=by
 intro value slice Z' s σ H x y v u Q I rx ry h hs;obtain⟨z,i,c,rfl,rfl,hz,he,q⟩:=h;obtain⟨t,rfl⟩:=rx;obtain⟨t',rfl⟩:=ry;obtain⟨j,h1,h2,h3,h4,h5⟩:=G2 he;have hl:z.cps.toList.length=z.length:=by simp[Str.length]
 rw[hl]at h1 h4 h5;have hn:=V0;exact tail_any (typeIs_str s z t) slot_str_getitem.lookup (getItem_str (by
  have e1:decide (i < -(2 ^ 63:Int))=false:=zyF (by omega);have e2:decide (i ≥ 2 ^ 63)=false:=zyF (by omega);rw[e1,e2,Bool.or_false]) (by rw[h1];simpa using h2) ⟨.str ⟨#[c]⟩,H,I.tok _,⟨_,rfl⟩,q⟩) hs
def NM(zM:List Value)(n j:Nat)(u):Obj.mapSeq (·.setIfInBounds j u) {cls:=.type "list",data:=.seq zM.toArray n}={cls:=.type "list",data:=.seq (zM.set j u).toArray n}:=by
 simp[Obj.mapSeq]
theorem Inv.lst(I:Inv X Z' σ H s)(h:H p=some (.lst xs)):
 ∃(zM:List Value) (n:Nat),zK xs zM/\s.heap.get? p=some {cls:=.type "list",data:=.seq zM.toArray n}/\xs.length<=sizeLine:=by
 obtain⟨z,zM,n,r,e⟩:=I.hok p _ h;exact⟨zM,n,r,e,z⟩
def Inv.lstUpd{Z' σ H s p xs ys}{zM its':List Value}{n n':Nat}{f}(I:Inv X Z' σ H s)(h:H p=some (.lst xs))
 (ho:s.heap.get? p=some {cls:=.type "list",data:=.seq zM.toArray n}) (hf:f {cls:=.type "list",data:=.seq zM.toArray n}={cls:=.type "list",data:=.seq its'.toArray n'}) (r:zK ys its') (hz:ys.length<=sizeLine) (t:Nat):
 Inv X Z' σ (upd H p<|.lst ys) {s with heap:=s.heap.update p f,toks:=t}:=by
 have e:(s.heap.update p f).get? p=some {cls:=.type "list",data:=.seq its'.toArray n'}:=by
  rw[zxP f ho (by rw[hf]<;>rfl),hf]
 refine I.write (by rw[h];trivial) (.inl rfl) (λb u hb q=>(zxL _ _<|Ne.symm hb).trans q) ⟨_,e⟩ ?_;exact⟨hz,its',n',r,e⟩
def n9:V->V->V->Hp->(Hp->Prop)->Prop:=λo i v H Q=>∃p xs k j,o = .ref p/\i = .int k/\H p=some (.lst xs)/\B8 xs.length k=some j/\Q (upd H p<|.lst<|xs.set j v)
def set_list:nS X n9:=by
 intro Z' s σ H o i v ov iv u Q I ro ri rv h;obtain⟨p,xs,k,j,rfl,rfl,hp,hj,q⟩:=h;cases ro;obtain⟨t,rfl⟩:=ri;obtain⟨zM,n,r,ho,hz⟩:=I.lst hp;obtain⟨h1,h2,h3,h4⟩:=EJ hj;have hl:=r.length;have hn:=V0;have I':Inv X Z' σ _ {s with heap:=s.heap.update p _}:=
  I.lstUpd hp ho (NM zM n j u) (r.set rv j) (by rw[zzU];exact hz) s.toks
 by_cases h0:0<=k
 . have hk:k.toNat=j:=by
    rw[seqIndex_of h0 h4]at h1;exact zzY h1
   exact W.ki_setAt ho h0 (by omega) (by rw[zzH,<-hl];exact h4) (by rw[hk];exact⟨_,I',q⟩)
 . have hk:(k+(zM.toArray.size:Int)).toNat=j:=by
    rw[seqIndex_neg (by omega) h3]at h1;rw[zzH,<-hl];exact zzY h1
   exact W.ki_setBack ho (by omega) (by rw[zzH,<-hl];exact h3) (by omega) (by rw[hk];exact⟨_,I',q⟩)
def Gh(lo hi)(n:Nat):(sliceBounds lo hi none n).1=((HT.sIx n 0 lo:Nat):Int)/\(sliceBounds lo hi none n).2.1=((HT.sIx n n hi:Nat):Int)/\(sliceBounds lo hi none n).2.2=1:=by
 refine⟨?_, ?_,rfl⟩
 . cases lo with
   |none=>simp[sliceBounds,HT.sIx]
   |some i=>
    simp only[sliceBounds,HT.sIx,Option.getD_none,show 1 > 0 by decide,if_true]
    by_cases h:i<0
    . simp only[h,if_true]<;>omega
    . simp only[h,if_false]<;>omega
 . cases hi with
   |none=>simp[sliceBounds,HT.sIx]
   |some i=>
    simp only[sliceBounds,HT.sIx,Option.getD_none,show 1 > 0 by decide,if_true]
    by_cases h:i<0
    . simp only[h,if_true]<;>omega
    . simp only[h,if_false]<;>omega
def RT(zM:List Value)(lo hi):slicePick zM.toArray lo hi none=((zM.drop<|HT.sIx zM.length 0 lo).take<|HT.sIx zM.length zM.length hi-HT.sIx zM.length 0 lo).toArray:=by
 obtain⟨h1,h2,h3⟩:=Gh lo hi zM.toArray.size;unfold slicePick;rw[h1,h2,h3];simp only[sliceRange_one,pick_run,zzH]<;>rfl
def jM(K:zzA):V->Option Int->Option Int->Hp->VK->Prop:=λx lo hi H Q=>∃a xs,x = .ref a/\VJ K H a xs/\∀p,H p=none->Q (.ref p) (upd H p<|.lst<|Ie xs lo hi)
def JI:qF X (jM X.K):=by
 intro Z' s σ H x v vl vu lo hi sl Q I rx hs pl pu h;obtain⟨a,xs,rfl,hx,q⟩:=h;cases rx;obtain⟨zM,r,ht,hz⟩:=I.list hx;have hlen:=r.length;refine⟨"list",_,slot_list_getitem.lookup,ht.isList.typeIs, ?_⟩;refine wpAny_getItem_list_slice ht.isList hs pl pu .none (by simp) ?_ (by rw[zzH]<;>omega);rw[RT,<-hlen];refine⟨.ref s.heap.objs.size,_,I.laid (t':=s.toks) (λb ob q=>zxF _ q) (zzN _) ?_,rfl,q _<|I.hok.fresh<|zzN _⟩;exact⟨zzO (LM xs lo hi) hz,_,0,(r.drop _).take _,zxH _ rfl⟩
def VE:Yn X (.builtin "len") (λxs H Q=>∃p ys,xs=[.ref p]/\VJ X.K H p ys/\Q (.int ys.length) H):=by
 intro Z' s σ H xs us Q I r h;obtain⟨p,ys,rfl,hq,q⟩:=h;obtain⟨u,rfl,rx⟩:=vals1 r;cases rx;have hn:=V0;obtain⟨zM,r',pl,hz⟩:=I.list hq;have hlen:=r'.length;exact Calls.call_len_list pl.isList (by simp only[zzH]<;>omega) ⟨.int ys.length,H,I.tok _,⟨s.toks+1,by rw[zzH,hlen]⟩,q⟩
def Tv:Yn X (.builtin "len") (λxs H Q=>∃z,xs=[.str z]/\z.length<=sizeLine/\Q (.int z.length) H):=by
 intro Z' s σ H xs us Q I r h;obtain⟨z,rfl,hz,q⟩:=h;obtain⟨u,rfl,t,rfl⟩:=vals1 r;have hn:=V0;exact len_str (by omega) ⟨.int z.length,H,I.tok _,⟨_,rfl⟩,q⟩
def X8:Yn X (.type "tuple") (λxs H Q=>∃p ys,xs=[.ref p]/\((VJ X.K H p ys/\∀l,H l=none->Q (.ref l) (upd H l<|.tup ys))\/(Ip X.K H p ys/\Q (.ref p) H))):=by
 intro Z' s σ H xs us Q I r h;obtain⟨p,ys,rfl,h⟩:=h;obtain⟨u,rfl,rx⟩:=vals1 r;cases rx
 rcases h with⟨hq,q⟩|⟨hq,q⟩
 . obtain⟨zM,r',pl,hz⟩:=I.list hq;have hlen:=r'.length;refine call_tuple_list pl.isList (λh' kp=>?_) (by simp only[zzH]<;>omega);have I1:=I.kept (t':=s.toks) kp;have I2:=
    I1.laid (t':=s.toks) (λb o e=>zxF _ e) (zzN _) (show xJ X.prog X.w _ _ _ (.tup ys)from⟨hz,zM,r',IsTup.new _ _⟩)
   exact⟨.ref h'.objs.size,_,I2,rfl,q _<|I1.hok.fresh<|zzN _⟩
 . obtain⟨zM,r',pl,hz⟩:=I.tuple hq;exact call_tuple_same pl ⟨.ref p,H,I,rfl,q⟩
def j5(K:zzA)(T:String)(x:V)(H:Hp):Prop:=match x with
 | .str _=>T="str"
 | .int _=>T="int"
 | .ref p=>(T="list"/\∃xs,VJ K H p xs)\/(T="tuple"/\∃o,K.lookup p=some o/\o.cls = .type "tuple"/\o.dict=none) \/
  (T="dict"/\((∃kvs,H p=some (.dK kvs))\/∃kvs,H p=some (.dT kvs)))\/(T="set"/\∃S n,H p=some (.set S n))
 |_=>False
def uw(I:Inv X Z' σ H s)(r:RelV x v)(ty:j5 X.K T x H):
 s.TypeIs v T/\∀a,v = .ref a->∃ob,s.heap.get? a=some ob/\ob.dict=none:=by
 cases x with
 |str z=>
  obtain⟨t,rfl⟩:=r;cases(ty);exact⟨typeIs_str s z t,λ_ e=>nomatch e⟩
 |int i=>
  obtain⟨t,rfl⟩:=r;cases(ty);exact⟨typeIs_int s i t,λ_ e=>nomatch e⟩
 |ref p=>
  cases r
  rcases ty with⟨rfl,xs,hq⟩|⟨rfl,o,hk,hc,hd⟩|⟨rfl,hk⟩|⟨rfl,S,n,hk⟩
  . obtain⟨zM,_,pl,_⟩:=I.list hq;refine⟨pl.isList.typeIs,λa e=>?_⟩;cases e;obtain⟨o,n,e,c,hd,_⟩:=pl;exact⟨o,e,hd⟩
  . refine⟨⟨o,I.kIn p o hk,hc⟩,λa e=>?_⟩;cases e;exact⟨o,I.kIn _ o hk,hd⟩
  . have z:∃o,s.heap.get? p=some o/\o.ExactDict:=by
     rcases hk with⟨kvs,hk⟩|⟨kvs,hk⟩
     . obtain⟨_,_,_,_,o,_,_,e,ex,_⟩:=I.hok p _ hk;exact⟨o,e,ex⟩
     . obtain⟨_,_,_,_,o,_,_,e,ex,_⟩:=I.hok p _ hk;exact⟨o,e,ex⟩
    obtain⟨o,e,ex⟩:=z;refine⟨⟨o,e,ex.1⟩,λa e2=>?_⟩;cases e2;exact⟨o,e,ex.2.1⟩
  . obtain⟨o,_,_,_,e,ex,_⟩:=I.hok p _ hk;refine⟨⟨o,e,ex.1⟩,λa e2=>?_⟩;cases e2;exact⟨o,e,ex.2.1⟩
 |_=>exact False.elim ty
def jr(K:zzA)(T:String)(r:V->List V->Hp->VK->Prop)(to:TE)(t:TA):TE:=λσ H Q=>to σ H λx H1=>j5 K T x H1/\t σ H1 λxs H2=>r x xs H2 Q
variable{o e:Expr}{es:List Expr}{to:TE}{t:TA}{name:Str}{apos KE:Pos}{T id:String}{r:V->List V->Hp->VK->Prop}
def Dz(pa:PlainAttrs T)(slot:Slot T name id)(hty:typeOf (.builtin id)=pure (.type "method_descriptor"))(hm:jt X id r)(ho:PE X o to)(ha:PA X (e::es) t)
 (hbase:attributeBase o name X.env (eval o X.env)=eval o X.env:=by rfl)
 (hfew:((backTo KE<|starEach (e::es) X.env).all (λx=>!x.1)&&(backToKw KE<|keywordEach [] X.env).all (λx=>x.1.isSome)
  && decide ((e::es).length+([]:List Keyword).length+(if([]:List Keyword).isEmpty then 0 else 1)<30))=true:=by rfl)
 (hline:(apos.endLine==KE.line)=true:=by rfl) (hs:starEach (e::es) X.env=(false,eval e X.env)::starEach es X.env:=by rfl) (hplain:(backTo KE<|starEach es X.env).any (·.1)=false:=by rfl):
 PE X (.Call (.Attribute o name apos) (e::es) [] KE) (jr X.K T r to t):=by
 intro Z' s σ H Q I h;refine wpAny_Call_method_late hbase hfew hline rfl<|yV (ho Z' s σ H _ I h) λv s1 ⟨x,H1,I1,r1,ty,q1⟩=>?_;obtain⟨h1,h2⟩:=uw I1 r1 ty;refine⟨T,id,pa,slot,hty,h1,h2, ?_⟩;have hA:=ha KE Z' s1 σ H1 _ I1 q1;rw[hs]at hA ⊢;refine Calls.callWith_builtin (by show(false||(backTo KE _).any (·.1))=false;rw[hplain]<;>rfl)<|Calls.evalArgs_plain ?_;exact yV hA λus s2 ⟨vs,H2,I2,r2,q2⟩=>hm Z' s2 σ H2 x vs v us Q I2 r1 r2 q2
end
def j8(X:Cx)(id:String)(r:V->List V->Hp->VK->Prop):Prop:=
 ∀Z' s σ H x xs v us Q,Inv X Z' σ H s->RelV x v->zK xs us->r x xs H Q->
  wpAny (model X.prog X.w) X.A (call (.builtin id) (v::us)) (EP X Z' σ Q) X.xe s
def zK.one:∀{x:V}{us:List Value},zK [x] us->∃u,us=[u]/\RelV x u:=by
 intro x us h;cases h with
 |cons r t=>cases t;exact⟨_,rfl,r⟩
theorem zK.reverse(h:zK xs us):zK xs.reverse us.reverse:=by
 induction h with
 |nil=>exact .nil
 |cons r t ih=>rw[List.reverse_cons,List.reverse_cons];exact zK.append ih<|.cons r .nil
theorem zK.rep(h:zK xs us):∀k,zK (List.replicate k xs).flatten (List.replicate k us).flatten
 |0=>.nil
 |k+1=>by
  rw[List.replicate_succ,List.replicate_succ,List.flatten_cons,List.flatten_cons];exact zK.append h<|zK.rep h k
theorem foldl_rep(zM):∀k (acc:List Value),
 List.foldl (λx1 x2=>x1++x2) acc.toArray (List.replicate k zM.toArray)=(acc++(List.replicate k zM).flatten).toArray
 |0,acc=>by simp
 |k+1,acc=>by
  have e:acc.toArray++zM.toArray=(acc++zM).toArray:=by simp
  have e2:(acc++zM)++(List.replicate k zM).flatten=acc++(List.replicate (k+1) zM).flatten:=by
   rw[List.replicate_succ,List.flatten_cons,zxA]
  rw[<-e2,<-foldl_rep zM k _,<-e,List.replicate_succ,List.foldl_cons]
def Inv.lset{zM its':List Value}{n:Nat}{f}{t':Nat}(I:Inv X Z' σ H s)(hH:H l=some (.lst xs))
 (e:s.heap.get? l=some {cls:=.type "list",data:=.seq zM.toArray n}) (hf:f zM.toArray=its'.toArray) (hv:zK ys its') (hz:ys.length<=sizeLine):
 Inv X Z' σ (upd H l<|.lst ys) {s with heap:=s.heap.update l<|Obj.mapSeq f,toks:=t'}:=by
 have q:=PySem.IsL.update e f;rw[hf]at q;refine I.write (by rw[hH];exact trivial) (.inl rfl) (λb' u hb hu=>(zxL s.heap _<|Ne.symm hb).trans hu) ⟨_,q⟩ ?_;exact⟨hz,its',_,hv,q⟩
def Inv.lnew(I:Inv X Z' σ H s)(hv:zK ys zM)(hz:ys.length<=sizeLine):
 Inv X Z' σ (upd H s.heap.objs.size<|.lst ys) {s with heap:=s.heap.push {cls:=.type "list",data:=.seq zM.toArray},toks:=t'}:=
 I.laid (λ_ _ q=>zxF _ q) (zzN _) ⟨hz,zM,0,hv,zxH _ rfl⟩
theorem Inv.fresh(I:Inv X Z' σ H s):H s.heap.objs.size=none:=I.hok.fresh<|zzN _
def Inv.lstM(I:Inv X Z' σ H s)(hH:H l=some (.lst xs)):xs.length<=sizeLine/\∃(zM:List Value) (n:Nat),zK xs zM/\xs.length=zM.length/\s.heap.get? l=some {cls:=.type "list",data:=.seq zM.toArray n}:=by
 obtain⟨z,zM,n,r,e⟩:=I.hok l _ hH;exact⟨z,zM,n,r,r.length,e⟩
def O2(h:n<=sizeLine):Builtin.List.listTooLong n=false:=by
 unfold Builtin.List.listTooLong;exact zyF (by omega)
def Gq:V->List V->Hp->VK->Prop:=λx vs H Q=>∃l xs y,x = .ref l/\vs=[y]/\H l=some (.lst xs)/\xs.length<sizeLine/\Q .non (upd H l<|.lst<|xs++[y])
def XD:j8 X "list.append" Gq:=by
 intro Z' s σ H x vs v us Q I rx rv h;obtain⟨l,xs,y,rfl,rfl,hH,hz,q⟩:=h;cases rx;obtain⟨u,rfl,ru⟩:=rv.one;obtain⟨z,zM,n,r,hl,e⟩:=I.lstM hH;refine call_meets F.slot_list_append ⟨_,e,rfl⟩ F.entry_list_append (F.args_list_append_2 _ _) (PySem.list_append l zM.toArray n u<|by rw[zzH];omega) ⟨e, ?_⟩;refine⟨.non,_,I.lset (its':=zM++[u]) hH e (by simp) (r.append<|.cons ru .nil) ?_,rfl,q⟩;rw[zzJ,List.length_singleton];omega
def len_rep(xs:List α)(k:Nat):(List.replicate k xs).flatten.length=k*xs.length:=by
 induction k with
 |zero=>simp
 |succ k ih=>rw[List.replicate_succ,List.flatten_cons,zzJ,ih,Nat.succ_mul,Nat.add_comm]
end L2
namespace Att
open PySem PySem.W PySem.Calls PyProof.Rows
def QY:∀ns vs,WellAll P h vs (ns.map WData.int)->IntsAre vs ns:=by
 intro ns
 induction ns with
 |nil=>
  intro vs w;rw[List.map_nil]at w;cases w;exact .nil
 |cons n ns ih=>
  intro vs w;rw[zyR]at w;cases w with
  |cons a b=>
   cases a;exact .cons _ _<|ih _ b
def BW{l:OpenLaw}{n:Nat}(hn:l.most=some n){P h args vals}
 (hpre:l.row.toRowW.claim.pre args=true) (hwl:WellAll P h vals args):
 ∃a vs ns,vals=[Value.ref a]/\args=[WData.list<|ns.map WData.int]/\h.get? a=some {cls:=.type "list",data:=.seq vs.toArray}/\IntsAre vs ns/\ns.length<=n:=by
 have m5:=(pre_splitW hpre).1;have hc:l.pre.holds [] {args:=args}=true:=(pre_splitW hpre).2;obtain⟨d,r,rfl,h1,h2⟩:=hasAllW_cons m5;obtain rfl:=hasAllW_nil h2;obtain⟨xs,rfl,h3⟩:=hasW_list h1;obtain⟨ns,rfl⟩:=items_int h3;have hlen:ns.length<=n:=by
  unfold OpenLaw.pre at hc;have h4:(WTm.not<|.lt (.lit<|.int (n:Int))<|.len<|.arg 0).holds [] {args:=[.list<|ns.map .int]}=true:=by
   have h4:=(holds_andW hc).1;rw[hn]at h4;exact h4
  have h5:=condW_of h4<|w_not<|w_lt w_lit<|w_len_list<|w_arg rfl;rw[zzB]at h5;refine Nat.le_of_not_lt λq=>?_;have q':n<(ns.length:Int):=by omega
  first
   |(rw[zyN q']at h5;exact absurd h5 (by decide))
   |(simp at h5;omega)
 cases hwl with
 |cons w1 w2=>
  cases w2;cases w1 with
  |list ho hall=>exact⟨_,_,ns,rfl,rfl,ho,QY ns _ hall,hlen⟩
def BC(l:OpenLaw)(args):l.row.toRowW.claim.post args (.bool true) args=true:=
 postW_of
  (show WShape.has [] _ .bool=true by first|rfl|decide|simp[WShape.has,WShape.arms,WShape.armsAll])
  (w_eq_bool (w_res rfl) w_lit) rfl
def Nv{l:OpenLaw}{n:Nat}{q loose XP YP d}
 (hn:l.most=some n) (hdf:d.params.defaults=[])
 (call:∀w s₀ M' mg mb fa o pm cd doc a vs ns,
  Ground q loose [] XP w s₀ mg mb M'.heap->YP w M'.heap->
  M'.heap.get? fa=some o->o.data = .func (docDef d.name d.params d.body d.scope pm cd doc)->M'.heap.CodeRec cd d.name->mg d.name=some (.ref fa)->
  M'.heap.get? a=some {cls:=.type "list",data:=.seq vs.toArray}->IntsAre vs ns->ns.length<=n->M'.gens = #[]->
  codeAny (model l.prog w) callerA (.call (.ref fa) ⟨[.ref a],[]⟩) (λr s'=>r = .ok (.ret<|.bool true)/\OldK M'.heap s'.heap/\s'.os=M'.os/\AllBare s'.gens) M'):
 WalkO q loose XP YP l.row.toRowW d [] (λf vs=>PySem.call f vs):=by
 intro w s₀ M' mg mb G Y fa o pm cd doc dV kV ho hd hcd hD hmg hg args vals as hpre hlay hrd hwl hlo;obtain rfl:dV = .none:=Dflts.none hD hdf;obtain rfl:kV = .none:=Dflts.noKw hD;obtain⟨a,vs,ns,rfl,rfl,hobj,hints,hlen⟩:=BW hn hpre hwl;refine enter_call<|codeAny_mono (call w s₀ M' mg mb fa o pm cd doc a vs ns G Y ho (fd_plain hd) hcd hmg hobj hints hlen hg) λr s' hq=>?_;obtain⟨rfl,h2,h3,h4⟩:=hq;exact⟨.inl ⟨.bool true,.bool true,[],rfl,λ_=>rfl,.bool true,BC l _,λ_=>⟨List.Pairwise.nil,λ_ hm=>(nomatch hm)⟩⟩,h2,h3,h4⟩
end Att
namespace L2
open PySem PySem.Spec PyProof.Rows
theorem Yp:∀{vs:List Value}{ns:List Int},IntsAre vs ns->zK (ns.map V.int) vs
 |_,_,.nil=>.nil
 |_,_,.cons n t h=>.cons ⟨t,rfl⟩<|Yp h
def uP(H:Hp):Prop:=∀b,H b=none\/∃o xs,H b=some (.frz o<|.lst xs)
def HD{P w K mg mb CX}{k:Nat}{fa a fd x sp M' vs ns}
 (KX:K.In M'.heap) (hns:M'.heap.Ns mainGlobals mg) (hb:M'.heap.Ns builtinsNs mb) (hbb:∀x:Str,x≠"__name__"->mb x=bootBuiltins x) (hlim:M'.heap.NoLimit) (hg:M'.gens = #[])
 (ha:M'.heap.get? a=some {cls:=.type "list",data:=.seq vs.toArray}) (hi:IntsAre vs ns) (hl:ns.length<=sizeLine) (hr:Room k callerA)
 (F:∀base,K.In base->base.Ns mainGlobals mg->FnOk P w K mg base CX k fa fd [x] sp) (hbind:∀s u,BindsTo s fd ⟨[u],[]⟩ [(x,u)])
 (so:∀H,uP H->SH K H a (ns.map V.int)->sp [.ref a] H (λv _=>v = .bl true) λ_ _ _=>False)
 (hCX:∀H e s',CX [] H M' (λ_ _ _=>False) e s'->False):
 codeAny (model P w) callerA (.call (.ref fa) ⟨[.ref a],[]⟩) (λr s'=>r = .ok (.ret<|.bool true)/\OldK M'.heap s'.heap/\s'.os=M'.os/\AllBare s'.gens) M':=by
 have rv:=Yp hi;have lenV:=hi.length;have core:∀H,uP H->SH K H a (ns.map V.int)->Vg P w H M'.heap->(∀b,H b≠none->b=a)->(H a≠none->K.lookup a=none)->
  codeAny (model P w) callerA (.call (.ref fa) ⟨[.ref a],[]⟩) (λr s'=>r = .ok (.ret<|.bool true)/\OldK M'.heap s'.heap/\s'.os=M'.os/\AllBare s'.gens) M':=by
  intro H hO hS hok hA hK;have base_of:∀{b:Addr}{o:Obj},M'.heap.get? b=some o->H b=none->(F9 M'.heap H).get? b=some o:=λe n=>Sf e n;have noA:∀{b:Addr}{o:Obj}{es:Array DictEntry}{ep:Nat},M'.heap.get? b=some o->o.data = .dict es ep->H b=none:=λ{b o es ep} e d=>by
   cases q:H b with
   |none=>rfl
   |some u=>
    have e':b=a:=hA b (by rw[q];simp);subst e';rw[ha]at e;cases e;have d':Data.seq vs.toArray _=Data.dict es ep:=d;cases d'
  have nsK:∀{b:Addr}{m:Str->Option Value},M'.heap.Ns b m->(F9 M'.heap H).Ns b m:=λ{b m} ⟨o,es,ep,e,d,r⟩=>⟨o,es,ep,base_of e<|noA e d,d,r⟩;have hKb:=λb o e=>base_of (KX b o e) (by
   cases q:H b with
   |none=>rfl
   |some u=>
    have e':b=a:=hA b (by rw[q];simp);subst e';rw[hK<|by rw[q];simp]at e;cases e)
  have hM:Mod K mg _:=⟨hKb,nsK hns,⟨mb,nsK hb,hbb⟩,let⟨mc,h1,h2⟩:=hlim;⟨mc,nsK h1,h2⟩⟩;have e0:Env0 P w K mg _ callerA [] M' H:=⟨rfl,hM,λb o e=>IR e,Nat.le_of_eq<|Bx _ _,trivial,λb hb=>absurd (show b ∈ ([]:List Addr)from hb) (by simp),hok,.of_eq hg⟩;refine codeAny_mono ((F _ hKb<|nsK hns).run callerA [] M' H ⟨_,[]⟩ [.ref a] [.ref a] _ _ hr e0 (hbind M'<|.ref a) (.cons rfl .nil)<|so H hO hS) λr s' h=>?_;cases r with
  |error e=>exact(hCX H e s' h).elim
  |ok fl=>
   cases fl with
   |next=>exact False.elim h
   |brk=>exact False.elim h
   |cont=>exact False.elim h
   |ret u=>
    obtain⟨v,H',os,bare,un,hok',r',q⟩:=h;have q':v = .bl true:=q;subst q';obtain rfl:u=Value.bool true:=r';refine⟨rfl,OldK.of_keep λb o e=>?_,os,bare⟩;cases q:H b with
    |none=>exact un.keep b o e q (by intro z;exact absurd (show b ∈ ([]:List Addr)from z)<|by simp) (by simp)
    |some u=>
     rcases hO b with z|⟨ob,xs,z⟩
     . rw[q]at z;cases z
     . have z2:=un.frzs b ob _ z;obtain⟨e1,_⟩:=hok b _ z;obtain⟨e2,_⟩:=hok' b _ z2;rw[e]at e1;cases e1;exact e2
 cases hk:K.lookup a with
 |some o=>
  have e:=KX a o hk;rw[ha]at e;cases e;refine core (λ_=>none) (λ_=>.inl rfl) (.inr ⟨vs.toArray,_,hk,by rw[zzH,lenV];exact hl,by simpa using rv⟩) (λb u z=>by have z':none=some u:=z;cases z') (λb z=>absurd rfl z) λz=>absurd rfl z
 |none=>
  refine core (λb=>if b=a then some _ else none) (λb=>?_) (.inl<|.inr ⟨{cls:=.type "list",data:=.seq vs.toArray},if_pos rfl⟩) (λb u z=>?_) (λb z=>?_) λ_=>hk
  . by_cases hb:b=a
    . exact .inr ⟨_,_,if_pos hb⟩
    . exact .inl<|if_neg hb
  . by_cases hb:b=a
    . have z':=(if_pos hb).symm.trans z;cases z';subst hb;exact⟨ha,by rw[zzB];exact hl,vs,_,rv,ha⟩
    . have z':=(if_neg hb).symm.trans z;cases z'
  . by_cases hb:b=a
    . exact hb
    . exact absurd (if_neg hb) z
def walk_of{l:PySem.W.OpenLaw}{n k:Nat}{q loose XP YP d}{K:Params->zzA}{CX:World->Jl}{sp:World->Sp}{x}
 (hn:l.most=some n) (K':n<=sizeLine) (hdf:d.params.defaults=[]) (hr:Room k callerA)
 (hY:∀w h,YP w h->(K w.params).In h)
 (F:∀w mg fa h,(K w.params).In h->h.Ns mainGlobals mg->mg d.name=some (.ref fa)->
  ∃fd,(∀s u,BindsTo s fd ⟨[u],[]⟩ [(x,u)])/\
   ∀base:Heap,(K w.params).In base->base.Ns mainGlobals mg->FnOk l.prog w (K w.params) mg base (CX w) k fa fd [x] (sp w))
 (so:∀(w:World) (H:Hp) (a:Addr) (ns:List Int),ns.length<=n->uP H->SH (K w.params) H a (ns.map V.int)->sp w [.ref a] H (λv _=>v = .bl true) λ_ _ _=>False)
 (hCX:∀(w:World) (H:Hp) (s:Shared) (e:Value) (s':Shared),CX w [] H s (λ_ _ _=>False) e s'->False):
 PySem.W.WalkO q loose XP YP l.row.toRowW d [] (λf vs=>PySem.call f vs):=by
 refine Att.Nv hn hdf λw s₀ M' mg mb fa o pm cd doc a vs ns G Y ho hd hcd hmg hobj hints hlen hg=>?_;have KX:=hY w _ Y;obtain⟨fd,hb,hF⟩:=F w mg fa _ KX G.T.g hmg;exact HD KX G.T.g G.T.b G.T.builtins G.T.nolimit hg hobj hints (zzO hlen K') hr hF hb (λH hO hS=>so w H a ns hlen hO hS) λH e s'=>hCX w H M' e s'
noncomputable def inClass(s:Stmt)(j:Nat):Stmt:=match s with
 | .ClassDef _ _ _ body _ _ _ _ _ _ _=>body.getD j (.Pass ⟨0,0,0,0⟩)
 |_=>.Pass ⟨0,0,0,0⟩
noncomputable def XW(s:Stmt):Arguments:=match s with
 | .FunctionDef _ a _ _ _ _ _ _ _ _=>a
 |_=>{posonlyargs:=[],args:=[],vararg:=none,kwonlyargs:=[],kw_defaults:=[],kwarg:=none,defaults:=[]}
noncomputable def xx(s:Stmt):List Stmt:=match s with
 | .FunctionDef _ _ b _ _ _ _ _ _ _=>b
 |_=>[]
def zp(s:Stmt):Scope:=match s with
 | .FunctionDef _ _ _ _ _ _ sc _ _ _=>sc
 |_=>{kind:=.function,names:=[],isGenerator:=false,isCoroutine:=false}
abbrev VM:Jl:=λ_ _ _ _ _ _=>False
abbrev E0:XK:=λ_ _ _=>False
def mY:Kf VM X E0:=λ_ _ _ _ _ _ _ h=>h.elim
structure Fun(K:zzA)(x qual:Str)(st:Stmt)(f:Addr)(fd:FuncData):Prop where
 ex:∃(oc:Value) (od:Option Addr) (kV doc pm:Value) (an:Option Addr) (Mk ct:Value) (osl:Array (Option Value)),
  fd=W.fnOf x qual (XW st) (xx st) (zp st) .none kV doc pm an Mk ct/\K.lookup f=some ⟨oc,od,.func fd,osl⟩/\W.codeIn K Mk qual=true
 kp:W.keepIn K (.ref f)=true
section
variable{P:Program}{w:World}{K:zzA}{mg:Str->Option Value}{base:Heap}
def Fun.ok{x qual st f fd N ps}{k:Nat}{sp}(F:Fun K x qual st f fd)(S:FnScope N ps (zp st))(len:∀vs H Q E,sp vs H Q E->vs.length=ps.length)
 (hbody:∀Mk A outer s H vs Q E,Room k (A.deeper<|envOfC qual (zp st) s.heap.objs.size f Mk)->sp vs H Q E->
  ∃t,Pw (v9 VM P w K mg base N qual (zp st) f Mk A outer s H E).nox (xx st) t/\t {nx:=λ_ H'=>Q .non H',rt:=Q} (start N vs) H):FnOk P w K mg base VM (k+1) f fd ps sp:=by
 obtain⟨oc,od,kV,doc,pm,an,Mk,ct,osl,rfl,lk,hcd⟩:=F.ex;refine MY lk hcd S len λA outer s H vs Q E hr so=>?_;obtain⟨t,h,q⟩:=hbody Mk A outer s H vs Q E hr so;exact⟨t,h.nox,q⟩
def Fun.binds{x qual st f fd ps}(F:Fun K x qual st f fd)
 (h:∀kV doc pm an Mk ct us,us.length=ps.length->bindArgs (W.fnOf x qual (XW st) (xx st) (zp st) .none kV doc pm an Mk ct) ⟨us,[]⟩=pure (ps.zip us)):Binds K fd ps []:=by
 obtain⟨oc,od,kV,doc,pm,an,Mk,ct,osl,rfl,lk,hcd⟩:=F.ex;exact .all<|h kV doc pm an Mk ct
end
def yI(h:n<=1000):n<sizeLine:=Nat.lt_of_le_of_lt h (by decide)
def pv(i:Nat)(hN:X.N[i]? = some x:=by rfl)(hv:lG X.env.scope x:=by first|exact Or.inl rfl|exact Or.inr (Or.inl rfl)|exact Or.inr (Or.inr rfl))(hd:(x==("__debug__":Str))=false:=by decide)
 (hcd:(x==("__classdict__":Str))=false:=by decide):PE X (.Name x pos) (Vz i):=HH hN hv hd hcd
section
variable{κ:Type}[DecidableEq κ]
def IM{kvs}{k:κ}{v}(h:YR kvs k=some v):k ∈ kvs.map (·.1):=by
 have q:(kvs.any λkv=>decide (kv.1=k))=true:=by
  rw[U8,h]
  all_goals rfl
 obtain⟨p,hp,e⟩:=List.any_eq_true.mp q;exact zxB.mpr ⟨p,hp,of_decide_eq_true e⟩
end
end L2
namespace G17
open PySem PySem.W PyProof.Rows L2
noncomputable def top(i:Nat):Stmt:=PySem.Challenge.pw_stretchdeeds_k17_no_algebras.main.body.getD i<|.Pass ⟨0,0,0,0⟩
abbrev Kt:Stmt:=top 16
abbrev We:Stmt:=top 17
abbrev LG:Stmt:=top 18
abbrev EH:Stmt:=top 19
abbrev P6:Stmt:=top 27
abbrev QP:Stmt:=top 28
abbrev Pu:Stmt:=top 29
abbrev Pn:Stmt:=top 30
abbrev WQ:Stmt:=top 34
abbrev Cy:Stmt:=top 35
abbrev X_:Stmt:=top 36
abbrev PH:Stmt:=top 37
abbrev Pt:Stmt:=top 38
abbrev ZJ:Stmt:=inClass (top 2) 0
abbrev wt:Stmt:=top 39
abbrev Wi:Stmt:=top 41
abbrev UE:Stmt:=top 42
abbrev QR:Stmt:=top 43
abbrev Yg:Stmt:=top 44
abbrev ZS:Stmt:=top 45
abbrev ZH:Stmt:=top 46
abbrev Vi:Stmt:=top 47
abbrev QL:Stmt:=top 48
abbrev Xi:Stmt:=top 49
abbrev K0:Stmt:=top 50
abbrev Qv:Stmt:=top 51
abbrev Qu:Stmt:=top 52
abbrev Zi:Stmt:=top 53
abbrev Zl:Stmt:=top 54
abbrev WW:Stmt:=top 55
abbrev Vx:Stmt:=top 56
abbrev Xv:Stmt:=top 57
abbrev Wc:Stmt:=top 59
abbrev ZL:Stmt:=top 60
abbrev W8:Stmt:=top 61
abbrev QQ:Stmt:=top 62
abbrev Pj:Stmt:=top 63
abbrev Yl:Stmt:=top 64
abbrev Qz:Stmt:=top 65
abbrev Vh:Stmt:=top 66
abbrev Qy:Stmt:=top 67
abbrev U5:Stmt:=top 68
abbrev Wh:Stmt:=top 69
abbrev Wd:Stmt:=top 70
abbrev Qr:Stmt:=top 71
abbrev Uj:Stmt:=top 72
abbrev U7:Stmt:=top 73
abbrev ZU:Stmt:=top 74
abbrev Wa:Stmt:=top 75
abbrev X6:Stmt:=top 76
abbrev QB:Stmt:=top 77
noncomputable abbrev hpg:=PySem.Challenge.pw_stretchdeeds_k17_no_algebras
noncomputable abbrev hva:Value:=.str "stretchdeeds.errors" 187
noncomputable abbrev hvb:Value:=.str "stretchdeeds.terms" 369
noncomputable abbrev hvc:Value:=.str "stretchdeeds.algebras" 435
noncomputable abbrev hvd:Value:=.str "stretchdeeds.termtexts" 473
noncomputable abbrev hve:Value:=.str "stretchdeeds.algtexts" 533
noncomputable abbrev hvf:Value:=.str "law_stretchdeeds_k17_no_algebras" 696
noncomputable abbrev hem:List Value:=[(.type "ValueError"), (.type "Exception"), (.type "BaseException"), (.type "object")]
abbrev kF(n q:Str)(s:Stmt)(pm hcd:Value):Obj:=⟨.type "function",none,.func<|fnOf n q (XW s) (xx s) (zp s) .none .none .none pm none hcd .none,#[]⟩
noncomputable abbrev kD(es:List DictEntry)(n:Nat):Obj:=⟨.type "dict",none,.dict es.toArray n,#[]⟩
noncomputable abbrev kE(P:Params)(x:Str)(t:Nat)(v:Value):DictEntry:=⟨PyData.keyHash P x,.str x t,v⟩
abbrev kR(P:Params)(x:Str)(t:Nat)(a:Addr):DictEntry:=kE P x t<|.ref a
noncomputable abbrev hfl(c:Value)(l:List Value):Obj:=⟨c,none,.fields l.toArray,#[]⟩
abbrev hco(n q:Str)(t u:Nat)(l k g:Int)(b:Bool)(a:Nat)(r s v:Value):Obj:=hfl (.type "code") [.str n t,.str q<|t+1,.str "/claim/cut.py" (t+2),.int l 0,.int k 0,.int 0 0,.int 0 0,.int g 0,.ref a,.bool b,.int 181 0,.ref<|a+1,.none,r,s,v,.int u 0,.int l 0,.str "/claim/cut.py" (u+1)]
abbrev hc7(n q:Str)(t u:Nat)(l k:Int)(a:Nat):=hco n q t u l k 3 true a (.ref<|a+2) (.ref<|a+3)<|.ref<|a+4
abbrev hc5(n q:Str)(t:Nat)(l k:Int)(a:Nat):=hco n q t (t+3) l k 3 true a .none .none<|.ref<|a+2
noncomputable abbrev hen(P:Params):List DictEntry:=[kE P "__doc__" 166 .none,kE P "__package__" 167 .none,kE P "__loader__" 168<|.builtin "__main__.__loader__#opaque",kE P "__spec__" 169 .none,kR P "__annotations__" 170 6,kR P "__builtins__" 171 4,kE P "__file__" 173<|.str "/claim/cut.py" 172,kE P "__cached__" 174 .none,kR P "StretchError" 206 24,kR P "NoText" 231 44,kR P "NotLetBy" 256 63,kR P "NoMake" 272 75,kR P "NoStretch" 288 87,kR P "NoValue" 304 99,kR P "NoDeed" 320 111,kR P "NoSign" 336 123,kR P "TooGreat" 352 135,kR P "NoRow" 368 147,kE P "MOST_TERMS" 372<|.int (40) 371,kE P "MOST_WITHIN" 374<|.int (12) 373,kR P "LETTERS" 378 150,kR P "PARTS" 397 151,kR P "is_let" 405 158,kR P "parts_after" 412 165,kR P "of_two" 421 172,kR P "worth" 434 179,kE P "MOST_VALUES" 438<|.int (8) 437,kE P "MOST_AROUND" 440<|.int (6) 439,kE P "MOST_DEEDS" 442<|.int (6) 441,kE P "MOST_SIGNS" 444<|.int (4) 443,kE P "MOST_LETTERS" 446<|.int (8) 445,kE P "SMALL_LETTERS" 448<|.str "abcdefghijklmnopqrstuvwxyz" 447,kR P "is_name" 454 184,kR P "is_rising" 460 189,kR P "join_by" 466 194,kR P "rows_by" 472 199,kE P "FIGURES" 476<|.str "0123456789" 475,kE P "MOST_FIGURES" 478<|.int (60) 477,kR P "is_figures" 484 204,kR P "fits" 493 211,kR P "first_fault" 504 218,kR P "leaf_of" 511 225,kR P "term_of" 522 232,kR P "read_term" 532 239,kR P "read_number" 544 246,kR P "read_row" 550 251,kR P "read_rows" 556 256,kR P "read_some_term" 564 263,kR P "read_join_table" 574 270,kR P "read_deed_table" 585 277,kR P "read_sizes" 595 284,kR P "read_join" 604 291,kR P "read_nothing" 613 298,kR P "is_new" 619 303,kR P "read_deed" 631 310,kR P "read_sign" 642 317,kR P "line_at" 650 324,kR P "as_told" 658 331,kR P "read_deeds" 669 338,kR P "read_signs" 680 345,kR P "read_algebra" 695 352,kR P "_law_cell_at" 705 359,kR P "_law_whole" 712 366,kR P "_law_stream" 723 373,kR P "_law_names" 729 378,kR P "_law_any" 735 383,kR P "_law_shown_rows" 741 388,kR P "_law_lines" 747 393,kR P "_law_number" 755 400,kR P "_law_taken" 761 405,kR P "_law_pair" 779 412,kR P "_law_entries" 785 417,kR P "_law_is_name" 791 422,kR P "_law_named" 802 429,kR P "_law_head" 813 436,kR P "_law_told" 819 441,kR P "_law_other_lines" 829 448,kR P "_law_changed" 843 455,kR P "_law_refusal" 852 462,kR P "law" 869 469]
noncomputable abbrev kcl(n:Str)(a s r:Addr)(t u:Nat):Obj:=⟨(.type "type"),none,.cls {name:=n,bases:=[(.ref 24)],mro:=[(.ref a),(.ref 24),(.type "ValueError"),(.type "Exception"),(.type "BaseException"),(.type "object")],ns:=s,qualname:=n,hasDict:=true,slotNames:=[],subclasses:=[],abstract:=false,collection:=none,hasDel:=false},#[some<|.ref r,none,some<|.str n t,some<|.str n u,some<|.builtin "ValueError.__new__",some<|.bool true]⟩
abbrev kns(P:Params)(m x:Nat)(l:Int)(y s q d:Nat):Obj:=kD [kE P "__module__" m hva,kE P "__firstlineno__" x<|.int l y,kR P "__static_attributes__" s q,kE P "__doc__" d .none] 2
local macro_rules |`(khc7 $a:num $b:num $q:str $t:num $u:num $l:num $k:num $f:num $s:ident $v:ident $r)=>`((nat_lit $a,hc7 $q $q $t $u $l $k $f)::(nat_lit $b,kF $q $q $s $v<|.ref $a)::$r)
local macro_rules |`(khc5 $a:num $b:num $q:str $t:num $l:num $k:num $f:num $s:ident $v:ident $r)=>`((nat_lit $a,hc5 $q $q $t $l $k $f)::(nat_lit $b,kF $q $q $s $v<|.ref $a)::$r)
def K(P:Params):Frag:=
 (nat_lit 2,⟨.none,none,.dict #[] 0,#[]⟩)::
 (nat_lit 3,kD (kE P "__name__" 165 hvf::hen P) 81)::
 (nat_lit 23,kD [kE P "__module__" 196 hva,kE P "__firstlineno__" 200<|.int (2) 199,kR P "__static_attributes__" 201 22,kR P "__weakref__" 203 25,kE P "__doc__" 204 .none] 3)::
 (nat_lit 24,⟨(.type "type"),none,.cls {name:="StretchError",bases:=[(.type "ValueError")],mro:=[(.ref 24),(.type "ValueError"),(.type "Exception"),(.type "BaseException"),(.type "object")],ns:=23,qualname:="StretchError",hasDict:=true,slotNames:=[],subclasses:=[(.ref 44),(.ref 63),(.ref 75),(.ref 87),(.ref 99),(.ref 111),(.ref 123),(.ref 135),(.ref 147)],abstract:=false,collection:=none,hasDel:=false},#[some<|.ref 15,none,some<|.str "StretchError" 189,some<|.str "StretchError" 197,some<|.builtin "ValueError.__new__",some<|.bool true]⟩)::
 (nat_lit 40,hc7 "__init__" "NoText.__init__" 219 224 6 2 35)::
 (nat_lit 41,kF "__init__" "NoText.__init__" ZJ hva<|.ref 40)::
 (nat_lit 43,kD [kE P "__module__" 214 hva,kE P "__firstlineno__" 218<|.int (4) 217,kR P "__init__" 226 41,kR P "__static_attributes__" 228 42,kE P "__doc__" 229 .none] 2)::
 (nat_lit 44,kcl "NoText" 44 43 28 207 215)::
 (nat_lit 62,kD [kE P "__module__" 239 hva,kE P "__firstlineno__" 243<|.int (9) 242,kR P "__init__" 251 60,kR P "__static_attributes__" 253 61,kE P "__doc__" 254 .none] 2)::
 (nat_lit 63,kcl "NotLetBy" 63 62 47 232 240)::
 (nat_lit 74,kns P 264 268 14 267 269 73 270)::
 (nat_lit 75,kcl "NoMake" 75 74 66 257 265)::
 (nat_lit 86,kns P 280 284 16 283 285 85 286)::
 (nat_lit 87,kcl "NoStretch" 87 86 78 273 281)::
 (nat_lit 98,kns P 296 300 18 299 301 97 302)::
 (nat_lit 99,kcl "NoValue" 99 98 90 289 297)::
 (nat_lit 110,kns P 312 316 20 315 317 109 318)::
 (nat_lit 111,kcl "NoDeed" 111 110 102 305 313)::
 (nat_lit 122,kns P 328 332 22 331 333 121 334)::
 (nat_lit 123,kcl "NoSign" 123 122 114 321 329)::
 (nat_lit 134,kns P 344 348 24 347 349 133 350)::
 (nat_lit 135,kcl "TooGreat" 135 134 126 337 345)::
 (nat_lit 146,kns P 360 364 26 363 365 145 366)::
 (nat_lit 147,kcl "NoRow" 147 146 138 353 361)::
 (nat_lit 150,⟨(.type "tuple"),none,.seq #[(.str "a" 375),(.str "b" 376),(.str "c" 377)] 0,#[]⟩)::
 (nat_lit 151,kD [kE P "add" 379<|.int (2) 380,kE P "take" 381<|.int (2) 382,kE P "times" 383<|.int (2) 384,kE P "most" 385<|.int (2) 386,kE P "least" 387<|.int (2) 388,kE P "same" 389<|.int (4) 390] 6)::
 (khc7 157 158 "is_let" 398 403 33 2 152 Kt hvb (khc7 164 165 "parts_after" 406 410 35 1 159 We hvb (khc7 171 172 "of_two" 413 419 37 3 166 LG hvb (khc7 178 179 "worth" 422 432 47 3 173 EH hvb (khc5 183 184 "is_name" 449 66 1 180 P6 hvc (khc5 188 189 "is_rising" 455 70 1 185 QP hvc (khc5 193 194 "join_by" 461 72 2 190 Pu hvc (khc5 198 199 "rows_by" 467 74 3 195 Pn hvc (khc5 203 204 "is_figures" 479 79 2 200 WQ hvd (khc7 210 211 "fits" 485 491 85 3 205 Cy hvd (khc7 217 218 "first_fault" 494 502 89 2 212 X_ hvd (khc7 224 225 "leaf_of" 505 509 98 1 219 PH hvd (khc7 231 232 "term_of" 512 520 102 1 226 Pt hvd (khc7 238 239 "read_term" 523 530 109 2 233 wt hvd (khc7 245 246 "read_number" 535 542 116 3 240 Wi hve (khc5 250 251 "read_row" 545 121 2 247 UE hve (khc5 255 256 "read_rows" 551 124 3 252 QR hve (khc7 262 263 "read_some_term" 557 562 129 2 257 Yg hve (khc7 269 270 "read_join_table" 565 572 134 2 264 ZS hve (khc7 276 277 "read_deed_table" 575 583 140 3 271 ZH hve (khc7 283 284 "read_sizes" 586 593 146 1 278 Vi hve (khc7 290 291 "read_join" 596 602 153 2 285 QL hve (khc7 297 298 "read_nothing" 605 611 156 2 292 Xi hve (khc5 302 303 "is_new" 614 161 2 299 K0 hve (khc7 309 310 "read_deed" 620 629 163 4 304 Qv hve (khc7 316 317 "read_sign" 632 640 169 3 311 Qu hve (khc7 323 324 "line_at" 643 648 175 2 318 Zi hve (khc7 330 331 "as_told" 651 656 179 2 325 Zl hve (khc7 337 338 "read_deeds" 659 667 183 3 332 WW hve (khc7 344 345 "read_signs" 670 678 190 3 339 Vx hve (khc7 351 352 "read_algebra" 681 693 195 1 346 Xv hve (khc7 358 359 "_law_cell_at" 698 703 206 2 353 Wc hvf (khc7 365 366 "_law_whole" 706 710 210 1 360 ZL hvf (khc7 372 373 "_law_stream" 713 721 212 2 367 W8 hvf (khc5 377 378 "_law_names" 724 225 2 374 QQ hvf (khc5 382 383 "_law_any" 730 234 1 379 Pj hvf (khc5 387 388 "_law_shown_rows" 736 250 1 384 Yl hvf (khc5 392 393 "_law_lines" 742 252 1 389 Qz hvf (khc7 399 400 "_law_number" 748 753 260 2 394 Vh hvf (khc5 404 405 "_law_taken" 756 264 3 401 Qy hvf (khc7 411 412 "_law_pair" 762 777 285 3 406 U5 hvf (khc5 416 417 "_law_entries" 780 303 4 413 Wh hvf (khc5 421 422 "_law_is_name" 786 316 1 418 Wd hvf (khc7 428 429 "_law_named" 792 800 318 4 423 Qr hvf (khc7 435 436 "_law_head" 803 811 323 1 430 Uj hvf (khc5 440 441 "_law_told" 814 339 1 437 U7 hvf (khc7 447 448 "_law_other_lines" 820 827 364 2 442 ZU hvf (khc7 454 455 "_law_changed" 830 841 379 2 449 Wa hvf (khc7 461 462 "_law_refusal" 844 850 399 1 456 X6 hvf (khc7 468 469 "law" 853 867 409 1 463 QB hvf []))))))))))))))))))))))))))))))))))))))))))))))))))
noncomputable def kA:List Addr:=[2,3,23,24,40,41,43,44,62,63,74,75,86,87,98,99,110,111,122,123,134,135,146,147,150,151,157,158,164,165,171,172,178,179,183,184,188,189,193,194,198,199,203,204,210,211,217,218,224,225,231,232,238,239,245,246,250,251,255,256,262,263,269,270,276,277,283,284,290,291,297,298,302,303,309,310,316,317,323,324,330,331,337,338,344,345,351,352,358,359,365,366,372,373,377,378,382,383,387,388,392,393,399,400,404,405,411,412,416,417,421,422,428,429,435,436,440,441,447,448,454,455,461,462,468,469]
def qv:Program:={hpg with main:={hpg.main with body:=[1,2,3,4,5,6,7,8,9,10,12,13,14,15,16,17,18,19,21,22,23,24,25,26,27,28,29,30,32,33,34,35,36,37,38,39,41,42,43,44,45,46,47,48,49,50,51,52,53,54,55,56,57,59,60,61,62,63,64,65,66,67,68,69,70,71,72,73,74,75,76,77].map top}}
theorem kAe(P:Params):kA=(K P).map (·.1):=by kernel_rfl
set_option maxRecDepth 100000
theorem wsS:PySem.Challenge.rw_stretchdeeds_k17_no_algebras.wellSaid=true:=by kernel_rfl
abbrev Xt(s:Shared):Bool:=xlAt qv [] s&&recOk (RowW.records<|OpenRow.toRowW PySem.Challenge.rw_stretchdeeds_k17_no_algebras.row) s
abbrev hk:Hook:=kHook K kA kAe
def D0{α β γ:Type}{f:α->β}{g:α->γ}{x:Option α}{a:β}{b:γ}(h:x.map f=some a)(k:x.map g=some b):x.map (λs=>(f s,g s))=some (a,b):=by
 cases x with
 |none=>cases h
 |some y=>cases h;cases k;rfl
noncomputable def htp(l:List Value):Obj:=⟨.type "tuple",none,.seq l.toArray 0,#[]⟩
noncomputable def htx:Nat->List Str->List Value
 |_,[]=>[]
 |t,x::l=>.str x t::htx (t+1) l
noncomputable def hfO(a t:Nat)(r:Str)(v:Value)(s:Stmt):List Obj:=match s with
 | .FunctionDef n p b _ _ _ c _ _ o=>
  let q:=r++n;let S:Obj:=⟨.none,none,.func {name:=n,qualname:=q,params:=p,body:=.stmts b,scope:=c,globals:=0,closure:=[],defaults:=.none,kwdefaults:=.none},#[]⟩
  match localNames p c (.stmts b) with
  |some (x,_)=>[htp [],hfl .none [],htp<|htx (t+3) x,htp [],S,hc7 n q t (t+3+x.length) o.line p.args.length a,kF n q s v<|.ref<|a+5]
  |none=>[htp [],hfl .none [],S,hc5 n q t o.line p.args.length a,kF n q s v<|.ref<|a+3]
 |_=>[]
noncomputable def htk(s:Stmt):Nat:=match s with
 | .FunctionDef _ p b _ _ _ c _ _ _=>match localNames p c (.stmts b) with
  |some (x,_)=>6+x.length
  |none=>6
 |_=>0
noncomputable def hms(P:Params)(c:Str)(v:Value):Nat->Nat->List Stmt->List Obj×List DictEntry×List Value×Nat
 |_,t,[]=>([],[],[],t)
 |a,t,s::r=>match s with
  | .FunctionDef n _ _ _ _ _ _ _ _ o=>let f:=hfO a t (c++".") v s;let l:=a+f.length;let u:=t+htk s;let z:=hms P c v l u r;(f++z.1,kR P n (u-1) (l-1)::z.2.1,.int o.line 0:: .int 4 0:: .ref (l-2)::z.2.2.1,z.2.2.2)
  |_=>hms P c v a t r
noncomputable def hfm(a b:Addr)(v:Value):Obj:=⟨.type "frame",none,.plain,#[some<|.ref a,some<|.ref 3,some<|.ref b,none,some v,none,some<|.ref 0]⟩
def hbf(x:String)(v:Value):Obj:=hfl (.type "builtin_function_or_method") [.builtin x,v]
def hgd(x:Str)(t:Nat)(c:Addr)(g s:Value):Obj:=hfl (.type "getset_descriptor") [.str x t,.ref c,g,s]
noncomputable def hcO(P:Params)(a t:Nat)(v:Value)(bv mr sb:List Value)(nw:String)(d:Nat)(s:Stmt):List Obj:=match s with
 | .ClassDef n _ _ b _ _ _ _ _ sa o=>
  let m:=hms P n v (a+7) (t+12) b;let e:=a+7+m.1.length;let k:=m.2.2.2+sa.length;let z:=k+1;let C:=e+2
  let x:=kE P "__module__" (t+7) v;let f:=kE P "__firstlineno__" (t+11)<|.int o.line<|t+10;let y:=kR P "__static_attributes__" k e
  let W:=λt:Nat=>hgd "__weakref__" t C (.builtin "ExceptionGroup.__weakref__") .none
  let D:List DictEntry×List Obj:=match d with
   |0=>([],[])
   |1=>([kR P "__weakref__" (z+1)<|C+1],[W z])
   |_=>([kR P "__dict__" (z+1)<|C+1,kR P "__weakref__" (z+3)<|C+2],[hgd "__dict__" z C (.builtin "function.__dict__")<|.builtin "function.__dict__#set",W<|z+2])
  [htp bv,hbf "type.__prepare__" (.type "type"),kD (x::kE P "__qualname__" (t+9) (.str n<|t+8)::f::m.2.1++[y])<|4+m.2.1.length,htp [],hfl .none m.2.2.1,hco n n (t+2) (t+5) o.line 0 0 false (a+3) .none .none .none,hfm (a+5) (a+2) v]++m.1++[htp<|htx m.2.2.2 sa,kD (x::f::m.2.1++y::D.1++[kE P "__doc__" (z+2*d) .none])<|2+d,⟨.type "type",none,.cls {name:=n,bases:=if bv.isEmpty then [.type "object"] else bv,mro:=.ref C::mr,ns:=e+1,qualname:=n,hasDict:=true,slotNames:=[],subclasses:=sb},#[if bv.isEmpty then none else some<|.ref a,none,some<|.str n t,some<|.str n<|t+8,some<|.builtin nw,some<|.bool true]⟩]++D.2++[hfl (.type "super") [.ref C,.ref C,.ref C],hbf "object.__init_subclass__" (.ref C)]
 |_=>[]
noncomputable def hcs:List (Int×Addr):=[(2,20),(4,33),(9,52),(14,71),(16,83),(18,95),(20,107),(22,119),(24,131),(26,143),(33,157),(35,164),(37,171),(47,178),(66,183),(70,188),(72,193),(74,198),(79,203),(85,210),(89,217),(98,224),(102,231),(109,238),(116,245),(121,250),(124,255),(129,262),(134,269),(140,276),(146,283),(153,290),(156,297),(161,302),(163,309),(169,316),(175,323),(179,330),(183,337),(190,344),(195,351),(206,358),(210,365),(212,372),(225,377),(234,382),(250,387),(252,392),(260,399),(264,404),(285,411),(303,416),(316,421),(318,428),(323,435),(339,440),(364,447),(379,454),(399,461),(409,468)]
noncomputable def hhp(P:Params)(v:Value)(g c:Nat)(l:List Obj):Heap:=⟨⟨boot_o_0 P::boot_o_1 P::boot_o_2 P::kD (kE P "__name__" 165 v::(hen P).take g) (g+1)::boot_o_4 P::boot_o_5 P::boot_o_6 P::boot_o_7 P::boot_o_8 P::boot_o_9 P::boot_o_10 P::htp []::hfl .none ((hcs.take c).flatMap λp=>[.int p.1 0,.int 0 0,.ref p.2])::hco "<module>" "<module>" 182 185 1 0 0 false 11 .none .none .none::hfm 13 3 (.str "__main__" 164)::l⟩,(boot_heap P).life⟩
abbrev hbd:=behindTheImports hpg
abbrev hev:Env:={scope:=hpg.main.scope,locals:=mainNs,globals:=mainNs,cells:=[],code:=.ref 13,frame:=some 14}
abbrev hcd:Code:=.body hbd hev
noncomputable abbrev hSh(t:Nat)(h:Heap)(o:OsState):Shared:=⟨h,⟨[]⟩,boot_drawn,t,o⟩
def hl0(P:Params):List Obj:=hcO P 15 189 hva [(.type "ValueError")] hem [(.ref 44),(.ref 63),(.ref 75),(.ref 87),(.ref 99),(.ref 111),(.ref 123),(.ref 135),(.ref 147)] "ValueError.__new__" 1 (top 1)++hcO P 28 207 hva [(.ref 24)] ((.ref 24)::hem) [] "ValueError.__new__" 0 (top 2)++hcO P 47 232 hva [(.ref 24)] ((.ref 24)::hem) [] "ValueError.__new__" 0 (top 3)++hcO P 66 257 hva [(.ref 24)] ((.ref 24)::hem) [] "ValueError.__new__" 0 (top 4)++hcO P 78 273 hva [(.ref 24)] ((.ref 24)::hem) [] "ValueError.__new__" 0 (top 5)++hcO P 90 289 hva [(.ref 24)] ((.ref 24)::hem) [] "ValueError.__new__" 0 (top 6)++hcO P 102 305 hva [(.ref 24)] ((.ref 24)::hem) [] "ValueError.__new__" 0 (top 7)++hcO P 114 321 hva [(.ref 24)] ((.ref 24)::hem) [] "ValueError.__new__" 0 (top 8)++hcO P 126 337 hva [(.ref 24)] ((.ref 24)::hem) [] "ValueError.__new__" 0 (top 9)++hcO P 138 353 hva [(.ref 24)] ((.ref 24)::hem) [] "ValueError.__new__" 0 (top 10)
def hl1(P:Params):List Obj:=hl0 P++[⟨(.type "tuple"),none,.seq #[(.str "a" 375),(.str "b" 376),(.str "c" 377)] 0,#[]⟩]++[kD [kE P "add" 379<|.int (2) 380,kE P "take" 381<|.int (2) 382,kE P "times" 383<|.int (2) 384,kE P "most" 385<|.int (2) 386,kE P "least" 387<|.int (2) 388,kE P "same" 389<|.int (4) 390] 6]++hfO 152 398 "" hvb (top 16)++hfO 159 406 "" hvb (top 17)++hfO 166 413 "" hvb (top 18)++hfO 173 422 "" hvb (top 19)++hfO 180 449 "" hvc (top 27)++hfO 185 455 "" hvc (top 28)++hfO 190 461 "" hvc (top 29)++hfO 195 467 "" hvc (top 30)++hfO 200 479 "" hvd (top 34)++hfO 205 485 "" hvd (top 35)++hfO 212 494 "" hvd (top 36)++hfO 219 505 "" hvd (top 37)++hfO 226 512 "" hvd (top 38)++hfO 233 523 "" hvd (top 39)++hfO 240 535 "" hve (top 41)++hfO 247 545 "" hve (top 42)++hfO 252 551 "" hve (top 43)++hfO 257 557 "" hve (top 44)++hfO 264 565 "" hve (top 45)++hfO 271 575 "" hve (top 46)++hfO 278 586 "" hve (top 47)++hfO 285 596 "" hve (top 48)++hfO 292 605 "" hve (top 49)++hfO 299 614 "" hve (top 50)++hfO 304 620 "" hve (top 51)
def hl2(P:Params):List Obj:=hl1 P++hfO 311 632 "" hve (top 52)++hfO 318 643 "" hve (top 53)++hfO 325 651 "" hve (top 54)++hfO 332 659 "" hve (top 55)++hfO 339 670 "" hve (top 56)++hfO 346 681 "" hve (top 57)++hfO 353 698 "" hvf (top 59)++hfO 360 706 "" hvf (top 60)++hfO 367 713 "" hvf (top 61)++hfO 374 724 "" hvf (top 62)++hfO 379 730 "" hvf (top 63)++hfO 384 736 "" hvf (top 64)++hfO 389 742 "" hvf (top 65)++hfO 394 748 "" hvf (top 66)++hfO 401 756 "" hvf (top 67)++hfO 406 762 "" hvf (top 68)++hfO 413 780 "" hvf (top 69)++hfO 418 786 "" hvf (top 70)++hfO 423 792 "" hvf (top 71)++hfO 430 803 "" hvf (top 72)++hfO 437 814 "" hvf (top 73)++hfO 442 820 "" hvf (top 74)++hfO 449 830 "" hvf (top 75)++hfO 456 844 "" hvf (top 76)++hfO 463 853 "" hvf (top 77)
theorem hr0(w:World)(o:OsState):topGo treeTable hpg w 11 (some<|.ref 6) 12 (hSh boot_toks (boot_heap w.params) o) (topStub hpg)=some (hSh 187 (hhp w.params (.str "__main__" 164) 8 0 []) o,⟨denote treeTable hcd,hcd,⟨0,0,0,0⟩,[topFrame ⟨0,0,0,0⟩]⟩):=by kernel_rfl
theorem hr1(w:World)(o:OsState):segRun treeTable hpg w 11 (some<|.ref 6) 1 1 (hSh 187 (hhp w.params (.str "__main__" 164) 8 0 []) o) (blockOf hbd hev hcd ⟨0,0,0,0⟩ [topFrame ⟨0,0,0,0⟩])=some (.next,hSh 187 (hhp w.params (.str "__main__" 164) 8 0 []) o,hcd,⟨0,0,0,0⟩):=by kernel_rfl
theorem hs0(w:World)(o:OsState):segRun treeTable hpg w 11 (some<|.ref 6) 1 2177 (hSh 187 (hhp w.params (.str "__main__" 164) 8 0 []) o) (piecesOf (hbd.take 11) hev hcd ⟨0,0,0,0⟩ [topFrame ⟨0,0,0,0⟩])=some (.next,hSh 369 (hhp w.params hva 18 10<|hl0 w.params) o,hcd,⟨26,0,27,8⟩):=by kernel_rfl
abbrev hb0:=hbd.drop 11
theorem ht1a(w:World)(o:OsState):segRun treeTable hpg (w.withFollow "special-get-raises" false) 11 (some<|.ref 6) 1 986 (hSh 369 (hhp (w.withFollow "special-get-raises" false).params hva 18 10<|hl0 (w.withFollow "special-get-raises" false).params) o) (piecesOf (hb0.take 41) hev hcd ⟨26,0,27,8⟩ [topFrame ⟨0,0,0,0⟩])=some (.next,hSh 632 (hhp (w.withFollow "special-get-raises" false).params hve 55 35<|hl1 (w.withFollow "special-get-raises" false).params) o,hcd,⟨163,0,168,53⟩):=by kernel_rfl
theorem ht1b(w:World)(o:OsState):segRun treeTable hpg (w.withFollow "special-get-raises" true) 11 (some<|.ref 6) 1 986 (hSh 369 (hhp (w.withFollow "special-get-raises" true).params hva 18 10<|hl0 (w.withFollow "special-get-raises" true).params) o) (piecesOf (hb0.take 41) hev hcd ⟨26,0,27,8⟩ [topFrame ⟨0,0,0,0⟩])=some (.next,hSh 632 (hhp (w.withFollow "special-get-raises" true).params hve 55 35<|hl1 (w.withFollow "special-get-raises" true).params) o,hcd,⟨163,0,168,53⟩):=by kernel_rfl
theorem hs1(w:World)(o:OsState):segRun treeTable hpg w 11 (some<|.ref 6) 1 986 (hSh 369 (hhp w.params hva 18 10<|hl0 w.params) o) (piecesOf (hb0.take 41) hev hcd ⟨26,0,27,8⟩ [topFrame ⟨0,0,0,0⟩])=some (.next,hSh 632 (hhp w.params hve 55 35<|hl1 w.params) o,hcd,⟨163,0,168,53⟩):=by
 have z:=World.withFollow_self w "special-get-raises"
 cases hb:w.params.followText "special-get-raises"
 ·rw[hb] at z;have y:=ht1a w o;rw[z] at y;exact y
 ·rw[hb] at z;have y:=ht1b w o;rw[z] at y;exact y
abbrev hb1:=hb0.drop 41
theorem hs2(w:World)(o:OsState):topRun treeTable hpg w 11 (some<|.ref 6) 782 (hSh 632 (hhp w.params hve 55 35<|hl1 w.params) o) (restOf hb1 hev hcd ⟨163,0,168,53⟩ [topFrame ⟨0,0,0,0⟩])=some (hSh 870 (hhp w.params hvf 80 60<|hl2 w.params) o):=by kernel_rfl
theorem hpa{w:World}{n N t t':Nat}{h h':Heap}{o:OsState}{r:Shared}{b:List Stmt}(m:Nat){p p':Pos}(x:segRun treeTable hpg w 11 (some<|.ref 6) 1 n (hSh t h o) (piecesOf (b.take m) hev hcd p [topFrame ⟨0,0,0,0⟩])=some (.next,hSh t' h' o,hcd,p'))(y:topRun treeTable hpg w 11 (some<|.ref 6) N (hSh t' h' o) (restOf (b.drop m) hev hcd p' [topFrame ⟨0,0,0,0⟩])=some r):topRun treeTable hpg w 11 (some<|.ref 6) (n+N) (hSh t h o) (restOf b hev hcd p [topFrame ⟨0,0,0,0⟩])=some r:=by
 have z:=piece_app x y;rwa[List.take_append_drop] at z
theorem hhr(w:World)(o:OsState):topRun treeTable hpg w 11 (some<|.ref 6) (12+(1+(2177+(986+782)))) (hSh boot_toks (boot_heap w.params) o) (topStub hpg)=some (hSh 870 (hhp w.params hvf 80 60<|hl2 w.params) o):=go_top (hr0 w o)<|piece_block (hr1 w o)<|hpa _ (hs0 w o)<|hpa _ (hs1 w o)<|hs2 w o
def hhf(P:Params):Heap:=hhp P hvf 80 60<|hl2 P
theorem hhq(w:World):(λo=>((staticsOk (importedModules hpg.main.body) (boot_heap w.params) (hhf w.params)&&namesBound hpg (hhf w.params)&&gensDone (hSh 870 (hhf w.params) o)&&laidKept (boot_heap w.params) (hhf w.params)),openSeen qv ["PARTS"] (importedModules hpg.main.body) Xt true<|hSh 870 (hhf w.params) o,hk.obs<|hSh 870 (hhf w.params) o))=λ_=>(true,openGood qv ["PARTS"],hk.val w):=by kernel_rfl
theorem hl:LeftO PySem.Challenge.pw_stretchdeeds_k17_no_algebras qv ["PARTS"] Xt hk.obs hk.val 8000:=LeftO.of_pieces (H₀:=boot_heap) (H₁:=hhf) (boot_open (by kernel_rfl) rfl λ_=>by kernel_rfl) (λ_=>by kernel_rfl) hhr rfl hhq
end G17
namespace PF
open PySem PySem.Spec PyProof.Rows L2
abbrev St:=L2.St
structure KD where
 d:Addr->List (Key×V)->Prop
 c:Str->Addr
instance:CoeFun KD (λ_=>Addr->List (Key×V)->Prop):=⟨KD.d⟩
inductive D where
 |non|bl (b:Bool)|int (i:Int)|str (x:Str)|tup (ds:List D)|lst (ds:List D)|dct (kvs:List (Key×D))|cl (c:Str)|ob (c:Str) (ns:List Str) (ds:List D)|er (c an:Str) (d:D)
def XB(a C dx:Addr):Heap->Prop:=λh=>∃o,h.get? a=some o/\o.cls = .ref C/\o.dict=some dx/\∃vs,o.data = .fields vs
mutual
inductive Rp(K:zzA)(kd:KD)(O:Addr->Prop)(H:Hp):V->D->Prop
 |non:Rp K kd O H .non .non
 |bl (b:Bool):Rp K kd O H (.bl b) (.bl b)
 |int (i:Int):Rp K kd O H (.int i) (.int i)
 |str (x:Str):Rp K kd O H (.str x) (.str x)
 |tup {a:Addr}{vs:List V}{ds:List D}:¬O a->Rd H a (.tup vs)->RpL K kd O H vs ds->Rp K kd O H (.ref a) (.tup ds)
 |tupK {a:Addr}{o:Obj}{zM:Array Value}{n:Nat}{vs:List V}{ds:List D}:K.lookup a=some o->o.cls = .type "tuple"->o.data = .seq zM n->zM.size<=sizeLine->zK vs zM.toList->RpL K kd O H vs ds->Rp K kd O H (.ref a) (.tup ds)
 |lst {a:Addr}{vs:List V}{ds:List D}:¬O a->Rd H a (.lst vs)->RpL K kd O H vs ds->Rp K kd O H (.ref a) (.lst ds)
 |lstK {a:Addr}{zM:Array Value}{n:Nat}{vs:List V}{ds:List D}:K.lookup a=some {cls:=.type "list",data:=.seq zM n}->zM.size<=sizeLine->zK vs zM.toList->RpL K kd O H vs ds->Rp K kd O H (.ref a) (.lst ds)
 |dct {a:Addr}{kvs:List (Key×V)}{ds:List (Key×D)}:¬O a->Rd H a (.dK kvs)->RpM K kd O H kvs ds->Rp K kd O H (.ref a) (.dct ds)
 |dctK {a:Addr}{kvs:List (Key×V)}{ds:List (Key×D)}:kd a kvs->RpM K kd O H kvs ds->Rp K kd O H (.ref a) (.dct ds)
 |cl (c:Str):Rp K kd O H (.ref (kd.c c)) (.cl c)
 |ob {a dx:Addr}{c:Str}{ns:List Str}{vs:List V}{ds:List D}:¬O a->H a=some (.ins (kd.c c) dx (ns.zip vs))->ns.length=vs.length->RpL K kd O H vs ds->Rp K kd O H (.ref a) (.ob c ns ds)
 |er {a dx:Addr}{c an:Str}{v:V}{d:D}:¬O a->¬O dx->H a=some (.ext (XB a (kd.c c) dx))->H dx=some (.xd [(an,v)])->Rp K kd O H v d->Rp K kd O H (.ref a) (.er c an d)
inductive RpL(K:zzA)(kd:KD)(O:Addr->Prop)(H:Hp):List V->List D->Prop
 |nil:RpL K kd O H [] []
 |cons {v:V}{d:D}{vs:List V}{ds:List D}:Rp K kd O H v d->RpL K kd O H vs ds->RpL K kd O H (v::vs) (d::ds)
inductive RpM(K:zzA)(kd:KD)(O:Addr->Prop)(H:Hp):List (Key×V)->List (Key×D)->Prop
 |nil:RpM K kd O H [] []
 |cons {k:Key}{v:V}{d:D}{vs:List (Key×V)}{ds:List (Key×D)}:Rp K kd O H v d->RpM K kd O H vs ds->RpM K kd O H ((k,v)::vs) ((k,d)::ds)
end
structure Grow(W:Addr->Prop)(H:Hp)(W':Addr->Prop)(H':Hp):Prop where
 keep:∀b o,H b=some o->¬W b->H' b=some o
 own:∀b,W' b->W b\/H b=none
def Grow.refl:Grow W H W H:=⟨λ_ _ h _=>h,λ_ h=>.inl h⟩
def Grow.trans(a:Grow W H W1 H1)(b:Grow W1 H1 W2 H2):Grow W H W2 H2 where
 keep:=λx o h n=>b.keep x o (a.keep x o h n) λq=>(a.own x q).elim n λz=>by rw[z]at h;cases h
 own:=λx q=>by
  rcases b.own x q with h|h
  . exact a.own x h
  . cases e:H x with
    |none=>exact .inr rfl
    |some o=>
     refine .inl<|Classical.byContradiction λn=>?_;rw[a.keep x o e n]at h;cases h
def Grow.less(h:∀a,W' a->W a):Grow W H W' H:=⟨λ_ _ q _=>q,λb q=>.inl<|h b q⟩
def Grow.wr(h:W p):Grow W H W (upd H p o):=
 ⟨λb u q n=>by rw[zu λe=>n<|by rwa [e]];exact q,λ_ q=>.inl q⟩
abbrev VL(F W:Addr->Prop):Addr->Prop:=λa=>F a\/W a
section
variable{K:zzA}{kd:KD}{F W W':Addr->Prop}{H H':Hp}
def XU(g:Grow W H W' H')(n:¬W a)(h:Rd H a u):Rd H' a u:=by
 rcases h with h|⟨o,h⟩
 . exact .inl<|g.keep _ _ h n
 . exact .inr ⟨o,g.keep _ _ h n⟩
def JA(h:Rd H a u):H a≠none:=by
 rcases h with h|⟨o,h⟩<;>(rw[h];simp)
def Yd(g:Grow W H W' H')(n:¬VL F W a)(h:Rd H a u):¬VL F W' a:=λq=>
 q.elim (λz=>n<|.inl z) λz=>(g.own a z).elim (λy=>n<|.inr y) λy=>JA h y
def Rp.grow(g:Grow W H W' H')(h:Rp K kd (VL F W) H v d):Rp K kd (VL F W') H' v d:=
 Rp.rec .non .bl .int .str (λn h _ r=>.tup (Yd g n h) (XU g (λz=>n<|.inr z) h) r) (λa b c e f _ r=>.tupK a b c e f r) (λn h _ r=>.lst (Yd g n h) (XU g (λz=>n<|.inr z) h) r) (λa e f _ r=>.lstK a e f r) (λn h _ r=>.dct (Yd g n h) (XU g (λz=>n<|.inr z) h) r) (λh _ r=>.dctK h r) .cl (λn h l _ r=>.ob (Yd g n<|.inl h) (g.keep _ _ h λz=>n<|.inr z) l r) (λn m h k _ r=>.er (Yd g n<|.inl h) (Yd g m<|.inl k) (g.keep _ _ h λz=>n<|.inr z) (g.keep _ _ k λz=>m<|.inr z) r) .nil (λ_ _ h r=>.cons h r) .nil (λ_ _ h r=>.cons h r) h
def RpL.ind{P:List V->List D->Prop}(h0:P [] [])(h1:∀{v d vs ds},Rp K kd O H v d->RpL K kd O H vs ds->P vs ds->P (v::vs) (d::ds))(h:RpL K kd O H vs ds):P vs ds:=
 RpL.rec (motive_1:=λ_ _ _=>True) (motive_3:=λ_ _ _=>True) ⋯ ⋯ ⋯ ⋯ (λ_ _ _ _=>⋯) (λ_ _ _ _ _ _ _=>⋯) (λ_ _ _ _=>⋯) (λ_ _ _ _ _=>⋯) (λ_ _ _ _=>⋯) (λ_ _ _=>⋯) ⋯ (λ_ _ _ _ _=>⋯) (λ_ _ _ _ _ _=>⋯) h0 (λa r _ ih=>h1 a r ih) ⋯ (λ_ _ _ _=>⋯) h
def RpM.ind{P:List (Key×V)->List (Key×D)->Prop}(h0:P [] [])(h1:∀{k v d vs ds},Rp K kd O H v d->RpM K kd O H vs ds->P vs ds->P ((k,v)::vs) ((k,d)::ds))(h:RpM K kd O H vs ds):P vs ds:=
 RpM.rec (motive_1:=λ_ _ _=>True) (motive_2:=λ_ _ _=>True) ⋯ ⋯ ⋯ ⋯ (λ_ _ _ _=>⋯) (λ_ _ _ _ _ _ _=>⋯) (λ_ _ _ _=>⋯) (λ_ _ _ _ _=>⋯) (λ_ _ _ _=>⋯) (λ_ _ _=>⋯) ⋯ (λ_ _ _ _ _=>⋯) (λ_ _ _ _ _ _=>⋯) ⋯ (λ_ _ _ _=>⋯) h0 (λa r _ ih=>h1 a r ih) h
theorem RpL.grow(g:Grow W H W' H'){vs:List V}(h:RpL K kd (VL F W) H vs ds):RpL K kd (VL F W') H' vs ds:=RpL.ind .nil (λa _ r=>.cons (Rp.grow g a) r) h
def Rp.less(g:∀a,O' a->O a)(h:Rp K kd O H v d):Rp K kd O' H v d:=
 Rp.rec .non .bl .int .str (λn h _ r=>.tup (λz=>n<|g _ z) h r) (λa b c e f _ r=>.tupK a b c e f r) (λn h _ r=>.lst (λz=>n<|g _ z) h r) (λa e f _ r=>.lstK a e f r) (λn h _ r=>.dct (λz=>n<|g _ z) h r) (λh _ r=>.dctK h r) .cl (λn h l _ r=>.ob (λz=>n<|g _ z) h l r) (λn m h k _ r=>.er (λz=>n<|g _ z) (λz=>m<|g _ z) h k r) .nil (λ_ _ h r=>.cons h r) .nil (λ_ _ h r=>.cons h r) h
theorem RpL.less{O O':Addr->Prop}(g:∀a,O' a->O a)(h:RpL K kd O H vs ds):RpL K kd O' H vs ds:=RpL.ind .nil (λa _ r=>.cons (Rp.less g a) r) h
theorem RpM.less{O O':Addr->Prop}(g:∀a,O' a->O a)(h:RpM K kd O H vs ds):RpM K kd O' H vs ds:=RpM.ind .nil (λa _ r=>.cons (Rp.less g a) r) h
theorem RpL.length{O:Addr->Prop}(h:RpL K kd O H vs ds):vs.length=ds.length:=RpL.ind (P:=λa b=>a.length=b.length) rfl (λ_ _ r=>congrArg _ r) h
theorem RpM.length{O:Addr->Prop}(h:RpM K kd O H vs ds):vs.length=ds.length:=RpM.ind (P:=λa b=>a.length=b.length) rfl (λ_ _ r=>congrArg _ r) h
def RpL.get{vs:List V}{i:Nat}(h:RpL K kd O H vs ds)(e:ds[i]? = some d):∃v,vs[i]? = some v/\Rp K kd O H v d:=
 RpL.ind (P:=λb c=>∀i,c[i]? = some d->∃v,b[i]? = some v/\Rp K kd O H v d) (λi e=>by cases e) (λa _ f i e=>by
  cases i with
  |zero=>cases e;exact⟨_,rfl,a⟩
  |succ i=>exact f i e) h i e
def RpL.append{O:Addr->Prop}(h:RpL K kd O H vs ds)(r:RpL K kd O H ws es):RpL K kd O H (vs++ws) (ds++es):=RpL.ind (P:=λb c=>RpL K kd O H (b++ws)<|c++es) r (λa _ t=>.cons a t) h
theorem RpL.take{O:Addr->Prop}(n:Nat)(h:RpL K kd O H vs ds):RpL K kd O H (vs.take n) (ds.take n):=
 RpL.ind (P:=λb c=>∀n,RpL K kd O H (b.take n)<|c.take n) (λn=>by rw[List.take_nil,List.take_nil];exact .nil) (λa _ d n=>by
  cases n with
  |zero=>exact .nil
  |succ n=>exact .cons a (d n)) h n
theorem RpL.drop{O:Addr->Prop}(n:Nat)(h:RpL K kd O H vs ds):RpL K kd O H (vs.drop n) (ds.drop n):=
 RpL.ind (P:=λc d=>∀n,RpL K kd O H (c.drop n)<|d.drop n) (λn=>by rw[List.drop_nil,List.drop_nil];exact .nil) (λa b e n=>by
  cases n with
  |zero=>exact .cons a b
  |succ n=>exact e n) h n
theorem RpL.rep(h:RpL K kd O H vs ds):∀k,RpL K kd O H (List.replicate k vs).flatten (List.replicate k ds).flatten
 |0=>.nil
 |k+1=>h.append<|RpL.rep h k
end
inductive Vw(K:zzA)(kd:KD)(O:Addr->Prop)(H:Hp):V->D->Prop
 |non:Vw K kd O H .non .non
 |bl (b:Bool):Vw K kd O H (.bl b) (.bl b)
 |int (i:Int):Vw K kd O H (.int i) (.int i)
 |str (x:Str):Vw K kd O H (.str x) (.str x)
 |tup {a:Addr}{vs:List V}{ds:List D}:Rp K kd O H (.ref a) (.tup ds)->Ip K H a vs->RpL K kd O H vs ds->Vw K kd O H (.ref a) (.tup ds)
 |lst {a:Addr}{vs:List V}{ds:List D}:SH K H a vs->RpL K kd O H vs ds->Vw K kd O H (.ref a) (.lst ds)
 |dct {a:Addr}{kvs:List (Key×V)}{ds:List (Key×D)}:(Rd H a (.dK kvs)\/kd a kvs)->RpM K kd O H kvs ds->Vw K kd O H (.ref a) (.dct ds)
 |cl (c:Str):Vw K kd O H (.ref (kd.c c)) (.cl c)
 |ob {a dx:Addr}{c:Str}{ns:List Str}{vs:List V}{ds:List D}:H a=some (.ins (kd.c c) dx (ns.zip vs))->ns.length=vs.length->RpL K kd O H vs ds->Vw K kd O H (.ref a) (.ob c ns ds)
 |er {a dx:Addr}{c an:Str}{v:V}{d:D}:H a=some (.ext (XB a (kd.c c) dx))->H dx=some (.xd [(an,v)])->Rp K kd O H v d->Vw K kd O H (.ref a) (.er c an d)
def Rp.vw{K}(h:Rp K kd O H v d):Vw K kd O H v d:=by
 cases h with
 |non=>exact .non
 |bl b=>exact .bl b
 |int i=>exact .int i
 |str x=>exact .str x
 |tup n h r=>exact .tup (.tup n h r) (.inl h) r
 |tupK a b c e f r=>exact .tup (.tupK a b c e f r) (.inr ⟨_,_,_,a,b,c,e,f⟩) r
 |lst n h r=>exact .lst (.inl h) r
 |lstK a e f r=>exact .lst (.inr ⟨_,_,a,e,f⟩) r
 |dct n h r=>exact .dct (.inl h) r
 |dctK h r=>exact .dct (.inr h) r
 |cl c=>exact .cl c
 |ob n h l r=>exact .ob h l r
 |er n m h k r=>exact .er h k r
def _root_.L2.SH.sq{K}(h:SH K H a xs):VJ K H a xs:=by
 rcases h with h|⟨b,n,k,z,r⟩
 . exact .inl h
 . exact .inr ⟨_,b,n,k,rfl,rfl,rfl,z,r⟩
def N6(I:Inv X Z' σ H s)(h:SH X.K H a xs):
 xs.length<=sizeLine/\∃(zM:List Value) (n:Nat),zK xs zM/\s.heap.get? a=some {cls:=.type "list",data:=.seq zM.toArray n}:=by
 rcases h with h|⟨b,n,k,z,r⟩
 . exact h.ok I.hok
 . refine⟨by rw[r.length];simpa using z,b.toList,n,r,by simpa using I.kIn _ _ k⟩
def Rp.cl_eq{K}(h:Rp K kd O H (.ref C) (.cl c)):C=kd.c c:=by
 cases h;rfl
noncomputable def zB:D->Bool
 | .non=>true | .bl _=>true | .int _=>true | .str _=>true|_=>false
def Rp.flat{K}(h:Rp K kd O H v d)(e:zB d=true):Rp K kd O' H' v d:=by
 cases h with
 |non=>exact .non
 |bl b=>exact .bl b
 |int i=>exact .int i
 |str x=>exact .str x
 |_=>cases e
inductive Kind where
 |ls|tp|dc (ks:List Key)|ob (c:Str) (ns:List Str)
inductive O where
 |lf (st:Bool) (d:D)|nd (k:Kind) (os:List O)
abbrev Ee(st:Bool)(d:D):O:=.lf (zB d||st) d
mutual
inductive Ro(L:Bool->V->D->Prop)(N:Addr->Prop)(H:Hp):V->O->List Addr->Prop
 |lf {st:Bool}{v:V}{d:D}:L st v d->Ro L N H v (.lf st d) []
 |ls {a:Addr}{vs:List V}{os:List O}{fp:List Addr}:H a=some (.lst vs)->RoL L N H vs os fp->Ro L N H (.ref a) (.nd .ls os) (a::fp)
 |dc {a:Addr}{ks:List Key}{vs:List V}{os:List O}{fp:List Addr}:H a=some (.dK (ks.zip vs))->ks.length=vs.length->RoL L N H vs os fp->Ro L N H (.ref a) (.nd (.dc ks) os) (a::fp)
 |ob {a dx C:Addr}{c:Str}{ns:List Str}{vs:List V}{os:List O}{fp:List Addr}:L true (.ref C) (.cl c)->H a=some (.ins C dx (ns.zip vs))->ns.length=vs.length->RoL L N H vs os fp->Ro L N H (.ref a) (.nd (.ob c ns) os) (a::fp)
 |tp {a:Addr}{vs:List V}{os:List O}{fp:List Addr}:N a->H a=some (.tup vs)->RoL L N H vs os fp->Ro L N H (.ref a) (.nd .tp os) fp
inductive RoL(L:Bool->V->D->Prop)(N:Addr->Prop)(H:Hp):List V->List O->List Addr->Prop
 |nil:RoL L N H [] [] []
 |cons {v:V}{o:O}{vs:List V}{os:List O}{fp fq:List Addr}:Ro L N H v o fp->RoL L N H vs os fq->RoL L N H (v::vs) (o::os) (fp++fq)
end
mutual
def O.toD:O->D
 | .lf _ d=>d
 | .nd .ls os=>.lst<|O.toDs os
 | .nd .tp os=>.tup<|O.toDs os
 | .nd (.dc ks) os=>.dct<|ks.zip<|O.toDs os
 | .nd (.ob c ns) os=>.ob c ns<|O.toDs os
def O.toDs:List O->List D
 | []=>[]
 |o::r=>o.toD::O.toDs r
end
mutual
def O.str:O->Bool
 | .lf st _=>st
 | .nd _ os=>O.strs os
def O.strs:List O->Bool
 | []=>true
 |o::r=>o.str&&O.strs r
end
section
variable{L L':Bool->V->D->Prop}{N N':Addr->Prop}{H H':Hp}{K:zzA}{kd:KD}{Ob:Addr->Prop}
def Ro.mono(hL:∀st v d,L st v d->L' st v d)(hN:∀a vs,N a->H a=some (.tup vs)->N' a/\H' a=some (.tup vs))(k:∀a ∈ fp,∀u,H a=some u->H' a=some u)(h:Ro L N H v o fp):Ro L' N' H' v o fp:=
 Ro.rec (motive_2:=λvs os fp _=>_->RoL L' N' H' vs os fp)
  (λh _=>.lf<|hL _ _ _ h) (λh _ r k=>.ls (k _ zzF _ h)<|r λa m=>k a<|zzD _ m) (λh l _ r k=>.dc (k _ zzF _ h) l<|r λa m=>k a<|zzD _ m) (λc h l _ r k=>.ob (hL _ _ _ c) (k _ zzF _ h) l<|r λa m=>k a<|zzD _ m) (λn h _ r k=>.tp (hN _ _ n h).1 (hN _ _ n h).2<|r k)
  (λ_=>.nil) (λ_ _ h r k=>.cons (h λa m=>k a<|zzP _ m)<|r λa m=>k a<|zzL _ m) h k
def RoL.ind{P:List V->List O->List Addr->Prop}(h0:P [] [] [])(h1:∀{v o vs os fp fq},Ro L N H v o fp->RoL L N H vs os fq->P vs os fq->P (v::vs) (o::os) (fp++fq)){os}(h:RoL L N H vs os fp):P vs os fp:=
 RoL.rec (motive_1:=λ_ _ _ _=>True) (λ_=>⋯) (λ_ _ _=>⋯) (λ_ _ _ _=>⋯) (λ_ _ _ _ _=>⋯) (λ_ _ _ _=>⋯) h0 (λa r _ ih=>h1 a r ih) h
theorem RoL.mono(hL:∀st v d,L st v d->L' st v d)(hN:∀a vs,N a->H a=some (.tup vs)->N' a/\H' a=some (.tup vs)){vs:List V}{os}(k:∀a ∈ fp,∀u,H a=some u->H' a=some u)(h:RoL L N H vs os fp):RoL L' N' H' vs os fp:=
 RoL.ind (P:=λc e b=>(∀a ∈ b,∀u,H a=some u->H' a=some u)->RoL L' N' H' c e b) (λ_=>.nil) (λh _ r k=>.cons (Ro.mono hL hN (λa m=>k a<|zzP _ m) h)<|r λa m=>k a<|zzL _ m) h k
theorem Q7:∀{ks:List Key}{vs:List V}{ds:List D},RpL K kd Ob H vs ds->ks.length=vs.length->RpM K kd Ob H (ks.zip vs) (ks.zip ds)
 | [],_,_,_,_=>.nil
 |_::_,_,_,.nil,e=>by simp at e
 |_::_,_,_,.cons h r,e=>.cons h (Q7 r<|by simpa using e)
def Ro.rp(b)(hL:∀st v d,(b=true->st=true)->L st v d->Rp K kd Ob H v d)(hN:∀a,N a->¬Ob a){v}(s:b=true->o.str=true)(k:∀a ∈ fp,¬Ob a)(h:Ro L N H v o fp):Rp K kd Ob H v o.toD:=
 Ro.rec (motive_2:=λi g f _=>_->_->RpL K kd Ob H i _)
  (λh s _=>hL _ _ _ s h) (λh _ r s k=>.lst (k _ zzF) (.inl h)<|r s λa m=>k a<|zzD _ m) (λh l _ r s k=>.dct (k _ zzF) (.inl h)<|Q7 (r s λa m=>k a<|zzD _ m) l) (λc h l _ r s k=>by
   have e:=(hL _ _ _ (λ_=>rfl) c).cl_eq;subst e;exact .ob (k _ zzF) h l<|r s λa m=>k a<|zzD _ m) (λn h _ r s k=>.tup (hN _ n) (.inl h)<|r s k)
  (λ_ _=>.nil) (λ_ _ h r s k=>.cons (h (λz=>((zyB _ _).mp<|s z).1) λa m=>k a<|zzP _ m)<|r (λz=>((zyB _ _).mp<|s z).2) λa m=>k a<|zzL _ m) h s k
theorem RoL.rp(b:Bool)(hL:∀st v d,(b=true->st=true)->L st v d->Rp K kd Ob H v d)(hN:∀a,N a->¬Ob a){os}(s:b=true->O.strs os=true)(k:∀a ∈ fp,¬Ob a)(h:RoL L N H vs os fp):RpL K kd Ob H vs (O.toDs os):=
 RoL.ind (P:=λe c f=>(b=true->O.strs c=true)->(∀a ∈ f,¬Ob a)->RpL K kd Ob H e (O.toDs c)) (λ_ _=>.nil) (λh _ r s k=>.cons (Ro.rp b hL hN (λz=>((zyB _ _).mp<|s z).1) (λa m=>k a<|zzP _ m) h)<|r (λz=>((zyB _ _).mp<|s z).2) λa m=>k a<|zzL _ m) h s k
theorem RoL.length{vs:List V}{os}(h:RoL L N H vs os fp):vs.length=os.length:=RoL.ind (P:=λa b _=>a.length=b.length) rfl (λ_ _ r=>congrArg _ r) h
theorem QE:∀os,(O.toDs os).length=os.length
 | []=>rfl
 |_::r=>congrArg _<|QE r
def RoL.append{vs ws:List V}{os ps}(h:RoL L N H vs os f)(r:RoL L N H ws ps g):RoL L N H (vs++ws) (os++ps) (f++g):=RoL.ind (P:=λa b f=>RoL L N H (a++ws) (b++ps)<|f++g) r (λh _ t=>by rw[zxA];exact .cons h t) h
def RoL.one(h:Ro L N H v o f):RoL L N H [v] [o] f:=by
 have:=RoL.cons h<|RoL.nil
 rwa [zyD]at this
end
abbrev AS:=List<|Option O
abbrev Ad:=Nat->List Addr
def Gw(T:List Addr)(ad:Ad):Addr->Prop:=λa=>a ∈ T\/∃i,a ∈ ad i
abbrev Lv(F B G:Addr->Prop)(st:Bool):Addr->Prop:=VL (λa=>(st=true/\F a)\/B a) G
abbrev Lf(K:zzA)(kd:KD)(F B G:Addr->Prop)(H:Hp):Bool->V->D->Prop:=λst v d=>Rp K kd (Lv F B G st) H v d
abbrev Nf(F B G:Addr->Prop):Addr->Prop:=λa=>¬Lv F B G true a
abbrev YV(K:zzA)(kd:KD)(F B G:Addr->Prop)(H:Hp):V->O->List Addr->Prop:=Ro (Lf K kd F B G H) (Nf F B G) H
abbrev ZG(K:zzA)(kd:KD)(F B G:Addr->Prop)(H:Hp):List V->List O->List Addr->Prop:=RoL (Lf K kd F B G H) (Nf F B G) H
def UM(K:zzA)(kd:KD)(F B G:Addr->Prop)(H:Hp):Option O->Option (Option V)->List Addr->Prop
 |none,_,fp=>fp=[]
 |some o,s,fp=>∃v,s=some (some v)/\YV K kd F B G H v o fp
structure Rel(K:zzA)(kd:KD)(F B:Addr->Prop)(T:List Addr)(ad:Ad)(as:AS)(σ:St)(H:Hp):Prop where
 len:as.length=σ.length
 out:∀i,as.length<=i->ad i=[]
 nd:∀i,(ad i).Nodup
 inj:∀i j a,a ∈ ad i->a ∈ ad j->i=j
 tnd:T.Nodup
 dis:∀i a,a ∈ ad i->a ∉ T
 ftr:∀a,F a->H a≠none
 btr:∀a,B a->H a≠none/\¬F a/\¬Gw T ad a
 gtr:∀a,Gw T ad a->H a≠none/\¬F a
 sl:∀i s,as[i]? = some s->UM K kd F B (Gw T ad) H s σ[i]? (ad i)
inductive RV where
 |ow (o:O)|bo (i:Nat)
def yS(K:zzA)(kd:KD)(F B:Addr->Prop)(T:List Addr)(ad:Ad)(σ:St)(H:Hp)(v:V):RV->Prop
 | .ow o=>YV K kd F B (Gw T ad) H v o T
 | .bo i=>T=[]/\σ[i]? = some (some v)
noncomputable def O.frz(o:O):O:=.lf o.str o.toD
noncomputable def RV.frz:RV->RV
 | .ow o=>.ow o.frz
 | .bo i=>.bo i
noncomputable def O.isLf:O->Bool
 | .lf _ _=>true
 |_=>false
def O.kl:O->Option Bool
 | .lf st _=>some st
 | .nd _ os=>if os.all O.isLf=true then some (O.strs os)else none
noncomputable def RV.view(as:AS):RV->Option (D×Option Bool)
 | .ow o=>some (o.toD,some o.str)
 | .bo i=>match as[i]? with
  |some (some o)=>some (o.toD,o.kl)
  |_=>none
def Wx(F B G:Addr->Prop):Option Bool->Addr->Prop
 |some st=>Lv F B G st
 |none=>λ_=>False
section
variable{K:zzA}{kd:KD}{F B F' B':Addr->Prop}{G G':Addr->Prop}{T T':List Addr}{ad M1:Ad}{as U':AS}{σ:St}{H H1 H':Hp}{v:V}{r:RV}{o:O}{fp:List Addr}{vs:List V}{os:List O}
theorem YV.grow(g:Grow G H G' H')(k:∀a ∈ fp,∀u,H a=some u->H' a=some u)(h:YV K kd F B G H v o fp):YV K kd F B G' H' v o fp:=
 Ro.mono (λst v d r=>Rp.grow g r) (λa vs n e=>⟨λz=>z.elim (λy=>n<|.inl y) λy=>(g.own a y).elim (λw=>n<|.inr w) λw=>(by rw[w]at e;cases e),g.keep a _ e λw=>n<|.inr w⟩) k h
theorem ZG.grow(g:Grow G H G' H')(k:∀a ∈ fp,∀u,H a=some u->H' a=some u)(h:ZG K kd F B G H vs os fp):ZG K kd F B G' H' vs os fp:=
 RoL.mono (λst v d r=>Rp.grow g r) (λa vs n e=>⟨λz=>z.elim (λy=>n<|.inl y) λy=>(g.own a y).elim (λw=>n<|.inr w) λw=>(by rw[w]at e;cases e),g.keep a _ e λw=>n<|.inr w⟩) k h
def YV.lv(g:∀st a,Lv F' B' G' st a->Lv F B G st a)(h:YV K kd F B G H v o fp):YV K kd F' B' G' H v o fp:=
 Ro.mono (λst v d r=>r.less<|g st) (λa vs n e=>⟨λz=>n<|g true a z,e⟩) (λ_ _ _ e=>e) h
def ZG.lv(g:∀st a,Lv F' B' G' st a->Lv F B G st a)(h:ZG K kd F B G H vs os fp):ZG K kd F' B' G' H vs os fp:=
 RoL.mono (λst v d r=>r.less<|g st) (λa vs n e=>⟨λz=>n<|g true a z,e⟩) (λ_ _ _ e=>e) h
def YV.less(g:∀a,G' a->G a)(h:YV K kd F B G H v o fp):YV K kd F B G' H v o fp:=YV.lv (λ_ a z=>z.elim .inl λy=>.inr<|g a y) h
def Gw.drop:∀a,Gw [] ad a->Gw T ad a:=λ_ h=>h.elim ⋯ .inr
def Rel.trk(R:Rel K kd F B T ad as σ H)(st):∀a,Lv F B (Gw T ad) st a->H a≠none:=λa h=>by
 rcases h with(h|h)|h
 . exact R.ftr a h.2
 . exact(R.btr a h).1
 . exact(R.gtr a h).1
def Rel.tr(R:Rel K kd F B T ad as σ H)(lv):∀a,Wx F B (Gw T ad) lv a->H a≠none:=λa h=>by
 cases lv with
 |none=>exact h.elim
 |some st=>exact R.trk st a h
theorem UM.lv(g:∀st a,Lv F' B' G' st a->Lv F B G st a)(h:UM K kd F B G H s x fp):UM K kd F' B' G' H s x fp:=by
 cases s with
 |none=>exact h
 |some o=>obtain⟨v,e,r⟩:=h;exact⟨v,e,YV.lv g r⟩
def UM.less(g:∀a,G' a->G a)(h:UM K kd F B G H s x fp):UM K kd F B G' H s x fp:=h.lv λ_ a z=>z.elim .inl λy=>.inr<|g a y
theorem UM.grow(g:Grow G H G' H')(k:∀a ∈ fp,∀u,H a=some u->H' a=some u)(h:UM K kd F B G H s x fp):UM K kd F B G' H' s x fp:=by
 cases s with
 |none=>exact h
 |some o=>obtain⟨v,e,r⟩:=h;exact⟨v,e,YV.grow g k r⟩
theorem Rel.drop(R:Rel K kd F B T ad as σ H):Rel K kd F B [] ad as σ H where
 len:=R.len
 out:=R.out
 nd:=R.nd
 inj:=R.inj
 tnd:=zyI
 dis:=λ_ _ _ z=>nomatch z
 ftr:=R.ftr
 btr:=λa h=>let⟨h1,h2,h3⟩:=R.btr a h;⟨h1,h2,λz=>h3<|Gw.drop a z⟩
 gtr:=λa h=>R.gtr a (Gw.drop a h)
 sl:=λi s e=>(R.sl i s e).less Gw.drop
def NT(R:Rel K kd F B T ad as σ H)(h:YV K kd F B (Gw T ad) H v o T):Rp K kd (Lv F B (Gw [] ad) o.str) H v o.toD:=
 Ro.rp o.str (λst v d hs r=>r.less λa z=>z.elim (λy=>.inl<|y.elim (λx=>.inl ⟨hs x.1,x.2⟩) .inr) λy=>.inr<|Gw.drop a y)
  (λa n z=>n<|z.elim (λy=>.inl<|y.elim (λx=>.inl ⟨rfl,x.2⟩) .inr) λy=>.inr<|Gw.drop a y) id
  (λa m z=>by
   rcases z with(z|z)|z|⟨i,z⟩
   . exact(R.gtr a<|.inl m).2 z.2
   . exact(R.btr a z).2.2<|.inl m
   . cases z
   . exact R.dis i a z m) h
def yS.drop(R:Rel K kd F B T ad as σ H)(h:yS K kd F B T ad σ H v r):yS K kd F B [] ad σ H v r.frz:=by
 cases r with
 |ow o=>exact .lf (NT R h)
 |bo i=>exact⟨rfl,h.2⟩
theorem yS.grow(g:Grow (Gw [] ad) H (Gw [] M1) H1)(h:yS K kd F B [] ad σ H v r):yS K kd F B [] M1 σ H1 v r:=by
 cases r with
 |ow o=>exact YV.grow g ⋯ h
 |bo i=>exact h
def Hw(h:ZG K kd F B G H vs os fp):os.all O.isLf=true->fp=[]:=
 RoL.ind (P:=λ_ os fp=>os.all O.isLf=true->fp=[]) ⋯ (λh _ ih e=>by
  rw[List.all_cons,zyB]at e;rw[ih e.2];cases h with
  |lf=>rfl
  |ls=>cases e.1
  |dc=>cases e.1
  |ob=>cases e.1
  |tp=>cases e.1) h
def Rb{st}(hs:b=true->st=true):∀a,Lv F B G b a->Lv F B G st a:=λa z=>z.elim (λy=>.inl<|y.elim (λx=>.inl ⟨hs x.1,x.2⟩) .inr) .inr
def UJ(h:ZG K kd F B G H vs os fp)(e:os.all O.isLf=true):RpL K kd (Lv F B G<|O.strs os) H vs (O.toDs os):=by
 have:=Hw h e;subst this;exact RoL.rp _ (λst v d hs r=>r.less<|Rb hs) (λa n z=>n<|Rb ⋯ a z) id ⋯ h
def W6(h:ZG K kd F B G H vs os fp):RpL K kd (λ_=>False) H vs (O.toDs os):=RoL.rp false (λst v d _ r=>r.less λ_ z=>z.elim) (λ_ _ z=>z) ⋯ (λ_ _ z=>z) h
def Tr(h:YV K kd F B G H v o fp):Rp K kd (λ_=>False) H v o.toD:=Ro.rp false (λst v d _ r=>r.less λ_ z=>z.elim) (λ_ _ z=>z) ⋯ (λ_ _ z=>z) h
def UX(h:YV K kd F B G H v o []):Rp K kd (Lv F B G o.str) H v o.toD:=
 Ro.rp o.str (λst v d hs r=>r.less<|Rb hs) (λa n z=>n<|Rb ⋯ a z) id ⋯ h
theorem YV.vw(h:YV K kd F B G H v o fp):Vw K kd (Wx F B G o.kl) H v o.toD:=by
 cases h with
 |lf h=>exact h.vw
 |ls hH r=>
  rename_i a vs' vk l7;show Vw K kd (Wx F B G (if vk.all O.isLf=true then some _ else none)) H _ _
  by_cases e:vk.all O.isLf=true
  . rw[if_pos e];exact .lst (.inl<|.inl hH)<|UJ r e
  . rw[if_neg e];exact .lst (.inl<|.inl hH) (W6 r)
 |dc hH l r=>
  rename_i a ks vs' vk l7;show Vw K kd (Wx F B G (if vk.all O.isLf=true then some _ else none)) H _ _
  by_cases e:vk.all O.isLf=true
  . rw[if_pos e];exact .dct (.inl<|.inl hH)<|Q7 (UJ r e) l
  . rw[if_neg e];exact .dct (.inl<|.inl hH) (Q7 (W6 r) l)
 |ob hc hH l r=>
  rename_i a dx C c ns vs' vk l7;have ec:=hc.cl_eq;subst ec;show Vw K kd (Wx F B G (if vk.all O.isLf=true then some _ else none)) H _ _
  by_cases e:vk.all O.isLf=true
  . rw[if_pos e];exact .ob hH l<|UJ r e
  . rw[if_neg e];exact .ob hH l (W6 r)
 |tp n hH r=>
  rename_i a vs' vk;show Vw K kd (Wx F B G (if vk.all O.isLf=true then some _ else none)) H _ _
  by_cases e:vk.all O.isLf=true
  . rw[if_pos e];have rl:=UJ r e;exact .tup (.tup (λz=>n<|Rb (λ_=>rfl) _ z) (.inl hH) rl) (.inl<|.inl hH) rl
  . rw[if_neg e];exact .tup (.tup (λz=>z) (.inl hH)<|W6 r) (.inl<|.inl hH)<|W6 r
theorem yS.vw(R:Rel K kd F B [] ad as σ H)(h:yS K kd F B [] ad σ H v r)(e:r.view as=some (d,lv)):Vw K kd (Wx F B (Gw [] ad) lv) H v d:=by
 cases r with
 |ow o=>
  cases e;exact(UX h).vw
 |bo i=>
  have e:(match as[i]? with|some (some o)=>some _|_=>none)=some _:=e;cases k:as[i]? with
  |none=>rw[k]at e;cases e
  |some s=>
   cases s with
   |none=>rw[k]at e;cases e
   |some o=>
    rw[k]at e;cases e;obtain⟨w,hw,ro⟩:=R.sl i _ k;rw[h.2]at hw;cases hw;exact ro.vw
def Rel.add(R:Rel K kd F B T ad as σ H)(hn:N.Nodup)(hl:∀a ∈ N,H a=none)(k:∀b u,H b=some u->H' b=some u)(h1:∀a ∈ N,H' a≠none):Rel K kd F B (N++T) ad as σ H'/\Grow (Gw T ad) H (Gw (N++T) ad) H':=by
 have g:Grow (Gw T ad) H (Gw _ ad) H':=⟨λb u h _=>k b u h,λb h=>by
  rcases h with h|h
  . rcases zzM.mp h with h|h
    . exact .inr<|hl b h
    . exact .inl<|.inl h
  . exact .inl<|.inr h⟩
 have kn:∀a,H a≠none->H' a≠none:=λa z=>by
  cases e:H a with
  |none=>exact absurd e z
  |some u=>rw[k a u e];simp
 refine⟨⟨R.len,R.out,R.nd,R.inj, ?_,λi a m z=>?_,λa z=>kn a<|R.ftr a z,λa z=>?_,λa z=>?_,λi s e=>(R.sl i s e).grow g λa _ u h=>k a u h⟩,g⟩
 . refine zxC.mpr ⟨hn,R.tnd,λa m b m' e=>?_⟩;subst e;exact(R.gtr a<|.inl m').1<|hl a m
 . rcases zzM.mp z with z|z
   . exact(R.gtr a<|.inr ⟨i,m⟩).1<|hl a z
   . exact R.dis i a m z
 . obtain⟨b1,b2,b3⟩:=R.btr a z;refine⟨kn a b1,b2,λy=>?_⟩
   rcases y with y|y
   . rcases zzM.mp y with y|y
     . exact b1<|hl a y
     . exact b3<|.inl y
   . exact b3<|.inr y
 . rcases z with z|z
   . rcases zzM.mp z with z|z
     . exact⟨h1 a z,λf=>R.ftr a f<|hl a z⟩
     . exact⟨kn a (R.gtr a<|.inl z).1,(R.gtr a<|.inl z).2⟩
   . exact⟨kn a (R.gtr a<|.inr z).1,(R.gtr a<|.inr z).2⟩
def Rel.more(R:Rel K kd F B T ad as σ H)(k:∀b u,H b=some u->H' b=some u):Rel K kd F B T ad as σ H'/\Grow (Gw T ad) H (Gw T ad) H':=
 R.add zyI ⋯ k ⋯
def Rel.news(R:Rel K kd F B [] ad as σ H)(hn:T'.Nodup)(hl:∀a ∈ T',H a=none)(k:∀b u,H b=some u->H' b=some u)(h1:∀a ∈ T',H' a≠none):Rel K kd F B T' ad as σ H'/\Grow (Gw [] ad) H (Gw T' ad) H':=by
 have:=R.add hn hl k h1
 rwa [zyD]at this
end
inductive R0 where
 |im (d:D)|fl (ds:List D)|fd (kvs:List (Key×D))
def RQ(K:zzA)(kd:KD)(O:Addr->Prop)(H:Hp)(Q:VK):R0->Prop
 | .im d=>∀v H',(∀b o,H b=some o->H' b=some o)->Rp K kd O H' v d->Q v H'
 | .fl ds=>∀l vs H',H l=none->(∀b o,H b=some o->H' b=some o)->H' l=some (.lst vs)->RpL K kd (VL O (· = l)) H' vs ds->Q (.ref l) H'
 | .fd ds=>∀l vs H',H l=none->(∀b o,H b=some o->H' b=some o)->H' l=some (.dK vs)->RpM K kd (VL O (· = l)) H' vs ds->Q (.ref l) H'
def wrap(lv:Option Bool):R0->Option RV
 | .im d=>if(zB d||lv.isSome)=true then some (.ow<|Ee (lv.getD false) d)else none
 | .fl ds=>if(ds.all zB||lv.isSome)=true then some (.ow<|.nd .ls<|ds.map<|Ee<|lv.getD false)else none
 | .fd kvs=>if((kvs.map (·.2)).all zB||lv.isSome)=true then some (.ow (.nd (.dc (kvs.map (·.1))) ((kvs.map (·.2)).map<|Ee<|lv.getD false)))else none
def bS_{α β:Type}{o}{f:α->Option β}{b}(h:o.bind f=some b):∃a,o=some a/\f a=some b:=by
 cases o with
 |none=>cases h
 |some a=>exact⟨a,rfl,h⟩
def yu{α β γ:Type}{o:Option α}{y:α->Option β}{f:α->β->Option γ}{b}(h:(o.bind λa=>(y a).bind<|f a)=some b):∃a c,o=some a/\y a=some c/\f a c=some b:=by
 obtain⟨a,h1,h⟩:=bS_ h;obtain⟨c,h2,h⟩:=bS_ h;exact⟨a,c,h1,h2,h⟩
def yU{α β γ δ:Type}{o:Option α}{y:α->Option β}{z:α->β->Option γ}{f:α->β->γ->Option δ}{b}(h:(o.bind λa=>(y a).bind λc=>(z a c).bind<|f a c)=some b):∃a c d,o=some a/\y a=some c/\z a c=some d/\f a c d=some b:=by
 obtain⟨a,h1,h⟩:=bS_ h;obtain⟨c,d,h2,h3,h⟩:=yu h;exact⟨a,c,d,h1,h2,h3,h⟩
def ite_some'{α:Type}{c:Prop}[Decidable c]{a}{b:α}(h:(if c then a else none)=some b):c/\a=some b:=by
 by_cases hc:c
 . rw[if_pos hc]at h;exact⟨hc,h⟩
 . rw[if_neg hc]at h;cases h
def zv{α:Type}{c:Prop}[Decidable c]{a b:α}(h:(if c then some a else none)=some b):c/\a=b:=by
 by_cases hc:c
 . rw[if_pos hc]at h;cases h;exact⟨hc,rfl⟩
 . rw[if_neg hc]at h;cases h
section
variable{K:zzA}{kd:KD}{F B:Addr->Prop}{G:Addr->Prop}{ad:Ad}{as:AS}{σ:St}{H H':Hp}{v:V}{r:R0}{rv:RV}{Q:VK}{lv:Option Bool}
def DS(h:zB d=true\/lv.isSome=true)(hO:∀st,lv=some st->∀a,Lv F B G st a->Ob a)(rp:Rp K kd Ob H v d):Lf K kd F B G H (zB d||lv.getD false) v d:=by
 cases e:zB d with
 |true=>exact rp.flat e
 |false=>
  rw[e]at h;cases lv with
  |none=>rcases h with h|h<;>cases h
  |some st=>exact rp.less (hO st rfl)
def Sl(hO:∀st,lv=some st->∀a,Lv F B G st a->Ob a)(e:(ds.all zB||lv.isSome)=true)(h:RpL K kd Ob H vs ds):RoL (Lf K kd F B G H) N H vs (ds.map<|Ee<|lv.getD false) []:=
 RpL.ind (P:=λvs ds=>(ds.all zB||lv.isSome)=true->RoL _ N H vs (ds.map _) []) (λ_=>.nil) (λ{v d vs ds} h _ ih e=>by
  rw[List.all_cons]at e;have e1:zB d=true\/lv.isSome=true:=by
   cases h1:lv.isSome<;>cases h2:zB d<;>simp[h1,h2]at e ⊢
  have e2:(ds.all zB||lv.isSome)=true:=by
   cases h1:lv.isSome with
   |true=>simp
   |false=>
    rw[h1,Bool.or_false,zyB]at e;rw[Bool.or_false];exact e.2
  exact RoL.cons (.lf<|DS e1 hO h)<|ih e2) h e
def BY{O}(h:RpM K kd O H vs ds):vs=(ds.map (·.1)).zip (vs.map (·.2))/\RpL K kd O H (vs.map (·.2)) (ds.map (·.2)):=
 RpM.ind (P:=λvs ds=>vs=(ds.map _).zip (vs.map _)/\RpL K kd O H (vs.map _) (ds.map _)) ⟨rfl,.nil⟩ (λh _ ih=>by
  obtain⟨h1,h2⟩:=ih;refine⟨?_,.cons h h2⟩
  conv=>lhs;rw[h1]
  rfl) h
def wa(R:Rel K kd F B [] ad as σ H)(e:wrap lv r=some rv)(q:∀v T' H',Rel K kd F B T' ad as σ H'->yS K kd F B T' ad σ H' v rv->Grow (Gw [] ad) H (Gw T' ad) H'->Q v H'):RQ K kd (Wx F B (Gw [] ad) lv) H Q r:=by
 have hO:∀l st,lv=some st->∀a,Lv F B (Gw l ad) st a->VL (Wx F B (Gw [] ad) lv) (· ∈ l) a:=by
  intro l st e a z;subst e
  rcases z with z|z|z
  . exact .inl<|.inl z
  . exact .inr z
  . exact .inl<|.inr<|.inr z
 cases r with
 |im d=>
  obtain⟨c,rfl⟩:=zv e;intro v H' k rp;obtain⟨R',g⟩:=R.more k;refine q v [] H' R' (.lf<|DS ((Bool.or_eq_true _ _).mp c) (λst e a z=>?_) rp) g;exact(hO [] st e a z).elim id λm=>nomatch m
 |fl ds=>
  obtain⟨c,rfl⟩:=zv e;intro l vs H' hl k hl' rp;obtain⟨R',g⟩:=R.news (T':=[l]) ⋯ (λa m=>by rwa [zzR.mp m]) k (λa m=>by rw[zzR.mp m,hl'];simp);exact q _ [l] H' R' (.ls hl'<|Sl (λst e a z=>(hO [l] st e a z).elim .inl λm=>.inr<|zzR.mp m) c rp) g
 |fd ds=>
  obtain⟨c,rfl⟩:=zv e;intro l vs H' hl k hl' rp;obtain⟨R',g⟩:=R.news (T':=[l]) ⋯ (λa m=>by rwa [zzR.mp m]) k (λa m=>by rw[zzR.mp m,hl'];simp);obtain⟨e1,r1⟩:=BY rp;refine q _ [l] H' R' (.dc (by rw[hl',<-e1]) (by rw[zzB,zzB,rp.length])<|Sl (λst e a z=>(hO [l] st e a z).elim .inl λm=>.inr<|zzR.mp m) c r1) g
end
abbrev EF:=AS->Option (RV×AS)
def al(K:zzA)(kd:KD)(f:EF):TE:=λσ H Q=>∃F B ad as r S',Rel K kd F B [] ad as σ H/\f as=some (r,S')/\
 ∀v T' Sh H',Rel K kd F B T' Sh S' σ H'->yS K kd F B T' Sh σ H' v r->Grow (Gw [] ad) H (Gw T' Sh) H'->Q v H'
@[irreducible] def AE(X:Cx)(kd:KD)(e:Expr)(f:EF):Prop:=PE X e<|al X.K kd f
def yg(h:PE X e t)(k:∀σ H Q,t' σ H Q->t σ H Q):PE X e t':=λZ' s σ H Q I q=>h Z' s σ H Q I<|k σ H Q q
section
variable{K:zzA}{kd:KD}{F B:Addr->Prop}{ad:Ad}{as U':AS}{σ:St}{H:Hp}{r:RV}{f:EF}{P:VK}
def y9(R:Rel K kd F B [] ad as σ H)(e:f as=some (r,U'))(k:∀v M1 H1,Rel K kd F B [] M1 U' σ H1->yS K kd F B [] M1 σ H1 v r.frz->Grow (Gw [] ad) H (Gw [] M1) H1->P v H1):al K kd f σ H P:=
 ⟨F,B,ad,as,r,U',R,e,λv T' Sh H' R' rv g=>k v Sh H' R'.drop (yS.drop R' rv)<|g.trans<|Grow.less Gw.drop⟩
end
def JF(X:Cx)(kd:KD)(f:Value->Value->Sem Value)(g:D->D->Option R0):Prop:=
 QF X f (λx y H Q=>∃O d e r,(∀a,O a->H a≠none)/\Vw X.K kd O H x d/\Vw X.K kd O H y e/\g d e=some r/\RQ X.K kd O H Q r)
def jU(X:Cx)(kd:KD)(f:Value->Sem Value)(g:D->Option R0):Prop:=
 lW X f (λx H Q=>∃O d r,(∀a,O a->H a≠none)/\Vw X.K kd O H x d/\g d=some r/\RQ X.K kd O H Q r)
inductive VwL(K:zzA)(kd:KD)(O:Addr->Prop)(H:Hp):List V->List D->Prop
 |nil:VwL K kd O H [] []
 |cons {v:V}{d:D}{vs:List V}{ds:List D}:Vw K kd O H v d->VwL K kd O H vs ds->VwL K kd O H (v::vs) (d::ds)
def YM(X:Cx)(kd:KD)(f:Value)(g:List D->Option R0):Prop:=
 Yn X f (λxs H Q=>∃O ds r,(∀a,O a->H a≠none)/\VwL X.K kd O H xs ds/\g ds=some r/\RQ X.K kd O H Q r)
def ig(X:Cx)(kd:KD)(g:D->D->Option R0):Prop:=
 o8 X (λx y H Q=>∃O d e r,(∀a,O a->H a≠none)/\Vw X.K kd O H x d/\Vw X.K kd O H y e/\g d e=some r/\RQ X.K kd O H Q r)
noncomputable def meet:Option Bool->Option Bool->Option Bool
 |some a,some b=>some (a&&b)
 |_,_=>none
def Wx.meet1:∀x,Wx F B G (meet a b) x->Wx F B G a x:=λx h=>by
 cases a with
 |none=>cases b<;>exact h.elim
 |some p=>
  cases b with
  |none=>exact h.elim
  |some q=>exact Rb (λz=>((zyB _ _).mp z).1) x h
def Wx.meet2:∀x,Wx F B G (meet a b) x->Wx F B G b x:=λx h=>by
 cases a with
 |none=>cases b<;>exact h.elim
 |some p=>
  cases b with
  |none=>exact h.elim
  |some q=>exact Rb ⋯ x h
theorem Vw.less{K O O'}(g:∀a,O' a->O a)(h:Vw K kd O H v d):Vw K kd O' H v d:=by
 cases h with
 |non=>exact .non
 |bl b=>exact .bl b
 |int i=>exact .int i
 |str x=>exact .str x
 |tup r s l=>exact .tup (r.less g) s (l.less g)
 |lst h l=>exact .lst h (l.less g)
 |dct h l=>exact .dct h (l.less g)
 |cl c=>exact .cl c
 |ob h k l=>exact .ob h k (l.less g)
 |er h k l=>exact .er h k (l.less g)
def f2(fa fb:EF)(g:D->D->Option R0):EF:=λas=>(fa as).bind λp=>(fb p.2).bind λq=>(p.1.frz.view q.2).bind λx=>(q.1.frz.view q.2).bind λy=>(g x.1 y.1).bind λr=>(wrap (meet x.2 y.2) r).bind λz=>some (z,q.2)
def Ey{fa fb}{as S':AS}(h:f2 fa fb g as=some (rv,S')):
 ∃p U' q x y lx ly r,fa as=some (p,U')/\fb U'=some (q,S')/\p.frz.view S'=some (x,lx)/\q.frz.view S'=some (y,ly)/\g x y=some r/\wrap (meet lx ly) r=some rv:=by
 obtain⟨⟨p,U'⟩,⟨q,J'⟩,⟨x,lx⟩,h1,h2,h3,h⟩:=yU h;obtain⟨⟨y,ly⟩,r,z,h4,h5,h6,h⟩:=yU h;cases h;exact⟨p,U',q,x,y,lx,ly,r,h1,h2,h3,h4,h5,h6⟩
section
variable{X:Cx}
def lC(hr:∀x y H Q,(∃O d e r,(∀a,O a->H a≠none)/\Vw X.K kd O H x d/\Vw X.K kd O H y e/\g d e=some r/\RQ X.K kd O H Q r)->R2' x y H Q)
 (h:al X.K kd (f2 fa fb g) σ H Q):mC R2' (al X.K kd fa) (al X.K kd fb) σ H Q:=by
 obtain⟨F,B,ad,as,r,S',R,e,q⟩:=h;obtain⟨p,U',z,x,y,lx,ly,r0,h1,h2,h3,h4,h5,h6⟩:=Ey e;refine y9 R h1 λv M1 H1 R1 Co g1=>y9 R1 h2 λu CI H2 R2 rv2 g2=>hr _ _ _ _ ?_;exact⟨_,x,y,r0,R2.tr _,(yS.vw R2 (Co.grow g2) h3).less Wx.meet1,(yS.vw R2 rv2 h4).less Wx.meet2,h5,wa R2 h6 λw T' H' R' vb g'=>q w T' CI H' R' vb<|(g1.trans g2).trans g'⟩
def uN(ho:JF X kd (binaryOp op) g)(ha:AE X kd a fa)(kC:AE X kd b fb):AE X kd (.BinOp a op b pos) (f2 fa fb g):=by with_unfolding_all exact(yg (DO ho ha kC) λσ H Q h=>lC (λ_ _ _ _ z=>z) h)
def sQ(ho:JF X kd (compareOp op) g)(ha:AE X kd a fa)(kC:AE X kd b fb)(hm:behindInMarks op b=false):AE X kd (.Compare a [op] [b] pos) (f2 fa fb g):=by with_unfolding_all exact(yg (Ja ho ha kC hm) λσ H Q h=>lC (λ_ _ _ _ z=>z) h)
def nH(ho:ig X kd g)(ha:AE X kd a fa)(kC:AE X kd b fb)(hm:GQ b):AE X kd (.Subscript a b pos) (f2 fa fb g):=by with_unfolding_all exact(yg (lb ho ha kC hm) λσ H Q h=>lC (λ_ _ _ _ z=>z) h)
noncomputable def fC(d:D):EF:=λas=>some (.ow<|.lf true d,as)
noncomputable def fV(i:Nat):EF:=λas=>match as[i]? with
 |some (some (.lf st d))=>some (.ow<|.lf st d,as)
 |some (some (.nd _ _))=>some (.bo i,as)
 |_=>none
def U3(h:PE X a (tC v))(hr:∀O H,Rp X.K kd O H v d):AE X kd a (fC d):=by with_unfolding_all exact(yg h λσ H Q h=>by
 obtain⟨F,B,ad,as,r,S',R,e,q⟩:=h;cases e;exact q v [] ad H R (.lf<|hr _ _) Grow.refl)
def rN{i:Nat}(h:PE X a (Vz i)):AE X kd a (fV i):=by with_unfolding_all exact(yg h λσ H Q h=>by
 obtain⟨F,B,ad,as,r,S',R,e,q⟩:=h;unfold fV at e;cases k:as[i]? with
 |none=>rw[k]at e;cases e
 |some s=>
  rw[k]at e;cases s with
  |none=>cases e
  |some o=>
   obtain⟨v,h1,h2⟩:=R.sl i _ k;cases o with
   |lf st d=>
    cases e;have e0:ad i=[]:=by
     generalize hfp:ad i=fp at h2;cases h2;rfl
    rw[e0]at h2;exact⟨v,h1,q v [] ad H R h2 Grow.refl⟩
   |nd kk os=>
    cases e;exact⟨_,h1,q _ [] ad H R ⟨rfl,h1⟩ Grow.refl⟩)
end
noncomputable def ZA(ad:Ad)(i:Nat)(x:List Addr):Ad:=λj=>if j=i then x else ad j
section
variable{K:zzA}{kd:KD}{F B:Addr->Prop}{T T1 T2:List Addr}{ad M1:Ad}{as U':AS}{σ:St}{H H1:Hp}{v:V}{r:RV}{o:O}{i:Nat}
def zJ:ZA ad i x i=x:=if_pos rfl
def zQ{j:Nat}(h:j≠i):ZA ad i x j=ad j:=if_neg h
def Zm:∀a,Gw T (ZA ad i []) a->Gw T ad a:=λa h=>by
 rcases h with h|⟨j,h⟩
 . exact .inl h
 . by_cases e:j=i
   . subst e;rw[zJ]at h;cases h
   . rw[zQ e]at h;exact .inr ⟨j,h⟩
def v_:∀a,Gw [] (ZA ad i T) a->Gw T ad a:=λa h=>by
 rcases h with h|⟨j,h⟩
 . cases h
 . by_cases e:j=i
   . subst e;rw[zJ]at h;exact .inl h
   . rw[zQ e]at h;exact .inr ⟨j,h⟩
def EO:∀st a,Lv F (λa=>B a\/a ∈ T) (Gw [] ad) st a->Lv F B (Gw T ad) st a:=λst a z=>by
 rcases z with(z|z|z)|z
 . exact .inl<|.inl z
 . exact .inl<|.inr z
 . exact .inr<|.inl z
 . exact .inr<|Gw.drop a z
def XE:∀st a,Lv F B (Gw (T1++T2) ad) st a->Lv F (λa=>B a\/a ∈ T1) (Gw T2 ad) st a:=λst a z=>by
 rcases z with(z|z)|z|z
 . exact .inl<|.inl z
 . exact .inl<|.inr<|.inl z
 . rcases zzM.mp z with z|z
   . exact .inl<|.inr<|.inr z
   . exact .inr<|.inl z
 . exact .inr<|.inr z
def Rel.hide(R:Rel K kd F B T ad as σ H):Rel K kd F (λa=>B a\/a ∈ T) [] ad as σ H where
 len:=R.len
 out:=R.out
 nd:=R.nd
 inj:=R.inj
 tnd:=zyI
 dis:=λ_ _ _ z=>nomatch z
 ftr:=R.ftr
 btr:=λa h=>by
  rcases h with h|h
  . obtain⟨h1,h2,h3⟩:=R.btr a h;exact⟨h1,h2,λz=>h3<|Gw.drop a z⟩
  . exact⟨(R.gtr a<|.inl h).1,(R.gtr a<|.inl h).2,λz=>z.elim ⋯ λ⟨j,y⟩=>R.dis j a y h⟩
 gtr:=λa h=>R.gtr a (Gw.drop a h)
 sl:=λi s e=>(R.sl i s e).lv EO
def Rel.unhide(hn:T1.Nodup)(hb:∀a ∈ T1,¬B a)(R:Rel K kd F (λa=>B a\/a ∈ T1) T2 ad as σ H):Rel K kd F B (T1++T2) ad as σ H where
 len:=R.len
 out:=R.out
 nd:=R.nd
 inj:=R.inj
 tnd:=zxC.mpr ⟨hn,R.tnd,λa m b m' e=>by subst e;exact(R.btr a<|.inr m).2.2<|.inl m'⟩
 dis:=λi a m z=>by
  rcases zzM.mp z with z|z
  . exact(R.btr a<|.inr z).2.2<|.inr ⟨i,m⟩
  . exact R.dis i a m z
 ftr:=R.ftr
 btr:=λa h=>by
  obtain⟨h1,h2,h3⟩:=R.btr a<|.inl h;refine⟨h1,h2,λz=>?_⟩
  rcases z with z|z
  . rcases zzM.mp z with z|z
    . exact hb a z h
    . exact h3<|.inl z
  . exact h3 (.inr z)
 gtr:=λa h=>by
  rcases h with h|h
  . rcases zzM.mp h with h|h
    . exact⟨(R.btr a<|.inr h).1,(R.btr a<|.inr h).2.1⟩
    . exact R.gtr a<|.inl h
  . exact R.gtr a (.inr h)
 sl:=λi s e=>(R.sl i s e).lv XE
theorem Rel.frz(R:Rel K kd F B T ad as σ H)(h:as[i]? = some (some o)):
 Rel K kd F B T (ZA ad i []) (as.set i<|some o.frz) σ H/\∃v,σ[i]? = some (some v)/\Rp K kd (Lv F B (Gw T<|ZA ad i []) o.str) H v o.toD:=by
 obtain⟨v,hv,ro⟩:=R.sl i _ h;have rp:Rp K kd (Lv F B (Gw T<|ZA ad i []) o.str) H v o.toD:=
  Ro.rp o.str (λst v d hs r=>r.less λa z=>z.elim (λy=>.inl<|y.elim (λx=>.inl ⟨hs x.1,x.2⟩) .inr) λy=>.inr<|Zm a y)
   (λa n z=>n<|z.elim (λy=>.inl<|y.elim (λx=>.inl ⟨rfl,x.2⟩) .inr) λy=>.inr<|Zm a y) id
   (λa m z=>by
    rcases z with(z|z)|z|⟨j,z⟩
    . exact(R.gtr a<|.inr ⟨i,m⟩).2 z.2
    . exact(R.btr a z).2.2<|.inr ⟨i,m⟩
    . exact R.dis i a m z
    . by_cases e:j=i
      . subst e;rw[zJ]at z;cases z
      . rw[zQ e]at z;exact e<|R.inj j i a z m) ro
 have hi:=(zzG.mp h).1;refine⟨⟨by rw[zzU];exact R.len,λj hj=>?_,λj=>?_,λj k a h1 h2=>?_,R.tnd,λj a h1=>?_,R.ftr,λa h1=>?_,λa h1=>R.gtr a<|Zm a h1,λj s e=>?_⟩,v,hv,rp⟩
 . rw[zzU]at hj;rw[zQ ⋯];exact R.out j hj
 . by_cases e:j=i
   . subst e;rw[zJ];exact zyI
   . rw[zQ e];exact R.nd j
 . by_cases e:j=i
   . subst e;rw[zJ]at h1;cases h1
   . by_cases e':k=i
     . subst e';rw[zJ]at h2;cases h2
     . rw[zQ e]at h1;rw[zQ e']at h2;exact R.inj j k a h1 h2
 . by_cases e:j=i
   . subst e;rw[zJ]at h1;cases h1
   . rw[zQ e]at h1;exact R.dis j a h1
 . obtain⟨b1,b2,b3⟩:=R.btr a h1;exact⟨b1,b2,λz=>b3<|Zm a z⟩
 . by_cases q:j=i
   . subst q;rw[zyJ hi]at e;cases e;rw[zJ];exact⟨v,hv,.lf rp⟩
   . rw[zzX<|Ne.symm q]at e;rw[zQ q];exact(R.sl j s e).less Zm
def Rel.put(R:Rel K kd F B T ad as σ H)(hi:i<as.length)(h:YV K kd F B (Gw T ad) H v o T):Rel K kd F B [] (ZA ad i T) (as.set i<|some o) (σ.set i<|some v) H:=by
 have hi':i<σ.length:=by rwa [<-R.len]
 refine⟨by rw[zzU,zzU];exact R.len,λj hj=>?_,λj=>?_,λj k a h1 h2=>?_,zyI,(λ_ _ _ z=>nomatch z),R.ftr,λa h1=>?_,λa h1=>R.gtr a<|v_ a h1,λj s e=>?_⟩
 . rw[zzU]at hj;rw[zQ ⋯];exact R.out j hj
 . by_cases e:j=i
   . subst e;rw[zJ];exact R.tnd
   . rw[zQ e];exact R.nd j
 . by_cases e:j=i
   . subst e;rw[zJ]at h1
     by_cases e':k=j
     . exact e'.symm
     . rw[zQ e']at h2;exact(R.dis k a h2 h1).elim
   . rw[zQ e]at h1
     by_cases e':k=i
     . subst e';rw[zJ]at h2;exact(R.dis j a h1 h2).elim
     . rw[zQ e']at h2;exact R.inj j k a h1 h2
 . obtain⟨b1,b2,b3⟩:=R.btr a h1;exact⟨b1,b2,λz=>b3<|v_ a z⟩
 . by_cases q:j=i
   . subst q;rw[zyJ hi]at e;cases e;rw[zJ,zyJ hi'];exact⟨v,rfl,h.less v_⟩
   . rw[zzX<|Ne.symm q]at e;rw[zQ q,zzX<|Ne.symm q];exact(R.sl j s e).less v_
noncomputable def Ax(as:AS):RV->Option (O×AS)
 | .ow o=>some (o,as)
 | .bo i=>match as[i]? with
  |some (some o)=>some (o.frz,as.set i<|some o.frz)
  |_=>none
def UV(R:Rel K kd F B T ad as σ H)(h:yS K kd F B T ad σ H v r)(e:Ax as r=some (o,S')):∃Sh,Rel K kd F B T Sh S' σ H/\YV K kd F B (Gw T Sh) H v o T/\∀a,Gw T Sh a->Gw T ad a:=by
 cases r with
 |ow o'=>cases e;exact⟨ad,R,h,λ_ z=>z⟩
 |bo i=>
  have e:(match as[i]? with|some (some o)=>some _|_=>none)=some _:=e;cases k:as[i]? with
  |none=>rw[k]at e;cases e
  |some s=>
   cases s with
   |none=>rw[k]at e;cases e
   |some o1=>
    rw[k]at e;cases e;obtain⟨hT,hs⟩:=h;subst hT;obtain⟨R',w,hw,rp⟩:=R.frz k;rw[hs]at hw;cases hw;exact⟨_,R',.lf rp,Zm⟩
end
abbrev TF:=AS->Option (Bool×AS)
def Jc(K:zzA)(kd:KD)(f:TF):TT:=λσ H Q=>∃F B ad as b S',Rel K kd F B [] ad as σ H/\f as=some (b,S')/\
 ∀Sh H',Rel K kd F B [] Sh S' σ H'->Grow (Gw [] ad) H (Gw [] Sh) H'->Q b H'
@[irreducible] def AT(X:Cx)(kd:KD)(e:Expr)(f:TF):Prop:=PT X e<|Jc X.K kd f
@[irreducible] def AW(X:Cx)(kd:KD)(e:Expr)(f:TF):Prop:=PW X e<|Jc X.K kd f
noncomputable def truth:D->Option Bool
 | .bl b=>some b
 |_=>none
def fT(f:EF):TF:=λas=>(f as).bind λp=>(p.1.frz.view p.2).bind λx=>(truth x.1).bind λb=>some (b,p.2)
noncomputable def Uh(f g:TF):TF:=λas=>(f as).bind λp=>if p.1=true then g p.2 else some (false,p.2)
noncomputable def yY(f g:TF):TF:=λas=>(f as).bind λp=>if p.1=true then some (true,p.2)else g p.2
noncomputable def v7(f:TF):TF:=λas=>(f as).bind λp=>some (!p.1,p.2)
noncomputable def PR(c:TF)(f g:EF):EF:=λas=>(c as).bind λp=>if p.1=true then f p.2 else g p.2
noncomputable def LI:D->Option Int
 | .int i=>some i
 |_=>none
noncomputable def jT:D->Option Str
 | .str i=>some i
 |_=>none
noncomputable def lH:D->Option (List D)
 | .lst i=>some i
 |_=>none
noncomputable def iu:D->Option (List D)
 | .tup i=>some i
 |_=>none
def N3(e:lH d=some i):d = .lst i:=by
 cases d with
 |lst j=>cases e;rfl
 |_=>cases e
def uJ(e:iu d=some i):d = .tup i:=by
 cases d with
 |tup j=>cases e;rfl
 |_=>cases e
def MK(h:LI d=some c):d = .int c:=by
 cases d with
 |int i=>cases h;rfl
 |_=>cases h
noncomputable def ie:D->Option Bool
 | .bl i=>some i
 |_=>none
def qa(h:ie d=some c):d = .bl c:=by
 cases d with
 |bl i=>cases h;rfl
 |_=>cases h
noncomputable def jn:RV->Option D
 | .ow (.lf _ d)=>some d
 |_=>none
def CL(h:jn r=some d):∃st,r = .ow (.lf st d):=by
 cases r with
 |bo i=>cases h
 |ow o=>
  cases o with
  |nd k os=>cases h
  |lf st d=>cases h;exact⟨st,rfl⟩
def lj(r:RV):Option Bool:=(jn r).bind ie
def N9(h:lj r=some c):∃st,r = .ow (.lf st<|.bl c):=by
 obtain⟨d,h1,h⟩:=bS_ h;cases qa h;exact CL h1
def iF(r:RV):Option Int:=(jn r).bind LI
def tV(h:iF r=some c):∃st,r = .ow (.lf st<|.int c):=by
 obtain⟨d,h1,h⟩:=bS_ h;cases MK h;exact CL h1
def Kc(f g:EF):EF:=λas=>(f as).bind λp=>(lj p.1).bind λc=>if c=true then g p.2 else some (.ow<|.lf true<|.bl false,p.2)
def lp(f g:EF):EF:=λas=>(f as).bind λp=>(lj p.1).bind λc=>if c=true then some (.ow<|.lf true<|.bl true,p.2)else g p.2
def qX(f:EF):EF:=λas=>(f as).bind λp=>(lj p.1).bind λc=>some (.ow<|.lf true<|.bl<|!c,p.2)
def f1(fa:EF)(g:D->Option R0):EF:=λas=>(fa as).bind λp=>(p.1.frz.view p.2).bind λx=>(g x.1).bind λr=>(wrap x.2 r).bind λz=>some (z,p.2)
section
variable{X:Cx}{tb:TF}{Y':List Expr}
def GP(h:PT X e t)(k:∀σ H Q,t' σ H Q->t σ H Q):PT X e t':=λZ' s σ H Q I q=>h Z' s σ H Q I<|k σ H Q q
def SG(h:PW X e t)(k:∀σ H Q,t' σ H Q->t σ H Q):PW X e t':=λw Z' s σ H Q I q=>h w Z' s σ H Q I<|k σ H Q q
def sW{O}(h:Vw X.K kd O H v d)(e:truth d=some k):sd v k:=by
 cases h with
 |bl b=>cases e;rfl
 |_=>cases e
def ML(ha:AE X kd a fa)(he:∀whole,isTrue a X.env whole=(do let v <-whole;standAt a.pos;holding [v] (truthy v))):AT X kd a (fT fa):=by with_unfolding_all exact(GP (Hk ha he) λσ H Q h=>by
 obtain⟨F,B,ad,as,bb,S',R,e,q⟩:=h;obtain⟨_,_,k,h1,h2,h3,e⟩:=yU e;cases e;exact y9 R h1 λv M1 H1 R1 Co g1=>⟨_,sW (yS.vw R1 Co h2) h3,q M1 H1 R1 g1⟩)
def uB(ho:JF X kd (compareOp op) g)(hg:∀x y r,g x y=some r->∃k,r = .im (.bl k))(ha:AE X kd a fa)(hb:AE X kd b fb)(hm:behindInMarks op b=false):
 AT X kd (.Compare a [op] [b] pos) (fT<|f2 fa fb g):=by with_unfolding_all exact(GP (Ag ho ha hb hm) λσ H Q h=>by
 obtain⟨F,B,ad,as,bb,S',R,e,q⟩:=h;obtain⟨⟨p,U'⟩,_,k,h1,h2,h3,e⟩:=yU e;cases e;obtain⟨_,_,_,x,y,_,_,r0,_,_,_,_,hp,hw⟩:=Ey h1;obtain⟨k',rfl⟩:=hg _ _ _ hp;cases hw;cases h2;cases h3;refine lC (λ_ _ _ _ z=>z) ⟨F,B,ad,as,_,_,R,h1,λv T' Sh H' R' rv g'=>?_⟩;cases rv with
 |lf rp=>
  cases rp;exact⟨_,rfl,q Sh H' R' g'⟩)
def sD(ha:AT X kd a ta):AT X kd (.UnaryOp .Not a pos) (v7 ta):=by with_unfolding_all exact(GP (tK ha) λσ H Q h=>by
 obtain⟨F,B,ad,as,bb,S',R,e,q⟩:=h;obtain⟨⟨p,U'⟩,h1,e⟩:=bS_<|e;cases e;exact⟨F,B,ad,as,p,_,R,h1,λSh H' R' g=>q Sh H' R' g⟩)
def U1(ha:AT X kd a ta):AW X kd (.BoolOp .And [a] pos) ta:=by with_unfolding_all exact(JR ha)
def FF(ha:AT X kd a ta):AW X kd (.BoolOp .Or [a] pos) ta:=by with_unfolding_all exact(rM ha)
def C6(ha:AT X kd a ta)(hb:AW X kd (.BoolOp .And (b::Y') pos) tb):AW X kd (.BoolOp .And (a::b::Y') pos) (Uh ta tb):=by with_unfolding_all exact(SG (qc ha hb) λσ H Q h=>by
 obtain⟨F,B,ad,as,bb,S',R,e,q⟩:=h;obtain⟨⟨p,U'⟩,h1,e⟩:=bS_<|e;refine⟨F,B,ad,as,p,U',R,h1,λSh H' R' g=>?_⟩;cases p with
 |true=>exact⟨F,B,Sh,U',bb,S',R',e,λCI H2 R2 g2=>q CI H2 R2<|g.trans g2⟩
 |false=>cases e;exact q Sh H' R' g)
def mN(ha:AT X kd a ta)(hb:AW X kd (.BoolOp .Or (b::Y') pos) tb):AW X kd (.BoolOp .Or (a::b::Y') pos) (yY ta tb):=by with_unfolding_all exact(SG (mz ha hb) λσ H Q h=>by
 obtain⟨F,B,ad,as,bb,S',R,e,q⟩:=h;obtain⟨⟨p,U'⟩,h1,e⟩:=bS_<|e;refine⟨F,B,ad,as,p,U',R,h1,λSh H' R' g=>?_⟩;cases p with
 |false=>exact⟨F,B,Sh,U',bb,S',R',e,λCI H2 R2 g2=>q CI H2 R2<|g.trans g2⟩
 |true=>cases e;exact q Sh H' R' g)
def AW.at_(h:AW X kd e ta):AT X kd e ta:=by with_unfolding_all exact(PW.pt h)
def o5(hc:AT X kd c ta)(ha:AE X kd a fa)(hb:AE X kd b fb):AE X kd (.IfExp c a b pos) (PR ta fa fb):=by with_unfolding_all exact(yg (HQ hc ha hb) λσ H Q h=>by
 obtain⟨F,B,ad,as,r,S',R,e,q⟩:=h;obtain⟨⟨p,U'⟩,h1,e⟩:=bS_<|e;refine⟨F,B,ad,as,p,U',R,h1,λSh H' R' g=>?_⟩;cases p with
 |true=>exact⟨F,B,Sh,U',r,S',R',e,λv T2 CI H2 R2 rv g2=>q v T2 CI H2 R2 rv<|g.trans g2⟩
 |false=>exact⟨F,B,Sh,U',r,S',R',e,λv T2 CI H2 R2 rv g2=>q v T2 CI H2 R2 rv<|g.trans g2⟩)
def S9{K ad st c}(h:yS K kd F B T ad σ H v (.ow<|.lf st<|.bl c)):T=[]/\v = .bl c:=by
 cases h with
 |lf rp=>cases rp;exact ⋯
def Cg(ha:AE X kd a fa):AE X kd (.BoolOp op [a] pos) fa:=by with_unfolding_all exact ⋯
def O9(ha:AE X kd a fa)(hb:AE X kd (.BoolOp .And (b::Y') pos) fb):AE X kd (.BoolOp .And (a::b::Y') pos) (Kc fa fb):=by with_unfolding_all exact(yg (uz ha hb) λσ H Q h=>by
 obtain⟨F,B,ad,as,r,S',R,e,q⟩:=h;obtain⟨⟨p,U'⟩,h1,e⟩:=bS_<|e;refine⟨F,B,ad,as,p,U',R,h1,λv T' Sh H' R' rv g=>?_⟩;obtain⟨k,e1,e⟩:=bS_ e;obtain⟨st,rfl⟩:=N9 e1;obtain⟨rfl,rfl⟩:=S9 rv;cases k with
 |true=>exact⟨true,rfl,⟨F,B,Sh,U',r,S',R',e,λv T2 CI H2 R2 rv g2=>q v T2 CI H2 R2 rv<|g.trans g2⟩⟩
 |false=>
  cases e;exact⟨false,rfl,q _ [] Sh H' R' (.lf<|.bl false) g⟩)
def mh(ha:AE X kd a fa)(hb:AE X kd (.BoolOp .Or (b::Y') pos) fb):AE X kd (.BoolOp .Or (a::b::Y') pos) (lp fa fb):=by with_unfolding_all exact(yg (n0 ha hb) λσ H Q h=>by
 obtain⟨F,B,ad,as,r,S',R,e,q⟩:=h;obtain⟨⟨p,U'⟩,h1,e⟩:=bS_<|e;refine⟨F,B,ad,as,p,U',R,h1,λv T' Sh H' R' rv g=>?_⟩;obtain⟨k,e1,e⟩:=bS_ e;obtain⟨st,rfl⟩:=N9 e1;obtain⟨rfl,rfl⟩:=S9 rv;cases k with
 |false=>exact⟨false,rfl,⟨F,B,Sh,U',r,S',R',e,λv T2 CI H2 R2 rv g2=>q v T2 CI H2 R2 rv<|g.trans g2⟩⟩
 |true=>
  cases e;exact⟨true,rfl,q _ [] Sh H' R' (.lf<|.bl true) g⟩)
def tE(ha:AE X kd a fa):AE X kd (.UnaryOp .Not a pos) (qX fa):=by with_unfolding_all exact(yg (u_ ha) λσ H Q h=>by
 obtain⟨F,B,ad,as,r,S',R,e,q⟩:=h;obtain⟨⟨p,U'⟩,h1,e⟩:=bS_<|e;refine⟨F,B,ad,as,p,U',R,h1,λv T' Sh H' R' rv g=>?_⟩;obtain⟨k,e1,e⟩:=bS_ e;obtain⟨st,rfl⟩:=N9 e1;obtain⟨rfl,rfl⟩:=S9 rv;cases e;exact⟨k,rfl,q _ [] Sh H' R' (.lf<|.bl _) g⟩)
def nF(ho:jU X kd (unaryOp op) g)(ha:AE X kd a fa):AE X kd (.UnaryOp op a pos) (f1 fa g):=by with_unfolding_all exact(yg (nR ho ha) λσ H Q h=>by
 obtain⟨F,B,ad,as,r,S',R,e,q⟩:=h;obtain⟨_,⟨x,lv⟩,z,h1,h2,h3,e⟩:=yU e;obtain⟨y,h4,e⟩:=bS_ e;cases e;refine y9 R h1 λv M1 H1 R1 Co g1=>⟨_,x,z,R1.tr _,yS.vw R1 Co h2,h3,wa R1 h4 λw T' H' R' vb g'=>q w T' M1 H' R' vb<|g1.trans g'⟩)
end
abbrev AF:=AS->Option (List RV×AS)
inductive RVs(K:zzA)(kd:KD)(F B:Addr->Prop)(ad:Ad)(σ:St)(H:Hp):List V->List RV->Prop
 |nil:RVs K kd F B ad σ H [] []
 |cons {v:V}{r:RV}{vs:List V}{rs:List RV}:yS K kd F B [] ad σ H v r->RVs K kd F B ad σ H vs rs->RVs K kd F B ad σ H (v::vs) (r::rs)
def lz(K:zzA)(kd:KD)(f:AF):TA:=λσ H Q=>∃F B ad as rs S',Rel K kd F B [] ad as σ H/\f as=some (rs,S')/\
 ∀vs Sh H',Rel K kd F B [] Sh S' σ H'->RVs K kd F B Sh σ H' vs rs->Grow (Gw [] ad) H (Gw [] Sh) H'->Q vs H'
@[irreducible] def AA(X:Cx)(kd:KD)(es:List Expr)(f:AF):Prop:=PA X es<|lz X.K kd f
noncomputable def aN:AF:=λas=>some ([],as)
noncomputable def aC(fa:EF)(fr:AF):AF:=λas=>(fa as).bind λp=>(fr p.2).bind λq=>some (p.1.frz::q.1,q.2)
def Ur(h:PA X e t)(k:∀σ H Q,t' σ H Q->t σ H Q):PA X e t':=λpos Z' s σ H Q I q=>h pos Z' s σ H Q I<|k σ H Q q
abbrev DF:=AS->Option (List O×AS)
def ll(K:zzA)(kd:KD)(f:DF):TA:=λσ H Q=>∃F B ad as os S',Rel K kd F B [] ad as σ H/\f as=some (os,S')/\
 ∀vs T' Sh H',Rel K kd F B T' Sh S' σ H'->ZG K kd F B (Gw T' Sh) H' vs os T'->Grow (Gw [] ad) H (Gw T' Sh) H'->Q vs H'
@[irreducible] def AD(X:Cx)(kd:KD)(es:List Expr)(f:DF):Prop:=PA X es<|ll X.K kd f
noncomputable def dN:DF:=λas=>some ([],as)
def dC(fa:EF)(fr:DF):DF:=λas=>(fa as).bind λp=>(Ax p.2 p.1).bind λx=>(fr x.2).bind λq=>some (x.1::q.1,q.2)
def views(as:AS):List RV->Option (List D×Option Bool)
 | []=>some ([],some true)
 |r::rs=>(r.view as).bind λx=>(views as rs).bind λy=>some (x.1::y.1,meet x.2 y.2)
def fP(fr:AF)(g:List D->Option R0):EF:=λas=>(fr as).bind λp=>(views p.2 p.1).bind λx=>(g x.1).bind λr=>(wrap x.2 r).bind λz=>some (z,p.2)
def nP(as:AS):RV->Option (Bool×D)
 | .ow o=>some (zB o.toD||o.str,o.toD)
 | .bo i=>match as[i]? with
  |some (some o)=>some (false,o.toD)
  |_=>none
def xW(as:AS):List RV->Option (List<|Bool×D)
 | []=>some []
 |r::rs=>(nP as r).bind λx=>(xW as rs).bind λy=>some (x::y)
def zf(fr:AF)(g:List (Bool×D)->Option O):EF:=λas=>(fr as).bind λp=>(xW p.2 p.1).bind λx=>(g x).bind λo=>some (.ow o,p.2)
def jv(K:zzA)(kd:KD)(F:Addr->Prop)(H:Hp)(Q:VK)(o:O):Prop:=
 ∀v T H',T.Nodup->(∀a ∈ T,H a=none)->(∀b u,H b=some u->H' b=some u)->(∀a ∈ T,H' a≠none)->Ro (λ_ v d=>Rp K kd (VL F (· ∈ T)) H' v d) (λa=>¬VL F (· ∈ T) a) H' v o T->Q v H'
inductive RpA(K:zzA)(kd:KD)(F:Addr->Prop)(H:Hp):List V->List (Bool×D)->Prop
 |nil:RpA K kd F H [] []
 |cons {v:V}{st:Bool}{d:D}{vs:List V}{ds:List (Bool×D)}:Rp K kd (λa=>st=true/\F a) H v d->RpA K kd F H vs ds->RpA K kd F H (v::vs) ((st,d)::ds)
def G9(K:zzA)(kd:KD)(g:List (Bool×D)->Option O):Sp:=λvs H Q _=>∃F ds o,(∀a,F a->H a≠none)/\RpA K kd F H vs ds/\g ds=some o/\jv K kd F H Q o
def Xh(os:List O):O:=if os.all O.isLf=true then .lf (O.strs os) (.tup<|O.toDs os)else .nd .tp os
def yC(fr:DF):EF:=λas=>(fr as).bind λp=>if p.1.length<=sizeLine then some (.ow<|Xh p.1,p.2)else none
noncomputable def yx(fr:DF):EF:=λas=>(fr as).bind λp=>if p.1.length<=sizeLine then some (.ow<|.nd .ls p.1,p.2)else none
section
variable{X:Cx}
theorem RpA.length{K}(h:RpA K kd F H vs ds):vs.length=ds.length:=by
 induction h with
 |nil=>rfl
 |cons _ _ ih=>exact congrArg _ ih
def yw:AA X kd [] aN:=by with_unfolding_all exact(Ur Zn λσ H Q h=>by
 obtain⟨F,B,ad,as,rs,S',R,e,q⟩:=h;cases e;exact q [] ad H R .nil Grow.refl)
def JE(ha:AE X kd a fa)(hr:AA X kd es fr)(hs:starEach (a::es) X.env=(false,eval a X.env)::starEach es X.env):AA X kd (a::es) (aC fa fr):=by with_unfolding_all exact(Ur (yj ha hr hs) λσ H Q h=>by
 obtain⟨F,B,ad,as,rs,S',R,e,q⟩:=h;obtain⟨⟨p,U'⟩,⟨z,J'⟩,h1,h2,e⟩:=yu e;cases e;refine y9 R h1 λv M1 H1 R1 Co g1=>⟨F,B,M1,U',z,_,R1,h2,λvs CI H2 R2 rv2 g2=>?_⟩;exact q _ CI H2 R2 (.cons (Co.grow g2) rv2)<|g1.trans g2)
def Zy:AD X kd [] dN:=by with_unfolding_all exact(Ur Zn λσ H Q h=>by
 obtain⟨F,B,ad,as,rs,S',R,e,q⟩:=h;cases e;exact q [] [] ad H R .nil Grow.refl)
def W_{σ}{H}{Q}(h:ll X.K kd (dC fa fd) σ H Q):E9 (al X.K kd fa) (ll X.K kd fd) σ H Q:=by
 obtain⟨F,B,ad,as,rs,S',R,e,q⟩:=h;obtain⟨⟨p,U'⟩,⟨o,J'⟩,⟨os,vi⟩,h1,h2,h3,e⟩:=yU e;cases e;refine⟨F,B,ad,as,p,U',R,h1,λv T1 M1 H1 R1 Co g1=>?_⟩;obtain⟨CI,R2,ro2,le2⟩:=UV R1 Co h2;refine⟨F,_,CI,J',os,_,R2.hide,h3,λvs T3 vn H3 R3 ro3 g3=>?_⟩;refine q _ _ vn H3 (R3.unhide R2.tnd λa m z=>(R2.btr a z).2.2<|.inl m) (.cons (YV.lv XE<|YV.grow g3 (λa m u e=>g3.keep a u e λz=>z.elim ⋯ λ⟨i,y⟩=>R2.dis i a y m)<|YV.lv EO ro2)<|ZG.lv XE ro3)<|(g1.trans<|Grow.less le2).trans ⟨λb u e n=>g3.keep b u e λz=>n<|Gw.drop b z,λb z=>?_⟩
 rcases z with z|z
 . rcases zzM.mp z with z|z
   . exact .inl<|.inl z
   . exact(g3.own b<|.inl z).elim (λy=>.inl<|Gw.drop b y) .inr
 . exact(g3.own b<|.inr z).elim (λy=>.inl<|Gw.drop b y) .inr
def Jn(ha:AE X kd a fa)(hr:AD X kd es fd)(hs:starEach (a::es) X.env=(false,eval a X.env)::starEach es X.env):AD X kd (a::es) (dC fa fd):=by with_unfolding_all exact(Ur (yj ha hr hs) λσ H Q h=>W_ h)
def qd(h:AD X kd es fd):AE X kd (.Tuple es x1 pos) (yC fd):=by with_unfolding_all exact(yg (Hi h) λσ H Q h=>by
 obtain⟨F,B,ad,as,r,S',R,e,q⟩:=h;obtain⟨⟨os,U'⟩,h1,e⟩:=bS_<|e;obtain⟨hz,e⟩:=zv e;cases e;refine⟨F,B,ad,as,os,_,R,h1,λvs T1 M1 H1 R1 ro1 g1=>⟨by rw[ro1.length];exact hz,λp hp=>?_⟩⟩;have k:∀b o,H1 b=some o->upd H1 p (.tup vs) b=some o:=λb o hb=>by rwa [zu<|zO hb hp]
 obtain⟨R2,g2⟩:=R1.more k;have ro2:=ZG.grow g2 (λa _ u h=>k a u h) ro1;have np:=λst z=>R1.trk st p z hp;refine q _ T1 M1 _ R2 ?_<|g1.trans g2;unfold Xh
 by_cases hl:os.all O.isLf=true
 . rw[if_pos hl];have:=Hw ro2 hl;subst this;exact .lf<|.tup (np _) (.inl zF)<|UJ ro2 hl
 . rw[if_neg hl];exact .tp (np _) zF ro2)
def Yr(h:AD X kd es fd):AE X kd (.List es pos) (yx fd):=by with_unfolding_all exact(yg (sH h) λσ H Q h=>by
 obtain⟨F,B,ad,as,r,S',R,e,q⟩:=h;obtain⟨⟨os,U'⟩,h1,e⟩:=bS_<|e;obtain⟨hz,e⟩:=zv e;cases e;refine⟨F,B,ad,as,os,_,R,h1,λvs T1 M1 H1 R1 ro1 g1=>⟨by rw[ro1.length];exact hz,λp hp=>?_⟩⟩;have k:∀b o,H1 b=some o->upd H1 p (.lst vs) b=some o:=λb o hb=>by rwa [zu<|zO hb hp]
 obtain⟨R2,g2⟩:=R1.add (N:=[p]) ⋯ (λa m=>by rwa [zzR.mp m]) k (λa m=>by rw[zzR.mp m,zF];simp);exact q _ _ M1 _ R2 (.ls zF<|ZG.grow g2 (λa _ u h=>k a u h) ro1)<|g1.trans g2)
theorem VwL.less{K O O'}(g:∀a,O' a->O a)(h:VwL K kd O H vs ds):VwL K kd O' H vs ds:=by
 induction h with
 |nil=>exact .nil
 |cons h _ ih=>exact .cons (h.less g) ih
def XZ{K ad}(R:Rel K kd F B [] ad as σ H)(h:RVs K kd F B ad σ H vs rs)(e:views as rs=some (ds,lv)):VwL K kd (Wx F B (Gw [] ad) lv) H vs ds:=by
 induction h generalizing ds lv with
 |nil=>cases e;exact .nil
 |cons h t ih=>
  obtain⟨_,_,h1,h2,e⟩:=yu e;cases e;exact .cons ((yS.vw R h h1).less Wx.meet1)<|(ih h2).less Wx.meet2
def iA{R':List V->Hp->VK->Prop}(hr:∀vs H Q,(∃O ds r,(∀a,O a->H a≠none)/\VwL X.K kd O H vs ds/\g ds=some r/\RQ X.K kd O H Q r)->R' vs H Q)
 (h:al X.K kd (fP fr g) σ H Q):lz X.K kd fr σ H λvs H1=>R' vs H1 Q:=by
 obtain⟨F,B,ad,as,r,S',R,e,q⟩:=h;obtain⟨⟨p,U'⟩,⟨ds,lv⟩,z,h1,h2,h3,e⟩:=yU e;obtain⟨y,h4,e⟩:=bS_ e;cases e;exact⟨F,B,ad,as,p,_,R,h1,λvs M1 H1 R1 Co g1=>hr _ _ _ ⟨_,ds,z,R1.tr _,XZ R1 Co h2,h3,wa R1 h4 λw T' H' R' vb g'=>q w T' M1 H' R' vb<|g1.trans g'⟩⟩
def Ka{K ad}(R:Rel K kd F B [] ad as σ H)(h:RVs K kd F B ad σ H vs rs)(e:xW as rs=some ds):RpA K kd (Lv F B (Gw [] ad) true) H vs ds:=by
 induction h generalizing ds with
 |nil=>cases e;exact .nil
 |cons h t ih=>
  rename_i v r vs rs;obtain⟨_,ds,h1,h2,e⟩:=yu e;cases e;refine .cons ?_<|ih h2;cases r with
  |ow o=>
   cases h1;cases hf:zB o.toD with
   |true=>exact(Tr h).flat hf
   |false=>
    refine(UX h).less λa z=>?_;have zs:o.str=true:=z.1;rw[zs];exact z.2
  |bo i=>
   have e:(match as[i]? with|some (some o)=>some _|_=>none)=some _:=h1;cases k:as[i]? with
   |none=>rw[k]at e;cases e
   |some s=>
    cases s with
    |none=>rw[k]at e;cases e
    |some o=>
     rw[k]at e;cases e;obtain⟨w,hw,ro⟩:=R.sl i _ k;rw[h.2]at hw;cases hw;exact(Tr ro).less λa z=>nomatch z.1
def CM{K ad}(R:Rel K kd F B [] ad as σ H)(q:∀v T' H',Rel K kd F B T' ad as σ H'->yS K kd F B T' ad σ H' v (.ow o)->Grow (Gw [] ad) H (Gw T' ad) H'->Q v H'):
 jv K kd (Lv F B (Gw [] ad) true) H Q o:=λv T H' hn hl k h1 ro=>by
 obtain⟨R',g⟩:=R.news hn hl k h1;have le:∀st a,Lv F B (Gw T ad) st a->VL (Lv F B (Gw [] ad) true) _ a:=λst a z=>by
  rcases z with(z|z)|z|z
  . exact .inl<|.inl<|.inl ⟨rfl,z.2⟩
  . exact .inl<|.inl<|.inr z
  . exact .inr z
  . exact .inl<|.inr<|.inr z
 exact q v T H' R' (Ro.mono (λst v d r=>r.less<|le st) (λa vs n e=>⟨λz=>n<|le true a z,e⟩) (λ_ _ _ e=>e) ro) g
def t4(h:al X.K kd (zf fr g) σ H Q):Dk (G9 X.K kd g) [] E (lz X.K kd fr) σ H Q:=by
 obtain⟨F,B,ad,as,r,S',R,e,q⟩:=h;obtain⟨⟨p,U'⟩,ds,o,h1,h2,h3,e⟩:=yU e;cases e;refine⟨F,B,ad,as,p,_,R,h1,λvs M1 H1 R1 Co g1=>?_⟩;show G9 X.K kd g _ H1 Q E;rw[zyD];exact⟨_,ds,o,R1.trk true,Ka R1 Co h2,h3,CM R1 λw T' H' R' vb g'=>q w T' M1 H' R' vb<|g1.trans g'⟩
end
inductive Out where
 |nx (as:AS)|rt (o:O)|bk (as:AS)|ct (as:AS)
abbrev SF:=AS->Option Out
structure RetOk(K:zzA)(kd:KD)(F:Addr->Prop)(T:List Addr)(H:Hp)(v:V)(o:O):Prop where
 nd:T.Nodup
 tr:∀a ∈ T,H a≠none
 ro:Ro (λ_ v d=>Rp K kd (VL F (· ∈ T)) H v d) (λa=>¬VL F (· ∈ T) a) H v o T
def Ku(K:zzA)(kd:KD)(F B:Addr->Prop)(ad:Ad)(H:Hp)(D:Ends):Out->Prop
 | .nx S'=>∀P' Sh H',Rel K kd F B [] Sh S' P' H'->Grow (Gw [] ad) H (Gw [] Sh) H'->D.nx P' H'
 | .bk S'=>∀P' Sh H',Rel K kd F B [] Sh S' P' H'->Grow (Gw [] ad) H (Gw [] Sh) H'->D.bk P' H'
 | .ct S'=>∀P' Sh H',Rel K kd F B [] Sh S' P' H'->Grow (Gw [] ad) H (Gw [] Sh) H'->D.ct P' H'
 | .rt o=>∀v T H',RetOk K kd F T H' v o->Grow (Gw [] ad) H (· ∈ T) H'->D.rt v H'
def be(K:zzA)(kd:KD)(f:SF):TS:=λD σ H=>∃F B ad as o,Rel K kd F B [] ad as σ H/\f as=some o/\Ku K kd F B ad H D o
@[irreducible] def Rw(X:Cx)(kd:KD)(st:Stmt)(f:SF):Prop:=PS X st<|be X.K kd f
@[irreducible] def P_(X:Cx)(kd:KD)(st:List Stmt)(f:SF):Prop:=Pw X st<|be X.K kd f
def vV(h:PS X e t)(k:∀D σ H,t' D σ H->t D σ H):PS X e t':=λa s σ H D I q=>h a s σ H D I<|k D σ H q
def WK(h:Pw X e t)(k:∀D σ H,t' D σ H->t D σ H):Pw X e t':=λa s σ H D I q=>h a s σ H D I<|k D σ H q
def Ku.pre{K ad M1 D}(g:Grow (Gw [] ad) H (Gw [] M1) H1)(h:Ku K kd F B ad H D o):Ku K kd F B M1 H1 D o:=by
 cases o with
 |nx as=>exact λP' Sh H' R g'=>h P' Sh H' R (g.trans g')
 |bk as=>exact λP' Sh H' R g'=>h P' Sh H' R (g.trans g')
 |ct as=>exact λP' Sh H' R g'=>h P' Sh H' R (g.trans g')
 |rt r=>exact λv T H' R g'=>h v T H' R<|g.trans g'
noncomputable def xf:SF:=λas=>some<|.nx as
noncomputable def pz:SF:=λas=>some<|.bk as
noncomputable def ze(f g:SF):SF:=λas=>(f as).bind λo=>match o with | .nx S'=>g S'|o=>some o
noncomputable def yN(c:TF)(f g:SF):SF:=λas=>(c as).bind λp=>if p.1=true then f p.2 else g p.2
noncomputable def yE(f:EF):SF:=λas=>(f as).bind λp=>some<|.nx p.2
noncomputable def Hb(as:AS):RV->Option O
 | .ow o=>if o.str=true then some o else none
 | .bo i=>match as[i]? with
  |some (some o)=>if o.str=true then some o else none
  |_=>none
def zt(f:EF):SF:=λas=>(f as).bind λp=>(Hb p.2 p.1).bind λo=>some<|.rt o
def zm(z:Bool)(i:Nat)(f:EF):SF:=λas=>(f as).bind λp=>(Ax p.2 (if z=true then p.1.frz else p.1)).bind λx=>if i<x.2.length then some (.nx<|x.2.set i<|some x.1)else none
def Ro.strong(h:Ro L N H v o fp)(e:o.str=true):Ro (λst v d=>st=true/\L st v d) N H v o fp:=
 Ro.rec (motive_2:=λvs os fp _=>O.strs os=true->RoL _ N H vs os fp)
  (λh e=>.lf ⟨e,h⟩) (λh _ r e=>.ls h<|r e) (λh l _ r e=>.dc h l<|r e) (λc h l _ r e=>.ob ⟨rfl,c⟩ h l<|r e) (λn h _ r e=>.tp n h<|r e) (λ_=>.nil) (λ_ _ h r e=>.cons (h ((zyB _ _).mp e).1)<|r ((zyB _ _).mp e).2) h e
section
variable{K:zzA}{kd:KD}{F B:Addr->Prop}{T:List Addr}{ad M1:Ad}{as U':AS}{σ:St}{H H1:Hp}{v:V}{r:RV}{o:O}
def MM(R:Rel K kd F B T ad as σ H)(hn:T'.Nodup)(hs:∀a ∈ T',Gw T ad a)(h:YV K kd F B (Gw T ad) H v o T')(e:o.str=true):RetOk K kd F T' H v o:=by
 have b:∀a,VL F _ a->Lv F B _ true a:=λa z=>z.elim (λy=>.inl<|.inl ⟨rfl,y⟩) λy=>.inr<|hs a y;exact⟨hn,λa m=>(R.gtr a<|hs a m).1,Ro.mono (λc v d r=>by obtain⟨rfl,r⟩:=r;exact r.less b) (λa f n e=>⟨λz=>n<|b a z,e⟩) (λ_ _ _ e=>e)<|Ro.strong h e⟩
def Rel.ret(R:Rel K kd F B T ad as σ H)(hr:yS K kd F B T ad σ H v r)(e:Hb as r=some o):∃T',RetOk K kd F T' H v o/\∀b ∈ T',Gw T ad b:=by
 cases r with
 |ow g=>
  obtain⟨c,rfl⟩:=zv e;exact⟨T,MM R R.tnd (λa m=>.inl m) hr c,λa m=>.inl m⟩
 |bo i=>
  have e:(match as[i]? with|some (some o)=>if o.str=true then some o else none|_=>none)=some o:=e;cases k:as[i]? with
  |none=>rw[k]at e;cases e
  |some s=>
   cases s with
   |none=>rw[k]at e;cases e
   |some h=>
    rw[k]at e;obtain⟨c,rfl⟩:=zv e;obtain⟨w,d,f⟩:=R.sl i _ k;rw[hr.2]at d;cases d;exact⟨ad i,MM R (R.nd i) (λa m=>.inr ⟨i,m⟩) f c,λa m=>.inr ⟨i,m⟩⟩
end
section
variable{X:Cx}{kd:KD}{st:Stmt}{sts Y':List Stmt}{a b c e:Expr}{ta:TF}{pos:Pos}{f g:SF}
def Ho:Rw X kd (.Break pos) pz:=by with_unfolding_all exact(vV OH λD σ H h=>by
 obtain⟨F,B,a,as,o,R,e,q⟩:=h;cases e;exact q σ a H R Grow.refl)
def vH:P_ X kd [] xf:=by with_unfolding_all exact(WK Q_ λD σ H h=>by
 obtain⟨F,B,a,as,o,R,e,q⟩:=h;cases e;exact q σ a H R Grow.refl)
def y7(h1:Rw X kd st f)(h2:P_ X kd Y' g):P_ X kd (st::Y') (ze f g):=by with_unfolding_all exact(WK (Zq h1 h2) λD σ H h=>by
 obtain⟨F,B,ad,as,o,R,e,q⟩:=h;obtain⟨o1,e1,e⟩:=bS_<|e;refine⟨F,B,ad,as,o1,R,e1, ?_⟩;cases o1 with
 |nx U'=>exact λP' Sh H' R' g'=>⟨F,B,Sh,U',o,R',e,q.pre g'⟩
 |bk U'=>cases e;exact q
 |ct U'=>cases e;exact q
 |rt r=>cases e;exact q)
def yD(h1:Rw X kd st f):P_ X kd [st] f:=by with_unfolding_all exact(Ke h1)
noncomputable def lK:SF:=λ_=>none
def pX:Rw X kd st lK:=by with_unfolding_all exact(λa s σ H D I h=>by obtain⟨F,B,b,as,o,R,e,q⟩:=h;cases e)
def Xb(hc:AT X kd c ta)(ha:P_ X kd sts f)(hb:P_ X kd Y' g):Rw X kd (.If c sts Y' pos) (yN ta f g):=by with_unfolding_all exact(vV (Dh hc ha hb) λD σ H h=>by
 obtain⟨F,B,i,as,o,R,e,q⟩:=h;obtain⟨⟨p,a⟩,j,e⟩:=bS_<|e;refine⟨F,B,i,as,p,a,R,j,λb k d g=>?_⟩;cases p with
 |true=>exact⟨F,B,b,a,o,d,e,q.pre g⟩
 |false=>exact⟨F,B,b,a,o,d,e,q.pre g⟩)
def Ua(he:AE X kd e fa)(hs:swapsWith e none pos.line X.env=pure false):Rw X kd (.Expr e pos) (yE fa):=by with_unfolding_all exact(vV (GM he hs) λD σ H h=>by
 obtain⟨F,B,c,as,o,R,e,q⟩:=h;obtain⟨⟨p,a⟩,d,e⟩:=bS_<|e;cases e;exact⟨F,B,c,as,p,a,R,d,λv j b f i k g=>q σ b f i.drop<|g.trans<|Grow.less Gw.drop⟩)
def vT(he:AE X kd e fa):Rw X kd (.Return (some e) pos) (zt fa):=by with_unfolding_all exact(vV (SE he) λD σ H h=>by
 obtain⟨F,B,b,as,o,R,e,q⟩:=h;obtain⟨⟨p,a⟩,r,c,d,e⟩:=yu e;cases e;refine⟨F,B,b,as,p,a,R,c,λv s f i j k g=>?_⟩;obtain⟨l,m,n⟩:=j.ret k d;exact q v l i m<|g.trans<|Grow.less n)
def Oz{K ad}{i:Nat}(R:Rel K kd F B T ad as σ H)(rv:yS K kd F B T ad σ H v r)
 (h2:Ax as (if z=true then r.frz else r)=some (o,J')) (hl:i<J'.length):∃Sh,Rel K kd F B [] Sh (J'.set i<|some o) (σ.set i<|some v) H/\∀a,Gw [] Sh a->Gw T ad a:=by
 cases z with
 |true=>
  obtain⟨b,c,d,e⟩:=UV R.drop (yS.drop R rv) h2;exact⟨_,c.put hl d,λa y=>Gw.drop a<|e a<|v_ a y⟩
 |false=>
  obtain⟨b,c,d,e⟩:=UV R rv h2;exact⟨_,c.put hl d,λa y=>e a<|v_ a y⟩
def Ot(hN:X.N.Nodup)(hi:X.N[i]? = some x)(hx:Loc X.env.scope x)(he:AE X kd e fa)(hs:swapsWith e (some<|.Name x pos') pos.line X.env=pure false)(hf:X.fn x=true\/X.env.scope.names.lookup x=some .local):
 Rw X kd (.Assign [.Name x pos'] e pos) (zm z i fa):=by with_unfolding_all exact(vV (C_ hN hi hx he hs hf) λD σ H h=>by
 obtain⟨F,B,c,as,o,R,e,q⟩:=h;obtain⟨⟨p,a⟩,_,d,j,e⟩:=yu e;obtain⟨k,e⟩:=zv e;cases e;refine⟨F,B,c,as,p,a,R,d,λv t l m n r g=>?_⟩;obtain⟨b,R2,s⟩:=Oz n r j k;exact q _ b m R2<|g.trans<|Grow.less s)
end
noncomputable def ya(n:Nat)(ds:List (Bool×D)):AS:=ds.map (λx=>some<|.lf x.1 x.2)++List.replicate (n-ds.length) none
noncomputable def ku:Out->Option O
 | .nx _=>some<|.lf true .non
 | .rt o=>some o
 |_=>none
def wj(n m:Nat)(f:SF)(ds:List (Bool×D)):Option O:=if ds.length=m then(f<|ya n ds).bind ku else none
theorem RpA.get{K}:∀{vs:List V}{ds:List (Bool×D)}{i:Nat}{x:Bool×D},RpA K kd F H vs ds->ds[i]? = some x->∃v,vs[i]? = some v/\Rp K kd (λa=>x.1=true/\F a) H v x.2
 |_,_,_,_,.nil,e=>by simp at e
 |_,_,0,_,.cons h _,e=>by simp at e;subst e;exact⟨_,rfl,h⟩
 |_,_,i+1,_,.cons _ r,e=>by
  obtain⟨v,b,c⟩:=RpA.get r ⋯;exact⟨v,⋯,c⟩
def Z7{K}(ht:∀a,F a->H a≠none)(rp:RpA K kd F H vs ds):
 Rel K kd F (λ_=>False) [] (λ_=>[]) (ya N.length ds) (L2.start N vs) H:=by
 have c:=rp.length;have f:∀a,¬Gw [] (λ_=>[]) a:=λa z=>z.elim ⋯ λ⟨_,y⟩=>nomatch y;refine⟨by unfold ya L2.start;simp[c],λ_ _=>rfl,λ_=>zyI,(λ_ _ _ z=>nomatch z),zyI,(λ_ _ _ z=>nomatch z),ht,⋯,λa z=>(f a z).elim,λi s e=>?_⟩;unfold ya at e;unfold L2.start
 by_cases g:i<ds.length
 . rw[zyO (by rwa [zzB]),zzI]at e;obtain⟨d,h,b⟩:=zzW.mp e;subst b;obtain⟨v,j,k⟩:=rp.get h;rw[zyO (by rwa [zzB,c]),zzI,j];refine⟨v,rfl,.lf<|k.less λa z=>?_⟩
   rcases z with(z|z)|z
   . exact z
   . exact z.elim
   . exact(f a z).elim
 . rw[zyQ<|by rw[zzB];omega]at e;have:=zzZ e;have b:=(List.mem_replicate.mp this).2;subst b;rfl
section
variable{P:Program}{w:World}{K:zzA}{mg:Str->Option Value}{base:Heap}
def Kn(q:jv K kd F H Q o)(ro:RetOk K kd F T H' v o)(g:Grow (Gw [] λ_=>[]) H (· ∈ T) H'):Q v H':=by
 have c:∀a,¬Gw [] (λ_=>[]) a:=λa z=>z.elim ⋯ λ⟨_,y⟩=>nomatch y;exact q v T H' ro.nd (λa m=>(g.own a m).resolve_left<|c a) (λb u h=>g.keep b u h<|c b) ro.tr ro.ro
def D2{st}{k:Nat}(Fn:Fun K x qual st f fd)(S:FnScope N ps (zp st))
 (hb:∀Mk A outer s H E,Room k (A.deeper<|envOfC qual (zp st) s.heap.objs.size f Mk)->P_ (v9 VM P w K mg base N qual (zp st) f Mk A outer s H E).nox kd (xx st) c):
 FnOk P w K mg base VM (k+1) f fd ps (G9 K kd<|wj N.length ps.length c):=by
 with_unfolding_all (
 refine Fn.ok S (λvs H Q E h=>?_) λMk A outer s H vs Q E hr h=>⟨_,hb Mk A outer s H E hr, ?_⟩
 . obtain⟨F,ds,r,_,rp,e,_⟩:=h;unfold wj at e
   by_cases hl:ds.length=ps.length
   . rw[rp.length,hl]
   . rw[if_neg hl]at e;cases e
 . obtain⟨F,ds,r,ht,rp,e,q⟩:=h;unfold wj at e
   by_cases hl:ds.length=ps.length
   . rw[if_pos hl]at e;obtain⟨o,e1,e⟩:=bS_ e;refine⟨F,λ_=>False,λ_=>[],ya N.length ds,o,Z7 ht rp,e1, ?_⟩;cases o with
     |nx as=>cases e;exact λP' Sh H' R g=>Kn q ⟨zyI,⋯,.lf .non⟩ (g.trans<|Grow.less ⋯)
     |rt o=>cases e;exact λv T H' ro g=>Kn q ro g
     |bk=>cases e
     |ct=>cases e
   . rw[if_neg hl]at e;cases e)
end
abbrev Xs:=Bool×D
abbrev GF:=Xs->AS->Option AS
abbrev rG:=List Xs->AS->Option AS
def kids(st:Bool)(ds:List D):List Xs:=ds.map λd=>(zB d||st,d)
inductive RpI(K:zzA)(kd:KD)(F B G:Addr->Prop)(H:Hp):List V->List Xs->Prop
 |nil:RpI K kd F B G H [] []
 |cons {v:V}{x:Xs}{vs:List V}{ds:List Xs}:Rp K kd (Lv F B G x.1) H v x.2->RpI K kd F B G H vs ds->RpI K kd F B G H (v::vs) (x::ds)
def lE(K:zzA)(kd:KD)(S:List Nat)(g:GF):TG:=λv σ H Q=>∃F B ad as x S',Rel K kd F B [] ad as σ H/\Rp K kd (Lv F B (Gw [] ad) x.1) H v x.2/\g x as=some S'/\
 ∀P' Sh H',Rel K kd F B [] Sh S' P' H'->Grow (Gw [] ad) H (Gw [] Sh) H'->(∀j,j ∉ S->P'[j]? = σ[j]?)->Q P' H'
def jj(K:zzA)(kd:KD)(S:List Nat)(g:rG):sJ:=λvs σ H Q=>∃F B ad as ds S',Rel K kd F B [] ad as σ H/\RpI K kd F B (Gw [] ad) H vs ds/\g ds as=some S'/\
 ∀P' Sh H',Rel K kd F B [] Sh S' P' H'->Grow (Gw [] ad) H (Gw [] Sh) H'->(∀j,j ∉ S->P'[j]? = σ[j]?)->Q P' H'
@[irreducible] def AG(X:Cx)(kd:KD)(tg:Expr)(S:List Nat)(g:GF):Prop:=PG X tg<|lE X.K kd S g
@[irreducible] def Dl(X:Cx)(kd:KD)(tg:List Expr)(S:List Nat)(g:rG):Prop:=DA X tg<|jj X.K kd S g
def sY(h:PG X e t)(k:∀v σ H Q,t' v σ H Q->t v σ H Q):PG X e t':=λa s σ H v u Q I r q=>h a s σ H v u Q I r<|k v σ H Q q
def Fe(h:DA X e t)(k:∀v σ H Q,t' v σ H Q->t v σ H Q):DA X e t':=λa s σ H v u Q I r q=>h a s σ H v u Q I r<|k v σ H Q q
noncomputable def gN(i:Nat):GF:=λx as=>if i<as.length then some (as.set i<|some<|.lf x.1 x.2)else none
noncomputable def GH:rG:=λds as=>match ds with | []=>some as|_::_=>none
noncomputable def Yo(g:GF)(gs:rG):rG:=λds as=>match ds with | []=>none|d::r=>(g d as).bind λU'=>gs r U'
def gT(n:Nat)(gs:rG):GF:=λx as=>match x.2 with
 | .tup ds=>if ds.length=n then gs (kids x.1 ds) as else none
 | .lst ds=>if ds.length=n then gs (kids x.1 ds) as else none
 |_=>none
section
variable{K:zzA}{kd:KD}{F B G G':Addr->Prop}{H H':Hp}
theorem RpI.length(h:RpI K kd F B G H vs ds):vs.length=ds.length:=by
 induction h with
 |nil=>rfl
 |cons _ _ a=>exact congrArg _ a
theorem RpI.grow(g:Grow G H G' H')(h:RpI K kd F B G H vs ds):RpI K kd F B G' H' vs ds:=by
 induction h with
 |nil=>exact .nil
 |cons h _ a=>exact .cons (Rp.grow g h) a
def RpI.get{i:Nat}(h:RpI K kd F B G H vs ds)(e:ds[i]? = some x):∃v,vs[i]? = some v/\Rp K kd (Lv F B G x.1) H v x.2:=by
 induction h generalizing i with
 |nil=>simp at e
 |cons h r a=>
  cases i with
  |zero=>simp at e;subst e;exact⟨_,rfl,h⟩
  |succ i=>
   obtain⟨v,b,c⟩:=a ⋯;exact⟨v,⋯,c⟩
def XH{st}(h:RpL K kd (Lv F B G st) H vs ds):RpI K kd F B G H vs (kids st ds):=
 RpL.ind (P:=λa b=>RpI K kd F B G H a<|kids st b) .nil (λ{v d a b} h _ c=>by
  refine .cons (x:=(zB d||st,d)) ?_ c;cases e:zB d with
  |true=>exact h.flat e
  |false=>exact h) h
end
theorem P4(vp:l≠it):∀n i s Q,s.heap.IsListIter it l i->s.heap.IsList l items->i+n<=items.size->
 (∀h',h'.IsListIter it l (i+n)->Heap.SameBut it s.heap h'->Q ((items.toList.drop i).take n) {s with heap:=h'})->wpAny (model prog w) A (draw (.ref it) n) Q E s
 |0,i,s,Q,a,_,_,f=>zxE (by simpa using f s.heap a (Heap.SameBut.refl ..))
 |n+1,i,s,Q,a,h,j,f=>by
  have b:i<items.size:=⋯;refine zxD<|wpAny_pyNext_list_item a h (x:=items[i]) ⋯ λo c d=>?_;refine zxD<|zxK<|P4 vp n _ _ _ c (h.extBut d.extBut vp) ⋯ λk e g=>zxE ?_;have m:items.toList.drop i=items[i]::items.toList.drop (i+1):=by simp[zyP,b]
  have:=f k (by rwa [show i+_=i+1+n by omega])<|d.trans g
  rwa [m]at this
def Nq(hh:A.handled=none)(ht:s.heap.IsList l items)
 (hn:targets.length=items.size) (hstar:targets.findIdx? (·.1)=none)
 (h:∀h',Heap.ExtBut s.heap.objs.size s.heap h'->wpAny (model prog w) A (assignInOrder (targets.map (·.2)) items.toList) Q E {s with heap:=h'}):
 wpAny (model prog w) A (unpack (.ref l) targets) Q E s:=by
 unfold unpack;rw[hn,hstar];refine zxD<|zxK ?_;have a:l≠s.heap.objs.size:=by obtain⟨o,k,_⟩:=ht;exact zzQ<|zxG k
 refine zxD ?_;refine zxD<|wpAny_specialOf ht.typeIs PySem.F.slot_list_iter.lookup ?_;refine zxE ?_;refine zxD<|zxK<|wpAny_pyIter_list ht ?_;refine zxD<|zxK<|P4 a items.size 0 _ _ ⟨_,zxH _ rfl,rfl,rfl⟩ (ht.push _) ⋯ λm c d=>?_;have f:List.take items.size (List.drop 0 items.toList)=items.toList:=List.take_of_length_le ⋯;rw[f];rw[if_neg ⋯];have g:=(ht.push _).extBut d.extBut a;refine zxD<|zxK<|wpAny_pyNext_list_end hh c g ⋯ λn i=>?_;exact zxE<|h n λb o j e=>i b o j<|d.extBut b o j<|zxF _ e
section
variable{kd:KD}{a b c e:Expr}{g:GF}{f:SF}
def kz(K:zzA)(n:Nat)(t:sJ):TG:=λv σ H Q=>∃a xs,v = .ref a/\VJ K H a xs/\xs.length=n/\t xs σ H Q
def SN(hc:X.calm=true)(h:DA X es t)(hn:(assignEach es X.env).length=n)(vq:(assignEach es X.env).findIdx? (·.1)=none):PG X (.Tuple es k pos) (kz X.K n t):=by
 intro c s σ H v u Q I r d;obtain⟨a,g,i,j,l,d⟩:=d;subst i;cases r;obtain⟨m,f,p,y⟩:=I.list j;refine zxD<|wpAny_standAt<|Nq (I.ok.hd hc) p.isList (by simp[hn,<-l,f.length]) vq λq w=>?_;have x:=I.kept (t':=s.toks) λb o e=>w b o (zzQ<|zxG e) e;exact h c _ σ H g _ Q x ⋯ d
def Ec(hN:X.N.Nodup)(hi:X.N[i]? = some x)(hx:Loc X.env.scope x)(hf:X.fn x=true\/X.env.scope.names.lookup x=some .local):AG X kd (.Name x pos) [i] (gN i):=by with_unfolding_all exact(sY (IU hN hi hx hf) λv σ H Q h=>by
 obtain⟨F,B,f,as,y,a,R,b,e,q⟩:=h;obtain⟨c,e⟩:=zv e;cases e;exact q _ _ H (R.put c<|.lf b) (Grow.less v_) λj d=>zzX λz=>d<|by rw[z];simp)
def GG:Dl X kd [] [] GH:=by with_unfolding_all exact(Fe J0 λd σ H Q h=>by
 obtain⟨F,B,a,as,f,b,R,c,e,q⟩:=h;cases c with
 |nil=>cases e;exact⟨rfl,q σ a H R Grow.refl λ_ _=>rfl⟩
 |cons=>cases e)
def W5(h1:AG X kd a S1 g)(h2:Dl X kd es S2 gs)(hs:(assignEach (a::es) X.env).map (·.2)=assign a X.env::(assignEach es X.env).map (·.2)):Dl X kd (a::es) (S1++S2) (Yo g gs):=by with_unfolding_all exact(Fe (OA h1 h2 hs) λx σ H Q h=>by
 obtain⟨F,B,l,as,y,c,R,m,e,q⟩:=h;cases m with
 |nil=>cases e
 |cons r n=>
  obtain⟨b,o,e⟩:=bS_<|e;refine⟨_,_,rfl,F,B,l,as,_,b,R,r,o,λA d C p i s=>?_⟩;exact⟨F,B,d,b,_,c,p,n.grow i,e,λt f u R2 v w=>q t f u R2 (i.trans v) λj k=>(w j λz=>k<|zzL _ z).trans<|s j λz=>k<|zzP _ z⟩)
def NF{k n:Nat}(hc:X.calm=true)(h:Dl X kd es S gs)(hn:(assignEach es X.env).length=n)(vq:(assignEach es X.env).findIdx? (·.1)=none):AG X kd (.Tuple es k pos) S (gT n gs):=by
 with_unfolding_all (
 intro Z' s σ H v u Q I r hw;obtain⟨F,B,ad,as,⟨st,d⟩,S',R,rp,e,q⟩:=hw;cases d with
 |tup ds=>
  have e:(if ds.length=n then gs _ as else none)=some S':=e
  by_cases hl:ds.length=n
  . rw[if_pos hl]at e;have go:∃a xs,v = .ref a/\Ip X.K H a xs/\RpL X.K kd (Lv F B (Gw [] ad) st) H xs ds:=by
     cases rp with
     |tup n h r=>exact⟨_,_,rfl,.inl h,r⟩
     |tupK a b c e f r=>exact⟨_,_,rfl,.inr ⟨_,_,_,a,b,c,e,f⟩,r⟩
    obtain⟨a,xs,rfl,hs,rl⟩:=go;exact rY hc h hn vq Z' s σ H _ u Q I r ⟨a,xs,rfl,hs,by rw[rl.length,hl],F,B,ad,as,_,S',R,XH rl,e,q⟩
  . rw[if_neg hl]at e;cases e
 |lst ds=>
  have e:(if ds.length=n then gs _ as else none)=some S':=e
  by_cases hl:ds.length=n
  . rw[if_pos hl]at e;cases rp with
    |lstK a b c r'=>exact SN hc h hn vq Z' s σ H _ u Q I r ⟨_,_,rfl,.inr ⟨_,_,_,a,rfl,rfl,rfl,b,c⟩,by rw[r'.length,hl],F,B,ad,as,_,S',R,XH r',e,q⟩
    |lst n h' r'=>exact SN hc h hn vq Z' s σ H _ u Q I r ⟨_,_,rfl,.inl h',by rw[r'.length,hl],F,B,ad,as,_,S',R,XH r',e,q⟩
  . rw[if_neg hl]at e;cases e
 |_=>cases e)
def Wp(as:AS)(r:RV):Option (Xs×AS):=(Ax as r.frz).bind λx=>match x.1 with | .lf st d=>some ((st,d),x.2)|_=>none
def Yb{K ad}(R:Rel K kd F B T ad as σ H)(h:yS K kd F B T ad σ H v r)(e:Wp as r=some (x,S')):
 ∃Sh,Rel K kd F B [] Sh S' σ H/\Rp K kd (Lv F B (Gw [] Sh) x.1) H v x.2/\∀a,Gw [] Sh a->Gw T ad a:=by
 obtain⟨⟨o,c⟩,f,e⟩:=bS_ e;obtain⟨b,g,i,j⟩:=UV R.drop (yS.drop R h) f;cases o with
 |lf l d=>
  cases e;refine⟨b,g, ?_,λa y=>Gw.drop a<|j a y⟩;have:=UX i;exact this
 |nd k m=>cases e
def Rm(f:EF)(g:GF):SF:=λas=>(f as).bind λp=>(Wp p.2 p.1).bind λq=>(g q.1 q.2).bind λS'=>some<|.nx S'
def Oe(he:AE X kd e fa)(hg:AG X kd tg S g)(hs:swapsWithSole [tg] e pos.line X.env=pure false)(hw:swappedStores [tg] e X.env=pure none)(h1:(assignEach [tg] X.env).map (·.2)=[assign tg X.env]):
 Rw X kd (.Assign [tg] e pos) (Rm fa g):=by with_unfolding_all exact(vV (Cv he hg hs hw h1) λD σ H h=>by
 obtain⟨F,B,ad,as,o,R,e,q⟩:=h;obtain⟨⟨p,U'⟩,⟨x,J'⟩,vi,h1,h2,h3,e⟩:=yU e;cases e;refine⟨F,B,ad,as,p,U',R,h1,λv T' Sh H' R' rv g1=>?_⟩;obtain⟨CI,R2,rp,le⟩:=Yb R' rv h2;exact⟨F,B,CI,J',_,vi,R2,rp,h3,λP' Sh H' R' g' _=>q P' Sh H' R'<|(g1.trans<|Grow.less le).trans g'⟩)
structure ItOk(K:zzA)(kd:KD)(F B:Addr->Prop)(ad:Ad)(H:Hp)(J:It)(ds:List Xs):Prop where
 all:∀(CI:Ad) (H2:Hp),Grow (Gw [] ad) H (Gw [] CI) H2->(∀st a,Lv F B (Gw [] CI) st a->H2 a≠none)->∀i,(i<ds.length->J.go i H2)/\(ds.length<=i->J.stop i H2)/\
  ∀v H3,J.yld i H2 v H3->(∀b o,H2 b=some o->H3 b=some o)/\∀x,ds[i]? = some x->Rp K kd (Lv F B (Gw [] CI) x.1) H3 v x.2
abbrev IF:=AS->Option (List Xs×AS)
def hZ(K:zzA)(kd:KD)(f:IF):TI:=λσ H R=>∃F B ad as ds S',Rel K kd F B [] ad as σ H/\f as=some (ds,S')/\
 ∀J Sh H',Rel K kd F B [] Sh S' σ H'->Grow (Gw [] ad) H (Gw [] Sh) H'->ItOk K kd F B Sh H' J ds->R J H'
@[irreducible] def AI(X:Cx)(kd:KD)(tg iter:Expr)(f:IF):Prop:=PI X tg iter<|hZ X.K kd f
noncomputable def forL(g:GF)(f:SF):List Xs->AS->Option Out
 | [],as=>some (.nx as)
 |d::r,as=>(g d as).bind λU'=>(f U').bind λo=>match o with
  | .nx S'=>forL g f r S'
  | .ct S'=>forL g f r S'
  | .bk S'=>some<|.nx S'
  | .rt r=>some<|.rt r
def vD(fi:IF)(g:GF)(f:SF):SF:=λas=>(fi as).bind λp=>forL g f p.1 p.2
def S7(hp:PassesOwn (model X.prog X.w) X.A X.env X.xe)(hc:X.calm=true)(hi:AI X kd tg iter fi)(hg:AG X kd tg S g)(hb:P_ X kd body f)(hs:∀x,foldedSetIterable iter X.env x=pure x):
 Rw X kd (.For tg iter body [] pos) (vD fi g f):=by with_unfolding_all exact(vV (Sx hp hc hi hg hb hs) λD σ H h=>by
 obtain⟨F,B,ad,as,o,R,e,q⟩:=h;obtain⟨⟨ds,U'⟩,h1,e⟩:=bS_<|e;refine⟨F,B,ad,as,ds,U',R,h1,λJ M1 H1 R1 g1 it=>?_⟩;refine⟨λi m r8 H2=>m+i=ds.length/\∃CI J',Rel X.K kd F B [] CI J' r8 H2/\Grow _ H1 (Gw [] CI) H2/\forL g f (ds.drop i) J'=some o,⟨ds.length,rfl,M1,U',R1,Grow.refl,e⟩, ?_⟩
 rintro i m r8 H2 ⟨hm,CI,J',R2,g2,e2⟩
 obtain⟨k1,k2,k3⟩:=it.all CI H2 g2 R2.trk i
 by_cases hi:i<ds.length
 . refine .inr ⟨k1 hi,λi4 H3=>∃vn vi,Rel X.K kd F B [] vn vi i4 H3/\Grow _ H1 _ H3/\forL g f _ vi=some o,λi4 H3 ⟨vn,vi,R3,g3,e3⟩=>⟨m-1,⋯,⋯,vn,vi,R3,g3,e3⟩,λv H3 hy=>?_⟩;obtain⟨kp,rp⟩:=k3 v H3 hy;rw[zyP hi]at e2;obtain⟨vi,o3,e3,e4,e2⟩:=yu e2;obtain⟨R3,g3⟩:=R2.more kp;refine⟨F,B,CI,J',_,vi,R3,rp _<|zzE hi,e3,λσ4 ad4 H4 R4 g4 _=>?_⟩;refine⟨F,B,ad4,vi,o3,R4,e4, ?_⟩;have gg:=(g2.trans g3).trans g4;cases o3 with
   |nx as5=>exact λσ5 gV H5 R5 g5=>⟨gV,as5,R5,gg.trans g5,e2⟩
   |ct as5=>exact λσ5 gV H5 R5 g5=>⟨gV,as5,R5,gg.trans g5,e2⟩
   |bk as5=>
    cases e2;exact λσ5 gV H5 R5 g5=>q σ5 gV H5 R5 (g1.trans<|gg.trans g5)
   |rt r=>
    cases e2;exact λv T H5 ro g5=>q v T H5 ro<|g1.trans<|gg.trans g5
 . refine .inl ⟨k2 ⋯, ?_⟩;rw[List.drop_eq_nil_of_le ⋯]at e2;cases e2;exact q r8 CI H2 R2<|g1.trans g2)
def EL:Xs->Option (List Xs)
 |(st,.lst ds)=>some (kids st ds)
 |_=>none
def Pe(f:EF):IF:=λas=>(f as).bind λp=>(Wp p.2 p.1).bind λq=>(EL q.1).bind λds=>some (ds,q.2)
def M5{K ad a}(hs:∀vn H3,Grow (Gw [] ad) H (Gw [] vn) H3->VJ K H3 a vs)(r:RpI K kd F B (Gw [] ad) H vs ds):ItOk K kd F B ad H (lN K a) ds:=⟨λc j h _ i=>by
 have b:=hs c j h;have e:=r.grow h;refine⟨λf=>?_,λf=>⟨_,b,by rwa [r.length]⟩,λv o k=>?_⟩
 . obtain⟨u,g,_⟩:=r.get<|zzE f;exact⟨_,u,b,g⟩
 . obtain⟨rfl,l⟩:=k;refine⟨λ_ _ z=>z,λd m=>?_⟩;obtain⟨u,g,n⟩:=e.get m;have:=l _ b;rw[g]at this;cases this;exact n⟩
def Hf(he:AE X kd e fa):AI X kd tg e (Pe fa):=by
 with_unfolding_all (
 intro Z' s σ H R I h;obtain⟨F,B,ad,as,ds,S',Rl,e,q⟩:=h;obtain⟨⟨p,U'⟩,⟨⟨st,x⟩,J'⟩,ys,h1,h2,h3,e⟩:=yU e;cases e;cases x with
 |lst xs=>
  cases h3;refine Gj he Z' s σ H R I ⟨F,B,ad,as,p,U',Rl,h1,λv T1 M1 H1 R1 Co g1=>?_⟩;obtain⟨CI,R2,rp,le⟩:=Yb R1 Co h2;cases rp with
  |lst hn hr rl=>exact⟨_,rfl,⟨_,.inl hr⟩,q _ CI H1 R2 (g1.trans<|Grow.less le)<|M5 (λvn H3 g3=>.inl<|XU g3 (λz=>hn<|.inr z) hr)<|XH rl⟩
  |lstK a b c rl=>exact⟨_,rfl,⟨_,.inr ⟨_,_,_,a,rfl,rfl,rfl,b,c⟩⟩,q _ CI H1 R2 (g1.trans<|Grow.less le)<|M5 (λvn H3 g3=>.inr ⟨_,_,_,a,rfl,rfl,rfl,b,c⟩)<|XH rl⟩
 |_=>cases h3)
noncomputable def y4(lo:Int)(n:Nat):List Xs:=(List.range n).map λ(i:Nat)=>(true,D.int<|lo+(i:Int))
def Ii{K ad}(lo)(n:Nat):ItOk K kd F B ad H (qy lo n) (y4 lo n):=⟨λe h g _ i=>by
 have c:(y4 lo n).length=n:=by unfold y4;simp
 refine⟨λa=>by rw[c]at a;exact a,λa=>by rw[c]at a;exact a,λv j f=>?_⟩;obtain⟨rfl,rfl⟩:=f;refine⟨λ_ _ z=>z,λd b=>?_⟩;have a:i<n:=by rw[<-c];exact(zzG.mp b).1
 unfold y4 at b;rw[zzI,List.getElem?_range a]at b;cases b;exact .int _⟩
noncomputable def mi:List D->Option D
 | [x]=>some x
 |_=>none
def Jr(h:mi ds=some d):ds=[d]:=by
 cases ds with
 |nil=>cases h
 |cons x r=>
  cases r with
  |nil=>cases h;rfl
  |cons _ _=>cases h
def y8(ds:List D):Option (List Xs):=((mi ds).bind LI).bind λj=>if -(2 ^ 62)<=j/\j<2 ^ 62 then some (y4 0 j.toNat)else none
def Ei(h:y8 ds=some xs):∃j,ds=[.int j]/\(if -(2 ^ 62)<=j/\j<2 ^ 62 then some (y4 0 j.toNat)else none)=some xs:=by
 obtain⟨j,a,h⟩:=bS_ h;obtain⟨d,b,a⟩:=bS_ a;cases MK a;exact⟨j,Jr b,h⟩
def VY:List D->Option (List Xs)
 | [.int i,.int j]=>if -(2 ^ 62)<=i/\i<2 ^ 62 /\ -(2 ^ 62)<=j/\j<2 ^ 62 then some (y4 i (j-i).toNat)else none
 |_=>none
def yq(fr:AF)(h:List D->Option (List Xs)):IF:=λas=>(fr as).bind λp=>(views p.2 p.1).bind λds=>(h ds.1).bind λxs=>some (xs,p.2)
def Bz(hg:Gl X "range")(hm:X.mg "range"=none)(ha:AA X kd [a] fr)(hs:starEach [a] X.env=[(false,eval a X.env)]):AI X kd tg (.Call (.Name "range" p) [a] [] pos) (yq fr y8):=by
 with_unfolding_all (
 intro b s σ H R I h;obtain⟨F,B,k,as,A,l,m,e,q⟩:=h;obtain⟨⟨n,o⟩,⟨C,D⟩,E,r,t,c,e⟩:=yU e;cases e;obtain⟨j,rfl,c⟩:=Ei c
 . obtain⟨g,u⟩:=zv c;cases u;refine PU hg hm ha hs b s σ H R I ⟨F,B,k,as,n,_,m,r,λG d v i f w=>?_⟩;have x:=XZ i f t;cases x with
   |cons y z=>
    cases z;cases y;exact⟨j,rfl,g.1,g.2,q _ d v i w<|Ii 0 _⟩)
def Bo(hg:Gl X "range")(hm:X.mg "range"=none)(ha:AA X kd [a,b] fr)(hs:starEach [a,b] X.env=[(false,eval a X.env),(false,eval b X.env)])(hs2:starEach [b] X.env=[(false,eval b X.env)]):AI X kd tg (.Call (.Name "range" p) [a,b] [] pos) (yq fr VY):=by
 with_unfolding_all (
 intro c s σ H R I h;obtain⟨F,B,n,as,o,r,t,e,q⟩:=h;obtain⟨⟨u,v⟩,⟨x,J⟩,K,w,d,f,e⟩:=yU e;cases e
 match x,f,d with
 | [.int i,.int j],f,d=>
  obtain⟨y,z⟩:=zv<|f;cases z;refine BS hg hm ha hs hs2 c s σ H R I ⟨F,B,n,as,u,_,t,w,λL g A m k C=>?_⟩;have D:=XZ m k d;cases D with
  |cons E l=>
   cases l with
   |cons l G=>
    cases G;cases E;cases l;exact⟨i,j,rfl,y,q _ g A m C<|Ii i _⟩)
def Rel.mut{K ad}{i:Nat}(R:Rel K kd F B T ad as σ H)(hi:i<as.length)(hl:ad i=l::fp)(hs:σ[i]? = some (some<|.ref l))
 (hsub:∀a ∈ l7++fo,a ∈ fp++T) (hnd:(l7++fo).Nodup) (hu:H l≠none)
 (ro:∀H' G',H' l=some u->Grow (Gw T ad) H G' H'->(∀a ∈ l7,∀w,H a=some w->H' a=some w)->YV K kd F B G' H' (.ref l) n (l::l7)):
 Rel K kd F B fo (ZA ad i (l::l7)) (as.set i<|some n) σ (upd H l u)/\Grow (Gw T ad) H (Gw fo<|ZA ad i (l::l7)) (upd H l u):=by
 have hli:l ∈ ad i:=by rw[hl];exact zzF
 have lT:=R.dis i l hli;have lfp:l ∉ fp:=by have:=R.nd i;rw[hl]at this;exact(zzV.mp this).1
 have lsub:∀a ∈ l7++fo,a≠l:=λa m e=>by
  subst e
  rcases zzM.mp (hsub _ m)with z|z
  . exact lfp z
  . exact lT z
 have sub:∀a ∈ l7++fo,Gw T ad a:=λa m=>by
  rcases zzM.mp (hsub a m)with z|z
  . exact .inr ⟨i,by rw[hl];exact zzD _ z⟩
  . exact .inl z
 have gsub:∀a,Gw fo (ZA ad i (l::l7)) a->Gw T ad a:=λa z=>by
  rcases z with z|⟨j,z⟩
  . exact sub a<|zzL _ z
  . by_cases e:j=i
    . subst e;rw[zJ]at z
      rcases zzC.mp z with z|z
      . subst z;exact .inr ⟨j,hli⟩
      . exact sub a<|zzP _ z
    . rw[zQ e]at z;exact .inr ⟨j,z⟩
 have g:Grow _ H _ (upd H l u):=⟨λb w h n=>by rw[zu λe=>n<|by subst e;exact .inr ⟨i,hli⟩];exact h,λb z=>.inl<|gsub b z⟩;have kn:∀a,H a≠none->upd H l u a≠none:=λa z=>by
  by_cases e:a=l
  . subst e;rw[zF];simp
  . rwa [zu e]
 obtain⟨hnd1,hnd2,hnd3⟩:=zxC.mp hnd;have inT:∀j a,j≠i->a ∈ ad j->a ∈ l7++fo->False:=λj a hj m m'=>by
  rcases zzM.mp (hsub a m')with z|z
  . exact hj (R.inj j i a m<|by rw[hl];exact zzD _ z)
  . exact R.dis j a m z
 refine⟨⟨by rw[zzU];exact R.len,λj hj=>?_,λj=>?_,λj k a h1 h2=>?_,hnd2,λj a h1 h2=>?_,λa z=>kn a<|R.ftr a z,λa z=>?_,λa z=>⟨kn a (R.gtr a<|gsub a z).1,(R.gtr a<|gsub a z).2⟩,λj s e=>?_⟩,g⟩
 . rw[zzU]at hj;rw[zQ<|by omega];exact R.out j hj
 . by_cases e:j=i
   . subst e;rw[zJ];exact zzV.mpr ⟨λm=>lsub l (zzP _ m) rfl,hnd1⟩
   . rw[zQ e];exact R.nd j
 . by_cases e:j=i
   . subst e
     by_cases e':k=j
     . exact e'.symm
     . rw[zJ]at h1;rw[zQ e']at h2
       rcases zzC.mp h1 with z|z
       . subst z;exact R.inj j k a hli h2
       . exact(inT k a e' h2<|zzP _ z).elim
   . rw[zQ e]at h1
     by_cases e':k=i
     . subst e';rw[zJ]at h2
       rcases zzC.mp h2 with z|z
       . subst z;exact R.inj j k a h1 hli
       . exact(inT j a e h1<|zzP _ z).elim
     . rw[zQ e']at h2;exact R.inj j k a h1 h2
 . by_cases e:j=i
   . subst e;rw[zJ]at h1
     rcases zzC.mp h1 with z|z
     . subst z;exact lsub a (zzL _ h2) rfl
     . exact hnd3 a z a h2 rfl
   . rw[zQ e]at h1;exact inT j a e h1<|zzL _ h2
 . obtain⟨b1,b2,b3⟩:=R.btr a z;exact⟨kn a b1,b2,λy=>b3<|gsub a y⟩
 . by_cases q:j=i
   . subst q;rw[zyJ hi]at e;cases e;rw[zJ];refine⟨_,hs,ro _ _ zF g λa m w h=>?_⟩
     rwa [zu<|lsub a<|zzP _ m]
   . rw[zzX<|Ne.symm q]at e;rw[zQ q];refine(R.sl j s e).grow g λa m w h=>?_
     rwa [zu λz=>q<|R.inj j i l (by rwa [<-z]) hli]
abbrev MG:=List O->List O->Option (List O×O)
noncomputable def wG(i:Nat)(fr:DF)(g:MG):EF:=λas=>match as[i]? with
 |some (some (.nd .ls _))=>(fr as).bind λp=>match p.2[i]? with
  |some (some (.nd .ls os))=>(g os p.1).bind λz=>some (.ow z.2,p.2.set i<|some<|.nd .ls z.1)
  |_=>none
 |_=>none
def kZ(X:Cx)(kd:KD)(r:V->List V->Hp->VK->Prop)(g:MG):Prop:=
 ∀F B G l vs ws os es vk o fp fq H Q,H l=some (.lst vs)->ZG X.K kd F B G H vs os fp->ZG X.K kd F B G H ws es fq->(fp++fq).Nodup->g os es=some (vk,o)->
  (∀v vs' l7 fo,ZG X.K kd F B G H vs' vk l7->YV X.K kd F B G H v o fo->(∀a ∈ l7++fo,a ∈ fp++fq)->(l7++fo).Nodup->Q v (upd H l<|.lst vs'))->r (.ref l) ws H Q
def nQ{i:Nat}{fr g r}(hr:kZ X kd r g)
 (h:al X.K kd (wG i fr g) σ H Q):jr X.K "list" r (Vz i) (ll X.K kd fr) σ H Q:=by
 obtain⟨F,B,U,as,z,S',R,e,q⟩:=h;unfold wG at e;cases k:as[i]? with
 |none=>rw[k]at e;cases e
 |some a0=>
  rw[k]at e
  match a0,e,k with
  |some (.nd .ls os0),e,k=>
   obtain⟨⟨G,s⟩,h1,e⟩:=bS_<|e;obtain⟨v0,f,t⟩:=R.sl i _ k;generalize W:U i=fp0 at t;cases t with
   |ls I rl0=>
   rename_i l vs0 Y;refine⟨_,f,.inl ⟨rfl,_,.inl<|.inl I⟩,F,B,U,as,G,s,R,h1,λws J x L j M g1=>?_⟩;cases p:s[i]? with
   |none=>rw[p]at e;cases e
   |some a2=>
    rw[p]at e
    match a2,e,p with
    |some (.nd .ls Z),e,p=>
     obtain⟨⟨y,o⟩,h3,e⟩:=bS_<|e;cases e;obtain⟨v1,A,C⟩:=j.sl i _ p;rw[f]at A;cases A;generalize c:x i=fp1 at C;cases C with
     |ls hH rl=>
     rename_i vs fp;have N:=zxC.mpr ⟨by have:=j.nd i;rw[c]at this;exact(zzV.mp this).2,j.tnd,λa m b m' e=>by
          subst e;exact j.dis i a (by rw[c];exact zzD _ m) m'⟩
     refine hr F B _ _ vs ws Z G y o fp J L Q hH rl M N h3 λv D l7 fo O P d E=>?_;obtain⟨R3,g3⟩:=j.mut (zzG.mp p).1 c f d E (by rw[hH];simp) λH' G' S gr kp=>.ls S<|ZG.grow gr kp O;have T:∀a ∈ fo,∀w,L a=some w->upd L l (.lst D) a=some w:=λa m w h=>by
          rw[zu λe=>?_]
          . exact h
          . subst e
            rcases zzM.mp (d _<|zzL _ m)with z|z
            . have:=j.nd i;rw[c]at this;exact(zzV.mp this).1 z
            . exact j.dis i _ (by rw[c];exact zzF) z
     exact q v fo _ _ R3 (YV.grow g3 T P)<|g1.trans g3
end
end PF
section
set_option exponentiation.threshold 5000
namespace PF
open PySem PySem.Spec PyProof.Rows L2
section
variable{K:zzA}{kd:KD}{O:Addr->Prop}{H:Hp}{Q:VK}
def yc(q:RQ K kd O H Q (.im d))(r:Rp K kd O H v d):Q v H:=q v H (λ_ _ z=>z) r
def Fl(hp:H p=none)(r:RpL K kd O H vs ds):RpL K kd (VL O (· = p)) (upd H p o) vs ds:=
 RpL.grow ⟨λb u q _=>by rw[zu<|zO q hp];exact q,λb z=>.inr<|by rwa [z]⟩ (r.less λa z=>z.elim id False.elim)
def Vl{p o}(hp:H p=none):∀b u,H b=some u->upd H p o b=some u:=λb u q=>by rwa [zu<|zO q hp]
def Wn{vs ds}(q:RQ K kd O H Q (.fl ds))(r:RpL K kd O H vs ds):∀p,H p=none->Q (.ref p) (upd H p<|.lst vs):=λp hp=>
 q p vs _ hp (Vl hp) zF (Fl hp r)
def Ma{vs ds}(ht:∀a,O a->H a≠none)(q:RQ K kd O H Q (.im<|.tup ds))(r:RpL K kd O H vs ds):∀p,H p=none->Q (.ref p) (upd H p<|.tup vs):=λp hp=>
 q _ _ (Vl hp) (.tup (λz=>ht p z hp) (.inl zF)<|(Fl hp r).less λa z=>.inl z)
end
noncomputable def big:Nat:=2 ^ 4000
def Kx(h:i.natAbs<big):Builtin.Int.intBits i<=2 ^ 20:=by
 unfold Builtin.Int.intBits
 split
 . exact Nat.zero_le _
 . have:i.natAbs.log2<4000:=by
    rcases Nat.eq_zero_or_pos i.natAbs with a|b
    . rw[a];decide
    . exact(Nat.log2_lt<|Nat.ne_of_gt b).mpr h
   omega
def Je{i}(h:i.natAbs<2 ^ 64):Builtin.Int.intBits i<=64:=by
 unfold Builtin.Int.intBits
 split
 . exact Nat.zero_le _
 . rcases Nat.eq_zero_or_pos i.natAbs with h0|hp
   . rw[h0];decide
   . exact(Nat.log2_lt<|Nat.ne_of_gt hp).mpr h
def Iq(f:Int->Int->Option R0)(x y:D):Option R0:=(LI x).bind λi=>(LI y).bind λj=>f i j
def lY(x y:D):Option R0:=match x with
 | .int i=>(LI y).bind λj=>some<|.im<|.int<|i+j
 | .str x=>(jT y).bind λy=>if x.length+y.length<=sizeLine then some (.im<|.str<|x++y)else none
 | .lst xs=>(lH y).bind λys=>if xs.length+ys.length<=sizeLine then some (.fl<|xs++ys)else none
 | .tup xs=>(iu y).bind λys=>if xs.length≠0/\ys.length≠0/\xs.length+ys.length<=sizeLine then some (.im<|.tup<|xs++ys)else none
 |_=>none
def jd(x y:D):Option R0:=match x with
 | .int i=>(LI y).bind λj=>if(i.natAbs<big/\j.natAbs<big)\/j.natAbs<2 ^ 64 then some (.im<|.int<|i*j)else none
 | .lst xs=>(LI y).bind λk=>if -(2 ^ 63)<=k/\k<2 ^ 63/\xs.length*k.toNat<=sizeLine then some (.fl (List.replicate k.toNat xs).flatten)else none
 |_=>none
def vR(o:Operator)(x y:D):Option R0:=match o with
 | .Add=>lY x y
 | .Sub=>Iq (λi j=>some<|.im<|.int<|i-j) x y
 | .Mult=>jd x y
 | .FloorDiv=>Iq (λi j=>if 0<j/\j.natAbs<big then some (.im<|.int<|i/j)else none) x y
 | .Mod=>Iq (λi j=>if 0<j then some (.im<|.int<|i%j)else none) x y
 |_=>none
def Xo{K kd O H v d i}(h:Vw K kd O H v d)(e:LI d=some i):d = .int i/\v = .int i:=by
 cases h with
 |int j=>cases e;exact ⋯
 |_=>cases e
def sg{K kd O H v d i}(h:Vw K kd O H v d)(e:jT d=some i):d = .str i/\v = .str i:=by
 cases h with
 |str j=>cases e;exact ⋯
 |_=>cases e
def Xf{K kd O H v w d e f r}(vx:Vw K kd O H v d)(vy:Vw K kd O H w e)(h:Iq f d e=some r):∃i j,v = .int i/\w = .int j/\f i j=some r:=by
 obtain⟨i,a,h⟩:=bS_<|h;obtain⟨j,b,h⟩:=bS_ h;exact⟨i,j,(Xo vx a).2,(Xo vy b).2,h⟩
def A8:QF X (binaryOp .Add) (λx y H Q=>∃l b xs zs,x = .ref l/\y = .ref b/\SH X.K H l xs/\SH X.K H b zs/\xs.length+zs.length<=sizeLine/\∀p,H p=none->Q (.ref p) (upd H p<|.lst<|xs++zs)):=by
 intro d s σ H x y v u Q I g i h;obtain⟨l,b,w,A,rfl,rfl,j,k,B,q⟩:=h;cases g;cases i;obtain⟨z,c,n,r,e⟩:=N6 I j;obtain⟨C,a,D,f,m⟩:=N6 I k;have E:=r.length;have o:=f.length;refine PySem.P.add_list e m ?_ (by rw[zzH,zzH];omega);have t:c.toArray++a.toArray=(c++a).toArray:=⋯;rw[t];exact⟨.ref _,_,I.lnew (t':=s.toks) (r.append f) (by rw[zzJ];omega),rfl,q _ I.fresh⟩
def JU:QF X (binaryOp .Mult) (λx y H Q=>∃l k xs,x = .ref l/\y = .int k/\SH X.K H l xs /\ -(2 ^ 63)<=k/\k<2 ^ 63/\xs.length*k.toNat<=sizeLine/\
 ∀p,H p=none->Q (.ref p) (upd H p<|.lst (List.replicate k.toNat xs).flatten)):=by
 intro w s σ H x y v u Q I B C h;obtain⟨l,k,N,rfl,rfl,D,E,G,A,q⟩:=h;cases B;obtain⟨t,rfl⟩:=C;obtain⟨z,b,n,r,e⟩:=N6 I D;have J:=r.length;have d:b.toArray.size*k.toNat<=sizeLine:=by rwa [zzH,<-J]
 have f:¬b.toArray.size*k.toNat > (2 ^ 63-1)/8:=by
  have:sizeLine<=(2 ^ 63-1)/8:=by decide
  omega
 have g:¬(!Builtin.List.listFitsIndex k)=true:=by
  rw[fitsIndex_both E G];exact zyU
 have c:¬Builtin.List.listTooLong (b.toArray.size*k.toNat)=true:=by
  rw[O2 d];exact zyU
 have i:List.foldl (λj o=>j++o) #[] (List.replicate (if b.toArray.isEmpty=true then 0 else k.toNat) b.toArray)=(List.replicate k.toNat b).flatten.toArray:=by
  have L:=λm=>by
   have:=foldl_rep b m []
   rwa [List.nil_append]at this
  rw[L];cases b with
  |nil=>simp
  |cons a O=>rw[if_neg<|by simp]
 refine wpAny_binaryOp_repeat_ref (by decide) ⟨_,e,rfl⟩ (λM=>typeIs_int M k t) noFill_list_mul F.fills_int_mul F.slot_int_rmul repeat_list F.slot_int_index.lookup
  (call_meets F.slot_int_rmul ⋯ F.entry_int_rmul ⋯ (int___rmul___int_list k t l b.toArray n)
   ⟨e,rfl,⟨_,e,rfl⟩,call_meets F.slot_list_mul ⟨_,e,rfl⟩ F.entry_list_mul (F.args_list_mul_2 _ _) (AutoListH.list___mul___list_int_3 l b.toArray n k t g f c) ⟨e, ?_⟩⟩)
 rw[i];refine⟨.ref _,_,I.lnew (t':=s.toks) (r.rep k.toNat) ?_,rfl,q _ I.fresh⟩
 rwa [len_rep,Nat.mul_comm]
def sy(op):JF X kd (binaryOp op) (vR op):=by
 intro Z' s σ H x y v u Q I rx ry h;obtain⟨O,d,e,r,ht,vx,vy,he,q⟩:=h;cases op with
 |Add=>
  cases vx with
  |int i=>
   obtain⟨j,h1,he⟩:=bS_<|he;obtain⟨rfl,rfl⟩:=Xo vy h1;cases he;exact u7 Z' s σ H _ _ v u Q I rx ry ⟨_,_,rfl,rfl,yc q<|.int _⟩
  |str i=>
   obtain⟨j,h1,he⟩:=bS_<|he;obtain⟨rfl,rfl⟩:=sg vy h1;obtain⟨c,rfl⟩:=zv he;exact MQ Z' s σ H _ _ v u Q I rx ry ⟨_,_,rfl,rfl,c,yc q<|.str _⟩
  |lst hx rx'=>
   obtain⟨j,h1,he⟩:=bS_<|he;cases N3 h1;obtain⟨c,rfl⟩:=zv he;cases vy with
   |lst hy ry'=>exact A8 Z' s σ H _ _ v u Q I rx ry ⟨_,_,_,_,rfl,rfl,hx,hy,by rw[rx'.length,ry'.length];exact c,Wn q<|rx'.append ry'⟩
  |tup r1 hx rx'=>
   obtain⟨j,h1,he⟩:=bS_<|he;cases uJ h1;obtain⟨c,rfl⟩:=zv he;cases vy with
   |tup r2 hy ry'=>exact Jp Z' s σ H _ _ v u Q I rx ry ⟨_,_,_,_,rfl,rfl,hx,hy,λe=>c.1 (by rw[<-rx'.length,e];rfl),by rw[rx'.length,ry'.length];exact c.2.2,λe=>absurd (by rw[<-ry'.length,e];rfl) c.2.1,λ_=>Ma ht q<|rx'.append ry'⟩
  |_=>cases he
 |Sub=>
  obtain⟨i,j,rfl,rfl,he⟩:=Xf vx vy he;cases he;exact tY Z' s σ H _ _ v u Q I rx ry ⟨_,_,rfl,rfl,yc q<|.int _⟩
 |Mult=>
  cases vx with
  |int i=>
   obtain⟨j,h1,he⟩:=bS_<|he;obtain⟨rfl,rfl⟩:=Xo vy h1;obtain⟨c,rfl⟩:=zv he;obtain⟨t,rfl⟩:=rx;obtain⟨t',rfl⟩:=ry;exact mul_int ⟨.int _,H,I.tok _,⟨_,rfl⟩,yc q<|.int _⟩ (c.elim (λc=>IntMulOk.of_bits (Kx c.1)<|Kx c.2) λc=>IntMulOk.of_right<|Je c)
  |lst hx rx'=>
   obtain⟨j,h1,he⟩:=bS_<|he;obtain⟨rfl,rfl⟩:=Xo vy h1;obtain⟨c,rfl⟩:=zv he;exact JU Z' s σ H _ _ v u Q I rx ry ⟨_,_,_,rfl,rfl,hx,c.1,c.2.1,by rw[rx'.length];exact c.2.2,Wn q<|rx'.rep _⟩
  |_=>cases he
 |FloorDiv=>
  obtain⟨i,j,rfl,rfl,he⟩:=Xf vx vy he;obtain⟨c,rfl⟩:=zv he;obtain⟨t,rfl⟩:=rx;obtain⟨t',rfl⟩:=ry;refine floordiv_int (by omega) ?_<|.inl<|PyProof.noPylong_of_log2 ?_
  . rw[Int.fdiv_eq_ediv_of_nonneg _<|by omega];exact⟨.int _,H,I.tok _,⟨_,rfl⟩,yc q<|.int _⟩
  . exact zzK ((Nat.log2_lt<|by have:=c.1;omega).mpr<|c.2) (by decide)
 |Mod=>
  obtain⟨i,j,rfl,rfl,he⟩:=Xf vx vy he;obtain⟨c,rfl⟩:=zv he;exact O5 Z' s σ H _ _ v u Q I rx ry ⟨_,_,rfl,rfl,c,yc q<|.int _⟩
 |_=>cases he
noncomputable def AL(f:D->D->Option Bool):List D->List D->Option Bool
 | [],[]=>some true
 |x::r,y::t=>(f x y).bind λb=>(AL f r t).bind λc=>some (b&&c)
 |_,_=>some false
def wb:Nat->D->D->Option Bool
 |0,_,_=>none
 |_+1,.non,.non=>some true
 |_+1,.bl a,.bl b=>some (a==b)
 |_+1,.int a,.int b=>some (a==b)
 |_+1,.str a,.str b=>some (a==b)
 |_+1,.int _,.non=>some false
 |n+1,.lst xs,.lst ys=>AL (wb n) xs ys
 |n+1,.tup xs,.tup ys=>AL (wb n) xs ys
 |_,_,_=>none
noncomputable def JG(f:D->D->Option Bool)(xs ys:List D)(j:Nat):Bool:=match xs[j]?,ys[j]? with
 |some d,some e=>(f d e).getD false
 |_,_=>false
theorem US:∀{xs ys:List D}{b:Bool},AL f xs ys=some b->(∀(j:Nat) d e,xs[j]? = some d->ys[j]? = some e->∃c,f d e=some c)/\
 b=((List.range<|min xs.length ys.length).all (JG f xs ys)&&xs.length==ys.length)
 | [],[],b,h=>by cases h;exact⟨λj d e h=>by simp at h,⋯⟩
 | [],y::t,b,h=>by cases h;exact⟨λj d e h=>by simp at h,⋯⟩
 |x::r,[],b,h=>by cases h;exact⟨λj d e _ h=>by simp at h,⋯⟩
 |x::r,y::t,b,h=>by
  obtain⟨b1,c1,h1,h2,h⟩:=yu h;cases h;obtain⟨k1,k2⟩:=US h2;refine⟨λj d e hd he=>?_, ?_⟩
  . cases j with
    |zero=>simp at hd he;subst hd he;exact⟨b1,h1⟩
    |succ j=>exact k1 j d e ⋯ ⋯
  . have e0:min (x::r).length (y::t).length=min r.length t.length+1:=by simp only[zzT];omega
    rw[e0,List.range_succ_eq_map,List.all_cons,List.all_map,k2];have e1:JG f (x::r) (y::t) 0=b1:=by show(f x y).getD false=b1;rw[h1];rfl
    have e2:(JG f (x::r) (y::t)∘Nat.succ)=JG f r t:=⋯;have e3:((x::r).length==(y::t).length)=(r.length==t.length):=⋯;rw[e1,e2,e3,Bool.and_assoc]
structure EqAll(A:Around)(s:Shared)(u v:Value)(b:Bool):Prop where
 rc:SeqAt.RcAt A s u v b
 ne:SeqAt.RcNeAt A s u v (!b)
 eq:SeqAt.EqAt A s u v b
section
variable{O:Addr->Prop}
theorem EV(I:Inv X Z' σ H s):∀n v d e b,Vw X.K kd O H v d->Vw X.K kd O H v e->wb n d e=some b->b=true
 |0,_,_,_,_,_,_,h=>by cases h
 |n+1,v,d,e,b,p,f,h=>by
  have lst:∀i (l m:List D) b,RpL X.K kd O H i l->RpL X.K kd O H i m->AL (wb n) l m=some b->b=true:=by
   intro i
   induction i with
   |nil=>intro l m b g a h;cases g;cases a;cases h;rfl
   |cons v i q=>
    intro l m b g a h;cases g with
    |cons r g=>
     cases a with
     | cons t a=>
            obtain⟨y,z,u,w,h⟩:=yu h;cases h;rw[EV I n _ _ _ _ r.vw t.vw u,q _ _ _ g a w];rfl
  cases p with
  |tup g j o=>
   cases f with
   |tup a c k=>have:=I.tuple_inj j c;subst this;exact lst _ _ _ _ o k h
   |_=>cases h
  |lst j o=>
   cases f with
   |lst c k=>have:=I.list_inj j.sq c.sq;subst this;exact lst _ _ _ _ o k h
   |_=>cases h
  |non=>cases f;cases h;rfl
  |bl x=>cases f;cases h;simp
  |int x=>cases f;cases h;simp
  |str x=>cases f;cases h;simp
  |_=>cases h
theorem Tz(I:Inv X Z' σ H s):∀n A x y d e u v b,A.units+n<cLine->Vw X.K kd O H x d->Vw X.K kd O H y e->RelV x u->RelV y v->wb n d e=some b->EqAll A s u v b
 |0,_,_,_,_,_,_,_,_,_,_,_,_,_,h=>by cases h
 |n+1,A,x,y,d,e,u,v,b,hu,h1,E,R,k,h=>by
  have f:A.units<cLine:=by omega
  have W:∀{vs ws:List V}{l g:List Value}{S T:List D},RpL X.K kd O H vs S->RpL X.K kd O H ws T->zK vs l->zK ws g->(∀(j:Nat) d e,S[j]? = some d->T[j]? = some e->∃c,wb n d e=some c)->
   ∀j h1 (E:j<g.toArray.size),SeqAt.EqAt A.in1 s l.toArray[j] g.toArray[j] (JG (wb n) S T j):=by
   intro vs ws l g S T F q v1 v2 hd j j1 j2;have q1:j<S.length:=by rw[<-F.length,v1.length];simpa using j1
   have q2:j<T.length:=by rw[<-q.length,v2.length];simpa using j2
   obtain⟨L,ha1,ra1⟩:=F.get<|zzE q1;obtain⟨M,ha2,ra2⟩:=q.get<|zzE q2;obtain⟨u1,hu1,ru1⟩:=v1.get ha1;obtain⟨u2,hu2,ru2⟩:=v2.get ha2;obtain⟨c,hc⟩:=hd j _ _ (zzE q1)<|zzE q2;have e1:l.toArray[j]=u1:=by
    have:=(zzG.mp hu1).2;simpa using this
   have e2:g.toArray[j]=u2:=by
    have:=(zzG.mp hu2).2;simpa using this
   rw[e1,e2];have e3:JG (wb n) S T j=c:=by
    unfold JG;rw[zzE q1,zzE q2];show(wb n _ _).getD false=c;rw[hc];rfl
   rw[e3];exact(Tz I n A.in1 L M _ _ u1 u2 c (by show A.units+1+n<cLine;omega) ra1.vw ra2.vw ru1 ru2 hc).eq
  have S:∀{a a':Addr},x = .ref a->y = .ref a'->SeqAt.RcAt A s (.ref a) (.ref a') b->SeqAt.RcNeAt A s (.ref a) (.ref a') (!b)->EqAll A s (.ref a) (.ref a') b:=by
   intro a a' e1 e2 U b2;refine⟨U,b2, ?_⟩
   by_cases e:a=a'
   . subst e1 e2 e;rw[EV I (n+1) _ _ _ _ h1 E h];exact SeqAt.EqAt.same _
   . exact SeqAt.EqAt.of_refs e U
  cases h1 with
  |non=>
   cases R;cases E with
   |non=>cases k;cases h;exact⟨SeqAt.RcAt.none_none,SeqAt.RcNeAt.none_none,SeqAt.EqAt.same _⟩
   |_=>cases h
  |bl c=>
   cases R;cases E with
   |bl=>cases k;cases h;exact⟨SeqAt.RcAt.bool_bool _ _,SeqAt.RcNeAt.bool_bool _ _,SeqAt.EqAt.bool_bool _ _⟩
   |_=>cases h
  |int c=>
   obtain⟨t0,rfl⟩:=R;cases E with
   |non=>cases k;cases h;exact⟨SeqAt.RcAt.int_none _ _,SeqAt.RcNeAt.int_none _ _,SeqAt.EqAt.int_none _ _⟩
   |int=>obtain⟨t,rfl⟩:=k;cases h;exact⟨SeqAt.RcAt.int_int _ _ _ _,SeqAt.RcNeAt.int_int _ _ _ _,SeqAt.EqAt.int_int _ _ _ _⟩
   |_=>cases h
  |str c=>
   obtain⟨t0,rfl⟩:=R;cases E with
   |str=>obtain⟨t,rfl⟩:=k;cases h;exact⟨SeqAt.RcAt.str_str _ _ _ _,SeqAt.RcNeAt.str_str _ _ _ _,SeqAt.EqAt.str_str _ _ _ _⟩
   |_=>cases h
  | @tup L vs1 N r s1 F=>
   cases R;obtain⟨m,z,i,_⟩:=I.tuple s1;cases E with
   | @tup M vs2 P r' o q=>
    cases k;obtain⟨g,w,B,_⟩:=I.tuple o;obtain⟨k1,k2⟩:=US h;have Y:=W F q z w k1;have Z:((List.range<|min m.toArray.size g.toArray.size).all (JG (wb n) N P)&&m.toArray.size==g.toArray.size)=b:=by
     rw[k2,zzH,zzH,<-z.length,<-w.length,F.length,q.length]
    have U:=SeqAt.RcAt.tuples i B f Y;have b2:=SeqAt.RcNeAt.tuples i B f Y;rw[Z]at U b2;exact S rfl rfl U b2
   |_=>cases h
  | @lst L vs1 N s1 F=>
   cases R;obtain⟨m,z,i,_⟩:=I.list s1.sq;cases E with
   | @lst M vs2 P o q=>
    cases k;obtain⟨g,w,B,_⟩:=I.list o.sq;obtain⟨k1,k2⟩:=US h;have Y:=W F q z w k1;have ez1:=zzH.trans<|z.length.symm.trans F.length;have ez2:=zzH.trans<|w.length.symm.trans q.length
    by_cases hz:m.toArray.size=g.toArray.size
    . have U:=SeqAt.RcAt.lists i.isList B.isList hz f Y;have b2:=SeqAt.RcNeAt.lists i.isList B.isList hz f Y;have Z:(List.range m.toArray.size).all (JG (wb n) N P)=b:=by
            rw[k2,<-ez1,<-ez2,<-hz,Nat.min_self];simp
      rw[Z]at U b2;exact S rfl rfl U b2
    . have hz':(m.toArray.size != g.toArray.size)=true:=by simpa using hz
      have Z:b=false:=by
            rw[k2,<-ez1,<-ez2];have:(m.toArray.size==g.toArray.size)=false:=by simpa using hz
            rw[this,Bool.and_false]
      subst Z;exact S rfl rfl (SeqAt.RcAt.lists_lengths i.isList B.isList hz' f) (SeqAt.RcNeAt.lists_lengths i.isList B.isList hz' f)
   |_=>cases h
  |_=>cases h
end
structure DkAt(P:Program)(w:World)(h:Heap)(a:Addr)(kvs:List (Key×V)):Prop where
 le:kvs.length<=sizeLine
 ns:(a==sysModules)=false
 ex:∃vs,KV kvs vs/\h.DictOf (xy P w) a vs
structure KdOk(X:Cx)(kd:KD):Prop where
 inj:∀a k k',kd a k->kd a k'->k=k'
 inK:∀a k,kd a k->∃o,X.K.lookup a=some o
 at_:∀a k h,kd a k->X.K.In h->DkAt X.prog X.w h a k
section
variable{O:Addr->Prop}
def KZ(I:Inv X Z' σ H s)(hk:KdOk X kd)(h:Rd H a (.dK kvs)\/kd a kvs):DkAt X.prog X.w s.heap a kvs:=by
 rcases h with h|h
 . obtain⟨z,hd,vs,rel,dd⟩:=Dp I.hok h;exact⟨z,hd,vs,rel,dd⟩
 . exact hk.at_ _ _ _ h I.kIn
theorem Hz(I:Inv X Z' σ H s):∀n v d e x b c,Vw X.K kd O H v d->Vw X.K kd O H v e->wb n d x=some b->wb n e x=some c->b=c
 |0,_,_,_,_,_,_,_,_,h,_=>by cases h
 |n+1,v,d,e,x,b,c,h1,h2,h,h'=>by
  have lst:∀vs (ds es xs:List D) (b c:Bool),RpL X.K kd O H vs ds->RpL X.K kd O H vs es->AL (wb n) ds xs=some b->AL (wb n) es xs=some c->b=c:=by
   intro vs
   induction vs with
   |nil=>intro ds es xs b c r1 r2 h h';cases r1;cases r2;exact zzY (h.symm.trans h')
   |cons v vs ih=>
    intro ds es xs b c r1 r2 h h';cases r1 with
    |cons a1 r1=>
     cases r2 with
     | cons a2 r2=>
            cases xs with
            |nil=>cases h;cases h';rfl
            |cons x xs=>
             obtain⟨b1,c1,k1,k2,h⟩:=yu h;obtain⟨b2,c2,k3,k4,h'⟩:=yu h';cases h;cases h';rw[Hz I n _ _ _ _ _ _ a1.vw a2.vw k1 k3,ih _ _ _ _ _ r1 r2 k2 k4]
  cases h1 with
  |tup r1 s1 l1=>
   cases x with
   |tup xs=>
    cases h2 with
    |tup r2 s2 l2=>have:=I.tuple_inj s1 s2;subst this;exact lst _ _ _ _ _ _ l1 l2 h h'
    |_=>cases h'
   |_=>cases h
  |lst s1 l1=>
   cases x with
   |lst xs=>
    cases h2 with
    |lst s2 l2=>have:=I.list_inj s1.sq s2.sq;subst this;exact lst _ _ _ _ _ _ l1 l2 h h'
    |_=>cases h'
   |_=>cases h
  |dct s1 l1=>cases h
  |cl=>cases h
  |ob=>cases h
  |er=>cases h
  |_=>cases h2;exact zzY<|h.symm.trans h'
end
noncomputable def NW:D->Option Key
 | .int i=>some<|.inl i
 | .str x=>some (.inr x)
 |_=>none
def X0(kvs:List (Key×D))(k:Key):Option D:=(kvs.find? λkv=>decide (kv.1=k)).map (·.2)
def Gn{K O}(k)(h:RpM K kd O H vs ds):(∃v d,YR vs k=some v/\X0 ds k=some d/\Rp K kd O H v d)\/(YR vs k=none/\X0 ds k=none):=
 RpM.ind (P:=λvs ds=>(∃v d,YR vs k=some v/\X0 ds k=some d/\Rp K kd O H v d)\/(YR vs k=none/\X0 ds k=none)) (.inr ⟨rfl,rfl⟩) (λ{k' v d vs ds} a _ ih=>by
  by_cases e:k'=k
  . left;refine⟨_,_, ?_, ?_,a⟩
    . unfold YR;simp[e]
    . unfold X0;simp[e]
  . rcases ih with⟨v,d,h1,h2,h3⟩|⟨h1,h2⟩
    . left;refine⟨v,d, ?_, ?_,h3⟩
      . unfold YR at h1 ⊢;simpa[e]using h1
      . unfold X0 at h2 ⊢;simpa[e]using h2
    . right;refine⟨?_, ?_⟩
      . unfold YR at h1 ⊢;simpa[e]using h1
      . unfold X0 at h2 ⊢;simpa[e]using h2) h
noncomputable def anyF(f:D->Option Bool):List D->Option Bool
 | []=>some false
 |x::r=>(f x).bind λb=>(anyF f r).bind λc=>some (b||c)
noncomputable def FM(b:Bool):R0:=.im<|.bl b
def Sb(x:D):D->Option Bool
 | .lst ys=>anyF (λy=>wb 50 y x) ys
 | .tup ys=>anyF (λy=>wb 50 y x) ys
 | .str y=>match x with | .str i=>some (!(Builtin.Str.occurrences y i 0 y.length 1).isEmpty)|_=>none
 |_=>none
def RH:D->D->Option Bool
 |d,.non=>some (match d with | .non=>true|_=>false)
 |_,_=>none
def TX(f:Int->Int->Bool):D->D->Option R0:=Iq λi j=>some<|FM<|f i j
def zj(o:CmpOp)(d e:D):Option R0:=match o with
 | .Eq=>(wb 60 d e).bind λb=>some<|FM b
 | .NotEq=>(wb 60 d e).bind λb=>some<|FM !b
 | .Lt=>TX (λi j=>decide (i<j)) d e
 | .LtE=>TX (λi j=>decide (i<=j)) d e
 | .Gt=>TX (λi j=>decide (j<i)) d e
 | .GtE=>TX (λi j=>decide (j<=i)) d e
 | .In=>(Sb d e).bind λb=>some<|FM b
 | .NotIn=>(Sb d e).bind λb=>some<|FM !b
 | .Is=>(RH d e).bind λb=>some<|FM b
 | .IsNot=>(RH d e).bind λb=>some<|FM !b
def Xy{o:Option Bool}{f:Bool->Bool}(h:(o.bind λb=>some<|FM<|f b)=some r):∃k,r = .im (.bl k):=by
 obtain⟨b,_,h⟩:=bS_ h;cases h;exact⟨_,rfl⟩
def Ub(h:TX f x y=some r):∃k,r = .im (.bl k):=by
 obtain⟨i,j,_,_,h⟩:=yu h;cases h;exact⟨_,rfl⟩
def Ed(op:CmpOp)(x y:D)(r)(h:zj op x y=some r):∃k,r = .im (.bl k):=by
 cases op with
 |Eq=>exact Xy h
 |NotEq=>exact Xy h
 |Lt=>exact Ub h
 |LtE=>exact Ub h
 |Gt=>exact Ub h
 |GtE=>exact Ub h
 |In=>exact Xy h
 |NotIn=>exact Xy h
 |Is=>exact Xy h
 |IsNot=>exact Xy h
section
variable{O:Addr->Prop}
noncomputable def qD(K:zzA)(kd:KD)(O:Addr->Prop)(H:Hp)(n:Nat)(x:D)(u:Value):Bool:=@decide (∃v d,RelV v u/\Rp K kd O H v d/\wb n d x=some true)<|Classical.propDecidable _
def Cb(I:Inv X Z' σ H s)(hk:KdOk X kd){n:Nat}(r:RelV v u)(p:Rp X.K kd O H v d)(e:wb n d x=some b):qD X.K kd O H n x u=b:=by
 cases b with
 |true=>exact @zyN _ (Classical.propDecidable _) ⟨v,d,r,p,e⟩
 |false=>
  refine @zyF _ (Classical.propDecidable _) λ⟨v',d',r',p',e'⟩=>?_;have:=r.inj r';subst this;exact Bool.noConfusion<|Hz I n _ _ _ _ _ _ p.vw p'.vw e e'
def AV(I:Inv X Z' σ H s)(hk:KdOk X kd){n:Nat}(hv:zK vs us)(h:RpL X.K kd O H vs ds)(e:anyF (λy=>wb n y x) ds=some b):us.any (qD X.K kd O H n x)=b:=
 RpL.ind (P:=λvs ds=>∀us b,zK vs us->anyF _ ds=some b->us.any _=b) (λus b hv e=>by cases e;cases hv;rfl) (λ{v d vs ds} a _ ih us b hv h=>by
  cases hv with
  |cons r t=>
   obtain⟨b1,c1,h1,h2,h⟩:=yu h;cases h;rw[List.any_cons,Cb I hk r a h1,ih _ _ t h2]) h us b hv e
theorem Ly:∀{ds:List D}{b:Bool},anyF f ds=some b->∀d ∈ ds,∃c,f d=some c
 | [],_,_,d,hd=>by simp at hd
 |x::r,b,h,d,hd=>by
  obtain⟨b1,c1,h1,h2,h⟩:=yu h
  rcases zzC.mp hd with e|e
  . subst e;exact⟨b1,h1⟩
  . exact Ly h2 d e
def J4(I:Inv X Z' σ H s)(hk:KdOk X kd){n:Nat}(hu:A.units+n<cLine)(vx:Vw X.K kd O H x d)(rx:RelV x v)(hv:zK vs us)(h:RpL X.K kd O H vs ds)(k:∀e ∈ ds,∃c,wb n e d=some c):∀u ∈ us,SeqAt.EqAt A s u v (qD X.K kd O H n d u):=
 RpL.ind (P:=λvs ds=>∀us,zK vs us->(∀e ∈ ds,∃c,wb n e d=some c)->∀u ∈ us,SeqAt.EqAt A s u v<|qD X.K kd O H n d u) (λus hv _ u hu=>by cases hv;simp at hu) (λa q ih us hv h u hm=>by
  cases hv with
  |cons r t=>
   rcases zzC.mp hm with e|e
   . subst e;obtain⟨c,hc⟩:=h _ zzF;rw[Cb I hk r a hc];exact(Tz I n A _ _ _ _ _ _ _ hu a.vw vx r rx hc).eq
   . exact ih _ t (λe he=>h e<|zzD _ he) u e) h us hv k
def Tt{A}{us}(I:Inv X Z' σ H s)(hk:KdOk X kd)(hu:A.units+50<cLine)(vx:Vw X.K kd O H x d)(rx:RelV x v)(hv:zK vs us)(h:RpL X.K kd O H vs ds)(e:anyF (λy=>wb 50 y d) ds=some b):(∀w ∈ us.toArray,SeqAt.EqAt A s w v<|qD X.K kd O H 50 d w)/\us.toArray.any (qD X.K kd O H 50 d)=b:=
 ⟨λw hw=>J4 I hk hu vx rx hv h (Ly e) w (by simpa using hw),by rw[<-AV I hk hv h e];simp⟩
def Qb(hk:KdOk X kd)(hu:X.A.units+100<cLine)(op):JF X kd (compareOp op) (zj op):=by
 intro Z' s σ H x y v u Q I rx ry h;obtain⟨O,d,e,r,ht,vx,vy,he,q⟩:=h;cases op with
 |Eq=>
  obtain⟨b,h1,he⟩:=bS_<|he;cases he;exact(Tz I 60 X.A x y d e v u b ⋯ vx vy rx ry h1).rc _ _ _ _ (ZX I (yc q<|.bl _) rfl)
 |NotEq=>
  obtain⟨b,h1,he⟩:=bS_<|he;cases he;exact(Tz I 60 X.A x y d e v u b ⋯ vx vy rx ry h1).ne _ _ _ _ (ZX I (yc q<|.bl _) rfl)
 |Lt=>
  obtain⟨i,j,rfl,rfl,he⟩:=Xf vx vy he;cases he;exact qP Z' s σ H _ _ v u Q I rx ry ⟨_,_,rfl,rfl,yc q<|.bl _⟩
 |LtE=>
  obtain⟨i,j,rfl,rfl,he⟩:=Xf vx vy he;cases he;exact oI Z' s σ H _ _ v u Q I rx ry ⟨_,_,rfl,rfl,yc q<|.bl _⟩
 |Gt=>
  obtain⟨i,j,rfl,rfl,he⟩:=Xf vx vy he;cases he;exact pf Z' s σ H _ _ v u Q I rx ry ⟨_,_,rfl,rfl,yc q<|.bl _⟩
 |GtE=>
  obtain⟨i,j,rfl,rfl,he⟩:=Xf vx vy he;cases he;exact q9 Z' s σ H _ _ v u Q I rx ry ⟨_,_,rfl,rfl,yc q<|.bl _⟩
 |In=>
  obtain⟨b,h1,he⟩:=bS_<|he;cases he;cases vy with
  |lst hs rl=>
   cases ry;obtain⟨zM,rv,p,_⟩:=I.list hs.sq;obtain⟨h2,h3⟩:=Tt (A:=X.A.in1) I hk (by show X.A.units+1+50<cLine;omega) vx rx rv rl h1;refine SeqAt.in_listAt _ p.isList h2 ?_;rw[h3];exact ZX (I) (yc q<|.bl _) rfl
  |tup rp hs rl=>
   cases ry;obtain⟨zM,rv,p,_⟩:=I.tuple hs;obtain⟨h2,h3⟩:=Tt (A:=X.A.in1) I hk (by show X.A.units+1+50<cLine;omega) vx rx rv rl h1;refine SeqAt.in_tupleAt _ p h2 ?_;rw[h3];exact ZX (I) (yc q<|.bl _) rfl
  |str z=>
   cases vx with
   |str i=>cases h1;exact FY Z' s σ H _ _ v u Q I rx ry ⟨_,_,rfl,rfl,yc q<|.bl _⟩
   |_=>cases h1
  |_=>cases h1
 |NotIn=>
  obtain⟨b,h1,he⟩:=bS_<|he;cases he;cases vy with
  |lst hs rl=>
   cases ry;obtain⟨zM,rv,p,_⟩:=I.list hs.sq;obtain⟨h2,h3⟩:=Tt (A:=X.A.in1) I hk (by show X.A.units+1+50<cLine;omega) vx rx rv rl h1;refine SeqAt.notIn_listAt _ p.isList h2 ?_;rw[h3];exact ZX (I) (yc q<|.bl _) rfl
  |tup rp hs rl=>
   cases ry;obtain⟨zM,rv,p,_⟩:=I.tuple hs;obtain⟨h2,h3⟩:=Tt (A:=X.A.in1) I hk (by show X.A.units+1+50<cLine;omega) vx rx rv rl h1;refine SeqAt.notIn_tupleAt _ p h2 ?_;rw[h3];exact ZX (I) (yc q<|.bl _) rfl
  |str z=>
   cases vx with
   |str i=>cases h1;exact TK Z' s σ H _ _ v u Q I rx ry ⟨_,_,rfl,rfl,yc q<|.bl _⟩
   |_=>cases h1
  |_=>cases h1
 |Is=>
  obtain⟨b,h1,he⟩:=bS_<|he;cases he;cases vy with
  |non=>
   refine tQ Z' s σ H _ _ v u Q I rx ry ⟨rfl, ?_⟩;have:decide (x=V.non)=b:=by cases vx<;>(cases h1;rfl)
   rw[this];exact yc q (.bl b)
  |_=>cases h1
 |IsNot=>
  obtain⟨b,h1,he⟩:=bS_<|he;cases he;cases vy with
  |non=>
   refine IT Z' s σ H _ _ v u Q I rx ry ⟨rfl, ?_⟩;have:decide (x=V.non)=b:=by cases vx<;>(cases h1;rfl)
   rw[this];exact yc q (.bl _)
  |_=>cases h1
end
def EE{K kd O H vs ds i d}(r:RpL K kd O H vs ds)(h:Gr ds i=some d):∃v,Gr vs i=some v/\Rp K kd O H v d:=by
 unfold Gr at ⊢;obtain⟨j,a,b⟩:=bS_ h;rw[r.length,a];exact r.get b
noncomputable def D9(o:Option D):Option R0:=o.bind λd=>some<|.im d
def zU(x y:D):Option R0:=match x with
 | .lst xs=>(LI y).bind λi=>D9<|Gr xs i
 | .tup xs=>(LI y).bind λi=>D9<|Gr xs i
 | .str x=>(LI y).bind λi=>if x.length<=sizeLine then(Gr x.cps.toList i).bind λc=>some (.im<|.str ⟨#[c]⟩)else none
 | .dct kvs=>(NW y).bind λk=>D9 (X0 kvs k)
 |_=>none
def Rf(h:D9 o=some r):∃d,o=some d/\r = .im d:=by
 obtain⟨d,a,b⟩:=bS_<|h;cases b;exact⟨d,a,rfl⟩
def Kb{K O H x d k}(vx:Vw K kd O H x d)(e:NW d=some k):x=kV k:=by
 cases vx with
 |int i=>cases e;rfl
 |str i=>cases e;rfl
 |_=>cases e
def jo(hk:KdOk X kd):ig X kd zU:=by
 intro b f g s σ H x y v u Q I A B h C;obtain⟨O,d,e,r,U,P,D,a,q⟩:=h;cases P with
 |lst m E=>
  obtain⟨i,n,a⟩:=bS_<|a;obtain⟨rfl,rfl⟩:=Xo D n;obtain⟨d,l,rfl⟩:=Rf a;obtain⟨w,p,j⟩:=EE E l;exact IV b f g s σ H _ _ v u Q I A B ⟨_,_,_,w,rfl,rfl,m.sq,p,yc q j⟩ C
 |tup J m E=>
  obtain⟨i,n,a⟩:=bS_<|a;obtain⟨rfl,rfl⟩:=Xo D n;obtain⟨d,l,rfl⟩:=Rf a;obtain⟨w,p,j⟩:=EE E l;exact rR b f g s σ H _ _ v u Q I A B ⟨_,_,_,w,rfl,rfl,m,p,yc q j⟩ C
 |str z=>
  obtain⟨i,n,a⟩:=bS_<|a;obtain⟨rfl,rfl⟩:=Xo D n;obtain⟨R,a⟩:=ite_some' a;obtain⟨c,l,a⟩:=bS_ a;cases a;exact NR b f g s σ H _ _ v u Q I A B ⟨_,_,c,rfl,rfl,R,l,yc q<|.str _⟩ C
 |dct m S=>
  obtain⟨k,l,a⟩:=bS_<|a;obtain⟨d,K,rfl⟩:=Rf a;cases A;obtain⟨z,V,T,G,L⟩:=KZ I hk m;have:=Kb D l;subst this
  rcases Gn k S with⟨M,W,N,t,J⟩|⟨N,t⟩
  . rw[K]at t;cases t;obtain⟨Y,p,j⟩:=W3.some_of (by rw[<-N];exact G.val k);exact tail_any L.typeIs PySem.F.slot_dict_getitem.lookup (wpAny_getItem_of (Ea B) L.mapOf p ⟨M,H,I.tok _,j,yc q J⟩) C
  . rw[K]at t;cases t
 |_=>cases a
def cutD(xs:List D)(lo hi:Option Int):List D:=(xs.drop<|HT.sIx xs.length 0 lo).take<|HT.sIx xs.length xs.length hi-HT.sIx xs.length 0 lo
def AJ{K O H vs ds}(r:RpL K kd O H vs ds)(lo hi):RpL K kd O H (Ie vs lo hi) (cutD ds lo hi):=by
 unfold Ie;rw[r.length];exact(r.drop _).take _
def Yq(x:D)(lo hi:Option Int):Option R0:=match x with
 | .lst xs=>some (.fl<|cutD xs lo hi)
 |_=>none
abbrev OF:=AS->Option (Option Int×AS)
noncomputable def oN:OF:=λas=>some (none,as)
def oS(f:EF):OF:=λas=>(f as).bind λp=>(iF p.1).bind λi=>some (some i,p.2)
def wV(fa:EF)(fl fh:OF)(g:D->Option Int->Option Int->Option R0):EF:=λas=>(fa as).bind λp=>(fl p.2).bind λl=>(fh l.2).bind λh=>(p.1.frz.view h.2).bind λx=>(g x.1 l.1 h.1).bind λr=>(wrap x.2 r).bind λz=>some (z,h.2)
def gx(K:zzA)(kd:KD)(f:OF):TO:=λσ H Q=>∃F B ad as o S',Rel K kd F B [] ad as σ H/\f as=some (o,S')/\
 ∀Sh H',Rel K kd F B [] Sh S' σ H'->Grow (Gw [] ad) H (Gw [] Sh) H'->Q o H'
@[irreducible] def AO(X:Cx)(kd:KD)(e:Option Expr)(f:OF):Prop:=PO X e<|gx X.K kd f
def Ij(h:PO X e t)(k:∀σ H Q,t' σ H Q->t σ H Q):PO X e t':=λa s σ H Q I q=>h a s σ H Q I<|k σ H Q q
def YA:AO X kd none oN:=by with_unfolding_all exact(Ij Jm λσ H Q h=>by
 obtain⟨F,B,a,as,o,b,R,e,q⟩:=h;cases e;exact q a H R Grow.refl)
def qj{K F B T ad σ H v st c}(h:yS K kd F B T ad σ H v (.ow<|.lf st<|.int c)):T=[]/\v = .int c:=by
 cases h with
 |lf a=>cases a;exact ⋯
def vI{a fa}(ha:AE X kd a fa):AO X kd (some a) (oS fa):=by with_unfolding_all exact(Ij (Jz ha) λσ H Q h=>by
 obtain⟨F,B,d,as,o,f,R,e,q⟩:=h;obtain⟨⟨p,g⟩,i,j,k,e⟩:=yu e;obtain⟨r,rfl⟩:=tV k;cases e;refine⟨F,B,d,as,_,_,R,j,λv s b l m c n=>?_⟩;obtain⟨rfl,rfl⟩:=qj c;exact⟨i,rfl,q b l m n⟩)
def jE:qF X (λx lo hi H Q=>∃O d r,(∀a,O a->H a≠none)/\Vw X.K kd O H x d/\Yq d lo hi=some r/\RQ X.K kd O H Q r):=by
 intro b s σ H x v j k e f l Q I m n o p h;obtain⟨O,d,r,t,u,c,q⟩:=h;cases u with
 |lst i g=>cases c;exact JI b s σ H _ v j k e f l Q I m n o p ⟨_,_,rfl,i.sq,Wn q<|AJ g e f⟩
 |_=>cases c
def O0{a lo hi fa fl fh pos p2}{gg}(hg:qF X (λx lo hi H Q=>∃O d r,(∀a,O a->H a≠none)/\Vw X.K kd O H x d/\gg d lo hi=some r/\RQ X.K kd O H Q r))(ha:AE X kd a fa)(hl:AO X kd lo fl)(hh:AO X kd hi fh):AE X kd (.Subscript a (.Slice lo hi none p2) pos) (wV fa fl fh gg):=by with_unfolding_all exact(yg (OB hg ha hl hh) λσ H Q h=>by
 obtain⟨F,B,O,as,r,s,R,e,q⟩:=h;obtain⟨⟨p,c⟩,⟨l,b⟩,⟨u,y⟩,t,x,A,e⟩:=yU e;obtain⟨⟨d,P⟩,D,z,C,E,G,e⟩:=yU e;cases e;refine y9 R t λv f S I g J=>⟨F,B,f,c,l,b,I,x,λi T R2 n=>⟨F,B,i,b,u,_,R2,A,λj U k o=>?_⟩⟩;exact⟨_,d,D,k.tr _,yS.vw k ((g.grow n).grow o) C,E,wa k G λw K L M m N=>q w K j L M m<|((J.trans n).trans o).trans N⟩)
def Nc{a lo hi fa fl fh pos p2}(ha:AE X kd a fa)(hl:AO X kd lo fl)(hh:AO X kd hi fh):AE X kd (.Subscript a (.Slice lo hi none p2) pos) (wV fa fl fh Yq):=O0 jE ha hl hh
noncomputable def RK:D->Option R0
 | .int i=>some (.im<|.int (-i))
 |_=>none
def ki:jU X kd (unaryOp .USub) RK:=by
 intro a s σ H x v Q I c h;obtain⟨O,d,r,f,e,b,q⟩:=h;cases e with
 |int i=>cases b;exact uy a s σ H _ v Q I c ⟨i,rfl,yc q<|.int _⟩
 |_=>cases b
noncomputable def mT:D->String
 | .non=>"NoneType" | .bl _=>"bool" | .int _=>"int" | .str _=>"str" | .tup _=>"tuple" | .lst _=>"list" | .dct _=>"dict"|_=>""
noncomputable def A_:D->Bool
 | .cl _=>false | .ob _ _ _=>false | .er _ _ _=>false|_=>true
noncomputable def Fs(t c:String):Bool:=t==c||(t=="bool"&&c=="int")
noncomputable def VA(c:String):Bool:=c=="int"||c=="bool"||c=="str"||c=="list"||c=="tuple"||c=="dict"
def uZ(K)(d)(c)(h:VA c=true)(ho:A_ d=true):W.kitOne K (.type<|mT d) (.type c)=some (Fs (mT d) c):=by
 have:c="int"\/c="bool"\/c="str"\/c="list"\/c="tuple"\/c="dict":=by
  unfold VA at h;simp at h
  rcases h with((((h|h)|h)|h)|h)|h<;>simp[h]
 rcases this with rfl|rfl|rfl|rfl|rfl|rfl<;>cases d<;>first|rfl|cases ho
def t_(hk:KdOk X kd){Z' σ H s O A E Q c x u d}(I:Inv X Z' σ H s)(rx:RelV x u)(vx:Vw X.K kd O H x d)(hc:VA c=true)(ho:A_ d=true)
 (h:∀tk,Q (.bool<|Fs (mT d) c) {s with toks:=tk}):wpAny (model X.prog X.w) A (call (.builtin "isinstance") [u,.type c]) Q E s:=by
 have e:=uZ X.K d c hc ho;cases vx with
 |non=>cases rx;exact W.kia_one W.kitx_none I.kIn True.intro e ⋯ h
 |bl y=>cases rx;exact W.kia_one W.kitx_bool I.kIn True.intro e ⋯ h
 |int i=>obtain⟨t,rfl⟩:=rx;exact W.kia_one W.kitx_int I.kIn True.intro e ⋯ h
 |str y=>obtain⟨t,rfl⟩:=rx;exact W.kia_one W.kitx_str I.kIn True.intro e ⋯ h
 |lst a j=>
  cases rx;obtain⟨g,k,⟨o,n,b,f,_⟩,_⟩:=I.list a.sq;exact W.kia_one W.kitx_list I.kIn ⟨o,b,f⟩ e ⋯ h
 |tup m a j=>
  cases rx;obtain⟨g,k,⟨o,b,f,_⟩,_⟩:=I.tuple a;exact W.kia_one W.kitx_tuple I.kIn ⟨o,b,f⟩ e ⋯ h
 |dct a p=>
  cases rx;obtain⟨z,q,r,l,⟨o,v,B,b,f,_⟩⟩:=KZ I hk a;exact W.kia_one W.kitx_dict I.kIn ⟨o,b,f.1⟩ e ⋯ h
 |cl=>cases ho
 |ob=>cases ho
 |er=>cases ho
noncomputable def YQ:List D->Option (List Int)
 | []=>some []
 | .int i::r=>(YQ r).bind λs=>some (i::s)
 |_::_=>none
noncomputable def LA:List Int->Int
 | []=>0
 |x::r=>r.foldl (λa b=>if b<a then b else a) x
theorem XM:∀r (x:Int),r.foldl (λa b=>if b<a then b else a) x ∈ x::r/\∀a ∈ x::r,r.foldl (λa b=>if b<a then b else a) x<=a
 | [],x=>⋯
 |y::r,x=>by
  rw[List.foldl_cons];obtain⟨h1,h2⟩:=XM r _;refine⟨?_,λa ha=>?_⟩
  . rcases zzC.mp h1 with e|e
    . rw[e];split<;>simp
    . exact zzD _<|zzD _ e
  . have h3:=h2 _ zzF
    rcases zzC.mp ha with e|e
    . subst e;exact Int.le_trans h3 ⋯
    . rcases zzC.mp e with e|e
      . subst e;exact Int.le_trans h3 ⋯
      . exact h2 a<|zzD _ e
def Jb(h1:M ∈ ns)(h2:∀a ∈ ns,M<=a):LA ns=M:=by
 cases ns with
 |nil=>simp at h1
 |cons x r=>
  obtain⟨k1,k2⟩:=XM r x;have a1:=k2 M h1;have a2:=h2 _ k1;show r.foldl _ x=M;omega
noncomputable def lq(f:D->Option R0)(ds:List D):Option R0:=match ds with
 | [x]=>f x
 |_=>none
def NS{K O}(vl:VwL K kd O H xs ds)(h:lq f ds=some r):∃x d,xs=[x]/\Vw K kd O H x d/\f d=some r:=by
 cases vl with
 |nil=>cases h
 |cons a b=>
  cases b with
  |nil=>exact⟨_,_,rfl,a,h⟩
  |cons _ _=>cases h
noncomputable def k8:D->Option R0
 | .lst ds=>some<|.im<|.int ds.length
 | .str x=>if x.length<=sizeLine then some (.im<|.int x.length)else none
 |_=>none
def z8:List D->Option R0:=lq k8
noncomputable def kS:D->Option R0
 | .int i=>some<|.im<|.int i
 | .bl b=>some (.im<|.int (if b then 1 else 0))
 |_=>none
noncomputable def tR:List D->Option R0
 | [.int i]=>if i.natAbs.log2<1920 then some (.im<|.str<|toString i)else none
 |_=>none
noncomputable def tupP:List D->Option R0
 | [.lst ds]=>some<|.im<|.tup ds
 | [.tup ds]=>some (.im<|.tup ds)
 |_=>none
def IC(ds:List D):Option R0:=match ds with
 | [x,y]=>Iq (λi j=>some<|.im<|.int (if j > i then j else i)) x y
 |_=>none
def Bn:List D->Option R0
 | [.int i,.int j]=>some<|.im<|.int (if j<i then j else i)
 | [.lst ds]=>(YQ ds).bind λns=>if 0<ns.length then some (.im<|.int<|LA ns)else none
 |_=>none
def wz{K O}(h:VwL K kd O H xs [d]):∃x,xs=[x]/\Vw K kd O H x d:=by
 cases h with
 |cons a b=>cases b;exact⟨_,rfl,a⟩
def El{K O}(h:VwL K kd O H xs [d,e]):∃x y,xs=[x,y]/\Vw K kd O H x d/\Vw K kd O H y e:=by
 cases h with
 |cons a b=>
  cases b with
  |cons b c=>cases c;exact⟨_,_,rfl,a,b⟩
def Ou{K O}(h:RpL K kd O H vs ds)(e:YQ ds=some ns):vs=ns.map V.int:=
 RpL.ind (P:=λvs ds=>∀ns,YQ ds=some ns->vs=ns.map V.int) (λns e=>by cases e;rfl) (λ{v d vs ds} a _ ih ns e=>by
  cases d with
  |int i=>
   obtain⟨s,h1,h2⟩:=bS_<|e;cases h2;cases a;rw[ih _ h1];rfl
  |_=>cases e) h ns e
def XT(hk:KdOk X kd):YM X kd (.builtin "len") z8:=by
 intro Z' s σ H xs us Q I r h;obtain⟨O,ds,z,ht,vl,he,q⟩:=h;obtain⟨x,d,rfl,vx,he⟩:=NS vl he;cases vx with
 |lst hr rl=>cases he;exact VE Z' s σ H _ us Q I r ⟨_,_,rfl,hr.sq,by rw[rl.length];exact yc q<|.int _⟩
 |str y=>
  obtain⟨c,rfl⟩:=zv he;exact Tv Z' s σ H _ us Q I r ⟨_,rfl,c,yc q<|.int _⟩
 |_=>cases he
def Bc:YM X kd (.type "str") tR:=by
 intro Z' s σ H xs us Q I r h;obtain⟨O,ds,z,ht,vl,he,q⟩:=h;unfold tR at he
 split at he
 . obtain⟨c,rfl⟩:=zv he;obtain⟨x,rfl,vx⟩:=wz vl;cases vx;exact T_ Z' s σ H _ us Q I r ⟨_,rfl,c,yc q<|.str _⟩
 . cases he
def FO:YM X kd (.type "tuple") tupP:=by
 intro Z' s σ H xs us Q I r h;obtain⟨O,ds,z,ht,vl,he,q⟩:=h;unfold tupP at he
 split at he
 . cases he;obtain⟨x,rfl,vx⟩:=wz vl;cases vx with
   |lst hr rl=>exact X8 Z' s σ H _ us Q I r ⟨_,_,rfl,.inl ⟨hr.sq,Ma ht q rl⟩⟩
 . cases he;obtain⟨x,rfl,vx⟩:=wz vl;cases vx with
   |tup rp hr rl=>exact X8 Z' s σ H _ us Q I r ⟨_,_,rfl,.inr ⟨hr,yc q rp⟩⟩
 . cases he
def FW(hc:X.calm=true):YM X kd (.builtin "max") IC:=by
 intro Z' s σ H xs us Q I r h;obtain⟨O,ds,z,ht,vl,he,q⟩:=h;unfold IC at he
 split at he
 . obtain⟨x,y,rfl,vx,vy⟩:=El vl;obtain⟨i,j,rfl,rfl,he⟩:=Xf vx vy he;cases he;exact FB hc Z' s σ H _ us Q I r ⟨_,_,rfl,yc q<|.int _⟩
 . cases he
def Ba(hc:X.calm=true):YM X kd (.builtin "min") Bn:=by
 intro Z' s σ H xs us Q I r h;obtain⟨O,ds,z,ht,vl,he,q⟩:=h;unfold Bn at he
 split at he
 . cases he;obtain⟨x,y,rfl,vx,vy⟩:=El vl;cases vx;cases vy;exact FD hc Z' s σ H _ us Q I r ⟨_,_,rfl,yc q<|.int _⟩
 . obtain⟨ns,h1,he⟩:=bS_ he;obtain⟨c,rfl⟩:=zv he;obtain⟨x,rfl,vx⟩:=wz vl;cases vx with
   |lst hr rl=>
    obtain⟨u,rfl,ru⟩:=vals1 r;cases ru;obtain⟨zM,rv,p,_⟩:=I.list hr.sq;rw[Ou rl h1]at rv;have hi:=intsAre_of rv;obtain⟨ys,e⟩:=hi.allInts.items;have hns:ns=ys.toList.map (·.1):=by rw[<-hi.numsOf,<-nums_intItems,<-e]
    have hsz:0<ys.size:=by
     have h3:=c;rwa [hns,zzB]at h3
    have hl:=p.isList;rw[e]at hl;refine min_intList (I.ok.hd hc) hl hsz λv h' tk hv kp=>?_;obtain⟨t,rfl⟩:=intItems_at hv;obtain⟨k1,k2⟩:=argBest_lt (numAt ys)<|ys.size-1;refine⟨.int _,H,I.kept kp,⟨t, ?_⟩,yc q<|.int _⟩
    congr 1
    refine(Jb ?_ λa ha=>?_).symm
    . rw[hns,numAt_eq];have vj:argBest (λi j=>decide (numAt ys i<numAt ys j)) (ys.size-1)<(ys.toList.map (·.1)).length:=by rw[zzB,zyS];omega
      rw[zyE,zzE vj];exact zyX vj
    . rw[hns]at ha;obtain⟨j,hj,rfl⟩:=List.getElem_of_mem ha;have hj':=hj;rw[zzB,zyS]at hj;have:=k2 j ⋯
      rwa [numAt_eq ys j,zyE,zzE hj']at this
 . cases he
noncomputable def ZC(env:Env):List (Str×NameKind)->List (Str×Addr)->List (Str×Addr)
 | [],cs=>cs
 |(n,k)::r,cs=>ZC env r (if k == .free then((n,(env.cells.lookup n).getD 0)::cs)else cs)
def Wf(h:∀x ∈ scope.names,x.2 = .free->∃c,env.cells.lookup x.1=some c):closureFor scope env=pure (ZC env scope.names []):=by
 have s:∀b i f,
  (∀d g i,f (d,g) i=if g == .free then(do let a <-cellOf env d;pure (.yield ((d,a)::i)))else pure<|.yield i)->
  (∀x ∈ b,x.2 = .free->∃c,env.cells.lookup x.1=some c)->(forIn b i f:Sem _)=pure (ZC env b i):=by
  intro b
  induction b with
  |nil=>intro i f _ _;rfl
  |cons x r p=>
   intro i f l m;obtain⟨n,k⟩:=x;rw[List.forIn_cons,l];unfold ZC
   by_cases j:(k == .free)=true
   . obtain⟨c,q⟩:=m _ zzF (by simpa using j);rw[if_pos j,if_pos j];have e:cellOf env n=pure c:=by unfold cellOf;rw[q]
     rw[e,q];exact p _ f l λy o=>m y<|zzD _ o
   . rw[if_neg j,if_neg j];exact p _ f l λy o=>m y<|zzD _ o
 simp only[closureFor];rw[s scope.names [] _ (λd g i=>?_) h]
 . rfl
 . rfl
theorem PM:∀names cs p,p ∈ ZC env names cs->p ∈ cs\/((p.1,NameKind.free) ∈ names/\p.2=(env.cells.lookup p.1).getD 0)
 | [],_,_,h=>.inl h
 |(n,k)::r,b,p,h=>by
  rcases PM r _ p h with h|h
  . by_cases a:(k == .free)=true
    . rw[if_pos a]at h
      rcases zzC.mp h with e|h
      . subst e;have:k = .free:=by simpa using a
        subst this;exact .inr ⟨zzF,rfl⟩
      . exact .inl h
    . rw[if_neg a]at h;exact .inl h
  . exact .inr ⟨zzD _ h.1,h.2⟩
theorem Rg:∀names cs p,p ∈ cs->p ∈ ZC env names cs
 | [],_,_,h=>h
 |_::r,a,p,h=>by
  refine Rg r _ p ?_
  split
  . exact zzD _ h
  . exact h
theorem P0:∀names cs x,(x,NameKind.free) ∈ names->(x,(env.cells.lookup x).getD 0) ∈ ZC env names cs
 |_::r,a,x,h=>by
  rcases zzC.mp h with e|h
  . cases e;exact Rg r _ _ ⋯
  . exact P0 r _ x h
theorem ZV:∀{l:List (Str×α)},(∀p ∈ l,p.1=x->p.2=a)->(∃b,(x,b) ∈ l)->l.lookup x=some a
 | [],_,h=>by obtain⟨_,h⟩:=h;cases h
 |(k,v)::r,u,h=>by
  rw[List.lookup_cons];cases hb:x==k with
  |true=>
   have:=u _ zzF (beq_iff_eq.mp hb).symm;exact congrArg some this
  |false=>
   refine ZV (λp c=>u p<|zzD _ c) ?_;obtain⟨b,h⟩:=h
   rcases zzC.mp h with e|h
   . cases e;simp at hb
   . exact⟨b,h⟩
theorem Qf:∀names h acc p,p ∈ cellsFrom h.objs.size names acc->
 p ∈ acc\/((p.1,NameKind.cell) ∈ names/\(pushCells h names).IsCell p.2 none/\h.objs.size<=p.2)
 | [],_,_,_,m=>.inl m
 |(n,k)::r,h,b,p,m=>by
  unfold cellsFrom at m;unfold pushCells
  split at m
  . rename_i a;rw[if_pos a];have e:(h.push {cls:=.type "cell",data:=.cell none}).objs.size=h.objs.size+1:=zxO ..;rw[<-e]at m
    rcases Qf r _ _ p m with m|⟨c,d,f⟩
    . rcases zzC.mp m with g|m
      . subst g;have:k = .cell:=by simpa using a
        subst this;refine .inr ⟨zzF, ?_,zzN _⟩;have z:(h.push {cls:=.type "cell",data:=.cell none}).IsCell h.objs.size none:=⟨_,zxH _ rfl,rfl⟩;exact z.keeps<|pushCells_keeps r _
      . exact .inl m
    . exact .inr ⟨zzD _ c,d,by rw[e]at f;omega⟩
  . rename_i a;rw[if_neg a]
    rcases Qf r h b p m with m|⟨c,d,f⟩
    . exact .inl m
    . exact .inr ⟨zzD _ c,d,f⟩
theorem YD:∀names n acc p,p ∈ acc->p ∈ cellsFrom n names acc
 | [],_,_,_,m=>m
 |_::r,n,a,p,m=>by
  unfold cellsFrom
  split
  . exact YD r _ _ p<|zzD _ m
  . exact YD r _ _ p m
theorem Qm:∀names n acc x,(x,NameKind.cell) ∈ names->∃c,(x,c) ∈ cellsFrom n names acc
 |_::r,n,a,x,m=>by
  unfold cellsFrom
  rcases zzC.mp m with e|m
  . cases e;exact⟨n,YD r _ _ _ zzF⟩
  . split
    . exact Qm r _ _ x m
    . exact Qm r _ _ x m
theorem V7:∀names n acc,(∀p ∈ acc,p.2<n)->(∀p ∈ acc,∀q ∈ acc,p.2=q.2->p.1=q.1)->∀p ∈ cellsFrom n names acc,∀q ∈ cellsFrom n names acc,p.2=q.2->p.1=q.1
 | [],_,_,_,h=>h
 |_::r,n,c,b,h=>by
  unfold cellsFrom
  split
  . refine V7 r _ _ (λp m=>?_) λp m q a e=>?_
    . rcases zzC.mp m with z|m
      . subst z;exact Nat.lt_succ_self _
      . exact zyY<|b p m
    . rcases zzC.mp m with z|m
      . rcases zzC.mp a with d|a
        . rw[z,d]
        . subst z;have:=b q a;rw[<-e]at this;exact absurd this ⋯
      . rcases zzC.mp a with d|a
        . subst d;have:=b p m;rw[e]at this;exact absurd this ⋯
        . exact h p m q a e
  . exact V7 r n c b h
noncomputable def Xr(scope:Scope)(env:Env)(cl:List (Str×Addr))(L:Addr):Env:=
 {scope:=relabel scope env,locals:=L,globals:=env.globals,cells:=cellsFrom (L+1) scope.names cl,qual:=env.qual,func:=none,code:=env.code,frame:=env.frame,builtins:=env.builtins}
def GN
 (h:∀h' env',{env' with scope:=relabel scope env}=Xr scope env cl s.heap.objs.size->env'.locals=s.heap.objs.size->(∀b o,s.heap.get? b=some o->h'.get? b=some o)->h'.Ns s.heap.objs.size (λ_=>none)->
  (∀p ∈ cellsFrom (s.heap.objs.size+1) scope.names cl,p ∈ cl\/((p.1,NameKind.cell) ∈ scope.names/\h'.IsCell p.2 none/\s.heap.objs.size+1<=p.2))->Q env' {s with heap:=h'}):
 wpAny M A (newFunctionEnv scope env.globals cl [] env.qual none .none<|some env) Q E s:=by
 simp only[newFunctionEnv,Option.isSome_some,if_true];refine zxD<|wpAny_alloc ?_;refine zxD<|wpAny_layCells _ ⋯ _ _ _ _ ?_;have e:(s.heap.push {cls:=.type "dict",data:=.dict #[]}).objs.size=s.heap.objs.size+1:=zxO ..;refine zxD<|zxE<|zxE<|h _ _ ?_ rfl (λb o q=>pushCells_keeps _ _ b o<|zxF _ q) ((Heap.Ns.new s.heap _).keeps<|pushCells_keeps _ _) λp m=>?_
 . unfold Xr;rw[<-e]
 . rw[<-e]at m
   rcases Qf _ _ _ p m with m|⟨g,i,f⟩
   . exact .inl m
   . exact .inr ⟨g,i,by rwa [e]at f⟩
abbrev yM(X:Cx)(N:List Str)(scope:Scope)(cl:List (Str×Addr))(s:Shared)(H:Hp)(fp:List Addr):Cx:=
 {X with N:=N,s₀:=s,H₀:=H,env:=Xr scope X.env cl<|s.heap.objs.size+1,outer:=X.stack,ex:=fp,fn:=λx=>scope.names.lookup x==some .cell,pn:=[],xe:=λ_ _=>False}
noncomputable def pJ(σ:St):Option Nat->Option V
 |none=>none
 |some j=>(σ[j]?).getD none
def v5(cap:List (Option Nat))(σ:St):St:=cap.map<|pJ σ
noncomputable def QK(N XN:List Str)(names:List (Str×NameKind))(envNames:List (Str×NameKind))(cap:List (Option Nat)):Bool:=
 N.length==cap.length&&(N.zip cap).all (λp=>match p.2 with|none=>true|some j=>XN[j]? == some p.1&&names.contains (p.1,NameKind.free)) &&
 names.all (λp=>p.2 != .free||envNames.lookup p.1==some .cell||envNames.lookup p.1==some .free)&&decide (names.map (·.1)).Nodup
def B9(X:Cx)(ifs:List Expr)(t:TT):Prop:=
 ∀Z' s σ H Q,Inv X Z' σ H s->t σ H Q->
  wpAny (model X.prog X.w) X.A (forIn ifs true λc r=>if r=true then do let ok <-isTrue c X.env (eval c X.env);pure (ForInStep.yield ok)else pure<|ForInStep.yield r) (TP X Z' σ Q) X.xe s
def Af:B9 X [] (λ_ H Q=>Q true H):=λa s σ H Q I h=>wpAny_tests_nil ⟨H,I,h⟩
def IX(h:PT X c t):B9 X [c] t:=λa s σ H Q I q=>wpAny_tests_one<|h a s σ H Q I q
def Sn(wi:TI)(cap:List (Option Nat))(g:TG)(tt:TT)(te:TE):TE:=λσ H Q=>wi σ H λJ H1=>∃W:Nat->Nat->List V->Hp->Prop,(∃m,W 0 m [] H1)/\∀i m ys H,W i m ys H->ys.length<=sizeLine/\
 ((J.stop i H/\∀p,H p=none->Q (.ref p) (upd H p<|.lst ys))\/(J.go i H/\∀x H',J.yld i H x H'->g x (v5 cap σ) H' λr8 H2=>(∀(j:Nat) v,(v5 cap σ)[j]? = some (some v)->r8[j]? = some (some v))/\
   tt r8 H2 λb H3=>if b=true then ys.length<sizeLine/\te r8 H3 λy H4=>∃m',m'<m/\W (i+1) m' (ys++[y]) H4 else ∃m',m'<m/\W (i+1) m' ys H3))
def TC(I:Nat->Shared->Prop)
 (turn:∀n s (E:Value->Shared->Prop),I n s->wpAny (model prog w) A (pyNext it) (λr M'=>match r with
  |none=>R (.ok .next) M'
  |some v=>wpAny (model prog w) A (letOwnedTupleGo target it v) (λ_ M'=>wpAny (model prog w) A (assign target env v) (λ_ s₂=>
   wpAny (model prog w) A (forIn ifs true λc r=>if r=true then do let ok <-isTrue c env (eval c env);pure (ForInStep.yield ok)else pure<|ForInStep.yield r) (λok s₃=>
            if ok=true then wpAny (model prog w) A (eval elt env) (λx s₄=>
             wpAny (model prog w) A (call (.builtin "list.append") [acc,x]) (λ_ s₅=>∃m,m<n/\I m s₅) E s₄) E s₃
            else ∃m,m<n/\I m s₃) E s₂) E M') E M') E s)
 (n:Nat) (h:I n s):
 codeAny (model prog w) A (.compLoop (.ListComp elt [⟨target,iter,ifs,0⟩] scope pos) 0 it acc env) R s:=by
 refine codeAny_loop rfl I (λn s e=>?_) n h;refine wpAny_noted ?_;rw[compTurn_list];refine zxD<|wpAny_standAt<|zxD<|zxQ (turn n s _ e) (λr f b=>?_) λ_ _ a=>a;cases r with
 |none=>exact zxE b
 |some v=>
  refine zxD<|zxQ b (λ_ f b=>?_) λ_ _ a=>a;refine zxD<|zxQ b (λ_ k g=>zxD<|zxQ g (λok l d=>?_) λ_ _ a=>a) λ_ _ a=>a;cases ok with
  |false=>exact zxE ⟨rfl,d⟩
  |true=>
   exact zxD<|zxD<|zxQ d (λx o i=>zxD<|zxQ i (λ_ p j=>zxE<|zxE ⟨rfl,j⟩) λ_ _ a=>a) λ_ _ a=>a
structure CapOk(N XN:List Str)(names:List (Str×NameKind))(envNames:List (Str×NameKind))(cap:List (Option Nat)):Prop where
 len:N.length=cap.length
 at_:∀(i:Nat) x (j:Nat),N[i]? = some x->cap[i]? = some (some j)->XN[j]? = some x/\(x,NameKind.free) ∈ names
 fr:∀p ∈ names,p.2 = .free->envNames.lookup p.1=some .cell\/envNames.lookup p.1=some .free
 nd:(names.map (·.1)).Nodup
def LU(h:QK N XN names envNames cap=true):CapOk N XN names envNames cap:=by
 unfold QK at h;simp only[zyB,beq_iff_eq,List.all_eq_true,decide_eq_true_eq]at h;obtain⟨⟨⟨a,b⟩,c⟩,d⟩:=h;refine⟨a,λi x j f g=>?_,λp k e=>?_,d⟩
 . have m:(x,some j) ∈ N.zip cap:=zzZ (by rw[List.getElem?_zip_eq_some];exact⟨f,g⟩);have:=b _ m;simp at this;exact ⋯
 . have:=c p k;rw[e]at this;simpa using this
def GO{names:List (Str×NameKind)}(h:(names.map (·.1)).Nodup)(m:(x,k) ∈ names)(m':(x,k') ∈ names):k=k':=by
 induction names with
 |nil=>cases m
 |cons p r ih=>
  obtain⟨h1,h2⟩:=zzV.mp<|h
  rcases zzC.mp m with e|m
  . rcases zzC.mp m' with e'|m'
    . rw[<-e]at e';cases e';rfl
    . exact absurd (zxB.mpr ⟨_,m',by rw[<-e]⟩) h1
  . rcases zzC.mp m' with e'|m'
    . exact absurd (zxB.mpr ⟨_,m,by rw[<-e']⟩) h1
    . exact ih h2 m m'
def Qq{names:List (Str×NameKind)}(h:(names.map (·.1)).Nodup)(m:(x,k) ∈ names):names.lookup x=some k:=
 ZV (λp a e=>by cases(e);exact GO h a m) ⟨k,m⟩
def Xj(x):(relabel scope env).names.lookup x=(scope.names.lookup x).map λk=>if(k == .free&&env.scope.kind == .function&&env.kindOf x==some .cell)=true then NameKind.cell else k:=by
 unfold relabel;generalize scope.names=a
 induction a with
 |nil=>rfl
 |cons p r b=>
  obtain⟨n,k⟩:=p;rw[List.lookup_cons];cases hb:x==n with
  |true=>
   have e:=beq_iff_eq.mp hb;subst e;show List.lookup x ((if _=true then _ else _)::_)=_;show _=some (if _=true then NameKind.cell else k)
   split
   . rw[List.lookup_cons,hb]
   . rw[List.lookup_cons,hb]
  |false=>
   show List.lookup x ((if _=true then _ else _)::_)=_
   split
   . rwa [List.lookup_cons,hb]
   . rwa [List.lookup_cons,hb]
def NK(I:Inv X Z' σ H s)(C:CapOk N X.N scope.names X.env.scope.names cap)(hk:scope.kind = .function)
 (hf:∀b ∈ fp,QV X Z' H b) (ho:∀b ∈ fp,∃o,s.heap.get? b=some o)
 (old:∀b o,s.heap.get? b=some o->h'.get? b=some o) (ns:h'.Ns (s.heap.objs.size+1) (λ_=>none))
 (hc:∀p ∈ cellsFrom (s.heap.objs.size+1+1) scope.names (ZC X.env scope.names []),p ∈ ZC X.env scope.names []\/((p.1,NameKind.cell) ∈ scope.names/\h'.IsCell p.2 none/\s.heap.objs.size+1+1<=p.2)):
 Inv (yM X N scope (ZC X.env scope.names []) s H fp) [] (v5 cap σ) H {s with heap:=h'}:=by
 have has:∀x,(x,NameKind.free) ∈ scope.names->∃c,X.env.cells.lookup x=some c:=λx m=>I.ok.has x<|C.fr _ m rfl;have clo:∀p ∈ ZC X.env scope.names [],X.env.cells.lookup p.1=some p.2/\(p.1,NameKind.free) ∈ scope.names:=λp m=>by
  rcases PM _ _ p m with z|⟨z1,z2⟩
  . cases z
  . obtain⟨c,e⟩:=has _ z1;rw[e]at z2;exact⟨by rw[e];exact congrArg some z2.symm,z1⟩
 have look:∀x c,(cellsFrom _ scope.names _).lookup x=some c->_\/_:=λx c e=>by
  rcases hc _ (mem_of_lookup e)with m|m
  . exact .inl<|clo _ m
  . exact .inr m
 have lt:∀x c,X.env.cells.lookup x=some c->c<s.heap.objs.size:=λx c e=>by obtain⟨v,z⟩:=I.cell x c e;exact z.lt
 have lookF:∀x,(x,NameKind.free) ∈ scope.names->∃c,(cellsFrom _ scope.names _).lookup x=some c/\X.env.cells.lookup x=some c:=λx m=>by
  obtain⟨c,e⟩:=has x m;have m1:=YD scope.names (s.heap.objs.size+1+1) _ _<|P0 (env:=X.env) scope.names [] x m;refine⟨c,ZV (λp hp ep=>?_) ⟨_,m1⟩,e⟩
  rcases hc p hp with z|z
  . have:=(clo p z).1;rw[ep,e]at this;exact(zzY this).symm
  . rw[ep]at z;exact absurd (GO C.nd z.1 m) (by decide)
 have kinds:∀x,((relabel scope X.env).names.lookup x=some .cell\/(relabel scope X.env).names.lookup x=some .free)->(x,NameKind.free) ∈ scope.names\/(x,NameKind.cell) ∈ scope.names:=λx h=>by
  rw[Xj]at h;cases e:scope.names.lookup x with
  |none=>rw[e]at h;rcases h with h|h<;>cases h
  |some k=>
   have m:=mem_of_lookup e;cases k with
   |free=>exact .inl m
   |cell=>exact .inr m
   |_=>rw[e]at h;rcases h with h|h<;>(simp at h)
 have lsz:=ns.lt;refine⟨⟨I.ok.mod,hk,I.ok.glob,I.ok.blt,zyV _, ?_, ?_, ?_,I.ok.hd,I.ok.frames,.inl rfl, ?_,I.bs,zzO I.ok.bsz I.sz, ?_, ?_,I.stack,I.stkFree⟩,rfl,I.bare,(Un.kept old),⟨_,ns, ?_⟩, ?_,I.hok.fresh<|zyV _, ?_,(λ_ z=>nomatch z),I.hok.kept old, ?_⟩
 . intro x y c e1 e2;refine V7 scope.names _ _ (λp m=>?_) (λp m q m' e=>?_) (x,c) (mem_of_lookup e1) (y,c) (mem_of_lookup e2) rfl
   . exact zyY<|zyY<|lt _ _ (clo p m).1
   . refine I.ok.inj _ _ _ (clo p m).1 ?_;rw[e];exact(clo q m').1
 . intro x h
   rcases kinds x h with m|m
   . obtain⟨c,e,_⟩:=lookF x m;exact⟨c,e⟩
   . obtain⟨c,e⟩:=Qm scope.names _ _ x m;cases q:(cellsFrom _ scope.names _).lookup x with
     |some c'=>exact⟨c',q⟩
     |none=>
      exfalso;have:=List.lookup_eq_none_iff.mp q (x,c) e;simp at this
 . intro x c hx e;have hx:=hx;have m:=mem_of_lookup<|beq_iff_eq.mp hx
   rcases look x c e with z|z
   . exact absurd (GO C.nd z.2 m) (by decide)
   . exact zzO (zzO (zyV _)<|zyV _) z.2.2
 . intro b hb;obtain⟨o,e⟩:=ho b hb;refine⟨zzQ<|zyY<|zxG e,λx c ec=>?_⟩
   rcases look x c ec with z|z
   . exact(hf b hb).2.2.2.2.1 x c z.1
   . have:=zxG e;intro q;subst q;exact absurd (zzK this<|zzO (zzO (zyV _)<|zyV _) z.2.2)<|Nat.lt_irrefl _
 . intro b o e hb
   rcases(hf b hb).2.2.2.1 with z|z
   . exact I.ok.noex b o e z
   . exact absurd (zzK (zxG e)<|zzO I.ok.bsz z)<|Nat.lt_irrefl _
 . intro b hb hm
   rcases zzC.mp (I.stkSub b hm)with z|z
   . exact(hf b hb).2.1 z
   . exact(hf b hb).2.2.1 z
 . intro i x v e1 e2 e3;have e2:=e2;unfold v5 at e2;rw[zzI]at e2;cases ec:cap[i]? with
   |none=>rw[ec]at e2;cases e2
   |some c=>
    cases c with
    |none=>rw[ec]at e2;cases e2
    |some j=>
     rw[ec]at e2;have e2:(σ[j]?).getD none=some v:=zzY e2;obtain⟨xn,m⟩:=C.at_ i x j e1 ec;have es:σ[j]? = some (some v):=by
      cases q:σ[j]? with
      |none=>rw[q]at e2;cases e2
      |some y=>rw[q]at e2;exact congrArg some e2
     have kf:=C.fr _ m rfl;obtain⟨mm,hn,hl⟩:=I.loc;obtain⟨u,r,l⟩:=hl j x v xn es (by rcases kf with k|k;exact .inr<|.inl k;exact .inr<|.inr k);refine⟨u,r,.inr ⟨?_, ?_⟩⟩
     . show(relabel scope X.env).names.lookup x=some .cell\/(relabel scope X.env).names.lookup x=some .free;rw[Xj,Qq C.nd m];show some (if _ then _ else _)=_\/some (if _ then _ else _)=_
       split
       . exact .inl rfl
       . exact .inr rfl
     . obtain⟨c,ec,eo⟩:=lookF x m;refine⟨c,ec, ?_⟩
       rcases l with⟨k1,_⟩|⟨_,c2,e4,z⟩
       . have k1:X.env.scope.names.lookup x=some .local:=k1
         rcases kf with k|k<;>(rw[k1]at k;cases k)
       . rw[eo]at e4;cases e4;exact z.keeps old
 . intro x c e
   rcases look x c e with z|z
   . obtain⟨v,q⟩:=I.cell x c z.1;exact⟨v,q.keeps old⟩
   . exact⟨none,z.2.1⟩
 . intro x c e
   rcases look x c e with z|z
   . exact I.freeC x c z.1
   . exact I.hok.fresh<|zzO (zzO (zyV _)<|zyV _) z.2.2
 . show _=_;unfold v5;rw[zzB,C.len]
abbrev lobj(zM:List Value):Obj:={cls:=.type "list",data:=.seq zM.toArray zM.length}
section
set_option maxHeartbeats 1000000
def UL{Q:VK}{R:Value->Addr->Result->Shared->Prop}
 (hc:X.calm=true) (C:CapOk N X.N scope.names X.env.scope.names cap) (hk:scope.kind = .function)
 (hg:∀cl s H fp,PG (yM X N scope cl s H fp) tg g) (ht:∀cl s H fp,B9 (yM X N scope cl s H fp) ifs tt) (he:∀cl s H fp,PE (yM X N scope cl s H fp) elt te)
 (I2:Inv X Z' σ H2 s2) (T:Turn X.prog X.w X.K tg J fp it tn) (st2:tn 0 s2.heap) (f2:∀b ∈ fp,QV X Z' H2 b)
 (W:Nat->Nat->List V->Hp->Prop) (m0:Nat) (w0:W 0 m0 [] H2)
 (turn:∀i m ys H,W i m ys H->ys.length<=sizeLine/\((J.stop i H/\∀p,H p=none->Q (.ref p) (upd H p<|.lst ys))\/(J.go i H/\∀x H',J.yld i H x H'->g x (v5 cap σ) H' λr8 H2=>(∀(j:Nat) v,(v5 cap σ)[j]? = some (some v)->r8[j]? = some (some v))/\
  tt r8 H2 λb H3=>if b=true then ys.length<sizeLine/\te r8 H3 λy H4=>∃m',m'<m/\W (i+1) m' (ys++[y]) H4 else ∃m',m'<m/\W (i+1) m' ys H3)))
 (fin:∀ys H3 s1 m,Inv X Z' σ (upd H3 s2.heap.objs.size<|.lst ys) s1->s1.heap.Ns (s2.heap.objs.size+1) m->QV X Z' (upd H3 s2.heap.objs.size<|.lst ys) (s2.heap.objs.size+1)->
  Q (.ref s2.heap.objs.size) (upd H3 s2.heap.objs.size<|.lst ys)->R (.ref s2.heap.objs.size) (s2.heap.objs.size+1) (.ok .next) s1):
 wpAny (model X.prog X.w) X.A (newList []) (λacc s₃=>wpAny (model X.prog X.w) X.A (newFunctionEnv scope X.env.globals (ZC X.env scope.names []) [] X.env.qual none .none<|some X.env) (λcenv s₄=>
  codeAny (model X.prog X.w) X.A (.compStart (.ListComp elt [⟨tg,iter,ifs,0⟩] scope pos) 0 (.ref it) acc {cenv with scope:=relabel scope X.env}) (R acc cenv.locals) s₄) E s₃) E s2:=by
 refine zxI<|GN λh' env' eE eL old hns hcells=>?_;have e1:(s2.heap.push {cls:=.type "list",dict:=none,data:=.seq ([]:List Value).toArray}).objs.size=s2.heap.objs.size+1:=zxO ..;dsimp only at eE eL old hns hcells;rw[e1]at eE eL hns hcells;have hD0:(s2.heap.push {cls:=.type "list",dict:=none,data:=.seq ([]:List Value).toArray}).get? s2.heap.objs.size=some (lobj []):=zxH _ rfl;have hD:=old _ _ hD0;have old':∀b o,s2.heap.get? b=some o->h'.get? b=some o:=λb o q=>old b o<|zxF _ q;have fex:∀b ∈ fp,∃o,s2.heap.get? b=some o:=λb hb=>by obtain⟨o,e,_⟩:=T.obj _ _ st2 b hb;exact⟨o,e⟩
 have flt:∀b ∈ fp,b<s2.heap.objs.size:=λb hb=>by obtain⟨o,e⟩:=fex b hb;exact zxG e
 have I':=NK I2 C hk f2 fex old' hns hcells;rw[eE,eL];generalize hX:yM X N scope (ZC X.env scope.names []) s2 H2 fp=X' at I';have xP:X'.prog=X.prog:=by rw[<-hX]
 have xw:X'.w=X.w:=by rw[<-hX]
 have xK:X'.K=X.K:=by rw[<-hX]
 have xA:X'.A=X.A:=by rw[<-hX]
 have xe:X'.env=Xr scope X.env (ZC X.env scope.names []) (s2.heap.objs.size+1):=by rw[<-hX]
 have xL:X'.env.locals=s2.heap.objs.size+1:=by rw[xe];rfl
 have xfs:X'.fs=Q2 X.stack:=by rw[<-hX]
 have xex:X'.ex=fp:=by rw[<-hX]
 have xs:X'.s₀=s2:=by rw[<-hX]
 have xH:X'.H₀=H2:=by rw[<-hX]
 have xpn:X'.pn=[]:=by rw[<-hX]
 have xc:X'.calm=true:=by rw[<-hX];exact hc
 have xE:X'.xe=λ_ _=>False:=by rw[<-hX]
 have hg':PG X' tg g:=by rw[<-hX];exact hg _ _ _ _
 have ht':B9 X' ifs tt:=by rw[<-hX];exact ht _ _ _ _
 have he':PE X' elt te:=by rw[<-hX];exact he _ _ _ _
 have H2D:=I2.hok.fresh<|zzN _;have Dfs:s2.heap.objs.size ∉ X'.fs:=by
  rw[xfs];intro hm
  rcases zzC.mp (I2.stkSub _ hm)with z|z
  . exact absurd I2.lt (by rw[<-z];exact Nat.lt_irrefl _)
  . exact I2.nofs (zzN _) z
 have DL:s2.heap.objs.size≠X'.env.locals:=by rw[xL];exact zzQ<|Nat.lt_succ_self _
 have pinD:∀{P':St}{H':Hp}{s':Shared}{zM:List Value}{ps:List (Addr×Obj)},Inv X' ps P' H' s'->s'.heap.get? s2.heap.objs.size=some (lobj zM)->H' s2.heap.objs.size=none->Inv X' [(s2.heap.objs.size,lobj zM)] P' H' s':=λI e n=>
  I.pins_of λp hp=>by
   cases zzR.mp hp;exact⟨e,n,DL,Dfs,λv z=>by cases z⟩
 have stat:∀{H':Hp}{zM:List Value},(∀b ∈ fp,H' b=none)->∀b ∈ fp,QV X' [(s2.heap.objs.size,lobj zM)] H' b:=λhn b hb=>by
  refine⟨hn b hb, ?_, ?_,.inl (by rw[xex];exact hb),(I'.ok.exf b<|by rw[xex];exact hb).2,λp hp=>?_⟩
  . exact(I'.ok.exf b<|by rw[xex];exact hb).1
  . exact I'.ok.exfs b (by rw[xex];exact hb)
  . rw[xpn,List.nil_append]at hp;cases zzR.mp hp;exact Nat.ne_of_gt<|flt b hb
 have loop:∀n s',(∃i ys zM H3,Inv X' [(s2.heap.objs.size,lobj zM)] (v5 cap σ) H3 s'/\tn i s'.heap/\(∀b ∈ fp,H3 b=none)/\zK ys zM/\W i n ys H3)->
  codeAny (model X.prog X.w) X.A (.compLoop (.ListComp elt [⟨tg,iter,ifs,0⟩] scope pos) 0 (.ref it) (.ref s2.heap.objs.size)<|Xr scope X.env (ZC X.env scope.names [])<|s2.heap.objs.size+1)
   (R (.ref s2.heap.objs.size)<|s2.heap.objs.size+1) s':=by
  intro n s' h0;refine TC (λn s'=>∃i ys zM H3,Inv X' [(s2.heap.objs.size,lobj zM)] (v5 cap σ) H3 s'/\tn i s'.heap/\(∀b ∈ fp,H3 b=none)/\zK ys zM/\W i n ys H3) ?_ n h0;clear h0 n s'
  rintro n s3 E' ⟨i,ys,zM,H3,I3,st3,fr3,rv3,w3⟩
  obtain⟨hz,hstep⟩:=turn i n ys H3 w3
  rcases hstep with⟨stop,qn⟩|⟨go,step⟩
  . have:=T.done X' xP xw xK xc i _ s3 _ H3 E' I3 (stat fr3) st3 stop;rw[xA]at this;refine zxQ this (λr s4 ⟨hr,I4⟩=>?_) λ_ _ z=>z;subst hr;obtain⟨gD,nD,_⟩:=I4.pin (s2.heap.objs.size,lobj zM) (by rw[xpn];simp);obtain⟨m,hn,_⟩:=I4.loc;rw[xL]at hn;have b4:=I4.base;rw[xfs,xex,xH,xs]at b4;have nL:H3 (s2.heap.objs.size+1)=none:=by have:=I4.free;rw[xL]at this;exact this
    have neD:∀b o,s2.heap.get? b=some o->b≠s2.heap.objs.size:=λb o e=>zzQ<|zxG e;have neH:∀b u,H2 b=some u->b≠s2.heap.objs.size:=λb u e z=>by rw[z,H2D]at e;cases e
    have ne3:∀b u,H3 b=some u->b≠s2.heap.objs.size:=λb u e z=>by rw[z,nD]at e;cases e
    have hok4:=I4.hok;rw[xP,xw]at hok4;refine fin ys H3 s4 m (I2.call' ?_ ⟨b4.keep,b4.slot,λb o e n hx=>?_,b4.there,λb xs e=>?_,λb o u e=>?_,λb ps e=>?_⟩ ?_ I4.bare λb hb=>?_) hn (I2.fpOk (zyV _)<|by rw[zu<|Nat.ne_of_gt<|Nat.lt_succ_self _];exact nL)<|qn _ nD
    . have:=I4.os;rw[xs]at this;exact this
    . rw[zu<|neD b o e];exact b4.free b o e n hx
    . rw[zu<|neH b _ e];exact b4.tups b xs e
    . rw[zu<|neH b _ e];exact b4.frzs b o u e
    . rw[zu<|neH b _ e];exact b4.tbls b ps e
    . intro b u e
      by_cases hb:b=s2.heap.objs.size
      . subst hb;rw[zF]at e;cases e;exact⟨hz,zM,zM.length,rv3,gD⟩
      . rw[zu hb]at e;exact(hok4 b u e).stay (λc v _ q=>q) (λc q=>by rw[zu<|ne3 c _ q];exact q) λc xs q=>by rw[zu<|ne3 c _ q];exact q
    . obtain⟨f0,f1,f3,f4,f5,f6⟩:=f2 b hb;exact⟨f4,f1,f5,f6⟩
  . have:=T.item X' xP xw xK xc i _ s3 _ H3 E' I3 (stat fr3) st3 go;rw[xA]at this;refine zxQ this (λr s4 ⟨u,hr,h4⟩=>?_) λ_ _ z=>z;subst hr;refine zxQ h4 (λ_ s5 ⟨x,H5,I5,r5,y5,st5,fr5⟩=>?_) λ_ _ z=>z;have I5':=I5.pinned (stat fr5)<|T.obj _ _ st5;have h6:=hg' _ s5 _ H5 x u _ I5' r5<|step x H5 y5;rw[xP,xw,xA,xe,xE]at h6;refine zxQ h6 (λ_ s6 ⟨r9,H6,I6,cap6,q6⟩=>?_) λ_ _ z=>z.elim;have h7:=ht' _ s6 r9 H6 _ I6 q6;rw[xP,xw,xA,xe,xE]at h7;refine zxQ h7 (λb s7 ⟨H7,I7,q7⟩=>?_) λ_ _ z=>z.elim;have keep:∀{H8:Hp}{s8:Shared},Inv X' _ r9 H8 s8->Inv X' [(s2.heap.objs.size,lobj zM)] (v5 cap σ) H8 s8/\tn (i+1) s8.heap/\∀b ∈ fp,H8 b=none:=λ{H8 s8} I8=>by
     refine⟨I8.unpinned.weak ?_ cap6,T.keep _ _ _ st5 λb hb o e=>(I8.pin (b,o)<|zzL _<|zzL _<|YB hb e).1,λb hb=>?_⟩
     . rw[I3.len];exact I8.len.symm
     . obtain⟨o,e,d⟩:=T.obj _ _ st5 b hb;exact(I8.pin (b,o)<|zzL _<|zzL _<|YB hb e).2.1
    cases b with
    |false=>
     obtain⟨m',hm,w7⟩:=q7;obtain⟨k1,k2,k3⟩:=keep I7;exact⟨m',hm,i+1,ys,zM,H7,k1,k2,k3,rv3,w7⟩
    |true=>
     obtain⟨hz2,q7⟩:=q7;have h8:=he' _ s7 r9 H7 _ I7 q7;rw[xP,xw,xA,xe,xE]at h8;refine zxQ h8 (λyv s8 ⟨y,H8,I8,ry,m',hm,w8⟩=>?_) λ_ _ z=>z.elim;obtain⟨k1,k2,k3⟩:=keep I8;obtain⟨gD,nD,_⟩:=k1.pin (s2.heap.objs.size,lobj zM) (by rw[xpn];simp);have hl:=rv3.length;refine append_at gD (λh9 sb gD9=>?_) (by rw[zzH];omega);have I9:=(k1.pins_of (pins':=[]) (λ_ z=>nomatch z)).turned (t':=s8.toks) (λb o hb e=>(sb.2 b hb).trans e) nD DL (.inr<|by rw[xs];exact zzN _) (λx c ec z=>by
      obtain⟨v,o,ho,hd⟩:=k1.cell x c ec;rw[z,gD]at ho;cases ho;cases hd) (λp hp=>by rw[xpn]at hp;cases hp)
     have gD9':h9.get? s2.heap.objs.size=some (lobj<|zM++[yv]):=by
      rw[gD9]
      congr 1
      show({cls:=.type "list",data:=.seq _ _}:Obj)={cls:=.type "list",data:=.seq (zM++[yv]).toArray (zM++[yv]).length};rw[zzJ,List.length_singleton,List.push_toArray]
     refine⟨m',hm,i+1,ys++[y],zM++[yv],H8,pinD I9 gD9' nD,T.keep _ _ _ k2 λb hb o e=>(sb.2 b<|zzQ<|flt b hb).trans e,k3,rv3.append<|.cons ry .nil,w8⟩
 have start:∃i ys zM H3,Inv X' [(s2.heap.objs.size,lobj zM)] (v5 cap σ) H3 {s2 with heap:=h'}/\tn i h'/\(∀b ∈ fp,H3 b=none)/\zK ys zM/\W i m0 ys H3:=
  ⟨0,[],[],H2,pinD I' hD H2D,T.keep _ _ _ st2 λb hb o e=>old' b o e,λb hb=>(f2 b hb).1,.nil,w0⟩
 exact codeAny_compStart_list (loop m0 _ start)<|T.self _ 0 _ _ _ (T.keep _ _ _ st2 λb hb o e=>old' b o e)<|loop m0 _ start
def IK(hc:X.calm=true)(hi:PI X tg iter wi)(hk:scope.kind = .function)(vm:QK N X.N scope.names X.env.scope.names cap=true)
 (hg:∀cl s H fp,PG (yM X N scope cl s H fp) tg g) (ht:∀cl s H fp,B9 (yM X N scope cl s H fp) ifs tt) (he:∀cl s H fp,PE (yM X N scope cl s H fp) elt te)
 (hs:∀x,foldedSetIterable iter X.env x=pure x):PE X (.ListComp elt [⟨tg,iter,ifs,0⟩] scope pos) (Sn wi cap g tt te):=by
 intro a s σ H Q I h;have C:=LU vm;refine wpAny_comprehension_free rfl hs (Wf λx m e=>I.ok.has x.1<|C.fr x m e) hk (λy m e=>Qq C.nd<|by rwa [<-e]) ?_;refine yV (hi a s σ H _ I h) λv O i=>yV i λj k l=>?_;obtain⟨P,S,U,J,V,e,n,T,d,f2,W,⟨p,t⟩,c⟩:=l;subst e;refine UL hc C hk hg ht he n T d f2 W p t c λY Z z m B D fl q=>?_;refine⟨m,D,λh' E=>?_⟩;obtain⟨F,f1,f3,G,K,L⟩:=fl;exact⟨.ref k.heap.objs.size,_,B.turned (t':=z.toks) (λb o M e=>(E.2 b M).trans e) F f1 G K L,rfl,q⟩
def Dg(hN:X.N.Nodup)(hiy:X.N[i]? = some y)(hy:Loc X.env.scope y)(hf:X.fn y=true\/X.env.scope.names.lookup y=some .local)
 (hsw:swapsWith (.ListComp elt [⟨tg,iter,ifs,0⟩] scope pos) (some<|.Name y py) spos.line X.env=pure true)
 (hc:X.calm=true) (hi:PI X tg iter wi) (hk:scope.kind = .function) (vm:QK N X.N scope.names X.env.scope.names cap=true)
 (hg:∀cl s H fp,PG (yM X N scope cl s H fp) tg g) (ht:∀cl s H fp,B9 (yM X N scope cl s H fp) ifs tt) (he:∀cl s H fp,PE (yM X N scope cl s H fp) elt te)
 (hs:∀x,foldedSetIterable iter X.env x=pure x):PS X (.Assign [.Name y py] (.ListComp elt [⟨tg,iter,ifs,0⟩] scope pos) spos) (tU (Sn wi cap g tt te)<|Fp i):=by
 intro c s σ H D I h;have C:=LU vm;rw[exec_Assign_Name_used _ _ _ _ hsw];refine zxD<|wpAny_standAt<|zxD ?_;refine zxD<|zxQ (wpAny_comprehension_free rfl hs (Wf λx m e=>I.ok.has x.1<|C.fr x m e) hk (λy m e=>Qq C.nd<|by rwa [<-e]) ?_) (λ_ d t=>zxE<|zxE t) λ_ _ e=>e;refine yV (hi c s σ H _ I h) λv s1 u=>yV u λB E F=>?_;obtain⟨it,fp,tn,J,H2,e,G,T,k,f2,W,⟨K,L⟩,f⟩:=F;subst e;refine UL (Q:=λx M=>Fp i x σ M D.nx) hc C hk hg ht he G T k f2 W K L f λys H3 s3 m O P fl q=>?_;obtain⟨S,f1,f3,U,p,V⟩:=fl;refine wpAny_assign_Name<|VR O hN hiy hy (v:=.ref E.heap.objs.size) rfl (λY Z ⟨a,sb,j⟩=>?_) hf;refine⟨m,P.sameBut sb λz=>?_,λh' n=>?_⟩
 . rcases j with j|j
   . exact f1<|z.trans j
   . exact p y a j z.symm
 . exact⟨_,_,Z.turned (t':=Y.toks) (λb o hb e=>(n.2 b hb).trans e) S f1 U p V,q⟩
end
structure ItC(K:zzA)(kd:KD)(F:Addr->Prop)(H:Hp)(J:It)(ds:List Xs):Prop where
 all:∀(H2:Hp) (T:Addr->Prop),(∀b u,H b=some u->H2 b=some u)->(∀a,T a->H a=none/\H2 a≠none)->∀i,(i<ds.length->J.go i H2)/\(ds.length<=i->J.stop i H2)/\
  ∀v H3,J.yld i H2 v H3->(∀b o,H2 b=some o->H3 b=some o)/\∀x,ds[i]? = some x->Rp K kd (λa=>x.1=true/\(F a\/T a)) H3 v x.2
def j9(K:zzA)(kd:KD)(f:IF):TI:=λσ H R=>∃F B ad as ds S',Rel K kd F B [] ad as σ H/\f as=some (ds,S')/\
 ∀J Sh H',Rel K kd F B [] Sh S' σ H'->Grow (Gw [] ad) H (Gw [] Sh) H'->ItC K kd (Lv F B (Gw [] Sh) true) H' J ds->R J H'
@[irreducible] def DD(X:Cx)(kd:KD)(tg iter:Expr)(f:IF):Prop:=PI X tg iter<|j9 X.K kd f
noncomputable def N0(os:List O):List Xs:=os.map λo=>match o with | .lf st d=>(st,d)|o=>(false,o.toD)
def kb(as:AS):RV->Option (List Xs)
 | .ow o=>EL (o.str,o.toD)
 | .bo i=>match as[i]? with
  |some (some (.nd .ls os))=>some (N0 os)
  |_=>none
def x6(f:EF):IF:=λas=>(f as).bind λp=>(kb p.2 p.1).bind λds=>some (ds,p.2)
section
variable{K:zzA}{kd:KD}{F B:Addr->Prop}{G:Addr->Prop}{T:List Addr}{ad:Ad}{as:AS}{σ:St}{H H':Hp}
inductive RpC(K:zzA)(kd:KD)(F:Addr->Prop)(H:Hp):List V->List Xs->Prop
 |nil:RpC K kd F H [] []
 |cons {v:V}{x:Xs}{vs:List V}{ds:List Xs}:Rp K kd (λa=>x.1=true/\F a) H v x.2->RpC K kd F H vs ds->RpC K kd F H (v::vs) (x::ds)
theorem RpC.length(h:RpC K kd F H vs ds):vs.length=ds.length:=by
 induction h with
 |nil=>rfl
 |cons _ _ ih=>exact congrArg _ ih
def RpC.get{i:Nat}(h:RpC K kd F H vs ds)(e:ds[i]? = some x):∃v,vs[i]? = some v/\Rp K kd (λa=>x.1=true/\F a) H v x.2:=by
 induction h generalizing i with
 |nil=>simp at e
 |cons h r ih=>
  cases i with
  |zero=>simp at e;subst e;exact⟨_,rfl,h⟩
  |succ i=>
   obtain⟨v,h1,h2⟩:=ih ⋯;exact⟨v,⋯,h2⟩
def Rp.since{T}(k:∀b u,H b=some u->H' b=some u)(hT:∀a,T a->H a=none)(h:Rp K kd Ob H v d):Rp K kd (VL Ob T) H' v d:=
 Rp.grow (W':=T) (H':=H') ⟨λb u q _=>k b u q,λb z=>.inr<|hT b z⟩ (h.less λa z=>z.elim id False.elim)
def KS{st}(h:RpL K kd (Lv F B G st) H vs ds):RpC K kd (Lv F B G true) H vs (kids st ds):=
 RpL.ind (P:=λvs ds=>RpC K kd _ H vs<|kids st ds) .nil (λ{v d vs ds} h _ ih=>by
  refine .cons (x:=(zB d||st,d)) ?_ ih;cases e:zB d with
  |true=>exact h.flat e
  |false=>
   refine h.less λa z=>?_;have zs:st=true:=z.1;rw[zs];exact z.2) h
def pA{os}(h:ZG K kd F B G H vs os fp):RpC K kd (Lv F B G true) H vs (N0 os):=
 RoL.ind (P:=λvs os _=>RpC K kd _ H vs<|N0 os) .nil (λ{v o vs os fp fq} h _ ih=>by
  have ha:=Tr h;refine .cons ?_ ih;cases h with
  |lf rp=>exact rp.less λa z=>(by have zs:=z.1;dsimp only at zs;rw[zs];exact z.2)
  |ls=>exact ha.less λa z=>nomatch z.1
  |dc=>exact ha.less λa z=>nomatch z.1
  |ob=>exact ha.less λa z=>nomatch z.1
  |tp=>exact ha.less λa z=>nomatch z.1) h
def Uw(h:VJ K H a vs)(r:RpC K kd F H vs ds):ItC K kd F H (lN K a) ds:=⟨λH3 T k hT i=>by
 have hr3:VJ K H3 a vs:=by
  rcases h with(h|⟨o,h⟩)|h
  . exact .inl<|.inl<|k _ _ h
  . exact .inl<|.inr ⟨o,k _ _ h⟩
  . exact .inr h
 refine⟨λhi=>?_,λhi=>⟨_,hr3,by rwa [r.length]⟩,λv H4 hy=>?_⟩
 . obtain⟨u,hu,_⟩:=r.get<|zzE hi;exact⟨_,u,hr3,hu⟩
 . obtain⟨rfl,hv⟩:=hy;refine⟨λ_ _ z=>z,λd hd=>?_⟩;obtain⟨u,hu,ru⟩:=r.get hd;have:=hv _ hr3;rw[hu]at this;cases this;exact(ru.since k λa z=>(hT a z).1).less λa z=>z.2.elim (λy=>.inl ⟨z.1,y⟩) .inr⟩
def Jh(lo)(n:Nat):ItC K kd F H (qy lo n) (y4 lo n):=⟨λH2 T k hT i=>by
 have hl:(y4 lo n).length=n:=by unfold y4;simp
 refine⟨λhi=>by rw[hl]at hi;exact hi,λhi=>by rw[hl]at hi;exact hi,λv H3 hy=>?_⟩;obtain⟨rfl,rfl⟩:=hy;refine⟨λ_ _ z=>z,λd hd=>?_⟩;have hi:i<n:=by rw[<-hl];exact(zzG.mp hd).1
 unfold y4 at hd;rw[zzI,List.getElem?_range hi]at hd;cases hd;exact .int _⟩
end
def uU(he:AE X kd e fa):DD X kd tg e (x6 fa):=by
 with_unfolding_all (
 intro Z' s σ H R I h;obtain⟨F,B,ad,as,ds,S',Rl,e,q⟩:=h;obtain⟨⟨p,U'⟩,h1,e⟩:=bS_<|e;obtain⟨ys,h2,e⟩:=bS_ e;cases e;cases p with
 |ow o=>
  have h2:EL _=some ds:=h2;generalize hd:o.toD=d at h2;cases d with
  |lst xs=>
   cases h2;refine Gj he Z' s σ H R I ⟨F,B,ad,as,_,U',Rl,h1,λv T1 M1 H1 R1 Co g1=>?_⟩;have rp:=NT R1 Co;rw[hd]at rp;cases rp with
   |lst hn hr rl=>exact⟨_,rfl,⟨_,.inl hr⟩,q _ M1 H1 R1.drop (g1.trans<|Grow.less Gw.drop)<|Uw (.inl hr)<|KS rl⟩
   |lstK a b c rl=>exact⟨_,rfl,⟨_,.inr ⟨_,_,_,a,rfl,rfl,rfl,b,c⟩⟩,q _ M1 H1 R1.drop (g1.trans<|Grow.less Gw.drop)<|Uw (.inr ⟨_,_,_,a,rfl,rfl,rfl,b,c⟩)<|KS rl⟩
  |_=>cases h2
 |bo i=>
  have h2:(match U'[i]? with|some (some<|.nd .ls os)=>some _|_=>none)=some ds:=h2;cases k:U'[i]? with
  |none=>rw[k]at h2;cases h2
  |some s0=>
   rw[k]at h2
   match s0,h2,k with
   |some (.nd .ls os),h2,k=>
    cases h2;refine Gj he Z' s σ H R I ⟨F,B,ad,as,_,U',Rl,h1,λv T1 M1 H1 R1 Co g1=>?_⟩;obtain⟨rfl,hs⟩:=Co;obtain⟨w,hw,ro⟩:=R1.sl i _ k;rw[hs]at hw;cases hw;generalize hfp:M1 i=fp at ro;cases ro with
    |ls hH rl=>exact⟨_,rfl,⟨_,.inl<|.inl hH⟩,q _ M1 H1 R1 g1<|Uw (.inl<|.inl hH)<|pA rl⟩)
def BB(hg:Gl X "range")(hm:X.mg "range"=none)(ha:AA X kd [a] fr)(hs:starEach [a] X.env=[(false,eval a X.env)]):DD X kd tg (.Call (.Name "range" p) [a] [] pos) (yq fr y8):=by
 with_unfolding_all (
 intro Z' s σ H R I h;obtain⟨F,B,ad,as,ds,S',Rl,e,q⟩:=h;obtain⟨⟨ps,U'⟩,h1,e⟩:=bS_<|e;obtain⟨⟨xs,lv⟩,h2,e⟩:=bS_ e;obtain⟨ys,h3,e⟩:=bS_ e;cases e;obtain⟨j,rfl,h3⟩:=Ei h3
 . obtain⟨hj,e3⟩:=zv h3;cases e3;refine PU hg hm ha hs Z' s σ H R I ⟨F,B,ad,as,ps,_,Rl,h1,λvs M1 H1 R1 Co g1=>?_⟩;have vl:=XZ R1 Co h2;cases vl with
   |cons v1 v2=>
    cases v2;cases v1;exact⟨j,rfl,hj.1,hj.2,q _ M1 H1 R1 g1<|Jh 0 _⟩)
noncomputable def Ah(as:AS):Option Nat->Option O
 |none=>none
 |some j=>match as[j]? with
  |some (some (.lf st d))=>some (.lf st d)
  |some (some o)=>some (.lf false o.toD)
  |_=>none
def ZF(cap:List (Option Nat))(as:AS):AS:=cap.map<|Ah as
def xo(g:GF)(tt:TF)(fe:EF)(vf:AS):List Xs->Option (List O)
 | []=>some []
 |x::r=>(g x vf).bind λU'=>(tt U').bind λb=>if b.1=true then(fe b.2).bind λp=>(Ax p.2 p.1).bind λq=>if q.1.str=true then(xo g tt fe vf r).bind λos=>some (q.1::os)else none
  else xo g tt fe vf r
def zC(fi:IF)(cap:List (Option Nat))(g:GF)(tt:TF)(fe:EF):EF:=λas=>(fi as).bind λp=>if p.1.length<=sizeLine then(xo g tt fe (ZF cap p.2) p.1).bind λos=>some (.ow<|.nd .ls os,p.2)else none
noncomputable def z_:TF:=λas=>some (true,as)
section
variable{K:zzA}{kd:KD}{F B:Addr->Prop}{T:List Addr}{ad:Ad}{as:AS}{σ:St}{H H':Hp}{cap:List (Option Nat)}
def Az(R:Rel K kd F B [] ad as σ H)(k:∀b u,H b=some u->H' b=some u)(hT:∀a ∈ T,H a=none)(hT':∀a ∈ T,H' a≠none):
 Rel K kd (VL (Lv F B (Gw [] ad) true) (· ∈ T)) (λ_=>False) [] (λ_=>[]) (ZF cap as) (v5 cap σ) H':=by
 have no:∀a,¬Gw [] (λ_=>[]) a:=λa z=>z.elim ⋯ λ⟨_,y⟩=>nomatch y;have kn:∀a,H a≠none->H' a≠none:=λa z=>by
  cases e:H a with
  |none=>exact absurd e z
  |some u=>rw[k a u e];simp
 have up:∀{st:Bool}{v:V}{d:D},Rp K kd (λa=>st=true/\Lv F B (Gw [] ad) true a) H v d->Rp K kd (Lv (VL _ _) (λ_=>False) _ st) H' v d:=λ{st v d} h=>by
  have:=Rp.grow (W':=_) (H':=H') ⟨λb u q _=>k b u q,λb z=>.inr<|hT b z⟩<|h.less λa z=>z.elim id False.elim;refine this.less λa z=>?_
  rcases z with(⟨z1,z2⟩|z)|z
  . rcases z2 with z2|z2
    . exact .inl ⟨z1,z2⟩
    . exact .inr z2
  . exact z.elim
  . exact(no a z).elim
 refine⟨by unfold ZF v5;rw[zzB,zzB],λ_ _=>rfl,λ_=>zyI,(λ_ _ _ z=>nomatch z),zyI,(λ_ _ _ z=>nomatch z),λa z=>z.elim (λy=>kn a<|R.trk true a y)<|hT' a,(λ_ z=>z.elim),λa z=>(no a z).elim,λi s e=>?_⟩;unfold ZF at e;rw[zzI]at e;obtain⟨c,hc,rfl⟩:=zzW.mp e;have es:(v5 cap σ)[i]? = some (pJ σ c):=by
  unfold v5;rw[zzI,hc];rfl
 rw[es];cases c with
 |none=>rfl
 |some j=>
  show UM _ _ _ _ _ _ (match as[j]? with|some (some<|.lf st d)=>some _|some (some o)=>some _|_=>none) _ _;cases k2:as[j]? with
  |none=>rfl
  |some s0=>
   cases s0 with
   |none=>rfl
   |some o=>
    obtain⟨v,hv,ro⟩:=R.sl j _ k2;cases o with
    |lf st d=>
     have e0:ad j=[]:=by
            generalize hfp:ad j=fp at ro;cases ro;rfl
     rw[e0]at ro;refine⟨v,by show some ((σ[j]?).getD none)=_;rw[hv];rfl,.lf<|up ?_⟩;exact(UX ro).less λa z=>by have zs:=z.1;rw[zs];exact z.2
    |nd kk os=>exact⟨v,by show some ((σ[j]?).getD none)=_;rw[hv];rfl,.lf<|up ((Tr ro).less λa z=>nomatch z.1)⟩
def HC(hS:∀i ∈ S,cap[i]? = some none)(h:al K kd (zC fi cap g tt fe) σ H Q):
 Sn (j9 K kd fi) cap (lE K kd S g) (Jc K kd tt) (al K kd fe) σ H Q:=by
 obtain⟨F,B,ad,as,r,S',R,e,q⟩:=h;obtain⟨⟨ds,U'⟩,h1,e⟩:=bS_<|e
 by_cases hz:ds.length<=sizeLine
 . have e:(if ds.length<=sizeLine then(xo g tt fe (ZF cap U') ds).bind λos=>some (RV.ow<|.nd .ls os,U')else none)=some (r,S'):=e;rw[if_pos hz]at e;obtain⟨os,h2,e⟩:=bS_ e;cases e;refine⟨F,B,ad,as,ds,S',R,h1,λJ M1 H1 R1 g1 it=>?_⟩;refine⟨λi m ys H3=>m+i=ds.length/\∃T os1 os2,os=os1++os2/\xo g tt fe (ZF cap S') (ds.drop i)=some os2/\os1.length<=i/\T.Nodup/\(∀a ∈ T,H1 a=none/\H3 a≠none)/\(∀b u,H1 b=some u->H3 b=some u)/\
    RoL (λ_ v d=>Rp K kd (VL (Lv F B (Gw [] M1) true) (· ∈ T)) H3 v d) (λa=>¬VL (Lv F B (Gw [] M1) true) (· ∈ T) a) H3 ys os1 T,⟨ds.length,rfl,[],[],os,rfl,h2,zzN _,zyI,(λ_ m=>nomatch m),(λ_ _ z=>z),.nil⟩, ?_⟩
   rintro i m ys H3 ⟨hm,T,os1,os2,eo,ec,hl,tnd,tf,k3,rl⟩
   obtain⟨i1,i2,i3⟩:=it.all H3 (· ∈ T) k3 tf i;have yl:=rl.length;refine⟨by omega, ?_⟩
   by_cases hi:i<ds.length
   . refine .inr ⟨i1 hi,λv H4 hy=>?_⟩;obtain⟨k4,rp⟩:=i3 v H4 hy;rw[zyP hi]at ec;obtain⟨J',e2,ec⟩:=bS_<|ec;obtain⟨⟨b,vi⟩,e3,ec⟩:=bS_ ec;have k14:=λb u h=>k4 b u<|k3 b u h;have kn4:∀a,H3 a≠none->H4 a≠none:=λa z=>by
      cases e:H3 a with
      |none=>exact absurd e z
      |some u=>rw[k4 a u e];simp
     have R4:=Az (cap:=cap) R1 k14 (λa z=>(tf a z).1) λa z=>kn4 a (tf a z).2;have no:∀a,¬Gw [] (λ_=>[]) a:=λa z=>z.elim (λy=>nomatch y) λ⟨_,y⟩=>nomatch y;refine⟨_,_,_,_,ds[i],J',R4,(rp _<|zzE hi).less λa z=>?_,e2,λσ5 gV H5 R5 g5 keep5=>⟨λj w hw=>?_,_,_,gV,J',b,vi,R5,e3,λad6 H6 R6 g6=>?_⟩⟩
     . rcases z with(z|z)|z
       . exact z
       . exact z.elim
       . exact(no a z).elim
     . rw[keep5 j λz=>?_]
       . exact hw
       . have:=hS j z;unfold v5 at hw;rw[zzI,this]at hw;cases hw
     . -- what stood is kept
       have g46:=g5.trans g6;have k46:=λb u h=>g46.keep b u h<|no b;have k36:=λb u h=>k46 b u<|k4 b u h;have kn6:∀a,H3 a≠none->H6 a≠none:=λa z=>by
        cases e:H3 a with
        |none=>exact absurd e z
        |some u=>rw[k36 a u e];simp
       have up:∀{H7:Hp}{T2:List Addr},_->_->RoL (λ_ v d=>Rp K kd (VL _ (· ∈ T++T2)) H7 v d) (λa=>¬VL _ (· ∈ T++T2) a) H7 ys os1 T:=λ{H7 T2} k7 f7=>
        RoL.mono (λst v d r=>(r.since k7 f7).less λa z=>z.elim (λy=>.inl<|.inl y) λy=>(zzM.mp y).elim (λx=>.inl<|.inr x) .inr)
            (λa vs n e=>⟨λz=>z.elim (λy=>n<|.inl y) λy=>(zzM.mp y).elim (λx=>n<|.inr x) λx=>(by have:=f7 a x;rw[this]at e;cases e),k7 _ _ e⟩) (λa _ u h=>k7 a u h) rl
       cases b with
       |false=>
        have:=up (T2:=[]) k36 (λ_ m=>nomatch m);rw[zyD]at this;exact⟨m-1,by omega,by omega,T,os1,os2,eo,ec,Nat.le_succ_of_le hl,tnd,λa z=>⟨(tf a z).1,kn6 a (tf a z).2⟩,λb u h=>k36 b u<|k3 b u h,this⟩
       |true=>
        rw[if_pos rfl]at ec;obtain⟨⟨p,as7⟩,e7,ec⟩:=bS_ ec;obtain⟨⟨o,as8⟩,e8,ec⟩:=bS_ ec
        by_cases hs:o.str=true
        . have ec:=ec;rw[if_pos hs]at ec;obtain⟨os3,e9,ec⟩:=bS_ ec;cases ec;refine⟨by omega,_,_,ad6,vi,p,as7,R6,e7,λy T2 ad7 H7 R7 rv7 g7=>?_⟩;obtain⟨ad8,R8,ro8,le8⟩:=UV R7 rv7 e8;have g47:=g46.trans g7;have k47:=λb u h=>g47.keep b u h<|no b;have k37:=λb u h=>k47 b u<|k4 b u h;have f42:=λa z=>(g47.own a<|.inl z).resolve_left<|no a;have f32:∀a ∈ T2,H3 a=none:=λa z=>by
             cases e:H3 a with
             |none=>rfl
             |some u=>have:=k4 a u e;rw[f42 a z]at this;cases this
          have rt:=MM R8 R8.tnd (λa z=>.inl z) ro8 hs;have ro9:Ro (λ_ v d=>Rp K kd (VL _ (· ∈ T++T2)) H7 v d) (λa=>¬VL _ (· ∈ T++T2) a) H7 y o T2:=
             Ro.mono (λst v d r=>r.less λa z=>z.elim (λy=>.inl<|.inl y) λy=>(zzM.mp y).elim (λx=>.inl<|.inr x) .inr)
              (λa vs n e=>⟨λz=>n<|z.elim (λy=>.inl<|.inl y) λy=>(zzM.mp y).elim (λx=>.inl<|.inr x) .inr,e⟩) (λ_ _ _ h=>h) rt.ro
          refine⟨m-1,by omega,by omega,T++T2,os1++[o],os3,by rw[eo,zxA];rfl,e9,by rw[zzJ,List.length_singleton];omega,zxC.mpr ⟨tnd,rt.nd,λa z b z' e=>?_⟩,λa z=>?_,λb u h=>k37 b u<|k3 b u h,(up k37 f32).append<|RoL.one ro9⟩
          . subst e;exact(tf a z).2<|f32 a z'
          . rcases zzM.mp z with z|z
            . refine⟨(tf a z).1, ?_⟩;cases e:H3 a with
              |none=>exact absurd e (tf a z).2
              |some u=>rw[k37 a u e];simp
            . refine⟨?_,rt.tr a z⟩;cases e:H1 a with
              |none=>rfl
              |some u=>have:=k3 a u e;rw[f32 a z]at this;cases this
        . have ec:=ec;rw[if_neg hs]at ec;cases ec
   . refine .inl ⟨i2 (by omega),λp hp=>?_⟩;rw[List.drop_eq_nil_of_le<|by omega]at ec;cases ec;rw[zyD]at eo;subst eo;have pT:=λz=>(tf p z).2 hp;have H1p:H1 p=none:=by
      cases e:H1 p with
      |none=>rfl
      |some u=>have:=k3 p u e;rw[hp]at this;cases this
     have kp:∀b u,H3 b=some u->upd H3 p (.lst ys) b=some u:=λb u h=>by rw[zu<|zO h hp];exact h
     obtain⟨R9,g9⟩:=R1.news (T':=p::T) (H':=upd H3 p<|.lst ys) (zzV.mpr ⟨pT,tnd⟩) (λa z=>(zzC.mp z).elim (λe=>by rw[e];exact H1p) λz=>(tf a z).1) (λb u h=>kp b u<|k3 b u h) (λa z=>by
      rcases zzC.mp z with e|z
      . rw[e,zF];simp
      . cases e:H3 a with
        |none=>exact absurd e (tf a z).2
        |some u=>rw[kp a u e];simp)
     refine q _ (p::T) M1 _ R9 (.ls zF ?_)<|g1.trans g9;have le:∀st a,Lv F B (Gw (p::T) M1) st a->VL (VL (Lv F B (Gw [] M1) true) (· ∈ T)) (· = p) a:=λst a z=>by
      rcases z with(z|z)|z|z
      . exact .inl<|.inl<|.inl<|.inl ⟨rfl,z.2⟩
      . exact .inl<|.inl<|.inl<|.inr z
      . exact(zzC.mp z).elim .inr λy=>.inl<|.inr y
      . exact .inl<|.inl<|.inr<|.inr z
     exact RoL.mono (λst v d r=>(r.since kp λa z=>by rw[z];exact hp).less<|le st) (λa vs n e=>⟨λz=>(le true a z).elim n λy=>(by rw[y,hp]at e;cases e),kp _ _ e⟩) (λa _ u h=>kp a u h) rl
 . have e:=e;rw[if_neg hz]at e;cases e
end
def Iw:B9 X [] (Jc X.K kd z_):=λa s σ H Q I h=>by
 obtain⟨F,B,c,as,b,d,R,e,q⟩:=h;cases e;exact Af a s σ H Q I<|q c H R Grow.refl
def Js(h:AT X kd c tt):B9 X [c] (Jc X.K kd tt):=by with_unfolding_all exact(IX h)
def J6(hc:X.calm=true)(hi:DD X kd tg iter fi)(hk:scope.kind = .function)(vm:QK N X.N scope.names X.env.scope.names cap=true)(hS:S.all (λi=>cap[i]? == some none)=true)
 (hg:∀cl s H fp,AG (yM X N scope cl s H fp) kd tg S g) (ht:∀cl s H fp,B9 (yM X N scope cl s H fp) ifs<|Jc X.K kd tt) (he:∀cl s H fp,AE (yM X N scope cl s H fp) kd elt fe)
 (hs:∀x,foldedSetIterable iter X.env x=pure x):AE X kd (.ListComp elt [⟨tg,iter,ifs,0⟩] scope pos) (zC fi cap g tt fe):=by with_unfolding_all exact(yg (IK (g:=lE X.K kd S g) (te:=al X.K kd fe) hc hi hk vm hg ht he hs) λσ H Q h=>HC (λi m=>by simpa using List.all_eq_true.mp hS i m) h)
def Iu(hN:X.N.Nodup)(hiy:X.N[i]? = some y)(hy:Loc X.env.scope y)(hf:X.fn y=true\/X.env.scope.names.lookup y=some .local)
 (hsw:swapsWith (.ListComp elt [⟨tg,iter,ifs,0⟩] scope pos) (some<|.Name y py) spos.line X.env=pure true)
 (hc:X.calm=true) (hi:DD X kd tg iter fi) (hk:scope.kind = .function) (vm:QK N X.N scope.names X.env.scope.names cap=true) (hS:S.all (λi=>cap[i]? == some none)=true)
 (hg:∀cl s H fp,AG (yM X N scope cl s H fp) kd tg S g) (ht:∀cl s H fp,B9 (yM X N scope cl s H fp) ifs<|Jc X.K kd tt) (he:∀cl s H fp,AE (yM X N scope cl s H fp) kd elt fe)
 (hs:∀x,foldedSetIterable iter X.env x=pure x):Rw X kd (.Assign [.Name y py] (.ListComp elt [⟨tg,iter,ifs,0⟩] scope pos) spos) (zm z i<|zC fi cap g tt fe):=by with_unfolding_all exact(vV (Dg (g:=lE X.K kd S g) (te:=al X.K kd fe) hN hiy hy hf hsw hc hi hk vm hg ht he hs) λD σ H h=>by
 obtain⟨F,B,c,as,o,R,e,q⟩:=h;obtain⟨⟨p,a⟩,_,d,j,e⟩:=yu e;obtain⟨k,e⟩:=zv e;cases e;refine HC (λi m=>by simpa using List.all_eq_true.mp hS i m) ⟨F,B,c,as,p,a,R,d,λv A n r t u g=>?_⟩;obtain⟨b,R2,w⟩:=Oz t u j k;exact q _ b r R2<|g.trans<|Grow.less w)
def Au(F:FnOk X.prog X.w X.K X.mg X.base VM k f fdt ps (G9 X.K kd gg))(hr:Room k X.A)(hg:Gl X x)(hm:X.mg x=some (.ref f))(hk:W.keepIn X.K (.ref f)=true)
 (hb:Binds X.K fdt ps []) (hx:Kf VM X (λ_ _ _=>False)) (ha:AA X kd (e::es) fr) (vv:(x==("__debug__":Str))=false) (he:starEach (e::es) X.env=(false,eval e X.env)::starEach es X.env) (C':(backTo pos<|starEach es X.env).any (·.1)=false):
 AE X kd (.Call (.Name x p) (e::es) [] pos) (zf fr gg):=by with_unfolding_all exact(yg (Aq F hr hg hm hk hb .nil hx ha vv he C') λσ H Q h=>t4 h)
def t8{id}(hc:YM X kd (.builtin id) gg)(hg:Gl X x)(hm:X.mg x=none)(hv:bootBuiltins x=some (.builtin id))(ha:AA X kd (e::es) fr)(hn:x≠"__name__")(vv:(x==("__debug__":Str))=false)
 (he:starEach (e::es) X.env=(false,eval e X.env)::starEach es X.env) (C':(backTo pos<|starEach es X.env).any (·.1)=false):AE X kd (.Call (.Name x p) (e::es) [] pos) (fP fr gg):=by with_unfolding_all exact(yg (YZ hc hg hm hv ha hn vv he C') λσ H Q h=>iA (λ_ _ _ z=>z) h)
def rj(hc:YM X kd (.type T) gg)(hg:Gl X x)(hm:X.mg x=none)(hv:bootBuiltins x=some (.type T))(ha:AA X kd (e::es) fr)(hn:x≠"__name__")(vv:(x==("__debug__":Str))=false)
 (he:starEach (e::es) X.env=(false,eval e X.env)::starEach es X.env) (C':(backTo pos<|starEach es X.env).any (·.1)=false):AE X kd (.Call (.Name x p) (e::es) [] pos) (fP fr gg):=by with_unfolding_all exact(yg (BK hc hg hm hv ha hn vv he C') λσ H Q h=>iA (λ_ _ _ z=>z) h)
def Be(fa:EF)(c:String):EF:=λas=>(fa as).bind λp=>(p.1.frz.view p.2).bind λx=>if A_ x.1=true then some (.ow<|.lf true<|.bl<|Fs (mT x.1) c,p.2)else none
def HA(hk:KdOk X kd):Yn X (.builtin "isinstance") (λxs H Q=>∃x c O d,xs=[x,.ty c]/\VA c=true/\Vw X.K kd O H x d/\A_ d=true/\Q (.bl<|Fs (mT d) c) H):=by
 intro b s σ H l m Q I r h;obtain⟨x,c,O,d,rfl,e,f,g,q⟩:=h;cases r with
 |cons i a=>
  cases a with
  |cons a j=>
   cases j;cases(a);exact t_ hk I i f e g λk=>⟨.bl _,H,I.tok k,rfl,q⟩
def Mh{c}(hkd:KdOk X kd)(hc:VA c=true)(hg:Gl X x)(hm:X.mg x=none)(hv:bootBuiltins x=some (.builtin "isinstance"))(hg2:Gl X y)(vh:X.mg y=none)(hv2:bootBuiltins y=some (.type c))(ha:AE X kd a fa)
 (hn:x≠"__name__") (vv:(x==("__debug__":Str))=false) (K':y≠"__name__") (hdb2:(y==("__debug__":Str))=false)
 (he:starEach [a,.Name y p2] X.env=(false,eval a X.env)::starEach [.Name y p2] X.env) (he2:starEach [.Name y p2] X.env=(false,eval (.Name y p2) X.env)::starEach [] X.env) (C':(backTo pos<|starEach [.Name y p2] X.env).any (·.1)=false):
 AE X kd (.Call (.Name x p) [a,.Name y p2] [] pos) (Be fa c):=by with_unfolding_all exact(yg (YZ (HA hkd) hg hm hv (yj ha (yj (E8 (v:=.ty c) hg2 vh hv2 rfl K' hdb2) Zn he2) he) hn vv he C') λσ H Q h=>by
 obtain⟨F,B,s,as,r,i,R,e,q⟩:=h;obtain⟨_,⟨d,t⟩,k,l,e⟩:=yu e;obtain⟨m,e⟩:=zv e;cases e;exact y9 R k λv b n g f o=>⟨v,c,_,d,rfl,hc,yS.vw g f l,m,q _ [] b n g (.lf<|.bl _) o⟩)
noncomputable def wN:MG:=λos es=>match es with | [o]=>if os.length<sizeLine then some (os++[o],.lf true .non)else none|_=>none
def MC:kZ X kd Gq wN:=by
 intro F B G l f p q r g o s t H Q h c b d e k;unfold wN at e
 split at e
 . obtain⟨i,e⟩:=zv e;cases e;cases b with
   |cons j n=>
    cases n;rw[zyD]at d k;exact⟨l,f,_,rfl,rfl,h,by rw[c.length];exact i,k _ _ _ [] (c.append<|RoL.one j) (.lf .non) ⋯ (by rwa [zyD])⟩
 . cases e
def N1{i:Nat}{id}(hm:j8 X id r)(hr:kZ X kd r gg)(slot:Slot "list" name id)(hty:typeOf (.builtin id)=pure (.type "method_descriptor"))(ho:PE X (.Name x p) (Vz i))(ha:AD X kd (e::es) fd)
 (hbase:attributeBase (.Name x p) name X.env (eval (.Name x p) X.env)=eval (.Name x p) X.env)
 (hfew:((backTo KE<|starEach (e::es) X.env).all (λx=>!x.1)&&(backToKw KE<|keywordEach [] X.env).all (λx=>x.1.isSome)
  && decide ((e::es).length+([]:List Keyword).length+(if([]:List Keyword).isEmpty then 0 else 1)<30))=true)
 (hline:(apos.endLine==KE.line)=true) (hs:starEach (e::es) X.env=(false,eval e X.env)::starEach es X.env) (hplain:(backTo KE<|starEach es X.env).any (·.1)=false):
 AE X kd (.Call (.Attribute (.Name x p) name apos) (e::es) [] KE) (wG i fd gg):=by with_unfolding_all exact(yg (Dz PySem.F.plainAttrs_list slot hty hm ho ha hbase hfew hline hs hplain) λσ H Q h=>nQ hr h)
inductive Ty where
 |str|lst|dct|int
def Ty.nm:Ty->String
 | .str=>"str" | .lst=>"list" | .dct=>"dict" | .int=>"int"
noncomputable def QX:Ty->D->Bool
 | .str,.str _=>true
 | .lst,.lst _=>true
 | .dct,.dct _=>true
 | .int,.int _=>true
 |_,_=>false
def il(X:Cx)(T:String)(x:V)(H:Hp):Prop:=∀Z' σ s v,Inv X Z' σ H s->RelV x v->s.TypeIs v T/\∀a,v = .ref a->∃ob,s.heap.get? a=some ob/\ob.dict=none
def iL(X:Cx)(T:String)(r:V->List V->Hp->VK->Prop)(to:TE)(t:TA):TE:=λσ H Q=>to σ H λx H1=>il X T x H1/\t σ H1 λxs H2=>r x xs H2 Q
section
variable{X:Cx}{kd:KD}{o e:Expr}{es:List Expr}{to:TE}{t:TA}{name:Str}{apos KE:Pos}{T id:String}{r:V->List V->Hp->VK->Prop}
def q_(pa:PlainAttrs T)(slot:Slot T name id)(hty:typeOf (.builtin id)=pure (.type "method_descriptor"))(hm:jt X id r)(ho:PE X o to)(ha:PA X (e::es) t)
 (hbase:attributeBase o name X.env (eval o X.env)=eval o X.env)
 (hfew:((backTo KE<|starEach (e::es) X.env).all (λx=>!x.1)&&(backToKw KE<|keywordEach [] X.env).all (λx=>x.1.isSome)
  && decide ((e::es).length+([]:List Keyword).length+(if([]:List Keyword).isEmpty then 0 else 1)<30))=true)
 (hline:(apos.endLine==KE.line)=true) (hs:starEach (e::es) X.env=(false,eval e X.env)::starEach es X.env) (hplain:(backTo KE<|starEach es X.env).any (·.1)=false):
 PE X (.Call (.Attribute o name apos) (e::es) [] KE) (iL X T r to t):=by
 intro a s σ H Q I h;refine wpAny_Call_method_late hbase hfew hline rfl<|yV (ho a s σ H _ I h) λv f ⟨x,g,b,c,i,j⟩=>?_;obtain⟨k,l⟩:=i _ _ _ _ b c;refine⟨T,id,pa,slot,hty,k,l, ?_⟩;have d:=ha KE a f σ g _ b j;rw[hs]at d ⊢;refine Calls.callWith_builtin ⋯ (Calls.evalArgs_plain ?_);exact yV d λm n ⟨p,q,u,w,y⟩=>hm a n σ q x p v m Q u c w y
def ud(X:Cx)(kd:KD)(id:String)(g:D->List D->Option R0):Prop:=
 jt X id (λx xs H Q=>∃O d ds r,(∀a,O a->H a≠none)/\Vw X.K kd O H x d/\VwL X.K kd O H xs ds/\g d ds=some r/\RQ X.K kd O H Q r)
def pD(hk:KdOk X kd){O}(h:Vw X.K kd O H x d)(e:QX ty d=true):il X ty.nm x H:=by
 intro Z' σ s v I rx;cases h with
 |str z=>
  obtain⟨t,rfl⟩:=rx;cases ty<;>first|(cases e;done)|exact⟨typeIs_str s z t,λ_ e=>nomatch e⟩
 |int z=>
  obtain⟨t,rfl⟩:=rx;cases ty<;>first|(cases e;done)|exact⟨typeIs_int s z t,λ_ e=>nomatch e⟩
 |lst hr rl=>
  cases rx;obtain⟨zM,_,pl,_⟩:=I.list hr.sq;cases ty<;>first|(cases e;done)|skip
  refine⟨pl.isList.typeIs,λa e=>?_⟩;cases e;obtain⟨o,n,e,c,hd,_⟩:=pl;exact⟨o,e,hd⟩
 |dct hr rm=>
  cases rx;obtain⟨z,hd,vs,rel,dd⟩:=KZ I hk hr;cases ty<;>first|(cases e;done)|skip
  refine⟨dd.typeIs,λb q=>?_⟩;cases q;obtain⟨ob,_,_,h1,h2,_⟩:=dd;exact⟨ob,h1,h2.2.1⟩
 |non=>cases ty<;>cases e
 |bl=>cases ty<;>cases e
 |tup=>cases ty<;>cases e
 |cl=>cases ty<;>cases e
 |er=>cases ty<;>cases e
 |ob=>cases ty<;>cases e
def z7(ty:Ty)(fa:EF)(fr:AF)(g:D->List D->Option R0):EF:=λas=>(fa as).bind λp=>(p.1.frz.view p.2).bind λw=>if QX ty w.1=true then(fr p.2).bind λq=>(p.1.frz.view q.2).bind λx=>(views q.2 q.1).bind λy=>(g x.1 y.1).bind λr=>(wrap (meet x.2 y.2) r).bind λz=>some (z,q.2)else none
def rn(hk:KdOk X kd)(h:al X.K kd (z7 ty fa fr g) σ H Q):
 iL X ty.nm (λx xs H Q=>∃O d ds r,(∀a,O a->H a≠none)/\Vw X.K kd O H x d/\VwL X.K kd O H xs ds/\g d ds=some r/\RQ X.K kd O H Q r) (al X.K kd fa) (lz X.K kd fr) σ H Q:=by
 obtain⟨F,B,U,as,r,o,R,e,q⟩:=h;obtain⟨⟨p,c⟩,_,s,t,e⟩:=yu e;obtain⟨f,e⟩:=ite_some' e;obtain⟨⟨u,y⟩,⟨d,Y⟩,⟨D,E⟩,A,C,G,e⟩:=yU e;obtain⟨I,z,J,L,e⟩:=yu e;cases e;refine y9 R s λv i Z m b M=>⟨pD hk (yS.vw m b t) f,F,B,i,c,u,_,m,A,λvs j H2 R2 k n=>?_⟩;exact⟨_,d,D,I,R2.tr _,(yS.vw R2 (b.grow n) C).less Wx.meet1,(XZ R2 k G).less Wx.meet2,J,wa R2 L λw N P S l T=>q w N j P S l<|(M.trans n).trans T⟩
def wF(hk:KdOk X kd)(hm:ud X kd id g)(pa:PlainAttrs ty.nm)(slot:Slot ty.nm name id)(hty:typeOf (.builtin id)=pure (.type "method_descriptor"))(ho:AE X kd a fa)(ha:AA X kd (e::es) fr)
 (hbase:attributeBase a name X.env (eval a X.env)=eval a X.env)
 (hfew:((backTo KE<|starEach (e::es) X.env).all (λx=>!x.1)&&(backToKw KE<|keywordEach [] X.env).all (λx=>x.1.isSome)
  && decide ((e::es).length+([]:List Keyword).length+(if([]:List Keyword).isEmpty then 0 else 1)<30))=true)
 (hline:(apos.endLine==KE.line)=true) (hs:starEach (e::es) X.env=(false,eval e X.env)::starEach es X.env) (hplain:(backTo KE<|starEach es X.env).any (·.1)=false):
 AE X kd (.Call (.Attribute a name apos) (e::es) [] KE) (z7 ty fa fr g):=by with_unfolding_all exact(yg (q_ pa slot hty hm ho ha hbase hfew hline hs hplain) λσ H Q h=>rn hk h)
def nh:D->List D->Option R0
 | .dct kvs,[k]=>(NW k).bind λk=>some<|.im<|(X0 kvs k).getD .non
 | .dct kvs,[k,x]=>(NW k).bind λk=>some (.im<|(X0 kvs k).getD x)
 |_,_=>none
def Vw.rp_of{O}(h:Vw X.K kd O H x d)(e:zB d=true):Rp X.K kd O H x d:=by
 cases h with
 |non=>exact .non
 |bl b=>exact .bl b
 |int i=>exact .int i
 |str x=>exact .str x
 |_=>cases e
def getP':D->List D->Option R0
 |d,[k]=>nh d [k]
 |d,[k,x]=>if zB x=true then nh d [k,x]else none
 |_,_=>none
def rA(hk:KdOk X kd):ud X kd "dict.get" getP':=by
 intro B s σ H x N v P Q I C r h;obtain⟨O,d,R,S,T,D,E,a,q⟩:=h;unfold getP' at a
 split at a
 . rename_i k;cases E with
   |cons l g=>
    cases g;cases r with
    |cons m i=>
     cases i;cases D with
     |dct n o=>
      obtain⟨c,p,a⟩:=bS_<|a;cases a;cases C;obtain⟨z,t,J,b,j⟩:=KZ I hk n;have:=Kb l p;subst this;refine call_meetsIn PySem.F.slot_dict_get j.typeIs PySem.F.entry_dict_get (PySem.F.args_dict_get_2 _ _) (meets_dict_get _ _ (Ea m) t) ⟨_,j.mapOf, ?_⟩
      rcases Gn c o with⟨u,K,e,f,A⟩|⟨e,f⟩
      . rw[f]at q;refine⟨u,H,I.tok _, ?_,yc q A⟩;have:=(b.val c).getD (d:=.non) (d':=.none) rfl
        rwa [e]at this
      . rw[f]at q;refine⟨.non,H,I.tok _, ?_,yc q .non⟩;have:=(b.val c).getD (d:=.non) (d':=.none) rfl
        rwa [e]at this
     |_=>cases a
 . rename_i k y;obtain⟨L,a⟩:=ite_some' a;cases E with
   |cons l g=>
    cases g with
    |cons M g=>
     cases g;cases r with
     |cons m i=>
      cases i with
      |cons G i=>
            cases i;cases D with
            |dct n o=>
             obtain⟨c,p,a⟩:=bS_<|a;cases a;cases C;obtain⟨z,t,J,b,j⟩:=KZ I hk n;have:=Kb l p;subst this;refine call_meetsIn PySem.F.slot_dict_get j.typeIs PySem.F.entry_dict_get ⋯ (meets_dict_get_default _ _ (Ea m) t _) ⟨_,j.mapOf, ?_⟩
             rcases Gn c o with⟨u,K,e,f,A⟩|⟨e,f⟩
             . rw[f]at q;refine⟨u,H,I.tok _, ?_,yc q A⟩;have:=(b.val c).getD G
               rwa [e]at this
             . rw[f]at q;refine⟨_,H,I.tok _, ?_,yc q<|M.rp_of L⟩;have:=(b.val c).getD G
               rwa [e]at this
            |_=>cases a
 . cases a
end
section
variable{K:zzA}{kd:KD}{F B G:Addr->Prop}{T:List Addr}{ad:Ad}{as:AS}{σ:St}{H H':Hp}
def Rel.wrT(R:Rel K kd F B T ad as σ H)(hp:p ∈ T):Rel K kd F B T ad as σ (upd H p u)/\Grow (Gw T ad) H (Gw T ad) (upd H p u):=by
 have g:Grow _ H (Gw T ad) (upd H p u):=Grow.wr<|.inl hp;have b:∀a,H a≠none->upd H p u a≠none:=λa z=>by
  by_cases e:a=p
  . subst e;rw[zF];simp
  . rwa [zu e]
 exact⟨⟨R.len,R.out,R.nd,R.inj,R.tnd,R.dis,λa z=>b a<|R.ftr a z,λa z=>⟨b a (R.btr a z).1,(R.btr a z).2⟩,λa z=>⟨b a (R.gtr a z).1,(R.gtr a z).2⟩,λi s e=>(R.sl i s e).grow g λa m w h=>by
  rwa [zu λz=>R.dis i a m<|by rwa [z]]⟩,g⟩
inductive RPs(K:zzA)(kd:KD)(F B G:Addr->Prop)(H:Hp):List (V×V)->List (Key×O)->Prop
 |nil:RPs K kd F B G H [] []
 |cons {k:Key}{v:V}{o:O}{ps:List (V×V)}{r6:List (Key×O)}:YV K kd F B G H v o []->RPs K kd F B G H ps r6->RPs K kd F B G H ((kV k,v)::ps) ((k,o)::r6)
theorem RPs.out:∀{ps:List (V×V)}{r6:List (Key×O)},RPs K kd F B G H ps r6->∃vs,ps=((r6.map (·.1)).zip vs).map (λkv=>(kV kv.1,kv.2))/\ZG K kd F B G H vs (r6.map (·.2)) []/\vs.length=r6.length
 |_,_,.nil=>⟨[],rfl,.nil,rfl⟩
 |_,_,.cons (v:=v) h r=>by
  obtain⟨a,e,b,c⟩:=RPs.out r;subst e;exact⟨v::a,rfl,.cons h b,congrArg _ c⟩
end
def Wt:List (EF×EF)->AS->Option (List (Key×O)×AS)
 | [],as=>some ([],as)
 |f::r,as=>(f.1 as).bind λp=>(f.2 p.2).bind λq=>match p.1,q.1 with
  | .ow ko,.ow vo=>(NW ko.toD).bind λk=>(Wt r q.2).bind λz=>some ((k,vo.frz)::z.1,z.2)
  |_,_=>none
theorem Ep{K}:∀fs H Q,(∃F B ad as r6 S',Rel K kd F B [] ad as σ H/\Wt fs as=some (r6,S')/\
 ∀ps Sh H',Rel K kd F B [] Sh S' σ H'->RPs K kd F B (Gw [] Sh) H' ps r6->Grow (Gw [] ad) H (Gw [] Sh) H'->Q ps H')->TY (fs.map λf=>(al K kd f.1,al K kd f.2)) σ H Q
 | [],H,Q,h=>by
  obtain⟨F,B,t,as,a,b,R,e,q⟩:=h;cases e;exact q [] t H R .nil Grow.refl
 |f::r,H,Q,h=>by
  obtain⟨F,B,t,as,a,b,R,e,q⟩:=h;obtain⟨⟨p,y⟩,⟨A,d⟩,c,g,e⟩:=yu e
  match p,A,e,c,g with
  | .ow w,.ow T,e,c,g=>
   obtain⟨k,⟨z,D⟩,C,E,e⟩:=yu e;cases e;refine y9 R c λv i G I j J=>y9 I g λu l L R2 n M=>Ep r L _ ⟨F,B,l,d,z,_,R2,E,λU o N O s x=>?_⟩;have P:=UX<|j;have S:=Kb P.vw C;rw[S];exact q _ o N O (.cons (YV.grow x ⋯ n) s)<|(J.trans M).trans x
theorem Pi:∀kvs acc,((acc++kvs).map (·.1)).Nodup->Wm acc kvs=acc++kvs
 | [],a,_=>by rw[zyD];rfl
 |p::r,a,h=>by
  have b:YR a p.1=none:=by
   cases e:YR a p.1 with
   |none=>rfl
   |some v=>
    exfalso;have m:=IM e;rw[zyL]at h;exact(zxC.mp h).2.2 _ m _ zzF rfl
  show Wm (putK a p.1 p.2) r=_;rw[Cm _ b,Pi r _ (by rwa [zxA]),zxA];rfl
def UQ(fs:List (EF×EF)):EF:=λas=>(Wt fs as).bind λp=>if(p.1.map (·.1)).Nodup/\p.1.length<=15 then some (.ow (.nd (.dc (p.1.map (·.1))) (p.1.map (·.2))),p.2)else none
section
variable{X:Cx}{kd:KD}{e a b c o i:Expr}{pos pos':Pos}{fa fb fk fv:EF}
def JL(h:DW X pos keys values (fs.map λf=>(al X.K kd f.1,al X.K kd f.2)))(hall:keys.all (·.isSome)=true)(hl:keys.length=values.length)(h0:keys≠[])(h15:keys.length<=15):
 AE X kd (.Dict keys values pos) (UQ fs):=by with_unfolding_all exact(yg (AC h hall hl h0 h15) λσ H Q h=>by
 obtain⟨F,B,A,as,r,I,R,e,q⟩:=h;obtain⟨⟨c,J⟩,L,e⟩:=bS_<|e;obtain⟨⟨l,M⟩,e⟩:=zv e;cases e;intro p j;have k:∀b o,H b=some o->upd H p (.dK []) b=some o:=λb o C=>by rwa [zu<|zO C j]
 obtain⟨R2,N⟩:=R.news (T':=[p]) ⋯ (λa m=>by rwa [zzR.mp m]) k (λa m=>by rw[zzR.mp m,zF];simp);refine Ep fs _ _ ⟨F,_,A,as,c,_,R2.hide,L,λV g D O s t=>?_⟩;have P:=λz=>(R.gtr p z).1 j;have v:=t.keep p _ zF P;obtain⟨i,S,T,d⟩:=s.out;have E:=O.unhide ⋯ (λa m z=>by rw[zzR.mp m]at z;exact(R.btr p z).1 j);have w:=ZG.lv (XE) T;have x:(((c.map _).zip i).map _)=c.map (·.1):=List.map_fst_zip (by rw[zzB,d];exact zzN _);refine⟨v,(c.map _).zip i,S,by rw[List.length_zip,d];simpa using M, ?_⟩;rw[Pi _ []<|by rwa [List.nil_append,x]];obtain⟨U,G⟩:=E.wrT (show p ∈ [p] by simp);refine q _ [p] g _ U (.dc zF (by rw[zzB,d])<|ZG.grow G ⋯ w)<|(N.trans ⟨λb u e n=>t.keep b u e λz=>n<|Gw.drop b z,λb z=>?_⟩).trans G
 rcases z with z|z
 . exact .inl<|.inl z
 . exact(t.own b<|.inr z).elim (λy=>.inl<|Gw.drop b y) .inr)
end
abbrev Fn:=List (Bool×D)->Option O
section
variable{P:Program}{w:World}{K:zzA}{mg:Str->Option Value}{base:Heap}{kd:KD}
def Jo:FnOk P w K mg base VM k f fd ps (G9 K kd λ_=>none):=
 ⟨λc H Q E h=>(by obtain⟨_,_,_,_,_,e,_⟩:=h;cases e),λA a s H b d c Q E _ _ _ _ h=>(by obtain⟨_,_,_,_,_,e,_⟩:=h;cases e)⟩
def Ta(hr:Room k A):A.units+100<cLine:=by have:=hr.un;omega
def qE(P:Program)(w:World)(K:zzA)(kd:KD):Prop:=∀X,X.prog=P->X.w=w->X.K=K->KdOk X kd
theorem Xm{O}:∀ns:List Int,RpL K kd O H (ns.map V.int)<|ns.map D.int
 | []=>.nil
 |_::r=>.cons (.int _)<|Xm r
def qi{ns:List Int}(hg:g [(true,.lst<|ns.map D.int)]=some (.lf true<|.bl true))(hS:SH K H a (ns.map V.int)):G9 K kd g [.ref a] H (λv _=>v = .bl true) E:=by
 refine⟨λ_=>False,[_],.lf true _,⋯,.cons ?_ .nil,hg,λv T e _ _ _ _ b=>?_⟩
 . rcases hS with h|⟨c,n,k,z,r⟩
   . exact .lst (λz=>z.2) h<|Xm ns
   . exact .lstK k z r<|Xm ns
 . cases b with
   |lf d=>cases d;rfl
end
namespace Bt
theorem len:bootBuiltins "len"=some (.builtin "len"):=⋯
theorem max:bootBuiltins "max"=some (.builtin "max"):=⋯
theorem min:bootBuiltins "min"=some (.builtin "min"):=⋯
theorem isinstance:bootBuiltins "isinstance"=some (.builtin "isinstance"):=⋯
theorem all:bootBuiltins "all"=some (.builtin "all"):=⋯
theorem int:bootBuiltins "int"=some (.type "int"):=⋯
theorem bool:bootBuiltins "bool"=some (.type "bool"):=⋯
theorem str:bootBuiltins "str"=some (.type "str"):=⋯
theorem tuple:bootBuiltins "tuple"=some (.type "tuple"):=⋯
def n(x)(h:(x==("__name__":Str))=false):x≠"__name__":=λe=>by subst e;simp at h
end Bt
def WD(f:EF)(as:AS)(st:Bool)(d:D):Prop:=f as=some (.ow<|.lf st d,as)
def WT(f:TF)(as:AS)(b:Bool):Prop:=f as=some (b,as)
def WA(f:AF)(as:AS)(rs:List (Bool×D)):Prop:=f as=some (rs.map λx=>.ow<|.lf x.1 x.2,as)
def WO(f:DF)(as:AS)(os:List O):Prop:=f as=some (os,as)
def za:WD (fC x) as true x:=rfl
def zb{i:Nat}(h:as[i]? = some (some<|.lf s x)):WD (fV i) as s x:=by unfold WD fV;rw[h]
def Qw(ha:WD a as s x)(hb:WD b as t y)(hg:g x y=some (.im z)):WD (f2 a b g) as (zB z||(s&&t)) z:=by
 unfold WD f2 at *;rw[ha];show((b as).bind _)=_;rw[hb];show((g x y).bind _)=_;rw[hg];show(if _=true then _ else _:Option RV).bind _=_;rw[if_pos<|by unfold meet;simp];rfl
def m_(ha:a as=some (.ow oa,as))(hb:b as=some (.ow ob,as))(hg:g oa.toD ob.toD=some (.im z)):WD (f2 a b g) as (zB z||(oa.str&&ob.str)) z:=by
 unfold WD f2 at *;rw[ha];show((b as).bind _)=_;rw[hb];show((g oa.toD ob.toD).bind _)=_;rw[hg];show(if _=true then _ else _:Option RV).bind _=_;rw[if_pos<|by unfold meet;simp];rfl
def z0(ha:WD a as s x)(hb:WD b as t y)(hg:g x y=some (.im z))(e:zB z=true):WD (f2 a b g) as true z:=by
 have:=Qw ha hb hg;rwa [e]at this
def yr(ha:WD a as s (.int i))(hb:WD b as t (.int j)):WD (f2 a b<|vR .Add) as true (.int<|i+j):=z0 ha hb rfl rfl
def Y5(ha:WD a as s (.int i))(hb:WD b as t (.int j)):WD (f2 a b<|vR .Sub) as true (.int<|i-j):=z0 ha hb rfl rfl
def XX(ha:WD a as s (.int i))(hb:WD b as t (.int j))(h:j.natAbs<2 ^ 64):WD (f2 a b<|vR .Mult) as true (.int<|i*j):=z0 ha hb (by show(if _ then _ else _)=_;rw[if_pos<|.inr h]) rfl
def VP(ha:WD a as s (.int i))(hb:WD b as t (.int j))(h1:i.natAbs<big)(h2:j.natAbs<big):WD (f2 a b<|vR .Mult) as true (.int<|i*j):=z0 ha hb (by show(if _ then _ else _)=_;rw[if_pos<|.inl ⟨h1,h2⟩]) rfl
def YK(ha:WD a as s (.int i))(hb:WD b as t (.int j))(h1:0<j)(h2:j.natAbs<big):WD (f2 a b<|vR .FloorDiv) as true (.int<|i/j):=z0 ha hb (by show(if _ then _ else _)=_;rw[if_pos ⟨h1,h2⟩]) rfl
def yh(ha:WD a as s (.int i))(hb:WD b as t (.int j))(h1:0<j):WD (f2 a b<|vR .Mod) as true (.int<|i%j):=z0 ha hb (by show(if _ then _ else _)=_;rw[if_pos h1]) rfl
def yk(ha:WD a as s x)(hb:WD b as t y)(h:wb 60 x y=some c):WD (f2 a b<|zj .Eq) as true (.bl c):=z0 ha hb (by show(wb 60 x y).bind _=_;rw[h];rfl) rfl
def Ym(ha:WD a as s x)(hb:WD b as t y)(h:wb 60 x y=some c):WD (f2 a b<|zj .NotEq) as true (.bl<|!c):=z0 ha hb (by show(wb 60 x y).bind _=_;rw[h];rfl) rfl
def xY(ha:WD a as s (.int i))(hb:WD b as t (.int j)):WD (f2 a b<|zj .Lt) as true (.bl<|decide (i<j)):=z0 ha hb rfl rfl
def x4(ha:WD a as s (.int i))(hb:WD b as t (.int j)):WD (f2 a b<|zj .Gt) as true (.bl<|decide (j<i)):=z0 ha hb rfl rfl
def U9(ha:WD a as s (.int i)):WD (f1 a RK) as true (.int (-i)):=by
 unfold WD f1 at *;rw[ha];rfl
def zg(h:WD f as s x)(e:truth x=some c):WT (fT f) as c:=by
 unfold WT fT;rw[h];show((truth x).bind _)=_;rw[e];rfl
def vF(h:WT c as k):WT (v7 c) as (!k):=by unfold WT v7 at *;rw[h];rfl
def YX(h:WT c as k)(h2:k=true->WT e as l)(h3:k=false->l=false):WT (Uh c e) as l:=by
 unfold WT Uh at *;rw[h];cases k with
 |true=>exact h2 rfl
 |false=>rw[h3 rfl];rfl
def zE(h:WT c as k)(h2:k=false->WT e as l)(h3:k=true->l=true):WT (yY c e) as l:=by
 unfold WT yY at *;rw[h];cases k with
 |false=>exact h2 rfl
 |true=>rw[h3 rfl];rfl
def Tw(h:WT c as true)(ha:WD a as s x):WD (PR c a b) as s x:=by unfold WD PR;rwa [h]
def Mm(h:WT c as false)(hb:WD b as s x):WD (PR c a b) as s x:=by unfold WD PR;rwa [h]
def Y4(h:WD a as s (.bl k))(h2:k=true->WD b as true (.bl l))(h3:k=false->l=false):WD (Kc a b) as true (.bl l):=by
 unfold WD Kc at *;rw[h];cases k with
 |true=>exact h2 rfl
 |false=>rw[h3 rfl];rfl
def HE(h:WD a as s (.bl k))(h2:k=false->WD b as true (.bl l))(h3:k=true->l=true):WD (lp a b) as true (.bl l):=by
 unfold WD lp at *;rw[h];cases k with
 |false=>exact h2 rfl
 |true=>rw[h3 rfl];rfl
def zq:WA aN as []:=rfl
def zk(ha:WD a as s x)(hr:WA fr as rs):WA (aC a fr) as ((s,x)::rs):=by
 unfold WA aC at *;rw[ha];show((fr as).bind _)=_;rw[hr];rfl
theorem Zh:∀rs:List (Bool×D),xW as (rs.map λx=>.ow<|.lf x.1 x.2)=some (rs.map λx=>(zB x.2||x.1,x.2))
 | []=>rfl
 |r::a=>by
  show(xW as _).bind _=_;rw[Zh a];rfl
theorem UD:∀rs:List (Bool×D),views as (rs.map λx=>.ow<|.lf x.1 x.2)=some (rs.map (·.2),some (rs.all (·.1)))
 | []=>rfl
 |r::a=>by
  show(views as _).bind _=_;rw[UD a];rfl
def yA(ha:WA fr as rs)(hg:g (rs.map λx=>(zB x.2||x.1,x.2))=some (.lf s x)):WD (zf fr g) as s x:=by
 unfold WD zf;rw[ha];show(xW as _).bind _=_;rw[Zh];show(g _).bind _=_;rw[hg];rfl
def YH(ha:WA fr as rs)(hg:g (rs.map λx=>(zB x.2||x.1,x.2))=some o):zf fr g as=some (.ow o,as):=by
 unfold zf;rw[ha];show(xW as _).bind _=_;rw[Zh];show(g _).bind _=_;rw[hg];rfl
def Fx(ha:WA fr as rs)(hg:g (rs.map (·.2))=some (.im x)):WD (fP fr g) as (zB x||rs.all (·.1)) x:=by
 unfold WD fP;rw[ha];show(views as _).bind _=_;rw[UD];show(g _).bind _=_;rw[hg];show(if _=true then _ else _:Option RV).bind _=_;rw[if_pos ⋯];rfl
def wO(ha:WA fr as rs)(hg:g (rs.map (·.2))=some (.im x))(e:zB x=true):WD (fP fr g) as true x:=by
 have:=Fx ha hg;rwa [e]at this
def zI:WO dN as []:=rfl
def zi{os}(ha:WD a as s x)(hr:WO fr as os):WO (dC a fr) as (.lf s x::os):=by
 unfold WO dC at *;rw[ha];show((fr as).bind _)=_;rw[hr];rfl
def vB{os}(h:WO fr as os)(hl:os.length<=sizeLine):yx fr as=some (.ow<|.nd .ls os,as):=by
 unfold yx;rw[h];show(if os.length<=sizeLine then _ else _)=_;rw[if_pos hl]
def zd{f g}(h1:f as=some (.nx U'))(h2:g U'=o):ze f g as=o:=by unfold ze;rwa [h1]
def z9{f g}(h1:f as=some (.rt o)):ze f g as=some (.rt o):=by unfold ze;rw[h1];rfl
def yp{f g}(h:WT c as true)(h1:f as=o):yN c f g as=o:=by unfold yN;rwa [h]
def zr{f g}(h:WT c as false)(h1:g as=o):yN c f g as=o:=by unfold yN;rwa [h]
def zw{i:Nat}{st}(h:WD f as s x)(hi:i<as.length):zm st i f as=some (.nx<|as.set i<|some<|.lf s x):=by
 unfold zm;rw[h];cases st<;>exact if_pos hi
def y6{i:Nat}(h:f as=some (.ow o,as))(hi:i<as.length):zm false i f as=some (.nx<|as.set i<|some o):=by
 unfold zm;rw[h];exact if_pos hi
def AB{i:Nat}(h:f as=some (.ow o,as))(hi:i<as.length):zm true i f as=some (.nx<|as.set i<|some o.frz):=by
 unfold zm;rw[h];exact if_pos hi
def zN(h:WD f as true x):zt f as=some (.rt<|.lf true x):=by unfold zt;rw[h];rfl
def zG(hl:ds.length=m)(h:c (ya n ds)=some (.rt o)):wj n m c ds=some o:=by unfold wj;rw[if_pos hl,h];rfl
def wk{f}(h:fi as=some (xs,S'))(h2:forL g f xs S'=o):vD fi g f as=o:=by unfold vD;rwa [h]
def xv(h:WA fr as [(u,.int j)])(h0:0<=j)(h1:j<1000000):yq fr y8 as=some (y4 0 j.toNat,as):=by
 unfold yq;rw[h];show((if -_<=j/\j<2 ^ 62 then some _ else none).bind _)=_;rw[if_pos ⋯];rfl
def Uv(ha:a as=some (.ow o,as))(hr:WA fr as rs):WA (aC a fr) as ((o.str,o.toD)::rs):=by
 unfold WA aC at *;rw[ha];show((fr as).bind _)=_;rw[hr];rfl
def VH{i:Nat}(h:as[i]? = some (some o)):RV.view as (.bo i)=some (o.toD,o.kl):=by simp only[RV.view,h]
def G5{i:Nat}(h:as[i]? = some (some o)):Ax as (.bo i)=some (o.frz,as.set i<|some o.frz):=by simp only[Ax,h]
def JH{i:Nat}(h:as[i]? = some (some o))(hs:o.str=true):Hb as (.bo i)=some o:=by simp only[Hb,h,hs,if_true]
def YO{i:Nat}{os}(h:as[i]? = some (some<|.nd k os)):fV i as=some (.bo i,as):=by unfold fV;rw[h]
def jA{i:Nat}{os}(h:as[i]? = some (some<|.nd .ls os)):WD (fP (aC (fV i) aN) z8) as true (.int os.length):=by
 have e:views as [.bo i]=some ([.lst<|O.toDs os],meet (O.nd .ls os).kl<|some true):=by
  show(RV.view as _).bind _=_;rw[VH h];rfl
 unfold WD fP aC;rw[YO h];simp only[zyK,aN,RV.frz,e];rw[show z8 [.lst _]=some _ by show some _=_;rw[QE]];rfl
def ik{i:Nat}{os}(h:as[i]? = some (some<|.nd .ls os))(hl:os.all O.isLf=true)(hb:WD b as t y)(hg:zU (.lst<|O.toDs os) y=some (.im z)):WD (f2 (fV i) b zU) as (zB z||(O.strs os&&t)) z:=by
 unfold WD f2 at *;rw[YO h];show((b as).bind _)=_;rw[hb];show((RV.view as<|.bo i).bind _)=_;rw[VH h];have e:(O.nd .ls os).kl=some (O.strs os):=by simp only[O.kl,hl,if_true]
 rw[e];show((zU (.lst _) y).bind _)=_;rw[hg];show(if _=true then _ else _:Option RV).bind _=_;rw[if_pos<|by unfold meet;simp];rfl
def zW{f}(h1:g d as=some U')(h2:f U'=some (.nx J'))(h3:forL g f r J'=o):forL g f (d::r) as=o:=by
 show(g d as).bind _=_;rw[h1];show(f U').bind _=_
 rwa [h2]
def vZ{i:Nat}{os}(h:as[i]? = some (some<|.nd .ls os))(hl:os.length<sizeLine)(ha:WD a as s x):yE (wG i (dC a dN) wN) as=some (.nx<|as.set i<|some<|.nd .ls<|os++[.lf s x]):=by
 unfold yE wG;rw[h];have e:=zi ha zI;rw[e];show(Option.bind (match as[i]? with|some (some<|.nd .ls os)=>_|_=>none) _)=_;rw[h];show((wN os _).bind _).bind _=_;have e2:wN os [.lf s x]=some _:=if_pos hl;rw[e2];rfl
def GU(h:f as=some (.ow o,as))(hg:g (o.str,o.toD) as=some S'):Rm f g as=some (.nx S'):=by
 unfold Rm;rw[h];show(g _ as).bind _=_;rw[hg];rfl
def Vo{i:Nat}(h:as[i]? = some (some o))(hs:o.str=true):zt (fV i) as=some (.rt o):=by
 cases o with
 |lf a d=>unfold zt fV;rw[h];have:=hs;subst this;rfl
 |nd k b=>
  unfold zt;rw[YO h];show(Hb as _).bind _=_;rw[JH h hs];rfl
def HB{os}(h:WO fr as os)(hl:os.length<=sizeLine)(ha:os.all O.isLf=true):WD (yC fr) as (O.strs os) (.tup<|O.toDs os):=by
 unfold WD yC;rw[h];show(if os.length<=sizeLine then some _ else _)=_;rw[if_pos hl];unfold Xh;rw[if_pos ha]
def u5(ha:a as=some (.ow oa,U'))(hb:b U'=some (.ow ob,J'))(hg:g oa.toD ob.toD=some (.fl zs)):f2 a b g as=some (.ow<|.nd .ls<|zs.map<|Ee<|oa.str&&ob.str,J'):=by
 unfold f2;rw[ha];show((b U').bind _)=_;rw[hb];show((g oa.toD ob.toD).bind _)=_;rw[hg];show(if _=true then _ else _:Option RV).bind _=_;rw[if_pos<|by unfold meet;simp];rfl
def zy(ha:WD a as true x)(hb:WD b as true y)(hg:g x y=some (.im z)):WD (f2 a b g) as true z:=by
 have:=Qw ha hb hg
 rwa [show(zB z||_)=true by simp]at this
def Oo{i:Nat}{os}(h:as[i]? = some (some<|.nd .ls os))(hl:os.all O.isLf=true)(hs:O.strs os=true)(hb:WD b as true y)(hg:zU (.lst<|O.toDs os) y=some (.im z)):WD (f2 (fV i) b zU) as true z:=by
 have:=ik h hl hb hg
 rwa [hs,show(zB z||_)=true by simp]at this
def ZP:∀zs:List D,zs.map (Ee true)=zs.map (O.lf true)
 | []=>rfl
 |z::r=>⋯
def Ak(ha:a as=some (.ow oa,U'))(hb:b U'=some (.ow ob,J'))(hg:g oa.toD ob.toD=some (.fl zs))(h1:oa.str=true)(h2:ob.str=true):f2 a b g as=some (.ow<|.nd .ls<|zs.map<|O.lf true,J'):=by
 have:=u5 ha hb hg
 rwa [h1,h2,show(true&&true)=true from rfl,ZP]at this
def Zw{os}(ha:a as=some (.ow o,U'))(hr:fr U'=some (os,J')):dC a fr as=some (o::os,J'):=by
 unfold dC;rw[ha];show((fr U').bind _)=_;rw[hr];rfl
def add_lists(h:xs.length+ys.length<=sizeLine):vR .Add (.lst xs) (.lst ys)=some (.fl<|xs++ys):=if_pos h
def y_(lo)(n:Nat):y4 lo (n+1)=(true,.int lo)::y4 (lo+1) n:=by
 unfold y4;rw[List.range_succ_eq_map,zyR,zyA]
 congr 1
 . simp
 . apply List.map_congr_left;intro i _;show(true,D.int _)=_
   congr 2
   omega
def CA(ha:WA fr as rs)(hg:g (rs.map (·.2))=some (.im x))(e:rs.all (·.1)=true):WD (fP fr g) as true x:=by
 have:=Fx ha hg;rwa [e,zyC]at this
def XF(ha:WD a as s y)(ht:QX ty y=true)(hr:WA fr as rs)(hg:g y (rs.map (·.2))=some (.im x))(e:zB x=true):WD (z7 ty a fr g) as true x:=by
 unfold WD z7;rw[ha];show(if QX ty y=true then _ else _:Option _)=_;rw[if_pos ht,hr];simp only[zyK,UD];show((g y _).bind _)=_;rw[hg];show(if _=true then _ else _:Option RV).bind _=_;rw[if_pos<|by rw[e];rfl];show some (RV.ow<|.lf _ x,as)=_;rw[e];rfl
def CT{fl fh lo hi g}(ha:WD a as s y)(hl:fl as=some (lo,as))(hh:fh as=some (hi,as))(hg:g y lo hi=some (.im x)):WD (wV a fl fh g) as (zB x||s) x:=by
 unfold WD wV;rw[ha];show((fl as).bind _)=_;rw[hl];show((fh as).bind _)=_;rw[hh];show((g y lo hi).bind _)=_;rw[hg];show(if _=true then _ else _:Option RV).bind _=_;rw[if_pos ⋯];rfl
def Z6{g fe vf U' y r os}(h1:g y vf=some U')(h2:WD fe U' true x)(h3:xo g z_ fe vf r=some os):xo g z_ fe vf (y::r)=some (.lf true x::os):=by
 show(g y vf).bind _=_;rw[h1];show(fe U').bind _=_;rw[h2];rw[h3];rfl
def xg{fi cap g tt fe xs os}(h1:fi as=some (xs,as))(hl:xs.length<=sizeLine)(h2:xo g tt fe (ZF cap as) xs=some os):zC fi cap g tt fe as=some (.ow<|.nd .ls os,as):=by
 unfold zC;rw[h1];show(if xs.length<=sizeLine then _ else _)=_;rw[if_pos hl];rw[h2];rfl
def Sk:Wt [] as=some ([],as):=rfl
def Xx(hk:WD fk as t y)(ek:NW y=some k)(hv:WD fv as s x)(hr:Wt r as=some (r6,as)):Wt ((fk,fv)::r) as=some ((k,.lf s x)::r6,as):=by
 show(fk as).bind _=_;rw[hk];show(fv as).bind _=_;rw[hv];show(NW y).bind _=_;rw[ek];rw[hr];rfl
def EN(h:Wt fs as=some (r6,as))(h1:(r6.map (·.1)).Nodup)(h2:r6.length<=15):UQ fs as=some (.ow (.nd (.dc (r6.map (·.1))) (r6.map (·.2))),as):=by
 unfold UQ;rw[h];show(if _ then _ else _)=_;rw[if_pos ⟨h1,h2⟩]
def Ra(ha:fr as=some (rs,as))(hx:xW as rs=some xs)(hg:g xs=some o):zf fr g as=some (.ow o,as):=by
 unfold zf;rw[ha];show(xW as rs).bind _=_;rw[hx];show(g xs).bind _=_;rw[hg];rfl
def Ww(h:Nat.ble n 1000=true):n<=sizeLine:=Nat.le_of_lt<|yI<|Nat.le_of_ble_eq_true h
def zh(h:Nat.ble (a+1) b=true):a<b:=Nat.le_of_ble_eq_true h
def Zo(h0 : -(10 ^ 200)<i)(h1:i<10 ^ 200):i.natAbs<big:=by
 have:10 ^ 200<big:=by decide +kernel
 have e:((10 ^ 200:Nat):Int)=10 ^ 200:=by norm_cast
 omega
def GC(K:zzA)(kd:KD)(mg:Str->Option Value)(x:Str)(d:D):Prop:=∃v u,mg x=some u/\RelV v u/\∀O H,Rp K kd O H v d
section
variable{X:Cx}{kd:KD}{K:zzA}{mg:Str->Option Value}
def vY(h:GC X.K kd X.mg x d)(hg:Gl X x)(hd:(x==("__debug__":Str))=false):AE X kd (.Name x pos) (fC d):=by
 (
 obtain⟨v,u,h1,h2,h3⟩:=h;exact U3 (A4 hg h1 h2 hd) h3)
theorem GC.int(h:mg x=some (.int i t)):GC K kd mg x (.int i):=⟨.int i,_,h,⟨t,rfl⟩,λ_ _=>.int i⟩
theorem GC.str(h:mg x=some (.str y t)):GC K kd mg x (.str y):=⟨.str y,_,h,⟨t,rfl⟩,λ_ _=>.str y⟩
theorem GC.tup{n:Nat}(h:mg x=some (.ref a))(hk:K.lookup a=some ⟨.type "tuple",od,.seq zM n,sl⟩)(hz:zM.size<=sizeLine)(hv:zK vs zM.toList)
 (hr:∀O H,RpL K kd O H vs ds):GC K kd mg x (.tup ds):=⟨.ref a,_,h,rfl,λO H=>.tupK hk rfl rfl hz hv<|hr O H⟩
def kX(K:zzA)(g:Fn):Sp:=λvs H Q E=>∀kd,G9 K kd g vs H Q E
end
def w9(fa fb fc:EF)(g g':D->D->Option R0):EF:=λas=>(fa as).bind λp=>(fb p.2).bind λq=>(p.1.frz.view q.2).bind λx=>(q.1.frz.view q.2).bind λy=>(g x.1 y.1).bind λr=>match r with
 | .im (.bl true)=>(fc q.2).bind λt=>(q.1.frz.view t.2).bind λy'=>(t.1.frz.view t.2).bind λz=>(g' y'.1 z.1).bind λr'=>(wrap (meet y'.2 z.2) r').bind λo=>some (o,t.2)
 | .im (.bl false)=>some (.ow<|.lf true<|.bl false,q.2)
 |_=>none
def Ht(ho:JF X kd (compareOp op) g)(va:JF X kd (compareOp i7) g')(ha:AE X kd a fa)(hb:AE X kd b fb)(hc:AE X kd c fc)(hm:lastMarks [op,i7] [b,c]=false):
 AE X kd (.Compare a [op,i7] [b,c] pos) (w9 fa fb fc g g'):=by with_unfolding_all exact(yg (HK ho va ha hb hc hm) λσ H Q h=>by
 obtain⟨F,B,ad,as,r,O,R,e,q⟩:=h;obtain⟨_,_,⟨x,U⟩,S,T,V,e⟩:=yU e;obtain⟨⟨y,W⟩,K,Y,Z,e⟩:=yu e;refine y9 R S λv M1 H1 R1 k L=>y9 R1 T λu l H2 R2 d m=>⟨_,x,y,K,R2.tr _,(yS.vw R2 (k.grow m) V).less Wx.meet1,(yS.vw R2 d Y).less Wx.meet2,Z, ?_⟩
 match K,e with
 | .im (.bl true),e=>
  obtain⟨⟨t,vi⟩,⟨y',n⟩,⟨z',s⟩,h6,h7,h8,e⟩:=yU e;obtain⟨r1,o,h9,A,e⟩:=yu e;cases e;intro w M C D;cases D;obtain⟨E,f⟩:=R2.more C;refine⟨true,rfl, ?_⟩;refine y9 E h6 λw' G H4 i I N=>⟨_,y',z',r1,i.tr _,(yS.vw i ((d.grow f).grow N) h7).less Wx.meet1,(yS.vw i I h8).less Wx.meet2,h9, ?_⟩;exact wa i A λw T' H' R' J g'=>q w T' G H' R' J<|(((L.trans m).trans f).trans N).trans g'
 | .im (.bl false),e=>
  cases e;intro w M C D;cases D;obtain⟨E,f⟩:=R2.more C;refine⟨false,rfl, ?_⟩;exact q _ [] l M E (.lf<|.bl _)<|(L.trans m).trans f)
noncomputable def Yx:List D->Option (List Bool)
 | []=>some []
 | .bl b::r=>(Yx r).bind λs=>some (b::s)
 |_::_=>none
def Lg:List D->Option R0
 | [.lst ds]=>(Yx ds).bind λbs=>some (.im<|.bl<|bs.all id)
 |_=>none
theorem KG{K O}:∀{vs:List V}{us:List Value}{ds:List D}{bs:List Bool},RpL K kd O H vs ds->zK vs us->Yx ds=some bs->LSm.BoolsAre us bs
 |_,_,_,_,.nil,.nil,e=>by cases e;exact .nil
 |_,_,_,_,.cons (d:=d) a r,.cons b t,e=>by
  cases d with
  |bl c=>
   obtain⟨s,f,g⟩:=bS_<|e;cases g;cases a;cases b;exact .cons _ (KG r t f)
  |_=>cases e
def FL{h h':Heap}(hk:∀b x,b ∉ [h.objs.size]->(h.push ob).get? b=some x->h'.get? b=some x)(b)(x)(e:h.get? b=some x):h'.get? b=some x:=by
 refine hk b x (λm=>?_)<|zxF _ e;have:=zxG e;rw[zzR.mp m]at this;exact absurd this ⋯
def F3(hc:X.calm=true):YM X kd (.builtin "all") Lg:=by
 intro g s σ H E F Q I r h;obtain⟨O,G,z,J,m,c,q⟩:=h;unfold Lg at c
 split at c
 . obtain⟨bs,n,c⟩:=bS_ c;cases c;obtain⟨x,rfl,o⟩:=wz m;cases o with
   |lst t w=>
    rename_i l K;obtain⟨u,rfl,y⟩:=vals1 r;cases y;obtain⟨a,B,p,_⟩:=I.list t.sq;have j:=KG w B n;have d:=p.isList;have f:l<s.heap.objs.size:=by obtain⟨_,e,_⟩:=d;exact zxG e
    refine call_all_walk<|wpAny_pyIter_list d ?_;refine⟨s.heap.objs.size,[s.heap.objs.size,l],[s.heap.objs.size],a.toArray.size,_,_,(λi=>(bs[i]?).getD true),rfl,Walks.list (A:=X.A.in1) (I.ok.hd hc) _ l (zzQ f) a.toArray,⟨⟨_,zxH _ rfl,rfl,rfl⟩,d.push _⟩, ?_, ?_⟩
    . intro i v L M N C k;obtain⟨b,e,rfl⟩:=j.get i v (by simpa using C);simp only[e]at k;exact wpAny_truthy_bool k
    . intro P R D;have e:((List.range a.toArray.size).all λi=>(bs[i]?).getD true)=bs.all id:=by
       rw[zzH,j.length];exact LSm.range_all bs
      rw[e];exact⟨.bl _,H,I.kept<|FL D,rfl,yc q<|.bl _⟩
 . cases c
inductive Ents(w:World):List DictEntry->List (Key×V)->Prop
 |nil:Ents w [] []
 |str {x:Str}{t:Tok}{v:V}{u:Value}{r:List DictEntry}{s:List (Key×V)}:RelV v u->Ents w r s->Ents w (⟨PyData.keyHash w.params x,.str x t,u⟩::r) ((.inr x,v)::s)
theorem Ents.keys:∀{es:List DictEntry}{kvs:List (Key×V)},Ents w es kvs->∀e ∈ es,∃k,(xy P w).is k e.key=true/\e.hash=(xy P w).hash k
 |_,_,.nil,_,m=>nomatch m
 |_,_,.str (x:=x) (t:=t) _ r,e,m=>by
  rcases zzC.mp m with rfl|m
  . exact⟨.inr x,Xl P w x t,rfl⟩
  . exact r.keys e m
theorem Ents.pairs:∀{es:List DictEntry}{kvs:List (Key×V)},Ents w es kvs->∃vs,KV kvs vs/\Pairs (xy P w) es vs/\vs.map (·.1)=kvs.map (·.1)
 |_,_,.nil=>⟨[],.nil,.nil,rfl⟩
 |_,_,.str (x:=x) (t:=t) (u:=u) h r=>by
  obtain⟨a,b,c,d⟩:=r.pairs;exact⟨(.inr x,u)::a,.cons ⟨rfl,h⟩ b,.cons (Xl P w x t) rfl c,by rw[zyR,zyR,d]⟩
structure DctAt(w:World)(K:zzA)(a:Addr)(kvs:List (Key×V)):Prop where
 ex:∃es ep,K.lookup a=some {cls:=.type "dict",data:=.dict es ep}/\Ents w es.toList kvs
 nd:(kvs.map (·.1)).Nodup
 le:kvs.length<=sizeLine
 ns:(a==sysModules)=false
noncomputable def kdL(l:List (Addr×List (Key×V)))(c:Str->Addr:=λ_=>0):KD:=⟨λa k=>l.lookup a=some k,c⟩
def lookup_mem{l:List (Addr×List (Key×V))}(h:l.lookup a=some k):(a,k) ∈ l:=by
 induction l with
 |nil=>cases h
 |cons p r b=>
  rw[List.lookup_cons]at h
  by_cases e:a=p.1
  . subst e;rw[beq_self_eq_true]at h;cases h;exact zzF
  . rw[show _=false from beq_eq_false_iff_ne.mpr e]at h;exact zzD _<|b h
def rX{K}(h:∀p ∈ l,DctAt w K p.1 p.2):qE P w K (kdL l c):=λX n o r=>by
 subst o;subst r;refine⟨λa k v b d=>zzY<|b.symm.trans d,λa k b=>?_,λa k y b f=>?_⟩
 . obtain⟨g,i,e,_⟩:=(h _<|lookup_mem b).ex;exact⟨_,e⟩
 . have q:=h _<|lookup_mem b;obtain⟨g,i,e,j⟩:=q.ex;obtain⟨s,d,t,u⟩:=j.pairs;refine⟨q.le,q.ns,s,d,_,g,i,f _ _ e,⟨rfl,rfl,rfl⟩,rfl,λx m=>j.keys x (by simpa using m),t,by rw[u];exact q.nd⟩
section
variable{K:zzA}{kd:KD}{mg:Str->Option Value}
theorem GC.dct(h:mg x=some (.ref a))(hk:kd a kvs)(hr:∀O H,RpM K kd O H kvs ds):GC K kd mg x (.dct ds):=⟨.ref a,_,h,rfl,λO H=>.dctK hk<|hr O H⟩
end
noncomputable def isStar:Expr->Bool
 | .Starred .. => true
 |_=>false
def yo(h:isStar a=false):starEach (a::es) env=(false,eval a env)::starEach es env:=by
 cases a<;>first|rfl|cases h
def BF(hk:AE X kd k fk)(hv:AE X kd v fv)(hr:DW X pos ks vs trs):DW X pos (some k::ks) (v::vs) ((al X.K kd fk,al X.K kd fv)::trs):=by with_unfolding_all exact(Hh hk hv hr)
def Zf{lo hi}(ha:WD a as true y)(hl:fl as=some (lo,as))(hh:fh as=some (hi,as))(hg:g y lo hi=some (.im x)):WD (wV a fl fh g) as true x:=by
 have:=CT ha hl hh hg;rwa [zyC]at this
def gq:zU (.tup (x::ds)) (.int 0)=some (.im x):=by
 show D9 _=_;rw[show 0=((0:Nat):Int)from rfl,Yu rfl];rfl
def V8(h1:g w vf=some U')(h2:WT tt U' false)(h3:xo g tt fe vf r=o):xo g tt fe vf (w::r)=o:=by
 show(g w vf).bind _=_;rw[h1];show(tt U').bind _=_
 rwa [h2]
def Tq{os}(h1:g w vf=some U')(h2:WT tt U' true)(h3:WD fe U' true x)(h4:xo g tt fe vf r=some os):xo g tt fe vf (w::r)=some (.lf true x::os):=by
 show(g w vf).bind _=_;rw[h1];show(tt U').bind _=_;rw[h2];show(fe U').bind _=_;rw[h3];rw[h4];rfl
def WE(f:EF)(as:AS)(x:D):Prop:=∃o,f as=some (.ow o,as)/\o.str=true/\o.toD=x
def RE(r:Option O)(x:D):Prop:=∃o,r=some o/\o.str=true/\o.toD=x
def WD.e(h:WD f as true x):WE f as x:=⟨_,h,rfl,rfl⟩
def zZ{os}(h:WO fr as os)(hl:os.length<=sizeLine)(hs:O.strs os=true)(e:D.lst (O.toDs os)=x):WE (yx fr) as x:=⟨_,vB h hl,hs,e⟩
def yX(h:WE a as x)(hr:WA fr as rs):WA (aC a fr) as ((true,x)::rs):=by
 obtain⟨o,b,c,rfl⟩:=h;have:=Uv b hr
 rwa [c]at this
def UC(ha:WE a as x)(hg:RE (g [(true,x)]) z):WE (zf (aC a aN) g) as z:=by
 obtain⟨o,b,c,d⟩:=hg;exact⟨o,YH (yX ha zq) (by show g [(zB x||true,x)]=_;rwa [zyC]),c,d⟩
def vE(ha:WE a as x)(hb:WE b as y)(hg:RE (g [(true,x),(true,y)]) z):WE (zf (aC a<|aC b aN) g) as z:=by
 obtain⟨o,c,d,e⟩:=hg;exact⟨o,YH (yX ha<|yX hb zq) (by show g [(zB x||true,x),(zB y||true,y)]=_;rwa [zyC,zyC]),d,e⟩
def Zt(ha:WE a as x)(hb:WE b as y)(hc:WE c as w)(hg:RE (g [(true,x),(true,y),(true,w)]) z):WE (zf (aC a<|aC b<|aC c aN) g) as z:=by
 obtain⟨o,d,e,f⟩:=hg;exact⟨o,YH (yX ha<|yX hb<|yX hc zq) (by show g [(zB x||true,x),(zB y||true,y),(zB w||true,w)]=_;rwa [zyC,zyC,zyC]),e,f⟩
def vA(ha:WE a as x)(hg:g [(true,x)]=some (.lf s z)):WD (zf (aC a aN) g) as s z:=YH (yX ha zq) (by show g [(zB x||true,x)]=_;rwa [zyC])
def yt(ha:WE a as x)(hb:WE b as y)(hg:g [(true,x),(true,y)]=some (.lf s z)):WD (zf (aC a<|aC b aN) g) as s z:=YH (yX ha<|yX hb zq) (by show g [(zB x||true,x),(zB y||true,y)]=_;rwa [zyC,zyC])
def VZ(ha:WE a as x)(hb:WE b as y)(hc:WE c as w)(hg:g [(true,x),(true,y),(true,w)]=some (.lf s z)):WD (zf (aC a<|aC b<|aC c aN) g) as s z:=YH (yX ha<|yX hb<|yX hc zq) (by show g [(zB x||true,x),(zB y||true,y),(zB w||true,w)]=_;rwa [zyC,zyC,zyC])
def Zu(ha:WE a as x)(hb:WE b as y)(hg:g x y=some (.im z)):WD (f2 a b g) as true z:=by
 obtain⟨o,c,d,rfl⟩:=ha;obtain⟨p,e,f,rfl⟩:=hb;have:=m_ c e hg
 rwa [d,f,Bool.and_true,zyC]at this
def gP(ha:WE a as x)(hb:WE b as y)(hg:g x y=some (.fl zs)):f2 a b g as=some (.ow<|.nd .ls<|zs.map<|O.lf true,as):=by
 obtain⟨o,c,d,rfl⟩:=ha;obtain⟨p,e,f,rfl⟩:=hb;exact Ak c e hg d f
theorem v8:∀zs:List D,O.strs (zs.map<|O.lf true)=true
 | []=>rfl
 |_::r=>v8 r
theorem Zs:∀zs,O.toDs (zs.map<|O.lf true)=zs
 | []=>rfl
 |z::r=>congrArg _<|Zs r
def GZ(ha:WE a as x)(hb:WE b as y)(hg:g x y=some (.fl zs)):WE (f2 a b g) as (.lst zs):=⟨_,gP ha hb hg,v8 zs,congrArg D.lst<|Zs zs⟩
def yZ(h:WE f as x)(hi:p<as.length):zm true p f as=some (.nx<|as.set p<|some<|.lf true x):=by
 obtain⟨o,a,b,rfl⟩:=h;have:=AB a hi
 rwa [show o.frz = .lf true o.toD by unfold O.frz;rw[b]]at this
def xU(ha:WE a as x)(hb:WE b as y)(h:wb 60 x y=some q):WD (f2 a b<|zj .Eq) as true (.bl q):=Zu ha hb (by show(wb 60 x y).bind _=_;rw[h];rfl)
def wm(ha:WE a as x)(hb:WE b as y)(h:wb 60 x y=some q):WD (f2 a b<|zj .NotEq) as true (.bl<|!q):=Zu ha hb (by show(wb 60 x y).bind _=_;rw[h];rfl)
def xr(ha:WE a as x)(hg:g [x]=some (.im z)):WD (fP (aC a aN) g) as true z:=CA (yX ha zq) hg rfl
def Gm{os}(ha:a as=some (.ow o,as))(hr:WO fr as os):WO (dC a fr) as (o::os):=Zw ha hr
def rS{os}(h:WO fr as os)(hl:os.length<=sizeLine):yC fr as=some (.ow<|Xh os,as):=by
 unfold yC;rw[h];show(if os.length<=sizeLine then some _ else _)=_;rw[if_pos hl]
def wA{lo hi}(ha:WE a as y)(hl:fl as=some (lo,as))(hh:fh as=some (hi,as))(hg:g y lo hi=some (.fl zs)):WE (wV a fl fh g) as (.lst zs):=by
 obtain⟨o,b,c,rfl⟩:=ha;refine⟨.nd .ls _, ?_,v8 zs,congrArg D.lst<|Zs zs⟩;unfold wV;rw[b];show((fl as).bind _)=_;rw[hl];show((fh as).bind _)=_;rw[hh];show((g o.toD lo hi).bind _)=_;rw[hg];show(if _=true then some (RV.ow<|.nd .ls<|zs.map<|Ee<|(some o.str).getD false)else none:Option RV).bind _=_;rw[if_pos ⋯,c];show some (RV.ow<|.nd .ls<|zs.map<|Ee true,as)=_;rw[ZP]
def Z_:Yq (.lst<|xs++ys) (some (xs.length:Int)) none=some (.fl ys):=by
 show some _=_
 congr 2
 unfold cutD;rw[HT.EC,HT.KN,zzJ,Nat.min_eq_left ⋯,List.drop_left,List.take_of_length_le ⋯]
theorem Ri:∀ds,kids true ds=ds.map λd=>(true,d)
 | []=>rfl
 |d::r=>by show(zB d||true,d)::kids true r=_;rw[Ri r,zyC];rfl
def DZ(h:WE f as (.lst ds)):x6 f as=some (ds.map λd=>(true,d),as):=by
 obtain⟨o,a,b,c⟩:=h;unfold x6;rw[a];show(EL _).bind _=_;rw[b,c];show some _=_;rw[Ri]
def D8(h:WD f as true (.lst ds)):Pe f as=some (ds.map λd=>(true,d),as):=by
 unfold Pe;rw[h];show some (kids true ds,as)=_;rw[Ri]
noncomputable def Ru:List D->Option (List Str)
 | []=>some []
 | .str x::r=>(Ru r).bind λs=>some (x::s)
 |_::_=>none
def J8{K O}(h:RpL K kd O H vs ds)(hv:zK vs us)(e:Ru ds=some ns):StrsAre us ns:=
 RpL.ind (P:=λvs ds=>∀us ns,zK vs us->Ru ds=some ns->StrsAre us ns) (λus ns hv e=>by cases e;cases hv;exact .nil) (λ{v d vs ds} a _ ih us ns hv e=>by
  cases hv with
  |cons b t=>
   cases a with
   |str x=>
    obtain⟨ys,h1,h2⟩:=bS_<|e;cases h2;obtain⟨tk,rfl⟩:=b;exact .cons _ _ (ih _ _ t h1)
   |_=>cases e) h us ns hv e
def wL:D->List D->Option R0
 | .str sep,[.lst ds]=>(Ru ds).bind λys=>if(ys.map (·.length)).sum+ys.length*sep.length<=16777216 then some (.im<|.str<|Txt.join sep ys)else none
 |_,_=>none
noncomputable def xB:D->List D->Option R0
 | .str x,[.str y]=>if(y.length==0)=false/\x.length<=sizeLine/\(Builtin.Str.partsBetween x (Builtin.Str.occurrences x y 0 x.length<|x.length+1) y.length).length<=sizeLine then some (.fl<|(Txt.split x y).map .str)else none
 |_,_=>none
def Q5:ud X kd "str.join" wL:=by
 intro b s σ H x B v C Q I c r h;obtain⟨O,d,D,E,F,e,f,a,q⟩:=h;unfold wL at a
 split at a
 . rename_i g G;obtain⟨J,i,a⟩:=bS_ a;obtain⟨j,a⟩:=zv a;cases a;cases e;obtain⟨t,rfl⟩:=c;obtain⟨y,rfl,l⟩:=wz f;cases l with
   |lst m n=>
    obtain⟨u,rfl,o⟩:=vals1 r;cases o;obtain⟨p,w,z,_⟩:=I.list m.sq;exact join_list z.isList (J8 n ⋯ i) j λA k=>⟨.str _,H,I.tok _,⟨A,rfl⟩,yc q<|.str _⟩
 . cases a
theorem VQ:∀{l:List (Str×Tok)}{ys:List Str},l.map (·.1)=ys->zK (ys.map V.str) (strValues l)
 | [],_,e=>by cases e;exact .nil
 |(x,t)::r,_,e=>by cases e;exact .cons ⟨t,rfl⟩<|VQ rfl
theorem UP{K O}:∀ys:List Str,RpL K kd O H (ys.map V.str)<|ys.map D.str
 | []=>.nil
 |y::r=>.cons (.str y)<|UP r
def Ut:ud X kd "str.split" xB:=by
 intro a s σ H x D v E Q I k r h;obtain⟨O,d,G,J,K,m,n,f,q⟩:=h;unfold xB at f
 split at f
 . rename_i x y;obtain⟨⟨g,p,z⟩,f⟩:=zv f;cases f;cases m;obtain⟨t,rfl⟩:=k;obtain⟨L,rfl,A⟩:=wz n;cases A;obtain⟨M,rfl,B⟩:=vals1 r;obtain⟨u,rfl⟩:=B;have c:∀l i,l.map (·.1)=Txt.split x y->l.length<=sizeLine->EP X a σ Q _ {s with heap:=s.heap.push {cls:=.type "list",data:=.seq (strValues l).toArray},toks:=i}:=λl i j C=>by
    refine⟨.ref s.heap.objs.size,_,I.laid (λb o e=>zxF _ e) (zzN _) (show xJ X.prog X.w _ _ _ (.lst _)from⟨by rw[<-j];simpa using C,strValues l,0,VQ j,zxH _ rfl⟩),rfl,Wn q (UP _) _<|I.hok.fresh<|zzN _⟩
   cases h1:(decide (x.length<y.length)||decide (Builtin.Str.strKind x<Builtin.Str.strKind y))
   . cases hf:(Builtin.Str.occurrences x y 0 x.length _).isEmpty
     . refine call_meets PySem.F.slot_str_split (typeIs_str _ _ _) PySem.F.entry_str_split (PySem.F.args_str_split_2 _ _) (meets_str_split_sep x y t u h1 g hf p z) ?_;rw[strsFrom_eq];exact c _ _ ((numbered_texts _ _).trans ((if_neg<|ne_true_of_eq_false h1).trans<|if_neg<|ne_true_of_eq_false hf).symm) (by have:=congrArg List.length<|numbered_texts s.toks<|Builtin.Str.partsBetween x (Builtin.Str.occurrences x y 0 x.length<|x.length+1) y.length;rw[zzB]at this;omega)
     . exact call_meets PySem.F.slot_str_split (typeIs_str _ _ _) PySem.F.entry_str_split (PySem.F.args_str_split_2 _ _) (meets_str_split_not_found x y t u h1 g hf)<|c [(x,t)] s.toks ((if_neg<|ne_true_of_eq_false h1).trans<|if_pos hf).symm (by show 1<=sizeLine;decide)
   . exact call_meets PySem.F.slot_str_split (typeIs_str _ _ _) PySem.F.entry_str_split (PySem.F.args_str_split_2 _ _) (meets_str_split_cannot_occur x y t u h1)<|c [(x,t)] s.toks (if_pos h1).symm (by show 1<=sizeLine;decide)
 . cases f
def X5:List D->Option R0
 | [.str x]=>some (.im<|.str x)
 |ds=>tR ds
def jm:D->Option R0
 | .str x=>if x.length<=640 then(PySem.intText? x).bind λn=>some (.im<|.int n)else none
 |d=>kS d
def Xp:List D->Option R0:=lq jm
def NL:YM X kd (.type "str") X5:=by
 intro a s σ H i d Q I r h;obtain⟨O,j,z,e,c,b,q⟩:=h;unfold X5 at b
 split at b
 . cases b;obtain⟨x,rfl,f⟩:=wz c;cases f;obtain⟨u,rfl,g⟩:=vals1 r;obtain⟨t,rfl⟩:=g;exact PySem.P.str_of_str ⟨.str _,H,I,⟨t,rfl⟩,yc q<|.str _⟩
 . exact Bc a s σ H _ d Q I r ⟨O,_,z,e,c,b,q⟩
def MD:YM X kd (.type "int") Xp:=by
 intro c s σ H m e Q I r h;obtain⟨O,o,z,p,f,a,q⟩:=h;obtain⟨x,d,rfl,g,a⟩:=NS f a;cases g with
 |str y=>
  obtain⟨j,a⟩:=ite_some' a;obtain⟨n,k,a⟩:=bS_ a;cases a;obtain⟨u,rfl,l⟩:=vals1 r;obtain⟨t,rfl⟩:=l;exact PySem.W.KIN.call_text k j ⟨.int _,H,I.tok _,⟨_,rfl⟩,yc q<|.int _⟩
 |int i=>cases a;exact Pz c s σ H _ e Q I r (.inl ⟨_,rfl,yc q<|.int _⟩)
 |bl b=>cases a;exact Pz c s σ H _ e Q I r (.inr ⟨_,rfl,yc q<|.int _⟩)
 |_=>cases a
def Ko{t':Nat}{ch:List Addr}(I:Inv X Z' σ H s)(hf:∀b ∈ ch,QV X Z' H b)(k:∀b u,b ∉ ch->s.heap.get? b=some u->h'.get? b=some u)(hp:s.heap.objs.size<=T)
 (new:xJ X.prog X.w (upd H T o) h' T o):Inv X Z' σ (upd H T o) {s with heap:=h',toks:=t'}:=by
 have hn:=I.hok.fresh hp;have nT:∀b u,s.heap.get? b=some u->b≠T:=λb u e z=>absurd (zzK (zxG e)<|by rwa [z])<|Nat.lt_irrefl _;have nc:∀b u,H b=some u->b ∉ ch:=λb u e z=>by have:=(hf b z).1;rw[e]at this;cases this
 refine I.step (g':=s.gens) (d':=s.drawn) (λb hb=>?_) (λb o _ _ hc e _=>k b o hc e) (λb o _ _ hc e _=>⟨o.slots,k b o hc e⟩) (λb o _ e n=>by rwa [zu<|nT b o e])
  (λb o hc e=>⟨o,k b o hc e⟩) (λb xs e=>by rwa [zu<|zO e hn]) (λb o u e=>by rwa [zu<|zO e hn]) (λb ps e=>⟨#[],by rw[zu<|zO e hn,e];simp⟩) (λm hm=>?_) (λb u e=>?_) I.bare
 . obtain⟨f0,f1,f2,f3,f4,f5⟩:=hf b hb;exact⟨f3,f1,f4,f5⟩
 . obtain⟨o,es,ep,ho,r⟩:=hm;exact⟨o,es,ep,k _ o (λz=>(hf _ z).2.1 rfl) ho,r⟩
 . by_cases hb:b=T
   . subst hb;rw[zF]at e;cases e;exact new
   . rw[zu hb]at e;refine(I.hok b u e).stay (λc v hc q=>k c v ?_ q) (λc q=>by rwa [zu<|zO q hn]) λc xs q=>by rwa [zu<|zO q hn]
     rcases hc with z|z
     . rw[z];exact nc b u e
     . exact nc c _ z
def kN(K:zzA)(a:Addr):It:=
 ⟨λi H=>∃xs x,VJ K H a xs/\xs[i]? = some x,λi H v H'=>∃T x,H T=none/\v = .ref T/\H'=upd H T (.tup [.int i,x])/\∀xs,VJ K H a xs->xs[i]? = some x,λi H=>∃xs,VJ K H a xs/\xs.length<=i⟩
def Bp{K}{k:Nat}(a e it)(hei:e≠it):Turn P w K (.Tuple elts k pos) (kN K a) [e,it] e (λi h=>(∃old,IsEnum h e it i old)/\h.IsListIter it a i)where
 mem:=by simp
 obj:=λi h st b hb=>by
  obtain⟨⟨old,he⟩,⟨o,e1,c,d⟩⟩:=st
  rcases zzC.mp hb with rfl|hb
  . exact⟨_,he,λv z=>by cases z⟩
  . rw[zzR.mp hb];exact⟨o,e1,λv z=>by rw[d]at z;cases z⟩
 keep:=λi h h' st kk=>⟨st.1.imp λold he=>kk e (by simp) _ he,st.2.at λo q=>kk it (by simp) o q⟩
 item:=by
  intro X hP hw hK hc i Z' s σ H E I hf st hg;subst hP hw hK;obtain⟨xs,x,hq,hx⟩:=hg;obtain⟨zM,rv,p,hz⟩:=I.list hq;obtain⟨u,hu,ru⟩:=rv.get hx;have hil:i<zM.toArray.size:=by have:=(zzG.mp hu).1;simpa using this
  obtain⟨ol,hol,l8,_⟩:=p.isList;have hae:a≠e:=λz=>by
   obtain⟨⟨old,he⟩,_⟩:=st;rw[z]at hol;rw[show s.heap.get? e=_ from he]at hol;cases hol;injection l8 with q;exact absurd q (by decide)
  have hai:a≠it:=λz=>by
   obtain⟨_,⟨o,e1,c,d⟩⟩:=st;rw[z,e1]at hol;cases hol;rw[c]at l8;injection l8 with q;exact absurd q (by decide)
  have W:=WalksT.enumerate (prog:=X.prog) (w:=X.w) (I.ok.hd hc) e it a hei hae hai zM.toArray;refine W.item i s _ _ hil ⟨st.1,st.2,p.isList⟩ λT vals h1 tk hP hT hTup hMid kk=>?_;obtain⟨t,v,hv,rfl⟩:=hP;have:v=u:=by rw[show zM.toArray[i]? = zM[i]? by simp,hu]at hv;cases hv;rfl
  subst this;refine⟨_,rfl,W.go elts k pos i T {s with heap:=h1,toks:=tk} _ _ hMid λh2 hSt kk2=>?_⟩;have hn:=I.hok.fresh hT;have hTw:=W.apart i T h1 hMid;have k2:=λb o hb q=>kk2 b o hb<|kk b o hb q;have hT2:IsTup h2 T #[.int i t,v]:=by
   obtain⟨o,q1,q2⟩:=hTup;exact⟨o,kk2 T o hTw q1,q2⟩
  refine⟨.ref T,upd H T<|.tup [.int i,x],Ko (s:=s) (t':=tk) I hf k2 hT ⟨by show 2<=sizeLine;decide,[.int i t,v],.cons ⟨t,rfl⟩<|.cons ru .nil,hT2⟩,rfl,⟨T,x,hn,rfl,rfl,λys hy=>by rwa [I.list_inj hy hq]⟩,⟨hSt.1,hSt.2.1⟩,λb hb=>?_⟩;have hbT:b≠T:=λz=>hTw (by rwa [<-z]);rw[zu hbT];exact(hf b hb).1
 done:=by
  intro X hP hw hK hc i Z' s σ H E I hf st hg;subst hP hw hK;obtain⟨xs,hq,hx⟩:=hg;obtain⟨zM,rv,p,hz⟩:=I.list hq;have hl:=rv.length;obtain⟨⟨old,he⟩,hit⟩:=st;obtain⟨f0,f1,f2,f3,f4,f5⟩:=hf it (by simp);exact wpAny_pyNext_enum_end (I.ok.hd hc) he hit p.isList (by simp;omega) λh' eb=>⟨rfl,I.turned (t':=s.toks) ⋯ f0 f1 f3 f4 f5⟩
 self:=λ_ _ _ _ _ st h=>by
  obtain⟨⟨old,he⟩,_⟩:=st;exact wpAny_pyIter_enum he h
def uK(K:zzA)(ta:TA):TI:=λσ H R=>ta σ H λvs H1=>∃a,vs=[.ref a]/\(∃xs,VJ K H1 a xs)/\R (kN K a) H1
def II{p pos pos'}{k:Nat}(hg:Gl X "enumerate")(hm:X.mg "enumerate"=none)(ha:PA X [l] ta)(hs:starEach [l] X.env=[(false,eval l X.env)]):
 PI X (.Tuple elts k pos') (.Call (.Name "enumerate" p) [l] [] pos) (uK X.K ta):=by
 intro Z' s σ H R I h;refine Call_<|YI I hg hm boot_enumerate<|PyProof.Rows.callWith_type1 (yV (ha pos Z' s σ H _ I h) λus s1 ⟨vs,H1,I1,r1,q1⟩=>?_) hs rfl;obtain⟨a,rfl,⟨xs,hq⟩,q⟩:=q1;cases r1 with
 |cons r rr=>
  cases rr;cases r;obtain⟨zM,rv,pl,hz⟩:=I1.list hq;refine call_enumerate_list pl.isList λh' he hit hsz hk=>?_;refine wpAny_pyIter_enum he ⟨s1.heap.objs.size+1,[s1.heap.objs.size+1,s1.heap.objs.size],_,_,H1,rfl,I1.kept (t':=s1.toks) hk,Bp a _ _ ⋯,⟨⟨_,he⟩,hit⟩,λb hb=>?_,q⟩;have kC:s1.heap.objs.size<=b:=by
   rcases zzC.mp hb with rfl|hb
   . exact zyV _
   . rw[zzR.mp hb];exact zzN _
  exact I1.fpOk kC<|I1.hok.fresh kC
noncomputable def wK(st:Bool):Nat->List D->List Xs
 |_,[]=>[]
 |i,d::r=>(st,.tup [.int i,d])::wK st (i+1) r
theorem Tj(st):∀i ds,(wK st i ds).length=ds.length
 |_,[]=>rfl
 |i,_::r=>congrArg _<|Tj st _ r
theorem Po{st}:∀{j:Nat}{ds:List D}{i:Nat}{y:Xs},(wK st j ds)[i]? = some y->∃d,ds[i]? = some d/\y=(st,.tup [.int ((j+i:Nat):Int),d])
 |_,[],_,_,h=>by simp[wK]at h
 |j,d::r,0,y,h=>by
  cases h;exact⟨d,rfl,rfl⟩
 |j,d::r,i+1,y,h=>by
  simp only[wK]at h;obtain⟨d',h1,h2⟩:=Po h;exact⟨d',⋯,by rw[h2,show j+1+i=j+(i+1) by omega]⟩
def ET{K ad st}(hs:∀vn H3,Grow (Gw [] ad) H (Gw [] vn) H3->VJ K H3 a vs)(r:RpL K kd (Lv F B (Gw [] ad) st) H vs ds):ItOk K kd F B ad H (kN K a) (wK st 0 ds):=⟨λvn H3 g3 tr i=>by
 have hr3:=hs vn H3 g3;have rl3:=RpL.grow g3 r;have hlen:=Tj st 0 ds;refine⟨λhi=>?_,λhi=>⟨_,hr3,by rw[r.length];omega⟩,λv H4 hy=>?_⟩
 . obtain⟨u,hu,_⟩:=r.get (zzE<|by rwa [<-hlen]);exact⟨_,u,hr3,hu⟩
 . obtain⟨T,x,hn,rfl,rfl,hv⟩:=hy;refine⟨Vl hn,λy hy=>?_⟩;obtain⟨d,hd,rfl⟩:=Po hy;obtain⟨u,hu,ru⟩:=rl3.get hd;have:=hv _ hr3;rw[hu]at this;cases this;rw[Nat.zero_add];exact .tup (λz=>tr _ _ z hn) (.inl zF)<|.cons (.int _)<|.cons (Rp.grow ⟨λb o q _=>Vl hn b o q,λb z=>.inl z⟩ ru) .nil⟩
def Sy(f:EF):IF:=λas=>(f as).bind λp=>(Wp p.2 p.1).bind λq=>match q.1 with
 |(st,.lst ds)=>some (wK st 0 ds,q.2)
 |_=>none
def Am{p pos pos' elts}{k:Nat}(hg:Gl X "enumerate")(hm:X.mg "enumerate"=none)(he:AE X kd e fa)(hs:starEach [e] X.env=[(false,eval e X.env)]):
 AI X kd (.Tuple elts k pos') (.Call (.Name "enumerate" p) [e] [] pos) (Sy fa):=by
 with_unfolding_all (
 intro Z' s σ H R I h;obtain⟨F,B,ad,as,ds,S',Rl,e',q⟩:=h;obtain⟨⟨p,U'⟩,⟨⟨st,x⟩,J'⟩,h1,h2,e'⟩:=yu e'
 match x,e',h2 with
 | .lst xs,e',h2=>
  cases e';refine II hg hm (yj he Zn hs) hs Z' s σ H R I<|⟨F,B,ad,as,p,U',Rl,h1,λv T1 M1 H1 R1 Co g1=>?_⟩;obtain⟨CI,R2,rp,le⟩:=Yb R1 Co h2;cases rp with
  |lst hn hr rl=>exact⟨_,rfl,⟨_,.inl hr⟩,q _ CI H1 R2 (g1.trans<|Grow.less le)<|ET (λvn H3 g3=>.inl<|XU g3 (λz=>hn<|.inr z) hr) rl⟩
  |lstK a b c rl=>exact⟨_,rfl,⟨_,.inr ⟨_,_,_,a,rfl,rfl,rfl,b,c⟩⟩,q _ CI H1 R2 (g1.trans<|Grow.less le)<|ET (λvn H3 g3=>.inr ⟨_,_,_,a,rfl,rfl,rfl,b,c⟩) rl⟩)
noncomputable def jf(K:zzA)(a:Addr)(n:Nat):It:=
 ⟨λi H=>i<n/\∃xs,VJ K H a xs/\xs.length=n,λi H v H'=>H'=H/\∀xs,VJ K H a xs->xs[n-1-i]? = some v,λi _=>n<=i⟩
def Su{K}(a it)(n:Nat):Turn P w K tg (jf K a n) [it] it (λi h=>i<=n/\h.IsRevIter it a ((n:Int)-1-i))where
 mem:=by simp
 obj:=λi h g b l=>by
  have e:b=it:=by simpa using l
  subst e;obtain⟨_,o,e,c,d⟩:=g;exact⟨o,e,λv z=>by rw[d]at z;cases z⟩
 keep:=λi h q g k=>⟨g.1,g.2.at λo e=>k it (by simp) o e⟩
 item:=by
  intro X t y A L i j s σ H E I r g B;subst t y A;obtain⟨Q,M,N,hl⟩:=B;obtain⟨R,S,p,hz⟩:=I.list N;have O:M[n-1-i]? = some (M[n-1-i]'(by omega)):=zzE _;obtain⟨u,T,U⟩:=S.get O;obtain⟨C,f1,f2,D,F,G⟩:=r it (by simp);obtain⟨J,f⟩:=g;rw[show n-1-i=((n-1-i:Nat):Int) by omega]at f;refine wpAny_pyNext_rev_item f p.isList (by simpa using T) λq m V=>?_;have Y:=I.turned (t':=s.toks) (λb o l e=>(V.2 b l).trans e) C f1 D F G;obtain⟨o,e,c,d⟩:=id m;refine⟨u,rfl,EK e c d (by decide) ⟨_,H,Y,U,⟨rfl,λys Z=>by rwa [I.list_inj Z N]⟩,⟨Q, ?_⟩,λb l=>(r b l).1⟩⟩
  rwa [show n-1-_=((n-1-i:Nat):Int)-1 by omega]
 done:=by
  intro X t y A L i j s σ H E I r g B;subst t y A;obtain⟨J,f⟩:=g;obtain⟨C,f1,f2,D,F,G⟩:=r it (by simp);rw[show(n:Int)-1-i = -1 by have:n<=i:=B;omega]at f;exact wpAny_pyNext_rev_end (I.ok.hd L) f λq eb=>⟨rfl,I.turned (t':=s.toks) ⋯ C f1 D F G⟩
 self:=λ_ _ _ _ _ g h=>wpAny_pyIter_revIter g.2 h
def qL(K:zzA)(ta:TA):TI:=λσ H R=>ta σ H λvs H1=>∃a xs,vs=[.ref a]/\VJ K H1 a xs/\R (jf K a xs.length) H1
def uc{ta}(hg:Gl X "reversed")(hm:X.mg "reversed"=none)(ha:PA X [l] ta)(hs:starEach [l] X.env=[(false,eval l X.env)]):
 PI X tg (.Call (.Name "reversed" p) [l] [] pos) (qL X.K ta):=by
 intro g s σ H R I h;refine Call_<|YI I hg hm boot_reversed<|PyProof.Rows.callWith_type1 (yV (ha pos g s σ H _ I h) λz f ⟨A,k,i,m,n⟩=>?_) hs rfl;obtain⟨a,j,rfl,t,q⟩:=n;cases m with
 |cons r u=>
  cases u;cases r;obtain⟨c,v,w,B⟩:=i.list t;have x:=v.length;refine call_reversed_list w.isList ?_;have d:Heap.IsRevIter (f.heap.push<|revObj a _) f.heap.objs.size a (c.toArray.size-1):=⟨_,zxH _ rfl,rfl,rfl⟩;refine wpAny_pyIter_revIter d ⟨f.heap.objs.size,[f.heap.objs.size],_,_,k,rfl,i.kept (t':=f.toks) λb o e=>zxF _ e,Su a _ j.length,⟨Nat.zero_le _, ?_⟩,λb y=>?_,q⟩
  . rwa [show j.length-1-(_:Int)=c.toArray.size-1 by rw[x];simp]
  . rw[zzR.mp y];exact i.fpOk (zzN _)<|i.hok.fresh<|zzN _
def Sq{K ad st}(hs:∀vn H3,Grow (Gw [] ad) H (Gw [] vn) H3->VJ K H3 a vs)(r:RpL K kd (Lv F B (Gw [] ad) st) H vs ds):ItOk K kd F B ad H (jf K a vs.length) (kids st ds.reverse):=⟨λc j k p i=>by
 have d:=hs c j k;have f:=(XH r).grow k;have l:=r.length;have e:(kids st ds.reverse).length=ds.length:=by unfold kids;simp
 refine⟨λg=>⟨⋯,_,d,rfl⟩,λg=>by show vs.length<=i;omega,λv q b=>?_⟩;obtain⟨rfl,m⟩:=b;refine⟨λ_ _ z=>z,λy b=>?_⟩;have g:i<ds.length:=by rw[<-e];exact(zzG.mp b).1
 have h:(kids st ds)[vs.length-1-i]? = some y:=by
  unfold kids at b ⊢;rw[zzI]at b ⊢;rw[List.getElem?_reverse g]at b
  rwa [l]
 obtain⟨u,n,o⟩:=f.get h;have:=m _ d;rw[n]at this;cases this;exact o⟩
def AY(f:EF):IF:=λas=>(f as).bind λp=>(Wp p.2 p.1).bind λq=>match q.1 with
 |(st,.lst ds)=>some (kids st ds.reverse,q.2)
 |_=>none
def si{p pos}(hg:Gl X "reversed")(hm:X.mg "reversed"=none)(he:AE X kd e fa)(hs:starEach [e] X.env=[(false,eval e X.env)]):
 AI X kd tg (.Call (.Name "reversed" p) [e] [] pos) (AY fa):=by
 with_unfolding_all (
 intro Z' s σ H R I h;obtain⟨F,B,ad,as,ds,S',Rl,e',q⟩:=h;obtain⟨⟨p,U'⟩,⟨⟨st,x⟩,J'⟩,h1,h2,e'⟩:=yu e'
 match x,e',h2 with
 | .lst xs,e',h2=>
  cases e';refine uc hg hm (yj he Zn hs) hs Z' s σ H R I<|⟨F,B,ad,as,p,U',Rl,h1,λv T1 M1 H1 R1 Co g1=>?_⟩;obtain⟨CI,R2,rp,le⟩:=Yb R1 Co h2;cases rp with
  |lst hn hr rl=>exact⟨_,_,rfl,.inl hr,q _ CI H1 R2 (g1.trans<|Grow.less le)<|Sq (λvn H3 g3=>.inl<|XU g3 (λz=>hn<|.inr z) hr) rl⟩
  |lstK a b c rl=>exact⟨_,_,rfl,.inr ⟨_,_,_,a,rfl,rfl,rfl,b,c⟩,q _ CI H1 R2 (g1.trans<|Grow.less le)<|Sq (λvn H3 g3=>.inr ⟨_,_,_,a,rfl,rfl,rfl,b,c⟩) rl⟩)
noncomputable def kB(x:Str):It:=⟨λi _=>i<x.cps.size,λi H v H'=>H'=H/\∃c,x.cps[i]? = some c/\v = .str ⟨#[c]⟩,λi _=>x.cps.size<=i⟩
def LF{K}(it)(x)(t)(ty)(hty : ["enumerate","zip","dict_itemiterator","dict_reverseitemiterator","odict_iterator","itertools.zip_longest","itertools.pairwise"].contains ty=false)
 (hW:∀A,A.handled=none->Walks P w A it [it] [it] x.cps.size (SignAt x) (λi h=>h.IsStrIter it ty x t i))
 (hS:∀A i s Q E,s.heap.IsStrIter it ty x t i->Q (.ref it) s->wpAny (model P w) A (pyIter<|.ref it) Q E s):Turn P w K tg (kB x) [it] it (λi h=>i<=x.cps.size/\h.IsStrIter it ty x t i)where
 mem:=⋯
 obj:=λi h a b g=>by
  have e:b=it:=by simpa using g
  subst e;obtain⟨_,o,e,c,d⟩:=a;exact⟨o,e,λv z=>by rw[d]at z;cases z⟩
 keep:=λi h m a k=>⟨a.1,let⟨o,e,r⟩:=a.2;⟨o,k it ⋯ o e,r⟩⟩
 item:=by
  intro X q y B C i f s σ H E I n a p;subst q y B;obtain⟨D,f1,f2,F,G,J⟩:=n it ⋯;refine(hW X.A<|I.ok.hd C).item i s _ _ p a.2 λv m L R l M=>?_;obtain⟨c,u,N,rfl⟩:=R;have S:Inv X f σ H {s with heap:=m,toks:=L}:=I.turned (λb o g e=>M b o (by simpa using g) e) D f1 F G J;obtain⟨o,e,cl,d⟩:=id l;exact⟨_,rfl,EK e cl d hty ⟨.str _,H,S,⟨u,rfl⟩,⟨rfl,c,N,rfl⟩,⟨p,l⟩,λb g=>(n b g).1⟩⟩
 done:=by
  intro X q y B C i f s σ H E I n a p;subst q y B;obtain⟨D,f1,f2,F,G,J⟩:=n it ⋯;obtain⟨O,j⟩:=a;have:=Nat.le_antisymm O p;subst this;exact(hW X.A<|I.ok.hd C).done s _ _ j λm L M=>⟨rfl,I.turned (λb o g e=>M b o (by simpa using g) e) D f1 F G J⟩
 self:=λA i s Q E a h=>by
  obtain⟨_,j⟩:=a;exact hS A i s Q E j h
def qV(te:TE):TI:=λσ H R=>te σ H λv H1=>∃x,v = .str x/\R (kB x) H1
def sr{te}(he:PE X e te):PI X tg e (qV te):=by
 intro a s σ H R I h;refine yV (he a s σ H _ I h) λv c ⟨y,f,d,k,l⟩=>?_;obtain⟨x,rfl,q⟩:=l;obtain⟨t,rfl⟩:=k;have j:∀b ∈ _,QV X a f b:=λb m=>by
  rw[zzR.mp m];exact d.fpOk (zzN _)<|d.hok.fresh<|zzN _
 cases ha:x.cps.all _
 . exact wpAny_pyIter_wide ha ⟨c.heap.objs.size,[c.heap.objs.size],_,_,f,rfl,d.kept (t':=c.toks) λb o e=>zxF _ e,LF _ x t "str_iterator" ⋯ (λA g=>Walks.strWide g _ x t) (λ_ _ _ _ _ i h=>wpAny_pyIter_striter_wide i h),⟨Nat.zero_le _,_,zxH _ rfl,rfl,rfl⟩,j,q⟩
 . exact wpAny_pyIter_ascii ha ⟨c.heap.objs.size,[c.heap.objs.size],_,_,f,rfl,d.kept (t':=c.toks) λb o e=>zxF _ e,LF _ x t "str_ascii_iterator" (by decide) (λA g=>Walks.strAscii g _ x t) λ_ _ _ _ _ i h=>wpAny_pyIter_striter_ascii i h,⟨Nat.zero_le _,_,zxH _ rfl,rfl,rfl⟩,j,q⟩
noncomputable def xt(x:Str):List Xs:=x.cps.toList.map λc=>(true,.str ⟨#[c]⟩)
def Jk{K}(x):ItC K kd F H (kB x) (xt x):=⟨λh T k j i=>by
 have e:(xt x).length=x.cps.size:=by unfold xt;simp
 refine⟨λa=>by rw[e]at a;exact a,λa=>by rw[e]at a;exact a,λv l f=>?_⟩;obtain⟨rfl,c,g,rfl⟩:=f;refine⟨λ_ _ z=>z,λd b=>?_⟩;unfold xt at b;rw[zzI]at b;rw[show x.cps.toList[i]? = x.cps[i]? by simp,g]at b;cases b;exact .str _⟩
def RF(f:EF):IF:=λas=>(f as).bind λp=>match p.1 with
 | .ow (.lf _ (.str x))=>some (xt x,p.2)
 |_=>none
def tX(he:AE X kd e fa):DD X kd tg e (RF fa):=by
 with_unfolding_all (
 intro a s σ H R I h;obtain⟨F,B,j,as,r,k,l,b,q⟩:=h;obtain⟨⟨p,c⟩,d,b⟩:=bS_<|b
 match p,b,d with
 | .ow (.lf t (.str x)),b,d=>
  cases b;refine sr he a s σ H R I ⟨F,B,j,as,_,c,l,d,λv u f m i g n=>?_⟩;have o:=NT i g;cases o;exact⟨x,rfl,q _ f m i.drop (n.trans<|Grow.less Gw.drop)<|Jk x⟩)
noncomputable abbrev tx(v:Int):Str:=Str.ofString<|toString v
noncomputable abbrev Kq:Str:=⟨#[32]⟩
def NB(x:Str):Prop:=32 ∉ x.cps.toList
def yQ{a b:Str}(h:a.cps.toList=b.cps.toList):a=b:=Str.ext'<|Array.toList_inj.mp h
def app_list(a b:Str):(a++b).cps.toList=a.cps.toList++b.cps.toList:=by rw[Str.cps_append,Array.toList_append]
def Ew(ha:32 ∉ a)(hb:32 ∉ b):a++32::A=b++32::B->a=b/\A=B:=by
 induction a generalizing b with
 |nil=>
  intro h;cases b with
  |nil=>simp at h;exact⟨rfl,h⟩
  |cons y t=>simp at h;exact absurd h.1.symm (by intro e;exact hb<|by simp[e])
 |cons x r c=>
  intro h;cases b with
  |nil=>simp at h;exact absurd h.1 (by intro e;exact ha<|by simp[e])
  |cons y t=>
   simp at h;obtain⟨d,f⟩:=c (λm=>ha<|zzD _ m) (λm=>hb<|zzD _ m) h.2;exact⟨by rw[h.1,d],f⟩
def XG(a b)(r):(Str.join Kq (a::b::r)).cps.toList=a.cps.toList++32::(Str.join Kq (b::r)).cps.toList:=by
 show(a++Kq++Str.join Kq _).cps.toList=_;rw[app_list,app_list,zxA];rfl
def join_one(a):Str.join Kq [a]=a:=rfl
theorem KQ:∀xs ys,xs≠[]->ys≠[]->(∀x ∈ xs,NB x)->(∀y ∈ ys,NB y)->Str.join Kq xs=Str.join Kq ys->xs=ys
 | [],_,h,_,_,_,_=>absurd rfl h
 |_,[],_,h,_,_,_=>absurd rfl h
 | [a],[b],_,_,_,_,e=>by rw[join_one,join_one]at e;rw[e]
 | [a],b::c::r,_,_,f,g,e=>by
  have:=congrArg (λs:Str=>s.cps.toList) e;simp only[join_one,XG]at this;exact absurd (show 32 ∈ a.cps.toList by rw[this];simp) (f a ⋯)
 |a::c::r,[b],_,_,f,g,e=>by
  have:=congrArg (λs:Str=>s.cps.toList) e;simp only[join_one,XG]at this;exact absurd (show 32 ∈ b.cps.toList by rw[<-this];simp) (g b ⋯)
 |a::c::r,b::d::t,_,_,f,g,e=>by
  have:=congrArg (λs:Str=>s.cps.toList) e;simp only[XG]at this;obtain⟨i,j⟩:=Ew (f a ⋯) (g b ⋯) this;have k:=KQ _ _ ⋯ ⋯ (λx m=>f x<|zzD _ m) (λy m=>g y<|zzD _ m) (yQ j);rw[yQ i,k]
def NH(hn:xs≠[])(hx:∀x ∈ xs,NB x):Txt.split (Str.join Kq xs) Kq=xs:=by
 refine KQ _ _ (λe=>?_) hn (StrLaws.split_free _ 32) hx<|StrLaws.join_split _ _;have:=split_pos (Str.join Kq xs) Kq;rw[e]at this;exact absurd this ⋯
def Yj(h0:0<=v):∀c ∈ (tx v).cps.toList,48<=c/\c<=57:=by
 obtain⟨m,rfl⟩:=Int.eq_ofNat_of_zero_le h0;intro c b;rw[PySem.W.KIN.signs_num]at b;obtain⟨d,a,e⟩:=zxB.mp b;have r:=digit_range<|Nat.isDigit_of_mem_toDigits (by decide) (by decide) a
 rwa [<-e]
def Ha(h0:0<=v):(tx v).cps.toList≠[]:=by
 obtain⟨m,rfl⟩:=Int.eq_ofNat_of_zero_le h0;rw[PySem.W.KIN.signs_num];intro e;have h:=toDigits_len_ge 10 m;rw[List.map_eq_nil_iff.mp e]at h;exact absurd h ⋯
def wI(h0:0<=v)(h1:v<10 ^ 60):(tx v).length<=60:=toString_length_le h0 (by decide) h1
def Xa(h0:0<=v)(h1:v<10 ^ 60):PySem.intText? (tx v)=some v:=by
 have b:=wI h0 h1;have d:=Yj h0;have a:=Ha h0;obtain⟨m,rfl⟩:=Int.eq_ofNat_of_zero_le h0;have e:=intText_digits ⋯ a (zzO b<|by decide)
 rwa [PySem.W.KIN.signs_num,PySem.W.KIN.val_back]at e
def blank_eq:(" ":Str)=Kq:=⋯
def Lo:∀m,0<m->∃d r,Nat.toDigits 10 m=Nat.digitChar d::r/\1<=d/\d<10:=λm=>by
 induction m using Nat.strongRecOn with
 |_ m a=>
  intro b
  by_cases h:m<10
  . exact⟨m,[],by rw[Nat.toDigits_of_lt_base h],b,h⟩
  . have c:m%10<10:=Nat.mod_lt m (by decide);have t:Nat.toDigits 10 (m/10)++Nat.toDigits 10 _=Nat.toDigits 10 _:=Nat.toDigits_append_toDigits (by decide) ⋯ c;rw[Nat.div_add_mod]at t;obtain⟨d,r,e,f,g⟩:=a (m/10) ⋯ ⋯;exact⟨d,r++Nat.toDigits 10 (m%10),by rw[<-t,e];rfl,f,g⟩
def V_:∀d,d<10->(Nat.digitChar d).toNat=48+d:=by decide
def C3(h0:0<v):∃c r,(tx v).cps.toList=c::r/\c≠48:=by
 obtain⟨m,rfl⟩:=Int.eq_ofNat_of_zero_le<|Int.le_of_lt h0;obtain⟨d,r,e,b,a⟩:=Lo m ⋯;refine⟨(Nat.digitChar d).toNat,r.map Char.toNat, ?_,by rw[V_ d a];omega⟩;rw[PySem.W.KIN.signs_num,e];rfl
def Sw(h:48<=c/\c<=57):Sb (.str ⟨#[c]⟩) (.str "0123456789")=some true:=by
 have:c=48\/c=49\/c=50\/c=51\/c=52\/c=53\/c=54\/c=55\/c=56\/c=57:=⋯
 rcases this with rfl|rfl|rfl|rfl|rfl|rfl|rfl|rfl|rfl|rfl<;>exact congrArg some (by decide +kernel)
def oJ:NB (tx v):=int_text_free' 32 ⟨by decide,by decide⟩ v
def xu(h0:0<=v)(hw:∃c ∈ w.cps.toList,57<c):tx v≠w:=λe=>by
 obtain⟨c,a,h⟩:=hw;rw[<-e]at a;have:=(Yj h0 c a).2;omega
def log2_small(h:n<2 ^ 300):n.log2<1920:=by
 by_cases e:n=0
 . subst e;decide
 . exact zzK ((Nat.log2_lt e).mpr h) (by decide)
def ur{v:Int}(h0:0<=v)(h1:v<10 ^ 60):v.natAbs.log2<1920:=by
 refine log2_small ?_;omega
def len_eq(x:Str):x.length=x.cps.toList.length:=⋯
def O7(sep)(ys):Txt.join sep ys=Str.join sep ys:=StrLaws.glued_eq_join sep ys
theorem Xq:∀xs n,(∀x ∈ xs,x.length<=n)->(Str.join Kq xs).length<=(n+1)*xs.length
 | [],n,_=>by show 0<=_;omega
 | [a],n,h=>by have:=h a ⋯;show a.length<=_*1;omega
 |a::b::r,n,h=>by
  have c:=Xq _ n λx m=>h x<|zzD _ m;have d:=h a ⋯;rw[len_eq,XG,zzJ,zzT,<-len_eq,<-len_eq];have e:_*(a::b::r).length=_*(b::r).length+(n+1):=⋯;omega
def Hy(ha:WD a as true y)(ht:QX ty y=true)(hb:WE b as x)(hg:g y [x]=some (.fl zs)):WE (z7 ty a (aC b aN) g) as (.lst zs):=by
 have c:=yX hb zq;refine⟨.nd .ls _, ?_,v8 zs,congrArg D.lst<|Zs zs⟩;unfold z7;rw[ha];show(if QX ty y=true then _ else _:Option _)=_;rw[if_pos ht,c];show((g y [x]).bind _)=_;rw[hg];show(if(zs.all zB||true)=true then some (RV.ow<|.nd .ls<|zs.map<|Ee true)else none:Option RV).bind _=_;rw[if_pos ⋯,ZP];rfl
def L5{x}(h:WD f as s (.str x)):RF f as=some (xt x,as):=by
 unfold RF;rw[h];rfl
def oZ(h:WD f as true (.lst ds)):Sy f as=some (wK true 0 ds,as):=by
 unfold Sy;rw[h];rfl
def mJ(h:WD f as true (.lst ds)):AY f as=some (ds.reverse.map λd=>(true,d),as):=by
 unfold AY;rw[h];show some (kids true ds.reverse,as)=_;rw[Ri]
def SO:Yq (.lst<|xs++ys) none (some (xs.length:Int))=some (.fl xs):=by
 show some _=_
 congr 2
 unfold cutD;rw[HT.EC,HT.KN,zzJ,Nat.min_eq_left ⋯,List.drop_zero,Nat.sub_zero,List.take_left]
noncomputable def insI(x:Int):List Int->List Int
 | []=>[x]
 |y::r=>if x<=y then x::y::r else y::insI x r
def sortI:List Int->List Int
 | []=>[]
 |x::r=>insI x<|sortI r
theorem insI_perm(x):∀l,(insI x l).Perm (x::l)
 | []=>List.Perm.refl _
 |y::r=>by
  unfold insI
  split
  . exact List.Perm.refl _
  . exact((insI_perm x r).cons y).trans<|List.Perm.swap x y r
theorem sortI_perm:∀l,(sortI l).Perm l
 | []=>List.Perm.refl _
 |x::r=>(insI_perm x _).trans<|(sortI_perm r).cons x
theorem QT(x):∀l,l.Pairwise (· <= ·)->(insI x l).Pairwise (· <= ·)
 | [],_=>by simp[insI]
 |y::r,h=>by
  unfold insI;rw[List.pairwise_cons]at h
  split
  . rename_i a;rw[List.pairwise_cons,List.pairwise_cons];refine⟨λz b=>?_,h⟩
    rcases zzC.mp b with rfl|b
    . exact a
    . exact Int.le_trans a<|h.1 z b
  . rename_i a;rw[List.pairwise_cons];refine⟨λz b=>?_,QT x r h.2⟩
    rcases zzC.mp ((insI_perm x r).mem_iff.mp b)with rfl|b
    . omega
    . exact h.1 z b
theorem Za:∀l,(sortI l).Pairwise (· <= ·)
 | []=>List.Pairwise.nil
 |x::r=>QT x _<|Za r
theorem VU:∀(a b:List Int),a.Perm b->a.Pairwise (· <= ·)->b.Pairwise (· <= ·)->a=b
 | [],b,p,_,_=>by rw[List.nil_perm]at p;exact p.symm
 |x::r,[],p,_,_=>by rw[List.perm_nil]at p;cases p
 |x::r,y::t,p,c,d=>by
  rw[List.pairwise_cons]at c d;have f:x=y:=by
   have h:=p.mem_iff.mp<|zzF ..;have i:=p.mem_iff.mpr<|zzF ..
   rcases zzC.mp h with e|e
   . exact e
   . rcases zzC.mp i with g|g
     . exact g.symm
     . have:=d.1 x e;have:=c.1 y g;omega
  subst f;rw[VU r t (List.Perm.cons_inv p) c.2 d.2]
def AH{K O}(h:RpL K kd O H vs ds)(hv:zK vs us)(e:YQ ds=some ns):IntsAre us ns:=
 RpL.ind (P:=λvs ds=>∀us ns,zK vs us->YQ ds=some ns->IntsAre us ns) (λus ns hv e=>by cases e;cases hv;exact .nil) (λ{v d vs ds} a _ ih us ns hv e=>by
  cases hv with
  |cons b t=>
   cases a with
   |int x=>
    obtain⟨ys,h1,h2⟩:=bS_<|e;cases h2;obtain⟨tk,rfl⟩:=b;exact .cons _ _ (ih _ _ t h1)
   |_=>cases e) h us ns hv e
theorem Yp:∀{us:List Value}{ns:List Int},IntsAre us ns->zK (ns.map V.int) us
 |_,_,.nil=>.nil
 |_,_,.cons n t r=>.cons ⟨t,rfl⟩<|Yp r
theorem Lz{K O}:∀ns:List Int,RpL K kd O H (ns.map V.int)<|ns.map D.int
 | []=>.nil
 |y::r=>.cons (.int y)<|Lz r
def Fy(h:RoL L N H vs ls fp):vs.length=ls.length:=RoL.length h
def Jg:upd (upd H l u) l w=upd H l w:=by
 funext a
 by_cases e:a=l
 . subst e;rw[zF,zF]
 . rw[zu e,zu e,zu e]
section
variable{K:zzA}{kd:KD}{F B G:Addr->Prop}{H:Hp}
def UF(hp:G p):Grow G H G (upd H p u):=⟨λb w h n=>by rw[zu λe=>n<|by subst e;exact hp];exact h,λb z=>.inl z⟩
theorem P8(h:L st' v d'):∀os {vs:List V}{fp:List Addr}{n:Nat}{st:Bool}{d:D},RoL L N H vs os fp->os[n]? = some (.lf st d)->RoL L N H (vs.set n v) (os.set n<|.lf st' d') fp
 | [],_,_,_,_,_,_,e=>by simp at e
 |f::b,_,_,n,c,d,r,e=>by
  cases r with
  |cons a r=>
   cases n with
   |zero=>
    simp at e;subst e;cases a with
    |lf _=>exact .cons (.lf h) r
   |succ n=>exact .cons a (P8 h b r ⋯)
end
section
variable{K:zzA}{kd:KD}{F B:Addr->Prop}{ad:Ad}{as:AS}{σ:St}{H:Hp}{i:Nat}{o:O}
def Rel.slotU(R:Rel K kd F B [] ad as σ H)(k:as[i]? = some (some o)):
 ∃v,σ[i]? = some (some v)/\YV K kd F B (Gw [] ad) H v o (ad i)/\(ad i).Nodup/\(∀a ∈ ad i,Gw [] ad a)/\
  ∀p u o',p ∈ ad i->YV K kd F B (Gw [] ad) (upd H p u) v o' (ad i)->Rel K kd F B [] ad (as.set i<|some o') σ (upd H p u)/\Grow (Gw [] ad) H (Gw [] ad) (upd H p u):=by
 obtain⟨v,d,n⟩:=R.sl i _ k;have r:=(zzG.mp k).1;refine⟨v,d,n,R.nd i,λa m=>.inr ⟨i,m⟩,λp u t f b=>?_⟩;have g:Grow _ H (Gw [] ad) (upd H p u):=UF<|.inr ⟨i,f⟩;have c:∀a,H a≠none->upd H p u a≠none:=λa z=>by
  by_cases e:a=p
  . subst e;rw[zF];simp
  . rwa [zu e]
 refine⟨⟨by rw[zzU];exact R.len,λj l=>R.out j (by rwa [zzU]at l),R.nd,R.inj,R.tnd,R.dis,λa z=>c a<|R.ftr a z,λa z=>⟨c a (R.btr a z).1,(R.btr a z).2⟩,λa z=>⟨c a (R.gtr a z).1,(R.gtr a z).2⟩,λj s e=>?_⟩,g⟩
 by_cases q:j=i
 . subst q;rw[zyJ r]at e;cases e;exact⟨v,d,b⟩
 . rw[zzX<|Ne.symm q]at e;exact(R.sl j s e).grow g λa m u h=>by rwa [zu λe=>q<|R.inj j i a m<|by rwa [e]]
end
abbrev CN:=AS->Option Int
def i9(K:zzA)(kd:KD)(f:CN):TE:=λσ H Q=>∃F B ad as k,Rel K kd F B [] ad as σ H/\f as=some k/\Q (.int k) H
@[irreducible] def AK(X:Cx)(kd:KD)(e:Expr)(f:CN):Prop:=PE X e<|i9 X.K kd f
noncomputable def xC(c:Int):CN:=λ_=>some c
noncomputable def Mb:O->Option (List O)
 | .nd .ls os=>some os
 |_=>none
noncomputable def N7:O->Option D
 | .lf _ d=>some d
 |_=>none
noncomputable def atO{α:Type}(f:O->Option α)(os:List O)(k:Nat):Option α:=os[k]?.bind f
noncomputable def FJ{α:Type}(f:O->Option α)(as:AS)(i:Nat):Option α:=as[i]?.bind λs=>s.bind f
def E7{os}(h:Mb o=some os):o = .nd .ls os:=by
 cases o with
 |lf s d=>cases h
 |nd k a=>cases k<;>cases h;rfl
def Fh(h:N7 o=some d):∃st,o = .lf st d:=by
 cases o with
 |lf s d=>cases h;exact⟨s,rfl⟩
 |nd k a=>cases h
def tM{α:Type}{f os}{k:Nat}{a:α}(h:atO f os k=some a):∃o,os[k]? = some o/\f o=some a:=bS_ h
def Mc(h:FJ f as k=some a):∃o,as[k]? = some (some o)/\f o=some a:=by
 obtain⟨s,o,b,rfl,h⟩:=yu h;exact⟨o,b,h⟩
def jB{os}{d:D}{k:Nat}(h:atO N7 os k=some d):∃st,os[k]? = some (.lf st d):=by
 obtain⟨o,a,h⟩:=tM h;obtain⟨b,rfl⟩:=Fh h;exact⟨b,a⟩
def m8{inner}{k:Nat}(h:FJ Mb as k=some inner):as[k]? = some (some<|.nd .ls inner):=by
 obtain⟨o,a,h⟩:=Mc h;cases E7 h;exact a
def kM(h:FJ N7 as k=some d):∃st,as[k]? = some (some<|.lf st d):=by
 obtain⟨o,a,h⟩:=Mc h;obtain⟨b,rfl⟩:=Fh h;exact⟨b,a⟩
def xV(i:Nat):CN:=λas=>(FJ N7 as i).bind LI
noncomputable def Os(f g:CN):CN:=λas=>(f as).bind λa=>(g as).bind λb=>if 0<b then some (a%b)else none
def Bu(i:Nat):CN:=λas=>(FJ Mb as i).bind λos=>some (os.length:Int)
def O3:AK X kd (.Constant (.int c) j pos) (xC c):=by
 with_unfolding_all exact(yg Ms λσ H Q h=>by
  obtain⟨F,B,a,as,k,R,e,q⟩:=h;cases e;exact q)
def C1(hv:PE X (.Name x p) (Vz i)):AK X kd (.Name x p) (xV i):=by
 with_unfolding_all exact(yg hv λσ H Q h=>by
  obtain⟨F,B,ad,as,k,R,e,q⟩:=h;obtain⟨d,e1,e⟩:=bS_<|e;cases MK e;obtain⟨st,k1⟩:=kM e1;obtain⟨v,hv,ro⟩:=R.sl i _ k1;generalize ad i=fp at ro;cases ro with
  |lf rp=>cases rp;exact⟨_,hv,q⟩)
def CY(ha:AK X kd a f)(hb:AK X kd b g):AK X kd (.BinOp a .Mod b pos) (Os f g):=by
 with_unfolding_all exact(yg (DO O5 ha hb) λσ H Q h=>by
  obtain⟨F,B,d,as,c,R,e,q⟩:=h;obtain⟨m,n,i,j,e⟩:=yu e;obtain⟨k,e⟩:=zv e;cases e;exact⟨F,B,d,as,m,R,i,F,B,d,as,n,R,j,m,n,rfl,rfl,k,q⟩)
def OV(hg:Gl X "len")(hm:X.mg "len"=none)(hb:bootBuiltins "len"=some (.builtin "len"))(hv:PE X (.Name x p) (Vz i))(vq:starEach [.Name x p] X.env=(false,eval (.Name x p) X.env)::starEach [] X.env)(C':(backTo pos<|starEach [] X.env).any (·.1)=false):AK X kd (.Call (.Name "len" p0) [.Name x p] [] pos) (Bu i):=by
 with_unfolding_all exact(yg (YZ VE hg hm hb (yj hv Zn vq) (by decide) ⋯ vq C') λσ H Q h=>by
  obtain⟨F,B,ad,as,c,R,e,q⟩:=h;obtain⟨os,e1,e⟩:=bS_<|e;cases e;obtain⟨v,hv,ro⟩:=R.sl i _<|m8 e1;generalize ad i=fp at ro;cases ro with
  |ls hH rl=>
   rename_i l vs fp;refine⟨_,hv,l,vs,rfl,.inl<|.inl hH, ?_⟩
   rwa [Fy rl])
def Jx(h:j<n):B8 n (j:Int)=some j:=by
 unfold B8;rw[if_pos ⋯,if_pos ⋯];simp
def Jd(h0:0<=k)(h:k.toNat<n):B8 n k=some k.toNat:=by
 have:=Jx h
 rwa [show k.toNat=k by omega]at this
def Wq:qF X (λx lo hi H Q=>∃z,x = .str z/\z.length<=sizeLine/\Q (.str<|Txt.slice z lo hi) H):=by
 intro f s σ H x v p r w y A Q I n a o g h;obtain⟨z,rfl,b,q⟩:=h;obtain⟨t,rfl⟩:=n;refine⟨"str",_,F.slot_str_getitem.lookup,typeIs_str _ _ _, ?_⟩;cases o with
 |none=>
  cases g with
  |none=>exact wpAny_getItem_str_slice (l:=none) (u:=none) (st:=none) a rfl (post_val_or_str ⟨zzO (Txt.slice_le z _ _) b,λc k=>⟨.str _,H,I.kept λ_ _ e=>e,⟨_,rfl⟩,q⟩⟩)
  |int j d=>exact wpAny_getItem_str_slice (l:=none) (u:=some (j,d)) (st:=none) a rfl (post_val_or_str ⟨zzO (Txt.slice_le z _ _) b,λc k=>⟨.str _,H,I.kept λ_ _ e=>e,⟨_,rfl⟩,q⟩⟩)
 |int i m=>
  cases g with
  |none=>exact wpAny_getItem_str_slice (l:=some (i,m)) (u:=none) (st:=none) a rfl (post_val_or_str ⟨zzO (Txt.slice_le z _ _) b,λc k=>⟨.str _,H,I.kept λ_ _ e=>e,⟨_,rfl⟩,q⟩⟩)
  |int j d=>exact wpAny_getItem_str_slice (l:=some (i,m)) (u:=some (j,d)) (st:=none) a rfl (post_val_or_str ⟨zzO (Txt.slice_le z _ _) b,λc k=>⟨.str _,H,I.kept λ_ _ e=>e,⟨_,rfl⟩,q⟩⟩)
noncomputable def Rx:D->Option Int->Option Int->Option R0
 | .str z,lo,hi=>if z.length<=sizeLine then some (.im<|.str<|Txt.slice z lo hi)else none
 |_,_,_=>none
def mn:qF X (λx lo hi H Q=>∃O d r,(∀a,O a->H a≠none)/\Vw X.K kd O H x d/\Rx d lo hi=some r/\RQ X.K kd O H Q r):=by
 intro b s σ H x v f g i j k Q I l m n o h;obtain⟨O,d,r,t,p,e,q⟩:=h;unfold Rx at e
 split at e
 . obtain⟨c,rfl⟩:=zv e;cases p;exact Wq b s σ H _ v f g i j k Q I l m n o ⟨_,rfl,c,yc q<|.str _⟩
 . cases e
def w_{lo hi}(ha:AE X kd a fa)(hl:AO X kd lo fl)(hh:AO X kd hi fh):AE X kd (.Subscript a (.Slice lo hi none p2) pos) (wV fa fl fh Rx):=O0 mn ha hl hh
def iK{α:Type}{P:List α->Prop}(h:∀a,P [a]):∀us,us.length=1->P us
 | [a],_=>h a
def kq{α:Type}{P:List α->Prop}(h:∀a b,P [a,b]):∀us,us.length=2->P us
 | [a,b],_=>h a b
def jW{α:Type}{P:List α->Prop}(h:∀a b c,P [a,b,c]):∀us,us.length=3->P us
 | [a,b,c],_=>h a b c
def ij{α:Type}{P:List α->Prop}(h:∀a b c d,P [a,b,c,d]):∀us,us.length=4->P us
 | [a,b,c,d],_=>h a b c d
def aI:AE X kd (.Constant (.int c) j pos) (fC<|.int c):=U3 Ms λ_ _=>.int _
def aS:AE X kd (.Constant (.str c) j pos) (fC<|.str c):=U3 CH λ_ _=>.str _
def aZ:AE X kd (.Constant .none j pos) (fC .non):=U3 tZ λ_ _=>.non
def aB:AE X kd (.Constant (.bool c) j pos) (fC<|.bl c):=U3 qU λ_ _=>.bl _
def ax{K}(hkd:qE P w K kd)(ha:AE X kd a fa)(hb:AE X kd b fb)(h1:X.prog=P:=by rfl)(h2:X.w=w:=by rfl)(h3:X.K=K:=by rfl)(hm:GQ b:=by exact λ_ _=>rfl):AE X kd (.Subscript a b pos) (f2 fa fb zU):=nH (jo<|hkd _ h1 h2 h3) ha hb hm
def sv(z)(i:Nat)(hN:X.N.Nodup)(he:AE X kd e fa)(hi:X.N[i]? = some x:=by rfl)(hx:Loc X.env.scope x:=by first|exact Or.inl rfl|exact Or.inr rfl)(hs:swapsWith e (some<|.Name x pos') pos.line X.env=pure false:=by rfl)(hf:X.fn x=true\/X.env.scope.names.lookup x=some .local:=by first|exact Or.inl rfl|exact Or.inr rfl):
 Rw X kd (.Assign [.Name x pos'] e pos) (zm z i fa):=Ot hN hi hx he hs hf
def an(i:Nat)(hN:X.N.Nodup)(hi:X.N[i]? = some x:=by rfl)(hx:Loc X.env.scope x:=by first|exact Or.inl rfl|exact Or.inr rfl)(hf:X.fn x=true\/X.env.scope.names.lookup x=some .local:=by first|exact Or.inl rfl|exact Or.inr rfl):AG X kd (.Name x pos) [i] (gN i):=Ec hN hi hx hf
def av(i:Nat)(hN:X.N[i]? = some x:=by rfl)(hv:lG X.env.scope x:=by first|exact Or.inl rfl|exact Or.inr (Or.inl rfl)|exact Or.inr (Or.inr rfl))(hd:(x==("__debug__":Str))=false:=by decide)
 (hcd:(x==("__classdict__":Str))=false:=by decide):AE X kd (.Name x pos) (fV i):=rN<|HH hN hv hd hcd
noncomputable def Xn(mg:Str->Option Value):Str->Addr:=λx=>match mg x with
 |some (.ref a)=>a
 |_=>0
def Dc(h:mg x=some (.ref a)):Xn mg x=a:=by
 unfold Xn;rw[h]
section
variable{K:zzA}{kd:KD}{F B G:Addr->Prop}{H:Hp}
def JB{n:Nat}{st st'}(rp:Rp K kd (Lv F B G st') H w d')(r:YV K kd F B G H v (.nd .ls inner) fp)(hn:fp.Nodup)(hG:∀a ∈ fp,G a)(e:inner[n]? = some (.lf st d)):
 ∃p ivs,v = .ref p/\p ∈ fp/\H p=some (.lst ivs)/\n<ivs.length/\YV K kd F B G (upd H p<|.lst<|ivs.set n w) v (.nd .ls<|inner.set n<|.lf st' d') fp:=by
 cases r with
 |ls hp ir=>
  rename_i p ivs ifp;have hpfp:=(zzV.mp hn).1;have gp:=hG p zzF;exact⟨p,ivs,rfl,zzF ..,hp,by rw[Fy ir];exact(zzG.mp e).1,.ls zF<|P8 (Rp.grow (UF gp) rp) inner (ZG.grow (UF gp) (λx m w h=>by rwa [zu λe=>hpfp<|by subst e;exact m]) ir) e⟩
end
def Uz(i:Nat)(f:CN)(fv:EF):SF:=λas=>(fv as).bind λp=>(Wp p.2 p.1).bind λx=>(f x.2).bind λk=>if 0<=k then(FJ Mb x.2 i).bind λos=>(atO N7 os k.toNat).bind λ_=>some (.nx<|x.2.set i<|some<|.nd .ls<|os.set k.toNat<|.lf x.1.1 x.1.2)else none
section
variable{X:Cx}{kd:KD}{f:CN}{fv:EF}{e1 ev:Expr}{i:Nat}
def Ej(ho:PE X (.Name x p) (Vz i))(h1:AK X kd e1 f)(hv:AE X kd ev fv)
 (ha:∀v,assign (.Subscript (.Name x p) e1 tpos) X.env v=(do
  let ov <-holding [v] (eval (.Name x p) X.env);let iv <-holding [v,ov] (eval e1 X.env)
  standAt tpos
  holding [v,ov,iv] (setItem ov iv v)
  release [v,ov,iv] []))
 (hs:swapsWithSole [.Subscript (.Name x p) e1 tpos] ev pos.line X.env=pure false) (hw:swappedStores [.Subscript (.Name x p) e1 tpos] ev X.env=pure none)
 (hm:(assignEach [.Subscript (.Name x p) e1 tpos] X.env).map (·.2)=[assign (.Subscript (.Name x p) e1 tpos) X.env]):
 Rw X kd (.Assign [.Subscript (.Name x p) e1 tpos] ev pos) (Uz i f fv):=by
 with_unfolding_all exact(vV (Cv hv (uR ho h1 set_list ha) hs hw hm) λD σ H h=>by
  obtain⟨F,B,m,as,o,R,e,q⟩:=h;obtain⟨⟨n,b⟩,⟨_,c⟩,k,r,t,w,e⟩:=yU e;obtain⟨y,e⟩:=ite_some' e;obtain⟨Y,d,z,A,e⟩:=yu e;have C:=m8 z;obtain⟨Z,E⟩:=jB A;cases e;refine⟨F,B,m,as,n,b,R,r,λv T1 G H1 I g J=>?_⟩;obtain⟨a,R2,K,L⟩:=Yb I g t;obtain⟨u,sv,M,N,O,P⟩:=R2.slotU C;obtain⟨p,j,rfl,Q,S,T,l⟩:=JB K M N O E;obtain⟨U,V⟩:=P p _ _ Q l;exact⟨_,sv,F,B,a,c,k,R2,w,p,j,k,k.toNat,rfl,rfl,S,Jd y T,q σ a _ U<|(J.trans<|Grow.less L).trans V⟩)
end
def ZE(h:n<=1000000):n<=sizeLine:=zzO h (by decide)
inductive SqD:D->List D->Prop
 |l (ds:List D):SqD (.lst ds) ds
 |t (ds:List D):SqD (.tup ds) ds
open AutoSeq1 (wpAny_loadPart')
def lM(x:D)(lo hi:Option Int):Option R0:=(lH x).bind λxs=>if lo=none/\hi=some (-1)then some (.fl xs.reverse)else none
theorem Ny:∀r:List Value,(List.range r.length).filterMap (λk=>r[k]?)=r
 | []=>rfl
 |a::r=>by
  rw[zzT,List.range_succ_eq_map,List.filterMap_cons,List.filterMap_map];show a::(List.range r.length).filterMap (λk=>r[k]?)=_;rw[Ny r]
theorem YW{α β:Type}{f g:α->Option β}:∀{l:List α},(∀a ∈ l,f a=g a)->l.filterMap f=l.filterMap g
 | [],_=>rfl
 |a::l,h=>by rw[List.filterMap_cons,List.filterMap_cons,h a zzF,YW λb hb=>h b<|zzD _ hb]
def HF(l:List Value):slicePick l.toArray none none (some (-1))=l.reverse.toArray:=by
 have e:sliceBounds none none (some (-1)) l.toArray.size=((l.length:Int)-1, -1, -1):=⋯;unfold slicePick;rw[e];have e2:(sliceRange (l.length-1) (-1) (-1))=(List.range l.length).map λk=>l.length-1-k:=by
  unfold sliceRange;rw[if_neg<|by decide]
  rcases Nat.eq_zero_or_pos l.length with h|h
  . rw[h];rfl
  . rw[if_pos ⋯,Int.neg_neg,Int.ediv_one];have:((l.length:Int)-1 - -1 - -1-1).toNat=l.length:=⋯;show List.map _ _=_;rw[this];refine List.map_congr_left λk hk=>?_;have:=List.mem_range.mp hk;omega
 rw[e2]
 congr 1
 rw[List.filterMap_map];have e3:(List.range l.length).filterMap (λk=>l.toArray[l.length-1-k]?)=(List.range l.reverse.length).filterMap (λk=>l.reverse[k]?):=by
  rw[List.length_reverse];refine YW λk hk=>?_;rw[List.getElem?_reverse<|List.mem_range.mp hk];simp
 exact e3.trans<|Ny _
def Ab{K O H vs ds}(r:RpL K kd O H vs ds):RpL K kd O H vs.reverse ds.reverse:=RpL.ind (P:=λvs ds=>RpL K kd O H vs.reverse ds.reverse) .nil (λa _ ih=>by
 rw[List.reverse_cons,List.reverse_cons];exact ih.append<|.cons a .nil) r
def tu{e st te th p2 pos}(he:PE X e te)(vq:PO X (some st) th):PE X (.Subscript e (.Slice none none (some st) p2) pos)
 (iw (λx lo u H Q=>∃a xs,x = .ref a/\VJ X.K H a xs/\u=some (-1)/\∀p,H p=none->Q (.ref p) (upd H p<|.lst xs.reverse)) te Et th):=by
 intro Z' s σ H Q I h;refine Subscript_<|yV (he Z' s σ H _ I h) λv s1 ⟨x,H1,I1,r1,q1⟩=>?_;refine wpAny_Slice ?_;refine zxE<|zxE<|yV (vq Z' s1 σ H1 _ I1 q1) λvu s3 ⟨u,H3,I3,pu,q3⟩=>?_;have I4:Inv X Z' σ H3 {s3 with heap:=s3.heap.push {cls:=.type "slice",data:=.fields #[.none,.none,vu]}}:=I3.kept (t':=s3.toks) λb ob q=>zxF _ q;obtain⟨a,xs,rfl,hx,rfl,q⟩:=q3;cases r1;obtain⟨zM,r',pl,hz⟩:=I4.list hx;have hlen:=r'.length;refine tail_any pl.isList.typeIs slot_list_getitem.lookup (wpAny_getItem_list_slice pl.isList (Heap.IsSliceOf.new ..) .none .none pu (by decide) ?_<|by rw[zzH];omega) ⋯;rw[HF];exact⟨.ref _,_,I4.lnew (t':=s3.toks) r'.reverse (by rwa [List.length_reverse]),rfl,q _ I4.fresh⟩
def uO{a st fa fs pos p2}(ha:AE X kd a fa)(hs:AE X kd st fs):AE X kd (.Subscript a (.Slice none none (some st) p2) pos) (wV fa oN (oS fs) lM):=by with_unfolding_all exact(yg (tu ha<|vI hs) λσ H Q h=>by
 obtain⟨F,B,ad,as,r,S',R,e,q⟩:=h;obtain⟨⟨p,U'⟩,_,h1,h2,e⟩:=yu e;cases h2;obtain⟨⟨u,vi⟩,⟨d,lv⟩,r',h3,h4,h5,e⟩:=yU e;obtain⟨z,h6,e⟩:=bS_ e;cases e;obtain⟨xs,h7,h5⟩:=bS_<|h5;obtain⟨c,e5⟩:=zv h5;cases e5;refine y9 R h1 λv M1 H1 R1 Co g1=>⟨F,B,M1,U',u,_,R1,h3,λvn H3 R3 g3=>?_⟩;have vx:=yS.vw R3 (Co.grow g3) h4;have rq:=wa R3 h6 λw T' H' R' vb g'=>q w T' vn H' R' vb<|(g1.trans g3).trans g';cases N3 h7;cases vx with
 |lst hr rl=>exact⟨_,_,rfl,hr.sq,c.2,Wn rq<|Ab rl⟩)
noncomputable abbrev sO:List Value:=[.type "ValueError",.type "Exception",.type "BaseException",.type "object"]
structure XC(K:zzA)(C S f:Addr)(an:Str):Prop where
 cls:∃N nm q bs sn sub ab col dd k0 k1 k2 k3 k5,K.lookup C=some (excClassObj nm q C N bs (.ref S::sO) true sn sub ab col dd k0 k1 k2 k3 k5 "ValueError.__new__")
 tl:W.tailIn K sO (.ref S::sO)=true
 ini:W.findIn K (.ref C) "__init__"=some (some<|.ref f)
 ity:W.typeIn K (.ref f)=some (.type "function")
 sat:W.findIn K (.ref C) "__setattr__"=some (some<|.builtin "object.__setattr__")
 att:W.findIn K (.ref C) an=some none
section
variable{prog:Program}{w:World}{A:Around}{E:Value->Shared->Prop}{h:Heap}{g:Array GenState}{d:Drawn}{t:Nat}{os:OsState}{K:zzA}{C S f:Addr}{an:Str}{Y':List Value}
noncomputable def LN(h:Heap)(C:Addr)(Y':List Value):Heap:=(h.push {cls:=.type "tuple",data:=.seq Y'.toArray}).push {cls:=.ref C,data:=.fields #[.ref h.objs.size,.none,.none,.none,.bool false,.none]}
def Qk:∀b o,h.get? b=some o->(LN h C Y').get? b=some o:=λb o e=>zxF _<|zxF _ e
def TM:(LN h C Y').get? (h.objs.size+1)=some {cls:=.ref C,data:=.fields #[.ref h.objs.size,.none,.none,.none,.bool false,.none]}:=by unfold LN;heap_get
def Mz(X:XC K C S f an)(hK:K.In h)(hrest:Y'.length<=sizeLine)
 (hq:wpAny (model prog w) A (call (.ref f) (.ref (h.objs.size+1)::Y')) (λr s'=>r = .none/\Q (.done<|.ret<|.ref<|h.objs.size+1) s') E ⟨LN h C Y',g,d,t,os⟩):
 wpAny (model prog w) A (Builtin.«type.__call__» ⟨.ref C::Y',[]⟩) Q E ⟨h,g,d,t,os⟩:=by
 obtain⟨N,nm,q,bs,sn,sub,ab,col,dd,k0,k1,k2,k3,k5,lk⟩:=X.cls;have hC:=hK _ _ lk;have T:=W.tail_of_in hK X.tl;have F:=PySem.F.excBase_ValueError
 repeat (first|with_reducible refine wpAny_loadPart_at hC ?_|with_reducible refine wpAny_madeBy_exc hC ?_|wp_step)
 refine codeAny_call_builtin_code (Code.quiet_builtin _ F.quiet)<|wpAny_check_new_subT F T hC ?_;refine codeAny_exc_new_subT F T hC ?_ hrest;have hC₁:=Qk (C:=C) (Y':=Y') _ _ hC;have vt:=TM (h:=h) (C:=C) (Y':=Y');have hK1:K.In (LN h C Y'):=hK.keeps λb o e=>Qk b o e;unfold LN at hC₁ vt hK1;have hcC:(Value.ref C :: .ref S::sO).contains (.ref C)=true:=by simp
 unfold isInstance
 repeat (first|with_reducible refine wpAny_loadPart_at vt ?_|(with_reducible refine wpAny_isSubtype_exc hC₁ ?_;rw[hcC])|wp_step)
 refine(W.looks_findIn hK1 X.ini).here ?_;refine zxK<|zxD ?_;unfold bindSpecial;refine zxD<|(W.looks_typeIn hK1 X.ity).here ?_;rw[if_pos<|by decide];refine zxE<|zxD<|zxQ hq (λr s' hr=>?_) λ_ _ x=>x;obtain⟨rfl,hQ⟩:=hr
 wp_walk
 exact hQ
def mO(X:XC K C S f an)(hK:K.In h)(hrest:Y'.length<=sizeLine)
 (hq:wpAny (model prog w) (A.under<|.builtin "type.__call__" ⟨.ref C::Y',[]⟩) (call (.ref f) (.ref (h.objs.size+1)::Y')) (λr s'=>r = .none/\Q (.ref<|h.objs.size+1) s') E ⟨LN h C Y',g,d,t,os⟩):
 wpAny (model prog w) A (call (.ref C) Y') Q E ⟨h,g,d,t,os⟩:=by
 obtain⟨N,nm,q,bs,sn,sub,ab,col,dd,k0,k1,k2,k3,k5,lk⟩:=X.cls;have hC:=hK _ _ lk;have f1:=tc_lookup;have f2:=tc_bind<|.ref C;refine wpAny_call<|codeAny_of_tree ?_
 repeat (any_goals (first|assumption|with_reducible refine wpAny_loadPart_at hC ?_|wp_step))
 refine⟨rfl, ?_⟩;refine codeAny_call_builtin_at (Code.quiet_builtin _<|by decide +kernel) entry_typeCall<|wpAny_check_type_call_sub hC<|Mz X hK hrest hq
end
def XO(e C:Addr):Heap->Prop:=λh=>∃t,h.get? e=some {cls:=.ref C,data:=.fields #[.ref t,.none,.none,.none,.bool false,.none]}
def Hu(h:H a=some o):upd H a o=H:=by
 funext b
 by_cases e:b=a
 . subst e;rw[zF,h]
 . rw[zu e]
def DG:∀h1 h2,XO e C h1->(∀o,h1.get? e=some o->h2.get? e=some o)->XO e C h2:=λ_ _ ⟨t,q⟩ k=>⟨t,k _ q⟩
structure XS(K:zzA)(S:Addr):Prop where
 ga:W.specialIn K (.ref S) "__getattribute__"=some (some<|.builtin "type.__getattribute__")
 rd:W.readsIn K S (.type "type")=true
 fi:W.findCls K (.ref S) (.type "type") "__init__"=some (.val<|.builtin "ValueError.__init__")
section
variable{an:Str}
def BL(Y:XC X.K C S f an)(I:Inv X Z' σ H s)(he:H e=some (.ext<|XO e C))(hq:∀s',Inv X Z' σ H s'->Q .none s'):
 wpAny (model X.prog X.w) A (call (.builtin "ValueError.__init__") [.ref e,u]) Q E s:=by
 obtain⟨N,nm,q,bs,sn,sub,ab,col,dd,k0,k1,k2,k3,k5,lk⟩:=Y.cls;have hC:=I.kIn _ _ lk;have T:=W.tail_of_in I.kIn Y.tl;have F:=PySem.F.excBase_ValueError;obtain⟨⟨t,vt⟩,_,_⟩:=I.hok e _ he;have vj:=zxG vt;obtain⟨h,g,d,tk,os⟩:=s;refine wpAny_call (codeAny_call_builtin F.init.plain F.initEntry<|wpAny_check_init_subT F T hC vt rfl ?_)
 wp_walk
 refine hq _ ?_;have hg2:=zxF {cls:=.type "tuple",data:=.seq [u].toArray} vt;have W:=I.write (o:=.ext<|XO e C) (t':=tk) (h':=(h.push {cls:=.type "tuple",data:=.seq [u].toArray}).update e (Obj.mapFields (·.setIfInBounds 0 (.ref h.objs.size))))
  (by rw[he];exact True.intro) (.inl rfl) (λb o hb z=>(zxL _ _<|Ne.symm hb).trans<|zxF _ z) ⟨_,zxP _ hg2 rfl⟩
  ⟨⟨_,zxP _ hg2 rfl⟩,⟨_,zxP _ hg2 rfl⟩,DG⟩
 rw[Hu he]at W;exact W
def Ig(Y:XC X.K C S f an)(Z:XS X.K S)(hg:Gl X x)(hm:X.mg x=some (.ref S))(ha:PA X (a::es) t)
 (vq:starEach (a::es) X.env=(false,eval a X.env)::starEach es X.env) (C':(backTo pos<|starEach es X.env).any (·.1)=false) (vv:(x==("__debug__":Str))=false)
 (ht:eval (.Call (.Attribute (.Name x p) "__init__" apos) (a::es) [] pos) X.env=(do
  let ov <-eval (.Name x p) X.env
  standAt apos.atName
  let(f,first) <-holding [ov] (getMethod ov "__init__" pl)
  callWith pos f first (backTo pos<|starEach (a::es) X.env) (backToKw pos<|keywordEach [] X.env))):
 PE X (.Call (.Attribute (.Name x p) "__init__" apos) (a::es) [] pos) (λσ H Q=>t σ H λvs H1=>∃e y,vs=[.ref e,.str y]/\H1 e=some (.ext<|XO e C)/\Q .non H1):=by
 intro Z' s σ H Q I h;refine W.methodCall_KW (vJ I hg hm ?_ vv) ht;refine W.method_cls I.kIn Z.ga<|W.cls_value I.kIn Z.rd Z.fi rfl ?_;refine PyProof.Rows.callWith_builtin1 (yV (ha pos Z' _ σ H _ (I.tok _) h) λus s1 ⟨vs,H1,I2,r,e,y,ev,he,q⟩=>?_) vq C';subst ev;cases r with
 |cons r1 r2=>
  cases r2 with
  |cons r2 r3=>
   cases r3;cases(r1);exact BL Y I2 he λs' I'=>⟨.non,H1,I',rfl,q⟩
noncomputable def ZK:D->Bool
 | .int i=>decide (i.natAbs.log2<1920)
 |_=>false
def IZ{x}{e}{j:Nat}{p p1 p2}{te}(he:PE X e te)(hx:x.length<=1000):
 PE X (.JoinedStr [.Constant (.str x) j p1,.FormattedValue e 114 none p2] p) (λσ H Q=>te σ H λv H1=>∃kd O d,Rp X.K kd O H1 v d/\ZK d=true/\∀y,Q (.str y) H1):=by
 intro Z' s σ H Q I h;refine wpAny_JoinedStr ?_;refine yV (CH Z' s σ H (λv H'=>v = .str x/\H'=H) I ⟨rfl,rfl⟩) λu s1 ⟨v,H1,I1,r1,ev,eH⟩=>?_;subst ev;subst eH;obtain⟨tk,rfl⟩:=(r1);have hx0:(Str.empty++x).length<=1000:=by rw[strLen_append];show 0+x.length<=1000;omega
 refine⟨x,tk,rfl,zzO hx0 (by rw[sizeLine_eq];omega), ?_⟩;refine wpAny_FormattedValue_repr<|yV (he Z' s1 σ H1 _ I1 h) λu s2 ⟨v,H2,I2,r2,kd,O,d,rp,hd,q⟩=>?_;cases d with
 |int k=>
  have hk:=of_decide_eq_true hd;cases rp;obtain⟨tk2,rfl⟩:=(r2);have hl:(Str.ofString<|toString k).length<=2000:=by
   have e:=int_text_length_le (k:=1920) (by decide) hk;rw[PySem.ofString_length];omega
  refine wpAny_pyReprObj_gives (typeIs_int s2 k tk2) PySem.F.slot_int_repr PySem.F.entry_int_repr (PySem.F.args_int_repr_1 _) (gives_int_repr k tk2 hk) ?_ (hx:=int_text_fits hk);have hz:((Str.empty++x)++Str.ofString (toString k)).length<=sizeLine:=by rw[strLen_append,sizeLine_eq];omega
  exact PyProof.Rows.formatField_str (λt' tk3=>⟨_,t',rfl,hz,hz,.str _,H2,(I2.tok _).tok _,⟨_,rfl⟩,q _⟩) (int_text_fits hk)
 |_=>cases hd
def XA(e C dx:Addr):Heap->Prop:=λh=>∃t,h.get? e=some {cls:=.ref C,dict:=some dx,data:=.fields #[.ref t,.none,.none,.none,.bool false,.none]}
def pw:∀h1 h2,XA e C dx h1->(∀o,h1.get? e=some o->h2.get? e=some o)->XA e C dx h2:=λ_ _ ⟨t,q⟩ k=>⟨t,k _ q⟩
def Ck(Y:XC X.K C S f an)(I:Inv X Z' σ H s)(he:H e=some (.ext<|XO e C))(rv:RelV v u)
 (hq:∀dx s',H dx=none->dx≠e->Inv X Z' σ (upd (upd H e<|.ext<|XA e C dx) dx<|.xd [(an,v)]) s'->Q () s'):
 wpAny (model X.prog X.w) A (setAttr (.ref e) an u) Q E s:=by
 obtain⟨N,nm,q,bs,sn,sub,ab,col,dd,k0,k1,k2,k3,k5,lk⟩:=Y.cls;obtain⟨⟨t,vt⟩,_,_⟩:=I.hok e _ he;have SF:=PySem.F.store_ValueError;obtain⟨h,g,d,tk,os⟩:=s;have hK:=I.kIn;dsimp only at vt hK;have J:PySem.W.InstAt h e {cls:=.ref C,data:=.fields #[.ref t,.none,.none,.none,.bool false,.none]} C none:=⟨vt,rfl,rfl,True.intro⟩;refine W.set_plain I.kIn J Y.sat ?_;have hc:W.clsIn X.K C=some {name:=nm,bases:=bs,mro:=.ref C :: .ref S::sO,ns:=N,qualname:=q,hasDict:=true,slotNames:=sn,subclasses:=sub,abstract:=ab,collection:=col,hasDel:=false}:=by
  unfold W.clsIn;rw[lk]
 have L0:=J.type (M:=model X.prog X.w);refine codeAny_call_builtin SF.slot.plain SF.entry<|@W.check_slot (model X.prog X.w) _ _ ⟨h,g,d,tk+1,os⟩ "object.__setattr__" "object" "__setattr__" (.ref e) [.str an tk,u] [] _ SF.kind SF.split (L0.andThen<|W.looks_mroIn hK<|by unfold W.mroIn;rw[hc];rfl) (SF.args (.ref e) (.str an tk) u) ?_;have hm:PySem.W.Looks (model X.prog X.w) h (mroOf<|.ref C) (.ref C :: .ref S::sO):=(W.looks_clsIn hK hc).andThen .now;rw[W.osa_eq,refuse_eq];refine zxD<|zxD<|L0.at<|zxD<|hm.at ?_;rw[refuseLoop_ref,refuseLoop_ref,SF.passes];refine zxE<|zxD<|L0.at<|zxD<|(W.looks_findIn hK Y.att).at<|zxD<|zxE ?_;have hxs:=zzQ<|zxG vt;have hx1:(h.push {cls:=.type "dict",data:=.dict #[]}).get? e=some _:=zxF _ vt;refine zxD<|zxE<|zxD<|zxD<|wpAny_loadPart vt<|zxD<|(W.looks_clsIn hK hc).at ?_;refine zxD<|wpAny_alloc' ?_;refine zxD<|wpAny_update' hx1 ?_;refine zxE ?_;have hgd:((h.push {cls:=.type "dict",data:=.dict #[]}).update e λo=>{cls:=o.cls,dict:=some h.objs.size,data:=o.data,slots:=o.slots}).get? h.objs.size=some {cls:=.type "dict",data:=.dict #[]}:=
  (Heap.get?_update_ne _ _ _ _ hxs.symm).trans (Heap.get?_push_at rfl rfl)
 have hnd:((h.push {cls:=.type "dict",data:=.dict #[]}).update e λo=>{cls:=o.cls,dict:=some h.objs.size,data:=o.data,slots:=o.slots}).Ns h.objs.size (λ_=>none):=
  ⟨_,#[],_,hgd,rfl,λe he=>absurd he (by simp),λ_=>rfl⟩
 unfold Builtin.ObjectAttr.storeInDict Builtin.ObjectAttr.newKeyGuard;refine zxD<|zxE<|zxD<|wpAny_nsSet1 (Heap.Ns1.of_empty hnd) λh' hn' hs=>?_;obtain⟨oD,esD,epD,hoD,hdD,hcD⟩:=hn'.count<|Within.cons an u Within.nil;refine zxD<|wpAny_lookBehind hoD (by rw[hdD];exact pastItsLine_dict<|zzO hcD<|by rw[zzT,List.length_nil,sizeLine_eq];omega) ?_;refine zxE ?_;have Wr:=I.write (o:=.ext<|XA e C h.objs.size) (t':=tk) (h':=h.update e λo=>{cls:=o.cls,dict:=some h.objs.size,data:=o.data,slots:=o.slots})
  (by rw[he];exact True.intro) (.inl rfl) (λb o hb z=>(zxL _ _<|Ne.symm hb).trans z) ⟨_,zxP _ vt rfl⟩
  ⟨⟨_,zxP _ vt rfl⟩,⟨_,zxP _ vt rfl⟩,pw⟩
 have hsz:(h.update e λo=>{cls:=o.cls,dict:=some h.objs.size,data:=o.data,slots:=o.slots}).objs.size=h.objs.size:=Heap.size_update _ _ _;have hfree:=I.hok.fresh<|zzN _;refine hq h.objs.size _ hfree (Ne.symm hxs) ?_;refine Wr.laid (h':=h') (t':=_) (λb o z=>?_) (by dsimp only;rw[hsz];exact zzN _) ⟨_,hn',λy=>?_⟩
 . have hb:b≠h.objs.size:=by
    intro z';have:=zxG z;dsimp only at this;rw[hsz,z']at this;exact absurd this<|Nat.lt_irrefl _
   refine(hs.2 b hb).trans ?_;dsimp only at z
   by_cases i':b=e
   . subst i';rw[zxP _ vt rfl]at z;rw[zxP _ hx1 rfl];exact z
   . rw[zxL _ _<|Ne.symm i']at z;rw[zxL _ _<|Ne.symm i'];exact zxF _ z
 . by_cases hy:y=an
   . subst hy;simpa[List.lookup,W3]using rv
   . have:(y==an)=false:=by simpa using hy
     simp[List.lookup,this,hy,W3]
def tS(Y:XC X.K C S f an)(ho:PE X o to)(hv:PE X value tv)(hs:swapsWith value (some<|.Attribute o an pos') pos.line X.env=pure false):
 PS X (.Assign [.Attribute o an pos'] value pos) (λD σ H=>tv σ H λv H1=>to σ H1 λx H2=>∃e,x = .ref e/\H2 e=some (.ext<|XO e C)/\∀dx,H2 dx=none->dx≠e->D.nx σ (upd (upd H2 e<|.ext<|XA e C dx) dx<|.xd [(an,v)])):=by
 intro Z' s σ H D I h;refine plainObj_wpAny_Assign_Attribute (yV (hv Z' s σ H _ I h) λu s1 ⟨v,H1,I1,rv,q⟩=>yV (ho Z' s1 σ H1 _ I1 q) λov s2 ⟨x,H2,I2,rx,e,ex,he,q2⟩=>?_) hs;subst ex;cases(rx);exact Ck Y I2 he rv λdx s' hd hn I'=>⟨σ,_,I',q2 dx hd hn⟩
end
def D1(K:zzA)(C:Addr)(an:Str):Sp:=λvs H Q _=>∃e v,vs=[.ref e,v]/\H e=some (.ext<|XO e C)/\(∃kd O d,Rp K kd O H v d/\ZK d=true)/\∀dx,H dx=none->dx≠e->Q .non (upd (upd H e<|.ext<|XA e C dx) dx<|.xd [(an,v)])
def AQ{K}{C}{an}:∀vs H Q E,D1 K C an vs H Q E->vs.length=([("self":Str),an]:List Str).length:=λvs H Q E ⟨e,k,h,_⟩=>by rw[h];rfl
abbrev HX(an:Str)(H:Hp)(e C dx:Addr)(v:V):Hp:=upd (upd H e<|.ext<|XA e C dx) dx<|.xd [(an,v)]
def Hv{K}{kd}{O}{H H'}{v}{d}(k:∀b u,H b=some u->H' b=some u)(h:Rp K kd O H v d):Rp K kd O H' v d:=
 (Rp.grow (W:=λ_=>False) (W':=λ_=>False) ⟨λb u z _=>k b u z,λ_ z=>z.elim⟩<|h.less λa z=>z.elim id λy=>y.elim).less λa z=>.inl z
section
variable{an:Str}{n:Nat}{fd:FuncData}
def mU(Y:XC X.K C S f an)(F:FnOk X.prog X.w X.K X.mg X.base VM n f fd ["self",an] (D1 X.K C an))(hr:Room (n+1) X.A)(hb:Binds X.K fd ["self",an] [])(I:Inv X Z' σ H s){k}{u}(ru:RelV k u)(hk:∃kd O d,Rp X.K kd O H k d/\ZK d=true)
 {Q}{E}(hq:∀e dx s',H e=none->H dx=none->dx≠e->X.s₀.heap.objs.size<=e->s.heap.get? dx=none->Inv X Z' σ (HX an H e C dx k) s'->Q (.ref e) s'):wpAny (model X.prog X.w) X.A (call (.ref C) [u]) Q E s:=by
 obtain⟨h,g,d,t,os⟩:=s;refine mO Y I.kIn (by rw[sizeLine_eq];show 1<=16777216;decide) ?_;have I2:Inv X Z' σ (upd H (h.objs.size+1)<|.ext<|XO (h.objs.size+1) C) ⟨LN h C [u],g,d,t,os⟩:=
  (I.kept (t':=t) λb o z=>zxF _ z).laid (t':=t) (λb o z=>zxF _ z) (by rw[zxO];exact zzN _) ⟨⟨_,TM⟩,⟨_,TM⟩,DG⟩
 have hf:=I.hok.fresh<|zyV _;have i6:∃kd O d,Rp X.K kd O (upd H (h.objs.size+1)<|.ext<|XO (h.objs.size+1) C) k d/\ZK d=true:=by
  obtain⟨kd,O,d,z1,z2⟩:=hk;exact⟨kd,O,d,Hv (λb u z=>by rw[zu<|zO z hf];exact z) z1,z2⟩
 have r2:zK [V.ref<|h.objs.size+1,k] [Value.ref<|h.objs.size+1,u]:=.cons rfl<|.cons ru .nil;have sp:D1 X.K C an [V.ref<|h.objs.size+1,k] _ (λv H2=>v = .non/\∃dx,H dx=none/\dx≠h.objs.size+1/\H2=HX an H (h.objs.size+1) C dx k) E0:=
  ⟨_,_,rfl,zF,i6,λdx h1 h2=>⟨rfl,dx,by rw[zu h2]at h1;exact h1,h2,by unfold HX;rw[Jg]⟩⟩
 refine wpAny_call<|codeAny_mono (F.run _ X.stack _ _ ⟨_,[]⟩ [Value.ref<|h.objs.size+1,u] _ _ E0 (hr.make C [u] []) (I2.env0.make C [u] []) (hb _ [Value.ref<|h.objs.size+1,u] I2.kIn rfl) r2 sp) λr s' l9=>?_;cases r with
 |error e=>exact False.elim l9
 |ok fl=>
  cases fl with
  |ret u'=>
   obtain⟨v,H',I3,rv,ev,dx,h1,h2,e3⟩:=I2.after (Q:=λv H2=>v = .non/\∃dx,H dx=none/\dx≠h.objs.size+1/\h.get? dx=none/\H2=HX an H (h.objs.size+1) C dx k) (by
    obtain⟨v,H2,a1,a2,un,a3,a4,a5,dx,a6,a7,a8⟩:=l9;refine⟨v,H2,a1,a2,un,a3,a4,a5,dx,a6,a7, ?_,a8⟩;cases z:h.get? dx with
    |none=>rfl
    |some o=>
     have:=un.free dx o (Qk dx o z) (by rw[zu a7];exact a6) (by simp);rw[a8]at this;unfold HX at this;rw[zF]at this;cases this)
   obtain⟨h3,e3⟩:=e3;subst ev;subst e3;exact⟨rv,hq _ dx s' hf h1 h2 (zzO I.sz<|zyV _) h3 I3⟩
  |next=>exact False.elim l9
  |brk=>exact False.elim l9
  |cont=>exact False.elim l9
def SA(Y:XC X.K C S f an)(kp:W.keepIn X.K (.ref C)=true)(F:FnOk X.prog X.w X.K X.mg X.base VM n f fd ["self",an] (D1 X.K C an))(hr:Room (n+1) X.A)(hb:Binds X.K fd ["self",an] [])
 (hg:Gl X x) (hm:X.mg x=some (.ref C)) (ha:PE X a te) (vv:(x==("__debug__":Str))=false) (he:starEach [a] X.env=(false,eval a X.env)::starEach [] X.env) (hex:X.ex=[]):
 PS X (.Raise (some<|.Call (.Name x np) [a] [] KE) none pos) (λD σ H=>te σ H λk H1=>(∃kd O d,Rp X.K kd O H1 k d/\ZK d=true)/\
  ∀Z' s' e dx,H1 e=none->H1 dx=none->dx≠e->X.s₀.heap.objs.size<=e->X.s₀.heap.get? dx=none->Inv X Z' σ (HX an H1 e C dx k) s'->X.xe (.ref e) s'):=by
 intro Z' s σ H D I h;rw[arm_exec_Raise];obtain⟨N,nm,q,bs,sn,sub,ab,col,dd,k0,k1,k2,k3,k5,lk⟩:=Y.cls;have hcB:(Value.ref C :: .ref S::sO).contains (.type "BaseException")=true:=by simp
 have fin:∀x s,wpAny (model X.prog X.w) X.A x (λv s'=>∃e dx k H1,v = .ref e/\dx≠e/\Inv X Z' σ (HX an H1 e C dx k) s'/\X.xe (.ref e) s') X.xe s->
  wpAny (model X.prog X.w) X.A (raiseStmt X.env (some x) none) (SP X Z' D) X.xe s:=λx s hx=>by
  unfold raiseStmt;refine zxD<|zxQ hx (λv s' h1=>?_) λ_ _ z=>z;obtain⟨e,dx,k,H1,rfl,vp,I',hx⟩:=h1;have he:HX an H1 e C dx k e=some (.ext<|XA e C dx):=by unfold HX;rw[zu<|Ne.symm vp,zF]
  obtain⟨⟨t,vt⟩,_,_⟩:=I'.hok e _ he;have hC:=I'.kIn _ _ lk;have hh:=hr.hd;obtain⟨hp,g,d,tk,os⟩:=s'
  repeat (first|with_reducible refine wpAny_loadPart_at vt ?_|with_reducible refine wpAny_loadPart_at hC ?_|(with_reducible refine wpAny_isSubtype_exc hC ?_;rw[hcB])|wp_step)
  exact wpAny_raiseNew_none hh hx
 have main:wpAny (model X.prog X.w) X.A (eval (.Call (.Name x np) [a] [] KE) X.env) (λv s'=>∃e dx k H1,v = .ref e/\dx≠e/\Inv X Z' σ (HX an H1 e C dx k) s'/\X.xe (.ref e) s') X.xe s:=by
  refine wpAny_Call_Name_kw<|vJ I hg hm ?_ vv;refine W.callWith_K I.ok.mod.kin kp (yV ((yj ha Zn he) KE Z' s σ H (λvs H1=>match vs with
   | [k]=>(∃kd O d,Rp X.K kd O H1 k d/\ZK d=true)/\∀Z' s' e dx,H1 e=none->H1 dx=none->dx≠e->X.s₀.heap.objs.size<=e->X.s₀.heap.get? dx=none->Inv X Z' σ (HX an H1 e C dx k) s'->X.xe (.ref e) s'
   |_=>False) I h) λus s1 ⟨vs,H1,I1,r,z⟩=>⟨I1.kIn, ?_⟩) he rfl
  cases r with
  |nil=>exact z.elim
  |cons r1 r2=>
   cases r2 with
   |nil=>
    obtain⟨hk,q⟩:=z;exact mU Y F hr hb I1 r1 hk λe dx s' h1 h2 h3 h4 h5 I'=>⟨e,dx,_,H1,rfl,h3,I',q Z' s' e dx h1 h2 h3 h4 (by
     cases z:X.s₀.heap.get? dx with
     |none=>rfl
     | some o=>
            obtain⟨o',z'⟩:=I1.base.there dx o z (by rw[hex];simp);rw[h5]at z';cases z') I'⟩
   |cons _ _=>exact z.elim
 first
  |exact zxD (wpAny_standAt (fin _ _ (zxD (yV main λv M' h₁=>zxD (wpAny_standAt (zxE h₁))))))
  |(simp only[evalOpt,Option.map];exact zxD (wpAny_standAt (fin _ _ (zxD (yV main λv M' h₁=>zxD (wpAny_standAt (zxE h₁)))))))
end
structure Mv(fs ch:List Addr)(h h':Heap):Prop where
 keep:∀b o,b ∉ fs->b ∉ ch->h.get? b=some o->h'.get? b=some o
 slot:∀b o,b ∈ fs->b ∉ ch->h.get? b=some o->∃sl,h'.get? b=some {o with slots:=sl}
structure Fly(h:Heap)(e C dx T:Addr):Prop where
 ob:∃oe vs,h.get? e=some oe/\oe.cls = .ref C/\oe.dict=some dx/\oe.data = .fields vs/\vs[1]? = some (.ref T)
 tb:∃oT ts,h.get? T=some oT/\oT.data = .fields ts/\3<ts.size
 ne:T≠e
def lD(M:Model)(A:Around)(e:Addr)(fr:Option Addr)(m:Sem Unit):Prop:=∀Q E s oe vs T,s.heap.get? e=some oe->oe.data = .fields vs->vs[1]? = some (.ref T)->wpAny M A (setFlight (.ref e) fr) Q E s->wpAny M A m Q E s
def Hm{E1}{m}{fr}(hm:lD M A e fr m)(hfr:A.frames=some (env::outer))(hl:s.heap.FunFrames base (env::outer))(hf:env.frame=some L)
 (he:s.heap.get? e=some oe) (hd:oe.data = .fields vs) (hsz:1<vs.size) (hc:oe.cls = .ref C) (hdx:oe.dict=some dx)
 (h:∀h' T,s.heap.objs.size<=T->Mv (Q2 (env::outer)) [e] s.heap h'->Fly h' e C dx T->Q () {s with heap:=h'}):
 wpAny M A (do let a <-frameOf env;let pl <-entryPlaceOf L hn;let b <-EntryCells.newEntry head a .none (rawInt L) .none pl;setField (.ref e) 1 b) (λ_ s'=>wpAny M A m Q E s') E1 s:=by
 have hene:e ∉ (env::outer).filterMap _:=λhm=>by
  obtain⟨_,o,ho,hnf⟩:=hl.mem hm;rw[he]at ho;injection ho with ho;subst ho;exact hnf vs hd
 refine zxD<|wpAny_frameOf_fun hfr hl hf λh1 hs1=>?_;refine zxD<|wpAny_entryPlaceOf λpl C'=>?_;refine zxD<|zxI ?_<|C'.sizeOk5 _ _ _ _ _;generalize hob:({cls:=.type "traceback",dict:=none,data:=.fields ([head,.ref L,.none,rawInt L,.none]++_).toArray}:Obj)=ob;have hobd:ob.data = .fields ([head,.ref L,.none,rawInt L,.none]++(if pl.isEmpty then List.replicate 6 Value.none else pl)).toArray:=by rw[<-hob]
 have he1:=(hs1.2.1 e hene).trans he;have he2:=zxF ob he1;refine wpAny_setField he2 hd hsz ?_;have hTe:=Nat.ne_of_gt<|zxG he1;have M0:=Obj.data_mapFields hd (·.setIfInBounds 1 (Value.ref h1.objs.size));have he3:=zxP _ he2<|Obj.isFreed_of_fields M0;have hT3:=(zxL _ (Obj.mapFields (·.setIfInBounds 1 (Value.ref h1.objs.size)))<|Ne.symm hTe).trans<|zxH h1<|Obj.isFreed_of_fields hobd;refine hm _ _ _ _ _ _ he3 M0 (by simp[hsz];rfl) ?_;refine zxD<|wpAny_field he3 M0 (x:=.ref h1.objs.size) (by simp[hsz]) ?_;refine wpAny_setField hT3 hobd (⋯)<|h _ h1.objs.size (by rw[hs1.1];exact zzN _) ⟨λb o hb1 g_ hb=>?_,λb o hb1 g_ hb=>?_⟩ ?_
 . have i':b≠e:=λz=>g_ (by rw[z];exact zzR.mpr rfl);have kC:h1.get? b=some o:=(hs1.2.1 b hb1).trans hb;rw[zxL _ _<|Nat.ne_of_gt<|zxG kC,zxL _ _<|Ne.symm i'];exact zxF _ kC
 . have i':b≠e:=λz=>g_ (by rw[z];exact zzR.mpr rfl);obtain⟨sl,kC⟩:=hs1.2.2 b o hb;refine⟨sl, ?_⟩;rw[zxL _ _<|Nat.ne_of_gt<|zxG kC,zxL _ _<|Ne.symm i'];exact zxF _ kC
 . refine⟨⟨_,_, ?_, ?_, ?_,M0,by simp[hsz]⟩,⟨_,_,zxP _ hT3<|Obj.isFreed_of_fields<|Obj.data_mapFields hobd _,Obj.data_mapFields hobd _,⋯⟩,hTe⟩
   . rwa [zxL _ _ hTe]
   . rwa [Obj.cls_mapFields]
   . obtain⟨c0,d0,dt,sl⟩:=oe;subst hd;exact hdx
def u0(hfr:A.frames=some (env::outer))(hl:s.heap.FunFrames base (env::outer))(hf:env.frame=some L)
 (he:s.heap.get? e=some oe) (hd:oe.data = .fields vs) (h1:vs[1]? = some .none) (hc:oe.cls = .ref C) (hdx:oe.dict=some dx)
 (h:∀h' T,s.heap.objs.size<=T->Mv (Q2 (env::outer)) [e] s.heap h'->Fly h' e C dx T->Q () {s with heap:=h'}):wpAny M A (leaving env<|.ref e) Q E s:=by
 unfold leaving noteFrame;simp only[hf];refine zxD<|zxD<|wpAny_field he hd h1 ?_;exact Hm (λ_ _ _ _ _ _ _ _ _ h=>h) hfr hl hf he hd (Array.getElem?_eq_some_iff.mp h1).1 hc hdx h
def DE{fr}(F:Fly s.heap e C dx T)(h:∀h',Mv [] [T] s.heap h'->Fly h' e C dx T->s.heap.objs.size=h'.objs.size->Q () {s with heap:=h'}):wpAny M A (setFlight (.ref e) fr) Q E s:=by
 obtain⟨⟨oe,vs,he,hc,hdx,hd,h1⟩,⟨oT,ts,hT,hdT,h3⟩,hTe⟩:=F;refine zxD<|wpAny_field he hd h1 ?_;refine wpAny_setField hT hdT h3<|h _ ⟨λb o _ hb z=>?_,λb o hb=>nomatch hb⟩ ⟨⟨oe,vs, ?_,hc,hdx,hd,h1⟩,⟨_,_,zxP _ hT<|Obj.isFreed_of_fields<|Obj.data_mapFields hdT _,Obj.data_mapFields hdT _, ?_⟩,hTe⟩ (Heap.size_update _ _ _).symm
 . rwa [zxL _ _ λq=>hb<|by rw[q];simp]
 . rwa [zxL _ _ hTe]
 . rwa [Array.size_setIfInBounds]
def rC{E1}{m}{fr}(hm:lD M A e fr m)(hfr:A.frames=some (env::outer))(hl:s.heap.FunFrames base (env::outer))(hf:env.frame=some L)(F:Fly s.heap e C dx T)
 (h:∀h' T',(T'=T\/s.heap.objs.size<=T')->Mv (Q2 (env::outer)) [e,T] s.heap h'->Fly h' e C dx T'->Q () {s with heap:=h'}):
 wpAny M A (noteFrame (.ref e) env) (λ_ s'=>wpAny M A m Q E s') E1 s:=by
 have F0:=F;obtain⟨⟨oe,vs,he,hc,hdx,hd,h1⟩,⟨oT,ts,hT,hdT,h3⟩,hTe⟩:=F;unfold noteFrame;simp only[hf];refine zxD<|wpAny_field he hd h1 ?_;refine zxD<|wpAny_field hT hdT (Array.getElem?_eq_getElem h3) ?_
 by_cases fl:(ts[3]==rawInt L)=true
 . rw[if_pos fl];exact zxE<|hm _ _ _ _ _ _ he hd h1<|DE F0 λh' m F' _=>h h' T ⋯ ⟨λb o _ h2 z=>m.keep b o ⋯ (λy=>h2<|zzD _ y) z,λb o _ h2 z=>⟨o.slots,m.keep b o ⋯ (λy=>h2<|zzD _ y) z⟩⟩ F'
 rw[if_neg fl];refine zxD<|wpAny_setField hT hdT h3 ?_;have other:∀b,b≠T->(s.heap.update T (Obj.mapFields (·.setIfInBounds 3 Value.none))).get? b=s.heap.get? b:=λb hb=>zxL _ _<|Ne.symm hb;have noRec:∀b o,s.heap.get? b=some o->(∀vs,o.data ≠ .fields vs)->b≠T:=λb o hb hnf q=>by
  rw[q,hT]at hb;injection hb with hb;subst hb;exact hnf ts hdT
 refine Hm hm hfr (hl.of_keeps λb o hb hnf=>⟨o,(other b<|noRec b o hb hnf).trans hb,rfl⟩) hf ((other e<|Ne.symm hTe).trans he) hd (Array.getElem?_eq_some_iff.mp h1).1 hc hdx λh' T' hz m F=>h h' T' (.inr ?_) ⟨λb o h1 h2 h3=>?_,λb o h1 h2 h3=>?_⟩ F
 . rwa [Heap.size_update]at hz
 . exact m.keep b o h1 (λz=>h2<|by rw[zzR.mp z];exact zzF)<|(other b λz=>h2<|by rw[z];simp).trans h3
 . exact m.slot b o h1 (λz=>h2<|by rw[zzR.mp z];exact zzF)<|(other b λz=>h2<|by rw[z];simp).trans h3
def HN:lD M A e fr (do
 if(<-field (.ref e) 1) == .none then unsupported "frame.own-activation:exception-without-traceback"
 setFlight (.ref e) fr):=λQ E s oe vs T h1 h2 h3 h=>by
 refine zxD<|wpAny_field h1 h2 h3 ?_;exact h
def mf(m:Mv fs ch h h')(hok:Vg P w H h)(hfs:∀b ∈ fs,H b=none)(j':∀b ∈ ch,H b=none):Un fs ch H H h h'/\Vg P w H h':=by
 refine⟨⟨λb o e _ h1 h2=>m.keep b o h1 h2 e,λb o e _ h1 h2=>m.slot b o h1 h2 e,λb o e n _=>n,λb o e h2=>?_,λ_ _ q=>q,λ_ _ _ q=>q,λb ps q=>⟨#[],⋯⟩⟩,λa o e=>?_⟩
 . by_cases hb:b ∈ fs
   . obtain⟨sl,z⟩:=m.slot b o hb h2 e;exact⟨_,z⟩
   . exact⟨o,m.keep b o hb h2 e⟩
 . refine(hok a o e).stay (λb u hb z=>m.keep b u (λq=>?_) (λq=>?_) z) (λ_ q=>q) λ_ _ q=>q
   . have:=hfs b q
     rcases hb with rfl|hb
     . rw[e]at this;cases this
     . rw[hb]at this;cases this
   . have:=j' b q
     rcases hb with rfl|hb
     . rw[e]at this;cases this
     . rw[hb]at this;cases this
noncomputable def cv:V->Value
 | .non=>.none
 | .bl b=>.bool b
 | .int i=>.int i 0
 | .str x=>.str x 0
 | .ref a=>.ref a
 | .ty n=>.type n
def Rv(P:Program)(w:World)(C:Addr)(an:Str):Jl:=λouter H s E v s'=>∃e dx T k H',v = .ref e/\s'.os=s.os/\AllBare s'.gens/\Un (Q2 outer) [] H H' s.heap s'.heap/\Vg P w H' s'.heap/\Fly s'.heap e C dx T/\
 s.heap.objs.size<=e/\s.heap.objs.size<=T/\s.heap.get? dx=none/\H' e=none/\H' T=none/\H' dx=none/\dx≠e/\dx≠T/\(∃mA,s'.heap.Ns1 dx mA/\∀f,W3 (([(an,k)]:List (Str×V)).lookup f)<|mA f)/\E (cv k) none H'
section
variable{P:Program}{w:World}{K:zzA}{mg:Str->Option Value}{base:Heap}{N:List Str}{qual:Str}{scope:Scope}{f:Addr}{cd:Value}{A:Around}{outer:List Env}{s:Shared}{H:Hp}{E:XK}{C:Addr}{an:Str}
def LX(h1:H1 e=none)(h2:H1 dx=none)(vp:dx≠e)
 (hs:s.heap.objs.size<=e) (hsd:s.heap.get? dx=none) (I:Inv (v9 (Rv P w C an) P w K mg base N qual scope f cd A outer s H E) Z' σ (HX an H1 e C dx k) s') (hE:E (cv k) none H1):
 (v9 (Rv P w C an) P w K mg base N qual scope f cd A outer s H E).xe (.ref e) s':=by
 have he:HX an H1 e C dx k e=some (.ext<|XA e C dx):=by unfold HX;rw[zu<|Ne.symm vp,zF]
 have hd:HX an H1 e C dx k dx=some (.xd [(an,k)]):=by unfold HX;rw[zF]
 have ho:∀b,b≠e->b≠dx->HX an H1 e C dx k b=H1 b:=λb hb kC=>by unfold HX;rw[zu kC,zu hb]
 have va:∀b u,HX an H1 e C dx k b=some u->(∀φ,u ≠ .ext φ)->(∀fs,u ≠ .xd fs)->H1 b=some u:=λb u z n1 n2=>by
  rw[<-ho b (λq=>by rw[q,he]at z;cases z;exact n1 _ rfl) λq=>by rw[q,hd]at z;cases z;exact n2 _ rfl];exact z
 obtain⟨⟨t,vt⟩,_,_⟩:=I.hok e _ he;obtain⟨mA,hNs,hrel⟩:=I.hok dx _ hd;have frE:=I.stkFree;refine u0 I.ok.frames I.stack rfl vt rfl rfl rfl rfl λh' T hT m F=>?_;have hTn:=I.hok.fresh hT;have hTd:dx≠T:=λq=>by rw[<-q,hd]at hTn;cases hTn
 have small:∀b o,s.heap.get? b=some o->b≠e:=λb o z q=>by have:=zxG z;rw[q]at this;exact absurd this<|Nat.not_lt.mpr hs
 have smalld:∀b o,s.heap.get? b=some o->b≠dx:=λb o z q=>by rw[q,hsd]at z;cases z
 have nloc:∀b o,s.heap.get? b=some o->b ∉ Q2 outer->b ∉ Q2 (envOfC qual scope s.heap.objs.size f cd::outer):=λb o z hb q=>by
  rcases zzC.mp (q)with q|q
  . have:=zxG z;rw[q]at this;exact absurd this<|Nat.lt_irrefl _
  . exact hb q
 have n1:∀b,b≠e->b ∉ [e]:=λb hb q=>hb<|zzR.mp q;have ndx:dx ∉ Q2 _:=λq=>by have:=frE dx q;rw[hd]at this;cases this
 have hNs':h'.Ns1 dx mA:=by
  obtain⟨o,es,ep,z,r⟩:=hNs;exact⟨o,es,ep,m.keep dx o ndx (n1 dx vp) z,r⟩
 refine⟨e,dx,T,k,H1,rfl,I.os,I.bare,⟨λb o z n hb hx=>?_,λb o z n hb hx=>?_,λb o z n hx=>?_,λb o z hx=>?_,λb xs z=>?_,λb o u z=>?_,λb ps z=>?_⟩,λa o z=>?_,F,hs,zzO I.sz hT,hsd,h1,by rw[<-ho T F.ne (Ne.symm hTd)];exact hTn,h2,vp,hTd,⟨mA,hNs',hrel⟩,hE⟩
 . exact m.keep b o (nloc b o z hb) (n1 b<|small b o z)<|I.base.keep b o z n hb hx
 . obtain⟨sl,q⟩:=I.base.slot b o z n hb hx;obtain⟨sl',q'⟩:=m.slot b _ (zzD _ hb) (n1 b<|small b o z) q;exact⟨sl',q'⟩
 . rw[<-ho b (small b o z) (smalld b o z)];exact I.base.free b o z n hx
 . obtain⟨o',q⟩:=I.base.there b o z hx
   by_cases hb:b ∈ Q2 (envOfC qual scope s.heap.objs.size f cd::outer)
   . obtain⟨sl,q'⟩:=m.slot b _ hb (n1 b<|small b o z) q;exact⟨_,q'⟩
   . exact⟨o',m.keep b o' hb (n1 b<|small b o z) q⟩
 . exact va b _ (I.base.tups b xs z) (λ_ q=>nomatch q) λ_ q=>nomatch q
 . exact va b _ (I.base.frzs b o u z) (λ_ q=>nomatch q) λ_ q=>nomatch q
 . obtain⟨more,q⟩:=I.base.tbls b ps z;exact⟨more,va b _ q (λ_ q=>nomatch q) λ_ q=>nomatch q⟩
 . have hae:a≠e:=λr=>by rw[r,h1]at z;cases z
   have had:a≠dx:=λr=>by rw[r,h2]at z;cases z
   have q:=I.hok a o (by rw[ho a hae had];exact z);refine q.stay (λb u hb r=>m.keep b u (λy=>?_) (n1 b λy=>?_) r) (λb r=>va b _ r (λ_ q=>nomatch q) λ_ q=>nomatch q) λb xs r=>va b _ r (λ_ q=>nomatch q) λ_ q=>nomatch q
   . have:=frE b y
     rcases hb with rfl|hb
     . rw[ho b hae had,z]at this;cases this
     . rw[hb]at this;cases this
   . rcases hb with hb|hb
     . exact hae<|hb ▸ y
     . rw[y,he]at hb;cases hb
end
noncomputable def Il:Out->Option AS
 | .nx as=>some as
 |_=>none
def GT(h:Il o=some as):o = .nx as:=by cases o<;>cases h;rfl
noncomputable def slD(as:AS)(i:Nat):Option D:=match as[i]? with
 |some (some (.lf true d))=>some d
 |_=>none
def s_(h:slD as i=some d):as[i]? = some (some<|.lf true d):=by
 unfold slD at h;cases e:as[i]? with
 |none=>rw[e]at h;cases h
 |some x=>
  rw[e]at h;cases x with
  |none=>cases h
  |some o=>
   cases o with
   |nd _ _=>cases h
   |lf st d=>
    cases st with
    |true=>cases h;rfl
    |false=>cases h
theorem Rel.slD{K}{kd}{F B}{T}{ad}{as}{σ}{H}{i:Nat}{d}(R:Rel K kd F B T ad as σ H)(h:PF.slD as i=some d):∃v,σ[i]? = some (some v)/\Rp K kd (Lv F B (Gw T ad) true) H v d:=by
 obtain⟨v,hv,ro⟩:=R.sl i _<|s_ h;generalize ad i=fp at ro;cases ro with
 |lf r=>exact⟨v,hv,r⟩
def gX(n m i:Nat)(c1:SF)(tc:TF)(ds:List (Bool×D)):Option D:=
 if ds.length=m then(c1<|ya n ds).bind λo1=>(Il o1).bind λU'=>(tc U').bind λp=>if p.1=true then(slD p.2 i).bind λd=>if ZK d=true then some d else none else none else none
def Dn(K:zzA)(kd:KD)(g:List (Bool×D)->Option D):Sp:=λvs H _ E=>∃F ds d,(∀a,F a->H a≠none)/\RpA K kd F H vs ds/\g ds=some d/\∀v H',(∀b u,H b=some u->H' b=some u)->Rp K kd F H' v d->E (cv v) none H'
def HG:∀a,¬Gw [] (λ_=>[]) a:=λa z=>z.elim ⋯ λ⟨_,y⟩=>nomatch y
def F8(I:Inv X Z' σ H s)(hN:X.N.Nodup)(hj:X.N[j]? = some n)(hk:X.env.kindOf n=some .local)(h:∀s',Inv X Z' (σ.set j none) H s'->Q () s'):
 wpAny M A (do bindName X.env n .none;unbindBehindTheSuite X.env n pos) Q E s:=by
 obtain⟨m,hn,hl⟩:=id I.loc;have hcls:(X.env.scope.kind == .class||(X.env.scope.kind == .module&&X.env.locals != X.env.globals))=false:=by rw[I.ok.kind];rfl
 have cne:=I.cne;refine wpAny_nameGoes_keeps hk hn hcls λh' v hn' hs=>?_;have tracked:=λb ob e=>by
  refine(I.hok b ob e).stay (λc w' hc q=>(hs.2 c ?_).trans q) ⋯ λ_ _ q=>q
  rintro rfl
  rcases hc with z|hc
  . rw[<-z,I.free]at e;cases e
  . rw[I.free]at hc;cases hc
 have nl:∀b o,X.s₀.heap.get? b=some o->b≠X.env.locals:=λb o e=>zzQ<|zzK (zxG e) I.ok.above;refine h _ ⟨I.ok,I.os,I.bare,⟨λb o e n hb hx=>(hs.2 b<|nl b o e).trans<|I.base.keep b o e n hb hx,λb o e n hb hx=>?_,I.base.free,λb o e hx=>?_,I.base.tups,I.base.frzs,I.base.tbls⟩,⟨_,hn',λi y v' e1 e2 e3=>?_⟩,λy c e=>?_,I.free,I.freeC,λp hp=>?_,tracked,by simpa using I.len⟩
 . obtain⟨sl,e1⟩:=I.base.slot b o e n hb hx;exact⟨sl,(hs.2 b<|nl b o e).trans e1⟩
 . obtain⟨o',e1⟩:=I.base.there b o e hx;exact⟨o',(hs.2 b<|nl b o e).trans e1⟩
 . by_cases hij:i=j
   . subst hij;rw[List.getElem?_set]at e2;simp at e2
   . rw[zzX<|Ne.symm hij]at e2;obtain⟨u',r',q⟩:=hl i y v' e1 e2 e3;refine⟨u',r', ?_⟩
     rcases q with⟨k,e⟩|⟨k,c,e,z⟩
     . refine .inl ⟨k, ?_⟩;have:y≠n:=λe=>hij<|Rt hN e1<|e ▸ hj;simp[this,e]
     . exact .inr ⟨k,c,e,z.sameBut hs<|cne y c e⟩
 . obtain⟨w',z⟩:=I.cell y c e;exact⟨w',z.sameBut hs<|cne y c e⟩
 . obtain⟨e,n,ne,nf,d⟩:=I.pin p hp;exact⟨(hs.2 p.1 ne).trans e,n,ne,nf,d⟩
abbrev qK(X:Cx)(e:Addr)(pl:List (Addr×Obj)):Cx:={X with A:=X.A.mark<|some<|.ref e,calm:=false,pn:=pl++X.pn}
def Tx(I:Inv X Z' σ H s)(h:∀p ∈ pl,s.heap.get? p.1=some p.2/\H p.1=none/\p.1≠X.env.locals/\p.1 ∉ X.fs/\∀v,p.2.data ≠ .cell v):Inv (qK X e pl) Z' σ H s:=
 {I with ok:={I.ok with hd:=nofun},pin:=λp hp=>(zzM.mp<|zxA .. ▸ hp).elim (h p) (I.pin p)}
def Vr(o:X.Ok)(I:Inv (qK X e pl) Z' σ H s):Inv X Z' σ H s:=
 {I with ok:=o,pin:=λp hp=>I.pin p (by rw[zxA];exact zzL _ hp)}
def qo(X:Cx)(Z':List (Addr×Obj))(b:Addr):Prop:=(b ∈ X.ex\/X.s₀.heap.objs.size<=b)/\b≠X.env.locals/\(∀x c,X.env.cells.lookup x=some c->c≠b)/\∀p ∈ X.pn++Z',p.1≠b
structure Thr(X:Cx)(C:Addr)(an:Str)(Z':List (Addr×Obj))(σ:St)(e dx T:Addr)(v:V)(H:Hp)(s:Shared):Prop where
 inv:Inv X Z' σ H s
 fly:Fly s.heap e C dx T
 fe:qo X Z' e
 fT:qo X Z' T
 se:X.s₀.heap.objs.size<=e
 sT:X.s₀.heap.objs.size<=T
 l:dx≠X.env.locals
 cl:∀x c,X.env.cells.lookup x=some c->c≠dx
 fr:dx ∉ Q2 X.stack
 fre:e ∉ Q2 X.stack
 pd:∀p ∈ X.pn++Z',p.1≠dx
 s0:X.s₀.heap.get? dx=none
 ne:H e=none
 nT:H T=none
 nd:H dx=none
 d1:dx≠e
 d2:dx≠T
 ns:∃mA,s.heap.Ns1 dx mA/\∀f,W3 (([(an,v)]:List (Str×V)).lookup f)<|mA f
section
variable{an:Str}
def TL{b}(I:Inv X Z' σ H s)(hb:s.heap.objs.size<=b):qo X Z' b:=by
 refine⟨.inr<|zzO I.sz hb,λz=>absurd (zzK I.lt hb) (by rw[z];exact Nat.lt_irrefl _),λy c z w=>?_,λp hp w=>?_⟩
 . obtain⟨v,o,z',_⟩:=I.cell y c z;exact absurd (zzK (zxG z') hb) (by rw[w];exact Nat.lt_irrefl _)
 . exact absurd (zzK (zxG (I.pin p hp).1) hb) (by rw[w];exact Nat.lt_irrefl _)
def t9(hex:X.ex=[])(I:Inv X Z' σ H s)(h:Rv X.prog X.w C an X.stack H s E v s'):∃e dx T k H',v = .ref e/\Thr X C an Z' σ e dx T k H' s'/\E (cv k) none H':=by
 obtain⟨e,dx,T,k,H',rfl,hos,hb,un,hok,fly,l1,l2,l3,n1,n2,n3,n4,n5,ns,hE⟩:=h;have frx:∀b ∈ Q2 X.stack,∃o,s.heap.get? b=some o:=λb hb=>by
  obtain⟨_,o,z,_⟩:=I.stack.mem hb;exact⟨o,z⟩
 refine⟨e,dx,T,k,H',rfl,⟨I.call' hos un hok hb ⋯,fly,TL I l1,TL I l2,zzO I.sz l1,zzO I.sz l2, ?_, ?_, ?_, ?_, ?_, ?_,n1,n2,n3,n4,n5,ns⟩,hE⟩
 . intro z;obtain⟨m,⟨o,_,_,z',_⟩,_⟩:=I.loc;rw[<-z,l3]at z';cases z'
 . intro y c z w;obtain⟨v,o,z',_⟩:=I.cell y c z;rw[w,l3]at z';cases z'
 . intro z;obtain⟨o,z'⟩:=frx dx z;rw[l3]at z';cases z'
 . intro z;obtain⟨o,z'⟩:=frx e z;exact absurd (zzK (zxG z') l1)<|Nat.lt_irrefl _
 . intro p hp z;have z':=(I.pin p hp).1;rw[z,l3]at z';cases z'
 . cases z:X.s₀.heap.get? dx with
   |none=>rfl
   |some o=>
    obtain⟨o',z'⟩:=I.base.there dx o z (by rw[hex];simp);rw[l3]at z';cases z'
def Thr.mv{e dx T T'}{k}{h'}(vq:X.stack=X.env::X.outer)(t:Thr X C an Z' σ e dx T k H s)(hT:T'=T\/s.heap.objs.size<=T')(m:Mv (Q2 (X.env::X.outer)) [e,T] s.heap h')(fly:Fly h' e C dx T'):Thr X C an Z' σ e dx T' k H {s with heap:=h'}:=by
 have I:=t.inv;have j':∀b ∈ [e,T],H b=none/\qo X Z' b:=λb hb=>by
  rcases zzC.mp hb with rfl|hb
  . exact⟨t.ne,t.fe⟩
  . rw[zzR.mp hb];exact⟨t.nT,t.fT⟩
 obtain⟨un,hok⟩:=mf m I.hok (by rw[<-vq];exact I.stkFree) λb hb=>(j' b hb).1;obtain⟨mA,⟨od,es,ep,gd,dd⟩,hrel⟩:=t.ns;refine⟨I.call' (s':={s with heap:=h'}) rfl (by rwa [vq]) hok I.bare λb hb=>(j' b hb).2,fly,t.fe, ?_,t.se, ?_,t.l,t.cl,t.fr,t.fre,t.pd,t.s0,t.ne, ?_,t.nd,t.d1, ?_,mA,⟨od,es,ep,m.keep dx od (by rw[<-vq];exact t.fr) (λz=>?_) gd,dd⟩,hrel⟩
 . rcases hT with rfl|z
   . exact t.fT
   . exact TL I z
 . rcases hT with rfl|z
   . exact t.sT
   . exact zzO I.sz z
 . rcases hT with rfl|z
   . exact t.nT
   . exact I.hok.fresh z
 . rcases hT with rfl|z
   . exact t.d2
   . exact λq=>absurd (zzK (zxG gd) z) (by rw[q];exact Nat.lt_irrefl _)
 . rcases zzC.mp z with z|z
   . exact t.d1 z
   . exact t.d2<|zzR.mp z
def Thr.pass{e dx T}{k}{m}{fr}{Q}{E E1}(hm:lD (model X.prog X.w) X.A e fr m)(vq:X.stack=X.env::X.outer)(hfm:X.env.frame=some X.env.locals)(t:Thr X C an Z' σ e dx T k H s)
 (h:∀s' T',Thr X C an Z' σ e dx T' k H s'->Q () s'):wpAny (model X.prog X.w) X.A (noteFrame (.ref e) X.env) (λ_ s'=>wpAny (model X.prog X.w) X.A m Q E s') E1 s:=
 rC hm (by rw[<-vq];exact t.inv.ok.frames) (by rw[<-vq];exact t.inv.stack) hfm t.fly λh' T' hT m F=>h _ T'<|t.mv vq hT m F
def Thr.land{A}{e dx T}{k}{fr}{Q}{E}(vq:X.stack=X.env::X.outer)(t:Thr X C an Z' σ e dx T k H s)
 (h:∀s',Thr X C an Z' σ e dx T k H s'->Q () s'):wpAny (model X.prog X.w) A (setFlight (.ref e) fr) Q E s:=
 DE t.fly λh' m F _=>h _<|t.mv vq (.inl rfl) ⟨λb o _ h2 z=>m.keep b o ⋯ (λy=>h2<|zzD _ y) z,λb o _ h2 z=>⟨o.slots,m.keep b o ⋯ (λy=>h2<|zzD _ y) z⟩⟩ F
end
section
variable{P:Program}{w:World}{K:zzA}{mg:Str->Option Value}{base:Heap}{N:List Str}{qual:Str}{scope:Scope}{f:Addr}{cd:Value}{A:Around}{outer:List Env}{s:Shared}{H:Hp}{E:XK}{C:Addr}{an:Str}
def B3(t:Thr (v9 (Rv P w C an) P w K mg base N qual scope f cd A outer s H E) C an Z' σ e dx T k H1 s')(hE:E (cv k) none H1):
 (v9 (Rv P w C an) P w K mg base N qual scope f cd A outer s H E).xe (.ref e) s':=zxD<|t.pass (λ_ _ _ _ _ _ _ _ _ h=>h) rfl rfl λs2 T2 t=>⟨e,dx,T2,k,H1,rfl,t.inv.os,t.inv.bare,⟨t.inv.base.keep,t.inv.base.slot,t.inv.base.free,t.inv.base.there,t.inv.base.tups,t.inv.base.frzs,t.inv.base.tbls⟩,t.inv.hok,t.fly,t.se,t.sT,t.s0,t.ne,t.nT,t.nd,t.d1,t.d2,t.ns,hE⟩
end
abbrev WU:=AS->Option (D×AS)
def qB(X:Cx)(kd:KD)(C:Addr)(an:Str)(g:WU):St->Hp->Prop:=λσ H=>∃F B ad as d S',Rel X.K kd F B [] ad as σ H/\g as=some (d,S')/\
 ∀Z' P' Sh e dx T v H' s',Thr X C an Z' P' e dx T v H' s'->Rel X.K kd F B [] Sh S' P' H'->Grow (Gw [] ad) H (Gw [] Sh) H'->Rp X.K kd (Lv F B (Gw [] Sh) true) H' v d->X.xe (.ref e) s'
@[irreducible] def BZ(X:Cx)(kd:KD)(C:Addr)(an:Str)(e:Expr)(g:WU):Prop:=PE X e λσ H _=>qB X kd C an g σ H
@[irreducible] def AX(X:Cx)(kd:KD)(C:Addr)(an:Str)(st:Stmt)(g:WU):Prop:=PS X st λ_ σ H=>qB X kd C an g σ H
@[irreducible] def E3(X:Cx)(kd:KD)(C:Addr)(an:Str)(st:List Stmt)(g:WU):Prop:=Pw X st λ_ σ H=>qB X kd C an g σ H
def sZ(h:cv v=cv w):v=w:=by cases v<;>cases w<;>cases h<;>rfl
def gR(K:zzA)(kd:KD)(O:Addr->Prop)(H:Hp)(d:D):XK:=λu _ H'=>∃v,u=cv v/\(∀b u,H b=some u->H' b=some u)/\Rp K kd O H' v d
def gC(fr:AF)(g:List (Bool×D)->Option D):WU:=λas=>(fr as).bind λp=>(xW p.2 p.1).bind λx=>(g x).bind λd=>some (d,p.2)
section
variable{X:Cx}{kd:KD}{C:Addr}{an:Str}{fd:FuncData}{n i:Nat}{y:Str}{pos pos':Pos}{c e:Expr}{st:Stmt}{sts Y':List Stmt}{ta:TF}{gf gg:WU}
def Cw(F:FnOk X.prog X.w X.K X.mg X.base (Rv X.prog X.w C an) n f fd ps (Dn X.K kd g))(hr:Room n X.A)(hg:Gl X x)(hm:X.mg x=some (.ref f))(hk:W.keepIn X.K (.ref f)=true)(hb:Binds X.K fd ps [])(hex:X.ex=[])(ha:AA X kd (a::es) fr)
 (vv:(x==("__debug__":Str))=false) (he:starEach (a::es) X.env=(false,eval a X.env)::starEach es X.env) (C':(backTo cp<|starEach es X.env).any (·.1)=false):
 BZ X kd C an (.Call (.Name x p) (a::es) [] cp) (gC fr g):=by
 with_unfolding_all (
 intro Z' s σ H Q I h;obtain⟨F0,B0,ad,as,d,S',R,e,q⟩:=h;obtain⟨⟨rs,U'⟩,ds,d',h1,h2,h3,e⟩:=yU e;cases e;refine wpAny_Call_Name_kw<|vJ I hg hm ?_ vv;refine W.callWith_K I.ok.mod.kin hk (zxQ (ha cp Z' s σ H (λvs H1=>∃M1,Rel X.K kd F0 B0 [] M1 U' σ H1/\RVs X.K kd F0 B0 M1 σ H1 vs rs/\Grow (Gw [] ad) H (Gw [] M1) H1) I ⟨F0,B0,ad,as,rs,U',R,h1,λvs M1 H1 R1 Co g1=>⟨M1,R1,Co,g1⟩⟩) (λus s1 z=>?_) λ_ _ z=>z) he C';obtain⟨vs,H1,I1,r,M1,R1,Co,g1⟩:=z;refine⟨I1.kIn, ?_⟩;have sp:Dn X.K kd g vs H1 (λ_ _=>False) (gR X.K kd _ H1 d):=⟨_,ds,d,R1.trk true,Ka R1 Co h2,h3,λv H' k r=>⟨v,rfl,k,r⟩⟩;have hl:us.length=ps.length:=by rw[<-r.length];exact F.len _ _ _ _ sp
 refine wpAny_call<|codeAny_mono (F.run X.A X.stack s1 H1 ⟨us,[]⟩ us vs _ _ hr I1.env0 (by have z:=hb s1 us I1.kIn (by rwa [zyD]);rwa [zyD]at z) r sp) λr s' l9=>?_;cases r with
 |ok fl=>
  cases fl with
  |ret u=>obtain⟨_,_,_,_,_,_,_,z⟩:=l9;exact z.elim
  |next=>exact False.elim l9
  |brk=>exact False.elim l9
  |cont=>exact False.elim l9
 |error v=>
  obtain⟨ea,dx,T,k,H2,rfl,t,w,ek,kp,rp⟩:=t9 hex I1<|l9;cases sZ ek;obtain⟨R2,g2⟩:=R1.more kp;exact q Z' σ M1 ea dx T k H2 s' t R2 (g1.trans g2) rp)
def Fj(he:BZ X kd C an e gf)(hs:swapsWith e none pos.line X.env=pure false):AX X kd C an (.Expr e pos) gf:=by
 with_unfolding_all exact(vV (GM he hs) λD σ H h=>h)
def rL(hN:X.N.Nodup)(hi:X.N[i]? = some y)(hx:Loc X.env.scope y)(he:BZ X kd C an e gf)(hs:swapsWith e (some<|.Name y pos') pos.line X.env=pure false)(hf:X.fn y=true\/X.env.scope.names.lookup y=some .local):
 AX X kd C an (.Assign [.Name y pos'] e pos) gf:=by
 with_unfolding_all exact(vV (C_ hN hi hx he hs hf) λD σ H h=>h)
def Lr(h:AX X kd C an st gf):E3 X kd C an (st::Y') gf:=by
 with_unfolding_all exact(WK (Zq h (show Pw X Y' (λ_ _ _=>False)from λ_ _ _ _ _ _ z=>z.elim)) λD σ H h=>h)
end
def gY(n m:Nat)(g:WU)(ds:List (Bool×D)):Option D:=if ds.length=m then(g<|ya n ds).bind λp=>some p.1 else none
section
variable{P:Program}{w:World}{K:zzA}{mg:Str->Option Value}{base:Heap}{kd:KD}{x qual an:Str}{st:Stmt}{f C:Addr}{fd:FuncData}{N ps:List Str}{k:Nat}{g:WU}
def mI(Fn:Fun K x qual st f fd)(S:FnScope N ps (zp st))
 (hb:∀Mk A outer s H E,Room k (A.deeper<|envOfC qual (zp st) s.heap.objs.size f Mk)->E3 (v9 (Rv P w C an) P w K mg base N qual (zp st) f Mk A outer s H E) kd C an (xx st) g):
 FnOk P w K mg base (Rv P w C an) (k+1) f fd ps (Dn K kd<|gY N.length ps.length g):=by
 with_unfolding_all (
 obtain⟨oc,od,kV,doc,pm,an',Mk,ct,osl,rfl,lk,hcd⟩:=Fn.ex;refine MY lk hcd S (λvs H Q E h=>?_) λA outer s H vs Q E hr so=>⟨_,hb Mk A outer s H E hr, ?_⟩
 . obtain⟨F,ds,r,_,rp,e,_⟩:=h;obtain⟨hl,_⟩:=ite_some'<|e;rw[rp.length,hl]
 . obtain⟨F,ds,r,ht,rp,e,q⟩:=so;obtain⟨hl,e⟩:=ite_some'<|e;obtain⟨⟨d,S'⟩,e1,e⟩:=bS_ e;cases e;refine⟨F,λ_=>False,λ_=>[],ya N.length ds,_,S',Z7 ht rp,e1,λZ' P' Sh ea dx T v H' s' t R' g' rv=>B3 t<|q v H' (λb u hb=>g'.keep b u hb<|HG b)<|rv.less λa z=>.inl<|.inl ⟨rfl,z⟩⟩)
end
section
variable{K:zzA}{kd:KD}{F B:Addr->Prop}{ad:Ad}{as:AS}{σ:St}{H:Hp}
def Rel.unset(j:Nat)(R:Rel K kd F B [] ad as σ H):Rel K kd F B [] (ZA ad j []) (as.set j none) (σ.set j none) H/\∀a,Gw [] (ZA ad j []) a->Gw [] ad a:=by
 have le:∀a,Gw [] (ZA ad j []) a->Gw [] ad a:=λa z=>v_ a z;refine⟨⟨by rw[zzU,zzU];exact R.len,λi hi=>?_,λi=>?_,λi k a h1 h2=>?_,zyI,⋯,R.ftr,λa h1=>?_,λa h1=>R.gtr a<|le a h1,λi s e=>?_⟩,le⟩
 . by_cases e:i=j
   . subst e;exact zJ
   . rw[zQ e];exact R.out i (by rwa [zzU]at hi)
 . by_cases e:i=j
   . subst e;rw[zJ];exact zyI
   . rw[zQ e];exact R.nd i
 . by_cases e:i=j
   . subst e;rw[zJ]at h1;cases h1
   . rw[zQ e]at h1
     by_cases e':k=j
     . subst e';rw[zJ]at h2;cases h2
     . rw[zQ e']at h2;exact R.inj i k a h1 h2
 . obtain⟨b1,b2,b3⟩:=R.btr a h1;exact⟨b1,b2,λz=>b3<|le a z⟩
 . by_cases q:i=j
   . subst q;rw[zJ];have:s=none:=by
      rw[List.getElem?_set]at e;rw[if_pos rfl]at e
      split at e
      . exact(zzY e).symm
      . cases e
     subst this;exact rfl
   . rw[zzX<|Ne.symm q]at e;rw[zQ q,zzX<|Ne.symm q];exact(R.sl i s e).less le
end
def la:∀h1 h2,XB e C dx h1->(∀o,h1.get? e=some o->h2.get? e=some o)->XB e C dx h2:=λ_ _ ⟨o,q,r⟩ k=>⟨o,k _ q,r⟩
def BX{e dx C}{an}{v}(I:Inv X Z' σ H s)(he:H e=none)(hd:H dx=none)(vp:dx≠e)(fe:qo X Z' e)(se:X.s₀.heap.objs.size<=e)(l:dx≠X.env.locals)(cl:∀x c,X.env.cells.lookup x=some c->c≠dx)(pd:∀p ∈ X.pn++Z',p.1≠dx)(s0:X.s₀.heap.get? dx=none)
 (xb:XB e C dx s.heap) (ns:∃mA,s.heap.Ns1 dx mA/\∀f,W3 (([(an,v)]:List (Str×V)).lookup f)<|mA f):Inv X Z' σ (upd (upd H e<|.ext<|XB e C dx) dx<|.xd [(an,v)]) s:=by
 have k:∀b,b≠e->b≠dx->upd (upd H e<|.ext<|XB e C dx) dx (.xd [(an,v)]) b=H b:=λb h1 h2=>by rw[zu h2,zu h1]
 have kn:∀b u,H b=some u->upd _ dx _ b=some u:=λb u z=>by rwa [k b (zO z he)<|zO z hd]
 refine⟨I.ok,I.os,I.bare,⟨I.base.keep,I.base.slot,λb o z n hx=>?_,I.base.there,λb xs z=>kn b _<|I.base.tups b xs z,λb o u z=>kn b _<|I.base.frzs b o u z,λb ps z=>?_⟩,I.loc,I.cell, ?_,λx c z=>?_,λp hp=>?_,λa o z=>?_,I.len⟩
 . rw[k b (λq=>absurd (zzK (zxG z) se)<|by rw[q];exact Nat.lt_irrefl _) λq=>by rw[q,s0]at z;cases z];exact I.base.free b o z n hx
 . obtain⟨more,z'⟩:=I.base.tbls b ps z;exact⟨more,kn b _ z'⟩
 . rw[k _ (Ne.symm fe.2.1)<|Ne.symm l];exact I.free
 . rw[k c (fe.2.2.1 x c z)<|cl x c z];exact I.freeC x c z
 . obtain⟨p1,p2,p3,p4,p5⟩:=I.pin p hp;exact⟨p1,by rw[k _ (fe.2.2.2 p hp)<|pd p hp];exact p2,p3,p4,p5⟩
 . by_cases q1:a=dx
   . subst q1;rw[zF]at z;cases z;exact ns
   . by_cases q2:a=e
     . subst q2;rw[zu q1,zF]at z;cases z;obtain⟨o,z1,z2⟩:=xb;exact⟨⟨o,z1,z2⟩,⟨o,z1⟩,la⟩
     . rw[k a q2 q1]at z;exact(I.hok a o z).stay (λb u _ y=>y) (λb y=>kn b _ y) λb xs y=>kn b _ y
def Fk(E)(I:Inv X Z' σ H s):Inv {X with xe:=E,pn:=X.pn++Z'} [] σ H s:={I with ok:={I.ok with},pin:=λp hp=>I.pin p (by rwa [zyD]at hp)}
def Lp(z:qo {X with xe:=E,pn:=X.pn++Z'} pins' b):qo X Z' b:=⟨z.1,z.2.1,z.2.2.1,λp hp=>z.2.2.2 p<|zzP _ hp⟩
def Thr.unpin{C}{an}{e dx T}{v}(t:Thr {X with xe:=E,pn:=X.pn++Z'} C an pins' σ e dx T v H s):Thr X C an Z' σ e dx T v H s:=
 {t with inv:={t.inv with ok:={t.inv.ok with},pin:=λp hp=>t.inv.pin p (zzP _ hp)},fe:=Lp t.fe,fT:=Lp t.fT,pd:=λp hp=>t.pd p (zzP _ hp)}
def IJ(j:Nat)(cn an:Str)(cb:SF)(gb:WU)(c:SF):SF:=λas=>match(cb as).bind Il with
 |some S'=>some (.nx S')
 |none=>(gb as).bind λp=>if j<p.2.length then(c<|p.2.set j<|some<|.lf true<|.er cn an p.1).bind λo=>(Il o).bind λJ'=>some (.nx<|J'.set j none)else none
section
variable{cn an:Str}
def uC(hC:kd.c cn=C)(hb1:P_ X kd body cb)(g_:∀E pn,E3 {X with xe:=E,pn:=pn} kd C an body gb)
 (hgS:Gl X sx) (hmS:X.mg sx=some (.ref S)) (hdS:(sx==("__debug__":Str))=false) (hex:W.exmOne X.K (.ref C) (.ref S)=some true)
 (hnx:∀v s,¬X.xe v s) (vq:X.stack=X.env::X.outer) (hfm:X.env.frame=some X.env.locals)
 (hN:X.N.Nodup) (hj:X.N[j]? = some en) (hjl:X.env.kindOf en=some .local) (hff:X.fn en=true\/X.env.scope.names.lookup en=some .local)
 (hs:∀e,P_ (qK X e []) kd (b0::suite) c):
 Rw X kd (.Try body [.ExceptHandler (some<|.Name sx sp) (some en) (b0::suite) hp] [] [] pos) (IJ j cn an cb gb c):=by
 subst hC
 with_unfolding_all (
 intro Z' s σ H D I h;obtain⟨F0,B0,ad,as,o,R,e,q⟩:=h;have e:(match(cb as).bind Il with
  |some S'=>some (.nx S')
  |none=>(gb as).bind λp=>if j<p.2.length then(c<|p.2.set j<|some<|.lf true<|.er cn an p.1).bind λo=>(Il o).bind λJ'=>some (.nx<|J'.set j none)else none)=some o:=e
 cases k:(cb as).bind Il with
 |some S'=>
  rw[k]at e;cases e;obtain⟨o1,h1,h2⟩:=bS_ k;cases GT h2;refine wpAny_Try_except<|zxQ (hb1 Z' s σ H {nx:=λP' H'=>∃Sh,Rel X.K kd F0 B0 [] Sh S' P' H'/\Grow (Gw [] ad) H (Gw [] Sh) H',rt:=λ_ _=>False} I ⟨F0,B0,ad,as,_,R,h1,λP' Sh H' R' g'=>⟨Sh,R',g'⟩⟩) (λfl s1 z=>?_) λ_ _ z=>(hnx _ _ z).elim;cases fl with
  |ret u=>obtain⟨_,_,_,_,_,z⟩:=z;exact z.elim
  |brk=>obtain⟨_,_,_,z⟩:=z;exact z.elim
  |cont=>obtain⟨_,_,_,z⟩:=z;exact z.elim
  |next=>
   obtain⟨iT,H1,I1,M1,R1,g1⟩:=z;exact Q_ Z' s1 iT H1 D I1 (q iT M1 H1 R1 g1)
 |none=>
  rw[k]at e;obtain⟨⟨d,U'⟩,h1,e⟩:=bS_<|e;obtain⟨vj,e⟩:=ite_some' e;obtain⟨o1,J',h4,h5,e⟩:=yu e;cases e;cases GT h5;dsimp only at vj h4;refine wpAny_Try_except<|zxQ (g_ _ (X.pn++Z') [] s σ H {nx:=λ_ _=>False,rt:=λ_ _=>False} (Fk _ I) ⟨F0,B0,ad,as,d,U',R,h1, ?_⟩) (λfl s1 z=>?_) λ_ _ z=>z
  . intro pins' P' Sh ea dx T v H' s' t R' g' rp;refine t.unpin.pass (λ_ _ _ _ _ _ _ _ _ h=>h) vq hfm λs2 T2 t=>?_;refine wpAny_handleBy_cons (codeAny_handlers_test ?_) (by intro q;cases q);refine vJ (X:=qK X ea []) (Tx t.inv (λp z=>nomatch z)) hgS hmS ?_ hdS;have LT:PySem.W.Looks (model X.prog X.w) s2.heap (typeOf<|.ref ea) (.ref<|kd.c cn):=by
     obtain⟨⟨oe,vs,z,zc,_⟩,_⟩:=t.fly;exact(PySem.W.Looks.ld z).andThen (by rw[zc];exact .now)
    refine(W.exm_one t.inv.kIn LT hex).here ?_;refine codeAny_handlers_suite_as ?_;refine t.land vq λs3 t=>?_;refine VR t.inv hN hj (.inl hjl) (v:=.ref ea) rfl (λs5 I5 hsame=>?_) hff;obtain⟨a5,sb5,ha5⟩:=hsame;have a5d:dx≠a5:=by
     rcases ha5 with z|z
     . rw[z];exact t.l
     . exact λw=>t.cl en a5 z w.symm
    have a5e:ea≠a5:=by
     rcases ha5 with z|z
     . rw[z];exact t.fe.2.1
     . exact λw=>t.fe.2.2.1 en a5 z w.symm
    obtain⟨⟨oe,vs,ge,ce,de,fv,_⟩,_,_⟩:=t.fly;have xb5:XB ea (kd.c cn) dx s5.heap:=⟨oe,(sb5.2 ea a5e).trans ge,ce,de,vs,fv⟩;obtain⟨mA,⟨od,l0,ep',gd,dd⟩,hrel⟩:=t.ns;have gd5:=(sb5.2 dx a5d).trans gd;have I6:=BX I5 t.ne t.nd t.d1 t.fe t.se t.l t.cl t.pd t.s0 xb5 ⟨mA,⟨od,l0,ep',gd5,dd⟩,hrel⟩;have kn:∀b u,H' b=some u->upd (upd H' ea<|.ext<|XB ea (kd.c cn) dx) dx (.xd [(an,v)]) b=some u:=λb u z=>by rw[zu<|zO z t.nd,zu<|zO z t.ne];exact z
    obtain⟨R7,g7⟩:=R'.more kn;have R8:=R7.put vj<|.lf<|Rp.er (λz=>R'.trk true _ z t.ne) (λz=>R'.trk true _ z t.nd) (by rw[zu<|Ne.symm t.d1,zF]) zF<|Hv kn rp;refine zxQ (hs ea Z' s5 _ _ {nx:=λr9 H6=>∃ad6,Rel X.K kd F0 B0 [] ad6 J' r9 H6/\Grow (Gw []<|ZA Sh j []) _ (Gw [] ad6) H6,rt:=λ_ _=>False} (Tx I6 (λp z=>nomatch z)) ⟨_,_,_,_,_,R8,h4,λr9 ad6 H6 R6' g6=>⟨ad6,R6',g6⟩⟩) (λfl s6 z=>?_) λ_ _ z=>(hnx _ _ z).elim;cases fl with
    |ret u=>obtain⟨_,_,_,_,_,z⟩:=z;exact z.elim
    |brk=>obtain⟨_,_,_,z⟩:=z;exact z.elim
    |cont=>obtain⟨_,_,_,z⟩:=z;exact z.elim
    |next=>
     obtain⟨r9,H6,I6',ad6,R6',g6⟩:=z;obtain⟨R9,le9⟩:=R6'.unset j;refine F8 (Vr I.ok I6') hN hj hjl λs7 I7=>⟨r9.set j none,H6,I7, ?_⟩;refine q _ _ H6 R9 ?_;exact(g'.trans<|g7.trans<|(Grow.less λa z=>v_ a z).trans g6).trans<|Grow.less le9
  . cases fl with
    |ret u=>obtain⟨_,_,_,_,_,z⟩:=z;exact z.elim
    |brk=>obtain⟨_,_,_,z⟩:=z;exact z.elim
    |cont=>obtain⟨_,_,_,z⟩:=z;exact z.elim
    |next=>obtain⟨_,_,_,z⟩:=z;exact z.elim)
end
structure XI(K:zzA)(C:Addr)(an:Str):Prop where
 ga:W.findIn K (.ref C) "__getattribute__"=some (some<|.builtin "BaseException.__getattribute__")
 gh:W.findIn K (.ref C) "__getattr__"=some none
 mb:W.mroIn K C (.type "BaseException")=some true
 hd:W.hasDictIn K C=true
 ha:W.findIn K (.ref C) "__class__"=some (some<|.builtin "object.__class__")
 hn:W.specialIn K (.builtin "object.__class__") "__get__"=some (some<|.builtin "getset_descriptor.__get__")
 ht:W.takesIn K (.builtin "object.__class__")=some true
 hm:W.mroIn K C (.type "object")=some true
 at_:W.findIn K (.ref C) an=some none
section
open PySem.W
variable{prog:Program}{w:World}{A:Around}{E:Value->Shared->Prop}{s:Shared}{K:Frag}{x C:Addr}{ox:Obj}{od:Obj}{name an:Str}{tk:Tok}
def EM{fill expr}{Q}(Z:XI K C an)(X:K.In s.heap)(I:InstAt s.heap x ox C (some od))
 (h:wpAny (model prog w) A.in1 (Builtin.«object.__getattribute__» ⟨[.ref x,.str name tk],[]⟩) (λfin s'=>match fin with | .done (.ret v)=>wpAny (model prog w) A (handedOut v) Q E s'|_=>False) (λ_ _=>False) s):
 wpAny (model prog w) A (getAttrBy (.ref x) (.str name tk) fill expr) Q E s:=by
 have FX:=PySem.F.excAttr_ValueError;have L0:=I.type (M:=model prog w);have L1:=looks_findIn (M:=model prog w) X Z.ga;have L2:Looks (model prog w) s.heap (hookBefore<|.ref C) none:=by
  unfold hookBefore;exact looks_findIn X Z.gh
 unfold getAttrBy;refine zxK<|zxD<|L0.here<|zxD<|L1.here ?_;dsimp only;unfold getAttrByItsOwn;refine zxD<|L2.here<|zxD<|wpAny_attempt<|zxK ?_;unfold callGetattribute;rw[show(expr&&onTheHeap (Value.builtin "BaseException.__getattribute__"))=false from Bool.and_false _,if_neg<|by decide];unfold boundAndCalled;rw[FX.ga.bind];refine wpAny_call<|codeAny_call_builtin FX.ga.plain PySem.F.entry_bexc_ga ?_;refine @check_slot (model prog w) _ _ s "BaseException.__getattribute__" "BaseException" "__getattribute__" (.ref x) [.str name tk] [] _ (by decide +kernel) (by decide +kernel) (L0.andThen<|looks_mroIn X Z.mb) (PySem.F.args_bexc_ga (.ref x)<|.str name tk) ?_;refine zxQ h (λfin s' z=>?_) λ_ _ z=>z.elim
 rcases fin with(_|_|_|_)|_<;>first|exact z|exact z.elim
def MI{v}{expr}{Q}(Z:XI K C an)(X:K.In s.heap)(I:InstAt s.heap x ox C (some od))(hf:findObj K C (some od) name=some (.value v))(hh:handedIn v=true)(h:Q v {s with toks:=s.toks+1}):
 wpAny (model prog w) A (getAttr (.ref x) name expr) Q E s:=by
 unfold getAttr;refine zxD<|wpAny_mkText<|EM Z X I ?_;refine zxD<|zxE<|zxD<|zxE<|zxD<|(I.type).at<|zxD<|(looks_find X I hf).at ?_;refine zxE ?_;show wpAny _ _ _ _ _ _;rw[handedOut_of hh];exact zxE h
def MS{Q}(Z:XI K C an)(X:K.In s.heap)(I:InstAt s.heap x ox C (some od))(h:Q (some<|.ref C) {s with toks:=s.toks+1}):wpAny (model prog w) A (getAttr? (.ref x) "__class__") Q E s:=by
 unfold getAttr?;refine zxD<|wpAny_mkText ?_;unfold getAttrBy?;refine zxD<|wpAny_attempt<|EM Z X I ?_;have L1:=looks_find (M:=model prog w) X I<|findObj_data (by obtain⟨cd,hc,_⟩:=any_some Z.hd;rw[hc];rfl) Z.ha Z.hn Z.ht;refine zxD<|zxE<|zxD<|zxE<|zxD<|(I.type (M:=model prog w)).at<|zxD<|L1.at ?_;refine zxD<|zxK<|wpAny_call<|class_get X I Z.hm ?_;refine zxE ?_;show wpAny _ _ _ _ _ _;exact zxE<|zxE h
end
section
variable{kd:KD}
def NA{K}{x C}{an}{ox od}(Z:XI K C an):PySem.W.KitX K (.ref x) (.ref C) (λh=>PySem.W.InstAt h x ox C<|some od)where
 ty:=λ_ _ _ I=>I.type
 it:=λ_ _ X _=>by
  obtain⟨cdD,hcD,_⟩:=W.any_some Z.hd;unfold W.clsIn at hcD
  split at hcD
  . rename_i c' d' cd' sl' ho;intro A' Q' E' s' k q;exact zxD<|wpAny_loadPart (k _ _<|X _ _ ho)<|zxE q
  . cases hcD
 ne:=λh tp dd zM n sl X htp=>by
  obtain⟨cdD,hcD,_⟩:=W.any_some Z.hd;refine Bool.eq_false_iff.mpr λq=>?_;have e:=Value.ref.inj<|beq_iff_eq.mp q;subst e;unfold W.clsIn at hcD
  split at hcD
  . rename_i c' d' cd' sl' ho;have z:=(X _ _ ho).symm.trans htp;cases z
  . cases hcD
 ca:=λX I k=>MS Z X I k
def G8{a}{c an}{v}(I:Inv X Z' σ H s)(h1:H a=some (.ext<|XB a (kd.c c) dx))(h2:H dx=some (.xd [(an,v)])):∃ox od,PySem.W.InstAt s.heap a ox (kd.c c) (some od)/\∃u,RelV v u/\W.lookIn an od=some (some u):=by
 obtain⟨⟨o,g1,g2,g3,vs,g4⟩,_,_⟩:=I.hok a _ h1;obtain⟨mA,hNs,hrel⟩:=I.hok dx _ h2;obtain⟨od,ho,hl⟩:=BM hNs;refine⟨o,od,⟨g1,g2, ?_, ?_⟩, ?_⟩
 . unfold W.notCls;rw[g4]
 . rwa [g3]
 . have z:=hrel an;rw[show([_]:List _).lookup an=some v from ⋯]at z;obtain⟨u,e,r⟩:=W3.some_of z;exact⟨u,r,by rw[hl,e]⟩
noncomputable def N5(c an:Str)(b:Bool):D->Option R0
 | .er c' an' _=>if c'=c/\an'=an then some (.im<|.bl b)else none
 |_=>none
noncomputable def nu(c an:Str):D->Option R0
 | .er c' an' d=>if c'=c/\an'=an then some (.im d)else none
 |_=>none
variable{an:Str}
def SY{b}{cv}{w}(Z:XI X.K (kd.c c) an)(hc:∀u,RelV w u->u=cv)(hk:W.kitOne X.K (.ref<|kd.c c) cv=some b):
 Yn X (.builtin "isinstance") (λxs H Q=>∃e dx v,xs=[.ref e,w]/\H e=some (.ext<|XB e (kd.c c) dx)/\H dx=some (.xd [(an,v)])/\Q (.bl b) H):=by
 intro Z' s σ H xs us Q I r ⟨e,dx,v,ex,h1,h2,q⟩;subst ex;cases r with
 |cons r1 r2=>
  cases r2 with
  |cons r2 r3=>
   cases r3;cases(r1);cases hc _ r2;obtain⟨ox,od,hi,_⟩:=G8 I h1 h2;exact W.kia_one (NA Z) I.kIn hi hk ⋯ λtk=>⟨.bl b,H,I.tok tk,rfl,q⟩
def Bj{b}{cs:List Addr}(Z:XI X.K (kd.c c) an)(hk:W.kitAny X.K (.ref<|kd.c c) (cs.map .ref)=some b):
 Yn X (.builtin "isinstance") (λxs H Q=>∃e dx v t,xs=[.ref e,.ref t]/\H e=some (.ext<|XB e (kd.c c) dx)/\H dx=some (.xd [(an,v)])/\H t=some (.tup<|cs.map .ref)/\Q (.bl b) H):=by
 intro Z' s σ H xs us Q I r ⟨e,dx,v,t,ex,h1,h2,ht,q⟩;subst ex;cases r with
 |cons r1 r2=>
  cases r2 with
  |cons r2 r3=>
   cases r3;cases(r1);cases(r2);obtain⟨_,zM,rv,⟨o,g1,g2,n,g3⟩⟩:=I.hok t _ ht;have ei:∀{l:List Addr}{us:List Value},zK (l.map V.ref) us->us=l.map Value.ref:=by
    intro l
    induction l with
    |nil=>intro us r;cases r;rfl
    |cons a l ih=>
     intro us r;cases r with
     |cons ra rb=>
      cases(ra);rw[ih rb];rfl
   cases ei rv;obtain⟨oc,odd,odt,osl⟩:=o;subst g2;subst g3;obtain⟨ox,od,hi,_⟩:=G8 I h1 h2;exact W.kia_tup (NA Z) I.kIn hi g1 hk ⋯ λtk=>⟨.bl b,H,I.tok tk,rfl,q⟩
def Z5(hg:Gl X x)(hm:X.mg x=some (.ref C))(hd:(x==("__debug__":Str))=false:=by decide):PE X (.Name x p) (tC<|.ref C):=λ_ _ _ H _ I q=>vJ I hg hm ⟨.ref C,H,I,rfl,q⟩ hd
def Gs(h:f1 fa g as=some (r,S')):∃p d lv r0,fa as=some (p,S')/\p.frz.view S'=some (d,lv)/\g d=some r0/\wrap lv r0=some r:=by
 obtain⟨⟨p,U'⟩,⟨d,lv⟩,r0,h1,h2,h3,h⟩:=yU h;obtain⟨z,h4,h⟩:=bS_ h;cases h;exact⟨p,d,lv,r0,h1,h2,h3,h4⟩
def Fo(h:N5 c an b d=some r):∃d',d = .er c an d'/\r = .im (.bl b):=by
 cases d with
 |er c' an' d'=>
  obtain⟨⟨rfl,rfl⟩,e⟩:=zv<|h;exact⟨d',rfl,e.symm⟩
 |_=>cases h
def sh(h:nu c an d=some r):∃d',d = .er c an d'/\r = .im d':=by
 cases d with
 |er c' an' d'=>
  obtain⟨⟨rfl,rfl⟩,e⟩:=zv<|h;exact⟨d',rfl,e.symm⟩
 |_=>cases h
def N4{C}{cv}{w}{ec}(hC:kd.c c=C)(Z:XI X.K C an)(hc:∀u,RelV w u->u=cv)(hk:W.kitOne X.K (.ref C) cv=some b)
 (hg:Gl X x) (hm:X.mg x=none) (hv:bootBuiltins x=some (.builtin "isinstance")) (ha:AE X kd a fa) (l8:PE X ec (tC w))
 (hn:x≠"__name__") (vv:(x==("__debug__":Str))=false) (he:starEach [a,ec] X.env=(false,eval a X.env)::starEach [ec] X.env) (he2:starEach [ec] X.env=(false,eval ec X.env)::starEach [] X.env) (C':(backTo pos<|starEach [ec] X.env).any (·.1)=false):
 AE X kd (.Call (.Name x p) [a,ec] [] pos) (f1 fa<|N5 c an b):=by
 subst hC
 with_unfolding_all exact(yg (YZ (SY Z hc hk) hg hm hv (yj ha (yj l8 Zn he2) he) hn vv he C') λσ H Q h=>by
  obtain⟨F,B,ad,as,r,S',R,e,q⟩:=h;obtain⟨p,d,lv,r0,h1,h2,h3,h4⟩:=Gs e;obtain⟨d',rfl,rfl⟩:=Fo h3;refine y9 R h1 λv M1 H1 R1 Co g1=>?_;have vw:=yS.vw R1 Co h2;cases vw with
  |er z1 z2 z3=>exact⟨_,_,_,rfl,z1,z2,(wa R1 h4 λw T' H' R' vb g'=>q w T' M1 H' R' vb<|g1.trans g') _ H1 (λ_ _ z=>z)<|.bl b⟩)
def JP{C}{cs:List Addr}{es}{ctx:Nat}{t}(hC:kd.c c=C)(Z:XI X.K C an)(hk:W.kitAny X.K (.ref C) (cs.map .ref)=some b)(hz:cs.length<=1000)
 (hg:Gl X x) (hm:X.mg x=none) (hv:bootBuiltins x=some (.builtin "isinstance")) (ha:AE X kd a fa) (hes:PA X es t) (ht:∀σ H Q,Q (cs.map .ref) H->t σ H Q)
 (hn:x≠"__name__") (vv:(x==("__debug__":Str))=false) (he:starEach [a,.Tuple es ctx p2] X.env=(false,eval a X.env)::starEach [.Tuple es ctx p2] X.env) (he2:starEach [.Tuple es ctx p2] X.env=(false,eval (.Tuple es ctx p2) X.env)::starEach [] X.env) (C':(backTo pos<|starEach [.Tuple es ctx p2] X.env).any (·.1)=false):
 AE X kd (.Call (.Name x p) [a,.Tuple es ctx p2] [] pos) (f1 fa<|N5 c an b):=by
 subst hC
 with_unfolding_all exact(yg (YZ (Bj Z hk) hg hm hv (yj ha (yj (Hi hes) Zn he2) he) hn vv he C') λσ H Q h=>by
  obtain⟨F,B,ad,as,r,S',R,e,q⟩:=h;obtain⟨p,d,lv,r0,h1,h2,h3,h4⟩:=Gs e;obtain⟨d',rfl,rfl⟩:=Fo h3;refine y9 R h1 λv M1 H1 R1 Co g1=>?_;have vw:=yS.vw R1 Co h2;have rq:=wa R1 h4 λw T' H' R' vb g'=>q w T' M1 H' R' vb<|g1.trans g';cases vw with
  |er z1 z2 z3=>
   refine ht σ H1 _ ⟨by rw[zzB,sizeLine_eq];omega,λq hq=>?_⟩;have k:∀b u,H1 b=some u->upd H1 q (.tup<|cs.map .ref) b=some u:=λb u y=>by rwa [zu<|zO y hq]
   exact⟨_,_,_,q,rfl,k _ _ z1,k _ _ z2,zF,rq _ _ k<|.bl b⟩)
def Ih(hC:kd.c c=C)(Z:XI X.K C an)(ha:AE X kd a fa)(hb:attributeBase a an X.env (eval a X.env)=eval a X.env):
 AE X kd (.Attribute a an pos) (f1 fa<|nu c an):=by
 subst hC
 with_unfolding_all (
 intro Z' s σ H Q I z;obtain⟨F,B,ad,as,r,S',R,e,q⟩:=z;obtain⟨p,d,lv,r0,h1,h2,h3,h4⟩:=Gs e;obtain⟨d',rfl,rfl⟩:=sh h3;refine IS hb<|yV (ha Z' s σ H (λv H'=>∃M1,Rel X.K kd F B [] M1 S' σ H'/\yS X.K kd F B [] M1 σ H' v p.frz/\Grow _ H _ H') I<|y9 R h1 λv M1 H1 R1 Co g1=>⟨M1,R1,Co,g1⟩) λu s1 ⟨v,H1,I1,r1,M1,R1,Co,g1⟩=>?_;have vw:=yS.vw R1 Co h2;cases vw with
 |er z1 z2 z3=>
  rename_i ea dx v;cases(r1);obtain⟨ox,od,hi,u,ru,hl⟩:=G8 I1 z1 z2;exact MI Z I1.kIn hi (W.findObj_own Z.hd Z.at_ rfl hl) (Bg ru) ⟨v,H1,I1.tok _,ru,(wa R1 h4 λw T' H' R' vb g'=>q w T' M1 H' R' vb<|g1.trans g') v H1 (λ_ _ z=>z) z3⟩)
end
structure RoomQ(k:Nat)(A:Around):Prop where
 dp:A.depth+3*k+5<recursionLimit
 un:A.units+16*k+200<cLine
def roomQ(r:Room k A)(h:j<=k):RoomQ j A:=⟨by have:=r.dp;omega,by have:=r.un;omega⟩
def tj(r:RoomQ k A):RoomQ k (A.mark v):=⟨r.dp,r.un⟩
structure FnQ(P:Program)(w:World)(K:zzA)(mg:Str->Option Value)(base:Heap)(k:Nat)(f:Addr)(fd:FuncData)(ps:List Str)(sp:Sp):Prop where
 len:∀vs H Q E,sp vs H Q E->vs.length=ps.length
 run:∀(A:Around) (outer:List Env) (s:Shared) (H:Hp) (args:Args) (us:List Value) (vs:List V) (Q:VK) (E:XK),RoomQ k A->Env0 P w K mg base A outer s H->BindsTo s fd args (ps.zip us)->zK vs us->sp vs H Q E->
  codeAny (model P w) A (.call (.ref f) args) (CR VM outer P w H s Q E) s
abbrev jb(P:Program)(w:World)(K:zzA)(mg:Str->Option Value)(base:Heap)(N:List Str)(qual:Str)(scope:Scope)(f:Addr)(cd:Value)(A:Around)(outer:List Env)(s:Shared)(H:Hp)(E:XK):Cx:=
 {v9 VM P w K mg base N qual scope f cd A outer s H E with calm:=false,xe:=λ_ _=>False}
section
variable{P:Program}{w:World}{K:zzA}{mg:Str->Option Value}{base:Heap}
def tD{kd}{x qual}{st}{f}{fd}{N ps}{k:Nat}{c}(Fn:Fun K x qual st f fd)(S:FnScope N ps (zp st))
 (hb:∀Mk A outer s H E,RoomQ k (A.deeper<|envOfC qual (zp st) s.heap.objs.size f Mk)->P_ (jb P w K mg base N qual (zp st) f Mk A outer s H E) kd (xx st) c):
 FnQ P w K mg base (k+1) f fd ps (G9 K kd<|wj N.length ps.length c):=by
 with_unfolding_all (
 obtain⟨oc,od,kV,doc,pm,an,Mk,ct,osl,rfl,lk,hcd⟩:=Fn.ex;have len:∀vs H Q E,G9 K kd (wj N.length ps.length c) vs H Q E->vs.length=ps.length:=λvs H Q E h=>by
  obtain⟨F,ds,r,_,rp,e,_⟩:=h;unfold wj at e
  by_cases hl:ds.length=ps.length
  . rw[rp.length,hl]
  . rw[if_neg hl]at e;cases e
 refine⟨len,λA outer s H args us vs Q E hr e0 hbn r so=>?_⟩;have hl:=len _ _ _ _ so;have KX:=e0.mod.kin.keeps λb o e=>(e0.bs b o e).1;have lim:=e0.mod.nolimit.keeps λb o e=>(e0.bs b o e).1;have hkind:∀y ∈ ps.zip us,(zp st).names.lookup y.1=some .local\/((zp st).names.lookup y.1=some .cell/\((cellsFrom (s.heap.objs.size+1) (zp st).names []).lookup y.1).isSome=true):=λ⟨n,v⟩ hy=>by
  rcases S.par n (List.of_mem_zip hy).1 with q|q
  . exact .inl q
  . exact .inr ⟨q,W.cellsFrom_some _ _ _<|.inl q⟩
 refine codeAny_call_function (by have:=hr.dp;omega) (KX _ _ lk) rfl S.co S.gen rfl (W.codeRec_of KX hcd)<|hbn _ _ _ _ ?_;refine wpAny_newFunctionEnv_cells S.kind hkind λenv he s1 x=>?_;subst he;refine⟨lim.keeps x.toInCall.keep,codeAny_func ?_⟩;have e0':Env0 P w K mg base {A with handled:=none} outer s H:=⟨e0.frames,e0.mod,e0.bs,e0.bsz,e0.funs,e0.frf,e0.hok,e0.bare⟩;have I0:Inv (v9 VM P w K mg base N qual (zp st) f Mk {A with handled:=none} outer s H E) [] (L2.start N vs) H s1:=PC S rfl e0' hl r x;have I:Inv (jb P w K mg base N qual (zp st) f Mk A outer s H E) [] (L2.start N vs) H s1:={I0 with ok:={I0.ok with hd:=nofun,frames:=Around.frames_deeper e0.frames}};obtain⟨F,ds,r',ht,rp,e,q⟩:=so;unfold wj at e
 by_cases hl':ds.length=ps.length
 . rw[if_pos hl']at e;obtain⟨o,e1,e⟩:=bS_ e;refine zxQ (hb Mk A outer s H E ⟨by have:=hr.dp;show A.depth+1+3*k+5<_;omega,by have:=hr.un;show A.units+3+16*k+200<_;omega⟩ [] s1 (L2.start N vs) H {nx:=λ_ H'=>Q .non H',rt:=Q} I ⟨F,λ_=>False,λ_=>[],ya N.length ds,o,Z7 ht rp,e1, ?_⟩) (λfl s' hs=>?_) λe s' hs=>False.elim hs
   . cases o with
     |nx as=>cases e;exact λP' Sh H' R g=>Kn q ⟨zyI,(λ_ m=>nomatch m),.lf .non⟩ (g.trans<|Grow.less (λ_ z=>nomatch z))
     |rt o=>cases e;exact λv T H' ro g=>Kn q ro g
     |bk=>cases e
     |ct=>cases e
   . have fin:∀{P':St}{H':Hp}{v:V}{u:Value},Inv (jb P w K mg base N qual (zp st) f Mk A outer s H E) [] P' H' s'->RelV v u->Q v H'->CE outer P w H s Q u s':=
      λ{P' H' v u} J rv q=>⟨v,H',J.os,J.bare,J.base,J.hok,rv,q⟩
     cases fl with
     |ret u=>
      obtain⟨v,P',H',J,rv,q⟩:=hs;exact fin J rv q
     |next=>
      obtain⟨P',H',J,q⟩:=hs;exact fin (v:=V.non) J rfl q
     |brk=>
      obtain⟨_,_,_,q⟩:=hs;exact False.elim q
     |cont=>
      obtain⟨_,_,_,q⟩:=hs;exact False.elim q
 . rw[if_neg hl']at e;cases e)
end
def Od(F:FnQ X.prog X.w X.K X.mg X.base k f fdt ps (G9 X.K kd gg))(hr:RoomQ k X.A)(hg:Gl X x)(hm:X.mg x=some (.ref f))(hk:W.keepIn X.K (.ref f)=true)
 (hb:Binds X.K fdt ps []) (ha:AA X kd (a::es) fr) (vv:(x==("__debug__":Str))=false) (he:starEach (a::es) X.env=(false,eval a X.env)::starEach es X.env) (C':(backTo pos<|starEach es X.env).any (·.1)=false):
 AE X kd (.Call (.Name x p) (a::es) [] pos) (zf fr gg):=by
 with_unfolding_all (
 intro Z' s σ H Q I h;obtain⟨F0,B,ad,as,r,S',R,e,q⟩:=h;obtain⟨⟨rs,U'⟩,ds,o,h1,h2,h3,e⟩:=yU e;cases e;refine wpAny_Call_Name_kw<|vJ I hg hm ?_ vv;refine W.callWith_K I.ok.mod.kin hk (zxQ (ha pos Z' s σ H (λvs H1=>∃M1,Rel X.K kd F0 B [] M1 U' σ H1/\RVs X.K kd F0 B M1 σ H1 vs rs/\Grow (Gw [] ad) H _ H1) I ⟨F0,B,ad,as,rs,U',R,h1,λvs M1 H1 R1 Co g1=>⟨M1,R1,Co,g1⟩⟩) (λus s1 z=>?_) λ_ _ z=>z) he C';obtain⟨vs,H1,I1,r,M1,R1,Co,g1⟩:=z;refine⟨I1.kIn, ?_⟩;have sp:G9 X.K kd gg vs H1 Q (λ_ _ _=>False):=⟨_,ds,o,R1.trk true,Ka R1 Co h2,h3,CM R1 λw T' H' R' vb g'=>q w T' M1 H' R' vb<|g1.trans g'⟩;have hl:us.length=ps.length:=by rw[<-r.length];exact F.len _ _ _ _ sp
 refine wpAny_call<|codeAny_mono (F.run X.A X.stack s1 H1 ⟨us,[]⟩ us vs _ _ hr I1.env0 (by have z:=hb s1 us I1.kIn (by rwa [zyD]);rwa [zyD]at z) r sp) λr s' l9=>?_;cases r with
 |error v=>exact False.elim l9
 |ok fl=>
  cases fl with
  |ret u=>exact I1.after l9
  |next=>exact False.elim l9
  |brk=>exact False.elim l9
  |cont=>exact False.elim l9)
noncomputable def ED:D->List D->Option R0
 | .str x,[.str y]=>if(y.length==0)=false/\x.length<=sizeLine then some (.im<|.tup [.str (Txt.partition x y).1,.str (Txt.partition x y).2.1,.str (Txt.partition x y).2.2])else none
 |_,_=>none
noncomputable def mK:D->List D->Option R0
 | .str x,[.str y]=>some (.im<|.bl<|Txt.startswith x y)
 |_,_=>none
noncomputable def An:D->List D->Option R0
 | .str x,[.str y,.int k]=>if(y.length==0)=false/\x.length<=sizeLine/\(decide (k < -(2 ^ 63:Int))||decide (k ≥ 2 ^ 63))=false/\(Builtin.Str.partsBetween x (Builtin.Str.occurrences x y 0 x.length<|limitOf x k) y.length).length<=sizeLine then some (.fl<|(Txt.splitMax x y k).map .str)else none
 |_,_=>none
def RI:ud X kd "str.startswith" mK:=by
 intro Z' s σ H x xs v us Q I rx r h;obtain⟨O,d,ds,r0,ht,vx,vl,he,q⟩:=h;unfold mK at he
 split at he
 . cases he;cases vx;obtain⟨t,rfl⟩:=rx;obtain⟨y',rfl,vy⟩:=wz vl;cases vy;obtain⟨u',rfl,ru⟩:=vals1 r;obtain⟨u,rfl⟩:=ru;exact call_gives PySem.F.slot_str_startswith ⋯ PySem.F.entry_str_startswith (PySem.F.args_str_startswith_2 _ _) (gives_str_startswith _ _ t u) ⟨.bl _,H,I,rfl,yc q<|.bl _⟩
 . cases he
def GY:ud X kd "str.partition" ED:=by
 intro Z' s σ H x xs v us Q I rx r h;obtain⟨O,d,ds,r0,ht,vx,vl,he,q⟩:=h;unfold ED at he
 split at he
 . rename_i x y;obtain⟨⟨hy,hx⟩,he⟩:=zv he;cases he;cases vx;obtain⟨t,rfl⟩:=rx;obtain⟨y',rfl,vy⟩:=wz vl;cases vy;obtain⟨u',rfl,ru⟩:=vals1 r;obtain⟨u,rfl⟩:=ru;refine call_meets PySem.F.slot_str_partition ⋯ PySem.F.entry_str_partition (PySem.F.args_str_partition_2 _ _) (meets_str_partition x y t u hy hx) ?_;have fin:∀p q' r' a b c tk,Txt.partition x y=(p,q',r')->EP X Z' σ Q _ {s with heap:=s.heap.push {cls:=.type "tuple",data:=.seq [Value.str p a,.str q' b,.str r' c].toArray},toks:=tk}:=λp q' r' a b c tk e=>by
    rw[e]at q;exact⟨.ref s.heap.objs.size,_,I.laid (λb o e=>zxF _ e) (zzN _) (show xJ X.prog X.w _ _ _ (.tup [.str p,.str q',.str r'])from⟨by show 3<=sizeLine;decide,_,.cons ⟨a,rfl⟩<|.cons ⟨b,rfl⟩<|.cons ⟨c,rfl⟩ .nil,IsTup.new _ _⟩),rfl,Ma ht q (.cons (.str _)<|.cons (.str _)<|.cons (.str _) .nil) _<|I.hok.fresh<|zzN _⟩
   cases ho:Builtin.Str.occurrences x y 0 x.length 1 with
   |nil=>exact fin _ _ _ _ _ _ _ (by unfold Txt.partition;rw[ho])
   |cons i r=>exact fin _ _ _ _ _ _ _ (by unfold Txt.partition;rw[ho])
 . cases he
def Ng:ud X kd "str.split" An:=by
 intro Z' s σ H x xs v us Q I rx r h;obtain⟨O,d,ds,r0,ht,vx,vl,he,q⟩:=h;unfold An at he
 split at he
 . rename_i x y k;obtain⟨⟨hy,hx,hk,hn⟩,he⟩:=zv he;cases he;cases vx;obtain⟨t,rfl⟩:=rx;cases vl with
   |cons vy vl=>
   obtain⟨z',rfl,vz⟩:=wz vl;cases vy;cases vz;cases r with
   |cons ry r=>
   obtain⟨w',rfl,rw'⟩:=vals1 r;obtain⟨u,rfl⟩:=ry;obtain⟨v,rfl⟩:=rw';have fin:∀l tk,l.map (·.1)=Txt.splitMax x y k->l.length<=sizeLine->EP X Z' σ Q (.ref s.heap.objs.size) {s with heap:=s.heap.push {cls:=.type "list",data:=.seq (strValues l).toArray},toks:=tk}:=λl tk hl hz=>by
    refine⟨.ref s.heap.objs.size,_,I.laid (λb o e=>zxF _ e) (zzN _) (show xJ X.prog X.w _ _ _ (.lst<|(Txt.splitMax x y k).map V.str)from⟨by rw[<-hl];simpa using hz,strValues l,0,VQ hl,zxH _ rfl⟩),rfl,Wn q (UP _) _<|I.hok.fresh<|zzN _⟩
   cases h1:(decide (x.length<y.length)||decide (Builtin.Str.strKind x<Builtin.Str.strKind y))
   . cases hf:(Builtin.Str.occurrences x y 0 x.length<|limitOf x k).isEmpty
     . refine call_meets PySem.F.slot_str_split (typeIs_str _ _ _) PySem.F.entry_str_split (PySem.F.args_str_split_3 _ _ _) (meets_str_split_sep_max x y k t u v hk h1 hy hf hx hn) ?_;rw[strsFrom_eq];exact fin (numbered s.toks _) _ ((numbered_texts _ _).trans ((if_neg<|ne_true_of_eq_false h1).trans<|if_neg<|ne_true_of_eq_false hf).symm) (by have:=congrArg List.length<|numbered_texts s.toks<|Builtin.Str.partsBetween x (Builtin.Str.occurrences x y 0 x.length<|limitOf x k) y.length;rw[zzB]at this;omega)
     . exact call_meets PySem.F.slot_str_split (typeIs_str _ _ _) PySem.F.entry_str_split (PySem.F.args_str_split_3 _ _ _) (meets_str_split_max_not_found x y k t u v hk h1 hy hf)<|fin [(x,t)] s.toks ((if_neg<|ne_true_of_eq_false h1).trans<|if_pos hf).symm (by show 1<=sizeLine;decide)
   . exact call_meets PySem.F.slot_str_split (typeIs_str _ _ _) PySem.F.entry_str_split (PySem.F.args_str_split_3 _ _ _) (meets_str_split_max_cannot_occur x y k t u v hk h1)<|fin [(x,t)] s.toks (if_pos h1).symm (by show 1<=sizeLine;decide)
 . cases he
open PySem PySem.Spec PyProof.Rows L2 PySem.StrLaws PySem.Builtin PySem.Builtin.Str
section
variable{x y:Str}{h:Nat}{t:List Nat}
def Gf(hy:y.cps.toList=h::t){n k:Nat}(ha:At x y n k):x.cps.toList[k]? = some h:=by
 have e:=ha.2;rw[subAt_eq,len_eq y,hy]at e;have z:=congrArg (·[0]?)<|eq_of_beq e;simpa using z
def QC{pre V'}(hx:x.cps.toList=pre++y.cps.toList++V'):At x y x.length pre.length:=by
 refine⟨by rw[len_eq x,len_eq y,hx];simp, ?_⟩;rw[subAt_eq,hx,len_eq y];simp
def Uc{pre p V'}(hx:x.cps.toList=pre++p++V'):strSub x pre.length (pre.length+p.length)=⟨p.toArray⟩:=yQ (by
 rw[strSub_toList,hx,zxA,List.drop_left,show pre.length+p.length-pre.length=p.length by omega,List.take_left])
def Gk{pre p}(hx:x.cps.toList=pre++p):strSub x pre.length x.length=⟨p.toArray⟩:=yQ (by
 rw[strSub_toList,len_eq x,hx,List.drop_left,show(pre++p).length-pre.length=p.length by simp,List.take_length])
def Ve(a):(⟨a.cps.toList.toArray⟩:Str)=a:=⋯
def Zp(y a b)(r):(Str.join y (a::b::r)).cps.toList=a.cps.toList++y.cps.toList++(Str.join y (b::r)).cps.toList:=by
 show(a++y++Str.join y _).cps.toList=_;rw[app_list,app_list]
def Kz(hy:y.cps.toList=h::t){pre p V'}(hx:x.cps.toList=pre++p++V')(hp:h ∉ p){k n:Nat}(h1:pre.length<=k)(h2:k<pre.length+p.length):¬At x y n k:=λha=>by
 have e:=Gf hy ha;rw[hx,zxA,zyQ h1,zyO ⋯]at e;exact hp<|zzZ e
theorem Up(hy:y.cps.toList=h::t):∀ps pre vd f,ps≠[]->(∀p ∈ ps,h ∉ p.cps.toList)->x.cps.toList=pre++(Str.join y ps).cps.toList->
 ChainG x y x.length pre.length vd f->(∀k,f<=k->¬At x y x.length k)->partsFrom x y.length pre.length vd=ps
 | [],_,_,_,hn,_,_,_,_=>absurd rfl hn
 | [p],pre,vd,f,_,hp,hx,hc,hf=>by
  have hx:x.cps.toList=pre++p.cps.toList:=hx;cases vd with
  |nil=>
   show[strSub x pre.length x.length]=_;rw[Gk hx,Ve]
  |cons c r=>
   refine absurd hc.2.1<|Kz hy (by rwa [zyD]) (hp p<|by simp) hc.1 ?_;have:=hc.2.1.1;rw[len_eq x,hx,zzJ]at this;have:0<y.length:=by rw[len_eq,hy];simp
   omega
 |p::q::r,pre,vd,f,_,hp,hx,hc,hf=>by
  have hx:x.cps.toList=pre++p.cps.toList++y.cps.toList++(Str.join y (q::r)).cps.toList:=by rw[hx,Zp];simp
  have hA:At x y x.length (pre.length+p.cps.toList.length):=by
   have:=QC hx
   rwa [zzJ]at this
  have hx2:x.cps.toList=pre++p.cps.toList++(y.cps.toList++(Str.join y (q::r)).cps.toList):=by rw[hx];simp
  cases vd with
  |nil=>
   have e:f=pre.length:=hc;exact absurd hA (hf _<|by omega)
  |cons c cs=>
   obtain⟨h1,h2,h3,h4⟩:=hc;have e:c=pre.length+p.cps.toList.length:=by
    rcases Nat.lt_trichotomy c _ with z|z|z
    . exact absurd h2<|Kz hy hx2 (hp p<|by simp) h1 z
    . exact z
    . exact absurd hA<|h3 _ (by omega) z
   subst e;show strSub x pre.length _::partsFrom x y.length _ cs=_;rw[Uc hx2,Ve];have l:pre.length+p.cps.toList.length+y.length=(pre++p.cps.toList++y.cps.toList).length:=by rw[len_eq y];simp;omega
   rw[l]at h4 ⊢;rw[Up hy (q::r) _ cs f (by simp) (λz m=>hp z<|zzD _ m) hx h4 hf]
def wo(x y):Txt.split x y=partsBetween x (occurrences x y 0 x.length<|x.length+1) y.length:=by
 unfold Txt.split;have nil:partsBetween x [] y.length=[x]:=by show[strSub x 0 x.length]=_;rw[sub_whole]
 split
 . rename_i h;rw[W.occ_nil_of_no x y _ λi hi=>?_,nil]
   rcases Bool.or_eq_true_iff.mp h with h|h
   . have:=of_decide_eq_true h;omega
   . cases e:subAt x y i
     . rfl
     . have:=W.kind_le x y e;have:=of_decide_eq_true h;omega
 . split
   . rename_i h;rw[List.isEmpty_iff.mp h,nil]
   . rfl
def Qi(hy:y.cps.toList=h::t){ps}(hn:ps≠[])(hp:∀p ∈ ps,h ∉ p.cps.toList):Txt.split (Str.join y ps) y=ps:=by
 obtain⟨f,hG,hf⟩:=occ_tight _ y (by rw[len_eq,hy];simp);rw[wo,partsBetween_eq];exact Up hy ps [] _ f hn hp rfl hG hf
theorem GI(s sub)(hi limit lo:Nat)(hw:1<=sub.length):∀m cur st,ChainG s sub hi lo st.fst.toList st.snd->(st.fst.size=limit\/∀k,st.snd<=k->k<cur->¬At s sub hi k)->st.fst.size<=limit->
 ChainG s sub hi lo (forIn (List.range' cur m) st<|occBody s sub hi limit).run.fst.toList (forIn (List.range' cur m) st<|occBody s sub hi limit).run.snd/\
 ((forIn (List.range' cur m) st<|occBody s sub hi limit).run.fst.size=limit\/∀k,(forIn (List.range' cur m) st<|occBody s sub hi limit).run.snd<=k->k<cur+m->¬At s sub hi k)/\(forIn (List.range' cur m) st<|occBody s sub hi limit).run.fst.size<=limit
 |0,cur,st,h,hn,hl=>⟨h,hn,hl⟩
 |m+1,cur,st,h,hn,hl=>by
  rw[List.range'_succ,List.forIn_cons];unfold occBody;have e:cur+(m+1)=(cur+1)+m:=by omega
  rw[e]
  split
  . rename_i hc;have hn':∀k,st.snd<=k->k<cur->¬At s sub hi k:=hn.resolve_left (by omega);refine GI s sub hi limit lo hw m _ _ ?_ (.inr ?_) ?_
    . show ChainG s sub hi lo (st.fst.push cur).toList _;rw[Array.toList_push];exact chainG_snoc h hc.1.1.2 ⟨hc.1.2,hc.2⟩ hn'
    . intro k h1 h2;omega
    . show(st.fst.push cur).size<=limit;rw[Array.size_push];omega
  . rename_i hc;refine GI s sub hi limit lo hw m _ _ h ?_ hl
    by_cases hz:st.fst.size=limit
    . exact .inl hz
    . have hn':=hn.resolve_left hz;refine .inr λk h1 h2 hA=>?_
      by_cases hk:k<cur
      . exact hn' k h1 hk hA
      . have ek:k=cur:=by omega
        subst ek;exact hc ⟨⟨⟨by omega,h1⟩,hA.1⟩,hA.2⟩
def Ef(x y)(limit:Nat)(hw:1<=y.length):∃f,ChainG x y x.length 0 (occurrences x y 0 x.length limit) f/\((occurrences x y 0 x.length limit).length=limit\/∀k,f<=k->¬At x y x.length k)/\(occurrences x y 0 x.length limit).length<=limit:=by
 rw[occ_eq];have key:=GI x y x.length limit 0 hw (x.length+1-0) 0 ((#[]:Array Nat),0) rfl ⋯ ⋯;refine⟨_,key.1, ?_,by simpa using key.2.2⟩
 rcases key.2.1 with z|z
 . exact .inl ⋯
 . exact .inr λk hk hA=>z k hk (by have:=hA.1;omega) hA
def G3(hy:y.cps.toList=h::t){pre p V' vd}{c f n:Nat}(hx:x.cps.toList=pre++p++y.cps.toList++V')(hp:h ∉ p)(hc:ChainG x y x.length pre.length (c::vd) f):c=pre.length+p.length:=by
 have hA:At x y x.length (pre.length+p.length):=by have:=QC hx;rwa [zzJ]at this
 have hx2:x.cps.toList=pre++p++(y.cps.toList++V'):=by rw[hx];simp
 rcases Nat.lt_trichotomy c _ with z|z|z
 . exact absurd hc.2.1<|Kz hy hx2 hp hc.1 z
 . exact z
 . exact absurd hA<|hc.2.2.1 _ ⋯ z
def pS{pre V'}(hx:x.cps.toList=pre++y.cps.toList++V'):(decide (x.length<y.length)||decide (strKind x<strKind y))=false:=by
 have hA:=QC hx;have:=W.kind_le x y hA.2;have:=hA.1;simp;omega
def FG(hy:y.cps.toList=h::t){a b c}(ha:h ∉ a.cps.toList)(hb:h ∉ b.cps.toList):Txt.splitMax (a++y++b++y++c) y 2=[a,b,c]:=by
 have ex:(a++y++b++y++c).cps.toList=[]++a.cps.toList++y.cps.toList++(b.cps.toList++y.cps.toList++c.cps.toList):=by simp only[app_list];simp
 have ex2:(a++y++b++y++c).cps.toList=(a.cps.toList++y.cps.toList)++b.cps.toList++y.cps.toList++c.cps.toList:=by simp only[app_list]
 have ex3:=ex2;generalize hX:a++y++b++y++c=X at ex ex2 ex3;unfold Txt.splitMax;have l2:limitOf X 2=2:=rfl;rw[if_neg (by rw[pS ex];nofun),l2];obtain⟨f,hG,hn,hl⟩:=Ef X y 2 (by rw[len_eq,hy];simp);generalize occurrences X y 0 X.length 2=vd at hG hn hl
 match vd,hG,hn,hl with
 | [],hG,hn,_=>
  have e:f=0:=hG
  rcases hn with z|z
  . cases z
  . exact absurd (QC (pre:=a.cps.toList) (V':=b.cps.toList++y.cps.toList++c.cps.toList)<|by rw[ex];simp) (z _<|by omega)
 | [c1],hG,hn,_=>
  have e1:=G3 (n:=0) hy (pre:=[]) ex ha hG;have e:=hG.2.2.2
  rcases hn with z|z
  . cases z
  . refine absurd (QC ex2)<|z _ ?_;rw[e,e1,len_eq y];simp
 | [c1,c2],hG,_,_=>
  have e1:=G3 (n:=0) hy (pre:=[]) ex ha hG;have hG2:=hG.2.2.2;have e1':c1+y.length=(a.cps.toList++y.cps.toList).length:=by rw[e1,len_eq y];simp
  rw[e1']at hG2;have e2:=G3 (n:=0) hy ex2 hb hG2;show[strSub X 0 c1,strSub X (c1+y.length) c2,strSub X (c2+y.length) X.length]=_;have e2':c2+y.length=(a.cps.toList++y.cps.toList++b.cps.toList++y.cps.toList).length:=by rw[e2,len_eq y];simp;omega
  rw[e1',e2',Gk ex3,e2,Uc (V':=y.cps.toList++c.cps.toList)<|by rw[ex2];simp];have e1'':c1=([]:List Nat).length+a.cps.toList.length:=e1;rw[e1'',show(0:Nat)=([]:List Nat).length from rfl,Uc (V':=y.cps.toList++(b.cps.toList++y.cps.toList++c.cps.toList)) (by rw[ex];simp),Ve,Ve,Ve]
 |_::_::_::_,_,_,hl=>exact absurd hl (by simp)
def NV(hy:y.cps.toList=h::t){a b}(ha:h ∉ a.cps.toList):Txt.partition (a++y++b) y=(a,y,b):=by
 have ex:(a++y++b).cps.toList=[]++a.cps.toList++y.cps.toList++b.cps.toList:=by simp only[app_list];simp
 generalize hX:a++y++b=X at ex;have A1:At X y X.length a.cps.toList.length:=QC (V':=b.cps.toList) ⋯;unfold Txt.partition
 rcases occ_head X y 1 (by decide)with⟨e,hn⟩|⟨i,r,e,hA,hn⟩
 . exact absurd A1<|hn _
 . rw[e];have ei:i=a.cps.toList.length:=by
    rcases Nat.lt_trichotomy i a.cps.toList.length with z|z|z
    . exact absurd hA<|Kz hy (pre:=[]) (V':=y.cps.toList++b.cps.toList) (by rw[ex];simp) ha ⋯ (by simpa using z)
    . exact z
    . exact absurd A1<|hn _ z
   show(strSub X 0 i,y,strSub X _ X.length)=_;have e2:i+y.length=(a.cps.toList++y.cps.toList).length:=by rw[ei,len_eq y];simp
   rw[e2,Gk (p:=b.cps.toList) ⋯,ei];have:=Uc (pre:=[]) (p:=a.cps.toList) (V':=y.cps.toList++b.cps.toList) (by rw[ex];simp);rw[show([]:List Nat).length+a.cps.toList.length=a.cps.toList.length by simp]at this;rw[show 0=([]:List Nat).length from rfl,this]
def T9(hy:y.cps.toList=h::t){a}(ha:h ∉ a.cps.toList):Txt.partition a y=(a,Str.empty,Str.empty):=by
 unfold Txt.partition
 rcases occ_head a y 1 (by decide)with⟨e,hn⟩|⟨i,r,e,hA,hn⟩
 . rw[e]
 . exact absurd (zzZ<|Gf hy hA) ha
def Mt(a b):Txt.startswith (a++b) a=true:=by
 have:=QC (x:=a++b) (y:=a) (pre:=[]) (V':=b.cps.toList) (by rw[app_list];simp);unfold Txt.startswith;simp only[zyB,decide_eq_true_eq];exact this
end
def Y0(f:SF)(g:WU):WU:=λas=>(f as).bind λo=>(Il o).bind g
noncomputable def X1(f g:WU):WU:=λas=>(f as).or<|g as
section
variable{X:Cx}{kd:KD}{C f:Addr}{an x:Str}{st:Stmt}{sts Y':List Stmt}{e a:Expr}{es:List Expr}{pos p cp:Pos}{fs:SF}{fa:EF}{gf gg:WU}
def Jw{F B}{ad M1}{as}{iT}{H H1}{d}{S'}(R:Rel X.K kd F B [] M1 as iT H1)(g:Grow (Gw [] ad) H (Gw [] M1) H1)(e:gf as=some (d,S'))
 (q:∀Z' P' Sh e dx T v H' s',Thr X C an Z' P' e dx T v H' s'->Rel X.K kd F B [] Sh S' P' H'->Grow (Gw [] ad) H (Gw [] Sh) H'->Rp X.K kd (Lv F B (Gw [] Sh) true) H' v d->X.xe (.ref e) s'):qB X kd C an gf iT H1:=
 ⟨F,B,M1,as,d,S',R,e,λZ' r8 CI ea dx T v H2 s2 t R2 g2 rp=>q Z' r8 CI ea dx T v H2 s2 t R2 (g.trans g2) rp⟩
def CV(h1:Rw X kd st fs)(h2:E3 X kd C an Y' gf):E3 X kd C an (st::Y') (Y0 fs gf):=by
 with_unfolding_all exact(WK (Zq h1 h2) λD σ H h=>by
  obtain⟨F,B,ad,as,d,S',R,e,q⟩:=h;obtain⟨o,U',k1,k2,e⟩:=yu e;cases GT k2;exact⟨F,B,ad,as,_,R,k1,λiT M1 H1 R1 g1=>Jw R1 g1 e q⟩)
def IW(h1:E3 X kd C an sts gf)(h2:E3 X kd C an sts gg):E3 X kd C an sts (X1 gf gg):=by
 unfold E3 at *;intro Z' s σ H D I h;obtain⟨F,B,ad,as,d,S',R,e,q⟩:=h;cases k:gf as with
 |some y=>
  have e:(gf as).or _=some _:=e;rw[k]at e;exact h1 Z' s σ H D I ⟨F,B,ad,as,d,S',R,by rw[k];exact e,q⟩
 |none=>
  have e:(gf as).or _=some _:=e;rw[k]at e;exact h2 Z' s σ H D I ⟨F,B,ad,as,d,S',R,e,q⟩
def sR(he:BZ X kd C an e gf):AX X kd C an (.Return (some e) pos) gf:=by
 with_unfolding_all exact(vV (SE he) λD σ H h=>h)
@[irreducible] def oQ(X:Cx)(kd:KD)(C:Addr)(an:Str)(es:List Expr)(g:WU):Prop:=PA X es λσ H _=>qB X kd C an g σ H
def OG(he:BZ X kd C an a gf)(hs:starEach (a::es) X.env=(false,eval a X.env)::starEach es X.env):oQ X kd C an (a::es) gf:=by
 with_unfolding_all exact(Ur (yj he (show PA X es (λ_ _ _=>False)from λ_ _ _ _ _ _ _ z=>z.elim) hs) λσ H Q h=>h)
def Cc(hg:Gl X x)(hm:X.mg x=some (.ref f))(hk:W.keepIn X.K (.ref f)=true)(ha:oQ X kd C an (a::es) gf)
 (vv:(x==("__debug__":Str))=false) (he:starEach (a::es) X.env=(false,eval a X.env)::starEach es X.env) (C':(backTo cp<|starEach es X.env).any (·.1)=false):
 BZ X kd C an (.Call (.Name x p) (a::es) [] cp) gf:=by
 with_unfolding_all (
 intro Z' s σ H Q I h;refine wpAny_Call_Name_kw<|vJ I hg hm ?_ vv;exact W.callWith_K I.ok.mod.kin hk (zxQ (ha cp Z' s σ H (λ_ _=>False) I h) (λus s1 ⟨_,_,_,_,z⟩=>z.elim) λ_ _ z=>z) he C')
end
section
variable{an:Str}
def tI(I:Inv X Z' σ H s):Inv {X with xe:=E} Z' σ H s:={I with ok:={I.ok with}}
def Thr.ex{e dx T}{v}(t:Thr {X with xe:=E} C an Z' σ e dx T v H s):Thr X C an Z' σ e dx T v H s:={t with inv:={t.inv with ok:={t.inv.ok with}}}
end
noncomputable def ZM(g:GF)(f:SF)(gb:WU):List Xs->WU
 | [],_=>none
 |x::r,as=>(g x as).bind λU'=>match f U' with
  |some (.nx J')=>ZM g f gb r J'
  |some (.ct J')=>ZM g f gb r J'
  |some _=>none
  |none=>gb U'
def RN(fi:IF)(g:GF)(f:SF)(gb:WU):WU:=λas=>(fi as).bind λp=>ZM g f gb p.1 p.2
section
variable{an:Str}
def qr(vq:X.stack=X.env::X.outer)(hfm:X.env.frame=some X.env.locals)(hc:X.calm=true)(hi:∀E,AI {X with xe:=E} kd tg itr fi)(hg:∀E,AG {X with xe:=E} kd tg S g)(hb1:∀E,P_ {X with xe:=E} kd body f)(g_:∀E,E3 {X with xe:=E} kd C an body gb)
 (hs:∀x,foldedSetIterable itr X.env x=pure x):AX X kd C an (.For tg itr body [] pos) (RN fi g f gb):=by
 with_unfolding_all (
 intro Z' s σ H D I h;obtain⟨F0,B0,ad,as,d,S',R,e,q⟩:=h;obtain⟨⟨ds,U'⟩,h1,e⟩:=bS_<|e;have pass:PassesOwn (model X.prog X.w) X.A X.env (λv s'=>∃pins' P' Sh ea dx T k H',v = .ref ea/\Thr X C an pins' P' ea dx T k H' s'/\Rel X.K kd F0 B0 [] Sh S' P' H'/\Grow (Gw [] ad) H (Gw [] Sh) H'/\Rp X.K kd (Lv F0 B0 (Gw [] Sh) true) H' k d):=by
  rintro v s' ⟨pins',P',Sh,ea,dx,T,k,H',rfl,t,R',g',rp⟩
  exact t.pass HN vq hfm λs2 T2 t2=>⟨pins',P',Sh,ea,dx,T2,k,H',rfl,t2,R',g',rp⟩
 have hX:∀E,Pw {X with xe:=E} body (λD σ H=>be X.K kd f D σ H\/qB {X with xe:=E} kd C an gb σ H):=λE Z' s σ H D I h=>h.elim (hb1 E Z' s σ H D I)<|g_ E Z' s σ H D I;refine zxQ (Sx (X:={X with xe:=_}) pass hc (hi _) (hg _) (hX _) hs Z' s σ H {nx:=λ_ _=>False,rt:=λ_ _=>False} (tI I) ⟨F0,B0,ad,as,ds,U',R,h1,λJ M1 H1 R1 g1 it=>?_⟩) (λfl s1 z=>?_) ?_
 . refine⟨λi m r8 H2=>m+i=ds.length/\∃CI J',Rel X.K kd F0 B0 [] CI J' r8 H2/\Grow (Gw [] M1) H1 (Gw [] CI) H2/\ZM g f gb (ds.drop i) J'=some (d,S'),⟨ds.length,rfl,M1,U',R1,Grow.refl,e⟩, ?_⟩
   rintro i m r8 H2 ⟨hm,CI,J',R2,g2,e2⟩
   obtain⟨k1,k2,k3⟩:=it.all CI H2 g2 R2.trk i
   by_cases hi:i<ds.length
   . refine .inr ⟨k1 hi,λi4 H3=>∃vn vi,Rel X.K kd F0 B0 [] vn vi i4 H3/\Grow (Gw [] M1) H1 (Gw [] vn) H3/\ZM g f gb (ds.drop<|i+1) vi=some (d,S'),λi4 H3 ⟨vn,vi,R3,g3,e3⟩=>⟨m-1,by omega,by omega,vn,vi,R3,g3,e3⟩,λv H3 hy=>?_⟩;obtain⟨kp,rp⟩:=k3 v H3 hy;rw[zyP hi]at e2;obtain⟨vi,e3,e2⟩:=bS_<|e2;obtain⟨R3,g3⟩:=R2.more kp;refine⟨F0,B0,CI,J',_,vi,R3,rp _<|zzE hi,e3,λσ4 ad4 H4 R4 g4 _=>?_⟩;have gg:=(g2.trans g3).trans g4;cases k4:f vi with
     |none=>
      simp only[k4]at e2;exact .inr ⟨F0,B0,ad4,vi,d,S',R4,e2,λpins' P' Sh ea dx T v H' s' t R' g' rp=>⟨pins',P',Sh,ea,dx,T,v,H',rfl,t.ex,R',(g1.trans gg).trans g',rp⟩⟩
     |some o3=>
      simp only[k4]at e2;cases o3 with
      |nx as5=>exact .inl ⟨F0,B0,ad4,vi,_,R4,k4,λσ5 gV H5 R5 g5=>⟨gV,as5,R5,gg.trans g5,e2⟩⟩
      |ct as5=>exact .inl ⟨F0,B0,ad4,vi,_,R4,k4,λσ5 gV H5 R5 g5=>⟨gV,as5,R5,gg.trans g5,e2⟩⟩
      |bk as5=>cases e2
      |rt r=>cases e2
   . rw[List.drop_of_length_le<|by omega]at e2;cases e2
 . cases fl with
   |ret u=>obtain⟨_,_,_,_,_,z⟩:=z;exact z.elim
   |brk=>obtain⟨_,_,_,z⟩:=z;exact z.elim
   |cont=>obtain⟨_,_,_,z⟩:=z;exact z.elim
   |next=>obtain⟨_,_,_,z⟩:=z;exact z.elim
 . rintro v s' ⟨pins',P',Sh,ea,dx,T,k,H',rfl,t,R',g',rp⟩
   exact q pins' P' Sh ea dx T k H' s' t R' g' rp)
end
def pV{K}{kd}{F B G}{H}{v}{os}{fp}(r:YV K kd F B G H v (.nd .ls os) fp):∃l vs,v = .ref l/\H l=some (.lst vs):=by
 cases r with
 |ls hp ir=>exact⟨_,_,rfl,hp⟩
section
variable{an:Str}
def My(i:Nat)(g:WU):WU:=λas=>(FJ Mb as i).bind λ_=>g as
def Ju(ho:PE X (.Name x p) (Vz i))(he:BZ X kd C an a gf)
 (b:∀t,PA X [a] t->PE X (.Call (.Attribute (.Name x p) "append" apos) [a] [] KE) (jr X.K "list" Gq (Vz i) t)) (hs:starEach [a] X.env=(false,eval a X.env)::starEach [] X.env):
 BZ X kd C an (.Call (.Attribute (.Name x p) "append" apos) [a] [] KE) (My i gf):=by
 with_unfolding_all exact(yg (b _<|yj he (show PA X [] (λ_ _ _=>False)from λ_ _ _ _ _ _ _ z=>z.elim) hs) λσ H Q h=>by
  obtain⟨F,B,ad,as,d,S',R,e,q⟩:=h;obtain⟨os,e1,e⟩:=bS_<|e;obtain⟨o,e2,e3⟩:=Mc e1;cases E7 e3;obtain⟨v,hv,ro⟩:=R.sl i _ e2;obtain⟨l,vs,rfl,hp⟩:=pV ro;exact⟨_,hv,.inl ⟨rfl,_,.inl<|.inl hp⟩,F,B,ad,as,d,S',R,e,q⟩)
end
noncomputable def P5(cb:SF)(gb:WU)(c:SF):SF:=λas=>match cb as with
 |some o=>some o
 |none=>(gb as).bind λp=>c p.2
section
variable{an:Str}
def JM(hb1:P_ X kd body cb)(g_:∀E pn,E3 {X with xe:=E,pn:=pn} kd C an body gb)
 (hgS:Gl X sx) (hmS:X.mg sx=some (.ref S)) (hdS:(sx==("__debug__":Str))=false) (hex:W.exmOne X.K (.ref C) (.ref S)=some true)
 (hnx:∀v s,¬X.xe v s) (vq:X.stack=X.env::X.outer) (hfm:X.env.frame=some X.env.locals)
 (hs:∀e,P_ (qK X e []) kd (b0::suite) c):
 Rw X kd (.Try body [.ExceptHandler (some<|.Name sx sp) none (b0::suite) hp] [] [] pos) (P5 cb gb c):=by
 with_unfolding_all (
 intro Z' s σ H D I h;obtain⟨F0,B0,ad,as,o,R,e,q⟩:=h;have e:(match cb as with
  |some o=>some o
  |none=>(gb as).bind λp=>c p.2)=some o:=e
 cases k:cb as with
 |some o1=>
  rw[k]at e;cases e;refine wpAny_Try_except<|zxQ (hb1 Z' s σ H D I ⟨F0,B0,ad,as,_,R,k,q⟩) (λfl s1 z=>?_) λ_ _ z=>(hnx _ _ z).elim;cases fl with
  |ret u=>exact z
  |brk=>exact z
  |cont=>exact z
  |next=>
   obtain⟨iT,H1,I1,z⟩:=z;exact Q_ Z' s1 iT H1 D I1 z
 |none=>
  rw[k]at e;obtain⟨⟨d,U'⟩,h1,e⟩:=bS_<|e;refine wpAny_Try_except<|zxQ (g_ _ (X.pn++Z') [] s σ H {nx:=λ_ _=>False,rt:=λ_ _=>False} (Fk _ I) ⟨F0,B0,ad,as,d,U',R,h1, ?_⟩) (λfl s1 z=>?_) λ_ _ z=>z
  . intro pins' P' Sh ea dx T v H' s' t R' g' rp;refine t.unpin.pass (λ_ _ _ _ _ _ _ _ _ h=>h) vq hfm λs2 T2 t=>?_;refine wpAny_handleBy_cons (codeAny_handlers_test ?_) (by intro q;cases q);refine vJ (X:=qK X ea []) (Tx t.inv (λp z=>nomatch z)) hgS hmS ?_ hdS;have LT:PySem.W.Looks (model X.prog X.w) s2.heap (typeOf<|.ref ea) (.ref C):=by
     obtain⟨⟨oe,vs,z,zc,_⟩,_⟩:=t.fly;exact(PySem.W.Looks.ld z).andThen (by rw[zc];exact .now)
    refine(W.exm_one t.inv.kIn LT hex).here ?_;refine codeAny_handlers_suite ?_;refine t.land vq λs3 t=>?_;refine zxQ (hs ea Z' _ P' H' D (Tx t.inv (λp z=>nomatch z)) ⟨F0,B0,Sh,U',o,R',e,Ku.pre g' q⟩) (λfl s6 z=>?_) λ_ _ z=>(hnx _ _ z).elim;cases fl with
    |ret u=>obtain⟨x,r9,H6,I6,r,z⟩:=z;exact⟨x,r9,H6,Vr I.ok I6,r,z⟩
    |brk=>obtain⟨r9,H6,I6,z⟩:=z;exact⟨r9,H6,Vr I.ok I6,z⟩
    |cont=>obtain⟨r9,H6,I6,z⟩:=z;exact⟨r9,H6,Vr I.ok I6,z⟩
    |next=>obtain⟨r9,H6,I6,z⟩:=z;exact⟨r9,H6,Vr I.ok I6,z⟩
  . cases fl with
    |ret u=>obtain⟨_,_,_,_,_,z⟩:=z;exact z.elim
    |brk=>obtain⟨_,_,_,z⟩:=z;exact z.elim
    |cont=>obtain⟨_,_,_,z⟩:=z;exact z.elim
    |next=>obtain⟨_,_,_,z⟩:=z;exact z.elim)
end
def qH(n m i:Nat)(tc:TF)(ds:List (Bool×D)):Option D:=
 if ds.length=m then(tc<|ya n ds).bind λp=>if p.1=true then(slD p.2 i).bind λd=>if ZK d=true then some d else none else none else none
def uH{f g}{as J'}(h:ze f g as=some (.nx J')):∃U',f as=some (.nx U')/\g U'=some (.nx J'):=by
 unfold ze at h;cases k:f as with
 |none=>rw[k]at h;cases h
 |some o=>
  rw[k]at h;cases o with
  |nx U'=>exact⟨U',rfl,h⟩
  |_=>cases h
def MW{X}{kd}{i:Nat}{tc}{rs}{c}{Y'}{pos}{S:V->St->Hp->Prop}(h3:AT X kd c tc)(h4:PS X rs (λ_ σ H'=>Vz i σ H' λk H1=>S k σ H1)):
 Pw X (.If c [rs] [] pos::Y') (λ_ σ H'=>∃F B ad as p d,Rel X.K kd F B [] ad as σ H'/\tc as=some p/\p.1=true/\slD p.2 i=some d/\∀vn H3 v,Rel X.K kd F B [] vn p.2 σ H3->Grow (Gw [] ad) H' (Gw [] vn) H3->Rp X.K kd (Lv F B (Gw [] vn) true) H3 v d->S v σ H3):=by
 with_unfolding_all exact(WK (Zq (Dh h3 (Ke h4) Q_) (show Pw X Y' (λ_ _ _=>False)from λ_ _ _ _ _ _ z=>z.elim)) λD σ H h=>by
  obtain⟨F,B,ad,as,⟨p,vi⟩,d,R,e,rfl,e4,q⟩:=h;refine⟨F,B,ad,as,true,vi,R,e,λvn H3 R3 g3=>?_⟩;obtain⟨v,hv,rv⟩:=R3.slD e4;exact⟨v,hv,q vn H3 v R3 g3 rv⟩)
section
variable{P:Program}{w:World}{K:zzA}{mg:Str->Option Value}{base:Heap}{kd:KD}{x qual an:Str}{st:Stmt}{f C:Addr}{fd:FuncData}{N ps:List Str}{k i:Nat}{c1 c2:SF}{tc:TF}{a1 a2 rs:Stmt}{c:Expr}{Y':List Stmt}{pos:Pos}
abbrev Rz(X:Cx)(kd:KD)(K:zzA)(an:Str)(C:Addr)(k:V)(σ:St)(H1:Hp):Prop:=(∃kd O d,Rp K kd O H1 k d/\ZK d=true)/\∀Z' s' e dx,H1 e=none->H1 dx=none->dx≠e->X.s₀.heap.objs.size<=e->X.s₀.heap.get? dx=none->Inv X Z' σ (HX an H1 e C dx k) s'->X.xe (.ref e) s'
def C7(Fn:Fun K x qual st f fd)(S:FnScope N ps (zp st))
 (hB:xx st = .If c [rs] [] pos::Y')
 (hb:∀Mk A outer s H E,Room k (A.deeper<|envOfC qual (zp st) s.heap.objs.size f Mk)->
  AT (v9 (Rv P w C an) P w K mg base N qual (zp st) f Mk A outer s H E) kd c tc/\
  PS (v9 (Rv P w C an) P w K mg base N qual (zp st) f Mk A outer s H E) rs (λD σ H'=>Vz i σ H' λk H1=>Rz (v9 (Rv P w C an) P w K mg base N qual (zp st) f Mk A outer s H E) kd K an C k σ H1)):
 FnOk P w K mg base (Rv P w C an) (k+1) f fd ps (Dn K kd<|qH N.length ps.length i tc):=by
 with_unfolding_all (
 obtain⟨oc,od,kV,doc,pm,an',Mk,ct,osl,rfl,lk,hcd⟩:=Fn.ex;refine MY lk hcd S (λvs H Q E h=>?_) λA outer s H vs Q E hr so=>?_
 . obtain⟨F,ds,r,_,rp,e,_⟩:=h;obtain⟨hl,_⟩:=ite_some'<|e;rw[rp.length,hl]
 . obtain⟨F,ds,r,ht,rp,e,q⟩:=so;obtain⟨hl,e⟩:=ite_some'<|e;obtain⟨p,e3,e⟩:=bS_ e;obtain⟨hp,e⟩:=ite_some' e;obtain⟨d,e4,e⟩:=bS_ e;obtain⟨hk,rfl⟩:=zv e;obtain⟨h3,h4⟩:=hb Mk A outer s H E hr;rw[hB];exact⟨_,MW h3 h4,F,λ_=>False,λ_=>[],ya N.length ds,p,_,Z7 ht rp,e3,hp,e4,λvn H3 v R3 g3 rv=>⟨⟨kd,_,_,rv,hk⟩,λZ' s' e dx z1 z2 z3 z4 z5 I=>LX z1 z2 z3 z4 z5 I<|q v _ (λb u hb=>g3.keep b u hb<|HG b)<|rv.less λa z=>.inl<|.inl ⟨rfl,z⟩⟩⟩)
def ua(Fn:Fun K x qual st f fd)(S:FnScope N ps (zp st))
 (hB:xx st=a1::a2 :: .If c [rs] [] pos::Y')
 (hb:∀Mk A outer s H E,Room k (A.deeper<|envOfC qual (zp st) s.heap.objs.size f Mk)->
  Rw (v9 (Rv P w C an) P w K mg base N qual (zp st) f Mk A outer s H E) kd a1 c1/\Rw (v9 (Rv P w C an) P w K mg base N qual (zp st) f Mk A outer s H E) kd a2 c2/\AT (v9 (Rv P w C an) P w K mg base N qual (zp st) f Mk A outer s H E) kd c tc/\
  PS (v9 (Rv P w C an) P w K mg base N qual (zp st) f Mk A outer s H E) rs (λD σ H'=>Vz i σ H' λk H1=>Rz (v9 (Rv P w C an) P w K mg base N qual (zp st) f Mk A outer s H E) kd K an C k σ H1)):
 FnOk P w K mg base (Rv P w C an) (k+1) f fd ps (Dn K kd<|gX N.length ps.length i (ze c1 c2) tc):=by
 with_unfolding_all (
 obtain⟨oc,od,kV,doc,pm,an',Mk,ct,osl,rfl,lk,hcd⟩:=Fn.ex;refine MY lk hcd S (λvs H Q E h=>?_) λA outer s H vs Q E hr so=>?_
 . obtain⟨F,ds,r,_,rp,e,_⟩:=h;obtain⟨hl,_⟩:=ite_some'<|e;rw[rp.length,hl]
 . obtain⟨F,ds,r,ht,rp,e,q⟩:=so;obtain⟨hl,e⟩:=ite_some'<|e;obtain⟨o1,U',p,e1,y1,e3,e⟩:=yU e;obtain⟨hp,e⟩:=ite_some' e;obtain⟨d,e4,e⟩:=bS_ e;obtain⟨hk,rfl⟩:=zv e;cases GT y1;obtain⟨vf,e0,e1⟩:=uH e1;obtain⟨h1,h2,h3,h4⟩:=hb Mk A outer s H E hr;rw[hB];exact⟨_,Zq h1<|Zq h2<|MW h3 h4,F,λ_=>False,λ_=>[],ya N.length ds,_,Z7 ht rp,e0,λσ0 ad0 H0 R0 g0=>⟨F,λ_=>False,ad0,vf,_,R0,e1,λiT M1 H1 R1 g1=>⟨F,λ_=>False,M1,U',p,_,R1,e3,hp,e4,λvn H3 v R3 g3 rv=>⟨⟨kd,_,_,rv,hk⟩,λZ' s' e dx z1 z2 z3 z4 z5 I=>LX z1 z2 z3 z4 z5 I<|q v _ (λb u hb=>((g0.trans g1).trans g3).keep b u hb<|HG b)<|rv.less λa z=>.inl<|.inl ⟨rfl,z⟩⟩⟩⟩⟩)
end
section
variable{X:Cx}{kd:KD}{P:Program}{w:World}{K:zzA}{a b e o:Expr}{es:List Expr}{fa fb fo:EF}{fr:AF}{fd_:DF}{pos p apos:Pos}{k n:Nat}
def Io{N Ps}{sc}(h1:sc.kind = .function:=by rfl)(h2:sc.isCoroutine=false:=by rfl)(h3:sc.isGenerator=false:=by rfl)(h4:N.Nodup:=by decide +kernel)(h5:N.take Ps.length=Ps:=by rfl)(h6:∀x ∈ Ps,sc.names.lookup x=some .local\/sc.names.lookup x=some .cell:=by decide +kernel)(h7:∀y ∈ sc.names,y.2 ≠ .free:=by decide +kernel):FnScope N Ps sc:=⟨h1,h2,h3,h4,h5,h6,h7⟩
def bs{x qual}{st}{f}{fd}{ps}(F:Fun K x qual st f fd)
 (h:∀kV doc pm an Mk ct us,us.length=ps.length->bindArgs (W.fnOf x qual (XW st) (xx st) (zp st) .none kV doc pm an Mk ct) ⟨us,[]⟩=pure (ps.zip us):=by first|exact λ_ _ _ _ _ _=>iK λ_=>rfl|exact λ_ _ _ _ _ _=>kq λ_ _=>rfl|exact λ_ _ _ _ _ _=>jW λ_ _ _=>rfl|exact λ_ _ _ _ _ _=>ij λ_ _ _ _=>rfl|exact λ_ _ _ _ _ _=>l5_ λ_ _ _ _ _=>rfl|exact λ_ _ _ _ _ _=>l6_ λ_ _ _ _ _ _=>rfl):Binds K fd ps []:=F.binds h
def bc(ha:AE X kd a fa)(hr:AA X kd es fr)(hs:isStar a=false:=by rfl):AA X kd (a::es) (aC fa fr):=JE ha hr<|yo hs
def bd(ha:AE X kd a fa)(hr:AD X kd es fd_)(hs:isStar a=false:=by rfl):AD X kd (a::es) (dC fa fd_):=Jn ha hr<|yo hs
def bn{op}(ha:AE X kd a fa)(hb:AE X kd b fb):AE X kd (.BinOp a op b pos) (f2 fa fb<|vR op):=uN (sy op) ha hb
def tc{op}(hkd:qE P w K kd)(hr:Room k X.A)(ha:AE X kd a fa)(hb:AE X kd b fb)(h1:X.prog=P:=by rfl)(h2:X.w=w:=by rfl)(h3:X.K=K:=by rfl)(hm:behindInMarks op b=false:=by exact Sj _):AT X kd (.Compare a [op] [b] pos) (fT<|f2 fa fb<|zj op):=uB (Qb (hkd _ h1 h2 h3) (Ta hr) op) (Ed op) ha hb hm
def ec{op}(hkd:qE P w K kd)(hr:Room k X.A)(ha:AE X kd a fa)(hb:AE X kd b fb)(h1:X.prog=P:=by rfl)(h2:X.w=w:=by rfl)(h3:X.K=K:=by rfl)(hm:behindInMarks op b=false:=by exact Sj _):AE X kd (.Compare a [op] [b] pos) (f2 fa fb<|zj op):=sQ (Qb (hkd _ h1 h2 h3) (Ta hr) op) ha hb hm
def bi{id}{gg}{x}(hc:YM X kd (.builtin id) gg)(hm:X.mg x=none)(hv:bootBuiltins x=some (.builtin id))(ha:AA X kd (e::es) fr)(hg:Gl X x:=by rfl)(hn:x≠"__name__":=by exact Bt.n _ rfl)(vv:(x==("__debug__":Str))=false:=by decide)
 (he:starEach (e::es) X.env=(false,eval e X.env)::starEach es X.env:=by rfl) (C':(backTo pos<|starEach es X.env).any (·.1)=false:=by rfl):AE X kd (.Call (.Name x p) (e::es) [] pos) (fP fr gg):=t8 hc hg hm hv ha hn vv he C'
def kP{T}{gg}{x}(hc:YM X kd (.type T) gg)(hm:X.mg x=none)(hv:bootBuiltins x=some (.type T))(ha:AA X kd (e::es) fr)(hg:Gl X x:=by rfl)(hn:x≠"__name__":=by exact Bt.n _ rfl)(vv:(x==("__debug__":Str))=false:=by decide)
 (he:starEach (e::es) X.env=(false,eval e X.env)::starEach es X.env:=by rfl) (C':(backTo pos<|starEach es X.env).any (·.1)=false:=by rfl):AE X kd (.Call (.Name x p) (e::es) [] pos) (fP fr gg):=rj hc hg hm hv ha hn vv he C'
def sj(i:Nat){z}{x}{pos'}{Y'}{g}(hN:X.N.Nodup)(he:AE X kd e fa)(h2:P_ X kd Y' g)(hi:X.N[i]? = some x:=by rfl)(hx:Loc X.env.scope x:=by first|exact Or.inl rfl|exact Or.inr rfl)(hs:swapsWith e (some<|.Name x pos') pos.line X.env=pure false:=by rfl)(hf:X.fn x=true\/X.env.scope.names.lookup x=some .local:=by first|exact Or.inl rfl|exact Or.inr rfl):
 P_ X kd (.Assign [.Name x pos'] e pos::Y') (ze (zm z i fa) g):=y7 (Ot hN hi hx he hs hf) h2
end
noncomputable def SQ:List Str->List Str->List (Option Nat)->List Str
 |t::ts,XN,none::c=>t::SQ ts XN c
 | [],XN,none::c=>""::SQ [] XN c
 |ts,XN,some j::c=>XN.getD j ""::SQ ts XN c
 |_,_,[]=>[]
noncomputable def m9:Expr->Str
 | .Name x _=>x
 |_=>""
def DH:Expr->List Str
 | .Tuple es _ _=>es.map m9
 |e=>[m9 e]
noncomputable def qC:Nat->List (Option Nat)->List Nat
 |_,[]=>[]
 |k,none::c=>k::qC (k+1) c
 |k,some _::c=>qC (k+1) c
theorem Mn:∀c d i,i ∈ qC d.length c->(d++c)[i]? = some none
 | [],_,_,h=>nomatch h
 |none::c,d,i,h=>by
  have ih:=Mn c (d++[none]) i;rw[zzJ,zxA]at ih
  rcases zzC.mp (h)with rfl|h
  . simp
  . exact ih h
 |some x::c,d,i,h=>by
  have ih:=Mn c (d++[some x]) i;rw[zzJ,zxA]at ih;exact ih h
def HU{cap}:(qC 0 cap).all (λi=>cap[i]? == some none)=true:=List.all_eq_true.mpr λi m=>by
 have:=Mn cap [] i m;rw[List.nil_append]at this;rw[this];rfl
def iU{N:List Str}(h:decide N.Nodup=true):N.Nodup:=of_decide_eq_true h
def gK{a}{i:Nat}{gs}(h1:AG X kd a [i] g)(h2:Dl X kd es S gs)(hs:(assignEach (a::es) X.env).map (·.2)=assign a X.env::(assignEach es X.env).map (·.2):=by rfl):Dl X kd (a::es) (i::S) (Yo g gs):=W5 h1 h2 hs
def qx(X:Cx)(kd:KD)(tg:Expr)(g:GF):Prop:=∃S,AG X kd tg S g
def SI(X:Cx)(kd:KD)(es:List Expr)(gs:rG):Prop:=∃S,Dl X kd es S gs
def jk(i:Nat){x}(hN:X.N.Nodup)(hi:X.N[i]? = some x:=by rfl)(hx:Loc X.env.scope x:=by first|exact Or.inl rfl|exact Or.inr rfl)(hf:X.fn x=true\/X.env.scope.names.lookup x=some .local:=by first|exact Or.inl rfl|exact Or.inr rfl):qx X kd (.Name x pos) (gN i):=⟨_,Ec hN hi hx hf⟩
def jD{gs}{j m:Nat}(h:SI X kd es gs)(hc:X.calm=true:=by rfl)(hn:(assignEach es X.env).length=m:=by rfl)(vq:(assignEach es X.env).findIdx? (·.1)=none:=by rfl):qx X kd (.Tuple es j pos) (gT m gs):=h.elim λ_ h=>⟨_,NF hc h hn vq⟩
def jC{a}{gs}(h1:qx X kd a g)(h2:SI X kd es gs)(hs:(assignEach (a::es) X.env).map (·.2)=assign a X.env::(assignEach es X.env).map (·.2):=by rfl):SI X kd (a::es) (Yo g gs):=h1.elim λ_ h1=>h2.elim λ_ h2=>⟨_,W5 h1 h2 hs⟩
def ji:SI X kd [] GH:=⟨_,GG⟩
def gU{body}{f}(hi:AI X kd tg itr fi)(hg:qx X kd tg g)(hb:P_ X kd body f)(hp:PassesOwn (model X.prog X.w) X.A X.env X.xe:=by exact PassesOwn.never)(hc:X.calm=true:=by rfl)(hs:∀x,foldedSetIterable itr X.env x=pure x:=by exact λ_=>rfl):Rw X kd (.For tg itr body [] pos) (vD fi g f):=hg.elim λ_ hg=>S7 hp hc hi hg hb hs
def kK(he:AE X kd e fe)(hg:qx X kd tg g)(hs:swapsWithSole [tg] e pos.line X.env=pure false:=by rfl)(hw:swappedStores [tg] e X.env=pure none:=by rfl)(h1:(assignEach [tg] X.env).map (·.2)=[assign tg X.env]:=by rfl):Rw X kd (.Assign [tg] e pos) (Rm fe g):=hg.elim λ_ hg=>Oe he hg hs hw h1
theorem cm(hi:DD X kd tg itr fi)(hg:∀cl s H fp,AG (yM X (SQ (DH tg) X.N cap) scope cl s H fp) kd tg (qC 0 cap) g)(ht:∀cl s H fp,B9 (yM X (SQ (DH tg) X.N cap) scope cl s H fp) ifs<|Jc X.K kd tt)(he:∀cl s H fp,AE (yM X (SQ (DH tg) X.N cap) scope cl s H fp) kd elt fe)
 (hc:X.calm=true:=by rfl) (hk:scope.kind = .function:=by rfl) (vm:QK (SQ (DH tg) X.N cap) X.N scope.names X.env.scope.names cap=true:=by kernel_rfl) (hs:∀x,foldedSetIterable itr X.env x=pure x:=by exact λ_=>rfl):AE X kd (.ListComp elt [⟨tg,itr,ifs,0⟩] scope pos) (zC fi cap g tt fe):=J6 hc hi hk vm HU hg ht he hs
theorem iS{z}{i:Nat}{y}{py spos}(hN:X.N.Nodup)(hi:DD X kd tg itr fi)(hg:∀cl s H fp,AG (yM X (SQ (DH tg) X.N cap) scope cl s H fp) kd tg (qC 0 cap) g)(ht:∀cl s H fp,B9 (yM X (SQ (DH tg) X.N cap) scope cl s H fp) ifs<|Jc X.K kd tt)(he:∀cl s H fp,AE (yM X (SQ (DH tg) X.N cap) scope cl s H fp) kd elt fe)
 (hiy:X.N[i]? = some y:=by rfl) (hy:Loc X.env.scope y:=by first|exact Or.inl rfl|exact Or.inr rfl) (hf:X.fn y=true\/X.env.scope.names.lookup y=some .local:=by first|exact Or.inl rfl|exact Or.inr rfl) (hsw:swapsWith (.ListComp elt [⟨tg,itr,ifs,0⟩] scope pos) (some<|.Name y py) spos.line X.env=pure true:=by rfl)
 (hc:X.calm=true:=by rfl) (hk:scope.kind = .function:=by rfl) (vm:QK (SQ (DH tg) X.N cap) X.N scope.names X.env.scope.names cap=true:=by kernel_rfl) (hs:∀x,foldedSetIterable itr X.env x=pure x:=by exact λ_=>rfl):Rw X kd (.Assign [.Name y py] (.ListComp elt [⟨tg,itr,ifs,0⟩] scope pos) spos) (zm z i<|zC fi cap g tt fe):=Iu hN hiy hy hf hsw hc hi hk vm HU hg ht he hs
open PySem PySem.Spec PyProof.Rows L2 Builtin Builtin.Str
noncomputable def oc(a b:Str):List Nat:=occurrences a b 0 a.length 1
def r1(a b c:Str):Str:=if((oc a b).isEmpty||(b.length==0&&c.length==0))=true then a else glued c<|partsBetween a (oc a b) b.length
def SV(a b c:Str)(i j k l:Tok)(hyp:(j==0||k==0)=false/\(j==k)=false/\(b==c)=false/\tooLong (a.length+(oc a b).length*c.length)=false):
 Gives («str.replace» ⟨[.str a i,.str b j,.str c k,.int 1 l],[]⟩) (if((oc a b).isEmpty||(b.length==0&&c.length==0))=true then .val (.str a i)else .str<|glued c<|partsBetween a (oc a b) b.length):=by
 show Gives (if((oc a b).isEmpty||_)=true then _ else(do
  let one <-isSame (.str b j) (.str c k)
  if one=true then _ else
  if tooLong (a.length+(oc a b).length*c.length)=true then unsupported "str.replace:memory" else retStr _)) _
 obtain⟨h0,h1,h2,h3⟩:=hyp;cases(oc a b).isEmpty||(b.length==0&&c.length==0)with
 |false=>rw[isSame_str_other b c j k h0 h1 h2,h3];exact .of_eq rfl
 |true=>exact .rule (.of_eq rfl)
noncomputable def sC(as:AS)(i:Nat):Option Str:=match as[i]? with
 |some (some (.lf _ (.str k)))=>some k
 |_=>none
def sL{as:AS}{i:Nat}{k:Str}(h:sC as i=some k):∃st,as[i]? = some (some<|.lf st<|.str k):=by
 unfold sC at h;cases e:as[i]? with
 |none=>rw[e]at h;cases h
 |some x=>
  rw[e]at h;cases x with
  |none=>cases h
  |some o=>
   cases o with
   |nd _ _=>cases h
   |lf st d=>cases d<;>first|(cases h;exact⟨_,rfl⟩)|cases h
def Rel.txt{K:zzA}{kd:KD}{F B:Addr->Prop}{T:List Addr}{ad:Ad}{as:AS}{σ:St}{H:Hp}{i:Nat}{k:Str}(R:Rel K kd F B T ad as σ H)(h:sC as i=some k):σ[i]? = some (some<|.str k):=by
 obtain⟨st,e⟩:=sL h;obtain⟨v,hv,ro⟩:=R.sl i _ e;generalize ad i=fp at ro;cases ro with
 |lf r=>cases(r);exact hv
def Eu(i:Nat)(y z:Str):EF:=λas=>(sC as i).bind λx=>if x.length<=1048576/\(r1 x y z).length<=1048576 then some (.ow<|.lf true<|.str<|r1 x y z,as)else none
def kr(X:Cx)(e:Expr)(t:TE):Prop:=
 ∀(Z':List (Addr×Obj)) (s:Shared) (σ:St) (H:Hp) (Q:VK),1<=s.toks->Inv X Z' σ H s->t σ H Q->wpAny (model X.prog X.w) X.A (eval e X.env) (EP X Z' σ Q) X.xe s
def kg(X:Cx)(es:List Expr)(t:TA):Prop:=
 ∀(pos:Pos) (Z':List (Addr×Obj)) (s:Shared) (σ:St) (H:Hp) (Q:List V->Hp->Prop),1<=s.toks->Inv X Z' σ H s->t σ H Q->wpAny (model X.prog X.w) X.A (spliced<|backTo pos<|starEach es X.env) (AP X Z' σ Q) X.xe s
def Tk(X:Cx)(e:Expr):Prop:=∀(Q:Value->Shared->Prop) (s:Shared),wpAny (model X.prog X.w) X.A (eval e X.env) Q X.xe s->wpAny (model X.prog X.w) X.A (eval e X.env) (λv s'=>1<=s'.toks/\Q v s') X.xe s
section
variable{X:Cx}{fd:DF}
def KA{e:Expr}{te:TE}{t:TA}(ha:kr X e te)(hr:kg X es t)(hs:starEach (e::es) X.env=(false,eval e X.env)::starEach es X.env):kg X (e::es) (E9 te t):=by
 intro pos Z' s σ H Q h1 I h;rw[hs];refine Calls.spliced_cons<|zxQ (wpAny_toks_of h1<|ha Z' s σ H _ h1 I h) (λu s1 ⟨k1,x,H1,I1,r1,q1⟩=>?_) λ_ _ z=>z.2;exact yV (hr pos Z' s1 σ H1 _ k1 I1 q1) λus s2 ⟨xs,H2,I2,r2,q2⟩=>⟨x::xs,H2,I2,.cons r1 r2,q2⟩
def O6{e:Expr}{te:TE}{t:TA}(ha:PE X e te)(hT:Tk X e)(hr:kg X es t)(hs:starEach (e::es) X.env=(false,eval e X.env)::starEach es X.env):PA X (e::es) (E9 te t):=by
 intro pos Z' s σ H Q I h;rw[hs];refine Calls.spliced_cons<|yV (hT _ s<|ha Z' s σ H _ I h) λu s1 ⟨k1,x,H1,I1,r1,q1⟩=>?_;exact yV (hr pos Z' s1 σ H1 _ k1 I1 q1) λus s2 ⟨xs,H2,I2,r2,q2⟩=>⟨x::xs,H2,I2,.cons r1 r2,q2⟩
def qh{x:Str}{j:Nat}{p p2:Pos}{op:Operator}{b:Expr}:Tk X (.BinOp (.Constant (.str x) j p) op b p2):=by
 intro Q s h;rw[arm_eval_BinOp]at h ⊢;have h2:=λΓ p hΓ=>by
  have z:=h Γ p hΓ;exact z
 refine zxD<|Calls.Constant_str ?_;exact zxQ (wpAny_toks_of ⋯ h2) (λ_ _ z=>z) λ_ _ z=>z.2
def C9{i:Nat}{x y z:Str}{j k l:Nat}{p p1 p2 p3 ap cp:Pos}(hi:PE X (.Name x p) (Vz i))(hyz:(y==z)=false)(hz:z.length<=14)
 (hbase:attributeBase (.Name x p) "replace" X.env (eval (.Name x p) X.env)=eval (.Name x p) X.env)
 (hfew:((backTo cp<|starEach [.Constant (.str y) j p1,.Constant (.str z) k p2,.Constant (.int 1) l p3] X.env).all (λx=>!x.1)&&(backToKw cp<|keywordEach [] X.env).all (λx=>x.1.isSome)
  && decide ([Expr.Constant (.str y) j p1,.Constant (.str z) k p2,.Constant (.int 1) l p3].length+([]:List Keyword).length+(if([]:List Keyword).isEmpty then 0 else 1)<30))=true)
 (hline:(ap.endLine==cp.line)=true)
 (hs:backTo cp (starEach [.Constant (.str y) j p1,.Constant (.str z) k p2,.Constant (.int 1) l p3] X.env)=(false,eval (.Constant (.str y) j p1) X.env)::(false,eval (.Constant (.str z) k p2) X.env)::(false,eval (.Constant (.int 1) l p3) X.env)::[]):
 kr X (.Call (.Attribute (.Name x p) "replace" ap) [.Constant (.str y) j p1,.Constant (.str z) k p2,.Constant (.int 1) l p3] [] cp) (al X.K kd<|Eu i y z):=by
 intro Z' s σ H Q h1 I h;obtain⟨F,B,ad,as,r,S',R,e,q⟩:=h;obtain⟨t0,e1,e⟩:=bS_<|show(sC as i).bind _=_ from e;obtain⟨⟨hx,hr⟩,e⟩:=zv e;cases e;have hv:=R.txt e1;refine wpAny_Call_method_late hbase hfew hline rfl<|zxQ (wpAny_toks_of h1<|hi Z' s σ H (λv H'=>v = .str t0/\H'=H) I ⟨_,hv,rfl,rfl⟩) (λu s1 ⟨k1,v,H1,I1,rl,ev,eH⟩=>?_) λ_ _ z=>z.2;subst ev;subst eH;obtain⟨tk,rfl⟩:=(show ∃t,u=Value.str t0 t from rl);refine⟨"str","str.replace",PySem.F.plainAttrs_str,PySem.F.slot_str_replace,PySem.F.type_str_replace,typeIs_str _ _ _,(λa z=>nomatch z), ?_⟩;rw[hs];have hl:tooLong (t0.length+(oc t0 y).length*z.length)=false:=by
  have a1:=StrLaws.occ_length_le t0 y 0 t0.length 1;have a2:(oc t0 y).length*z.length<=1*14:=Nat.mul_le_mul a1 hz;unfold tooLong;rw[sizeLine_eq];exact zyF (by omega)
 refine Calls.callWith_builtin rfl<|Calls.evalArgs_plain<|Calls.spliced_cons<|Calls.Constant_str<|Calls.spliced_cons<|Calls.Constant_str<|Calls.spliced_cons ?_;refine yV (Ms Z' _ σ H1 (λv H'=>v = .int 1/\H'=H1) ((I1.tok _).tok _) ⟨rfl,rfl⟩) λu3 s3 ⟨v3,H3,I3,r3,e3,e4⟩=>?_;subst e3;subst e4;obtain⟨t3,rfl⟩:=(show ∃t,u3=Value.int 1 t from r3);refine Calls.spliced_nil ?_;refine call_gives PySem.F.slot_str_replace (typeIs_str _ _ _) PySem.F.entry_str_replace (PySem.F.args_str_replace_4 _ _ _ _) (SV t0 y z tk s1.toks (s1.toks+1) t3 ⟨?_, ?_,hyz,hl⟩) ?_
 . exact Bool.or_eq_false_iff.mpr ⟨beq_eq_false_iff_ne.mpr<|Nat.ne_of_gt k1,beq_eq_false_iff_ne.mpr<|Nat.succ_ne_zero _⟩
 . simp
 . have fin:∀t' (s4:Shared),Inv X Z' σ H3 s4->EP X Z' σ Q (.str (r1 t0 y z) t') s4:=λt' s4 I4=>⟨.str _,H3,I4,⟨_,rfl⟩,q _ [] ad H3 R (.lf<|.str _) Grow.refl⟩;unfold r1 at fin hr
   split
   . rename_i hc;rw[if_pos hc]at fin;exact fin _ _ I3
   . rename_i hc;rw[if_neg hc]at fin hr;exact⟨by rw[sizeLine_eq];omega,fin _ _<|I3.tok _⟩
def sM{b c:Expr}{fb fc:EF}(ha:AE X kd a fa)(hT:Tk X a)(hb:AE X kd b fb)(hc:kr X c (al X.K kd fc))(hr:AD X kd es fd)(h1:starEach (a::b::c::es) X.env=(false,eval a X.env)::starEach (b::c::es) X.env)
 (h2:starEach (b::c::es) X.env=(false,eval b X.env)::starEach (c::es) X.env) (h3:starEach (c::es) X.env=(false,eval c X.env)::starEach es X.env):AD X kd (a::b::c::es) (dC fa<|dC fb<|dC fc fd):=by
 with_unfolding_all (
 exact λpos Z' s σ H Q I h=>O6 ha hT (λpos Z' s σ H Q k I h=>KA (λZ' s σ H Q _ I h=>hb Z' s σ H Q I h) (λpos Z' s σ H Q k I h=>KA hc (λpos Z' s σ H Q _ I h=>hr pos Z' s σ H Q I h) h3 pos Z' s σ H Q k I<|W_ h) h2 pos Z' s σ H Q k I<|W_ h) h1 pos Z' s σ H Q I<|W_ h)
end
def O8{K}{kd}{σ}{H}{Q}(h:al K kd (w9 fa fb fc g g') σ H Q):Mi (λx y H Q=>∃O d e r,(∀a,O a->H a≠none)/\Vw K kd O H x d/\Vw K kd O H y e/\g d e=some r/\RQ K kd O H Q r) (λx y H Q=>∃O d e r,(∀a,O a->H a≠none)/\Vw K kd O H x d/\Vw K kd O H y e/\g' d e=some r/\RQ K kd O H Q r) (al K kd fa) (al K kd fb) (al K kd fc) σ H Q:=by
 obtain⟨F,B,ad,as,r,S',R,e,q⟩:=h;obtain⟨⟨p,U'⟩,⟨z,J'⟩,⟨x,lx⟩,h1,h2,h3,e⟩:=yU e;obtain⟨⟨y,ly⟩,r0,h4,h5,e⟩:=yu e;refine y9 R h1 λv M1 H1 R1 Co g1=>y9 R1 h2 λu CI H2 R2 rv2 g2=>⟨_,x,y,r0,R2.tr<|meet lx ly,(yS.vw R2 (Co.grow g2) h3).less Wx.meet1,(yS.vw R2 rv2 h4).less Wx.meet2,h5, ?_⟩
 match r0,e with
 | .im (.bl true),e=>
  obtain⟨⟨t,vi⟩,⟨y',ly'⟩,⟨z',lz'⟩,h6,h7,h8,e⟩:=yU e;obtain⟨r1,o,h9,h10,e⟩:=yu e;cases e;intro w H3 kp rp;cases rp;obtain⟨R3,g3⟩:=R2.more kp;refine⟨true,rfl, ?_⟩;refine y9 R3 h6 λw' ad4 H4 R4 rv4 g4=>⟨_,y',z',r1,R4.tr<|meet ly' lz',(yS.vw R4 ((rv2.grow g3).grow g4) h7).less Wx.meet1,(yS.vw R4 rv4 h8).less Wx.meet2,h9, ?_⟩;exact wa R4 h10 λw T' H' R' vb g'=>q w T' ad4 H' R' vb<|(((g1.trans g2).trans g3).trans g4).trans g'
 | .im (.bl false),e=>
  cases e;intro w H3 kp rp;cases rp;obtain⟨R3,g3⟩:=R2.more kp;refine⟨false,rfl, ?_⟩;exact q _ [] CI H3 R3 (.lf<|.bl _)<|(g1.trans g2).trans g3
def SK(hg:∀x y r,g' x y=some r->∃k,r = .im (.bl k))(h:w9 fa fb fc g g' as=some (p,U')):∃k,p = .ow (.lf true<|.bl k):=by
 obtain⟨_,_,_,_,_,_,h⟩:=yU h;obtain⟨_,r0,_,_,h⟩:=yu h
 match r0,h with
 | .im (.bl true),h=>
  obtain⟨_,_,_,_,_,_,h⟩:=yU h;obtain⟨r1,o,h1,h2,h⟩:=yu h;cases h;obtain⟨k,rfl⟩:=hg _ _ _ h1;cases h2;exact⟨k,rfl⟩
 | .im (.bl false),h=>cases h;exact⟨false,rfl⟩
def OC{op i7}(ho:JF X kd (compareOp op) g)(va:JF X kd (compareOp i7) g')(hg:∀x y r,g' x y=some r->∃k,r = .im (.bl k))(ha:AE X kd a fa)(hb:AE X kd b fb)(hc:AE X kd c fc)(hm:lastMarks [op,i7] [b,c]=false):
 AT X kd (.Compare a [op,i7] [b,c] pos) (fT<|w9 fa fb fc g g'):=by with_unfolding_all exact(GP (Sz ho va ha hb hc hm) λσ H Q h=>by
 obtain⟨F,B,ad,as,bb,S',R,e,q⟩:=h;obtain⟨⟨p,U'⟩,_,k,h1,h2,h3,e⟩:=yU e;cases e;obtain⟨k',rfl⟩:=SK hg h1;cases h2;cases h3;refine O8 ⟨F,B,ad,as,_,_,R,h1,λv T' Sh H' R' rv g'=>?_⟩;cases rv with
 |lf rp=>
  cases rp;exact⟨_,rfl,q Sh H' R' g'⟩)
end PF
end
namespace L2
open PySem PySem.Spec PyProof.Rows
abbrev SS:=Nat×List (Nat×Int)
noncomputable def ky(s:SS):List Int:=s.2.map Prod.snd
def m5(s:SS):Array Int:=((ky s).map hashInt).toArray
noncomputable def tb(led:Bool)(s:SS):SetTable:={mask:=s.1,place:=(s.2.map Prod.fst).toArray,dummies:=#[],finger:=0,led:=led,moves:=if s.1=7 then 0 else 1,plain:=true}
def jX(s:SS)(v:Int):Nat:=match(tb true s).freeSlot (hashInt v)with|some (j,_)=>j|none=>0
def h_(s:SS)(j:Nat):Nat:=SetTable.below (tb true s).place j
noncomputable def Wz(s:SS)(j p:Nat)(v:Int):SS:=(s.1,s.2.take p++(j,v)::s.2.drop p)
def jK(s:SS)(v:Int):SS:=Wz s (jX s v) (h_ s<|jX s v) v
def Ov(s:SS)(t:SetTable)(o:List Nat):SS:=(t.mask,t.place.toList.zip<|o.filterMap λi=>(ky s)[i]?)
noncomputable def vals:List Int:=[-1,0,1,2,3,4,5,6,7]
noncomputable def enc(s:SS):Nat:=s.2.foldl (λc p=>c*512+p.1*16+(p.2+2).toNat) (if s.1=7 then 1 else 2)
noncomputable def lh:Nat->Nat->List (Nat×Int)->SS
 |0,_,l=>(7,l)
 |f+1,c,l=>if c<512 then(if c=1 then 7 else 31,l)else lh f (c/512) ((c%512/16,((c%16:Nat):Int)-2)::l)
def dec(c:Nat):SS:=lh 10 c []
noncomputable def NJ(c:Nat):List Nat->Bool
 | []=>false
 |x::l=>Nat.beq c x||NJ c l
noncomputable def RD(s:SS)(v:Int):Bool:=s.2.any λp=>decide (p.2=v)
def kJ(c:Nat)(l:List Nat):List Nat:=if NJ c l then l else c::l
def nE(L:List Nat):List Nat:=L.foldl (λacc c=>vals.foldl (λacc v=>if RD (dec c) v then acc else kJ (enc<|jK (dec c) v) acc) acc) []
def lay:Nat->List Nat
 |0=>[1]
 |k+1=>if k<5 then nE (lay k)else(List.range 512).filterMap λb=>
  if(((List.range 9).filter b.testBit).length==k)=true then some (enc (31,([(0,0),(1,1),(2,2),(3,3),(4,4),(5,5),(6,6),(7,7),(30, -1)]:List (Nat×Int)).filter λp=>b.testBit (p.2+1).toNat))else none
noncomputable def pk(s t:SS):Bool:=Nat.beq s.1 t.1&&s.2==t.2
def pY(n:List Nat)(full:Bool)(s:SS):Bool:=vals.all λv=>RD s v ||
 match(tb true s).freeSlot (hashInt v)with
 |some (j,false)=>match(tb true s).put j with
  |(t,p)=>(t==tb true (Wz s j p v))&&t.fits (s.2.length+1)&&(t.tooFull==full)&&NJ (enc<|Wz s j p v) n&&pk (dec<|enc<|Wz s j p v) (Wz s j p v)
 |_=>false
def uo(n:List Nat)(s:SS):Bool:=match(tb true s).relaid (m5 s) (SetTable.grown s.2.length)with
 |some (t,o)=>(t==tb true (Ov s t o.toList))&&coversAll o s.2.length&&t.fits s.2.length&&(ky (Ov s t o.toList)==o.toList.filterMap λi=>(ky s)[i]?)&&NJ (enc<|Ov s t o.toList) n&&pk (dec<|enc<|Ov s t o.toList) (Ov s t o.toList)
 |none=>false
def iG(s:SS)(i:Nat):Nat:=SetTable.below (tb true s).place (match i with|0=>0|j+1=>(s.2.map Prod.fst).getD j 0+1)
def jI(s:SS):Bool:=(tb true s).fits s.2.length&&Nat.ble s.2.length 9&&(List.range<|s.2.length+1).all (λi=>Nat.beq (iG s i) i)&&(ky s).all (λu=>vals.any λv=>decide (u=v))&&decide (ky s).Nodup
def B_(k:Nat):Bool:=(lay k).all λc=>if k==5 then uo (lay 6) (dec c)else jI (dec c)&&(k==10||pY (lay<|k+1) (k==4) (dec c))
def gL:B_ 0=true:=by decide +kernel
def hV:B_ 1=true:=by decide +kernel
def gM:B_ 2=true:=by decide +kernel
def gz:B_ 6=true:=by decide +kernel
def iW:B_ 7=true:=by decide +kernel
def i_:B_ 8=true:=by decide +kernel
def iV:B_ 9=true:=by decide +kernel
def kW:B_ 10=true:=by decide +kernel
def HW:((lay 10).all λc=>vals.all λv=>RD (dec c) v)=true:=by decide +kernel
def i0:B_ 3=true:=by decide +kernel
def iY:B_ 4=true:=by decide +kernel
def ix:B_ 5=true:=by decide +kernel
theorem U2{c:Nat}:∀{l:List Nat},NJ c l=true->c ∈ l
 | [],h=>by cases h
 |x::l,h=>by
  unfold NJ at h;rw[Bool.or_eq_true]at h
  rcases h with h|h
  . rw[Nat.eq_of_beq_eq_true h];exact zzF
  . exact zzD _<|U2 h
def CO{s t}(h:pk s t=true):s=t:=by
 unfold pk at h;rw[zyB]at h;exact Prod.ext (Nat.eq_of_beq_eq_true h.1)<|eq_of_beq h.2
def Ca(c:Nat):Prop:=∃k,k<=10/\k≠5/\c ∈ lay k
def rB{k:Nat}(h:k<=10):B_ k=true:=by
 rcases(show k=0\/k=1\/k=2\/k=3\/k=4\/k=5\/k=6\/k=7\/k=8\/k=9\/k=10 by omega)with rfl|rfl|rfl|rfl|rfl|rfl|rfl|rfl|rfl|rfl|rfl
 . exact gL
 . exact hV
 . exact gM
 . exact i0
 . exact iY
 . exact ix
 . exact gz
 . exact iW
 . exact i_
 . exact iV
 . exact kW
def Dv{k c:Nat}(h:k<=10)(h5:k≠5)(hc:c ∈ lay k):jI (dec c)=true/\(k=10\/pY (lay<|k+1) (k==4) (dec c)=true):=by
 have:=rB h;have:=List.all_eq_true.mp this c hc;rw[if_neg (by simpa using h5),zyB,Bool.or_eq_true]at this;exact⟨this.1,this.2.imp_left λh=>by simpa using h⟩
def rD{c:Nat}(hc:c ∈ lay 5):uo (lay 6) (dec c)=true:=by
 have:=ix;have:=List.all_eq_true.mp this c hc
 rwa [if_pos<|by rfl]at this
def UH{s}{v}:RD s v=true ↔ v ∈ ky s:=by
 unfold RD ky;exact ⋯
def Nh{k c:Nat}{v}(hk:k<=10)(h5:k≠5)(hc:c ∈ lay k)(hv:v ∈ vals)(hn:RD (dec c) v=false):∃j p c1,(tb true<|dec c).freeSlot (hashInt v)=some (j,false)/\(tb true<|dec c).put j=(tb true<|dec c1,p)/\dec c1=Wz (dec c) j p v/\(tb true<|dec c1).fits ((dec c).2.length+1)=true/\(tb true<|dec c1).tooFull=(k==4)/\c1 ∈ lay (k+1)/\k≠10:=by
 rcases(Dv hk h5 hc).2 with h|h
 . subst h;have:=List.all_eq_true.mp HW c hc;have:=List.all_eq_true.mp this v hv;rw[hn]at this;cases this
 . have h10:k≠10:=by
    rintro rfl
    have:=List.all_eq_true.mp HW c hc;have:=List.all_eq_true.mp this v hv;rw[hn]at this;cases this
   have h:=List.all_eq_true.mp h v hv;rw[hn]at h;cases hf:(tb true<|dec c).freeSlot (hashInt v)with
   |none=>rw[hf]at h;cases h
   |some q=>
    obtain⟨j,d⟩:=q;rw[hf]at h;cases d with
    |true=>cases h
    |false=>
     cases hp:(tb true<|dec c).put j with
     |mk t p=>
      have h:((match(tb true<|dec c).put j with|(t,p)=>(t==tb true (Wz (dec c) j p v))&&t.fits _&&(t.tooFull==(k==4))&&NJ (enc<|Wz (dec c) j p v) (lay<|k+1)&&pk (dec<|enc<|Wz (dec c) j p v) (Wz (dec c) j p v)):Bool)=true:=h;rw[hp]at h;simp only[zyB]at h;obtain⟨⟨⟨⟨e1,e2⟩,e3⟩,e4⟩,e5⟩:=h;have e5:=CO e5;have e1:=eq_of_beq e1;refine⟨j,p,enc<|Wz (dec c) j p v,rfl,by rw[hp,e5,e1],e5,by rw[e5,<-e1];exact e2,by rw[e5,<-e1];exact eq_of_beq e3,U2 e4,h10⟩
def Cz{c:Nat}(hc:c ∈ lay 5):∃(o:Array Nat) (c2:Nat),(tb true<|dec c).relaid (m5<|dec c) (SetTable.grown (dec c).2.length)=some (tb true<|dec c2,o)/\coversAll o (dec c).2.length=true/\(tb true<|dec c2).fits (dec c).2.length=true/\(ky (dec c2)=o.toList.filterMap λi=>(ky<|dec c)[i]?)/\c2 ∈ lay 6:=by
 have h:=rD hc;unfold uo at h;cases hr:(tb true _).relaid _ _ with
 |none=>rw[hr]at h;cases h
 |some q=>
  obtain⟨t,o⟩:=q;rw[hr]at h;simp only[zyB]at h;obtain⟨⟨⟨⟨⟨e1,e2⟩,e3⟩,e4⟩,e5⟩,e6⟩:=h;have e6:=CO e6;have e1:=eq_of_beq e1;exact⟨o,enc _,by rw[e6];exact congrArg (λz=>some (z,o)) e1,e2,by rw[e6,<-e1];exact e3,by rw[e6];exact eq_of_beq e4,U2 e5⟩
def wu{c:Nat}(h:Ca c):(tb true<|dec c).fits (dec c).2.length=true/\(dec c).2.length<=9/\(∀i,i<=(dec c).2.length->iG (dec c) i=i)/\(∀u ∈ ky (dec c),u ∈ vals)/\(ky<|dec c).Nodup:=by
 obtain⟨k,h1,h2,h3⟩:=h;have h:=(Dv h1 h2 h3).1;unfold jI at h;simp only[zyB]at h;obtain⟨⟨⟨⟨e1,e2⟩,e3⟩,e4⟩,e5⟩:=h;refine⟨e1,Nat.le_of_ble_eq_true e2,λi hi=>Nat.eq_of_beq_eq_true<|List.all_eq_true.mp e3 i<|List.mem_range.mpr ⋯,λu m=>?_,of_decide_eq_true e5⟩;obtain⟨v,mv,hv⟩:=List.any_eq_true.mp<|List.all_eq_true.mp e4 u m
 rwa [of_decide_eq_true hv]
theorem MJ(t)(led)(f)(h):∀n p,SetTable.probe.go {t with led:=led} f h n p=SetTable.probe.go t f h n p
 |0,_=>rfl
 |n+1,p=>by
  unfold SetTable.probe.go;have e:SetTable.slot {t with led:=led} p.j=t.slot p.j:=rfl;rw[e];cases t.slot p.j with
  |empty=>rfl
  |dummy=>exact MJ t led f h n _
  |live i=>
   dsimp only
   split
   . rfl
   . exact MJ t led f h n _
def L7(t:SetTable)(led)(h):SetTable.freeSlot {t with led:=led} h=t.freeSlot h:=by
 unfold SetTable.freeSlot SetTable.probe;rw[MJ];rfl
def MT{t t':SetTable}{led}{hs}{w:Nat}{o}(h:t.relaid hs w=some (t',o)):SetTable.relaid {t with led:=led} hs w=some ({t' with led:=led},o):=by
 unfold SetTable.relaid SetTable.laid at h ⊢;cases e:SetTable.layClean _ hs with
 |none=>rw[e]at h;cases h
 |some ow=>
  rw[e]at h;have h:=zzY h;obtain⟨rfl,rfl⟩:=Prod.mk.inj h;rfl
noncomputable def vl(e:Int×Value):Option Int:=match e.2 with
 | .int k _=>if e.1=hashInt k then some k else none
 |_=>none
def Vk{e}{k}(h:vl e=some k):e.1=hashInt k/\∃tk,e.2 = .int k tk:=by
 obtain⟨a,b⟩:=e;unfold vl at h;dsimp only at h
 split at h
 . split at h
   . cases h;rename_i q;exact⟨q,_,rfl⟩
   . cases h
 . cases h
def su(k)(tk):vl (hashInt k,.int k tk)=some k:=if_pos rfl
def Mq(es:Array (Int×Value))(s:SS):Prop:=es.toList.map vl=(ky s).map some
def Mq.len{es}{s}(h:Mq es s):es.size=s.2.length:=by
 have:=congrArg List.length h;unfold ky at this
 rwa [zzB,zzB,zzB]at this
theorem Em:∀(L:List (Int×Value)) (ks:List Int),L.map vl=ks.map some->L.map Prod.fst=ks.map hashInt
 | [],[],_=>rfl
 | [],_::_,h=>by cases h
 |_::_,[],h=>by cases h
 |e::L,k::ks,h=>by
  have h1:=(List.cons.inj h).1;rw[zyR,zyR,Em L ks (List.cons.inj h).2,(Vk h1).1]
def Mq.mem{es}{s}(h:Mq es s){e}(he:e ∈ es.toList):∃k,k ∈ ky s/\vl e=some k:=by
 have:vl e ∈ (ky s).map some:=by rw[<-h];exact List.mem_map_of_mem he
 obtain⟨k,m,e⟩:=zxB.mp this;exact⟨k,m,e.symm⟩
def Na(h:Heap)(a:Addr)(led:Bool)(c:Nat):Prop:=∃o es ep,h.get? a=some o/\o.ExactSet/\o.data = .set es ep (tb led<|dec c)/\Mq es (dec c)
def rK{es}{led}{k c:Nat}{v}{tk}(hk:k<=10)(h5:k≠5)(hc:c ∈ lay k)(hv:v ∈ vals)(hn:RD (dec c) v=false)(hE:Mq es (dec c)):
 ∃l0 c1,layNew (tb led<|dec c) es (hashInt v) (.int v tk)=(l0,tb led<|dec c1,false,false)/\Mq l0 (dec c1)/\(tb led<|dec c1).tooFull=(k==4)/\c1 ∈ lay (k+1)/\k≠10/\∀u,u ∈ ky (dec c1) ↔ u=v\/u ∈ ky (dec c):=by
 obtain⟨j,p,c1,f1,f2,f3,f4,f5,f6,f7⟩:=Nh hk h5 hc hv hn;have hE1:Mq (SetTable.insertAt es p (hashInt v,.int v tk)) (dec c1):=by
  unfold Mq;rw[SetTable.toList_insertAt,f3];unfold Wz ky;have hE:es.toList.map vl=((dec c).2.map Prod.snd).map some:=hE;rw[zyL,zyR,List.map_take,List.map_drop,hE,su];simp
 refine⟨SetTable.insertAt es p (hashInt v,.int v tk),c1, ?_,hE1,f5,f6,f7,λu=>?_⟩
 . have hz:(SetTable.insertAt es p (hashInt v,.int v tk)).size=(dec c).2.length+1:=by
    rw[hE1.len,f3];unfold Wz;rw[zzJ,zzT,zzS,List.length_drop];omega
   unfold layNew;rw[show(tb led<|dec c).freeSlot (hashInt v)=some (j,false)from(L7 (tb true<|dec c) led _).trans f1];dsimp only;have hput:(tb led<|dec c).put j=(tb led<|dec c1,p):=by
    have h2:=congrArg Prod.snd f2;refine Prod.ext ?_ h2;exact congrArg (λt:SetTable=>{t with led:=led})<|congrArg Prod.fst f2
   rw[hput];dsimp only;rw[hz];unfold SetTable.orStandIn;rw[show(tb led<|dec c1).fits ((dec c).2.length+1)=true from f4];rfl
 . rw[f3];unfold Wz ky;simp only[zyL,zyR,zzM,zzC];have:u ∈ (dec c).2.map Prod.snd ↔ u ∈ ((dec c).2.take p).map Prod.snd\/u ∈ ((dec c).2.drop p).map Prod.snd:=by
    rw[<-zzM,<-zyL,List.take_append_drop]
   rw[this];constructor
   . rintro(h|h|h)
     . exact .inr<|.inl h
     . exact .inl h
     . exact .inr<|.inr h
   . rintro(h|h|h)
     . exact .inr<|.inl h
     . exact .inl h
     . exact .inr<|.inr h
def OP{α β:Type}(f:α->β)(L:List α)(o:List Nat):(o.filterMap λi=>L[i]?).map f=o.filterMap λi=>(L.map f)[i]? := by
 rw[List.map_filterMap];refine congrArg (λg=>List.filterMap g o)<|funext λi=>?_;rw[zzI]
def Kw{α:Type}{L:List α}{o}(h:coversAll o L.length=true):List.Perm (o.toList.filterMap λi=>L[i]?) L:=by
 refine((List.isPerm_iff.mp h).filterMap _).trans ?_;have:(List.range L.length).filterMap (λi=>L[i]?)=L:=by
  have:=filterMap_getElem?_range L.toArray;simpa using this
 rw[this]
def Hg{es:Array (Int×Value)}{led:Bool}{c:Nat}(hE:Mq es (dec c))(hc:c ∈ lay 5):
 ∃l0 c2,relayAll (tb led<|dec c) es (SetTable.grown es.size)=(l0,tb led<|dec c2,false)/\Mq l0 (dec c2)/\c2 ∈ lay 6/\(∀u,u ∈ ky (dec c2) ↔ u ∈ ky (dec c)):=by
 obtain⟨o,c2,f1,f2,f3,f4,f5⟩:=Cz hc;have hz:=hE.len;have e2:es.map (·.1)=m5 (dec c):=by
  refine Array.ext' ?_;rw[Array.toList_map];exact Em _ _ hE
 have e1:(tb led<|dec c).relaid (es.map (·.1)) (SetTable.grown es.size)=some (tb led<|dec c2,o):=by
  rw[e2,hz];exact MT (t':=tb true<|dec c2) f1
 have hE2:Mq (o.filterMap (es[·]?)) (dec c2):=by
  unfold Mq;rw[f4,Array.toList_filterMap,OP some];have:(o.toList.filterMap λi=>es[i]?)=o.toList.filterMap λi=>es.toList[i]? := congrArg (λg=>List.filterMap g o.toList) ⋯;rw[this,OP vl,show es.toList.map vl=(ky<|dec c).map some from hE]
 refine⟨o.filterMap (es[·]?),c2, ?_,hE2,f5,λu=>?_⟩
 . unfold relayAll;rw[e1];dsimp only;have hl:(o.filterMap (es[·]?)).size=(dec c).2.length:=by
    rw[hE2.len];have:(ky<|dec c2).length=(ky<|dec c).length:=by rw[f4];exact(Kw<|by unfold ky;rwa [zzB]).length_eq
    unfold ky at this
    rwa [zzB,zzB]at this
   rw[hl,hz,f2,show(tb led<|dec c2).fits (dec c).2.length=true from f3];rfl
 . rw[f4];exact(Kw<|by unfold ky;rwa [zzB]).mem_iff
def O4{es}{t}(hE:Mq es t):ElemsOf (intKind prog w) es.toList:=λe he=>by
 obtain⟨k,_,hk⟩:=hE.mem he;obtain⟨h1,tk,h2⟩:=Vk hk;exact⟨⟨k,by rw[h2];exact intKind_is _ _ _ _,h1⟩,by rw[h2];rfl⟩
def LZ{h:Heap}{o}{es}{ep:Nat}{t}(ho:h.get? a=some o)(hd:o.data = .set es ep t)(l0)(t'):
 (h.update a<|Obj.putSet l0 t').get? a=some {o with data:=.set l0 (ep+1) t'}:=by
 have:=zxP (Obj.putSet l0 t') ho (by rw[putSet_of l0 t' hd];rfl)
 rwa [putSet_of l0 t' hd]at this
def uM{Q:Bool->Shared->Prop}(hc:Ca c)(hv:v ∈ vals)(hS:Na s.heap a led c)
 (h:∀r h' c',Heap.SameBut a s.heap h'->Ca c'->Na h' a led c'->(∀u,u ∈ ky (dec c') ↔ u=v\/u ∈ ky (dec c))->Q r {s with heap:=h'}):
 wpAny (model prog w) A (setAddHashed a (.int v tk)<|hashInt v) Q E s:=by
 obtain⟨o,es,ep,ho,hex,hd,hE⟩:=hS;obtain⟨w1,w2,w3,w4,w5⟩:=wu hc;have hel:ElemsOf (intKind prog w) es.toList:=O4 hE;have hz:=hE.len;have hfit:(tb led<|dec c).fits es.size=true:=by rw[hz];exact w1
 unfold setAddHashed setAddHashedIn;refine zxK<|zxD<|wpAny_setState_of ho hd hfit ?_;dsimp only;rw[byScan_of (x:=.int v tk) rfl (by rw[hz];unfold scanBound;omega) hel];simp only[↓reduceIte];unfold setAddByScan;refine zxD ?_;refine zxD<|wpAny_rule ?_;refine zxD<|wpAny_setScan_of (intKind_is _ _ _ _) ho hd hfit hel ?_;have mem:∀e ∈ es.toList,(intKind prog w).is v e.2=true->RD (dec c) v=true:=λe he hi=>by
  obtain⟨k,mk,hk⟩:=hE.mem he;obtain⟨_,t,h2⟩:=Vk hk;rw[h2]at hi;have e1:k=v:=by simpa[intKind,Value.isInt]using hi
  exact UH.mpr<|e1 ▸ mk
 cases hr:List.findIdx? (λe=>(intKind prog w).is v e.2) es.toList with
 |some j=>
  dsimp only;obtain⟨hj,hpj,_⟩:=List.findIdx?_eq_some_iff_getElem.mp hr;have hT:=mem _ (zyX hj) hpj;refine zxE<|zxE ?_;have:=h false s.heap c (Heap.SameBut.refl a s.heap) hc ⟨o,es,ep,ho,hex,hd,hE⟩ λu=>⟨.inr,λz=>z.elim (λz=>z ▸ UH.mp hT) id⟩;cases s;exact this
 |none=>
  dsimp only;have hn:RD (dec c) v=false:=by
   cases hk:RD (dec c) v with
   |false=>rfl
   |true=>
    have m:some v ∈ es.toList.map vl:=by
     rw[show es.toList.map vl=(ky<|dec c).map some from hE];exact List.mem_map_of_mem<|UH.mp hk
    obtain⟨e,he,he1⟩:=zxB.mp m;obtain⟨_,t,h2⟩:=Vk he1;have h3:=List.findIdx?_eq_none_iff.mp hr e he;rw[h2]at h3;rw[intKind_is]at h3;cases h3
  obtain⟨k,k1,k2,k3⟩:=hc;obtain⟨es1,c1,hl,hE1,hF,hc1,hk10,hm⟩:=rK (led:=led) (tk:=tk) k1 k2 k3 hv hn hE;rw[hl];dsimp only;have hz1:es1.size<=10:=by
   have e1:=hE1.len;obtain⟨j,p,c1',f1,f2,f3,f4,f5,f6,f7⟩:=Nh k1 k2 k3 hv hn;have e2:=hl;unfold layNew at e2;rw[show(tb led<|dec c).freeSlot (hashInt v)=some (j,false)from(L7 (tb true<|dec c) led _).trans f1]at e2;have e3:=congrArg (λq=>q.1.size) e2;dsimp only at e3;rw[<-e3,<-zyS,SetTable.toList_insertAt,zzJ,zzT,zzS,List.length_drop,zyS];omega
  have hsz:es1.size<=sizeLine:=by rw[sizeLine_eq];omega
  refine zxD<|zxE (a:=()) ?_;rw[show(tb led<|dec c1).plain=true from rfl];simp only[↓reduceIte];refine zxD ?_;rw[hashByValue_scannable 8 (x:=.int v tk) rfl];refine zxE ?_;rw[show plainKind (.int v tk)=true from rfl];simp only[↓reduceIte];refine zxD<|wpAny_storeSet_of ho hd ?_ hsz;have ho1:=LZ ho hd es1<|tb led<|dec c1;have hsb1:=Heap.SameBut.update s.heap a<|Obj.putSet es1<|tb led<|dec c1;rw[hF];cases h4:(k==4)with
  |true=>
   have h4':k=4:=by simpa using h4
   subst h4';simp only[Bool.not_false,Bool.and_self,↓reduceIte];obtain⟨es2,c2,r1,r2,r3,r4⟩:=Hg (led:=led) hE1 hc1;rw[r1];dsimp only;have hz2:es2.size<=sizeLine:=by
    have:=(wu (c:=c2) ⟨6,by decide,by decide,r3⟩).2.1;rw[r2.len,sizeLine_eq];omega
   refine zxD<|zxE (a:=()) ?_;refine zxD<|wpAny_storeSet_of ho1 rfl ?_ hz2;refine zxE (zxE<|h true _ c2 (hsb1.trans<|Heap.SameBut.update _ a _) ⟨6,by decide,by decide,r3⟩ ⟨_,es2,_,LZ ho1 rfl es2<|tb led<|dec c2,hex,rfl,r2⟩ λu=>(r4 u).trans<|hm u)
  |false=>
   have h4':k≠4:=by simpa using h4
   simp only[Bool.and_false,Bool.false_eq_true,↓reduceIte];exact zxE<|zxE<|h true _ c1 hsb1 ⟨k+1,by omega,by omega,hc1⟩ ⟨_,es1,_,ho1,hex,rfl,hE1⟩ hm
def SetOf(h:Heap)(a:Addr)(led:Bool)(val:Nat->Int)(i:Nat):Prop:=∃c,Ca c/\Na h a led c/\∀u,u ∈ ky (dec c) ↔ ∃j,j<i/\val j=u
def SetOf.keep{h h':Heap}{a:Addr}{led:Bool}{val:Nat->Int}{i:Nat}(hS:SetOf h a led val i)(hk:∀o,h.get? a=some o->h'.get? a=some o):SetOf h' a led val i:=by
 obtain⟨c,hc,⟨o,es,ep,ho,r⟩,hm⟩:=hS;exact⟨c,hc,⟨o,es,ep,hk o ho,r⟩,hm⟩
def SD:dec 1=(7,[]):=by decide +kernel
section
variable{prog:Program}{w:World}{A:Around}{R:Result->Shared->Prop}{I:Addr}{fp wr:List Addr}{G:Array GenState->Array GenState->Prop}{n:Nat}{P:Nat->Value->Prop}{St:Nat->Shared->Prop}
def HL(W:WalksS prog w A.in1 I fp wr G n P St){S:Addr}(hSf:S ∉ fp){led:Bool}{val:Nat->Int}(hval:∀i v,P i v->∃t,v = .int (val i) t)(h8:∀i,i<n->val i ∈ vals):
 ∀(k i:Nat) (s:Shared),n-i=k->i<=n->St i s->SetOf s.heap S led val i->
  (∀s',Moved (S::wr) G s s'->SetOf s'.heap S led val n->R (.ok<|.ret .none) s')->
  codeAny (model prog w) A (.builtin "set.update.loop" ⟨[.ref S,.ref I],[]⟩) R s:=by
 have hSw:S ∉ wr:=λh=>hSf<|W.sub _ h;have hsub:∀b ∈ wr,b ∈ S::wr:=λb hb=>zzD _ hb;intro k
 induction k with
 |zero=>
  intro i s hk hi vq hS hR;have hin:i=n:=by omega
  subst hin;refine zxM F.entry_set_update_loop ?_;rw[zxJ F.plain_set_update_loop _];show wpAny _ A.in1 (pyNext (.ref I) >>= _) _ _ s;refine zxD<|W.done s _ _ vq λs' hm=>?_;exact zxE (hR s' (hm.mono hsub)<|hS.keep λo=>hm.heap S _ hSw)
 |succ k ih=>
  intro i s hk hi vq hS hR;have vj:i<n:=by omega
  refine zxM F.entry_set_update_loop ?_;rw[zxJ F.plain_set_update_loop _];show wpAny _ A.in1 (pyNext (.ref I) >>= _) _ _ s;refine zxD<|W.item i s _ _ vj vq λv s' hP hst' hm=>?_;obtain⟨t,rfl⟩:=hval i v hP;show wpAny _ A.in1 (holding [Value.int (val i) t] (setAdd S<|.int (val i) t) >>= _) _ _ s';refine zxD<|zxK ?_;unfold setAdd;refine zxK<|zxD<|(intKind prog w).pyHash (k:=val i) (intKind_is _ _ _ _) ?_;obtain⟨c,hc,hA,hm0⟩:=hS.keep λo=>hm.heap S _ hSw;refine uM (s:={s' with toks:=s'.toks+1}) (led:=led) hc (h8 i vj) hA λr h' c' hsb hc' hA' hm'=>?_;have hS2:SetOf h' S led val (i+1):=⟨c',hc',hA',λu=>by
   rw[hm' u,hm0 u];constructor
   . rintro(rfl|⟨j,h1,h2⟩)
     . exact⟨i,Nat.lt_succ_self i,rfl⟩
     . exact⟨j,zyY h1,h2⟩
   . rintro⟨j,h1,h2⟩
     rcases Nat.lt_or_ge j i with q|q
     . exact .inr ⟨j,q,h2⟩
     . have:j=i:=by omega
       subst this;exact .inl h2.symm⟩
  refine zxE ⟨zxN F.plain_set_update_loop _,ih (i+1) _ (by omega) vj (W.frame _ s' _ _ hst' (zyV _) λb hb o e=>?_) hS2 λs'' hm'' hS''=>?_⟩
  . rw[hsb.2 b (λh:b=S=>hSf<|by rw[<-h];exact hb)];exact e
  . refine hR s'' (Moved.trans W.gtrans ((hm.mono hsub).then_heap (zyV _) λb o hb e=>?_) hm'') hS'';rw[hsb.2 b (λh:b=S=>hb<|by rw[h];exact zzF)];exact e
end
section
variable{prog:Program}{w:World}{A:Around}{E:Value->Shared->Prop}{s:Shared}
noncomputable def wX(w:World):Bool:=!w.params.followText "set-order"
abbrev ZW(w:World):Obj:={cls:=.type "set",dict:=none,data:=.set #[] 0 (.fresh 0 0<|wX w)}
def Aa(a:Value){Q:Value->Shared->Prop}(h:Q (.ref s.heap.objs.size) {s with heap:=s.heap.push (ZW w)}):
 codeAny (model prog w) A (.call (.builtin "set.__new__") ⟨[.type "set",a],[]⟩) (wants Q E) s:=by
 refine codeAny_of_tree ?_;show wpAny _ A.in1 (do checkBuiltinCall "set.__new__" ⟨[.type "set",a],[]⟩;again (.builtin "set.__new__" ⟨[.type "set",a],[]⟩)) _ _ s;refine zxD<|wpAny_of_eq (F.newCall_set_1 a)<|zxE ⟨zxN F.plain_set_new _,zxM F.entry_set_new ?_⟩;rw[zxJ F.plain_set_new _];unfold Builtin.«set.__new__» Builtin.Frozenset.newClass;have hsub:=sub_set_self;obtain⟨hp,g,d,tk,os⟩:=s;dsimp only
 wp_walk
 refine wpAny_askSetting<|zxE ?_;dsimp only;simp only[newObj];refine zxD<|wpAny_alloc<|zxE ?_;exact zxE h
set_option maxHeartbeats 3200000 in
def pG{l:Addr}{items:Array Value}{val:Nat->Int}{Q:Value->Shared->Prop}
 (hh:A.handled=none) (hl:s.heap.IsList l items) (hv:∀i (v:Value),items[i]? = some v->∃t,v = .int (val i) t) (h8:∀i,i<items.size->val i ∈ vals)
 (h:∀(h':Heap) (tk:Nat),SetOf h' s.heap.objs.size (wX w) val items.size->(∀b o,s.heap.get? b=some o->h'.get? b=some o)->Q (.ref s.heap.objs.size) {s with heap:=h',toks:=tk}):
 wpAny (model prog w) A (call (.type "set") [.ref l]) Q E s:=by
 obtain⟨c,tl,hmro⟩:=F.called_set.mro;have hmade:=F.called_set.made;have hsub:=F.called_set.sub;refine wpAny_call<|codeAny_of_tree ?_;show wpAny _ _ (callAny (.type "set") _) _ _ _;refine zxE ⟨Code.quiet_builtin _ (by decide +kernel),zxM F.entry_type_call ?_⟩;rw[Around.under_plain (weight_type_call_type "set" [.ref l] []) rfl];have h1:=F.called_set.notType;have h2:=F.called_set.canCreate;have hct:=F.typeCall_set_1<|.ref l
 repeat (any_goals (first|assumption|wp_step))
 refine codeAny_mono (Aa (.ref l) (E:=E) (Q:=λobj M'=>obj = .ref s.heap.objs.size/\M'={s with heap:=s.heap.push (ZW w)}) ⟨rfl,rfl⟩) λr M' hr=>?_;cases r with
 |error e=>exact hr
 |ok fl=>
  cases fl with
  |ret obj=>
   obtain⟨rfl,rfl⟩:=hr;have hS:(s.heap.push<|ZW w).get? s.heap.objs.size=some (ZW w):=zxH _ rfl;have hT:Shared.TypeIs {s with heap:=s.heap.push (ZW w)} (.ref s.heap.objs.size) "set":=⟨_,hS,rfl⟩;have hli:=F.called_set.init.lookup;have hbi:=F.called_set.init.bind<|.ref s.heap.objs.size
   repeat (any_goals (first|assumption|wp_step))
   refine codeAny_mono (codeAny_call_builtin (R:=wants (λr s₂=>r = .none/\∃h' tk,s₂={s with heap:=h',toks:=tk}/\
    SetOf h' s.heap.objs.size (wX w) val items.size/\(∀b o,s.heap.get? b=some o->h'.get? b=some o)) E) F.called_set.init.plain F.entry_set_init<|check_set_init_1 hT ?_) λr₂ s₂ hr₂=>?_
   . obtain⟨ol,hol,l8,nl,hdl⟩:=hl;obtain⟨ocls,odict,odata,oslots⟩:=ol;simp only at l8 hdl;subst l8;subst hdl;have hol':(s.heap.push<|ZW w).get? l=some {cls:=.type "list",dict:=odict,data:=.seq items nl,slots:=oslots}:=zxF _ hol;have hsls:=F.sub_list_set;have hslf:=F.sub_list_frozenset;have vp:(Value.type "list"==Value.type "dict")=false:=by decide
     have ql:(s.heap.push<|ZW w).IsList l items:=⟨_,hol',rfl,nl,rfl⟩;unfold Builtin.«set.__init__» noKeywords Builtin.Frozenset.updateFrom;generalize hPI:pyIter=PI
     wp_walk
     subst hPI;refine wpAny_pyIter_list ql ?_;refine zxD<|wpAny_runValue ?_;have hlS:l<s.heap.objs.size:=zxG hol;have hh3:A.in1.in1.in1.handled=none:=by simp[hh]
     have hneI:l≠(s.heap.push<|ZW w).objs.size:=by rw[zxO];exact zzQ<|zyY hlS
     have hSf:s.heap.objs.size ∉ [(s.heap.push<|ZW w).objs.size,l]:=by
      rw[zxO];simp only[zzC,zzR,zyZ,or_false,not_or];exact⟨zzQ<|Nat.lt_succ_self _,Nat.ne_of_gt hlS⟩
     refine HL (led:=wX w) ((Walks.list hh3 _ l hneI items).toS) hSf hv h8 (items.size-0) 0 _ (by omega) (Nat.zero_le _) ⟨⟨_,zxH _ rfl,rfl,rfl⟩,(ql.push _)⟩
      ⟨1,⟨0,by decide,by decide,by decide +kernel⟩,⟨ZW w,#[],0,zxF _ hS,⟨rfl,rfl,rfl⟩,(by show _=Data.set #[] 0 (tb (wX w)<|dec 1);rw[SD];rfl),(by show Mq #[] (dec 1);rw[SD];rfl)⟩,λu=>⟨λh=>(by rw[SD]at h;cases h),λ⟨j,h,_⟩=>absurd h<|Nat.not_lt_zero _⟩⟩ λs' hm hS'=>?_
     obtain⟨h',g',d',tk',vk⟩:=s';have eg:g'=s.gens:=hm.gens;have ed:d'=s.drawn:=hm.drawn;have eo:vk=s.os:=hm.os;subst eg;subst ed;subst eo;show wpAny _ _ _ _ _ _;refine zxE ?_;show wpAny _ _ (ret Value.none) _ _ _;refine zxE ⟨rfl,h',tk',rfl,hS',λb o e=>hm.heap b o ?_<|zxF _<|zxF _ e⟩;have hb:=zxG e;simp only[zzC,zzR,zyZ,or_false,not_or];exact⟨zzQ hb,by rw[zxO];exact zzQ<|zyY hb⟩
   . cases r₂ with
     |error e=>exact hr₂
     |ok fl₂=>
      cases fl₂ with
      |ret r=>
       obtain⟨rfl,h',tk,rfl,hS',hk'⟩:=hr₂
       repeat (any_goals (first|assumption|wp_step))
       exact h _ _ hS' hk'
      |_=>exact hr₂.elim
  |_=>exact hr.elim
end
def pl(c:Nat):List Nat:=(dec c).2.map Prod.fst
def Re(c:Nat):(pl c).length=(dec c).2.length:=zzB ..
def TV{w:World}{c:Nat}(h:Ca c):(tb (wX w)<|dec c).fits (pl c).length=true:=by
 rw[Re];exact(wu h).1
theorem Zc:Slot "set_iterator" "__next__" "set_iterator.__next__":=
 .of (owner:="set_iterator") (n:="__next__") (by kernel_rfl) ⋯ ⋯ (by decide +kernel) (by first|exact .inl (by decide +kernel)|exact .inr (by decide +kernel)) (by kernel_rfl)
def Ry:entryFor table "set_iterator.__next__"=some Builtin.«set_iterator.__next__» := entryFor_of_tree ⋯
def Kd(a:Value):argsOk "set_iterator.__next__" ⟨[a],[]⟩:=⋯
theorem Vj:Slot "set_iterator" "__iter__" "set_iterator.__iter__":=
 .of (owner:="set_iterator") (n:="__iter__") (by kernel_rfl) ⋯ ⋯ (by decide +kernel) (by first|exact .inl (by decide +kernel)|exact .inr (by decide +kernel)) (by kernel_rfl)
theorem RR:entryFor table "set_iterator.__iter__"=some Builtin.«dict_keyiterator.__iter__» := entryFor_alias (id':="dict_keyiterator.__iter__") (by kernel_rfl) rfl (by decide +kernel) (by kernel_rfl)
def Kj(a:Value):argsOk "set_iterator.__iter__" ⟨[a],[]⟩:=⋯
theorem Um:entryFor table "set.__iter__"=some Builtin.«frozenset.__iter__» := entryFor_alias (id':="frozenset.__iter__") (by kernel_rfl) rfl (by decide +kernel) (by kernel_rfl)
theorem EA{α:Type}{next:Nat->Nat}:∀(f k:Nat) (l:List α) (out:Array α),l.length<=f->List.Perm (pickOrder.go next f k l out).toList (out.toList++l)
 |0,k,l,out,h=>by
  have:l=[]:=List.length_eq_zero_iff.mp ⋯;subst this;rw[zyD];exact .refl _
 |f+1,k,[],out,h=>by rw[zyD];exact .refl _
 |f+1,k,x::l,out,h=>by
  have hi:next k%(x::l).length<(x::l).length:=Nat.mod_lt _ ⋯;unfold pickOrder.go;rw[zzE hi];refine(EA f _ _ _<|by rw[List.length_eraseIdx_of_lt hi];simp at h ⊢;omega).trans ?_;rw[Array.toList_push,zxA];refine List.Perm.append_left _ ?_;rw[List.eraseIdx_eq_take_drop_succ];refine(show List.Perm (_[next k%(x::l).length]::((x::l).take _++(x::l).drop _)) _ from List.perm_middle.symm).trans ?_;rw[<-zyP hi,List.take_append_drop]
def F1{α:Type}(next:Nat->Nat)(xs:Array α):List.Perm (pickOrder next xs).toList xs.toList:=by
 have:=EA (next:=next) xs.size 0 xs.toList #[] ⋯;exact this
noncomputable def Y2(w:World)(a ep:Nat)(es:Array (Int×Value)):Array (Int×Value):=if w.params.followText "set-order"=true then pickOrder (w.params.setOrder a ep) es else es
def Y7(w:World)(a ep:Nat)(es:Array (Int×Value)):List.Perm (Y2 w a ep es).toList es.toList:=by
 unfold Y2
 split
 . exact F1 _ _
 . exact .refl _
def sl(w:World)(b i:Nat):Nat:=if w.params.followText "set-order"=true then 0 else match i with|0=>0|j+1=>(pl b).getD j 0+1
noncomputable abbrev Wb(f i a n ep:Nat):Obj:={cls:=.type "set_iterator",data:=.fields #[.int f 0,.int i 0,.ref a,.int n 0,.int ep 0]}
def OR{Q:Value->Shared->Prop}(ho:s.heap.get? a=some o)(hex:o.ExactSet)(hd:o.data = .set es ep (tb (wX w)<|dec b))(hf:(tb (wX w)<|dec b).fits es.size=true)
 (h:Q (.ref s.heap.objs.size) {s with heap:=s.heap.push (Wb 0 0 a es.size ep)}):wpAny (model prog w) A (pyIter<|.ref a) Q E s:=by
 have hT:s.TypeIs (.ref a) "set":=⟨o,ho,hex.1⟩;refine wpAny_pyIter_slot hT F.slot_set_iter<|zxR F.slot_set_iter hT Um ?_<|F.args_set_iter_1 _;refine zxD ?_;refine(zxE ?_);refine zxD ?_;refine zxD<|wpAny_setEntries_of ho hd hf<|zxE ?_;refine zxD ?_;refine zxD<|wpAny_setState_of ho hd hf ?_;refine zxD<|zxD<|wpAny_askSetting<|zxE ?_;refine zxE ?_;rw[if_neg<|by intro h;rw[zyB]at h;cases h.2];refine zxD<|zxE ?_;refine zxD<|wpAny_setEpoch_of ho hd hf ?_;refine zxD<|zxI (zxE ⟨_,rfl,"set_iterator",_,⟨_,zxH _ rfl,rfl⟩,Zc.lookup,h⟩) ?_;exact zzO (show 5<=1000 by decide)<|zzO (by decide:1000<=sizeLine)<|Nat.le_add_right _ _
def JC{Q:Option (Value×Nat)->Shared->Prop}(hb:Ca b)(ho:s.heap.get? a=some o)(hd:o.data = .set es ep (tb (wX w)<|dec b))(hz:es.size=(pl b).length)(hi:i<=es.size)
 (h:Q ((Y2 w a ep es)[i]?.map λe=>(e.2,sl w b<|i+1)) s):wpAny (model prog w) A (setNext a (sl w b i) i ep) Q E s:=by
 have hf:(tb (wX w)<|dec b).fits es.size=true:=by rw[hz];exact(TV hb)
 unfold setNext;refine zxD<|wpAny_setState_of ho hd hf ?_;dsimp only;unfold setsByText;show wpAny _ _ (if w.params.followText "set-order"=true then _ else _) _ _ _;cases hw:w.params.followText "set-order" with
 |true=>
  rw[if_pos rfl,if_neg<|by simp];unfold setWalk;refine zxD<|zxD<|wpAny_setState_of ho hd hf ?_;dsimp only;unfold setsByText;show wpAny _ _ (if w.params.followText "set-order"=true then _ else _) _ _ _;rw[if_pos hw];refine zxD<|wpAny_askSetting<|zxE<|zxE ?_;have e:(Y2 w a ep es)[i]?.map (λe=>(e.2,sl w b<|i+1))=((pickOrder ((model prog w).w.params.setOrder a ep) es)[i]?).map λe=>(e.2,sl w b i):=by unfold Y2 sl;rw[hw];rfl
  rw[<-e];exact h
 |false=>
  rw[if_neg<|by simp];rw[show wX w=true by unfold wX;rw[hw];rfl];have e1:SetTable.below (pl b).toArray (sl w b i)=i:=by
   unfold sl;rw[hw]
   rcases Nat.lt_or_ge i (pl b).length with q|q
   . exact(wu hb).2.2.1 i (by rw[Re]at q;omega)
   . have:i=(pl b).length:=by omega
     subst this;exact(wu hb).2.2.1 _ (by rw[Re];exact zzN _)
  refine zxE ?_;show Q (match es[SetTable.below (pl b).toArray<|sl w b i]?,(pl b).toArray[SetTable.below (pl b).toArray<|sl w b i]? with|some (_,x),some j=>some (x,j+1)|_,_=>none) s;rw[e1];have e2:(Y2 w a ep es)[i]?.map (λe=>(e.2,sl w b<|i+1))=match es[i]?,(pl b).toArray[i]? with|some (_,x),some j=>some (x,j+1)|_,_=>none:=by
   have q1:Y2 w a ep es=es:=by unfold Y2;rw[if_neg<|by rw[hw];simp]
   have q2:sl w b (i+1)=(pl b).getD i 0+1:=by unfold sl;rw[if_neg<|by rw[hw];simp]
   rw[q1,q2]
   rcases Nat.lt_or_ge i (pl b).length with q|q
   . rw[Array.getElem?_eq_getElem (by omega),List.getElem?_toArray,zyE,zzE q];rfl
   . rw[Array.getElem?_eq_none<|by omega];rfl
  rw[<-e2];exact h
def DR{Q:Option Value->Shared->Prop}(hh:A.handled=none)(hb:Ca b)(ho:s.heap.get? a=some o)(hd:o.data = .set es ep (tb (wX w)<|dec b))(hz:es.size=(pl b).length)(hi:i<=es.size)
 (hit:s.heap.get? I=some (Wb (sl w b i) i a es.size ep))
 (h1:∀x h',(Y2 w a ep es)[i]? = some x->h'.get? I=some (Wb (sl w b<|i+1) (i+1) a es.size ep)->Heap.SameBut I s.heap h'->Q (some x.2) {s with heap:=h'})
 (h2:(Y2 w a ep es)[i]? = none->∀h',Heap.ExtBut I s.heap h'->Q none {s with heap:=h'}):wpAny (model prog w) A (pyNext<|.ref I) Q E s:=by
 have hf:(tb (wX w)<|dec b).fits es.size=true:=by rw[hz];exact(TV hb)
 have hT:s.TypeIs (.ref I) "set_iterator":=⟨_,hit,rfl⟩;unfold pyNext;refine zxD<|wpAny_attempt<|wpAny_callSpecial?_slot hT Zc<|zxR Zc hT Ry ?_<|Kd _;unfold Builtin.«set_iterator.__next__»;refine zxD<|zxE ?_;refine zxD<|wpAny_fieldsOf hit rfl ?_;dsimp only;refine zxD<|wpAny_setEntries_of ho hd hf ?_;rw[if_neg<|by simp];refine(zxD ?_);rw[zyH,zyH,zyH];refine JC hb ho hd hz hi ?_;cases hx:(Y2 w a ep es)[i]? with
 |some x=>
  refine zxD<|wpAny_setField_rec hit (by show 0<5;decide) λk1 g1 sb1=>?_;refine zxD<|wpAny_setField_rec g1 (by show 1<5;decide) λk2 g2 sb2=>?_;exact zxE ⟨_,rfl,zxE<|h1 x k2 hx g2<|sb1.trans sb2⟩
 |none=>
  refine zxD<|wpAny_setField_rec hit (by show 2<5;decide) λk1 g1 sb1=>?_;refine zxD ?_;unfold newExc;refine zxD<|zxI (zxD<|wpAny_of_eq (Eq.refl<|firstArgMember (Value.type "StopIteration") [])<|zxI ?_<|sizeOk_excFields _ _ _ _ _ _ _ _) ?_
  . unfold raiseNew;refine zxD<|wpAny_handled ?_;have hh':A.in1.handled=none:=hh;rw[hh'];refine zxD<|zxE ?_;refine wpAny_throw<|zxD<|wpAny_isInstance ⟨_,zxH _ rfl,rfl⟩ isSubtype_stop<|zxE<|h2 hx _ λb u hb e=>zxF _<|zxF _ ?_;exact(sb1.2 b hb).trans e
  . exact Nat.zero_le _
def FH{prog:Program}{w:World}{A:Around}{a I:Addr}{b ep:Nat}{o:Obj}{es:Array (Int×Value)}(hh:A.handled=none)(vp:a≠I)(hb:Ca b)(hd:o.data = .set es ep (tb (wX w)<|dec b))(hz:es.size=(pl b).length):
 Walks prog w A I [I,a] [I] es.size (λi v=>∃x,(Y2 w a ep es)[i]? = some x/\v=x.2) (λi h=>h.get? I=some (Wb (sl w b i) i a es.size ep)/\h.get? a=some o/\i<=es.size)where
 sub:=λb hb=>by simp at hb;simp[hb]
 frame:=λ_ _ _ st hk=>⟨hk I (by simp) _ st.1,hk a (by simp) _ st.2.1,st.2.2⟩
 item:=λi s Q E hi st hQ=>by
  refine DR hh hb st.2.1 hd hz st.2.2 st.1 (λx h' hx hg sb=>?_) λhx=>?_
  . exact hQ _ h' s.toks ⟨x,hx,rfl⟩ ⟨hg,(sb.2 a vp).trans st.2.1,hi⟩ λc u hc e=>sb.extBut c u (λq=>hc<|by simp[q]) e
  . have e:(Y2 w a ep es).size=es.size:=by have:=(Y7 w a ep es).length_eq;simpa using this
    rw[Array.getElem?_eq_none_iff]at hx;omega
 done:=λs Q E st hQ=>by
  refine DR hh hb st.2.1 hd hz st.2.2 st.1 (λx h' hx hg sb=>?_) λhx h' he=>hQ h' s.toks λc u hc e=>he c u (λq=>hc<|by simp[q]) e;have e:(Y2 w a ep es).size=es.size:=by have:=(Y7 w a ep es).length_eq;simpa using this
  rw[Array.getElem?_eq_none<|by omega]at hx;cases hx
 self:=λi s Q E st hQ=>by
  have hT:s.TypeIs (.ref I) "set_iterator":=⟨_,st.1,rfl⟩;refine wpAny_pyIter_slot hT Vj<|zxR Vj hT RR ?_<|Kj _;exact zxE ⟨_,rfl,"set_iterator",_,hT,Zc.lookup,hQ⟩
def ME:typeLookup (.type "set") "__len__"=pure (some<|.builtin "set.__len__"):=F.slot_set_len.lookup
theorem Nd{Q:List Value->Shared->Prop}(hh:A.handled=none)(hb:Ca b)(hS:Na s.heap a (wX w) b)
 (h:∀h' tk vs,s.heap.objs.size<h'.objs.size->(∀c u,s.heap.get? c=some u->h'.get? c=some u)->(∃ns,IntsAre vs ns/\ns.Perm (ky<|dec b))->Q vs {s with heap:=h',toks:=tk}):
 wpAny (model prog w) A (collect<|.ref a) Q E s:=by
 obtain⟨o,es,ep,ho,hex,hd,hE⟩:=hS;have hz:es.size=(pl b).length:=by rw[Re];exact hE.len
 have hfit:(tb (wX w)<|dec b).fits es.size=true:=by rw[hz];exact(TV hb)
 have h8:es.size<=9:=by rw[hz,Re];exact(wu hb).2.1
 have hsz:s.heap.objs.size≠a:=Nat.ne_of_gt<|zxG ho;unfold collect;refine zxD<|wpAny_runValue<|zxM F.entry_proto_collect ?_;rw[zxJ F.plain_proto_collect _];show wpAny _ A.in1 (newList [] >>= λl=>again<|.builtin "list.__iadd__" ⟨[l,.ref a],[]⟩) _ _ s;refine zxD<|zxI ?_;refine zxE ⟨zxN F.plain_list_iadd _,zxM F.entry_list_iadd ?_⟩;rw[zxJ F.plain_list_iadd _];show wpAny _ A.in1 (Builtin.List.listExtendWith (.ref s.heap.objs.size) (.ref a)<|.ref s.heap.objs.size) _ _ _;have ho1:(s.heap.push {cls:=.type "list",data:=.seq ([]:List Value).toArray}).get? a=some o:=zxF _ ho;unfold Builtin.List.listExtendWith;refine zxD<|wpAny_typeOf (T:="set") ⟨o,ho1,hex.1⟩ ?_;have h1:Builtin.List.listSameRef (.ref s.heap.objs.size) (.ref a)=false:=by simp[Builtin.List.listSameRef,hsz]
 have h2:(Value.type "set"==Value.type "list")=false:=by decide
 have h3:(Value.type "set"==Value.type "tuple")=false:=by decide
 simp only[h1,h2,h3,Bool.or_false,Bool.false_eq_true,if_false];refine zxD<|OR ho1 hex hd hfit ?_;generalize hH:s.heap.push {cls:=.type "list",data:=.seq ([]:List Value).toArray}=H at ho1 ⊢;have hHs:H.objs.size=s.heap.objs.size+1:=by rw[<-hH,zxO]
 have ho2:(H.push<|Wb 0 0 a es.size ep).get? a=some o:=zxF _ ho1;refine zxD<|zxK ?_;unfold Builtin.List.listLengthHint;refine zxD (wpAny_specialOf (T:="set") ⟨o,ho2,hex.1⟩ ME ?_)
 wp_delta
 refine zxD<|wpAny_isInstance (T:="set") (b:=true) ⟨o,ho2,hex.1⟩ (by rw[isSubtype_type];kernel_rfl) ?_;show wpAny _ A.in1 (typeOf (Value.ref a) >>= _) _ _ _;refine zxD<|wpAny_typeOf (T:="set") ⟨o,ho2,hex.1⟩ ?_;refine zxE ?_;rw[if_pos<|by decide];refine zxD<|wpAny_rule ?_;have hS₁:(H.push<|Wb 0 0 a es.size ep).get? s.heap.objs.size=some {cls:=.type "list",data:=.seq ([]:List Value).toArray}:=zxF _<|hH ▸ zxH _ rfl;refine zxD ?_;show wpAny _ A.in1 (updateSeq s.heap.objs.size (·.push .none) >>= λ_=>updateSeq s.heap.objs.size (·.pop)) _ _ _;refine zxD<|wpAny_updateSeq hS₁ rfl ?_;have hS₂:=zxP (Obj.mapSeq (·.push Value.none)) hS₁ rfl;refine wpAny_updateSeq hS₂ rfl ?_;have hS₃:=zxP (Obj.mapSeq (·.pop)) hS₂ rfl;generalize hK:(H.push<|Wb 0 0 a es.size ep).update s.heap.objs.size (Obj.mapSeq (·.push Value.none))=K1 at hS₂ hS₃ ⊢;have oth:∀c u,c≠s.heap.objs.size->(H.push<|Wb 0 0 a es.size ep).get? c=some u->(K1.update s.heap.objs.size (Obj.mapSeq (·.pop))).get? c=some u:=
  λc u hc e=>by rw[<-hK];exact(zxL _ _<|Ne.symm hc).trans<|(zxL _ _<|Ne.symm hc).trans e
 have vp:a≠H.objs.size:=by rw[hHs];exact zzQ<|zyY<|zxG ho
 have hSf:s.heap.objs.size ∉ [H.objs.size,a]:=by
  simp only[zzC,zyZ,or_false,not_or];exact⟨by omega,hsz⟩
 have hI:(H.push<|Wb 0 0 a es.size ep).get? H.objs.size=some (Wb 0 0 a es.size ep):=zxH _ rfl;have s0:sl w b 0=0:=by unfold sl;split<;>rfl
 refine zxE ⟨zxN F.plain_extend_loop _,codeAny_extend_loopS (FH (w:=w) (by simpa using hh) vp hb hd hz).toS (by rw[sizeLine_eq];omega) _ hSf _ es.size 0 _ _ _ rfl (Nat.zero_le _)
  ⟨by rw[s0];exact oth _ _ (by omega) hI,oth _ _ (Ne.symm hsz) ho2,Nat.zero_le _⟩ hS₃ (ItemsOf.nil _) λs' acc' c' hm hS' hacc=>?_⟩
 show wpAny _ A (load s.heap.objs.size >>= _) _ _ s';refine zxD<|wpAny_load hS' ?_;obtain⟨h',g',d',tk',vk⟩:=s';have eg:g'=s.gens:=hm.gens;have ed:d'=s.drawn:=hm.drawn;have eo:vk=s.os:=hm.os;subst eg;subst ed;subst eo;refine zxE<|h h' tk' _ (zxG hS') (λc u e=>?_) ?_
 . have hc:=zxG e;refine hm.heap c u (λq=>?_)<|oth c u (zzQ hc)<|zxF _<|hH ▸ zxF _ e
   rcases zzC.mp q with q|q
   . exact absurd hc<|q ▸ Nat.lt_irrefl _
   . rw[zzR.mp q,hHs]at hc;exact absurd hc<|Nat.not_lt.mpr<|zyV _
 . have el:(Y2 w a ep es).size=es.size:=by have:=(Y7 w a ep es).length_eq;simpa using this
   have e1:acc'.toList=(Y2 w a ep es).toList.map Prod.snd:=by
    refine List.ext_getElem? λj=>?_;rw[zzI,Array.getElem?_toList,Array.getElem?_toList]
    rcases Nat.lt_or_ge j es.size with q|q
    . have hj:j<acc'.size:=by rw[hacc.1];exact q
      obtain⟨x,hx,hx'⟩:=hacc.2 j _<|Array.getElem?_eq_getElem hj;rw[Array.getElem?_eq_getElem hj,hx,hx'];rfl
    . rw[Array.getElem?_eq_none (by rw[hacc.1];exact q),Array.getElem?_eq_none<|by omega];rfl
   have hv:∀(L:List (Int×Value)),(∀e ∈ L,e ∈ es.toList)->IntsAre (L.map Prod.snd) (L.filterMap vl):=λL=>by
    induction L with
    |nil=>intro _;exact .nil
    |cons e L ih=>
     intro h;obtain⟨k,_,hk⟩:=hE.mem<|h e<|zzF ..;obtain⟨_,tk,h2⟩:=Vk hk;rw[List.filterMap_cons_some hk];show IntsAre (e.2::_) (k::_);rw[h2];exact .cons _ _<|ih λe' he'=>h e'<|zzD _ he'
   refine⟨(Y2 w a ep es).toList.filterMap vl, ?_, ?_⟩
   . rw[e1];exact hv _ λe he=>(Y7 w a ep es).mem_iff.mp he
   . refine((Y7 w a ep es).filterMap vl).trans ?_;have:es.toList.filterMap vl=ky (dec b):=by
      have h1:es.toList.map vl=(ky<|dec b).map some:=hE;have h2:es.toList.filterMap vl=(es.toList.map vl).filterMap id:=by rw[List.filterMap_map];rfl
      rw[h2,h1,List.filterMap_map];simp
     rw[this]
def NZ{Q:Value->Shared->Prop}(hh:A.handled=none)(hb:Ca b)(hS:Na s.heap a (wX w) b)
 (h:∀h' tk c (out:Array Value) (ns:List Int) e,s.heap.objs.size<=c->(∀c u,s.heap.get? c=some u->h'.get? c=some u)->h'.get? c=some (seqObj "list" out e)->IntsAre out.toList ns->ns.Perm (ky<|dec b)->ns.Pairwise (· <= ·)->Q (.ref c) {s with heap:=h',toks:=tk}):
 wpAny (model prog w) A (call (.builtin "sorted") [.ref a]) Q E s:=by
 refine Calls.call_function_entry kind_sorted plain_sorted entry_sorted (args_sorted1 _) ?_;unfold Builtin.«sorted»;refine zxD (m:=checkCount "sorted" 1 1 _)<|zxE ?_;refine zxD<|Nd (by simpa using hh) hb hS λh1 tk vs hle hk ⟨ns,hI,hp⟩=>?_;have hoL:(h1.push<|seqObj "list" vs.toArray 0).get? h1.objs.size=some (seqObj "list" vs.toArray 0):=zxH _ rfl;have h64:vs.length<64:=by
  have e1:=hI.length;have e2:=hp.length_eq;have e3:=(wu hb).2.1;have e4:(ky<|dec b).length=(dec b).2.length:=zzB ..;omega
 refine zxD<|wpAny_newList ?_ (hsz:=by rw[sizeLine_eq];omega);refine zxD<|zxK<|zxR slot_list_sort ⟨_,hoL,rfl⟩ entry_list_sort (list_sort_tree hoL hI h64 λout ns' a1 a2 a3=>⟨_,rfl, ?_⟩)<|args_list_sort _;obtain⟨e,he⟩:=sortedHeap_at (out:=out) hoL;refine zxE ⟨_,rfl,h _ tk h1.objs.size out ns' e (Nat.le_of_lt hle) (λc u e=>?_) he a1 (a2.trans hp) a3⟩;have hc:=zxG<|hk c u e;rw[sortedHeap_old (zzQ hc)<|by rw[zxO];exact zyY hc];exact zxF _<|hk c u e
end L2
namespace PF
open PySem PySem.Spec PyProof.Rows L2
noncomputable def UG(ns:List Int):List Int:=ns.foldl step_dedup []
def lL:List D->Option R0:=lq λx=>(lH x).bind λds=>(YQ ds).bind λns=>if ns.length<=200000/\ns.all (λn=>decide (-1<=n)&&decide (n<8))=true then some (.fl<|(sortI<|UG ns).map .int)else none
theorem W9{v}:∀(ns acc:List Int),v ∈ ns.foldl step_dedup acc ↔ v ∈ acc\/v ∈ ns
 | [],acc=>⋯
 |n::ns,acc=>by
  rw[List.foldl_cons,W9 ns,zzC];unfold step_dedup
  split
  . rename_i h;obtain⟨y,h1,h2⟩:=List.any_eq_true.mp h;have:=of_decide_eq_true ⋯;subst this;exact⟨λz=>z.elim .inl λz=>.inr<|.inr z,λz=>z.elim .inl λz=>z.elim (λe=>.inl<|e ▸ h1) .inr⟩
  . rw[zzM,zzR,or_assoc]
theorem Us:∀(ns acc:List Int),acc.Nodup->(ns.foldl step_dedup acc).Nodup
 | [],acc,h=>h
 |n::ns,acc,h=>by
  refine Us ns _ ?_;unfold step_dedup
  split
  . exact h
  . rename_i q;refine zxC.mpr ⟨h,zzV.mpr ⋯,λa ha b hb=>?_⟩;rw[zzR.mp hb]
    rintro rfl
    exact q<|List.any_eq_true.mpr ⟨a,ha,⋯⟩
def Jt{n}(h0 : -1<=n)(h1:n<8):n ∈ vals:=by
 unfold vals
 rcases(show n = -1\/n=0\/n=1\/n=2\/n=3\/n=4\/n=5\/n=6\/n=7 by omega)with rfl|rfl|rfl|rfl|rfl|rfl|rfl|rfl|rfl<;>simp
noncomputable def valN(ns:List Int)(i:Nat):Int:=ns.getD i 0
def Gd{ns}{i:Nat}(h:i<ns.length):valN ns i=ns[i]:=by
 unfold valN;rw[zyE,zzE h];rfl
def FE{ns}{c:Nat}(hc:Ca c)(h:∀u,u ∈ ky (dec c) ↔ ∃j,j<ns.length/\valN ns j=u):List.Perm (ky<|dec c) (UG ns):=by
 refine(List.perm_ext_iff_of_nodup (wu hc).2.2.2.2<|Us ns [] zyI).mpr λv=>?_;rw[h v];rw[W9];constructor
 . rintro⟨j,h1,h2⟩
   rw[Gd h1]at h2;exact .inr<|h2 ▸ zyX h1
 . rintro(z|z)
   . cases z
   . obtain⟨i,hi,e⟩:=List.getElem_of_mem z;exact⟨i,hi,by rwa [Gd hi]⟩
def r_:bootBuiltins "set"=some (.type "set"):=⋯
def B1:bootBuiltins "sorted"=some (.builtin "sorted"):=⋯
def gk(K:zzA)(ta:TA):TE:=λσ H Q=>ta σ H λvs H1=>∃r ys ns,vs=[.ref r]/\VJ K H1 r ys/\(∀us,zK ys us->IntsAre us ns)/\(∀n ∈ ns, -1<=n/\n<8)/\ns.length<=200000/\∀c,H1 c=none->Q (.ref c) (upd H1 c<|.lst<|(sortI<|UG ns).map V.int)
def Da(ns):(UG ns).length<=ns.length:=by
 have:∀(ns acc:List Int),(ns.foldl step_dedup acc).length<=acc.length+ns.length:=λns=>by
  induction ns with
  |nil=>intro acc;exact zzN _
  |cons n ns ih=>
   intro acc;refine zzO (ih _) ?_;unfold step_dedup
   split
   . rw[zzT];omega
   . simp;omega
 simpa[UG]using(this ns [])
def Mw{a}{ta}{p p' pos pos'}(hc:X.calm=true)(hg:Gl X "set")(hm:X.mg "set"=none)(hgl:Gl X "sorted")(hml:X.mg "sorted"=none)(ha:PA X [a] ta)(hs:starEach [a] X.env=[(false,eval a X.env)])
 (hs':starEach [.Call (.Name "set" p) [a] [] pos] X.env=[(false,eval (.Call (.Name "set" p) [a] [] pos) X.env)]):PE X (.Call (.Name "sorted" p') [.Call (.Name "set" p) [a] [] pos] [] pos') (gk X.K ta):=by
 intro Z' s σ H Q I h;refine wpAny_Call_Name_kw<|YI I hgl hml B1<|PyProof.Rows.callWith_builtin1 ?_ hs' rfl;rw[hs'];show wpAny _ _ (spliced ((false,eval _ X.env)::backTo pos' [])) _ _ s;refine Calls.spliced_cons ?_;refine wpAny_Call_Name_kw<|YI I hg hm r_<|PyProof.Rows.callWith_type1 (yV (ha pos Z' s σ H _ I h) λus s1 ⟨vs,H1,I1,r1,q1⟩=>?_) hs rfl;obtain⟨r,ys,ns,rfl,sq,hss,h8,hz,q⟩:=q1;cases r1 with
 |cons rr rs=>
  cases rs;cases rr;obtain⟨zM,rv,pl,_⟩:=I1.list sq;have hS:=hss zM rv;have hl:=hS.length;refine pG (val:=valN ns) (I1.ok.hd hc) pl.isList (λi v hv=>?_) (λi hi=>?_) λh' tk hSet hk=>?_
  . obtain⟨t,e⟩:=hS.int_at i v (by simpa using hv);refine⟨t, ?_⟩;rw[e];rfl
  . have hi':i<ns.length:=by simpa[hl]using hi
    rw[Gd hi'];have:=h8 _<|zyX hi';exact Jt this.1 this.2
  . refine Calls.spliced_nil ?_;rw[show zM.toArray.size=ns.length by simpa using hl]at hSet;obtain⟨cc,hcc,hSet,hmm⟩:=hSet;refine NZ (I1.ok.hd hc) hcc hSet λh2 tk2 c out ns' e hle i6 hg hI hp hs=>?_;have en:ns'=sortI (UG ns):=VU _ _ ((hp.trans<|FE hcc hmm).trans (sortI_perm _).symm) hs<|Za _;subst en;obtain⟨nid,hob⟩:∃nid,h2.get? c=some (seqObj "list" out nid):=⟨e,hg⟩;have hsz:s1.heap.objs.size<=h'.objs.size:=by obtain⟨_,_,_,z,_⟩:=hSet;exact Nat.le_of_lt<|zxG z
    refine⟨.ref c,_,I1.laid (t':=tk2) (λb o z=>i6 b o<|hk b o z) (zzO hsz hle) (show xJ X.prog X.w _ _ _ (.lst<|(sortI<|UG ns).map V.int)from⟨?_,out.toList,nid,Yp hI,by simpa[seqObj]using hob⟩),rfl,q c<|I1.hok.fresh<|zzO hsz hle⟩;rw[zzB,(sortI_perm _).length_eq];exact ZE (by have:=Da ns;omega)
def Mr{a}{fr}{p p' pos pos'}(hc:X.calm=true)(hg:Gl X "set")(hm:X.mg "set"=none)(hgl:Gl X "sorted")(hml:X.mg "sorted"=none)(ha:AA X kd [a] fr)(hs:starEach [a] X.env=[(false,eval a X.env)])
 (hs':starEach [.Call (.Name "set" p) [a] [] pos] X.env=[(false,eval (.Call (.Name "set" p) [a] [] pos) X.env)]):AE X kd (.Call (.Name "sorted" p') [.Call (.Name "set" p) [a] [] pos] [] pos') (fP fr lL):=by
 with_unfolding_all exact(yg (Mw hc hg hm hgl hml ha hs hs') λσ H Q h=>by
  obtain⟨F,B,ad,as,r,S',R,e,q⟩:=h;obtain⟨⟨rs,U'⟩,_,r0,h1,h2,h3,e⟩:=yU e;obtain⟨z,h4,e⟩:=bS_ e;cases e;refine(⟨F,B,ad,as,rs,U',R,h1,λvs M1 H1 R1 Co g1=>?_⟩);have vl:=XZ R1 Co h2;obtain⟨x,d,rfl,vx,he⟩:=NS vl h3;obtain⟨ds',h0,he2⟩:=bS_<|he;cases N3 h0;obtain⟨ns,k1,he3⟩:=bS_ he2;obtain⟨⟨hz,ha⟩,he4⟩:=zv he3;cases he4;cases vx with
  |lst hr rl=>exact⟨_,_,ns,rfl,hr.sq,λus hv=>AH rl hv k1,λn hn=>by have:=List.all_eq_true.mp ha n hn;simpa using this,hz,Wn (wa R1 h4 λw T' H' R' vb g'=>q w T' M1 H' R' vb<|g1.trans g')<|Lz _⟩)
def Fq(K:zzA)(mg:Str->Option Value)(x:Str)(st:Stmt):Prop:=∃f d,Fun K x x st f d/\mg x=some (.ref f)
def Cn(x:Str)(P:Program)(w:World)(K:zzA)(mg:Str->Option Value)(base:Heap)(cx:Jl)(k:Nat)(sp:Sp):Prop:=∃f d ps,FnOk P w K mg base cx k f d ps sp/\mg x=some (.ref f)/\W.keepIn K (.ref f)=true/\Binds K d ps []
def iC(x:Str)(P:Program)(w:World)(K:zzA)(mg:Str->Option Value)(base:Heap)(k:Nat)(sp:Sp):Prop:=∃f d ps,FnQ P w K mg base k f d ps sp/\mg x=some (.ref f)/\W.keepIn K (.ref f)=true/\Binds K d ps []
abbrev Bd(x:Str)(st:Stmt)(ps:List Str):Prop:=∀kV doc pm an Mk ct us,us.length=ps.length->bindArgs (W.fnOf x x (XW st) (xx st) (zp st) .none kV doc pm an Mk ct) ⟨us,[]⟩=pure (ps.zip us)
structure XQ(K:zzA)(C S:Addr)(Ds:List Addr)(st:Stmt):Prop where
 xs:XS K S
 xi:XI K C "at"
 xk:W.keepIn K (.ref C)=true
 m1:W.exmOne K (.ref C) (.ref C)=some true
 m2:W.exmOne K (.ref C) (.ref S)=some true
 k1:W.kitOne K (.ref C) (.ref C)=some true
 k2:W.kitOne K (.ref C) (.type "ValueError")=some true
 ka:W.kitAny K (.ref C) (Ds.map .ref)=some false
 y:∃f d,XC K C S f "at"/\Fun K "__init__" "NoText.__init__" st f d
def lO{x:Str}{st:Stmt}{ps:List Str}(h:Bd x st ps:=by first|exact λ_ _ _ _ _ _=>iK λ_=>rfl|exact λ_ _ _ _ _ _=>kq λ_ _=>rfl|exact λ_ _ _ _ _ _=>jW λ_ _ _=>rfl|exact λ_ _ _ _ _ _=>ij λ_ _ _ _=>rfl):Bd x st ps:=h
section
variable{P:Program}{w:World}{K:zzA}{mg:Str->Option Value}{base:Heap}{kd:KD}{x:Str}{st:Stmt}{N:List Str}{n k:Nat}{sp:Sp}{cx:Jl}{C:Addr}{an:Str}
def Td(Q:Fq K mg x st)(g:∀{f d},Fun K x x st f d->FnScope N (N.take n) (zp st)->FnOk P w K mg base cx k f d (N.take n) sp)
 (S:FnScope N (N.take n) (zp st):=by exact Io) (h:Bd x st (N.take n):=by exact lO):Cn x P w K mg base cx k sp:=by
 obtain⟨f,d,F,e⟩:=Q;exact⟨f,d,_,g F S,e,F.kp,F.binds h⟩
def YU(st:Stmt):List Str:=(zp st).names.filterMap λp=>match p.2 with | .local=>some p.1 | .cell=>some p.1|_=>none
def Zj(n:Nat){cc:SF}(Q:Fq K mg x st)(N:List Str:=YU st)
 (hb:N.Nodup->∀f Mk A outer s H E,Room k (A.deeper<|envOfC x (zp st) s.heap.objs.size f Mk)->P_ (v9 VM P w K mg base N x (zp st) f Mk A outer s H E).nox kd (xx st) cc:=by trivial)
 (S:FnScope N (N.take n) (zp st):=by exact Io) (h:Bd x st (N.take n):=by exact lO):Cn x P w K mg base VM (k+1) (G9 K kd<|wj N.length (N.take n).length cc):=Td Q (λF S=>D2 F S<|hb S.nd _) S h
def jQ(n:Nat)(Q:Fq K mg x st)(N:List Str:=YU st)(S:FnScope N (N.take n) (zp st):=by exact Io)(h:Bd x st (N.take n):=by exact lO):Cn x P w K mg base VM k (G9 K kd λ_=>none):=Td Q (λ_ _=>Jo) S h
def kT(n:Nat){g:WU}(Q:Fq K mg x st)(N:List Str:=YU st)
 (hb:N.Nodup->∀f Mk A outer s H E,Room k (A.deeper<|envOfC x (zp st) s.heap.objs.size f Mk)->E3 (v9 (Rv P w C an) P w K mg base N x (zp st) f Mk A outer s H E) kd C an (xx st) g:=by trivial)
 (S:FnScope N (N.take n) (zp st):=by exact Io) (h:Bd x st (N.take n):=by exact lO):Cn x P w K mg base (Rv P w C an) (k+1) (Dn K kd<|gY N.length (N.take n).length g):=Td Q (λF S=>mI F S<|hb S.nd _) S h
def mW{S:Addr}{Ds:List Addr}(X:XQ K C S Ds st)
 (h:∀{f d},XC K C S f "at"->Fun K "__init__" "NoText.__init__" st f d->FnOk P w K mg base VM 1 f d ["self","at"] (D1 K C "at"))
 (b:∀kV doc pm an Mk ct us,us.length=2->bindArgs (W.fnOf "__init__" "NoText.__init__" (XW st) (xx st) (zp st) .none kV doc pm an Mk ct) ⟨us,[]⟩=pure ((["self","at"]:List Str).zip us):=by exact λ_ _ _ _ _ _=>kq λ_ _=>rfl):
 ∃f d,XC K C S f "at"/\FnOk P w K mg base VM 1 f d ["self","at"] (D1 K C "at")/\Binds K d ["self","at"] []:=by
 obtain⟨f,d,Y,F⟩:=X.y;exact⟨f,d,Y,h Y F,F.binds b⟩
end
section
variable{n:Nat}{an:Str}
def cn{gg}(C:Cn x X.prog X.w X.K X.mg X.base VM k (G9 X.K kd gg))(hr:Room n X.A)(ha:AA X kd (e::es) fr)(hn:k<=n:=by omega)(hg:Gl X x:=by rfl)(vv:(x==("__debug__":Str))=false:=by decide)(he:starEach (e::es) X.env=(false,eval e X.env)::starEach es X.env:=by rfl)(C':(backTo pos<|starEach es X.env).any (·.1)=false:=by rfl):
 AE X kd (.Call (.Name x p) (e::es) [] pos) (zf fr gg):=by
 obtain⟨f,d,ps,F,m,kp,b⟩:=C;exact Au F (hr.mono hn) hg m kp b mY ha vv he C'
def gm{gg}(C:iC x X.prog X.w X.K X.mg X.base k (G9 X.K kd gg))(hr:RoomQ k X.A)(ha:AA X kd (e::es) fr)(hg:Gl X x:=by rfl)(vv:(x==("__debug__":Str))=false:=by decide)(he:starEach (e::es) X.env=(false,eval e X.env)::starEach es X.env:=by rfl)(C':(backTo pos<|starEach es X.env).any (·.1)=false:=by rfl):
 AE X kd (.Call (.Name x p) (e::es) [] pos) (zf fr gg):=by
 obtain⟨f,d,ps,F,m,kp,b⟩:=C;exact Od F hr hg m kp b ha vv he C'
def iq{g:List (Bool×D)->Option D}(Y:Cn x X.prog X.w X.K X.mg X.base (Rv X.prog X.w C an) k (Dn X.K kd g))(hr:Room n X.A)(ha:AA X kd (e::es) fr)(hn:k<=n:=by omega)(hex:X.ex=[]:=by rfl)(hg:Gl X x:=by rfl)(vv:(x==("__debug__":Str))=false:=by decide)(he:starEach (e::es) X.env=(false,eval e X.env)::starEach es X.env:=by rfl)(C':(backTo pos<|starEach es X.env).any (·.1)=false:=by rfl):
 BZ X kd C an (.Call (.Name x p) (e::es) [] pos) (gC fr g):=by
 obtain⟨f,d,ps,F,m,kp,b⟩:=Y;exact Cw F (hr.mono hn) hg m kp b hex ha vv he C'
def iR(Y:Cn x X.prog X.w X.K X.mg X.base cx k sp)(ha:oQ X kd C an (e::es) gf)(hg:Gl X x:=by rfl)(vv:(x==("__debug__":Str))=false:=by decide)(he:starEach (e::es) X.env=(false,eval e X.env)::starEach es X.env:=by rfl)(C':(backTo pos<|starEach es X.env).any (·.1)=false:=by rfl):
 BZ X kd C an (.Call (.Name x p) (e::es) [] pos) gf:=by
 obtain⟨f,d,ps,F,m,kp,b⟩:=Y;exact Cc hg m kp ha vv he C'
def gQ(he:BZ X kd C an e gf)(hs:isStar e=false:=by rfl):oQ X kd C an (e::es) gf:=OG he<|yo hs
theorem iX{y:Str}{pos':Pos}(hN:X.N.Nodup)(he:BZ X kd C an e gf)(hi:X.N[X.N.idxOf y]? = some y:=by first|rfl|kernel_rfl)(hx:Loc X.env.scope y:=by first|exact Or.inl rfl|exact Or.inr rfl)(hs:swapsWith e (some<|.Name y pos') pos.line X.env=pure false:=by rfl)(hf:X.fn y=true\/X.env.scope.names.lookup y=some .local:=by first|exact Or.inl rfl|exact Or.inr rfl):
 AX X kd C an (.Assign [.Name y pos'] e pos) gf:=rL hN hi hx he hs hf
def gj{tg iter:Expr}{body:List Stmt}{i:Nat}{fi:IF}{f:SF}{gb:WU}(hi:∀E,AI {X with xe:=E} kd tg iter fi)(hg:∀E,AG {X with xe:=E} kd tg [i]<|gN i)(hb1:∀E,P_ {X with xe:=E} kd body f)(g_:∀E,E3 {X with xe:=E} kd C an body gb)
 (vq:X.stack=X.env::X.outer:=by rfl) (hfm:X.env.frame=some X.env.locals:=by rfl) (hc:X.calm=true:=by rfl) (hs:∀x,foldedSetIterable iter X.env x=pure x:=by exact λ_=>rfl):AX X kd C an (.For tg iter body [] pos) (RN fi (gN i) f gb):=qr vq hfm hc hi hg hb1 g_ hs
def jH{S:Addr}{te:TE}{p' KE:Pos}(Y:∃f d,XC X.K C S f "at"/\FnOk X.prog X.w X.K X.mg X.base VM 1 f d ["self","at"] (D1 X.K C "at")/\Binds X.K d ["self","at"] [])(kp:W.keepIn X.K (.ref C)=true)(hr:Room n X.A)
 (hm:X.mg x=some (.ref C)) (ha:PE X e te) (hn:2<=n:=by omega) (hg:Gl X x:=by rfl) (vv:(x==("__debug__":Str))=false:=by decide) (he:starEach [e] X.env=(false,eval e X.env)::starEach [] X.env:=by rfl) (hex:X.ex=[]:=by rfl):
 PS X (.Raise (some<|.Call (.Name x p') [e] [] KE) none pos) (λD σ H=>te σ H λk H1=>(∃kd O d,Rp X.K kd O H1 k d/\ZK d=true)/\
  ∀Z' s' e dx,H1 e=none->H1 dx=none->dx≠e->X.s₀.heap.objs.size<=e->X.s₀.heap.get? dx=none->Inv X Z' σ (HX "at" H1 e C dx k) s'->X.xe (.ref e) s'):=by
 obtain⟨f,d,Y,F,b⟩:=Y;exact SA Y kp F (hr.mono hn) b hg hm ha vv he hex
end
section
variable{P:Program}{w:World}{K:zzA}{mg:Str->Option Value}{h:Heap}{KL:List (Addr×List (Key×V))}{x:Str}{st:Stmt}{f C:Addr}
def nz(X:K.In h)(G:h.Ns mainGlobals mg)(a:W.nsIn K mainGlobals x=some (some<|.ref f))(l:∃d,Fun K x x st f d):Fq K mg x st:=⟨f,l.elim λd F=>⟨d,F,W.mg_of X G a⟩⟩
def YN(X:K.In h)(G:h.Ns mainGlobals mg)(a:W.nsIn K mainGlobals x=some (some<|.ref C)):Xn mg x=C:=Dc<|W.mg_of X G a
def ny(X:K.In h)(G:h.Ns mainGlobals mg)(a:W.nsIn K mainGlobals x=some (some<|.ref C)):mg x=some (.ref<|(kdL KL<|Xn mg).c x):=by
 rw[show(kdL KL<|Xn mg).c x=C from YN X G a];exact W.mg_of X G a
def kd1{c:Str->Addr}{q:Addr}{kvs:List (Key×V)}{es:Array DictEntry}{ep:Nat}(ch:K.lookup q=some {cls:=.type "dict",data:=.dict es ep})(he:Ents w es.toList kvs)(hn:(kvs.map (·.1)).Nodup)(hl:kvs.length<=sizeLine)(hs:(q==sysModules)=false):qE P w K (kdL [(q,kvs)] c):=
 rX λp m=>by rw[zzR.mp m];exact⟨⟨_,_,ch,he⟩,hn,hl,hs⟩
def pU{c:Str->Addr}{q:Addr}{kvs:List (Key×V)}:(kdL [(q,kvs)] c) q kvs:=by
 show List.lookup q [(q,kvs)]=_;rw[List.lookup_cons,beq_self_eq_true]
end
end PF
namespace G17
open PySem PySem.Spec PyProof.Rows L2 PF
abbrev zA:EF:=fV 1
abbrev z6:EF:=fC<|.int 0
abbrev zo:EF:=fV 0
abbrev yJ:EF:=fC<|.int 2
abbrev zD:EF:=fC<|.int 1
abbrev zH:EF:=fV 2
abbrev VC:EF:=fC<|.int 4
abbrev X3:GF:=gN 4
abbrev zS:EF:=fV 4
abbrev zP:EF:=fV 3
abbrev yb:GF:=gN 0
abbrev zl:=vR .Add
abbrev wg:EF:=fV 5
abbrev MR:EF:=fC<|.int 5
abbrev YT:EF:=fV 6
abbrev YS:EF:=fV 7
abbrev Qx:EF:=fV 11
abbrev zR:=vR .Mod
abbrev xh:=vR .Mult
abbrev vU:EF:=fC<|.int 8
abbrev zX:=vR .FloorDiv
abbrev wZ:EF:=fC<|.int 3
abbrev vX:=vR .Sub
abbrev QU:EF:=fC<|.int 6
abbrev xX:AF:=aC (fV 3) aN
abbrev yy:AF:=aC (fV 0) aN
abbrev Zb:AF:=aC (fV 1) aN
abbrev xQ:AF:=aC (fV 2) aN
abbrev ju:AF:=aC (fV 5) aN
abbrev HZ:AF:=aC (fV 7) aN
abbrev p7:EF:=(f2 zo (fC<|.tup [(.str "a"),(.str "b"),(.str "c")])<|zj .In)
def Ce:SF:=(zt<|Kc (Be zo "str")<|Kc p7<|f2 zo zA<|zj .In)
def Yk:Fn:=wj 2 2 Ce
def RL:SF:=(zt<|z7 .dct (fC<|.dct [(.inr "add",(.int 2)),(.inr "take",(.int 2)),(.inr "times",(.int 2)),(.inr "most",(.int 2)),(.inr "least",(.int 2)),(.inr "same",(.int 4))]) (aC zo<|aC z6 aN) getP')
def zL:Fn:=wj 1 1 RL
def SM:SF:=(ze (yN (fT<|f2 zo (fC<|.str "add")<|zj .Eq) (zt<|f2 zA zH zl) xf)<|ze (yN (fT<|f2 zo (fC<|.str "take")<|zj .Eq) (zt<|f2 zA zH vX) xf)<|ze (yN (fT<|f2 zo (fC<|.str "times")<|zj .Eq) (zt<|f2 zA zH xh) xf)<|ze (yN (fT<|f2 zo (fC<|.str "most")<|zj .Eq) (zt<|fP (aC zA xQ) IC) xf)<|zt<|fP (aC zA xQ) Bn)
def Ui:Fn:=wj 3 3 SM
def EG(self:Fn):SF:=(ze (zm true 3<|f2 zo z6 zU)<|ze (yN (fT<|f2 zP (fC<|.str "number")<|zj .Eq) (zt<|f2 (f2 zo zD zU) zA zR) xf)<|ze (yN (fT<|f2 zP (fC<|.str "name")<|zj .Eq) (zt<|f2 (f2 zH (f2 zo zD zU) zU) zA zR) xf)<|ze (zm true 4<|zf (aC (f2 zo zD zU)<|aC zA xQ) self)<|ze (zm true 5<|zf (aC (f2 zo yJ zU)<|aC zA xQ) self)<|ze (yN (fT<|f2 zP (fC<|.str "same")<|zj .Eq) (ze (zm true 6<|PR (fT<|f2 zS wg<|zj .Eq) (f2 zo wZ zU)<|f2 zo VC zU)<|zt<|zf (aC YT<|aC zA xQ) self) xf)<|zt<|f2 (zf (aC zP<|aC zS ju) Ui) zA zR)
def XY:Nat->Fn
 |0=>λ_=>none
 |n+1=>wj 7 3<|EG<|XY n
def BE:SF:=(ze (yN (yY (v7<|fT<|Be zo "str")<|yY (fT<|f2 (fP yy z8) zD<|zj .Lt)<|fT<|f2 (fP yy z8) vU<|zj .Gt) (zt<|fC<|.bl false) xf)<|zt<|fP (aC (zC (RF zo) [none] yb z_<|f2 zo (fC<|.str "abcdefghijklmnopqrstuvwxyz")<|zj .In) aN) Lg)
def VX:Fn:=wj 1 1 BE
abbrev p_:EF:=(zC (yq (aC (f2 (fP yy z8) zD vX) aN) y8) [none,some 0] yb z_<|f2 (f2 zA zo zU) (f2 zA (f2 zo zD zl) zU)<|zj .Lt)
def Nr:SF:=(zt<|fP (aC p_ aN) Lg)
def Y6:Fn:=wj 1 1 Nr
abbrev rH:AF:=(aC zA<|aC zH<|aC (UQ [((fC<|.str "a"),zP),((fC<|.str "b"),zo)]) aN)
def B2:SF:=(zt<|zC (yq yy y8) [none,some 1,some 0] yb z_<|zC (yq xQ y8) [none,some 1,some 2,some 0] yb z_<|zf rH<|XY 20)
def Qe:Fn:=wj 2 2 B2
abbrev uA:AF:=(aC zA<|aC zH<|aC (UQ [((fC<|.str "a"),zo),((fC<|.str "c"),zP)]) aN)
def BI:SF:=(zt<|zC (yq Zb y8) [none,some 2,some 0] yb z_<|zC (yq xQ y8) [none,some 1,some 2,some 0] yb z_<|zf uA<|XY 20)
def Qg:Fn:=wj 3 3 BI
def Gz:SF:=(ze (yN (yY (fT<|f2 zo (fC<|.str "")<|zj .Eq)<|fT<|f2 (fP yy z8) zA<|zj .Gt) (zt<|fC<|.bl false) xf)<|ze (yN (Uh (fT<|f2 (f2 zo z6 zU) (fC<|.str "0")<|zj .Eq)<|fT<|f2 zo (fC<|.str "0")<|zj .NotEq) (zt<|fC<|.bl false) xf)<|zt<|fP (aC (zC (RF zo) [none] yb z_<|f2 zo (fC<|.str "0123456789")<|zj .In) aN) Lg)
def xT:Fn:=wj 2 2 Gz
abbrev tF:EF:=(zf (aC zo<|aC (fC<|.int 60) aN) xT)
def qg:SF:=(ze (yN (fT<|f2 (zf yy zL) z6<|zj .Gt) (zt<|f2 zA (fC<|.int 12)<|zj .Lt) xf)<|zt<|lp tF<|zf (aC zo xQ) Yk)
def Xd:Fn:=wj 3 3 qg
abbrev uT:TF:=(yY (fT<|f2 (fP xQ z8) z6<|zj .Eq)<|v7<|fT<|zf (aC zS<|aC (f2 zH z6 zU) Zb) Xd)
abbrev jz:SF:=(zm true 2<|f2 (f2 (yx<|dC (f2 (f2 zH z6 zU) zD zl) dN) (zf (aC zS aN) zL) xh) (wV zH (oS zD) oN Yq) zl)
abbrev tH:TF:=(fT<|f2 (f2 (f2 zP zD zl) (fP xQ z8) zl) (fC<|.int 40)<|zj .Gt)
def RP:SF:=(ze (zm true 2<|yx<|dC z6 dN)<|ze (vD (Sy zo) (gT 2<|Yo (gN 3)<|Yo X3 GH)<|ze (yN uT (zt zP) xf)<|ze jz<|yN tH (zt zP) xf)<|zt<|PR (fT<|f2 (fP xQ z8) z6<|zj .Gt) (fP yy z8)<|fC .non)
def yW:Fn:=wj 5 2 RP
def Bv:SF:=(ze (yN (fT tF) (zt<|yC<|dC (fC<|.str "number")<|dC (fP yy Xp) dN) xf)<|zt<|yC<|dC (fC<|.str "name")<|dC zo dN)
def Yc:Fn:=wj 1 1 Bv
abbrev qS:SF:=(zm true 4<|PR (fT<|f2 zP z6<|zj .Eq) (zf xQ Yc)<|fP (aC (f2 (yx<|dC zH dN) (wV zA oN (oS zP) Yq) zl) aN) tupP)
abbrev uQ:EF:=(f2 (yx<|dC zS dN) (wV zA (oS zP) oN Yq) zl)
def F2:SF:=(ze (zm true 1<|yx dN)<|ze (vD (AY zo) (gN 2)<|ze (zm true 3<|zf xQ zL)<|ze qS<|zm true 1 uQ)<|zt<|f2 zA z6 zU)
def Qp:Fn:=wj 5 1 F2
abbrev Sa:EF:=(z7 .str zo (aC (fC<|.str " ") aN) xB)
def L6:SF:=(ze (zm true 2 Sa)<|ze (zm true 3<|zf (aC zH Zb) yW)<|ze (yN (fT<|f2 zP (fC .non)<|zj .IsNot) lK xf)<|zt<|zf xQ Qp)
def ZO:Fn:=wj 4 2 L6
def ZT:List (Bool×D)->Option D:=gX 4 2 3 (ze (zm true 2<|z7 .str zo (aC (fC<|.str " ") aN) xB)<|zm true 3<|zf (aC zH Zb) yW)<|fT<|f2 zP (fC .non)<|zj .IsNot
def RU:SF:=(ze (yN (v7<|fT tF) (zt<|fC .non) xf)<|ze (zm true 3<|fP yy Xp)<|zt<|PR (fT<|w9 zA zP zH (zj .LtE)<|zj .LtE) zP<|fC .non)
def yF:Fn:=wj 4 3 RU
def NI:SF:=(ze (zm true 2<|zC (x6 zo) [none,some 1] yb z_<|zf (aC zo<|aC z6<|aC (f2 zA zD vX) aN) yF)<|zt<|PR (fT<|f2 (fC .non) zH<|zj .In) (fC .non) zH)
def Zr:Fn:=wj 3 2 NI
abbrev ma:EF:=(Kc (f2 zo (fC .non)<|zj .IsNot)<|f2 (fP yy z8) zA<|zj .Eq)
abbrev nI:EF:=(fP (aC (zC (x6 zP) [none,some 2] yb z_ ma) aN) Lg)
def La:SF:=(ze (zm true 3<|zC (x6<|z7 .str zo (aC (fC<|.str ", ") aN) xB) [none,some 2] yb z_<|zf (aC Sa Zb) Zr)<|ze (yN (yY (fT<|f2 (fP xX z8) zA<|zj .NotEq)<|v7<|fT nI) (zt<|fC .non) xf)<|zt zP)
def ZQ:Fn:=wj 4 3 La
def V9:SF:=(P5 (zt<|zf (aC zo Zb) ZO) (gC (aC zo Zb) ZT)<|zt<|fC .non)
def xO:Fn:=wj 2 2 V9
abbrev sS:EF:=(z7 .str zo (aC (fC<|.str " ") aN) ED)
abbrev Jf:EF:=(yx<|dC (fC<|.str "a")<|dC (fC<|.str "b") dN)
def Va:SF:=(ze (zm true 2 sS)<|ze (yN (fT<|f2 (f2 zH z6 zU) (fC<|.str "rows")<|zj .Eq) (zt<|zf (aC (f2 zH yJ zU)<|aC zA Zb) ZQ) xf)<|ze (zm true 3<|zf (aC zo<|aC Jf aN) xO)<|zt<|PR (fT<|f2 zP (fC .non)<|zj .Is) (fC .non)<|zf (aC zA xX) Qe)
def wJ:Fn:=wj 4 2 Va
def Vq:SF:=(ze (zm true 3 sS)<|ze (yN (fT<|f2 (f2 zP z6 zU) (fC<|.str "rows")<|zj .Eq) (zt<|zf (aC (f2 zP yJ zU)<|aC zH Zb) ZQ) xf)<|ze (zm true 4<|zf (aC zo<|aC (yx<|dC (fC<|.str "a")<|dC (fC<|.str "c") dN) aN) xO)<|zt<|PR (fT<|f2 zS (fC .non)<|zj .Is) (fC .non)<|zf (aC zA<|aC zH<|aC zS aN) Qg)
def wH:Fn:=wj 5 3 Vq
abbrev pj:TF:=(yY (fT<|f2 (fP Zb z8) VC<|zj .NotEq)<|yY (fT<|f2 (f2 zA z6 zU) (fC<|.str "values")<|zj .NotEq)<|fT<|f2 (f2 zA yJ zU) (fC<|.str "around")<|zj .NotEq)
def TN:SF:=(ze (zm true 1 Sa)<|ze (yN pj (zt<|fC .non) xf)<|ze (zm true 2<|zf (aC (f2 zA zD zU)<|aC zD<|aC vU aN) yF)<|ze (zm true 3<|zf (aC (f2 zA wZ zU)<|aC zD<|aC QU aN) yF)<|zt<|PR (yY (fT<|f2 zH (fC .non)<|zj .Is)<|fT<|f2 zP (fC .non)<|zj .Is) (fC .non)<|yC<|dC zH<|dC zP dN)
def wW:Fn:=wj 4 1 TN
def Nl:SF:=(ze (zm true 2 sS)<|zt<|PR (fT<|f2 (f2 zH z6 zU) (fC<|.str "join")<|zj .Eq) (zf (aC (f2 zH yJ zU) Zb) wJ)<|fC .non)
def xM:Fn:=wj 3 2 Nl
def UT:SF:=(ze (zm true 2 Sa)<|ze (yN (yY (fT<|f2 (fP xQ z8) yJ<|zj .NotEq)<|fT<|f2 (f2 zH z6 zU) (fC<|.str "nothing")<|zj .NotEq) (zt<|fC .non) xf)<|zt<|zf (aC (f2 zH zD zU)<|aC z6<|aC (f2 zA zD vX) aN) yF)
def yL:Fn:=wj 3 2 UT
def Cf:SF:=(zt<|Kc (zf yy VX)<|f2 zo (zC (x6 zA) [none] yb z_<|f2 zo z6 zU)<|zj .NotIn)
def Z8:Fn:=wj 2 2 Cf
abbrev ng:TF:=(yY (fT<|f2 (fP (aC zS aN) z8) wZ<|zj .NotEq)<|yY (v7<|fT<|zf (aC (f2 zS zD zU) xX) Z8)<|fT<|f2 (fP xX z8) QU<|zj .Eq)
def Lu:SF:=(ze (zm true 4<|z7 .str zo (aC (fC<|.str " ")<|aC yJ aN) An)<|ze (yN ng (zt<|fC .non) xf)<|ze (zm true 5<|zf (aC (f2 zS yJ zU)<|aC zA xQ) wH)<|zt<|PR (fT<|f2 wg (fC .non)<|zj .Is) (fC .non)<|yC<|dC (f2 zS zD zU)<|dC wg dN)
def xF:Fn:=wj 6 4 Lu
abbrev mP:TF:=(yY (fT<|f2 (fP xX z8) yJ<|zj .Lt)<|yY (fT<|f2 (f2 zP z6 zU) (fC<|.str "sign")<|zj .NotEq)<|yY (v7<|fT<|zf (aC (f2 zP zD zU) xQ) Z8)<|fT<|f2 (fP xQ z8) VC<|zj .Eq)
def KO:SF:=(ze (zm true 3 Sa)<|ze (yN mP (zt<|fC .non) xf)<|ze (zm true 4<|zf (aC (wV zP (oS yJ) oN Yq) Zb) Zr)<|zt<|PR (yY (fT<|f2 zS (fC .non)<|zj .Is)<|v7<|fT<|zf (aC zS aN) Y6) (fC .non)<|yC<|dC (f2 zP zD zU)<|dC zS dN)
def xG:Fn:=wj 5 3 KO
def Bi:SF:=(ze (yN (fT<|f2 zA (fP yy z8)<|zj .Eq) lK xf)<|zt<|f2 zo zA zU)
def yG:Fn:=wj 2 2 Bi
def xa:List (Bool×D)->Option D:=qH 2 2 1<|fT<|f2 zA (fP yy z8)<|zj .Eq
def FN:SF:=(ze (yN (fT<|f2 zo (fC .non)<|zj .Is) lK xf)<|zt zo)
def zV:Fn:=wj 2 2 FN
def yH:List (Bool×D)->Option D:=qH 2 2 1<|fT<|f2 zo (fC .non)<|zj .Is
abbrev rz:EF:=(z7 .str (f2 zo zS zU) (aC (fC<|.str "deed ") aN) mK)
def Gu:SF:=(ze (zm false 3<|yx dN)<|ze (vD (yq (aC wZ<|aC (fP yy z8) aN) VY) X3<|ze (yN (v7<|fT rz) pz xf)<|yE<|wG 3 (dC (zf (aC (zf (aC (f2 zo zS zU)<|aC zA<|aC zH xX) xF)<|aC zS aN) zV) dN) wN)<|zt zP)
def yT:Fn:=wj 5 3 Gu
def xj:List (Bool×D)->Option D:=gY 5 3<|Y0 (zm false 3<|yx dN)
 (RN (yq (aC wZ<|aC (fP yy z8) aN) VY) X3 (ze (yN (v7<|fT<|z7 .str (f2 zo zS zU) (aC (fC<|.str "deed ") aN) mK) pz xf)
 (yE<|wG 3 (dC (zf (aC (zf (aC (f2 zo zS zU)<|aC zA<|aC zH xX) xF)<|aC zS aN) zV) dN) wN))
 (Y0 (yN (v7<|fT<|z7 .str (f2 zo zS zU) (aC (fC<|.str "deed ") aN) mK) pz xf)
 (My 3<|gC (aC (zf (aC (f2 zo zS zU)<|aC zA<|aC zH xX) xF)<|aC zS aN) yH)))
def Tu:SF:=(ze (zm false 3<|yx dN)<|ze (vD (yq (aC zA<|aC (fP yy z8) aN) VY) X3<|yE<|wG 3 (dC (zf (aC (zf (aC (f2 zo zS zU)<|aC zH xX) xG)<|aC zS aN) zV) dN) wN)<|zt zP)
def wy:Fn:=wj 5 3 Tu
def wC:List (Bool×D)->Option D:=gY 5 3<|Y0 (zm false 3<|yx dN)
 (RN (yq (aC zA<|aC (fP yy z8) aN) VY) X3 (yE<|wG 3 (dC (zf (aC (zf (aC (f2 zo zS zU)<|aC zH xX) xG)<|aC zS aN) zV) dN) wN)
 (My 3<|gC (aC (zf (aC (f2 zo zS zU)<|aC zH xX) xG)<|aC zS aN) yH))
abbrev IB:EF:=(z7 .str zo (aC (fC<|.str "\n") aN) xB)
abbrev uq:EF:=(zf (aC (f2 zA z6 zU) aN) wW)
abbrev o9:SF:=(zt<|yC<|dC zP<|dC zS<|dC wg<|dC YT<|dC YS<|dC (fV 8) dN)
def Uu:SF:=(ze (zm true 1 IB)<|ze (zm true 2<|zf (aC uq<|aC z6 aN) zV)<|ze (zm true 3<|f2 zH z6 zU)<|ze (zm true 4<|f2 zH zD zU)<|ze (zm true 5<|zf (aC (zf (aC (zf (aC zA<|aC zD aN) yG) xX) xM)<|aC zD aN) zV)<|ze (zm true 6<|zf (aC (zf (aC (zf (aC zA<|aC yJ aN) yG) xX) yL)<|aC yJ aN) zV)<|ze (zm true 7<|zf (aC zA<|aC zP<|aC zS aN) yT)<|ze (zm true 8<|zf (aC zA<|aC (f2 wZ (fP HZ z8) zl) xX) wy) o9)
def yn:Fn:=wj 9 1 Uu
def wQ:List (Bool×D)->Option D:=gY 9 1<|Y0 (zm true 1<|z7 .str zo (aC (fC<|.str "\n") aN) xB)
 (X1 (gC (aC (zf (aC (f2 zA z6 zU) aN) wW)<|aC z6 aN) yH)<|Y0 (zm true 2<|zf (aC (zf (aC (f2 zA z6 zU) aN) wW)<|aC z6 aN) zV)
 (Y0 (zm true 3<|f2 zH z6 zU)
 (Y0 (zm true 4<|f2 zH zD zU)
 (X1 (gC (aC zA<|aC zD aN) xa)<|X1 (gC (aC (zf (aC (zf (aC zA<|aC zD aN) yG) xX) xM)<|aC zD aN) yH)<|Y0 (zm true 5<|zf (aC (zf (aC (zf (aC zA<|aC zD aN) yG) xX) xM)<|aC zD aN) zV)
 (X1 (gC (aC zA<|aC yJ aN) xa)<|X1 (gC (aC (zf (aC (zf (aC zA<|aC yJ aN) yG) xX) yL)<|aC yJ aN) yH)<|Y0 (zm true 6<|zf (aC (zf (aC (zf (aC zA<|aC yJ aN) yG) xX) yL)<|aC yJ aN) zV)
 (X1 (gC (aC zA<|aC zP<|aC zS aN) xj)<|Y0 (zm true 7<|zf (aC zA<|aC zP<|aC zS aN) yT)
 (gC (aC zA<|aC (f2 wZ (fP HZ z8) zl) xX) wC)))))))
def Pc:SF:=(ze (yN (fT<|f2 zA (fP yy z8)<|zj .Lt) (zt<|f2 zo zA zU) xf)<|zt z6)
def ym:Fn:=wj 2 2 Pc
def QN:SF:=(zt<|Kc (Be zo "int")<|qX<|Be zo "bool")
def Qs:Fn:=wj 1 1 QN
abbrev md:SF:=(ze (yE<|wG 2 (dC (f2 zo (fC<|.int 2147483647) zR) dN) wN)<|zm true 0<|f2 zo (fC<|.int 2147483647) zX)
abbrev nj:SF:=(zm true 4<|f2 (f2 (f2 (f2 zS zS xh) (f2 (fC<|.int 48271) zS xh) zl) zP zl) (fC<|.int 2147483647) zR)
abbrev mE:SF:=(yE<|wG 2 (dC (f2 (f2 (f2 zS (fC<|.int 40692) xh) (f2 (fC<|.int 7) zP xh) zl) (fC<|.int 2147483399) zR) dN) wN)
def Gc:SF:=(ze (zm false 2<|yx dN)<|ze (yN (fT<|f2 (f2 zo yJ zR) zD<|zj .Eq) (ze (zm true 0<|f2 zo yJ zX)<|ze (vD (yq Zb y8) (gN 3) md)<|zt zH) xf)<|ze (zm true 4<|f2 (f2 (f2 zo yJ zX) (fC<|.int 2147483647) zR) (fC<|.int 48271) zl)<|ze (vD (yq (aC (f2 zA zD zl) aN) y8) (gN 3)<|ze nj mE)<|zt<|wV zH (oS zD) oN Yq)
def xm:Fn:=wj 5 2 Gc
abbrev sA:EF:=(wV zP oN (oS<|f2 zD (f2 zo vU zR) zl) Yq)
abbrev qM:SF:=(yE<|wG 6 (dC (f2 (f2 (wV zS oN (oS wg) Rx) (f2 zH (f2 (f2 (f2 zP vU zU) (f2 wZ YS xh) zl) (fC<|.int 26) zR) zU) zl) (wV zS (oS<|f2 wg zD zl) oN Rx) zl) dN) wN)
def Ll:SF:=(ze (zm true 2<|fC<|.str "abcdefghijklmnopqrstuvwxyz")<|ze (zm true 3<|zf (aC zo<|aC (fC<|.int 9) aN) xm)<|ze (zm true 4<|z7 .str (fC<|.str "") (aC (zC (x6 sA) [none,some 2] yb z_<|f2 zA (f2 zo (fC<|.int 26) zR) zU) aN) wL)<|ze (zm true 5<|f2 (f2 zo vU zX) (fP (aC zS aN) z8) zR)<|ze (zm false 6<|yx dN)<|ze (vD (yq Zb y8) (gN 7) qM)<|zt YT)
def Y3:Fn:=wj 8 2 Ll
abbrev pP:SF:=(zm true 9<|f2 (fC<|.int 64) (f2 (fC<|.int 48) (fV 8) xh) zl)
abbrev ia:SF:=(yE<|wG 7 (dC (yC<|dC (f2 zS (fV 8) zU)<|dC (zC (yq xX y8) [none,some 2,some 5,some 9] yb z_<|zC (yq Zb y8) [none,some 1,some 2,some 3,some 0] yb z_<|f2 (f2 zH (f2 (f2 zP (f2 vU zS xh) zl) zo zl) zU) zA zR) dN) dN) wN)
abbrev iE:EF:=(zC (yq xQ y8) [none,some 11] yb (fT<|f2 (f2 (f2 zA (f2 (yx<|dC zD<|dC yJ<|dC VC<|dC vU<|dC (fC<|.int 16)<|dC (fC<|.int 32)<|dC (fC<|.int 64)<|dC (fC<|.int 128) dN) zo zU) zX) yJ zR) zD<|zj .Eq) zo)
abbrev mH:SF:=(yE<|wG 10 (dC (yC<|dC (f2 zS (f2 QU (fV 8) zl) zU)<|dC iE dN) dN) wN)
def Bs:SF:=(ze (zm true 1<|zf (aC (zf (aC zo<|aC z6 aN) ym)<|aC QU aN) xm)<|ze (zm true 2<|f2 zD (f2 (f2 zA z6 zU) vU zR) zl)<|ze (zm true 3<|f2 zD (f2 (f2 zA zD zU) QU zR) zl)<|ze (zm true 4<|zf (aC (zf (aC zo<|aC zD aN) ym)<|aC (fC<|.int 10) aN) Y3)<|ze (zm true 5<|zf (aC (zf (aC zo<|aC yJ aN) ym)<|aC (f2 (f2 (fC<|.int 65) (f2 (fC<|.int 48) QU xh) zl) VC zl) aN) xm)<|ze (zm true 6<|zC (yq xQ y8) [none,some 2,some 5] yb z_<|zC (yq Zb y8) [none,some 1,some 2,some 0] yb z_<|f2 (f2 zH (f2 (f2 vU zP xh) zo zl) zU) zA zR)<|ze (zm false 7<|yx dN)<|ze (vD (yq (aC (f2 (f2 zA yJ zU) (fC<|.int 7) zR) aN) y8) (gN 8)<|ze pP ia)<|ze (zm false 10<|yx dN)<|ze (vD (yq (aC (f2 (f2 zA wZ zU) MR zR) aN) y8) (gN 8)<|ze (zm true 11<|f2 wg (f2 (f1 zD RK) (fV 8) vX) zU) mH)<|zt<|yC<|dC zH<|dC zP<|dC YT<|dC (f2 (f2 zA VC zU) zH zR)<|dC YS<|dC (fV 10) dN)
def VN:Fn:=wj 12 1 Bs
def V4:SF:=(zt<|z7 .str (fC<|.str ", ") (aC (zC (x6 zo) [none] yb z_<|z7 .str (fC<|.str " ") (aC (zC (x6 zo) [none] yb z_<|fP yy X5) aN) wL) aN) wL)
def xS:Fn:=wj 1 1 V4
abbrev nN:SF:=(yE<|wG 7 (dC (f2 (f2 (f2 (fC<|.str "deed ") (fV 8) zl) (fC<|.str " rows ") zl) (zf (aC (fV 9) aN) xS) zl) dN) wN)
abbrev nt:EF:=(f2 (yx<|dC (f2 (fC<|.str "sign ") (fV 8) zl) dN) (zC (x6<|fV 10) [none] yb z_<|fP yy X5) zl)
abbrev nk:SF:=(yE<|wG 7 (dC (z7 .str (fC<|.str " ") (aC nt aN) wL) dN) wN)
def Nt:SF:=(ze (Rm zo<|gT 6<|Yo (gN 1)<|Yo (gN 2)<|Yo (gN 3)<|Yo X3<|Yo (gN 5)<|Yo (gN 6) GH)<|ze (zm false 7<|yx<|dC (f2 (f2 (f2 (fC<|.str "values ") (fP Zb X5) zl) (fC<|.str " around ") zl) (fP xQ X5) zl)<|dC (f2 (fC<|.str "join rows ") (zf xX xS) zl)<|dC (f2 (fC<|.str "nothing ") (fP (aC zS aN) X5) zl) dN)<|ze (vD (Pe wg) (gT 2<|Yo (gN 8)<|Yo (gN 9) GH) nN)<|ze (vD (Pe YT) (gT 2<|Yo (gN 8)<|Yo (gN 10) GH) nk)<|zt YS)
def ZR:Fn:=wj 11 1 Nt
abbrev CK:TF:=(fT<|f2 zo (fC<|.str "0123456789")<|zj .NotIn)
def GW:SF:=(ze (yN (yY (fT<|f2 (fP yy z8) zD<|zj .NotEq)<|yY CK<|fT<|f2 (fP yy Xp) zA<|zj .Gt) (zt<|f1 zD RK) xf)<|zt<|fP yy Xp)
def yP:Fn:=wj 2 2 GW
abbrev tL:SF:=(zt<|yC<|dC zD<|dC (wV zo (oS zD) oN Yq) dN)
abbrev kx:EF:=(yC<|dC (fC<|.str "add")<|dC (fC<|.str "take")<|dC (fC<|.str "times")<|dC (fC<|.str "most")<|dC (fC<|.str "least")<|dC (fC<|.str "same") dN)
abbrev rF:AF:=(aC (f2 (yx<|dC yJ<|dC VC dN) (fP (aC (f2 zP (fC<|.str "same")<|zj .Eq) aN) Xp) zU) aN)
abbrev pM:SF:=(yN (yY (fT<|f2 zP (fC<|.str "")<|zj .Eq)<|yY (fT<|f2 (fP xX z8) (fC<|.int 60)<|zj .Gt)<|Uh (fT<|f2 (f2 zP z6 zU) (fC<|.str "0")<|zj .Eq)<|fT<|f2 zP (fC<|.str "0")<|zj .NotEq) (zt<|fC .non) xf)
abbrev oX:SF:=(yN (fT<|f2 (zC (RF zP) [none] yb CK zo) (yx dN)<|zj .NotEq) (zt<|fC .non) xf)
def QI(self:Fn):SF:=(ze (yN (yY (fT<|f2 zo (yx dN)<|zj .Eq)<|fT<|f2 zH (fC<|.int 12)<|zj .Gt) (zt<|fC .non) xf)<|ze (zm true 3<|f2 zo z6 zU)<|ze (yN (fT<|f2 zP zA<|zj .In) tL xf)<|ze (yN (fT<|f2 zP kx<|zj .In) (ze (zm true 4 zD)<|ze (zm true 5<|wV zo (oS zD) oN Yq)<|ze (vD (yq rF y8) (gN 6)<|ze (zm true 7<|zf (aC wg<|aC zA<|aC (f2 zH zD zl) aN) self)<|ze (yN (fT<|f2 YS (fC .non)<|zj .Is) (zt<|fC .non) xf)<|ze (zm true 4<|f2 zS (f2 YS z6 zU) zl)<|zm true 5<|f2 YS zD zU)<|zt<|yC<|dC zS<|dC wg dN) xf)<|ze pM<|ze oX tL)
def xD:Nat->Fn
 |0=>λ_=>none
 |n+1=>wj 8 3<|QI<|xD n
def UK(self:Fn):SF:=(ze (zm true 3<|f2 zo z6 zU)<|ze (yN (fT<|f2 zP kx<|zj .NotIn) (ze (zm true 4<|z7 .dct zH xX getP')<|ze (yN (fT<|f2 zS (fC .non)<|zj .Is) (zm true 4<|fP (aC (wV zP oN (oS<|fC<|.int 60) Rx) aN) Xp) xf)<|zt<|yC<|dC (f2 zS zA zR)<|dC (wV zo (oS zD) oN Yq) dN) xf)<|ze (zm false 5<|yx dN)<|ze (zm true 6<|wV zo (oS zD) oN Yq)<|ze (vD (yq rF y8) (gN 7)<|ze (Rm (zf (aC YT<|aC zA xQ) self)<|gT 2<|Yo (gN 8)<|Yo (gN 6) GH)<|yE<|wG 5 (dC (fV 8) dN) wN)<|ze (zm true 9<|f2 wg z6 zU)<|ze (zm true 10<|f2 wg zD zU)<|ze (yN (fT<|f2 zP (fC<|.str "same")<|zj .Eq) (zt<|yC<|dC (f2 wg (f2 yJ (fP (aC (f2 (fV 9) (fV 10)<|zj .NotEq) aN) Xp) zl) zU)<|dC YT dN) xf)<|ze (zm true 11<|UQ [((fC<|.str "add"),(f2 (fV 9) (fV 10) zl)),((fC<|.str "take"),(f2 (fV 9) (fV 10) vX)),((fC<|.str "times"),(f2 (fV 9) (fV 10) xh)),((fC<|.str "most"),(fP (aC (fV 9)<|aC (fV 10) aN) IC))])<|zt<|yC<|dC (f2 (z7 .dct Qx (aC zP<|aC (fP (aC (fV 9)<|aC (fV 10) aN) Bn) aN) getP') zA zR)<|dC YT dN)
def yf:Nat->Fn
 |0=>λ_=>none
 |n+1=>wj 12 3<|UK<|yf n
abbrev mR:TF:=(fT<|f2 (wV zo oN (oS MR) Rx) (fC<|.str "rows ")<|zj .Eq)
abbrev oO:IF:=(x6<|z7 .str (wV zo (oS MR) oN Rx) (aC (fC<|.str ", ") aN) xB)
abbrev rW:EF:=(zf (aC zo<|aC (f2 zA zD vX) aN) yP)
abbrev oo:SF:=(zm true 4<|zC oO [none,some 2] yb z_<|zC (x6 Sa) [none,some 1] yb z_ rW)
abbrev mV:EF:=(zC (x6 zS) [none,some 2] yb (yY (fT<|f2 (fP yy z8) zA<|zj .NotEq)<|fT<|f2 (fP yy Bn) z6<|zj .Lt) zo)
abbrev pH:SF:=(yN (yY (fT<|f2 (fP (aC zS aN) z8) zA<|zj .NotEq)<|fT<|f2 mV (yx dN)<|zj .NotEq) (zt<|fC .non) xf)
abbrev mM:SF:=(zm true 5<|zf (aC Sa<|aC zP<|aC z6 aN)<|xD 20)
abbrev kU:TF:=(yY (fT<|f2 wg (fC .non)<|zj .Is)<|yY (fT<|f2 (f2 wg z6 zU) (fC<|.int 40)<|zj .Gt)<|fT<|f2 (f2 wg zD zU) (yx dN)<|zj .NotEq)
abbrev mj:EF:=(zC (yq xQ y8) [none,some 1,some 2,some 0] yb z_<|f2 (zf rH<|yf 20) z6 zU)
abbrev m3:EF:=(zC (yq xQ y8) [none,some 1,some 2,some 0] yb z_<|f2 (zf uA<|yf 20) z6 zU)
def RM:SF:=(ze (yN mR (ze oo<|ze pH<|zt zS) xf)<|ze mM<|ze (yN kU (zt<|fC .non) xf)<|ze (zm true 6 Sa)<|ze (yN (fT<|f2 zP Jf<|zj .Eq) (zt<|zC (yq xQ y8) [none,some 6,some 2] yb z_ mj) xf)<|zt<|zC (yq Zb y8) [none,some 6,some 2] yb z_ m3)
def xp:Fn:=wj 7 4 RM
def RG:SF:=(zt<|Kc (w9 z6 (fP yy z8) (fC<|.int 9) (zj .Lt)<|zj .Lt)<|f2 (zC (RF zo) [none] yb (fT<|f2 zo (fC<|.str "abcdefghijklmnopqrstuvwxyz")<|zj .NotIn) zo) (yx dN)<|zj .Eq)
def Z0:Fn:=wj 1 1 RG
abbrev iD:TF:=(yY (fT<|f2 (f2 zS z6 zU) zA<|zj .NotEq)<|yY (fT<|f2 (fP (aC zS aN) z8) yJ<|zj .Lt)<|yY (v7<|fT<|zf (aC (f2 zS zD zU) aN) Z0)<|yY (fT<|f2 (f2 zS zD zU) zH<|zj .In)<|fT<|f2 (fP xQ z8) zP<|zj .Eq)
def L_:SF:=(ze (zm true 4 Sa)<|ze (yN iD (zt<|fC .non) xf)<|zt<|yC<|dC (f2 zS zD zU)<|dC (wV zS (oS yJ) oN Yq) dN)
def wq:Fn:=wj 5 4 L_
abbrev qW:EF:=(zf (aC (wV (f2 zo yJ zU) (oS vU) oN Rx)<|aC (f2 zH zD vX) aN) yP)
def NY:SF:=(ze (zm true 1<|z7 .str (f2 zo z6 zU) (aC (fC<|.str " ") aN) xB)<|ze (yN pj (zt<|yC<|dC z6<|dC (fC .non) dN) xf)<|ze (zm true 2<|zf (aC (f2 zA zD zU)<|aC vU aN) yP)<|ze (zm true 3<|zf (aC (f2 zA wZ zU)<|aC QU aN) yP)<|ze (yN (yY (fT<|f2 zH zD<|zj .Lt)<|fT<|f2 zP zD<|zj .Lt) (zt<|yC<|dC z6<|dC (fC .non) dN) xf)<|ze (yN (yY (fT<|f2 (fP yy z8) yJ<|zj .Lt)<|fT<|f2 (wV (f2 zo zD zU) oN (oS MR) Rx) (fC<|.str "join ")<|zj .NotEq) (zt<|yC<|dC zD<|dC (fC .non) dN) xf)<|ze (zm true 4<|zf (aC (wV (f2 zo zD zU) (oS MR) oN Rx)<|aC zH<|aC zH<|aC Jf aN) xp)<|ze (yN (fT<|f2 zS (fC .non)<|zj .Is) (zt<|yC<|dC zD<|dC (fC .non) dN) xf)<|ze (yN (yY (fT<|f2 (fP yy z8) wZ<|zj .Lt)<|yY (fT<|f2 (wV (f2 zo yJ zU) oN (oS vU) Rx) (fC<|.str "nothing ")<|zj .NotEq)<|fT<|f2 qW z6<|zj .Lt) (zt<|yC<|dC yJ<|dC (fC .non) dN) xf)<|zt<|yC<|dC wZ<|dC (yC<|dC zH<|dC zP<|dC zS<|dC qW dN) dN)
def Wv:Fn:=wj 5 1 NY
noncomputable abbrev NG:List Str:=["_law_text","_law_lines_here","_law_at","_law_head_here","_law_n","_law_deeds","_law_signs","_law_line","_law_deed","_law_sign","_law_rows","_law_values"]
abbrev oU:TF:=(Uh (fT<|f2 (fV 8) (fC .non)<|zj .IsNot)<|fT<|f2 YT (yx dN)<|zj .Eq)
abbrev nr:AF:=(aC (z7 .str (fC<|.str " ") (aC (f2 (fV 8) zD zU) aN) wL)<|aC (f2 zP zD zU)<|aC zS<|aC (yx<|dC (fC<|.str "a")<|dC (fC<|.str "c") dN) aN)
abbrev oq:TF:=(yY (fT<|f2 (fV 10) (fC .non)<|zj .Is)<|fT<|f2 (f2 (fV 8) zD zU) (yx dN)<|zj .Eq)
abbrev pe:SF:=(yE<|wG 5 (dC (yC<|dC (f2 (fV 8) z6 zU)<|dC (fV 10) dN) dN) wN)
abbrev rQ:EF:=(f2 (fP (aC (f2 Qx (yx<|dC z6 dN) zl) aN) Bn) z6<|zj .Lt)
abbrev q8:SF:=(yE<|wG 6 (dC (yC<|dC (f2 (fV 9) z6 zU)<|dC Qx dN) dN) wN)
def NP:SF:=(ze (zm true 1 IB)<|ze (Rm (zf Zb Wv)<|gT 2<|Yo (gN 2)<|Yo (gN 3) GH)<|ze (yN (fT<|f2 zP (fC .non)<|zj .Is) (zt<|yC<|dC zH<|dC (fC .non) dN) xf)<|ze (zm true 4<|f2 zP z6 zU)<|ze (zm false 5<|yx dN)<|ze (zm false 6<|yx dN)<|ze (vD (Pe<|wV zA (oS wZ) oN Yq) (gN 7)<|ze (zm true 8<|zf (aC YS<|aC (fC<|.str "deed")<|aC (zC (x6 wg) [none,none] (gT 2<|Yo yb<|Yo (gN 1) GH) z_ zo)<|aC QU aN) wq)<|ze (zm true 9<|zf (aC YS<|aC (fC<|.str "sign")<|aC (zC (x6 YT) [none,none] (gT 2<|Yo yb<|Yo (gN 1) GH) z_ zo)<|aC VC aN) wq)<|ze (yN oU (ze (zm true 10<|zf nr xp)<|ze (yN oq (zt<|yC<|dC zH<|dC (fC .non) dN) xf) pe)<|yN (fT<|f2 (fV 9) (fC .non)<|zj .IsNot) (ze (zm true 11<|zC (x6<|f2 (fV 9) zD zU) [none,some 4] yb z_ rW)<|ze (yN (yY (fT<|f2 Qx (fP (aC Qx aN) lL)<|zj .NotEq)<|fT rQ) (zt<|yC<|dC zH<|dC (fC .non) dN) xf) q8)<|zt<|yC<|dC zH<|dC (fC .non) dN)<|zm true 2<|f2 zH zD zl)<|zt<|yC<|dC (f1 zD RK)<|dC (f2 zP (yC<|dC wg<|dC YT dN) zl) dN)
def Yy:Fn:=wj 12 1 NP
abbrev nY:EF:=(yx<|dC (fC<|.str "sign zz 00")<|dC (fC<|.str "deed zz  a") dN)
abbrev m7:EF:=(f2 zP (f2 (f2 zA (fC<|.int 512) zX) (fP xX z8) zR) zU)
def WR:SF:=(ze (zm true 2<|f2 (f2 zA vU zX) (fP yy z8) zR)<|ze (zm false 3<|yx<|dC (fC<|.str "")<|dC (fC<|.str "values 2 around 1")<|dC (fC<|.str "join a")<|dC (fC<|.str "nothing 0")<|dC (fC<|.str "deed rows rows 0")<|dC (fC<|.str "deed zz a")<|dC (fC<|.str "deed zz add a c") dN)<|ze (zm false 3<|f2 zP (yx<|dC (fC<|.str "deed zz")<|dC (fC<|.str "sign zz")<|dC (fC<|.str "sign zz 0")<|dC (fC<|.str "sign zz 1 0")<|dC (fC<|.str "sign zz 0 0")<|dC (fC<|.str "deed zz b")<|dC (fC<|.str "deed Zz a")<|dC (fC<|.str "sign") dN) zl)<|ze (yE<|wG 3 (dC (fC<|.str "deed zz rows") dN) wN)<|ze (zm false 3<|f2 zP nY zl)<|ze (yN (fT<|f2 (f2 zA vU zR) z6<|zj .Eq) (zt<|f2 (wV zo oN (oS zH) Yq) (wV zo (oS<|f2 zH zD zl) oN Yq) zl) xf)<|ze (yN (fT<|f2 (f2 zA vU zR) zD<|zj .Eq) (zt<|f2 (f2 (wV zo oN (oS zH) Yq) (f2 (wV zo (oS zH) (oS<|f2 zH zD zl) Yq) yJ xh) zl) (wV zo (oS<|f2 zH zD zl) oN Yq) zl) xf)<|ze (yN (fT<|f2 (f2 zA vU zR) yJ<|zj .Eq) (zt<|f2 (f2 (wV zo oN (oS zH) Yq) (wV (wV zo (oS zH) (oS<|f2 zH yJ zl) Yq) oN (oS<|f1 zD RK) lM) zl) (wV zo (oS<|f2 zH yJ zl) oN Yq) zl) xf)<|ze (yN (fT<|f2 (f2 zA vU zR) wZ<|zj .Eq) (zt<|wV zo oN (oS zH) Yq) xf)<|zt<|f2 (f2 (wV zo oN (oS zH) Yq) (yx<|dC m7 dN) zl) (wV zo (oS zH) oN Yq) zl)
def wM:Fn:=wj 4 2 WR
abbrev nG:EF:=(f2 (f2 zA vU zX) (f2 (fP yy z8) zD zl) zR)
abbrev ot:EF:=(f2 zH (f2 (f2 zA (fC<|.int 65536) zX) (fP xQ z8) zR) zU)
abbrev iJ:SF:=(zm true 7<|f2 YT (yx<|dC (fC<|.str "0")<|dC (fC<|.str "1")<|dC (fC<|.str "7")<|dC (fC<|.str "8")<|dC (fC<|.str "9")<|dC (fC<|.str "00")<|dC (fC<|.str "-1")<|dC (fC<|.str "rows")<|dC (fC<|.str "a")<|dC (fC<|.str "b")<|dC (fC<|.str "c")<|dC (fC<|.str "add")<|dC (fC<|.str "same")<|dC (fC<|.str "")<|dC (fC<|.str "around") dN) zl)
abbrev nJ:SF:=(zm true 7<|f2 YS (yx<|dC (fC<|.str "zz")<|dC (fC<|.str "A")<|dC (fC<|.str "0,") dN) zl)
abbrev tw:EF:=(f2 YS (f2 (f2 zA (fC<|.int 65536) zX) (fP HZ z8) zR) zU)
def Z4:SF:=(ze (zm true 2<|fC<|.str "0123456789 ,\nabcdersjzA-+_.")<|ze (zm true 3 nG)<|ze (zm true 4 ot)<|ze (zm true 5<|f2 zA vU zR)<|ze (yN (fT<|f2 wg z6<|zj .Eq) (zt<|f2 (f2 (wV zo oN (oS zP) Rx) zS zl) (wV zo (oS<|f2 zP zD zl) oN Rx) zl) xf)<|ze (yN (fT<|f2 wg zD<|zj .Eq) (zt<|f2 (f2 (wV zo oN (oS zP) Rx) zS zl) (wV zo (oS zP) oN Rx) zl) xf)<|ze (yN (fT<|f2 wg yJ<|zj .Eq) (zt<|f2 (wV zo oN (oS zP) Rx) (wV zo (oS<|f2 zP zD zl) oN Rx) zl) xf)<|ze (yN (fT<|f2 wg wZ<|zj .Eq) (zt<|f2 (yx<|dC (f2 zo (fC<|.str "\n") zl)<|dC (f2 (fC<|.str " ") zo zl)<|dC (f2 zo (fC<|.str " ") zl)<|dC (Eu 0 " " "  ")<|dC (fC<|.str "")<|dC (f2 (fC<|.str "\n") zo zl) dN) (f2 (f2 zA vU zX) QU zR) zU) xf)<|ze (yN (fT<|f2 wg QU<|zj .Lt) (ze (zm false 6 Sa)<|ze iJ<|ze nJ<|ze (Uz 6 (Os (xV 3)<|Bu 6) tw)<|zt<|z7 .str (fC<|.str " ") (aC YT aN) wL) xf)<|zt<|z7 .str (fC<|.str "\n") (aC (zf (aC IB<|aC (f2 zA vU zX) aN) wM) aN) wL)
def xZ:Fn:=wj 8 2 Z4
def X9:SF:=(ze (zm false 1<|yx dN)<|ze (IJ 2 "NoText" "at" (yE<|zf yy yn) (gC yy wQ)<|ze (zm false 1<|yx<|dC (f1 zH<|N5 "NoText" "at" true)<|dC (f1 zH<|N5 "NoText" "at" true) dN)<|ze (yE<|wG 1 (dC (f1 zH<|N5 "NoText" "at" false) dN) wN)<|yN (Uh (fT<|f1 zH<|N5 "NoText" "at" true)<|fT<|zf (aC (f1 zH<|nu "NoText" "at") aN) Qs) (yE<|wG 1 (dC (f1 zH<|nu "NoText" "at") dN) wN) xf)<|zt zA)
def Z3:Fn:=wj 3 1 X9
abbrev mS:EF:=(f2 (fC<|.str "join ") (f2 (yx<|dC (fC<|.str "add a b")<|dC (fC<|.str "most a b")<|dC (fC<|.str "same b 0 a b")<|dC (fC<|.str "times a add b 12") dN) zP zU) zl)
abbrev pF:EF:=(f2 (yx<|dC (zf (aC zo<|aC wZ aN) ym)<|dC (zf (aC zo<|aC VC aN) ym) dN) (wV zo (oS MR) (oS<|fC<|.int 33) Yq) zl)
abbrev oh:SF:=(zm true 8<|zf (aC zS<|aC (f2 (f2 (f2 YS z6 zU) (fC<|.int 2147483399) xh) (f2 YS zD zU) zl) aN) xZ)
abbrev n_:SF:=(Rm (zf (aC (fV 8) aN) Yy)<|gT 2<|Yo (gN 9)<|Yo (gN 10) GH)
abbrev mG:TF:=(fT<|f2 (zf (aC (fV 8) aN) yn) (fV 10)<|zj .NotEq)
abbrev j6:SF:=(yN (fT<|f2 (fV 10) (fC .non)<|zj .Is) (yN (fT<|f2 (zf (aC (fV 8) aN) Z3) (yx<|dC (fC<|.bl true)<|dC (fC<|.bl true)<|dC (fC<|.bl false)<|dC (fV 9) dN)<|zj .NotEq) (zt<|fC<|.bl false) xf)<|yN mG (zt<|fC<|.bl false) xf)
def DN:SF:=(ze (zm true 1<|zf yy VN)<|ze (zm false 2<|zf Zb ZR)<|ze (yN (fT<|f2 (f2 (zf (aC zo<|aC z6 aN) ym) yJ zR) zD<|zj .Eq) (ze (zm true 3<|f2 (f2 (zf (aC zo<|aC z6 aN) ym) yJ zX) VC zR)<|Uz 2 (xC 1) mS) xf)<|ze (zm true 4<|z7 .str (fC<|.str "\n") xQ wL)<|ze (zm true 5<|zf (aC zS aN) yn)<|ze (vD (Pe pF) (gN 6)<|ze (zm true 7<|zf (aC YT<|aC yJ aN) xm)<|ze oh<|ze n_ j6)<|zt<|f2 (zf (aC zS aN) yn) wg<|zj .Eq)
def Tn:Fn:=wj 11 1 DN
set_option genInjectivity false in
set_option genSizeOf false in
set_option genInjectivity false in
structure Txt(P:Program)(w:World)(K:zzA)(mg:Str->Option Value)(base:Heap)(kd:KD):Prop where
 hkd:qE P w K kd
 HY:Fq K mg "is_let" Kt
 RB:Fq K mg "parts_after" We
 OJ:Fq K mg "of_two" LG
 M3:Fq K mg "worth" EH
 Bw:Fq K mg "is_name" P6
 LS:Fq K mg "is_rising" QP
 FA:Fq K mg "join_by" Pu
 F6:Fq K mg "rows_by" Pn
 GV:Fq K mg "is_figures" WQ
 uI:Fq K mg "fits" Cy
 RA:Fq K mg "first_fault" X_
 Bq:Fq K mg "leaf_of" PH
 Bl:Fq K mg "term_of" Pt
 QH:Fq K mg "read_term" wt
 R_:Fq K mg "read_number" Wi
 N_:Fq K mg "read_row" UE
 K6:Fq K mg "read_rows" QR
 Qo:Fq K mg "read_some_term" Yg
 W7:Fq K mg "read_join_table" ZS
 WM:Fq K mg "read_deed_table" ZH
 Gx:Fq K mg "read_sizes" Vi
 Ni:Fq K mg "read_join" QL
 Rn:Fq K mg "read_nothing" Xi
 Sg:Fq K mg "is_new" K0
 K_:Fq K mg "read_deed" Qv
 KC:Fq K mg "read_sign" Qu
 P9:Fq K mg "line_at" Zi
 Pq:Fq K mg "as_told" Zl
 WJ:Fq K mg "read_deeds" WW
 WZ:Fq K mg "read_signs" Vx
 Xk:Fq K mg "read_algebra" Xv
 RC:Fq K mg "_law_cell_at" Wc
 KI:Fq K mg "_law_whole" ZL
 Gg:Fq K mg "_law_stream" W8
 Lc:Fq K mg "_law_names" QQ
 BA:Fq K mg "_law_any" Pj
 V3:Fq K mg "_law_shown_rows" Yl
 Le:Fq K mg "_law_lines" Qz
 Kh:Fq K mg "_law_number" Vh
 Qt:Fq K mg "_law_taken" Qy
 UO:Fq K mg "_law_pair" U5
 Pb:Fq K mg "_law_entries" Wh
 Pf:Fq K mg "_law_is_name" Wd
 KF:Fq K mg "_law_named" Qr
 MO:Fq K mg "_law_head" Uj
 Mo:Fq K mg "_law_told" U7
 VD:Fq K mg "_law_other_lines" ZU
 RZ:Fq K mg "_law_changed" Wa
 RX:Fq K mg "_law_refusal" X6
 o_:Fq K mg "law" QB
 X:XQ K (kd.c "NoText") (kd.c "StretchError") [kd.c "NoDeed",kd.c "NoMake",kd.c "NoRow",kd.c "NoSign",kd.c "NoStretch",kd.c "NotLetBy",kd.c "NoValue",kd.c "TooGreat"] ZJ
 Bf:GC K kd mg "FIGURES" (.str "0123456789")
 FC:GC K kd mg "LETTERS" (.tup [(.str "a"),(.str "b"),(.str "c")])
 RJ:GC K kd mg "MOST_AROUND" (.int 6)
 Km:GC K kd mg "MOST_DEEDS" (.int 6)
 Rk:GC K kd mg "MOST_FIGURES" (.int 60)
 UI:GC K kd mg "MOST_LETTERS" (.int 8)
 G7:GC K kd mg "MOST_SIGNS" (.int 4)
 GB:GC K kd mg "MOST_TERMS" (.int 40)
 Pd:GC K kd mg "MOST_VALUES" (.int 8)
 RY:GC K kd mg "MOST_WITHIN" (.int 12)
 IY:GC K kd mg "PARTS" (.dct [(.inr "add",(.int 2)),(.inr "take",(.int 2)),(.inr "times",(.int 2)),(.inr "most",(.int 2)),(.inr "least",(.int 2)),(.inr "same",(.int 4))])
 Q0:GC K kd mg "SMALL_LETTERS" (.str "abcdefghijklmnopqrstuvwxyz")
 TH:mg "ValueError"=none
 o6:mg "all"=none
 qf:mg "bool"=none
 KJ:mg "enumerate"=none
 DJ:mg "int"=none
 xl:mg "isinstance"=none
 Tf:mg "len"=none
 qR:mg "max"=none
 p8:mg "min"=none
 Kg:mg "range"=none
 ND:mg "reversed"=none
 p9:mg "set"=none
 OY:mg "sorted"=none
 Dq:mg "str"=none
 Ao:mg "tuple"=none
 Yh:mg "NoText"=some (.ref<|kd.c "NoText")
 S8:mg "NoDeed"=some (.ref<|kd.c "NoDeed")
 Hq:mg "NoMake"=some (.ref<|kd.c "NoMake")
 JD:mg "NoRow"=some (.ref<|kd.c "NoRow")
 S5:mg "NoSign"=some (.ref<|kd.c "NoSign")
 Ld:mg "NoStretch"=some (.ref<|kd.c "NoStretch")
 BU:mg "NoValue"=some (.ref<|kd.c "NoValue")
 NX:mg "NotLetBy"=some (.ref<|kd.c "NotLetBy")
 Xc:mg "StretchError"=some (.ref<|kd.c "StretchError")
 MN:mg "TooGreat"=some (.ref<|kd.c "TooGreat")
abbrev Ct{P:Program}{w:World}{K:zzA}{mg:Str->Option Value}{base:Heap}{kd:KD}(_:Txt P w K mg base kd)(x:Str)(k:Nat)(m:Fn):Prop:=Cn x P w K mg base VM k<|G9 K kd m
abbrev Cx{P:Program}{w:World}{K:zzA}{mg:Str->Option Value}{base:Heap}{kd:KD}(_:Txt P w K mg base kd)(x:Str)(k:Nat)(g:List (Bool×D)->Option D):Prop:=Cn x P w K mg base (Rv P w (kd.c "NoText") "at") k<|Dn K kd g
set_option maxHeartbeats 8000000
def gI(T r:Lean.Ident)(w:List String):Lean.MacroM (Lean.TSyntax `tactic):=do
 let a <-(w.drop 1).toArray.mapM λx=>match x with | "?"=>`(?_) | "="=>`(rfl) | "_"=>`(_) | "R"=>`($r) | "h"=>`(Txt.hkd $T) | "a"=>`(by assumption) | "d"=>`(by decide) | "f"=>`(λ_=>rfl) | "v"=>`(pv _) | "w"=>`(pv 0) | "t"=>`(by trivial) | "o"=>`(($r).mono (by omega)) | "b"=>`(Bt.n _ rfl) | "H"=>`(Txt.hkd $T _ rfl rfl rfl)|x=>let n:Lean.Ident:=Lean.mkIdent (((x.replace "@" "").replace "%" "").replace "!" "").toName;if x.startsWith "@" then `(($n $T))else if x.startsWith "%" then `(($n (Txt.hkd $T _ rfl rfl rfl)))else if x.startsWith "!" then `(($n rfl))else return n
 `(tactic| (refine $(Lean.mkIdent (w.headD "").toName) $a* <;> trivial))
def iy(l:List (Lean.TSyntax `tactic)):Lean.MacroM (Lean.TSyntax `tactic):=do l.foldrM (λa b=>`(tactic| first | $a:tactic | $b:tactic)) (<- `(tactic| fail))
def TQ(T r:Lean.Ident)(q:List (Lean.TSyntax `tactic))(s:String):Lean.MacroM (Lean.TSyntax `tactic):=do
 let l:=s.splitOn ";";let x <-iy ((<-(l.drop 1).mapM λz=>gI T r<|z.splitOn " ")++q)
 match(l.headD "").splitOn " " with | [h,k]=>`(tactic| (show $(Lean.mkIdent h.toName) $(Array.replicate k.toNat! (<- `(_)))*;$x:tactic))|_=>return x
section
variable{P:Program}{w:World}{K:zzA}{mg:Str->Option Value}{base:Heap}{kd:KD}(T:Txt P w K mg base kd)
include T
local macro_rules | `(tactic| trivial)=>do let T:=Lean.mkIdent `T;let r:=Lean.mkIdent `hr;iy [<-TQ T r [<- `(tactic| (refine ec (Txt.hkd $T) $r ?_ ?_ (hm:=rfl)<;>trivial)),<- `(tactic| (refine JL ?_ rfl rfl (by simp) (by decide);trivial)),<- `(tactic| (refine Ht (Qb ((Txt.hkd $T) _ rfl rfl rfl) (Ta $r) _) (Qb ((Txt.hkd $T) _ rfl rfl rfl) (Ta $r) _) ?_ ?_ ?_ (by with_unfolding_all rfl)<;>trivial)),<- `(tactic| (refine wF (ty:=.str) ((Txt.hkd $T) _ rfl rfl rfl) Q5 PySem.F.plainAttrs_str PySem.F.slot_str_join PySem.F.type_str_join ?_ ?_ rfl rfl rfl rfl rfl<;>trivial)),<- `(tactic| (refine wF (ty:=.str) ((Txt.hkd $T) _ rfl rfl rfl) Ut PySem.F.plainAttrs_str PySem.F.slot_str_split PySem.F.type_str_split ?_ ?_ rfl rfl rfl rfl rfl<;>trivial)),<- `(tactic| (refine wF (ty:=.dct) ((Txt.hkd $T) _ rfl rfl rfl) (rA ((Txt.hkd $T) _ rfl rfl rfl)) PySem.F.plainAttrs_dict PySem.F.slot_dict_get PySem.F.type_dict_get ?_ ?_ rfl rfl rfl rfl rfl<;>trivial)),<- `(tactic| (refine wF (ty:=.str) ((Txt.hkd $T) _ rfl rfl rfl) GY PySem.F.plainAttrs_str PySem.F.slot_str_partition PySem.F.type_str_partition ?_ ?_ rfl rfl rfl rfl rfl<;>trivial)),<- `(tactic| (refine wF (ty:=.str) ((Txt.hkd $T) _ rfl rfl rfl) RI PySem.F.plainAttrs_str PySem.F.slot_str_startswith PySem.F.type_str_startswith ?_ ?_ rfl rfl rfl rfl rfl<;>trivial)),<- `(tactic| (refine wF (ty:=.str) ((Txt.hkd $T) _ rfl rfl rfl) Ng PySem.F.plainAttrs_str PySem.F.slot_str_split PySem.F.type_str_split ?_ ?_ rfl rfl rfl rfl rfl<;>trivial))] "AE 4;av _;aI;ax h ? ?;bn ? ?;aS;aZ;aB;ec h R ? ?;cn a R ?;qd ?;Yr ?;cm ? ? ? ?;Nc ? ? ?;w_ ? ? ?;uO ? ?;bi %XT @Txt.Tf Bt.len ?;bi !FW @Txt.qR Bt.max ?;bi !Ba @Txt.p8 Bt.min ?;bi !F3 @Txt.o6 Bt.all ?;kP MD @Txt.DJ Bt.int ?;kP NL @Txt.Dq Bt.str ?;Mh H = = @Txt.xl Bt.isinstance = @Txt.Dq Bt.str ? b d b d = = =;kP FO @Txt.Ao Bt.tuple ?;Mr = = @Txt.p9 = @Txt.OY ? = =;nF ki ?;o5 ? ? ?;O9 ? ?;mh ? ?;Cg ?;N1 XD MC PySem.F.slot_list_append PySem.F.type_list_append v ? = = = = =;vY @Txt.FC = d;vY @Txt.IY = d;vY @Txt.UI = d;vY @Txt.Q0 = d;vY @Txt.Bf = d;vY @Txt.RY = d;vY @Txt.Rk = d;vY @Txt.GB = d;vY @Txt.Pd = d;vY @Txt.RJ = d;vY @Txt.Km = d;vY @Txt.G7 = d",<-TQ T r [] "AA 4;bc ? ?;yw",<-TQ T r [<- `(tactic| (refine JM (an:="at") ?_ ?_ rfl (Txt.Yh $T) (by decide) (XQ.m1 (Txt.X $T)) (λ_ _ z=>z) rfl rfl ?_<;>trivial))] "Rw 4;iS a ? ? ? ?;vT ?;Ho;Xb ? ? ?;gU ? ? ?;Ua ? =;sv _ _ a ?;kK ? ?;pX",<-TQ T r [] "P_ 4;sj _ a ? ?;y7 ? ?;yD ?;vH",<-TQ T r [<- `(tactic| (refine tc (Txt.hkd $T) $r ?_ ?_ (hm:=rfl)<;>trivial)),<- `(tactic| (refine OC (Qb ((Txt.hkd $T) _ rfl rfl rfl) (Ta $r) _) (Qb ((Txt.hkd $T) _ rfl rfl rfl) (Ta $r) _) (Ed _) ?_ ?_ ?_ (by with_unfolding_all rfl)<;>trivial))] "AT 4;tc h R ? ?;sD ?;ML ? f;AW.at_ ?",<-TQ T r [] "AD 4;bd ? ?;Zy",<-TQ T r [] "AO 4;vI ?;YA",<-TQ T r [<- `(tactic| exact an _ (iU (by kernel_rfl)))] "AG 5;an _ a;NF = ? = =",<-TQ T r [] "Dl 5;gK ? ?;GG",<-TQ T r [] "qx 4;jk _ a;jD ?",<-TQ T r [] "SI 4;jC ? ?;ji",<-TQ T r [] "DD 5;BB = @Txt.Kg ? =;tX ?;uU ?",<-TQ T r [] "AI 5;Bz = @Txt.Kg ? =;Bo = @Txt.Kg ? = =;Am = @Txt.KJ ? =;si = @Txt.ND ? =;Hf ?",<-TQ T r [] "AW 4;mN ? ?;C6 ? ?;FF ?;U1 ?",<-TQ T r [] "AK 4;O3;C1 v;CY ? ?;OV = @Txt.Tf Bt.len v = =",<-TQ T r [] "E3 6;IW ? ?;CV ? ?;Lr ?",<-TQ T r [] "AX 6;Fj ? =;iX a ?;gj ? ? ? ?;sR ?",<-TQ T r [<- `(tactic| (refine Ju (pv _) ?_ (λ_ h=>Dz PySem.F.plainAttrs_list PySem.F.slot_list_append PySem.F.type_list_append XD (pv _) h rfl rfl rfl (yo rfl) rfl) (yo rfl);trivial))] "BZ 6;iq a R ?;iR a ?",<-TQ T r [] "-;Iw;Js ?",<- `(tactic| (intro _;trivial)),<- `(tactic| (show oQ _ _ _ _ _ _;refine gQ ?_;trivial)),<- `(tactic| ((intro hN _ _ _ _ _ _ _ $r);(first|(conv=>arg 5;whnf)|(conv=>arg 3;whnf));trivial)),<- `(tactic| (show DW _ _ _ _ _;first|exact A7|(refine BF ?_ ?_ ?_<;>trivial)))]
def HR:Ct T "is_let" 1 Yk:=by
 exact Zj 2 T.HY
def Z1:Ct T "parts_after" 1 zL:=by
 exact Zj 1 T.RB
def OM:Ct T "of_two" 1 Ui:=by
 exact Zj 3 T.OJ
theorem Ge:∀n:Nat,Ct T "worth" (1+n) (XY n)
 |0=>jQ 3 T.M3
 |n+1=>by
  have G:=Ge n;have:=OM T;exact Zj 3 (k:=1+n) (cc:=EG<|XY n) T.M3
def BJ:Ct T "is_name" 1 VX:=by
 exact Zj 1 T.Bw
def Lb:Ct T "is_rising" 1 Y6:=by
 exact Zj 1 T.LS
def B4:Ct T "join_by" 22 Qe:=by
 have:=Ge T 20;exact Zj 2 T.FA
def BV:Ct T "rows_by" 22 Qg:=by
 have:=Ge T 20;exact Zj 3 T.F6
def YE:Ct T "is_figures" 1 xT:=by
 exact Zj 2 T.GV
def u9:Ct T "fits" 2 Xd:=by
 have:=Z1 T;have:=YE T;have:=HR T;exact Zj 3 T.uI
def X4:Ct T "first_fault" 3 yW:=by
 have:=u9 T;have:=Z1 T;exact Zj 2 T.RA
def BQ:Ct T "leaf_of" 2 Yc:=by
 have:=YE T;exact Zj 1 T.Bq
def FI:Ct T "term_of" 3 Qp:=by
 have:=Z1 T;have:=BQ T;exact Zj 1 T.Bl
def UZ:∃f d,XC K (kd.c "NoText") (kd.c "StretchError") f "at"/\FnOk P w K mg base VM 1 f d ["self","at"] (D1 K (kd.c "NoText") "at")/\Binds K d ["self","at"] []:=
 mW T.X λY F=>Fun.ok (N:=["self","at"]) (ps:=["self","at"]) (k:=0) F Io AQ λMk A outer s H vs Q E hr h=>by
  obtain⟨e,v,rfl,he,⟨kd',O,d,rp,hd⟩,q⟩:=h;exact⟨_,Zq (GM (Ig Y T.X.xs rfl T.Xc (yj (pv 0)<|yj (IZ (pv 1)<|by decide) Zn) rfl rfl (by decide) rfl) rfl)<|Ke<|tS Y (pv 0) (pv 1) rfl,.ref e,rfl,v,rfl,kd',O,d,rp,hd,λy=>⟨e,y,rfl,he,v,rfl,.ref e,rfl,e,rfl,he,λdx h1 h2=>q dx h1 h2⟩⟩
def LK:Ct T "read_term" 4 ZO:=by
 have:=X4 T;have:=FI T;exact Zj 2 T.QH
def Ls:Cx T "read_term" 4 ZT:=by
 have:=(Io:FnScope (YU wt) ((YU wt).take 2) (zp wt)).nd;refine Td (N:=YU wt) (n:=2) T.QH λF S=>ua (k:=3) (i:=3) F S rfl λ_ _ _ _ _ _ hr=>⟨?_, ?_, ?_, ?_⟩
 all_goals first|exact jH (UZ T) T.X.xk hr T.Yh (pv 3)|(have:=X4 T;trivial)
def Z2:Ct T "read_number" 2 yF:=by
 have:=YE T;exact Zj 3 T.R_
def UW:Ct T "read_row" 3 Zr:=by
 have:=Z2 T;exact Zj 2 T.N_
def QM:Ct T "read_rows" 4 ZQ:=by
 have:=UW T;exact Zj 3 T.K6
def Yi:Ct T "read_some_term" 5 xO:=by
 have:=LK T;have:=Ls T;exact Zj 2 T.Qo
def VI:Ct T "read_join_table" 23 wJ:=by
 have:=QM T;have:=Yi T;have:=B4 T;exact Zj 2 T.W7
def W0:Ct T "read_deed_table" 23 wH:=by
 have:=QM T;have:=Yi T;have:=BV T;exact Zj 3 T.WM
def WX:Ct T "read_sizes" 3 wW:=by
 have:=Z2 T;exact Zj 1 T.Gx
def QA:Ct T "read_join" 24 xM:=by
 have:=VI T;exact Zj 2 T.Ni
def Y_:Ct T "read_nothing" 3 yL:=by
 have:=Z2 T;exact Zj 2 T.Rn
def K5:Ct T "is_new" 2 Z8:=by
 have:=BJ T;exact Zj 2 T.Sg
def QO:Ct T "read_deed" 24 xF:=by
 have:=K5 T;have:=W0 T;exact Zj 4 T.K_
def QD:Ct T "read_sign" 4 xG:=by
 have:=K5 T;have:=UW T;have:=Lb T;exact Zj 3 T.KC
def PV:Ct T "line_at" 3 yG:=by
 exact Zj 2 T.P9
def FK:Cx T "line_at" 3 xa:=by
 have:=(Io:FnScope (YU Zi) ((YU Zi).take 2) (zp Zi)).nd;refine Td (N:=YU Zi) (n:=2) T.P9 λF S=>C7 (k:=2) (i:=1) F S rfl λ_ _ _ _ _ _ hr=>⟨?_, ?_⟩
 all_goals first|exact jH (UZ T) T.X.xk hr T.Yh (pv 1)|(trivial)
def Ze:Ct T "as_told" 3 zV:=by
 exact Zj 2 T.Pq
def Qa:Cx T "as_told" 3 yH:=by
 have:=(Io:FnScope (YU Zl) ((YU Zl).take 2) (zp Zl)).nd;refine Td (N:=YU Zl) (n:=2) T.Pq λF S=>C7 (k:=2) (i:=1) F S rfl λ_ _ _ _ _ _ hr=>⟨?_, ?_⟩
 all_goals first|exact jH (UZ T) T.X.xk hr T.Yh (pv 1)|(trivial)
def Vp:Ct T "read_deeds" 25 yT:=by
 have:=Ze T;have:=QO T;exact Zj 3 T.WJ
def Gp:Cx T "read_deeds" 25 xj:=by
 have:=Ze T;have:=QO T;have:=Qa T;exact kT 3 T.WJ
def Gy:Ct T "read_signs" 5 wy:=by
 have:=Ze T;have:=QD T;exact Zj 3 T.WZ
def Gi:Cx T "read_signs" 5 wC:=by
 have:=Ze T;have:=QD T;have:=Qa T;exact kT 3 T.WZ
def wU:Ct T "read_algebra" 26 yn:=by
 have:=Ze T;have:=WX T;have:=QA T;have:=PV T;have:=Y_ T;have:=Vp T;have:=Gy T;exact Zj 1 T.Xk
def UN:Cx T "read_algebra" 26 wQ:=by
 have:=Qa T;have:=WX T;have:=Ze T;have:=FK T;have:=QA T;have:=PV T;have:=Y_ T;have:=Gp T;have:=Vp T;have:=Gi T;exact kT 1 T.Xk
def x5:Ct T "_law_cell_at" 1 ym:=by
 exact Zj 2 T.RC
def Lj:iC "_law_whole" P w K mg base 1 (G9 K kd Qs):=by
 obtain⟨f,d,F,e⟩:=T.KI;refine⟨f,d,_,tD (N:=YU ZL) (ps:=YU ZL) (k:=0) (c:=QN) F Io λ_ _ _ _ _ _ hr=>?_,e,F.kp,bs F⟩;exact(yD<|vT<|O9 (Mh (T.hkd _ rfl rfl rfl) rfl rfl T.xl Bt.isinstance rfl T.DJ Bt.int (av 0) (Bt.n _ rfl) (by decide) (Bt.n _ rfl) (by decide) rfl rfl rfl)<|Cg<|tE<|Mh (T.hkd _ rfl rfl rfl) rfl rfl T.xl Bt.isinstance rfl T.qf Bt.bool (av 0) (Bt.n _ rfl) (by decide) (Bt.n _ rfl) (by decide) rfl rfl rfl)
def Yw:Ct T "_law_stream" 1 xm:=by
 exact Zj 2 T.Gg
def L8:Ct T "_law_names" 2 Y3:=by
 have:=Yw T;exact Zj 2 T.Lc
def Br:Ct T "_law_any" 3 VN:=by
 have:=Yw T;have:=x5 T;have:=L8 T;exact Zj 1 T.BA
def Qn:Ct T "_law_shown_rows" 1 xS:=by
 exact Zj 1 T.V3
def Lq:Ct T "_law_lines" 2 ZR:=by
 have:=Qn T;exact Zj 1 T.Le
def Yt:Ct T "_law_number" 1 yP:=by
 exact Zj 2 T.Kh
theorem QS:∀n:Nat,Ct T "_law_taken" (0+n) (xD n)
 |0=>jQ 3 T.Qt
 |n+1=>by
  have G:=QS n;exact Zj 3 (k:=0+n) (cc:=QI<|xD n) T.Qt
theorem Rr:∀n:Nat,Ct T "_law_pair" (0+n) (yf n)
 |0=>jQ 3 T.UO
 |n+1=>by
  have G:=Rr n;exact Zj 3 (k:=0+n) (cc:=UK<|yf n) T.UO
def Wg:Ct T "_law_entries" 21 xp:=by
 have:=Yt T;have:=QS T 20;have:=Rr T 20;exact Zj 4 T.Pb
def RO:Ct T "_law_is_name" 1 Z0:=by
 exact Zj 1 T.Pf
def Nx:Ct T "_law_named" 2 wq:=by
 have:=RO T;exact Zj 4 T.KF
def NN:Ct T "_law_head" 22 Wv:=by
 have:=Yt T;have:=Wg T;exact Zj 1 T.MO
def Mu:Ct T "_law_told" 23 Yy:=by
 have:=NN T;have:=Nx T;have:=Wg T;have:=Yt T;exact Zj 1 T.Mo NG
def VG:Ct T "_law_other_lines" 1 wM:=by
 exact Zj 2 T.VD
def RW:Ct T "_law_changed" 2 xZ:=by
 refine Zj 2 (cc:=Z4) T.RZ (hb:=λhN _ _ _ _ _ _ _ hr=>?_);exact(by
  refine sj 2 hN ?_ ?_;exact aS;refine sj 3 hN ?_ ?_;exact(bn (bn (av 1) aI)<|bn (bi (XT<|T.hkd _ rfl rfl rfl) T.Tf Bt.len<|bc (av 0) yw) aI);refine sj 4 hN ?_ ?_;exact(ax T.hkd (av 2)<|bn (bn (av 1) aI)<|bi (XT<|T.hkd _ rfl rfl rfl) T.Tf Bt.len<|bc (av 2) yw);refine sj 5 hN ?_ ?_;exact(bn (av 1) aI);refine y7 ?_ ?_;exact(Xb (tc T.hkd hr (av 5) aI) (yD<|vT<|bn (bn (w_ (av 0) YA<|vI<|av 3)<|av 4)<|w_ (av 0) (vI<|bn (av 3) aI) YA) vH);refine y7 ?_ ?_;exact(Xb (tc T.hkd hr (av 5) aI) (yD<|vT<|bn (bn (w_ (av 0) YA<|vI<|av 3)<|av 4)<|w_ (av 0) (vI<|av 3) YA) vH);refine y7 ?_ ?_;exact(Xb (tc T.hkd hr (av 5) aI) (yD<|vT<|bn (w_ (av 0) YA<|vI<|av 3)<|w_ (av 0) (vI<|bn (av 3) aI) YA) vH);refine y7 ?_ ?_;exact(Xb (tc T.hkd hr (av 5) aI) (yD<|vT<|ax T.hkd (Yr<|bd (bn (av 0) aS)<|sM (bn aS<|av 0) qh (bn (av 0) aS) (C9 (pv 0) (by decide) (by decide) rfl rfl rfl rfl) (bd aS<|bd (bn aS<|av 0) Zy) (yo rfl) (yo rfl)<|yo rfl)<|bn (bn (av 1) aI) aI) vH);refine y7 ?_ ?_;exact(Xb (tc T.hkd hr (av 5) aI) (by
  refine sj 6 hN ?_ ?_;exact(wF (ty:=.str) (T.hkd _ rfl rfl rfl) Ut PySem.F.plainAttrs_str PySem.F.slot_str_split PySem.F.type_str_split (av 0) (bc aS yw) rfl rfl rfl rfl rfl);refine sj 7 hN ?_ ?_;exact(bn (av 6)<|Yr<|bd aS<|bd aS<|bd aS<|bd aS<|bd aS<|bd aS<|bd aS<|bd aS<|bd aS<|bd aS<|bd aS<|bd aS<|bd aS<|bd aS<|bd aS Zy);refine sj 7 hN ?_ ?_;exact(bn (av 7)<|Yr<|bd aS<|bd aS<|bd aS Zy);refine y7 ?_ ?_;exact(Ej (pv 6) (CY (C1<|pv 3)<|OV rfl T.Tf Bt.len (pv 6) rfl rfl) (ax T.hkd (av 7)<|bn (bn (av 1) aI)<|bi (XT<|T.hkd _ rfl rfl rfl) T.Tf Bt.len<|bc (av 7) yw) (λ_=>rfl) rfl rfl rfl);exact yD<|vT<|wF (ty:=.str) (T.hkd _ rfl rfl rfl) Q5 PySem.F.plainAttrs_str PySem.F.slot_str_join PySem.F.type_str_join aS (bc (av 6) yw) rfl rfl rfl rfl rfl) vH)
  exact yD<|vT<|wF (ty:=.str) (T.hkd _ rfl rfl rfl) Q5 PySem.F.plainAttrs_str PySem.F.slot_str_join PySem.F.type_str_join aS (bc (cn (VG T) hr<|bc (wF (ty:=.str) (T.hkd _ rfl rfl rfl) Ut PySem.F.plainAttrs_str PySem.F.slot_str_split PySem.F.type_str_split (av 0) (bc aS yw) rfl rfl rfl rfl rfl)<|bc (bn (av 1) aI) yw) yw) rfl rfl rfl rfl rfl)
def Pa:Ct T "_law_refusal" 27 Z3:=by
 refine Zj 1 (cc:=X9) T.RX (hb:=λhN _ _ _ _ _ _ _ hr=>?_);exact(by
  refine sj 1 hN ?_ ?_;exact(Yr Zy);refine y7 ?_ ?_;exact(uC (j:=2) rfl (yD<|Ua (cn (wU T) hr<|bc (av 0) yw) rfl) (λ_ _=>(Lr<|Fj (iq (UN T) hr<|bc (av 0) yw) rfl)) rfl T.Xc (by decide) T.X.m2 (λ_ _ z=>z) rfl rfl hN rfl rfl (by first|exact Or.inl rfl|exact Or.inr rfl) λe=>(by
  refine sj 1 hN ?_ ?_;exact(Yr<|bd (N4 (w:=.ref _) (cv:=.ref _) rfl T.X.xi (λ_ z=>z) T.X.k1 rfl T.xl Bt.isinstance (av 2) (Z5 rfl T.Yh) (Bt.n _ rfl) (by decide) rfl rfl rfl)<|bd (N4 (w:=.ty "ValueError") (cv:=.type "ValueError") rfl T.X.xi (λ_ z=>z) T.X.k2 rfl T.xl Bt.isinstance (av 2) (E8 (v:=.ty "ValueError") rfl T.TH PyProof.Rows.Boot.«ValueError» rfl (Bt.n _ rfl)<|by decide) (Bt.n _ rfl) (by decide) rfl rfl rfl) Zy);refine y7 ?_ ?_;exact(Ua (N1 XD MC PySem.F.slot_list_append PySem.F.type_list_append (pv 1) (bd (JP (cs:=[kd.c "NoDeed",kd.c "NoMake",kd.c "NoRow",kd.c "NoSign",kd.c "NoStretch",kd.c "NotLetBy",kd.c "NoValue",kd.c "TooGreat"]) rfl T.X.xi T.X.ka (show 8<=1000 by decide) rfl T.xl Bt.isinstance (av 2) (yj (Z5 rfl T.S8) (yj (Z5 rfl T.Hq) (yj (Z5 rfl T.JD) (yj (Z5 rfl T.S5) (yj (Z5 rfl T.Ld) (yj (Z5 rfl T.NX) (yj (Z5 rfl T.BU) (yj (Z5 rfl T.MN) Zn<|yo rfl)<|yo rfl)<|yo rfl)<|yo rfl)<|yo rfl)<|yo rfl)<|yo rfl)<|yo rfl) (λ_ _ _ z=>z) (Bt.n _ rfl) (by decide) rfl rfl rfl) Zy) rfl rfl rfl rfl rfl) rfl);exact yD<|Xb (AW.at_<|C6 (ML (N4 (w:=.ref _) (cv:=.ref _) rfl T.X.xi (λ_ z=>z) T.X.k1 rfl T.xl Bt.isinstance (av 2) (Z5 rfl T.Yh) (Bt.n _ rfl) (by decide) rfl rfl rfl) λ_=>rfl)<|U1<|ML (gm (Lj T) (tj<|roomQ hr<|by omega)<|bc (Ih rfl T.X.xi (av 2) rfl) yw) λ_=>rfl) (yD<|Ua (N1 XD MC PySem.F.slot_list_append PySem.F.type_list_append (pv 1) (bd (Ih rfl T.X.xi (av 2) rfl) Zy) rfl rfl rfl rfl rfl) rfl) vH))
  exact yD<|vT<|av 1)
def me{f d}(F:Fun K "law" "law" QB f d):FnOk P w K mg base VM 28 f d ((YU QB).take 1) (G9 K kd Tn):=by
 have S:FnScope (YU QB) ((YU QB).take 1) (zp QB):=Io;have hN:=S.nd;refine D2 (N:=YU QB) (k:=27) (c:=DN) F S λMk A outer s H E hr=>?_;exact(by
  refine sj 1 hN ?_ ?_;exact(cn (Br T) hr<|bc (av 0) yw);refine sj 2 hN ?_ ?_;exact(cn (Lq T) hr<|bc (av 1) yw);refine y7 ?_ ?_;exact(Xb (tc T.hkd hr (bn (cn (x5 T) hr<|bc (av 0)<|bc aI yw) aI) aI) (by
  refine sj 3 hN ?_ ?_;exact(bn (bn (cn (x5 T) hr<|bc (av 0)<|bc aI yw) aI) aI);exact yD<|Ej (pv 2) O3 (bn aS<|ax T.hkd (Yr<|bd aS<|bd aS<|bd aS<|bd aS Zy)<|av 3) (λ_=>rfl) rfl rfl rfl) vH)
  refine sj 4 hN ?_ ?_;exact(wF (ty:=.str) (T.hkd _ rfl rfl rfl) Q5 PySem.F.plainAttrs_str PySem.F.slot_str_join PySem.F.type_str_join aS (bc (av 2) yw) rfl rfl rfl rfl rfl);refine sj 5 hN ?_ ?_;exact(cn (wU T) hr<|bc (av 4) yw);refine y7 ?_ ?_;exact(S7 PassesOwn.never rfl (Hf<|bn (Yr<|bd (cn (x5 T) hr<|bc (av 0)<|bc aI yw)<|bd (cn (x5 T) hr<|bc (av 0)<|bc aI yw) Zy)<|Nc (av 0) (vI aI)<|vI aI) (an 6 hN) (by
  refine sj 7 hN ?_ ?_;exact(cn (Yw T) hr<|bc (av 6)<|bc aI yw);refine sj 8 hN ?_ ?_;exact(cn (RW T) hr<|bc (av 4)<|bc (bn (bn (ax T.hkd (av 7) aI) aI)<|ax T.hkd (av 7) aI) yw);refine y7 ?_ ?_;exact(Oe (cn (Mu T) hr<|bc (av 8) yw) (NF rfl (W5 (an 9 hN) (W5 (an 10 hN) GG rfl) rfl) rfl rfl) rfl rfl rfl);exact yD<|Xb (tc T.hkd hr (av 10) aZ) (yD<|Xb (tc T.hkd hr (cn (Pa T) hr<|bc (av 8) yw)<|Yr<|bd aB<|bd aB<|bd aB<|bd (av 9) Zy) (yD<|vT aB) vH)<|yD<|Xb (tc T.hkd hr (cn (wU T) hr<|bc (av 8) yw)<|av 10) (yD<|vT aB) vH) λ_=>rfl)
  exact yD<|vT<|ec T.hkd hr (cn (wU T) hr<|bc (av 4) yw)<|av 5)
end
local macro_rules |`(⋯)=>do `(by first|with_reducible rfl|assumption|$(<-zqb "za;zq;zI;zh"):tactic|(with_reducible refine zb ?_;first|rfl|assumption)|$(<-zqc "WD.e ?;zk ? ?;zi ? ?;yr ? ?;Y5 ? ?;yh ? ? ?;YK ? ? ? ?;VP ? ? ? ?;z0 ? ? = =;Rt_ret ?;zN ?;zg ? ="):tactic|$(<-zqb "Zo d;ce;ve =;xR ="):tactic|$(<-zqc "XX ? ? ?;xY ? ?;WN ? ?"):tactic|$(<-zqb "TU ="):tactic|$(<-zqc "zy ? ? ?;Zu ? ? ?;zw ? ?;yZ ? ?"):tactic|omega|rfl|decide|simp)
noncomputable abbrev kvs:List (Key×V):=[(.inr "add",.int 2),(.inr "take",.int 2),(.inr "times",.int 2),(.inr "most",.int 2),(.inr "least",.int 2),(.inr "same",.int 4)]
def tP{l:PySem.W.OpenLaw}{w:World}{K:zzA}{mg:Str->Option Value}{fa:Addr}{kd:KD}(h:Heap)(hfa:mg "law"=some (.ref fa))(T:∀base,Txt l.prog w K mg base kd):
 ∃fd:FuncData,(∀(s:Shared) (v:Value),BindsTo s fd ⟨[v],[]⟩ [("_law_script",v)])/\∀base:Heap,K.In base->base.Ns mainGlobals mg->FnOk l.prog w K mg base VM 28 fa fd ["_law_script"] (kX K Tn):=by
 obtain⟨f,d,F,e⟩:=(T h).o_;cases hfa.symm.trans e;obtain⟨_,_,_,_,_,_,_,_,_,rfl,_,_⟩:=F.ex;exact⟨_,λs v=>.of_eq rfl,λbase _ _=>(me (T base) F).imp λvs H Q E h=>h _⟩
def walk{l:PySem.W.OpenLaw}{q:Program}{loose:List Str}{XP:(Str->Option Value)->Heap->Prop}{YP:World->Heap->Prop}{d:DefRec}{K:Params->zzA}(hn:l.most=some 63)(hdf:d.params.defaults=[])
 (hY:∀(w:World) (h:Heap),YP w h->(K w.params).In h) (hm:∀ns:List Int,ns.length<=63->Tn [(true,.lst<|ns.map D.int)]=some (.lf true<|.bl true))
 (F:∀(w:World) (mg:Str->Option Value) (fa:Addr) (h:Heap),(K w.params).In h->h.Ns mainGlobals mg->mg d.name=some (.ref fa)->
  ∃fd:FuncData,(∀(s:Shared) (u:Value),BindsTo s fd ⟨[u],[]⟩ [("_law_script",u)])/\∀base:Heap,(K w.params).In base->base.Ns mainGlobals mg->FnOk l.prog w (K w.params) mg base VM 28 fa fd ["_law_script"] (kX (K w.params) Tn)):
 PySem.W.WalkO q loose XP YP l.row.toRowW d [] (λf vs=>PySem.call f vs):=
 L2.walk_of (n:=63) (k:=28) (x:="_law_script") (CX:=λ_=>VM) (sp:=λw=>kX (K w.params) Tn) hn (by decide) hdf ⟨rfl,by decide,by decide,rfl⟩ hY F (λ_ _ a ns hl _ hS kd=>qi (hm ns hl) hS) λ_ _ _ _ _ z=>z
noncomputable abbrev WB(x:Int):O:=.lf true<|.int x
abbrev sI(x:Int):Option O:=some<|WB x
noncomputable abbrev sT(d:D):Option O:=some<|.lf true d
noncomputable abbrev sN(os:List O):Option O:=some<|.nd .ls os
abbrev TZ:Type:=List<|List Int
def Vy(h:f as=some (.ow o,U'))(hs:o.str=true):zt f as=some (.rt o):=by
 unfold zt;rw[h];show((if o.str=true then some o else none).bind _)=_;rw[if_pos hs];rfl
def ZE{n:Nat}(h:n<=1000000):n<=sizeLine:=zzO h ⋯
theorem zY:∀xs:List Int,(xs.map WB).all O.isLf=true/\O.strs (xs.map WB)=true/\O.toDs (xs.map WB)=xs.map D.int
 | []=>⟨rfl,rfl,rfl⟩
 |x::r=>⟨(zY r).1,(zY r).2.1,congrArg _ (zY r).2.2⟩
def JK(xs:List Int):(xs.map D.int).map (O.lf true)=xs.map WB:=by rw[zyA];rfl
def u6{i:Nat}{os}{lo hi}(h:as[i]? = some (sN os))(hl:os.all O.isLf=true)(hs:O.strs os=true)(h1:fl as=some (lo,as))(h2:fh as=some (hi,as)):
 wV (fV i) fl fh Yq as=some (.ow<|.nd .ls<|(cutD (O.toDs os) lo hi).map<|O.lf true,as):=by
 unfold wV;rw[YO h];show((fl as).bind _)=_;rw[h1];show((fh as).bind _)=_;rw[h2];show((RV.view as<|.bo i).bind _)=_;rw[VH h];have e:(O.nd .ls os).kl=some true:=by simp only[O.kl,hl,if_true,hs]
 rw[e];show(if _=true then some (RV.ow<|.nd .ls<|(cutD _ lo hi).map<|Ee true)else none:Option RV).bind _=_;rw[if_pos ⋯,ZP];rfl
def BN:cutD (x::xs) (some 1) none=xs:=by
 have:=Z_ (xs:=[x]) (ys:=xs);injection this with this
 injection this
abbrev gH:SF:=(ze nj
 mE)
def Nb(ys)(w):(ys++[w]).map WB=ys.map WB++[O.lf true<|.int w]:=⋯
theorem U_:∀(n:Nat) k x (ys:List Int) e4,0<=k->k+n<=1000->0<=x->x<2 ^ 40->ys.length+n<=1000->(∀y ∈ ys,0<=y/\y<2147483399)->∃(x':Int) (zs:List Int) (e4':Option O),zs.length=ys.length+n/\(∀z ∈ zs,0<=z/\z<2147483399)/\
 forL (gN 3) gH (y4 k n) [A,B,sN<|ys.map WB,e4,sI x]=some (.nx [A,B,sN<|zs.map WB,e4',sI x'])
 |0,k,x,ys,e4,_,_,_,_,_,h=>⟨x,ys,e4,rfl,h,rfl⟩
 |n+1,k,x,ys,e4,hk,hkn,hx0,hx1,hl,h=>by
  have y0:=zyM (x*x+48271*x+k) (show(2147483647:Int)≠0 by decide);have y1:=zyG (x*x+48271*x+k) (show(0:Int)<2147483647 by decide);have w0:=zyM ((x*x+48271*x+k)%2147483647*40692+7*k) (show(2147483399:Int)≠0 by decide);have w1:=zyG ((x*x+48271*x+k)%2147483647*40692+7*k) (show(0:Int)<2147483399 by decide);obtain⟨x',zs,e4',h1,h2,h3⟩:=U_ (A:=A) (B:=B) n (k+1) ((x*x+48271*x+k)%2147483647) (ys++[((x*x+48271*x+k)%2147483647*40692+7*k)%2147483399]) (sI k) (by omega) (by omega) y0 (Int.lt_trans y1<|by decide) (by rw[zzJ];show ys.length+1+n<=_;omega) (λz m=>by
   rcases zzM.mp m with m|m
   . exact h z m
   . rw[zzR.mp m];exact⟨w0,w1⟩)
  refine⟨x',zs,e4',by rw[h1,zzJ];show ys.length+1+n=_;omega,h2, ?_⟩;rw[Nb]at h3;rw[y_];have bx:x.natAbs<big:=Zo (Int.lt_of_lt_of_le (by decide) hx0) (Int.lt_trans hx1<|by decide);exact zW rfl (zd (zw (i:=4) (yh (yr (yr (VP (zb rfl) (zb rfl) bx bx)<|VP za (zb rfl) (Zo (by decide)<|by decide) bx)<|zb rfl) za<|by decide)<|zh rfl)
   (vZ (i:=2) rfl (by rw[zzB];exact yI<|by omega)<|yh (yr (VP (zb rfl) za (Zo (Int.lt_of_lt_of_le (by decide) y0)<|Int.lt_trans y1<|by decide)<|Zo (by decide)<|by decide)<|VP za (zb rfl) (Zo (by decide)<|by decide)<|Zo (by omega)<|by omega) za<|by decide)) h3
abbrev gG:SF:=md
theorem EX:∀n k x (ys:List Int) e3,ys.length+n<=1000->(∀y ∈ ys,0<=y/\y<2147483647)->∃(x':Int) (zs:List Int) (gW:Option O),zs.length=ys.length+n/\(∀z ∈ zs,0<=z/\z<2147483647)/\
 forL (gN 3) gG (y4 k n) [sI x,B,sN<|ys.map WB,e3,C]=some (.nx [sI x',B,sN<|zs.map WB,gW,C])
 |0,k,x,ys,e3,_,h=>⟨x,ys,e3,rfl,h,rfl⟩
 |n+1,k,x,ys,e3,hl,h=>by
  obtain⟨x',zs,gW,h1,h2,h3⟩:=EX n (k+1) (x/2147483647) (ys++[x%2147483647]) (sI k) (by rw[zzJ];show ys.length+1+n<=_;omega) (λz m=>by
   rcases zzM.mp m with m|m
   . exact h z m
   . rw[zzR.mp m];exact⟨(zyM x<|show(2147483647:Int)≠0 by decide),(zyG x<|show(0:Int)<2147483647 by decide)⟩)
  refine⟨x',zs,gW,by rw[h1,zzJ];show ys.length+1+n=_;omega,h2, ?_⟩;rw[Nb]at h3;rw[y_];exact zW rfl (zd (vZ (i:=2) rfl (by rw[zzB];exact yI<|by omega) ⋯) ⋯) h3
noncomputable abbrev zx(r:List Int):D:=.lst<|r.map D.int
def XR{c:Int}{m:Nat}(h1:m<=900):∃xs:List Int,xs.length=m/\(∀x ∈ xs,0<=x/\x<2147483647)/\RE (xm [(true,.int c),(true,.int m)]) (zx xs):=by
 by_cases hc:c%2=1
 . obtain⟨x',zs,gW,z1,z2,hf⟩:=EX (B:=sI m) (C:=none) m 0 (c/2) [] none (by simp;omega) (λ_ m=>nomatch m);refine⟨zs,by simpa using z1,z2,.nd .ls<|zs.map WB,zG rfl<|zd (y6 (i:=2) (vB zI<|Ww rfl)<|zh rfl)<|z9<|yp (zg (yk (c:=true) (yh (zb rfl) za<|by decide) za (by show some (c%2==1)=_;rw[hc];rfl)) rfl)
    (zd (zw (i:=0) (YK (zb (i:=0) rfl) za (by decide)<|Zo (by decide)<|by decide)<|zh rfl)<|zd (wk (xv (zk (zb (i:=1) rfl) zq) (by omega)<|by omega) hf)<|Vo (i:=2) rfl (zY zs).2.1),(zY zs).2.1,congrArg D.lst (zY zs).2.2⟩
 obtain⟨x',zs,e4,z1,z2,hf⟩:=U_ (A:=sI c) (B:=sI m) (m+1) 0 (c/2%2147483647+48271) [] none (by omega) (by omega) (by omega) (by omega) (by show 0+_<=_;omega) (λ_ m=>nomatch m);cases zs with
 |nil=>rw[List.length_nil]at z1;simp at z1
 |cons z r=>
  refine⟨r,by rw[zzT]at z1;simp at z1;omega,λx hx=>⟨(z2 x<|zzD _ hx).1,Int.lt_trans (z2 x<|zzD _ hx).2<|by decide⟩,.nd .ls<|r.map WB, ?_,(zY r).2.1,congrArg D.lst (zY r).2.2⟩;obtain⟨i1,i2,i3⟩:=zY (z::r);have hs:=u6 (as:=[sI c,sI m,sN<|(z::r).map WB,e4,sI x']) (i:=2) (fl:=oS zD) (fh:=oN) (lo:=some 1) (hi:=none) rfl i1 i2 rfl rfl;rw[i3]at hs;have hc':cutD ((z::r).map D.int) (some 1) none=r.map D.int:=BN;rw[hc',JK]at hs;refine zG rfl<|zd (y6 (i:=2) (vB zI<|Ww rfl)<|zh rfl)<|zd (zr (zg (yk (c:=false) (yh (zb rfl) za<|by decide) za (by show some (c%2==1)=_;simp[hc])) rfl) rfl)<|zd (zw (i:=4) ⋯ (zh rfl))<|zd (wk (xv (zk (yr (zb (i:=1) rfl) za) zq) (by omega)<|by omega) hf) ?_;exact Vy hs (zY r).2.1
inductive Tm where
 |num (v:Int)|nam (x:Str)|op (w:Str) (x y:Tm)|sm (x y z u:Tm)
noncomputable def Tm.toD:Tm->D
 | .num v=>.tup [.str "number",.int v]
 | .nam x=>.tup [.str "name",.str x]
 | .op w x y=>.tup [.str w,x.toD,y.toD]
 | .sm x y z u=>.tup [.str "same",x.toD,y.toD,z.toD,u.toD]
noncomputable def Tm.ht:Tm->Nat
 | .num _=>1
 | .nam _=>1
 | .op _ x y=>max x.ht y.ht+1
 | .sm x y z u=>max (max x.ht y.ht) (max z.ht u.ht)+1
def Ql:∀t:Tm,1<=t.ht
 | .num _=>by show 1<=1;decide
 | .nam _=>by show 1<=1;decide
 | .op _ x y=>by show 1<=max _ _+1;omega
 | .sm x y z u=>by show 1<=max _ _+1;omega
def Ye(x:Str):Prop:=x="add"\/x="take"\/x="times"\/x="most"\/x="least"
def Tm.ok(p:Str):Tm->Prop
 | .num v=>0<=v/\v<10 ^ 60
 | .nam x=>x="a"\/x=p
 | .op w x y=>Ye w/\x.ok p/\y.ok p
 | .sm x y z u=>x.ok p/\y.ok p/\z.ok p/\u.ok p
noncomputable abbrev FZ(p:Str)(a b:Int):D:=.dct [(.inr "a",.int a),(.inr p,.int b)]
noncomputable def at2(a b:Int)(x:Str):Int:=if x="a" then a else b
noncomputable def two(w:Str)(X Y:Int):Int:=if w="add" then X+Y else if w="take" then X-Y else if w="times" then X*Y else if w="most" then(if Y > X then Y else X)else(if Y<X then Y else X)
def val(n a b:Int):Tm->Int
 | .num v=>v%n
 | .nam x=>at2 a b x%n
 | .op w x y=>two w (val n a b x) (val n a b y)%n
 | .sm x y z u=>if val n a b x=val n a b y then val n a b z else val n a b u
theorem Zd(hn:0<n):∀t,0<=val n a b t/\val n a b t<n
 | .num v=>⟨zyM _ ⋯,zyG _ hn⟩
 | .nam x=>⟨zyM _ ⋯,zyG _ hn⟩
 | .op w x y=>⟨zyM _ ⋯,zyG _ hn⟩
 | .sm x y z u=>by
  unfold val
  split
  . exact Zd hn z
  . exact Zd hn u
def sU(hw:Ye w)(hX:0<=X/\X<100)(hY:0<=Y/\Y<100):Ui [(s,.str w),(t,.int X),(u,.int Y)]=sT (.int<|two w X Y):=by
 rcases hw with rfl|rfl|rfl|rfl|rfl
 . exact zG rfl ⋯
 . exact zG rfl ⋯
 . exact zG rfl (zd (zr (zg (yk (zb rfl) za rfl) rfl) rfl)<|zd (zr (zg (yk (zb rfl) za rfl) rfl) rfl)<|z9<|yp (zg (yk (zb rfl) za rfl) rfl)<|zN<|VP (zb rfl) (zb rfl) (Zo (by omega)<|by omega)<|Zo (by omega)<|by omega)
 . exact zG rfl ⋯
 . exact zG rfl ⋯
def RH(p:Str):Prop:=p="b"\/p="c"
def AN{p x:Str}(hp:RH p)(h:x="a"\/x=p):zU (FZ p a b) (.str x)=some (.im<|.int<|at2 a b x):=by
 rcases hp with rfl|rfl<;>rcases h with rfl|rfl<;>rfl
def H9(h:Ye w):wb 60 (.str w) (.str "number")=some false/\wb 60 (.str w) (.str "name")=some false/\wb 60 (.str w) (.str "same")=some false:=by
 rcases h with rfl|rfl|rfl|rfl|rfl<;>exact⟨rfl,rfl,rfl⟩
theorem vL{n a b:Int}(hp:RH p)(hn:0<n)(K':n<=50):∀h t s q u,t.ok p->t.ht<=h->XY h [(s,t.toD),(q,.int n),(u,FZ p a b)]=sT (.int<|val n a b t)
 |0,t,s,q,u,_,hh=>by have:=Ql t;omega
 |h+1,.num v,s,q,u,ok,hh=>zG rfl (zd (zw (i:=3) (z0 (zb rfl) za rfl rfl)<|zh rfl)<|z9<|yp (zg (yk (zb rfl) za rfl) rfl)<|zN<|yh (z0 (zb rfl) za rfl rfl) (zb rfl) hn)
 |h+1,.nam x,s,q,u,ok,hh=>zG rfl (zd (zw (i:=3) (z0 (zb rfl) za rfl rfl)<|zh rfl)<|zd (zr (zg (yk (zb rfl) za rfl) rfl) rfl)<|z9<|yp (zg (yk (zb rfl) za rfl) rfl)<|zN<|yh (z0 (zb rfl) (z0 (zb rfl) za rfl rfl) (AN hp ok) rfl) (zb rfl) hn)
 |h+1,.op w x y,s,q,u,ok,hh=>by
  have hx:x.ht<=h:=by unfold Tm.ht at hh;omega
  have hy:y.ht<=h:=by unfold Tm.ht at hh;omega
  obtain⟨n1,n2,n3⟩:=H9 ok.1;have rx:=Zd (a:=a) (b:=b) hn x;have ry:=Zd (a:=a) (b:=b) hn y;exact zG rfl (zd (zw (i:=3) (z0 (zb rfl) za rfl rfl)<|zh rfl)<|zd (zr (zg (yk (zb rfl) za n1) rfl) rfl)<|zd (zr (zg (yk (zb rfl) za n2) rfl) rfl)
   (zd (zw (i:=4) (yA (zk (Qw (zb rfl) za rfl)<|zk (zb rfl)<|zk (zb rfl) zq)<|vL hp hn K' h x _ _ _ ok.2.1 hx)<|zh rfl)
   (zd (zw (i:=5) (yA (zk (Qw (zb rfl) za rfl)<|zk (zb rfl)<|zk (zb rfl) zq)<|vL hp hn K' h y _ _ _ ok.2.2 hy)<|zh rfl)
   (zd (zr (zg (yk (zb rfl) za n3) rfl) rfl)
   (zN<|yh (yA (zk (zb rfl)<|zk (zb rfl)<|zk (zb rfl) zq)<|sU ok.1 ⟨rx.1,by omega⟩ ⟨ry.1,by omega⟩) (zb rfl) hn)))))
 |h+1,.sm x y z v,s,q,u,ok,hh=>by
  have hx:x.ht<=h:=by unfold Tm.ht at hh;omega
  have hy:y.ht<=h:=by unfold Tm.ht at hh;omega
  have hz:z.ht<=h:=by unfold Tm.ht at hh;omega
  have hv:v.ht<=h:=by unfold Tm.ht at hh;omega
  obtain⟨ox,oy,oz,ov⟩:=ok;refine zG rfl<|zd (zw (i:=3) (z0 (zb rfl) za rfl rfl)<|zh rfl)<|zd (zr (zg (yk (zb rfl) za rfl) rfl) rfl)<|zd (zr (zg (yk (zb rfl) za rfl) rfl) rfl)
   (zd (zw (i:=4) (yA (zk (Qw (zb rfl) za rfl)<|zk (zb rfl)<|zk (zb rfl) zq)<|vL hp hn K' h x _ _ _ ox hx)<|zh rfl)
   (zd (zw (i:=5) (yA (zk (Qw (zb rfl) za rfl)<|zk (zb rfl)<|zk (zb rfl) zq)<|vL hp hn K' h y _ _ _ oy hy)<|zh rfl)
   (z9<|yp (zg (yk (zb rfl) za rfl) rfl) ?_)))
  by_cases e:val n a b x=val n a b y
  . have ev:val n a b (.sm x y z v)=val n a b z:=if_pos e;rw[ev];exact zd (zw (i:=6) (Tw (zg (yk (zb rfl) (zb rfl) rfl) (by show some (val n a b x==val n a b y)=_;rw[e];simp))<|Qw (zb rfl) za rfl)<|zh rfl)<|zN<|yA (zk (zb rfl)<|zk (zb rfl)<|zk (zb rfl) zq)<|vL hp hn K' h z _ _ _ oz hz
  . have ev:val n a b (.sm x y z v)=val n a b v:=if_neg e;rw[ev];exact zd (zw (i:=6) (Mm (zg (yk (zb rfl) (zb rfl) rfl) (by show some (val n a b x==val n a b y)=_;simp[e]))<|Qw (zb rfl) za rfl)<|zh rfl)<|zN<|yA (zk (zb rfl)<|zk (zb rfl)<|zk (zb rfl) zq)<|vL hp hn K' h v _ _ _ ov hv
noncomputable def Tm.cnt:Tm->Nat
 | .num _=>1
 | .nam _=>1
 | .op _ x y=>x.cnt+y.cnt+1
 | .sm x y z u=>x.cnt+y.cnt+z.cnt+u.cnt+1
def isNm(x:Str):Prop:=x="a"\/x="b"\/x="c"
def Tm.ko:Tm->Prop
 | .num v=>0<=v/\v<10 ^ 60
 | .nam x=>isNm x
 | .op w x y=>Ye w/\x.ko/\y.ko
 | .sm x y z u=>x.ko/\y.ko/\z.ko/\u.ko
abbrev nl(nm:List Str):D:=.lst<|nm.map .str
def x_:∀t:Tm,1<=t.cnt
 | .num _=>by show 1<=1;decide
 | .nam _=>by show 1<=1;decide
 | .op _ x y=>by show 1<=_+_+1;omega
 | .sm x y z u=>by show 1<=_+1;omega
def ye:Tm->List Str
 | .num v=>[tx v]
 | .nam x=>[x]
 | .op w x y=>w::(ye x++ye y)
 | .sm x y z u=>"same"::(ye x++(ye y++(ye z++ye u)))
def So:∀t,ye t≠[]
 | .num _=>by simp[ye]
 | .nam _=>by simp[ye]
 | .op _ _ _=>by simp[ye]
 | .sm _ _ _ _=>by simp[ye]
theorem Q6:∀t,(ye t).length=t.cnt
 | .num _=>rfl
 | .nam _=>rfl
 | .op _ x y=>by show(ye x++ye y).length+1=x.cnt+y.cnt+1;rw[zzJ,Q6 x,Q6 y]
 | .sm x y z u=>by show(ye x++_).length+1=x.cnt+y.cnt+z.cnt+u.cnt+1;simp only[zzJ,Q6];omega
def Df(h:Ye w):NB w/\w.length<=60:=by
 rcases h with rfl|rfl|rfl|rfl|rfl<;>exact⟨by unfold NB;decide +kernel,⋯⟩
def J_(h:isNm w):NB w/\w.length<=60:=by
 rcases h with rfl|rfl|rfl<;>exact⟨by unfold NB;decide +kernel,⋯⟩
def FV:NB ("same":Str)/\("same":Str).length<=60:=⟨by unfold NB;decide +kernel,⋯⟩
theorem YG:∀{t:Tm},t.ko->∀w ∈ ye t,NB w/\w.length<=60
 | .num v,h,w,m=>by rw[zzR.mp m];exact⟨oJ,wI h.1 h.2⟩
 | .nam x,h,w,m=>by rw[zzR.mp m];exact J_ h
 | .op o x y,h,w,m=>by
  rcases zzC.mp m with rfl|m
  . exact Df h.1
  rcases zzM.mp m with m|m
  . exact YG h.2.1 w m
  . exact YG h.2.2 w m
 | .sm x y z u,h,w,m=>by
  rcases zzC.mp m with rfl|m
  . exact FV
  rcases zzM.mp m with m|m
  . exact YG h.1 w m
  rcases zzM.mp m with m|m
  . exact YG h.2.1 w m
  rcases zzM.mp m with m|m
  . exact YG h.2.2.1 w m
  . exact YG h.2.2.2 w m
def S(t:Tm):Str:=Str.join Kq<|ye t
def my(h:t.ko):(S t).length<=61*t.cnt:=by
 have:=Xq _ 60 λw m=>(YG h w m).2
 rwa [Q6]at this
def O1(h:x.length+y.length<=sizeLine):vR .Add (.str x) (.str y)=some (.im<|.str<|x++y):=if_pos h
def zT(x y:Str):(x++y).length=x.length+y.length:=by rw[len_eq,app_list,zzJ,<-len_eq,<-len_eq]
def VO(d e):zj .In d e=(Sb d e).bind λb=>some (FM b):=rfl
def Mx(h:∀c ∈ x.cps.toList,48<=c/\c<=57):xo yb z_ (f2 zo (fC<|.str "0123456789")<|zj .In) [none] (xt x)=some ((x.cps.toList.map λ_=>D.bl true).map<|O.lf true):=by
 unfold xt;generalize x.cps.toList=l at h
 induction l with
 |nil=>rfl
 |cons c r ih=>exact Z6 rfl (z0 ⋯ za (by rw[VO,Sw<|h c ⋯];rfl) rfl) (ih λd m=>h d<|zzD _ m)
theorem Uq:∀l:List Nat,Yx (l.map λ_=>D.bl true)=some (l.map λ_=>true)
 | []=>rfl
 |_::r=>by show(Yx _).bind _=_;rw[Uq r];rfl
theorem Lx:∀l:List Nat,(l.map λ_=>true).all id=true
 | []=>rfl
 |_::r=>Lx r
def str_beq{a b:Str}(h:a≠b):(a==b)=false:=beq_eq_false_iff_ne.mpr h
def Mf(h0:0<=v)(h1:v<10 ^ 60):xT [(s,.str<|tx v),(u,.int 60)]=sT (.bl true):=by
 have hl:=wI h0 h1;have vp:=Ha h0;refine zG rfl<|zd (zr (zE (k:=false) (zg (yk (c:=false) (zb rfl) za<|congrArg some<|str_beq λe=>vp<|by rw[e];rfl) rfl) (λ_=>zg (x4 (wO (zk (zb rfl) zq) (if_pos<|ZE<|by omega) rfl)<|zb rfl) ?_) (λh=>nomatch h)) rfl)<|zd (zr ?_ rfl)<|zN<|xr ⟨_,xg (L5<|zb rfl) (by unfold xt;rw[zzB,<-len_eq];exact ZE<|by omega)<|Mx<|Yj h0,v8 _,congrArg D.lst<|Zs _⟩ ?_
 . exact congrArg some (zyF<|by omega)
 . -- no nought ahead
   have hat:∃c r,(tx v).cps.toList=c::r:=by
    cases e:(tx v).cps.toList with
    |nil=>exact absurd e vp
    |cons c r=>exact⟨c,r,rfl⟩
   obtain⟨c,r,ec⟩:=hat;have hix:zU (.str<|tx v) (.int 0)=some (.im<|.str ⟨#[c]⟩):=by
    show(if(tx v).length<=sizeLine then(Gr (tx v).cps.toList 0).bind _ else none)=_;rw[if_pos (ZE<|by omega),show(0:Int)=((0:Nat):Int)from rfl,Yu (v:=c)<|by rw[ec];rfl];rfl
   by_cases hz:v=0
   . subst hz;refine YX (l:=false) ⋯ (λ_=>?_) (λ_=>rfl);exact zg ⋯ rfl
   . obtain⟨c',r',e',hc'⟩:=C3 (v:=v) (by omega);have:c=c':=by rw[ec]at e';exact(List.cons.inj e').1
     subst this;refine YX (k:=false) (l:=false) (zg (yk (c:=false) (z0 (zb rfl) za hix rfl) za ?_) rfl) (λh=>nomatch h) λ_=>rfl;refine congrArg some<|str_beq λe=>hc' ?_;have:=congrArg (λq:Str=>q.cps.toList) e;have e2:(("0":Str)).cps.toList=[48]:=by decide +kernel
     simp only[e2]at this;simpa using this
 . show(Yx _).bind _=_;rw[Uq];show some _=_;rw[Lx]
def Ki{s u:Bool}{c:Nat}(hc:c≠48)(hn:Sb (.str ⟨#[c]⟩) (.str "0123456789")=some false):xT [(s,.str ⟨#[c]⟩),(u,.int 60)]=sT (.bl false):=by
 have e1:((⟨#[c]⟩:Str)==("0":Str))=false:=str_beq λe=>hc (by
  have:=congrArg (λq:Str=>q.cps.toList) e;have e2:(("0":Str)).cps.toList=[48]:=by decide +kernel
  simp only[e2]at this;simpa using this)
 have hix:zU (.str (⟨#[c]⟩:Str)) (.int 0)=some (.im<|.str ⟨#[c]⟩):=by
  rfl
 refine zG rfl<|zd (zr ⋯ rfl)<|zd (zr (YX (zg (yk (c:=false) (z0 (zb rfl) za hix rfl) za<|congrArg some e1) rfl) (λh=>nomatch h) λ_=>rfl) rfl)<|zN<|xr ⟨_,xg (L5<|zb rfl) (Ww rfl)<|Z6 rfl (z0 (zb rfl) za (by rw[VO,hn];rfl) rfl) rfl,rfl,rfl⟩ rfl
def HI(h:isNm x):xT [(s,.str x),(u,.int 60)]=sT (.bl false):=by
 rcases h with rfl|rfl|rfl
 . exact Ki ⋯ (congrArg some<|by decide +kernel)
 . exact Ki ⋯ (congrArg some<|by decide +kernel)
 . exact Ki ⋯ (congrArg some<|by decide +kernel)
def Es(h:Ye w):zL [(s,.str w)]=sT (.int 2):=by
 rcases h with rfl|rfl|rfl|rfl|rfl<;>exact zG rfl ⋯
def XJ:zL [(s,.str "same")]=sT (.int 4):=⋯
def CW(h:isNm w):zL [(s,.str w)]=sT (.int 0):=by
 rcases h with rfl|rfl|rfl<;>exact zG rfl ⋯
def key_ne(h:a≠b):decide ((Sum.inr a:Key)=Sum.inr b)=false:=zyF λe=>h<|Sum.inr.inj e
def Fg(h0:0<=v):zL [(s,.str<|tx v)]=sT (.int 0):=by
 have n1:("add":Str)≠tx v:=λe=>xu h0 ⋯ e.symm;have n2:("take":Str)≠tx v:=λe=>xu h0 ⋯ e.symm;have n3:("times":Str)≠tx v:=λe=>xu h0 ⋯ e.symm;have n4:("most":Str)≠tx v:=λe=>xu h0 ⋯ e.symm;have n5:("least":Str)≠tx v:=λe=>xu h0 ⋯ e.symm;have n6:("same":Str)≠tx v:=λe=>xu h0 ⟨97,by decide +kernel,by decide⟩ e.symm;refine zG rfl<|zN<|XF za rfl (zk (zb rfl)<|zk za zq) ?_ rfl;show some _=_;have e:X0 [(.inr "add",(.int 2)),(.inr "take",(.int 2)),(.inr "times",(.int 2)),(.inr "most",(.int 2)),(.inr "least",(.int 2)),(.inr "same",(.int 4))] (.inr<|tx v)=none:=by
  unfold X0;simp only[List.find?_cons,key_ne n1,key_ne n2,key_ne n3,key_ne n4,key_ne n5,key_ne n6,List.find?_nil,Option.map_none]
 rw[e];rfl
theorem Zv(x):∀nm:List Str,anyF (λy=>wb 50 y<|.str x) (nm.map .str)=some (nm.any (· == x))
 | []=>rfl
 |n::r=>by
  show(some _).bind _=_;rw[Zv x r];rfl
def C2(h:isNm x):Yk [(s,.str x),(u,nl nm)]=sT (.bl (nm.any (· == x))):=by
 have e:WD p7 [some<|.lf s<|.str x,some<|.lf u<|nl nm] true (.bl true):=
  z0 ⋯ za (by rcases h with rfl|rfl|rfl<;>rfl) rfl
 exact zG rfl<|zN<|Y4 (k:=true) ⋯ (λ_=>Y4 e (λ_=>z0 ⋯ ⋯ (by show(anyF _ _).bind _=_;rw[Zv];rfl) rfl) (λh=>nomatch h)) (λh=>nomatch h)
def Ti(hk:0<k)(hd:d<12)(hp:∀s,zL [(s,.str w)]=sT (.int k)):Xd [(s,.str w),(u,.int d),(q,n)]=sT (.bl true):=by
 refine zG rfl<|z9<|yp (zg (x4 (yA (zk ⋯ zq)<|hp _) za)<|congrArg some<|zyN hk)<|zN ?_;have:=xY (as:=ya 3 [(s,.str w),(u,.int d),(q,n)]) (zb (i:=1) rfl)<|za (x:=.int 12)
 rwa [zyN hd]at this
def Ay(h0:0<=v)(h1:v<10 ^ 60):Xd [(s,.str<|tx v),(u,.int d),(q,n)]=sT (.bl true):=
 zG rfl (zd (zr (zg (x4 (yA (zk ⋯ zq)<|Fg h0) za) rfl) rfl)<|zN<|HE (yA (zk ⋯ (zk za zq))<|Mf h0 h1) ⋯ ⋯)
def Av(h:isNm x)(hn:nm.any (· == x)=true):Xd [(s,.str x),(u,.int d),(q,nl nm)]=sT (.bl true):=
 have hl:∀s u,Yk [(s,.str x),(u,nl nm)]=some _:=λs u=>by rw[C2 h,hn]
 zG rfl (zd (zr (zg (x4 (yA (zk ⋯ zq)<|CW h) za) rfl) rfl)<|zN<|HE (yA (zk ⋯ (zk za zq))<|HI h) (λ_=>yA (zk ⋯ (zk ⋯ zq))<|hl _ _) ⋯)
def good(nm:List Str):Tm->Bool
 | .num _=>true
 | .nam x=>nm.any (· == x)
 | .op _ x y=>good nm x&&good nm y
 | .sm x y z u=>(good nm x&&good nm y)&&(good nm z&&good nm u)
abbrev fG:GF:=(gT 2<|Yo (gN 3)<|Yo X3 GH)
abbrev fB:SF:=(ze (yN uT (zt zP) xf)
 (ze jz
 (yN tH (zt zP) xf)))
abbrev FS(W N:D)(ws:List Int)(e3 e4:Option O):AS:=[sT W,sT N,sT<|.lst<|ws.map .int,e3,e4]
def mul_list(h : -(2 ^ 63)<=k/\k<2 ^ 63/\xs.length*k.toNat<=sizeLine):vR .Mult (.lst xs) (.int k)=some (.fl (List.replicate k.toNat xs).flatten):=if_pos h
def JZ:zU (.lst (x::ds)) (.int 0)=some (.im x):=by
 show D9 _=_;rw[show 0=((0:Nat):Int)from rfl,Yu rfl];rfl
def Mg{i:Nat}{k:Nat}(hk:k<=4)(hr:r.length<=100)(hp:zL [(true,.str w)]=sT (.int k))
 (h:g (FS W N (List.replicate k (d+1)++r) (sI i)<|sT<|.str w)=some o):
 ze jz g (FS W N (d::r) (sI i)<|sT<|.str w)=some o:=by
 have hix:WD (f2 zH z6 zU) (FS W N (d::r) (sI i)<|sT<|.str w) true (.int d):=z0 (zb rfl) za JZ rfl;refine zd ?_ h;have hm:vR .Mult (.lst [.int<|d+1]) (.int (k:Int))=some (.fl (List.replicate (k:Int).toNat [D.int<|d+1]).flatten):=mul_list<|⟨by omega,by omega,ZE (by rw[zyH];show 1*k<=_;omega)⟩;have e1:(List.replicate (k:Int).toNat [D.int<|d+1]).flatten=(List.replicate k<|d+1).map D.int:=by
  rw[zyH];clear hm hp hr hk h
  induction k with
  |zero=>rfl
  |succ k ih=>rw[List.replicate_succ,List.flatten_cons,ih];rfl
 rw[e1]at hm;have hs:=Z_ (xs:=[.int d]) (ys:=r.map D.int);have:=yZ (p:=2) (GZ (GZ (zZ (zi (yr hix<|za (x:=.int 1)) zI) (Ww rfl) rfl rfl) (WD.e<|vA (WD.e<|zb (i:=4) rfl) hp) hm) (wA (fl:=oS zD) (fh:=oN) (WD.e<|zb (i:=2) rfl) (lo:=some 1) (hi:=none) rfl rfl hs)<|add_lists<|ZE<|by simp only[zzB,List.length_replicate];omega)<|zh rfl;rw[<-zyL]at this;exact this
def As{i:Nat}{k:Nat}(hk:k<=4)(hi:i+1+k+r.length<=40)(hp:zL [(true,.str w)]=sT (.int k))(hf:Xd [(true,.str w),(true,.int d),(true,N)]=sT (.bl true)):
 fB (FS W N (d::r) (sI i)<|sT<|.str w)=some (.nx<|FS W N (List.replicate k (d+1)++r) (sI i)<|sT<|.str w):=by
 have hix:WD (f2 zH z6 zU) (FS W N (d::r) (sI i)<|sT<|.str w) true (.int d):=z0 (zb rfl) za JZ rfl;refine zd (zr (zE (k:=false) (zg (yk (c:=false) (wO (zk (zb rfl) zq) rfl rfl) za ?_) rfl) (λ_=>vF (k:=true)<|zg (VZ (WD.e<|zb rfl) (WD.e hix) (WD.e<|zb rfl) hf) rfl) (λh=>nomatch h)) rfl) ?_
 . show some ((((d::r).map D.int).length:Int)==0)=_;refine congrArg some<|beq_eq_false_iff_ne.mpr ?_;rw[zzB,zzT];omega
 refine Mg hk (by omega) hp ?_;refine zr (zg (x4 (yr (yr (zb rfl) za)<|wO (zk (zb rfl) zq) rfl rfl) za) ?_) rfl;refine congrArg some<|zyF ?_;rw[zzB,zzJ,List.length_replicate];omega
def Ug{i:Nat}{k:Nat}{P:Option Out->Prop}(hk:k<=4)(hi:i+1+k+r.length<=40)(hp:zL [(true,.str w)]=sT (.int k))(hf:Xd [(true,.str w),(true,.int d),(true,N)]=sT (.bl true))
 (h:∀e3 e4,P<|forL fG fB (wK true (i+1) more)<|FS W N (List.replicate k (d+1)++r) e3 e4):P (forL fG fB (wK true i (.str w::more))<|FS W N (d::r) e3 e4):=by
 have e:forL fG fB (wK true i (.str w::more)) (FS W N _ e3 e4)=forL fG fB _ _:=zW rfl (As hk hi hp hf) rfl;rw[e];exact h _ _
theorem Ys{P:Option Out->Prop}:∀t i (d:Int) r more e3 e4,t.ko->good nm t=true->d+t.ht<=13->i+t.cnt+r.length<=40->
 (∀e3 e4,P<|forL fG fB (wK true (i+t.cnt) more)<|FS W (nl nm) r e3 e4)->P (forL fG fB (wK true i<|(ye t).map .str++more)<|FS W (nl nm) (d::r) e3 e4)
 | .num v,i,d,r,more,e3,e4,ok,hg,hh,hc,h=>Ug (k:=0) (by decide) (by have:i+1+r.length<=40:=hc;omega) (Fg ok.1) (Ay ok.1 ok.2) h
 | .nam x,i,d,r,more,e3,e4,ok,hg,hh,hc,h=>Ug (k:=0) (by decide) (by have:i+1+r.length<=40:=hc;omega) (CW ok) (Av ok hg) h
 | .op w x y,i,d,r,more,e3,e4,ok,hg,hh,hc,h=>by
  have hx:=Ql x;have hy:=Ql y;have cx:=x_ x;have cy:=x_ y;have hh1:d+((max x.ht y.ht+1:Nat):Int)<=13:=hh;have hc1:i+(x.cnt+y.cnt+1)+r.length<=40:=hc;have hg1:(good nm x&&good nm y)=true:=hg;rw[zyB]at hg1;have e:(ye<|.op w x y).map D.str++more = .str w::((ye x).map .str++((ye y).map .str++more)):=by
   show .str w::(ye x++ye y).map D.str++more=_;rw[zyL,List.cons_append,zxA]
  rw[e];refine Ug (k:=2) (by decide) (by omega) (Es ok.1) (Ti (k:=2) (by decide) (by omega) λs=>Es ok.1) λe3 e4=>?_;show P (forL fG fB _<|FS W (nl nm) ((d+1)::(d+1)::r) e3 e4);refine Ys x (i+1) (d+1) ((d+1)::r) _ e3 e4 ok.2.1 hg1.1 (by omega) (by rw[zzT];omega) λe3 e4=>?_;refine Ys y (i+1+x.cnt) (d+1) r more e3 e4 ok.2.2 hg1.2 (by omega) (by omega) λe3 e4=>?_;rw[show i+1+x.cnt+y.cnt=i+(Tm.op w x y).cnt by show _=i+(x.cnt+y.cnt+1);omega];exact h e3 e4
 | .sm x y z u,i,d,r,more,e3,e4,ok,hg,hh,hc,h=>by
  have hx:=Ql x;have cx:=x_ x;have cy:=x_ y;have cz:=x_ z;have cu:=x_ u;have hh1:d+((max (max x.ht y.ht) (max z.ht u.ht)+1:Nat):Int)<=13:=hh;have hc1:i+(x.cnt+y.cnt+z.cnt+u.cnt+1)+r.length<=40:=hc;have hg1:((good nm x&&good nm y)&&(good nm z&&good nm u))=true:=hg;rw[zyB,zyB,zyB]at hg1;have e:(ye<|.sm x y z u).map D.str++more = .str "same"::((ye x).map .str++((ye y).map .str++((ye z).map .str++((ye u).map .str++more)))):=by
   show .str "same"::(ye x++(ye y++(ye z++ye u))).map D.str++more=_;simp only[zyL,List.cons_append,zxA]
  rw[e];refine Ug (k:=4) (by decide) (by omega) XJ (Ti (k:=4) (by decide) (by omega) λs=>XJ) λe3 e4=>?_;show P (forL fG fB _<|FS W (nl nm) ((d+1)::(d+1)::(d+1)::(d+1)::r) e3 e4);refine Ys x (i+1) (d+1) _ _ e3 e4 ok.1 hg1.1.1 (by omega) (by simp only[zzT];omega) λe3 e4=>?_;refine Ys y (i+1+x.cnt) (d+1) _ _ e3 e4 ok.2.1 hg1.1.2 (by omega) (by simp only[zzT];omega) λe3 e4=>?_;refine Ys z (i+1+x.cnt+y.cnt) (d+1) _ _ e3 e4 ok.2.2.1 hg1.2.1 (by omega) (by simp only[zzT];omega) λe3 e4=>?_;refine Ys u (i+1+x.cnt+y.cnt+z.cnt) (d+1) r more e3 e4 ok.2.2.2 hg1.2.2 (by omega) (by omega) λe3 e4=>?_;rw[show i+1+x.cnt+y.cnt+z.cnt+u.cnt=i+(Tm.sm x y z u).cnt by show _=i+(x.cnt+y.cnt+z.cnt+u.cnt+1);omega];exact h e3 e4
def OI{t:Tm}(ok:t.ko)(hg:good nm t=true)(hh:t.ht<=13)(hc:t.cnt<=40):yW [(true,nl<|ye t),(true,nl nm)]=sT .non:=by
 have hl:∃e3 e4,forL fG fB (wK true 0<|(ye t).map .str) (FS (nl<|ye t) (nl nm) [0] none none)=some (Out.nx<|FS (nl<|ye t) (nl nm) [] e3 e4):=by
  have:=Ys (P:=λo=>∃e3 e4,o=some (Out.nx<|FS (nl<|ye t) (nl nm) [] e3 e4)) t 0 0 [] [] none none ok hg ⋯ (by show 0+_+0<=_;omega) (λe3 e4=>⟨e3,e4,rfl⟩)
  rwa [zyD]at this
 obtain⟨e3,e4,hl⟩:=hl;exact zG rfl<|zd ⋯ (zd ⋯ ⋯)
def CB(h0:0<=v)(h1:v<10 ^ 60):Yc [(s,.str<|tx v)]=some (.lf true (Tm.num v).toD):=
 zG rfl (z9<|yp (zg (yA (zk ⋯ (zk za zq))<|Mf h0 h1) rfl)<|zN<|HB (zi za<|zi (wO (zk ⋯ zq) (by
  show(if(tx v).length<=640 then(PySem.intText? _).bind _ else none)=_;rw[if_pos (by have:=wI h0 h1;omega),Xa h0 h1];rfl) rfl) zI) (Ww rfl) rfl)
def CP(h:isNm x):Yc [(true,.str x)]=some (.lf true (Tm.nam x).toD):=
 zG rfl (zd (zr (zg (yA (zk ⋯ (zk za zq))<|HI h) rfl) rfl) ⋯)
abbrev oB:SF:=(ze (zm true 3<|zf xQ zL)
 (ze qS
 (zm true 1 uQ)))
abbrev OS(W:D)(rs:List Tm)(e2 e3 e4:Option O):AS:=[sT W,sT<|.lst<|rs.map Tm.toD,e2,e3,e4]
def S_{k:Nat}{e4:Option O}(hk:rs.length=k)(hl:rs.length+more.length<=500):
 zm true 1 uQ (OS W (rs++more) (sT<|.str w) (sI k)<|sT t.toD)=some (.nx<|OS W (t::more) (sT<|.str w) (sI k)<|sT t.toD):=by
 subst hk;have hs:Yq (.lst<|(rs++more).map Tm.toD) (some rs.length) none=some (.fl<|more.map Tm.toD):=by
  have:=Z_ (xs:=rs.map Tm.toD) (ys:=more.map Tm.toD)
  rwa [zzB,<-zyL]at this
 have:=yZ (p:=1) (as:=OS W (rs++more) (sT<|.str w) (sI rs.length)<|sT t.toD) (GZ (zZ (zi (zb (i:=4) rfl) zI) (Ww rfl) rfl rfl) (wA (fl:=oS zP) (fh:=oN) (WD.e ⋯) rfl rfl hs)<|add_lists<|ZE (by rw[zzB];show 1+_<=_;omega))<|zh rfl;exact this
def E4(hl:rs.length<=400)(hp:zL [(true,.str w)]=sT (.int 0))(ht:Yc [(true,.str w)]=sT t.toD):
 ∃gW e4',oB (OS W rs (sT<|.str w) e3 e4)=some (.nx<|OS W (t::rs) (sT<|.str w) gW e4'):=
 ⟨_,_,zd (zw (vA (WD.e ⋯) hp)<|zh rfl)<|zd (zw (Tw ⋯ (vA (WD.e ⋯) ht))<|zh rfl)<|S_ (rs:=[]) (e4:=none) rfl (by show 0+_<=_;omega)⟩
def Fb{k:Nat}(hk:rs.length=k)(hk0:0<k)(hl:rs.length+more.length<=400)(hp:zL [(true,.str w)]=sT (.int k))(ht:t.toD = .tup (.str w::rs.map Tm.toD)):
 ∃gW e4',oB (OS W (rs++more) (sT<|.str w) e3 e4)=some (.nx<|OS W (t::more) (sT<|.str w) gW e4'):=by
 refine⟨_,_,zd (zw (i:=3) (vA (WD.e<|zb rfl) hp)<|zh rfl)<|zd (zw (i:=4) (s:=true) (Mm (zg (yk (zb rfl) za ?_) rfl) ?_)<|zh rfl)<|S_ (e4:=none) hk<|by omega⟩
 . show _=_;exact congrArg some (beq_eq_false_iff_ne.mpr<|by omega)
 . have hs:Yq (.lst<|(rs++more).map Tm.toD) none (some (k:Int))=some (.fl<|rs.map Tm.toD):=by
    have:=SO (xs:=rs.map Tm.toD) (ys:=more.map Tm.toD)
    rwa [zzB,<-zyL,hk]at this
   rw[ht];exact xr (GZ (zZ ⋯ (Ww rfl) rfl rfl) (wA (fl:=oN) (WD.e<|zb (i:=1) rfl) rfl rfl hs)<|add_lists<|ZE (by rw[zzB];show 1+_<=_;omega)) rfl
noncomputable abbrev zM(ws:List Str):List Xs:=(ws.map D.str).map λd=>(true,d)
def Ga(a b):zM (a++b)=zM a++zM b:=⋯
def Q9{P:Option Out->Prop}(hs:∀e3 e4,∃gW e4',oB (OS W rs (sT<|.str w) e3 e4)=some (.nx<|OS W rs' (sT<|.str w) gW e4'))
 (h:∀e2 e3 e4,P<|forL (gN 2) oB more<|OS W rs' e2 e3 e4):P (forL (gN 2) oB (zM [w]++more)<|OS W rs e2 e3 e4):=by
 obtain⟨gW,e4',q⟩:=hs e3 e4;have e:forL _ oB (zM [w]++more) (OS W rs e2 e3 e4)=forL (gN 2) oB more _:=zW rfl q rfl;rw[e];exact h _ _ _
theorem YF{P:Option Out->Prop}:∀t rs more e2 e3 e4,t.ko->t.cnt+rs.length<=300->(∀e2 e3 e4,P<|forL (gN 2) oB more<|OS W (t::rs) e2 e3 e4)->P (forL (gN 2) oB (zM (ye t).reverse++more)<|OS W rs e2 e3 e4)
 | .num v,rs,more,e2,e3,e4,ok,hl,h=>Q9 (λe3 e4=>E4 (by omega) (Fg ok.1)<|CB ok.1 ok.2) h
 | .nam x,rs,more,e2,e3,e4,ok,hl,h=>Q9 (λe3 e4=>E4 (by omega) (CW ok)<|CP ok) h
 | .op w x y,rs,more,e2,e3,e4,ok,hl,h=>by
  have cx:=x_ x;have cy:=x_ y;have ql:x.cnt+y.cnt+1+rs.length<=300:=hl;have e:zM (ye<|.op w x y).reverse++more=zM (ye y).reverse++(zM (ye x).reverse++(zM [w]++more)):=by
   show zM (w::(ye x++ye y)).reverse++more=_;rw[List.reverse_cons,List.reverse_append,Ga,Ga,zxA,zxA]
  rw[e];refine YF y rs _ e2 e3 e4 ok.2.2 (by omega) λe2 e3 e4=>?_;refine YF x (y::rs) _ e2 e3 e4 ok.2.1 (by rw[zzT];omega) λe2 e3 e4=>?_;exact Q9 (λe3 e4=>Fb (rs:=[x,y]) (more:=rs) (t:=.op w x y) (k:=2) rfl (by decide) (by show 2+_<=_;omega) (Es ok.1) rfl) h
 | .sm x y z u,rs,more,e2,e3,e4,ok,hl,h=>by
  have cx:=x_ x;have cy:=x_ y;have cz:=x_ z;have cu:=x_ u;have ql:x.cnt+y.cnt+z.cnt+u.cnt+1+rs.length<=300:=hl;have e:zM (ye<|.sm x y z u).reverse++more=zM (ye u).reverse++(zM (ye z).reverse++(zM (ye y).reverse++(zM (ye x).reverse++(zM ["same"]++more)))):=by
   show zM (("same":Str)::(ye x++(ye y++(ye z++ye u)))).reverse++more=_;simp only[List.reverse_cons,List.reverse_append,Ga,zxA]
  rw[e];refine YF u rs _ e2 e3 e4 ok.2.2.2 (by omega) λe2 e3 e4=>?_;refine YF z (u::rs) _ e2 e3 e4 ok.2.2.1 (by simp only[zzT];omega) λe2 e3 e4=>?_;refine YF y (z::u::rs) _ e2 e3 e4 ok.2.1 (by simp only[zzT];omega) λe2 e3 e4=>?_;refine YF x (y::z::u::rs) _ e2 e3 e4 ok.1 (by simp only[zzT];omega) λe2 e3 e4=>?_;exact Q9 (λe3 e4=>Fb (rs:=[x,y,z,u]) (more:=rs) (k:=4) rfl (by decide) (by show 4+_<=_;omega) XJ rfl) h
def of_ok{t:Tm}(ok:t.ko)(hc:t.cnt<=40):Qp [(true,nl<|ye t)]=sT t.toD:=by
 have hl:∃e2 e3 e4,forL (gN 2) oB (zM (ye t).reverse) (OS (nl<|ye t) [] none none none)=some (Out.nx<|OS (nl<|ye t) [t] e2 e3 e4):=by
  have:=YF (P:=λo=>∃e2 e3 e4,o=some (Out.nx<|OS (nl<|ye t) [t] e2 e3 e4)) t [] [] none none none ok (by show _+0<=_;omega) λe2 e3 e4=>⟨e2,e3,e4,rfl⟩
  rwa [zyD]at this
 obtain⟨e2,e3,e4,hl⟩:=hl;have hrev:zM (ye t).reverse=((ye t).map D.str).reverse.map λd=>(true,d):=⋯;rw[hrev]at hl;exact zG rfl<|zd ⋯ (zd (wk (mJ ⋯) hl)<|zN<|zy ⋯ za rfl)
def Oq(ok:t.ko)(hc:t.cnt<=1000):xB (.str<|S t) [.str " "]=some (.fl<|(ye t).map .str):=by
 have hl:=my ok;have e:Txt.split (S t) (" ":Str)=ye t:=NH (So t) λw m=>(YG ok w m).1;show(if _ then some _ else none)=_;rw[if_pos,e];refine⟨⋯,ZE ⋯, ?_⟩;rw[PyProof.Rows.len_partsBetween];have:=StrLaws.occ_length_le (S t) (" ":Str) 0 (S t).length<|(S t).length+1;exact ZE ⋯
def JQ(ok:t.ko)(hg:good nm t=true)(hh:t.ht<=13)(hc:t.cnt<=40):ZO [(true,.str<|S t),(true,nl nm)]=sT t.toD:=
 zG rfl (zd (yZ (Hy ⋯ rfl ⋯ (Oq ok ⋯))<|zh rfl)<|zd (zw (yt (WD.e ⋯) (WD.e ⋯)<|OI ok hg hh hc)<|zh rfl)<|zd ⋯ (zN<|vA (WD.e ⋯)<|of_ok ok hc))
noncomputable def row(g:Int->Int):Nat->Int->List Int
 |0,_=>[]
 |n+1,k=>g k::row g n (k+1)
noncomputable def tab(h:Int->List Int):Nat->Int->TZ
 |0,_=>[]
 |n+1,k=>h k::tab h n (k+1)
abbrev LC(r:List Int):O:=.nd .ls<|r.map WB
theorem wc:∀T:TZ,O.strs (T.map LC)=true/\O.toDs (T.map LC)=T.map zx
 | []=>⟨rfl,rfl⟩
 |r::T=>⟨by show(O.strs _&&O.strs _)=_;rw[(zY r).2.1,(wc T).1];rfl,by
  show D.lst _::O.toDs _=_;rw[(zY r).2.2,(wc T).2];rfl⟩
def H_{os}(h1:g y vf=some U')(h2:fe U'=some (.ow o,U'))(hs:o.str=true)(h3:xo g z_ fe vf r=some os):xo g z_ fe vf (y::r)=some (o::os):=by
 unfold xo;rw[h1];show((fe U').bind _)=_;rw[h2];show(if o.str=true then _ else _)=_;rw[if_pos hs,h3];rfl
theorem Vc(H:∀b,∃U',gN 0 (true,.int b) vf=some U'/\WD fe U' true (.int<|g b)):∀n k,xo yb z_ fe vf (y4 k n)=some ((row g n k).map WB)
 |0,k=>rfl
 |n+1,k=>by
  obtain⟨U',h1,h2⟩:=H k;rw[y_];exact Z6 h1 h2<|Vc H n _
theorem VB(H:∀a,∃U',gN 0 (true,.int a) vf=some U'/\fe U'=some (.ow<|LC<|h a,U')):∀n k,xo yb z_ fe vf (y4 k n)=some ((tab h n k).map LC)
 |0,k=>rfl
 |n+1,k=>by
  obtain⟨U',h1,h2⟩:=H k;rw[y_];exact H_ h1 h2 (zY _).2.1<|VB H n _
theorem wR:∀n k,(y4 k n).length=n
 |0,_=>rfl
 |n+1,k=>by rw[y_];exact congrArg _<|wR n _
abbrev MV(n:Int)(t:Tm):TZ:=tab (λa=>row (λb=>val n a b t) n.toNat 0) n.toNat 0
abbrev Fm(n m:Int)(t:Tm):TZ:=tab (λc=>row (λa=>val n a c t) n.toNat 0) m.toNat 0
abbrev hJ(w:Fn):EF:=(zC (yq xQ y8) [none,some 1,some 2,some 0] yb z_<|zf rH w)
abbrev gA(w:Fn):EF:=(zC (yq xQ y8) [none,some 1,some 2,some 0] yb z_<|zf uA w)
def HS(hn:0<n)(K':n<=50)(hw:∀a b s q u,w [(s,t.toD),(q,.int n),(u,FZ "b" a b)]=sI (val n a b t))(N:Nat)(k):
 xo yb z_ (hJ w) [none,some<|.lf s t.toD,some<|.lf q<|.int n] (y4 k N)=some ((tab (λa=>row (λb=>val n a b t) n.toNat 0) N k).map LC):=
 VB (λa=>⟨[sI a,some _,some _],rfl,xg (xv ⋯ ⋯ ⋯) (by rw[wR];exact ZE ⋯)<|Vc (λb=>⟨[some _,some _,some _,some _],rfl,yA (zk ⋯ (zk ⋯ (Uv ⋯ zq)))<|hw a b _ _ _⟩) n.toNat 0⟩) N k
def Om(hn:0<n)(K':n<=50)(hw:∀a b s q u,w [(s,t.toD),(q,.int n),(u,FZ "c" a b)]=sI (val n a b t))(N:Nat)(k):
 xo yb z_ (gA w) [none,some<|.lf s t.toD,some<|.lf q<|.int n] (y4 k N)=some ((tab (λc=>row (λa=>val n a c t) n.toNat 0) N k).map LC):=
 VB (λc=>⟨[sI c,some _,some _],rfl,xg (xv ⋯ ⋯ ⋯) (by rw[wR];exact ZE ⋯)<|Vc (λa=>⟨[some _,some _,some _,some _],rfl,yA (zk ⋯ (zk ⋯ (Uv ⋯ zq)))<|hw a c _ _ _⟩) n.toNat 0⟩) N k
def JJ(hn:0<n)(K':n<=50)(ht:t.ok "b")(hh:t.ht<=20):Qe [(s,.int n),(q,t.toD)]=sN ((MV n t).map LC):=
 zG rfl (Vy (xg (xv ⋯ ⋯ ⋯) (by rw[wR];exact ZE ⋯)<|HS hn K' (λa b _ _ _=>vL (.inl rfl) hn K' 20 t _ _ _ ht ⋯) n.toNat 0) (wc _).1)
def AM(hn:0<n)(K':n<=50)(hm:0<=m)(vh:m<=50)(ht:t.ok "c")(hh:t.ht<=20):Qg [(s,.int n),(r,.int m),(q,t.toD)]=sN ((Fm n m t).map LC):=
 zG rfl (Vy (xg (xv ⋯ ⋯ ⋯) (by rw[wR];exact ZE ⋯)<|Om hn K' (λa b _ _ _=>vL (.inr rfl) hn K' 20 t _ _ _ ht ⋯) m.toNat 0) (wc _).1)
theorem W4:∀{xs:List D},(∀x ∈ xs,f x x=some true)->AL f xs xs=some true
 | [],_=>rfl
 |x::r,h=>by
  show(f x x).bind _=_;rw[h x<|zzF,W4 λy m=>h y<|zzD _ m];rfl
def Sv(w)(ds):(kids w ds).length=ds.length:=by unfold kids;rw[zzB]
def ve{i:Nat}(h:as[i]? = some (sT x)):WE (fV i) as x:=⋯
def ce:WE (fC x) as x:=⋯
def MF{α:Type}{l:List α}{it}{p}{F}(h:fi as=some (l.map it,as))(hl:l.length<=200000)(H:∀v ∈ l,∃U',g (it v) (ZF cap as)=some U'/\WT tt U' (p v)/\(p v=true->WE fe U' (F v))):WE (zC fi cap g tt fe) as (.lst<|(l.filter p).map F):=by
 have key:∀l':List α,(∀x ∈ l',x ∈ l)->∃os,xo g tt fe _ (l'.map it)=some os/\O.strs os=true/\O.toDs os=(l'.filter p).map F:=λl'=>by
  induction l' with
  |nil=>intro _;exact⟨[],rfl,rfl,rfl⟩
  |cons d r ih=>
   intro hs;obtain⟨os,e1,e2,e3⟩:=ih λx m=>hs x<|zzD _ m;obtain⟨U',g1,t1,f1⟩:=H d<|hs d ⋯;cases hp:p d with
   |true=>
    obtain⟨o,g2,g3,g4⟩:=f1 hp;rw[hp]at t1;rw[List.filter_cons_of_pos hp];refine⟨o::os, ?_,by show(o.str&&O.strs os)=_;rw[g3,e2];rfl,by show o.toD::O.toDs os=_;rw[g4,e3];rfl⟩;show(g (it d) _).bind _=_;rw[g1];show(tt U').bind _=_;rw[t1];show(fe U').bind _=_;rw[g2];show(if o.str=true then _ else _)=_;rw[if_pos g3,e1];rfl
   |false=>
    rw[hp]at t1;rw[List.filter_cons_of_neg<|by rw[hp];simp];exact⟨os,V8 g1 t1 e1,e2,e3⟩
 obtain⟨os,e1,e2,e3⟩:=key l λ_ m=>m;exact⟨_,xg h (by rw[zzB];exact ZE<|zzO hl<|by decide) e1,e2,congrArg D.lst e3⟩
def Ft{α:Type}{fi}{l:List α}{it}{F}(h:fi as=some (l.map it,as))(hl:l.length<=200000)(H:∀v ∈ l,∃U',g (it v) (ZF cap as)=some U'/\WE fe U' (F v)):WE (zC fi cap g z_ fe) as (.lst<|l.map F):=by
 have:=MF (tt:=z_) (p:=λ_=>true) h hl λv m=>(H v m).imp λU' k=>⟨k.1,rfl,λ_=>k.2⟩
 rwa [List.filter_eq_self.mpr λ_ _=>rfl]at this
def QJ{α:Type}{l:List α}{e F}(h:WE fi as (.lst<|l.map e))(hl:l.length<=200000)(H:∀v ∈ l,∃U',gN 0 (true,e v) (ZF cap as)=some U'/\WE fe U' (F v)):WE (zC (x6 fi) cap yb z_ fe) as (.lst<|l.map F):=
 Ft (it:=λv=>(true,e v)) (by rw[DZ h,zyA];rfl) hl H
def Dy{α:Type}{l:List α}{e F}(h:WE fi as (.lst<|l.map e))(hl:l.length<=1000)(H:∀v ∈ l,∃U',gN 0 (true,e v) (ZF cap as)=some U'/\WE fe U' (F v)):WE (zC (x6 fi) cap yb z_ fe) as (.lst<|l.map F):=QJ h (by omega) H
def Z9(ha:WE a as (.str u))(hb:WE b as (.str v))(h:u.length+v.length<=1000000):WD (f2 a b zl) as true (.str<|u++v):=Zu ha hb<|O1<|ZE h
theorem Nn:∀ps,Ru (ps.map D.str)=some ps
 | []=>rfl
 |p::r=>by show(Ru _).bind _=_;rw[Nn r];rfl
def Xe(h:(ps.map (·.length)).sum+ps.length*sep.length<=16777216):wL (.str sep) [.lst<|ps.map D.str]=some (.im<|.str<|Str.join sep ps):=by
 show(Ru _).bind _=_;rw[Nn];show(if _ then some _ else none)=_;rw[if_pos h,O7]
theorem N2{n:Nat}:∀{ps:List Str},(∀p ∈ ps,p.length<=n)->(ps.map (·.length)).sum<=ps.length*n
 | [],_=>⋯
 |p::r,h=>by
  have:=N2 λp m=>h p<|zzD _ m;have:=h p ⋯;rw[zyR,List.sum_cons,zzT,Nat.succ_mul];omega
theorem vG(sep){n:Nat}:∀{ps:List Str},(∀p ∈ ps,p.length<=n)->(Str.join sep ps).length<=ps.length*(n+sep.length)
 | [],_=>Nat.zero_le _
 | [p],h=>by have:=h p ⋯;show p.length<=1*_;omega
 |p::q::r,h=>by
  have ih:=vG sep λp m=>h p<|zzD _ m;have:=h p ⋯;rw[len_eq,Zp,zzJ,zzJ,<-len_eq,<-len_eq,<-len_eq,zzT,Nat.succ_mul];omega
def joinM{α:Type}{l:List α}{g}{n:Nat}(h:WE fr as (.lst<|l.map λv=>D.str<|g v))(hp:∀v ∈ l,(g v).length<=n)(hl:l.length*(n+sep.length)<=1000000):WD (z7 .str (fC<|.str sep) (aC fr aN) wL) as true (.str<|Str.join sep<|l.map g):=by
 have e:(l.map λv=>D.str<|g v)=(l.map g).map D.str:=⋯;rw[e]at h;have:=N2 λp m=>by obtain⟨v,mv,rfl⟩:=zxB.mp m;exact hp v mv
 rw[zzB]at this;exact XF za rfl (yX h zq) (Xe<|by rw[zzB];rw[Nat.mul_add]at hl;omega) rfl
def Ae(h:WE a as (.int v))(h0:0<=v)(h1:v<10 ^ 60):WD (fP (aC a aN) X5) as true (.str<|tx v):=xr h<|if_pos<|ur h0 h1
def xR{k:Nat}(h:ds[k]? = some x):zU (.lst ds) (.int (k:Int))=some (.im x):=by
 have e:=Yu h;show D9 _=_;rw[e];rfl
def SB{k:Nat}(h:ds[k]? = some x):zU (.tup ds) (.int (k:Int))=some (.im x):=xR h
def FP{x y}(hy:(y.length==0)=false)(e:Txt.split x y=ps)(hx:x.length<=1000000)(hl:ps.length<=1000000):xB (.str x) [.str y]=some (.fl<|ps.map .str):=by
 have z:(Builtin.Str.partsBetween x (Builtin.Str.occurrences x y 0 x.length<|x.length+1) y.length).length<=sizeLine:=by rw[<-wo,e];exact ZE hl
 show(if _ then some _ else none)=_;rw[if_pos ⟨hy,ZE hx,z⟩,e]
noncomputable abbrev sb:Str:=" "
noncomputable abbrev sc:Str:=", "
noncomputable abbrev sn:Str:="\n"
def Vf:sb.cps.toList=32::[]:=⋯
def pW:sc.cps.toList=44::[32]:=⋯
def jy:sn.cps.toList=10::[]:=⋯
def Wl:(sb.length==0)=false:=⋯
def nX:(sc.length==0)=false:=⋯
def rh:(sn.length==0)=false:=⋯
def QZ:sb.length=1:=⋯
def uD:sc.length=2:=⋯
def CD:sn.length=1:=⋯
def rT(r:List Int):Str:=Str.join sb<|r.map tx
def tT(T:TZ):Str:=Str.join sc<|T.map rT
def Vs(r:List Int):Prop:=r.length<=8/\∀v ∈ r,0<=v/\v<10 ^ 60
def Ts(T:TZ):Prop:=T.length<=8/\∀r ∈ T,Vs r
def Ox(h:Vs r):(rT r).length<=500:=by
 have:=vG sb (ps:=r.map tx) λp m=>by obtain⟨v,mv,rfl⟩:=zxB.mp m;exact wI (h.2 v mv).1 (h.2 v mv).2
 rw[zzB,QZ]at this;have:=h.1;unfold rT;omega
def Cr(h:Ts T):(tT T).length<=5000:=by
 have:=vG sc (ps:=T.map rT) λp m=>by obtain⟨v,mv,rfl⟩:=zxB.mp m;exact Ox<|h.2 v mv
 rw[zzB,uD]at this;have:=h.1;unfold tT;omega
def LV{fi:EF}{r}(hr:Vs r)(h:WE fi as (zx r)):WE (zC (x6 fi) [none] yb z_<|fP yy X5) as (.lst<|r.map λv=>D.str<|tx v):=
 Dy h (by have:=hr.1;omega) λv m=>⟨_,rfl,(Ae (ve rfl) (hr.2 v m).1 (hr.2 v m).2).e⟩
def ID{fi:EF}{r}(hr:Vs r)(h:WE fi as (zx r)):WD (z7 .str (fC<|.str " ") (aC (zC (x6 fi) [none] yb z_<|fP yy X5) aN) wL) as true (.str<|rT r):=
 joinM (LV hr h) (λv m=>wI (hr.2 v m).1 (hr.2 v m).2) (by have:=hr.1;rw[QZ];omega)
def LJ{T:TZ}(hT:Ts T):xS [(true,.lst<|T.map zx)]=sT (.str<|tT T):=
 zG rfl (zN<|joinM (Dy (ve rfl) (by have:=hT.1;omega) λr m=>⟨_,rfl,(ID (hT.2 r m)<|ve rfl).e⟩) (λr m=>Ox<|hT.2 r m)<|by have:=hT.1;rw[uD];omega)
def G4{c:Nat}:Sb (.str ⟨#[c]⟩) (.str y)=some (decide (c ∈ y.cps.toList)):=by
 show some _=_
 rcases StrLaws.occ_head y _ 1 (by decide)with⟨e,hn⟩|⟨i,r,e,hA,_⟩
 . rw[e,zyF]
   . rfl
   intro m;obtain⟨pre,V',h⟩:=List.append_of_mem m;exact hn _ (QC (pre:=pre) (V':=V')<|by rw[h];simp)
 . rw[e,zyN<|zzZ<|Gf rfl hA];rfl
noncomputable def Yv(c:Nat):Bool:=decide (48<=c)&&decide (c<=57)
def CQ(c:Nat):decide (c ∈ ("0123456789":Str).cps.toList)=Yv c:=by
 rw[show("0123456789":Str).cps.toList=[48,49,50,51,52,53,54,55,56,57] by decide +kernel];unfold Yv;rw[<-Bool.decide_and];refine decide_eq_decide.mpr ?_;simp;omega
def De:xo yb z_ (f2 zo (fC<|.str y)<|zj .In) [none] (xt x)=some ((x.cps.toList.map λc=>D.bl<|decide (c ∈ y.cps.toList)).map<|O.lf true):=by
 unfold xt;generalize x.cps.toList=l
 induction l with
 |nil=>rfl
 |cons c r ih=>exact Z6 rfl (z0 ⋯ za (by rw[VO,G4];rfl) rfl) ih
theorem Pk{α:Type}(p):∀l:List α,Yx (l.map λc=>D.bl<|p c)=some (l.map p)
 | []=>rfl
 |_::r=>by show(Yx _).bind _=_;rw[Pk p r];rfl
def allB{α:Type}(p)(l:List α):Lg [.lst<|l.map λc=>D.bl<|p c]=some (.im<|.bl<|l.all p):=by
 show(Yx _).bind _=_;rw[Pk];show some _=_;rw[List.all_map];rfl
def CJ(ha:WD fa as s (.str x))(hl:x.length<=1000000):WD (fP (aC (zC (RF fa) [none] yb z_<|f2 zo (fC<|.str y)<|zj .In) aN) Lg) as true (.bl<|x.cps.toList.all λc=>decide (c ∈ y.cps.toList)):=
 xr ⟨_,xg (L5 ha) (by unfold xt;rw[zzB];exact ZE hl) De,v8 _,congrArg D.lst<|Zs _⟩ (allB _ _)
def WN(ha:WD fa as s (.str x))(hl:x.length<=1000000):WD (fP (aC fa aN) z8) as true (.int x.length):=wO (zk ha zq) (if_pos<|ZE hl) rfl
def Q3{c:Nat}(hl:x.length<=1000000)(e:x.cps.toList=c::r):zU (.str x) (.int 0)=some (.im<|.str ⟨#[c]⟩):=by
 show(if x.length<=sizeLine then(Gr x.cps.toList 0).bind _ else none)=_;rw[if_pos<|ZE hl,show 0=((0:Nat):Int)from rfl,Yu<|by rw[e];rfl];rfl
def KR{c d:Nat}:((⟨#[c]⟩:Str)==⟨#[d]⟩)=decide (c=d):=by
 by_cases h:c=d
 . subst h;simp
 . rw[zyF h];exact str_beq λe=>h (by
    have:=congrArg (λq:Str=>q.cps.toList) e;simpa using this)
def SU:("0":Str)=⟨#[48]⟩:=⋯
def ZY(w:Str):Bool:=!(w==("":Str))&&decide (w.length<=60) && !((w.cps.toList.head? == some 48) && !(w==("0":Str)))&&w.cps.toList.all Yv
def Q8(hl:w.length<=1000000):xT [(s,.str w),(u,.int 60)]=sT (.bl<|ZY w):=by
 cases h0:(w==("":Str))with
 |true=>
  have e:ZY w=false:=by unfold ZY;rw[h0];rfl
  rw[e];exact zG rfl (z9<|yp (zE (k:=true) (zg (yk (c:=true) (zb rfl) za<|congrArg some h0) rfl) (λh=>nomatch h) λ_=>rfl)<|zN za)
 |false=>
  cases h1:decide (w.length<=60)with
  |false=>
   have e:ZY w=false:=by unfold ZY;rw[h0,h1];rfl
   rw[e];refine zG rfl<|z9<|yp (zE (k:=false) (zg (yk (c:=false) (zb rfl) za<|congrArg some h0) rfl) (λ_=>zg (x4 (WN (zb rfl) hl)<|zb rfl) ?_) (λh=>nomatch h))<|zN za;have:=of_decide_eq_false h1;exact congrArg some (zyN<|by omega)
  |true=>
   have h1':=of_decide_eq_true h1;cases ec:w.cps.toList with
   |nil=>exact absurd h0 (by rw[show w=("":Str)from yQ ec];decide)
   |cons c r=>
   have hz:((⟨#[c]⟩:Str)==("0":Str))=(w.cps.toList.head? == some 48):=by rw[SU,KR,ec];by_cases h:c=48<;>simp[h]
   refine zG rfl<|zd (zr (zE (k:=false) (zg (yk (c:=false) (zb rfl) za<|congrArg some h0) rfl) (λ_=>zg (x4 (WN (zb rfl) hl)<|zb rfl)<|congrArg some<|zyF<|by omega) (λh=>nomatch h)) rfl) ?_;cases hb:((w.cps.toList.head? == some 48) && !(w==("0":Str)))with
   |true=>
    have e:ZY w=false:=by unfold ZY;rw[h0,h1,hb];rfl
    rw[e];rw[zyB]at hb;have b2:(w==("0":Str))=false:=by simpa using hb.2
    exact z9 (yp (YX (k:=true) (zg (yk (c:=true) (z0 (zb rfl) za (Q3 hl ec) rfl) za<|congrArg some<|hz.trans hb.1) rfl) (λ_=>zg (Ym (c:=false) (zb rfl) za<|congrArg some b2) rfl) (λh=>nomatch h))<|zN za)
   |false=>
    have e:ZY w=w.cps.toList.all Yv:=by unfold ZY;rw[h0,h1,hb];rfl
    rw[e];refine zd (zr (YX (l:=false) (zg (yk (z0 (zb rfl) za (Q3 hl ec) rfl) za<|congrArg some hz) rfl) (λhk=>zg (Ym (zb rfl) za rfl) ?_) λ_=>rfl) rfl) ?_
    . rw[hk,Bool.true_and]at hb;rw[hb];rfl
    . have:=CJ (as:=ya 2 [(s,.str w),(u,.int 60)]) (fa:=fV 0) (x:=w) (y:=("0123456789":Str)) (zb rfl) hl;simp only[CQ]at this;exact zN this
theorem Fi:∀n l,l.length=n->l≠[]->(∀c ∈ l,Yv c=true)->(l.head? ≠ some 48\/l=[48])->∃m,(Nat.toDigits 10 m).map Char.toNat=l
 |0,l,h,hn,_,_=>absurd (List.length_eq_zero_iff.mp h) hn
 |n+1,l,h,hn,hd,hz=>by
  rcases List.eq_nil_or_concat l with e|⟨u,c,e⟩
  . exact absurd e hn
  subst e;have hc:=hd c ⋯;unfold Yv at hc;simp at hc;have vj:c-48<10:=⋯;have hv:=V_ _ vj;rw[show 48+_=c by omega]at hv;cases u with
  |nil=>exact⟨c-48,by rw[Nat.toDigits_of_lt_base vj];simp[hv]⟩
  |cons d r=>
   have hh:(d::r).head? ≠ some 48:=by
    rcases hz with hz|hz
    . simpa using hz
    . simp at hz
   obtain⟨m,hm⟩:=Fi n _ (by simpa using h) ⋯ (λx mx=>hd x (by simp at mx ⊢;rcases mx with mx|mx<;>simp[mx])) (.inl hh);have hp:0<m:=by
    rcases Nat.eq_zero_or_pos m with z|z
    . subst z;have:d=48:=by have:=congrArg List.head? hm;simpa using this.symm
      exact absurd (by rw[this];rfl) hh
    . exact z
   refine⟨10*m+(c-48), ?_⟩;rw[<-Nat.toDigits_append_toDigits (by decide) hp vj,zyL,hm,Nat.toDigits_of_lt_base vj];simp[hv]
def Eh(m:Nat):(tx (m:Int)).cps.toList=(Nat.toDigits 10 m).map Char.toNat:=PySem.W.KIN.signs_num m
def Ff(h:ZY w=true):∃v,0<=v/\v<10 ^ 60/\w=tx v:=by
 unfold ZY at h;simp only[zyB,decide_eq_true_eq]at h;obtain⟨⟨⟨h0,h1⟩,h2⟩,h3⟩:=h;have hn:w.cps.toList≠[]:=λe=>by rw[show w="" from yQ e]at h0;exact absurd h0 ⋯
 have hz:w.cps.toList.head? ≠ some 48\/w.cps.toList=[48]:=by
  by_cases e:w.cps.toList.head? = some 48
  . rw[e]at h2;have:(w=="0")=true:=by simpa using h2
    rw[eq_of_beq this];exact .inr ⋯
  . exact .inl e
 obtain⟨m,hm⟩:=Fi _ w.cps.toList rfl hn (List.all_eq_true.mp h3) hz;refine⟨m,Int.natCast_nonneg m, ?_,(yQ<|by rw[Eh];exact hm.symm)⟩;have hl:(Nat.toDigits 10 m).length<=60:=by rwa [<-zzB,hm]
 have:=(Nat.length_toDigits_le_iff (by decide)<|by decide).mp hl;omega
def MX(h0:0<=v)(h1:v<10 ^ 60):ZY (tx v)=true:=by
 have a:=Mf (s:=true) (u:=true) h0 h1;rw[Q8<|by have:=wI h0 h1;omega]at a;simpa using a
def sF(h0:0<=v)(h1:v<10 ^ 60)(k0:0<=u)(k1:u<10 ^ 60)(e:tx v=tx u):v=u:=by
 have a:=Xa h0 h1;rw[e,Xa k0 k1]at a;exact(zzY a).symm
open Classical in
noncomputable def nv(w:Str):Option Int:=if h:∃v,0<=v/\v<10 ^ 60/\w=tx v then some h.choose else none
def E_(h0:0<=v)(h1:v<10 ^ 60):nv (tx v)=some v:=by
 have h:∃u,0<=u/\u<10 ^ 60/\tx v=tx u:=⟨v,h0,h1,rfl⟩;unfold nv;rw[dif_pos h];obtain⟨a,b,c⟩:=h.choose_spec;exact congrArg some (sF h0 h1 a b c).symm
def ZI(h:nv w=some v):0<=v/\v<10 ^ 60/\w=tx v:=by
 unfold nv at h
 split at h
 . rename_i h';cases h;exact h'.choose_spec
 . cases h
def Fu(h:nv w=none):ZY w=false:=by
 cases e:ZY w with
 |false=>rfl
 |true=>
  obtain⟨v,h0,h1,rfl⟩:=Ff e;rw[E_ h0 h1]at h;cases h
noncomputable def num(lo hi:Int)(w:Str):Option Int:=(nv w).bind λv=>if lo<=v/\v<=hi then some v else none
noncomputable def oD:Option Int->D
 |none=>.non
 |some v=>.int v
def C8(h0:0<=v)(h1:v<10 ^ 60):Xp [.str<|tx v]=some (.im<|.int v):=by
 show(if(tx v).length<=640 then(PySem.intText? _).bind _ else none)=_;rw[if_pos (by have:=wI h0 h1;omega),Xa h0 h1];rfl
def M6(ha:WD a as s (.int i))(hb:WD b as t (.int j))(hc:WD c as u (.int k)):WD (w9 a b c (zj .LtE)<|zj .LtE) as true (.bl<|decide (i<=j)&&decide (j<=k)):=by
 unfold WD at *
 by_cases h:i<=j
 . unfold w9;rw[ha];simp;rw[hb];simp only[RV.frz,O.frz,RV.view,O.toD,O.str,zyK,zj,TX,Iq,LI,h,hc];rfl
 . unfold w9;rw[ha];simp;rw[hb];simp only[RV.frz,O.frz,RV.view,O.toD,O.str,zyK,zj,TX,Iq,LI,FM,h,decide_false,Bool.false_and]
def Vb{lo hi}(hl:w.length<=1000000):yF [(true,.str w),(true,.int lo),(true,.int hi)]=sT (oD<|num lo hi w):=by
 cases e:nv w with
 |none=>
  have h:num lo hi w=none:=by unfold num;rw[e];rfl
  rw[h];exact zG rfl (z9<|yp (vF<|zg (yt (ve rfl) ce<|Q8 hl)<|congrArg some<|Fu e)<|zN za)
 |some v=>
  obtain⟨h0,h1,rfl⟩:=ZI e;have fin:∀q,_=q->yF [(true,.str<|tx v),(true,.int lo),(true,.int hi)]=sT (if q=true then .int v else .non):=λq hq=>
   zG rfl (zd (zr (vF<|zg (yt (ve rfl) ce<|Q8 hl)<|congrArg some<|MX h0 h1) rfl)<|zd (zw (xr (ve rfl)<|C8 h0 h1)<|zh rfl)<|zN (by
    cases q with
    |true=>exact Tw (zg (M6 (zb rfl) (zb rfl)<|zb rfl)<|congrArg some hq) (zb rfl)
    |false=>exact Mm (zg (M6 (zb rfl) (zb rfl)<|zb rfl)<|congrArg some hq) za))
  rw[fin _ rfl];unfold num;rw[e,zyK]
  by_cases h:lo<=v/\v<=hi
  . rw[if_pos h,if_pos<|by simp[h]];rfl
  . rw[if_neg h,if_neg<|by simpa using h];rfl
def GE(h0:0<=v)(h1:v<10):tx v=⟨#[48+v.toNat]⟩:=by
 obtain⟨m,rfl⟩:=Int.eq_ofNat_of_zero_le h0;refine yQ ?_;rw[Eh,Nat.toDigits_of_lt_base ⋯];show[(Nat.digitChar m).toNat]=_;rw[V_ m ⋯];rfl
def Kk(d e):zj .NotIn d e=(Sb d e).bind λb=>some (FM !b):=rfl
def Uo{c:Nat}(h:Yv c=q):zj .NotIn (.str ⟨#[c]⟩) (.str "0123456789")=some (.im<|.bl<|!q):=by
 rw[Kk,G4,CQ,h];rfl
def YY(hm:m<=8)(hl:w.length<=1000000):yP [(true,.str w),(true,.int m)]=sT (.int<|(num 0 m w).getD (-1)):=by
 by_cases h1:∃c,w.cps.toList=[c]
 . obtain⟨c,ec⟩:=h1;have ew:w=⟨#[c]⟩:=yQ ec;subst ew;have wl:WT (fT<|f2 (fP yy z8) zD<|zj .NotEq) (ya 2 [(true,.str ⟨#[c]⟩),(true,.int m)]) false:=zg (wm (q:=true) (WN (zb rfl) hl).e ce rfl) rfl;cases hd:Yv c with
   |false=>
    have e:nv (⟨#[c]⟩:Str)=none:=by
     cases e:nv (⟨#[c]⟩:Str)with
     |none=>rfl
     |some v=>
      obtain⟨a0,a1,a2⟩:=ZI e;have:=Yj a0 c (by rw[<-a2];exact zzR.mpr rfl);unfold Yv at hd;simp[this.1,this.2]at hd
    rw[show num 0 m ⟨#[c]⟩=none by unfold num;rw[e];rfl];exact zG rfl (z9<|yp (zE (k:=false) wl (λ_=>zE (k:=true) (zg (Zu (z:=.bl true) (ve rfl) ce<|Uo hd) rfl) (λh=>nomatch h) λ_=>rfl) (λh=>nomatch h))<|zN<|U9 za)
   |true=>
    have hd':=hd;unfold Yv at hd';simp only[zyB,decide_eq_true_eq]at hd';have ev:(⟨#[c]⟩:Str)=tx ((c-48:Nat):Int):=by rw[GE (by omega)<|by omega];exact congrArg (λx=>(⟨#[x]⟩:Str)) (by omega)
    have b0:(0:Int)<=((c-48:Nat):Int):=Int.natCast_nonneg _;have b1:((c-48:Nat):Int)<10 ^ 60:=by omega
    have wn:WT CK (ya 2 [(true,.str ⟨#[c]⟩),(true,.int m)]) false:=zg (Zu (z:=.bl false) (ve rfl) ce<|Uo hd) rfl;have wi:WD (fP yy Xp) (ya 2 [(true,.str ⟨#[c]⟩),(true,.int m)]) true (.int ((c-48:Nat):Int)):=xr (ve rfl) (by rw[ev];exact C8 b0 b1);have en:num 0 m ⟨#[c]⟩=if((c-48:Nat):Int)<=m then some ((c-48:Nat):Int)else none:=by
     unfold num;rw[ev,E_ b0 b1,zyK];simp only[b0,true_and]
    rw[en]
    by_cases hc:((c-48:Nat):Int)<=m
    . rw[if_pos hc];exact zG rfl<|zd (zr (zE (k:=false) wl (λ_=>zE (k:=false) wn (λ_=>zg (x4 wi<|zb (i:=1) rfl)<|congrArg some<|zyF<|by omega) (λh=>nomatch h)) (λh=>nomatch h)) rfl)<|zN wi
    . rw[if_neg hc];exact zG rfl<|z9<|yp (zE (k:=false) wl (λ_=>zE (k:=false) wn (λ_=>zg (x4 wi<|zb (i:=1) rfl)<|congrArg some<|zyN<|by omega) (λh=>nomatch h)) (λh=>nomatch h))<|zN<|U9 za
 . have e:num 0 m w=none:=by
    unfold num;cases e:nv w with
    |none=>rfl
    |some v=>
     obtain⟨a0,a1,rfl⟩:=ZI e;rw[zyK];exact if_neg λh=>h1 ⟨48+v.toNat,by rw[GE a0<|by omega]⟩
   rw[e];have hn:((w.length:Int)==1)=false:=by
    refine beq_eq_false_iff_ne.mpr λz=>h1 ?_;have z:w.cps.toList.length=1:=by rw[<-len_eq];omega
    exact List.length_eq_one_iff.mp z
   exact zG rfl<|z9<|yp (zE (k:=true) (zg (wm (q:=false) (WN (zb rfl) hl).e ce<|congrArg some hn) rfl) (λh=>nomatch h) λ_=>rfl)<|zN<|U9 za
def UR(ha:WD a as true y)(ht:QX ty y=true)(hb:WE b as x)(hg:g y [x]=some (.im z)):WD (z7 ty a (aC b aN) g) as true z:=by
 have hr:=yX hb zq;unfold WD z7;rw[ha];show(if QX ty y=true then _ else _:Option _)=_;rw[if_pos ht,hr];show((g y [x]).bind _)=_;rw[hg];show(if(zB z||true)=true then some _ else none:Option RV).bind _=_;rw[if_pos ⋯];show some (RV.ow<|.lf (zB z||true) z,as)=_;rw[zyC]
def UB(h:WT c as false)(hb:WE b as x):WE (PR c a b) as x:=by
 obtain⟨o,e1,e2,e3⟩:=hb;exact⟨o,by unfold PR;rw[h];exact e1,e2,e3⟩
def WI(h:WT c as true)(ha:WE a as x):WE (PR c a b) as x:=by
 obtain⟨o,e1,e2,e3⟩:=ha;exact⟨o,by unfold PR;rw[h];exact e1,e2,e3⟩
def RS(r:Option Out)(x:D):Prop:=∃o,r=some (.rt o)/\o.str=true/\o.toD=x
def RS.seq(h1:f as=some (.nx U'))(h2:RS (g U') x):RS (ze f g as) x:=by
 obtain⟨o,e1,e2⟩:=h2;exact⟨o,zd h1 e1,e2⟩
def RS.seqR(h1:RS (f as) x):RS (ze f g as) x:=by
 obtain⟨o,e1,e2⟩:=h1;exact⟨o,z9 e1,e2⟩
def RS.ifT(h:WT c as true)(h1:RS (f as) x):RS (yN c f g as) x:=by
 obtain⟨o,e1,e2⟩:=h1;exact⟨o,yp h e1,e2⟩
def RS.ret(h:WE a as x):RS (zt a as) x:=by
 obtain⟨o,e1,e2,e3⟩:=h;exact⟨o,Vy e1 e2,e2,e3⟩
def RS.fn{n m:Nat}(hl:ds.length=m)(h:RS (c<|ya n ds) x):RE (wj n m c ds) x:=by
 obtain⟨o,e1,e2⟩:=h;exact⟨o,zG hl e1,e2⟩
def mB{α:Type}{l:List α}{e}{p}(h:WE fi as (.lst<|l.map e))(hl:l.length<=200000)(H:∀v ∈ l,WT tt ((sT<|e v)::(ZF cap as).tail)<|p v)(hc:(ZF cap as).length=cap.length)(h0:0<cap.length):
 WE (zC (x6 fi) cap yb tt zo) as (.lst<|(l.filter p).map e):=by
 have hs:∀v,gN 0 (true,e v) (ZF cap as)=some ((sT<|e v)::(ZF cap as).tail):=λv=>by
  cases k:ZF cap as with
  |nil=>rw[k]at hc;simp at hc;omega
  |cons q r=>rfl
 exact MF (it:=λv=>(true,e v)) (by rw[DZ h,zyA];rfl) hl λv m=>⟨_,hs v,H v m,λ_=>ve rfl⟩
def X2(h:WE f as (.lst ds)):WD (fP (aC f aN) z8) as true (.int ds.length):=xr h rfl
abbrev J(ws:List Str):Str:=Str.join sb ws
theorem words:∀n X,X.cps.toList.length<=n->∃ws,ws≠[]/\(∀w ∈ ws,NB w)/\X=J ws
 |n,X,hn=>by
  by_cases h:32 ∈ X.cps.toList
  . obtain⟨a,r,e,ha⟩:=List.eq_append_cons_of_mem h;cases n with
    |zero=>rw[e]at hn;simp at hn
    |succ n=>
     obtain⟨ws,h1,h2,h3⟩:=words n ⟨r.toArray⟩ (by rw[e]at hn;simp at hn ⊢;omega);cases ws with
     |nil=>exact absurd rfl h1
     |cons w ws=>
      refine⟨⟨a.toArray⟩::w::ws,⋯,λv m=>?_,yQ ?_⟩
      . rcases zzC.mp m with rfl|m
        . simpa[NB]using ha
        . exact h2 v m
      . rw[Zp];show _=_++(J _).cps.toList;rw[<-h3,e,Vf];simp
  . exact⟨[X],⋯,λw m=>by rw[zzR.mp m];exact h,rfl⟩
def sp(X):Txt.split X sb≠[]/\(∀w ∈ Txt.split X sb,NB w)/\X=J (Txt.split X sb):=by
 obtain⟨ws,h1,h2,h3⟩:=words _ X<|zzN _;have e:Txt.split X sb=ws:=by rw[h3];exact Qi Vf h1 h2
 rw[e];exact⟨h1,h2,h3⟩
def Zx(h1:ws≠[])(h2:∀w ∈ ws,NB w):Txt.split (J ws) sb=ws:=Qi Vf h1 h2
def split_len(x y):(Txt.split x y).length<=x.length+2:=by
 rw[wo];unfold Builtin.Str.partsBetween;have:=StrLaws.occ_length_le x y 0 x.length<|x.length+1;simp;omega
def yd(h:p ∈ Txt.split x y):p.length<=x.length:=by
 rw[wo]at h;obtain⟨_,_,rfl⟩:=zxB.mp h;rw[len_eq,len_eq,StrLaws.strSub_toList,zzS,List.length_drop];omega
def Ux(hy:(y.length==0)=false)(hx:x.length<=100000):xB (.str x) [.str y]=some (.fl<|(Txt.split x y).map .str):=FP hy rfl ⋯ (by have:=split_len x y;omega)
def we(hd:WD a as true (.str x))(hy:(y.length==0)=false)(hx:x.length<=100000):WE (z7 .str a (aC (fC<|.str y) aN) xB) as (.lst<|(Txt.split x y).map .str):=Hy hd rfl ce<|Ux hy hx
noncomputable def Vv{α β:Type}(f:α->Option β):List α->Option (List β)
 | []=>some []
 |x::r=>(f x).bind λy=>(Vv f r).map (y :: ·)
theorem Zg{α β:Type}{f:α->Option β}:∀{l:List α},Vv f l=none->∃x ∈ l,f x=none
 | [],h=>nomatch h
 |x::r,h=>by
  unfold Vv at h;cases e:f x with
  |none=>exact⟨x,⋯,e⟩
  |some y=>
   rw[e]at h;cases e2:Vv f r with
   |none=>
    obtain⟨z,m,hz⟩:=Zg e2;exact⟨z,zzD _ m,hz⟩
   |some ys=>rw[e2]at h;cases h
theorem wx{α β:Type}{f}:∀{l:List α}{ys:List β},Vv f l=some ys->l.map f=ys.map some
 | [],ys,h=>by cases h;rfl
 |x::r,ys,h=>by
  unfold Vv at h;cases e:f x with
  |none=>rw[e]at h;cases h
  |some y=>
   rw[e]at h;cases e2:Vv f r with
   |none=>rw[e2]at h;cases h
   |some zs=>
    rw[e2]at h;cases h;rw[zyR,e,wx e2];rfl
theorem Gv{α β:Type}{f}:∀{l:List α}{ys:List β},l.map f=ys.map some->Vv f l=some ys
 | [],[],_=>rfl
 |x::r,y::ys,h=>by
  obtain⟨a,b⟩:=List.cons.inj h;show(f x).bind _=_;rw[a,Gv b];rfl
 | [],_::_,h=>nomatch h
 |_::_,[],h=>nomatch h
def V2{α β γ:Type}{f}{l:List α}{ys:List β}(h:l.map f=ys.map some)(g:Option β->γ):l.map (λx=>g<|f x)=ys.map λy=>g (some y):=by
 have:=congrArg (List.map g) h
 rwa [zyA,zyA]at this
noncomputable def vW(n:Int)(ws:List Str):Option (List Int):=Vv (num 0<|n-1) ws
def oR:Option (List Int)->D
 |none=>.non
 |some r=>zx r
def Ws{lo hi v}(h:num lo hi w=some v):lo<=v/\v<=hi:=by
 obtain⟨u,_,h⟩:=bS_ h;obtain⟨a,b⟩:=zv h;cases b;exact a
def In(n:Int)(r:List Int):Prop:=∀v ∈ r,0<=v/\v<n
def Vu{n}(h:vW n ws=some r):In n r/\r.length=ws.length:=by
 have e:=wx h;refine⟨λv m=>?_,by have:=congrArg List.length e;simpa using this.symm⟩;have:some v ∈ ws.map (num 0<|n-1):=by rw[e];exact List.mem_map_of_mem m
 obtain⟨w,_,hw⟩:=zxB.mp this;have:=Ws hw;omega
theorem KB(f:Str->Option Int):∀l:List Str,anyF (λy=>wb 50 y .non) (l.map λw=>oD<|f w)=some (l.any λw=>(f w).isNone)
 | []=>rfl
 |w::r=>by
  show(wb 50 (oD _) .non).bind _=_;rw[KB f r,List.any_cons];cases f w<;>rfl
def Kv{n:Int}{ws}(hl:ws.length<=200000)(hw:∀w ∈ ws,w.length<=100000):RE (Zr [(true,.lst<|ws.map .str),(true,.int n)]) (oR<|vW n ws):=by
 have hc:WE (zC (x6 zo) [none,some 1] _ z_<|zf (aC zo<|aC z6<|aC (f2 zA zD _) aN) yF) (ya 3 [(true,.lst<|ws.map .str),(true,.int n)]) _:=
  QJ ⋯ hl λw m=>⟨_,rfl,(VZ (ve rfl) ce (Y5 ⋯ za).e<|Vb<|by have:=hw w m;omega).e⟩
 have ht:∀q,(ws.any λw=>(num 0 (n-1) w).isNone)=q->WT (fT<|f2 _ zH<|zj .In) [sT<|.lst<|ws.map .str,sT<|.int n,sT<|.lst<|ws.map λw=>oD _] q:=λq hq=>
  zg (Zu ce ⋯ (by show(anyF _ _).bind _=_;rw[KB,hq];rfl)) rfl
 refine RS.fn rfl<|.seq (yZ hc<|zh rfl)<|.ret ?_;cases e:vW n ws with
 |none=>
  obtain⟨w,m,hn⟩:=Zg e;exact WI (ht true<|List.any_eq_true.mpr ⟨w,m,by rw[hn];rfl⟩) ce
 |some r=>
  have e2:=wx e;refine UB (ht false<|List.any_eq_false.mpr λw m=>?_) ?_
  . have:num 0 (n-1) w ∈ r.map some:=by rw[<-e2];exact List.mem_map_of_mem m
    obtain⟨v,_,hv⟩:=zxB.mp this;rw[<-hv];simp
  . have:=V2 e2 oD;rw[this];exact ve rfl
def FT:zj .IsNot .non .non=some (.im<|.bl false):=rfl
def F5(ds):zj .IsNot (.lst ds) .non=some (.im<|.bl true):=rfl
noncomputable def pq(n:Int)(p:Str):Option (List Int):=(vW n<|Txt.split p sb).bind λr=>if(r.length:Int)=n then some r else none
noncomputable def wY(k n:Int)(X:Str):Option (TZ):=(Vv (pq n)<|Txt.split X sc).bind λT=>if(T.length:Int)=k then some T else none
def oT:Option (TZ)->D
 |none=>.non
 |some T=>.lst<|T.map zx
def Pg{k n:Int}{X}(hX:X.length<=100000):RE (ZQ [(true,.str X),(true,.int k),(true,.int n)]) (oT<|wY k n X):=by
 have C':∀p ∈ Txt.split X sc,p.length<=100000:=λp m=>zzO (yd m) hX;have l8:(Txt.split X sc).length<=200000:=by have:=split_len X sc;omega
 have hs:WE (zC (x6<|z7 .str zo _ xB) [none,some 2] yb z_<|zf (aC (z7 .str zo _ xB) Zb) Zr) (ya 4 [(true,.str X),(true,.int k),(true,.int n)]) _:=
  QJ (we (zb rfl) nX hX) l8 λp m=>⟨_,rfl,vE (we (zb rfl) Wl<|C' p m) (ve rfl)<|Kv (by have:=split_len p sb;have:=C' p m;omega) λw mw=>zzO (yd mw)<|C' p m⟩
 refine RS.fn rfl<|.seq (yZ hs<|zh rfl) ?_;let A:AS:=[sT<|.str X,sT<|.int k,sT<|.int n,sT<|.lst<|(Txt.split X sc).map λp=>oR<|vW n<|Txt.split p sb];show RS (ze _ _ A) _;have hlen:WD (f2 (fP xX z8) zA<|zj .NotEq) A true (.bl<|!(((Txt.split X sc).length:Int)==k)):=by
  have:=wm (as:=A) (X2 (f:=fV 3)<|ve rfl).e (ve (i:=1) rfl) (by show some _=_;rw[zzB]);exact this
 have hall:WD nI A true (.bl<|(Txt.split X sc).all λp=>(pq n p).isSome):=by
  refine xr (QJ (ve rfl) l8 λp m=>⟨_,rfl, ?_⟩)<|allB _ _;unfold pq;cases e:vW n _ with
  |none=>exact(Y4 (Zu (ve rfl) ce FT) ⋯ (λ_=>rfl)).e
  |some r=>
   have hb:WD ma [sT<|oR<|some r,sT<|.int n] true _:=
    Y4 (Zu (ve rfl) ce<|F5 _) (λ_=>xU (X2<|ve rfl).e (ve rfl) (by show some _=_;rw[zzB])) ⋯
   rw[zyK]
   by_cases h:r.length=n
   . rw[if_pos h];rw[show(_==n)=true by simpa using h]at hb;exact hb.e
   . rw[if_neg h];rw[show(_==n)=false by simpa using h]at hb;exact hb.e
 have hif:∀q,(!_ || !((Txt.split X sc).all λp=>(pq n p).isSome))=q->WT _ A q:=λq hq=>
  zE (zg hlen rfl) (λh=>by
   rw[h,Bool.false_or]at hq;have:=vF<|zg hall rfl
   rwa [hq]at this) (λh=>by rw[h]at hq;exact hq.symm)
 cases e:Vv (pq n) _ with
 |none=>
  obtain⟨p,m,hp⟩:=Zg e;rw[show wY k n X=none by unfold wY;rw[e];rfl];refine .seqR<|.ifT (hif true ?_)<|.ret ce;rw[show _=false from List.all_eq_false.mpr ⟨p,m,by rw[hp];simp⟩];simp
 |some T=>
  have e2:=wx e;have hl:T.length=(Txt.split X sc).length:=by have:=congrArg List.length e2;simpa using this.symm
  have ha:((Txt.split X sc).all λp=>(pq n p).isSome)=true:=List.all_eq_true.mpr λp m=>by
   have:pq n p ∈ T.map some:=by rw[<-e2];exact List.mem_map_of_mem m
   obtain⟨v,_,hv⟩:=zxB.mp this;rw[<-hv];rfl
  unfold wY;rw[e,zyK,hl]
  by_cases h:((Txt.split X sc).length:Int)=k
  . rw[if_pos h];refine .seq (zr (hif false<|by rw[ha];simp[h]) rfl)<|.ret ?_;have e3:((Txt.split X sc).map λp=>oR<|vW n<|Txt.split p sb)=T.map zx:=by
     have e4:=V2 e2 oR;rw[show(T.map zx)=T.map λy=>oR (some y)from rfl,<-e4];refine List.map_congr_left λp m=>?_;have:pq n p ∈ T.map some:=by rw[<-e2];exact List.mem_map_of_mem m
     obtain⟨v,_,hv⟩:=zxB.mp this;rw[<-hv];obtain⟨r,h1,h2⟩:=bS_ hv.symm;obtain⟨_,h3⟩:=zv h2;cases h3;rw[h1]
    show WE zP A (.lst<|T.map zx);rw[<-e3];exact ve rfl
  . rw[if_neg h];exact .seqR<|.ifT (hif true<|by simp[h])<|.ret ce
def rP{k n:Nat}(h:n<=k):Builtin.Str.strSliceIndices l (some (k:Int)) 1 n=Builtin.Str.strSliceIndices l (some (n:Int)) 1 n:=by
 have a:¬((k:Int)<0):=⋯;have b:¬((n:Int)<0):=⋯;have c:min (k:Int) n=n:=⋯;simp[Builtin.Str.strSliceIndices,a,b,c]
def ue{k n:Nat}(h:n<=k):Builtin.Str.strSliceIndices (some (k:Int)) u 1 n=Builtin.Str.strSliceIndices (some (n:Int)) u 1 n:=by
 have a:¬((k:Int)<0):=⋯;have b:¬((n:Int)<0):=⋯;have c:min (k:Int) n=n:=⋯;simp[Builtin.Str.strSliceIndices,a,b,c]
def vC(x)(k:Nat):(Txt.slice x none<|some (k:Int)).cps.toList=x.cps.toList.take k:=by
 have key:∀j,j<=x.length->(Txt.slice x none _).cps.toList=x.cps.toList.take j:=λj h=>by
  show(StrLaws.sliceText x none<|some j).cps.toList=_;rw[StrLaws.sliceText_to ⟨⋯,by rw[<-len_eq];omega⟩];simp
 by_cases h:k<=x.length
 . exact key k h
 . have e:Txt.slice x none (some k)=Txt.slice x none (some x.length):=by unfold Txt.slice;rw[rP ⋯]
   rw[e,key _ ⋯,List.take_of_length_le (by rw[<-len_eq];omega),List.take_of_length_le<|by rw[<-len_eq];omega]
def Ul(x)(k:Nat):(Txt.slice x (some (k:Int)) none).cps.toList=x.cps.toList.drop k:=by
 have key:∀j,j<=x.length->(Txt.slice x _ none).cps.toList=x.cps.toList.drop j:=λj h=>by
  show(StrLaws.sliceText x (some j) none).cps.toList=_;rw[StrLaws.sliceText_from ⟨⋯,by rw[<-len_eq];omega⟩];rw[zyH,List.take_of_length_le ⋯]
 by_cases h:k<=x.length
 . exact key k h
 . have e:Txt.slice x (some k) none=Txt.slice x (some x.length) none:=by unfold Txt.slice;rw[ue ⋯]
   rw[e,key _ ⋯,List.drop_of_length_le (by rw[<-len_eq];omega),List.drop_of_length_le<|by rw[<-len_eq];omega]
def V1(a b)(r):(J (a::b::r)).cps.toList=a.cps.toList++32::(J (b::r)).cps.toList:=by rw[Zp,Vf];simp
def L9(hu:NB u){k:Nat}(hk:k=u.length+1)(h1:ws≠[])(h2:∀w ∈ ws,NB w)(h:Txt.slice (J ws) none (some (k:Int))=u++sb):∃r,r≠[]/\ws=u::r:=by
 have e:=congrArg (λq:Str=>q.cps.toList) h;simp only[vC,app_list,Vf]at e;cases ws with
 |nil=>exact absurd rfl h1
 |cons w r=>
  cases r with
  |nil=>
   have hw:=h2 w ⋯;exact absurd (List.mem_of_mem_take (show 32 ∈ w.cps.toList.take k by rw[show w.cps.toList.take k=_ from e];simp)) hw
  |cons b r=>
   have hw:=h2 w ⋯;have e2:(J (w::b::r)).cps.toList=u.cps.toList++32::(J (w::b::r)).cps.toList.drop k:=by
    have:=List.take_append_drop k (J (w::b::r)).cps.toList;rw[e]at this;exact(this.symm.trans ⋯).trans rfl
   rw[V1]at e2;obtain⟨e3,_⟩:=Ew hw hu e2;exact⟨b::r,⋯,by rw[yQ e3]⟩
def G1{k:Nat}(hk:k=u.length+1)(hr:r≠[]):Txt.slice (J (u::r)) none (some (k:Int))=u++sb/\Txt.slice (J (u::r)) (some (k:Int)) none=J r:=by
 cases r with
 |nil=>exact absurd rfl hr
 |cons b r=>
  have e:u.cps.toList++32::(J (b::r)).cps.toList=(u.cps.toList++[32])++(J (b::r)).cps.toList:=⋯;have hl:(u.cps.toList++[32]).length=k:=by rw[zzJ,hk];rfl
  refine⟨yQ ?_,yQ ?_⟩
  . rw[vC,V1,e,List.take_left' hl,app_list,Vf]
  . rw[Ul,V1,e,List.drop_left' hl]
def JX(h0:ws≠[]):decide (LA (ws.map λw=>(num 0 (n-1) w).getD (-1))<0)=(vW n ws).isNone:=by
 have vp:(ws.map λw=>(num 0 (n-1) w).getD (-1))≠[]:=by simpa using h0
 generalize hg:(ws.map λw=>(num 0 (n-1) w).getD (-1))=l at vp;cases l with
 |nil=>exact absurd rfl vp
 |cons x r=>
  obtain⟨m1,m2⟩:=XM r x;have e:LA (x::r)=r.foldl _ x:=rfl;rw[<-e]at m1 m2;cases k:vW n ws with
  |none=>
   obtain⟨w,m,hn⟩:=Zg k;have : -1 ∈ x::r:=by rw[<-hg];exact zxB.mpr ⟨w,m,by rw[hn];rfl⟩
   have:=m2 _ this;exact zyN ⋯
  |some vs=>
   have e2:=V2 (wx k) λo=>o.getD (-1);rw[hg]at e2;have e2:x::r=vs:=by rw[e2];simp
   rw[e2]at m1 m2;have:=(Vu k).1 _ m1;rw[e2];exact zyF ⋯
abbrev gE:SF:=(ze oo
 (ze pH
 (zt zS)))
def Tb(l):wb 60 (.lst l) (.lst [])=some l.isEmpty:=by cases l<;>rfl
theorem Xz:∀l,YQ (l.map D.int)=some l
 | []=>rfl
 |x::r=>by show(YQ _).bind _=_;rw[Xz r];rfl
def rE(hn:n<=9)(hX:X.length<=100000)(hY:Txt.slice X (some 5) none=Y):RS (gE [sT<|.str X,sT<|.int k,sT<|.int n,sT nm,none,e5,e6]) (oT<|wY k n Y):=by
 have hYl:Y.length<=100000:=by rw[<-hY];exact zzO (Txt.slice_le _ _ _) hX
 have C':∀p ∈ Txt.split Y sc,p.length<=100000:=λp m=>zzO (yd m) hYl;have l8:(Txt.split Y sc).length<=200000:=by have:=split_len Y sc;omega
 let F:Str->List Int:=λp=>(Txt.split p sb).map λw=>(num 0 (n-1) w).getD (-1);have hs:WE (zC oO [none,some 2] yb z_ _) [sT<|.str X,sT<|.int k,sT<|.int n,sT nm,none,e5,e6] _:=
  QJ (we (y:=sc) (Zf (lo:=some 5) (hi:=none) (x:=.str Y) (zb rfl) rfl rfl<|by rw[<-hY];exact if_pos<|ZE<|by omega) nX hYl) l8 λp m=>⟨_,rfl,by
   have:=QJ (as:=[sT<|.str p,sT<|.int n]) (cap:=[none,some 1]) (fe:=zf (aC zo<|aC (f2 zA zD vX) aN) yP) (we (a:=fV 0) (y:=sb) (zb rfl) Wl<|C' p m) (by have:=split_len p sb;have:=C' p m;omega) λw mw=>⟨_,rfl,(yt (ve rfl) (Y5 (zb rfl) za).e<|YY (by omega)<|by have:=yd mw;have:=C' p m;omega).e⟩;have e:(Txt.split p sb).map (λw=>D.int<|(num 0 (n-1) w).getD (-1))=(F p).map D.int:=by rw[zyA];rfl
   rwa [e]at this⟩
 refine .seq (yZ (p:=4) hs<|zh rfl) ?_;let A:AS:=[sT<|.str X,sT<|.int k,sT<|.int n,sT nm,sT<|.lst<|(Txt.split Y sc).map λp=>zx<|F p,e5,e6];show RS (ze _ _ A) _;have hlen:=
  wm (as:=A) (X2 (f:=fV 4)<|ve rfl).e (ve (i:=1) rfl) (⋯)
 have hfil:WE mV A (.lst<|((Txt.split Y sc).filter λp=>!(pq n p).isSome).map λp=>zx<|F p):=by
  refine mB (ve rfl) l8 (λp m=>?_) rfl (by decide);have hl:WD _ [sT<|zx<|F p,sT<|.int n] true (.bl<|!(((F p).length:Int)==n)):=wm (X2 (f:=fV 0)<|ve rfl).e (ve (i:=1) rfl) (by show some _=_;rw[zzB]);have vp:=(sp p).1;refine zE (zg hl rfl) (λh=>zg (xY (i:=LA<|F p) (xr (ve (i:=0) rfl) ?_)<|za (x:=.int 0)) ?_) λh=>?_
  . show(YQ<|(F p).map D.int).bind _=_;rw[Xz,zyK,if_pos];have:=List.length_pos_iff.mpr vp
    rwa [zzB]
  . rw[show decide (LA (F p)<0)=(vW n<|Txt.split p sb).isNone from JX vp];unfold pq;have D0:((F p).length:Int)=n:=by simpa using h
    cases e:vW n (Txt.split p sb)with
    |none=>rfl
    |some r=>
     have:=(Vu e).2;have:(r.length:Int)=n:=by rw[<-D0,this];rw[zzB]
     rw[zyK,if_pos this];rfl
  . have D0:¬((F p).length:Int)=n:=by simpa using h
    unfold pq;cases e:vW n (Txt.split p sb)with
    |none=>rfl
    |some r=>
     have:=(Vu e).2;have:¬(r.length:Int)=n:=λz=>D0 (by rw[<-z,this];rw[zzB]);rw[zyK,if_neg this];rfl
 have hif:∀q,(!_ || !((Txt.split Y sc).filter λp=>!(pq n p).isSome).isEmpty)=q->WT _ A q:=λq hq=>
  zE (zg hlen rfl) (λh=>by
   rw[h,Bool.false_or]at hq;refine zg (wm (q:=((Txt.split Y sc).filter λp=>!(pq n p).isSome).isEmpty) hfil (zZ zI (by decide) rfl rfl) (by show wb 60 (.lst _) (.lst [])=_;rw[Tb];simp))<|by rw[hq];rfl) (λh=>by rw[h]at hq;exact hq.symm)
 cases e:Vv (pq n) (Txt.split Y sc)with
 |none=>
  obtain⟨p,m,hp⟩:=Zg e;rw[show wY k n Y=none by unfold wY;rw[e];rfl];refine .seqR<|.ifT (hif true ?_)<|.ret ce;have:((Txt.split Y sc).filter λp=>!(pq n p).isSome).isEmpty=false:=by
   rw[List.isEmpty_eq_false_iff];exact List.ne_nil_of_mem<|List.mem_filter.mpr ⟨m,by rw[hp];rfl⟩
  rw[this];simp
 |some T=>
  have e2:=wx e;have hl:T.length=(Txt.split Y sc).length:=by have:=congrArg List.length e2;simpa using this.symm
  have hv:∀p ∈ Txt.split Y sc,∃r ∈ T,pq n p=some r:=λp m=>by
   have:pq n p ∈ T.map some:=by rw[<-e2];exact List.mem_map_of_mem m
   obtain⟨v,mv,hv⟩:=zxB.mp this;exact⟨v,mv,hv.symm⟩
  have ha:((Txt.split Y sc).filter λp=>!(pq n p).isSome).isEmpty=true:=by
   rw[List.isEmpty_iff,List.filter_eq_nil_iff];intro p m;obtain⟨r,_,hr⟩:=hv p m;rw[hr];simp
  unfold wY;rw[e,zyK,hl]
  by_cases h:((Txt.split Y sc).length:Int)=k
  . rw[if_pos h];refine .seq (zr (hif false<|by rw[ha];simp[h]) rfl)<|.ret ?_;have e3:((Txt.split Y sc).map λp=>zx<|F p)=T.map zx:=by
     have e4:=V2 e2 oR;rw[show(T.map zx)=T.map λy=>oR (some y)from rfl,<-e4];refine List.map_congr_left λp m=>?_;obtain⟨r,_,hr⟩:=hv p m;rw[hr];unfold pq at hr;obtain⟨r',h1,h2⟩:=bS_ hr;obtain⟨_,h3⟩:=zv h2;rw[h3]at h1;have:=V2 (wx h1) λo=>o.getD (-1);show zx (F p)=zx r;show D.lst (((Txt.split p sb).map λw=>(num 0 (n-1) w).getD (-1)).map D.int)=_;rw[this];simp
    show WE zS A (.lst<|T.map zx);rw[<-e3];exact ve rfl
  . rw[if_neg h];exact .seqR<|.ifT (hif true<|by simp[h])<|.ret ce
def ZD(h1:f as=some (.nx U'))(h2:g U'=none):ze f g as=none:=by unfold ze;rwa [h1]
def vK(h1:f as=none):ze f g as=none:=by unfold ze;rw[h1];rfl
def tO(h:WT c as true)(h1:f as=none):yN c f g as=none:=by unfold yN;rwa [h]
def Wo{st}{i:Nat}(h:a as=none):zm st i a as=none:=by unfold zm;rw[h];rfl
def qe(h:a as=none):zt a as=none:=by unfold zt;rw[h];rfl
def Pp{n m:Nat}(h:c (ya n ds)=none):wj n m c ds=none:=by unfold wj;rw[h];split<;>rfl
def GL(ha:fr as=some (rs,U'))(hv:xW U' rs=some xs)(hg:g xs=none):zf fr g as=none:=by
 unfold zf;rw[ha];show(xW U' rs).bind _=_;rw[hv];show(g xs).bind _=_;rw[hg];rfl
def vO(ha:WE a as x)(hb:WE b as y)(hg:g [(true,x),(true,y)]=none):zf (aC a<|aC b aN) g as=none:=GL (yX ha<|yX hb zq) ⋯ (by show g [(zB x||true,x),(zB y||true,y)]=_;rwa [zyC,zyC])
def Kl(h:a as=none):aC a fr as=none:=by unfold aC;rw[h];rfl
def Vd(h:fr as=none):zf fr g as=none:=by unfold zf;rw[h];rfl
def MA(ha:fr as=some (rs,U'))(hv:xW U' rs=some xs)(hg:g xs=some d):gC fr g as=some (d,U'):=by
 unfold gC;rw[ha];show(xW U' rs).bind _=_;rw[hv];show(g xs).bind _=_;rw[hg];rfl
def DI(ha:WE a as x)(hb:WE b as y)(hg:g [(true,x),(true,y)]=some d):gC (aC a<|aC b aN) g as=some (d,as):=
 MA (yX ha<|yX hb zq) ⋯ (by show g [(zB x||true,x),(zB y||true,y)]=_;rwa [zyC,zyC])
def uY(h:cb as=some o):P5 cb gb c as=some o:=by unfold P5;rw[h]
def uh(h:cb as=none)(hg:gb as=some (d,U')):P5 cb gb c as=c U':=by unfold P5;rw[h,hg];rfl
open Classical in
noncomputable def ar(w:Str):Nat:=if Ye w then 2 else if w="same" then 4 else 0
def Wk:zL [(s,.str w)]=sT (.int<|ar w):=by
 by_cases h:Ye w
 . rw[show ar w=2 by unfold ar;rw[if_pos h]];exact Es h
 . by_cases h2:w="same"
   . rw[show ar w=4 by unfold ar;rw[if_neg h,if_pos h2],h2];exact XJ
   . rw[show ar w=0 by unfold ar;rw[if_neg h,if_neg h2]];have n1:"add"≠w:=λe=>h<|.inl e.symm;have n2:"take"≠w:=λe=>h<|.inr<|.inl e.symm;have n3:"times"≠w:=λe=>h<|.inr<|.inr<|.inl e.symm;have n4:"most"≠w:=λe=>h<|.inr<|.inr<|.inr<|.inl e.symm;have n5:"least"≠w:=λe=>h<|.inr<|.inr<|.inr<|.inr e.symm;have n6:("same":Str)≠w:=λe=>h2 e.symm;refine zG rfl<|zN<|XF za rfl (zk (zb rfl)<|zk za zq) ?_ rfl;show some _=_;have e:X0 [(.inr "add",(.int 2)),(.inr "take",(.int 2)),(.inr "times",(.int 2)),(.inr "most",(.int 2)),(.inr "least",(.int 2)),(.inr "same",(.int 4))] (.inr w)=none:=by
      unfold X0;simp only[List.find?_cons,key_ne n1,key_ne n2,key_ne n3,key_ne n4,key_ne n5,key_ne n6,List.find?_nil,Option.map_none]
     rw[e];rfl
def ni(w):ar w<=4:=by unfold ar;split<;>(try split)<;>decide
def rO(h:¬isNm x):Yk [(s,.str x),(u,nm)]=sT (.bl false):=by
 have e:WD (f2 zo (fC<|.tup [_,_,_])<|zj .In) [some<|.lf s _,some<|.lf u nm] true _:=
  z0 ⋯ za (by
   rw[VO];show(anyF (λy=>wb 50 y<|.str x)<|(["a","b","c"]:List Str).map .str).bind _=_;rw[Zv];have:((["a","b","c"]:List Str).any (· == x))=false:=by
    rw[List.any_eq_false];intro y m e;have e:=eq_of_beq e;simp at m;exact h (by rwa [<-e])
   rw[this];rfl) rfl
 exact zG rfl<|zN<|Y4 ⋯ (λ_=>Y4 e ⋯ ⋯) ⋯
open Classical in
noncomputable def lu(nm:List Str)(w:Str):Bool:=decide (isNm w)&&nm.any (· == w)
def Ji:Yk [(s,.str x),(u,nl nm)]=sT (.bl<|lu nm x):=by
 unfold lu
 by_cases h:isNm x
 . simp only[h];exact C2 h
 . simp only[h];exact rO h
noncomputable def Nz(nm:List Str)(w:Str)(d:Int):Bool:=if 0<ar w then decide (d<12)else ZY w||lu nm w
def C0(hl:w.length<=1000000):Xd [(true,.str w),(true,.int d),(true,nl nm)]=sT (.bl<|Nz nm w d):=by
 unfold Nz
 by_cases h:0<ar w
 . rw[if_pos h];exact zG rfl<|z9<|yp (zg (x4 (yA (zk ⋯ zq) Wk) za)<|congrArg some<|zyN ⋯) ⋯
 . rw[if_neg h];refine zG rfl (zd (zr (zg (x4 (yA (zk (zb rfl) zq) Wk) za)<|congrArg some<|zyF ⋯) rfl)<|zN<|HE (yt (ve rfl) ce<|Q8 hl) (λe=>?_) λe=>by rw[e];rfl);rw[e];exact yt (ve rfl) (ve rfl) Ji
noncomputable def Im(nm:List Str):List Str->Nat->List Int->Nat ⊕ List Int
 | [],_,wd=>.inr wd
 |_::_,i,[]=>.inl i
 |w::r,i,d::wd=>if Nz nm w d=true then(if 40<i+1+(ar w+wd.length)then .inl i else Im nm r (i+1)<|List.replicate (ar w) (d+1)++wd)else .inl i
def FR(W:D)(nm:List Str)(r:Option Out):Nat ⊕ List Int->Prop
 | .inl j=>r=some (.rt<|WB j)
 | .inr wd=>∃e3 e4,r=some (.nx<|FS W (nl nm) wd e3 e4)
def Ud(h1:g d as=some U')(h2:f U'=some (.rt o)):forL g f (d::r) as=some (.rt o):=by
 unfold forL;rw[h1];show(f U').bind _=_;rw[h2];rfl
theorem HJ:∀(ws:List Str) (i:Nat) (wd:List Int) (e3 e4:Option O),(∀w ∈ ws,w.length<=1000000)->i+wd.length<=40->FR W nm (forL fG fB (wK true i<|ws.map .str)<|FS W (nl nm) wd e3 e4) (Im nm ws i wd)
 | [],i,wd,e3,e4,_,_=>⟨e3,e4,rfl⟩
 |w::r,i,[],e3,e4,hw,hl=>⋯
 |w::r,i,d::wd,e3,e4,hw,hl=>by
  have ql:i+(wd.length+1)<=40:=hl;have D0:=ni w;have ht:∀q,(!Nz nm w d)=q->WT uT (FS W (nl nm) (d::wd) (sI i)<|sT<|.str w) q:=λq hq=>
   zE (k:=false) ⋯ (λ_=>by
       rw[<-hq];exact vF<|zg (VZ (WD.e<|zb rfl) (WD.e<|z0 (zb rfl) za JZ rfl) (WD.e<|zb rfl)<|C0<|hw w<|by simp) rfl) (λh=>nomatch h)
  have hgt:∀q,decide (40<i+1+(ar w+wd.length))=q->WT tH (FS W (nl nm) (List.replicate (ar w) (d+1)++wd) (sI i)<|sT<|.str w) q:=λq hq=>by
   refine zg ⋯ ?_;rw[<-hq];refine congrArg some<|decide_eq_decide.mpr ?_;rw[zzB,zzJ,List.length_replicate];omega
  unfold Im;show FR W nm (forL fG fB ((true,.tup [.int i,.str w])::wK true (i+1) (r.map .str)) _) _
  by_cases hf:Nz nm w d=true
  . rw[if_pos hf]
    by_cases hg:40<i+1+(ar w+wd.length)
    . rw[if_pos hg];exact Ud rfl<|zd (zr (ht false<|by rw[hf];rfl) rfl)<|Mg D0 (by omega) Wk<|yp (hgt true<|zyN hg)<|zN<|zb rfl
    . rw[if_neg hg];have e:forL fG fB ((true,.tup [.int i,.str w])::wK true (i+1) (r.map .str)) (FS W (nl nm) (d::wd) e3 e4)=forL fG fB (wK true (i+1)<|r.map .str) _:=
       zW rfl (zd (zr (ht false<|by rw[hf];rfl) rfl)<|Mg D0 (by omega) Wk<|zr (hgt false<|zyF hg) rfl) rfl
      rw[e];exact HJ r (i+1) _ _ _ (λv m=>hw v<|zzD _ m) (by rw[zzJ,List.length_replicate];omega)
  . rw[if_neg hf];have hf:Nz nm w d=false:=by simpa using hf
    exact Ud rfl<|z9<|yp (ht true<|by rw[hf];rfl)<|zN<|zb rfl
def pZ(p:Str)(s:Str):Prop:=∃t:Tm,t.ok p/\t.ht<=13/\t.cnt<=40/\s=S t
def Ps(p:Str):List Int->List Tm->Prop
 | [],[]=>True
 |d::wd,t::ts=>t.ok p/\d+t.ht<=13/\Ps p wd ts
 |_,_=>False
noncomputable def LB:List Tm->Nat
 | []=>0
 |t::r=>t.cnt+LB r
def Yz:∀{ts:List Tm},Ps p (d::wd) ts->∃t r,ts=t::r/\t.ok p/\d+t.ht<=13/\Ps p wd r
 |t::r,h=>⟨t,r,rfl,h⟩
def wD(w):(Ye w/\ar w=2)\/(w="same"/\ar w=4)\/ar w=0:=by
 unfold ar
 by_cases h:Ye w
 . exact .inl ⟨h,if_pos h⟩
 . by_cases h2:w="same"
   . exact .inr<|.inl ⟨h2,by rw[if_neg h,if_pos h2]⟩
   . exact .inr (.inr<|by rw[if_neg h,if_neg h2])
theorem K7:∀(ws:List Str) (i:Nat) (wd:List Int),Im ["a",p] ws i wd = .inr []->i+wd.length<=40->(∀d ∈ wd,0<=d/\d<=12)->∃ts,Ps p wd ts/\ws=(ts.map ye).flatten/\i+LB ts<=40
 | [],i,wd,h,hl,_=>by
  have:wd=[]:=by unfold Im at h;exact Sum.inr.inj h
  subst this;exact⟨[],trivial,rfl,hl⟩
 |w::r,i,[],h,_,_=>by unfold Im at h;cases h
 |w::r,i,d::wd,h,hl,hd=>by
  unfold Im at h;obtain⟨d0,d1⟩:=hd d (by simp);have hdw:=λx m=>hd x<|zzD _ m
  by_cases hf:Nz ["a",p] w d=true
  . rw[if_pos hf]at h
    by_cases hg:40<i+1+(ar w+wd.length)
    . rw[if_pos hg]at h;cases h
    rw[if_neg hg]at h;have vc:=K7 (p:=p) r (i+1) (List.replicate (ar w) (d+1)++wd) h (by rw[zzJ,List.length_replicate];omega);unfold Nz at hf
    rcases wD w with⟨ho,e⟩|⟨ho,e⟩|e
    . rw[if_pos<|by omega]at hf;have vj:=of_decide_eq_true hf;rw[e]at vc;obtain⟨ts,h1,h2,h3⟩:=vc (λx m=>by
       rcases zzM.mp m with m|m
       . rw[List.eq_of_mem_replicate m];omega
       . exact hdw x m)
      obtain⟨x,ts,rfl,a1,a2,h1⟩:=Yz<|h1;obtain⟨y,ts,rfl,b1,b2,h1⟩:=Yz h1;refine⟨.op w x y::ts,⟨⟨ho,a1,b1⟩, ?_,h1⟩, ?_, ?_⟩
      . show d+((max x.ht y.ht+1:Nat):Int)<=13;omega
      . rw[h2];simp[ye]
      . show i+(x.cnt+y.cnt+1+LB ts)<=40;have h3:i+1+(x.cnt+(y.cnt+LB ts))<=40:=h3;omega
    . rw[if_pos<|by omega]at hf;have vj:=of_decide_eq_true hf;rw[e]at vc;obtain⟨ts,h1,h2,h3⟩:=vc (λx m=>by
       rcases zzM.mp m with m|m
       . rw[List.eq_of_mem_replicate m];omega
       . exact hdw x m)
      obtain⟨x,ts,rfl,a1,a2,h1⟩:=Yz<|h1;obtain⟨y,ts,rfl,b1,b2,h1⟩:=Yz h1;obtain⟨z,ts,rfl,c1,c2,h1⟩:=Yz h1;obtain⟨u,ts,rfl,e1,e2,h1⟩:=Yz h1;refine⟨.sm x y z u::ts,⟨⟨a1,b1,c1,e1⟩, ?_,h1⟩, ?_, ?_⟩
      . show d+((max (max x.ht y.ht) (max z.ht u.ht)+1:Nat):Int)<=13;omega
      . rw[h2,ho];simp[ye]
      . show i+(x.cnt+y.cnt+z.cnt+u.cnt+1+LB ts)<=40;have h3:i+1+(x.cnt+(y.cnt+(z.cnt+(u.cnt+LB ts))))<=40:=h3;omega
    . rw[if_neg<|by omega]at hf;rw[e]at vc;obtain⟨ts,h1,h2,h3⟩:=vc (λx m=>hdw x<|by simpa using m);have leaf:∀t:Tm,t.ok p->t.ht=1->t.cnt=1->ye t=[w]->∃ts,Ps p (d::wd) ts/\w::r=(ts.map ye).flatten/\i+LB ts<=40:=λt k1 k2 k3 k4=>
       ⟨t::ts,⟨k1,by rw[k2];omega,h1⟩,by rw[zyR,List.flatten_cons,k4,<-h2];rfl,by show i+(t.cnt+LB ts)<=40;omega⟩
      rw[Bool.or_eq_true]at hf
      rcases hf with hf|hf
      . obtain⟨v,v0,v1,rfl⟩:=Ff hf;exact leaf (.num v) ⟨v0,v1⟩ rfl rfl rfl
      . unfold lu at hf;rw[zyB]at hf;have:w="a"\/w=p:=by
         obtain⟨y,m,e⟩:=List.any_eq_true.mp hf.2;have e:=eq_of_beq e;simp only[zzC,zyZ,or_false]at m;rw[<-e];exact m
        exact leaf (.nam w) this rfl rfl rfl
  . rw[if_neg hf]at h;cases h
theorem DY:∀(ws:List Str) (i:Nat) (wd:List Int) (j:Nat),Im nm ws i wd = .inl j->j<i+ws.length
 | [],i,wd,j,h=>by cases h
 |w::r,i,[],j,h=>by have:=Sum.inl.inj h;simp;omega
 |w::r,i,d::wd,j,h=>by
  unfold Im at h
  split at h
  . split at h
    . have:=Sum.inl.inj h;simp;omega
    . have:=DY r _ _ j h;simp;omega
  . have:=Sum.inl.inj h;simp;omega
def Cq(hX:X.length<=100000)(h:¬pZ p X):∃j:Nat,j<=100003/\yW [(true,nl<|Txt.split X sb),(true,nl ["a",p])]=sI j:=by
 obtain⟨w1,w2,w3⟩:=sp X;have hlen:=split_len X sb;generalize D':Txt.split X sb=ws at w1 w2 w3 hlen;have hw:∀w ∈ ws,w.length<=1000000:=λw m=>by have:=yd (x:=X) (y:=sb) (p:=w) (by rw[D'];exact m);omega
 have run:=HJ (W:=nl ws) (nm:=["a",p]) ws 0 [0] none none hw (by decide);have go:∀o:Option Out,forL fG fB (wK true 0<|ws.map .str) _=o->∀q,(∀as,o=some (.nx as)->zt _ as=some (.rt q))->(∀q',o=some (.rt q')->q'=q)->(∃as,o=some (.nx as))\/(∃q,o=some (.rt q))->yW [(true,nl ws),(true,nl ["a",p])]=some q:=λo ho q h1 h2 h3=>by
  refine zG rfl<|zd ⋯ ?_
  rcases h3 with⟨as,h3⟩|⟨q',h3⟩
  . exact zd (wk (oZ<|zb rfl)<|ho.trans h3)<|h1 as h3
  . have:vD (Sy zo) fG fB (FS (nl ws) (nl ["a",p]) [0] none none)=some (.rt q'):=by
     unfold vD;show forL _ _ _ _=_;exact ho.trans h3
    rw[<-h2 q' h3];exact z9 this
 cases e:Im ["a",p] ws 0 [0]with
 |inl j=>
  rw[e]at run;refine⟨j,by have:=DY _ _ _ _ e;omega,go _ run _ (λas k=>nomatch k) (λq' k=>by cases k;rfl)<|.inr ⟨_,rfl⟩⟩
 |inr wd=>
  rw[e]at run;obtain⟨e3,e4,run⟩:=run;cases wd with
  |nil=>
   obtain⟨ts,h1,h2,h3⟩:=K7 ws 0 [0] e (by decide) (by simp);obtain⟨t,ts,rfl,a1,a2,h1⟩:=Yz h1;cases ts with
   |nil=>
    refine absurd ⟨t,a1,by omega, ?_, ?_⟩ h
    . have h3:0+(t.cnt+0)<=40:=h3;omega
    . rw[w3,h2];simp;show Str.join sb _=Str.join Kq _;rw[show sb=Kq from blank_eq]
   |cons _ _=>exact h1.elim
  |cons d wd=>
   refine⟨ws.length,by omega,go _ run _ (λas k=>?_) (λq' k=>nomatch k)<|.inl ⟨_,rfl⟩⟩;cases k;refine zN<|Tw (zg (x4 ⋯ za)<|congrArg some<|zyN ?_) ?_
   . show(0:Int)<(((d::wd).map D.int).length:Nat);rw[zzB,zzT];omega
   . have:WD (fP yy z8) (FS (nl ws) (nl ["a",p]) (d::wd) e3 e4) true (.int ((ws.map D.str).length:Nat)):=wO (zk (zb (i:=0) rfl) zq) rfl rfl
     rwa [zzB]at this
def Jv(hX:X.length<=100000)(h:¬pZ p X):ZO [(true,.str X),(true,nl ["a",p])]=none/\∃k:D,ZT [(true,.str X),(true,nl ["a",p])]=some k:=by
 obtain⟨j,hj,e⟩:=Cq hX h;have s1:(zm true 2<|z7 .str zo _ xB) (ya 4 [(true,.str X),(true,nl ["a",p])])=some (.nx _):=yZ (we ⋯ Wl hX)<|zh rfl;have s2:(zm true 3<|zf (aC zH Zb) yW) [sT<|.str X,some _,some _,none]=some (.nx _):=zw (yt (ve rfl) (ve rfl) e)<|zh rfl;refine⟨Pp<|ZD s1<|ZD s2 ⋯,.int j, ?_⟩;unfold ZT gX;rw[show(ze _ _) _=_ from zd s1 s2];show(if ZK _=true then some _ else none)=_;rw[if_pos];refine zyN<|PF.log2_small ?_;show j<2 ^ 300;omega
open Classical in
noncomputable def TJ(p X:Str):Option Tm:=if h:pZ p X then some h.choose else none
def Xg(h:TJ p X=some t):t.ok p/\t.ht<=13/\t.cnt<=40/\X=S t:=by
 unfold TJ at h
 split at h
 . rename_i h';cases h;exact h'.choose_spec
 . cases h
def UA(h:TJ p X=none):¬pZ p X:=by
 unfold TJ at h
 split at h
 . cases h
 . assumption
noncomputable def oM:Option Tm->D
 |none=>.non
 |some t=>t.toD
theorem Y1(hp:RH p):∀{t:Tm},t.ok p->t.ko
 | .num _,h=>h
 | .nam x,h=>by
  rcases h with rfl|rfl
  . exact .inl rfl
  . rcases hp with rfl|rfl
    . exact .inr<|.inl rfl
    . exact .inr<|.inr rfl
 | .op _ _ _,h=>⟨h.1,Y1 hp h.2.1,Y1 hp h.2.2⟩
 | .sm _ _ _ _,h=>⟨Y1 hp h.1,Y1 hp h.2.1,Y1 hp h.2.2.1,Y1 hp h.2.2.2⟩
theorem YC:∀{t:Tm},t.ok p->good [("a":Str),p] t=true
 | .num _,_=>rfl
 | .nam x,h=>by
  show((_:List Str).any _)=_
  rcases h with rfl|rfl<;>simp
 | .op _ _ _,h=>by show(good _ _&&good _ _)=_;rw[YC h.2.1,YC h.2.2];rfl
 | .sm _ _ _ _,h=>by show(_&&_)=_;rw[YC h.1,YC h.2.1,YC h.2.2.1,YC h.2.2.2];rfl
def LQ(hp:RH p)(hX:X.length<=100000):xO [(true,.str X),(true,nl ["a",p])]=sT (oM<|TJ p X):=by
 cases e:TJ p X with
 |none=>
  obtain⟨h1,k,h2⟩:=Jv hX<|UA e;exact zG rfl ((uh (qe<|vO ⋯ ⋯ h1)<|DI ⋯ (ve rfl) h2).trans ⋯)
 |some t=>
  obtain⟨ok,hh,hc,rfl⟩:=Xg e;exact zG rfl<|uY<|zN<|yt (ve rfl) (ve rfl)<|JQ (Y1 hp ok) (YC ok) hh hc
noncomputable abbrev yK(L:List Str):D:=.lst<|L.map D.str
def Ue{as:AS}{fr:DF}{os:List O}{ds:List D}(h:WO fr as os)(hl:os.length<=sizeLine)(ha:os.all O.isLf=true)(hs:O.strs os=true)(e:O.toDs os=ds):WD (yC fr) as true (.tup ds):=by
 have:=HB h hl ha
 rwa [hs,e]at this
def jP{w:Str}(h:w.length<=60):Rx (.str w) none (some 60)=some (.im<|.str w):=by
 have e:Txt.slice w none _=w:=yQ (by rw[vC,List.take_of_length_le ⋯]);show(if w.length<=sizeLine then some _ else none)=_;rw[if_pos<|ZE ⋯,show Txt.slice w none (some 60)=w from e]
abbrev uG(W:D)(n:Int)(d:D)(w:Str)(e4:Option O)(xs:List Int)(Y':List Str)(e7 e8:Option O):AS:=
 [sT W,sT<|.int n,sT d,sT<|.str w,e4,sN<|xs.map WB,sT<|yK Y',e7,e8,none,none,none]
abbrev pB(self:Fn):SF:=(ze (Rm (zf (aC YT<|aC zA xQ) self)<|gT 2<|Yo (gN 8)<|Yo (gN 6) GH)<|yE<|wG 5 (dC (fV 8) dN) wN)
def Zk{self:Fn}{W d:D}{n v:Int}{w:Str}{e4 e7 e8:Option O}{xs:List Int}{ws Y':List Str}(hl:xs.length<=100)(hs:RE (self [(true,yK ws),(true,.int n),(true,d)]) (.tup [.int v,yK Y'])):
 pB self (uG W n d w e4 xs ws e7 e8)=some (.nx<|uG W n d w e4 (xs++[v]) Y' e7<|sT<|.int v):=by
 obtain⟨o,h1,h2,h3⟩:=Zt (as:=uG W n d w e4 xs ws e7 e8) ⋯ ⋯ ⋯ hs;refine zd (GU h1<|by rw[h2,h3];rfl) ?_;rw[vZ rfl (by rw[zzB];exact yI ⋯) ⋯];have e:xs.map WB++[O.lf true<|.int v]=(xs++[v]).map WB:=⋯;rw[e];rfl
noncomputable abbrev six:D:=.tup [.str "add",.str "take",.str "times",.str "most",.str "least",.str "same"]
def LY{as:AS}:WD kx as true six:=⋯
def Cu{w:Str}(h:Ye w\/w=("same":Str)):zj .NotIn (.str w) six=some (.im<|.bl false):=by
 rcases h with(rfl|rfl|rfl|rfl|rfl)|rfl<;>rfl
def Jy{w:Str}(h:∀q,Ye q\/q=("same":Str)->q≠w):zj .NotIn (.str w) six=some (.im<|.bl true):=by
 have c0:zj .NotIn (.str w) six=(Sb (.str w) six).bind λb=>some (FM !b):=rfl;rw[c0];have e0:Sb _ six=anyF (λy=>wb 50 y<|.str w) ((["add","take","times","most","least","same"]:List Str).map D.str):=rfl;rw[e0,Zv];have e:((["add","take","times","most","least","same"]:List Str).any (· == w))=false:=by
  rw[List.any_eq_false];intro q mq;have:Ye q\/q="same":=by
   simp at mq
   rcases mq with h|h|h|h|h|h
   . exact .inl<|.inl h
   . exact .inl<|.inr<|.inl h
   . exact .inl<|.inr<|.inr<|.inl h
   . exact .inl<|.inr<|.inr<|.inr<|.inl h
   . exact .inl<|.inr<|.inr<|.inr<|.inr h
   . exact .inr h
  simpa using h q this
 rw[e];rfl
def rV{x:Str}(h:isNm x):zj .NotIn (.str x) six=some (.im<|.bl true):=by
 rcases h with rfl|rfl|rfl<;>rfl
def uu{v:Int}(h:0<=v):zj .NotIn (.str<|tx v) six=some (.im<|.bl true):=Jy λq hq e=>by
 rcases hq with(rfl|rfl|rfl|rfl|rfl)|rfl
 . exact xu h ⋯ e.symm
 . exact xu h ⋯ e.symm
 . exact xu h ⋯ e.symm
 . exact xu h ⋯ e.symm
 . exact xu h ⋯ e.symm
 . exact xu h ⋯ e.symm
def qk{p:Str}{a b v:Int}(hp:RH p)(h:0<=v):getP' (FZ p a b) [.str<|tx v]=some (.im .non):=by
 have n1:"a"≠tx v:=λe=>xu h ⋯ e.symm;have n2:p≠tx v:=λe=>by
  rcases hp with rfl|rfl
  . exact xu h ⋯ e.symm
  . exact xu h ⋯ e.symm
 have e:X0 [(.inr "a",.int a),(.inr p,.int b)] (.inr<|tx v)=none:=by
  unfold X0;simp only[List.find?_cons,key_ne n1,key_ne n2,List.find?_nil,Option.map_none]
 show some _=_;rw[e];rfl
def uS{p x:Str}{a b:Int}(hp:RH p)(h:x=("a":Str)\/x=p):getP' (FZ p a b) [.str x]=some (.im<|.int<|at2 a b x):=by
 rcases hp with rfl|rfl<;>rcases h with rfl|rfl<;>rfl
def gJ{w:Str}{ws:List Str}:Yq (yK (w::ws)) (some 1) none=some (.fl<|ws.map D.str):=Z_ (xs:=[.str w])
def Fw{w:Str}{ws:List Str}:zU (yK (w::ws)) (.int 0)=some (.im<|.str w):=⋯
def iZ{as:AS}:oS zD as=some (some 1,as):=rfl
def U0{as:AS}{w:Str}{ws:List Str}(h:as[0]? = some (sT<|yK (w::ws))):WE (wV zo (oS zD) oN Yq) as (yK ws):=wA ⋯ iZ rfl gJ
def sf(os:List O):(Xh os).str=O.strs os:=by unfold Xh;split<;>rfl
def uF(os:List O):(Xh os).toD = .tup (O.toDs os):=by unfold Xh;split<;>rfl
def Lh{as:AS}{fa fb:EF}{x y:D}(ha:WD fa as true x)(hb:WE fb as y):WE (yC<|dC fa<|dC fb dN) as (.tup [x,y]):=by
 obtain⟨o,h1,h2,h3⟩:=hb;refine⟨_,rS (zi ha<|Gm h1 zI)<|Ww rfl, ?_, ?_⟩
 . rw[sf];show(true&&(o.str&&true))=_;rw[h2];rfl
 . rw[uF];show D.tup [x,o.toD]=_;rw[h3]
def VW{xs:List Int}{k:Nat}{v:Int}(h:xs[k]? = some v):zU (.lst<|O.toDs<|xs.map WB) (.int (k:Int))=some (.im<|.int v):=by
 rw[(zY xs).2.2];exact xR (by rw[zzI,h];rfl)
theorem YJ{n a b:Int}{p:Str}(hp:RH p)(hn:0<n)(K':n<=50):∀h t Y',t.ok p->t.ht<=h->RE (yf h [(true,yK<|ye t++Y'),(true,.int n),(true,FZ p a b)]) (.tup [.int<|val n a b t,yK Y'])
 |0,t,_,_,hh=>by have:=Ql t;omega
 |h+1,.num v,Y',ok,hh=>by
  have hi2:Xp [.str<|tx v]=some (.im<|.int v):=by
   show(if(tx v).length<=640 then(PySem.intText?<|tx v).bind _ else none)=_;rw[if_pos (by have:=wI ok.1 ok.2;omega),Xa ok.1 ok.2];rfl
  exact RS.fn rfl (.seq (zw (i:=3) (zy (zb rfl) za Fw)<|zh rfl)<|.seqR<|.ifT (zg (Zu (ve rfl) LY.e<|uu ok.1) rfl)<|.seq (zw (i:=4) (XF (zb rfl) rfl (zk (zb rfl) zq) (qk hp ok.1) rfl)<|zh rfl)<|.seq (yp (zg (Zu (ve rfl) ce rfl) rfl)<|zw (i:=4) (xr (Zf (lo:=none) (hi:=some 60) (zb (i:=3) rfl) rfl rfl<|jP<|wI ok.1 ok.2).e hi2)<|zh rfl)<|.ret<|Lh (yh (zb rfl) (zb rfl) hn)<|U0 rfl)
 |h+1,.nam x,Y',ok,hh=>by
  have hx:isNm x:=Y1 hp (t:=.nam x) ok;exact RS.fn rfl (.seq (zw (i:=3) (zy (zb rfl) za Fw)<|zh rfl)<|.seqR<|.ifT (zg (Zu (ve rfl) LY.e<|rV hx) rfl)<|.seq (zw (i:=4) (XF (zb rfl) rfl (zk (zb rfl) zq) (uS hp ok) rfl)<|zh rfl)<|.seq (zr (zg (Zu (ve rfl) ce rfl) rfl) rfl)<|.ret<|Lh (yh (zb rfl) (zb rfl) hn)<|U0 rfl)
 |h+1,.op w x y,Y',ok,hh=>by
  have hx:x.ht<=h:=by unfold Tm.ht at hh;omega
  have hy:y.ht<=h:=by unfold Tm.ht at hh;omega
  have rx:=Zd (a:=a) (b:=b) hn x;have ry:=Zd (a:=a) (b:=b) hn y;have e0:ye (.op w x y)++Y'=w::(ye x++(ye y++Y')):=by show w::(ye x++ye y)++Y'=_;simp
  rw[e0];have s1:=Zk (self:=yf h) (W:=yK (w::(ye x++(ye y++Y')))) (w:=w) (e4:=none) (e7:=sT<|.int<|0+(0:Nat)) (e8:=none) (xs:=[]) (by decide)<|YJ (a:=a) (b:=b) hp hn K' h x (ye y++Y') ok.2.1 hx;have s2:=Zk (self:=yf h) (W:=yK (w::(ye x++(ye y++Y')))) (w:=w) (e4:=none) (e7:=sT<|.int<|0+(1:Nat)) (e8:=sT<|.int<|val n a b x) (xs:=[val n a b x]) (by show 1<=100;decide)<|YJ (a:=a) (b:=b) hp hn K' h y Y' ok.2.2 hy;have n3:wb 60 (.str w) (.str "same")=some false:=(H9 ok.1).2.2;have f1:forL (gN 7) (pB<|yf h) (y4 0 2) (uG (yK (w::(ye x++(ye y++Y')))) n (FZ p a b) w none [] (ye x++(ye y++Y')) none none)=some (.nx<|uG (yK (w::(ye x++(ye y++Y')))) n (FZ p a b) w none [val n a b x,val n a b y] Y' (sT<|.int<|0+(1:Nat))<|sT<|.int<|val n a b y):=
   zW rfl s1 (zW rfl s2 rfl)
  have bx:(val n a b x).natAbs<big:=Zo (by omega) (by omega);have by':(val n a b y).natAbs<big:=Zo (by omega) (by omega);refine RS.fn rfl<|.seq (zw (i:=3) (zy (zb rfl) za Fw)<|zh rfl)<|.seq (zr (zg (Zu (ve rfl) LY.e<|Cu<|.inl ok.1) rfl) rfl)<|.seq (y6 (i:=5) (vB zI<|by decide)<|zh rfl)<|.seq (yZ (p:=6) (U0 rfl)<|zh rfl)<|.seq (wk (xv (j:=2) (zk (Zu (zZ (os:=[WB 2,WB 4]) (zi za<|zi za zI) (Ww rfl) rfl rfl) (xr (yk (zb rfl) za n3).e rfl).e rfl) zq) (by decide)<|by decide) f1)
   (.seq (zw (i:=9) (Oo (i:=5) rfl (zY _).1 (zY _).2.1 za<|VW (k:=0) rfl)<|zh rfl)<|.seq (zw (i:=10) (Oo (i:=5) rfl (zY _).1 (zY _).2.1 za<|VW (k:=1) rfl)<|zh rfl)<|.seq (zr (zg (yk (zb rfl) za n3) rfl) rfl)
   (.seq (yZ (p:=11) ⟨_,EN (Xx za rfl (yr (zb (i:=9) rfl)<|zb (i:=10) rfl)<|Xx za rfl (Y5 (zb (i:=9) rfl)<|zb (i:=10) rfl)<|Xx za rfl (VP (zb (i:=9) rfl) (zb (i:=10) rfl) bx by')<|Xx za rfl (wO (zk (zb (i:=9) rfl)<|zk (zb (i:=10) rfl) zq) rfl rfl) Sk) (show(([.inr "add",.inr "take",.inr "times",.inr "most"]:List Key)).Nodup by decide) (show(4:Nat)<=15 by decide),rfl,rfl⟩<|zh rfl)
   (.ret<|Lh (yh (i:=two w (val n a b x)<|val n a b y) (XF (zb (i:=11) rfl) rfl (zk (zb (i:=3) rfl)<|zk (wO (zk (zb (i:=9) rfl)<|zk (zb (i:=10) rfl) zq) rfl rfl) zq) ?_ rfl) (zb (i:=1) rfl) hn)<|ve (i:=6) rfl)))
  rcases ok.1 with rfl|rfl|rfl|rfl|rfl<;>rfl
 |h+1,.sm x y z u,Y',ok,hh=>by
  have hx:x.ht<=h:=by unfold Tm.ht at hh;omega
  have hy:y.ht<=h:=by unfold Tm.ht at hh;omega
  have hz:z.ht<=h:=by unfold Tm.ht at hh;omega
  have hu:u.ht<=h:=by unfold Tm.ht at hh;omega
  obtain⟨ox,oy,oz,ou⟩:=ok;have e0:ye (.sm x y z u)++Y'=("same":Str)::(ye x++(ye y++(ye z++(ye u++Y')))):=by show("same":Str)::(ye x++(ye y++(ye z++ye u)))++Y'=_;simp
  rw[e0];generalize hW:yK (("same":Str)::(ye x++(ye y++(ye z++(ye u++Y')))))=W;have s1:=Zk (self:=yf h) (W:=W) (w:="same") (e4:=none) (e7:=sT<|.int<|0+(0:Nat)) (e8:=none) (xs:=[]) (by decide)<|YJ (a:=a) (b:=b) hp hn K' h x (ye y++(ye z++(ye u++Y'))) ox hx;have s2:=Zk (self:=yf h) (W:=W) (w:="same") (e4:=none) (e7:=sT<|.int<|0+(1:Nat)) (e8:=sT<|.int<|val n a b x) (xs:=[val n a b x]) (by show 1<=100;decide)<|YJ (a:=a) (b:=b) hp hn K' h y (ye z++(ye u++Y')) oy hy;have s3:=Zk (self:=yf h) (W:=W) (w:="same") (e4:=none) (e7:=sT<|.int<|0+(2:Nat)) (e8:=sT<|.int<|val n a b y) (xs:=[val n a b x,val n a b y]) (by show 2<=100;decide)<|YJ (a:=a) (b:=b) hp hn K' h z (ye u++Y') oz hz;have s4:=Zk (self:=yf h) (W:=W) (w:="same") (e4:=none) (e7:=sT<|.int<|0+(3:Nat)) (e8:=sT<|.int<|val n a b z) (xs:=[val n a b x,val n a b y,val n a b z]) (by show 3<=100;decide)<|YJ (a:=a) (b:=b) hp hn K' h u Y' ou hu;have f1:forL (gN 7) (pB<|yf h) (y4 0 4) (uG W n (FZ p a b) "same" none [] (ye x++(ye y++(ye z++(ye u++Y')))) none none)=some (.nx<|uG W n (FZ p a b) "same" none [val n a b x,val n a b y,val n a b z,val n a b u] Y' (sT<|.int<|0+(3:Nat))<|sT<|.int<|val n a b u):=
   zW rfl s1 (zW rfl s2<|zW rfl s3<|zW rfl s4 rfl)
  have hq:∃q,wb 60 (.int<|val n a b x) (.int<|val n a b y)=some q/\val n a b (.sm x y z u)=if q=true then val n a b z else val n a b u:=by
   refine⟨val n a b x==val n a b y,rfl, ?_⟩;show(if val n a b x=val n a b y then _ else _)=_
   by_cases e:val n a b x=val n a b y
   . rw[if_pos e,if_pos<|by rw[e];simp]
   . rw[if_neg e,if_neg<|by simpa using e]
  obtain⟨q,hq,hv⟩:=hq;rw[hv];subst hW;refine RS.fn rfl<|.seq (zw (i:=3) (zy (zb rfl) za Fw)<|zh rfl)<|.seq (zr (zg (Zu (ve rfl) LY.e<|Cu<|.inr rfl) rfl) rfl)<|.seq (y6 (i:=5) (vB zI<|by decide)<|zh rfl)<|.seq (yZ (p:=6) (U0 rfl)<|zh rfl)<|.seq (wk (xv (j:=4) (zk (Zu (zZ (os:=[WB 2,WB 4]) (zi za<|zi za zI) (Ww rfl) rfl rfl) (xr (yk (c:=true) (zb rfl) za rfl).e rfl).e rfl) zq) (by decide)<|by decide) f1)
   (.seq (zw (i:=9) (Oo (i:=5) rfl (zY _).1 (zY _).2.1 za<|VW (k:=0) rfl)<|zh rfl)<|.seq (zw (i:=10) (Oo (i:=5) rfl (zY _).1 (zY _).2.1 za<|VW (k:=1) rfl)<|zh rfl)<|.seqR<|.ifT (zg (yk (c:=true) (zb rfl) za rfl) rfl)
   (.ret<|Lh (Oo (i:=5) rfl (zY _).1 (zY _).2.1 (yr za<|xr (x:=.bl<|!q) (z:=.int<|if(!q)=true then 1 else 0) (Ym (zb (i:=9) rfl) (zb (i:=10) rfl) hq).e ?_) ?_)<|ve (i:=6) rfl))
  . cases q<;>rfl
  . cases q
    . exact VW (k:=3) rfl
    . exact VW (k:=2) rfl
def D_{as:AS}{fa fb fc:EF}{n a b:Int}{p:Str}{t:Tm}(hp:RH p)(hn:0<n)(K':n<=50)(ok:t.ok p)(hh:t.ht<=20)(h1:WE fa as (nl<|ye t))(h2:WE fb as (.int n))(h3:WE fc as (FZ p a b)):WD (f2 (zf (aC fa<|aC fb<|aC fc aN)<|yf 20) z6 zU) as true (.int<|val n a b t):=by
 have h:=YJ (a:=a) (b:=b) hp hn K' 20 t [] ok hh;rw[zyD]at h;exact Zu (Zt h1 h2 h3 h) ce rfl
def DX{as:AS}{fa fb:EF}{p:Str}{a b:Int}(hp:RH p)(ha:WD fa as true (.int a))(hb:WD fb as true (.int b)):WE (UQ [((fC<|.str "a"),fa),((fC<|.str p),fb)]) as (FZ p a b):=by
 have nd:([.inr "a",.inr p]:List Key).Nodup:=by rcases hp with rfl|rfl<;>decide
 exact⟨_,EN (Xx za rfl ha<|Xx za rfl hb Sk) nd ⋯,rfl,rfl⟩
abbrev sP:EF:=mj
abbrev qb:EF:=m3
def HV{as:AS}{cap:List (Option Nat)}{n:Int}{t:Tm}{fn:EF}(hn:1<=n)(K':n<=8)(ok:t.ok "b")(hh:t.ht<=20)(hf:WE fn as (.int n))(vm:ZF cap as=[none,sT<|nl<|ye t,sT<|.int n]):
 WE (zC (yq (aC fn aN) y8) cap yb z_ sP) as (.lst<|(MV n t).map zx):=by
 have hr:∀a,sP [sI a,sT _,sT _]=some _:=λa=>
  xg (xv ⋯ ⋯ ⋯) (by rw[wR];exact ZE ⋯) (Vc (λb=>⟨_,rfl,D_ (.inl rfl) ⋯ ⋯ ok hh (ve rfl) (ve rfl) (DX (.inl rfl) ⋯ ⋯)⟩) n.toNat 0)
 refine⟨_,xg (xv (yX hf zq) ⋯ ⋯) (by rw[wR];exact ZE ⋯) (by rw[vm];exact VB (λa=>⟨_,rfl,hr a⟩) n.toNat 0),(wc _).1,congrArg D.lst (wc _).2⟩
def HP{as:AS}{cap:List (Option Nat)}{n m:Int}{t:Tm}{fm:EF}(hn:1<=n)(K':n<=8)(hm:0<=m)(vh:m<=8)(ok:t.ok "c")(hh:t.ht<=20)(hf:WE fm as (.int m))(vm:ZF cap as=[none,sT<|nl<|ye t,sT<|.int n]):
 WE (zC (yq (aC fm aN) y8) cap yb z_ qb) as (.lst<|(Fm n m t).map zx):=by
 have hr:∀c,qb [sI c,sT _,sT _]=some _:=λc=>
  xg (xv ⋯ ⋯ ⋯) (by rw[wR];exact ZE ⋯) (Vc (λa=>⟨_,rfl,D_ (.inr rfl) ⋯ ⋯ ok hh (ve rfl) (ve rfl) (DX (.inr rfl) ⋯ ⋯)⟩) n.toNat 0)
 refine⟨_,xg (xv (yX hf zq) ⋯ ⋯) (by rw[wR];exact ZE ⋯) (by rw[vm];exact VB (λc=>⟨_,rfl,hr c⟩) m.toNat 0),(wc _).1,congrArg D.lst (wc _).2⟩
noncomputable def ZZ(p:Str):Nat->List Str->Option (Tm×List Str)
 |0,_=>none
 |_+1,[]=>none
 |f+1,w::r=>if(["a",p]:List Str).any (· == w)=true then some (.nam w,r)else
  if ar w=2 then(ZZ p f r).bind λx=>(ZZ p f x.2).bind λy=>some (.op w x.1 y.1,y.2)else
  if ar w=4 then(ZZ p f r).bind λx=>(ZZ p f x.2).bind λy=>(ZZ p f y.2).bind λz=>(ZZ p f z.2).bind λu=>some (.sm x.1 y.1 z.1 u.1,u.2)else
  (nv w).map λv=>(.num v,r)
theorem vM{p:Str}:∀f ws t Y',ZZ p f ws=some (t,Y')->ws=ye t++Y'/\t.ok p/\t.ht<=f
 |0,_,_,_,h=>by cases h
 |f+1,[],_,_,h=>by cases h
 |f+1,w::r,t,Y',h=>by
  unfold ZZ at h
  split at h
  . rename_i hm;cases h;obtain⟨y,m,e⟩:=List.any_eq_true.mp hm;have e:=eq_of_beq e;simp at m;exact⟨rfl,by rw[<-e];exact m,Nat.succ_le_succ<|Nat.zero_le _⟩
  split at h
  . rename_i h2;have ho:Ye w:=by rcases wD w with⟨a,_⟩|_|a<;>first|exact a|omega
    obtain⟨⟨x,r1⟩,e1,h⟩:=bS_ h;obtain⟨⟨y,r2⟩,e2,h⟩:=bS_ h;cases h;obtain⟨a1,a2,a3⟩:=vM f _ _ _ e1;obtain⟨b1,b2,b3⟩:=vM f _ _ _ e2;have b1:r1=_:=b1;refine⟨by rw[a1,b1];simp[ye],⟨ho,a2,b2⟩, ?_⟩;show max x.ht y.ht+1<=f+1;omega
  split at h
  . rename_i h2;have ho:w="same":=by rcases wD w with _|⟨a,_⟩|a<;>first|exact a|omega
    obtain⟨⟨x,r1⟩,e1,h⟩:=bS_ h;obtain⟨⟨y,r2⟩,e2,h⟩:=bS_ h;obtain⟨⟨z,r3⟩,e3,h⟩:=bS_ h;obtain⟨⟨u,r4⟩,e4,h⟩:=bS_ h;cases h;obtain⟨a1,a2,a3⟩:=vM f _ _ _ e1;obtain⟨b1,b2,b3⟩:=vM f _ _ _ e2;obtain⟨c1,c2,c3⟩:=vM f _ _ _ e3;obtain⟨d1,d2,d3⟩:=vM f _ _ _ e4;have b1:r1=_:=b1;have c1:r2=_:=c1;have d1:r3=_:=d1;refine⟨by rw[a1,b1,c1,d1,ho];simp[ye],⟨a2,b2,c2,d2⟩, ?_⟩;show max (max x.ht y.ht) (max z.ht u.ht)+1<=f+1;omega
  . obtain⟨v,e,h⟩:=zzW.mp h;cases h;obtain⟨a,b,c⟩:=ZI e;exact⟨by rw[c];rfl,⟨a,b⟩,Nat.succ_le_succ<|Nat.zero_le _⟩
def PJ{w:Str}(h:Ye w):ar w=2:=if_pos h
def Pl{w:Str}(h:isNm w):¬Ye w/\w≠"same":=by
 unfold Ye
 rcases h with rfl|rfl|rfl<;>decide +kernel
def Du{v:Int}(h:0<=v):ar (tx v)=0:=by
 have:=Fg (s:=true) h;rw[Wk]at this;simpa using this
def td{p x:Str}(h:x="a"\/x=p):(["a",p]:List Str).any (· == x)=true:=by rcases h with rfl|rfl<;>simp
def WY{p x:Str}(hp:RH p)(h:¬isNm x):¬(["a",p]:List Str).any (· == x)=true:=λe=>by
 obtain⟨y,m,e⟩:=List.any_eq_true.mp e;have e:=eq_of_beq e;simp at m;rw[e]at m;exact h<|Y1 hp (t:=.nam x) m
def qZ{v:Int}(h:0<=v):¬isNm (tx v):=λe=>by
 rcases e with e|e|e
 . exact xu h ⋯ e
 . exact xu h ⋯ e
 . exact xu h ⋯ e
theorem YL{p:Str}(hp:RH p):∀t f Y',t.ok p->t.ht<=f->ZZ p f (ye t++Y')=some (t,Y')
 |t,0,_,_,h=>by have:=Ql t;omega
 | .num v,f+1,Y',ok,_=>by
  show ZZ p _ (tx v::Y')=_;unfold ZZ;rw[if_neg<|WY hp<|qZ ok.1,if_neg (by rw[Du ok.1];decide),if_neg (by rw[Du ok.1];decide),E_ ok.1 ok.2];rfl
 | .nam x,f+1,Y',ok,_=>by
  show ZZ p _ (x::Y')=_;unfold ZZ;rw[if_pos<|td ok]
 | .op w x y,f+1,Y',ok,h=>by
  have h:max x.ht y.ht+1<=f+1:=h;have e:ye (.op w x y)++Y'=w::(ye x++(ye y++Y')):=by simp[ye]
  rw[e];unfold ZZ;rw[if_neg<|WY hp λz=>(Pl z).1 ok.1,if_pos<|PJ ok.1,YL hp x f _ ok.2.1 ⋯,zyK,YL hp y f _ ok.2.2 ⋯];rfl
 | .sm x y z u,f+1,Y',ok,h=>by
  have h:max _ _+1<=f+1:=h;have e:ye (.sm x y z u)++Y'=("same":Str)::(ye x++(ye y++(ye z++(ye u++Y')))):=by simp[ye]
  have hs:ar "same"=4:=by
   have:=XJ (s:=true);rw[Wk]at this;have:(ar "same":Int)=4:=by simpa using this
   omega
  rw[e];unfold ZZ;rw[if_neg<|WY hp λz=>(Pl z).2 rfl,if_neg (by rw[hs];decide),if_pos hs,YL hp x f _ ok.1 ⋯,zyK,YL hp y f _ ok.2.1 ⋯,zyK,YL hp z f _ ok.2.2.1 ⋯,zyK,YL hp u f _ ok.2.2.2 ⋯];rfl
def oK:Option (Tm×List Str)->D
 |none=>.non
 |some x=>.tup [.int x.1.cnt,nl x.2]
abbrev T8(W:D)(nm:List Str)(k:Int)(w:Str)(m:Int)(Y':List Str)(e6 e7:Option O):AS:=
 [sT W,sT<|nl nm,sT<|.int k,sT<|.str w,sT<|.int m,sT<|nl Y',e6,e7]
abbrev k_(self:Fn):SF:=(ze (zm true 7<|zf (aC wg<|aC zA<|aC (f2 zH zD zl) aN) self)
 (ze (yN (fT<|f2 YS (fC .non)<|zj .Is) (zt<|fC .non) xf)
 (ze (zm true 4<|f2 zS (f2 YS z6 zU) zl)
 (zm true 5<|f2 YS zD zU))))
def oj(hs:RE (self [(true,nl ws),(true,nl nm),(true,.int<|k+1)]) .non):k_ self (T8 W nm k w m ws e6 e7)=some (.rt<|.lf true .non):=
 zd (yZ (Zt ⋯ ⋯ (yr ⋯ za).e hs)<|zh rfl) ⋯
def m4{nm ws Y'}(hs:RE (self [(true,nl ws),(true,nl nm),(true,.int<|k+1)]) (oK<|some (t,Y'))):k_ self (T8 W nm k w m ws e6 e7)=some (.nx<|T8 W nm k w (m+t.cnt) Y' e6<|sT<|oK<|some (t,Y')):=
 zd (yZ (Zt ⋯ ⋯ (yr ⋯ za).e hs)<|zh rfl) ⋯
def A6:ar ("same":Str)=4:=by
 have:=XJ (s:=true);rw[Wk]at this;have:(ar "same":Int)=4:=by simpa using this
 omega
def I_(h:decide (0<ar w)=q):zj .In (.str w) six=some (.im<|.bl q):=by
 rw[VO];have e0:Sb _ six=anyF (λy=>wb 50 y<|.str w) ((["add","take","times","most","least","same"]:List Str).map D.str):=rfl;rw[e0,Zv];have e:((["add","take","times","most","least","same"]:List Str).any (· == w))=q:=by
  rw[<-h]
  rcases wD w with⟨ho,e⟩|⟨ho,e⟩|e
  . rw[e];rcases ho with rfl|rfl|rfl|rfl|rfl<;>decide +kernel
  . rw[e,ho];decide +kernel
  . rw[e];show _=false;rw[List.any_eq_false];intro y m z;have z:=eq_of_beq z;rw[<-z]at e;simp at m
    rcases m with rfl|rfl|rfl|rfl|rfl|rfl
    . rw[PJ<|.inl rfl]at e;cases e
    . rw[PJ<|.inr ⋯]at e;cases e
    . rw[PJ<|.inr ⋯]at e;cases e
    . rw[PJ<|.inr ⋯]at e;cases e
    . rw[PJ<|.inr ⋯]at e;cases e
    . rw[A6]at e;cases e
 rw[e];rfl
def Ml:xo yb CK zo [none] (xt x)=some (((x.cps.toList.filter λc=>!Yv c).map λc=>D.str ⟨#[c]⟩).map<|O.lf true):=by
 unfold xt;generalize x.cps.toList=l
 induction l with
 |nil=>rfl
 |cons c r ih=>
  have t:WT (fT<|f2 zo _ _) [some _] (!Yv c):=zg (Zu ⋯ ce (Uo rfl)) rfl;cases h:Yv c with
  |true=>
   rw[h]at t;rw[List.filter_cons_of_neg<|by rw[h];simp];exact V8 rfl t ih
  |false=>
   rw[h]at t;rw[List.filter_cons_of_pos<|by rw[h];rfl];exact Tq rfl t ⋯ ih
def Ir(ha:WD fa as s (.str x))(hl:x.length<=1000000):WE (zC (RF fa) [none] yb CK zo) as (.lst<|(x.cps.toList.filter λc=>!Yv c).map λc=>D.str ⟨#[c]⟩):=
 ⟨_,xg (L5 ha) (by unfold xt;rw[zzB];exact ZE hl) Ml,v8 _,congrArg D.lst<|Zs _⟩
abbrev ja:SF:=(ze pM
 (ze oX
 tL))
def AU(hl:w.length<=1000000):
 RS (ja [sT<|nl (w::r),sT<|nl nm,sT<|.int k,sT<|.str w,none,none,none,none]) (oK<|(nv w).map λv=>(.num v,r)):=by
 let A:AS:=[sT<|nl (w::r),sT<|nl nm,sT<|.int k,sT<|.str w,none,none,none,none];show RS (ja A) _;have fin:∀q,ZY w=q->(oK<|(nv w).map λv=>(Tm.num v,r))=if q=true then .tup [.int 1,nl r]else .non:=λq hq=>by
  cases e:nv w with
  |none=>rw[Fu e]at hq;subst hq;rfl
  |some v=>
   obtain⟨a,b,c⟩:=ZI e;rw[c,MX a b]at hq;subst hq;rfl
 cases h0:(w==("":Str))with
 |true=>
  rw[fin false<|by unfold ZY;rw[h0];rfl];exact .seqR (.ifT (zE (zg (yk (zb (i:=3) rfl) za<|congrArg some h0) rfl) (λh=>nomatch h) λ_=>rfl)<|.ret ce)
 |false=>
  have t0:WT (fT<|f2 zP (fC<|.str "")<|zj .Eq) A false:=zg (yk (zb (i:=3) rfl) za<|congrArg some h0) rfl;cases h1:decide (w.length<=60)with
  |false=>
   rw[fin false<|by unfold ZY;rw[h0,h1];rfl];have:=of_decide_eq_false h1;exact .seqR (.ifT (zE t0 (λ_=>zE (zg (x4 (WN (zb (i:=3) rfl) hl) za)<|congrArg some<|zyN<|by omega) (λh=>nomatch h) λ_=>rfl) (λh=>nomatch h))<|.ret ce)
  |true=>
   have h1':=of_decide_eq_true h1;have t1:WT (fT<|f2 _ (fC<|.int 60)<|zj .Gt) A false:=zg (x4 (WN (zb (i:=3) rfl) hl) za) (congrArg some<|zyF<|by omega);cases ec:w.cps.toList with
   |nil=>exact absurd h0 (by rw[show w=("":Str)from yQ ec];decide)
   |cons c r'=>
   have hz:((⟨#[c]⟩:Str)==("0":Str))=(w.cps.toList.head? == some 48):=by rw[SU,KR,ec];by_cases h:c=48<;>simp[h]
   cases hb:(_ && !(w==("0":Str)))with
   |true=>
    rw[fin false<|by unfold ZY;rw[h0,h1,hb];rfl];rw[zyB]at hb;have b2:(w==("0":Str))=false:=by simpa using hb.2
    exact .seqR (.ifT (zE t0 (λ_=>zE t1 (λ_=>YX (zg (yk (z0 (zb (i:=3) rfl) za (Q3 hl ec) rfl) za<|congrArg some<|hz.trans hb.1) rfl) (λ_=>zg (Ym (zb (i:=3) rfl) za<|congrArg some b2) rfl) (λh=>nomatch h)) (λh=>nomatch h)) (λh=>nomatch h))<|.ret ce)
   |false=>
    refine .seq (zr (zE t0 (λ_=>zE t1 (λ_=>YX (zg (yk (z0 (zb (i:=3) rfl) za (Q3 hl ec) rfl) za<|congrArg some hz) rfl) (λhk=>zg ⋯ (by rw[hk,Bool.true_and]at hb;rw[hb];rfl)) λ_=>rfl) (λh=>nomatch h)) (λh=>nomatch h)) rfl) ?_;have hn:∀q,((w.cps.toList.filter λc=>!Yv c).map λc=>D.str ⟨#[c]⟩).isEmpty=q->WT _ A (!q):=λq hq=>
     zg (wm (q:=q) (Ir (zb (i:=3) rfl) hl) (zZ zI (by decide) rfl rfl) (by show wb 60 (.lst _) (.lst [])=_;rw[Tb,hq])) rfl
    have ef:ZY w=w.cps.toList.all Yv:=by unfold ZY;rw[h0,h1,hb];rfl
    cases ha:w.cps.toList.all Yv with
    |true=>
     rw[fin true<|ef.trans ha];refine .seq (zr (hn true ?_) rfl)<|.ret<|Lh za<|U0 rfl;rw[List.isEmpty_iff,List.map_eq_nil_iff,List.filter_eq_nil_iff];intro c m;rw[List.all_eq_true.mp ha c m];simp
    |false=>
     rw[fin false<|ef.trans ha];refine .seqR<|.ifT (hn false ?_)<|.ret ce;obtain⟨c,m,hc⟩:=List.all_eq_false.mp ha;rw[List.isEmpty_eq_false_iff];exact List.ne_nil_of_mem<|List.mem_map_of_mem<|List.mem_filter.mpr ⟨m,by simpa using hc⟩
def GK(h:fi as=some (xs,U'))(hf:forL g f xs U'=some o):vD fi g f as=some o:=by
 unfold vD;rwa [h]
noncomputable def M9(p:Str)(f:Nat):Nat->List Str->Option (Nat×List Str)
 |0,ws=>some (0,ws)
 |n+1,ws=>(ZZ p f ws).bind λx=>(M9 p f n x.2).map λy=>(x.1.cnt+y.1,y.2)
def kh:Option (Nat×List Str)->D
 |none=>.non
 |some y=>.tup [.int<|1+(y.1:Int),nl y.2]
def TR(W:D)(nm:List Str)(k:Int)(w:Str)(m:Int)(r:Option Out):Option (Nat×List Str)->Prop
 |none=>r=some (.rt<|.lf true .non)
 |some y=>∃e6 e7,r=some (.nx<|T8 W nm k w (m+y.1) y.2 e6 e7)
theorem ES{f:Nat}(vc:∀ws,(∀v ∈ ws,v.length<=1000000)->RE (self [(true,nl ws),(true,nl ["a",p]),(true,.int<|k+1)]) (oK<|ZZ p f ws)):
 ∀n i m ws e6 e7,(∀v ∈ ws,v.length<=1000000)->TR W ["a",p] k w m (forL (gN 6) (k_ self) (y4 i n)<|T8 W ["a",p] k w m ws e6 e7) (M9 p f n ws)
 |0,i,m,ws,e6,e7,_=>⟨e6,e7,by show some _=_;rw[show m+_=m by omega]⟩
 |n+1,i,m,ws,e6,e7,hv=>by
  have hs:=vc ws hv;rw[y_];unfold M9;cases e:ZZ p f ws with
  |none=>
   rw[e]at hs;exact Ud rfl (oj hs)
  |some x=>
   rw[e]at hs;obtain⟨t,Y'⟩:=x;have ih:=ES (W:=W) (w:=w) vc n (i+1) (m+t.cnt) Y' (sT<|.int i) (sT<|oK<|some (t,Y')) (λv mv=>hv v<|by rw[(vM f _ _ _ e).1];exact zzL _ mv);have e1:forL _ _ ((true,.int i)::y4 (i+1) n) (T8 W _ k w m ws e6 e7)=forL (gN 6) _ _ _:=
    zW rfl (m4 hs) rfl
   rw[e1,zyK];cases e2:M9 p f n Y' with
   |none=>rw[e2]at ih;exact ih
   |some y=>
    rw[e2]at ih;obtain⟨a,b,ih⟩:=ih;refine⟨a,b, ?_⟩;rw[ih];rw[show m+((t.cnt+y.1:Nat):Int)=m+t.cnt+y.1 by omega]
def Dr(w)(nm):zj .In (.str w) (nl nm)=some (.im (.bl (nm.any (· == w)))):=by
 rw[VO];have e0:Sb (.str w) (nl nm)=anyF _ _:=rfl;rw[e0,Zv];rfl
theorem Ci(hp:RH p):∀f h ws,f+1<=h->f<=13->(∀w ∈ ws,w.length<=1000000)->RE (xD h [(true,nl ws),(true,nl ["a",p]),(true,.int ((13-f:Nat):Int))]) (oK<|ZZ p f ws)
 |_,0,_,h,_,_=>absurd h (by omega)
 |0,h+1,ws,hh,_,hw=>by
  have e:ZZ p 0 ws=none:=by unfold ZZ;rfl
  rw[e];have hn:∃q,wb 60 (nl ws) (.lst [])=some q:=⟨_,Tb _⟩;obtain⟨q,hq⟩:=hn;exact RS.fn rfl (.seqR<|.ifT (zE (k:=q) (l:=true) (zg (xU (ve (i:=0) rfl) (zZ zI (by decide) rfl rfl) hq) rfl) (λ_=>zg (x4 (zb (i:=2) rfl) za) rfl) λ_=>rfl)<|.ret ce)
 |f+1,h+1,[],hh,hf,hw=>by
  have e:ZZ p (f+1) []=none:=by unfold ZZ;rfl
  rw[e];exact RS.fn rfl (.seqR<|.ifT ⋯ (.ret ce))
 |f+1,h+1,w::r,hh,hf,hw=>by
  let k:Int:=((13-(f+1):Nat):Int);have hk:k+1=((13-f:Nat):Int):=by show((13-(f+1):Nat):Int)+1=_;omega
  let A:AS:=[sT<|nl (w::r),sT<|nl ["a",p],sT<|.int k,sT<|.str w,none,none,none,none];refine RS.fn rfl<|.seq (zr (zE (k:=false) ⋯ (λ_=>zg (x4 (zb (i:=2) rfl) za)<|congrArg some<|zyF<|by omega) (λh=>nomatch h)) rfl)
   (.seq (U':=A) (zw (i:=3) (zy (zb rfl) za JZ)<|zh rfl) ?_)
  have hin:WT (fT<|f2 zP zA<|zj .In) A ((["a",p]:List Str).any (· == w)):=zg (Zu (ve (i:=3) rfl) (ve (i:=1) rfl)<|Dr w _) rfl;unfold ZZ;cases h0:(["a",p]:List Str).any (· == w)with
  |true=>
   rw[h0]at hin;rw[if_pos rfl];exact .seqR (.ifT hin<|.ret<|Lh za<|U0 rfl)
  |false=>
   rw[h0]at hin;rw[if_neg<|by simp];refine .seq (zr hin rfl) ?_;have vc:∀ws,(∀v ∈ ws,v.length<=1000000)->RE (xD h [(true,nl ws),(true,nl ["a",p]),(true,.int<|k+1)]) (oK<|ZZ p f ws):=λws hv=>by
    rw[hk];exact Ci hp f h ws (by omega) (by omega) hv
   have hlp:=λn=>ES (p:=p) (f:=f) (self:=xD h) (W:=nl (w::r)) (k:=k) (w:=w) vc n 0 1 r none none λv m=>hw v<|zzD _ m;have six:∀q,decide (0<ar w)=q->WT _ A q:=λq hq=>zg (Zu (ve (i:=3) rfl) LY.e<|I_ hq) rfl;have go:∀n e,wb 60 (.str w) (.str "same")=some e->n=(if e=true then 4 else 2)->decide (0<ar w)=true->
    RS (ze (yN _ (ze (zm true 4 zD)
            (ze (zm true 5<|wV zo (oS zD) oN Yq)
            (ze _
            (zt<|yC<|dC zS<|dC wg dN)))) xf) ja A) (kh<|M9 p f n r):=λn e he hn hq=>by
    refine .seqR<|.ifT (six true hq)<|.seq (zw (i:=4) za<|zh rfl)<|.seq (yZ (p:=5) (U0 rfl)<|zh rfl) ?_;have hr1:yq rF y8 (T8 (nl (w::r)) ["a",p] k w 1 r none none)=some (y4 0 n,T8 (nl (w::r)) ["a",p] k w 1 r none none):=by
     cases e with
     | true =>
            subst hn;exact xv (j:=4) (zk (Zu (zZ (os:=[WB 2,WB 4]) (zi za<|zi za zI) (Ww rfl) rfl rfl) (xr (yk (c:=true) (zb (i:=3) rfl) za he).e rfl).e rfl) zq) (by decide) (by decide)
     |false=>
            subst hn;exact xv (j:=2) (zk (Zu (zZ (os:=[WB 2,WB 4]) (zi za<|zi za zI) (Ww rfl) rfl rfl) (xr (yk (c:=false) (zb (i:=3) rfl) za he).e rfl).e rfl) zq) (by decide) (by decide)
    have hl:=hlp n;cases e2:M9 p f n r with
    |none=>
     rw[e2]at hl;exact⟨_,z9<|GK hr1 hl,rfl,rfl⟩
    |some y=>
     rw[e2]at hl;obtain⟨e6,e7,hl⟩:=hl;exact .seq (GK hr1 hl)<|.ret<|Lh (zb (i:=4) rfl)<|ve (i:=5) rfl
   by_cases h2:ar w=2
   . rw[if_pos h2];have ho:Ye w:=by rcases wD w with⟨a,_⟩|⟨_,a⟩|a<;>first|exact a|omega
     have g:=go 2 false (H9 ho).2.2 rfl (by rw[h2];rfl);have e:kh (M9 p f 2 r)=oK ((ZZ p f r).bind λx=>(ZZ p f x.2).bind λy=>some (.op w x.1 y.1,y.2)):=by
      unfold M9;cases e1:ZZ p f r with
      |none=>rfl
      |some x=>
            rw[zyK,zyK];unfold M9;cases e2:ZZ p f x.2 with
            |none=>rfl
            |some y=>
             show D.tup [.int<|1+((x.1.cnt+(y.1.cnt+0):Nat):Int),nl y.2] = .tup [.int ((x.1.cnt+y.1.cnt+1:Nat):Int),nl y.2];rw[show(1:Int)+((x.1.cnt+(y.1.cnt+0):Nat):Int)=((x.1.cnt+y.1.cnt+1:Nat):Int) by omega]
     rw[e]at g;exact g
   . rw[if_neg h2]
     by_cases h4:ar w=4
     . rw[if_pos h4];have ho:w="same":=by rcases wD w with⟨_,a⟩|⟨a,_⟩|a<;>first|exact a|omega
       have g:=go 4 true (by rw[ho];rfl) rfl (by rw[h4];rfl);have e:kh (M9 p f 4 r)=oK ((ZZ p f r).bind λx=>(ZZ p f x.2).bind λy=>(ZZ p f y.2).bind λz=>(ZZ p f z.2).bind λu=>some (.sm x.1 y.1 z.1 u.1,u.2)):=by
            unfold M9;cases e1:ZZ p f r with
            |none=>rfl
            |some x=>
             rw[zyK,zyK];unfold M9;cases e2:ZZ p f x.2 with
             |none=>rfl
             |some y=>
              rw[zyK,zyK];unfold M9;cases e3:ZZ p f y.2 with
              |none=>rfl
              |some z=>
               rw[zyK,zyK];unfold M9;cases e4:ZZ p f z.2 with
               |none=>rfl
               |some u=>
                show D.tup _ = .tup [.int ((x.1.cnt+y.1.cnt+z.1.cnt+u.1.cnt+1:Nat):Int),nl u.2];rw[show(1:Int)+((x.1.cnt+(y.1.cnt+(z.1.cnt+(u.1.cnt+0))):Nat):Int)=((x.1.cnt+y.1.cnt+z.1.cnt+u.1.cnt+1:Nat):Int) by omega]
       rw[e]at g;exact g
     . rw[if_neg h4];have h0:ar w=0:=by rcases wD w with⟨_,a⟩|⟨_,a⟩|a<;>first|exact a|omega
       exact .seq (zr (six false<|by rw[h0];rfl) rfl) (AU<|hw w<|by simp)
def Uy(hy:(y.length==0)=false)(hx:x.length<=1000000)(e:Txt.partition x y=(p,q,r)):ED (.str x) [.str y]=some (.im<|.tup [.str p,.str q,.str r]):=by
 show(if _ then some _ else none)=_;rw[if_pos ⟨hy,ZE hx⟩,e]
def Hl(hw:NB w):∃q,Txt.partition (J (w::r)) sb=(w,q,J r):=by
 cases r with
 |nil=>exact⟨Str.empty,T9 Vf hw⟩
 |cons b r=>exact⟨sb,NV Vf hw⟩
def Wj:(J r).length<=(J (w::r)).length:=by
 cases r with
 |nil=>exact Nat.zero_le _
 |cons b r=>rw[len_eq,len_eq,V1,zzJ,zzT];omega
noncomputable def Iz(p:Str)(k n:Int)(t:Tm):TZ:=if p="b" then MV n t else Fm n k t
noncomputable def w6(p:Str)(k n:Int)(X:Str):Option (TZ):=if(Txt.split X sb).headD ""="rows" then wY k n (J (Txt.split X sb).tail)else(TJ p X).map<|Iz p k n
def mX(h:ws=ye t):J ws=S t:=by
 rw[h];show Str.join sb _=Str.join Kq _;rw[show sb=Kq from blank_eq]
def Ek(ok:t.ko):Txt.split (S t) sb=ye t:=Zx (So t) λw m=>(YG ok w m).1
def Ia(hp:RH p):(∃t,TJ p X=some t/\ZZ p 13 (Txt.split X sb)=some (t,[])/\t.cnt<=40)\/(TJ p X=none/\∀t,ZZ p 13 (Txt.split X sb)=some (t,[])->40<t.cnt):=by
 cases e:TJ p X with
 |some t=>
  obtain⟨ok,hh,hc,rfl⟩:=Xg e;have:=YL hp t 13 [] ok hh;rw[zyD]at this;exact .inl ⟨t,rfl,by rw[Ek<|Y1 hp ok];exact this,hc⟩
 |none=>
  refine .inr ⟨rfl,λt h=>?_⟩;obtain⟨a,b,c⟩:=vM 13 _ _ _ h;rw[zyD]at a;refine Nat.lt_of_not_le λz=>UA e ⟨t,b,c,z, ?_⟩;rw[(sp X).2.2];exact mX a
def EU:∀t:Tm,zj .Is t.toD .non=some (.im<|.bl false)
 | .num _=>rfl
 | .nam _=>rfl
 | .op _ _ _=>rfl
 | .sm _ _ _ _=>rfl
def S6:zj .Is .non .non=some (.im<|.bl true):=rfl
def ZN:wb 60 (.str w) (.str u)=some (w==u):=rfl
def OE(hn:1<=n)(K':n<=8)(hX:X.length<=100000):RE (wJ [(true,.str X),(true,.int n)]) (oT<|w6 "b" n n X):=by
 obtain⟨w1,w2,w3⟩:=sp X;unfold w6;cases D':Txt.split X sb with
 |nil=>exact absurd D' w1
 |cons w r=>
  rw[D']at w2 w3;obtain⟨q,hp⟩:=Hl (r:=r) (w2 w<|by simp);rw[<-w3]at hp;have vj:(J r).length<=100000:=by have:=Wj (w:=w) (r:=r);rw[<-w3]at this;omega
  refine RS.fn rfl<|.seq (zw (i:=2) (UR (zb rfl) rfl ce<|Uy Wl (by omega) hp)<|zh rfl) ?_;show RS _ (oT (if w="rows" then wY n n (J r)else(TJ "b" X).map<|Iz "b" n n));have ht:∀b,(w==("rows":Str))=b->WT (fT<|f2 (f2 zH z6 zU) (fC<|.str "rows")<|zj .Eq) [sT<|.str X,sT<|.int n,sT<|.tup [.str w,.str q,.str<|J r],none] b:=λb hb=>zg (yk (zy (zb rfl) za rfl) za<|by rw[ZN,hb]) rfl
  by_cases h:w="rows"
  . rw[if_pos h];exact .seqR<|.ifT (ht true<|by rw[h];exact beq_self_eq_true _)<|.ret<|Zt (zy (zb (i:=2) rfl) za rfl).e (ve rfl) (ve rfl)<|Pg vj
  . rw[if_neg h];refine .seq (zr (ht false<|str_beq h) rfl)<|.seq (zw (i:=3) (yt (ve rfl) (zZ (zi za<|zi za zI) (by decide) rfl rfl)<|LQ (.inl rfl) hX)<|zh rfl)<|.ret ?_;cases e:TJ "b" X with
    |none=>exact WI ⋯ ce
    |some t=>
     obtain⟨ok,hh,hc,_⟩:=Xg e;exact UB (zg (Zu (ve rfl) ce<|EU t) rfl)<|vE (ve rfl) (ve rfl) ⟨_,JJ (q:=true) (n:=n) (by omega) (by omega) ok (by omega),(wc _).1,congrArg D.lst (wc _).2⟩
def Cj(hn:1<=n)(K':n<=8)(hm:1<=m)(vh:m<=8)(hX:X.length<=100000):RE (wH [(true,.str X),(true,.int n),(true,.int m)]) (oT<|w6 "c" m n X):=by
 obtain⟨w1,w2,w3⟩:=sp X;unfold w6;cases D':Txt.split X sb with
 |nil=>exact absurd D' w1
 |cons w r=>
  rw[D']at w2 w3;obtain⟨q,hp⟩:=Hl (r:=r) (w2 w<|by simp);rw[<-w3]at hp;have vj:(J r).length<=100000:=by have:=Wj (w:=w) (r:=r);rw[<-w3]at this;omega
  refine RS.fn rfl<|.seq (zw (i:=3) (UR (zb rfl) rfl ce<|Uy Wl (by omega) hp)<|zh rfl) ?_;show RS _ (oT (if w="rows" then wY m n (J r)else(TJ "c" X).map<|Iz "c" m n));have ht:∀b,(w==("rows":Str))=b->WT (fT<|f2 (f2 zP z6 zU) (fC<|.str "rows")<|zj .Eq) [sT<|.str X,sT<|.int n,sT<|.int m,sT<|.tup [.str w,.str q,.str<|J r],none] b:=λb hb=>zg (yk (zy (zb rfl) za rfl) za<|by rw[ZN,hb]) rfl
  by_cases h:w="rows"
  . rw[if_pos h];exact .seqR<|.ifT (ht true<|by rw[h];exact beq_self_eq_true _)<|.ret<|Zt (zy (zb (i:=3) rfl) za rfl).e (ve rfl) (ve rfl)<|Pg vj
  . rw[if_neg h];refine .seq (zr (ht false<|str_beq h) rfl)<|.seq (zw (i:=4) (yt (ve rfl) (zZ (zi za<|zi za zI) (by decide) rfl rfl)<|LQ (.inr rfl) hX)<|zh rfl)<|.ret ?_;cases e:TJ "c" X with
    |none=>exact WI ⋯ ce
    |some t=>
     obtain⟨ok,hh,hc,_⟩:=Xg e;exact UB (zg (Zu (ve rfl) ce<|EU t) rfl)<|Zt (ve rfl) (ve rfl) (ve rfl) ⟨_,AM (s:=true) (r:=true) (q:=true) (n:=n) (m:=m) (by omega) (by omega) (by omega) (by omega) ok (by omega),(wc _).1,congrArg D.lst (wc _).2⟩
abbrev i8:SF:=(ze mM
 (ze (yN kU (zt<|fC .non) xf)
 (ze (zm true 6 Sa)
 (ze (yN (fT<|f2 zP Jf<|zj .Eq) (zt<|zC (yq xQ y8) [none,some 6,some 2] yb z_ sP) xf)
 (zt<|zC (yq Zb y8) [none,some 6,some 2] yb z_ qb)))))
def Aw(hp:RH p)(hn:1<=n)(K':n<=8)(hk:1<=k)(i6:k<=8)(hX:X.length<=100000):RS (i8 [sT<|.str X,sT<|.int k,sT<|.int n,sT<|nl ["a",p],none,none,none]) (oT<|(TJ p X).map<|Iz p k n):=by
 have hw:∀w ∈ Txt.split X sb,w.length<=1000000:=λw m=>by have:=yd m;omega
 have tk:=Ci hp 13 20 (Txt.split X sb) (by decide) (by decide) hw;let A:D->AS:=λd=>[sT<|.str X,sT<|.int k,sT<|.int n,sT<|nl ["a",p],none,sT d,none];refine .seq (U':=A<|oK<|ZZ p 13<|Txt.split X sb) (yZ (p:=5) (Zt (we (y:=sb) (zb rfl) Wl hX) (ve (i:=3) rfl) ce tk)<|zh rfl) ?_
 rcases Ia (X:=X) hp with⟨t,e1,e2,hc⟩|⟨e1,e2⟩
 . rw[e1,e2];obtain⟨ok,hh,_,hS⟩:=Xg e1;have ew:Txt.split X sb=ye t:=by rw[hS];exact Ek<|Y1 hp ok
   have hif:WT kU (A<|oK<|some (t,[])) false:=
    zE (k:=false) (zg (Zu (ve (i:=5) rfl) ce<|rfl) rfl) (λ_=>zE (k:=false) (zg (x4 (zy (zb (i:=5) rfl) za<|SB (k:=0) rfl) za)<|congrArg some<|zyF (by show ¬(40:Int)<(t.cnt:Int);omega)) (λ_=>zg (wm (q:=true) (zy (zb (i:=5) rfl) za<|SB (k:=1) rfl).e (zZ zI (by decide) rfl rfl) rfl) rfl) (λh=>nomatch h)) (λh=>nomatch h)
   refine .seq (zr hif rfl)<|.seq (yZ (p:=6) (by have:=we (as:=A<|oK<|some (t,[])) (a:=fV 0) (y:=sb) (zb rfl) Wl hX;rw[ew]at this;exact this)<|zh rfl) ?_
   rcases hp with rfl|rfl
   . exact .seqR<|.ifT (zg (xU (q:=true) (ve (i:=3) rfl) (zZ (zi za<|zi za zI) (by decide) rfl rfl) rfl) rfl)<|.ret (by
      have:=HV (as:=[sT<|.str X,sT<|.int k,sT<|.int n,sT<|nl ["a","b"],none,sT<|oK<|some (t,[]),sT<|nl<|ye t]) (cap:=[none,some 6,some 2]) (fn:=fV 2) hn K' ok (by omega) (ve rfl) rfl;show WE _ _ (.lst<|(Iz "b" k n t).map zx);rw[show Iz "b" k n t=MV n t from if_pos rfl];exact this)
   . refine .seq (zr (zg (xU (q:=false) (ve (i:=3) rfl) (zZ (zi za<|zi za zI) (by decide) rfl rfl) rfl) rfl) rfl)<|.ret (by
      have:=HP (as:=[sT<|.str X,sT<|.int k,sT<|.int n,sT<|nl ["a","c"],none,sT<|oK<|some (t,[]),sT<|nl<|ye t]) (cap:=[none,some 6,some 2]) (fm:=fV 1) hn K' (m:=k) (by omega) i6 ok (by omega) (ve rfl) rfl;show WE _ _ (.lst<|(Iz "c" k n t).map zx);rw[show Iz "c" k n t=Fm n k t from if_neg<|by decide +kernel];exact this)
 . rw[e1];cases e3:ZZ p 13 (Txt.split X sb)with
   |none=>exact .seqR (.ifT (zE (k:=true) (zg (Zu (ve (i:=5) rfl) ce S6) rfl) (λh=>nomatch h) λ_=>rfl)<|.ret ce)
   |some x=>
    obtain⟨t,Y'⟩:=x;have h0:WT (fT<|f2 wg (fC .non)<|zj .Is) (A<|oK<|some (t,Y')) false:=zg (Zu (ve (i:=5) rfl) ce<|rfl) rfl
    by_cases hc:40<t.cnt
    . exact .seqR<|.ifT (zE (k:=false) h0 (λ_=>zE (k:=true) (zg (x4 (zy (zb (i:=5) rfl) za<|SB (k:=0) rfl) za)<|congrArg some<|zyN<|by show(40:Int)<(t.cnt:Int);omega) (λh=>nomatch h) λ_=>rfl) (λh=>nomatch h))<|.ret ce
    . cases Y' with
      |nil=>exact absurd (e2 t e3) hc
      |cons v Y'=>
       exact .seqR<|.ifT (zE (k:=false) h0 (λ_=>zE (k:=false) (zg (x4 (zy (zb (i:=5) rfl) za<|SB (k:=0) rfl) za)<|congrArg some<|zyF (by show ¬(40:Int)<(t.cnt:Int);omega)) (λ_=>zg (wm (q:=false) (zy (zb (i:=5) rfl) za<|SB (k:=1) rfl).e (zZ zI (by decide) rfl rfl) rfl) rfl) (λh=>nomatch h)) (λh=>nomatch h))<|.ret ce
def Fd(h:∃c ∈ w.cps.toList,Yv c=false):nv w=none:=by
 cases e:nv w with
 |none=>rfl
 |some v=>
  obtain⟨a,b,rfl⟩:=ZI e;obtain⟨c,m,hc⟩:=h;have:=Yj a c m;unfold Yv at hc;simp[this.1,this.2]at hc
def NC:nv ("":Str)=none:=by
 cases e:nv "" with
 |none=>rfl
 |some v=>
  obtain⟨a,b,c⟩:=ZI e;exact absurd (congrArg (λq:Str=>q.cps.toList) c).symm<|Ha a
def MH(h:1<=k):wY k n (J [])=none:=by
 have e1:Txt.split (J []) sc=_:=Qi pW (ps:=[""]) ⋯ ⋯;have e2:Txt.split "" sb=_:=Zx (ws:=[""]) ⋯ (by simp[NB];decide +kernel);unfold wY;rw[e1];have e3:pq n ""=none:=by
  unfold pq vW;rw[e2];unfold Vv num;rw[NC];rfl
 unfold Vv;rw[e3];rfl
def JT(hp:RH p):TJ p (J [("rows":Str)])=none:=by
 rcases Ia hp with⟨t,_,e2,_⟩|⟨e,_⟩
 . rw[(Zx (ws:=["rows"]) ⋯ (by simp[NB];decide +kernel))]at e2;unfold ZZ at e2;have h0:ar "rows"=0:=by
    rcases wD "rows" with⟨a,_⟩|⟨a,_⟩|a
    . exact absurd a (by unfold Ye;decide +kernel)
    . exact absurd a ⋯
    . exact a
   rw[if_neg (WY hp<|by unfold isNm;decide +kernel),h0,Fd ⋯]at e2;cases e2
 . exact e
def EY(hp:RH p)(hn:1<=n)(K':n<=8)(hk:1<=k)(i6:k<=8)(hX:X.length<=100000):RE (xp [(true,.str X),(true,.int k),(true,.int n),(true,nl ["a",p])]) (oT<|w6 p k n X):=by
 obtain⟨w1,w2,w3⟩:=sp X;have ht:∀b,(_==("rows ":Str))=b->WT mR (ya 7 [(true,.str X),(true,.int k),(true,.int n),(true,nl ["a",p])]) b:=λb hb=>
  zg (yk (Zf (lo:=none) (hi:=some 5) (zb rfl) rfl rfl<|if_pos<|ZE<|by omega) za<|by rw[ZN,hb]) rfl
 have hu:NB ("rows":Str):=by unfold NB;decide +kernel
 have h5:(5:Nat)=("rows":Str).length+1:=by decide +kernel
 have es:("rows ":Str)=("rows":Str)++sb:=by decide +kernel
 have yes:∀r,r≠[]->Txt.split X sb=("rows":Str)::r->RE (xp _) (oT<|w6 p k n X):=λr hr D'=>by
  rw[D']at w3;obtain⟨a,b⟩:=G1 (u:="rows") h5 hr;rw[<-w3]at a b;have et:w6 p k n X=wY k n (J r):=by unfold w6;rw[D'];exact if_pos rfl
  rw[et];exact RS.fn rfl<|.seqR<|.ifT (ht true<|by rw[es,show Txt.slice X none (some 5)=_ from a];exact beq_self_eq_true _)<|rE (by omega) hX b
 have no:Txt.slice X none (some 5)≠("rows ":Str)->(Txt.split X sb).headD ""=("rows":Str)->Txt.split X sb=[("rows":Str)]:=λh e=>by
  cases D':Txt.split X sb with
  |nil=>exact absurd D' w1
  |cons w r=>
   rw[D']at e w3;have e:=e;subst e;cases r with
   |nil=>rfl
   |cons b r=>
    obtain⟨a,_⟩:=G1 (u:="rows") (r:=b::r) h5 (by simp);rw[<-w3]at a;exact absurd (a.trans es.symm) h
 by_cases h:Txt.slice X none (some 5)=("rows ":Str)
 . have h':=h;rw[es,w3]at h';obtain⟨r,hr,D'⟩:=L9 (k:=5) hu h5 w1 w2 h';exact yes r hr D'
 . have et:w6 p k n X=(TJ p X).map (Iz p k n):=by
    unfold w6
    by_cases e:(Txt.split X sb).headD ""="rows"
    . have:=no h e;rw[if_pos e,this];rw[this]at w3;show wY k n (J [])=_;rw[MH hk,w3,JT hp];rfl
    . rw[if_neg e]
   rw[et];exact RS.fn rfl<|.seq (zr (ht false<|str_beq h) rfl)<|Aw hp hn K' hk i6 hX
noncomputable def PK(X:Str):Option (Int×Int):=match Txt.split X sb with
 | [a,b,c,d]=>if a="values"/\c="around" then(num 1 8 b).bind λn=>(num 1 6 d).map λm=>(n,m)else none
 |_=>none
noncomputable def oP:Option (Int×Int)->D
 |none=>.non
 |some x=>.tup [.int x.1,.int x.2]
def OZ(h:PK X=some (n,m)):(1<=n/\n<=8)/\1<=m/\m<=6:=by
 unfold PK at h
 split at h
 . split at h
   . obtain⟨n',h1,h2⟩:=bS_ h;obtain⟨m',h3,h4⟩:=zzW.mp h2;cases h4;exact⟨Ws h1,Ws h3⟩
   . cases h
 . cases h
def Sm(X):(∃a b c d,Txt.split X sb=[a,b,c,d]/\a="values"/\c="around")\/(PK X=none/\((Txt.split X sb).length≠4\/∃a b c d,Txt.split X sb=[a,b,c,d]/\¬(a="values"/\c="around"))):=by
 unfold PK
 rcases D':Txt.split X sb with _|⟨a,_|⟨b,_|⟨c,_|⟨d,_|_⟩⟩⟩⟩
 . exact .inr ⟨rfl,.inl ⋯⟩
 . exact .inr ⟨rfl,.inl ⋯⟩
 . exact .inr ⟨rfl,.inl ⋯⟩
 . exact .inr ⟨rfl,.inl ⋯⟩
 . by_cases h:a="values"/\c="around"
   . exact .inl ⟨a,b,c,d,rfl,h.1,h.2⟩
   . exact .inr ⟨if_neg h,.inr ⟨a,b,c,d,rfl,h⟩⟩
 . exact .inr ⟨rfl,.inl ⋯⟩
abbrev jh(i:Nat):TF:=(yY (fT<|f2 (fP (aC (fV i) aN) z8) VC<|zj .NotEq)<|yY (fT<|f2 (f2 (fV i) z6 zU) (fC<|.str "values")<|zj .NotEq)<|fT<|f2 (f2 (fV i) yJ zU) (fC<|.str "around")<|zj .NotEq)
def SZ{i:Nat}(h:as[i]? = some (sT<|yK<|Txt.split X sb)):(∃a b c d,Txt.split X sb=[a,b,c,d]/\a="values"/\c="around"/\WT (jh i) as false)\/(PK X=none/\WT (jh i) as true):=by
 have hl:WD (f2 _ VC _) as true _:=wm (X2<|ve h).e ce (by show some _=_;rw[zzB]);have four:∀{a b c d:Str},Txt.split X sb=[a,b,c,d]->∀q,(!_ || !(c==_))=q->WT (jh i) as q:=λ{a b c d} e q hq=>by
  rw[e]at h hl;refine zE (k:=false) (zg hl rfl) (λ_=>?_) ⋯;rw[<-hq];exact zE (zg (Ym (zy ⋯ za (xR rfl)) za rfl) rfl) (λz=>by rw[z];exact zg (Ym (zy ⋯ za (xR rfl)) za rfl) rfl) (λz=>by rw[z];rfl)
 rcases Sm X with⟨a,b,c,d,e,ha,hc⟩|⟨e0,e|⟨a,b,c,d,e,hn⟩⟩
 . exact .inl ⟨a,b,c,d,e,ha,hc,four e false<|by rw[ha,hc];simp⟩
 . refine .inr ⟨e0,zE (k:=true) (zg hl ?_) ⋯ ⋯⟩;have:(((Txt.split X sb).length:Int)==4)=false:=beq_eq_false_iff_ne.mpr (by omega);rw[this];rfl
 . refine .inr ⟨e0,four e true ?_⟩
   by_cases h1:a="values"
   . have h2:=λz=>hn ⟨h1,z⟩;rw[str_beq h2];simp
   . rw[str_beq h1];rfl
def IP(hX:X.length<=100000):RE (wW [(true,.str X)]) (oP<|PK X):=by
 refine RS.fn rfl<|.seq (yZ (p:=1) (we (y:=sb) (zb rfl) Wl hX)<|zh rfl) ?_
 rcases SZ (X:=X) (i:=1) (as:=[sT<|.str X,sT<|yK<|Txt.split X sb,none,none]) rfl with⟨a,b,c,d,e,ha,hc,ht⟩|⟨e,ht⟩
 . have hb:b.length<=1000000:=by have:=yd (x:=X) (y:=sb) (p:=b) (by rw[e];simp);omega
   have hd:d.length<=1000000:=by have:=yd (x:=X) (y:=sb) (p:=d) (by rw[e];simp);omega
   have e1:PK X=(num 1 8 b).bind λn=>(num 1 6 d).map λm=>(n,m):=by unfold PK;rw[e];exact if_pos ⟨ha,hc⟩
   rw[e1];rw[e]at ht ⊢;refine .seq (zr ht rfl)<|.seq (zw (i:=2) (VZ (zy (zb (i:=1) rfl) za<|xR (k:=1) rfl).e ce ce<|Vb hb)<|zh rfl)<|.seq (zw (i:=3) (VZ (zy (zb (i:=1) rfl) za<|xR (k:=3) rfl).e ce ce<|Vb hd)<|zh rfl)<|.ret ?_;cases h1:num 1 8 b with
   |none=>exact WI ⋯ ce
   |some n=>
    cases h2:num 1 6 d with
    |none=>exact WI ⋯ ce
    |some m=>exact UB ⋯ (Ue (zi (zb rfl)<|zi (zb rfl) zI) (Ww rfl) rfl rfl rfl).e
 . rw[e];exact .seqR<|.ifT ht<|.ret ce
noncomputable def Q1(n:Int)(X:Str):Option (TZ):=if(Txt.split X sb).headD ""="join" then w6 "b" n n (J (Txt.split X sb).tail)else none
def JS(hn:1<=n)(K':n<=8)(hX:X.length<=100000):RE (xM [(true,.str X),(true,.int n)]) (oT<|Q1 n X):=by
 obtain⟨w1,w2,w3⟩:=sp X;unfold Q1;cases D':Txt.split X sb with
 |nil=>exact absurd D' w1
 |cons w r=>
  rw[D']at w2 w3;obtain⟨q,hp⟩:=Hl (w2 w<|by simp);rw[<-w3]at hp;have vj:(J r).length<=100000:=by have:=Wj (w:=w) (r:=r);rw[<-w3]at this;omega
  refine RS.fn rfl<|.seq (zw (UR ⋯ rfl ce (Uy Wl (by omega) hp))<|zh rfl)<|.ret ?_;show WE _ _ (oT (if w="join" then w6 "b" n n (J r)else none));have ht:∀b,(w=="join")=b->WT (fT<|f2 (f2 zH z6 zU) _ _) [sT<|.str X,sT<|.int n,sT<|.tup [.str w,.str q,.str<|J r]] b:=λb hb=>zg (yk ⋯ za (by rw[ZN,hb])) rfl
  by_cases h:w="join"
  . rw[if_pos h];exact WI (ht true<|by rw[h];exact beq_self_eq_true _)<|vE (zy ⋯ za rfl).e (ve rfl)<|OE hn K' vj
  . rw[if_neg h];exact UB (ht false<|str_beq h) ce
noncomputable def G0(n:Int)(X:Str):Option Int:=match Txt.split X sb with
 | [a,b]=>if a="nothing" then num 0 (n-1) b else none
 |_=>none
def JW(hX:X.length<=100000):RE (yL [(true,.str X),(true,.int n)]) (oD<|G0 n X):=by
 refine RS.fn rfl<|.seq (yZ (p:=2) (we (y:=sb) (zb rfl) Wl hX)<|zh rfl) ?_;let A:AS:=[sT<|.str X,sT<|.int n,sT<|yK<|Txt.split X sb];have hl:WD (f2 (fP xQ z8) yJ<|zj .NotEq) A true _:=wm (X2<|ve (i:=2) rfl).e ce (by show some _=_;rw[zzB]);show RS (ze _ _ A) _
 by_cases h2:(Txt.split X sb).length=2
 . obtain⟨a,b,e⟩:∃a b,Txt.split X sb=[a,b]:=by
    rcases D':Txt.split X sb with _|⟨a,_|⟨b,_|⟨c,r⟩⟩⟩
    . rw[D']at h2;cases h2
    . rw[D']at h2;cases h2
    . exact⟨a,b,rfl⟩
    . rw[D']at h2;simp at h2
   have hb:b.length<=1000000:=by have:=yd (x:=X) (y:=sb) (p:=b) (by rw[e];simp);omega
   have e1:G0 n X=if a="nothing" then num 0 (n-1) b else none:=by unfold G0;rw[e]
   have hA:A=[sT<|.str X,sT<|.int n,sT<|yK [a,b]]:=by show[_,_,_]=_;rw[e]
   rw[e1];rw[e,hA]at hl;rw[hA];have ht:∀q,(!(a==("nothing":Str)))=q->WT (yY _<|fT<|f2 (f2 zH z6 zU) (fC<|.str "nothing")<|zj .NotEq) _ q:=λq hq=>
    zE (k:=false) (zg hl rfl) (λ_=>zg ⋯ (by rw[hq];rfl)) (λh=>nomatch h)
   by_cases h:a="nothing"
   . rw[if_pos h];exact .seq (zr (ht false<|by rw[h];rfl) rfl)<|.ret (VZ (zy (zb (i:=2) rfl) za<|xR (k:=1) rfl).e ce (Y5 (zb (i:=1) rfl) za).e<|Vb hb).e
   . rw[if_neg h];exact .seqR<|.ifT (ht true<|by rw[str_beq h];rfl)<|.ret ce
 . have e1:G0 n X=none:=by
    unfold G0
    rcases D':Txt.split X sb with _|⟨a,_|⟨b,_|⟨c,r⟩⟩⟩
    . rfl
    . rfl
    . rw[D']at h2;exact absurd rfl h2
    . rfl
   rw[e1];refine .seqR<|.ifT (zE (k:=true) (zg hl ?_) (λh=>nomatch h) λ_=>rfl)<|.ret ce;have:(((Txt.split X sb).length:Int)==2)=false:=beq_eq_false_iff_ne.mpr (by omega);rw[this];rfl
def Dx(h)(w):num 1 h w=(num 0 h w).bind λv=>if 1<=v then some v else none:=by
 unfold num;cases e:nv w with
 |none=>rfl
 |some v=>
  have:=(ZI e).1
  by_cases a:v<=h<;>by_cases b:1<=v<;>simp[a,b,this]
def Pv(e:num 1 h w=none):(num 0 h w).getD (-1)<1:=by
 rw[Dx]at e;cases e0:num 0 h w with
 |none=>decide
 |some v=>
  rw[e0,zyK]at e;refine Int.lt_of_not_ge λz=>?_;rw[if_pos ⋯]at e;cases e
def Ph(e:num 1 h w=some v):(num 0 h w).getD (-1)=v/\1<=v:=by
 rw[Dx]at e;obtain⟨u,e1,e2⟩:=bS_ e;obtain⟨a,b⟩:=zv e2;rw[e1];exact⟨b,⋯⟩
def Hs(hp:RH p):TJ p (J [])=none:=by
 rcases Ia hp with⟨t,_,e2,_⟩|⟨e,_⟩
 . rw[(Zx (ws:=[""]) ⋯ (by simp[NB];decide +kernel))]at e2;unfold ZZ at e2;have h0:ar ""=0:=by
    rcases wD "" with⟨a,_⟩|⟨a,_⟩|a
    . exact absurd a (by unfold Ye;decide +kernel)
    . exact absurd a ⋯
    . exact a
   rw[if_neg (WY hp<|by unfold isNm;decide +kernel),h0,NC]at e2;cases e2
 . exact e
def V6(hp:RH p):w6 p k n (J [])=none:=by
 unfold w6;rw[Hs hp];rfl
def VT{k:Nat}(hu:NB u)(hk:k=u.length+1)(hv:v=u++sb)(X):(∃r,r≠[]/\Txt.split X sb=u::r/\Txt.slice X none (some (k:Int))=v/\Txt.slice X (some (k:Int)) none=J r)\/(Txt.slice X none (some (k:Int))≠v/\((Txt.split X sb).headD ""=u->Txt.split X sb=[u])):=by
 obtain⟨w1,w2,w3⟩:=sp X
 by_cases h:Txt.slice X none (some k)=v
 . have h':=h;rw[hv,w3]at h';obtain⟨r,hr,D'⟩:=L9 hu hk w1 w2 h';rw[D']at w3;obtain⟨a,b⟩:=G1 hk hr;rw[<-w3]at b;exact .inl ⟨r,hr,D',h,b⟩
 . refine .inr ⟨h,λe=>?_⟩;cases D':Txt.split X sb with
   |nil=>exact absurd D' w1
   |cons w r=>
    rw[D']at e w3;have e:w=u:=e;subst e;cases r with
    |nil=>rfl
    |cons b r=>
     obtain⟨a,_⟩:=G1 (r:=b::r) hk ⋯;rw[<-w3,<-hv]at a;exact absurd a h
def rZ(n)(X):(Txt.slice X none (some 5)=("join ":Str)/\Q1 n X=w6 "b" n n (Txt.slice X (some 5) none))\/(Txt.slice X none (some 5)≠("join ":Str)/\Q1 n X=none):=by
 rcases VT (u:="join") (by unfold NB;decide +kernel) ⋯ ⋯ X with⟨r,hr,D',a,b⟩|⟨a,b⟩
 . refine .inl ⟨a, ?_⟩;unfold Q1;rw[D',show Txt.slice X (some 5) none=J r from b];exact if_pos rfl
 . refine .inr ⟨a, ?_⟩;unfold Q1
   by_cases h:(Txt.split X sb).headD ""="join"
   . rw[b h];exact V6<|.inl rfl
   . rw[if_neg h]
def uV(n)(X):(Txt.slice X none (some 8)=("nothing ":Str)/\G0 n X=num 0 (n-1) (Txt.slice X (some 8) none))\/(Txt.slice X none (some 8)≠("nothing ":Str)/\G0 n X=none):=by
 rcases VT (u:="nothing") (by unfold NB;decide +kernel) ⋯ ⋯ X with⟨r,hr,D',a,b⟩|⟨a,b⟩
 . refine .inl ⟨a, ?_⟩;unfold G0;rw[D',show Txt.slice X (some 8) none=J r from b]
   rcases r with _|⟨v,_|_⟩
   . exact absurd rfl hr
   . exact if_pos rfl
   . show none=_;unfold num;rw[Fd ⟨32,by rw[V1];simp,rfl⟩];rfl
 . refine .inr ⟨a, ?_⟩;unfold G0
   rcases D':Txt.split X sb with _|⟨v,_|⟨u,_|_⟩⟩
   . rfl
   . rfl
   . by_cases h:v="nothing"
     . have:=b (by rwa [D']);rw[D']at this;simp at this
     . exact if_neg h
   . rfl
abbrev Hd:=Int×Int×TZ×Int
noncomputable def M0(n m:Int)(T:TZ):List Str->Nat ⊕ Hd
 | []=>.inl 2
 |z::_=>(G0 n z).elim (.inl 2) λe=>.inr (n,m,T,e)
noncomputable def hd2(n m:Int):List Str->Nat ⊕ Hd
 | []=>.inl 1
 |y::L=>(Q1 n y).elim (.inl 1) λT=>M0 n m T L
noncomputable def qI:List Str->Nat ⊕ Hd
 | []=>.inl 0
 |x::L=>(PK x).elim (.inl 0) λp=>hd2 p.1 p.2 L
def oH:Nat ⊕ Hd->D
 | .inl k=>.tup [.int k,.non]
 | .inr h=>.tup [.int 3,.tup [.int h.1,.int h.2.1,.lst<|h.2.2.1.map zx,.int h.2.2.2]]
def KM(o):zj .Is (oT o) .non=some (.im<|.bl o.isNone):=by cases o<;>rfl
def Qd(ha:WD fa as true x)(hb:WD fb as true y):WD (yC<|dC fa<|dC fb dN) as true (.tup [x,y]):=Ue (zi ha<|zi hb zI) (Ww rfl) rfl rfl rfl
def jl{fa fb fc fd}(ha:WD fa as true x)(hb:WD fb as true y)(hc:WD fc as true z)(hd:WD fd as true u):WD (yC<|dC fa<|dC fb<|dC fc<|dC fd dN) as true (.tup [x,y,z,u]):=Ue (zi ha<|zi hb<|zi hc<|zi hd zI) (Ww rfl) rfl rfl rfl
def GS(ha:WE a as x)(hb:WE b as y)(hc:WE c as w)(hd:WE d as v)(hg:RE (g [(true,x),(true,y),(true,w),(true,v)]) z):WE (zf (aC a<|aC b<|aC c<|aC d aN) g) as z:=by
 obtain⟨o,h,e,f⟩:=hg;exact⟨o,YH (yX ha<|yX hb<|yX hc<|yX hd zq) (by show g [(zB x||true,x),(zB y||true,y),(zB w||true,w),(zB v||true,v)]=_;rwa [zyC,zyC,zyC,zyC]),e,f⟩
def D6{i:Nat}(h:as[i]? = some (sT<|yK L))(hj:zU (yK L) (.int j)=some (.im<|.str X))(hX:X.length<=100000):WD (wV (f2 (fV i) (fC<|.int j) zU) oN (oS<|fC<|.int k) Rx) as true (.str<|Txt.slice X none<|some k)/\WD (wV (f2 (fV i) (fC<|.int j) zU) (oS<|fC<|.int k) oN Rx) as true (.str<|Txt.slice X (some k) none):=
 ⟨Zf (zy ⋯ za hj) rfl rfl<|if_pos<|ZE ⋯,Zf (zy ⋯ za hj) rfl rfl<|if_pos<|ZE ⋯⟩
def Bb{L}(hL:L≠[])(hl:∀x ∈ L,x.length<=100000)(hn:L.length<=200000):RE (Wv [(true,yK L)]) (oH<|qI L):=by
 cases L with
 |nil=>exact absurd rfl hL
 |cons x L=>
 have hx:=hl x (by simp);let W:D:=yK (x::L);refine RS.fn rfl<|.seq (yZ (p:=1) (we (y:=sb) (zy (zb rfl) za<|xR (k:=0) rfl) Wl hx)<|zh rfl) ?_;show RS _ (oH<|(PK x).elim (.inl 0) λp=>hd2 p.1 p.2 L)
 rcases SZ (X:=x) (i:=1) (as:=[sT W,sT<|yK<|Txt.split x sb,none,none,none]) rfl with⟨a,b,c,d,e,ha,hc,ht⟩|⟨e,ht⟩
 rotate_left
 . rw[e];exact .seqR<|.ifT ht<|.ret (Qd za za).e
 have hb:b.length<=1000000:=by have:=yd (x:=x) (y:=sb) (p:=b) (by rw[e];simp);omega
 have hd:d.length<=1000000:=by have:=yd (x:=x) (y:=sb) (p:=d) (by rw[e];simp);omega
 have e1:PK x=(num 1 8 b).bind λn=>(num 1 6 d).map λm=>(n,m):=by unfold PK;rw[e];exact if_pos ⟨ha,hc⟩
 rw[e1];rw[e]at ht ⊢;let A2:Int->Int->Option O->AS:=λn m o=>[sT W,sT<|yK [a,b,c,d],sT<|.int n,sT<|.int m,o];refine .seq (zr ht rfl)<|.seq (zw (i:=2) (yt (zy (zb (i:=1) rfl) za<|xR (k:=1) rfl).e ce<|YY (by decide) hb)<|zh rfl)<|.seq (U':=A2 ((num 0 8 b).getD (-1)) ((num 0 6 d).getD (-1)) none) (zw (i:=3) (yt (zy (zb (i:=1) rfl) za<|xR (k:=3) rfl).e ce<|YY (by decide) hd)<|zh rfl) ?_;cases h1:num 1 8 b with
 |none=>
  have:=Pv h1;exact .seqR (.ifT (zE (k:=true) (zg (xY (zb (i:=2) rfl) za)<|congrArg some<|zyN this) (λh=>nomatch h) λ_=>rfl)<|.ret (Qd za za).e)
 |some n=>
  obtain⟨k1,k2⟩:=Ph h1;have kn:=Ws h1;rw[k1];cases h2:num 1 6 d with
  |none=>
   have:=Pv h2;exact .seqR (.ifT (zE (k:=false) (zg (xY (zb (i:=2) rfl) za)<|congrArg some<|zyF<|by omega) (λ_=>zg (xY (zb (i:=3) rfl) za)<|congrArg some<|zyN this) (λh=>nomatch h))<|.ret (Qd za za).e)
  |some m=>
   obtain⟨k3,k4⟩:=Ph h2;have km:=Ws h2;rw[k3];refine .seq (zr (zE (k:=false) (zg (xY (zb (i:=2) rfl) za)<|congrArg some<|zyF<|by omega) (λ_=>zg (xY (zb (i:=3) rfl) za)<|congrArg some<|zyF<|by omega) (λh=>nomatch h)) rfl) ?_;have hlen:∀o j q,decide (((x::L).length:Int)<j)=q->WT (fT<|f2 (fP yy z8) (fC<|.int j)<|zj .Lt) (A2 n m o) q:=λo j q hq=>
    zg (xY (by have:=X2 (f:=fV 0) (as:=A2 n m o)<|ve (i:=0) rfl;rwa [zzB]at this) za) (congrArg some hq)
   show RS _ (oH<|hd2 n m L);cases L with
   |nil=>exact .seqR (.ifT ⋯ (.ret (Qd za za).e))
   |cons y L=>
    have hy:=hl y (by simp);show RS _ (oH<|(Q1 n y).elim (.inl 1) λT=>M0 n m T L);have l2:=hlen none 2 false (zyF<|by simp only[zzT];omega);obtain⟨c1,c2⟩:=D6 (as:=A2 n m none) (i:=0) (j:=1) (L:=x::y::L) (X:=y) (k:=5) rfl (xR (k:=1) rfl) hy
    rcases rZ n y with⟨j1,j2⟩|⟨j1,j2⟩
    rotate_left
    . rw[j2];exact .seqR<|.ifT (zE (k:=false) l2 (λ_=>zg (Ym (c:=false) c1 za<|by rw[ZN,str_beq j1]) rfl) (λh=>nomatch h))<|.ret (Qd za za).e
    rw[j2];refine .seq (zr (zE (k:=false) l2 (λ_=>zg (Ym (c:=true) c1 za<|by rw[ZN,j1];exact congrArg some<|beq_self_eq_true _) rfl) (λh=>nomatch h)) rfl) ?_;have hent:=EY (p:="b") (X:=Txt.slice y (some 5) none) (k:=n) (n:=n) (.inl rfl) (by omega) (by omega) (by omega) (by omega)<|zzO (Txt.slice_le _ _ _) hy;refine .seq (yZ (p:=4) (GS c2.e (ve (i:=2) rfl) (ve (i:=2) rfl) (zZ (zi za<|zi za zI) (by decide) rfl rfl) hent)<|zh rfl) ?_;cases h3:w6 "b" n n (Txt.slice y (some 5) none)with
    |none=>exact .seqR (.ifT (zg (Zu (ve (i:=4) rfl) ce<|KM _) rfl)<|.ret (Qd za za).e)
    |some T=>
     refine .seq (zr (zg (Zu (ve (i:=4) rfl) ce<|KM _) rfl) rfl) ?_;show RS _ (oH<|M0 n m T L);cases L with
     |nil=>exact .seqR (.ifT (zE (k:=true) (hlen _ 3 true rfl) (λh=>nomatch h) λ_=>rfl)<|.ret (Qd za za).e)
     |cons z L=>
      have hz:=hl z (by simp);show RS _ (oH<|(G0 n z).elim (.inl 2) λe=>.inr (n,m,T,e));have l3:WT (fT<|f2 (fP yy z8) wZ<|zj .Lt) (A2 n m<|sT<|oT<|some T) false:=hlen _ 3 false (zyF<|by simp only[zzT];omega);obtain⟨d1,d2⟩:=D6 (as:=A2 n m<|sT<|oT<|some T) (i:=0) (j:=2) (L:=x::y::z::L) (X:=z) (k:=8) rfl (xR (k:=2) rfl) hz;have hnum:WD _ (A2 n m<|sT<|oT<|some T) true (.int<|(num 0 (n-1)<|Txt.slice z (some 8) none).getD (-1)):=
       yt d2.e (Y5 (zb (i:=2) rfl) za).e (YY (by omega)<|zzO (Txt.slice_le _ _ _)<|by omega)
      rcases uV n z with⟨j3,j4⟩|⟨j3,j4⟩
      rotate_left
      . rw[j4];exact .seqR<|.ifT (zE (k:=false) l3 (λ_=>zE (k:=true) (zg (Ym (c:=false) d1 za<|by rw[ZN,str_beq j3]) rfl) (λh=>nomatch h) λ_=>rfl) (λh=>nomatch h))<|.ret (Qd za za).e
      rw[j4];have hq:=zg (Ym (c:=true) d1 za<|by rw[ZN,j3];exact congrArg some<|beq_self_eq_true _) rfl;cases h4:num 0 (n-1) (Txt.slice z (some 8) none)with
      |none=>
       rw[h4]at hnum;exact .seqR (.ifT (zE (k:=false) l3 (λ_=>zE (k:=false) hq (λ_=>zg (xY hnum za) rfl) (λh=>nomatch h)) (λh=>nomatch h))<|.ret (Qd za za).e)
      |some v=>
       rw[h4]at hnum;have hv:=Ws h4;exact .seq (zr (zE (k:=false) l3 (λ_=>zE (k:=false) hq (λ_=>zg (xY hnum za)<|congrArg some<|zyF (by show ¬v<0;omega)) (λh=>nomatch h)) (λh=>nomatch h)) rfl)<|.ret (Qd za<|jl (zb (i:=2) rfl) (zb (i:=3) rfl) (zb (i:=4) rfl) hnum).e
noncomputable def GX(c:Nat):Bool:=decide (97<=c)&&decide (c<=122)
def Oj(c:Nat):decide (c ∈ ("abcdefghijklmnopqrstuvwxyz":Str).cps.toList)=GX c:=by
 rw[show("abcdefghijklmnopqrstuvwxyz":Str).cps.toList=[97,98,99,100,101,102,103,104,105,106,107,108,109,110,111,112,113,114,115,116,117,118,119,120,121,122] by decide +kernel];unfold GX;rw[<-Bool.decide_and];refine decide_eq_decide.mpr ?_;simp;omega
def yz(w:Str):Bool:=decide (1<=w.length)&&decide (w.length<=8)&&w.cps.toList.all GX
def S4(hl:w.length<=1000000):VX [(s,.str w)]=sT (.bl<|yz w):=by
 let A:AS:=[some<|.lf s<|.str w];have t0:WT (v7<|fT<|Be zo "str") A false:=vF (k:=true) ⋯
 by_cases h1:1<=w.length
 . by_cases h2:w.length<=8
   . have e:yz w=w.cps.toList.all GX:=by unfold yz;rw[zyN h1,zyN h2];rfl
     rw[e];have:=CJ (as:=A) (fa:=fV 0) (x:=w) (y:=("abcdefghijklmnopqrstuvwxyz":Str)) (zb rfl) hl;simp only[Oj]at this;exact zG rfl<|zd (zr (zE t0 (λ_=>zE (zg (xY (WN (zb rfl) hl) za)<|congrArg some<|zyF<|by omega) (λ_=>zg (x4 (WN (zb rfl) hl) za)<|congrArg some<|zyF<|by omega) (λh=>nomatch h)) (λh=>nomatch h)) rfl)<|zN this
   . have e:yz w=false:=by unfold yz;rw[zyF h2];simp
     rw[e];exact zG rfl<|z9<|yp (zE (k:=false) t0 (λ_=>zE (k:=false) (zg (xY (WN (zb rfl) hl) za)<|congrArg some<|zyF<|by omega) (λ_=>zg (x4 (WN (zb rfl) hl) za)<|congrArg some<|zyN<|by omega) (λh=>nomatch h)) (λh=>nomatch h))<|zN za
 . have e:yz w=false:=by unfold yz;rw[zyF h1];rfl
   rw[e];exact zG rfl<|z9<|yp (zE (k:=false) t0 (λ_=>zE (k:=true) (zg (xY (WN (zb rfl) hl) za)<|congrArg some<|zyN<|by omega) (λh=>nomatch h) λ_=>rfl) (λh=>nomatch h))<|zN za
def IG(ha:WD a as s (.int i))(hb:WD b as t (.int j))(hc:WD c as u (.int k)):WD (w9 a b c (zj .Lt)<|zj .Lt) as true (.bl<|decide (i<j)&&decide (j<k)):=by
 unfold WD at *
 by_cases h:i<j
 . unfold w9;rw[ha];simp;rw[hb];simp only[RV.frz,O.frz,RV.view,O.toD,O.str,zyK,zj,TX,Iq,LI,h,hc];rfl
 . unfold w9;rw[ha];simp;rw[hb];simp only[RV.frz,O.frz,RV.view,O.toD,O.str,zyK,zj,TX,Iq,LI,FM,h,decide_false,Bool.false_and]
def By{p:Nat->Bool}(hp:∀c,decide (c ∈ y.cps.toList)=p c)(ha:WD fa as s (.str x))(hl:x.length<=1000000):WE (zC (RF fa) [none] yb (fT<|f2 zo (fC<|.str y)<|zj .NotIn) zo) as (.lst<|(x.cps.toList.filter λc=>!p c).map λc=>D.str ⟨#[c]⟩):=by
 have key:xo yb (fT<|f2 zo (fC<|.str y)<|zj .NotIn) zo [none] (xt x)=some (((x.cps.toList.filter λc=>!p c).map λc=>D.str ⟨#[c]⟩).map<|O.lf true):=by
  unfold xt;generalize x.cps.toList=l
  induction l with
  |nil=>rfl
  |cons c r ih=>
   have t:WT (fT<|f2 zo _<|zj .NotIn) [sT<|.str ⟨#[c]⟩] _:=zg (Zu ⋯ ce (by rw[Kk,G4,hp];rfl)) rfl;cases h:p c with
   |true=>
    rw[h]at t;rw[List.filter_cons_of_neg<|by rw[h];simp];exact V8 rfl t ih
   |false=>
    rw[h]at t;rw[List.filter_cons_of_pos<|by rw[h];rfl];exact Tq rfl t ⋯ ih
 exact⟨_,xg (L5 ha) (by unfold xt;rw[zzB];exact ZE hl) key,v8 _,congrArg D.lst<|Zs _⟩
def BR{w:Str}(hl:w.length<=1000000):Z0 [(true,.str w)]=sT (.bl<|yz w):=by
 let A:AS:=[sT<|.str w];have hc:WD (w9 z6 _ (fC<|.int 9) _ _) A true _:=IG za (WN ⋯ hl) za;have he:(decide ((0:Int)<w.length)&&decide ((w.length:Int)<9))=(decide (1<=w.length)&&decide (w.length<=8)):=by
  rw[<-Bool.decide_and,<-Bool.decide_and];exact decide_eq_decide.mpr ⋯
 rw[he]at hc;refine zG rfl (zN<|Y4 hc (λh=>?_) λh=>by unfold yz;rw[h];rfl);have hf:=xU (By (as:=A) Oj ⋯ hl) (zZ zI ⋯ rfl rfl) (by show wb 60 _ (.lst [])=_;rw[Tb]);have:((w.cps.toList.filter λc=>!GX c).map λc=>D.str ⟨#[c]⟩).isEmpty=yz w:=by
  unfold yz;rw[h,Bool.true_and];cases k:w.cps.toList.all GX with
  |true=>
   rw[List.isEmpty_iff,List.map_eq_nil_iff,List.filter_eq_nil_iff];intro c m;rw[List.all_eq_true.mp k c m];simp
  |false=>
   obtain⟨c,m,hc⟩:=List.all_eq_false.mp k;rw[List.isEmpty_eq_false_iff];exact List.ne_nil_of_mem<|List.mem_map_of_mem<|List.mem_filter.mpr ⟨m,by simpa using hc⟩
 rwa [this]at hf
def tJ(w)(nm):zj .NotIn (.str w) (nl nm)=some (.im (.bl (!nm.any (· == w)))):=by
 rw[Kk];have e0:Sb (.str w) (nl nm)=anyF _ _:=rfl;rw[e0,Zv];rfl
def EZ{α:Type}{l:List α}{f}{g:α->List D}(hx:x.length<=1000000)(hl:l.length<=1000):Z8 [(true,.str x),(s,.lst<|l.map λp=>.tup (.str (f p)::g p))]=sT (.bl (yz x && !(l.map f).any (· == x))):=by
 have key:∀l':List α,xo yb z_ (f2 zo _ zU) [none] (kids s<|l'.map λp=>.tup (.str (f p)::g p))=some (((l'.map f).map D.str).map _):=λl'=>by
  induction l' with
  |nil=>rfl
  |cons p r ih=>exact Z6 rfl (z0 ⋯ za gq rfl) ih
 have hc:WE (zC (x6 zA) [none] yb z_ _) [sT<|.str x,some<|.lf s<|.lst _] _:=
  ⟨_,xg ⋯ (by rw[Sv,zzB];exact ZE<|by omega) (key l),v8 _,congrArg D.lst<|Zs _⟩
 exact zG rfl (zN<|Y4 (vA (ve rfl)<|S4 hx) (λh=>by rw[h];exact Zu (ve rfl) hc<|tJ _ _) λh=>by rw[h];rfl)
abbrev Dd:=Str×TZ
abbrev Sd:=Str×List Int
abbrev yO(p:Dd):D:=.tup [.str p.1,.lst<|p.2.map zx]
abbrev yB(p:Sd):D:=.tup [.str p.1,zx p.2]
def vP(known:List Str)(most:Nat)(b:Str):Bool:=yz b && !known.any (· == b) && !(known.length==most)
noncomputable def Tp(word:Str)(most:Nat)(known:List Str)(X:Str):Option (Str×List Str):=match Txt.split X sb with
 |a::b::r=>if(a==word&&vP known most b)=true then some (b,r)else none
 |_=>none
def PY:Option (Str×List Str)->D
 |none=>.non
 |some x=>.tup [.str x.1,nl x.2]
def oA:Yq (yK (a::b::ws)) (some 2) none=some (.fl<|ws.map D.str):=Z_ (xs:=[.str a,.str b])
def ER{a b:Nat}:((a:Int)==(b:Int))=(a==b):=by
 by_cases h:a=b
 . subst h;simp
 . rw[beq_eq_false_iff_ne.mpr h,beq_eq_false_iff_ne.mpr ⋯]
def Qc(h:WT c as (!p))(h2:p=true->WT e as (!q)):WT (yY c e) as (!(p&&q)):=by
 cases p with
 |true=>exact zE (k:=false) h (λ_=>h2 rfl) (λh=>nomatch h)
 |false=>exact zE (k:=true) h (λh=>nomatch h) (λ_=>rfl)
def Uk{most:Nat}(hX:X.length<=100000):RE (wq [(true,.str X),(true,.str word),(true,nl known),(true,.int most)]) (PY<|Tp word most known X):=by
 refine RS.fn rfl<|.seq (yZ (p:=4) (we (y:=sb) (zb rfl) Wl hX)<|zh rfl) ?_;obtain⟨w1,w2,w3⟩:=sp X;unfold Tp
 rcases D':Txt.split X sb with _|⟨a,_|⟨b,r⟩⟩
 . exact absurd D' w1
 . have h0:WD (f2 zS z6 zU) [sT<|.str X,sT<|.str word,sT<|nl known,sT<|.int most,sT<|yK [a]] true (.str a):=zy (zb rfl) za<|xR (k:=0) rfl;refine .seqR<|.ifT (zE (k:=!(a==word)) (zg (Ym (c:=(a==word)) h0 (zb (i:=1) rfl) rfl) rfl) (λ_=>zE (k:=true) (zg (xY (X2<|ve (i:=4) rfl) za) rfl) (λh=>nomatch h) λ_=>rfl) λ_=>rfl)<|.ret ce
 . have hb:b.length<=1000000:=by have:=yd (x:=X) (y:=sb) (p:=b) (by rw[D'];simp);omega
   let A:AS:=[sT<|.str X,sT<|.str word,sT<|nl known,sT<|.int most,sT<|yK (a::b::r)];have h1:WD (f2 zS zD zU) A true (.str b):=zy (zb rfl) za<|xR (k:=1) rfl;have ht:∀q,(!(a==word&&vP known most b))=q->WT iD A q:=λq hq=>by
    rw[<-hq];unfold vP;rw[Bool.and_assoc<|yz b];refine Qc (zg (Ym (c:=(a==word)) (zy (zb rfl) za<|xR (k:=0) rfl) (zb (i:=1) rfl) rfl) rfl) λ_=>zE (k:=false) ⋯ (λ_=>Qc (vF<|zg (vA h1.e<|BR hb) rfl) λ_=>?_) (λh=>nomatch h);refine Qc (zg (Zu (z:=.bl<|!!known.any λx=>x==b) h1.e (ve (i:=2) rfl)<|by rw[Bool.not_not];exact Dr _ _) rfl) λ_=>?_;have:=xU (as:=A) (q:=(known.length==most)) (X2 (f:=fV 2)<|ve (i:=2) rfl).e (ve (i:=3) rfl) (by show some ((((known.map D.str).length:Nat):Int)==(most:Int))=_;rw[zzB,ER]);exact zg this (by rw[Bool.not_not];rfl)
   by_cases h:(a==word&&vP known most b)=true
   . rw[show(match a::b::r with|a::b::r=>if(a==word&&vP known most b)=true then some (b,r)else none|_=>none:Option (Str×List Str))=some (b,r)from if_pos h];exact .seq (zr (ht false<|by rw[h];rfl) rfl)<|.ret<|Lh h1<|wA (ve (i:=4) rfl) rfl rfl oA
   . rw[show(match a::b::r with|a::b::r=>if(a==word&&vP known most b)=true then some (b,r)else none|_=>none:Option (Str×List Str))=none from if_neg h];exact .seqR<|.ifT (ht true<|by rw[show(a==word&&vP known most b)=false by simpa using h];rfl)<|.ret ce
def Wy(h:WA fr as [(u,.int j)])(h0 : -1000<=j)(h1:j<1000000):yq fr y8 as=some (y4 0 j.toNat,as):=by
 unfold yq;rw[h];show((if -_<=j/\j<2 ^ 62 then some _ else none).bind _)=_;rw[if_pos ⋯];rfl
noncomputable def WL(r:List Int):Bool:=(List.range<|r.length-1).all λk=>decide (r.getD k 0<r.getD (k+1) 0)
def Hc{k:Nat}(h:k<r.length):zU (zx r) (.int (k:Int))=some (.im<|.int<|r.getD k 0):=xR (by rw[zzI,zyE,zzE h];rfl)
def Ai(hl:r.length<=200000):Y6 [(true,zx r)]=sT (.bl<|WL r):=by
 have hlen:WD (f2 (fP yy z8) zD vX) [sT<|zx r] true (.int<|(r.length:Int)-1):=by
  have:=Y5 (X2 (f:=fV 0) (as:=[sT<|zx r])<|ve rfl)<|za (x:=.int 1)
  rwa [zzB]at this
 have hr:=Wy (u:=true) (zk hlen zq) (by omega) (by omega);have e:y4 0 ((r.length:Int)-1).toNat=(List.range<|r.length-1).map (λ(k:Nat)=>((true,D.int<|0+(k:Int)):Xs)):=by
  unfold y4;rw[show((r.length:Int)-1).toNat=r.length-1 by omega]
 rw[e]at hr;have hc:WE p_ [sT<|zx r] (.lst<|(List.range<|r.length-1).map λk=>.bl<|decide (r.getD k 0<r.getD (k+1) 0)):=by
  refine Ft hr (by rw[zyT];omega) λk mk=>⟨_,rfl, ?_⟩;have hk:=List.mem_range.mp mk;have e0:(0:Int)+(k:Int)=(k:Int):=by omega
  have e1:(k:Int)+1=((k+1:Nat):Int):=by omega
  rw[e0];exact(xY (z0 (zb (i:=1) rfl) (zb (i:=0) rfl) (Hc (r:=r) (k:=k)<|by omega) rfl)<|z0 (zb (i:=1) rfl) ⋯ (by rw[e1];exact Hc (r:=r) (k:=k+1)<|by omega) rfl).e
 exact zG rfl<|zN<|xr hc<|allB _ _
def um(ha:WD a as true y)(ht:QX ty y=true)(hb:WE b as x)(hc:WE c as z)(hg:g y [x,z]=some (.fl zs)):WE (z7 ty a (aC b<|aC c aN) g) as (.lst zs):=by
 have hr:=yX hb<|yX hc zq;refine⟨.nd .ls _, ?_,v8 zs,congrArg D.lst<|Zs zs⟩;unfold z7;rw[ha];show(if QX ty y=true then _ else _:Option _)=_;rw[if_pos ht,hr];show((g y [x,z]).bind _)=_;rw[hg];show(if(zs.all zB||true)=true then some (RV.ow<|.nd .ls<|zs.map<|Ee true)else none:Option RV).bind _=_;rw[if_pos ⋯,ZP];rfl
def qm(hX:X.length<=100000):An (.str X) [.str sb,.int 2]=some (.fl<|(Txt.splitMax X sb 2).map .str):=by
 have z:(Builtin.Str.partsBetween X (Builtin.Str.occurrences X sb 0 X.length<|limitOf X 2) sb.length).length<=sizeLine:=by
  unfold Builtin.Str.partsBetween;have:=StrLaws.occ_length_le X sb 0 X.length<|limitOf X 2;have l2:limitOf X 2=2:=rfl;simp;exact ZE ⋯
 exact if_pos ⟨Wl,ZE ⋯,⋯,z⟩
def JN(ha:NB a)(hb:NB b):(Txt.splitMax (a++sb++b) sb 2).length≠3:=by
 have ex:(a++sb++b).cps.toList=[]++a.cps.toList++sb.cps.toList++b.cps.toList:=by simp only[app_list];simp
 generalize hX:a++sb++b=X at ex;unfold Txt.splitMax
 split
 . simp
 split
 . simp
 have l2:limitOf X 2=2:=rfl;rw[l2];obtain⟨f,hG,_,hl⟩:=Ef X sb 2 ⋯;generalize Builtin.Str.occurrences X sb 0 X.length 2=vd at hG hl
 match vd,hG,hl with
 | [],_,_=>simp[Builtin.Str.partsBetween]
 | [c1],_,_=>simp[Builtin.Str.partsBetween]
 | [c1,c2],hG,_=>
  have e1:=G3 (n:=0) Vf ex ha hG;have hG2:=hG.2.2.2;have h2:=hG2.1;have hA:=hG2.2.1;rw[QZ]at h2;have hz:=hA.1;rw[QZ,len_eq,ex,Vf]at hz;simp only[List.nil_append,zzJ,zzT,List.length_nil]at hz e1;exact absurd hA (Kz Vf (pre:=a.cps.toList++[32]) (V':=[]) (by rw[ex,Vf];simp) hb (by simp only[zzJ,zzT,List.length_nil];omega)<|by simp only[zzJ,zzT,List.length_nil];omega)
 |_::_::_::_,_,hl=>exact absurd hl ⋯
noncomputable def Kr(n m:Int)(done:List Dd)(X:Str):Option Dd:=match Txt.split X sb with
 |_::b::c::r=>if vP (done.map (·.1)) 6 b=true then(w6 "c" m n<|J (c::r)).map λT=>(b,T)else none
 |_=>none
def MZ(h:Txt.split X sb=[a,b]):Kr n m done X=none:=by unfold Kr;rw[h]
def KP(h:Txt.split X sb=a::b::c::r):Kr n m done X=if vP (done.map (·.1)) 6 b=true then(w6 "c" m n<|J (c::r)).map λT=>(b,T)else none:=by unfold Kr;rw[h]
def iN:Option Dd->D
 |none=>.non
 |some p=>yO p
def Li{i:Nat}(h:as[i]? = some (some<|.lf s<|.lst ds)):WD (fP (aC (fV i) aN) z8) as true (.int ds.length):=wO (zk (zb h) zq) rfl rfl
def DV{i:Nat}(h:as[i]? = some (some<|.lf s T))(ha:WE fa as (.str x))(hn:∀q,Z8 [(true,.str x),(q,T)]=sT (.bl q0)):WD (zf (aC fa<|aC (fV i) aN) Z8) as true (.bl q0):=
 yA (yX ha<|zk (zb h) zq) (hn _)
def OW(hn:1<=n)(K':n<=8)(hm:1<=m)(vh:m<=8)(hX:X.length<=100000)(h2:2<=(Txt.split X sb).length)(hd:done.length<=1000):RE (xF [(true,.str X),(true,.int n),(true,.int m),(s,.lst<|done.map yO)]) (iN<|Kr n m done X):=by
 refine RS.fn rfl<|.seq (yZ (p:=4) (um (zb rfl) rfl ce ce<|qm hX)<|zh rfl) ?_;obtain⟨w1,w2,w3⟩:=sp X;let A:List Str->AS:=λps=>[sT<|.str X,sT<|.int n,sT<|.int m,some<|.lf s<|.lst<|done.map yO,sT<|yK ps,none];have hl:∀ps,WD (f2 (fP (aC zS aN) z8) wZ<|zj .NotEq) (A ps) true (.bl<|!((ps.length:Int)==3)):=λps=>wm (X2<|ve (i:=4) rfl).e ce (by show some (((ps.map D.str).length:Int)==3)=_;rw[zzB]);show RS (ze _ _<|A<|Txt.splitMax X sb 2) _
 rcases D':Txt.split X sb with _|⟨a,_|⟨b,_|⟨c,r⟩⟩⟩
 . exact absurd D' w1
 . rw[D']at h2;simp at h2
 . rw[D']at w2 w3;have:(Txt.splitMax X sb 2).length≠3:=by rw[w3];exact JN (w2 a<|by simp) (w2 b<|by simp)
   rw[MZ D'];refine .seqR<|.ifT (zE (k:=true) (zg (hl _) ?_) (λh=>nomatch h) λ_=>rfl)<|.ret ce;rw[beq_eq_false_iff_ne.mpr<|show((Txt.splitMax X sb 2).length:Int)≠3 by omega];rfl
 . rw[D']at w2 w3;have hb:b.length<=1000000:=by have:=yd (x:=X) (y:=sb) (p:=b) (by rw[D'];simp);omega
   have e3:Txt.splitMax X sb 2=[a,b,J (c::r)]:=by
    have:=FG (y:=sb) (c:=J (c::r)) Vf (w2 a<|by simp) (w2 b<|by simp);rw[<-this,w3]
    congr 1
    show a++sb++(b++sb++J (c::r))=a++sb++b++sb++J (c::r);simp only[Str.append_assoc]
   have vj:(J (c::r)).length<=100000:=by
    have e4:=congrArg Str.length w3;have:=Wj (w:=b) (r:=c::r);have:=Wj (w:=a) (r:=b::c::r);omega
   rw[e3,KP D'];have ht:∀q,(!vP (done.map (·.1)) 6 b)=q->WT ng (A [a,b,J (c::r)]) q:=λq hq=>by
    rw[<-hq];unfold vP;refine zE (k:=false) (zg (hl _) rfl) (λ_=>Qc (vF<|zg (DV rfl (zy (zb rfl) za<|xR (k:=1) rfl).e λq=>EZ (f:=λp:Dd=>p.1) (g:=λp:Dd=>[.lst<|p.2.map zx]) hb hd) rfl) λ_=>?_) (λh=>nomatch h);have:=xU (as:=A [a,b,J (c::r)]) (q:=((done.map (·.1)).length==6)) (Li (i:=3) rfl).e (ce (x:=.int 6)) (by show some ((((done.map yO).length:Nat):Int)==((6:Nat):Int))=_;rw[zzB,ER,zzB]);exact zg this (by rw[Bool.not_not];rfl)
   by_cases h:vP (done.map (·.1)) 6 b=true
   . rw[if_pos h];refine .seq (zr (ht false<|by rw[h];rfl) rfl)<|.seq (yZ (p:=5) (Zt (zy (zb (i:=4) rfl) za<|xR (k:=2) rfl).e (ve (i:=1) rfl) (ve (i:=2) rfl)<|Cj hn K' hm vh vj)<|zh rfl)<|.ret ?_;cases e:w6 "c" m n (J (c::r))with
     |none=>exact WI (zg (Zu (ve (i:=5) rfl) ce<|KM _) rfl) ce
     |some T=>exact UB (zg (Zu (ve (i:=5) rfl) ce<|KM _) rfl) (Qd (zy (zb (i:=4) rfl) za<|xR (k:=1) rfl)<|zb (i:=5) rfl).e
   . rw[if_neg h];exact .seqR (.ifT (ht true (by rw[show vP (done.map (·.1)) 6 b=false by simpa using h];rfl))<|.ret ce)
def Ex{most:Nat}(h:Txt.split X sb=[a]):Tp w most known X=none:=by unfold Tp;rw[h]
def Xw{most:Nat}(h:Txt.split X sb=a::b::r):Tp w most known X=if(a==w&&vP known most b)=true then some (b,r)else none:=by unfold Tp;rw[h]
noncomputable def Tg(n:Int)(done:List Sd)(X:Str):Option Sd:=(Tp "sign" 4 (done.map (·.1)) X).bind λx=>(vW n x.2).bind λr=>if WL r=true then some (x.1,r)else none
def ke:Option Sd->D
 |none=>.non
 |some p=>yB p
def SX(o):zj .Is (oR o) .non=some (.im<|.bl o.isNone):=by cases o<;>rfl
def SL(hX:X.length<=100000)(hd:done.length<=1000):RE (xG [(true,.str X),(true,.int n),(s,.lst<|done.map yB)]) (ke<|Tg n done X):=by
 refine RS.fn rfl<|.seq (yZ (p:=3) (we (y:=sb) (zb rfl) Wl hX)<|zh rfl) ?_;obtain⟨w1,w2,w3⟩:=sp X;have hml:∀w ∈ Txt.split X sb,w.length<=100000:=λw m=>zzO (yd m) hX;have l8:=split_len X sb
 rcases D':Txt.split X sb with _|⟨a,_|⟨b,r⟩⟩
 . exact absurd D' w1
 . have e0:Tg n done X=none:=by unfold Tg;rw[Ex D'];rfl
   rw[e0];exact .seqR<|.ifT (zE (k:=true) (zg (xY (X2<|ve (i:=3) rfl) za) rfl) (λh=>nomatch h) λ_=>rfl)<|.ret ce
 . rw[D']at hml l8;have hb:b.length<=1000000:=by have:=hml b (by simp);omega
   let A:AS:=[sT<|.str X,sT<|.int n,some<|.lf s<|.lst<|done.map yB,sT<|yK (a::b::r),none];have ht:∀q,(!(a=="sign"&&vP (done.map (·.1)) 4 b))=q->WT mP A q:=λq hq=>by
    rw[<-hq];unfold vP;refine zE (k:=false) (zg (xY (X2<|ve (i:=3) rfl) za)<|congrArg some<|zyF<|by simp only[zzB,zzT];omega) (λ_=>Qc (zg (Ym (c:=(a==("sign":Str))) (zy (zb rfl) za<|xR (k:=0) rfl) za rfl) rfl) λ_=>Qc (vF<|zg (DV rfl (zy (zb rfl) za<|xR (k:=1) rfl).e λq=>EZ (f:=λp:Sd=>p.1) (g:=λp:Sd=>[zx p.2]) hb hd) rfl) λ_=>?_) (λh=>nomatch h);have:=xU (as:=A) (q:=((done.map (·.1)).length==4)) (Li (i:=2) rfl).e (ce (x:=.int 4)) (by show some ((((done.map yB).length:Nat):Int)==((4:Nat):Int))=_;rw[zzB,ER,zzB]);exact zg this (by rw[Bool.not_not];rfl)
   by_cases h:(a=="sign"&&vP (done.map (·.1)) 4 b)=true
   . have e0:Tg n done X=(vW n r).bind λr=>if WL r=true then some (b,r)else none:=by unfold Tg;rw[Xw D',if_pos h];rfl
     rw[e0];have hrl:r.length<=200000:=by simp only[zzT]at l8;omega
     refine .seq (zr (ht false<|by rw[h];rfl) rfl)<|.seq (yZ (p:=4) (vE (wA (ve (i:=3) rfl) rfl rfl oA) (ve (i:=1) rfl)<|Kv hrl λw m=>hml w<|zzD _<|zzD _ m)<|zh rfl)<|.ret ?_;show WE _ _ (ke ((vW n r).bind λr=>if WL r=true then some (b,r)else none));cases e:vW n r with
     |none=>exact WI (zE (k:=true) (zg (Zu (ve (i:=4) rfl) ce<|SX _) rfl) (λh=>nomatch h) λ_=>rfl) ce
     |some vs=>
      have hvl:vs.length<=200000:=by rw[(Vu e).2];exact hrl
      have hz:=zg (vA (as:=[sT<|.str X,sT<|.int n,some<|.lf s<|.lst<|done.map yB,sT<|yK (a::b::r),sT<|oR<|some vs]) (ve (i:=4) rfl)<|Ai hvl) rfl;rw[zyK]
      by_cases hr:WL vs=true
      . rw[if_pos hr];rw[hr]at hz;exact UB (zE (k:=false) (zg (Zu (ve (i:=4) rfl) ce<|SX _) rfl) (λ_=>vF hz) (λh=>nomatch h)) (Qd (zy (zb (i:=3) rfl) za<|xR (k:=1) rfl)<|zb (i:=4) rfl).e
      . rw[if_neg hr];have hr:WL vs=false:=by simpa using hr
        rw[hr]at hz;exact WI (zE (k:=false) (zg (Zu (ve (i:=4) rfl) ce<|SX _) rfl) (λ_=>vF hz) (λh=>nomatch h)) ce
   . have e0:Tg n done X=none:=by unfold Tg;rw[Xw D',if_neg h];rfl
     rw[e0];exact .seqR (.ifT (ht true (by rw[show(a=="sign"&&vP (done.map (·.1)) 4 b)=false by simpa using h];rfl))<|.ret ce)
def uk(ha:WE a as x)(hg:g [x]=some (.fl zs)):WE (fP (aC a aN) g) as (.lst zs):=by
 have hr:=yX ha zq;refine⟨.nd .ls _, ?_,v8 zs,congrArg D.lst<|Zs zs⟩;unfold fP;rw[hr];show((g [x]).bind _)=_;rw[hg];show(if(zs.all zB||true)=true then some (RV.ow<|.nd .ls<|zs.map<|Ee true)else none:Option RV).bind _=_;rw[if_pos ⋯,ZP];rfl
def J2{j:Nat}{st}(h:as[j]? = some (some<|.lf st d)):Ah as (some j)=some (.lf st d):=by
 unfold Ah;simp only;rw[h]
theorem W9:∀(ns acc:List Int),v ∈ ns.foldl step_dedup acc ↔ v ∈ acc\/v ∈ ns
 | [],acc=>⋯
 |n::ns,acc=>by
  rw[List.foldl_cons,W9 ns,zzC];unfold step_dedup
  split
  . rename_i h;obtain⟨y,h1,h2⟩:=List.any_eq_true.mp h;have:=of_decide_eq_true ⋯;subst this;exact⟨λz=>z.elim .inl λz=>.inr<|.inr z,λz=>z.elim .inl λz=>z.elim (λe=>.inl<|e ▸ h1) .inr⟩
  . rw[zzM,zzR,or_assoc]
theorem Us:∀(ns acc:List Int),acc.Nodup->(ns.foldl step_dedup acc).Nodup
 | [],acc,h=>h
 |n::ns,acc,h=>by
  refine Us ns _ ?_;unfold step_dedup
  split
  . exact h
  . rename_i q;refine zxC.mpr ⟨h,zzV.mpr ⋯,λa ha b hb=>?_⟩;rw[zzR.mp hb]
    rintro rfl
    exact q<|List.any_eq_true.mpr ⟨a,ha,⋯⟩
def AZ:∀xs ys,wb 60 (zx xs) (zx ys)=some (decide (xs=ys)):=λxs ys=>by
 show AL _ _ _=_
 induction xs generalizing ys with
 |nil=>cases ys<;>rfl
 |cons x r ih=>
  cases ys with
  |nil=>rfl
  |cons y t=>
   show(some _).bind _=_;rw[ih t];refine congrArg some ?_;rw[Bool.eq_iff_iff];simp
theorem Oc:∀{r:List Int},(∀k,k+1<r.length->r.getD k 0<r.getD (k+1) 0)->r.Pairwise (· < ·)
 | [],_=>.nil
 | [x],_=>⋯
 |x::y::r,h=>by
  have ih:=Oc λk hk=>h (k+1) (by simp at hk ⊢;omega);have h0:x<y:=h 0 ⋯;refine List.pairwise_cons.mpr ⟨λz m=>?_,ih⟩
  rcases zzC.mp m with rfl|m
  . exact h0
  . have:=(List.pairwise_cons.mp ih).1 z m;omega
def Er:WL r=true ↔ r.Pairwise (· < ·):=by
 unfold WL;rw[List.all_eq_true];constructor
 . intro h;exact Oc λk hk=>of_decide_eq_true<|h k<|List.mem_range.mpr ⋯
 . intro h k mk;have hk:=List.mem_range.mp mk;have:=List.pairwise_iff_getElem.mp h k (k+1) ⋯ ⋯ ⋯;refine zyN ?_
   rwa [zyE,zyE,zzE ⋯,zzE ⋯]
def OL:decide (r=sortI (UG r))=WL r:=by
 have hnd:=Us r [] zyI;rw[Bool.eq_iff_iff,decide_eq_true_eq,Er];constructor
 . intro e;have h1:=Za<|UG r;have h2:=(sortI_perm<|UG r).nodup_iff.mpr hnd;rw[<-e]at h1 h2;exact List.Pairwise.imp ⋯ (List.Pairwise.and h1 h2)
 . intro h;have h2:=(List.perm_ext_iff_of_nodup (List.Pairwise.imp ⋯ h) hnd).mpr λv=>by
    rw[W9];simp
   exact VU _ _ (h2.trans (sortI_perm _).symm) (List.Pairwise.imp ⋯ h)<|Za _
noncomputable def sV(n:Int)(r:List Str):List Int:=r.map λw=>(num 0 (n-1) w).getD (-1)
noncomputable def IQ(n:Int)(r:List Str):Option (List Int):=(vW n r).bind λvs=>if WL vs=true then some vs else none
def GD(e:vW n r=some vs):sV n r=vs:=by
 have e2:=V2 (wx e) λo=>o.getD (-1);unfold sV;rw[e2];simp
def pO(hn:n<=8):∀v ∈ sV n r, -1<=v/\v<8:=λv m=>by
 obtain⟨w,_,rfl⟩:=zxB.mp m;cases e:num 0 _ w with
 |none=>exact ⋯
 |some v=>have:=Ws e;show -1<=v/\v<8;omega
def uL:decide (LA (sV n r++[0])<0)=(vW n r).isNone:=by
 have hspec:∃x t,sV n r++[0]=x::t:=by cases h:sV n r<;>exact⟨_,_,rfl⟩
 obtain⟨x,t,hx⟩:=hspec;obtain⟨m1,m2⟩:=XM t x;have e:LA (x::t)=t.foldl _ x:=rfl;rw[<-e,<-hx]at m1 m2;cases k:vW n r with
 |none=>
  obtain⟨w,m,hn⟩:=Zg k;have : -1 ∈ sV n r++[0]:=zzP _<|zxB.mpr ⟨w,m,by rw[hn];rfl⟩;have:=m2 _ this;exact zyN ⋯
 |some vs=>
  rw[GD k]at m1 m2 ⊢;refine zyF ?_
  rcases zzM.mp m1 with h|h
  . have:=(Vu k).1 _ h;omega
  . rw[zzR.mp h];decide
abbrev jV:EF:=zC (x6<|f2 (fV 9) zD zU) [none,some 4] yb z_ rW
abbrev j0:TF:=yY (fT<|f2 Qx (fP (aC Qx aN) lL)<|zj .NotEq)<|fT rQ
def uE{b}(h4:as[4]? = some (sT<|.int n))(h9:as[9]? = some (sT<|.tup [.str b,yK r]))(hn:n<=8)(hl:r.length<=200000)(hw:∀w ∈ r,w.length<=100000):WE jV as (zx<|sV n r):=by
 have:=QJ (as:=as) (cap:=[none,some 4]) (fe:=zf (aC zo<|aC (f2 zA zD vX) aN) yP) (fi:=f2 (fV 9) zD zU) (l:=r) (e:=D.str) (zy (zb h9) za<|xR (k:=1) rfl).e hl λw mw=>⟨_,by show some (sT (.str w)::[Ah as<|some 4])=_;rw[J2 h4],(yt (ve rfl) (Y5 (zb rfl) za).e<|YY (by omega)<|by have:=hw w mw;omega).e⟩;have e:r.map (λw=>D.int<|(num 0 (n-1) w).getD (-1))=(sV n r).map D.int:=by unfold sV;rw[zyA];rfl
 rwa [e]at this
def D5(h11:as[11]? = some (sT<|zx<|sV n r))(hn:n<=8)(hl:r.length<=200000)(hq:(IQ n r).isNone=q):WT j0 as q:=by
 have hlv:(sV n r).length=r.length:=by unfold sV;rw[zzB]
 have hs:WE (fP (aC Qx aN) lL) as (zx<|sortI<|UG<|sV n r):=by
  refine uk (ve h11) ?_;show(YQ<|(sV n r).map D.int).bind _=_;rw[Xz,zyK,if_pos ⟨by omega,List.all_eq_true.mpr λv m=>by have:=pO hn v m;simp[this.1,this.2]⟩]
 have h1:=wm (ve h11) hs (by rw[AZ,OL]);have h2:WD rQ as true (.bl (vW n r).isNone):=by
  rw[<-uL];refine xY (xr (x:=zx<|sV n r++[0]) ?_ ?_) za
  . have:=GZ (as:=as) (ve h11) (zZ (zi (za (x:=.int 0)) zI) (by decide) rfl rfl) (add_lists<|ZE<|by rw[zzB];show(sV n r).length+1<=1000000;omega);have e:(sV n r++[0]).map D.int=(sV n r).map D.int++[D.int 0]:=zyL;show WE _ as (.lst<|(sV n r++[0]).map D.int)
    rwa [e]
  . show(YQ<|(sV n r++[0]).map D.int).bind _=_;rw[Xz,zyK,if_pos<|by simp]
 subst hq;unfold IQ;cases e:vW n r with
 |none=>
  rw[e]at h2;refine zE (zg h1 rfl) (λ_=>zg h2 rfl) (λ_=>rfl)
 |some vs=>
  rw[e]at h2;rw[GD e]at h1;rw[zyK];refine zE (zg h1 rfl) (λh=>?_) λh=>?_
  . have:WL vs=true:=by simpa using h
    rw[if_pos this];exact zg h2 rfl
  . have:WL vs=false:=by simpa using h
    rw[this];rfl
def NQ(ha:a as=some (r,U'))(hf:fr U'=some (rs,J')):aC a fr as=some (r.frz::rs,J'):=by
 unfold aC;rw[ha];show(fr U').bind _=_;rw[hf];rfl
def JV(h1:g d as=some U')(h2:f U'=some (.bk J')):forL g f (d::r) as=some (.nx J'):=by
 unfold forL;rw[h1];show(f U').bind _=_;rw[h2];rfl
def EW(h1:g d as=some U')(h2:f U'=none):forL g f (d::r) as=none:=by
 unfold forL;rw[h1];show(f U').bind _=_;rw[h2];rfl
def PP(h1:g d as=some U')(h2:f U'=some (.nx J'))(h3:ZM g f gb r J'=o):ZM g f gb (d::r) as=o:=by
 unfold ZM;rw[h1];show(match f U' with|some (.nx J')=>_|some (.ct J')=>_|some _=>_|none=>_)=_;rwa [h2]
def Th(h1:g d as=some U')(h2:f U'=none):ZM g f gb (d::r) as=gb U':=by
 unfold ZM;rw[h1];show(match f U' with|some (.nx J')=>_|some (.ct J')=>_|some _=>_|none=>_)=_;rw[h2]
def Ap(h1:g d as=some U')(h2:f U'=some (.bk J')):ZM g f gb (d::r) as=none:=by
 unfold ZM;rw[h1];show(match f U' with|some (.nx J')=>_|some (.ct J')=>_|some _=>_|none=>_)=_;rw[h2]
def JO(h:f as=some (.bk U')):ze f g as=some (.bk U'):=by unfold ze;rw[h];rfl
def LD(h:WA fr as [(u,.int i),(v,.int j)])(h0:0<=i)(h1:i<1000000)(h2:0<=j)(h3:j<1000000):yq fr VY as=some (y4 i (j-i).toNat,as):=by
 unfold yq;rw[h];show((if -_<=i/\i<2 ^ 62 /\ -_<=j/\j<2 ^ 62 then some _ else none).bind _)=_;rw[if_pos ⋯];rfl
def Ol{i:Nat}{os}(h:as[i]? = some (sN os))(ha:a as=none):yE (wG i (dC a dN) wN) as=none:=by
 unfold yE wG dC;rw[h,ha];rfl
def jZ{i:Nat}{os}(h:as[i]? = some (sN os)):My i g as=g as:=by
 unfold My FJ;rw[h];rfl
def QW(h:f as=some (.nx U'))(h2:g U'=r):Y0 f g as=r:=by unfold Y0;rwa [h]
theorem UU{α:Type}(f):∀l:List α,O.toDs (l.map λp=>O.lf true<|f p)=l.map f
 | []=>rfl
 |p::r=>congrArg _<|UU f r
theorem U6{α:Type}(f:α->D):∀l:List α,O.strs (l.map λp=>O.lf true<|f p)=true
 | []=>rfl
 |p::r=>by show(true&&O.strs _)=_;rw[U6 f r];rfl
def Rq(h:L=pre++q::V'):(L.map D.str)[pre.length]? = some (.str q):=by
 rw[h,zzI];simp
def E5{k:Nat}(h:k<=1000000):ZK (.int k)=true:=by
 refine zyN<|PF.log2_small ?_;show k<2 ^ 300;omega
def VF(h:zj .Is x .non=some (.im<|.bl false)):zV [(true,x),(true,.int k)]=sT x:=
 zG rfl (zd (zr (zg (Zu ⋯ ce h) rfl) rfl) ⋯)
def WG:zV [(true,.non),(true,.int k)]=none:=⋯
def MB(h:zj .Is x .non=some (.im<|.bl false)):yH [(true,x),(true,.int k)]=none:=by
 have ht:WT (fT<|f2 zo _ _) (ya 2 [(true,x),(true,.int k)]) false:=zg (Zu ⋯ ce h) rfl;unfold yH qH;rw[ht];rfl
def Vm{k:Nat}(h:k<=1000000):yH [(true,.non),(true,.int k)]=some (.int k):=by
 show(if ZK _=true then some _ else none)=_;rw[if_pos<|E5 h]
noncomputable abbrev dS(X:Str):Bool:=Txt.startswith X ("deed ":Str)
def C4:NB ("deed":Str):=by unfold NB;decide +kernel
def WH(X):(∃b r,Txt.split X sb=("deed":Str)::b::r/\dS X=true)\/(dS X=false/\((Txt.split X sb).headD ""="deed"->Txt.split X sb=[("deed":Str)])):=by
 rcases VT (k:=5) C4 ⋯ ⋯ X with⟨r,h1,h2,h3,h4⟩|⟨h1,h2⟩
 . cases r with
   |nil=>exact absurd rfl h1
   |cons b r=>
    refine .inl ⟨b,r,h2, ?_⟩;have e:=vC X 5;rw[h3]at e;have ex:X=_++⟨(X.cps.toList.drop 5).toArray⟩:=yQ (by rw[app_list,e,List.take_append_drop]);rw[ex];exact Mt _ _
 . refine .inr ⟨?_,h2⟩;cases e:dS X with
   |false=>rfl
   |true=>
    refine absurd (yQ ?_) h1;have e:Txt.startswith X _=true:=e;unfold Txt.startswith at e;rw[zyB,StrLaws.subAt_eq]at e;have e:=eq_of_beq e.2
    rwa [vC]
noncomputable def xI(n m:Int):Nat->List Str->List Dd->Nat ⊕ (List Dd×List Str)
 |_,[],ds=>.inr (ds,[])
 |k,X::r,ds=>if dS X=true then(Kr n m ds X).elim (.inl k) λp=>xI n m (k+1) r (ds++[p])else .inr (ds,X::r)
noncomputable def xN(n:Int):Nat->List Str->List Sd->Nat ⊕ List Sd
 |_,[],ss=>.inr ss
 |k,X::r,ss=>(Tg n ss X).elim (.inl k) λp=>xN n (k+1) r<|ss++[p]
def KW{most:Nat}(h:vP known most b=true)(hl:known.length<=most):known.length+1<=most:=by
 unfold vP at h;simp at h;have:=h.2;omega
def En(h:Kr n m done X=some p)(hl:done.length<=6):(done++[p]).length<=6:=by
 unfold Kr at h
 split at h
 . split at h
   . rename_i h2;have:=KW h2 (by rwa [zzB]);rw[zzB]at this
     rwa [zzJ]
   . cases h
 . cases h
def EB(h:Tg n done X=some p)(hl:done.length<=4):(done++[p]).length<=4:=by
 obtain⟨x,h1,_⟩:=bS_ h;unfold Tp at h1
 split at h1
 . split at h1
   . rename_i h2;rw[zyB]at h2;have:=KW h2.2 (by rwa [zzB]);rw[zzB]at this
     rwa [zzJ]
   . cases h1
 . cases h1
abbrev A5(L:List Str)(n m:Int)(done:List Dd)(e4:Option O):AS:=[sT<|yK L,sT<|.int n,sT<|.int m,sN<|done.map λp=>O.lf true<|yO p,e4]
abbrev dE:EF:=zf (aC (f2 zo zS zU)<|aC zA<|aC zH xX) xF
abbrev dT:SF:=yN (v7<|fT rz) pz xf
abbrev dB:SF:=ze dT<|yE<|wG 3 (dC (zf (aC dE<|aC zS aN) zV) dN) wN
abbrev dG:WU:=Y0 dT<|My 3<|gC (aC dE<|aC zS aN) yH
def Py(hL:L=pre++X::V'):WD rz (A5 L n m done<|sT<|.int pre.length) true (.bl<|dS X):=
 UR (zy ⋯ ⋯ (xR<|Rq hL)) rfl ce rfl
def To(hL:L=pre++X::V')(hn:1<=n)(K':n<=8)(hm:1<=m)(vh:m<=8)(hX:X.length<=100000)(h2:2<=(Txt.split X sb).length)(hd:done.length<=6):
 WE dE (A5 L n m done<|sT<|.int pre.length) (iN<|Kr n m done X):=by
 obtain⟨o,h1,h3,h4⟩:=OW (done:=done) hn K' hm vh hX h2 ⋯;refine⟨o,Ra (NQ (zy ⋯ ⋯ (xR<|Rq hL)) rfl) rfl ?_,h3,h4⟩;show xF [_,_,_,(false,.lst _)]=_
 rwa [UU]
def Nk(hL:L=pre++X::V')(h:dS X=false):dB (A5 L n m done<|sT<|.int pre.length)=some (.bk<|A5 L n m done<|sT<|.int pre.length):=
 JO (yp (vF<|zg (Py hL)<|by rw[h];rfl) rfl)
def TB(hL:L=pre++X::V')(h:dS X=true):dT (A5 L n m done<|sT<|.int pre.length)=some (.nx<|A5 L n m done<|sT<|.int pre.length):=
 zr (vF<|zg (Py hL)<|by rw[h];rfl) rfl
def OU(hL:L=pre++X::V')(hn:1<=n)(K':n<=8)(hm:1<=m)(vh:m<=8)(hX:X.length<=100000)(h2:2<=(Txt.split X sb).length)(hd:done.length<=6)(hp:pre.length<=1000000)(h:dS X=true)(e:Kr n m done X=none):
 dB (A5 L n m done<|sT<|.int pre.length)=none/\dG (A5 L n m done<|sT<|.int pre.length)=some (.int pre.length,A5 L n m done<|sT<|.int pre.length):=by
 have hc:=To hL hn K' hm vh hX h2 hd;rw[e]at hc;refine⟨ZD (TB hL h)<|Ol rfl<|vO hc ⋯ WG,QW (TB hL h)<|(jZ rfl).trans<|DI hc ⋯ (Vm hp)⟩
def Bh(hL:L=pre++X::V')(hn:1<=n)(K':n<=8)(hm:1<=m)(vh:m<=8)(hX:X.length<=100000)(h2:2<=(Txt.split X sb).length)(hd:done.length<=6)(h:dS X=true)(e:Kr n m done X=some p):
 dB (A5 L n m done<|sT<|.int pre.length)=some (.nx<|A5 L n m (done++[p])<|sT<|.int pre.length):=by
 have hc:=To hL hn K' hm vh hX h2 hd;rw[e]at hc;have es:done.map (λp=>O.lf true<|yO p)++[O.lf true<|yO p]=(done++[p]).map λp=>O.lf true (yO p):=⋯;refine zd (TB hL h) ?_;rw[vZ rfl (by rw[zzB];exact yI ⋯)<|yt hc ⋯ (VF (x:=yO p) rfl),es];rfl
def om(L:List Str)(n m:Int)(r:Option Out)(q:Option (D×AS)):Nat ⊕ (List Dd×List Str)->Prop
 | .inl k=>r=none/\∃as,q=some (.int k,as)
 | .inr x=>q=none/\∃e4,r=some (.nx<|A5 L n m x.1 e4)
theorem Px(hn:1<=n)(K':n<=8)(hm:1<=m)(vh:m<=8)(hL:L.length<=1000000)(hw:∀X ∈ L,X.length<=100000):∀V' pre done e4,L=pre++V'->done.length<=6->
 om L n m (forL X3 dB (y4 pre.length V'.length)<|A5 L n m done e4) (ZM X3 dB dG (y4 pre.length V'.length)<|A5 L n m done e4) (xI n m pre.length V' done)
 | [],pre,done,e4,h,hd=>⟨rfl,e4,rfl⟩
 |X::V',pre,done,e4,h,hd=>by
  have hX:=hw X (by rw[h];simp);have C':pre.length<=1000000:=by have:=congrArg List.length h;rw[zzJ]at this;omega
  rw[show(X::V').length=V'.length+1 from rfl,y_]
  rcases WH X with⟨b,r,e,hs⟩|⟨hs,_⟩
  . have h2:2<=(Txt.split X sb).length:=by rw[e];simp
    unfold xI;rw[if_pos hs];cases ed:Kr n m done X with
    |none=>
     obtain⟨b1,b2⟩:=OU h hn K' hm vh hX h2 hd C' hs ed;exact⟨EW rfl b1,_,(Th rfl b1).trans b2⟩
    |some p=>
     have s1:=Bh h hn K' hm vh hX h2 hd hs ed;have ih:=Px hn K' hm vh hL hw V' (pre++[X]) _ (sT<|.int pre.length) (by rw[h];simp)<|En ed hd;rw[show(pre++[X]).length=pre.length+1 by simp]at ih
     rwa [zW rfl s1 rfl,PP rfl s1 rfl]
  . unfold xI;rw[if_neg<|by rw[hs];decide];exact⟨Ap rfl<|Nk h hs,_,JV rfl<|Nk h hs⟩
theorem Wu:∀V' k done ds Y',xI n m k V' done = .inr (ds,Y')->∃mid,V'=mid++Y'/\ds.length=done.length+mid.length
 | [],k,done,ds,Y',h=>by cases h;exact⟨[],rfl,rfl⟩
 |X::V',k,done,ds,Y',h=>by
  unfold xI at h
  split at h
  . cases e:Kr n m done X with
    |none=>rw[e]at h;cases h
    |some p=>
     rw[e]at h;obtain⟨mid,h1,h2⟩:=Wu V' _ _ ds Y' h;exact⟨X::mid,by rw[h1];rfl,by rw[h2];simp;omega⟩
  . cases h;exact⟨[],rfl,rfl⟩
def TU{i:Nat}(h:as[i]? = some (sT<|yK L)):WD (fP (aC (fV i) aN) z8) as true (.int L.length):=by
 have:=Li h
 rwa [zzB]at this
def BP(hL:L=x::y::z::V')(hn:1<=n)(K':n<=8)(hm:1<=m)(vh:m<=8)(hl:L.length<=200000)(hw:∀X ∈ L,X.length<=100000):
 (∀k,xI n m 3 V' [] = .inl k->yT [(true,yK L),(true,.int n),(true,.int m)]=none/\xj [(true,yK L),(true,.int n),(true,.int m)]=some (.int k))/\(∀q,xI n m 3 V' [] = .inr q->RE (yT [(true,yK L),(true,.int n),(true,.int m)]) (.lst<|q.1.map yO)/\xj [(true,yK L),(true,.int n),(true,.int m)]=none):=by
 have run:=Px hn K' hm vh (by omega) hw V' [x,y,z] [] none hL (by simp);have s1:zm false 3 (yx dN) (ya 5 [(true,yK L),(true,.int n),(true,.int m)])=some (.nx<|A5 L n m [] none):=y6 (i:=3) (vB zI<|by decide)<|zh rfl;have hr:yq (aC wZ<|aC (fP yy z8) aN) VY (A5 L n m [] none)=some (y4 3 V'.length,A5 L n m [] none):=by
  have:=LD (i:=3) (j:=L.length) (as:=A5 L n m [] none) (fr:=aC wZ<|aC (fP yy z8) aN) (zk za<|zk (TU rfl) zq) (by decide) (by decide) (by omega) (by omega);rw[show((L.length:Int)-3).toNat=V'.length by rw[hL];simp;omega]at this;exact this
 have run:om L n m _ _ (xI n m 3 V' []):=run;refine⟨λk e=>?_,λq e=>?_⟩
 . rw[e]at run;obtain⟨r1,as,r2⟩:=run;have f1:vD (yq (aC wZ<|aC (fP yy z8) aN) VY) X3 dB (A5 L n m [] none)=none:=by unfold vD;rw[hr];exact r1
   have f2:RN (yq (aC wZ<|aC (fP yy z8) aN) VY) X3 dB dG (A5 L n m [] none)=some (.int k,as):=by unfold RN;rw[hr];exact r2
   refine⟨Pp<|ZD s1<|vK f1, ?_⟩;unfold xj gY;rw[QW s1 f2];rfl
 . rw[e]at run;obtain⟨r2,e4,r1⟩:=run;have f2:RN (yq (aC wZ<|aC (fP yy z8) aN) VY) X3 dB dG (A5 L n m [] none)=none:=by unfold RN;rw[hr];exact r2
   refine⟨?_,by
    unfold xj gY;rw[QW s1 f2];rfl⟩
   exact⟨.nd .ls<|q.1.map λp=>O.lf true<|yO p,zG rfl<|zd s1<|zd (wk hr r1)<|Vo (i:=3) rfl<|U6 _ _,U6 _ _,congrArg D.lst<|UU _ _⟩
abbrev B5(L:List Str)(k n:Int)(done:List Sd)(e4:Option O):AS:=[sT<|yK L,sT<|.int k,sT<|.int n,sN<|done.map λp=>O.lf true<|yB p,e4]
abbrev sE:EF:=zf (aC (f2 zo zS zU)<|aC zH xX) xG
abbrev sB:SF:=yE<|wG 3 (dC (zf (aC sE<|aC zS aN) zV) dN) wN
abbrev sG:WU:=My 3<|gC (aC sE<|aC zS aN) yH
def P1(hL:L=pre++X::V')(hX:X.length<=100000)(hd:done.length<=4):
 WE sE (B5 L k n done<|sT<|.int pre.length) (ke<|Tg n done X):=by
 obtain⟨o,h1,h3,h4⟩:=SL (done:=done) hX ⋯;refine⟨o,Ra (NQ (zy ⋯ ⋯ (xR<|Rq hL)) rfl) rfl ?_,h3,h4⟩;show xG [_,_,(false,.lst _)]=_
 rwa [UU]
def Oy(hL:L=pre++X::V')(hX:X.length<=100000)(hd:done.length<=4)(hp:pre.length<=1000000)(e:Tg n done X=none):
 sB (B5 L k n done<|sT<|.int pre.length)=none/\sG (B5 L k n done<|sT<|.int pre.length)=some (.int pre.length,B5 L k n done<|sT<|.int pre.length):=by
 have hc:=P1 (k:=k) (n:=n) hL hX hd;rw[e]at hc;exact⟨Ol rfl<|vO hc ⋯ WG,(jZ rfl).trans<|DI hc ⋯ (Vm hp)⟩
def F7(hL:L=pre++X::V')(hX:X.length<=100000)(hd:done.length<=4)(e:Tg n done X=some p):
 sB (B5 L k n done<|sT<|.int pre.length)=some (.nx<|B5 L k n (done++[p])<|sT<|.int pre.length):=by
 have hc:=P1 (k:=k) (n:=n) hL hX hd;rw[e]at hc;have es:done.map (λp=>O.lf true<|yB p)++[O.lf true<|yB p]=(done++[p]).map λp=>O.lf true (yB p):=⋯;rw[show sB=yE _ from rfl,vZ rfl (by rw[zzB];exact yI ⋯)<|yt hc ⋯ (VF (x:=yB p) rfl),es];rfl
def SRun(L:List Str)(k n:Int)(r:Option Out)(q:Option (D×AS)):Nat ⊕ List Sd->Prop
 | .inl j=>r=none/\∃as,q=some (.int j,as)
 | .inr x=>q=none/\∃e4,r=some (.nx<|B5 L k n x e4)
theorem PN(hL:L.length<=1000000)(hw:∀X ∈ L,X.length<=100000):∀V' pre done e4,L=pre++V'->done.length<=4->
 SRun L k n (forL X3 sB (y4 pre.length V'.length)<|B5 L k n done e4) (ZM X3 sB sG (y4 pre.length V'.length)<|B5 L k n done e4) (xN n pre.length V' done)
 | [],pre,done,e4,h,hd=>⟨rfl,e4,rfl⟩
 |X::V',pre,done,e4,h,hd=>by
  have hX:=hw X (by rw[h];simp);have C':pre.length<=1000000:=by have:=congrArg List.length h;rw[zzJ]at this;omega
  rw[show(X::V').length=V'.length+1 from rfl,y_];unfold xN;cases ed:Tg n done X with
  |none=>
   obtain⟨b1,b2⟩:=Oy h hX hd C' ed;exact⟨EW rfl b1,_,(Th rfl b1).trans b2⟩
  |some p=>
   have s1:=F7 (k:=k) h hX hd ed;have ih:=PN (k:=k) (n:=n) hL hw V' (pre++[X]) _ (sT<|.int pre.length) (by rw[h];simp)<|EB ed hd;rw[show(pre++[X]).length=pre.length+1 by simp]at ih
   rwa [zW rfl s1 rfl,PP rfl s1 rfl]
def F4(hL:L=pre++V')(hl:L.length<=200000)(hw:∀X ∈ L,X.length<=100000):
 (∀k,xN n pre.length V' [] = .inl k->wy [(true,yK L),(true,.int pre.length),(true,.int n)]=none/\wC [(true,yK L),(true,.int pre.length),(true,.int n)]=some (.int k))/\(∀q,xN n pre.length V' [] = .inr q->RE (wy [(true,yK L),(true,.int pre.length),(true,.int n)]) (.lst<|q.map yB)):=by
 have run:=PN (k:=pre.length) (n:=n) (by omega) hw V' pre [] none hL (by simp);have len:L.length=pre.length+V'.length:=by rw[hL];simp
 have s1:zm false 3 (yx dN) (ya 5 [(true,yK L),(true,.int pre.length),(true,.int n)])=some (.nx<|B5 L pre.length n [] none):=y6 (i:=3) (vB zI<|by decide)<|zh rfl;have hr:yq (aC zA<|aC (fP yy z8) aN) VY (B5 L pre.length n [] none)=some (y4 pre.length V'.length,B5 L pre.length n [] none):=by
  have:=LD (j:=L.length) (as:=B5 L pre.length n [] none) (fr:=aC zA<|aC (fP yy z8) aN) (zk (zb rfl)<|zk (TU rfl) zq) (by omega) (by omega) (by omega) (by omega)
  rwa [show((L.length:Int)-pre.length).toNat=V'.length by rw[len];omega]at this
 refine⟨λk e=>?_,λq e=>?_⟩
 . rw[e]at run;obtain⟨r1,as,r2⟩:=run;have f1:vD (yq (aC zA<|aC (fP yy z8) aN) VY) X3 sB (B5 L pre.length n [] none)=none:=by unfold vD;rw[hr];exact r1
   have f2:RN (yq (aC zA<|aC (fP yy z8) aN) VY) X3 sB sG (B5 L pre.length n [] none)=some (.int k,as):=by unfold RN;rw[hr];exact r2
   refine⟨Pp<|ZD s1<|vK f1, ?_⟩;unfold wC gY;rw[QW s1 f2];rfl
 . rw[e]at run;obtain⟨_,e4,r1⟩:=run;exact⟨.nd .ls<|q.map λp=>O.lf true<|yB p,zG rfl<|zd s1<|zd (wk hr r1)<|Vo (i:=3) rfl<|U6 _ _,U6 _ _,congrArg D.lst<|UU _ _⟩
def DK{k:Nat}(h:(L.map D.str)[k]? = some (.str q))(hk:k<L.length):yG [(true,yK L),(true,.int k)]=sT (.str q):=
 zG rfl (zd (zr (zg (xU ⋯ (X2 ⋯).e (by
  rw[zzB];exact congrArg some<|beq_eq_false_iff_ne.mpr ⋯)) rfl) rfl)<|zN<|zy ⋯ ⋯ (xR h))
def rg{k:Nat}(hk:(k==L.length)=b):WT (fT<|f2 zA (fP yy z8)<|zj .Eq) (ya 2 [(true,yK L),(true,.int k)]) b:=
 zg (xU ⋯ (X2 ⋯).e (by
  show some _=_;rw[zzB,ER,hk])) rfl
def Dw{k:Nat}(hk:k=L.length):yG [(true,yK L),(true,.int k)]=none:=Pp<|vK<|tO (rg<|by rw[hk];simp) rfl
def D7{k:Nat}(hk:k=L.length)(h:k<=1000000):xa [(true,yK L),(true,.int k)]=some (.int k):=by
 have ht:=rg (L:=L) (k:=k) (b:=true) (by rw[hk];simp);unfold xa qH;rw[ht];show(if ZK _=true then some _ else none)=_;rw[if_pos<|E5 h]
def nV{k:Nat}(hk:k<L.length):xa [(true,yK L),(true,.int k)]=none:=by
 have ht:=rg (L:=L) (k:=k)<|beq_eq_false_iff_ne.mpr ⋯;unfold xa qH;rw[ht];rfl
def V5(h:f as=some r):X1 f g as=some r:=by unfold X1;rw[h];rfl
def Xu(h:f as=none)(h2:g as=r):X1 f g as=r:=by unfold X1;rw[h,h2];rfl
def M4(ha:fr as=some (rs,U'))(hv:xW U' rs=some xs)(hg:g xs=none):gC fr g as=none:=by
 unfold gC;rw[ha];show(xW U' rs).bind _=_;rw[hv];show(g xs).bind _=_;rw[hg];rfl
def Oa(ha:WE a as x)(hb:WE b as y)(hg:g [(true,x),(true,y)]=none):gC (aC a<|aC b aN) g as=none:=
 M4 (yX ha<|yX hb zq) ⋯ (by show g [(zB x||true,x),(zB y||true,y)]=_;rwa [zyC,zyC])
def jc(ha:WE a as x)(hb:WE b as y)(hc:WE c as z)(hg:g [(true,x),(true,y),(true,z)]=none):gC (aC a<|aC b<|aC c aN) g as=none:=
 M4 (yX ha<|yX hb<|yX hc zq) (Zh _) (by show g [(zB x||true,x),(zB y||true,y),(zB z||true,z)]=_;rwa [zyC,zyC,zyC])
def iz(ha:WE a as x)(hb:WE b as y)(hc:WE c as z)(hg:g [(true,x),(true,y),(true,z)]=some d):gC (aC a<|aC b<|aC c aN) g as=some (d,as):=
 MA (yX ha<|yX hb<|yX hc zq) (Zh _) (by show g [(zB x||true,x),(zB y||true,y),(zB z||true,z)]=_;rwa [zyC,zyC,zyC])
def Nm(ha:WE a as x)(hb:WE b as y)(hc:WE c as z)(hg:g [(true,x),(true,y),(true,z)]=none):zf (aC a<|aC b<|aC c aN) g as=none:=
 GL (yX ha<|yX hb<|yX hc zq) (Zh _) (by show g [(zB x||true,x),(zB y||true,y),(zB z||true,z)]=_;rwa [zyC,zyC,zyC])
abbrev Tl:=List Dd×List Sd
noncomputable def qu(h:Hd)(V':List Str):Nat ⊕ Tl:=(xI h.1 h.2.1 3 V' []).elim .inl λq=>(xN h.1 (3+q.1.length) q.2 []).elim .inl λss=>.inr (q.1,ss)
noncomputable def Oh(V':List Str)(r:Nat ⊕ Hd):Nat ⊕ (Hd×Tl):=r.elim .inl λh=>(qu h V').elim .inl λt=>.inr (h,t)
noncomputable def Ac(L:List Str):Nat ⊕ (Hd×Tl):=Oh (L.drop 3)<|qI L
def vQ(a:Hd×Tl):D:=.tup [.int a.1.1,.int a.1.2.1,.lst<|a.1.2.2.1.map zx,.int a.1.2.2.2,.lst<|a.2.1.map yO,.lst<|a.2.2.map yB]
def AR(r:Option Out)(q:Option (D×AS)):Nat ⊕ (Hd×Tl)->Prop
 | .inl k=>r=none/\∃as,q=some (.int k,as)
 | .inr a=>r=some (.rt<|.lf true<|vQ a)
abbrev A9(X:Str)(L:List Str)(s n m t e:Option O):AS:=[sT<|.str X,sT<|yK L,s,n,m,t,e,none,none]
abbrev eD:AF:=aC zA<|aC zP<|aC zS aN
abbrev eS:AF:=aC zA<|aC (f2 wZ (fP HZ z8) zl) xX
abbrev t7:SF:=ze (zm true 7<|zf eD yT)<|ze (zm true 8<|zf eS wy) o9
abbrev g7:WU:=X1 (gC eD xj)<|Y0 (zm true 7<|zf eD yT)<|gC eS wC
abbrev eL(k:Int):AF:=aC zA<|aC (fC<|.int k) aN
abbrev e6:AF:=aC (zf (aC (zf (eL 2) yG) xX) yL)<|aC yJ aN
abbrev t6:SF:=ze (zm true 6<|zf e6 zV) t7
abbrev g6:WU:=X1 (gC (eL 2) xa)<|X1 (gC e6 yH)<|Y0 (zm true 6<|zf e6 zV) g7
abbrev e5:AF:=aC (zf (aC (zf (eL 1) yG) xX) xM)<|aC zD aN
abbrev t5:SF:=ze (zm true 5<|zf e5 zV) t6
abbrev g5:WU:=X1 (gC (eL 1) xa)<|X1 (gC e5 yH)<|Y0 (zm true 5<|zf e5 zV) g6
def T7(hL:L=x::y::z::V')(hn:1<=n)(K':n<=8)(hm:1<=m)(vh:m<=8)(hl:L.length<=200000)(hw:∀X ∈ L,X.length<=100000):
 AR (t7<|A9 X L s (sT<|.int n) (sT<|.int m) (sT<|.lst<|T.map zx)<|sT<|.int e) (g7<|A9 X L s (sT<|.int n) (sT<|.int m) (sT<|.lst<|T.map zx)<|sT<|.int e) (Oh V'<|.inr (n,m,T,e)):=by
 obtain⟨d1,d2⟩:=BP (n:=n) (m:=m) hL hn K' hm vh hl hw;unfold Oh qu;show AR _ _ (((xI n m 3 V' []).elim Sum.inl λq=>(xN n (3+q.1.length) q.2 []).elim .inl λss=>.inr (q.1,ss)).elim .inl λt=>.inr ((n,m,T,e),t));cases h1:xI n m 3 V' []with
 |inl k=>
  obtain⟨a,b⟩:=d1 k h1;exact⟨vK<|Wo<|Nm (ve rfl) (ve rfl) (ve rfl) a,_,V5<|iz (ve rfl) (ve rfl) (ve rfl) b⟩
 |inr q=>
  obtain⟨a,b⟩:=d2 q h1;obtain⟨ds,Y'⟩:=q;obtain⟨mid,r1,r2⟩:=Wu V' 3 [] ds Y' h1;have hlen:([x,y,z]++mid).length=3+ds.length:=by rw[r2];simp;omega
  obtain⟨s1,s2⟩:=F4 (L:=L) (pre:=[x,y,z]++mid) (V':=Y') (n:=n) (by rw[hL,r1];simp) hl hw;rw[hlen]at s1 s2;have st:=yZ (p:=7) (f:=zf eD yT) (as:=A9 X L s (sT<|.int n) (sT<|.int m) (sT<|.lst<|T.map zx)<|sT<|.int e) (Zt (ve rfl) (ve rfl) (ve rfl) a)<|zh rfl;have hp:∀{as:AS},as[7]? = some (sT<|.lst<|ds.map yO)->WE (f2 wZ (fP HZ z8) zl) as (.int ((3+ds.length:Nat):Int)):=λh=>by
   have:=(yr (za (x:=.int 3))<|X2<|ve h).e;rw[zzB]at this
   rwa [show((3+ds.length:Nat):Int)=3+(ds.length:Int) by omega]
  cases h2:xN n (3+ds.length) Y' []with
  |inl k=>
   obtain⟨a',b'⟩:=s1 k h2;show AR _ _ (((xN n (3+ds.length) Y' []).elim Sum.inl λss=>.inr (ds,ss)).elim .inl λt=>.inr ((n,m,T,e),t));rw[h2];exact⟨ZD st<|vK<|Wo<|Nm (ve rfl) (hp rfl) (ve rfl) a',_,Xu (jc (ve rfl) (ve rfl) (ve rfl) b)<|QW st<|iz (ve rfl) (hp rfl) (ve rfl) b'⟩
  |inr ss=>
   have a':=s2 ss h2;show AR _ _ (((xN n (3+ds.length) Y' []).elim Sum.inl λss=>.inr (ds,ss)).elim .inl λt=>.inr ((n,m,T,e),t));rw[h2];exact zd st<|zd (yZ (p:=8) (Zt (ve rfl) (hp rfl) (ve rfl) a')<|zh rfl)<|zN<|Ue (zi (zb rfl)<|zi (zb rfl)<|zi (zb rfl)<|zi (zb rfl)<|zi (zb rfl)<|zi (zb rfl) zI) (Ww rfl) rfl rfl rfl
def T6(hL:L=x::y::V')(hn:1<=n)(K':n<=8)(hm:1<=m)(vh:m<=8)(hl:L.length<=200000)(hw:∀X ∈ L,X.length<=100000):
 AR (t6<|A9 X L s (sT<|.int n) (sT<|.int m) (sT<|.lst<|T.map zx) none) (g6<|A9 X L s (sT<|.int n) (sT<|.int m) (sT<|.lst<|T.map zx) none) (Oh (V'.drop 1)<|M0 n m T V'):=by
 cases V' with
 |nil=>
  have e2:2=L.length:=by rw[hL];rfl
  exact⟨vK<|Wo<|Vd<|Kl<|Vd<|Kl<|vO (ve rfl) ce<|Dw e2,_,V5<|DI (ve rfl) ce<|D7 e2<|by decide⟩
 |cons z V'=>
  have hk:2<L.length:=by rw[hL];simp
  have l2:WE (zf (aC (zf (eL 2) yG) xX) yL) (A9 X L s (sT<|.int n) (sT<|.int m) (sT<|.lst<|T.map zx) none) (oD<|G0 n z):=vE ((λh=>(yt (ve h) ce<|DK (k:=2) (by rw[hL];rfl) hk).e) rfl) (ve rfl) (JW<|hw z<|by rw[hL];simp);have gl:gC (eL 2) xa (A9 X L s (sT<|.int n) (sT<|.int m) (sT<|.lst<|T.map zx) none)=none:=Oa (ve rfl) ce<|nV (k:=2) hk;unfold M0;show AR _ _ (Oh V'<|(G0 n z).elim (.inl 2) λe=>.inr (n,m,T,e));cases en:G0 n z with
  |none=>
   rw[en]at l2;exact⟨vK<|Wo<|vO l2 ce WG,_,Xu gl<|V5<|DI l2 ce<|Vm (k:=2)<|by decide⟩
  |some e=>
   rw[en]at l2;have st:=zw (st:=true) (i:=6) (f:=zf e6 zV) (yt l2 ce<|VF rfl)<|zh rfl;have ih:=T7 (X:=X) (s:=s) (e:=e) (T:=T) hL hn K' hm vh hl hw
   rwa [show t6 _=_ from zd st rfl,show g6 _=_ from Xu gl<|Xu (Oa l2 ce<|MB rfl)<|QW st rfl]
def T5(hL:L=x::V')(hn:1<=n)(K':n<=8)(hm:1<=m)(vh:m<=8)(hl:L.length<=200000)(hw:∀X ∈ L,X.length<=100000):
 AR (t5<|A9 X L s (sT<|.int n) (sT<|.int m) none none) (g5<|A9 X L s (sT<|.int n) (sT<|.int m) none none) (Oh (V'.drop 2)<|hd2 n m V'):=by
 cases V' with
 |nil=>
  have e2:1=L.length:=by rw[hL];rfl
  exact⟨vK<|Wo<|Vd<|Kl<|Vd<|Kl<|vO (ve rfl) ce<|Dw e2,_,V5<|DI (ve rfl) ce<|D7 e2<|by decide⟩
 |cons y V'=>
  have hk:1<L.length:=by rw[hL];simp
  have l2:WE (zf (aC (zf (eL 1) yG) xX) xM) (A9 X L s _ (sT<|.int m) none none) (oT<|Q1 n y):=vE ((λh=>(yt (ve h) ce<|DK (k:=1) (by rw[hL];rfl) hk).e) rfl) (ve rfl) (JS hn K'<|hw y<|by rw[hL];simp);have gl:gC (eL 1) xa (A9 X L s (sT<|.int n) (sT<|.int m) none none)=none:=Oa (ve rfl) ce<|nV (k:=1) hk;unfold hd2;show AR _ _ (Oh (V'.drop 1)<|(Q1 n y).elim (.inl 1) λT=>M0 n m T V');cases en:Q1 n y with
  |none=>
   rw[en]at l2;exact⟨vK<|Wo<|vO l2 ce WG,_,Xu gl<|V5<|DI l2 ce<|Vm (k:=1)<|by decide⟩
  |some T=>
   rw[en]at l2;have st:=zw (st:=true) (i:=5) (f:=zf e5 zV) (yt l2 ce<|VF rfl)<|zh rfl;have ih:=T6 (X:=X) (s:=s) (T:=T) hL hn K' hm vh hl hw
   rwa [show t5 _=_ from zd st rfl,show g5 _=_ from Xu gl<|Xu (Oa l2 ce<|MB rfl)<|QW st rfl]
def DM{n m:Nat}(hl:ds.length=m)(h:g (ya n ds)=some (d,as)):gY n m g ds=some d:=by
 unfold gY;rw[if_pos hl,h];rfl
def Vn(x y):Txt.split x y≠[]:=by
 intro e;have:=congrArg List.length e;rw[wo]at this;simp[Builtin.Str.partsBetween]at this
abbrev iQ:AF:=aC uq<|aC z6 aN
def KH(hX:X.length<=100000):(∀k,Ac (Txt.split X sn) = .inl k->yn [(true,.str X)]=none/\wQ [(true,.str X)]=some (.int k))/\(∀a,Ac (Txt.split X sn) = .inr a->yn [(true,.str X)]=sT (vQ a)):=by
 have hl:(Txt.split X sn).length<=200000:=by have:=split_len X sn;omega
 have hw:∀w ∈ Txt.split X sn,w.length<=100000:=λw m=>zzO (yd m) hX;have s1:zm true 1 IB (ya 9 [(true,.str X)])=some (.nx _):=yZ (p:=1) (we (y:=sn) (zb rfl) rh hX)<|zh rfl;have vp:=Vn X sn;generalize Txt.split X sn=L at hl hw s1 vp;obtain⟨x,L1,hL⟩:∃x L1,L=x::L1:=by
  cases L with
  |nil=>exact absurd rfl vp
  |cons x L1=>exact⟨x,L1,rfl⟩
 have l1:WE uq [sT<|.str X,sT<|yK L,none,none,none,none,none,none,none] (oP<|PK x):=UC (zy (zb rfl) za<|xR (k:=0)<|by rw[hL];rfl).e (IP<|hw x<|by rw[hL];simp);have ha:Ac L=Oh (L1.drop 2) ((PK x).elim (.inl 0) λp=>hd2 p.1 p.2 L1):=by rw[hL];rfl
 rw[ha];cases es:PK x with
 |none=>
  rw[es]at l1;refine⟨λk e=>?_,λa e=>nomatch e⟩;cases e;exact⟨Pp<|ZD s1<|vK<|Wo<|vO l1 ce WG,DM rfl<|QW s1<|V5<|DI l1 ce<|Vm (k:=0)<|by decide⟩
 |some p=>
  obtain⟨n,m⟩:=p;obtain⟨⟨n1,n8⟩,m1,m6⟩:=OZ es;rw[es]at l1;have s2:=zw (st:=true) (i:=2) (f:=zf iQ zV) (yt l1 ce<|VF rfl)<|zh rfl;have s3:=zw (st:=true) (i:=3) (as:=[sT<|.str X,sT<|yK L,sT<|.tup [.int n,.int m],none,none,none,none,none,none]) (f:=f2 zH z6 zU) (x:=.int n) (zy (zb rfl) za rfl)<|zh rfl;have s4:=zw (st:=true) (i:=4) (as:=[sT<|.str X,sT<|yK L,sT<|.tup [.int n,.int m],sT<|.int n,none,none,none,none,none]) (f:=f2 zH zD zU) (x:=.int m) (zy (zb rfl) za rfl)<|zh rfl;have ih:=T5 (X:=X) (s:=sT<|.tup [.int n,.int m]) hL n1 n8 m1 (by omega) hl hw;refine⟨λk e=>?_,λa e=>?_⟩
  . have e:Oh (L1.drop 2) (hd2 n m L1) = .inl k:=e;rw[e]at ih;obtain⟨a1,as,a2⟩:=ih;exact⟨Pp<|ZD s1<|ZD s2<|ZD s3<|ZD s4 a1,DM rfl<|QW s1<|Xu (Oa l1 ce<|MB rfl)<|QW s2<|QW s3<|QW s4 a2⟩
  . have e:Oh (L1.drop 2) (hd2 n m L1) = .inr a:=e;rw[e]at ih;exact zG rfl<|zd s1<|zd s2<|zd s3<|zd s4 ih
abbrev hD(h:Hd):D:=.tup [.int h.1,.int h.2.1,.lst<|h.2.2.1.map zx,.int h.2.2.2]
abbrev jw(ds:List Dd):O:=.nd .ls<|ds.map λp=>O.lf true<|yO p
abbrev jY(ss:List Sd):O:=.nd .ls<|ss.map λp=>O.lf true<|yB p
abbrev CC(X:Str)(L:List Str)(k:Nat)(h:Hd)(ds:List Dd)(ss:List Sd)(e7 e8 e9 e10 e11:Option O):AS:=
 [sT<|.str X,sT<|yK L,sT<|.int k,sT<|hD h,sT<|.int h.1,some<|jw ds,some<|jY ss,e7,e8,e9,e10,e11]
abbrev lI:GF:=gT 2<|Yo yb<|Yo (gN 1) GH
def Eo{α:Type}{i:Nat}{l:List α}{f}{g:α->D}(h:as[i]? = some (sN<|l.map λp=>O.lf true<|.tup [.str<|f p,g p]))(hl:l.length<=200000):WE (zC (x6<|fV i) [none,none] lI z_ zo) as (nl<|l.map f):=by
 have e:x6 (fV i) as=some (l.map λp=>((true,D.tup [.str<|f p,g p]):Xs),as):=by
  unfold x6;rw[YO h];show(match as[i]? with|some (some<|.nd .ls os)=>some _|_=>none).bind _=_;rw[h];show some ((l.map λp=>O.lf true _).map _,as)=_;rw[zyA];rfl
 have:=Ft (cap:=[none,none]) (g:=lI) (fe:=fV 0) e hl λp _=>⟨_,rfl,ve rfl⟩
 rwa [show nl _ = .lst (l.map λp=>D.str _) by show D.lst _=_;rw[zyA];rfl]
def kG{i:Nat}{os}(h:as[i]? = some (sN os))(hl:os.all O.isLf=true):WD (f2 (fV i) (yx dN)<|zj .Eq) as true (.bl os.isEmpty):=by
 have e0:yx dN as=some _:=vB zI ⋯;have e:(O.nd .ls os).kl=some (O.strs os):=by simp only[O.kl,hl,if_true]
 have ev:RV.view as (.bo i)=some (.lst<|O.toDs os,some<|O.strs os):=by rw[VH h,e];rfl
 unfold WD f2;rw[YO h];simp only[zyK,e0,RV.frz,ev];show((wb 60 _<|.lst []).bind _).bind _=_;rw[Tb,show(O.toDs os).isEmpty=os.isEmpty by cases os<;>rfl];rfl
theorem Mp{α:Type}(f:α->D):∀l:List α,(l.map λp=>O.lf true<|f p).all O.isLf=true
 | []=>rfl
 |_::r=>Mp f r
abbrev c8:EF:=zf (aC YS<|aC (fC<|.str "deed")<|aC (zC (x6 wg) [none,none] lI z_ zo)<|aC QU aN) wq
abbrev c9:EF:=zf (aC YS<|aC (fC<|.str "sign")<|aC (zC (x6 YT) [none,none] lI z_ zo)<|aC VC aN) wq
abbrev bad:SF:=zt<|yC<|dC zH<|dC (fC .non) dN
abbrev iO:EF:=zf nr xp
abbrev qJ:SF:=ze (zm true 10 iO)<|ze (yN oq bad xf)
 pe
abbrev oE:SF:=ze (zm true 11 jV)<|ze (yN j0 bad xf) q8
abbrev lB:SF:=ze (zm true 8 c8)<|ze (zm true 9 c9)<|ze (yN oU qJ<|yN (fT<|f2 (fV 9) (fC .non)<|zj .IsNot) oE bad)<|zm true 2<|f2 zH zD zl
noncomputable abbrev Lw(k:Nat):O:=.lf true<|.tup [.int k,.non]
def A0{k:Nat}(h:as[2]? = some (sT<|.int k)):bad as=some (.rt<|Lw k):=zN<|Qd ⋯ za
def P3(o):zj .IsNot (PY o) .non=some (.im<|.bl o.isSome):=by cases o<;>rfl
def OD(n m:Int)(ds:List Dd)(ss:List Sd)(Z):
 (dS Z=true/\Tp "sign" 4 (ss.map (·.1)) Z=none/\∃b r,Txt.split Z sb=("deed":Str)::b::r/\((vP (ds.map (·.1)) 6 b=true/\Tp "deed" 6 (ds.map (·.1)) Z=some (b,r))\/(vP (ds.map (·.1)) 6 b=false/\Tp "deed" 6 (ds.map (·.1)) Z=none)))\/(dS Z=false/\Tp "deed" 6 (ds.map (·.1)) Z=none):=by
 rcases WH Z with⟨b,r,e,hs⟩|⟨hs,he⟩
 . refine .inl ⟨hs, ?_,b,r,e, ?_⟩
   . rw[Xw e];refine if_neg ?_;rw[show(("deed":Str)=="sign")=false by decide +kernel,Bool.false_and];decide
   . rw[Xw e];cases h:vP _ 6 b with
     |true=>exact .inl ⟨rfl,if_pos ⋯⟩
     |false=>exact .inr ⟨rfl,if_neg ⋯⟩
 . refine .inr ⟨hs, ?_⟩;obtain⟨w1,_,_⟩:=sp Z
   rcases hz:Txt.split Z sb with _|⟨a,_|_⟩
   . exact absurd hz w1
   . exact Ex hz
   . rw[Xw hz];refine if_neg λh=>?_;rw[zyB]at h;have:=eq_of_beq h.1;rw[hz]at he;have:=he this;simp at this
def G_(h:Txt.split X sb=a::b::r):Kr n m done X=if vP (done.map (·.1)) 6 b=true then(w6 "c" m n<|J r).map λT=>(b,T)else none:=by
 cases r with
 |nil=>
  rw[MZ h,V6<|.inr rfl]
  split<;>rfl
 |cons c r=>exact KP h
def GR(n)(done)(X):Tg n done X=(Tp "sign" 4 (done.map (·.1)) X).bind λx=>(IQ n x.2).map λvs=>(x.1,vs):=by
 refine congrArg _<|funext λx=>?_;unfold IQ;cases vW n x.2 with
 |none=>rfl
 |some vs=>
  show(if WL vs=true then some _ else none)=Option.map _ (if WL vs=true then some vs else none)
  split<;>rfl
theorem DC:∀r,(r.map (·.length)).sum+r.length<=(J r).length+1
 | []=>⋯
 | [a]=>by
  have e:(J [a]).length=a.length:=⋯;rw[e];simp
 |a::b::r=>by
  have ih:=DC (b::r);have e:=congrArg List.length<|V1 a b r;simp only[zyR,List.sum_cons,zzJ,zzT,<-len_eq]at e ih ⊢;omega
def oC:zU (PY<|some (b,r)) (.int 1)=some (.im<|nl r):=⋯
def gn:zU (hD h) (.int 1)=some (.im<|.int h.2.1):=⋯
noncomputable def Y9(h:Hd)(ds:List Dd)(ss:List Sd)(Z:Str):Option Tl:=if(ss.isEmpty&&dS Z)=true then(Kr h.1 h.2.1 ds Z).map λp=>(ds++[p],ss)else(Tg h.1 ss Z).map λp=>(ds,ss++[p])
def SR(X:Str)(L:List Str)(k:Nat)(h:Hd)(Z:Str)(r:Option Out):Option Tl->Prop
 |none=>r=some (.rt<|Lw k)
 |some t=>∃e8 e9 e10 e11,r=some (.nx<|CC X L (k+1) h t.1 t.2 (sT<|.str Z) e8 e9 e10 e11)
abbrev qt:SF:=zm true 2<|f2 zH zD zl
def IE(hz:Z.length<=100000)(hs:Txt.split Z sb=("deed":Str)::b::r)(h1:1<=h.1)(h2:h.1<=8)(h3:1<=h.2.1)(h4:h.2.1<=8)(hd:ds.length<=6):
 (w6 "c" h.2.1 h.1 (J r)=none->ze qJ qt (CC X L k h ds ss (sT<|.str Z) (sT<|PY<|some (b,r)) e9 e10 e11)=some (.rt<|Lw k))/\
 (∀T,w6 "c" h.2.1 h.1 (J r)=some T->∃f8 gZ,ze qJ qt (CC X L k h ds ss (sT<|.str Z) (sT<|PY<|some (b,r)) e9 e10 e11)=some (.nx<|CC X L (k+1) h (ds++[(b,T)]) ss (sT<|.str Z) f8 e9 gZ e11)):=by
 obtain⟨_,_,w3⟩:=sp Z;rw[hs]at w3;have hjl:(J r).length<=100000:=by
  have a1:=Wj (w:=b) (r:=r);have a2:=Wj (w:=("deed":Str)) (r:=b::r);rw[<-w3]at a2;omega
 have hsum:=DC r;let A:AS:=CC X L k h ds ss (sT<|.str Z) (sT<|PY<|some (b,r)) e9 e10 e11;have hj:WD (z7 .str (fC<|.str " ") (aC (f2 (fV 8) zD zU) aN) wL) A true (.str<|J r):=UR za rfl (zy (as:=A) (zb (i:=8) rfl) za oC).e (Xe<|by rw[QZ];omega);have hc:=GS hj.e (zy (zb (i:=3) rfl) za gn).e (ve (i:=4) rfl) ⋯ (EY (p:="c") (X:=J r) (.inr rfl) h1 h2 h3 h4 hjl);have s10:=yZ (p:=10) hc<|zh rfl;refine⟨λe=>?_,λT e=>?_⟩
 . rw[e]at s10;exact z9<|zd s10 ⋯
 . rw[e]at s10;have hr:r.isEmpty=false:=by
    cases r with
    |nil=>rw[V6<|.inr rfl]at e;cases e
    |cons _ _=>rfl
   have ht:WT _ (CC X L k h ds ss (sT<|.str Z) (sT<|PY<|some (b,r)) e9 (sT<|oT<|some T) e11) false:=
    zE (k:=false) (zg (Zu (ve (i:=10) rfl) ce<|KM<|some T) rfl) (λ_=>zg (xU (q:=false) (zy (zb (i:=8) rfl) za oC).e (zZ zI (by decide) rfl rfl) (by show wb 60 (.lst<|r.map D.str) (.lst [])=_;rw[Tb];cases r with|nil=>cases hr|cons _ _=>rfl)) rfl) (λh=>nomatch h)
   have es:ds.map (λp=>O.lf true<|yO p)++[O.lf true<|yO (b,T)]=(ds++[(b,T)]).map λp=>O.lf true (yO p):=by rw[zyL];rfl
   have s5:=vZ (i:=5) (as:=CC X L k h ds ss (sT<|.str Z) (sT<|PY<|some (b,r)) e9 (sT<|oT<|some T) e11) (x:=yO (b,T)) rfl (by rw[zzB];exact yI<|by omega) ⋯;rw[es]at s5;exact⟨_,_,zd (zd s10<|zd (zr ht rfl) s5) ⋯⟩
def IL(hl:r.length<=200000)(hw:∀w ∈ r,w.length<=100000)(h2:h.1<=8)(hd:ss.length<=4):
 (IQ h.1 r=none->ze oE qt (CC X L k h ds ss (sT<|.str Z) e8 (sT<|PY<|some (b,r)) e10 e11)=some (.rt<|Lw k))/\
 (∀vs,IQ h.1 r=some vs->∃f9 f11,ze oE qt (CC X L k h ds ss (sT<|.str Z) e8 (sT<|PY<|some (b,r)) e10 e11)=some (.nx<|CC X L (k+1) h ds (ss++[(b,vs)]) (sT<|.str Z) e8 f9 e10 f11)):=by
 let A:AS:=CC X L k h ds ss (sT<|.str Z) e8 (sT<|PY<|some (b,r)) e10 e11;have s11:=yZ (p:=11) (as:=A) (uE (b:=b) (r:=r) rfl rfl h2 hl hw)<|zh rfl;refine⟨λe=>?_,λvs e=>?_⟩
 . exact z9<|zd s11<|z9<|yp (D5 (n:=h.1) (r:=r) rfl h2 hl<|by rw[e];rfl)<|A0 rfl
 . have hv:sV h.1 r=vs:=by
    obtain⟨vs',a,b⟩:=bS_ e
    split at b
    . cases b;exact GD a
    . cases b
   have es:ss.map (λp=>O.lf true<|yB p)++[O.lf true<|yB (b,vs)]=(ss++[(b,vs)]).map λp=>O.lf true (yB p):=⋯;have s6:=vZ (i:=6) (as:=CC X L k h ds ss (sT<|.str Z) e8 (sT<|PY<|some (b,r)) e10<|sT<|zx vs) (x:=yB (b,vs)) rfl (by rw[zzB];exact yI<|by omega) ⋯;have ht:=D5 (as:=CC X L k h ds ss (sT<|.str Z) e8 (sT<|PY<|some (b,r)) e10 _) (n:=h.1) (r:=r) (q:=false) rfl h2 hl (by rw[e];rfl);rw[hv]at s11 ht;rw[es]at s6;exact⟨_,_,zd (zd s11<|zd (zr ht rfl) s6) ⋯⟩
def F_{most:Nat}(h:Tp w most known X=some (b,r)):∃a,Txt.split X sb=a::b::r:=by
 unfold Tp at h
 split at h
 . rename_i a b' r' e
   split at h
   . cases h;exact⟨a,e⟩
   . cases h
 . cases h
def Rj(h:Tp "sign" 4 (ss.map (·.1)) Z=none):Tg n ss Z=none:=by rw[GR,h];rfl
def Se{k:Nat}(hz:Z.length<=100000)(h1:1<=h.1)(h2:h.1<=8)(h3:1<=h.2.1)(h4:h.2.1<=8)(hd:ds.length<=6)(hs:ss.length<=4):
 SR X L k h Z (lB<|CC X L k h ds ss (sT<|.str Z) e8 e9 e10 e11) (Y9 h ds ss Z):=by
 have s8:zm true 8 c8 (CC X L k h ds ss _ e8 e9 e10 e11)=some _:=
  yZ (p:=8) (GS (ve rfl) ce (Eo (i:=5) (l:=ds) rfl<|by omega) ce<|Uk (most:=6) hz) (zh rfl)
 have s9:zm true 9 c9 (CC X L k h ds ss _ _ e9 e10 e11)=some (.nx (CC X L k h ds ss _ (sT (PY (Tp "deed" 6 (ds.map (·.1)) Z))) _ e10 e11)):=
  yZ (p:=9) (GS (ve rfl) ce (Eo (i:=6) (l:=ss) rfl<|by omega) ce<|Uk (most:=4) hz) (zh rfl)
 have cnd:∀u v,WT _ (CC X L k h ds ss (sT<|.str Z) (sT<|PY u) (sT<|PY v) e10 e11) (u.isSome&&ss.isEmpty):=λu v=>by
  have he:=kG (as:=CC X L k h ds ss (sT<|.str Z) (sT<|PY u) (sT<|PY v) e10 e11) (i:=6) rfl<|Mp _ _;rw[show(ss.map λp=>O.lf true<|yB p).isEmpty=ss.isEmpty by cases ss<;>rfl]at he;exact YX (zg (Zu (ve (i:=8) rfl) ce<|P3 u) rfl) (λq=>by rw[q];exact zg he rfl) (λq=>by rw[q];rfl)
 have c9t:∀u v,WT _ (CC X L k h ds ss (sT<|.str Z) (sT<|PY u) (sT<|PY v) e10 e11) v.isSome:=λu v=>zg (Zu (ve (i:=9) rfl) ce<|P3 v) rfl;have no:∀u,Tp "deed" 6 (ds.map (·.1)) Z=u->(u.isSome&&ss.isEmpty)=false->Tp "sign" 4 (ss.map (·.1)) Z=none->lB _=some (.rt<|Lw k):=λu e1 e2 e3=>by
  have c:=cnd u none;rw[e1]at s8 s9;rw[e3]at s9;rw[e2]at c;exact zd s8<|zd s9<|z9<|(zr c rfl).trans ⋯
 rcases OD h.1 h.2.1 ds ss Z with⟨hS,hN,b,r,e,(⟨q,e1⟩|⟨q,e1⟩)⟩|⟨hS,e1⟩
 . cases hss:ss.isEmpty with
   |false=>
    unfold Y9;rw[hss,Rj hN];exact no _ e1 (by rw[hss,Bool.and_false]) hN
   |true=>
    unfold Y9;rw[hss,hS,G_ e,if_pos q];have c:=cnd (some (b,r)) none;rw[hss]at c;rw[e1]at s8 s9;rw[hN]at s9;obtain⟨d1,d2⟩:=IE (X:=X) (L:=L) (k:=k) (ss:=ss) hz e h1 h2 h3 h4 hd;have run:∀o,ze qJ qt _=some o->lB _=some o:=λo ho=>by
     refine zd s8<|zd s9 ?_;refine Eq.trans ?_ ho;show(yN _ qJ _ _).bind _=(qJ _).bind _;rw[yp c rfl]
    cases et:w6 "c" h.2.1 h.1 (J r)with
    |none=>exact run _ (d1 et)
    |some T=>
     obtain⟨f8,gZ,d3⟩:=d2 T et;exact⟨_,_,_,_,run _ d3⟩
 . unfold Y9;have e0:(if(ss.isEmpty&&dS Z)=true then(Kr h.1 h.2.1 ds Z).map λp=>(ds++[p],ss)else(Tg h.1 ss Z).map λp=>(ds,ss++[p]))=none:=by
    split
    . rw[G_ e,if_neg<|by rw[q];decide];rfl
    . rw[Rj hN];rfl
   rw[e0];exact no _ e1 rfl hN
 . unfold Y9;rw[hS,Bool.and_false,if_neg<|by decide];cases hN:Tp "sign" 4 (ss.map (·.1)) Z with
   |none=>
    rw[Rj hN];exact no _ e1 rfl hN
   |some x=>
    obtain⟨b,r⟩:=x;obtain⟨a,es⟩:=F_ hN;have hl:r.length<=200000:=by have:=split_len Z sb;rw[es]at this;simp only[zzT]at this;omega
    have hw:∀w ∈ r,w.length<=100000:=λw m=>zzO (yd (x:=Z) (y:=sb)<|by rw[es];simp[m]) hz;obtain⟨d1,d2⟩:=IL (X:=X) (Z:=Z) (L:=L) (k:=k) (h:=h) (ds:=ds) (ss:=ss) (b:=b) hl hw h2 hs;have c:=cnd none<|some (b,r);rw[e1]at s8 s9;rw[hN]at s9;have run:∀o,ze oE qt _=some o->lB _=some o:=λo ho=>by
     refine zd s8<|zd s9 ?_;refine Eq.trans ?_ ho;show(yN _ _ _ _).bind _=(oE _).bind _;rw[zr c rfl,yp (c9t none<|some (b,r)) rfl]
    rw[GR,hN];show SR _ _ _ _ _ _ (Option.map _<|Option.map _<|IQ h.1 r);cases et:IQ h.1 r with
    |none=>exact run _ (d1 et)
    |some vs=>
     obtain⟨f9,f11,d3⟩:=d2 vs et;exact⟨_,_,_,_,run _ d3⟩
noncomputable def Vt(h:Hd):Nat->List Str->List Dd->List Sd->Nat ⊕ Tl
 |_,[],ds,ss=>.inr (ds,ss)
 |k,Z::r,ds,ss=>(Y9 h ds ss Z).elim (.inl k) λt=>Vt h (k+1) r t.1 t.2
def Hr(e:Y9 h ds ss Z=some t)(hd:ds.length<=6)(hs:ss.length<=4):t.1.length<=6/\t.2.length<=4:=by
 unfold Y9 at e
 split at e
 . obtain⟨p,a,rfl⟩:=zzW.mp e;exact⟨En a hd,hs⟩
 . obtain⟨p,a,rfl⟩:=zzW.mp e;exact⟨hd,EB a hs⟩
theorem Hx:∀V' k ds ss,ss≠[]->Vt h k V' ds ss=(xN h.1 k V' ss).elim .inl λs=>.inr (ds,s)
 | [],k,ds,ss,_=>rfl
 |Z::V',k,ds,ss,hs=>by
  have he:ss.isEmpty=false:=by cases ss with|nil=>exact absurd rfl hs|cons _ _=>rfl
  unfold Vt xN Y9;rw[he];cases Tg h.1 ss Z with
  |none=>rfl
  |some p=>exact Hx V' _ ds _ ⋯
theorem CG:∀V' k ds,Vt h k V' ds []=(xI h.1 h.2.1 k V' ds).elim .inl λq=>(xN h.1 (k+(q.1.length-ds.length)) q.2 []).elim .inl λs=>.inr (q.1,s)
 | [],k,ds=>rfl
 |Z::V',k,ds=>by
  unfold Vt xI Y9;cases hS:dS Z with
  |true=>
   cases ed:Kr h.1 h.2.1 ds Z with
   |none=>rfl
   |some p=>
    show Vt h _ V' _ []=((xI h.1 h.2.1 _ V' _).elim _ _:Nat ⊕ Tl);rw[CG V' _<|ds++[p]];cases e:xI h.1 h.2.1 _ V' _ with
    |inl j=>rfl
    |inr q=>
     obtain⟨ds',Y'⟩:=q;obtain⟨mid,_,r2⟩:=Wu V' _ _ ds' Y' e;show((xN h.1 _ Y' []).elim _ _:Nat ⊕ Tl)=(xN h.1 _ Y' []).elim _ _;rw[show k+1+_=k+(ds'.length-ds.length) by simp at r2 ⊢;omega]
  |false=>
   show _=((xN h.1 _ _ []).elim _ _:Nat ⊕ Tl);rw[Nat.sub_self];unfold xN;cases Tg h.1 [] Z with
   |none=>rfl
   |some p=>exact Hx V' _ ds _ ⋯
def LR(X:Str)(L:List Str)(h:Hd)(r:Option Out):Nat ⊕ Tl->Prop
 | .inl k=>r=some (.rt<|Lw k)
 | .inr t=>∃k e7 e8 e9 e10 e11,r=some (.nx<|CC X L k h t.1 t.2 e7 e8 e9 e10 e11)
theorem Lm(h1:1<=h.1)(h2:h.1<=8)(h3:1<=h.2.1)(h4:h.2.1<=8):∀V' k ds ss e7 e8 e9 e10 e11,(∀Z ∈ V',Z.length<=100000)->ds.length<=6->ss.length<=4->
 LR X L h (forL (gN 7) lB (V'.map λZ=>((true,D.str Z):Xs))<|CC X L k h ds ss e7 e8 e9 e10 e11) (Vt h k V' ds ss)
 | [],k,ds,ss,e7,e8,e9,e10,e11,_,_,_=>⟨_,_,_,_,_,_,rfl⟩
 |Z::V',k,ds,ss,e7,e8,e9,e10,e11,hw,hd,hs=>by
  have st:=Se (X:=X) (L:=L) (k:=k) (e8:=e8) (e9:=e9) (e10:=e10) (e11:=e11) (hw Z ⋯) h1 h2 h3 h4 hd hs;unfold Vt;cases e:Y9 h ds ss Z with
  |none=>
   rw[e]at st;exact Ud rfl st
  |some t=>
   rw[e]at st;obtain⟨f8,f9,gZ,f11,st⟩:=st;obtain⟨a,b⟩:=Hr e hd hs;have ih:=Lm h1 h2 h3 h4 (X:=X) (L:=L) V' (k+1) t.1 t.2 (some<|.lf true<|.str Z) f8 f9 gZ f11 (λZ m=>hw Z<|zzD _ m) a b
   rwa [zyR,zW rfl st rfl]
def O_(h:WE f as (.lst ds)):Pe f as=some (ds.map λd=>((true,d):Xs),as):=by
 obtain⟨o,a,b,c⟩:=h;unfold Pe;rw[a,zyK];have e:Wp as (.ow o)=some ((true,.lst ds),as):=by
  show(Ax as<|RV.ow o.frz).bind _=_;have:o.frz = .lf true (.lst ds):=by unfold O.frz;rw[b,c]
  rw[this];rfl
 rw[e];show some _=_;rw[Ri]
def tW{os}(h:fr as=some (os,U'))(hl:os.length<=sizeLine):yC fr as=some (.ow<|Xh os,U'):=by
 unfold yC;rw[h,zyK,if_pos hl]
def oL:Nat ⊕ (Hd×Tl)->D
 | .inl k=>.tup [.int k,.non]
 | .inr a=>.tup [.int (-1),vQ a]
abbrev qN:EF:=yC<|dC (f1 (fC<|.int 1) RK)<|dC (f2 (fV 3) (yC<|dC (fV 5)<|dC (fV 6) dN)<|vR .Add) dN
def Aj{k:Nat}{ds}:∃o,zt qN (CC X L k h ds ss e7 e8 e9 e10 e11)=some (.rt o)/\o.str=true/\o.toD=oL (.inr (h,ds,ss)):=by
 let A:=CC X L k h ds ss e7 e8 e9 e10 e11;let A1:AS:=A.set 5<|some<|.lf true<|.lst<|ds.map yO;let A2:AS:=A1.set 6<|some<|.lf true<|.lst<|ss.map yB;have f5:(jw ds).frz = .lf true (.lst<|ds.map yO):=by show O.lf (O.strs _) (.lst<|O.toDs _)=_;rw[U6,UU]
 have f6:(jY ss).frz = .lf true (.lst<|ss.map yB):=by show O.lf (O.strs _) (.lst<|O.toDs _)=_;rw[U6,UU]
 have d6:dC (fV 6) dN A1=some ([.lf true<|.lst<|ss.map yB],A2):=by
  unfold dC;rw[YO (i:=6) rfl,zyK];rw[G5 (i:=6) rfl,f6];rfl
 have d5:dC (fV 5) (dC (fV 6) dN) A=some ([.lf true<|.lst<|ds.map yO,.lf true<|.lst<|ss.map yB],A2):=by
  unfold dC;rw[YO (i:=5) rfl,zyK];rw[G5 (i:=5) rfl,f5,zyK];show(dC (fV 6) dN A1).bind _=_;rw[d6];rfl
 have t5:yC (dC (fV 5)<|dC (fV 6) dN) A=some (.ow<|.lf true<|.tup [.lst<|ds.map yO,.lst<|ss.map yB],A2):=by
  unfold yC;rw[d5];rfl
 have f:f2 (fV 3) (yC<|dC (fV 5)<|dC (fV 6) dN) (vR .Add) A=some (.ow<|.lf true<|vQ (h,ds,ss),A2):=by
  unfold f2;have e3:fV 3 A=some _:=zb (i:=3) rfl;rw[e3,zyK,t5];rfl
 have d:dC (f1 (fC<|.int 1) RK) (dC _ dN) A=some (_,A2):=
  Zw (U9 za) (Zw f rfl)
 have t:=tW d<|Ww rfl;refine⟨.lf true _, ?_,rfl,rfl⟩;unfold zt;rw[show qN _=_ from t];rfl
def uf(e:qI L = .inr h):(1<=h.1/\h.1<=8)/\(1<=h.2.1/\h.2.1<=8)/\∃x y z V',L=x::y::z::V':=by
 cases L with
 |nil=>cases e
 |cons x L=>
  have e:(PK x).elim _ (λp=>hd2 p.1 p.2 L) = .inr h:=e;cases es:PK x with
  |none=>rw[es]at e;cases e
  |some p=>
   obtain⟨n,m⟩:=p;obtain⟨a,b,c⟩:=OZ es;rw[es]at e;cases L with
   |nil=>cases e
   |cons y L=>
    have e:(Q1 n y).elim _ (λT=>M0 n m T L) = .inr h:=e;cases ej:Q1 n y with
    |none=>rw[ej]at e;cases e
    |some T=>
     rw[ej]at e;cases L with
     |nil=>cases e
     | cons z L=>
            have e:(G0 n z).elim _ (λe=>Sum.inr _) = .inr h:=e;cases en:G0 n z with
            |none=>rw[en]at e;cases e
            |some v=>
             rw[en]at e;cases e;exact⟨a,⟨b,by show m<=8;omega⟩,_,_,_,_,rfl⟩
def ug(h)(V'):Vt h 3 V' [] []=qu h V':=by rw[CG];rfl
def CU(hX:X.length<=100000):RE (Yy [(true,.str X)]) (oL<|Ac<|Txt.split X sn):=by
 have hl:(Txt.split X sn).length<=200000:=by have:=split_len X sn;omega
 have hw:∀w ∈ Txt.split X sn,w.length<=100000:=λw m=>zzO (yd m) hX;have vp:=Vn X sn;have s1:zm true 1 (z7 .str zo _ xB) (ya 12 [(true,.str X)])=some (.nx _):=yZ (p:=1) (we (zb rfl) rh hX)<|zh rfl;generalize Txt.split X sn=L at hl hw vp s1;obtain⟨o,o1,o2,o3⟩:=UC (as:=[sT<|.str X,sT<|yK L,none,none,none,none,none,none,none,none,none,none]) (a:=fV 1) (ve rfl)<|Bb vp hw hl;have asg:∀S',gT 2 (Yo (gN 2)<|Yo (gN 3) GH) (true,oH<|qI L) _=some S'->Rm _ _ _=some (.nx S'):=λS' h=>GU o1 (by rwa [o2,o3]);unfold Ac;cases e:qI L with
 |inl k=>
  rw[e]at asg;have s2:=asg _ rfl;exact⟨Lw k,zG rfl<|zd s1<|zd s2 ⋯,rfl,rfl⟩
 |inr h=>
  obtain⟨⟨h1,h2⟩,⟨h3,h4⟩,x,y,z,V',hL⟩:=uf e;rw[e]at asg;have s2:=asg _ rfl;have s3:yN (fT<|f2 zP (fC .non)<|zj .Is) bad xf _=some (.nx [sT<|.str X,sT<|yK L,sT<|.int 3,sT<|hD h,none,none,none,none,none,none,none,none]):=zr ⋯ rfl;have s4:zm true 4 (f2 zP z6 zU) [sT<|.str X,sT<|yK L,sT<|.int 3,sT<|hD h,none,none,none,none,none,none,none,none]=some (.nx _):=zw (i:=4) ⋯ (zh rfl);have s5:zm false 5 (yx dN) [sT<|.str X,sT<|yK L,sT<|.int 3,sT<|hD h,sT<|.int h.1,none,none,none,none,none,none,none]=some (.nx _):=y6 (i:=5) ⋯ (zh rfl);have s6:zm false 6 (yx dN) [sT<|.str X,sT<|yK L,sT<|.int 3,sT<|hD h,sT<|.int h.1,some<|jw [],none,none,none,none,none,none]=some _:=y6 (i:=6) ⋯ (zh rfl);have hsl:Yq (yK L) (some 3) none=some (.fl<|V'.map D.str):=by rw[hL];exact Z_ (xs:=[.str x,.str y,.str z])
  have hi:Pe (wV zA (oS wZ) oN Yq) (CC X L 3 h [] [] none none none none none)=some (V'.map λZ=>((true,D.str Z):Xs),CC X L 3 h [] [] none none none none none):=by
   have:=O_<|wA (as:=CC X L 3 h [] [] none none none none none) (fl:=oS wZ) (fh:=oN) (ve (i:=1) rfl) rfl rfl hsl
   rwa [zyA]at this
  have run:=Lm (X:=X) (L:=L) h1 h2 h3 h4 V' 3 [] [] none none none none none (λZ m=>hw Z<|by rw[hL];simp[m]) (by simp) (by simp);have M0:L.drop 3=V':=by rw[hL];rfl
  rw[M0];show RE _ (oL<|(qu h V').elim .inl λt=>.inr (h,t));rw[ug]at run;cases et:qu h V' with
  |inl k=>
   rw[et]at run;exact⟨Lw k,zG rfl<|zd s1<|zd s2<|zd s3<|zd s4<|zd s5<|zd s6<|z9<|GK hi run,rfl,rfl⟩
  |inr t=>
   rw[et]at run;obtain⟨k,e7,e8,e9,e10,e11,run⟩:=run;obtain⟨o,r1,r2,r3⟩:=Aj (X:=X) (L:=L) (k:=k) (h:=h);exact⟨o,zG rfl<|zd s1<|zd s2<|zd s3<|zd s4<|zd s5<|zd s6<|zd (wk hi run) r1,r2,r3⟩
def og{j:Nat}{cn an}(h0:(cb as).bind Il=none)(h1:gb as=some (d,U'))(hj:j<U'.length)(h2:c (U'.set j<|sT<|.er cn an d)=some (.nx J')):IJ j cn an cb gb c as=some (.nx<|J'.set j none):=by
 unfold IJ;rw[h0];rw[h1];show(if j<U'.length then _ else none)=_;rw[if_pos hj];rw[h2];rfl
def IA(h:f as=none):(yE f as).bind Il=none:=by unfold yE;rw[h];rfl
noncomputable abbrev gF(k:Nat):D:=.er "NoText" "at" (.int k)
abbrev R3(X:Str)(o:O)(k:Nat):AS:=[sT<|.str X,some o,sT<|gF k]
def Jq{k:Nat}:WD (f1 zH<|nu "NoText" "at") (R3 X o k) true (.int k):=⋯
def Fz{X}{k:Nat}(h1:yn [(true,.str X)]=none)(h2:wQ [(true,.str X)]=some (.int k)):
 RE (Z3 [(true,.str X)]) (.lst [.bl true,.bl true,.bl false,.int k]):=by
 let o2:O:=.nd .ls [.lf true<|.bl true,.lf true<|.bl true];let o3:O:=.nd .ls [.lf true<|.bl true,.lf true<|.bl true,.lf true<|.bl false];let o4:O:=.nd .ls [.lf true<|.bl true,.lf true<|.bl true,.lf true<|.bl false,.lf true<|.int k];have c3:yE _ (R3 X o3 k)=some _:=vZ (i:=1) rfl (by decide) Jq;exact⟨o4,zG rfl<|zd ⋯ (zd (og (IA<|GL rfl rfl h1) (MA rfl rfl h2) (zh rfl) ⋯) ⋯),rfl,rfl⟩
def mD(n:Nat)(i):wb (n+1) (.int i) (.int i)=some true:=by show some _=_;simp
def eqs(n:Nat)(x):wb (n+1) (.str x) (.str x)=some true:=by show some _=_;simp
def lF{α:Type}{n:Nat}{f}{l:List α}(h:∀x ∈ l,wb n (f x) (f x)=some true):wb (n+1) (.lst<|l.map f) (.lst<|l.map f)=some true:=by
 refine W4 λd m=>?_;obtain⟨x,mx,rfl⟩:=zxB.mp m;exact h x mx
def ib(n:Nat)(r:List Int):wb (n+2) (zx r) (zx r)=some true:=lF λx _=>mD n x
def iM(n:Nat)(T:TZ):wb (n+3) (.lst<|T.map zx) (.lst<|T.map zx)=some true:=lF λr _=>ib n r
def Si{n:Nat}(h:∀x ∈ l,wb n x x=some true):wb (n+1) (.tup l) (.tup l)=some true:=W4 h
def Ic(a:Hd×Tl):wb 60 (vQ a) (vQ a)=some true:=by
 refine Si λx m=>?_;simp at m
 rcases m with rfl|rfl|rfl|rfl|rfl|rfl
 . exact mD 58 _
 . exact mD 58 _
 . exact iM 56 _
 . exact mD 58 _
 . refine lF λp _=>Si λx m=>?_;simp at m
   rcases m with rfl|rfl
   . exact eqs 56 _
   . exact iM 54 _
 . refine lF λp _=>Si λx m=>?_;simp at m
   rcases m with rfl|rfl
   . exact eqs 56 _
   . exact ib 55 _
abbrev LL(s0 s1 s2 s3:Option O)(T:Str)(s5 e6 e7 e8 e9 e10:Option O):AS:=[s0,s1,s2,s3,sT<|.str T,s5,e6,e7,e8,e9,e10]
abbrev cB:SF:=ze (zm true 7<|zf (aC YT<|aC yJ aN) xm)
 (ze oh
 (ze n_
 j6))
def OX(H:∀x,0<=x->x<2 ^ 63->∃Y,Y.length<=100000/\RE (xZ [(true,.str T),(true,.int x)]) (.str Y)):
 ∃f7 f8 f9 gZ,cB (LL s0 s1 s2 s3 T s5 (sT<|.int c) e7 e8 e9 e10)=some (.nx<|LL s0 s1 s2 s3 T s5 (sT<|.int c) f7 f8 f9 gZ):=by
 obtain⟨xs,l1,l2,hs⟩:=XR (c:=c) (m:=2) (by decide);obtain⟨x,y,rfl⟩:∃x y,xs=[x,y]:=by
  match xs,l1 with
  | [x,y],_=>exact⟨x,y,rfl⟩
 have hx:=l2 x (by simp);have hy:=l2 y (by simp);obtain⟨Y,hY,hc⟩:=H (x*2147483399+y) (by omega) (by omega);have t1:=yZ (p:=7) (as:=LL s0 s1 s2 s3 T s5 (sT<|.int c) e7 e8 e9 e10) (vE (ve (i:=6) rfl) (ce (x:=.int 2)) hs)<|zh rfl;have hn:WD _ (LL s0 s1 s2 s3 T s5 (sT<|.int c) (sT<|zx [x,y]) e8 e9 e10) true (.int<|x*2147483399+y):=
  yr (XX (zy (z:=.int x) (zb (i:=7) rfl) za<|xR (ds:=[.int x,.int y]) (k:=0) rfl) za<|by decide) (zy (z:=.int y) (zb (i:=7) rfl) za<|xR (ds:=[.int x,.int y]) (k:=1) rfl)
 have t2:=yZ (p:=8) (vE (ve (i:=4) rfl) hn.e hc)<|zh rfl;obtain⟨o,o1,o2,o3⟩:=UC (as:=LL s0 s1 s2 s3 T s5 (sT<|.int c) (sT<|zx [x,y]) (sT<|.str Y) e9 e10) (a:=fV 8) (ve rfl)<|CU hY;have asg:∀S',gT 2 (Yo (gN 9)<|Yo (gN 10) GH) (true,oL<|Ac<|Txt.split Y sn) _=some S'->Rm (zf (aC (fV 8) aN) Yy) (gT 2<|Yo (gN 9)<|Yo (gN 10) GH) _=some (.nx S'):=λS' h=>GU o1 (by rw[o2,o3];exact h);obtain⟨r1,r2⟩:=KH hY;cases e:Ac (Txt.split Y sn)with
 |inl k=>
  rw[e]at asg;obtain⟨b1,b2⟩:=r1 k e;have t3:=asg _ rfl;have q:WT _ (LL s0 s1 s2 s3 T s5 (sT<|.int c) (sT<|zx [x,y]) (sT<|.str Y) (sT<|.int k)<|sT .non) false:=
   zg (wm (q:=true) (UC (ve (i:=8) rfl)<|Fz b1 b2) (zZ (zi za<|zi za<|zi za<|zi (zb (i:=9) rfl) zI) (Ww rfl) rfl rfl) (by
    refine W4 (f:=wb 59) λd m=>?_;simp only[zzC,zyZ,or_false]at m
    rcases m with rfl|rfl|rfl|rfl
    . rfl
    . rfl
    . rfl
    . exact mD 58 _)) rfl
  exact⟨_,_,_,_,zd t1<|zd t2<|zd t3<|(yp (zg (Zu (ve (i:=10) rfl) ce S6) rfl) rfl).trans<|zr q rfl⟩
 |inr a=>
  rw[e]at asg;have b:=r2 a e;have t3:=asg _ rfl;have q:WT mG (LL s0 s1 s2 s3 T s5 (sT<|.int c) (sT<|zx [x,y]) (sT<|.str Y) (sT<|.int (-1))<|sT<|vQ a) false:=
   zg (wm (q:=true) (vA (ve (i:=8) rfl) b).e (ve (i:=10) rfl)<|Ic a) rfl
  exact⟨_,_,_,_,zd t1<|zd t2<|zd t3<|(zr (zg (Zu (ve (i:=10) rfl) ce<|rfl) rfl) rfl).trans<|zr q rfl⟩
theorem Pm(H:∀x,0<=x->x<2 ^ 63->∃Y,Y.length<=100000/\RE (xZ [(true,.str T),(true,.int x)]) (.str Y)):∀(cs:List Int) e6 e7 e8 e9 e10,
 ∃f6 f7 f8 f9 gZ,forL (gN 6) cB (cs.map λc=>((true,D.int c):Xs)) (LL s0 s1 s2 s3 T s5 e6 e7 e8 e9 e10)=some (.nx<|LL s0 s1 s2 s3 T s5 f6 f7 f8 f9 gZ)
 | [],e6,e7,e8,e9,e10=>⟨_,_,_,_,_,rfl⟩
 |c::cs,e6,e7,e8,e9,e10=>by
  obtain⟨f7,f8,f9,gZ,h⟩:=OX H;obtain⟨g6,g7,g8,g9,g10,ih⟩:=Pm H cs _ f7 f8 f9 gZ;exact⟨g6,g7,g8,g9,g10,zW rfl h ih⟩
noncomputable def cost(r:List Str):Nat:=(r.map (·.length)).sum+r.length
def vS(a b):cost (a++b)=cost a+cost b:=by unfold cost;simp;omega
def xq(w)(r):cost (w::r)=w.length+1+cost r:=by unfold cost;simp;omega
def OQ:cost []=0:=rfl
def Of(h:a.Sublist b):cost a<=cost b:=by
 induction h with
 |slnil=>exact zzN _
 |cons x _ ih=>rw[xq];omega
 |cons_cons x _ ih=>rw[xq,xq];omega
def Cs(a):cost a.reverse=cost a:=by
 unfold cost;rw[List.map_reverse,List.sum_reverse,List.length_reverse]
theorem Lk(w):∀r k,cost (r.set k w)<=cost r+w.length
 | [],k=>⋯
 |x::r,0=>by rw[List.set_cons_zero,xq,xq];omega
 |x::r,k+1=>by rw[List.set_cons_succ,xq,xq];have:=Lk w r k;omega
theorem Qj(hs:sep.length=1):∀r,(Str.join sep r).length<=cost r
 | []=>Nat.zero_le _
 | [a]=>by
  rw[xq];have e:(Str.join sep [a]).length=a.length:=⋯;omega
 |a::b::r=>by
  have ih:=Qj hs (b::r);have e:=congrArg List.length<|Zp sep a b r;simp only[zzJ,<-len_eq]at e;rw[xq];omega
def vN(r):r.length<=cost r:=by unfold cost;omega
def U4(hy:y.length=1):cost (Txt.split x y)<=x.length+1:=by
 rw[wo];have hg:=StrLaws.glued_between_self x y<|x.length+1;have hs:=size_glued y<|Builtin.Str.partsBetween x (Builtin.Str.occurrences x y 0 x.length<|x.length+1) y.length;rw[hg]at hs;unfold cost;rw[hy]at *;omega
def oG(hs:sep.length=1)(h:WE fr as (yK r))(hc:cost r<=1000000):WD (z7 .str (fC<|.str sep) (aC fr aN) wL) as true (.str<|Str.join sep r):=
 UR za rfl h (Xe<|by unfold cost at hc;rw[hs];omega)
def jG(L)(lo hi):∃L',Yq (yK L) lo hi=some (.fl<|L'.map .str)/\cost L'<=cost L:=by
 refine⟨(L.drop<|HT.sIx L.length 0 lo).take<|HT.sIx L.length L.length hi-HT.sIx L.length 0 lo, ?_,Of<|(List.take_sublist _ _).trans<|List.drop_sublist _ _⟩;show some _=_;unfold PF.cutD;rw[zzB,List.map_take,List.map_drop]
def OK(x):(r1 x " " "  ").length<=2*x.length+3:=by
 unfold r1
 split
 . omega
 . have hg:Builtin.Str.glued _ (Builtin.Str.partsBetween x (oc x " ") (" ":Str).length)=x:=StrLaws.glued_between_self x _ 1;generalize Builtin.Str.partsBetween x (oc x " ") (" ":Str).length=parts at hg;have hs:=size_glued (" ":Str) parts;have h2:=size_glued ("  ":Str) parts;rw[hg]at hs;have a1:(" ":Str).length=1:=⋯;have a2:("  ":Str).length=2:=⋯;rw[a1,Nat.mul_one]at hs;rw[a2]at h2;omega
abbrev oW(ws:List Str):Option O:=sN<|(ws.map D.str).map<|O.lf true
def DT(ws:List Str):((ws.map D.str).map<|O.lf true).all O.isLf=true:=by rw[zyA];exact Mp _ ws
def DQ(h:as[i]? = some (oW ws)):RV.view as (.bo i)=some (yK ws,some true):=by
 rw[VH h];have e:(O.nd .ls<|(ws.map D.str).map<|O.lf true).kl=some true:=by simp only[O.kl,DT,if_true,v8]
 rw[e];show some (D.lst _,_)=_;rw[Zs]
def iB(h:as[i]? = some (oW ws))(hb:WE b as (yK vs))(hl:ws.length+vs.length<=1000000):f2 (fV i) b zl as=some (.ow<|.nd .ls<|((ws++vs).map D.str).map<|O.lf true,as):=by
 obtain⟨o,a1,a2,a3⟩:=hb;have ev:=DQ h;have eo:RV.view as (RV.ow o).frz=some (yK vs,some true):=by
  show RV.view as (.ow o.frz)=_;have:o.frz = .lf true (yK vs):=by unfold O.frz;rw[a2,a3]
  rw[this];rfl
 unfold f2 zl;rw[YO h,zyK,a1,zyK,eo];show((RV.view as<|.bo i).bind _)=_;rw[ev,zyK,zyK];rw[PF.add_lists (ZE<|by rwa [zzB,zzB]),<-zyL];show(if(((ws++vs).map D.str).all zB||true)=true then some (RV.ow<|.nd .ls<|((ws++vs).map D.str).map<|Ee true)else none:Option RV).bind _=_;rw[if_pos ⋯,ZP];rfl
def gu{k:Nat}{x:Int}(h:as[i]? = some (oW ws))(hb:WD b as true (.int x))(hx:x=(k:Int))(hk:k<ws.length):WD (f2 (fV i) b zU) as true (.str ws[k]):=by
 subst hx;refine ik (z:=.str ws[k]) h (DT ws) hb ?_;rw[Zs];exact xR ⋯
def Qh(h:WD f as s (.int k)):oS f as=some (some k,as):=by
 unfold oS;rw[h];rfl
def FU{lo hi}(h:WE f as (yK L))(h1:fl as=some (lo,as))(h2:fh as=some (hi,as)):∃L',WE (wV f fl fh Yq) as (yK L')/\cost L'<=cost L:=by
 obtain⟨L',e,hc⟩:=jG L lo hi;exact⟨L',wA h h1 h2 e,hc⟩
def KU(ha:WE a as (yK A))(hb:WE b as (yK B))(hl:A.length+B.length<=1000000):WE (f2 a b zl) as (yK<|A++B):=by
 have:=GZ ha hb (PF.add_lists<|ZE<|by rwa [zzB,zzB])
 rwa [<-zyL]at this
def kY(ha:WE a as (yK A))(hl:A.length<=400000):WE (f2 a yJ xh) as (yK<|A++A):=by
 have:=GZ ha (ce)<|mul_list (k:=2) ⟨by decide,by decide,ZE (by rw[zzB];show A.length*2<=1000000;omega)⟩;have e:(List.replicate (2:Int).toNat<|A.map D.str).flatten=(A++A).map D.str:=⋯
 rwa [e]at this
def k9(ha:WE a as (yK A)):WE (wV a oN (oS<|f1 zD RK) lM) as (yK A.reverse):=by
 have:=wA (fl:=oN) ha rfl ⋯ (show lM _ none (some (-1))=some _ by
  show(if(none:Option Int)=none/\(some (-1):Option Int)=some (-1)then some _ else none)=_;rw[if_pos ⋯])
 rwa [<-List.map_reverse]at this
noncomputable abbrev oV:List Str:=["","values 2 around 1","join a","nothing 0","deed rows rows 0","deed zz a","deed zz add a c"]
noncomputable abbrev lr:List Str:=["deed zz","sign zz","sign zz 0","sign zz 1 0","sign zz 0 0","deed zz b","deed Zz a","sign"]
noncomputable abbrev ip:List Str:=["deed zz rows"]
noncomputable abbrev iI:List Str:=["sign zz 00","deed zz  a"]
abbrev mo:List Str:=oV++lr++ip++iI
def qq:∀w ∈ mo,w.length<=20:=⋯
abbrev K4(L:List Str)(x:Int)(a:Nat)(ws:List Str):AS:=[sT<|yK L,sT<|.int x,sT<|.int a,oW ws]
def modQ(h:WD f as true (.int x))(hq:(x%8==j)=q):WT (fT<|f2 (f2 f vU zR) (fC<|.int j)<|zj .Eq) as q:=
 zg (xU (yh h za<|by decide).e ce (by show some _=_;rw[hq])) rfl
def Eb(q)(hc:WT c as q)(h1:q=true->RS (f as) x)(h2:q=false->RS (h as) x)(hg:g=xf:=by rfl):RS (ze (yN c f g) h as) x:=by
 subst hg;cases q with
 |true=>exact RS.seqR (RS.ifT hc<|h1 rfl)
 |false=>exact RS.seq (zr hc rfl) (h2 rfl)
def ON{x}(vp:L≠[])(hL:cost L<=50000)(hx:0<=x):∃L',cost L'<=4*cost L+100/\RE (wM [(true,yK L),(true,.int x)]) (yK L'):=by
 have hlen:=vN L;have hpos:0<L.length:=List.length_pos_iff.mpr vp;obtain⟨a,ha⟩:∃a:Nat,(a:Int)=x/8%(L.length:Int):=⟨(x/8%(L.length:Int)).toNat,zyW<|zyM _<|by omega⟩;have s2:zm true 2 (f2 (f2 zA vU zX) (fP yy z8) zR) (ya 4 [(true,yK L),(true,.int x)])=some (.nx [sT<|yK L,sT<|.int x,sT<|.int a,none]):=by
  rw[ha];exact zw (i:=2) (yh (YK (zb (i:=1) rfl) za (by decide)<|by decide) (TU rfl)<|by omega)<|zh rfl
 have st:∀ws vs,∀b,WE b (K4 L x a ws) (yK vs)->ws.length+vs.length<=1000->zm false 3 (f2 zP b zl) (K4 L x a ws)=some (.nx<|K4 L x a<|ws++vs):=λws vs b hb hl=>y6 (i:=3) (iB (i:=3) (ws:=ws) rfl hb<|by omega)<|zh rfl;have b1:zm false 3 _ [sT<|yK L,sT<|.int x,sT<|.int a,none]=some (.nx<|K4 L x a oV):=
  y6 (i:=3) (vB (zi za<|zi za<|zi za<|zi za<|zi za<|zi za<|zi za zI)<|Ww rfl) (zh rfl)
 have b2:=st oV lr _ ⋯ (by decide);have b3:=vZ (i:=3) (as:=K4 L x a<|oV++lr) (x:=.str "deed zz rows") rfl (by decide) za;have b4:=st (oV++lr++ip) iI nY (zZ (zi za<|zi za zI) (Ww rfl) rfl rfl) (by decide);have x1:WD zA (K4 L x a mo) true (.int x):=zb rfl;have v0:WE zo (K4 L x a mo) (yK L):=ve rfl;have oa:oS zH (K4 L x a mo)=some (some (a:Int),K4 L x a mo):=Qh<|zb (i:=2) (s:=true) rfl;have op:∀j,oS (f2 zH (fC<|.int j) zl) (K4 L x a mo)=some (some<|(a:Int)+j,K4 L x a mo):=λj=>Qh<|yr (zb (i:=2) (s:=true) rfl) za;obtain⟨P,p1,p2⟩:=FU (fl:=oN) (fh:=oS zH) v0 rfl oa;obtain⟨Q,q1,q2⟩:=FU (fh:=oN) v0 (op 1) rfl;obtain⟨R,r1,r2⟩:=FU (fl:=oS zH) v0 oa<|op 1;obtain⟨S,t1,t2⟩:=FU (fl:=oS zH) v0 oa<|op 2;obtain⟨U,u1,u2⟩:=FU (fh:=oN) v0 (op 2) rfl;obtain⟨V,v1,v2⟩:=FU (fl:=oS zH) (fh:=oN) v0 oa rfl;have lP:=vN P;have lQ:=vN Q;have lR:=vN R;have lS:=vN S;have lU:=vN U;have lV:=vN V;obtain⟨k,hk,hkl⟩:∃k:Nat,x/512%18=(k:Int)/\k<mo.length:=⟨(x/512%18).toNat,(zyW<|zyM _<|by decide).symm,by have h18:mo.length=18:=rfl;omega⟩;have hw:WD m7 (K4 L x a mo) true (.str mo[k]):=
  gu (ws:=mo) rfl (yh (YK x1 za (by decide)<|by decide) (jA (i:=3) rfl)<|by decide) hk hkl
 have hwl:=qq mo[k]<|zyX hkl;have e:=zZ (x:=yK [mo[k]]) (zi hw zI) (Ww rfl) rfl rfl;let W:List Str:=if(x%8==0)=true then P++Q else if(x%8==1)=true then P++(R++R)++Q else if(x%8==2)=true then P++S.reverse++U else if(x%8==3)=true then P else P++[mo[k]]++V
 have lrev:S.reverse.length=S.length:=List.length_reverse;refine⟨W, ?_,RS.fn rfl<|.seq s2<|.seq b1<|.seq b2<|.seq b3<|.seq b4<|Eb _ (modQ x1 rfl) (λh=>?_) λh0=>Eb _ (modQ x1 rfl) (λh=>?_) λh1=>Eb _ (modQ x1 rfl) (λh=>?_) λh2=>Eb _ (modQ x1 rfl) (λh=>?_) λh3=>?_⟩
 . show cost (if(x%8==0)=true then P++Q else if(x%8==1)=true then P++(R++R)++Q else if(x%8==2)=true then P++S.reverse++U else if(x%8==3)=true then P else P++[mo[k]]++V)<=_
   split
   . rw[vS];omega
   split
   . rw[vS,vS,vS];omega
   split
   . rw[vS,vS,Cs];omega
   split
   . omega
   . rw[vS,vS,xq,OQ];omega
 . rw[show W=P++Q from if_pos h];exact .ret (KU p1 q1<|by omega)
 . rw[show W=P++(R++R)++Q from(if_neg<|by rw[h0];decide).trans<|if_pos h];exact .ret (KU (KU p1 (kY r1<|by omega)<|by rw[zzJ];omega) q1<|by rw[zzJ,zzJ];omega)
 . rw[show W=P++S.reverse++U from(if_neg<|by rw[h0];decide).trans<|(if_neg<|by rw[h1];decide).trans<|if_pos h];exact .ret (KU (KU p1 (k9 t1)<|by omega) u1<|by rw[zzJ];omega)
 . rw[show W=P from(if_neg<|by rw[h0];decide).trans<|(if_neg<|by rw[h1];decide).trans<|(if_neg<|by rw[h2];decide).trans<|if_pos h];exact .ret p1
 . rw[show W=P++[mo[k]]++V from(if_neg<|by rw[h0];decide).trans<|(if_neg<|by rw[h1];decide).trans<|(if_neg<|by rw[h2];decide).trans<|if_neg<|by rw[h3];decide];exact .ret<|KU (KU p1 e (by show P.length+1<=_;omega)) v1 (by rw[zzJ];show P.length+1+_<=_;omega)
def pQ(ha:WD a as true y)(ht:QX ty y=true)(hb:WE b as x)(hg:g y [x]=some (.fl zs)):z7 ty a (aC b aN) g as=some (.ow<|.nd .ls<|zs.map<|O.lf true,as):=by
 have hr:=yX hb zq;unfold z7;rw[ha];show(if QX ty y=true then _ else _:Option _)=_;rw[if_pos ht,hr];show((g y [x]).bind _)=_;rw[hg];show(if(zs.all zB||true)=true then some (RV.ow<|.nd .ls<|zs.map<|Ee true)else none:Option RV).bind _=_;rw[if_pos ⋯,ZP];rfl
def DB(hs:sep.length=1)(h:as[i]? = some (oW ws))(hc:cost ws<=1000000):WD (z7 .str (fC<|.str sep) (aC (fV i) aN) wL) as true (.str<|Str.join sep ws):=by
 have hr:aC _ aN as=some ([.bo i],as):=NQ (YO h) rfl;have ev:views as [.bo i]=some ([yK ws],some true):=by
  show(RV.view as _).bind _=_;rw[DQ h];rfl
 have hc':WD _ as true (.str sep):=za;have ew:RV.view as (RV.ow<|O.lf true _).frz=some (.str sep,some true):=rfl;have ej:wL _ [yK ws]=some _:=Xe (by unfold cost at hc;rw[hs];omega);unfold WD z7;rw[hc'];simp only[ew,zyK,hr,ev,ej];rfl
def nZ{f}{k:Nat}(h:as[i]? = some (oW ws))(hv:WD fv as true (.str w))(hf:f as=some (k:Int))(hk:k<ws.length):Uz i f fv as=some (.nx<|as.set i<|oW<|ws.set k w):=by
 unfold Uz;have e1:FJ Mb as i=some ((ws.map D.str).map<|O.lf true):=by unfold FJ;rw[h];rfl
 have e2:PF.atO N7 ((ws.map D.str).map<|O.lf true) ((k:Int)).toNat=some (.str ws[k]):=by
  unfold PF.atO;rw[zyH,zzI,zzI,zzE hk];rfl
 rw[hv];show((f as).bind _)=_;rw[hf];rw[e1];show((PF.atO N7 _ ((k:Int)).toNat).bind _)=_;rw[e2];show some (Out.nx<|as.set i<|sN<|((ws.map D.str).map _).set ((k:Int)).toNat<|.lf true<|.str w)=_;rw[zyH,<-List.map_set,<-List.map_set]
def kI{j:Nat}(hj:as[j]? = some (some<|.lf s<|.int c))(h:as[i]? = some (oW ws))(hb:0<ws.length):Os (xV j) (Bu i) as=some (c%(ws.length:Int)):=by
 have e1:xV j as=some c:=by unfold xV FJ;rw[hj];rfl
 have e2:Bu i as=some (ws.length:Int):=by
  unfold Bu;have:FJ Mb as i=some ((ws.map D.str).map<|O.lf true):=by unfold FJ;rw[h];rfl
  rw[this,zyK,zzB,zzB]
 unfold Os;simp only[e1,e2,zyK,if_pos (show 0<(ws.length:Int) by omega)]
def rep1(h:as[i]? = some (sT<|.str T))(hT:T.length<=100000):WD (Eu i " " "  ") as true (.str<|r1 T " " "  "):=by
 have:=OK T;have e:sC as i=some T:=by unfold sC;rw[h]
 unfold WD Eu;rw[e,zyK,if_pos ⋯]
def Wq{lo hi}(h:WD f as true (.str T))(hT:T.length<=100000)(h1:fl as=some (lo,as))(h2:fh as=some (hi,as)):WD (wV f fl fh Rx) as true (.str<|Txt.slice T lo hi):=
 Zf h h1 h2 (if_pos<|ZE ⋯)
def NR{k:Nat}(hl:x.length<=1000000)(hk:k<x.length):∃y:Str,y.length=1/\zU (.str x) (.int k)=some (.im<|.str y):=by
 have hk':k<x.cps.toList.length:=⋯;refine⟨⟨#[x.cps.toList[k]]⟩,rfl, ?_⟩;show(if x.length<=sizeLine then(Gr x.cps.toList k).bind _ else none)=_;rw[if_pos<|ZE hl,Yu<|zzE hk'];rfl
noncomputable abbrev sgn:Str:="0123456789 ,\nabcdersjzA-+_."
noncomputable abbrev M_:List Str:=["0","1","7","8","9","00","-1","rows","a","b","c","add","same","","around"]
noncomputable abbrev B6:List Str:=["zz","A","0,"]
def CZ:∀w ∈ M_++B6,w.length<=20:=⋯
abbrev K8(T:Str)(x:Int)(a:Nat)(g:Str)(e6 e7:Option O):AS:=[sT<|.str T,sT<|.int x,sT<|.str sgn,sT<|.int a,sT<|.str g,sT<|.int<|x%8,e6,e7]
def WS(N:Nat)(r:Option Out):Prop:=∃Y:Str,Y.length<=N/\RS r (.str Y)
def Te{N:Nat}(h:WD f as true (.str Y))(hl:Y.length<=N):WS N (zt f as):=⟨Y,hl,.ret h.e⟩
def LW{N:Nat}(q)(hc:WT c as q)(h1:q=true->WS N (f as))(h2:q=false->WS N (h as)):WS N (ze (yN c f xf) h as):=by
 cases q with
 |true=>obtain⟨Y,a,b⟩:=h1 rfl;exact⟨Y,a,RS.seqR<|RS.ifT hc b⟩
 |false=>obtain⟨Y,a,b⟩:=h2 rfl;exact⟨Y,a,RS.seq (zr hc rfl) b⟩
def Y8{N:Nat}(h:f as=some (.nx U'))(h2:WS N (g U')):WS N (ze f g as):=by
 obtain⟨Y,a,b⟩:=h2;exact⟨Y,a,.seq h b⟩
def nC{k:Nat}(h:k<ws.length):zU (yK ws) (.int (k:Int))=some (.im<|.str ws[k]):=xR ⋯
def x9(a b)(h:0<b):∃k:Nat,a%b=(k:Int)/\(k:Int)<b:=⟨(a%b).toNat,(zyW<|zyM _ ⋯).symm,by rw[zyW<|zyM _ ⋯];exact zyG _ h⟩
abbrev wB:SF:=ze (zm false 6 Sa)
 (ze iJ
 (ze nJ
 (ze (Uz 6 (Os (xV 3)<|Bu 6) tw)
 (zt<|z7 .str (fC<|.str " ") (aC YT aN) wL))))
def CF(hT:T.length<=20000):WS 90000 (wB<|K8 T x a g none none):=by
 have so:=Ux (x:=T) (y:=sb) Wl (by omega);have hc:=U4 (x:=T) (y:=sb) QZ;have vp:=Vn T sb;have hm:∀w ∈ Txt.split T sb,w.length<=T.length:=λw m=>yd m;generalize Txt.split T sb=ws at so hc vp hm;have hpos:0<ws.length:=List.length_pos_iff.mpr vp;have hlen:=vN ws;have f7:=iB (as:=K8 T x a g (oW ws) none) (i:=6) (ws:=ws) (vs:=M_) rfl
  (zZ (zi za<|zi za<|zi za<|zi za<|zi za<|zi za<|zi za<|zi za<|zi za<|zi za<|zi za<|zi za<|zi za<|zi za<|zi za zI) (Ww rfl) rfl rfl) (by show ws.length+15<=1000000;omega)
 have s7:=yZ (p:=7) (x:=yK<|ws++M_) (as:=K8 T x a g (oW ws) none) ⟨_,f7,v8 _,congrArg D.lst<|Zs _⟩<|zh rfl;have s8:=yZ (p:=7) (as:=K8 T x a g (oW ws)<|sT<|yK<|ws++M_) (KU (B:=B6) (ve (i:=7) rfl) (zZ (zi za<|zi za<|zi za zI) (Ww rfl) rfl rfl) (by rw[zzJ];show ws.length+15+3<=1000000;omega))<|zh rfl;let A:AS:=K8 T x a g (oW ws)<|sT<|yK<|ws++M_++B6;have hl3:(ws++M_++B6).length=ws.length+18:=by rw[zzJ,zzJ];rfl
 obtain⟨k,hk,i6⟩:=x9 (a:Int) (ws.length:Int) (by omega);obtain⟨j,hj,hj2⟩:=x9 (x/65536) ((ws++M_++B6).length:Int) (by omega);have hj3:j<(ws++M_++B6).length:=by omega
 have hv:WD tw A true (.str (ws++M_++B6)[j]):=
  zy (zb (i:=7) rfl) (yh (YK (zb (i:=1) rfl) za (by decide)<|by decide) (TU (i:=7) rfl)<|by omega) (by rw[hj];exact nC hj3)
 have s9:=nZ (as:=A) (i:=6) (ws:=ws) rfl hv ((kI (as:=A) (j:=3) (i:=6) (ws:=ws) (c:=a) rfl rfl hpos).trans<|congrArg some hk) (by omega);have hwl:(ws++M_++B6)[j].length<=20020:=by
  have m:=zyX hj3
  rcases zzM.mp m with m|m
  . rcases zzM.mp m with m|m
    . have:=hm _ m;omega
    . have:=CZ _<|zzP _ m;omega
  . have:=CZ _<|zzL _ m;omega
 have hcs:=Lk (ws++M_++B6)[j] ws k;have hjn:=DB (as:=K8 T x a g (oW<|ws.set k (ws++M_++B6)[j])<|sT<|yK<|ws++M_++B6) (sep:=sb) (i:=6) QZ rfl (by omega);have hjl:=Qj (sep:=sb) QZ<|ws.set k (ws++M_++B6)[j];exact Y8 (y6 (i:=6) (pQ (zb (i:=0) rfl) rfl ce so)<|zh rfl) (Y8 s7<|Y8 s8<|Y8 s9<|Te hjn<|by omega)
def NO(hT:T.length<=20000)(hx:0<=x):∃Y,Y.length<=100000/\RE (xZ [(true,.str T),(true,.int x)]) (.str Y):=by
 suffices H:WS 100000 (Z4<|ya 8 [(true,.str T),(true,.int x)]) by
  obtain⟨Y,a,b⟩:=H;exact⟨Y,a,RS.fn rfl b⟩
 obtain⟨a,ha,ha2⟩:=x9 (x/8) ((T.length:Int)+1) (by omega);have hsl:sgn.length=27:=by decide +kernel
 obtain⟨k,hk,i6⟩:=x9 (x/65536) (27:Int) (by decide);obtain⟨g,hg,hgi⟩:=NR (x:=sgn) (k:=k) (by omega) (by omega);have s3:zm true 3 nG [sT<|.str T,sT<|.int x,sT<|.str sgn,none,none,none,none,none]=some (.nx [sT<|.str T,sT<|.int x,sT<|.str sgn,sT<|.int a,none,none,none,none]):=by
  rw[<-ha];exact zw (i:=3) (yh (YK (zb (i:=1) rfl) za (by decide)<|by decide) (yr (WN (zb (i:=0) (s:=true) rfl)<|by omega) za)<|by omega)<|zh rfl
 have s4:zm true 4 ot [sT<|.str T,sT<|.int x,sT<|.str sgn,sT<|.int a,none,none,none,none]=some (.nx [sT<|.str T,sT<|.int x,sT<|.str sgn,sT<|.int a,sT<|.str g,none,none,none]):=by
  refine zw (i:=4) (zy (zb (i:=2) rfl) ⋯ ?_)<|zh rfl;rw[hsl,show x/65536%((27:Nat):Int)=(k:Int)from hk];exact hgi
 have v0:WD zo (K8 T x a g none none) true (.str T):=zb rfl;have oa:oS zP (K8 T x a g none none)=some (some (a:Int),K8 T x a g none none):=Qh<|zb (i:=3) (s:=true) rfl;have c1:=Wq v0 (by omega) (fl:=oN) (fh:=oS zP) rfl oa;have c2:=Wq v0 (by omega) (fl:=oS<|f2 zP zD zl) (fh:=oN) (Qh<|yr (zb (i:=3) (s:=true) rfl) za) rfl;have c3:=Wq v0 (by omega) (fl:=oS zP) (fh:=oN) oa rfl;have l1:=Txt.slice_le T none<|some (a:Int);have l2:=Txt.slice_le T (some<|(a:Int)+1) none;have l3:=Txt.slice_le T (some (a:Int)) none;have vg:WD zS (K8 T x a g none none) true (.str g):=zb rfl;have tq:∀j,WT (fT<|f2 wg (fC<|.int j)<|zj .Eq) (K8 T x a g none none) (x%8==j):=λj=>zg (xU (q:=(x%8==j)) (ve (i:=5) rfl) ce rfl) rfl;have a1:=Z9 c1.e vg.e (by omega);have n1:(Txt.slice T none (some (a:Int))++g).length<=20001:=by rw[zT];omega
 refine Y8 (zw (i:=2) za<|zh rfl)<|Y8 s3<|Y8 s4<|Y8 (zw (i:=5) (yh (zb (i:=1) rfl) za<|by decide)<|zh rfl)<|LW _ (tq 0) (λ_=>?_) λ_=>LW _ (tq 1) (λ_=>?_) λ_=>LW _ (tq 2) (λ_=>?_) λ_=>LW _ (tq 3) (λ_=>?_) λ_=>LW _ (zg (xY (zb (i:=5) (s:=true) rfl) za) rfl) (λ_=>?_) λ_=>?_
 . exact Te (Z9 a1.e c2.e<|by omega) (by rw[zT];omega)
 . exact Te (Z9 a1.e c3.e<|by omega) (by rw[zT];omega)
 . exact Te (Z9 c1.e c2.e<|by omega) (by rw[zT];omega)
 . have k1:("\n":Str).length=1:=by decide +kernel
   have k2:(" ":Str).length=1:=by decide +kernel
   have k3:("":Str).length=0:=by decide +kernel
   have hr:=OK T;let ys:List Str:=[T++("\n":Str),(" ":Str)++T,T++(" ":Str),r1 T " " "  ",("":Str),("\n":Str)++T];have hys:∀y ∈ ys,y.length<=50000:=λy m=>by
    simp only[ys,zzC,zyZ,or_false]at m
    rcases m with rfl|rfl|rfl|rfl|rfl|rfl
    . rw[zT];omega
    . rw[zT];omega
    . rw[zT];omega
    . omega
    . omega
    . rw[zT];omega
   have hl:=zZ (x:=yK ys) (zi (Z9 v0.e (ce (x:=.str "\n"))<|by omega)<|zi (Z9 (ce (x:=.str " ")) v0.e<|by omega)<|zi (Z9 v0.e (ce (x:=.str " "))<|by omega)<|zi (rep1 (i:=0) rfl<|by omega)<|zi (za (x:=.str ""))<|zi (Z9 (ce (x:=.str "\n")) v0.e<|by omega) zI) (Ww rfl) rfl rfl;obtain⟨j,hj,hj2⟩:=x9 (x/8) (6:Int) (by decide);have hj3:j<ys.length:=by show j<6;omega
   have hi:=yh (YK (zb (as:=K8 T x a g none none) (i:=1) (s:=true) (x:=.int x) rfl) (za (x:=.int 8)) (by decide)<|by decide) (za (x:=.int 6)) (by decide);rw[hj]at hi;exact Te (Zu hl hi.e<|nC hj3) (by have:=hys _<|zyX hj3;omega)
 . obtain⟨Y,a,b⟩:=CF (T:=T) (x:=x) (a:=a) (g:=g) hT;exact⟨Y,by omega,b⟩
 . have hc:=U4 (x:=T) (y:=sn) CD;obtain⟨L',h1,h2⟩:=ON (L:=Txt.split T sn) (x:=x/8) (Vn T sn) (by omega) (by omega);have hw:=vE (as:=K8 T x a g none none) (we (y:=sn) v0 rh<|by omega) (YK (zb (i:=1) (s:=true) (x:=.int x) rfl) (za (x:=.int 8)) (by decide)<|by decide).e h2;have hjl:=Qj (sep:=sn) CD L';exact Te (oG (sep:=sn) CD hw<|by omega) (by omega)
noncomputable abbrev Ik:Str:="abcdefghijklmnopqrstuvwxyz"
def Iv:∀k,k<26->Ik.cps.toList[k]? = some (97+k):=⋯
def SC(h0:0<=i)(h1:i<26):zU (.str Ik) (.int i)=some (.im<|.str ⟨#[97+i.toNat]⟩):=by
 show(if Ik.length<=sizeLine then(Gr Ik.cps.toList i).bind _ else none)=_;have:=Yu<|Iv i.toNat ⋯;rw[show i.toNat=i by omega]at this;rw[this];rfl
theorem Xq:∀l,(∀s ∈ l,s.length=1)->(Str.join "" l).length=l.length
 | [],_=>rfl
 | [x],h=>h x (zzF ..)
 |x::y::r,h=>by
  show(x++""++Str.join "" _).length=_;rw[zT,zT,h x<|zzF ..,Xq _ λs m=>h s<|zzD _ m];show 1+0+(r.length+1)=r.length+1+1;omega
theorem ml:∀l:List Str,(∀s ∈ l,s.length=1)->(l.map (·.length)).sum=l.length
 | [],_=>rfl
 |x::r,h=>by
  show x.length+(r.map _).sum=r.length+1;rw[h x ⋯,ml r λs m=>h s<|zzD _ m];omega
abbrev Lt(s:Str):Prop:=∀c ∈ s.cps.toList,GX c=true
def Lt.app(h:Lt a)(g:Lt b):Lt (a++b):=λc m=>by
 rw[app_list]at m;exact(zzM.mp m).elim (h c)<|g c
theorem MU:∀l,(∀s ∈ l,Lt s)->Lt (Str.join "" l)
 | [],_=>λ_ z=>nomatch z
 | [x],h=>h x (zzF ..)
 |x::y::r,h=>Lt.app (Lt.app (h x<|zzF ..) λ_ z=>nomatch z)<|MU _ λs m=>h s<|zzD _ m
def Lt.one{x:Int}:Lt ⟨#[97+(x%26).toNat]⟩:=λc m=>by
 rw[zzR.mp m];unfold GX;rw[zyN ⋯,zyN ⋯];rfl
noncomputable abbrev nm(A B:Str)(x:Int)(k:Nat):Str:=A++⟨#[97+((x+3*(k:Int))%26).toNat]⟩++B
def uX{k j:Nat}(hk:k<10)(hj:j<10)(h:nm A B x k=nm A B x j):k=j:=by
 have h:=congrArg (λs:Str=>s.cps.toList) h;simp only[Str.cps_append,Array.toList_append,zxA,List.append_cancel_left_eq]at h;injection h with h
 omega
abbrev N8(c:Int)(xs:List Int)(base:Str)(a:Nat)(ws:List Str)(e7:Option O):AS:=[sI c,sI 10,sT<|.str Ik,sT<|zx xs,sT<|.str base,sT<|.int a,oW ws,e7]
abbrev nB:SF:=qM
theorem SW{a:Nat}(hx:xs[8]? = some x8)(hb:base.length<=8)(hA:Txt.slice base none (some (a:Int))=A)(hB:Txt.slice base (some<|(a:Int)+1) none=B):∀n k (ws:List Str) e7,k+n<=10->ws.length=k->
 ∃f7,forL (gN 7) nB (y4 k n) (N8 c xs base a ws e7)=some (.nx<|N8 c xs base a (ws++(List.range' k n).map (nm A B x8)) f7)
 |0,k,ws,e7,_,_=>⟨e7,by simp[y4];rfl⟩
 |n+1,k,ws,e7,hk,hl=>by
  have lA:=Txt.slice_le base none<|some (a:Int);have lB:=Txt.slice_le base (some<|(a:Int)+1) none;rw[hA]at lA;rw[hB]at lB;let S:AS:=N8 c xs base a ws<|sT<|.int k;have d1:=Wq (as:=S) (f:=fV 4) (T:=base) (zb rfl) (by omega) (fl:=oN) rfl<|Qh<|zb (i:=5) (s:=true) rfl;have d2:=Wq (as:=S) (f:=fV 4) (T:=base) (zb rfl) (by omega) (fl:=oS<|f2 wg zD zl) (fh:=oN) ⋯ rfl;rw[hA]at d1;rw[hB]at d2;have hx8:WD (f2 zP vU zU) S true (.int x8):=zy (zb (i:=3) rfl) za (xR (k:=8)<|by rw[zzI,hx];rfl);have hi:=
   zy (zb (i:=2) rfl) (yh (yr hx8<|XX (za (x:=.int 3)) (zb (i:=7) (s:=true) rfl)<|by omega) za<|by decide) (SC (zyM _<|by decide)<|zyG _<|by decide)
  have a1:=Z9 d1.e hi.e (by show A.length+1<=_;omega);have a2:=Z9 a1.e d2.e (by rw[zT];show A.length+1+_<=_;omega);have ap:=vZ (as:=S) (i:=6) rfl (by rw[zzB,zzB];exact yI<|by omega) a2;have es:(ws.map D.str).map (O.lf true)++[O.lf true<|.str<|nm A B x8 k]=((ws++[nm A B x8 k]).map D.str).map (O.lf true):=by simp
  rw[es]at ap;obtain⟨f7,ih⟩:=SW hx hb hA hB n (k+1) (ws++[nm A B x8 k]) (sT<|.int k) (by omega) (by simp[hl]);refine⟨f7, ?_⟩;rw[y_,List.range'_succ];refine zW (U':=S) rfl ap ?_;have e2:ws++[nm A B x8 k]++(List.range' (k+1) n).map (nm A B x8)=ws++(k::List.range' (k+1) n).map (nm A B x8):=by simp
  rwa [<-e2]
def Lt.list(h:Lt a)(e:∀c ∈ b.cps.toList,c ∈ a.cps.toList):Lt b:=λc m=>h c<|e c m
def SJ(h1:1<=s.length)(h8:s.length<=8)(h:Lt s):yz s=true:=by
 unfold yz;rw[zyN h1,zyN h8,List.all_eq_true.mpr h];rfl
abbrev gO:EF:=zC (x6 sA) [none,some 2] yb z_<|f2 zA (f2 zo (fC<|.int 26) zR) zU
def OO:∃ss,ss.length=10/\ss.Nodup/\(∀s ∈ ss,yz s=true)/\RE (Y3 [(true,.int c),(true,.int 10)]) (yK ss):=by
 obtain⟨xs,hl,hx,hs⟩:=XR (c:=c) (m:=9) (by decide);let S0:AS:=[sI c,sI 10,sT<|.str Ik,none,none,none,none,none];let S3:AS:=[sI c,sI 10,sT<|.str Ik,sT<|zx xs,none,none,none,none];have s3:=yZ (p:=3) (as:=S0) (vE (ve (i:=0) rfl) (ce (x:=.int 9)) hs)<|zh rfl;obtain⟨k,hk,i6⟩:=x9 c 8 (by decide);have sl:WE sA S3 (.lst<|(xs.take<|1+k).map D.int):=by
  refine wA (lo:=none) (hi:=some ((1+k:Nat):Int)) (ve (i:=3) rfl) rfl ?_ ?_
  . have:=yr (as:=S3) (za (x:=.int 1)) (yh (zb (i:=0) (s:=true) (x:=.int c) rfl) (za (x:=.int 8))<|by decide);rw[hk]at this;exact Qh this
  . have:=SO (xs:=(xs.take<|1+k).map D.int) (ys:=(xs.drop<|1+k).map D.int);rw[<-zyL,List.take_append_drop,zzB,zzS,Nat.min_eq_left<|by omega]at this;exact this
 let F:Int->Str:=λz=>⟨#[97+(z%26).toNat]⟩;have hc:=QJ (as:=S3) (cap:=[none,some 2]) (l:=xs.take<|1+k) (e:=D.int) (F:=λz=>.str<|F z) sl (by rw[zzS];omega) λz _=>⟨[sI z,sT<|.str Ik],rfl,(zy (zb (i:=1) rfl) (yh (zb (i:=0) (s:=true) rfl) za<|by decide)<|SC (zyM _<|by decide)<|zyG _<|by decide).e⟩;have l1:∀s ∈ (xs.take<|1+k).map F,s.length=1:=λs m=>by obtain⟨z,_,rfl⟩:=zxB.mp m;rfl
 have l2:∀s ∈ (xs.take<|1+k).map F,Lt s:=λs m=>by obtain⟨z,_,rfl⟩:=zxB.mp m;exact Lt.one
 have hm:WD (z7 .str (fC<|.str "") (aC gO aN) wL) S3 true (.str<|Str.join "" ((xs.take<|1+k).map F)):=by
  refine UR za rfl hc ?_;rw[show(xs.take<|1+k).map (λz=>D.str<|F z)=((xs.take<|1+k).map F).map D.str by rw[zyA];rfl];refine Xe ?_;rw[ml _ l1,show("":Str).length=0 from rfl,zzB,zzS];omega
 have hb:=Xq _ l1;have vj:=MU _ l2;rw[zzB,zzS,Nat.min_eq_left<|by omega]at hb;generalize Str.join "" ((xs.take<|1+k).map F)=base at hm hb vj;obtain⟨a,ha,ha2⟩:=x9 (c/8) (base.length:Int) (by omega);have s4:=zw (st:=true) (i:=4) (as:=S3) hm<|zh rfl;have s5:zm true 5 (f2 (f2 zo vU zX) (fP (aC zS aN) z8) zR) [sI c,sI 10,sT<|.str Ik,sT<|zx xs,sT<|.str base,none,none,none]=some (.nx [sI c,sI 10,sT<|.str Ik,sT<|zx xs,sT<|.str base,sT<|.int a,none,none]):=by
  rw[<-ha];exact zw (i:=5) (yh ⋯ (WN (zb (i:=4) (s:=true) rfl)<|by omega) (by omega))<|zh rfl
 have h8:xs[8]? = some (xs[8]'(by omega)):=zzE _;obtain⟨f7,hf⟩:=SW (c:=c) (base:=base) (a:=a) h8 (by omega) rfl rfl 10 0 [] none (by omega) rfl;generalize xs[8]'(by omega)=x8 at hf;have tA:=vC base a;have tB:=Ul base<|a+1;rw[show((a+1:Nat):Int)=(a:Int)+1 by omega]at tB;generalize Txt.slice base none (some (a:Int))=A at hf tA;generalize Txt.slice base (some<|(a:Int)+1) none=B at hf tB;have nA:A.length+1+B.length=base.length:=by
  rw[len_eq A,len_eq B,tA,tB,zzS,List.length_drop,<-len_eq];omega
 refine⟨(List.range' 0 10).map<|nm A B x8,by simp, ?_,λs ms=>?_, ?_⟩
 . exact List.pairwise_map.mpr<|(List.nodup_range' (s:=0) (n:=10)).imp_of_mem λha hb vp he=>vp<|uX (by have:=List.mem_range'.mp ha;omega) (by have:=List.mem_range'.mp hb;omega) he
 . obtain⟨i,_,rfl⟩:=zxB.mp ms;have hn:(nm A B x8 i).length=base.length:=by rw[zT,zT];exact nA
   exact SJ (by omega) (by omega) (Lt.app (Lt.app (vj.list λc m=>by rw[tA]at m;exact List.mem_of_mem_take m) Lt.one)<|vj.list λc m=>by rw[tB]at m;exact List.mem_of_mem_drop m)
 . exact⟨_,zG rfl<|zd (zw (i:=2) za<|zh rfl)<|zd s3<|zd s4<|zd s5<|zd (y6 (i:=6) (vB zI<|by decide)<|zh rfl)<|zd (wk ⋯ hf)<|Vo (i:=6) rfl<|v8 _,v8 _,congrArg D.lst<|Zs _⟩
noncomputable def gi(xs:List Int)(i:Int):Int:=xs.getD i.toNat 0
def qz(h0:0<=i)(h1:i<xs.length):zU (zx xs) (.int i)=some (.im<|.int<|gi xs i):=by
 have a:i.toNat<xs.length:=⋯;have:=xR (x:=.int<|gi xs i) (by
  rw[zzI];unfold gi;rw[zyE,zzE a];rfl)
 rwa [show i.toNat=i by omega]at this
def WV(k n:Int)(T:TZ):Prop:=(T.length:Int)=k/\∀r ∈ T,(r.length:Int)=n/\In n r
def Fv(h:WA fr as [(u,.int j)])(h0:0<=j)(h1:j<1000):yq fr y8 as=some ((List.range j.toNat).map λ(k:Nat)=>((true,D.int (k:Int)):Xs),as):=by
 have:=Wy h ⋯ ⋯;rw[this];unfold y4;simp
def DU(h:WA fr as [(u,.int j)])(h0:0<=j)(h1:j<1000)(H:∀k:Nat,(k:Int)<j->∃U',gN 0 (true,.int (k:Int)) (ZF cap as)=some U'/\WE fe U' (F k)):WE (zC (yq fr y8) cap yb z_ fe) as (.lst<|(List.range j.toNat).map F):=
 Ft (Fv h h0 h1) (by rw[zyT];omega) λk m=>H k (by have:=List.mem_range.mp m;omega)
def GJ(xs:List Int)(n:Int)(f:Int->Int):List Int:=(List.range n.toNat).map λ(b:Nat)=>gi xs (f b)%n
def Md(xs:List Int)(k n:Int)(f:Int->Int->Int):TZ:=(List.range k.toNat).map λ(a:Nat)=>GJ xs n<|f a
def Iy(hn:0<n):((GJ xs n f).length:Int)=n/\In n (GJ xs n f):=by
 unfold GJ;refine⟨by rw[zzB,zyT];omega,λv m=>?_⟩;obtain⟨b,_,rfl⟩:=zxB.mp m;exact⟨zyM _ ⋯,zyG _ hn⟩
def EI(hk:0<=k)(hn:0<n):WV k n (Md xs k n f):=by
 unfold Md;refine⟨by rw[zzB,zyT];omega,λr m=>?_⟩;obtain⟨a,_,rfl⟩:=zxB.mp m;exact Iy hn
def mF(h:WA fr as [(u,.int n)])(hn:0<n)(K':n<=8)(H:∀k:Nat,(k:Int)<n->∃U',gN 0 (true,.int (k:Int)) (ZF cap as)=some U'/\WE fe U' (.int<|gi xs (f k)%n)):WE (zC (yq fr y8) cap yb z_ fe) as (zx<|GJ xs n f):=by
 have:=DU h ⋯ ⋯ H;have e:zx (GJ xs n f) = .lst ((List.range n.toNat).map λ(k:Nat)=>D.int<|gi xs (f k)%n):=by
  unfold GJ;show D.lst _=_;rw[zyA];rfl
 rwa [e]
def lg(h:WA fr as [(u,.int k)])(hk:0<=k)(i6:k<=8)(H:∀a:Nat,(a:Int)<k->∃U',gN 0 (true,.int (a:Int)) (ZF cap as)=some U'/\WE fe U' (zx<|GJ xs n<|f a)):WE (zC (yq fr y8) cap yb z_ fe) as (.lst<|(Md xs k n f).map zx):=by
 have:=DU h hk ⋯ H;have e:D.lst ((Md xs k n f).map zx) = .lst ((List.range k.toNat).map λ(a:Nat)=>zx<|GJ xs n<|f a):=by
  unfold Md;rw[zyA];rfl
 rwa [e]
def ui(h:WA fr as [(u,.int j)])(h0:0<=j)(h1:j<1000)(H:∀k:Nat,(k:Int)<j->∃U',gN 0 (true,.int (k:Int)) (ZF cap as)=some U'/\WT tt U' (p k)/\WD zo U' true (.int (k:Int))):WE (zC (yq fr y8) cap yb tt zo) as (zx<|((List.range j.toNat).filter p).map λ(k:Nat)=>(k:Int)):=by
 have e:zx (((List.range j.toNat).filter p).map λ(k:Nat)=>k) = .lst (((List.range j.toNat).filter p).map λ(k:Nat)=>D.int k):=⋯;rw[e];exact MF (Fv h h0 h1) (by rw[zyT];omega) λk m=>(H k<|by have:=List.mem_range.mp m;omega).imp λU' q=>⟨q.1,q.2.1,λ_=>q.2.2.e⟩
def BD(n:Int)(vs:List Int):Prop:=In n vs/\vs.Pairwise (· < ·)
def Jj:BD n (((List.range n.toNat).filter p).map λ(k:Nat)=>(k:Int)):=by
 refine⟨λv m=>?_, ?_⟩
 . obtain⟨k,mk,rfl⟩:=zxB.mp m;have:=List.mem_range.mp (List.mem_filter.mp mk).1;omega
 . exact List.pairwise_map.mpr<|(List.Pairwise.filter _ List.pairwise_lt_range).imp λh=>Int.ofNat_lt.mpr h
def ph{i:Nat}{os}(h:as[i]? = some (sN os))(hl:os.length<sizeLine)(ha:a as=some (.ow o,as)):yE (wG i (dC a dN) wN) as=some (.nx<|as.set i<|sN<|os++[o]):=by
 have e:=Gm ha zI;unfold yE wG;rw[h];rw[e];show(Option.bind (match as[i]? with|some (some<|.nd .ls os)=>_|_=>none) _)=_;rw[h];show((wN os _).bind _).bind _=_;have e2:wN os [o]=some _:=if_pos hl;rw[e2];rfl
def Ow(os:List O)(ds:List D):Prop:=O.strs os=true/\O.toDs os=ds/\os.length=ds.length
def Ow.nil:Ow [] []:=⟨rfl,rfl,rfl⟩
theorem KY:∀os o,O.strs (os++[o])=(O.strs os&&o.str)
 | [],o=>by show(o.str&&O.strs [])=_;rw[Bool.and_comm]
 |x::r,o=>by show(x.str&&O.strs (r++_))=_;rw[KY r o];show _=((x.str&&O.strs r)&&o.str);rw[Bool.and_assoc]
theorem LO:∀os o,O.toDs (os++[o])=O.toDs os++[o.toD]
 | [],o=>rfl
 |x::r,o=>congrArg _<|LO r o
def Ow.snoc{os}(h:Ow os ds)(h1:o.str=true)(h2:o.toD=d):Ow (os++[o]) (ds++[d]):=by
 obtain⟨a,b,c⟩:=h;exact⟨by rw[KY,a,h1];rfl,by rw[LO,b,h2],by rw[zzJ,zzJ,c];rfl⟩
def E6(ha:WE fa as x)(hb:WE fb as y):WE (yC<|dC fa<|dC fb dN) as (.tup [x,y]):=by
 obtain⟨o1,a1,a2,a3⟩:=ha;obtain⟨o2,b1,b2,b3⟩:=hb;refine⟨_,(tW (Gm a1<|Gm b1 zI)<|Ww rfl), ?_, ?_⟩
 . unfold Xh
   split
   . show(o1.str&&(o2.str&&true))=_;rw[a2,b2];rfl
   . show(o1.str&&(o2.str&&true))=_;rw[a2,b2];rfl
 . unfold Xh
   split
   . show D.tup [o1.toD,o2.toD]=_;rw[a3,b3]
   . show D.tup [o1.toD,o2.toD]=_;rw[a3,b3]
def PX(hj:0<=j):∃c,ym [(true,zx ns),(true,.int j)]=sT (.int c):=by
 by_cases h:j<ns.length
 . exact⟨gi ns j,zG rfl<|z9<|yp (zg (xY ⋯ (Li rfl))<|congrArg some<|zyN<|by rwa [zzB])<|zN<|z0 ⋯ ⋯ (qz hj h) rfl⟩
 . exact⟨0,zG rfl<|zd (zr (zg (xY ⋯ (Li rfl))<|congrArg some<|zyF<|by rwa [zzB]) rfl) ⋯⟩
abbrev rJ(S n m:D)(ys:List Int)(ss:List Str)(xs:List Int)(T:D)(o7:Option O)(e8 e9:Option O)(o10:Option O)(e11:Option O):AS:=
 [sT S,sT<|zx ys,sT n,sT m,sT<|yK ss,sT<|zx xs,sT T,o7,e8,e9,o10,e11]
abbrev aD:SF:=ze pP
 ia
abbrev aS:SF:=ze (zm true 11<|f2 wg (f2 (f1 zD RK) (fV 8) vX) zU)
 mH
section
variable{S T:D}{ys xs:List Int}{ss:List Str}{n m:Int}{o10 e9 e11:Option O}
theorem He(hn:1<=n)(K':n<=8)(hm:1<=m)(vh:m<=6)(hs:ss.length=10)(hx:xs.length=357):∀j k (Ds:List Dd) os e8 e9,k+j<=6->Ow os (Ds.map yO)->Ds.map (·.1)=ss.take k->(∀p ∈ Ds,WV m n p.2)->
 ∃(Ds':List Dd) (vk:List O) (f8 f9:Option O),Ow vk (Ds'.map yO)/\Ds'.map (·.1)=ss.take (k+j)/\(∀p ∈ Ds',WV m n p.2)/\forL (gN 8) aD (y4 k j) (rJ S (.int n) (.int m) ys ss xs T (sN os) e8 e9 o10 e11)=some (.nx<|rJ S (.int n) (.int m) ys ss xs T (sN vk) f8 f9 o10 e11)
 |0,k,Ds,os,e8,e9,_,ho,hN,hT=>⟨Ds,os,e8,e9,ho,hN,hT,rfl⟩
 |j+1,k,Ds,os,e8,e9,hk,ho,hN,hT=>by
  have hks:k<ss.length:=by omega
  let A9:AS:=rJ S (.int n) (.int m) ys ss xs T (sN os) (sT<|.int k) (sT<|.int<|64+48*(k:Int)) o10 e11;let R:=Md xs m n λc a=>64+48*(k:Int)+8*c+a;have hR:=EI (xs:=xs) (k:=m) (n:=n) (f:=λc a=>64+48*(k:Int)+8*c+a) (by omega) (by omega);have ht:WE (zC (yq xX y8) [none,some 2,some 5,some 9] yb z_<|zC _ [none,some 1,some 2,some 3,some 0] yb z_ _) A9 (.lst<|R.map zx):=
   lg ⋯ (by omega) (by omega) λc hc=>⟨_,rfl,
    mF (zk (zb (i:=1) rfl) zq) (by omega) K' λa ha=>⟨_,rfl,
     (yh (zy (zb (i:=2) rfl) (yr (yr (zb (i:=3) rfl)<|XX za (zb (i:=4) rfl)<|by omega)<|zb (i:=0) rfl)<|qz (by omega)<|by omega) (zb (i:=1) rfl)<|by omega).e⟩⟩
  have hnm:WD (f2 zS (fV 8) zU) A9 true (.str ss[k]):=zy (zb (i:=4) rfl) (zb (i:=8) rfl)<|nC hks;obtain⟨o,o1,o2,o3⟩:=E6 hnm.e ht;have hlen:os.length<=6:=by have:=congrArg List.length hN;rw[zzB,zzS]at this;have:=ho.2.2;rw[zzB]at this;omega
  obtain⟨Ds',vk,f8,f9,h1,h2,h3,h4⟩:=He hn K' hm vh hs hx j (k+1) (Ds++[(ss[k],R)]) (os++[o]) _ _ (by omega) (by rw[zyL];exact ho.snoc o2 o3) (by rw[zyL,hN,List.take_succ,zzE hks];rfl) (λp mp=>by
   rcases zzM.mp mp with mp|mp
   . exact hT p mp
   . rwa [zzR.mp mp])
  refine⟨Ds',vk,f8,f9,h1,by rw[h2];congr 1;omega,h3, ?_⟩;rw[y_];exact zW rfl (zd (zw (i:=9) (yr za<|XX za (zb (i:=8) rfl)<|by omega)<|zh rfl)<|ph (as:=A9) (i:=7) rfl (yI<|by omega) o1) h4
noncomputable abbrev BO:List Int:=[1,2,4,8,16,32,64,128]
def qp{v:Nat}(h:(v:Int)<8):∃q,0<q/\q<=128/\zU (zx BO) (.int (v:Int))=some (.im<|.int q):=by
 refine⟨gi BO v, ?_, ?_,qz ⋯ (h)⟩
 . rcases(show v=0\/v=1\/v=2\/v=3\/v=4\/v=5\/v=6\/v=7 by omega)with rfl|rfl|rfl|rfl|rfl|rfl|rfl|rfl<;>decide
 . rcases(show v=0\/v=1\/v=2\/v=3\/v=4\/v=5\/v=6\/v=7 by omega)with rfl|rfl|rfl|rfl|rfl|rfl|rfl|rfl<;>decide
theorem Hn(hn:1<=n)(K':n<=8)(hs:ss.length=10)(hx:xs.length=357):∀j k (Ss:List Sd) os e8 e11,k+j<=4->Ow os (Ss.map yB)->Ss.map (·.1)=(ss.drop 6).take k->(∀p ∈ Ss,BD n p.2)->
 ∃(Ss':List Sd) (vk:List O) (f8 f11:Option O),Ow vk (Ss'.map yB)/\Ss'.map (·.1)=(ss.drop 6).take (k+j)/\(∀p ∈ Ss',BD n p.2)/\forL (gN 8) aS (y4 k j) (rJ S (.int n) (.int m) ys ss xs T o7 e8 e9 (sN os) e11)=some (.nx<|rJ S (.int n) (.int m) ys ss xs T o7 f8 e9 (sN vk) f11)
 |0,k,Ss,os,e8,e11,_,ho,hN,hT=>⟨Ss,os,e8,e11,ho,hN,hT,rfl⟩
 |j+1,k,Ss,os,e8,e11,hk,ho,hN,hT=>by
  have hks:6+k<ss.length:=by omega
  obtain⟨x,hxx⟩:∃x,zU (zx xs) (.int (-1-(k:Int)))=some (.im<|.int x):=by
   have a:((-1-(k:Int))+(xs.length:Int)).toNat<xs.length:=by omega
   refine⟨xs[((-1-(k:Int))+(xs.length:Int)).toNat], ?_⟩;show D9 (Gr (xs.map D.int) (-1-(k:Int)))=_;have e:B8 (xs.map D.int).length (-1-(k:Int))=some ((-1-(k:Int))+(xs.length:Int)).toNat:=by
    rw[zzB];unfold B8;rw[if_neg (by omega),if_pos<|by omega]
   unfold Gr;rw[e,zyK,zzI,zzE a];rfl
  let A11:AS:=rJ S (.int n) (.int m) ys ss xs T o7 (sT<|.int k) e9 (sN os)<|sT<|.int x;have hb:∃p,WE iE A11 (zx<|((List.range n.toNat).filter p).map λ(k:Nat)=>(k:Int)):=by
   refine⟨λv=>(x/gi BO v%2==1),ui (as:=A11) (zk (zb (i:=2) rfl) zq) (by omega) (by omega) λv hv=>⟨[sT<|.int v,sT<|.int x],rfl, ?_,zb rfl⟩⟩;obtain⟨q,q0,q1,q2⟩:=qp (v:=v) (by omega);have e:gi BO v=q:=by
    have h2:=qz (xs:=BO) (i:=(v:Int)) (by omega) (by show(v:Int)<8;omega);rw[q2]at h2;injection h2 with h2;injection h2 with h2;injection h2 with h2;exact h2.symm
   rw[e];exact zg (xU (yh (YK (zb (i:=1) (s:=true) rfl) (Zu (zZ (x:=zx BO) ⋯ (Ww rfl) rfl rfl) (ve (i:=0) rfl) q2) q0<|Nat.lt_of_le_of_lt (show q.natAbs<=128 by omega)<|by decide) za<|by decide).e ce rfl) rfl
  obtain⟨p,hb⟩:=hb;have hnm:WD (f2 zS (f2 QU (fV 8) zl) zU) A11 true (.str ss[6+k]):=zy (zb (i:=4) rfl) (yr za<|zb (i:=8) (s:=true) rfl) (by
   have:=nC hks
   rwa [show((6+k:Nat):Int)=6+(k:Int) by omega]at this)
  obtain⟨o,o1,o2,o3⟩:=E6 hnm.e hb;have hlen:os.length<=4:=by have:=congrArg List.length hN;rw[zzB,zzS,List.length_drop]at this;have:=ho.2.2;rw[zzB]at this;omega
  have ap:=ph (as:=A11) (i:=10) (os:=os) rfl (yI<|by omega) o1;obtain⟨Ss',vk,f8,f11,h1,h2,h3,h4⟩:=Hn hn K' hs hx j (k+1) (Ss++[(ss[6+k],((List.range n.toNat).filter p).map λ(k:Nat)=>(k:Int))]) (os++[o]) (sT<|.int k) (sT<|.int x) (by omega) (by rw[zyL];exact ho.snoc o2 o3) (by rw[zyL,hN,List.take_succ,List.getElem?_drop,zzE hks];rfl) (λp mp=>by
   rcases zzM.mp mp with mp|mp
   . exact hT p mp
   . rw[zzR.mp mp];exact Jj)
  refine⟨Ss',vk,f8,f11,h1,by rw[h2];congr 1;omega,h3, ?_⟩;rw[y_];exact zW rfl (zd (zw (i:=11) (zy (zb (i:=5) rfl) (Y5 (U9<|za (x:=.int 1))<|zb (i:=8) (s:=true) rfl) hxx)<|zh rfl) ap) h4
end
structure GA(a:Hd×Tl):Prop where
 n1:1<=a.1.1
 n8:a.1.1<=8
 m1:1<=a.1.2.1
 m6:a.1.2.1<=6
 tb:WV a.1.1 a.1.1 a.1.2.2.1
 e0:0<=a.1.2.2.2
 e1:a.1.2.2.2<a.1.1
 d6:a.2.1.length<=6
 dn:(a.2.1.map (·.1)).Nodup
 dk:∀p ∈ a.2.1,yz p.1=true/\WV a.1.2.1 a.1.1 p.2
 s4:a.2.2.length<=4
 sn:(a.2.2.map (·.1)).Nodup
 sk:∀p ∈ a.2.2,yz p.1=true/\BD a.1.1 p.2
def Sr{os}(h:Ow os ds):(O.nd .ls os).frz = .lf true (.lst ds):=by
 show O.lf (O.strs os) (.lst _)=_;rw[h.1,h.2.1]
def uj:∃a,GA a/\RE (VN [(true,zx ns)]) (vQ a):=by
 obtain⟨c0,hc0⟩:=PX (ns:=ns) (j:=0) (by decide);obtain⟨c1,hc1⟩:=PX (ns:=ns) (j:=1) (by decide);obtain⟨c2,hc2⟩:=PX (ns:=ns) (j:=2) (by decide);obtain⟨ys,y1,y2,y3⟩:=XR (c:=c0) (m:=6) (by decide);obtain⟨xs,x1,x2,x3⟩:=XR (c:=c2) (m:=357) (by decide);obtain⟨ss,n1,n2,n3,n4⟩:=OO (c:=c1);let z:AS:=[some<|.lf true<|zx ns,none,none,none,none,none,none,none,none,none,none,none];have s1:=yZ (p:=1) (as:=z) (vE (yt (ve (i:=0) rfl) (ce (x:=.int 0)) hc0).e (ce (x:=.int 6)) y3)<|zh rfl;have yi:∀j as,0<=j->j<6->as[1]? = some (some<|.lf true<|zx ys)->WD (f2 (fV 1) (fC<|.int j) zU) as true (.int<|gi ys j):=λj as h0 h6 h=>zy (zb h) za (qz h0<|by rw[y1];omega);obtain⟨n,hn0,hn1⟩:=x9 (gi ys 0) 8 (by decide);obtain⟨m,hm0,hm1⟩:=x9 (gi ys 1) 6 (by decide);obtain⟨kd,hd0,hd1⟩:=x9 (gi ys 2) 7 (by decide);obtain⟨ks,hs0,hs1⟩:=x9 (gi ys 3) 5 (by decide);let N:Int:=1+(n:Int);let M:Int:=1+(m:Int);have s2:zm true 2 (f2 (fC<|.int 1) (f2 (f2 (fV 1) (fC<|.int 0) zU) (fC<|.int 8)<|vR .Mod)<|vR .Add) (z.set 1<|some<|.lf true<|zx ys)=some (.nx [some<|.lf true<|zx ns,some<|.lf true<|zx ys,some<|.lf true<|.int N,none,none,none,none,none,none,none,none,none]):=by
  have:=zw (st:=true) (i:=2) (as:=z.set 1<|some<|.lf true<|zx ys) (yr (za (x:=.int 1))<|yh (yi 0 _ (by decide) (by decide) rfl) (za (x:=.int 8))<|by decide)<|zh rfl;rw[hn0]at this;exact this
 have s3:zm true 3 (f2 (fC<|.int 1) (f2 (f2 (fV 1) (fC<|.int 1) zU) (fC<|.int 6)<|vR .Mod)<|vR .Add) [some<|.lf true<|zx ns,some<|.lf true<|zx ys,some<|.lf true<|.int N,none,none,none,none,none,none,none,none,none]=some (.nx [some<|.lf true<|zx ns,some<|.lf true<|zx ys,some<|.lf true<|.int N,some<|.lf true<|.int M,none,none,none,none,none,none,none,none]):=by
  have:=zw (st:=true) (i:=3) (as:=[some<|.lf true<|zx ns,some<|.lf true<|zx ys,some<|.lf true<|.int N,none,none,none,none,none,none,none,none,none]) (yr (za (x:=.int 1))<|yh (yi 1 _ (by decide) (by decide) rfl) (za (x:=.int 6))<|by decide)<|zh rfl;rw[hm0]at this;exact this
 have s4:=yZ (p:=4) (as:=[some<|.lf true<|zx ns,some<|.lf true<|zx ys,some<|.lf true<|.int N,some<|.lf true<|.int M,none,none,none,none,none,none,none,none]) (vE (yt (ve (i:=0) rfl) (ce (x:=.int 1)) hc1).e (ce (x:=.int 10)) n4)<|zh rfl;have s5:=yZ (p:=5) (as:=[some<|.lf true<|zx ns,some<|.lf true<|zx ys,some<|.lf true<|.int N,some<|.lf true<|.int M,some<|.lf true<|yK ss,none,none,none,none,none,none,none]) (vE (yt (ve (i:=0) rfl) (ce (x:=.int 2)) hc2).e (yr (yr (za (x:=.int 65))<|XX (za (x:=.int 48)) (za (x:=.int 6))<|by decide)<|za (x:=.int 4)).e x3)<|zh rfl;let A5':AS:=[some<|.lf true<|zx ns,some<|.lf true<|zx ys,some<|.lf true<|.int N,some<|.lf true<|.int M,some<|.lf true<|yK ss,some<|.lf true<|zx xs,none,none,none,none,none,none];let T:=Md xs N N λa b=>8*a+b;have hT:=EI (xs:=xs) (k:=N) (n:=N) (f:=λa b=>8*a+b) (by omega) (by omega);have ht:WE (zC (yq (aC (fV 2) aN) y8) [none,some 2,some 5] (gN 0) z_<|zC (yq (aC (fV 1) aN) y8) [none,some 1,some 2,some 0] (gN 0) z_<|f2 (f2 (fV 2) (f2 (f2 (fC<|.int 8) (fV 3)<|vR .Mult) (fV 0)<|vR .Add) zU) (fV 1)<|vR .Mod) A5' (.lst<|T.map zx):=
  lg (as:=A5') (f:=λa b=>8*a+b) (zk (zb (i:=2) rfl) zq) (by omega) (by omega) λa ha=>⟨[some<|.lf true<|.int a,some<|.lf true<|.int N,some<|.lf true<|zx xs],rfl,
   mF (f:=λb=>8*(a:Int)+b) (zk (zb (i:=1) rfl) zq) (by omega) (by omega) λb hb=>⟨[some<|.lf true<|.int b,some<|.lf true<|.int N,some<|.lf true<|zx xs,some<|.lf true<|.int a],rfl,
      (yh (zy (zb (i:=2) rfl) (yr (XX za (zb (i:=3) (s:=true) rfl)<|by omega)<|zb (i:=0) (s:=true) rfl)<|qz (by omega)<|by omega) (zb (i:=1) (s:=true) rfl)<|by omega).e⟩⟩
 have s6:=yZ (p:=6) ht<|zh rfl;obtain⟨Ds,od,f8,f9,d1,d2,d3,d4⟩:=He (S:=zx ns) (T:=.lst<|T.map zx) (ys:=ys) (xs:=xs) (ss:=ss) (n:=N) (m:=M) (o10:=none) (e11:=none) (by omega) (by omega) (by omega) (by omega) n1 x1 kd 0 [] [] none none (by omega) Ow.nil rfl (λp h=>nomatch h);obtain⟨Ss,os,g8,g11,k1,k2,k3,k4⟩:=Hn (S:=zx ns) (T:=.lst<|T.map zx) (ys:=ys) (xs:=xs) (ss:=ss) (n:=N) (m:=M) (o7:=some<|.nd .ls od) (e9:=f9) (by omega) (by omega) n1 x1 ks 0 [] [] f8 none (by omega) Ow.nil rfl (λp h=>nomatch h);have hr1:=λas h=>by
  have w:=yh (yi 2 as (by decide) (by decide) h) (za (x:=.int 7)) (by decide);rw[hd0]at w;exact Wy (j:=(kd:Int)) (zk w zq) (by omega) (by omega)
 have hr2:=λas h=>by
  have w:=yh (yi 3 as (by decide) (by decide) h) (za (x:=.int 5)) (by decide);rw[hs0]at w;exact Wy (j:=(ks:Int)) (zk w zq) (by omega) (by omega)
 let A:AS:=rJ (zx ns) (.int N) (.int M) ys ss xs (.lst<|T.map zx) (some<|.nd .ls od) g8 f9 (some<|.nd .ls os) g11;let A1:AS:=A.set 7<|some<|.lf true<|.lst<|Ds.map yO;let A2:AS:=A1.set 10<|some<|.lf true<|.lst<|Ss.map yB;have q10:dC (fV 10) dN A1=some ([.lf true<|.lst<|Ss.map yB],A2):=by
  unfold dC;rw[YO (as:=A1) (i:=10) (k:=.ls) (os:=os) rfl,zyK];rw[G5 (as:=A1) (i:=10) (o:=.nd .ls os) rfl,Sr k1];rfl
 have q7:dC (fV 7) (dC (fV 10) dN) A=some ([.lf true<|.lst<|Ds.map yO,.lf true<|.lst<|Ss.map yB],A2):=by
  unfold dC;rw[YO (as:=A) (i:=7) (k:=.ls) (os:=od) rfl,zyK];rw[G5 (as:=A) (i:=7) (o:=.nd .ls od) rfl,Sr d1,zyK];show(dC (fV 10) dN A1).bind _=_;rw[q10];rfl
 have e4:=yh (yi 4 A (by decide) (by decide) rfl) (zb (as:=A) (i:=2) (s:=true) (x:=.int N) rfl) (by omega);have q:=tW (Zw (zb (as:=A) (i:=2) rfl)<|Zw (zb (as:=A) (i:=3) rfl)<|Zw (zb (as:=A) (i:=6) rfl)<|Zw e4 q7)<|Ww rfl;have hD6:Ds.length<=6:=by have:=congrArg List.length d2;rw[zzB,zzS]at this;omega
 have hS4:Ss.length<=4:=by have:=congrArg List.length k2;rw[zzB,zzS]at this;omega
 refine⟨((N,M,T,gi ys 4%N),(Ds,Ss)),⟨by show 1<=N;omega,by show N<=8;omega,by show 1<=M;omega,by show M<=6;omega,hT,zyM _ (by omega),zyG _ (by omega),hD6, ?_,λp mp=>⟨?_,d3 p mp⟩,hS4, ?_,λp mp=>⟨?_,k3 p mp⟩⟩,⟨.lf true<|vQ ((N,M,T,gi ys 4%N),(Ds,Ss)), ?_,rfl,rfl⟩⟩
 . show(Ds.map (·.1)).Nodup;rw[d2];exact n2.sublist<|List.take_sublist _ _
 . have:p.1 ∈ Ds.map (·.1):=List.mem_map_of_mem mp;rw[d2]at this;exact n3 _<|List.mem_of_mem_take this
 . show(Ss.map (·.1)).Nodup;rw[k2];exact n2.sublist<|(List.take_sublist _ _).trans<|List.drop_sublist _ _
 . have:p.1 ∈ Ss.map (·.1):=List.mem_map_of_mem mp;rw[k2]at this;exact n3 _<|List.mem_of_mem_drop<|List.mem_of_mem_take this
 . refine zG rfl<|zd s1<|zd s2<|zd s3<|zd s4<|zd s5<|zd s6<|zd (y6 (i:=7) (vB zI<|by decide)<|zh rfl)<|zd (wk (hr1 _ rfl) d4)<|zd (y6 (i:=10) (vB zI<|by decide)<|zh rfl)<|zd (wk (hr2 _ rfl) k4) ?_;exact Vy q rfl
abbrev Al(P:Nat->Prop)(s:Str):Prop:=∀c ∈ s.cps.toList,P c
def T4(h:Al P a)(g:Al P b):Al P (a++b):=λc m=>by
 rw[app_list]at m;exact(zzM.mp m).elim (h c)<|g c
theorem Q4(hs:Al P sep):∀l,(∀s ∈ l,Al P s)->Al P (Str.join sep l)
 | [],_=>λ_ z=>nomatch z
 | [x],h=>h x (zzF ..)
 |x::y::r,h=>T4 (T4 (h x<|zzF ..) hs)<|Q4 hs _ λs m=>h s<|zzD _ m
def Oi(h0:0<=v)(h1:v<10)(h:∀k,48<=k->k<=57->P k):Al P (tx v):=λc m=>by
 rw[GE h0 h1]at m;rw[zzR.mp m];exact h _ ⋯ ⋯
def Dj(h0:0<=v)(h1:v<10):(tx v).length=1:=by rw[GE h0 h1];rfl
def D3:(8:Int)<10 ^ 60:=by decide
def Gb{lo hi v}(h0:0<=v)(h1:v<10)(h2:lo<=v)(h3:v<=hi):num lo hi (tx v)=some v:=by
 unfold num;rw[E_ h0 ⋯];exact if_pos ⟨h2,h3⟩
def K9(h0:0<=v)(h1:v<10):NB (tx v):=λm=>Oi (P:=λc=>c≠32) h0 h1 ⋯ 32 m rfl
def L4(h:yz s=true)(hp:∀k,97<=k->k<=122->P k):Al P s:=λc m=>by
 unfold yz at h;rw[zyB]at h;have:=List.all_eq_true.mp h.2 c m;unfold GX at this;rw[zyB]at this;exact hp c (of_decide_eq_true this.1)<|of_decide_eq_true this.2
def VS(h:yz s=true):s.length<=8:=by
 unfold yz at h;rw[zyB,zyB]at h;exact of_decide_eq_true h.1.2
def Eg(h:yz s=true):NB s:=λm=>L4 h (P:=λc=>c≠32) ⋯ 32 m rfl
def Fc(hn:n<=8)(h:In n r):vW n (r.map tx)=some r:=by
 refine Gv ?_;rw[zyA];refine List.map_congr_left λv m=>?_;have:=h v m;exact Gb ⋯ ⋯ ⋯ ⋯
def OT(hn:n<=8)(h0:r≠[])(h:In n r):Txt.split (rT r) sb=r.map tx:=
 Qi Vf (by simpa using h0) λp m=>by
  obtain⟨v,mv,rfl⟩:=zxB.mp m;have:=h v mv;exact K9 ⋯ ⋯
def Dm(hn:n<=8)(h:In n r)(hp:∀k,48<=k->k<=57->P k)(hb:P 32):Al P (rT r):=
 Q4 (λc m=>by rwa [zzR.mp m]) _ λs m=>by
  obtain⟨v,mv,rfl⟩:=zxB.mp m;have:=h v mv;exact Oi ⋯ ⋯ hp
def nM(hn:n<=8)(h:WV k n T)(hp:∀k,48<=k->k<=57->P k)(hb:P 32)(hc:P 44):Al P (tT T):=
 Q4 (λc m=>by
  rcases zzC.mp m with rfl|m
  . exact hc
  . rwa [zzR.mp m]) _ λs m=>by
  obtain⟨r,mr,rfl⟩:=zxB.mp m;exact Dm hn (h.2 r mr).2 hp hb
def On(hn1:1<=n)(hn:n<=8)(hk:1<=k)(h:WV k n T):wY k n (tT T)=some T:=by
 have vp:T≠[]:=λe=>by have:=h.1;rw[e]at this;simp at this;omega
 have hs:Txt.split (tT T) sc=T.map rT:=Qi pW (by simpa using vp) λp m=>by
  obtain⟨r,mr,rfl⟩:=zxB.mp m;exact λz=>Dm (P:=λc=>c≠44) hn (h.2 r mr).2 ⋯ (by decide) 44 z rfl
 unfold wY;rw[hs,Gv,zyK,if_pos h.1];rw[zyA];refine List.map_congr_left λr mr=>?_;obtain⟨a,b⟩:=h.2 r mr;show pq n _=_;unfold pq;rw[OT hn (λe=>by rw[e]at a;simp at a;omega) b,Fc hn b,zyK,if_pos a]
def P2(hn1:1<=n)(hn:n<=8)(hk:1<=k)(h:WV k n T):w6 p k n (J (("rows":Str)::Txt.split (tT T) sb))=some T:=by
 obtain⟨w1,w2,w3⟩:=sp _;have hs:Txt.split _ sb=("rows":Str)::Txt.split (tT T) sb:=Zx ⋯ λw m=>by
  rcases zzC.mp m with rfl|m
  . unfold NB;decide +kernel
  . exact w2 w m
 unfold w6;rw[hs];show(if("rows":Str)="rows" then wY k n (J<|Txt.split _ sb)else _)=_;rw[<-w3];exact On hn1 hn hk h
def C5(n m:Int):List Str:=["values",tx n,"around",tx m]
def Bm(T:TZ):List Str:="join"::"rows"::Txt.split (tT T) sb
def B7(e:Int):List Str:=["nothing",tx e]
def qG(p:Dd):List Str:="deed"::p.1::"rows"::Txt.split (tT p.2) sb
def qQ(p:Sd):List Str:="sign"::p.1::p.2.map tx
def mL(n1:1<=n)(n8:n<=8)(m1:1<=m)(m6:m<=6):PK (J<|C5 n m)=some (n,m):=by
 have hs:Txt.split (J<|C5 n m) sb=_:=Zx (by unfold C5;simp) λw hw=>by
  unfold C5 at hw;simp at hw
  rcases hw with rfl|rfl|rfl|rfl
  . unfold NB;decide +kernel
  . exact K9 ⋯ ⋯
  . unfold NB;decide +kernel
  . exact K9 (by omega) (by omega)
 unfold PK;rw[hs];show(if "values"="values"/\"around"="around" then _ else none)=_;rw[Gb (by omega) (by omega) n1 n8,Gb (by omega) (by omega) m1 m6];rfl
def D4(h1:ws≠[])(h2:∀w ∈ ws,NB w):Q1 n (J (("join":Str)::ws))=w6 "b" n n (J ws):=by
 have hs:Txt.split _ sb=("join":Str)::ws:=Zx ⋯ λw hw=>by
  rcases zzC.mp hw with rfl|hw
  . unfold NB;decide +kernel
  . exact h2 w hw
 unfold Q1;rw[hs];exact if_pos rfl
def J5(n1:1<=n)(n8:n<=8)(h:WV n n T):Q1 n (J<|Bm T)=some T:=by
 obtain⟨w1,w2,w3⟩:=sp _;refine(D4 ⋯ λw hw=>?_).trans<|P2 n1 n8 n1 h
 rcases zzC.mp hw with rfl|hw
 . unfold NB;decide +kernel
 . exact w2 w hw
def J7(h1:ws≠[])(h2:∀w ∈ ws,NB w)(hh:ws.headD ""≠"rows")(ht:pZ "b" (J ws)):∃T,Q1 n (J (("join":Str)::ws))=some T:=by
 rw[D4 h1 h2];unfold w6;rw[Zx h1 h2,if_neg hh];cases h:TJ "b" _ with
 |none=>exact absurd ht (UA h)
 |some t=>exact⟨_,rfl⟩
def pK(n8:n<=8)(e0:0<=e)(e1:e<n):G0 n (J<|B7 e)=some e:=by
 have hs:Txt.split (J<|B7 e) sb=_:=Zx (by unfold B7;simp) λw hw=>by
  unfold B7 at hw;simp at hw
  rcases hw with rfl|rfl
  . unfold NB;decide +kernel
  . exact K9 ⋯ ⋯
 unfold G0;rw[hs];exact Gb ⋯ ⋯ e0 ⋯
def Pr(hp:yz p.1=true):Txt.split (J<|qG p) sb=("deed":Str)::p.1::("rows":Str)::Txt.split (tT p.2) sb:=
 Zx (by unfold qG;simp) λw hw=>by
  rcases zzC.mp hw with rfl|hw
  . exact C4
  rcases zzC.mp hw with rfl|hw
  . exact Eg hp
  rcases zzC.mp hw with rfl|hw
  . unfold NB;decide +kernel
  . exact(sp _).2.1 w hw
def Tc(n8:n<=8)(hp:yz p.1=true)(h:In n p.2):Txt.split (J<|qQ p) sb=("sign":Str)::p.1::p.2.map tx:=
 Zx (by unfold qQ;simp) λw hw=>by
  rcases zzC.mp hw with rfl|hw
  . unfold NB;decide +kernel
  rcases zzC.mp hw with rfl|hw
  . exact Eg hp
  . obtain⟨v,mv,rfl⟩:=zxB.mp hw;have:=h v mv;exact K9 ⋯ ⋯
abbrev Kp(p:Dd):Str:=J<|qG p
abbrev PD(p:Sd):Str:=J<|qQ p
def J1(hp:yz p.1=true):dS (Kp p)=true:=by
 rcases WH _ with⟨b,r,e,h⟩|⟨h,e⟩
 . exact h
 . rw[Pr hp]at e;have:=e rfl;simp at this
def J3(n8:n<=8)(hp:yz p.1=true)(h:In n p.2):dS (PD p)=false:=by
 rcases WH (PD p)with⟨b,r,e,h'⟩|⟨h',e⟩
 . rw[Tc n8 hp h]at e;have:=(List.cons.inj e).1;exact absurd this ⋯
 . exact h'
def Ez{most:Nat}(h1:yz b=true)(h2:b ∉ known)(h3:known.length<most):vP known most b=true:=by
 unfold vP;have h:known.any (· == b)=false:=List.any_eq_false.mpr λx m=>by
  intro e;exact h2<|eq_of_beq e ▸ m
 have h':(known.length==most)=false:=beq_eq_false_iff_ne.mpr ⋯;rw[h1,h,h'];rfl
theorem LH(n1:1<=n)(n8:n<=8)(m1:1<=m)(hpost:∀X r,V'=X::r->dS X=false):∀Ps done k,(∀p ∈ Ps,yz p.1=true/\WV m n p.2)->((done++Ps).map (·.1)).Nodup->done.length+Ps.length<=6->xI n m k (Ps.map Kp++V') done = .inr (done++Ps,V')
 | [],done,k,_,_,_=>by
  rw[zyD];cases V' with
  |nil=>rfl
  |cons X r=>
   show xI n m k (X::r) done=_;unfold xI;rw[if_neg<|by rw[hpost X r rfl];decide]
 |p::Ps,done,k,ho,hn,hl=>by
  have hp:=ho p (by simp);have hx:=λmm=>by
   rw[zyL,zxC]at hn;exact hn.2.2 p.1 mm p.1 (by simp) rfl
  have e:Kr n m done (Kp p)=some p:=by
   rw[G_<|Pr hp.1,if_pos (Ez hp.1 hx<|by rw[zzB];simp at hl;omega),P2 n1 n8 m1 hp.2];rfl
  show xI n m k (Kp p::_) done=_;unfold xI;rw[if_pos<|J1 hp.1,e];show xI n m (k+1) (Ps.map Kp++V') (done++[p])=_;rw[LH n1 n8 m1 hpost Ps (done++[p]) (k+1) (λq mq=>ho q<|zzD _ mq) (by simpa using hn)<|by simp at hl ⊢;omega];simp
theorem Np(n8:n<=8):∀Ps done k,(∀p ∈ Ps,yz p.1=true/\BD n p.2)->((done++Ps).map (·.1)).Nodup->done.length+Ps.length<=4->xN n k (Ps.map PD) done = .inr (done++Ps)
 | [],done,k,_,_,_=>by rw[zyD];rfl
 |p::Ps,done,k,ho,hn,hl=>by
  have hp:=ho p ⋯;have hx:=λmm=>by
   rw[zyL,zxC]at hn;exact hn.2.2 p.1 mm p.1 ⋯ rfl
  have e:Tg n done (PD p)=some p:=by
   rw[GR,Xw<|Tc n8 hp.1 hp.2.1,if_pos (by rw[Ez hp.1 hx<|by rw[zzB];simp at hl;omega];decide +kernel),zyK];unfold IQ;rw[Fc n8 hp.2.1,zyK,if_pos<|Er.mpr hp.2.2];rfl
  show xN n k (PD p::Ps.map PD) done=_;unfold xN;rw[e];show xN n _ _ _=_;rw[Np n8 Ps _ _ (λq mq=>ho q<|zzD _ mq) (by simpa using hn)<|by simp at hl ⊢;omega];simp
abbrev QG(a:Hd×Tl)(y:Str):List Str:=J (C5 a.1.1 a.1.2.1)::y::J (B7 a.1.2.2.2)::(a.2.1.map Kp++a.2.2.map PD)
def HM(h:GA a)(hy:Q1 a.1.1 y=some T):∃b,Ac (QG a y) = .inr b:=by
 obtain⟨⟨n,m,T0,e⟩,Ds,Ss⟩:=a;have n1:1<=n:=h.n1;have n8:n<=8:=h.n8;have m1:1<=m:=h.m1;have m6:m<=6:=h.m6;have hh:qI (QG ((n,m,T0,e),(Ds,Ss)) y) = .inr (n,m,T,e):=by
  show(PK<|J<|C5 n m).elim (Sum.inl 0) (λp=>hd2 p.1 p.2 (y::J (B7 e)::(Ds.map Kp++Ss.map PD)))=_;rw[mL n1 n8 m1 m6];show(Q1 n y).elim (Sum.inl 1) _=_;rw[show Q1 n y=some T from hy];show(G0 n<|J<|B7 e).elim (Sum.inl 2) (λe=>Sum.inr (n,m,T,e))=_;rw[pK n8 h.e0 h.e1];rfl
 have hd:=LH (n:=n) (m:=m) n1 n8 m1 (V':=Ss.map PD) (λX r e=>by
  cases Ss with
  |nil=>cases e
  |cons p t=>
   have:=(List.cons.inj e).1;rw[<-this];exact J3 n8 (h.sk p<|by simp).1 (h.sk p<|by simp).2.1) Ds [] 3 h.dk (by simpa using h.dn) (by have:=h.d6;simpa using this)
 have hs:=Np (n:=n) n8 Ss [] (3+([]++Ds).length) h.sk (by simpa using h.sn) (by have:=h.s4;simpa using this);refine⟨((n,m,T,e),(Ds,Ss)), ?_⟩;unfold Ac;rw[hh];unfold Oh qu;show(((xI n m 3 (Ds.map Kp++Ss.map PD) []).elim Sum.inl λq=>(xN n (3+q.1.length) q.2 []).elim .inl λss=>.inr (q.1,ss)).elim Sum.inl λt=>Sum.inr ((n,m,T,e),t))=_;rw[hd];show((xN n (3+([]++Ds).length) (Ss.map PD) []).elim Sum.inl λss=>Sum.inr ([]++Ds,ss)).elim Sum.inl (λt=>Sum.inr ((n,m,T,e),t))=_;rw[hs];rfl
def J_cons'(a)(h:ws≠[]):J (a::ws)=a++sb++J ws:=by
 cases ws with
 |nil=>exact absurd rfl h
 |cons b r=>rfl
def jR(hb:P 32)(h:∀w ∈ ws,Al P w):Al P (J ws):=Q4 (λc m=>by rwa [zzR.mp m]) ws h
def Ln(s:Str):Prop:=s.length<=200/\Al (λc=>c≠10) s
def Ln.cons{N:Nat}(h:ws≠[])(h1:a.length+1+N<=200)(ha:Al (λc=>c≠10) a)(h2:(J ws).length<=N)(h3:Al (λc=>c≠10) (J ws)):(J (a::ws)).length<=a.length+1+N/\Al (λc=>c≠10) (J (a::ws)):=by
 rw[J_cons' a h];refine⟨by rw[zT,zT,QZ];omega,T4 (T4 ha λc m=>?_) h3⟩;rw[zzR.mp m];decide
def Ib(hk:k<=8)(hn:n<=8)(h:WV k n T):(tT T).length<=144:=by
 have hr:∀r ∈ T,(rT r).length<=16:=λr mr=>by
  obtain⟨a,b⟩:=h.2 r mr;have:=vG sb (ps:=r.map tx) λp m=>by
   obtain⟨v,mv,rfl⟩:=zxB.mp m;have:=b v mv;rw[Dj ⋯ ⋯];exact zzN _
  rw[zzB,QZ]at this;unfold rT;omega
 have:=vG sc λp m=>by obtain⟨v,mv,rfl⟩:=zxB.mp m;exact hr v mv
 rw[zzB,uD]at this;have:=h.1;unfold tT;omega
def WC(hl:ws.length<=10)(h:∀w ∈ ws,w.length<=8/\Al (λc=>c≠10) w):Ln (J ws):=by
 have:(J ws).length<=ws.length*_:=vG sb λp m=>(h p m).1;rw[QZ]at this;exact⟨⋯,jR (by decide) λw m=>(h w m).2⟩
def M8(h0:0<=v)(h1:v<10):(tx v).length<=8/\Al (λc=>c≠10) (tx v):=⟨by rw[Dj h0 h1];decide,Oi h0 h1 λk a b=>⋯⟩
def Ky(w)(h:(decide (w.length<=8)&&w.cps.toList.all (λc=>decide (c≠10)))=true):w.length<=8/\Al (λc=>c≠10) w:=by
 rw[zyB]at h;exact⟨of_decide_eq_true h.1,λc m=>of_decide_eq_true<|List.all_eq_true.mp h.2 c m⟩
def Dt(h:yz s=true):s.length<=8/\Al (λc=>c≠10) s:=⟨VS h,L4 h λk a b=>⋯⟩
section
variable{a:Hd×Tl}(h:GA a)
def iH(h:GA a):Ln (J<|C5 a.1.1 a.1.2.1):=WC (by unfold C5;simp) λw hw=>by
 have n1:=h.n1;have n8:=h.n8;have m1:=h.m1;have m6:=h.m6;unfold C5 at hw;simp at hw
 rcases hw with rfl|rfl|rfl|rfl
 . exact Ky _ ⋯
 . exact M8 ⋯ ⋯
 . exact Ky _ ⋯
 . exact M8 ⋯ ⋯
def ln2(h:GA a):Ln (J<|B7 a.1.2.2.2):=WC (by unfold B7;simp) λw hw=>by
 have n8:=h.n8;have e0:=h.e0;have e1:=h.e1;unfold B7 at hw;simp at hw
 rcases hw with rfl|rfl
 . exact Ky _ ⋯
 . exact M8 ⋯ ⋯
theorem G6:∀(l:List Int) lo,(∀v ∈ l,lo<=v/\v<8)->l.Pairwise (· < ·)->lo<=8->(l.length:Int)<=8-lo
 | [],lo,_,_,h=>by simp;omega
 |x::r,lo,hv,hp,h=>by
  have hx:=hv x ⋯;have hp:=List.pairwise_cons.mp hp;have ih:=G6 r (x+1) (λv mv=>⟨by have:=hp.1 v mv;omega,(hv v<|zzD _ mv).2⟩) hp.2 ⋯;rw[zzT];omega
def Cp(h:GA a)(mp:p ∈ a.2.2):Ln (PD p):=by
 obtain⟨hp,hi,hs⟩:=h.sk p mp;have n8:=h.n8;have hl:p.2.length<=8:=by
  have:=G6 p.2 0 (λv mv=>by have:=hi v mv;omega) hs (by decide);omega
 refine WC (by unfold qQ;simp;omega) λw hw=>?_
 rcases zzC.mp hw with rfl|hw
 . exact Ky _ ⋯
 rcases zzC.mp hw with rfl|hw
 . exact Dt hp
 . obtain⟨v,mv,rfl⟩:=zxB.mp hw;have:=hi v mv;exact M8 ⋯ ⋯
def M7(hk:k<=8)(hn:n<=8)(hT:WV k n T):(J (("rows":Str)::Txt.split (tT T) sb)).length<=149/\Al (λc=>c≠10) (J (("rows":Str)::Txt.split (tT T) sb)):=by
 obtain⟨w1,w2,w3⟩:=sp _;have r4:("rows":Str).length=4:=⋯;have:=Ln.cons (a:="rows") (N:=144) w1 ⋯ (Ky _ ⋯).2 (by rw[<-w3];exact Ib hk hn hT) (by rw[<-w3];exact nM hn hT ⋯ (by decide) (by decide))
 rwa [r4]at this
def Og(h:GA a)(mp:p ∈ a.2.1):Ln (Kp p):=by
 obtain⟨hp,hT⟩:=h.dk p mp;have n8:=h.n8;have m6:=h.m6;obtain⟨r1,r2⟩:=M7 ⋯ n8 hT;have l1:=Dt hp;have c1:=Ln.cons (by simp) ⋯ l1.2 r1 r2;have d4:("deed":Str).length=4:=⋯;have c2:=Ln.cons (a:="deed") (by simp) ⋯ (Ky _ ⋯).2 c1.1 c1.2;exact⟨by show(J<|qG p).length<=200;unfold qG;omega,c2.2⟩
def iP(h:GA a):Ln (J<|Bm a.1.2.2.1):=by
 have n8:=h.n8;obtain⟨r1,r2⟩:=M7 n8 n8 h.tb;have d4:("join":Str).length=4:=⋯;have c2:=Ln.cons (a:="join") ⋯ ⋯ (Ky _ ⋯).2 r1 r2;exact⟨by unfold Bm;omega,c2.2⟩
def J9(h:GA a)(hy:Ln y)(hj:Q1 a.1.1 y=some T):(Str.join sn<|QG a y).length<=20000/\Txt.split (Str.join sn<|QG a y) sn=QG a y/\∃o,yn [(true,.str<|Str.join sn<|QG a y)]=sT (vQ o):=by
 have all:∀l ∈ QG a y,Ln l:=λl m=>by
  rcases zzC.mp m with rfl|m
  . exact iH h
  rcases zzC.mp m with rfl|m
  . exact hy
  rcases zzC.mp m with rfl|m
  . exact ln2 h
  rcases zzM.mp m with m|m
  . obtain⟨p,mp,rfl⟩:=zxB.mp m;exact Og h mp
  . obtain⟨p,mp,rfl⟩:=zxB.mp m;exact Cp h mp
 have hl:(QG a y).length<=13:=by have:=h.d6;have:=h.s4;simp;omega
 have ht:=vG sn λp m=>(all p m).1;rw[CD]at ht;have hlen:(Str.join sn<|QG a y).length<=20000:=by omega
 have hs:=Qi jy (by simp) λp m z=>(all p m).2 10 z rfl;obtain⟨b,hb⟩:=HM h hj;exact⟨hlen,hs,b,(KH ⋯).2 b<|by rwa [hs]⟩
end
def lJ(a b c:Str):a++b++c=a++(b++c):=Str.append_assoc a b c
def pE(n m:Int):("values ":Str)++tx n++(" around ":Str)++tx m=J (C5 n m):=by
 rw[show("values ":Str)="values"++sb by decide +kernel,show(" around ":Str)=sb++("around"++sb) by decide +kernel];show _=_++sb++(tx n++sb++(_++sb++tx m));simp only[lJ]
def nq(T:TZ):("join rows ":Str)++tT T=J (Bm T):=by
 obtain⟨w1,_,w3⟩:=sp _;unfold Bm;rw[J_cons' _ ⋯,J_cons' _ w1,<-w3,show("join rows ":Str)="join"++(sb++("rows"++sb)) by decide +kernel];simp only[lJ]
def nU(e):("nothing ":Str)++tx e=J (B7 e):=⋯
def pN(p:Dd):("deed ":Str)++p.1++(" rows ":Str)++tT p.2=Kp p:=by
 obtain⟨w1,_,w3⟩:=sp _;show _=J _;unfold qG;rw[J_cons' _ ⋯,J_cons' _ ⋯,J_cons' _ w1,<-w3,show("deed ":Str)="deed"++sb by decide +kernel,show(" rows ":Str)=sb++("rows"++sb) by decide +kernel];simp only[lJ]
def pL(p:Sd):Str.join sb ((("sign ":Str)++p.1)::p.2.map tx)=PD p:=by
 show J _=J _;unfold qQ;rw[show("sign ":Str)="sign"++sb by decide +kernel];cases hp:p.2.map tx with
 |nil=>rfl
 |cons b r=>
  rw[J_cons' _ ⋯,J_cons' "sign" ⋯,J_cons' p.1 ⋯];simp only[lJ]
abbrev qA(d1 d2 d3 d4 d5 d6 d0:D)(L:List Str)(e8 e9 e10:Option O):AS:=[sT d0,sT d1,sT d2,sT d3,sT d4,sT d5,sT d6,oW L,e8,e9,e10]
abbrev gv:SF:=nN
abbrev hU:SF:=nk
def E2(L)(w):(L.map D.str).map (O.lf true)++[O.lf true<|.str w]=((L++[w]).map D.str).map (O.lf true):=⋯
def DP(hk:k<=8)(hn:n<=8)(h:WV k n T):Ts T:=
 ⟨by have:=h.1;omega,λr mr=>⟨by have:=(h.2 r mr).1;omega,λv mv=>by
  have:=(h.2 r mr).2 v mv;omega⟩⟩
theorem Rc(n8:n<=8)(m6:m<=6):∀(ps:List Dd) L e8 e9 e10,(∀p ∈ ps,yz p.1=true/\WV m n p.2)->L.length+ps.length<=100->
 ∃e8' e9',forL (gT 2<|Yo (gN 8)<|Yo (gN 9) GH) gv ((ps.map yO).map λd=>(true,d)) (qA d1 d2 d3 d4 d5 d6 d0 L e8 e9 e10)=some (.nx<|qA d1 d2 d3 d4 d5 d6 d0 (L++ps.map Kp) e8' e9' e10)
 | [],L,e8,e9,e10,_,_=>⟨e8,e9,by rw[show L++List.map Kp []=L from zyD L];rfl⟩
 |p::ps,L,e8,e9,e10,ho,hl=>by
  have hp:=ho p (by simp);have hT:=DP (by omega) n8 hp.2;have tt:=Cr hT;have l5:("deed ":Str).length=5:=⋯;have l6:(" rows ":Str).length=6:=by decide +kernel
  have hz:=VS hp.1;obtain⟨e8',e9',ih⟩:=Rc n8 m6 ps (L++[Kp p]) _ _ e10 (λq mq=>ho q<|zzD _ mq) (by simp at hl ⊢;omega);have ap:=vZ (as:=qA d1 d2 d3 d4 d5 d6 d0 L _ _ e10) (i:=7) rfl (by rw[zzB,zzB];exact yI<|by omega) (Z9 (Z9 (Z9 (u:=("deed ":Str)) (v:=p.1) ce (ve (i:=8) rfl)<|by omega).e (ce (x:=.str (" rows ":Str)))<|by rw[zT];omega).e (vA (ve (i:=9) rfl)<|LJ hT).e<|by simp only[zT];omega);rw[pN,E2]at ap;refine⟨e8',e9', ?_⟩;refine zW rfl ap ?_
  rwa [show L++(p::ps).map Kp=L++[Kp p]++ps.map Kp by simp]
theorem UY(n8:n<=8):∀(ps:List Sd) L e8 e9 e10,(∀p ∈ ps,yz p.1=true/\BD n p.2)->L.length+ps.length<=100->
 ∃e8' e10',forL (gT 2<|Yo (gN 8)<|Yo (gN 10) GH) hU ((ps.map yB).map λd=>(true,d)) (qA d1 d2 d3 d4 d5 d6 d0 L e8 e9 e10)=some (.nx<|qA d1 d2 d3 d4 d5 d6 d0 (L++ps.map PD) e8' e9 e10')
 | [],L,e8,e9,e10,_,_=>⟨e8,e10,by rw[show L++List.map PD []=L from zyD L];rfl⟩
 |p::ps,L,e8,e9,e10,ho,hl=>by
  have hp:=ho p (by simp);have hlv:=G6 p.2 0 (λv mv=>by have:=hp.2.1 v mv;omega) hp.2.2 (by decide);have hv:Vs p.2:=⟨by omega,λv mv=>by have:=hp.2.1 v mv;have:=D3;omega⟩;have l5:("sign ":Str).length=5:=by decide +kernel
  have hz:=VS hp.1;obtain⟨e8',e10',ih⟩:=UY n8 ps (L++[PD p]) (sT<|.str p.1) e9 (sT<|zx p.2) (λq mq=>ho q<|zzD _ mq) (by simp at hl ⊢;omega);have e0:([.str<|("sign ":Str)++p.1]:List D)++(p.2.map λv=>D.str<|tx v)=(((("sign ":Str)++p.1)::p.2.map tx).map λs=>D.str s):=by
   rw[zyR,zyA];rfl
  have hc:WE nt (qA d1 d2 d3 d4 d5 d6 d0 L (sT<|.str p.1) e9<|sT<|zx p.2) (.lst<|((("sign ":Str)++p.1)::p.2.map tx).map λs=>D.str s):=by
   rw[<-e0];exact GZ (zZ (zi (Z9 ce (ve (i:=8) rfl)<|by omega) zI) (Ww rfl) rfl rfl) (LV hv<|ve (i:=10) rfl)<|PF.add_lists (by show 1+(p.2.map _).length<=sizeLine;rw[zzB];exact ZE<|by omega)
  have hj:=joinM (sep:=sb) (n:=60) hc (λs ms=>by
   rcases zzC.mp ms with rfl|ms
   . rw[zT];omega
   . obtain⟨v,mv,rfl⟩:=zxB.mp ms;exact wI (hv.2 v mv).1 (hv.2 v mv).2) (by rw[QZ];simp;omega)
  rw[List.map_id',pL]at hj;have ap:=vZ (i:=7) rfl (by rw[zzB,zzB];exact yI<|by simp at hl;omega) hj;rw[E2]at ap;refine⟨e8',e10', ?_⟩;refine zW rfl ap ?_;rw[show L++(p::ps).map PD=L++[PD p]++ps.map PD by simp];exact ih
def Cd(h:GA a):ZR [(true,vQ a)]=sN (((QG a<|J<|Bm a.1.2.2.1).map D.str).map<|O.lf true):=by
 obtain⟨⟨n,m,T,e⟩,Ds,Ss⟩:=a;have n1:1<=n:=h.n1;have n8:n<=8:=h.n8;have m1:1<=m:=h.m1;have m6:m<=6:=h.m6;have e0:0<=e:=h.e0;have e1:e<n:=h.e1;have d6:Ds.length<=6:=h.d6;have s4:Ss.length<=4:=h.s4;have hT:=DP n8 n8 h.tb;have l1:("values ":Str).length=7:=by decide +kernel
 have l2:(" around ":Str).length=8:=by decide +kernel
 have l3:("join rows ":Str).length=10:=by decide +kernel
 have l4:("nothing ":Str).length=8:=by decide +kernel
 have t60:=D3;have tn:=wI (v:=n) (by omega) (by omega);have tm:=wI (v:=m) (by omega) (by omega);have te:=wI (v:=e) (by omega) (by omega);have tt:=Cr hT;let A:AS:=[sT<|vQ ((n,m,T,e),(Ds,Ss)),sT<|.int n,sT<|.int m,sT<|.lst<|T.map zx,sT<|.int e,sT<|.lst<|Ds.map yO,sT<|.lst<|Ss.map yB,none,none,none,none];let L3:List Str:=[J<|C5 n m,J<|Bm T,J<|B7 e];obtain⟨a8,a9,f1⟩:=Rc (d0:=vQ ((n,m,T,e),(Ds,Ss))) (d1:=.int n) (d2:=.int m) (d3:=.lst<|T.map zx) (d4:=.int e) (d5:=.lst<|Ds.map yO) (d6:=.lst<|Ss.map yB) n8 m6 Ds L3 none none none h.dk (by show 3+_<=100;omega);obtain⟨b8,b10,f2⟩:=UY (d0:=vQ ((n,m,T,e),(Ds,Ss))) (d1:=.int n) (d2:=.int m) (d3:=.lst<|T.map zx) (d4:=.int e) (d5:=.lst<|Ds.map yO) (d6:=.lst<|Ss.map yB) n8 Ss (L3++Ds.map Kp) a8 a9 none h.sk (by rw[zzJ,zzB];show 3+_+_<=100;omega);have eo:L3++Ds.map Kp++Ss.map PD=QG ((n,m,T,e),(Ds,Ss)) (J<|Bm T):=by simp[L3,QG]
 rw[eo]at f2;have w0:=Z9 (Z9 (Z9 (as:=A) (ce (x:=.str ("values ":Str))) (Ae (v:=n) (ve (i:=1) rfl) (by omega)<|by omega).e<|by omega).e (ce (x:=.str (" around ":Str)))<|by rw[zT];omega).e (Ae (v:=m) (ve (i:=2) rfl) (by omega)<|by omega).e (by simp only[zT];omega);have w1:=Z9 (as:=A) (ce (x:=.str ("join rows ":Str))) (vA (ve (i:=3) rfl)<|LJ hT).e (by omega);have w2:=Z9 (as:=A) (ce (x:=.str ("nothing ":Str))) (Ae (v:=e) (ve (i:=4) rfl) e0<|by omega).e (by omega);rw[pE]at w0;rw[nq]at w1;rw[nU]at w2;exact zG rfl<|zd (GU (o:=.lf true<|vQ ((n,m,T,e),(Ds,Ss))) (zb rfl) rfl)
  (zd (y6 (i:=7) (vB (zi w0<|zi w1<|zi w2 zI)<|Ww rfl)<|zh rfl)
  (zd (wk (D8<|zb (i:=5) rfl) f1)
  (zd (wk (D8<|zb (i:=6) rfl) f2)
  (Vo (i:=7) rfl<|v8 _))))
def j_(h:ws≠[]):("join ":Str)++J ws=J (("join":Str)::ws):=by
 rw[J_cons' _ h,show("join ":Str)="join"++sb by decide +kernel]
noncomputable abbrev w4:List Str:=["add a b","most a b","same b 0 a b","times a add b 12"]
def qT{k:Nat}(hk:k<w4.length):∃T,Ln (("join ":Str)++w4[k])/\Q1 n (("join ":Str)++w4[k])=some T:=by
 have key:∀w ws t,w=J ws->ws≠[]->ws.length<=9->(∀v ∈ ws,(decide _&&v.cps.toList.all (λc=>decide (c≠10)&&decide (c≠32)))=true)->ws.headD ""≠"rows"->t.ok "b"->t.ht<=13->t.cnt<=40->J ws=S t->∃T,Ln (_++w)/\Q1 n (_++w)=some T:=λw ws t e h1 h2 h3 h4 h5 h6 h7 h8=>by
  have h3':∀v ∈ ws,v.length<=8/\Al _ v/\NB v:=λv m=>by
   have:=h3 v m;rw[zyB]at this;have a:=λc mc=>List.all_eq_true.mp this.2 c mc;refine⟨of_decide_eq_true this.1,λc mc=>?_,λmc=>?_⟩
   . have:=a c mc;rw[zyB]at this;exact of_decide_eq_true this.1
   . have:=a 32 mc;rw[zyB]at this;exact absurd rfl<|of_decide_eq_true this.2
  obtain⟨T,hT⟩:=J7 h1 (λv m=>(h3' v m).2.2) h4 ⟨t,h5,h6,h7,h8⟩;refine⟨T, ?_, ?_⟩
  . rw[e,j_ h1];exact WC (by simp;omega) λv m=>by
     rcases zzC.mp m with rfl|m
     . exact Ky _ ⋯
     . exact⟨(h3' v m).1,(h3' v m).2.1⟩
  . rwa [e,j_ h1]
 have hk:k<4:=hk
 rcases(show k=0\/k=1\/k=2\/k=3 by omega)with rfl|rfl|rfl|rfl
 . exact key "add a b" ["add","a","b"] (.op "add" (.nam "a")<|.nam "b") ⋯ (by simp) (by simp) ⋯ ⋯ ⟨.inl rfl,.inl rfl,.inr rfl⟩ (by decide) (by decide) ⋯
 . exact key "most a b" ["most","a","b"] (.op "most" (.nam "a")<|.nam "b") ⋯ (by simp) (by simp) ⋯ ⋯ ⟨.inr ⋯,.inl rfl,.inr rfl⟩ (by decide) (by decide) ⋯
 . exact key "same b 0 a b" ["same","b","0","a","b"] (.sm (.nam "b") (.num 0) (.nam "a")<|.nam "b") ⋯ (by simp) (by simp) ⋯ ⋯ ⟨.inr rfl,⟨by decide,by decide⟩,.inl rfl,.inr rfl⟩ (by decide) (by decide) ⋯
 . exact key "times a add b 12" ["times","a","add","b","12"] (.op "times" (.nam "a")<|.op "add" (.nam "b")<|.num 12) ⋯ (by simp) (by simp) ⋯ ⋯ ⟨.inr ⋯,.inl rfl,.inl rfl,.inr rfl,⟨by decide,by decide⟩⟩ (by decide) (by decide) ⋯
abbrev qw(S a:D)(L:List Str)(e3:Option O):AS:=[sT S,sT a,oW L,e3,none,none,none,none,none,none,none]
abbrev c0:EF:=zf (aC zo<|aC z6 aN) ym
abbrev jS:SF:=ze (zm true 3<|f2 (f2 c0 yJ zX) VC zR)
 (Uz 2 (xC 1) mS)
def l_(ns)(lo hi):∃xs:List Int,Yq (zx ns) lo hi=some (.fl<|xs.map .int)/\xs.length<=ns.length:=by
 refine⟨(ns.drop<|HT.sIx ns.length 0 lo).take<|HT.sIx ns.length ns.length hi-HT.sIx ns.length 0 lo, ?_, ?_⟩
 . show some _=_;unfold PF.cutD;rw[zzB,List.map_take,List.map_drop]
 . rw[zzS,List.length_drop];omega
def Hj(ns:List Int)(hn:ns.length<=63):Tn [(true,.lst<|ns.map .int)]=sT (.bl true):=by
 obtain⟨a,ga,ha⟩:=uj (ns:=ns);have hl:=Cd ga;obtain⟨c,hc⟩:=PX (ns:=ns) (j:=0) (by decide);obtain⟨c3,hc3⟩:=PX (ns:=ns) (j:=3) (by decide);obtain⟨c4,hc4⟩:=PX (ns:=ns) (j:=4) (by decide);have s1:=yZ (p:=1) (as:=ya 11 [(true,zx ns)]) (UC (ve (i:=0) rfl) ha)<|zh rfl;have s2:zm false 2 (zf Zb ZR) [sT<|zx ns,sT<|vQ a,none,none,none,none,none,none,none,none,none]=some (.nx<|qw (zx ns) (vQ a) (QG a<|J<|Bm a.1.2.2.1) none):=
  y6 (i:=2) (Ra (xs:=[(true,vQ a)]) rfl rfl hl) (zh rfl)
 have s3:∃(y:Str) (e3:Option O) (T:TZ),Ln y/\Q1 a.1.1 y=some T/\yN (fT<|f2 (f2 c0 yJ zR) zD<|zj .Eq) jS xf (qw (zx ns) (vQ a) (QG a<|J<|Bm a.1.2.2.1) none)=some (.nx<|qw (zx ns) (vQ a) (QG a y) e3):=by
  let A:=qw (zx ns) (vQ a) (QG a<|J<|Bm a.1.2.2.1) none;have w0:WD c0 A true (.int c):=yt (ve (i:=0) rfl) ce hc;have t:WT (fT<|f2 (f2 c0 yJ zR) zD<|zj .Eq) A (c%2==1):=zg (xU (q:=(c%2==1)) (yh w0 za<|by decide).e ce rfl) rfl;cases hq:(c%2==1)with
  |false=>
   rw[hq]at t;exact⟨J<|Bm a.1.2.2.1,none,a.1.2.2.1,iP ga,J5 ga.n1 ga.n8 ga.tb,zr t rfl⟩
  |true=>
   rw[hq]at t;obtain⟨k,hk,i6⟩:=x9 (c/2) 4 (by decide);have hk3:k<w4.length:=by show k<4;omega
   obtain⟨T,hy,hj⟩:=qT (n:=a.1.1) hk3;have v3:=yh (YK w0 (za (x:=.int 2)) (by decide)<|by decide) (za (x:=.int 4)) (by decide);rw[hk]at v3;have u3:=zw (st:=true) (i:=3) v3<|zh rfl;let A3:=qw (zx ns) (vQ a) (QG a<|J<|Bm a.1.2.2.1)<|sT<|.int k;have hw:WD _ A3 true (.str w4[k]):=
    Zu ⋯ (ve (i:=3) rfl) (nC hk3)
   have hwl:=(show ∀w ∈ w4,w.length<=20 by decide +kernel) _<|zyX hk3;have hj5:("join ":Str).length=5:=by decide +kernel
   have u2:=nZ (as:=A3) (i:=2) (f:=xC 1) (k:=1) rfl (Z9 (ce (x:=.str ("join ":Str))) hw.e<|by omega) rfl (by simp);exact⟨("join ":Str)++w4[k],sT<|.int k,T,hy,hj,(yp t rfl).trans<|zd u3 u2⟩
 obtain⟨y,e3,T,hy,hj,s3⟩:=s3;obtain⟨htl,hts,o,hro⟩:=J9 ga hy hj;have hcost:cost (QG a y)<=1000000:=by
  have all:∀l ∈ QG a y,l.length<=200:=λl m=>by
   rcases zzC.mp m with rfl|m
   . exact(iH ga).1
   rcases zzC.mp m with rfl|m
   . exact hy.1
   rcases zzC.mp m with rfl|m
   . exact(ln2 ga).1
   rcases zzM.mp m with m|m
   . obtain⟨p,mp,rfl⟩:=zxB.mp m;exact(Og ga mp).1
   . obtain⟨p,mp,rfl⟩:=zxB.mp m;exact(Cp ga mp).1
  have hl:(QG a y).length<=13:=by have:=ga.d6;have:=ga.s4;simp;omega
  have:=N2 all;unfold cost;omega
 have s4:=zw (st:=true) (i:=4) (as:=qw (zx ns) (vQ a) (QG a y) e3) (DB (sep:=sn) (i:=2) (ws:=QG a y) CD rfl hcost)<|zh rfl;generalize hTx:Str.join sn (QG a y)=X at htl hts hro s4;have s5:=zw (st:=true) (i:=5) (as:=[sT<|zx ns,sT<|vQ a,oW<|QG a y,e3,sT<|.str X,none,none,none,none,none,none]) (vA (ve (i:=4) rfl) hro)<|zh rfl;let A5':AS:=LL (sT<|zx ns) (sT<|vQ a) (oW<|QG a y) e3 X (sT<|vQ o) none none none none none;obtain⟨cs,q1,q2⟩:=l_ ns (some 5)<|some 33;have hcells:WE pF A5' (zx<|[c3,c4]++cs):=by
  have h1:WE _ A5' (zx [c3,c4]):=zZ (zi (yt (ve (i:=0) rfl) ce hc3)<|zi (yt (ve (i:=0) rfl) ce hc4) zI) (Ww rfl) rfl rfl;have:=GZ h1 (wA (fl:=oS MR) (fh:=oS<|fC<|.int 33) (ve (i:=0) rfl) rfl rfl q1)<|PF.add_lists<|ZE (by rw[zzB,zzB];show 2+cs.length<=1000000;omega)
  rwa [<-zyL]at this
 have hi:=O_ hcells;rw[zyA]at hi;obtain⟨f6,f7,f8,f9,gZ,run⟩:=Pm (s2:=oW<|QG a y) (s3:=e3) (T:=X) (λx h0 _=>NO htl h0) ([c3,c4]++cs) none none none none none;exact zG rfl<|zd s1<|zd s2<|zd s3<|zd s4<|zd s5<|zd (wk hi run)<|zN<|xU (vA (ve (i:=4) rfl) hro).e (ve (i:=5) rfl)<|Ic o
end G17
end
open PySem PySem.W PyProof.Rows
set_option maxRecDepth 100000 in
set_option maxHeartbeats 0 in
theorem PySem.Challenge.cw_stretchdeeds_k17_no_algebras_holds : PySem.Challenge.rw_stretchdeeds_k17_no_algebras.Holds := by
 w_on;refine holds_law G17.wsS λsaid=>?_
 refine holds_open (q:=G17.qv) (loose:=["PARTS"]) (Xt:=G17.Xt) (XP:=XL G17.qv []) (Yf:=Hook.obs<|kHook G17.K G17.kA G17.kAe) (Ya:=Hook.val<|kHook G17.K G17.kA G17.kAe) (YP:=Hook.says<|kHook G17.K G17.kA G17.kAe) (N:=8000) G17.hl (Hook.of<|kHook G17.K G17.kA G17.kAe) (Hook.keeps<|kHook G17.K G17.kA G17.kAe) (λs e=>xl_of s (Bool.and_eq_true_iff.mp e).1) XL.keeps (by rfl) (by rfl) (by rfl) (λs e=>recFacts_of (Bool.and_eq_true_iff.mp e).2) (by rfl) (by first|assumption|decide +kernel) (by decide +kernel) ⟨rfl,rfl,rfl,rfl,rfl,by decide +kernel⟩ ?hw ?hc
 (case hw=>w_witness2)
 k_fill
 refine G17.walk (l:=PySem.Challenge.rw_stretchdeeds_k17_no_algebras) rfl rfl (λw h Y=>W.kIn_of Y) G17.Hj ?F
 case F=>
  intro w mg fa h KX G hmg;have e:=PF.YN KX G (x:="PARTS") (by k_is);refine G17.tP (kd:=PF.kdL [(PF.Xn mg "PARTS",G17.kvs)]<|PF.Xn mg) h hmg λbase=>?_;rw[e];constructor
  all_goals first|exact W.mg_none_of KX G (by k_is)|exact PF.ny KX G (by k_is)|exact PF.nz KX G (by k_is) ⟨_,⟨_,_,_,_,_,_,_,_,_,rfl,by k_is,by k_is⟩,by k_is⟩|exact PF.GC.int (W.mg_of KX G<|by k_is)|exact PF.GC.str (W.mg_of KX G<|by k_is)|exact PF.kd1 (by k_is) (by repeat (first|exact .nil|refine .str ⟨_,rfl⟩ ?_)) (by decide +kernel) (by decide) (by k_is)|exact PF.GC.dct (W.mg_of KX G<|by k_is) PF.pU (λ_ _=>by repeat (first|exact .nil|refine .cons (.int _) ?_))|exact PF.GC.tup (W.mg_of KX G<|by k_is) (by k_is) (by decide) (by repeat (first|exact .nil|refine .cons ⟨_,rfl⟩ ?_)) (λ_ _=>by repeat (first|exact .nil|refine .cons (.str _) ?_))|skip
  show PF.XQ _ (PF.Xn mg _) (PF.Xn mg _) [PF.Xn mg _,PF.Xn mg _,PF.Xn mg _,PF.Xn mg _,PF.Xn mg _,PF.Xn mg _,PF.Xn mg _,PF.Xn mg _] _;rw[PF.YN KX G (x:="NoText") (by k_is),PF.YN KX G (x:="StretchError") (by k_is),PF.YN KX G (x:="NoDeed") (by k_is),PF.YN KX G (x:="NoMake") (by k_is),PF.YN KX G (x:="NoRow") (by k_is),PF.YN KX G (x:="NoSign") (by k_is),PF.YN KX G (x:="NoStretch") (by k_is),PF.YN KX G (x:="NotLetBy") (by k_is),PF.YN KX G (x:="NoValue") (by k_is),PF.YN KX G (x:="TooGreat")<|by k_is];constructor
  case FC => exact PF.GC.tup (vs:=[.str "a",.str "b",.str "c"]) (W.mg_of KX G<|by k_is) (by k_is) (by decide) (by repeat (first|exact .nil|refine .cons ⟨_,rfl⟩ ?_)) (λ_ _=>by repeat (first|exact .nil|refine .cons (.str _) ?_))
  case X.y => exact⟨_,_,⟨⟨_,_,_,_,_,_,_,_,_,_,_,_,_,_,rfl⟩,by first|k_is|kernel_rfl,by first|k_is|kernel_rfl,by first|k_is|kernel_rfl,by first|k_is|kernel_rfl,by first|k_is|kernel_rfl⟩,⟨⟨_,_,_,_,_,_,_,_,_,rfl,by k_is,by k_is⟩,by k_is⟩⟩
  all_goals try (constructor<;>first|k_is|kernel_rfl)
  all_goals try first|k_is|kernel_rfl
  all_goals exact PF.kd1 (by k_is) (by repeat (first|exact .nil|refine .str ⟨_,rfl⟩ ?_)) (by decide +kernel) (by decide) (by decide)
#print axioms PySem.Challenge.cw_stretchdeeds_k17_no_algebras_holds
