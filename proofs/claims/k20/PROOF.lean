import PyProof.Rows.All
import Wide.All
import OpenK.AllK
import Wide.FinOn
import PyProof.EqAt
import PyProof.EqKinds
import PyProof.TupleCall
import PyProof.NeKinds
import PyProof.AutoSeq1
import KE.LcSums
import PyProof.Rows.StrWeight2
import PyProof.StrBlockG
import KE.KIntText
import PyProof.CallStr
import PyProof.WalksEnum
import PyProof.Rows.EnumRows
import PyProof.Rows.FactsT2
import KE.KRevIter
import PyProof.StrWalks
import PyProof.ReprRoads
import PyProof.StrLawsTight
import PyProof.Rows.StrItems
import PyProof.Rows.ReprOcc
import PyProof.Rows.StrJoinMade
import PyProof.ReprLen
import PyProof.ZipIter
import PyProof.Rows.SortWalk
import PyProof.ListRange
import PyProof.AttrMissHeap
import PyProof.Rows.SumAny
import Lean
import PySem.Challenge.RW_stretchdeeds_k20_ways_of_algebras
set_option Elab.async false
set_option linter.all false
set_option maxRecDepth 100000
abbrev zC:=PySem.W.Frag
abbrev zD:=@List.length_map
abbrev zS:=@List.mem_cons
abbrev zzA:=@List.mem_cons_of_mem
abbrev zzB:=@List.getElem?_eq_getElem
abbrev zzC:=@List.mem_cons_self
abbrev zzD:=@List.getElem?_eq_some_iff
abbrev zzE:=@List.size_toArray
abbrev zzF:=@List.getElem?_map
abbrev zzG:=@List.length_append
abbrev zzH:=@Nat.lt_of_lt_of_le
abbrev zzI:=@List.mem_append_right
abbrev zzJ:=@List.mem_append
abbrev zzK:=@Nat.le_refl
abbrev zzL:=@Nat.le_trans
abbrev zzM:=@List.mem_append_left
abbrev zzN:=@Nat.ne_of_lt
abbrev zzO:=@List.mem_singleton
abbrev zzP:=@List.length_take
abbrev zzQ:=@List.length_cons
abbrev zzR:=@List.length_set
abbrev zzS:=@Int.natCast_mul
abbrev zzT:=@List.nodup_cons
abbrev zzU:=@Option.map_eq_some_iff
abbrev zzV:=@List.getElem?_set_ne
abbrev zzW:=@Option.some.inj
abbrev zzX:=@List.mem_of_getElem?
abbrev zzY:=@List.map_map
abbrev zzZ:=@Bool.and_eq_true
abbrev zyA:=@Bool.or_true
abbrev zyB:=@List.append_nil
abbrev zyC:=@List.getD_eq_getElem?_getD
abbrev zyD:=@decide_eq_false
abbrev zyE:=@Int.emod_lt_of_pos
abbrev zyF:=@Int.toNat_natCast
abbrev zyG:=@List.nodup_nil
abbrev zyH:=@List.getElem?_set_self
abbrev zyI:=@Option.bind_some
abbrev zyJ:=@List.map_append
abbrev zyK:=@Int.emod_nonneg
abbrev zyL:=@decide_eq_true
abbrev zyM:=@List.getElem?_append_left
abbrev zyN:=@List.drop_eq_getElem_cons
abbrev zyO:=@List.getElem?_append_right
abbrev zyP:=@List.map_cons
abbrev zyQ:=@Array.length_toList
abbrev zyR:=@List.length_range
abbrev zyT:=@Bool.false_ne_true
abbrev zyU:=@Nat.le_succ
abbrev zyV:=@Nat.zero_add
abbrev zyW:=@Int.toNat_of_nonneg
abbrev zyX:=@List.getElem_mem
abbrev zyY:=@Nat.lt_succ_of_lt
abbrev zyZ:=@List.not_mem_nil
abbrev zxA:=@List.append_assoc
abbrev zxB:=@List.mem_map
abbrev zxC:=@List.nodup_append
abbrev zxD:=@PySem.wpAny_bind
abbrev zxE:=@PySem.wpAny_pure
abbrev zxF:=@PySem.Heap.get?_push_of_some
abbrev zxG:=@PySem.Heap.lt_size
abbrev zxH:=@PySem.Heap.get?_push_size
abbrev zxI:=@PySem.wpAny_newObj_type
abbrev zxJ:=@PySem.Around.under_plainId
abbrev zxK:=@PySem.wpAny_holding
abbrev zxM:=@PySem.codeAny_builtin
abbrev zxO:=@PySem.Heap.size_push
abbrev zxQ:=@PySem.wpAny_mono
section
namespace L2
open PySem PySem.Spec PyProof.Rows
abbrev Key:=Sum Int Str
def zgX:Key->Value->Bool
 | .inl k,v=>Value.isInt k v
 | .inr x,v=>Value.isStrOf x v
def zuK(w:World):Key->Int
 | .inl k=>hashInt k
 | .inr x=>hashStr w x
theorem xN:∀{k:Key}{v:Value},zgX k v=true->(∃i t,k=Sum.inl i/\v=Value.int i t)\/(∃x t,k=Sum.inr x/\v=Value.str x t)
 | .inl i,v,h=>by
  obtain⟨t,e⟩:=Value.isInt_shape (k:=i) (v:=v) h
  exact .inl ⟨i,t,rfl,e⟩
 | .inr x,v,h=>by
  obtain⟨t,e⟩:=Value.isStrOf_shape (x:=x) (v:=v) h
  exact .inr ⟨x,t,rfl,e⟩
theorem zlH(i:Int)(t:Tok):zgX (.inl i) (.int i t)=true:=by simp[zgX,Value.isInt]
theorem zmi(x:Str)(t:Tok):zgX (.inr x) (.str x t)=true:=by simp[zgX,Value.isStrOf]
theorem zsV(a b:Int):decide ((Sum.inl a:Key)=Sum.inl b)=(a==b):=by
 by_cases e:a=b
 · subst e;simp
 · have h:¬(Sum.inl a:Key)=Sum.inl b:=λq=>e (Sum.inl.inj q)
   rw[zyD h]
   exact(beq_eq_false_iff_ne.mpr e).symm
theorem zsK(a b:Str):decide ((Sum.inr a:Key)=Sum.inr b)=decide (a=b):=by
 by_cases e:a=b
 · subst e;simp
 · have h:¬(Sum.inr a:Key)=Sum.inr b:=λq=>e (Sum.inr.inj q)
   rw[zyD h,zyD e]
theorem zsc(a:Int)(b:Str):decide ((Sum.inl a:Key)=Sum.inr b)=false:=zyD (λq=>nomatch q)
theorem ztb(a:Str)(b:Int):decide ((Sum.inr a:Key)=Sum.inl b)=false:=zyD (λq=>nomatch q)
def wN(prog:Program)(w:World):PySem.KeyKind prog w Key where
 is:=zgX
 hash:=zuK w
 inj:=λv a b ha hb=>by
  rcases xN ha with⟨i,t,rfl,rfl⟩|⟨x,t,rfl,rfl⟩
  · rcases xN hb with⟨j,u,rfl,e⟩|⟨y,u,rfl,e⟩
    · injection e with e1 _;rw[e1]
    · exact nomatch e
  · rcases xN hb with⟨j,u,rfl,e⟩|⟨y,u,rfl,e⟩
    · exact nomatch e
    · injection e with e1 _;rw[e1]
 byValue:=λk v h=>by
  rcases xN h with⟨i,t,rfl,rfl⟩|⟨x,t,rfl,rfl⟩<;>rfl
 pyHash:=λhv h=>by
  rcases xN hv with⟨i,t,rfl,rfl⟩|⟨x,t,rfl,rfl⟩
  · exact wpAny_pyHash_int h
  · exact wpAny_pyHash_str h
 eqBool:=λhu hv h=>by
  rcases xN hu with⟨i,t,rfl,rfl⟩|⟨x,t,rfl,rfl⟩
  · rcases xN hv with⟨j,u,rfl,rfl⟩|⟨y,u,rfl,rfl⟩
    · rw[zsV]at h;exact wpAny_eqBool_int h
    · rw[zsc]at h;exact SeqAt.EqAt.int_str i t y u _ _ _ _ h
  · rcases xN hv with⟨j,u,rfl,rfl⟩|⟨y,u,rfl,rfl⟩
    · rw[ztb]at h;exact SeqAt.EqAt.str_int x t j u _ _ _ _ h
    · rw[zsK]at h;exact wpAny_eqBool_str h
 «strs» := λk x t v h=>by
  rcases xN h with⟨i,u,rfl,e⟩|⟨y,u,rfl,e⟩
  · exact nomatch e
  · injection e with e1 _
    subst e1
    cases v<;>rfl
theorem zjy(prog:Program)(w:World)(i:Int)(t:Tok):(wN prog w).is (.inl i) (.int i t)=true:=zlH i t
theorem zaL(prog:Program)(w:World)(x:Str)(t:Tok):(wN prog w).is (.inr x) (.str x t)=true:=zmi x t
end L2
namespace L2
open PySem PySem.Spec PyProof.Rows
inductive V where
 |non|bl (b:Bool)|int (i:Int)|str (x:Str)|byt (b:Array UInt8)|flt (b:UInt64)|ref (a:Addr)|ty (n:String)
 deriving DecidableEq
def RelV:V->Value->Prop
 | .non,u=>u=Value.none
 | .bl b,u=>u=Value.bool b
 | .int i,u=>∃t,u=Value.int i t
 | .str x,u=>∃t,u=Value.str x t
 | .byt b,u=>∃t,u=Value.bytes b t
 | .flt b,u=>∃t,u=Value.float b t
 | .ref a,u=>u=Value.ref a
 | .ty n,u=>u=Value.type n
abbrev Vals:List V->List Value->Prop:=Paired RelV
theorem Vals.length(r:Vals xs us):xs.length=us.length:=Paired.length r
theorem Vals.get:∀{xs:List V}{us:List Value}{i:Nat}{x:V},Vals xs us->xs[i]? = some x->∃u,us[i]? = some u/\RelV x u
 |_,_,_,_,.nil,e=>by simp at e
 |_,_,0,_,.cons r _,e=>by simp at e;subst e;exact⟨_,rfl,r⟩
 |_,_,i+1,x,.cons _ t,e=>by
  obtain⟨u,h1,h2⟩:=Vals.get (i:=i) (x:=x) t (by simpa using e)
  exact⟨u,by simpa using h1,h2⟩
theorem Vals.set(r:RelV x u):∀{xs:List V}{us:List Value}(i:Nat),Vals xs us->Vals (xs.set i x) (us.set i u)
 |_,_,_,.nil=>.nil
 |_,_,0,.cons _ t=>.cons r t
 |_,_,i+1,.cons q t=>.cons q (Vals.set r i t)
theorem Vals.append:∀{xs ys:List V}{us ws:List Value},Vals xs us->Vals ys ws->Vals (xs++ys) (us++ws)
 |_,_,_,_,.nil,s=>s
 |_,_,_,_,.cons r t,s=>.cons r (Vals.append t s)
theorem Vals.take:∀{xs:List V}{us:List Value}(n:Nat),Vals xs us->Vals (xs.take n) (us.take n)
 |_,_,0,_=>.nil
 |_,_,_+1,.nil=>.nil
 |_,_,n+1,.cons r t=>.cons r (Vals.take n t)
theorem Vals.drop:∀{xs:List V}{us:List Value}(n:Nat),Vals xs us->Vals (xs.drop n) (us.drop n)
 |_,_,0,r=>r
 |_,_,_+1,.nil=>.nil
 |_,_,n+1,.cons _ t=>Vals.drop n t
def zcc:Option V->Option Value->Prop
 |some v,some u=>RelV v u
 |none,none=>True
 |_,_=>False
def KV{κ:Type}:List (κ×V)->List (κ×Value)->Prop:=Paired λ(p:κ×V) (q:κ×Value)=>p.1=q.1/\RelV p.2 q.2
def kV:Key->V
 | .inl i=>.int i
 | .inr x=>.str x
inductive HO where
 |lst (xs:List V)
 |tup (xs:List V)
 |dK (kvs:List (Key×V))|dT (kvs:List (List Key×V))
 |set (S:Int->Bool) (n:Nat)
 |ins (C dx:Addr) (fs:List (Str×V))
 |own (x:Addr)
 |xd (fs:List (Str×V))
 |met (f x:Addr)
 |rng (lo hi:Int)
 |frz (o:Obj) (u:HO)
 |tbl (ps:Array Value)
 |ext (φ:Heap->Prop)
abbrev Hp:=Addr->Option HO
def upd(H:Hp)(a:Addr)(o:HO):Hp:=λb=>if b=a then some o else H b
theorem yf:upd H a o a=some o:=by unfold upd;rw[if_pos rfl]
theorem zW(h:b≠a):upd H a o b=H b:=by unfold upd;rw[if_neg h]
theorem yG{H:Hp}{a b:Addr}{o:HO}(h:H a=some o)(h':H b=none):a≠b:=by
 intro e;subst e;rw[h]at h';cases h'
section
variable(P:Program)(w:World)
def wV(H:Hp)(h:Heap)(a:Addr):HO->Prop
 | .lst xs=>xs.length<=sizeLine/\∃(its:List Value) (n:Nat),Vals xs its/\h.get? a=some {cls:=.type "list",data:=.seq its.toArray n}
 | .tup xs=>xs.length<=sizeLine/\∃its:List Value,Vals xs its/\IsTup h a its.toArray
 | .dK kvs=>kvs.length<=sizeLine/\(a==sysModules)=false/\∃vs,KV kvs vs/\h.DictOf (wN P w) a vs
 | .dT kvs=>kvs.length<=sizeLine/\(a==sysModules)=false/\∃xs:List (List Key×Addr×Value),
  Paired (λ(p:List Key×V) (q:List Key×Addr×Value)=>p.1=q.1/\H q.2.1=some (.tup (p.1.map kV))/\RelV p.2 q.2.2) kvs xs/\
  ∃o es ep,h.get? a=some o/\o.ExactDict/\o.data = .dict es ep/\es.toList=xs.map (entryOfKey (tupleKind (wN P w)))/\(xs.map (·.1)).Nodup
 | .set S n=>h.SetOf (intKind P w) a S n
 | .ins C dx fs=>H dx=some (.own a)/\fs.length<=1000/\dx≠a/\h.get? a=some (PySem.W.instObj C dx)/\
  ∃mA,h.Ns1 dx mA/\(∀f,zcc (fs.lookup f) (mA f))/\PySem.Within mA (fs.map (·.1))
 | .own _=>∃o,h.get? a=some o
 | .xd fs=>∃mA,h.Ns1 a mA/\∀f,zcc (fs.lookup f) (mA f)
 | .rng lo hi=>∃t u v,h.get? a=some {cls:=.type "range",data:=.fields #[.int lo t,.int hi u,.int 1 v]}
 | .frz o u=>h.get? a=some o/\wV H h a u
 | .tbl ps=>h.get? a=some {cls:=.none,data:=.fields ps}
 | .met f x=>h.get? a=some (PySem.W.methodObj (.ref f) (.ref x))
 | .ext φ=>φ h/\(∃o,h.get? a=some o)/\∀h1 h2:Heap,φ h1->(∀o,h1.get? a=some o->h2.get? a=some o)->φ h2
def HOk(H:Hp)(h:Heap):Prop:=∀a o,H a=some o->wV P w H h a o
end
section
variable{P:Program}{w:World}{H H':Hp}{h h':Heap}{a:Addr}{o:HO}
theorem wV.lt(x:wV P w H h a o):a<h.objs.size:=by
 cases o with
 |lst xs=>obtain⟨_,_,_,_,e⟩:=x;exact zxG e
 |tup xs=>obtain⟨_,_,_,p⟩:=x;exact p.lt
 |dK kvs=>obtain⟨_,_,_,_,o,_,_,e,_⟩:=x;exact zxG e
 |dT kvs=>obtain⟨_,_,_,_,o,_,_,e,_⟩:=x;exact zxG e
 |set S n=>obtain⟨o,_,_,_,e,_⟩:=x;exact zxG e
 |ins C dx fs=>obtain⟨_,_,_,e,_⟩:=x;exact zxG e
 |own y=>obtain⟨_,e⟩:=x;exact zxG e
 |xd fs=>obtain⟨_,⟨_,_,_,e,_⟩,_⟩:=x;exact zxG e
 |rng lo hi=>obtain⟨_,_,_,e⟩:=x;exact zxG e
 |frz ob u=>obtain⟨e,_⟩:=x;exact zxG e
 |tbl ps=>exact zxG (show h.get? a=some _ from x)
 |met f y=>exact zxG (show h.get? a=some _ from x)
 |ext φ=>obtain⟨_,⟨_,e⟩,_⟩:=x;exact zxG e
theorem Paired.mapP:∀{l₁:List α}{l₂:List β},Paired F l₁ l₂->(∀a b,F a b->G a b)->Paired G l₁ l₂
 |_,_,.nil,_=>.nil
 |_,_,.cons r t,f=>.cons (f _ _ r) (Paired.mapP t f)
theorem wV.stay(x:wV P w H h a o)(k:∀b u,(b=a\/H b=some (.own a))->h.get? b=some u->h'.get? b=some u)
 (ho:∀b,H b=some (.own a)->H' b=some (.own a)) (ht:∀b xs,H b=some (.tup xs)->H' b=some (.tup xs)):wV P w H' h' a o:=by
 induction o with
 |lst xs=>obtain⟨z,its,n,r,e⟩:=x;exact⟨z,its,n,r,k _ _ (.inl rfl) e⟩
 |tup xs=>obtain⟨z,its,r,ob,e,c⟩:=x;exact⟨z,its,r,ob,k _ _ (.inl rfl) e,c⟩
 |dK kvs=>obtain⟨z,y,vs,r,ob,es,ep,e,c⟩:=x;exact⟨z,y,vs,r,ob,es,ep,k _ _ (.inl rfl) e,c⟩
 |dT kvs=>
  obtain⟨z,y,xs,r,ob,es,ep,e,c⟩:=x
  exact⟨z,y,xs,Paired.mapP r λp q z=>⟨z.1,ht _ _ z.2.1,z.2.2⟩,ob,es,ep,k _ _ (.inl rfl) e,c⟩
 |set S n=>obtain⟨ob,es,ep,t,e,c⟩:=x;exact⟨ob,es,ep,t,k _ _ (.inl rfl) e,c⟩
 |ins C dx fs=>
  obtain⟨d,z,ne,e,mA,⟨od,es,ep,e2,c⟩,r⟩:=x
  exact⟨ho _ d,z,ne,k _ _ (.inl rfl) e,mA,⟨od,es,ep,k _ _ (.inr d) e2,c⟩,r⟩
 |own y=>obtain⟨ob,e⟩:=x;exact⟨ob,k _ _ (.inl rfl) e⟩
 |xd fs=>obtain⟨mA,⟨od,es,ep,e,c⟩,r⟩:=x;exact⟨mA,⟨od,es,ep,k _ _ (.inl rfl) e,c⟩,r⟩
 |rng lo hi=>obtain⟨t,u,v,e⟩:=x;exact⟨t,u,v,k _ _ (.inl rfl) e⟩
 |frz ob u ih=>obtain⟨e,q⟩:=x;exact⟨k _ _ (.inl rfl) e,ih q⟩
 |tbl ps=>
  have e:h.get? a=some {cls:=.none,data:=.fields ps}:=x
  show h'.get? a=some {cls:=.none,data:=.fields ps}
  exact k a _ (.inl rfl) e
 |met f y=>
  have e:h.get? a=some (PySem.W.methodObj (.ref f) (.ref y)):=x
  show h'.get? a=some (PySem.W.methodObj (.ref f) (.ref y))
  exact k a _ (.inl rfl) e
 |ext φ=>obtain⟨p,⟨o,e⟩,st⟩:=x;exact⟨st _ _ p λo q=>k _ _ (.inl rfl) q,⟨o,k _ _ (.inl rfl) e⟩,st⟩
theorem HOk.lt(x:HOk P w H h)(e:H a=some o):a<h.objs.size:=(x a o e).lt
theorem HOk.fresh(x:HOk P w H h)(e:h.objs.size<=a):H a=none:=by
 cases q:H a with
 |none=>rfl
 |some u=>exact absurd (zzH (x.lt q) e) (Nat.lt_irrefl _)
theorem HOk.kept(x:HOk P w H h)(k:∀b u,h.get? b=some u->h'.get? b=some u):HOk P w H h':=λa o e=>
 (x a o e).stay (λb u _ q=>k b u q) (λ_ q=>q) λ_ _ q=>q
theorem HOk.laid(x:HOk P w H h)(k:∀b u,h.get? b=some u->h'.get? b=some u)(hp:h.objs.size<=a)(new:wV P w (upd H a o) h' a o):HOk P w (upd H a o) h':=λb u e=>by
 have hn:=x.fresh hp
 by_cases hb:b=a
 · subst hb;rw[yf]at e;cases e;exact new
 · rw[zW hb]at e
   exact(x b u e).stay (λc v _ q=>k c v q) (λc q=>by rw[zW (yG q hn)];exact q) λc xs q=>by rw[zW (yG q hn)];exact q
end
def Rd(H:Hp)(a:Addr)(u:HO):Prop:=H a=some u\/∃o,H a=some (.frz o u)
theorem Rd.ok(r:Rd H a u)(x:HOk P w H h):wV P w H h a u:=by
 rcases r with r|⟨o,r⟩
 · exact x a u r
 · obtain⟨_,q⟩:=x a _ r
   exact q
def Mut:Option HO->Prop
 |some (.lst _)=>True
 |some (.dK _)=>True
 |some (.dT _)=>True
 |some (.set _ _)=>True
 |some (.ins _ _ _)=>True
 |some (.ext _)=>True
 |_=>False
section
variable{P:Program}{w:World}{H:Hp}{h h':Heap}{x e:Addr}{o':HO}
theorem HOk.write(ok:HOk P w H h)(mu:Mut (H x))(he:e=x\/H e=some (.own x))(k:∀b u,b≠e->h.get? b=some u->h'.get? b=some u)(heo:∃u,h'.get? e=some u)
 (new:wV P w (upd H x o') h' x o'):HOk P w (upd H x o') h':=λb u q=>by
 have nown:∀c y,H c=some (.own y)->c≠x:=λc y r z=>by subst z;rw[r]at mu;exact mu
 have ntup:∀c xs,H c=some (.tup xs)->c≠x:=λc xs r z=>by subst z;rw[r]at mu;exact mu
 by_cases hb:b=x
 · subst hb;rw[yf]at q;cases q;exact new
 · rw[zW hb]at q
   by_cases hbe:b=e
   · have q':H b=some (.own x):=by
      rcases he with z|z
      · exact absurd (hbe.trans z) hb
      · rw[hbe];exact z
     rw[q]at q';cases q'
     obtain⟨v,hv⟩:=heo
     exact⟨v,by rw[hbe];exact hv⟩
   · refine(ok b u q).stay (λc v hc r=>k c v ?_ r) (λc r=>by rw[zW (nown c b r)];exact r) λc xs r=>by rw[zW (ntup c xs r)];exact r
     rcases hc with rfl|hc
     · exact hbe
     · rintro rfl
       rcases he with z|z
       · exact nown c b hc z
       · rw[hc]at z;cases z;exact hb rfl
end
structure Un(fs ex:List Addr)(H H':Hp)(h h':Heap):Prop where
 keep:∀b o,h.get? b=some o->H b=none->b ∉ fs->b ∉ ex->h'.get? b=some o
 slot:∀b o,h.get? b=some o->H b=none->b ∈ fs->b ∉ ex->∃sl,h'.get? b=some {o with slots:=sl}
 free:∀b o,h.get? b=some o->H b=none->b ∉ ex->H' b=none
 there:∀b o,h.get? b=some o->b ∉ ex->∃o',h'.get? b=some o'
 tups:∀b xs,H b=some (.tup xs)->H' b=some (.tup xs)
 frzs:∀b o u,H b=some (.frz o u)->H' b=some (.frz o u)
 tbls:∀b ps,H b=some (.tbl ps)->∃more,H' b=some (.tbl (ps++more))
section
variable{fs fs' ex ex':List Addr}{H H1 H2:Hp}{h h1 h2 h':Heap}{a x e:Addr}{o:HO}
theorem Un.any(u:Un fs ex H H1 h h1)(q:h.get? b=some ob)(n:H b=none)(hx:b ∉ ex):∃sl,h1.get? b=some {ob with slots:=sl}:=by
 by_cases hb:b ∈ fs
 · exact u.slot b ob q n hb hx
 · exact⟨ob.slots,u.keep b ob q n hb hx⟩
theorem Un.kept(k:∀b u,h.get? b=some u->h'.get? b=some u):Un fs ex H H h h':=
 ⟨λb ob q _ _ _=>k b ob q,λb ob q _ _ _=>⟨ob.slots,k b ob q⟩,λ_ _ _ n _=>n,λb ob q _=>⟨ob,k b ob q⟩,λ_ _ q=>q,λ_ _ _ q=>q,λ_ ps q=>⟨#[],by rw[q];simp⟩⟩
theorem Un.refl:Un fs ex H H h h:=Un.kept λ_ _ q=>q
theorem Un.laid(k:∀b u,h.get? b=some u->h'.get? b=some u)(hp:h.objs.size<=a)(hn:H a=none):Un fs ex H (upd H a o) h h' where
 keep:=λb u q _ _ _=>k b u q
 slot:=λb u q _ _ _=>⟨u.slots,k b u q⟩
 free:=λb u q n _=>by rw[zW (zzN (zzH (zxG q) hp))];exact n
 there:=λb u q _=>⟨u,k b u q⟩
 tups:=λb xs q=>by rw[zW (yG q hn)];exact q
 frzs:=λb u xs q=>by rw[zW (yG q hn)];exact q
 tbls:=λb ps q=>⟨#[],by rw[zW (yG q hn),q];simp⟩
theorem Un.write(mu:Mut (H x))(he:e=x\/H e=some (.own x))(k:∀b u,b≠e->h.get? b=some u->h'.get? b=some u)(heo:∃u,h'.get? e=some u):Un fs ex H (upd H x o) h h':=by
 have hx:∀b,H b=none->b≠x:=λb n z=>by subst z;rw[n]at mu;exact mu
 have hb:∀b,H b=none->b≠e:=λb n z=>by
  subst z
  rcases he with r|r
  · exact hx b n r
  · rw[n]at r;cases r
 have hm:∀b u,H b=some u->¬Mut (some u)->b≠x:=λb u q nm z=>by subst z;rw[q]at mu;exact nm mu
 refine⟨λb u q n _ _=>k b u (hb b n) q,λb u q n _ _=>⟨u.slots,k b u (hb b n) q⟩,λb u q n _=>by rw[zW (hx b n)];exact n,λb u q _=>?_,
  λb xs q=>by rw[zW (hm b _ q λz=>z)];exact q,λb u xs q=>by rw[zW (hm b _ q λz=>z)];exact q,λb ps q=>⟨#[],by rw[zW (hm b _ q λz=>z),q];simp⟩⟩
 by_cases hbe:b=e
 · subst hbe;exact heo
 · exact⟨u,k b u hbe q⟩
end
def trk(h:Heap)(H:Hp):List Addr:=(List.range h.objs.size).filter λa=>(H a).isSome
def zhW(h:Heap)(H:Hp):Heap:=PySem.W.hideAll h (trk h H)
theorem zlS(h:Heap)(H:Hp):(zhW h H).objs.size=h.objs.size:=PySem.W.hideAll_size _ _
theorem znn(e:h.get? b=some o)(n:H b=none):(zhW h H).get? b=some o:=
 PySem.W.hideAll_get _ e λhm=>by
  have q:(H b).isSome=true:=(List.mem_filter.mp hm).2
  rw[n]at q;simp at q
theorem zqx(e:(zhW h H).get? b=some o):h.get? b=some o/\H b=none:=by
 have e':h.get? b=some o:=PySem.W.of_hideAll (trk h H) e
 refine⟨e', ?_⟩
 cases q:H b with
 |none=>rfl
 |some x=>
  have hm:b ∈ trk h H:=List.mem_filter.mpr ⟨List.mem_range.mpr (zxG e'),by simp[q]⟩
  have z:(zhW h H).get? b=none:=PySem.W.hideAll_none (trk h H) hm
  rw[z]at e;cases e
end L2
namespace L2
open PySem PySem.Spec PyProof.Rows
structure Mod(K:zC)(mg:Str->Option Value)(base:Heap):Prop where
 kin:K.In base
 glob:base.Ns mainGlobals mg
 blt:∃mb,base.Ns builtinsNs mb/\∀x:Str,x≠"__name__"->mb x=bootBuiltins x
 nolimit:base.NoLimit
structure Cx where
 prog:Program
 w:World
 K:zC
 mg:Str->Option Value
 base:Heap
 A:Around
 N:List Str
 s₀:Shared
 H₀:Hp
 env:Env
 outer:List Env
 stack:List Env
 ex:List Addr
 fn:Str->Bool
 calm:Bool
 pn:List (Addr×Obj)
 xe:Value->Shared->Prop
def frs(l:List Env):List Addr:=l.filterMap (·.frame)
abbrev Cx.fs(X:Cx):List Addr:=frs X.outer
def Vis(sc:Scope)(x:Str):Prop:=sc.names.lookup x=some .local\/sc.names.lookup x=some .cell\/sc.names.lookup x=some .free
def Loc(sc:Scope)(x:Str):Prop:=sc.names.lookup x=some .local\/sc.names.lookup x=some .cell
def Look(env:Env)(h:Heap)(m:Str->Option Value)(x:Str)(u:Value):Prop:=
 (env.kindOf x=some .local/\m x=some u)\/((env.kindOf x=some .cell\/env.kindOf x=some .free)/\∃c,env.cells.lookup x=some c/\h.IsCell c (some u))
structure Cx.Ok(X:Cx):Prop where
 mod:Mod X.K X.mg X.base
 kind:X.env.scope.kind = .function
 glob:X.env.globals=mainGlobals
 blt:X.env.builtins=builtinsNs
 above:X.s₀.heap.objs.size<=X.env.locals
 inj:∀x y c,X.env.cells.lookup x=some c->X.env.cells.lookup y=some c->x=y
 has:∀x,(X.env.kindOf x=some .cell\/X.env.kindOf x=some .free)->∃c,X.env.cells.lookup x=some c
 cab:∀x c,X.fn x=true->X.env.cells.lookup x=some c->X.s₀.heap.objs.size<=c
 hd:X.calm=true->X.A.handled=none
 frames:X.A.frames=some X.stack
 stk:X.stack=X.outer\/(X.stack=X.env::X.outer/\X.env.frame=some X.env.locals)
 exf:∀b ∈ X.ex,b≠X.env.locals/\∀x c,X.env.cells.lookup x=some c->c≠b
 bs:∀b o,X.base.get? b=some o->X.s₀.heap.get? b=some o/\X.H₀ b=none
 bsz:X.base.objs.size<=X.s₀.heap.objs.size
 noex:∀b o,X.base.get? b=some o->b ∉ X.ex
 exfs:∀b ∈ X.ex,b ∉ X.fs
 funs:X.s₀.heap.FunFrames X.base X.outer
 frf:∀b ∈ X.fs,X.H₀ b=none
structure Inv(X:Cx)(pins:List (Addr×Obj))(σ:List (Option V))(H:Hp)(s:Shared):Prop where
 ok:X.Ok
 os:s.os=X.s₀.os
 bare:AllBare s.gens
 base:Un X.fs X.ex X.H₀ H X.s₀.heap s.heap
 loc:∃m,s.heap.Ns X.env.locals m/\∀(i:Nat) (x:Str) (v:V),X.N[i]? = some x->σ[i]? = some (some v)->Vis X.env.scope x->∃u,RelV v u/\Look X.env s.heap m x u
 cell:∀x c,X.env.cells.lookup x=some c->∃v,s.heap.IsCell c v
 free:H X.env.locals=none
 freeC:∀x c,X.env.cells.lookup x=some c->H c=none
 pin:∀p ∈ X.pn++pins,s.heap.get? p.1=some p.2/\H p.1=none/\p.1≠X.env.locals/\p.1 ∉ X.fs/\∀v,p.2.data ≠ .cell v
 hok:HOk X.prog X.w H s.heap
 len:σ.length=X.N.length
section
variable{X:Cx}{pins:List (Addr×Obj)}{σ:List (Option V)}{H H':Hp}{s:Shared}{h':Heap}
theorem Cx.Ok.nofr(ok:X.Ok)(e:X.base.get? b=some o):b ∉ X.fs:=λhb=>by
 have:=(ok.funs.mem hb).1
 rw[e]at this;cases this
theorem Inv.bs(I:Inv X pins σ H s):∀b o,X.base.get? b=some o->s.heap.get? b=some o/\H b=none:=λb o e=>
 ⟨I.base.keep b o (I.ok.bs b o e).1 (I.ok.bs b o e).2 (I.ok.nofr e) (I.ok.noex b o e),I.base.free b o (I.ok.bs b o e).1 (I.ok.bs b o e).2 (I.ok.noex b o e)⟩
theorem Inv.bk(I:Inv X pins σ H s):∀b o,X.base.get? b=some o->s.heap.get? b=some o:=λb o e=>(I.bs b o e).1
theorem Inv.mod(I:Inv X pins σ H s):Mod X.K X.mg X.base:=I.ok.mod
theorem Inv.kIn(I:Inv X pins σ H s):X.K.In s.heap:=I.ok.mod.kin.keeps I.bk
theorem Inv.lt(I:Inv X pins σ H s):X.env.locals<s.heap.objs.size:=let⟨_,hn,_⟩:=I.loc;hn.lt
theorem Inv.sz(I:Inv X pins σ H s):X.s₀.heap.objs.size<=s.heap.objs.size:=zzL I.ok.above (Nat.le_of_lt I.lt)
theorem Inv.nofs(I:Inv X pins σ H s)(h:s.heap.objs.size<=a):a ∉ X.fs:=λhb=>by
 obtain⟨_,o,ho,_⟩:=I.ok.funs.mem hb
 exact absurd (zzH (zxG ho) (zzL I.sz h)) (Nat.lt_irrefl _)
theorem Inv.cne(I:Inv X pins σ H s):∀x c,X.env.cells.lookup x=some c->c≠X.env.locals:=λx c e z=>by
 obtain⟨v,o,ho,hd⟩:=I.cell x c e
 obtain⟨m,⟨o',es,ep,ho',hd',_⟩,_⟩:=I.loc
 rw[z,ho']at ho;cases ho;rw[hd']at hd;cases hd
theorem Inv.funs(I:Inv X pins σ H s):s.heap.FunFrames X.base X.outer:=by
 have all:∀(l:List Env),(∀b ∈ frs l,b ∈ X.fs)->X.s₀.heap.FunFrames X.base l->s.heap.FunFrames X.base l:=by
  intro l
  induction l with
  |nil=>intro _ _;trivial
  |cons env r ih=>
   intro hs hl
   obtain⟨hk,⟨L,o,hf,hn,ho,hd⟩,hr⟩:=hl
   have hL:L ∈ X.fs:=hs L (by unfold frs;rw[List.filterMap_cons,hf];exact zzC)
   obtain⟨sl,e⟩:=I.base.slot L o ho (I.ok.frf L hL) hL λz=>I.ok.exfs L z hL
   exact⟨hk,⟨L,_,hf,hn,e,hd⟩,ih (λb hb=>hs b (by unfold frs;rw[List.filterMap_cons,hf];exact zzA _ hb)) hr⟩
 exact all X.outer (λ_ hb=>hb) I.ok.funs
theorem Inv.stack(I:Inv X pins σ H s):s.heap.FunFrames X.base X.stack:=by
 rcases I.ok.stk with e|⟨e,hf⟩
 · rw[e];exact I.funs
 · rw[e]
   obtain⟨m,hn,_⟩:=I.loc
   refine .cons (by rw[I.ok.kind];decide) hf hn ?_ I.funs
   exact Heap.get?_none_of_le (zzL I.ok.bsz I.ok.above)
theorem Inv.stkSub(I:Inv X pins σ H s):∀b ∈ frs X.stack,b ∈ X.env.locals::X.fs:=λb hb=>by
 rcases I.ok.stk with e|⟨e,hf⟩
 · rw[e]at hb;exact zzA _ hb
 · rw[e]at hb
   unfold frs at hb
   rw[List.filterMap_cons,hf]at hb
   exact hb
theorem Inv.stkFree(I:Inv X pins σ H s):∀b ∈ frs X.stack,H b=none:=λb hb=>by
 rcases zS.mp (I.stkSub b hb)with e|hb
 · rw[e];exact I.free
 · obtain⟨_,o,ho,_⟩:=I.ok.funs.mem hb
   exact I.base.free b o ho (I.ok.frf b hb) λz=>I.ok.exfs b z hb
theorem Inv.step{g':Array GenState}{t':Nat}{d':Drawn}{ch:List Addr}(I:Inv X pins σ H s)
 (hch:∀b ∈ ch,(b ∈ X.ex\/X.s₀.heap.objs.size<=b)/\b≠X.env.locals/\(∀x c,X.env.cells.lookup x=some c->c≠b)/\∀p ∈ X.pn++pins,p.1≠b)
 (keep:∀b o,b≠X.env.locals->b ∉ X.fs->b ∉ ch->s.heap.get? b=some o->H b=none->h'.get? b=some o)
 (slot:∀b o,b≠X.env.locals->b ∈ X.fs->b ∉ ch->s.heap.get? b=some o->H b=none->∃sl,h'.get? b=some {o with slots:=sl}) (free:∀b o,b ∉ ch->s.heap.get? b=some o->H b=none->H' b=none)
 (there:∀b o,b ∉ ch->s.heap.get? b=some o->∃o',h'.get? b=some o')
 (tups:∀b xs,H b=some (.tup xs)->H' b=some (.tup xs)) (frzs:∀b o u,H b=some (.frz o u)->H' b=some (.frz o u)) (tbls:∀b ps,H b=some (.tbl ps)->∃more,H' b=some (.tbl (ps++more)))
 (ns:∀m,s.heap.Ns X.env.locals m->h'.Ns X.env.locals m) (hok:HOk X.prog X.w H' h') (hg:AllBare g'):
 Inv X pins σ H' {s with heap:=h',gens:=g',drawn:=d',toks:=t'}:=by
 have neL:∀b o,X.s₀.heap.get? b=some o->b≠X.env.locals:=λb o e=>zzN (zzH (zxG e) I.ok.above)
 have neC:∀b o,X.s₀.heap.get? b=some o->b ∉ X.ex->b ∉ ch:=λb o e hx hb=>by
  rcases(hch b hb).1 with z|z
  · exact hx z
  · exact absurd (zzH (zxG e) z) (Nat.lt_irrefl _)
 have cellK:∀x c,X.env.cells.lookup x=some c->∀v,s.heap.IsCell c v->h'.IsCell c v:=λx c e v ⟨o,ho,hd⟩=>by
  have nch:c ∉ ch:=λz=>(hch c z).2.2.1 x c e rfl
  by_cases hc:c ∈ X.fs
  · obtain⟨sl,q⟩:=slot c o (I.cne x c e) hc nch ho (I.freeC x c e)
    exact⟨_,q,hd⟩
  · exact⟨o,keep c o (I.cne x c e) hc nch ho (I.freeC x c e),hd⟩
 refine⟨I.ok,I.os,hg,⟨λb o e n hb hx=>?_,λb o e n hb hx=>?_,λb o e n hx=>?_,λb o e hx=>?_,λb xs e=>tups b xs (I.base.tups b xs e),λb o xs e=>frzs b o xs (I.base.frzs b o xs e),λb ps e=>?_⟩, ?_,λx c e=>?_, ?_,λx c e=>?_,λp hp=>?_,hok,I.len⟩
 · exact keep b o (neL b o e) hb (neC b o e hx) (I.base.keep b o e n hb hx) (I.base.free b o e n hx)
 · obtain⟨sl,e1⟩:=I.base.slot b o e n hb hx
   obtain⟨sl',e2⟩:=slot b _ (neL b o e) hb (neC b o e hx) e1 (I.base.free b o e n hx)
   exact⟨sl',e2⟩
 · obtain⟨o',e1⟩:=I.base.there b o e hx
   exact free b o' (neC b o e hx) e1 (I.base.free b o e n hx)
 · obtain⟨o',e1⟩:=I.base.there b o e hx
   exact there b o' (neC b o e hx) e1
 · obtain⟨m1,e1⟩:=I.base.tbls b ps e
   obtain⟨m2,e2⟩:=tbls b _ e1
   exact⟨m1++m2,by rw[e2,Array.append_assoc]⟩
 · obtain⟨m,hn,hl⟩:=I.loc
   refine⟨m,ns m hn,λi x v e1 e2 e3=>?_⟩
   obtain⟨u,r,l⟩:=hl i x v e1 e2 e3
   refine⟨u,r, ?_⟩
   rcases l with l|⟨k,c,e,z⟩
   · exact .inl l
   · exact .inr ⟨k,c,e,cellK x c e _ z⟩
 · obtain⟨v,z⟩:=I.cell x c e
   exact⟨v,cellK x c e v z⟩
 · obtain⟨m,⟨o,_,_,ho,_⟩,_⟩:=I.loc
   exact free _ o (λz=>(hch _ z).2.1 rfl) ho I.free
 · obtain⟨v,o,ho,hd⟩:=I.cell x c e
   exact free c o (λz=>(hch c z).2.2.1 x c e rfl) ho (I.freeC x c e)
 · obtain⟨e,n,ne,nf,d⟩:=I.pin p hp
   have nch:p.1 ∉ ch:=λz=>(hch p.1 z).2.2.2 p hp rfl
   exact⟨keep p.1 p.2 ne nf nch e n,free p.1 p.2 nch e n,ne,nf,d⟩
theorem Inv.un{t':Nat}(I:Inv X pins σ H s)(u:Un X.fs [] H H' s.heap h')(hok:HOk X.prog X.w H' h'):Inv X pins σ H' {s with heap:=h',toks:=t'}:=by
 obtain⟨m,⟨o,es,ep,ho,r⟩,_⟩:=id I.loc
 obtain⟨sl,hL⟩:=u.any ho I.free (by simp)
 exact I.step (g':=s.gens) (d':=s.drawn) (ch:=[]) (λ_ z=>nomatch z) (λb o _ hb _ e n=>u.keep b o e n hb (by simp)) (λb o _ hb _ e n=>u.slot b o e n hb (by simp)) (λb o _ e n=>u.free b o e n (by simp)) (λb o _ e=>u.there b o e (by simp)) u.tups u.frzs u.tbls (λm' hm=>by
  obtain⟨o',es',ep',ho',r'⟩:=hm
  rw[ho]at ho';cases ho'
  exact⟨_,es',ep',hL,r'⟩) hok I.bare
theorem Inv.call{g':Array GenState}{t':Nat}{d':Drawn}{ch:List Addr}(I:Inv X pins σ H s)(u:Un (frs X.stack) ch H H' s.heap h')(hok:HOk X.prog X.w H' h')(hg:AllBare g')
 (hch:∀b ∈ ch,(b ∈ X.ex\/X.s₀.heap.objs.size<=b)/\b≠X.env.locals/\(∀x c,X.env.cells.lookup x=some c->c≠b)/\∀p ∈ X.pn++pins,p.1≠b):
 Inv X pins σ H' {s with heap:=h',gens:=g',drawn:=d',toks:=t'}:=by
 obtain⟨m,⟨o,es,ep,ho,r⟩,_⟩:=id I.loc
 obtain⟨sl,hL⟩:=u.any ho I.free λz=>(hch _ z).2.1 rfl
 exact I.step (ch:=ch) hch (λb o hL hb hc e n=>u.keep b o e n (λz=>(zS.mp (I.stkSub b z)).elim hL hb) hc) (λb o _ _ hc e n=>u.any e n hc) (λb o hc e n=>u.free b o e n hc) (λb o hc e=>u.there b o e hc) u.tups u.frzs u.tbls (λm' hm=>by
  obtain⟨o',es',ep',ho',r'⟩:=hm
  rw[ho]at ho';cases ho'
  exact⟨_,es',ep',hL,r'⟩) hok hg
theorem Inv.turned{t':Nat}{it:Addr}(I:Inv X pins σ H s)(k:∀b o,b≠it->s.heap.get? b=some o->h'.get? b=some o)(hn:H it=none)(hL:it≠X.env.locals)
 (h1:it ∈ X.ex\/X.s₀.heap.objs.size<=it) (h2:∀x c,X.env.cells.lookup x=some c->c≠it) (h3:∀p ∈ X.pn++pins,p.1≠it):Inv X pins σ H {s with heap:=h',toks:=t'}:=by
 have nit:∀b u,H b=some u->b≠it:=λb u e z=>by rw[z,hn]at e;cases e
 refine I.step (g':=s.gens) (d':=s.drawn) (ch:=[it]) (λb hb=>?_) (λb o _ _ hc e _=>k b o (λz=>hc (by simp[z])) e) (λb o _ _ hc e _=>⟨o.slots,k b o (λz=>hc (by simp[z])) e⟩) (λ_ _ _ _ n=>n)
  (λb o hc e=>⟨o,k b o (λz=>hc (by simp[z])) e⟩) (λ_ _ e=>e) (λ_ _ _ e=>e) (λb ps e=>⟨#[],by rw[e];simp⟩) (λm hm=>?_) (λb u e=>?_) I.bare
 · have e:b=it:=by simpa using hb
   subst e
   exact⟨h1,hL,h2,h3⟩
 · obtain⟨o,es,ep,ho,r⟩:=hm
   exact⟨o,es,ep,k _ o (Ne.symm hL) ho,r⟩
 · refine(I.hok b u e).stay (λc v hc q=>k c v ?_ q) (λ_ q=>q) λ_ _ q=>q
   rcases hc with z|z
   · rw[z];exact nit b u e
   · exact nit c _ z
theorem Inv.tok(I:Inv X pins σ H s)(t:Nat):Inv X pins σ H {s with toks:=t}:=I.un (h':=s.heap) (t':=t) Un.refl I.hok
theorem Inv.kept(I:Inv X pins σ H s)(k:∀b u,s.heap.get? b=some u->h'.get? b=some u):Inv X pins σ H {s with heap:=h',toks:=t'}:=I.un (Un.kept k) (I.hok.kept k)
theorem Inv.laid(I:Inv X pins σ H s)(k:∀b u,s.heap.get? b=some u->h'.get? b=some u)(hp:s.heap.objs.size<=a)(new:wV X.prog X.w (upd H a o) h' a o):
 Inv X pins σ (upd H a o) {s with heap:=h',toks:=t'}:=I.un (Un.laid k hp (I.hok.fresh hp)) (I.hok.laid k hp new)
theorem Inv.write(I:Inv X pins σ H s)(mu:Mut (H x))(he:e=x\/H e=some (.own x))(k:∀b u,b≠e->s.heap.get? b=some u->h'.get? b=some u)(heo:∃u,h'.get? e=some u)
 (new:wV X.prog X.w (upd H x o) h' x o):Inv X pins σ (upd H x o) {s with heap:=h',toks:=t'}:=I.un (Un.write mu he k heo) (I.hok.write mu he k heo new)
theorem Inv.weak(I:Inv X pins σ H s)(hl:σ'.length=σ.length)(w:∀(i:Nat) v,σ'[i]? = some (some v)->σ[i]? = some (some v)):Inv X pins σ' H s:=
 ⟨I.ok,I.os,I.bare,I.base,let⟨m,hn,hl'⟩:=I.loc;⟨m,hn,λi x v e1 e2 e3=>hl' i x v e1 (w i v e2) e3⟩,I.cell,I.free,I.freeC,I.pin,I.hok,hl.trans I.len⟩
theorem Inv.pins_of(I:Inv X pins σ H s)(h:∀p ∈ pins',s.heap.get? p.1=some p.2/\H p.1=none/\p.1≠X.env.locals/\p.1 ∉ X.fs/\∀v,p.2.data ≠ .cell v):Inv X pins' σ H s:=
 ⟨I.ok,I.os,I.bare,I.base,I.loc,I.cell,I.free,I.freeC,λp hp=>(zzJ.mp hp).elim (λz=>I.pin p (zzM _ z)) (h p),I.hok,I.len⟩
theorem zjq{N:List Str}(hN:N.Nodup){i j:Nat}{x:Str}(a:N[i]? = some x)(b:N[j]? = some x):i=j:=by
 obtain⟨h1,e1⟩:=zzD.mp a
 obtain⟨h2,e2⟩:=zzD.mp b
 exact(List.getElem_inj hN).mp (e1.trans e2.symm)
theorem zha{M:Model}{A:Around}{E:Value->Shared->Prop}{i:Nat}{x:Str}{v:V}{u:Value}{Q:Unit->Shared->Prop}(I:Inv X pins σ H s)(hN:X.N.Nodup)(hi:X.N[i]? = some x)(hx:Loc X.env.scope x)(r:RelV v u)
 (h:∀s',Inv X pins (σ.set i (some v)) H s'->(∃a,Heap.SameBut a s.heap s'.heap/\(a=X.env.locals\/X.env.cells.lookup x=some a))->Q () s') (hf:X.fn x=true\/X.env.scope.names.lookup x=some .local:=by first|exact .inl rfl|exact .inr rfl|assumption):wpAny M A (storeName X.env x u) Q E s:=by
 obtain⟨m,hn,hl⟩:=id I.loc
 have hcls:(X.env.scope.kind == .class||(X.env.scope.kind == .module&&X.env.locals != X.env.globals))=false:=by rw[I.ok.kind];rfl
 have hiσ:i<σ.length:=by rw[I.len];exact(zzD.mp hi).1
 have cne:=I.cne
 have tracked:∀{a:Addr}{h':Heap},(∃o,s.heap.get? a=some o/\H a=none)->Heap.SameBut a s.heap h'->HOk X.prog X.w H h':=λ{a h'} ha hs b ob e=>by
  obtain⟨_,_,hfree⟩:=ha
  refine(I.hok b ob e).stay (λc w' hc q=>(hs.2 c ?_).trans q) (λ_ q=>q) λ_ _ q=>q
  rintro rfl
  rcases hc with rfl|hc
  · rw[hfree]at e;cases e
  · rw[hfree]at hc;cases hc
 rcases hx with hk|hk
 · refine wpAny_storeName_local hk hn (λh' hn' hs=>?_) hcls
   obtain⟨oL,_,_,hoL,_⟩:=id hn
   refine h _ ⟨I.ok,I.os,I.bare,⟨λb o e n hb hx=>?_,λb o e n hb hx=>?_,I.base.free,λb o e hx=>?_,I.base.tups,I.base.frzs,I.base.tbls⟩,⟨_,hn',λj y v' e1 e2 e3=>?_⟩,λy c e=>?_,I.free,I.freeC,λp hp=>?_,tracked ⟨oL,hoL,I.free⟩ hs,by simpa using I.len⟩ ⟨_,hs,.inl rfl⟩
   · exact(hs.2 b (zzN (zzH (zxG e) I.ok.above))).trans (I.base.keep b o e n hb hx)
   · obtain⟨sl,e1⟩:=I.base.slot b o e n hb hx
     exact⟨sl,(hs.2 b (zzN (zzH (zxG e) I.ok.above))).trans e1⟩
   · obtain⟨o',e1⟩:=I.base.there b o e hx
     exact⟨o',(hs.2 b (zzN (zzH (zxG e) I.ok.above))).trans e1⟩
   · by_cases hj:j=i
     · subst hj
       rw[hi]at e1;cases e1
       rw[zyH hiσ]at e2
       cases e2
       exact⟨u,r,.inl ⟨hk,by simp⟩⟩
     · rw[zzV (Ne.symm hj)]at e2
       obtain⟨u',r',q⟩:=hl j y v' e1 e2 e3
       refine⟨u',r', ?_⟩
       rcases q with⟨k,e⟩|⟨k,c,e,z⟩
       · refine .inl ⟨k, ?_⟩
         have:y≠x:=λe=>hj (zjq hN e1 (e ▸ hi))
         simp[this,e]
       · exact .inr ⟨k,c,e,z.sameBut hs (cne y c e)⟩
   · obtain⟨w',z⟩:=I.cell y c e
     exact⟨w',z.sameBut hs (cne y c e)⟩
   · obtain⟨e,n,ne,nf,d⟩:=I.pin p hp
     exact⟨(hs.2 p.1 ne).trans e,n,ne,nf,d⟩
 · have hfn:X.fn x=true:=by
    rcases hf with z|z
    · exact z
    · rw[z]at hk;cases hk
   obtain⟨c,hc⟩:=I.ok.has x (.inl hk)
   obtain⟨w',z⟩:=I.cell x c hc
   refine wpAny_storeName_cell I.ok.kind hk hc z (λh' hc' hs=>?_)
   obtain⟨oc,hoc,hocd⟩:=id z
   refine h {s with heap:=h'} ⟨I.ok,I.os,I.bare,⟨λb o e n hb hx=>?_,λb o e n hb hx=>?_,I.base.free,λb o e hx=>?_,I.base.tups,I.base.frzs,I.base.tbls⟩,⟨m,hn.sameBut hs (Ne.symm (cne x c hc)),λj y v' e1 e2 e3=>?_⟩,λy c' e=>?_,I.free,I.freeC,λp hp=>?_,tracked ⟨oc,hoc,I.freeC x c hc⟩ hs,by simpa using I.len⟩ ⟨c,hs,.inr hc⟩
   · exact(hs.2 b (zzN (zzH (zxG e) (I.ok.cab x c hfn hc)))).trans (I.base.keep b o e n hb hx)
   · obtain⟨sl,e1⟩:=I.base.slot b o e n hb hx
     exact⟨sl,(hs.2 b (zzN (zzH (zxG e) (I.ok.cab x c hfn hc)))).trans e1⟩
   · obtain⟨o',e1⟩:=I.base.there b o e hx
     exact⟨o',(hs.2 b (zzN (zzH (zxG e) (I.ok.cab x c hfn hc)))).trans e1⟩
   · by_cases hj:j=i
     · subst hj
       rw[hi]at e1;cases e1
       rw[zyH hiσ]at e2
       cases e2
       exact⟨u,r,.inr ⟨.inl hk,c,hc,hc'⟩⟩
     · rw[zzV (Ne.symm hj)]at e2
       obtain⟨u',r',q⟩:=hl j y v' e1 e2 e3
       refine⟨u',r', ?_⟩
       rcases q with q|⟨k,c',e,z'⟩
       · exact .inl q
       · refine .inr ⟨k,c',e,z'.sameBut hs ?_⟩
         rintro rfl
         exact hj (zjq hN e1 (I.ok.inj _ _ _ e hc ▸ hi))
   · by_cases hcc:c'=c
     · subst hcc;exact⟨_,hc'⟩
     · obtain⟨w2,z2⟩:=I.cell y c' e
       exact⟨w2,z2.sameBut hs hcc⟩
   · obtain⟨e,n,ne,nf,d⟩:=I.pin p hp
     refine⟨(hs.2 p.1 ?_).trans e,n,ne,nf,d⟩
     intro q
     rw[q,hoc]at e
     have q':oc=p.2:=zzW e
     exact d w' (by rw[<-q'];exact hocd)
theorem zck(I:Inv X pins σ H s)(hN:X.N.Nodup)(hi:X.N[i]? = some x)(hx:Loc X.env.scope x)(r:RelV v u)
 (h:∀s',Inv X pins (σ.set i (some v)) H s'->Q () s') (hf:X.fn x=true\/X.env.scope.names.lookup x=some .local:=by first|exact .inl rfl|exact .inr rfl|assumption):wpAny M A (storeName X.env x u) Q E s:=
 zha I hN hi hx r (λs' I' _=>h s' I') hf
theorem Inv.call'(I:Inv X pins σ H s)(ho:s'.os=s.os)(u:Un (frs X.stack) ch H H' s.heap s'.heap)(hok:HOk X.prog X.w H' s'.heap)(hg:AllBare s'.gens)
 (hch:∀b ∈ ch,(b ∈ X.ex\/X.s₀.heap.objs.size<=b)/\b≠X.env.locals/\(∀x c,X.env.cells.lookup x=some c->c≠b)/\∀p ∈ X.pn++pins,p.1≠b):Inv X pins σ H' s':=by
 obtain⟨h',g',d',t',o'⟩:=s'
 have e:o'=s.os:=ho
 subst e
 exact I.call (g':=g') (t':=t') (d':=d') u hok hg hch
end
abbrev XK:=Value->Option Addr->Hp->Prop
abbrev St:=List (Option V)
abbrev VK:=V->Hp->Prop
abbrev TE:=St->Hp->VK->Prop
abbrev TT:=St->Hp->(Bool->Hp->Prop)->Prop
abbrev TA:=St->Hp->(List V->Hp->Prop)->Prop
structure Ends where
 nx:St->Hp->Prop
 rt:VK
 bk:St->Hp->Prop:=λ_ _=>False
 ct:St->Hp->Prop:=λ_ _=>False
abbrev TS:=Ends->St->Hp->Prop
def EP(X:Cx)(pins:List (Addr×Obj))(σ:St)(Q:VK)(u:Value)(s':Shared):Prop:=∃v H',Inv X pins σ H' s'/\RelV v u/\Q v H'
def TP(X:Cx)(pins:List (Addr×Obj))(σ:St)(Q:Bool->Hp->Prop)(b:Bool)(s':Shared):Prop:=∃H',Inv X pins σ H' s'/\Q b H'
def AP(X:Cx)(pins:List (Addr×Obj))(σ:St)(Q:List V->Hp->Prop)(us:List Value)(s':Shared):Prop:=∃vs H',Inv X pins σ H' s'/\Vals vs us/\Q vs H'
def SP(X:Cx)(pins:List (Addr×Obj))(D:Ends)(f:Flow)(s':Shared):Prop:=
 match f with
 | .next=>∃σ' H',Inv X pins σ' H' s'/\D.nx σ' H'
 | .brk=>∃σ' H',Inv X pins σ' H' s'/\D.bk σ' H'
 | .cont=>∃σ' H',Inv X pins σ' H' s'/\D.ct σ' H'
 | .ret u=>∃v σ' H',Inv X pins σ' H' s'/\RelV v u/\D.rt v H'
def PE(X:Cx)(e:Expr)(t:TE):Prop:=
 ∀(pins:List (Addr×Obj)) (s:Shared) (σ:St) (H:Hp) (Q:VK),Inv X pins σ H s->t σ H Q->wpAny (model X.prog X.w) X.A (eval e X.env) (EP X pins σ Q) X.xe s
def PT(X:Cx)(e:Expr)(t:TT):Prop:=
 ∀(pins:List (Addr×Obj)) (s:Shared) (σ:St) (H:Hp) (Q:Bool->Hp->Prop),Inv X pins σ H s->t σ H Q->wpAny (model X.prog X.w) X.A (isTrue e X.env (eval e X.env)) (TP X pins σ Q) X.xe s
def PW(X:Cx)(e:Expr)(t:TT):Prop:=
 ∀(whole:Sem Value) (pins:List (Addr×Obj)) (s:Shared) (σ:St) (H:Hp) (Q:Bool->Hp->Prop),Inv X pins σ H s->t σ H Q->wpAny (model X.prog X.w) X.A (isTrue e X.env whole) (TP X pins σ Q) X.xe s
theorem PW.pt(h:PW X e t):PT X e t:=h _
def PA(X:Cx)(es:List Expr)(t:TA):Prop:=
 ∀(pos:Pos) (pins:List (Addr×Obj)) (s:Shared) (σ:St) (H:Hp) (Q:List V->Hp->Prop),Inv X pins σ H s->t σ H Q->wpAny (model X.prog X.w) X.A (spliced (backTo pos (starEach es X.env))) (AP X pins σ Q) X.xe s
def PS(X:Cx)(st:Stmt)(t:TS):Prop:=
 ∀(pins:List (Addr×Obj)) (s:Shared) (σ:St) (H:Hp) (D:Ends),Inv X pins σ H s->t D σ H->wpAny (model X.prog X.w) X.A (exec st X.env) (SP X pins D) X.xe s
def PSs(X:Cx)(st:List Stmt)(t:TS):Prop:=
 ∀(pins:List (Addr×Obj)) (s:Shared) (σ:St) (H:Hp) (D:Ends),Inv X pins σ H s->t D σ H->wpAny (model X.prog X.w) X.A (execs st X.env) (SP X pins D) X.xe s
theorem thn(h:wpAny M A t Q E s)(hQ:∀a s,Q a s->Q' a s):wpAny M A t Q' E s:=zxQ h hQ λ_ _ x=>x
end L2
namespace L2
open PySem PySem.Spec PyProof.Rows
section
variable{X:Cx}
def X8(i:Nat):TE:=λσ H Q=>∃v,σ[i]? = some (some v)/\Q v H
def tC(v:V):TE:=λ_ H Q=>Q v H
theorem zmX(hN:X.N[i]? = some x)(hv:Vis X.env.scope x)(hd:(x==("__debug__":Str))=false:=by decide)(hcd:(x==("__classdict__":Str))=false:=by decide):PE X (.Name x pos) (X8 i):=by
 intro pins s σ H Q I h
 obtain⟨v,e,h⟩:=h
 obtain⟨m,hn,hl⟩:=I.loc
 obtain⟨u,r,l⟩:=hl i x v hN e hv
 have fin:EP X pins σ Q u s:=⟨v,H,I,r,h⟩
 rcases l with⟨hk,hm⟩|⟨hk,c,hc,hcell⟩
 · exact wpAny_Name (wpAny_loadName_local I.ok.kind hk hn hm fin) hd
 · rcases hk with hk|hk
   · exact wpAny_Name (wpAny_loadName_cell I.ok.kind hk hc hcell fin) hd
   · exact wpAny_Name (wpAny_loadName_free I.ok.kind hk hc hcell fin hcd) hd
theorem zcZ:PE X (.Constant (.int i) j pos) (tC (.int i)):=λ_ _ _ H _ I h=>wpAny_Constant_int ⟨.int i,H,I.tok _,⟨_,rfl⟩,h⟩
theorem ztn:PE X (.Constant (.bool b) j pos) (tC (.bl b)):=λ_ _ _ H _ I h=>Constant_bool ⟨.bl b,H,I,rfl,h⟩
theorem zsy:PE X (.Constant .none j pos) (tC .non):=λ_ _ _ H _ I h=>Constant_none ⟨.non,H,I,rfl,h⟩
theorem zrk:PE X (.Constant (.str x) j pos) (tC (.str x)):=λ_ _ _ H _ I h=>Calls.Constant_str ⟨.str x,H,I.tok _,⟨_,rfl⟩,h⟩
def Gl(X:Cx)(x:Str):Prop:=X.env.kindOf x=some .globalImplicit
theorem zlu(I:Inv X pins σ H s)(hg:Gl X x)(hm:X.mg x=some u)(h:Q u s)
 (hd:(x==("__debug__":Str))=false:=by decide):wpAny (model X.prog X.w) X.A (eval (.Name x pos) X.env) Q E s:=
 Calls.Name_function_global I.ok.kind hg (Calls.loadGlobal_global (by rw[I.ok.glob];exact I.mod.glob.keeps I.bk) hm h) hd
theorem VV(I:Inv X pins σ H s)(hg:Gl X x)(hm:X.mg x=none)(hv:bootBuiltins x=some u)(h:Q u s)
 (hn:x≠"__name__":=by decide) (hd:(x==("__debug__":Str))=false:=by decide):wpAny (model X.prog X.w) X.A (eval (.Name x pos) X.env) Q E s:=by
 obtain⟨mb,h1,h2⟩:=I.mod.blt
 exact Calls.Name_function_global I.ok.kind hg (Calls.loadGlobal_builtin (by rw[I.ok.glob];exact I.mod.glob.keeps I.bk) hm (by rw[I.ok.blt];exact h1.keeps I.bk) ((h2 x hn).trans hv) h) hd
theorem zpH(hg:Gl X x)(hm:X.mg x=none)(hv:bootBuiltins x=some u)(r:RelV v u)(hn:x≠"__name__":=by decide)(hd:(x==("__debug__":Str))=false:=by decide):PE X (.Name x pos) (tC v):=
 λ_ _ _ H _ I h=>VV I hg hm hv ⟨v,H,I,r,h⟩ hn hd
variable{a b:Expr}{ta tb:TE}{pos:Pos}
variable{tA tB':TT}{rest:List Expr}
def zuN(t u:TT):TT:=λσ H Q=>t σ H λc H1=>if c=true then u σ H1 Q else Q false H1
def tOr(t u:TT):TT:=λσ H Q=>t σ H λc H1=>if c=true then Q true H1 else u σ H1 Q
def zuU(t:TT):TT:=λσ H Q=>t σ H λc H1=>Q (!c) H1
theorem zqy(ha:PT X a tA):PW X (.BoolOp .And [a] pos) tA:=by
 intro wh pins s σ H Q I h
 refine isTrue_and (thn (ha pins s σ H Q I h) λc s1 e=>?_)
 cases c with
 |true=>exact isTrue_and_nil e
 |false=>exact e
theorem zrQ(ha:PT X a tA):PW X (.BoolOp .Or [a] pos) tA:=by
 intro wh pins s σ H Q I h
 refine isTrue_or (thn (ha pins s σ H Q I h) λc s1 e=>?_)
 cases c with
 |false=>exact isTrue_or_nil e
 |true=>exact e
theorem zsS(ha:PT X a tA)(hb:PW X (.BoolOp .And (b::rest) pos) tB'):PW X (.BoolOp .And (a::b::rest) pos) (zuN tA tB'):=by
 intro wh pins s σ H Q I h
 refine isTrue_and (thn (ha pins s σ H _ I h) λc s1 ⟨H1,I1,q1⟩=>?_)
 cases c with
 |true=>exact hb wh pins s1 σ H1 Q I1 q1
 |false=>exact⟨H1,I1,q1⟩
theorem ztR(ha:PT X a tA)(hb:PW X (.BoolOp .Or (b::rest) pos) tB'):PW X (.BoolOp .Or (a::b::rest) pos) (tOr tA tB'):=by
 intro wh pins s σ H Q I h
 refine isTrue_or (thn (ha pins s σ H _ I h) λc s1 ⟨H1,I1,q1⟩=>?_)
 cases c with
 |true=>exact⟨H1,I1,q1⟩
 |false=>exact hb wh pins s1 σ H1 Q I1 q1
theorem zrt(ha:PT X a tA):PT X (.UnaryOp .Not a pos) (zuU tA):=by
 intro pins s σ H Q I h
 exact isTrue_not (ha pins s σ H (λc H1=>Q (!c) H1) I h)
def ztL(ta tb:TE):TE:=λσ H Q=>ta σ H λx H1=>∃c,x = .bl c/\if c=true then tb σ H1 Q else Q (.bl false) H1
def ztQ(ta:TE):TE:=λσ H Q=>ta σ H λx H1=>∃c,x = .bl c/\Q (.bl (!c)) H1
theorem zsI(h:PE X a t):PE X (.BoolOp op [a] pos) t:=λpins s σ H Q I hw=>BoolOp_one (h pins s σ H Q I hw)
theorem zsg(ha:PE X a ta)(hb:PE X (.BoolOp .And (b::rest) pos) tb):PE X (.BoolOp .And (a::b::rest) pos) (ztL ta tb):=by
 intro pins s σ H Q I h
 refine BoolOp_and (thn (ha pins s σ H _ I h) λv s1 ⟨x,H1,I1,r1,q1⟩=>?_)
 obtain⟨c,rfl,q1⟩:=q1
 cases r1
 refine wpAny_truthy_bool ?_
 cases c with
 |true=>exact hb pins s1 σ H1 Q I1 q1
 |false=>exact⟨.bl false,H1,I1,rfl,q1⟩
theorem zsf(ha:PE X a ta):PE X (.UnaryOp .Not a pos) (ztQ ta):=by
 intro pins s σ H Q I h
 refine UnaryOp_ (thn (ha pins s σ H _ I h) λv s1 ⟨x,H1,I1,r1,q1⟩=>?_)
 obtain⟨c,rfl,q1⟩:=q1
 cases r1
 exact not_of (wpAny_truthy_bool ⟨.bl (!c),H1,I1,rfl,q1⟩)
end
end L2
namespace L2
open PySem PySem.Spec PyProof.Rows
def SqL(K:zC)(H:Hp)(a:Addr)(xs:List V):Prop:=
 Rd H a (.lst xs) \/
  ∃(o:Obj) (its:Array Value) (n:Nat),K.lookup a=some o/\o.cls = .type "list"/\o.dict=none/\o.data = .seq its n/\its.size<=sizeLine/\Vals xs its.toList
def RdL(K:zC)(H:Hp)(a:Addr)(xs:List V):Prop:=
 Rd H a (.lst xs)\/∃(its:Array Value) (n:Nat),K.lookup a=some {cls:=.type "list",data:=.seq its n}/\its.size<=sizeLine/\Vals xs its.toList
def SqT(K:zC)(H:Hp)(a:Addr)(xs:List V):Prop:=
 Rd H a (.tup xs) \/
  ∃(o:Obj) (its:Array Value) (n:Nat),K.lookup a=some o/\o.cls = .type "tuple"/\o.data = .seq its n/\its.size<=sizeLine/\Vals xs its.toList
def zvg:Value->Option V
 | .none=>some .non
 | .bool b=>some (.bl b)
 | .int i _=>some (.int i)
 | .str x _=>some (.str x)
 | .bytes b _=>some (.byt b)
 | .float b _=>some (.flt b)
 | .ref a=>some (.ref a)
 | .type n=>some (.ty n)
 |_=>none
theorem RelV.abs(r:RelV x u):zvg u=some x:=by
 cases x with
 |non=>cases r;rfl
 |bl _=>cases r;rfl
 |int _=>obtain⟨t,rfl⟩:=r;rfl
 |str _=>obtain⟨t,rfl⟩:=r;rfl
 |byt _=>obtain⟨t,rfl⟩:=r;rfl
 |flt _=>obtain⟨t,rfl⟩:=r;rfl
 |ref _=>cases r;rfl
 |ty _=>cases r;rfl
theorem RelV.inj(r:RelV x u)(q:RelV y u):x=y:=zzW (r.abs.symm.trans q.abs)
theorem Vals.inj:∀{xs ys:List V}{us:List Value},Vals xs us->Vals ys us->xs=ys
 |_,_,_,.nil,.nil=>rfl
 |_,_,_,.cons r t,.cons r' t'=>by rw[r.inj r',Vals.inj t t']
section
variable{X:Cx}{pins:List (Addr×Obj)}{σ:St}{H:Hp}{s:Shared}{a:Addr}{xs ys:List V}
theorem Inv.list(I:Inv X pins σ H s)(h:SqL X.K H a xs):∃its:List Value,Vals xs its/\PlainL s.heap a its.toArray/\xs.length<=sizeLine:=by
 rcases h with h|⟨o,its,n,hk,hc,hd,hs,hz,r⟩
 · obtain⟨z,its,n,r,e⟩:=h.ok I.hok
   exact⟨its,r,⟨_,n,e,rfl,rfl,rfl⟩,z⟩
 · refine⟨its.toList,r,⟨o,n,I.kIn a o hk,hc,hd,by simpa using hs⟩, ?_⟩
   have e:=r.length
   simp only[zyQ]at e
   omega
theorem Inv.tuple(I:Inv X pins σ H s)(h:SqT X.K H a xs):∃its:List Value,Vals xs its/\IsTup s.heap a its.toArray/\xs.length<=sizeLine:=by
 rcases h with h|⟨o,its,n,hk,hc,hs,hz,r⟩
 · obtain⟨z,its,r,p⟩:=h.ok I.hok
   exact⟨its,r,p,z⟩
 · refine⟨its.toList,r,⟨o,I.kIn a o hk,hc,n,by simpa using hs⟩, ?_⟩
   have e:=r.length
   simp only[zyQ]at e
   omega
theorem Inv.list_inj(I:Inv X pins σ H s)(h:SqL X.K H a xs)(h':SqL X.K H a ys):xs=ys:=by
 obtain⟨its,r,⟨o,n,e,_,_,d⟩,_⟩:=I.list h
 obtain⟨its',r',⟨o',n',e',_,_,d'⟩,_⟩:=I.list h'
 rw[e]at e';cases e'
 rw[d]at d'
 injection d' with d1 _
 have:its=its':=by simpa using congrArg Array.toList d1
 subst this
 exact r.inj r'
theorem Inv.tuple_inj(I:Inv X pins σ H s)(h:SqT X.K H a xs)(h':SqT X.K H a ys):xs=ys:=by
 obtain⟨its,r,⟨o,e,_,n,d⟩,_⟩:=I.tuple h
 obtain⟨its',r',⟨o',e',_,n',d'⟩,_⟩:=I.tuple h'
 rw[e]at e';cases e'
 rw[d]at d'
 injection d' with d1 _
 have:its=its':=by simpa using congrArg Array.toList d1
 subst this
 exact r.inj r'
end
abbrev Cx.wish(X:Cx)(E:Value->Shared->Prop):Cx:={X with xe:=E}
abbrev Cx.nox(X:Cx):Cx:=X.wish λ_ _=>False
theorem Cx.Ok.wish{X:Cx}(ok:X.Ok)(E:Value->Shared->Prop):(X.wish E).Ok:=
 ⟨ok.mod,ok.kind,ok.glob,ok.blt,ok.above,ok.inj,ok.has,ok.cab,ok.hd,ok.frames,ok.stk,ok.exf,ok.bs,ok.bsz,ok.noex,ok.exfs,ok.funs,ok.frf⟩
theorem Cx.Ok.unwish{X:Cx}{E:Value->Shared->Prop}(ok:(X.wish E).Ok):X.Ok:=
 ⟨ok.mod,ok.kind,ok.glob,ok.blt,ok.above,ok.inj,ok.has,ok.cab,ok.hd,ok.frames,ok.stk,ok.exf,ok.bs,ok.bsz,ok.noex,ok.exfs,ok.funs,ok.frf⟩
section
variable{X:Cx}{pins:List (Addr×Obj)}{σ:St}{H:Hp}{s:Shared}{E:Value->Shared->Prop}
theorem Inv.wish(I:Inv X pins σ H s)(E:Value->Shared->Prop):Inv (X.wish E) pins σ H s:=⟨I.ok.wish E,I.os,I.bare,I.base,I.loc,I.cell,I.free,I.freeC,I.pin,I.hok,I.len⟩
theorem Inv.unwish(I:Inv (X.wish E) pins σ H s):Inv X pins σ H s:=⟨I.ok.unwish,I.os,I.bare,I.base,I.loc,I.cell,I.free,I.freeC,I.pin,I.hok,I.len⟩
theorem SP.unwish(h:SP (X.wish E) pins D f s'):SP X pins D f s':=by
 cases f with
 |next=>obtain⟨σ',H',I,q⟩:=h;exact⟨σ',H',I.unwish,q⟩
 |brk=>obtain⟨σ',H',I,q⟩:=h;exact⟨σ',H',I.unwish,q⟩
 |cont=>obtain⟨σ',H',I,q⟩:=h;exact⟨σ',H',I.unwish,q⟩
 |ret u=>obtain⟨v,σ',H',I,r,q⟩:=h;exact⟨v,σ',H',I.unwish,r,q⟩
theorem PSs.nox{st:List Stmt}{t:TS}(h:PSs X.nox st t):PSs X st t:=λpins s σ H D I hw=>
 zxQ (h pins s σ H D (I.wish _) hw) (λ_ _ q=>q.unwish) λ_ _ z=>False.elim z
end
section
variable{X:Cx}{st:Stmt}{rest:List Stmt}{t u:TS}{e:Expr}{te:TE}{pos:Pos}
def zuo:TS:=λD σ H=>D.nx σ H
def zuy(t u:TS):TS:=λD σ H=>t {D with nx:=u D} σ H
theorem zpy:PSs X [] zuo:=λ_ _ σ H _ I h=>wpAny_execs_nil ⟨σ,H,I,h⟩
theorem YT(h1:PS X st t)(h2:PSs X rest u):PSs X (st::rest) (zuy t u):=by
 intro pins s σ H D I h
 refine wpAny_execs_cons (thn (h1 pins s σ H {D with nx:=u D} I h) λf s1 q=>?_)
 cases f with
 |next=>
  obtain⟨σ',H',I',q⟩:=q
  exact h2 pins s1 σ' H' D I' q
 |ret v=>exact q
 |brk=>exact q
 |cont=>exact q
theorem zcf(h1:PS X st t):PSs X [st] t:=by
 intro pins s σ H D I h
 refine wpAny_execs_cons (thn (h1 pins s σ H D I h) λf s1 q=>?_)
 cases f with
 |next=>exact wpAny_execs_nil q
 |ret v=>exact q
 |brk=>exact q
 |cont=>exact q
theorem Inv.quiet(I:Inv X pins σ H s):interactive X.env=false:=by simp[interactive,I.ok.kind]
def zkW(te:TE):TS:=λD σ H=>te σ H λ_ H1=>D.nx σ H1
theorem Wz(he:PE X e te)(hs:swapsWith e none pos.line X.env=pure false:=by rfl):PS X (.Expr e pos) (zkW te):=by
 intro pins s σ H D I h
 exact wpAny_Expr_any (thn (he pins s σ H _ I h) λv s1 ⟨x,H1,I1,r1,q1⟩=>⟨σ,H1,I1,q1⟩) I.quiet hs
def zuW(te:TE):TS:=λD σ H=>te σ H D.rt
theorem zrF(he:PE X e te):PS X (.Return (some e) pos) (zuW te):=by
 intro pins s σ H D I h
 exact wpAny_Return_some (thn (he pins s σ H _ I h) λv s1 ⟨x,H1,I1,r1,q1⟩=>⟨x,σ,H1,I1,r1,q1⟩)
def zvf(c:TT)(t u:TS):TS:=λD σ H=>c σ H λb H1=>if b=true then t D σ H1 else u D σ H1
theorem ztW(hc:PT X c tc)(ha:PSs X a t)(hb:PSs X b u):PS X (.If c a b pos) (zvf tc t u):=by
 intro pins s σ H D I h
 refine wpAny_If (thn (hc pins s σ H _ I h) λd s1 ⟨H1,I1,q1⟩=>?_)
 cases d with
 |true=>exact ha pins s1 σ H1 D I1 q1
 |false=>exact hb pins s1 σ H1 D I1 q1
end
abbrev TG:=V->St->Hp->(St->Hp->Prop)->Prop
abbrev TGs:=List V->St->Hp->(St->Hp->Prop)->Prop
def PG(X:Cx)(target:Expr)(t:TG):Prop:=
 ∀(pins:List (Addr×Obj)) (s:Shared) (σ:St) (H:Hp) (v:V) (u:Value) (Q:St->Hp->Prop),Inv X pins σ H s->RelV v u->t v σ H Q->
  wpAny (model X.prog X.w) X.A (assign target X.env u) (λ_ s'=>∃σ' H',Inv X pins σ' H' s'/\Q σ' H') X.xe s
def PGs(X:Cx)(ts:List Expr)(t:TGs):Prop:=
 ∀(pins:List (Addr×Obj)) (s:Shared) (σ:St) (H:Hp) (vs:List V) (us:List Value) (Q:St->Hp->Prop),Inv X pins σ H s->Vals vs us->t vs σ H Q->
  wpAny (model X.prog X.w) X.A (assignInOrder ((assignEach ts X.env).map (·.2)) us) (λ_ s'=>∃σ' H',Inv X pins σ' H' s'/\Q σ' H') X.xe s
abbrev zuh:=V->V->V->Hp->(Hp->Prop)->Prop
def zto(X:Cx)(t:zuh):Prop:=
 ∀(pins:List (Addr×Obj)) (s:Shared) (σ:St) (H:Hp) (o i v:V) (ov iv u:Value) (Q:Hp->Prop),Inv X pins σ H s->RelV o ov->RelV i iv->RelV v u->t o i v H Q->
  wpAny (model X.prog X.w) X.A (setItem ov iv u) (λ_ s'=>∃H',Inv X pins σ H' s'/\Q H') X.xe s
section
variable{X:Cx}{pos:Pos}
def Wr(i:Nat):TG:=λv σ H Q=>Q (σ.set i (some v)) H
theorem zbb(hN:X.N.Nodup)(hi:X.N[i]? = some x)(hx:Loc X.env.scope x)(hf:X.fn x=true\/X.env.scope.names.lookup x=some .local:=by first|exact .inl rfl|exact .inr rfl|assumption):PG X (.Name x pos) (Wr i):=by
 intro pins s σ H v u Q I r h
 exact wpAny_assign_Name (zck I hN hi hx r (λs' I'=>⟨_,H,I',h⟩) hf)
def zoV:TGs:=λvs σ H Q=>vs=[]/\Q σ H
def zfm(t:TG)(u:TGs):TGs:=λvs σ H Q=>∃v r,vs=v::r/\t v σ H λσ' H'=>u r σ' H' Q
theorem zio:PGs X [] zoV:=by
 intro pins s σ H vs us Q I r h
 obtain⟨e,h⟩:=h
 subst e
 cases r
 exact assignInOrder_nil ⟨σ,H,I,h⟩
theorem zaP(h1:PG X e t)(h2:PGs X es u)
 (hs:(assignEach (e::es) X.env).map (·.2)=assign e X.env::(assignEach es X.env).map (·.2):=by rfl):PGs X (e::es) (zfm t u):=by
 intro pins s σ H vs us Q I r h
 obtain⟨v,vr,e1,h⟩:=h
 subst e1
 cases r with
 |cons r rr=>
  rw[hs]
  refine assignInOrder_cons (thn (h1 pins s σ H _ _ _ I r h) λ_ s1 ⟨σ1,H1,I1,q1⟩=>?_)
  exact h2 pins s1 σ1 H1 _ _ Q I1 rr q1
def zpz(K:zC)(n:Nat)(t:TGs):TG:=λv σ H Q=>∃a xs,v = .ref a/\SqT K H a xs/\xs.length=n/\t xs σ H Q
theorem zkj(hc:X.calm=true)(h:PGs X es t)
 (hn:(assignEach es X.env).length=n:=by rfl) (hst:(assignEach es X.env).findIdx? (·.1)=none:=by rfl):PG X (.Tuple es k pos) (zpz X.K n t):=by
 intro pins s σ H v u Q I r hw
 obtain⟨a,xs,e1,hq,hl,hw⟩:=hw
 subst e1
 cases r
 obtain⟨its,rv,ht,hz⟩:=I.tuple hq
 refine assign_Tuple_tuple (I.ok.hd hc) ht (by simp[hn,<-hl,rv.length]) hst λh' hx=>?_
 have I1:Inv X pins σ H {s with heap:=h'}:=I.kept (t':=s.toks) λb o e=>hx b o (zzN (zxG e)) e
 exact h pins _ σ H xs _ Q I1 (by simpa using rv) hw
def zuS(to ti:TE)(t:zuh):TG:=λv σ H Q=>to σ H λo H1=>ti σ H1 λi H2=>t o i v H2 λH3=>Q σ H3
theorem zrA(ho:PE X o to)(hi:PE X i ti)(hs:zto X t)
 (ha:∀v,assign (.Subscript o i pos) X.env v=(do
  let ov <-holding [v] (eval o X.env)
  let iv <-holding [v,ov] (eval i X.env)
  standAt pos
  holding [v,ov,iv] (setItem ov iv v)
  release [v,ov,iv] []):=by intro _;rfl):PG X (.Subscript o i pos) (zuS to ti t):=by
 intro pins s σ H v u Q I r h
 rw[ha]
 refine zxD (zxK (thn (ho pins s σ H _ I h) λov s1 ⟨x,H1,I1,r1,q1⟩=>?_))
 refine zxD (zxK (thn (hi pins s1 σ H1 _ I1 q1) λiv s2 ⟨y,H2,I2,r2,q2⟩=>?_))
 refine zxD (wpAny_standAt (zxD (zxK (thn (hs pins s2 σ H2 x y v ov iv u _ I2 r1 r2 r q2) λ_ s3 ⟨H3,I3,q3⟩=>?_))))
 exact wpAny_release ⟨σ,H3,I3,q3⟩
def zrl(te:TE)(g:TG):TS:=λD σ H=>te σ H λx H1=>g x σ H1 D.nx
theorem zoG(he:PE X e te)(hg:PG X tg g)(hs:swapsWithSole [tg] e pos.line X.env=pure false:=by rfl)(hw:swappedStores [tg] e X.env=pure none:=by rfl)
 (h1:(assignEach [tg] X.env).map (·.2)=[assign tg X.env]:=by rfl):PS X (.Assign [tg] e pos) (zrl te g):=by
 intro pins s σ H D I h
 refine wpAny_Assign_stores (thn (he pins s σ H _ I h) λv s1 ⟨x,H1,I1,r1,q1⟩=>?_) hs hw
 rw[h1]
 exact thn (hg pins s1 σ H1 x v _ I1 r1 q1) λ_ s2 q=>q
theorem zrE(hN:X.N.Nodup)(hi:X.N[i]? = some x)(hx:Loc X.env.scope x)(he:PE X e te)(hs:swapsWith e (some (.Name x pos')) pos.line X.env=pure false:=by rfl)(hf:X.fn x=true\/X.env.scope.names.lookup x=some .local:=by first|exact .inl rfl|exact .inr rfl|assumption):
 PS X (.Assign [.Name x pos'] e pos) (zrl te (Wr i)):=by
 intro pins s σ H D I h
 refine wpAny_Assign_Name (thn (he pins s σ H _ I h) λv s1 ⟨y,H1,I1,r1,q1⟩=>?_) hs
 exact zck I1 hN hi hx r1 (λs2 I2=>⟨_,H1,I2,q1⟩) hf
def zuG(i j:Nat)(ta:TA):TS:=λD σ H=>ta σ H λvs H1=>∃v w,vs=[v,w]/\D.nx ((σ.set i (some v)).set j (some w)) H1
theorem zsG(hc:X.calm=true)(hN:X.N.Nodup)(hi:X.N[i]? = some x)(hj:X.N[j]? = some y)(hij:i≠j)
 (hx:X.env.scope.names.lookup x=some .local) (hy:X.env.scope.names.lookup y=some .local) (ha:PA X [a,b] ta)
 (hw:swappedStores [.Tuple [.Name x px,.Name y py] kt pt] (.Tuple [a,b] k2 pt2) X.env=pure (some [x,y]))
 (hs:swapsWithSole [.Tuple [.Name x px,.Name y py] kt pt] (.Tuple [a,b] k2 pt2) pos.line X.env=pure false:=by rfl):
 PS X (.Assign [.Tuple [.Name x px,.Name y py] kt pt] (.Tuple [a,b] k2 pt2) pos) (zuG i j ta):=by
 intro pins s σ H D I h
 rw[exec_Assign_arm]
 refine zxD (wpAny_standAt ?_)
 rw[hs]
 refine zxD (zxE ?_)
 rw[if_neg (by decide)]
 refine zxD (Tuple_ (thn (ha _ pins s σ H _ I h) λus s1 ⟨vs,H1,I1,r1,q1⟩=>?_))
 obtain⟨v,w,e1,q1⟩:=q1
 subst e1
 obtain⟨u1,u2,rfl,rv,rw'⟩:∃u1 u2,us=[u1,u2]/\RelV v u1/\RelV w u2:=by
  cases r1 with
  |cons p q=>
   cases q with
   |cons p' q'=>
    cases q'
    exact⟨_,_,rfl,p,p'⟩
 refine zxI ?_ (by show 2<=sizeLine;decide)
 have I2:Inv X pins σ H1 {s1 with heap:=s1.heap.push {cls:=.type "tuple",data:=.seq [u1,u2].toArray}}:=I1.kept (t':=s1.toks) λb o e=>zxF _ e
 rw[hw]
 refine zxD (zxE ?_)
 show wpAny (model X.prog X.w) X.A (do rule "assign.swapped-stores";let items <-unpackItems (.ref s1.heap.objs.size) 2 none;assignInOrder [λv=>bindName X.env y v,λv=>bindName X.env x v] items.reverse;pure Flow.next) _ _ _
 refine zxD (wpAny_rule (zxD (unpackItems_tuple (items:=#[u1,u2]) (I.ok.hd hc) (IsTup.new s1.heap _) λh' hx'=>?_)))
 have I3:=I2.kept (h':=h') (t':=s1.toks) λb o e=>hx' b o (zzN (zxG e)) e
 show wpAny _ _ (assignInOrder [λv=>bindName X.env y v,λv=>bindName X.env x v] [u2,u1] >>= λ_=>pure Flow.next) _ _ _
 refine zxD (assignInOrder_cons (wpAny_bindName (zck I3 hN hj (.inl hy) rw' (λs2 I4=>?_) (.inr hy))))
 refine assignInOrder_cons (wpAny_bindName (zck I4 hN hi (.inl hx) rv (λs3 I5=>assignInOrder_nil (zxE ?_)) (.inr hx)))
 rw[List.set_comm _ _ (Ne.symm hij)]at I5
 exact⟨_,H1,I5,q1⟩
end
section
variable{X:Cx}{pos:Pos}
def zsz(c:TT)(tb:TS):TS:=λD σ H=>∃W:Nat->St->Hp->Prop,(∃m,W m σ H)/\∀m σ H,W m σ H->
 c σ H λb H1=>if b=true then ∃N:St->Hp->Prop,(∀σ' H',N σ' H'->∃m',m'<m/\W m' σ' H')/\tb {D with nx:=N,ct:=N,bk:=D.nx} σ H1 else D.nx σ H1
theorem zoF(hp:PassesOwn (model X.prog X.w) X.A X.env X.xe)(hc:PT X c tc)(hb:PSs X body tb):PS X (.While c body [] pos) (zsz tc tb):=by
 intro pins s σ H D I h
 obtain⟨W,⟨m0,w0⟩,turn⟩:=h
 refine wpAny_While (codeAny_whileLoop (λn s'=>∃σ' H',Inv X pins σ' H' s'/\W n σ' H') ?_ m0 ⟨σ,H,I,w0⟩)
 rintro n s1 ⟨σ1,H1,I1,w1⟩
 refine wpAny_passesOwn hp (thn (hc pins s1 σ1 H1 _ I1 (turn n σ1 H1 w1)) λb s2 ⟨H2,I2,q2⟩=>?_)
 cases b with
 |true=>
  obtain⟨N,hN,q2⟩:=q2
  rw[if_pos rfl]
  refine wpAny_passesOwn hp (thn (hb pins s2 σ1 H2 _ I2 q2) λf s3 q3=>?_)
  cases f with
  |next=>
   obtain⟨σ3,H3,I3,n3⟩:=q3
   obtain⟨m',hm,w3⟩:=hN σ3 H3 n3
   exact⟨m',hm,σ3,H3,I3,w3⟩
  |cont=>
   obtain⟨σ3,H3,I3,n3⟩:=q3
   obtain⟨m',hm,w3⟩:=hN σ3 H3 n3
   exact⟨m',hm,σ3,H3,I3,w3⟩
  |brk=>exact q3
  |ret v=>exact q3
 |false=>
  rw[if_neg zyT]
  exact wpAny_execs_nil ⟨σ1,H2,I2,q2⟩
end
structure It where
 go:Nat->Hp->Prop
 yld:Nat->Hp->V->Hp->Prop
 stop:Nat->Hp->Prop
def zgx(X:Cx)(pins:List (Addr×Obj))(H:Hp)(b:Addr):Prop:=
 H b=none/\b≠X.env.locals/\b ∉ X.fs/\(b ∈ X.ex\/X.s₀.heap.objs.size<=b)/\(∀x c,X.env.cells.lookup x=some c->c≠b)/\∀p ∈ X.pn++pins,p.1≠b
theorem Inv.fpOk(I:Inv X pins σ H s)(hb:s.heap.objs.size<=b)(hn:H' b=none):zgx X pins H' b:=by
 refine⟨hn,Nat.ne_of_gt (zzH I.lt hb),I.nofs hb,.inr (zzL I.sz hb),λx c e z=>?_,λp hp z=>?_⟩
 · obtain⟨v,q⟩:=I.cell x c e
   exact absurd (zzH q.lt (by rw[z];exact hb)) (Nat.lt_irrefl _)
 · exact absurd (zzH (zxG (I.pin p hp).1) (by rw[z];exact hb)) (Nat.lt_irrefl _)
structure Turn(P:Program)(w:World)(K:zC)(tg:Expr)(J:It)(fp:List Addr)(it:Addr)(tn:Nat->Heap->Prop):Prop where
 mem:it ∈ fp
 obj:∀i h,tn i h->∀b ∈ fp,∃o,h.get? b=some o/\∀v,o.data ≠ .cell v
 keep:∀i h h',tn i h->(∀b ∈ fp,∀o,h.get? b=some o->h'.get? b=some o)->tn i h'
 item:∀(X:Cx),X.prog=P->X.w=w->X.K=K->X.calm=true->∀(i:Nat) (pins:List (Addr×Obj)) (s:Shared) (σ:St) (H:Hp) (E:Value->Shared->Prop),Inv X pins σ H s->(∀b ∈ fp,zgx X pins H b)->tn i s.heap->J.go i H->
  wpAny (model P w) X.A (pyNext (.ref it)) (λr s1=>∃u,r=some u/\
   wpAny (model P w) X.A (letOwnedTupleGo tg (.ref it) u) (λ_ s2=>∃x H',Inv X pins σ H' s2/\RelV x u/\J.yld i H x H'/\tn (i+1) s2.heap/\∀b ∈ fp,H' b=none) E s1) E s
 done:∀(X:Cx),X.prog=P->X.w=w->X.K=K->X.calm=true->∀(i:Nat) (pins:List (Addr×Obj)) (s:Shared) (σ:St) (H:Hp) (E:Value->Shared->Prop),Inv X pins σ H s->(∀b ∈ fp,zgx X pins H b)->tn i s.heap->J.stop i H->
  wpAny (model P w) X.A (pyNext (.ref it)) (λr s1=>r=none/\Inv X pins σ H s1) E s
 self:∀(A:Around) (i:Nat) (s:Shared) (Q:Value->Shared->Prop) (E:Value->Shared->Prop),tn i s.heap->Q (.ref it) s->wpAny (model P w) A (pyIter (.ref it)) Q E s
abbrev TI:=St->Hp->(It->Hp->Prop)->Prop
def PIE(X:Cx)(pins:List (Addr×Obj))(σ:St)(tg:Expr)(R:It->Hp->Prop)(itv:Value)(s2:Shared):Prop:=
 ∃(it:Addr) (fp:List Addr) (tn:Nat->Heap->Prop) (J:It) (H':Hp),itv = .ref it/\Inv X pins σ H' s2/\Turn X.prog X.w X.K tg J fp it tn/\tn 0 s2.heap/\(∀b ∈ fp,zgx X pins H' b)/\R J H'
def PI(X:Cx)(tg iter:Expr)(wi:TI):Prop:=
 ∀(pins:List (Addr×Obj)) (s:Shared) (σ:St) (H:Hp) (R:It->Hp->Prop),Inv X pins σ H s->wi σ H R->
  wpAny (model X.prog X.w) X.A (eval iter X.env) (λv s1=>wpAny (model X.prog X.w) X.A (pyIter v) (PIE X pins σ tg R) X.xe s1) X.xe s
theorem zop(ho:s.heap.get? it=some o)(hc:o.cls = .type n)(hd:o.data = .fields vs)
 (hn : ["enumerate","zip","dict_itemiterator","dict_reverseitemiterator","odict_iterator","itertools.zip_longest","itertools.pairwise"].contains n=false) (hQ:Q () s):wpAny M A (letOwnedTupleGo tg (.ref it) u) Q E s:=by
 unfold letOwnedTupleGo
 cases tg<;>first
  |exact zxE hQ
  |(cases u<;>first
   |exact zxE hQ
   | (refine zxD (wpAny_load ho ?_)
      rw[hc,hd]
      show wpAny M A (if(["enumerate","zip","dict_itemiterator","dict_reverseitemiterator","odict_iterator","itertools.zip_longest","itertools.pairwise"].contains n&&vs[0]? == some (rawInt _))=true then _ else _) Q E s
      rw[if_neg (by intro h;rw[hn,Bool.false_and]at h;cases h)]
      exact zxE hQ))
def Itl(K:zC)(a:Addr):It:=
 ⟨λi H=>∃xs x,SqL K H a xs/\xs[i]? = some x,λi H x H'=>H'=H/\∀xs,SqL K H a xs->xs[i]? = some x,λi H=>∃xs,SqL K H a xs/\xs.length<=i⟩
def Itt(K:zC)(a:Addr):It:=
 ⟨λi H=>∃xs x,SqT K H a xs/\xs[i]? = some x,λi H x H'=>H'=H/\∀xs,SqT K H a xs->xs[i]? = some x,λi H=>∃xs,SqT K H a xs/\xs.length<=i⟩
def Itr(lo:Int)(n:Nat):It:=⟨λi _=>i<n,λi H x H'=>H'=H/\x = .int (lo+i),λi _=>n<=i⟩
theorem zmv{P:Program}{w:World}{K:zC}{tg:Expr}(a it:Addr):Turn P w K tg (Itl K a) [it] it (λi h=>h.IsListIter it a i)where
 mem:=by simp
 obj:=λi h st b hb=>by
  have e:b=it:=by simpa using hb
  subst e
  obtain⟨o,e,c,d⟩:=st
  exact⟨o,e,λv z=>by rw[d]at z;cases z⟩
 keep:=λi h h' st k=>st.at λo e=>k it (by simp) o e
 item:=by
  intro X hP hw hK hc i pins s σ H E I hf st hg
  subst hP hw hK
  obtain⟨xs,x,hq,hx⟩:=hg
  obtain⟨its,rv,p,hz⟩:=I.list hq
  obtain⟨u,hu,ru⟩:=rv.get hx
  obtain⟨f0,f1,f2,f3,f4,f5⟩:=hf it (by simp)
  refine wpAny_pyNext_list_item st p.isList (x:=u) (by simpa using hu) λh' st' sb=>?_
  have I1:Inv X pins σ H {s with heap:=h'}:=I.turned (t':=s.toks) (λb o hb e=>(sb.2 b hb).trans e) f0 f1 f3 f4 f5
  obtain⟨o,e,c,d⟩:=id st'
  exact⟨u,rfl,zop (s:={s with heap:=h'}) e c d (by decide) ⟨x,H,I1,ru,⟨rfl,λys hy=>by rw[I.list_inj hy hq];exact hx⟩,st',λb hb=>(hf b hb).1⟩⟩
 done:=by
  intro X hP hw hK hc i pins s σ H E I hf st hg
  subst hP hw hK
  obtain⟨xs,hq,hx⟩:=hg
  obtain⟨its,rv,p,hz⟩:=I.list hq
  obtain⟨f0,f1,f2,f3,f4,f5⟩:=hf it (by simp)
  have hl:=rv.length
  exact wpAny_pyNext_list_end (I.ok.hd hc) st p.isList (by simp;omega) λh' eb=>⟨rfl,I.turned (t':=s.toks) (λb o hb e=>eb b o hb e) f0 f1 f3 f4 f5⟩
 self:=λ_ _ _ _ _ st h=>wpAny_pyIter_listiter st h
theorem zjR{P:Program}{w:World}{K:zC}{tg:Expr}(a it:Addr):Turn P w K tg (Itt K a) [it] it (λi h=>h.IsTupleIter it a i)where
 mem:=by simp
 obj:=λi h st b hb=>by
  have e:b=it:=by simpa using hb
  subst e
  obtain⟨o,e,c,d⟩:=st
  exact⟨o,e,λv z=>by rw[d]at z;cases z⟩
 keep:=λi h h' st k=>st.at λo e=>k it (by simp) o e
 item:=by
  intro X hP hw hK hc i pins s σ H E I hf st hg
  subst hP hw hK
  obtain⟨xs,x,hq,hx⟩:=hg
  obtain⟨its,rv,p,hz⟩:=I.tuple hq
  obtain⟨u,hu,ru⟩:=rv.get hx
  obtain⟨f0,f1,f2,f3,f4,f5⟩:=hf it (by simp)
  refine wpAny_pyNext_tuple_item st (show s.heap.IsTuple a its.toArray from p) (x:=u) (by simpa using hu) λh' st' sb=>?_
  have I1:Inv X pins σ H {s with heap:=h'}:=I.turned (t':=s.toks) (λb o hb e=>(sb.2 b hb).trans e) f0 f1 f3 f4 f5
  obtain⟨o,e,c,d⟩:=id st'
  exact⟨u,rfl,zop (s:={s with heap:=h'}) e c d (by decide) ⟨x,H,I1,ru,⟨rfl,λys hy=>by rw[I.tuple_inj hy hq];exact hx⟩,st',λb hb=>(hf b hb).1⟩⟩
 done:=by
  intro X hP hw hK hc i pins s σ H E I hf st hg
  subst hP hw hK
  obtain⟨xs,hq,hx⟩:=hg
  obtain⟨its,rv,p,hz⟩:=I.tuple hq
  obtain⟨f0,f1,f2,f3,f4,f5⟩:=hf it (by simp)
  have hl:=rv.length
  exact wpAny_pyNext_tuple_end (I.ok.hd hc) st (show s.heap.IsTuple a its.toArray from p) (by simp;omega) λh' eb=>⟨rfl,I.turned (t':=s.toks) (λb o hb e=>eb b o hb e) f0 f1 f3 f4 f5⟩
 self:=λ_ _ _ _ _ st h=>wpAny_pyIter_tupleiter st h
theorem zkb{P:Program}{w:World}{K:zC}{tg:Expr}(it:Addr)(lo:Int)(n:Nat):Turn P w K tg (Itr lo n) [it] it (λi h=>IsRangeIter h it (lo+(i:Nat)*1) ((n:Int)-(i:Nat)) 1)where
 mem:=by simp
 obj:=λi h st b hb=>by
  have e:b=it:=by simpa using hb
  subst e
  exact⟨_,st,λv z=>by
   have z':Data.fields _=Data.cell v:=z
   cases z'⟩
 keep:=λi h h' st k=>k it (by simp) _ st
 item:=by
  intro X hP hw hK hc i pins s σ H E I hf st hg
  subst hP hw hK
  obtain⟨f0,f1,f2,f3,f4,f5⟩:=hf it (by simp)
  have W:=Walks.range (prog:=X.prog) (w:=X.w) (I.ok.hd hc) it lo 1 n
  refine W.item i s _ _ hg st λv h' tk hv st' kk=>?_
  obtain⟨t,rfl⟩:=hv
  have I1:Inv X pins σ H {s with heap:=h',toks:=tk}:=I.turned (λb o hb e=>kk b o (by simpa using hb) e) f0 f1 f3 f4 f5
  refine⟨_,rfl,zop (s:={s with heap:=h',toks:=tk}) (n:="range_iterator") st' rfl rfl (by decide) ⟨.int (lo+i),H,I1,⟨t, ?_⟩,⟨rfl,rfl⟩,st',λb hb=>(hf b hb).1⟩⟩
  rw[Int.mul_one]
 done:=by
  intro X hP hw hK hc i pins s σ H E I hf st hg
  subst hP hw hK
  obtain⟨f0,f1,f2,f3,f4,f5⟩:=hf it (by simp)
  exact wpAny_pyNext_range_end (I.ok.hd hc) st (by have:n<=i:=hg;omega) λh' eb=>⟨rfl,I.turned (t':=s.toks) (λb o hb e=>eb b o hb e) f0 f1 f3 f4 f5⟩
 self:=λ_ _ _ _ _ st h=>wpAny_pyIter_rangeiter st h
end L2
namespace L2
open PySem PySem.Spec PyProof.Rows
section
variable{X:Cx}{tg:Expr}
def zny(K:zC)(tl:TE):TI:=λσ H R=>tl σ H λx H1=>∃a,x = .ref a/\(∃xs,SqL K H1 a xs)/\R (Itl K a) H1
def zuX(K:zC)(tl:TE):TI:=λσ H R=>tl σ H λx H1=>∃a,x = .ref a/\(∃xs,SqT K H1 a xs)/\R (Itt K a) H1
theorem zaV{l:Expr}{tl:TE}(hl:PE X l tl):PI X tg l (zny X.K tl):=by
 intro pins s σ H R I h
 refine thn (hl pins s σ H _ I h) λv s1 ⟨x,H1,I1,r1,q1⟩=>?_
 obtain⟨a,e,⟨xs,hq⟩,q⟩:=q1
 subst e
 cases r1
 obtain⟨its,rv,p,hz⟩:=I1.list hq
 refine wpAny_pyIter_list p.isList ?_
 refine⟨s1.heap.objs.size,[s1.heap.objs.size],_,_,H1,rfl,I1.kept (t':=s1.toks) λb o e=>zxF _ e,zmv a _,⟨_,zxH _ rfl,rfl,rfl⟩,λb hb=>?_,q⟩
 have e:b=s1.heap.objs.size:=by simpa using hb
 subst e
 exact I1.fpOk (zzK _) (I1.hok.fresh (zzK _))
theorem zka{l:Expr}{tl:TE}(hl:PE X l tl):PI X tg l (zuX X.K tl):=by
 intro pins s σ H R I h
 refine thn (hl pins s σ H _ I h) λv s1 ⟨x,H1,I1,r1,q1⟩=>?_
 obtain⟨a,e,⟨xs,hq⟩,q⟩:=q1
 subst e
 cases r1
 obtain⟨its,rv,p,hz⟩:=I1.tuple hq
 refine wpAny_pyIter_tuple (show s1.heap.IsTuple a its.toArray from p) ?_
 refine⟨s1.heap.objs.size,[s1.heap.objs.size],_,_,H1,rfl,I1.kept (t':=s1.toks) λb o e=>zxF _ e,zjR a _,⟨_,zxH _ rfl,rfl,rfl⟩,λb hb=>?_,q⟩
 have e:b=s1.heap.objs.size:=by simpa using hb
 subst e
 exact I1.fpOk (zzK _) (I1.hok.fresh (zzK _))
theorem ziA{pins:List (Addr×Obj)}{σ:St}{H:Hp}{s:Shared}{R:It->Hp->Prop}{E:Value->Shared->Prop}{lo hi:Int}{t u v:Tok}{tk:Nat}(I:Inv X pins σ H s)(h1 : -(2 ^ 62)<=lo)(h2:lo<2 ^ 62)(h3 : -(2 ^ 62)<=hi)(h4:hi<2 ^ 62)
 (q:R (Itr lo (hi-lo).toNat) H):wpAny (model X.prog X.w) X.A (pyIter (.ref s.heap.objs.size)) (PIE X pins σ tg R) E {s with heap:=s.heap.push {cls:=.type "range",data:=.fields #[.int lo t,.int hi u,.int 1 v]},toks:=tk}:=by
 refine wpAny_pyIter_range (IsRange.new ..) (small_one h1 h2 h3 h4) ?_
 have I1:Inv X pins σ H {s with heap:=s.heap.push {cls:=.type "range",data:=.fields #[.int lo t,.int hi u,.int 1 v]},toks:=tk}:=I.kept λb o e=>zxF _ e
 refine⟨(s.heap.push {cls:=.type "range",data:=.fields #[.int lo t,.int hi u,.int 1 v]}).objs.size,[(s.heap.push {cls:=.type "range",data:=.fields #[.int lo t,.int hi u,.int 1 v]}).objs.size],_,_,H,rfl,
  I1.kept (t':=tk) λb o e=>zxF _ e,zkb _ lo (hi-lo).toNat, ?_,λb hb=>?_,q⟩
 · have e1:lo+((0:Nat):Int)*1=lo:=by simp
   have e2:(((hi-lo).toNat:Nat):Int)-((0:Nat):Int)=Builtin.Range.rangeSize lo hi 1:=by rw[rangeSize_one];split<;>omega
   show IsRangeIter _ _ (lo+((0:Nat):Int)*1) ((((hi-lo).toNat:Nat):Int)-((0:Nat):Int)) 1
   rw[e1,e2]
   exact zxH _ rfl
 · have e:b=(s.heap.push {cls:=.type "range",data:=.fields #[.int lo t,.int hi u,.int 1 v]}).objs.size:=by simpa using hb
   subst e
   exact I1.fpOk (zzK _) (I1.hok.fresh (zzK _))
def zun(ta:TA):TI:=λσ H R=>ta σ H λvs H1=>∃j:Int,vs=[.int j] /\ -(2 ^ 62)<=j/\j<2 ^ 62/\R (Itr 0 j.toNat) H1
def ztB(ta:TA):TI:=λσ H R=>ta σ H λvs H1=>∃i j:Int,vs=[.int i,.int j]/\(-(2 ^ 62)<=i/\i<2 ^ 62 /\ -(2 ^ 62)<=j/\j<2 ^ 62)/\R (Itr i (j-i).toNat) H1
theorem zhc{a:Expr}{ta:TA}{p pos:Pos}(hg:Gl X "range")(hm:X.mg "range"=none)(ha:PA X [a] ta)(hs:starEach [a] X.env=[(false,eval a X.env)]:=by rfl):PI X tg (.Call (.Name "range" p) [a] [] pos) (zun ta):=by
 intro pins s σ H R I h
 refine Call_ (VV I hg hm boot_range (PyProof.Rows.callWith_type1 (thn (ha pos pins s σ H _ I h) λus s1 ⟨vs,H1,I1,r1,q1⟩=>?_) hs rfl))
 obtain⟨j,e,q1,q2,q⟩:=q1
 subst e
 cases r1 with
 |cons r rr=>
  cases rr
  obtain⟨t,rfl⟩:=r
  exact call_range_1 (ziA I1 (by omega) (by omega) q1 q2 (by simpa using q))
theorem zms(hg:Gl X "range")(hm:X.mg "range"=none)(ha:PA X [a,b] ta)(hs:starEach [a,b] X.env=[(false,eval a X.env),(false,eval b X.env)]:=by rfl)(hs2:starEach [b] X.env=[(false,eval b X.env)]:=by rfl):
 PI X tg (.Call (.Name "range" p) [a,b] [] pos) (ztB ta):=by
 intro pins s σ H R I h
 refine Call_ (VV I hg hm boot_range (PyProof.Rows.callWith_type1 (thn (ha pos pins s σ H _ I h) λus s1 ⟨vs,H1,I1,r1,q1⟩=>?_) (by rw[hs,hs2]) (by rw[hs2];rfl)))
 obtain⟨i,j,e,⟨q1,q2,q3,q4⟩,q⟩:=q1
 subst e
 cases r1 with
 |cons r rr=>
  cases rr with
  |cons r' rr=>
   cases rr
   obtain⟨t,rfl⟩:=r
   obtain⟨t',rfl⟩:=r'
   exact call_range_2 (ziA I1 q1 q2 q3 q4 q)
def zsk(wi:TI)(g:TG)(tb:TS):TS:=λD σ H=>wi σ H λJ H1=>∃W:Nat->Nat->St->Hp->Prop,(∃m,W 0 m σ H1)/\∀i m σ H,W i m σ H->
 (J.stop i H/\D.nx σ H)\/(J.go i H/\∃N:St->Hp->Prop,(∀σ' H',N σ' H'->∃m',m'<m/\W (i+1) m' σ' H')/\∀x H',J.yld i H x H'->g x σ H' λσ2 H2=>tb {D with nx:=N,ct:=N,bk:=D.nx} σ2 H2)
def zfA(fp:List Addr)(h:Heap):List (Addr×Obj):=fp.filterMap λb=>(h.get? b).map λo=>(b,o)
theorem Vd(hb:b ∈ fp)(e:h.get? b=some o):(b,o) ∈ zfA fp h:=List.mem_filterMap.mpr ⟨b,hb,by rw[e];rfl⟩
theorem zmk(hp:p ∈ zfA fp h):p.1 ∈ fp/\h.get? p.1=some p.2:=by
 obtain⟨b,hb,e⟩:=List.mem_filterMap.mp hp
 cases q:h.get? b with
 |none=>rw[q]at e;cases e
 |some o=>
  rw[q]at e
  have e':(b,o)=p:=zzW e
  subst e'
  exact⟨hb,q⟩
theorem Inv.pinned(I:Inv X pins σ H s)(hf:∀b ∈ fp,zgx X pins H b)(ho:∀b ∈ fp,∃o,s.heap.get? b=some o/\∀v,o.data ≠ .cell v):Inv X (pins++zfA fp s.heap) σ H s:=
 I.pins_of λp hp=>(zzJ.mp hp).elim (λz=>I.pin p (zzI _ z)) λz=>by
  obtain⟨hb,e⟩:=zmk z
  obtain⟨f0,f1,f2,_⟩:=hf p.1 hb
  obtain⟨o,e',d⟩:=ho p.1 hb
  rw[e]at e';cases e'
  exact⟨e,f0,f1,f2,d⟩
theorem Inv.unpinned(I:Inv X (pins++pl) σ H s):Inv X pins σ H s:=I.pins_of λp hp=>I.pin p (zzI _ (zzM _ hp))
theorem zhJ(hp:PassesOwn (model X.prog X.w) X.A X.env X.xe)(hc:X.calm=true)(hi:PI X tg iter wi)(hg:PG X tg g)(hb:PSs X body tb)
 (hs:∀x,foldedSetIterable iter X.env x=pure x:=by intro _;rfl):PS X (.For tg iter body [] pos) (zsk wi g tb):=by
 intro pins s σ H D I h
 refine wpAny_For (thn (hi pins s σ H _ I h) λv s1 h1=>thn h1 λitv s2 h2=>?_) hs
 obtain⟨it,fp,tn,J,H2,e,I2,T,st2,f2,W,⟨m0,w0⟩,turn⟩:=h2
 subst e
 have stat:∀{H':Hp},(∀b ∈ fp,H' b=none)->∀b ∈ fp,zgx X pins H' b:=λhn b hb=>⟨hn b hb,(f2 b hb).2⟩
 refine codeAny_forLoop_any (λn s'=>∃i σ' H',Inv X pins σ' H' s'/\tn i s'.heap/\(∀b ∈ fp,H' b=none)/\W i n σ' H') ?_ m0 ⟨0,σ,H2,I2,st2,λb hb=>(f2 b hb).1,w0⟩
 rintro n s3 ⟨i,σ3,H3,I3,st3,fr3,w3⟩
 rcases turn i n σ3 H3 w3 with⟨stop,qn⟩|⟨go,N,hN,step⟩
 · refine wpAny_passesOwn hp (thn (T.done X rfl rfl rfl hc i pins s3 σ3 H3 X.xe I3 (stat fr3) st3 stop) λr s4 ⟨hr,I4⟩=>?_)
   subst hr
   exact wpAny_execs_nil ⟨σ3,H3,I4,qn⟩
 · refine wpAny_passesOwn hp (thn (T.item X rfl rfl rfl hc i pins s3 σ3 H3 X.xe I3 (stat fr3) st3 go) λr s4 ⟨u,hr,h4⟩=>?_)
   subst hr
   refine wpAny_passesOwn hp (thn h4 λ_ s5 ⟨x,H5,I5,r5,y5,st5,fr5⟩=>?_)
   have I5':=I5.pinned (stat fr5) (T.obj _ _ st5)
   refine wpAny_passesOwn hp (thn (hg _ s5 σ3 H5 x u _ I5' r5 (step x H5 y5)) λ_ s6 ⟨σ6,H6,I6,q6⟩=>?_)
   refine wpAny_passesOwn hp (thn (hb _ s6 σ6 H6 _ I6 q6) λf s7 q7=>?_)
   have again:∀{σ7:St}{H7:Hp},Inv X (pins++zfA fp s5.heap) σ7 H7 s7->N σ7 H7->∃m,m<n/\∃i σ' H',Inv X pins σ' H' s7/\tn i s7.heap/\(∀b ∈ fp,H' b=none)/\W i m σ' H':=λ{σ7 H7} I7 n7=>by
    obtain⟨m',hm,w7⟩:=hN σ7 H7 n7
    refine⟨m',hm,i+1,σ7,H7,I7.unpinned,T.keep _ _ _ st5 λb hb o e=>(I7.pin (b,o) (zzI _ (zzI _ (Vd hb e)))).1,λb hb=>?_,w7⟩
    obtain⟨o,e,d⟩:=T.obj _ _ st5 b hb
    exact(I7.pin (b,o) (zzI _ (zzI _ (Vd hb e)))).2.1
   cases f with
   |next=>obtain⟨σ7,H7,I7,n7⟩:=q7;exact again I7 n7
   |cont=>obtain⟨σ7,H7,I7,n7⟩:=q7;exact again I7 n7
   |brk=>obtain⟨σ7,H7,I7,q7⟩:=q7;exact⟨σ7,H7,I7.unpinned,q7⟩
   |ret v=>obtain⟨x7,σ7,H7,I7,r7,q7⟩:=q7;exact⟨x7,σ7,H7,I7.unpinned,r7,q7⟩
end
theorem ziR{K:zC}{a:Addr}{xs:List V}{g:TG}{tb:TS}{D:Ends}{σ:St}{H:Hp}(Pv:Nat->St->Hp->Prop)(h0:Pv 0 σ H)(hl:∀i σ H,i<=xs.length->Pv i σ H->SqL K H a xs)
 (hs:∀i x σ H,xs[i]? = some x->Pv i σ H->g x σ H λσ2 H2=>tb {D with nx:=Pv (i+1),ct:=Pv (i+1),bk:=D.nx} σ2 H2) (hd:∀σ H,Pv xs.length σ H->D.nx σ H):
 ∃W:Nat->Nat->St->Hp->Prop,(∃m,W 0 m σ H)/\∀i m σ H,W i m σ H->
  ((Itl K a).stop i H/\D.nx σ H)\/((Itl K a).go i H/\∃N:St->Hp->Prop,(∀σ' H',N σ' H'->∃m',m'<m/\W (i+1) m' σ' H')/\∀x H',(Itl K a).yld i H x H'->g x σ H' λσ2 H2=>tb {D with nx:=N,ct:=N,bk:=D.nx} σ2 H2):=by
 refine⟨λi m σ H=>m=xs.length-i/\i<=xs.length/\Pv i σ H,⟨xs.length,by simp,Nat.zero_le _,h0⟩, ?_⟩
 rintro i m σ H ⟨rfl,hi,p⟩
 have q:=hl i σ H hi p
 by_cases hlt:i<xs.length
 · refine .inr ⟨⟨xs,xs[i],q,by simp[hlt]⟩,Pv (i+1),λσ' H' p'=>⟨xs.length-(i+1),by omega,rfl,hlt,p'⟩,λx H' y=>?_⟩
   obtain⟨e,y⟩:=y
   subst e
   exact hs i x σ _ (y xs q) p
 · have e:i=xs.length:=by omega
   subst e
   exact .inl ⟨⟨xs,q,zzK _⟩,hd σ H p⟩
end L2
namespace L2
open PySem PySem.Spec PyProof.Rows
abbrev R2:=V->V->Hp->VK->Prop
def OpR(X:Cx)(f:Value->Value->Sem Value)(r:R2):Prop:=
 ∀(pins:List (Addr×Obj)) (s:Shared) (σ:St) (H:Hp) (x y:V) (v u:Value) (Q:VK),Inv X pins σ H s->RelV x v->RelV y u->r x y H Q->
  wpAny (model X.prog X.w) X.A (f v u) (EP X pins σ Q) X.xe s
def UnR(X:Cx)(f:Value->Sem Value)(r:V->Hp->VK->Prop):Prop:=
 ∀(pins:List (Addr×Obj)) (s:Shared) (σ:St) (H:Hp) (x:V) (v:Value) (Q:VK),Inv X pins σ H s->RelV x v->r x H Q->
  wpAny (model X.prog X.w) X.A (f v) (EP X pins σ Q) X.xe s
def zbn(X:Cx)(f:Value)(r:List V->Hp->VK->Prop):Prop:=
 ∀(pins:List (Addr×Obj)) (s:Shared) (σ:St) (H:Hp) (xs:List V) (us:List Value) (Q:VK),Inv X pins σ H s->Vals xs us->r xs H Q->
  wpAny (model X.prog X.w) X.A (call f us) (EP X pins σ Q) X.xe s
def zvh(X:Cx)(r:V->Hp->(Bool->Hp->Prop)->Prop):Prop:=
 ∀(pins:List (Addr×Obj)) (s:Shared) (σ:St) (H:Hp) (x:V) (v:Value) (Q:Bool->Hp->Prop),Inv X pins σ H s->RelV x v->r x H Q->
  wpAny (model X.prog X.w) X.A (truthy v) (TP X pins σ Q) X.xe s
def tOp(r:R2)(ta tb:TE):TE:=λσ H Q=>ta σ H λx H1=>tb σ H1 λy H2=>r x y H2 Q
def tUn(r:V->Hp->VK->Prop)(ta:TE):TE:=λσ H Q=>ta σ H λx H1=>r x H1 Q
def rI(C:Int->Int->Prop)(g:Int->Int->V):R2:=λx y H Q=>∃i j,x = .int i/\y = .int j/\C i j/\Q (g i j) H
def rI0(g:Int->Int->V):R2:=λx y H Q=>∃i j,x = .int i/\y = .int j/\Q (g i j) H
def rU(g:Int->V):V->Hp->VK->Prop:=λx H Q=>∃i,x = .int i/\Q (g i) H
section
variable{X:Cx}{a b c:Expr}{ta tb tc:TE}{pos:Pos}
theorem ztf(ha:PE X a ta)(hb:PE X b tb){pins:List (Addr×Obj)}{s:Shared}{σ:St}{H:Hp}{R:V->V->Hp->Prop}(I:Inv X pins σ H s)
 (h:ta σ H λx H1=>tb σ H1 λy H2=>R x y H2) {Q:Value->Shared->Prop}{f:Value->Value->Sem Value}
 (hf:∀v u s2 x y H2,Inv X pins σ H2 s2->RelV x v->RelV y u->R x y H2->wpAny (model X.prog X.w) X.A (f v u) Q X.xe s2):
 wpAny (model X.prog X.w) X.A (eval a X.env) (λv s₁=>wpAny (model X.prog X.w) X.A (eval b X.env) (λu s₂=>wpAny (model X.prog X.w) X.A (f v u) Q X.xe s₂) X.xe s₁) X.xe s:=by
 refine thn (ha pins s σ H _ I h) λv s1 ⟨x,H1,I1,r1,q1⟩=>?_
 refine thn (hb pins s1 σ H1 _ I1 q1) λu s2 ⟨y,H2,I2,r2,q2⟩=>?_
 exact hf v u s2 x y H2 I2 r1 r2 q2
theorem zua{op:Operator}{r:R2}(ho:OpR X (binaryOp op) r)(ha:PE X a ta)(hb:PE X b tb):PE X (.BinOp a op b pos) (tOp r ta tb):=by
 intro pins s σ H Q I h
 exact wpAny_BinOp (ztf ha hb I h λv u s2 x y H2 I2 rx ry q=>ho pins s2 σ H2 x y v u Q I2 rx ry q)
theorem ztt(ho:UnR X (unaryOp op) r)(ha:PE X a ta):PE X (.UnaryOp op a pos) (tUn r ta):=by
 intro pins s σ H Q I h
 exact UnaryOp_ (thn (ha pins s σ H _ I h) λv s1 ⟨x,H1,I1,r1,q1⟩=>ho pins s1 σ H1 x v Q I1 r1 q1)
theorem opI{f:Value->Value->Sem Value}{C:Int->Int->Prop}{g:Int->Int->Int}
 (rule:∀(i j:Int) (t u:Tok) (s:Shared) (Q:Value->Shared->Prop) (E:Value->Shared->Prop),C i j->Q (.int (g i j) s.toks) {s with toks:=s.toks+1}->wpAny (model X.prog X.w) X.A (f (.int i t) (.int j u)) Q E s):
 OpR X f (rI C λi j=>.int (g i j)):=by
 intro pins s σ H x y v u Q I rx ry h
 obtain⟨i,j,rfl,rfl,hc,q⟩:=h
 obtain⟨t,rfl⟩:=rx
 obtain⟨t',rfl⟩:=ry
 exact rule i j t t' s _ _ hc ⟨.int (g i j),H,I.tok _,⟨_,rfl⟩,q⟩
theorem zur{f:Value->Value->Sem Value}{g:Int->Int->Int}
 (rule:∀(i j:Int) (t u:Tok) (s:Shared) (Q:Value->Shared->Prop) (E:Value->Shared->Prop),Q (.int (g i j) s.toks) {s with toks:=s.toks+1}->wpAny (model X.prog X.w) X.A (f (.int i t) (.int j u)) Q E s):
 OpR X f (rI0 λi j=>.int (g i j)):=by
 intro pins s σ H x y v u Q I rx ry h
 obtain⟨i,j,rfl,rfl,q⟩:=h
 obtain⟨t,rfl⟩:=rx
 obtain⟨t',rfl⟩:=ry
 exact rule i j t t' s _ _ ⟨.int (g i j),H,I.tok _,⟨_,rfl⟩,q⟩
theorem zoK{f:Value->Value->Sem Value}{g:Int->Int->Bool}
 (rule:∀(i j:Int) (t u:Tok) (s:Shared) (Q:Value->Shared->Prop) (E:Value->Shared->Prop),Q (.bool (g i j)) s->wpAny (model X.prog X.w) X.A (f (.int i t) (.int j u)) Q E s):
 OpR X f (rI0 λi j=>.bl (g i j)):=by
 intro pins s σ H x y v u Q I rx ry h
 obtain⟨i,j,rfl,rfl,q⟩:=h
 obtain⟨t,rfl⟩:=rx
 obtain⟨t',rfl⟩:=ry
 exact rule i j t t' s _ _ ⟨.bl (g i j),H,I,rfl,q⟩
def zus(i j:Int):Prop:=0<=j/\j<=1000000/\i.natAbs<2 ^ 64
theorem zrT:OpR X (binaryOp .Add) (rI0 λi j=>.int (i+j)):=zur λ_ _ _ _ _ _ _ q=>add_int q
theorem zrD:OpR X (binaryOp .Sub) (rI0 λi j=>.int (i-j)):=zur λ_ _ _ _ _ _ _ q=>sub_int q
theorem zta:OpR X (binaryOp .Mod) (rI (λ_ j=>0<j) λi j=>.int (i%j)):=opI λi j _ _ _ _ _ hc q=>by
 have h1:(0:Int)<j:=hc
 exact mod_int' (by omega) (by rw[Int.fmod_eq_emod_of_nonneg i (by omega)];exact q)
theorem zro:OpR X (binaryOp .Pow) (rI zus λi j=>.int (i ^ j.toNat)):=opI λ_ _ _ _ _ _ _ hc q=>pow_int_small hc.1 hc.2.1 hc.2.2 q
theorem zsR:OpR X (binaryOp .LShift) (rI zus λi j=>.int (i*2 ^ j.toNat)):=opI λ_ _ _ _ _ _ _ hc q=>lshift_int_small hc.1 hc.2.1 hc.2.2 q
theorem unI{f:Value->Sem Value}{g:Int->Int}
 (rule:∀(i:Int) (t:Tok) (s:Shared) (Q:Value->Shared->Prop) (E:Value->Shared->Prop),Q (.int (g i) s.toks) {s with toks:=s.toks+1}->wpAny (model X.prog X.w) X.A (f (.int i t)) Q E s):
 UnR X f (rU λi=>.int (g i)):=by
 intro pins s σ H x v Q I rx h
 obtain⟨i,rfl,q⟩:=h
 obtain⟨t,rfl⟩:=rx
 exact rule i t s _ _ ⟨.int (g i),H,I.tok _,⟨_,rfl⟩,q⟩
theorem zrO:UnR X (unaryOp .USub) (rU λi=>.int (-i)):=unI λ_ _ _ _ _ q=>neg_int q
end
section
variable{X:Cx}{a b c:Expr}{ta tb tc:TE}{pos:Pos}
theorem vA(I:Inv X pins σ H s)(q:Q (.bl k) H)(e:k=k'):EP X pins σ Q (.bool k') s:=by
 subst e
 exact⟨.bl k,H,I,rfl,q⟩
theorem ztJ:OpR X (compareOp .Lt) (rI0 λi j=>.bl (decide (i<j))):=zoK λ_ _ _ _ _ _ _ q=>lt_int q
theorem ztz:OpR X (compareOp .LtE) (rI0 λi j=>.bl (decide (i<=j))):=zoK λ_ _ _ _ _ _ _ q=>le_int q
theorem ztT:OpR X (compareOp .Gt) (rI0 λi j=>.bl (decide (j<i))):=zoK λ_ _ _ _ _ _ _ q=>gt_int q
theorem zuj:OpR X (compareOp .GtE) (rI0 λi j=>.bl (decide (j<=i))):=zoK λ_ _ _ _ _ _ _ q=>ge_int q
theorem zlL:OpR X (compareOp .In) (λx y H Q=>∃i j,x = .str i/\y = .str j/\Q (.bl (!(Builtin.Str.occurrences j i 0 j.length 1).isEmpty)) H):=by
 intro pins s σ H x y v u Q I rx ry h
 obtain⟨i,j,rfl,rfl,q⟩:=h
 obtain⟨t,rfl⟩:=rx
 obtain⟨t',rfl⟩:=ry
 exact in_str (vA I q rfl)
theorem zru:OpR X (compareOp .Is) (λx y H Q=>y = .non/\Q (.bl (decide (x = .non))) H):=by
 intro pins s σ H x y v u Q I rx ry h
 obtain⟨rfl,q⟩:=h
 cases ry
 refine is_none_gen (vA I q ?_)
 cases x<;>first
  |(cases rx;rfl)
  |(obtain⟨t,rfl⟩:=rx;rfl)
theorem zqD:OpR X (compareOp .IsNot) (λx y H Q=>y = .non/\Q (.bl (!decide (x = .non))) H):=by
 intro pins s σ H x y v u Q I rx ry h
 obtain⟨rfl,q⟩:=h
 cases ry
 refine isnot_none_gen (vA I q ?_)
 cases x<;>first
  |(cases rx;rfl)
  |(obtain⟨t,rfl⟩:=rx;rfl)
theorem zia:OpR X (compareOp .NotIn) (λx y H Q=>∃i j,x = .str i/\y = .str j/\Q (.bl (!(!(Builtin.Str.occurrences j i 0 j.length 1).isEmpty))) H):=by
 intro pins s σ H x y v u Q I rx ry h
 obtain⟨i,j,rfl,rfl,q⟩:=h
 obtain⟨t,rfl⟩:=rx
 obtain⟨t',rfl⟩:=ry
 exact notIn_str (vA I q rfl)
theorem yu(b:Expr)(h:op ≠ .In:=by decide)(h2:op ≠ .NotIn:=by decide):behindInMarks op b=false:=by
 have e1:(op==CmpOp.In)=false:=by cases op<;>first|rfl|exact absurd rfl h
 have e2:(op==CmpOp.NotIn)=false:=by cases op<;>first|rfl|exact absurd rfl h2
 cases b<;>simp[behindInMarks,e1,e2]
theorem zpw{op:CmpOp}{r:R2}(ho:OpR X (compareOp op) r)(ha:PE X a ta)(hb:PE X b tb)(hm:behindInMarks op b=false):PE X (.Compare a [op] [b] pos) (tOp r ta tb):=by
 intro pins s σ H Q I h
 exact wpAny_Compare1 (ztf ha hb I h λv u s2 x y H2 I2 rx ry q=>ho pins s2 σ H2 x y v u Q I2 rx ry q) hm
def ztx(t:TE):TT:=λσ H Q=>t σ H λx H'=>∃k,x = .bl k/\Q k H'
theorem zpS(ho:OpR X (compareOp op) r)(ha:PE X a ta)(hb:PE X b tb)(hm:behindInMarks op b=false):PT X (.Compare a [op] [b] pos) (ztx (tOp r ta tb)):=by
 intro pins s σ H Q I h
 refine wpAny_isTrue_Compare1 (thn (ha pins s σ H _ I h) λv s1 ⟨x,H1,I1,r1,q1⟩=>thn (hb pins s1 σ H1 _ I1 q1) λu s2 ⟨y,H2,I2,r2,q2⟩=>
  thn (ho pins s2 σ H2 x y v u _ I2 r1 r2 q2) λc s3 ⟨z,H3,I3,r3,k,e,q3⟩=>?_) hm
 subst e
 cases r3
 exact wpAny_truthy_bool ⟨H3,I3,q3⟩
def zsm(r r':R2)(ta tb tc:TE):TE:=λσ H Q=>ta σ H λx H1=>tb σ H1 λy H2=>r x y H2 λz H3=>∃k,z = .bl k/\
 (if k=true then tc σ H3 λw' H4=>r' y w' H4 Q else Q (.bl false) H3)
theorem zok(ho:OpR X (compareOp op) r)(ho':OpR X (compareOp op') r')(ha:PE X a ta)(hb:PE X b tb)(hc:PE X c tc)
 (hm:lastMarks [op,op'] [b,c]=false:=by with_unfolding_all rfl):PE X (.Compare a [op,op'] [b,c] pos) (zsm r r' ta tb tc):=by
 intro pins s σ H Q I h
 refine Compare_chain (thn (ha pins s σ H _ I h) λv s1 ⟨x,H1,I1,r1,q1⟩=>chain_link (thn (hb pins s1 σ H1 _ I1 q1) λu s2 ⟨y,H2,I2,r2,q2⟩=>
  thn (ho pins s2 σ H2 x y v u _ I2 r1 r2 q2) λd s3 ⟨z,H3,I3,r3,k,e,q3⟩=>?_)) hm
 subst e
 cases r3
 refine wpAny_truthy_bool ?_
 cases k with
 |false=>exact ite_ff ⟨.bl false,H3,I3,rfl,q3⟩
 |true=>exact ite_tt (chain_last (thn (hc pins s3 σ H3 _ I3 q3) λw' s4 ⟨z',H4,I4,r4,q4⟩=>ho' pins s4 σ H4 y z' u w' Q I4 r2 r4 q4))
def zrj(K:zC)(x:V)(H:Hp)(k:Bool):Prop:=
 match x with
 | .non=>k=false
 | .bl b=>k=b
 | .int i=>k=(i != 0)
 | .str y=>y.length<=sizeLine/\k=((y.length:Int) != 0)
 | .byt y=>y.size<=sizeLine/\k=((y.size:Int) != 0)
 | .ref p=>(∃xs,SqL K H p xs/\k = !xs.isEmpty)\/(∃xs,SqT K H p xs/\k = !xs.isEmpty)\/∃kvs,H p=some (.dK kvs)/\k = !kvs.isEmpty
 |_=>False
theorem zjF(r:KV kvs vs):(!vs.isEmpty) = !kvs.isEmpty:=by
 cases r<;>rfl
theorem zgl(r:Vals xs its):(!its.toArray.isEmpty) = !xs.isEmpty:=by
 cases r<;>simp
theorem zbE:(sizeLine:Nat)<2 ^ 63:=by rw[sizeLine_eq];decide
theorem zsr:zvh X (λx H Q=>∃k,zrj X.K x H k/\Q k H):=by
 intro pins s σ H x v Q I rx h
 obtain⟨k,e,q⟩:=h
 have hl:=zbE
 have hs:sizeLine=16777216:=sizeLine_eq
 cases x with
 |non=>
  cases rx
  have e':k=false:=e
  subst e'
  exact truthy_none ⟨H,I,q⟩
 |bl b=>
  cases rx
  have e':k=b:=e
  subst e'
  exact wpAny_truthy_bool ⟨H,I,q⟩
 |int i=>
  obtain⟨t,rfl⟩:=rx
  have e':k=(i != 0):=e
  subst e'
  exact PySem.P.truthy_int ⟨H,I,q⟩
 |str y=>
  obtain⟨t,rfl⟩:=rx
  obtain⟨hy,e'⟩:y.length<=sizeLine/\k=((y.length:Int) != 0):=e
  subst e'
  exact PySem.P.truthy_str (by omega) ⟨H,I.tok _,q⟩
 |byt y=>
  obtain⟨t,rfl⟩:=rx
  obtain⟨hy,e'⟩:y.size<=sizeLine/\k=((y.size:Int) != 0):=e
  subst e'
  exact PySem.W.truthy_bytes (by omega) ⟨H,I.tok _,q⟩
 |ref p=>
  cases rx
  have e':(∃xs,SqL X.K H p xs/\k = !xs.isEmpty)\/(∃xs,SqT X.K H p xs/\k = !xs.isEmpty)\/∃kvs,H p=some (.dK kvs)/\k = !kvs.isEmpty:=e
  rcases e' with⟨xs,hx,e'⟩|⟨xs,hx,e'⟩|⟨kvs,hx,e'⟩
  · subst e'
    obtain⟨its,r,pl,hz⟩:=I.list hx
    have hlen:=r.length
    exact wpAny_truthy_list pl.isList (by simp only[zzE];omega) ⟨H,I.tok _,by rw[zgl r];exact q⟩
  · subst e'
    obtain⟨its,r,pl,hz⟩:=I.tuple hx
    have hlen:=r.length
    exact truthy_tuple pl (by simp only[zzE];omega) ⟨H,I.tok _,by rw[zgl r];exact q⟩
  · subst e'
    obtain⟨hz,hS,vs,r,m⟩:kvs.length<=sizeLine/\(p==sysModules)=false/\∃vs,KV kvs vs/\s.heap.DictOf (wN X.prog X.w) p vs:=I.hok p _ hx
    have hlen:kvs.length=vs.length:=Paired.length r
    exact wpAny_truthy_dict hS m (by omega) ⟨H,I.tok _,by rw[zjF r];exact q⟩
 |_=>exact(show False from e).elim
theorem zmR(ha:PE X a ta)(he:∀whole,isTrue a X.env whole=(do let v <-whole;standAt a.pos;holding [v] (truthy v))):
 PT X a (λσ H Q=>ta σ H λx H'=>∃k,zrj X.K x H' k/\Q k H'):=by
 intro pins s σ H Q I h
 exact isTrue_plain (thn (ha pins s σ H _ I h) λv s1 ⟨x,H1,I1,r1,q1⟩=>zsr pins s1 σ H1 x v Q I1 r1 q1) (he _)
theorem zjY:OpR X (binaryOp .Add) (λx y H Q=>∃i j,x = .str i/\y = .str j/\i.length+j.length<=sizeLine/\Q (.str (i++j)) H):=by
 intro pins s σ H x y v u Q I rx ry h
 obtain⟨i,j,rfl,rfl,hz,q⟩:=h
 obtain⟨t,rfl⟩:=rx
 obtain⟨t',rfl⟩:=ry
 exact add_str (λt' tk=>⟨.str (i++j),H,I.tok _,⟨_,rfl⟩,q⟩) hz
theorem vals1(r:Vals [x] us):∃u,us=[u]/\RelV x u:=by
 cases r with
 |cons r1 r2=>cases r2;exact⟨_,rfl,r1⟩
theorem vals2(r:Vals [x,y] us):∃u w',us=[u,w']/\RelV x u/\RelV y w':=by
 cases r with
 |cons r1 r2=>
  cases r2 with
  |cons r3 r4=>cases r4;exact⟨_,_,rfl,r1,r3⟩
theorem zlG(hc:X.calm=true):zbn X (.builtin "max") (λxs H Q=>∃i j,xs=[.int i,.int j]/\Q (.int (if j > i then j else i)) H):=by
 intro pins s σ H xs us Q I r h
 obtain⟨i,j,rfl,q⟩:=h
 obtain⟨u,w',rfl,⟨t,rfl⟩,⟨t',rfl⟩⟩:=vals2 r
 refine max_two_ints (I.ok.hd hc) λh' tk k=>⟨_,H,I.kept k, ?_,q⟩
 by_cases hj:j > i
 · rw[if_pos hj,if_pos hj];exact⟨_,rfl⟩
 · rw[if_neg hj,if_neg hj];exact⟨_,rfl⟩
theorem zgM:zbn X (.type "int") (λxs H Q=>(∃i,xs=[.int i]/\Q (.int i) H)\/∃k,xs=[.bl k]/\Q (.int (if k then 1 else 0)) H):=by
 intro pins s σ H xs us Q I r h
 rcases h with⟨i,rfl,q⟩|⟨k,rfl,q⟩
 · obtain⟨u,rfl,t,rfl⟩:=vals1 r
   exact call_int_int ⟨.int i,H,I,⟨_,rfl⟩,q⟩
 · obtain⟨u,rfl,r1⟩:=vals1 r
   cases r1
   exact call_int_bool ⟨.int (if k then 1 else 0),H,I.tok _,⟨_,rfl⟩,q⟩
end
end L2
namespace L2
open PySem PySem.Spec PyProof.Rows
structure ObjM(h:Heap)(x dx C:Addr)(mA:Str->Option Value):Prop where
 obj:h.get? x=some (PySem.W.instObj C dx)
 ns:h.Ns1 dx mA
 ne:dx≠x
theorem zlM{h:Heap}{dx:Addr}{mA:Str->Option Value}(n:h.Ns1 dx mA):∃od,h.get? dx=some od/\∀name,PySem.W.lookIn name od=some (mA name):=by
 obtain⟨o,es,ep,ho,hd,hk,_,hm⟩:=n
 refine⟨o,ho,λname=>?_⟩
 have e:=hm name
 unfold nsFind findBy at e
 rw[<-Array.find?_toList]at e
 unfold PySem.W.lookIn
 rw[hd]
 dsimp only
 split
 · rename_i y q
   rw[q]at e
   exact congrArg some e
 · rename_i q
   rw[q]at e
   have a:es.toList.any (·.refKey)=false:=by
    rw[List.any_eq_false]
    intro y hy
    obtain⟨z,t,hkey⟩:=hk y (Array.mem_toList_iff.mp hy)
    simp[DictEntry.refKey,hkey]
   have a':¬es.toList.any (·.refKey)=true:=by rw[a];exact zyT
   rw[if_neg a']
   exact congrArg some e
theorem ObjM.look(I:ObjM h x dx C mA):∃od,PySem.W.InstAt h x (PySem.W.instObj C dx) C (some od)/\∀name,PySem.W.lookIn name od=some (mA name):=
 let⟨od,ho,hl⟩:=zlM I.ns
 ⟨od,⟨I.obj,rfl,rfl,ho⟩,hl⟩
section
variable{prog:Program}{w:World}{A:Around}{E:Value->Shared->Prop}{s:Shared}{K:zC}{x dx C f:Addr}{mA:Str->Option Value}{name:Str}{v:Value}
theorem zqz(X:K.In s.heap)(I:ObjM s.heap x dx C mA)(hg:PySem.W.plainGet K C name=true)(hh:PySem.W.hasDictIn K C=true)
 (ha:PySem.W.findIn K (.ref C) name=some none) (hv:mA name=some v) (hv':PySem.W.handedIn v=true) (h:Q v {s with toks:=s.toks+1}):
 wpAny (model prog w) A (getAttr (.ref x) name expr) Q E s:=by
 obtain⟨od,J,hl⟩:=I.look
 exact PySem.W.get_value X J (PySem.W.plainGet_of hg).1 (PySem.W.findObj_own hh ha rfl (by rw[hl,hv])) hv' h
theorem zou(X:K.In s.heap)(I:ObjM s.heap x dx C mA)(hg:PySem.W.plainGet K C name=true)
 (hf:PySem.W.findIn K (.ref C) name=some (some (.ref f))) (ht:PySem.W.isFn K (.ref f)=true) (hv:mA name=none) (h:Q (.ref f,[.ref x]) s):
 wpAny (model prog w) A (getMethod (.ref x) name pl) Q E s:=by
 obtain⟨od,J,hl⟩:=I.look
 exact PySem.W.method_fn X J (PySem.W.plainGet_of hg).1 (PySem.W.plainGet_of hg).2 hf (beq_iff_eq.mp ht) (by show(PySem.W.lookIn name od).map (·.isSome)=some false;rw[hl,hv];rfl) h
theorem zqw(X:K.In s.heap)(I:ObjM s.heap x dx C mA)
 (hs:PySem.W.findIn K (.ref C) "__setattr__"=some (some (.builtin "object.__setattr__"))) (hp:PySem.W.plainOver K C=true) (ht:PySem.W.takerIn K C name=some none) (hh:PySem.W.hasDictIn K C=true)
 (hw:PySem.Within mA ns) (hsz:ns.length<=sizeLine)
 (h:∀h',ObjM h' x dx C (λy=>if y=name then some v else mA y)->Heap.SameBut dx s.heap h'->Q () {s with heap:=h',toks:=s.toks+2}):
 wpAny (model prog w) A (setAttr (.ref x) name v) Q E s:=by
 obtain⟨od,J,hl⟩:=I.look
 refine PySem.W.set_plain X J hs (PySem.W.osa_open (s:={s with toks:=s.toks+1}) (r:=none) X J hp ht λb=>?_)
 obtain⟨cd,hc,hd'⟩:=PySem.W.any_some hh
 have hx:s.heap.get? x=some ⟨.ref C,some dx,.plain,#[]⟩:=I.obj
 refine zxD (zxE (zxD (zxD (wpAny_loadPart hx (zxD (PySem.W.Looks.here (s:={s with toks:=s.toks+1}) (PySem.W.looks_clsIn X hc) ?_))))))
 rw[hd']
 refine zxE (a:=some dx) (zxD (zxE (zxD ?_)))
 refine wpAny_nsSet1 (s:={s with toks:=s.toks+1}) I.ns λh' hn2 hs2=>?_
 obtain⟨oD,esD,epD,hoD,hdD,hcD⟩:=hn2.count (PySem.Within.cons name v hw)
 refine zxD (wpAny_lookBehind hoD (by rw[hdD];exact pastItsLine_dict (zzL hcD (by rw[zzQ];omega))) ?_)
 exact zxE (h _ ⟨(hs2.2 _ (Ne.symm I.ne)).trans I.obj,hn2,I.ne⟩ hs2)
theorem znN(X:K.In s.heap)(hm:PySem.W.makesIn K C=true)
 (hi:PySem.W.findIn K (.ref C) "__init__"=some (some (.ref f))) (hf:PySem.W.typeIn K (.ref f)=some (.type "function"))
 (h:codeAny (model prog w) (A.under (.builtin "type.__call__" ⟨.ref C::vs,kw⟩)) (.call (.ref f) ⟨.ref (s.heap.objs.size+1)::vs,kw⟩) (PySem.W.InitBack (s.heap.objs.size+1) R)
  {s with heap:=(s.heap.push PySem.W.emptyDict).push (PySem.W.instObj C s.heap.objs.size)}):
 codeAny (model prog w) A (.call (.ref C) ⟨vs,kw⟩) R s:=by
 obtain⟨hh,g,d,t,os⟩:=s
 exact PySem.W.make_core (PySem.W.makes_of X hm) (PySem.W.looks_findIn X hi) (λself=>PySem.W.bind_fn X self hf) (.inl rfl) h
end
def VJ(f:Str)(v:V):List (Str×V)->List (Str×V)
 | []=>[(f,v)]
 |(g,x)::r=>if g=f then(g,v)::r else(g,x)::VJ f v r
theorem zea(f g:Str)(v:V):∀fs:List (Str×V),(VJ f v fs).lookup g=if g=f then some v else fs.lookup g
 | []=>by
  show List.lookup g [(f,v)]=_
  by_cases h:g=f
  · have hb:(g==f)=true:=beq_iff_eq.mpr h
    simp only[List.lookup,hb,if_pos h]
  · have hb:(g==f)=false:=beq_eq_false_iff_ne.mpr h
    simp only[List.lookup,hb,if_neg h]
 |(k,x)::r=>by
  have ih:=zea f g v r
  rw[show VJ f v ((k,x)::r)=(if k=f then(k,v)::r else(k,x)::VJ f v r)from rfl]
  by_cases hk:k=f
  · rw[if_pos hk]
    by_cases h:g=k
    · have hb:(g==k)=true:=beq_iff_eq.mpr h
      simp only[List.lookup,hb,if_pos (h.trans hk)]
    · have hb:(g==k)=false:=beq_eq_false_iff_ne.mpr h
      simp only[List.lookup,hb,if_neg (λe:g=f=>h (e.trans hk.symm))]
  · rw[if_neg hk]
    by_cases h:g=k
    · have hb:(g==k)=true:=beq_iff_eq.mpr h
      simp only[List.lookup,hb,if_neg (λe:g=f=>hk (h.symm.trans e))]
    · have hb:(g==k)=false:=beq_eq_false_iff_ne.mpr h
      simp only[List.lookup,hb]
      exact ih
theorem zcU(f:Str)(v:V):∀fs:List (Str×V),f ∈ (VJ f v fs).map (·.1)/\∀g,g ∈ fs.map (·.1)->g ∈ (VJ f v fs).map (·.1)
 | []=>⟨by simp[VJ],λg h=>by simp at h⟩
 |(k,x)::r=>by
  obtain⟨i1,i2⟩:=zcU f v r
  rw[show VJ f v ((k,x)::r)=(if k=f then(k,v)::r else(k,x)::VJ f v r)from rfl]
  by_cases hk:k=f
  · rw[if_pos hk]
    subst hk
    exact⟨by simp,λg h=>by simpa using h⟩
  · rw[if_neg hk]
    refine⟨?_,λg h=>?_⟩
    · rw[zyP]
      exact zzA _ i1
    · rw[zyP]at h ⊢
      rcases zS.mp h with e|e
      · exact zS.mpr (.inl e)
      · exact zzA _ (i2 g e)
theorem zdv(f:Str)(v:V):∀fs:List (Str×V),(VJ f v fs).length<=fs.length+1
 | []=>by simp[VJ]
 |(k,x)::r=>by
  have ih:=zdv f v r
  rw[show VJ f v ((k,x)::r)=(if k=f then(k,v)::r else(k,x)::VJ f v r)from rfl]
  by_cases hk:k=f
  · rw[if_pos hk,zzQ,zzQ];omega
  · rw[if_neg hk,zzQ,zzQ];omega
theorem zcc.some_of(r:zcc (some v) o):∃u,o=some u/\RelV v u:=by
 cases o with
 |none=>exact(show False from r).elim
 |some u=>exact⟨u,rfl,r⟩
theorem zcc.none_of(r:zcc none o):o=none:=by
 cases o with
 |none=>rfl
 |some u=>exact(show False from r).elim
theorem zmb(r:RelV v u):PySem.W.handedIn u=true:=by
 cases v with
 |non=>cases(show u=Value.none from r);rfl
 |bl b=>cases(show u=Value.bool b from r);rfl
 |int i=>obtain⟨t,e⟩:=(show ∃t,u=Value.int i t from r);cases e;rfl
 |str x=>obtain⟨t,e⟩:=(show ∃t,u=Value.str x t from r);cases e;rfl
 |byt b=>obtain⟨t,e⟩:=(show ∃t,u=Value.bytes b t from r);cases e;rfl
 |flt b=>obtain⟨t,e⟩:=(show ∃t,u=Value.float b t from r);cases e;rfl
 |ref a=>cases(show u=Value.ref a from r);rfl
 |ty n=>cases(show u=Value.type n from r);rfl
section
variable{P:Program}{w:World}{H H':Hp}{h h':Heap}{a C dx:Addr}{fs fs':List (Str×V)}
theorem zhp(hok:HOk P w H h)(e:H a=some (.ins C dx fs)):∃mA,ObjM h a dx C mA/\(∀f,zcc (fs.lookup f) (mA f))/\PySem.Within mA (fs.map (·.1))/\fs.length<=1000/\H dx=some (.own a):=by
 obtain⟨d,z,ne,ob,mA,n,r,q⟩:=(show wV P w H h a (.ins C dx fs)from hok a _ e)
 exact⟨mA,⟨ob,n,ne⟩,r,q,z,d⟩
end
structure Cls(K:zC)(C:Addr):Prop where
 pg:PySem.W.plainGet K C Str.empty=true
 hd:PySem.W.hasDictIn K C=true
 po:PySem.W.plainOver K C=true
 sa:PySem.W.findIn K (.ref C) "__setattr__"=some (some (.builtin "object.__setattr__"))
theorem Cls.get{K:zC}{C:Addr}(c:Cls K C)(f:Str):PySem.W.plainGet K C f=true:=c.pg
def Zo(K:zC)(C:Addr)(f:Str):Prop:=PySem.W.findIn K (.ref C) f=some none
theorem Zo.taker{K:zC}{C:Addr}{f:Str}(n:Zo K C f):PySem.W.takerIn K C f=some none:=by
 unfold PySem.W.takerIn
 rw[show PySem.W.findIn K (.ref C) f=some none from n]
 rfl
structure Con(K:zC)(C:Addr)(f:Str)(v:V)(u:Value):Prop where
 at_:PySem.W.findIn K (.ref C) f=some (some u)
 rel:RelV v u
 get:PySem.W.specialIn K u "__get__"=some none
 cp:PySem.W.copiedNames.contains f=false
structure Meth(K:zC)(C:Addr)(m:Str)(f:Addr):Prop where
 at_:PySem.W.findIn K (.ref C) m=some (some (.ref f))
 fn:PySem.W.isFn K (.ref f)=true
 kp:PySem.W.keepIn K (.ref f)=true
section
variable{X:Cx}{pins:List (Addr×Obj)}{σ:St}{H:Hp}{s:Shared}{a C dx:Addr}{fs:List (Str×V)}{f:Str}{v:V}{A:Around}{E:Value->Shared->Prop}
theorem zkf(I:Inv X pins σ H s)(e:H a=some (.ins C dx fs))(c:Cls X.K C)(n:Zo X.K C f)(l:fs.lookup f=some v)
 (h:∀u s',Inv X pins σ H s'->RelV v u->Q u s'):wpAny (model X.prog X.w) A (getAttr (.ref a) f b) Q E s:=by
 obtain⟨mA,O,r,_,_,_⟩:=zhp I.hok e
 obtain⟨u,hu,ru⟩:=zcc.some_of (v:=v) (o:=mA f) (by rw[<-l];exact r f)
 exact zqz I.kIn O (c.get f) c.hd n hu (zmb ru) (h u _ (I.tok _) ru)
theorem zeY(I:Inv X pins σ H s)(e:H a=some (.ins C dx fs))(c:Cls X.K C)(k:Meth X.K C m g)(l:fs.lookup m=none)
 (h:Q (.ref g,[.ref a]) s):wpAny (model X.prog X.w) A (getMethod (.ref a) m pl) Q E s:=by
 obtain⟨mA,O,r,_,_,_⟩:=zhp I.hok e
 have hn:mA m=none:=zcc.none_of (by rw[<-l];exact r m)
 exact zou I.kIn O (c.get m) k.at_ k.fn hn h
theorem zjW(I:Inv X pins σ H s)(e:H a=some (.ins C dx fs))(c:Cls X.K C)(n:Zo X.K C f)(hl:fs.length<1000)(ry:RelV y u)
 (h:∀s',Inv X pins σ (upd H a (.ins C dx (VJ f y fs))) s'->Q () s'):wpAny (model X.prog X.w) A (setAttr (.ref a) f u) Q E s:=by
 obtain⟨mA,O,r,wi,_,ho⟩:=zhp I.hok e
 have hz:(fs.map (·.1)).length<=sizeLine:=by rw[zD,sizeLine_eq];omega
 refine zqw I.kIn O c.sa c.po n.taker c.hd wi hz λh' O' sb=>h _ ?_
 have hd:∃o,h'.get? dx=some o:=let⟨o,_,_,e',_⟩:=O'.ns;⟨o,e'⟩
 refine I.write (x:=a) (e:=dx) (by rw[e];exact True.intro) (.inr ho) (λb q hb z=>(sb.2 b hb).trans z) hd ?_
 refine⟨by rw[zW O.ne];exact ho, ?_,O.ne,O'.obj,_,O'.ns,λg=>?_,λg hg=>?_⟩
 · have:=zdv f y fs;omega
 · show zcc ((VJ f y fs).lookup g) (if g=f then some u else mA g)
   rw[zea]
   by_cases q:g=f
   · rw[if_pos q,if_pos q];exact ry
   · rw[if_neg q,if_neg q];exact r g
 · by_cases q:g=f
   · rw[q];exact(zcU f y fs).1
   · refine(zcU f y fs).2 g (wi g λz=>hg ?_)
     show(if g=f then some u else mA g)=none
     rw[if_neg q];exact z
theorem Inv.made(I:Inv X pins σ H s):Inv X pins σ (upd (upd H s.heap.objs.size (.own (s.heap.objs.size+1))) (s.heap.objs.size+1) (.ins C s.heap.objs.size []))
 {s with heap:=(s.heap.push PySem.W.emptyDict).push (PySem.W.instObj C s.heap.objs.size)}:=by
 have e1:(s.heap.push PySem.W.emptyDict).get? s.heap.objs.size=some PySem.W.emptyDict:=zxH s.heap rfl
 have e2:((s.heap.push PySem.W.emptyDict).push (PySem.W.instObj C s.heap.objs.size)).get? (s.heap.objs.size+1)=some (PySem.W.instObj C s.heap.objs.size):=by
  have:=zxH (s.heap.push PySem.W.emptyDict) (o:=PySem.W.instObj C s.heap.objs.size) rfl
  rwa [zxO]at this
 have e3:(s.heap.push PySem.W.emptyDict).Ns s.heap.objs.size (λ_=>none):=⟨PySem.W.emptyDict,#[],_,e1,rfl,(λe he=>absurd he (by simp)),λ_=>rfl⟩
 have I1:=I.laid (a:=s.heap.objs.size) (o:=.own (s.heap.objs.size+1)) (h':=s.heap.push PySem.W.emptyDict) (t':=s.toks) (λb u q=>zxF _ q) (zzK _) ⟨_,e1⟩
 refine I1.laid (a:=s.heap.objs.size+1) (o:=.ins C s.heap.objs.size []) (t':=s.toks) (λb u q=>zxF _ q) (Nat.le_of_eq (zxO _ _)) ?_
 have ne:s.heap.objs.size≠s.heap.objs.size+1:=zzN (Nat.lt_succ_self _)
 refine⟨by rw[zW ne,yf],Nat.zero_le _,ne,e2,λ_=>none,(Heap.Ns1.of_empty e3).at λo q=>zxF _ q,λ_=>True.intro,λy hy=>absurd rfl hy⟩
theorem zoR(hb:attributeBase e f env (eval e env)=eval e env)
 (h:wpAny (model prog w) A (eval e env) (λo s₁=>wpAny (model prog w) A (getAttr o f true) Q E s₁) E s):wpAny (model prog w) A (eval (.Attribute e f pos) env) Q E s:=
 Attribute_any_ h (by rw[arm_eval_Attribute,hb])
end
def zuH(K:zC)(ta:TE)(f:Str):TE:=λσ H Q=>ta σ H λx H1=>∃a C dx fs v,x = .ref a/\H1 a=some (.ins C dx fs)/\Cls K C/\Zo K C f/\fs.lookup f=some v/\Q v H1
def zuw(K:zC)(ta tv:TE)(f:Str):TS:=λD σ H=>tv σ H λy H1=>ta σ H1 λx H2=>∃a C dx fs,x = .ref a/\H2 a=some (.ins C dx fs)/\Cls K C/\Zo K C f/\fs.length<1000/\
 D.nx σ (upd H2 a (.ins C dx (VJ f y fs)))
section
variable{X:Cx}{o e value:Expr}{f:Str}{pos pos' tpos:Pos}{ta tv:TE}
theorem zsb(he:PE X e ta)(hb:attributeBase e f X.env (eval e X.env)=eval e X.env):PE X (.Attribute e f pos) (zuH X.K ta f):=by
 intro pins s σ H Q I h
 refine zoR hb (thn (he pins s σ H _ I h) λu s1 ⟨x,H1,I1,rx,a,C,dx,fs,v,ex,ea,c,n,l,q⟩=>?_)
 subst ex
 obtain rfl:u=Value.ref a:=rx
 exact zkf I1 ea c n l λu' s2 I2 ru=>⟨v,H1,I2,ru,q⟩
theorem zsl(ha:PE X o ta)(hv:PE X value tv)(hs:swapsWith value (some (.Attribute o f pos')) pos.line X.env=pure false):PS X (.Assign [.Attribute o f pos'] value pos) (zuw X.K ta tv f):=by
 intro pins s σ H D I h
 refine plainObj_wpAny_Assign_Attribute (thn (hv pins s σ H _ I h) λu s1 ⟨y,H1,I1,ry,q⟩=>thn (ha pins s1 σ H1 _ I1 q) λov s2 ⟨x,H2,I2,rx,a,C,dx,fs,ex,ea,c,n,l,q2⟩=>?_) hs
 subst ex
 obtain rfl:ov=Value.ref a:=rx
 exact zjW I2 ea c n l ry λs3 I3=>⟨σ,_,I3,q2⟩
end
section
variable{X:Cx}{pins:List (Addr×Obj)}{σ:St}{H:Hp}{s:Shared}{A:Around}{E:Value->Shared->Prop}{Q:Value->Shared->Prop}{c:Value}{b:Bool}
inductive TyOf(K:zC)(H:Hp):V->Value->Prop where
 |non:TyOf K H .non (.type "NoneType")
 |bl (x:Bool):TyOf K H (.bl x) (.type "bool")
 |int (i:Int):TyOf K H (.int i) (.type "int")
 |str (x:Str):TyOf K H (.str x) (.type "str")
 |flt (x:UInt64):TyOf K H (.flt x) (.type "float")
 |lst {a:Addr}{xs:List V}(e:H a=some (.lst xs)):TyOf K H (.ref a) (.type "list")
 |frz {a:Addr}{o:Obj}{xs:List V}(e:H a=some (.frz o (.lst xs))):TyOf K H (.ref a) (.type "list")
 |tup {a:Addr}{xs:List V}(e:H a=some (.tup xs)):TyOf K H (.ref a) (.type "tuple")
 |dK {a:Addr}{kvs:List (Key×V)}(e:H a=some (.dK kvs)):TyOf K H (.ref a) (.type "dict")
 |dT {a:Addr}{kvs:List (List Key×V)}(e:H a=some (.dT kvs)):TyOf K H (.ref a) (.type "dict")
 |ins {a C dx:Addr}{fs:List (Str×V)}(e:H a=some (.ins C dx fs)) (cl:Cls K C) (ha:PySem.W.findIn K (.ref C) "__class__"=some (some (.builtin "object.__class__")))
  (hn:PySem.W.specialIn K (.builtin "object.__class__") "__get__"=some (some (.builtin "getset_descriptor.__get__"))) (htk:PySem.W.takesIn K (.builtin "object.__class__")=some true)
  (hm:PySem.W.mroIn K C (.type "object")=some true):TyOf K H (.ref a) (.ref C)
end
end L2
namespace L2
open PySem PySem.Spec PyProof.Rows
structure Room(k:Nat)(A:Around):Prop where
 hd:A.handled=none
 dp:A.depth+3*k+5<recursionLimit
 un:A.units+16*k+200<cLine
 gd:A.guards=some []
theorem Room.mono(r:Room k A)(h:j<=k):Room j A:=⟨r.hd,by have:=r.dp;omega,by have:=r.un;omega,r.gd⟩
theorem Room.deeper(r:Room (k+1) A)(env:Env):Room k (A.deeper env):=
 ⟨r.hd,by have:=r.dp;show A.depth+1+3*k+5<_;omega,by have:=r.un;show A.units+3+16*k+200<_;omega,r.gd⟩
theorem zky{A:Around}{C:Addr}{us:List Value}{kw:List (Str×Value)}:(A.under (.builtin "type.__call__" ⟨.ref C::us,kw⟩)).depth=A.depth+1:=by
 first|rfl|simp[Around.under,Code.weight,Code.isCreation,Code.isGuard,Code.isCaller,Code.frames,Code.isFrame,guardIds]
theorem zkv{A:Around}{C:Addr}{us:List Value}{kw:List (Str×Value)}:(A.under (.builtin "type.__call__" ⟨.ref C::us,kw⟩)).units=A.units+1:=by
 first|rfl|simp[Around.under,Code.cUnits,Code.frames,Code.isFrame]
theorem zjo{A:Around}{C:Addr}{us:List Value}{kw:List (Str×Value)}:(A.under (.builtin "type.__call__" ⟨.ref C::us,kw⟩)).guards=A.guards:=by
 first|rfl|simp[Around.under,Code.guards,Code.isGuard,guardIds,PySem.pushGuards]
theorem Room.make{k:Nat}{A:Around}(r:Room (k+1) A)(C:Addr)(us:List Value)(kw:List (Str×Value)):Room k (A.under (.builtin "type.__call__" ⟨.ref C::us,kw⟩)):=
 ⟨r.hd,by have:=r.dp;rw[zky];omega,by have:=r.un;rw[zkv];omega,by rw[zjo];exact r.gd⟩
theorem Room.depth(r:Room k A):A.depth<recursionLimit:=by have:=r.dp;omega
def zqg:TA:=λ_ H Q=>Q [] H
def znz(ta:TE)(tr:TA):TA:=λσ H Q=>ta σ H λx H1=>tr σ H1 λxs H2=>Q (x::xs) H2
section
variable{X:Cx}{e:Expr}{es:List Expr}{te:TE}{t:TA}{pos:Pos}
theorem zcT:PA X [] zqg:=λ_ _ _ _ H Q I h=>Calls.spliced_nil ⟨[],H,I,.nil,h⟩
theorem Vm(ha:PE X e te)(hr:PA X es t)(hs:starEach (e::es) X.env=(false,eval e X.env)::starEach es X.env:=by rfl):PA X (e::es) (znz te t):=by
 intro pos pins s σ H Q I h
 rw[hs]
 show wpAny _ _ (spliced ((false,eval e X.env)::backTo pos (starEach es X.env))) _ _ s
 refine Calls.spliced_cons (thn (ha pins s σ H _ I h) λu s1 ⟨x,H1,I1,r1,q1⟩=>?_)
 exact thn (hr pos pins s1 σ H1 _ I1 q1) λus s2 ⟨xs,H2,I2,r2,q2⟩=>⟨x::xs,H2,I2,.cons r1 r2,q2⟩
def zux(t:TA):TE:=λσ H Q=>t σ H λxs H1=>xs.length<=sizeLine/\∀p,H1 p=none->Q (.ref p) (upd H1 p (.tup xs))
def zuL(t:TA):TE:=λσ H Q=>t σ H λxs H1=>xs.length<=sizeLine/\∀p,H1 p=none->Q (.ref p) (upd H1 p (.lst xs))
theorem zrw(h:PA X es t):PE X (.Tuple es x1 pos) (zux t):=by
 intro pins s σ H Q I hq
 refine wpAny_Tuple_spliced (thn (h pos pins s σ H _ I hq) λus s1 ⟨xs,H1,I1,r,z,q⟩=>⟨by rw[<-r.length];exact z, ?_⟩)
 have hf:H1 s1.heap.objs.size=none:=I1.hok.fresh (zzK _)
 refine⟨.ref s1.heap.objs.size,upd H1 s1.heap.objs.size (.tup xs),I1.laid (t':=s1.toks) (λb u e=>zxF _ e) (zzK _) ?_,rfl,q _ hf⟩
 exact⟨z,us,r,⟨_,zxH _ rfl,rfl,_,rfl⟩⟩
theorem zrZ(h:PA X es t):PE X (.List es pos) (zuL t):=by
 intro pins s σ H Q I hq
 refine wpAny_List_spliced (thn (h pos pins s σ H _ I hq) λus s1 ⟨xs,H1,I1,r,z,q⟩=>⟨by rw[<-r.length];exact z, ?_⟩)
 have hf:H1 s1.heap.objs.size=none:=I1.hok.fresh (zzK _)
 refine⟨.ref s1.heap.objs.size,upd H1 s1.heap.objs.size (.lst xs),I1.laid (t':=s1.toks) (λb u e=>zxF _ e) (zzK _) ?_,rfl,q _ hf⟩
 exact⟨z,us,0,r,zxH _ rfl⟩
end
abbrev Sp:=List V->Hp->VK->XK->Prop
abbrev CXT:=List Env->Hp->Shared->XK->Value->Shared->Prop
structure Env0(P:Program)(w:World)(K:zC)(mg:Str->Option Value)(base:Heap)(A:Around)(outer:List Env)(s:Shared)(H:Hp):Prop where
 frames:A.frames=some outer
 mod:Mod K mg base
 bs:∀b o,base.get? b=some o->s.heap.get? b=some o/\H b=none
 bsz:base.objs.size<=s.heap.objs.size
 funs:s.heap.FunFrames base outer
 frf:∀b ∈ frs outer,H b=none
 hok:HOk P w H s.heap
 bare:AllBare s.gens
def CE(outer:List Env)(P:Program)(w:World)(H:Hp)(s:Shared)(Q:VK)(u:Value)(s':Shared):Prop:=
 ∃v H',s'.os=s.os/\AllBare s'.gens/\Un (frs outer) [] H H' s.heap s'.heap/\HOk P w H' s'.heap/\RelV v u/\Q v H'
def CR(CX:CXT)(outer:List Env)(P:Program)(w:World)(H:Hp)(s:Shared)(Q:VK)(E:XK)(r:Result)(s':Shared):Prop:=
 match r with
 | .ok (.ret u)=>CE outer P w H s Q u s'
 | .ok _=>False
 | .error e=>CX outer H s E e s'
structure FnOk(P:Program)(w:World)(K:zC)(mg:Str->Option Value)(base:Heap)(CX:CXT)(k:Nat)(f:Addr)(fd:FuncData)(ps:List Str)(sp:Sp):Prop where
 len:∀vs H Q E,sp vs H Q E->vs.length=ps.length
 run:∀(A:Around) (outer:List Env) (s:Shared) (H:Hp) (args:Args) (us:List Value) (vs:List V) (Q:VK) (E:XK),Room k A->Env0 P w K mg base A outer s H->BindsTo s fd args (ps.zip us)->Vals vs us->sp vs H Q E->
  codeAny (model P w) A (.call (.ref f) args) (CR CX outer P w H s Q E) s
theorem FnOk.imp{P:Program}{w:World}{K:zC}{mg:Str->Option Value}{base:Heap}{CX:CXT}{k:Nat}{f:Addr}{fd:FuncData}{ps:List Str}{sp sp':Sp}(F:FnOk P w K mg base CX k f fd ps sp)
 (h:∀vs H Q E,sp' vs H Q E->sp vs H Q E):FnOk P w K mg base CX k f fd ps sp':=
 ⟨λvs H Q E q=>F.len vs H Q E (h _ _ _ _ q),λA outer s H args us vs Q E hr he hb hv hs=>F.run A outer s H args us vs Q E hr he hb hv (h _ _ _ _ hs)⟩
theorem Env0.make{P:Program}{w:World}{K:zC}{mg:Str->Option Value}{base:Heap}{A:Around}{outer:List Env}{s:Shared}{H:Hp}(e:Env0 P w K mg base A outer s H)(C:Addr)(us:List Value)(kw:List (Str×Value)):
 Env0 P w K mg base (A.under (.builtin "type.__call__" ⟨.ref C::us,kw⟩)) outer s H:=⟨by first|exact e.frames|(simpa[Around.under,Code.envs,Code.isFrame,pushEnvs]using e.frames),e.mod,e.bs,e.bsz,e.funs,e.frf,e.hok,e.bare⟩
section
variable{X:Cx}{pins:List (Addr×Obj)}{σ:St}{H:Hp}{s s':Shared}
theorem Inv.env0(I:Inv X pins σ H s):Env0 X.prog X.w X.K X.mg X.base X.A X.stack s H:=
 ⟨I.ok.frames,I.ok.mod,I.bs,zzL I.ok.bsz I.sz,I.stack,I.stkFree,I.hok,I.bare⟩
theorem Inv.after(I:Inv X pins σ H s)(h:CE X.stack X.prog X.w H s Q u s'):EP X pins σ Q u s':=by
 obtain⟨v,H',os,bare,un,hok,r,q⟩:=h
 obtain⟨hh,g,d,t,os'⟩:=s'
 obtain rfl:os'=s.os:=os
 exact⟨v,H',I.call (h':=hh) (g':=g) (d':=d) (t':=t) (ch:=[]) un hok bare (λb z=>absurd z (by simp)),r,q⟩
end
def zrc(sp:Sp)(dvs:List V)(E:XK)(t:TA):TE:=λσ H Q=>t σ H λvs H1=>sp (vs++dvs) H1 Q E
def zqJ(C:Addr)(sp:Sp)(dvs:List V)(E:XK)(t:TA):TE:=λσ H Q=>t σ H λvs H1=>∀x dx,H1 x=none->H1 dx=none->dx≠x->
 sp (.ref x::(vs++dvs)) (upd (upd H1 dx (.own x)) x (.ins C dx [])) (λv H2=>v = .non/\Q (.ref x) H2) E
def Binds(K:zC)(fd:FuncData)(ps:List Str)(ds:List Value):Prop:=
 ∀(s:Shared) (us:List Value),K.In s.heap->(us++ds).length=ps.length->BindsTo s fd ⟨us,[]⟩ (ps.zip (us++ds))
theorem Binds.all{K:zC}{fd:FuncData}{ps:List Str}(h:∀us:List Value,us.length=ps.length->bindArgs fd ⟨us,[]⟩=pure (ps.zip us)):Binds K fd ps []:=λs us _ hl=>by
 rw[zyB]at hl ⊢
 exact .of_eq (h us hl)
def Xa(CX:CXT)(X:Cx)(E:XK):Prop:=∀(pins:List (Addr×Obj)) (σ:St) (H:Hp) (s:Shared) (e:Value) (s':Shared),Inv X pins σ H s->CX X.stack H s E e s'->X.xe e s'
section
variable{X:Cx}{CX:CXT}{k:Nat}{f C:Addr}{fd:FuncData}{ps:List Str}{sp:Sp}{dvs:List V}{ds:List Value}{E:XK}{x m:Str}{p pos apos:Pos}{e o:Expr}{es:List Expr}{ta:TE}{t:TA}
theorem zkg(F:FnOk X.prog X.w X.K X.mg X.base CX k f fd ps sp)(hr:Room k X.A)(hb:Binds X.K fd ps ds)(hd:Vals dvs ds)(hx:Xa CX X E)
 (I:Inv X pins σ H s) (r:Vals vs us) (h:sp (vs++dvs) H Q E):wpAny (model X.prog X.w) X.A (call (.ref f) us) (EP X pins σ Q) X.xe s:=by
 have r2:Vals (vs++dvs) (us++ds):=r.append hd
 have hl:(us++ds).length=ps.length:=by rw[<-r2.length];exact F.len _ _ _ _ h
 refine wpAny_call (codeAny_mono (F.run X.A X.stack s H ⟨us,[]⟩ (us++ds) (vs++dvs) Q E hr I.env0 (hb s us I.kIn hl) r2 h) λr s' hq=>?_)
 cases r with
 |error e=>exact hx pins σ H s e s' I hq
 |ok fl=>
  cases fl with
  |ret u=>exact I.after hq
  |next=>exact False.elim hq
  |brk=>exact False.elim hq
  |cont=>exact False.elim hq
theorem zpc(F:FnOk X.prog X.w X.K X.mg X.base CX k f fd ps sp)(hr:Room k X.A)(hg:Gl X x)(hm:X.mg x=some (.ref f))(hk:PySem.W.keepIn X.K (.ref f)=true)(hb:Binds X.K fd ps ds)(hd:Vals dvs ds)(hx:Xa CX X E)
 (ha:PA X (e::es) t) (hdb:(x==("__debug__":Str))=false:=by decide) (he:starEach (e::es) X.env=(false,eval e X.env)::starEach es X.env:=by rfl) (hpl:(backTo pos (starEach es X.env)).any (·.1)=false:=by rfl):
 PE X (.Call (.Name x p) (e::es) [] pos) (zrc sp dvs E t):=by
 intro pins s σ H Q I h
 refine wpAny_Call_Name_kw (zlu I hg hm ?_ hdb)
 refine PySem.W.callWith_K (h₀:=X.base) I.ok.mod.kin hk (thn (ha pos pins s σ H _ I h) λus s1 ⟨vs,H1,I1,r,q⟩=>⟨I1.kIn, ?_⟩) he hpl
 exact zkg F hr hb hd hx I1 r q
structure Mk(K:zC)(C f:Addr):Prop where
 makes:PySem.W.makesIn K C=true
 init:PySem.W.findIn K (.ref C) "__init__"=some (some (.ref f))
 fn:PySem.W.isFn K (.ref f)=true
 kp:PySem.W.keepIn K (.ref C)=true
theorem zmx(M:Mk X.K C f)(F:FnOk X.prog X.w X.K X.mg X.base CX k f fd ps sp)(hr:Room (k+1) X.A)(hb:Binds X.K fd ps ds)(hd:Vals dvs ds)
 (hx:Xa CX X E) (I:Inv X pins σ H s) (r:Vals vs us)
 (h:∀x dx,H x=none->H dx=none->dx≠x->sp (.ref x::(vs++dvs)) (upd (upd H dx (.own x)) x (.ins C dx [])) (λv H2=>v = .non/\Q (.ref x) H2) E):
 wpAny (model X.prog X.w) X.A (call (.ref C) us) (EP X pins σ Q) X.xe s:=by
 have hq:=h (s.heap.objs.size+1) s.heap.objs.size (I.hok.fresh (zyU _)) (I.hok.fresh (zzK _)) (zzN (Nat.lt_succ_self _))
 have I2:=Inv.made (C:=C) I
 have r2:Vals (V.ref (s.heap.objs.size+1)::(vs++dvs)) (Value.ref (s.heap.objs.size+1)::(us++ds)):=.cons rfl (r.append hd)
 have hl:(Value.ref (s.heap.objs.size+1)::us++ds).length=ps.length:=by
  have e:=r2.length
  rw[F.len _ _ _ _ hq]at e
  exact e.symm
 refine wpAny_call (znN (f:=f) I.kIn M.makes M.init (beq_iff_eq.mp M.fn) (codeAny_mono (F.run _ X.stack _ _ ⟨Value.ref (s.heap.objs.size+1)::us,[]⟩ (Value.ref (s.heap.objs.size+1)::(us++ds)) _ _ E (hr.make C us [])
  (I2.env0.make C us []) (hb _ (Value.ref (s.heap.objs.size+1)::us) I2.kIn hl) r2 hq) λr s' hq'=>?_))
 cases r with
 |error e=>exact hx pins σ _ _ e s' I2 hq'
 |ok fl=>
  cases fl with
  |ret u=>
   obtain⟨v,H',I3,rv,ev,q3⟩:=I2.after hq'
   subst ev
   exact⟨rv,⟨V.ref (s.heap.objs.size+1),H',I3,rfl,q3⟩⟩
  |next=>exact False.elim hq'
  |brk=>exact False.elim hq'
  |cont=>exact False.elim hq'
theorem zqv(M:Mk X.K C f)(F:FnOk X.prog X.w X.K X.mg X.base CX k f fd ps sp)(hr:Room (k+1) X.A)(hg:Gl X x)(hm:X.mg x=some (.ref C))(hb:Binds X.K fd ps ds)(hd:Vals dvs ds)(hx:Xa CX X E)
 (ha:PA X (e::es) t) (hdb:(x==("__debug__":Str))=false:=by decide) (he:starEach (e::es) X.env=(false,eval e X.env)::starEach es X.env:=by rfl) (hpl:(backTo pos (starEach es X.env)).any (·.1)=false:=by rfl):
 PE X (.Call (.Name x p) (e::es) [] pos) (zqJ C sp dvs E t):=by
 intro pins s σ H Q I h
 refine wpAny_Call_Name_kw (zlu I hg hm ?_ hdb)
 refine PySem.W.callWith_K (h₀:=X.base) I.ok.mod.kin M.kp (thn (ha pos pins s σ H _ I h) λus s1 ⟨vs,H1,I1,r,q⟩=>⟨I1.kIn, ?_⟩) he hpl
 exact zmx M F hr hb hd hx I1 r q
end
section
variable{X:Cx}{CX:CXT}{k:Nat}{f C:Addr}{fd:FuncData}{ps ks:List Str}{sp:Sp}{E:XK}{x m:Str}{p pos apos kpos:Pos}{e o:Expr}{es:List Expr}{kws:List Keyword}{te ta:TE}{t tk:TA}{nm:Option Str}
structure KBinds(K:zC)(fd:FuncData)(ps ks:List Str)(g:List Value->List Value->List Value)(gV:List V->List V->List V):Prop where
 to:∀(s:Shared) (us ws:List Value),K.In s.heap->(g us ws).length=ps.length->BindsTo s fd ⟨us,ks.zip ws⟩ (ps.zip (g us ws))
 rel:∀{vs:List V}{us:List Value}{zs:List V}{ws:List Value},Vals vs us->Vals zs ws->Vals (gV vs zs) (g us ws)
variable{g:List Value->List Value->List Value}{gV:List V->List V->List V}
end
structure FnScope(N P:List Str)(sc:Scope):Prop where
 kind:sc.kind = .function
 co:sc.isCoroutine=false
 gen:sc.isGenerator=false
 nd:N.Nodup
 pre:N.take P.length=P
 par:∀x ∈ P,sc.names.lookup x=some .local\/sc.names.lookup x=some .cell
 nofree:∀y ∈ sc.names,y.2 ≠ .free
theorem zhf{kindOf:Str->Option NameKind}{x:Str}:∀{binds:List (Str×Value)}{m:Str->Option Value},(∀v,(x,v) ∉ binds)->bindL kindOf binds m x=m x
 | [],_,_=>rfl
 |(n,v)::r,m,h=>by
  unfold bindL
  rw[zhf λw hw=>h w (zzA _ hw)]
  split
  · have:x≠n:=by rintro rfl;exact h v zzC
    simp[this]
  · rfl
theorem zgO{kindOf:Str->Option NameKind}{x:Str}:∀{binds:List (Str×Value)}{m:Str->Option Value},(∀v,(x,v) ∉ binds)->bindC kindOf binds m x=m x
 | [],_,_=>rfl
 |(n,v)::r,m,h=>by
  unfold bindC
  rw[zgO λw hw=>h w (zzA _ hw)]
  split
  · rfl
  · have:x≠n:=by rintro rfl;exact h v zzC
    simp[this]
theorem zgV{kindOf:Str->Option NameKind}{x:Str}{v:Value}:∀{P:List Str}{vs:List Value}{i:Nat}{m:Str->Option Value},P.Nodup->P[i]? = some x->vs[i]? = some v->kindOf x=some .local->
 bindL kindOf (P.zip vs) m x=some v
 | [],_,_,_,_,h,_,_=>by simp at h
 |_::_,[],_,_,_,_,h,_=>by simp at h
 |p::P,w::vs,0,m,nd,h1,h2,hk=>by
  simp at h1 h2;subst h1;subst h2
  show bindL kindOf ((p,w)::P.zip vs) m p=_
  unfold bindL
  rw[zhf λv hv=>(zzT.mp nd).1 (List.of_mem_zip hv).1,if_pos hk]
  simp
 |p::P,w::vs,i+1,m,nd,h1,h2,hk=>by
  show bindL kindOf ((p,w)::P.zip vs) m x=_
  unfold bindL
  exact zgV (i:=i) (zzT.mp nd).2 (by simpa using h1) (by simpa using h2) hk
theorem zhg{kindOf:Str->Option NameKind}{x:Str}{v:Value}:∀{P:List Str}{vs:List Value}{i:Nat}{m:Str->Option Value},P.Nodup->P[i]? = some x->vs[i]? = some v->kindOf x≠some .local->
 bindC kindOf (P.zip vs) m x=some v
 | [],_,_,_,_,h,_,_=>by simp at h
 |_::_,[],_,_,_,_,h,_=>by simp at h
 |p::P,w::vs,0,m,nd,h1,h2,hk=>by
  simp at h1 h2;subst h1;subst h2
  show bindC kindOf ((p,w)::P.zip vs) m p=_
  unfold bindC
  rw[zgO λv hv=>(zzT.mp nd).1 (List.of_mem_zip hv).1,if_neg hk]
  simp
 |p::P,w::vs,i+1,m,nd,h1,h2,hk=>by
  show bindC kindOf ((p,w)::P.zip vs) m x=_
  unfold bindC
  exact zhg (i:=i) (zzT.mp nd).2 (by simpa using h1) (by simpa using h2) hk
def start(N:List Str)(vs:List V):St:=vs.map some++List.replicate (N.length-vs.length) none
def zix(CX:CXT)(P:Program)(w:World)(K:zC)(mg:Str->Option Value)(base:Heap)(N:List Str)(qual:Str)(scope:Scope)(f:Addr)(cd:Value)(A:Around)(outer:List Env)(s:Shared)(H:Hp)(E:XK):Cx where
 prog:=P
 w:=w
 K:=K
 mg:=mg
 base:=base
 A:=A.deeper (envOfC qual scope s.heap.objs.size f cd)
 N:=N
 s₀:=s
 H₀:=H
 env:=envOfC qual scope s.heap.objs.size f cd
 outer:=outer
 stack:=envOfC qual scope s.heap.objs.size f cd::outer
 ex:=[]
 calm:=true
 fn:=λ_=>true
 pn:=[]
 xe:=λe s'=>wpAny (model P w) (A.deeper (envOfC qual scope s.heap.objs.size f cd)) (leaving (envOfC qual scope s.heap.objs.size f cd) e) (λ_ s''=>CX outer H s E e s'') (λe' s''=>CX outer H s E e' s'') s'
theorem ziy{sc:Scope}{n:Nat}{x:Str}(h:sc.names.lookup x=some .cell):∃c,(cellsFrom n sc.names []).lookup x=some c:=by
 have q:=PySem.W.cellsFrom_some sc.names n [] (.inl h)
 exact Option.isSome_iff_exists.mp q
theorem zlP{CX:CXT}{P:Program}{w:World}{K:zC}{mg:Str->Option Value}{base:Heap}{N ps:List Str}{qual:Str}{scope:Scope}{f:Addr}{cd:Value}{A:Around}{outer:List Env}{s s1:Shared}{H:Hp}{E:XK}{us:List Value}{vs:List V}
 (S:FnScope N ps scope) (hd:A.handled=none) (e0:Env0 P w K mg base A outer s H) (hl:vs.length=ps.length) (r:Vals vs us)
 (x:InCallC s s.heap.objs.size (bindL (envOfC qual scope s.heap.objs.size f cd).kindOf (ps.zip us) λ_=>none) (cellsFrom (s.heap.objs.size+1) scope.names []) (bindC (envOfC qual scope s.heap.objs.size f cd).kindOf (ps.zip us) λ_=>none) s1):
 Inv (zix CX P w K mg base N qual scope f cd A outer s H E) [] (start N vs) H s1:=by
 have hpl:ps.length<=N.length:=by have:=congrArg List.length S.pre;rw[zzP]at this;omega
 obtain⟨h1,tk,rfl,hk⟩:=x.done
 have noA:∀b:Addr,b ∉ (zix CX P w K mg base N qual scope f cd A outer s H E).ex:=λb z=>absurd (show b ∈ ([]:List Addr)from z) (by simp)
 refine⟨⟨e0.mod,S.kind,rfl,rfl,zzK _,λy z c h1 h2=>?_,λy hy=>?_,λy c _ h=>?_,λ_=>hd,Around.frames_deeper e0.frames,.inr ⟨rfl,rfl⟩,λb z=>absurd z (noA b),e0.bs,e0.bsz,λb _ _=>noA b,λb z=>absurd z (noA b),e0.funs,e0.frf⟩,
  rfl,e0.bare,Un.kept hk,⟨_,x.toInCall.ns,λi y v h1 h2 h3=>?_⟩,λy c h=>⟨_,x.cell y c h⟩,e0.hok.fresh (zzK _),λy c h=>?_,λp hp=>absurd (show p ∈ ([]:List (Addr×Obj))from hp) (by simp),e0.hok.kept hk, ?_⟩
 · exact name_of_addr x.apart (PySem.mem_of_lookup h1) (PySem.mem_of_lookup h2)
 · have hy:scope.names.lookup y=some .cell\/scope.names.lookup y=some .free:=hy
   rcases hy with hy|hy
   · exact ziy hy
   · exact absurd rfl (S.nofree _ (PySem.mem_of_lookup hy))
 · exact Nat.le_of_lt (x.above y c (PySem.mem_of_lookup h))
 · have hi:i<vs.length:=by
    unfold start at h2
    by_cases hi:i<vs.length
    · exact hi
    · rw[zyO (by simpa using hi)]at h2
      rw[List.getElem?_replicate]at h2
      split at h2<;>cases h2
   have ha:vs[i]? = some v:=by
    unfold start at h2
    rw[zyM (by simpa using hi),zzF]at h2
    cases e:vs[i]? with
    |none=>rw[e]at h2;cases h2
    |some a=>rw[e]at h2;cases h2;rfl
   obtain⟨u,hu,rv⟩:=r.get ha
   have hp:ps[i]? = some y:=by
    rw[<-S.pre,List.getElem?_take_of_lt (by omega)];exact h1
   have ndP:ps.Nodup:=by rw[<-S.pre];exact S.nd.sublist (List.take_sublist _ _)
   refine⟨u,rv, ?_⟩
   rcases S.par y (zzX hp)with k|k
   · exact .inl ⟨k,zgV ndP hp hu k⟩
   · obtain⟨c,e⟩:=ziy (n:=s.heap.objs.size+1) k
     refine .inr ⟨.inl k,c,e, ?_⟩
     have q:=x.cell y c e
     rw[zhg ndP hp hu (by show scope.names.lookup y≠_;rw[k];decide)]at q
     exact q
 · exact e0.hok.fresh (Nat.le_of_lt (x.above y c (PySem.mem_of_lookup h)))
 · unfold start
   show _=N.length
   rw[zzG,zD,List.length_replicate]
   omega
theorem ztq{CX:CXT}{P:Program}{w:World}{K:zC}{mg:Str->Option Value}{base:Heap}{k:Nat}{f:Addr}{name qual:Str}{params:Arguments}{body:List Stmt}{scope:Scope}{dV kV doc pm cdv ct oc:Value}{an od:Option Addr}
 {osl:Array (Option Value)}{N ps:List Str}{sp:Sp}(lk:K.lookup f=some ⟨oc,od,.func (PySem.W.fnOf name qual params body scope dV kV doc pm an cdv ct),osl⟩) (hcd:PySem.W.codeIn K cdv qual=true) (S:FnScope N ps scope)
 (len:∀vs H Q E,sp vs H Q E->vs.length=ps.length)
 (hbody:∀(A:Around) (outer:List Env) (s:Shared) (H:Hp) (vs:List V) (Q:VK) (E:XK),Room k (A.deeper (envOfC qual scope s.heap.objs.size f cdv))->sp vs H Q E->
  ∃t,PSs (zix CX P w K mg base N qual scope f cdv A outer s H E) body t/\t {nx:=λ_ H'=>Q .non H',rt:=Q} (start N vs) H):
 FnOk P w K mg base CX (k+1) f (PySem.W.fnOf name qual params body scope dV kV doc pm an cdv ct) ps sp:=by
 refine⟨len,λA outer s H args us vs Q E hr e0 hb r hsp=>?_⟩
 have hl:=len _ _ _ _ hsp
 have KX:K.In s.heap:=e0.mod.kin.keeps λb o e=>(e0.bs b o e).1
 have lim:s.heap.NoLimit:=e0.mod.nolimit.keeps λb o e=>(e0.bs b o e).1
 have hkind:∀y ∈ ps.zip us,scope.names.lookup y.1=some .local\/(scope.names.lookup y.1=some .cell/\((cellsFrom (s.heap.objs.size+1) scope.names []).lookup y.1).isSome=true):=λ⟨n,v⟩ hy=>by
  rcases S.par n (List.of_mem_zip hy).1 with q|q
  · exact .inl q
  · exact .inr ⟨q,PySem.W.cellsFrom_some _ _ _ (.inl q)⟩
 refine codeAny_call_function hr.depth (KX _ _ lk) rfl S.co S.gen rfl (PySem.W.codeRec_of KX hcd) (hb _ _ _ _ ?_)
 refine wpAny_newFunctionEnv_cells S.kind hkind λenv he s1 x=>?_
 subst he
 refine⟨lim.keeps x.toInCall.keep,codeAny_func ?_⟩
 obtain⟨t,ht,hq⟩:=hbody A outer s H vs Q E (hr.deeper _) hsp
 have I:Inv (zix CX P w K mg base N qual scope f cdv A outer s H E) [] (start N vs) H s1:=zlP S hr.hd e0 hl r x
 refine zxQ (ht [] s1 (start N vs) H _ I hq) (λfl s' hs=>?_) λe s' hs=>hs
 have fin:∀{σ':St}{H':Hp}{v:V}{u:Value},Inv (zix CX P w K mg base N qual scope f cdv A outer s H E) [] σ' H' s'->RelV v u->Q v H'->CE outer P w H s Q u s':=
  λ{σ' H' v u} J rv q=>⟨v,H',J.os,J.bare,J.base,J.hok,rv,q⟩
 cases fl with
 |ret u=>
  obtain⟨v,σ',H',J,rv,q⟩:=hs
  exact fin J rv q
 |next=>
  obtain⟨σ',H',J,q⟩:=hs
  exact fin (v:=V.non) (u:=Value.none) J rfl q
 |brk=>
  obtain⟨_,_,_,q⟩:=hs
  exact False.elim q
 |cont=>
  obtain⟨_,_,_,q⟩:=hs
  exact False.elim q
end L2
namespace L2
open PySem PySem.Spec PyProof.Rows
section
variable{X:Cx}{x:Str}{p pos:Pos}{e:Expr}{es:List Expr}{t:TA}{id T:String}{r:List V->Hp->VK->Prop}
def tCB(r:List V->Hp->VK->Prop)(t:TA):TE:=λσ H Q=>t σ H λvs H1=>r vs H1 Q
theorem ziw(hc:zbn X (.builtin id) r)(hg:Gl X x)(hm:X.mg x=none)(hv:bootBuiltins x=some (.builtin id))(ha:PA X (e::es) t)(hn:x≠"__name__":=by decide)(hdb:(x==("__debug__":Str))=false:=by decide)
 (he:starEach (e::es) X.env=(false,eval e X.env)::starEach es X.env:=by rfl) (hpl:(backTo pos (starEach es X.env)).any (·.1)=false:=by rfl):PE X (.Call (.Name x p) (e::es) [] pos) (tCB r t):=by
 intro pins s σ H Q I h
 refine wpAny_Call_Name_kw (VV I hg hm hv ?_ hn hdb)
 exact PyProof.Rows.callWith_builtin1 (thn (ha pos pins s σ H _ I h) λus s1 ⟨vs,H1,I1,r1,q1⟩=>hc pins s1 σ H1 vs us Q I1 r1 q1) he hpl
theorem zhd(hc:zbn X (.type T) r)(hg:Gl X x)(hm:X.mg x=none)(hv:bootBuiltins x=some (.type T))(ha:PA X (e::es) t)(hn:x≠"__name__":=by decide)(hdb:(x==("__debug__":Str))=false:=by decide)
 (he:starEach (e::es) X.env=(false,eval e X.env)::starEach es X.env:=by rfl) (hpl:(backTo pos (starEach es X.env)).any (·.1)=false:=by rfl):PE X (.Call (.Name x p) (e::es) [] pos) (tCB r t):=by
 intro pins s σ H Q I h
 refine wpAny_Call_Name_kw (VV I hg hm hv ?_ hn hdb)
 exact PyProof.Rows.callWith_type1 (thn (ha pos pins s σ H _ I h) λus s1 ⟨vs,H1,I1,r1,q1⟩=>hc pins s1 σ H1 vs us Q I1 r1 q1) he hpl
end
end L2
namespace L2
open PySem PySem.Spec PyProof.Rows
section
variable{κ:Type}[DecidableEq κ]
def zcM(kvs:List (κ×V))(k:κ):Option V:=(kvs.find? λkv=>decide (kv.1=k)).map (·.2)
theorem znm{p:κ×V}{r:List (κ×V)}{k:κ}(e:p.1=k):zcM (p::r) k=some p.2:=by simp[zcM,List.find?_cons,e]
theorem zom{p:κ×V}{r:List (κ×V)}{k:κ}(e:¬p.1=k):zcM (p::r) k=zcM r k:=by simp[zcM,List.find?_cons,e]
theorem zcc.isSome_eq(r:zcc o u):o.isSome=u.isSome:=by
 cases o with
 |none=>cases u with
  |none=>rfl
  |some _=>exact(show False from r).elim
 |some _=>cases u with
  |none=>exact(show False from r).elim
  |some _=>rfl
theorem KV.val{kvs:List (κ×V)}{vs:List (κ×Value)}(r:KV kvs vs)(k:κ):zcc (zcM kvs k) (valueAt vs k):=by
 unfold KV at r
 induction r with
 |nil=>exact True.intro
 | @cons p q ps qs h t ih=>
  obtain⟨h1,h2⟩:=h
  by_cases e:p.1=k
  · have e':q.1=k:=h1.symm.trans e
    have b:valueAt (q::qs) k=some q.2:=by simp[valueAt,List.find?_cons,e']
    rw[znm e,b];exact h2
  · have e':¬q.1=k:=λz=>e (h1.trans z)
    have b:valueAt (q::qs) k=valueAt qs k:=by simp[valueAt,List.find?_cons,e']
    rw[zom e,b];exact ih
theorem KV.length(r:KV kvs vs):kvs.length=vs.length:=Paired.length r
end
theorem zli(r:RelV (kV k) u):(wN P w).is k u=true:=by
 cases k with
 |inl i=>obtain⟨t,e⟩:=(show ∃t,u=Value.int i t from r);subst e;exact zjy P w i t
 |inr x=>obtain⟨t,e⟩:=(show ∃t,u=Value.str x t from r);subst e;exact zaL P w x t
section
variable{P:Program}{w:World}{H:Hp}{h:Heap}{a:Addr}
theorem ztZ(ok:HOk P w H h)(e:Rd H a u):wV P w H h a u:=e.ok ok
theorem zuq(ok:HOk P w H h)(e:Rd H a (.dK kvs)):kvs.length<=sizeLine/\(a==sysModules)=false/\∃vs,KV kvs vs/\h.DictOf (wN P w) a vs:=
 show wV P w H h a (.dK kvs)from ztZ ok e
end
section
variable{X:Cx}{pins:List (Addr×Obj)}{σ:St}{H:Hp}{s:Shared}{a:Addr}{y v:V}{u r:Value}{o:Option V}{A:Around}{E:Value->Shared->Prop}
theorem Inv.big(I:Inv X pins σ H s):sysModules<s.heap.objs.size:=by
 have h:mainGlobals<s.heap.objs.size:=(I.mod.glob.keeps I.bk).lt
 exact Nat.lt_trans (by decide) h
theorem znF(z:kvs.length<=sizeLine)(hd:(a==sysModules)=false)(rel:KV kvs vs)(dd:h'.DictOf (wN P w) a vs):
 wV P w H' h' a (.dK kvs):=⟨z,hd,vs,rel,dd⟩
end
theorem zoa(h:Heap)(hb:sysModules<h.objs.size):wV P w H (h.push {cls:=.type "dict",data:=.dict #[]}) h.objs.size (.dK []):=
 ⟨Nat.zero_le _,beq_eq_false_iff_ne.mpr (Ne.symm (zzN hb)),[],.nil,Heap.DictOf.new h⟩
def zsW:TE:=λ_ H Q=>∀p,H p=none->Q (.ref p) (upd H p (.dK []))
section
variable{X:Cx}{pos:Pos}
theorem zni:PE X (.Dict [] [] pos) zsW:=λpins s σ H Q I h=>
 wpAny_Dict_empty ⟨.ref s.heap.objs.size,_,I.laid (a:=s.heap.objs.size) (o:=.dK []) (t':=s.toks) (λ_ _ q=>zxF _ q) (zzK _) (zoa s.heap I.big),rfl,h _ (I.hok.fresh (zzK _))⟩
end
structure M1(X:Cx)(o:Expr)(m:Str)(apos:Pos)(e:Expr)(cpos:Pos):Prop where
 base:attributeBase o m X.env (eval o X.env)=eval o X.env
 few:((backTo cpos (starEach [e] X.env)).all (λx=>!x.1)&&(backToKw cpos (keywordEach [] X.env)).all (λx=>x.1.isSome)
  && decide (([e]:List Expr).length+([]:List Keyword).length+(if([]:List Keyword).isEmpty then 0 else 1)<30))=true
 line:(apos.endLine==cpos.line)=true
 trees:backTo cpos (starEach [e] X.env)=[(false,eval e X.env)]
structure M2(X:Cx)(o:Expr)(m:Str)(apos:Pos)(e f:Expr)(cpos:Pos):Prop where
 base:attributeBase o m X.env (eval o X.env)=eval o X.env
 few:((backTo cpos (starEach [e,f] X.env)).all (λx=>!x.1)&&(backToKw cpos (keywordEach [] X.env)).all (λx=>x.1.isSome)
  && decide (([e,f]:List Expr).length+([]:List Keyword).length+(if([]:List Keyword).isEmpty then 0 else 1)<30))=true
 line:(apos.endLine==cpos.line)=true
 trees:backTo cpos (starEach [e,f] X.env)=[(false,eval e X.env),(false,eval f X.env)]
end L2
namespace HT
open PySem PyProof.Rows
section
variable{prog:Program}{w:World}{A:Around}{E:Value->Shared->Prop}{s:Shared}
theorem zpI(ht:IsTup s.heap t vs.toArray)(hb:IsTup s.heap b ws.toArray)(hv:vs≠[])
 (h1:ws=[]->Q (.ref t) s) (h2:ws≠[]->Q (.ref s.heap.objs.size) {s with heap:=s.heap.push {cls:=.type "tuple",data:=.seq (vs++ws).toArray}})
 (hsz:vs.length+ws.length<=sizeLine):wpAny (model prog w) A (binaryOp .Add (.ref t) (.ref b)) Q E s:=by
 obtain⟨⟨cls,dd,data,sl⟩,ho,hc,n,hd⟩:=id ht
 obtain⟨⟨cls2,dd2,data2,sl2⟩,ho2,hc2,n2,hd2⟩:=id hb
 simp only at hc hd hc2 hd2
 subst hc hd hc2 hd2
 have e:vs.toArray++ws.toArray=(vs++ws).toArray:=by simp
 by_cases hw:ws=[]
 · exact concat_meets ⟨_,ho,rfl⟩ ⟨_,ho2,rfl⟩ noFill_tuple_add seq_tuple_add PySem.F.slot_tuple_add PySem.F.entry_tuple_add (PySem.F.args_tuple_add_2 _ _)
    (tuple_addW1 t b vs.toArray ws.toArray n n2 dd dd2 sl sl2 (by simpa using hv) (by simp[hw])) ⟨ho,ho2,h1 hw⟩
 · refine concat_meets ⟨_,ho,rfl⟩ ⟨_,ho2,rfl⟩ noFill_tuple_add seq_tuple_add PySem.F.slot_tuple_add PySem.F.entry_tuple_add (PySem.F.args_tuple_add_2 _ _)
    (tuple_addW2 t b vs.toArray ws.toArray n n2 dd dd2 sl sl2 (by simpa using hv) (by simpa using hw) (by rw[zzE,zzE];exact hsz)) ⟨ho,ho2, ?_⟩
   rw[e]
   exact h2 hw
def sIx(n d:Nat):Option Int->Nat
 |none=>d
 |some v=>if v<0 then(v+(n:Int)).toNat else min v.toNat n
theorem znw(n d:Nat):sIx n d none=d:=rfl
theorem zph(n d k:Nat):sIx n d (some (k:Int))=min k n:=by
 show(if(k:Int)<0 then((k:Int)+(n:Int)).toNat else min (k:Int).toNat n)=min k n
 rw[if_neg (by omega),zyF]
theorem zsv(n d:Nat)(hd:d<=n)(o:Option Int):sIx n d o<=n:=by
 cases o with
 |none=>exact hd
 |some v=>
  show(if v<0 then(v+(n:Int)).toNat else min v.toNat n)<=n
  by_cases hv:v<0
  · rw[if_pos hv];omega
  · rw[if_neg hv];exact Nat.min_le_right _ _
theorem zkU(v:Int)(n d:Nat):(if v<0 then max (v+(n:Int)) 0 else min v (n:Int))=((sIx n d (some v):Nat):Int):=by
 show(if v<0 then max (v+(n:Int)) 0 else min v (n:Int))=(((if v<0 then(v+(n:Int)).toNat else min v.toNat n):Nat):Int)
 by_cases hv:v<0
 · simp only[if_pos hv];omega
 · simp only[if_neg hv];omega
theorem zjP(lo hi:Option Int)(n:Nat):Builtin.Slice.sliceAdjust lo hi 1 (n:Int)=(((sIx n 0 lo:Nat):Int),((sIx n n hi:Nat):Int)):=by
 have h1:¬((1:Int)<0):=by omega
 unfold Builtin.Slice.sliceAdjust
 simp only[h1,if_false]
 refine Prod.ext ?_ ?_
 · cases lo with
   |none=>rfl
   |some v=>exact zkU v n 0
 · cases hi with
   |none=>rfl
   |some v=>exact zkU v n n
theorem zjV(i j:Nat):Builtin.Slice.slicePlaces (i:Int) (j:Int) 1=j-i:=by
 unfold Builtin.Slice.slicePlaces
 have h1:(1:Int) > 0:=by omega
 simp only[h1,if_true,Int.ediv_one]
 split<;>omega
theorem zfZ(p:IsPart v o)(h:Q o s):wpAny (model prog w) A (Builtin.Slice.slicePartIndex v) Q E s:=by
 cases p with
 |none=>exact slicePart_none h
 |int i t=>exact slicePart_int h
theorem zdb{sl:Addr}{vl vu:Value}{lo hi:Option Int}{n:Nat}{Q:Int×Int×Nat->Shared->Prop}(hs:s.heap.IsSliceOf sl vl vu .none)(pl:IsPart vl lo)(pu:IsPart vu hi)
 (h:Q (((sIx n 0 lo:Nat):Int),1,sIx n n hi-sIx n 0 lo) s):wpAny (model prog w) A (Builtin.Slice.sliceApplied (.ref sl) (pure (n:Int))) Q E s:=by
 obtain⟨os,hos,hcs,hds⟩:=id hs
 unfold Builtin.Slice.sliceApplied Builtin.Slice.sliceFields
 refine zxD (zxD (wpAny_field hos hds (x:=vl) rfl (zxD (wpAny_field hos hds (x:=vu) rfl (zxD (wpAny_field hos hds (x:=.none) rfl (zxE ?_)))))))
 refine zxD (slicePart_none ?_)
 show wpAny _ _ (if((1:Int)==0)=true then _ else _) _ _ s
 rw[if_neg (by decide)]
 refine zxD (zfZ pl (zxD (zfZ pu (zxD (zxE ?_)))))
 show wpAny _ _ (match Builtin.Slice.sliceAdjust lo hi 1 (n:Int)with|(lo,hi)=>pure (lo,(1:Int),Builtin.Slice.slicePlaces lo hi 1)) _ _ s
 rw[zjP lo hi n]
 show wpAny _ _ (pure (((sIx n 0 lo:Nat):Int),(1:Int),Builtin.Slice.slicePlaces ((sIx n 0 lo:Nat):Int) ((sIx n n hi:Nat):Int) 1)) _ _ s
 rw[zjV]
 exact zxE h
theorem znq(xs:Array Value)(i k:Nat):((List.range k).filterMap λ(m:Nat)=>xs[((i:Int)+(m:Int)*1).toNat]?).toArray=((xs.toList.drop i).take k).toArray:=by
 have e:(λ(m:Nat)=>xs[((i:Int)+(m:Int)*1).toNat]?)=λm=>xs[i+m]? := by
  funext m
  have:((i:Int)+(m:Int)*1).toNat=i+m:=by omega
  rw[this]
 rw[e]
 have:=pick_run xs i k
 rw[List.filterMap_map]at this
 have e2:((λx=>xs[x]?)∘λx=>i+x)=λm=>xs[i+m]? := rfl
 rw[e2]at this
 rw[this]
theorem zcw{t sl:Addr}{items:Array Value}{vl vu:Value}{lo hi:Option Int}{Q:Value->Shared->Prop}(ht:IsTup s.heap t items)(hs:s.heap.IsSliceOf sl vl vu .none)(pl:IsPart vl lo)(pu:IsPart vu hi)
 (hw:¬(sIx items.size 0 lo=0/\sIx items.size items.size hi=items.size))
 (h:Q (.ref s.heap.objs.size) {s with heap:=s.heap.push {cls:=.type "tuple",data:=.seq ((items.toList.drop (sIx items.size 0 lo)).take (sIx items.size items.size hi-sIx items.size 0 lo)).toArray}})
 (hsz:items.size<=sizeLine):wpAny (model prog w) A (getItem (.ref t) (.ref sl)) Q E s:=by
 have htake:sizeOk (.seq ((items.toList.drop (sIx items.size 0 lo)).take (sIx items.size items.size hi-sIx items.size 0 lo)).toArray):=by
  show((items.toList.drop (sIx items.size 0 lo)).take (sIx items.size items.size hi-sIx items.size 0 lo)).toArray.size<=sizeLine
  rw[zzE,zzP,List.length_drop,zyQ]
  omega
 have hj:sIx items.size items.size hi<=items.size:=zsv _ _ (zzK _) hi
 obtain⟨os,hos,hcs,hds⟩:=id hs
 have hTs:s.TypeIs (.ref sl) "slice":=⟨os,hos,hcs⟩
 unfold getItem
 try with_reducible refine zxK ?_
 first|refine zxD (zxE ?_)|skip
 refine zxD (wpAny_sequenceKey ht.typeIs (by decide) ?_)
 refine zxD (wpAny_callSpecial?_slot (name:=Str.ofString "__getitem__") ht.typeIs PyProof.Rows.slot_tuple_getitem
  (wpAny_call_entry PyProof.Rows.slot_tuple_getitem ht.typeIs entry_tuple_getitem ?_ (args_tuple_getitem _ _)))
 show wpAny _ _ (Builtin.Tuple.tupleItemsOf (.ref t) >>= _) _ _ s
 refine zxD (tupleItemsOf_ ht ?_)
 refine zxD (wpAny_typeOf hTs ?_)
 rw[if_pos (by decide)]
 refine zxD (zdb hs pl pu ?_)
 have hno:¬((((sIx items.size 0 lo:Nat):Int)==0&&(1:Int)==1&&(sIx items.size items.size hi-sIx items.size 0 lo)==items.size)=true):=by
  intro q
  rw[zzZ,zzZ]at q
  have q1:((sIx items.size 0 lo:Nat):Int)=0:=eq_of_beq q.1.1
  have q2:sIx items.size items.size hi-sIx items.size 0 lo=items.size:=eq_of_beq q.2
  exact hw ⟨by omega,by omega⟩
 show wpAny _ _ (if(((sIx items.size 0 lo:Nat):Int)==0&&(1:Int)==1&&(sIx items.size items.size hi-sIx items.size 0 lo)==items.size)=true then _ else _) _ _ s
 rw[if_neg hno,znq]
 first
  |exact zxD (m:=Builtin.Tuple.tupleExact _) (zxI (zxE ⟨_,rfl,zxE h⟩) htake)
  |exact zxD (m:=Builtin.Tuple.tupleExact _) (zxI (zxD (zxE (zxE ⟨_,rfl,zxE h⟩))) htake)
  |exact zxD (zxD (m:=Builtin.Tuple.tupleExact _) (zxI (zxE (zxE ⟨_,rfl,zxE h⟩)) htake))
  |exact zxD (zxD (m:=Builtin.Tuple.tupleExact _) (zxI (zxE ⟨_,rfl,zxE h⟩) htake))
end
end HT
namespace L2
open PySem PySem.Spec PyProof.Rows
abbrev TO:=St->Hp->(Option Int->Hp->Prop)->Prop
def PO(X:Cx)(e:Option Expr)(t:TO):Prop:=
 ∀(pins:List (Addr×Obj)) (s:Shared) (σ:St) (H:Hp) (Q:Option Int->Hp->Prop),Inv X pins σ H s->t σ H Q->
  wpAny (model X.prog X.w) X.A (evalPart e X.env) (λu s'=>∃o H',Inv X pins σ H' s'/\IsPart u o/\Q o H') X.xe s
def zqj:TO:=λ_ H Q=>Q none H
def ztv(t:TE):TO:=λσ H Q=>t σ H λx H1=>∃i,x = .int i/\Q (some i) H1
theorem intsAre_of:∀{us:List Value},Vals (ns.map V.int) us->IntsAre us ns:=by
 induction ns with
 |nil=>intro us r;rw[List.map_nil]at r;cases r;exact .nil
 |cons n ns ih=>
  intro us r
  rw[zyP]at r
  cases r with
  |cons r1 r2=>
   obtain⟨t,e⟩:=r1
   subst e
   exact .cons n t (ih r2)
section
variable{X:Cx}{e:Expr}{te:TE}{lo hi:Option Expr}{tl th:TO}{pos p2:Pos}
theorem zpT:PO X none zqj:=by
 intro pins s σ H Q I h
 rw[evalPart_none]
 exact zxE ⟨none,H,I,.none,h⟩
theorem zqe(h:PE X e te):PO X (some e) (ztv te):=by
 intro pins s σ H Q I hw
 rw[evalPart_some]
 refine thn (h pins s σ H _ I hw) λu s1 ⟨x,H1,I1,r1,q1⟩=>?_
 obtain⟨i,rfl,q⟩:=q1
 obtain⟨t,rfl⟩:=r1
 exact⟨some i,H1,I1,.int i t,q⟩
def SlR(X:Cx)(r:V->Option Int->Option Int->Hp->VK->Prop):Prop:=
 ∀(pins:List (Addr×Obj)) (s:Shared) (σ:St) (H:Hp) (x:V) (v vl vu:Value) (lo hi:Option Int) (sl:Addr) (Q:VK),Inv X pins σ H s->RelV x v->s.heap.IsSliceOf sl vl vu .none->IsPart vl lo->IsPart vu hi->r x lo hi H Q->
  ∃T id,typeLookup (.type T) "__getitem__"=pure (some (.builtin id))/\s.TypeIs v T/\wpAny (model X.prog X.w) X.A (getItem v (.ref sl)) (EP X pins σ Q) X.xe s
def tSl(r:V->Option Int->Option Int->Hp->VK->Prop)(te:TE)(tl th:TO):TE:=λσ H Q=>te σ H λx H1=>tl σ H1 λl H2=>th σ H2 λu H3=>r x l u H3 Q
theorem ziS(hr:SlR X r)(he:PE X e te)(hl:PO X lo tl)(hu:PO X hi th):PE X (.Subscript e (.Slice lo hi none p2) pos) (tSl r te tl th):=by
 intro pins s σ H Q I h
 refine Subscript_ (thn (he pins s σ H _ I h) λv s1 ⟨x,H1,I1,r1,q1⟩=>?_)
 refine wpAny_Slice (thn (hl pins s1 σ H1 _ I1 q1) λvl s2 ⟨l,H2,I2,pl,q2⟩=>thn (hu pins s2 σ H2 _ I2 q2) λvu s3 ⟨u,H3,I3,pu,q3⟩=>?_)
 rw[evalPart_none]
 refine zxE ?_
 have I4:Inv X pins σ H3 {s3 with heap:=s3.heap.push {cls:=.type "slice",data:=.fields #[vl,vu,.none]}}:=I3.kept (t':=s3.toks) λb ob q=>zxF _ q
 obtain⟨T,id,hT,ht,hg⟩:=hr pins {s3 with heap:=s3.heap.push {cls:=.type "slice",data:=.fields #[vl,vu,.none]}} σ H3 x v vl vu l u s3.heap.objs.size Q I4 r1 (Heap.IsSliceOf.new ..) pl pu q3
 show wpAny (model X.prog X.w) X.A (subscriptTail e (.Slice lo hi none p2) v (.ref s3.heap.objs.size)) (EP X pins σ Q) X.xe {s3 with heap:=s3.heap.push {cls:=.type "slice",data:=.fields #[vl,vu,.none]}}
 exact tail_any (ops:=[.ref s3.heap.objs.size,v]) ht hT hg (by with_unfolding_all rfl)
def zjw(xs:List V)(lo hi:Option Int):List V:=(xs.drop (HT.sIx xs.length 0 lo)).take (HT.sIx xs.length xs.length hi-HT.sIx xs.length 0 lo)
theorem zdW(xs:List V)(lo hi:Option Int):(zjw xs lo hi).length<=xs.length:=by
 unfold zjw
 rw[zzP,List.length_drop]
 omega
def zuu(K:zC):V->Option Int->Option Int->Hp->VK->Prop:=λx lo hi H Q=>∃a xs,x = .ref a/\SqT K H a xs/\
 ¬(HT.sIx xs.length 0 lo=0/\HT.sIx xs.length xs.length hi=xs.length)/\∀p,H p=none->Q (.ref p) (upd H p (.tup (zjw xs lo hi)))
theorem zrS:SlR X (zuu X.K):=by
 intro pins s σ H x v vl vu lo hi sl Q I rx hs pl pu h
 obtain⟨a,xs,rfl,hx,hw,q⟩:=h
 cases rx
 obtain⟨its,r,ht,hz⟩:=I.tuple hx
 have hlen:its.toArray.size=xs.length:=by rw[zzE];exact r.length.symm
 refine⟨"tuple",_,PyProof.Rows.slot_tuple_getitem.lookup,ht.typeIs, ?_⟩
 refine HT.zcw ht hs pl pu (by rw[hlen];exact hw) ?_ (by rw[hlen];exact hz)
 rw[hlen]
 refine⟨.ref s.heap.objs.size,_,I.laid (t':=s.toks) (o:=.tup (zjw xs lo hi)) (λb ob q=>zxF _ q) (zzK _) ?_,rfl,q _ (I.hok.fresh (zzK _))⟩
 exact⟨zzL (zdW xs lo hi) hz,_,(r.drop (HT.sIx xs.length 0 lo)).take (HT.sIx xs.length xs.length hi-HT.sIx xs.length 0 lo),IsTup.new _ _⟩
def ztr(K:zC):R2:=λx y H Q=>∃a b xs ys,x = .ref a/\y = .ref b/\SqT K H a xs/\SqT K H b ys/\xs≠[]/\xs.length+ys.length<=sizeLine/\
 (ys=[]->Q (.ref a) H)/\(ys≠[]->∀p,H p=none->Q (.ref p) (upd H p (.tup (xs++ys))))
theorem Vals.nil_iff(r:Vals xs us):us=[] ↔ xs=[]:=by
 cases r with
 |nil=>simp
 |cons _ _=>simp
theorem zoS:OpR X (binaryOp .Add) (ztr X.K):=by
 intro pins s σ H x y v u Q I rx ry h
 obtain⟨a,b,xs,ys,rfl,rfl,ha,hb,hx,hz,q1,q2⟩:=h
 cases rx
 cases ry
 obtain⟨its,r1,p1,_⟩:=I.tuple ha
 obtain⟨its2,r2,p2,_⟩:=I.tuple hb
 refine HT.zpI p1 p2 (λz=>hx (r1.nil_iff.mp z)) (λz=>⟨.ref a,H,I,rfl,q1 (r2.nil_iff.mp z)⟩) (λz=>?_) (by rw[<-r1.length,<-r2.length];exact hz)
 refine⟨.ref s.heap.objs.size,_,I.laid (t':=s.toks) (o:=.tup (xs++ys)) (λb ob q=>zxF _ q) (zzK _) ?_,rfl,q2 (λw=>z (r2.nil_iff.mpr w)) _ (I.hok.fresh (zzK _))⟩
 exact⟨by rw[zzG];exact hz,_,r1.append r2,IsTup.new _ _⟩
end
end L2
namespace L2
open PySem PySem.Spec PyProof.Rows
def ixN(n:Nat)(i:Int):Option Nat:=if 0<=i then(if i<n then some i.toNat else none)else if -(n:Int)<=i then some (i+n).toNat else none
def atI{α:Type}(xs:List α)(i:Int):Option α:=(ixN xs.length i).bind λj=>xs[j]?
theorem zlD(h:ixN n i=some j):seqIndex? i n=some j/\j<n /\ -(n:Int)<=i/\i<n:=by
 unfold ixN at h
 by_cases h0:0<=i
 · rw[if_pos h0]at h
   by_cases h1:i<n
   · rw[if_pos h1]at h
     have e:i.toNat=j:=zzW h
     exact⟨by rw[seqIndex_of h0 h1,e],by omega,by omega,h1⟩
   · rw[if_neg h1]at h;cases h
 · rw[if_neg h0]at h
   by_cases h1 : -(n:Int)<=i
   · rw[if_pos h1]at h
     have e:(i+n).toNat=j:=zzW h
     exact⟨by rw[seqIndex_neg (by omega) h1,e],by omega,h1,by omega⟩
   · rw[if_neg h1]at h;cases h
theorem zhG(h:atI xs i=some v):∃j,seqIndex? i xs.length=some j/\xs[j]? = some v/\j<xs.length /\ -(xs.length:Int)<=i/\i<xs.length:=by
 unfold atI at h
 cases e:ixN xs.length i with
 |none=>rw[e]at h;cases h
 |some j=>
  rw[e]at h
  obtain⟨h1,h2,h3,h4⟩:=zlD e
  exact⟨j,h1,h,h2,h3,h4⟩
theorem WW{α:Type}{xs:List α}{j:Nat}{v:α}(h:xs[j]? = some v):atI xs (j:Int)=some v:=by
 have hj:j<xs.length:=(zzD.mp h).1
 have e:ixN xs.length (j:Int)=some j:=by
  unfold ixN
  rw[if_pos (by omega),if_pos (by omega)];simp
 unfold atI;rw[e];exact h
def Z1(b:Expr):Prop:=∀o i,subscripted b false o i=operate [o,i] (getItem o i)
def IxR(X:Cx)(r:R2):Prop:=
 ∀(value slice:Expr) (pins:List (Addr×Obj)) (s:Shared) (σ:St) (H:Hp) (x y:V) (v u:Value) (Q:VK),Inv X pins σ H s->RelV x v->RelV y u->r x y H Q->
  subscripted slice false v u=operate [v,u] (getItem v u)->wpAny (model X.prog X.w) X.A (subscriptTail value slice v u) (EP X pins σ Q) X.xe s
def MtR(X:Cx)(id:String)(r:V->List V->Hp->VK->Prop):Prop:=
 ∀(pins:List (Addr×Obj)) (s:Shared) (σ:St) (H:Hp) (x:V) (xs:List V) (v:Value) (us:List Value) (Q:VK),Inv X pins σ H s->RelV x v->Vals xs us->r x xs H Q->
  wpAny (model X.prog X.w) X.A (call (.builtin id) (v::us)) (EP X pins σ Q) X.xe s
section
variable{X:Cx}{a b:Expr}{ta tb:TE}{pos:Pos}
theorem zdT(hr:IxR X r)(ha:PE X a ta)(hb:PE X b tb)(hs:Z1 b):PE X (.Subscript a b pos) (tOp r ta tb):=by
 intro pins s σ H Q I h
 exact Subscript_ (ztf ha hb I h λv u s2 x y H2 I2 rx ry q=>hr a b pins s2 σ H2 x y v u Q I2 rx ry q (hs _ _))
def zvj(K:zC):R2:=λx y H Q=>∃p xs i v,x = .ref p/\y = .int i/\SqL K H p xs/\atI xs i=some v/\Q v H
def ztC(K:zC):R2:=λx y H Q=>∃p xs i v,x = .ref p/\y = .int i/\SqT K H p xs/\atI xs i=some v/\Q v H
def zuF:R2:=λx y H Q=>∃z i c,x = .str z/\y = .int i/\z.length<=sizeLine/\atI z.cps.toList i=some c/\Q (.str ⟨#[c]⟩) H
theorem zhS:IxR X (zvj X.K):=by
 intro value slice pins s σ H x y v u Q I rx ry h hs
 obtain⟨p,xs,i,z,rfl,rfl,hq,he,q⟩:=h
 cases rx
 obtain⟨t,rfl⟩:=ry
 obtain⟨its,r,pl,hz⟩:=I.list hq
 obtain⟨j,h1,h2,h3,h4,h5⟩:=zhG he
 obtain⟨w,ew,rw'⟩:=r.get h2
 have hl:=r.length
 have hn:=zbE
 have fin:EP X pins σ Q w s:=⟨z,H,I,rw',q⟩
 by_cases h0:0<=i
 · have hj:i.toNat=j:=by
    rw[seqIndex_of h0 h5]at h1
    exact zzW h1
   exact item_listR pl.isList h0 (by omega) (by rw[hj];simpa using ew) fin hs
 · have hj:(i+(its.toArray.size:Int)).toNat=j:=by
    rw[seqIndex_neg (by omega) h4]at h1
    rw[zzE,<-hl]
    exact zzW h1
   exact subscriptTail_builtinR (x:=w) pl.isList.typeIs slot_list_getitem.lookup
    (wpAny_getItem_list_neg (Q:=λr s'=>r=w/\EP X pins σ Q r s') pl.isList (by omega) (by rw[zzE]<;>omega) (by omega) (by rw[hj];simpa using ew) ⟨rfl,fin⟩) hs
theorem zdd:IxR X (ztC X.K):=by
 intro value slice pins s σ H x y v u Q I rx ry h hs
 obtain⟨p,xs,i,z,rfl,rfl,hq,he,q⟩:=h
 cases rx
 obtain⟨t,rfl⟩:=ry
 obtain⟨its,r,pl,hz⟩:=I.tuple hq
 obtain⟨j,h1,h2,h3,h4,h5⟩:=zhG he
 obtain⟨w,ew,rw'⟩:=r.get h2
 have hl:=r.length
 have hn:=zbE
 have fin:EP X pins σ Q w s:=⟨z,H,I,rw',q⟩
 exact subscriptTail_builtinR (x:=w) pl.typeIs slot_tuple_getitem.lookup
  (getItem_tuple (j:=j) (Q:=λr s'=>r=w/\EP X pins σ Q r s') pl (by omega) (by omega) (by rw[zzE,<-hl];exact h1) (by simpa using ew) ⟨rfl,fin⟩) hs
theorem zrs:IxR X zuF:=by
 intro value slice pins s σ H x y v u Q I rx ry h hs
 obtain⟨z,i,c,rfl,rfl,hz,he,q⟩:=h
 obtain⟨t,rfl⟩:=rx
 obtain⟨t',rfl⟩:=ry
 obtain⟨j,h1,h2,h3,h4,h5⟩:=zhG he
 have hl:z.cps.toList.length=z.length:=by simp[Str.length]
 rw[hl]at h1 h4 h5
 have hn:=zbE
 exact tail_any (typeIs_str s z t) slot_str_getitem.lookup (getItem_str (c:=c) (by
  have e1:decide (i < -(2 ^ 63:Int))=false:=zyD (by omega)
  have e2:decide (i ≥ 2 ^ 63)=false:=zyD (by omega)
  rw[e1,e2,Bool.or_false]) (by rw[h1];simpa using h2) ⟨.str ⟨#[c]⟩,H,I.tok _,⟨_,rfl⟩,q⟩) hs
theorem zko(its:List Value)(n j:Nat)(u:Value):Obj.mapSeq (·.setIfInBounds j u) {cls:=.type "list",data:=.seq its.toArray n}={cls:=.type "list",data:=.seq (its.set j u).toArray n}:=by
 simp[Obj.mapSeq]
theorem Inv.lst(I:Inv X pins σ H s)(h:H p=some (.lst xs)):
 ∃(its:List Value) (n:Nat),Vals xs its/\s.heap.get? p=some {cls:=.type "list",data:=.seq its.toArray n}/\xs.length<=sizeLine:=by
 obtain⟨z,its,n,r,e⟩:=I.hok p _ h
 exact⟨its,n,r,e,z⟩
theorem Inv.lstUpd{pins:List (Addr×Obj)}{σ:St}{H:Hp}{s:Shared}{p:Addr}{xs ys:List V}{its its':List Value}{n n':Nat}{f:Obj->Obj}(I:Inv X pins σ H s)(h:H p=some (.lst xs))
 (ho:s.heap.get? p=some {cls:=.type "list",data:=.seq its.toArray n}) (hf:f {cls:=.type "list",data:=.seq its.toArray n}={cls:=.type "list",data:=.seq its'.toArray n'}) (r:Vals ys its') (hz:ys.length<=sizeLine) (t:Nat):
 Inv X pins σ (upd H p (.lst ys)) {s with heap:=s.heap.update p f,toks:=t}:=by
 have e:(s.heap.update p f).get? p=some {cls:=.type "list",data:=.seq its'.toArray n'}:=by
  rw[Heap.get?_update_self f ho (by rw[hf]<;>rfl),hf]
 refine I.write (x:=p) (e:=p) (by rw[h];trivial) (.inl rfl) (λb u hb q=>(Heap.get?_update_other _ _ (Ne.symm hb)).trans q) ⟨_,e⟩ ?_
 exact⟨hz,its',n',r,e⟩
def ztS:V->V->V->Hp->(Hp->Prop)->Prop:=λo i v H Q=>∃p xs k j,o = .ref p/\i = .int k/\H p=some (.lst xs)/\ixN xs.length k=some j/\Q (upd H p (.lst (xs.set j v)))
theorem set_list:zto X ztS:=by
 intro pins s σ H o i v ov iv u Q I ro ri rv h
 obtain⟨p,xs,k,j,rfl,rfl,hp,hj,q⟩:=h
 cases ro
 obtain⟨t,rfl⟩:=ri
 obtain⟨its,n,r,ho,hz⟩:=I.lst hp
 obtain⟨h1,h2,h3,h4⟩:=zlD hj
 have hl:=r.length
 have hn:=zbE
 have I':Inv X pins σ (upd H p (.lst (xs.set j v))) {s with heap:=s.heap.update p (Obj.mapSeq (·.setIfInBounds j u))}:=
  I.lstUpd hp ho (zko its n j u) (r.set rv j) (by rw[zzR];exact hz) s.toks
 by_cases h0:0<=k
 · have hk:k.toNat=j:=by
    rw[seqIndex_of h0 h4]at h1
    exact zzW h1
   exact PySem.W.ki_setAt ho h0 (by omega) (by rw[zzE,<-hl];exact h4) (by rw[hk];exact⟨_,I',q⟩)
 · have hk:(k+(its.toArray.size:Int)).toNat=j:=by
    rw[seqIndex_neg (by omega) h3]at h1
    rw[zzE,<-hl]
    exact zzW h1
   exact PySem.W.ki_setBack ho (by omega) (by rw[zzE,<-hl];exact h3) (by omega) (by rw[hk];exact⟨_,I',q⟩)
theorem zhj(lo hi:Option Int)(n:Nat):(sliceBounds lo hi none n).1=((HT.sIx n 0 lo:Nat):Int)/\(sliceBounds lo hi none n).2.1=((HT.sIx n n hi:Nat):Int)/\(sliceBounds lo hi none n).2.2=1:=by
 refine⟨?_, ?_,rfl⟩
 · cases lo with
   |none=>simp[sliceBounds,HT.sIx]
   |some i=>
    simp only[sliceBounds,HT.sIx,Option.getD_none,show(1:Int) > 0 by decide,if_true]
    by_cases h:i<0
    · simp only[h,if_true]<;>omega
    · simp only[h,if_false]<;>omega
 · cases hi with
   |none=>simp[sliceBounds,HT.sIx]
   |some i=>
    simp only[sliceBounds,HT.sIx,Option.getD_none,show(1:Int) > 0 by decide,if_true]
    by_cases h:i<0
    · simp only[h,if_true]<;>omega
    · simp only[h,if_false]<;>omega
theorem zgz(its:List Value)(lo hi:Option Int):slicePick its.toArray lo hi none=((its.drop (HT.sIx its.length 0 lo)).take (HT.sIx its.length its.length hi-HT.sIx its.length 0 lo)).toArray:=by
 obtain⟨h1,h2,h3⟩:=zhj lo hi its.toArray.size
 unfold slicePick
 rw[h1,h2,h3]
 simp only[sliceRange_one,pick_run,zzE]<;>rfl
def zuQ(K:zC):V->Option Int->Option Int->Hp->VK->Prop:=λx lo hi H Q=>∃a xs,x = .ref a/\SqL K H a xs/\∀p,H p=none->Q (.ref p) (upd H p (.lst (zjw xs lo hi)))
theorem zpY:SlR X (zuQ X.K):=by
 intro pins s σ H x v vl vu lo hi sl Q I rx hs pl pu h
 obtain⟨a,xs,rfl,hx,q⟩:=h
 cases rx
 obtain⟨its,r,ht,hz⟩:=I.list hx
 have hlen:=r.length
 refine⟨"list",_,slot_list_getitem.lookup,ht.isList.typeIs, ?_⟩
 refine wpAny_getItem_list_slice ht.isList hs pl pu .none (by simp) ?_ (by rw[zzE]<;>omega)
 rw[zgz,<-hlen]
 refine⟨.ref s.heap.objs.size,_,I.laid (t':=s.toks) (o:=.lst (zjw xs lo hi)) (λb ob q=>zxF _ q) (zzK _) ?_,rfl,q _ (I.hok.fresh (zzK _))⟩
 exact⟨zzL (zdW xs lo hi) hz,_,0,(r.drop (HT.sIx xs.length 0 lo)).take (HT.sIx xs.length xs.length hi-HT.sIx xs.length 0 lo),zxH _ rfl⟩
theorem zbZ:zbn X (.builtin "len") (λxs H Q=>∃p ys,xs=[.ref p]/\(SqL X.K H p ys\/SqT X.K H p ys)/\Q (.int ys.length) H):=by
 intro pins s σ H xs us Q I r h
 obtain⟨p,ys,rfl,hq,q⟩:=h
 obtain⟨u,rfl,rx⟩:=vals1 r
 cases rx
 have hn:=zbE
 rcases hq with hq|hq
 · obtain⟨its,r',pl,hz⟩:=I.list hq
   have hlen:=r'.length
   exact Calls.call_len_list pl.isList (by simp only[zzE]<;>omega) ⟨.int ys.length,H,I.tok _,⟨s.toks+1,by rw[zzE,hlen]⟩,q⟩
 · obtain⟨its,r',pl,hz⟩:=I.tuple hq
   have hlen:=r'.length
   exact len_tuple pl (by simp only[zzE]<;>omega) ⟨.int ys.length,H,I.tok _,⟨s.toks+1,by rw[zzE,hlen]⟩,q⟩
theorem zhV:zbn X (.builtin "len") (λxs H Q=>∃z,xs=[.str z]/\z.length<=sizeLine/\Q (.int z.length) H):=by
 intro pins s σ H xs us Q I r h
 obtain⟨z,rfl,hz,q⟩:=h
 obtain⟨u,rfl,t,rfl⟩:=vals1 r
 have hn:=zbE
 exact len_str (by omega) ⟨.int z.length,H,I.tok _,⟨_,rfl⟩,q⟩
theorem zcn:zbn X (.type "list") (λxs H Q=>∃p ys,xs=[.ref p]/\(SqL X.K H p ys\/SqT X.K H p ys)/\∀l,H l=none->Q (.ref l) (upd H l (.lst ys))):=by
 intro pins s σ H xs us Q I r h
 obtain⟨p,ys,rfl,hq,q⟩:=h
 obtain⟨u,rfl,rx⟩:=vals1 r
 cases rx
 have fin:∀(its:List Value),Vals ys its->ys.length<=sizeLine->∀(h':Heap) (c':Nat),(∀b o',s.heap.get? b=some o'->h'.get? b=some o')->
  h'.get? s.heap.objs.size=some {cls:=.type "list",dict:=none,data:=.seq its.toArray c',slots:=#[]}->EP X pins σ Q (.ref s.heap.objs.size) {s with heap:=h'}:=λits r' hz h' c' kp e=>
  ⟨.ref s.heap.objs.size,_,I.laid (t':=s.toks) kp (zzK _) (show wV X.prog X.w _ h' _ (.lst ys)from⟨hz,its,c',r',e⟩),rfl,q _ (I.hok.fresh (zzK _))⟩
 rcases hq with hq|hq
 · obtain⟨its,r',pl,hz⟩:=I.list hq
   have hlen:=r'.length
   obtain⟨o,ho,hc,n,hd⟩:=pl.isList
   exact call_list_seq p (.inl rfl) ho hc hd (λh' c' kp e=>fin its r' hz h' c' kp e) (by simp only[zzE]<;>omega)
 · obtain⟨its,r',pl,hz⟩:=I.tuple hq
   have hlen:=r'.length
   obtain⟨o,ho,hc,n,hd⟩:=pl
   exact call_list_seq p (.inr rfl) ho hc hd (λh' c' kp e=>fin its r' hz h' c' kp e) (by simp only[zzE]<;>omega)
theorem X6:zbn X (.type "tuple") (λxs H Q=>∃p ys,xs=[.ref p]/\((SqL X.K H p ys/\∀l,H l=none->Q (.ref l) (upd H l (.tup ys)))\/(SqT X.K H p ys/\Q (.ref p) H))):=by
 intro pins s σ H xs us Q I r h
 obtain⟨p,ys,rfl,h⟩:=h
 obtain⟨u,rfl,rx⟩:=vals1 r
 cases rx
 rcases h with⟨hq,q⟩|⟨hq,q⟩
 · obtain⟨its,r',pl,hz⟩:=I.list hq
   have hlen:=r'.length
   refine call_tuple_list pl.isList (λh' kp=>?_) (by simp only[zzE]<;>omega)
   have I1:Inv X pins σ H {s with heap:=h'}:=I.kept (t':=s.toks) kp
   have I2:Inv X pins σ (upd H h'.objs.size (.tup ys)) {s with heap:=h'.push {cls:=.type "tuple",data:=.seq its.toArray}}:=
    I1.laid (t':=s.toks) (λb o e=>zxF _ e) (zzK _) (show wV X.prog X.w _ _ _ (.tup ys)from⟨hz,its,r',IsTup.new _ _⟩)
   exact⟨.ref h'.objs.size,_,I2,rfl,q _ (I1.hok.fresh (zzK _))⟩
 · obtain⟨its,r',pl,hz⟩:=I.tuple hq
   exact call_tuple_same pl ⟨.ref p,H,I,rfl,q⟩
def tyV(K:zC)(T:String)(x:V)(H:Hp):Prop:=match x with
 | .str _=>T="str"
 | .int _=>T="int"
 | .ref p=>(T="list"/\∃xs,SqL K H p xs)\/(T="tuple"/\∃o,K.lookup p=some o/\o.cls = .type "tuple"/\o.dict=none) \/
  (T="dict"/\((∃kvs,H p=some (.dK kvs))\/∃kvs,H p=some (.dT kvs)))\/(T="set"/\∃S n,H p=some (.set S n))
 |_=>False
theorem znt(I:Inv X pins σ H s)(r:RelV x v)(ty:tyV X.K T x H):
 s.TypeIs v T/\∀a,v = .ref a->∃ob,s.heap.get? a=some ob/\ob.dict=none:=by
 cases x with
 |str z=>
  obtain⟨t,rfl⟩:=r
  cases(show T="str" from ty)
  exact⟨typeIs_str s z t,λ_ e=>nomatch e⟩
 |int i=>
  obtain⟨t,rfl⟩:=r
  cases(show T="int" from ty)
  exact⟨typeIs_int s i t,λ_ e=>nomatch e⟩
 |ref p=>
  cases r
  rcases ty with⟨rfl,xs,hq⟩|⟨rfl,o,hk,hc,hd⟩|⟨rfl,hk⟩|⟨rfl,S,n,hk⟩
  · obtain⟨its,_,pl,_⟩:=I.list hq
    refine⟨pl.isList.typeIs,λa e=>?_⟩
    cases e
    obtain⟨o,n,e,c,hd,_⟩:=pl
    exact⟨o,e,hd⟩
  · refine⟨⟨o,I.kIn p o hk,hc⟩,λa e=>?_⟩
    cases e
    exact⟨o,I.kIn _ o hk,hd⟩
  · have z:∃o,s.heap.get? p=some o/\o.ExactDict:=by
     rcases hk with⟨kvs,hk⟩|⟨kvs,hk⟩
     · obtain⟨_,_,_,_,o,_,_,e,ex,_⟩:=I.hok p _ hk
       exact⟨o,e,ex⟩
     · obtain⟨_,_,_,_,o,_,_,e,ex,_⟩:=I.hok p _ hk
       exact⟨o,e,ex⟩
    obtain⟨o,e,ex⟩:=z
    refine⟨⟨o,e,ex.1⟩,λa e2=>?_⟩
    cases e2
    exact⟨o,e,ex.2.1⟩
  · obtain⟨o,_,_,_,e,ex,_⟩:=I.hok p _ hk
    refine⟨⟨o,e,ex.1⟩,λa e2=>?_⟩
    cases e2
    exact⟨o,e,ex.2.1⟩
 |_=>exact False.elim ty
def ztu(K:zC)(T:String)(r:V->List V->Hp->VK->Prop)(to:TE):TE:=λσ H Q=>to σ H λx H1=>tyV K T x H1/\r x [] H1 Q
def tBM(K:zC)(T:String)(r:V->List V->Hp->VK->Prop)(to:TE)(t:TA):TE:=λσ H Q=>to σ H λx H1=>tyV K T x H1/\t σ H1 λxs H2=>r x xs H2 Q
variable{o e:Expr}{es:List Expr}{to:TE}{t:TA}{name:Str}{apos cpos:Pos}{T id:String}{r:V->List V->Hp->VK->Prop}
theorem zfo(pa:PlainAttrs T)(slot:Slot T name id)(hty:typeOf (.builtin id)=pure (.type "method_descriptor"))(hm:MtR X id r)(ho:PE X o to)
 (hbase:attributeBase o name X.env (eval o X.env)=eval o X.env:=by rfl) (hline:(apos.endLine==cpos.line)=true:=by rfl):PE X (.Call (.Attribute o name apos) [] [] cpos) (ztu X.K T r to):=by
 intro pins s σ H Q I h
 refine wpAny_Call_method0_late hbase hline (thn (ho pins s σ H _ I h) λv s1 ⟨x,H1,I1,r1,ty,q1⟩=>?_)
 obtain⟨h1,h2⟩:=znt I1 r1 ty
 exact⟨T,id,pa,slot,hty,h1,h2,Calls.callWith_builtin rfl (PySem.evalArgs_none (hm pins s1 σ H1 x [] v [] Q I1 r1 .nil q1))⟩
theorem ztG(pa:PlainAttrs T)(slot:Slot T name id)(hty:typeOf (.builtin id)=pure (.type "method_descriptor"))(hm:MtR X id r)(ho:PE X o to)(ha:PA X (e::es) t)
 (hbase:attributeBase o name X.env (eval o X.env)=eval o X.env:=by rfl)
 (hfew:((backTo cpos (starEach (e::es) X.env)).all (λx=>!x.1)&&(backToKw cpos (keywordEach [] X.env)).all (λx=>x.1.isSome)
  && decide ((e::es).length+([]:List Keyword).length+(if([]:List Keyword).isEmpty then 0 else 1)<30))=true:=by rfl)
 (hline:(apos.endLine==cpos.line)=true:=by rfl) (hs:starEach (e::es) X.env=(false,eval e X.env)::starEach es X.env:=by rfl) (hplain:(backTo cpos (starEach es X.env)).any (·.1)=false:=by rfl):
 PE X (.Call (.Attribute o name apos) (e::es) [] cpos) (tBM X.K T r to t):=by
 intro pins s σ H Q I h
 refine wpAny_Call_method_late hbase hfew hline rfl (thn (ho pins s σ H _ I h) λv s1 ⟨x,H1,I1,r1,ty,q1⟩=>?_)
 obtain⟨h1,h2⟩:=znt I1 r1 ty
 refine⟨T,id,pa,slot,hty,h1,h2, ?_⟩
 have hA:=ha cpos pins s1 σ H1 _ I1 q1
 rw[hs]at hA ⊢
 refine Calls.callWith_builtin (by show(false||(backTo cpos (starEach es X.env)).any (·.1))=false;rw[hplain]<;>rfl) (Calls.evalArgs_plain ?_)
 exact thn hA λus s2 ⟨vs,H2,I2,r2,q2⟩=>hm pins s2 σ H2 x vs v us Q I2 r1 r2 q2
end
end L2
namespace L2
open PySem PySem.Spec PyProof.Rows
def MtM(X:Cx)(id:String)(r:V->List V->Hp->VK->Prop):Prop:=
 ∀(pins:List (Addr×Obj)) (s:Shared) (σ:St) (H:Hp) (x:V) (xs:List V) (v:Value) (us:List Value) (Q:VK),Inv X pins σ H s->RelV x v->Vals xs us->r x xs H Q->
  wpAny (model X.prog X.w) X.A (call (.builtin id) (v::us)) (EP X pins σ Q) X.xe s
theorem Vals.one:∀{x:V}{us:List Value},Vals [x] us->∃u,us=[u]/\RelV x u
 |_,_,.cons r .nil=>⟨_,rfl,r⟩
theorem Vals.zero:∀{us:List Value},Vals [] us->us=[]
 |_,.nil=>rfl
theorem Vals.eraseIdx:∀{xs:List V}{us:List Value}(i:Nat),Vals xs us->Vals (xs.eraseIdx i) (us.eraseIdx i)
 |_,_,_,.nil=>.nil
 |_,_,0,.cons _ t=>t
 |_,_,i+1,.cons r t=>.cons r (Vals.eraseIdx i t)
theorem Vals.rep(h:Vals xs us):∀k:Nat,Vals (List.replicate k xs).flatten (List.replicate k us).flatten
 |0=>.nil
 |k+1=>by
  rw[List.replicate_succ,List.replicate_succ,List.flatten_cons,List.flatten_cons]
  exact Vals.append h (Vals.rep h k)
theorem zgS:∀(l:List α) (i:Nat),(l.eraseIdx i).length<=l.length
 | [],_=>zzK _
 |_::_,0=>zyU _
 |_::r,i+1=>Nat.succ_le_succ (zgS r i)
theorem foldl_rep(its:List Value):∀(k:Nat) (acc:List Value),
 List.foldl (λx1 x2=>x1++x2) acc.toArray (List.replicate k its.toArray)=(acc++(List.replicate k its).flatten).toArray
 |0,acc=>by simp
 |k+1,acc=>by
  have e:acc.toArray++its.toArray=(acc++its).toArray:=by simp
  have e2:(acc++its)++(List.replicate k its).flatten=acc++(List.replicate (k+1) its).flatten:=by
   rw[List.replicate_succ,List.flatten_cons,zxA]
  rw[<-e2,<-foldl_rep its k (acc++its),<-e,List.replicate_succ,List.foldl_cons]
section
variable{X:Cx}{pins:List (Addr×Obj)}{σ:St}{H:Hp}{s:Shared}{l b:Addr}{xs ys zs:List V}
theorem Inv.lset{its its':List Value}{n:Nat}{f:Array Value->Array Value}{t':Nat}(I:Inv X pins σ H s)(hH:H l=some (.lst xs))
 (e:s.heap.get? l=some {cls:=.type "list",data:=.seq its.toArray n}) (hf:f its.toArray=its'.toArray) (hv:Vals ys its') (hz:ys.length<=sizeLine):
 Inv X pins σ (upd H l (.lst ys)) {s with heap:=s.heap.update l (Obj.mapSeq f),toks:=t'}:=by
 have q:=PySem.IsL.update e f
 rw[hf]at q
 refine I.write (x:=l) (e:=l) (by rw[hH];exact trivial) (.inl rfl) (λb' u hb hu=>(Heap.get?_update_other s.heap (Obj.mapSeq f) (Ne.symm hb)).trans hu) ⟨_,q⟩ ?_
 exact⟨hz,its',_,hv,q⟩
theorem Inv.lnew(I:Inv X pins σ H s)(hv:Vals ys its)(hz:ys.length<=sizeLine):
 Inv X pins σ (upd H s.heap.objs.size (.lst ys)) {s with heap:=s.heap.push {cls:=.type "list",data:=.seq its.toArray},toks:=t'}:=
 I.laid (λ_ _ q=>zxF _ q) (zzK _) ⟨hz,its,0,hv,zxH _ rfl⟩
theorem Inv.fresh(I:Inv X pins σ H s):H s.heap.objs.size=none:=I.hok.fresh (zzK _)
theorem Inv.lstM(I:Inv X pins σ H s)(hH:H l=some (.lst xs)):xs.length<=sizeLine/\∃(its:List Value) (n:Nat),Vals xs its/\xs.length=its.length/\s.heap.get? l=some {cls:=.type "list",data:=.seq its.toArray n}:=by
 obtain⟨z,its,n,r,e⟩:=I.hok l _ hH
 exact⟨z,its,n,r,r.length,e⟩
theorem zmC(h:n<=sizeLine):Builtin.List.listTooLong n=false:=by
 unfold Builtin.List.listTooLong
 exact zyD (by omega)
end
section
variable{X:Cx}
def zlw:V->List V->Hp->VK->Prop:=λx vs H Q=>∃l xs y,x = .ref l/\vs=[y]/\H l=some (.lst xs)/\xs.length<sizeLine/\Q .non (upd H l (.lst (xs++[y])))
theorem ZP:MtM X "list.append" zlw:=by
 intro pins s σ H x vs v us Q I rx rv h
 obtain⟨l,xs,y,rfl,rfl,hH,hz,q⟩:=h
 cases rx
 obtain⟨u,rfl,ru⟩:=rv.one
 obtain⟨z,its,n,r,hl,e⟩:=I.lstM hH
 refine call_meets F.slot_list_append ⟨_,e,rfl⟩ F.entry_list_append (F.args_list_append_2 _ _) (PySem.list_append l its.toArray n u (by rw[zzE];omega)) ⟨e, ?_⟩
 refine⟨.non,_,I.lset (its':=its++[u]) hH e (by simp) (r.append (.cons ru .nil)) ?_,rfl,q⟩
 rw[zzG,List.length_singleton]
 omega
def zmy:V->List V->Hp->VK->Prop:=λx vs H Q=>∃l xs i k y,x = .ref l/\vs=[.int i]/\H l=some (.lst xs) /\ -(2 ^ 63)<=i/\i<2 ^ 63/\seqIndex? i xs.length=some k/\xs[k]? = some y/\Q y (upd H l (.lst (xs.eraseIdx k)))
theorem zmM:MtM X "list.pop" zmy:=by
 intro pins s σ H x vs v us Q I rx rv h
 obtain⟨l,xs,i,k,y,rfl,rfl,hH,h1,h2,hk,hy,q⟩:=h
 cases rx
 obtain⟨u,rfl,ru⟩:=rv.one
 obtain⟨t,rfl⟩:=ru
 obtain⟨z,its,n,r,hl,e⟩:=I.lstM hH
 obtain⟨w,hw,rw'⟩:=r.get hy
 refine call_meets F.slot_list_pop ⟨_,e,rfl⟩ F.entry_list_pop (F.args_list_pop_2 _ _)
  (MeetsSeq.list_pop_at l its.toArray n i t k w (fitsIndex_both h1 h2) (by rw[zzE,<-hl];exact hk) (by rw[<-Array.getElem?_toList];exact hw) (by rw[zzE];omega)) ⟨e, ?_⟩
 refine⟨y,_,I.lset (its':=its.eraseIdx k) hH e ?_ (r.eraseIdx k) ?_,rw',q⟩
 · show its.toArray.eraseIdxIfInBounds k=(its.eraseIdx k).toArray
   rw[List.eraseIdxIfInBounds_toArray]
 · have:=zgS xs k
   omega
def znG:V->List V->Hp->VK->Prop:=λx vs H Q=>∃l xs,x = .ref l/\vs=[]/\H l=some (.lst xs)/\Q .non (upd H l (.lst []))
theorem zap:MtM X "list.clear" znG:=by
 intro pins s σ H x vs v us Q I rx rv h
 obtain⟨l,xs,rfl,rfl,hH,q⟩:=h
 cases rx
 have hus:=rv.zero
 subst hus
 obtain⟨z,its,n,r,hl,e⟩:=I.lstM hH
 refine call_meets F.slot_list_clear ⟨_,e,rfl⟩ F.entry_list_clear (F.args_list_clear_1 _) (AutoSeq1.list_clear_list_0 l its.toArray n (by rw[zzE];omega)) ⟨e, ?_⟩
 exact⟨.non,_,I.lset (its':=[]) (ys:=[]) hH e rfl .nil (Nat.zero_le _),rfl,q⟩
theorem len_rep(xs:List α)(k:Nat):(List.replicate k xs).flatten.length=k*xs.length:=by
 induction k with
 |zero=>simp
 |succ k ih=>rw[List.replicate_succ,List.flatten_cons,zzG,ih,Nat.succ_mul,Nat.add_comm]
end
end L2
namespace Att
open PySem PySem.W PySem.Calls PyProof.Rows
theorem zez:∀(ns:List Int) (vs:List Value),WellAll P h vs (ns.map WData.int)->IntsAre vs ns:=by
 intro ns
 induction ns with
 |nil=>
  intro vs w
  rw[List.map_nil]at w
  cases w
  exact .nil
 |cons n ns ih=>
  intro vs w
  rw[zyP]at w
  cases w with
  |cons a b=>
   cases a
   exact .cons _ _ (ih _ b)
theorem zlT{l:OpenLaw}{n:Nat}(hn:l.most=some n){P:Params}{h:Heap}{args:List WData}{vals:List Value}
 (hpre:l.row.toRowW.claim.pre args=true) (hwl:WellAll P h vals args):
 ∃a vs ns,vals=[Value.ref a]/\args=[WData.list (ns.map WData.int)]/\h.get? a=some {cls:=.type "list",data:=.seq vs.toArray}/\IntsAre vs ns/\ns.length<=n:=by
 have hsh:WShape.hasAll [] args [.list .int]=true:=(pre_splitW hpre).1
 have hc:l.pre.holds [] {args:=args}=true:=(pre_splitW hpre).2
 obtain⟨d,r,rfl,h1,h2⟩:=hasAllW_cons hsh
 obtain rfl:=hasAllW_nil h2
 obtain⟨xs,rfl,h3⟩:=hasW_list h1
 obtain⟨ns,rfl⟩:=items_int h3
 have hlen:ns.length<=n:=by
  unfold OpenLaw.pre at hc
  have h4:(WTm.not (.lt (.lit (.int (n:Int))) (.len (.arg 0)))).holds [] {args:=[.list (ns.map .int)]}=true:=by
   have h4:=(holds_andW hc).1
   rw[hn]at h4
   exact h4
  have h5:=condW_of h4 (w_not (w_lt w_lit (w_len_list (w_arg rfl))))
  rw[zD]at h5
  refine Nat.le_of_not_lt λq=>?_
  have q':(n:Int)<((ns.length:Nat):Int):=by omega
  first
   |(rw[zyL q']at h5;exact absurd h5 (by decide))
   |(simp at h5;omega)
 cases hwl with
 |cons w1 w2=>
  cases w2
  cases w1 with
  |list ho hall=>exact⟨_,_,ns,rfl,rfl,ho,zez ns _ hall,hlen⟩
theorem zlR(l:OpenLaw)(args:List WData):l.row.toRowW.claim.post args (.bool true) args=true:=
 postW_of (r:=l.row.toRowW) (X:=(true==true))
  (show WShape.has [] (.bool true) .bool=true by first|rfl|decide|simp[WShape.has,WShape.arms,WShape.armsAll])
  (show(WTm.eq .res (.lit (.bool true))).value [] {args:=args,res:=some (.bool true),after:=args}=some (.bool (true==true))from w_eq_bool (w_res rfl) w_lit) rfl
theorem ziX{l:OpenLaw}{n:Nat}{q:Program}{loose:List Str}{XP:(Str->Option Value)->Heap->Prop}{YP:World->Heap->Prop}{d:DefRec}
 (hn:l.most=some n) (hdf:d.params.defaults=[])
 (call:∀(w:World) (s₀ s₁:Shared) (mg mb:Str->Option Value) (fa:Addr) (o:Obj) (pm cd doc:Value) (a:Addr) (vs:List Value) (ns:List Int),
  Ground q loose [] XP w s₀ mg mb s₁.heap->YP w s₁.heap->
  s₁.heap.get? fa=some o->o.data = .func (docDef d.name d.params d.body d.scope pm cd doc)->s₁.heap.CodeRec cd d.name->mg d.name=some (.ref fa)->
  s₁.heap.get? a=some {cls:=.type "list",data:=.seq vs.toArray}->IntsAre vs ns->ns.length<=n->s₁.gens = #[]->
  codeAny (model l.prog w) callerA (.call (.ref fa) ⟨[.ref a],[]⟩) (λr s'=>r = .ok (.ret (.bool true))/\OldK s₁.heap s'.heap/\s'.os=s₁.os/\AllBare s'.gens) s₁):
 WalkO q loose XP YP l.row.toRowW d [] (λf vs=>PySem.call f vs):=by
 intro w s₀ s₁ mg mb G Y fa o pm cd doc dV kV ho hd hcd hD hmg hg args vals as hpre hlay hrd hwl hlo
 obtain rfl:dV = .none:=Dflts.none hD hdf
 obtain rfl:kV = .none:=Dflts.noKw hD
 obtain⟨a,vs,ns,rfl,rfl,hobj,hints,hlen⟩:=zlT hn hpre hwl
 refine enter_call (codeAny_mono (call w s₀ s₁ mg mb fa o pm cd doc a vs ns G Y ho (fd_plain hd) hcd hmg hobj hints hlen hg) λr s' hq=>?_)
 obtain⟨rfl,h2,h3,h4⟩:=hq
 exact⟨.inl ⟨.bool true,.bool true,[],rfl,λ_=>rfl,.bool true,zlR l _,λ_=>⟨List.Pairwise.nil,λ_ hm=>(nomatch hm)⟩⟩,h2,h3,h4⟩
end Att
namespace L2
open PySem PySem.Spec PyProof.Rows
theorem Ww:∀{vs:List Value}{ns:List Int},IntsAre vs ns->Vals (ns.map V.int) vs
 |_,_,.nil=>.nil
 |_,_,.cons n t h=>.cons ⟨t,rfl⟩ (Ww h)
def Only(H:Hp):Prop:=∀b,H b=none\/∃o xs,H b=some (.frz o (.lst xs))
theorem zna{P:Program}{w:World}{K:zC}{mg mb:Str->Option Value}{CX:CXT}{k:Nat}{fa a:Addr}{fd:FuncData}{x:Str}{sp:Sp}{s₁:Shared}{vs:List Value}{ns:List Int}
 (KX:K.In s₁.heap) (hns:s₁.heap.Ns mainGlobals mg) (hb:s₁.heap.Ns builtinsNs mb) (hbb:∀x:Str,x≠"__name__"->mb x=bootBuiltins x) (hlim:s₁.heap.NoLimit) (hg:s₁.gens = #[])
 (ha:s₁.heap.get? a=some {cls:=.type "list",data:=.seq vs.toArray}) (hi:IntsAre vs ns) (hl:ns.length<=sizeLine) (hr:Room k callerA)
 (F:∀base:Heap,K.In base->base.Ns mainGlobals mg->FnOk P w K mg base CX k fa fd [x] sp) (hbind:∀(s:Shared) (u:Value),BindsTo s fd ⟨[u],[]⟩ [(x,u)])
 (hsp:∀H:Hp,Only H->RdL K H a (ns.map V.int)->sp [.ref a] H (λv _=>v = .bl true) λ_ _ _=>False)
 (hCX:∀H e s',CX [] H s₁ (λ_ _ _=>False) e s'->False):
 codeAny (model P w) callerA (.call (.ref fa) ⟨[.ref a],[]⟩) (λr s'=>r = .ok (.ret (.bool true))/\OldK s₁.heap s'.heap/\s'.os=s₁.os/\AllBare s'.gens) s₁:=by
 have rv:=Ww hi
 have lenV:=hi.length
 have core:∀H:Hp,Only H->RdL K H a (ns.map V.int)->HOk P w H s₁.heap->(∀b,H b≠none->b=a)->(H a≠none->K.lookup a=none)->
  codeAny (model P w) callerA (.call (.ref fa) ⟨[.ref a],[]⟩) (λr s'=>r = .ok (.ret (.bool true))/\OldK s₁.heap s'.heap/\s'.os=s₁.os/\AllBare s'.gens) s₁:=by
  intro H hO hS hok hA hK
  have base_of:∀{b:Addr}{o:Obj},s₁.heap.get? b=some o->H b=none->(zhW s₁.heap H).get? b=some o:=λe n=>znn e n
  have noA:∀{b:Addr}{o:Obj}{es:Array DictEntry}{ep:Nat},s₁.heap.get? b=some o->o.data = .dict es ep->H b=none:=λ{b o es ep} e d=>by
   cases q:H b with
   |none=>rfl
   |some u=>
    have e':b=a:=hA b (by rw[q];simp)
    subst e'
    rw[ha]at e;cases e
    have d':Data.seq vs.toArray _=Data.dict es ep:=d
    cases d'
  have nsK:∀{b:Addr}{m:Str->Option Value},s₁.heap.Ns b m->(zhW s₁.heap H).Ns b m:=λ{b m} ⟨o,es,ep,e,d,r⟩=>⟨o,es,ep,base_of e (noA e d),d,r⟩
  have hKb:K.In (zhW s₁.heap H):=λb o e=>base_of (KX b o e) (by
   cases q:H b with
   |none=>rfl
   |some u=>
    have e':b=a:=hA b (by rw[q];simp)
    subst e'
    rw[hK (by rw[q];simp)]at e;cases e)
  have hM:Mod K mg (zhW s₁.heap H):=⟨hKb,nsK hns,⟨mb,nsK hb,hbb⟩,let⟨mc,h1,h2⟩:=hlim;⟨mc,nsK h1,h2⟩⟩
  have e0:Env0 P w K mg (zhW s₁.heap H) callerA [] s₁ H:=⟨rfl,hM,λb o e=>zqx e,Nat.le_of_eq (zlS _ _),trivial,λb hb=>absurd (show b ∈ ([]:List Addr)from hb) (by simp),hok,.of_eq hg⟩
  refine codeAny_mono ((F _ hKb (nsK hns)).run callerA [] s₁ H ⟨[.ref a],[]⟩ [.ref a] [.ref a] _ _ hr e0 (hbind s₁ (.ref a)) (.cons rfl .nil) (hsp H hO hS)) λr s' h=>?_
  cases r with
  |error e=>exact(hCX H e s' h).elim
  |ok fl=>
   cases fl with
   |next=>exact False.elim h
   |brk=>exact False.elim h
   |cont=>exact False.elim h
   |ret u=>
    obtain⟨v,H',os,bare,un,hok',r',q⟩:=h
    have q':v = .bl true:=q
    subst q'
    obtain rfl:u=Value.bool true:=r'
    refine⟨rfl,OldK.of_keep λb o e=>?_,os,bare⟩
    cases q:H b with
    |none=>exact un.keep b o e q (by intro z;exact absurd (show b ∈ ([]:List Addr)from z) (by simp)) (by simp)
    |some u=>
     rcases hO b with z|⟨ob,xs,z⟩
     · rw[q]at z;cases z
     · have z2:=un.frzs b ob _ z
       obtain⟨e1,_⟩:=hok b _ z
       obtain⟨e2,_⟩:=hok' b _ z2
       rw[e]at e1;cases e1
       exact e2
 cases hk:K.lookup a with
 |some o=>
  have e:=KX a o hk
  rw[ha]at e
  cases e
  refine core (λ_=>none) (λ_=>.inl rfl) (.inr ⟨vs.toArray,_,hk,by rw[zzE,lenV];exact hl,by simpa using rv⟩) (λb u z=>by have z':(none:Option HO)=some u:=z;cases z') (λb z=>absurd rfl z) λz=>absurd rfl z
 |none=>
  refine core (λb=>if b=a then some (.frz {cls:=.type "list",data:=.seq vs.toArray} (.lst (ns.map V.int)))else none) (λb=>?_) (.inl (.inr ⟨{cls:=.type "list",data:=.seq vs.toArray},if_pos rfl⟩)) (λb u z=>?_) (λb z=>?_) λ_=>hk
  · by_cases hb:b=a
    · exact .inr ⟨_,_,if_pos hb⟩
    · exact .inl (if_neg hb)
  · by_cases hb:b=a
    · have z':=(if_pos hb).symm.trans z
      cases z'
      subst hb
      exact⟨ha,by rw[zD];exact hl,vs,_,rv,ha⟩
    · have z':=(if_neg hb).symm.trans z
      cases z'
  · by_cases hb:b=a
    · exact hb
    · exact absurd (if_neg hb) z
end L2
namespace L2
open PySem PySem.Spec PyProof.Rows
theorem walk_of{l:PySem.W.OpenLaw}{n k:Nat}{q:Program}{loose:List Str}{XP:(Str->Option Value)->Heap->Prop}{YP:World->Heap->Prop}{d:DefRec}{K:Params->zC}{CX:World->CXT}{sp:World->Sp}{x:Str}
 (hn:l.most=some n) (hn2:n<=sizeLine) (hdf:d.params.defaults=[]) (hr:Room k callerA)
 (hY:∀(w:World) (h:Heap),YP w h->(K w.params).In h)
 (F:∀(w:World) (mg:Str->Option Value) (fa:Addr) (h:Heap),(K w.params).In h->h.Ns mainGlobals mg->mg d.name=some (.ref fa)->
  ∃fd:FuncData,(∀(s:Shared) (u:Value),BindsTo s fd ⟨[u],[]⟩ [(x,u)])/\
   ∀base:Heap,(K w.params).In base->base.Ns mainGlobals mg->FnOk l.prog w (K w.params) mg base (CX w) k fa fd [x] (sp w))
 (hsp:∀(w:World) (H:Hp) (a:Addr) (ns:List Int),ns.length<=n->Only H->RdL (K w.params) H a (ns.map V.int)->sp w [.ref a] H (λv _=>v = .bl true) λ_ _ _=>False)
 (hCX:∀(w:World) (H:Hp) (s:Shared) (e:Value) (s':Shared),CX w [] H s (λ_ _ _=>False) e s'->False):
 PySem.W.WalkO q loose XP YP l.row.toRowW d [] (λf vs=>PySem.call f vs):=by
 refine Att.ziX hn hdf λw s₀ s₁ mg mb fa o pm cd doc a vs ns G Y ho hd hcd hmg hobj hints hlen hg=>?_
 have KX:=hY w _ Y
 obtain⟨fd,hb,hF⟩:=F w mg fa _ KX G.T.g hmg
 exact zna KX G.T.g G.T.b G.T.builtins G.T.nolimit hg hobj hints (zzL hlen hn2) hr hF hb (λH hO hS=>hsp w H a ns hlen hO hS) λH e s'=>hCX w H s₁ e s'
end L2
namespace L2
open PySem PySem.Spec PyProof.Rows
def inClass(s:Stmt)(j:Nat):Stmt:=match s with
 | .ClassDef _ _ _ body _ _ _ _ _ _ _=>body.getD j (.Pass ⟨0,0,0,0⟩)
 |_=>.Pass ⟨0,0,0,0⟩
def zhR(s:Stmt):Arguments:=match s with
 | .FunctionDef _ a _ _ _ _ _ _ _ _=>a
 |_=>{posonlyargs:=[],args:=[],vararg:=none,kwonlyargs:=[],kw_defaults:=[],kwarg:=none,defaults:=[]}
def zaZ(s:Stmt):List Stmt:=match s with
 | .FunctionDef _ _ b _ _ _ _ _ _ _=>b
 |_=>[]
def zx(s:Stmt):Scope:=match s with
 | .FunctionDef _ _ _ _ _ _ sc _ _ _=>sc
 |_=>{kind:=.function,names:=[],isGenerator:=false,isCoroutine:=false}
abbrev CX0:CXT:=λ_ _ _ _ _ _=>False
abbrev E0:XK:=λ_ _ _=>False
theorem yo:Xa CX0 X E0:=λ_ _ _ _ _ _ _ h=>h.elim
structure Fun(K:zC)(x qual:Str)(st:Stmt)(f:Addr)(fd:FuncData):Prop where
 ex:∃(oc:Value) (od:Option Addr) (kV doc pm:Value) (an:Option Addr) (cdv ct:Value) (osl:Array (Option Value)),
  fd=PySem.W.fnOf x qual (zhR st) (zaZ st) (zx st) .none kV doc pm an cdv ct/\K.lookup f=some ⟨oc,od,.func fd,osl⟩/\PySem.W.codeIn K cdv qual=true
 kp:PySem.W.keepIn K (.ref f)=true
section
variable{P:Program}{w:World}{K:zC}{mg:Str->Option Value}{base:Heap}
theorem Fun.ok{x qual:Str}{st:Stmt}{f:Addr}{fd:FuncData}{N ps:List Str}{k:Nat}{sp:Sp}(F:Fun K x qual st f fd)(S:FnScope N ps (zx st))(len:∀vs H Q E,sp vs H Q E->vs.length=ps.length)
 (hbody:∀(cdv:Value) (A:Around) (outer:List Env) (s:Shared) (H:Hp) (vs:List V) (Q:VK) (E:XK),Room k (A.deeper (envOfC qual (zx st) s.heap.objs.size f cdv))->sp vs H Q E->
  ∃t,PSs (zix CX0 P w K mg base N qual (zx st) f cdv A outer s H E).nox (zaZ st) t/\t {nx:=λ_ H'=>Q .non H',rt:=Q} (start N vs) H):FnOk P w K mg base CX0 (k+1) f fd ps sp:=by
 obtain⟨oc,od,kV,doc,pm,an,cdv,ct,osl,rfl,lk,hcd⟩:=F.ex
 refine ztq lk hcd S len λA outer s H vs Q E hr hsp=>?_
 obtain⟨t,h,q⟩:=hbody cdv A outer s H vs Q E hr hsp
 exact⟨t,h.nox,q⟩
theorem Fun.binds{x qual:Str}{st:Stmt}{f:Addr}{fd:FuncData}{ps:List Str}(F:Fun K x qual st f fd)
 (h:∀(kV doc pm:Value) (an:Option Addr) (cdv ct:Value) (us:List Value),us.length=ps.length->bindArgs (PySem.W.fnOf x qual (zhR st) (zaZ st) (zx st) .none kV doc pm an cdv ct) ⟨us,[]⟩=pure (ps.zip us)):Binds K fd ps []:=by
 obtain⟨oc,od,kV,doc,pm,an,cdv,ct,osl,rfl,lk,hcd⟩:=F.ex
 exact .all (h kV doc pm an cdv ct)
end
theorem yO(h:n<=1000):n<sizeLine:=Nat.lt_of_le_of_lt h (by decide)
section
variable{X:Cx}
theorem pv(i:Nat)(hN:X.N[i]? = some x:=by rfl)(hv:Vis X.env.scope x:=by first|exact Or.inl rfl|exact Or.inr (Or.inl rfl)|exact Or.inr (Or.inr rfl))(hd:(x==("__debug__":Str))=false:=by decide)
 (hcd:(x==("__classdict__":Str))=false:=by decide):PE X (.Name x pos) (X8 i):=zmX hN hv hd hcd
end
end L2
end
section
namespace G20
open PySem PySem.W PyProof.Rows L2
def top(i:Nat):Stmt:=PySem.Challenge.pw_stretchdeeds_k20_ways_of_algebras.main.body.getD i (.Pass ⟨0,0,0,0⟩)
abbrev WN:Stmt:=top 5
abbrev XD:Stmt:=top 7
abbrev vW:Stmt:=top 8
abbrev vV:Stmt:=top 9
abbrev ZX:Stmt:=top 10
abbrev YF:Stmt:=top 11
abbrev YG:Stmt:=top 12
abbrev Zj:Stmt:=top 13
abbrev zgj:Stmt:=top 15
abbrev Z0:Stmt:=top 18
abbrev XC:Stmt:=top 19
abbrev Xw:Stmt:=top 20
abbrev Z9:Stmt:=top 21
abbrev YC:Stmt:=top 22
abbrev vQ:Stmt:=top 23
abbrev Zy:Stmt:=top 24
abbrev wK:Stmt:=top 25
abbrev XM:Stmt:=top 26
abbrev YD:Stmt:=top 27
abbrev xU:Stmt:=top 28
abbrev vX:Stmt:=top 29
abbrev Za:Stmt:=top 30
abbrev XH:Stmt:=top 31
abbrev Zk:Stmt:=inClass (top 16) 3
abbrev vU:Stmt:=inClass (top 16) 1
abbrev Zi:Stmt:=inClass (top 16) 2
abbrev wX:Stmt:=top 32
abbrev Zq:Stmt:=inClass (top 16) 4
abbrev XX:Stmt:=inClass (top 16) 5
abbrev vR:Stmt:=inClass (top 16) 6
abbrev XS:Stmt:=top 33
abbrev Xy:Stmt:=inClass (top 16) 10
abbrev XF:Stmt:=inClass (top 16) 7
abbrev Zu:Stmt:=inClass (top 16) 8
abbrev W3:Stmt:=top 34
abbrev xM:Stmt:=inClass (top 16) 0
abbrev zkC:Stmt:=top 35
abbrev kF(n q:Str)(s:Stmt)(pm cd:Value):Obj:=⟨.type "function",none,.func (fnOf n q (zhR s) (zaZ s) (zx s) .none .none .none pm none cd .none),#[]⟩
abbrev kC(n:Str)(a:Nat)(q:Str)(b c:Nat)(i3 i4 i5 i6 i7:Int)(r8:Addr)(b9:Bool)(i10:Int)(r11 r13 r14 r15:Addr)(i16 i17:Int)(d:Nat):Obj:=⟨.type "code",none,.fields #[.str n a,.str q b,.str "/claim/cut.py" c,.int i3 0,.int i4 0,.int i5 0,.int i6 0,.int i7 0,.ref r8,.bool b9,.int i10 0,.ref r11,.none,.ref r13,.ref r14,.ref r15,.int i16 0,.int i17 0,.str "/claim/cut.py" d],#[]⟩
abbrev kD(es:List DictEntry)(n:Nat):Obj:=⟨.type "dict",none,.dict es.toArray n,#[]⟩
abbrev kE(P:Params)(x:Str)(t:Nat)(v:Value):DictEntry:=⟨PyData.keyHash P x,.str x t,v⟩
abbrev kR(P:Params)(x:Str)(t:Nat)(a:Addr):DictEntry:=kE P x t (.ref a)
def K(P:Params):Frag:=
 (nat_lit 3,kD [kE P "__name__" 165 (.str "law_stretchdeeds_k20_ways_of_algebras" 447),kE P "__doc__" 166 .none,kE P "__package__" 167 .none,kE P "__loader__" 168 (.builtin "__main__.__loader__#opaque"),kE P "__spec__" 169 .none,kR P "__annotations__" 170 6,kR P "__builtins__" 171 4,kE P "__file__" 173 (.str "/claim/cut.py" 172),kE P "__cached__" 174 .none,kR P "_wall" 193 21,kR P "StretchError" 213 31,kR P "NotLetBy" 238 51,kR P "is_whole" 247 60,kR P "is_within" 258 67,kR P "nothing_fails" 268 74,kR P "parting_fails" 280 81,kR P "doing_fails" 296 88,kR P "deeds_fail" 307 95,kR P "what_fails" 315 102,kR P "check_let_by" 323 109,kR P "firm" 331 114,kR P "Ways" 446 199,kR P "_law_cell_at" 456 210,kR P "_law_mixed" 465 217,kR P "_law_whole" 472 224,kR P "_law_words" 478 229,kR P "_law_common" 486 236,kR P "_law_joined_by" 497 243,kR P "_law_images" 503 248,kR P "_law_done_by" 509 253,kR P "_law_kinds" 519 260,kR P "_law_stream" 530 267,kR P "_law_algebra" 536 272,kR P "_law_copy" 542 277,kR P "_law_odd" 548 282,kR P "_law_truth" 556 289,kR P "_law_known" 562 294,kR P "_law_joins" 581 301,kR P "_law_does" 600 308,kR P "law" 615 315] 40) ::
 (nat_lit 59,kC "is_whole" 241 "is_whole" 242 243 13 1 0 0 3 54 true 181 55 56 57 58 245 13 246) ::
 (nat_lit 60,kF "is_whole" "is_whole" WN (.str "stretchdeeds.terms" 239) (.ref 59)) ::
 (nat_lit 66,kC "is_within" 250 "is_within" 251 252 16 3 0 0 3 61 true 181 62 63 64 65 256 16 257) ::
 (nat_lit 67,kF "is_within" "is_within" XD (.str "stretchdeeds.algebras" 248) (.ref 66)) ::
 (nat_lit 73,kC "nothing_fails" 259 "nothing_fails" 260 261 18 1 0 0 3 68 true 181 69 70 71 72 266 18 267) ::
 (nat_lit 74,kF "nothing_fails" "nothing_fails" vW (.str "stretchdeeds.algebras" 248) (.ref 73)) ::
 (nat_lit 80,kC "parting_fails" 269 "parting_fails" 270 271 25 1 0 0 3 75 true 181 76 77 78 79 278 25 279) ::
 (nat_lit 81,kF "parting_fails" "parting_fails" vV (.str "stretchdeeds.algebras" 248) (.ref 80)) ::
 (nat_lit 87,kC "doing_fails" 281 "doing_fails" 282 283 34 3 0 0 3 82 true 181 83 84 85 86 294 34 295) ::
 (nat_lit 88,kF "doing_fails" "doing_fails" ZX (.str "stretchdeeds.algebras" 248) (.ref 87)) ::
 (nat_lit 94,kC "deeds_fail" 297 "deeds_fail" 298 299 45 1 0 0 3 89 true 181 90 91 92 93 305 45 306) ::
 (nat_lit 95,kF "deeds_fail" "deeds_fail" YF (.str "stretchdeeds.algebras" 248) (.ref 94)) ::
 (nat_lit 101,kC "what_fails" 308 "what_fails" 309 310 54 1 0 0 3 96 true 181 97 98 99 100 313 54 314) ::
 (nat_lit 102,kF "what_fails" "what_fails" YG (.str "stretchdeeds.algebras" 248) (.ref 101)) ::
 (nat_lit 108,kC "check_let_by" 316 "check_let_by" 317 318 61 1 0 0 3 103 true 181 104 105 106 107 321 61 322) ::
 (nat_lit 109,kF "check_let_by" "check_let_by" Zj (.str "stretchdeeds.algebras" 248) (.ref 108)) ::
 (nat_lit 113,⟨.type "code",none,.fields #[(.str "firm" 326),(.str "firm" 327),(.str "/claim/cut.py" 328),(.int (66) 0),(.int (1) 0),(.int (0) 0),(.int (0) 0),(.int (3) 0),(.ref 110),(.bool true),(.int (181) 0),(.ref 111),.none,.none,.none,(.ref 112),(.int (329) 0),(.int (66) 0),(.str "/claim/cut.py" 330)],#[]⟩) ::
 (nat_lit 114,kF "firm" "firm" zgj (.str "stretchdeeds.ways" 324) (.ref 113)) ::
 (nat_lit 125,⟨.type "code",none,.fields #[(.str "__init__" 344),(.str "Ways.__init__" 345),(.str "/claim/cut.py" 346),(.int (70) 0),(.int (2) 0),(.int (0) 0),(.int (0) 0),(.int (3) 0),(.ref 122),(.bool true),(.int (181) 0),(.ref 123),.none,.none,.none,(.ref 124),(.int (347) 0),(.int (70) 0),(.str "/claim/cut.py" 348)],#[]⟩) ::
 (nat_lit 126,kF "__init__" "Ways.__init__" xM (.str "stretchdeeds.ways" 324) (.ref 125)) ::
 (nat_lit 132,kC "is_value" 350 "Ways.is_value" 351 352 79 2 0 0 3 127 true 181 128 129 130 131 355 79 356) ::
 (nat_lit 133,kF "is_value" "Ways.is_value" vU (.str "stretchdeeds.ways" 324) (.ref 132)) ::
 (nat_lit 139,kC "is_deed" 358 "Ways.is_deed" 359 360 82 2 0 0 3 134 true 181 135 136 137 138 363 82 364) ::
 (nat_lit 140,kF "is_deed" "Ways.is_deed" Zi (.str "stretchdeeds.ways" 324) (.ref 139)) ::
 (nat_lit 146,kC "is_sign" 366 "Ways.is_sign" 367 368 85 2 0 0 3 141 true 181 142 143 144 145 371 85 372) ::
 (nat_lit 147,kF "is_sign" "Ways.is_sign" Zk (.str "stretchdeeds.ways" 324) (.ref 146)) ::
 (nat_lit 153,kC "nothing" 374 "Ways.nothing" 375 376 88 1 0 0 3 148 true 181 149 150 151 152 378 88 379) ::
 (nat_lit 154,kF "nothing" "Ways.nothing" Zq (.str "stretchdeeds.ways" 324) (.ref 153)) ::
 (nat_lit 160,kC "join" 381 "Ways.join" 382 383 91 3 0 0 3 155 true 181 156 157 158 159 387 91 388) ::
 (nat_lit 161,kF "join" "Ways.join" XX (.str "stretchdeeds.ways" 324) (.ref 160)) ::
 (nat_lit 167,kC "has_sign" 390 "Ways.has_sign" 391 392 94 3 0 0 3 162 true 181 163 164 165 166 396 94 397) ::
 (nat_lit 168,kF "has_sign" "Ways.has_sign" vR (.str "stretchdeeds.ways" 324) (.ref 167)) ::
 (nat_lit 174,kC "idle" 399 "Ways.idle" 400 401 97 1 0 0 3 169 true 181 170 171 172 173 403 97 404) ::
 (nat_lit 175,kF "idle" "Ways.idle" XF (.str "stretchdeeds.ways" 324) (.ref 174)) ::
 (nat_lit 181,kC "wait_of" 406 "Ways.wait_of" 407 408 100 2 0 0 3 176 true 181 177 178 179 180 411 100 412) ::
 (nat_lit 182,kF "wait_of" "Ways.wait_of" Zu (.str "stretchdeeds.ways" 324) (.ref 181)) ::
 (nat_lit 195,kC "made" 423 "Ways.made" 424 425 106 4 0 0 3 190 true 181 191 192 193 194 430 106 431) ::
 (nat_lit 196,kF "made" "Ways.made" Xy (.str "stretchdeeds.ways" 324) (.ref 195)) ::
 (nat_lit 198,kD [kE P "__module__" 339 (.str "stretchdeeds.ways" 324),kE P "__firstlineno__" 343 (.int (68) 342),kR P "__init__" 349 126,kR P "is_value" 357 133,kR P "is_deed" 365 140,kR P "is_sign" 373 147,kR P "nothing" 380 154,kR P "join" 389 161,kR P "has_sign" 398 168,kR P "idle" 405 175,kR P "wait_of" 413 182,kR P "behind" 422 189,kR P "made" 432 196,kR P "__static_attributes__" 439 197,kR P "__dict__" 441 200,kR P "__weakref__" 443 201,kE P "__doc__" 444 .none] 4) ::
 (nat_lit 199,⟨(.type "type"),none,.cls {name:="Ways",bases:=[(.type "object")],mro:=[(.ref 199),(.type "object")],ns:=198,qualname:="Ways",hasDict:=true,slotNames:=[],subclasses:=[],abstract:=false,collection:=none,hasDel:=false},#[none,none,some (.str "Ways" 332),some (.str "Ways" 340),some (.builtin "object.__new__"),some (.bool true)]⟩) ::
 (nat_lit 209,kC "_law_cell_at" 449 "_law_cell_at" 450 451 109 2 0 0 3 204 true 181 205 206 207 208 454 109 455) ::
 (nat_lit 210,kF "_law_cell_at" "_law_cell_at" Z0 (.str "law_stretchdeeds_k20_ways_of_algebras" 447) (.ref 209)) ::
 (nat_lit 216,kC "_law_mixed" 457 "_law_mixed" 458 459 113 2 0 0 3 211 true 181 212 213 214 215 463 113 464) ::
 (nat_lit 217,kF "_law_mixed" "_law_mixed" XC (.str "law_stretchdeeds_k20_ways_of_algebras" 447) (.ref 216)) ::
 (nat_lit 223,kC "_law_whole" 466 "_law_whole" 467 468 116 1 0 0 3 218 true 181 219 220 221 222 470 116 471) ::
 (nat_lit 224,kF "_law_whole" "_law_whole" Xw (.str "law_stretchdeeds_k20_ways_of_algebras" 447) (.ref 223)) ::
 (nat_lit 228,⟨.type "code",none,.fields #[(.str "_law_words" 473),(.str "_law_words" 474),(.str "/claim/cut.py" 475),(.int (118) 0),(.int (2) 0),(.int (0) 0),(.int (0) 0),(.int (3) 0),(.ref 225),(.bool true),(.int (181) 0),(.ref 226),.none,.none,.none,(.ref 227),(.int (476) 0),(.int (118) 0),(.str "/claim/cut.py" 477)],#[]⟩) ::
 (nat_lit 229,kF "_law_words" "_law_words" Z9 (.str "law_stretchdeeds_k20_ways_of_algebras" 447) (.ref 228)) ::
 (nat_lit 235,kC "_law_common" 479 "_law_common" 480 481 127 2 0 0 3 230 true 181 231 232 233 234 484 127 485) ::
 (nat_lit 236,kF "_law_common" "_law_common" YC (.str "law_stretchdeeds_k20_ways_of_algebras" 447) (.ref 235)) ::
 (nat_lit 242,kC "_law_joined_by" 487 "_law_joined_by" 488 489 131 4 0 0 3 237 true 181 238 239 240 241 495 131 496) ::
 (nat_lit 243,kF "_law_joined_by" "_law_joined_by" vQ (.str "law_stretchdeeds_k20_ways_of_algebras" 447) (.ref 242)) ::
 (nat_lit 247,⟨.type "code",none,.fields #[(.str "_law_images" 498),(.str "_law_images" 499),(.str "/claim/cut.py" 500),(.int (140) 0),(.int (3) 0),(.int (0) 0),(.int (0) 0),(.int (3) 0),(.ref 244),(.bool true),(.int (181) 0),(.ref 245),.none,.none,.none,(.ref 246),(.int (501) 0),(.int (140) 0),(.str "/claim/cut.py" 502)],#[]⟩) ::
 (nat_lit 248,kF "_law_images" "_law_images" Zy (.str "law_stretchdeeds_k20_ways_of_algebras" 447) (.ref 247)) ::
 (nat_lit 252,⟨.type "code",none,.fields #[(.str "_law_done_by" 504),(.str "_law_done_by" 505),(.str "/claim/cut.py" 506),(.int (150) 0),(.int (4) 0),(.int (0) 0),(.int (0) 0),(.int (3) 0),(.ref 249),(.bool true),(.int (181) 0),(.ref 250),.none,.none,.none,(.ref 251),(.int (507) 0),(.int (150) 0),(.str "/claim/cut.py" 508)],#[]⟩) ::
 (nat_lit 253,kF "_law_done_by" "_law_done_by" wK (.str "law_stretchdeeds_k20_ways_of_algebras" 447) (.ref 252)) ::
 (nat_lit 259,kC "_law_kinds" 510 "_law_kinds" 511 512 156 1 0 0 3 254 true 181 255 256 257 258 517 156 518) ::
 (nat_lit 260,kF "_law_kinds" "_law_kinds" XM (.str "law_stretchdeeds_k20_ways_of_algebras" 447) (.ref 259)) ::
 (nat_lit 266,kC "_law_stream" 520 "_law_stream" 521 522 165 2 0 0 3 261 true 181 262 263 264 265 528 165 529) ::
 (nat_lit 267,kF "_law_stream" "_law_stream" YD (.str "law_stretchdeeds_k20_ways_of_algebras" 447) (.ref 266)) ::
 (nat_lit 271,⟨.type "code",none,.fields #[(.str "_law_algebra" 531),(.str "_law_algebra" 532),(.str "/claim/cut.py" 533),(.int (175) 0),(.int (3) 0),(.int (0) 0),(.int (0) 0),(.int (3) 0),(.ref 268),(.bool true),(.int (181) 0),(.ref 269),.none,.none,.none,(.ref 270),(.int (534) 0),(.int (175) 0),(.str "/claim/cut.py" 535)],#[]⟩) ::
 (nat_lit 272,kF "_law_algebra" "_law_algebra" xU (.str "law_stretchdeeds_k20_ways_of_algebras" 447) (.ref 271)) ::
 (nat_lit 276,⟨.type "code",none,.fields #[(.str "_law_copy" 537),(.str "_law_copy" 538),(.str "/claim/cut.py" 539),(.int (210) 0),(.int (1) 0),(.int (0) 0),(.int (0) 0),(.int (3) 0),(.ref 273),(.bool true),(.int (181) 0),(.ref 274),.none,.none,.none,(.ref 275),(.int (540) 0),(.int (210) 0),(.str "/claim/cut.py" 541)],#[]⟩) ::
 (nat_lit 277,kF "_law_copy" "_law_copy" vX (.str "law_stretchdeeds_k20_ways_of_algebras" 447) (.ref 276)) ::
 (nat_lit 281,⟨.type "code",none,.fields #[(.str "_law_odd" 543),(.str "_law_odd" 544),(.str "/claim/cut.py" 545),(.int (215) 0),(.int (2) 0),(.int (0) 0),(.int (0) 0),(.int (3) 0),(.ref 278),(.bool true),(.int (181) 0),(.ref 279),.none,.none,.none,(.ref 280),(.int (546) 0),(.int (215) 0),(.str "/claim/cut.py" 547)],#[]⟩) ::
 (nat_lit 282,kF "_law_odd" "_law_odd" Za (.str "law_stretchdeeds_k20_ways_of_algebras" 447) (.ref 281)) ::
 (nat_lit 288,kC "_law_truth" 549 "_law_truth" 550 551 221 2 0 0 3 283 true 181 284 285 286 287 554 221 555) ::
 (nat_lit 289,kF "_law_truth" "_law_truth" XH (.str "law_stretchdeeds_k20_ways_of_algebras" 447) (.ref 288)) ::
 (nat_lit 293,⟨.type "code",none,.fields #[(.str "_law_known" 557),(.str "_law_known" 558),(.str "/claim/cut.py" 559),(.int (223) 0),(.int (3) 0),(.int (0) 0),(.int (0) 0),(.int (3) 0),(.ref 290),(.bool true),(.int (181) 0),(.ref 291),.none,.none,.none,(.ref 292),(.int (560) 0),(.int (223) 0),(.str "/claim/cut.py" 561)],#[]⟩) ::
 (nat_lit 294,kF "_law_known" "_law_known" wX (.str "law_stretchdeeds_k20_ways_of_algebras" 447) (.ref 293)) ::
 (nat_lit 300,kC "_law_joins" 563 "_law_joins" 564 565 233 2 0 0 3 295 true 181 296 297 298 299 579 233 580) ::
 (nat_lit 301,kF "_law_joins" "_law_joins" XS (.str "law_stretchdeeds_k20_ways_of_algebras" 447) (.ref 300)) ::
 (nat_lit 307,kC "_law_does" 582 "_law_does" 583 584 246 3 0 0 3 302 true 181 303 304 305 306 598 246 599) ::
 (nat_lit 308,kF "_law_does" "_law_does" W3 (.str "law_stretchdeeds_k20_ways_of_algebras" 447) (.ref 307)) ::
 (nat_lit 314,kC "law" 601 "law" 602 603 257 1 0 0 3 309 true 181 310 311 312 313 613 257 614) ::
 (nat_lit 315,kF "law" "law" zkC (.str "law_stretchdeeds_k20_ways_of_algebras" 447) (.ref 314)) ::
 []
def kA:List Addr:=[3,59,60,66,67,73,74,80,81,87,88,94,95,101,102,108,109,113,114,125,126,132,133,139,140,146,147,153,154,160,161,167,168,174,175,181,182,195,196,198,199,209,210,216,217,223,224,228,229,235,236,242,243,247,248,252,253,259,260,266,267,271,272,276,277,281,282,288,289,293,294,300,301,307,308,314,315]
def qv:Program:={PySem.Challenge.pw_stretchdeeds_k20_ways_of_algebras with main:={PySem.Challenge.pw_stretchdeeds_k20_ways_of_algebras.main with body:=[0,2,3,5,7,8,9,10,11,12,13,15,16,18,19,20,21,22,23,24,25,26,27,28,29,30,31,32,33,34,35].map top}}
theorem kAe(P:Params):kA=(K P).map (·.1):=by kernel_rfl
set_option maxRecDepth 100000
theorem ws:PySem.Challenge.rw_stretchdeeds_k20_ways_of_algebras.wellSaid=true:=by kernel_rfl
abbrev Xt(s:Shared):Bool:=xlAt qv [] s&&recOk (RowW.records (OpenRow.toRowW PySem.Challenge.rw_stretchdeeds_k20_ways_of_algebras.row)) s
abbrev hk:Hook:=kHook K kA kAe
theorem hl:LeftO PySem.Challenge.pw_stretchdeeds_k20_ways_of_algebras qv [] Xt hk.obs hk.val 5000:=λw=>by kernel_rfl
end G20
end
section
namespace PF
open PySem PySem.Spec PyProof.Rows L2
abbrev St:=L2.St
structure KD where
 d:Addr->List (Key×V)->Prop
 c:Str->Addr
instance:CoeFun KD (λ_=>Addr->List (Key×V)->Prop):=⟨KD.d⟩
inductive D where
 |non|bl (b:Bool)|int (i:Int)|str (x:Str)|tup (ds:List D)|lst (ds:List D)|dct (kvs:List (Key×D))|cl (c:Str)|ob (c:Str) (ns:List Str) (ds:List D)
mutual
inductive Rp(K:zC)(kd:KD)(O:Addr->Prop)(H:Hp):V->D->Prop
 |non:Rp K kd O H .non .non
 |bl (b:Bool):Rp K kd O H (.bl b) (.bl b)
 |int (i:Int):Rp K kd O H (.int i) (.int i)
 |str (x:Str):Rp K kd O H (.str x) (.str x)
 |tup {a:Addr}{vs:List V}{ds:List D}:¬O a->Rd H a (.tup vs)->RpL K kd O H vs ds->Rp K kd O H (.ref a) (.tup ds)
 |tupK {a:Addr}{o:Obj}{its:Array Value}{n:Nat}{vs:List V}{ds:List D}:K.lookup a=some o->o.cls = .type "tuple"->o.data = .seq its n->its.size<=sizeLine->Vals vs its.toList->RpL K kd O H vs ds->Rp K kd O H (.ref a) (.tup ds)
 |lst {a:Addr}{vs:List V}{ds:List D}:¬O a->Rd H a (.lst vs)->RpL K kd O H vs ds->Rp K kd O H (.ref a) (.lst ds)
 |lstK {a:Addr}{its:Array Value}{n:Nat}{vs:List V}{ds:List D}:K.lookup a=some {cls:=.type "list",data:=.seq its n}->its.size<=sizeLine->Vals vs its.toList->RpL K kd O H vs ds->Rp K kd O H (.ref a) (.lst ds)
 |dct {a:Addr}{kvs:List (Key×V)}{ds:List (Key×D)}:¬O a->Rd H a (.dK kvs)->RpM K kd O H kvs ds->Rp K kd O H (.ref a) (.dct ds)
 |dctK {a:Addr}{kvs:List (Key×V)}{ds:List (Key×D)}:kd a kvs->RpM K kd O H kvs ds->Rp K kd O H (.ref a) (.dct ds)
 |cl (c:Str):Rp K kd O H (.ref (kd.c c)) (.cl c)
 |ob {a dx:Addr}{c:Str}{ns:List Str}{vs:List V}{ds:List D}:¬O a->H a=some (.ins (kd.c c) dx (ns.zip vs))->ns.length=vs.length->RpL K kd O H vs ds->Rp K kd O H (.ref a) (.ob c ns ds)
inductive RpL(K:zC)(kd:KD)(O:Addr->Prop)(H:Hp):List V->List D->Prop
 |nil:RpL K kd O H [] []
 |cons {v:V}{d:D}{vs:List V}{ds:List D}:Rp K kd O H v d->RpL K kd O H vs ds->RpL K kd O H (v::vs) (d::ds)
inductive RpM(K:zC)(kd:KD)(O:Addr->Prop)(H:Hp):List (Key×V)->List (Key×D)->Prop
 |nil:RpM K kd O H [] []
 |cons {k:Key}{v:V}{d:D}{vs:List (Key×V)}{ds:List (Key×D)}:Rp K kd O H v d->RpM K kd O H vs ds->RpM K kd O H ((k,v)::vs) ((k,d)::ds)
end
structure Grow(W:Addr->Prop)(H:Hp)(W':Addr->Prop)(H':Hp):Prop where
 keep:∀b o,H b=some o->¬W b->H' b=some o
 own:∀b,W' b->W b\/H b=none
theorem Grow.refl{W:Addr->Prop}{H:Hp}:Grow W H W H:=⟨λ_ _ h _=>h,λ_ h=>.inl h⟩
theorem Grow.trans{W W1 W2:Addr->Prop}{H H1 H2:Hp}(a:Grow W H W1 H1)(b:Grow W1 H1 W2 H2):Grow W H W2 H2 where
 keep:=λx o h n=>b.keep x o (a.keep x o h n) λq=>(a.own x q).elim n λz=>by rw[z]at h;cases h
 own:=λx q=>by
  rcases b.own x q with h|h
  · exact a.own x h
  · cases e:H x with
    |none=>exact .inr rfl
    |some o=>
     refine .inl (Classical.byContradiction λn=>?_)
     rw[a.keep x o e n]at h
     cases h
theorem Grow.less{W W':Addr->Prop}{H:Hp}(h:∀a,W' a->W a):Grow W H W' H:=⟨λ_ _ q _=>q,λb q=>.inl (h b q)⟩
abbrev Un2(F W:Addr->Prop):Addr->Prop:=λa=>F a\/W a
section
variable{K:zC}{kd:KD}{F W W':Addr->Prop}{H H':Hp}
theorem zaS{a:Addr}{u:HO}(g:Grow W H W' H')(n:¬W a)(h:Rd H a u):Rd H' a u:=by
 rcases h with h|⟨o,h⟩
 · exact .inl (g.keep _ _ h n)
 · exact .inr ⟨o,g.keep _ _ h n⟩
theorem zpf{a:Addr}{u:HO}(h:Rd H a u):H a≠none:=by
 rcases h with h|⟨o,h⟩<;>(rw[h];simp)
theorem zbW{a:Addr}{u:HO}(g:Grow W H W' H')(n:¬Un2 F W a)(h:Rd H a u):¬Un2 F W' a:=λq=>
 q.elim (λz=>n (.inl z)) λz=>(g.own a z).elim (λy=>n (.inr y)) λy=>zpf h y
theorem Rp.grow(g:Grow W H W' H'){v:V}{d:D}(h:Rp K kd (Un2 F W) H v d):Rp K kd (Un2 F W') H' v d:=
 Rp.rec (motive_1:=λv d _=>Rp K kd (Un2 F W') H' v d) (motive_2:=λvs ds _=>RpL K kd (Un2 F W') H' vs ds) (motive_3:=λvs ds _=>RpM K kd (Un2 F W') H' vs ds) .non .bl .int .str (λn h _ r=>.tup (zbW g n h) (zaS g (λz=>n (.inr z)) h) r) (λa b c e f _ r=>.tupK a b c e f r) (λn h _ r=>.lst (zbW g n h) (zaS g (λz=>n (.inr z)) h) r) (λa e f _ r=>.lstK a e f r) (λn h _ r=>.dct (zbW g n h) (zaS g (λz=>n (.inr z)) h) r) (λh _ r=>.dctK h r) .cl (λn h l _ r=>.ob (zbW g n (.inl h)) (g.keep _ _ h λz=>n (.inr z)) l r) .nil (λ_ _ h r=>.cons h r) .nil (λ_ _ h r=>.cons h r) h
theorem RpL.ind{O:Addr->Prop}{P:List V->List D->Prop}(h0:P [] [])(h1:∀{v d vs ds},Rp K kd O H v d->RpL K kd O H vs ds->P vs ds->P (v::vs) (d::ds)){vs:List V}{ds:List D}(h:RpL K kd O H vs ds):P vs ds:=
 RpL.rec (motive_1:=λ_ _ _=>True) (motive_2:=λvs ds _=>P vs ds) (motive_3:=λ_ _ _=>True) ⟨⟩ (λ_=>⟨⟩) (λ_=>⟨⟩) (λ_=>⟨⟩) (λ_ _ _ _=>⟨⟩) (λ_ _ _ _ _ _ _=>⟨⟩) (λ_ _ _ _=>⟨⟩) (λ_ _ _ _ _=>⟨⟩) (λ_ _ _ _=>⟨⟩) (λ_ _ _=>⟨⟩) (λ_=>⟨⟩) (λ_ _ _ _ _=>⟨⟩) h0 (λa r _ ih=>h1 a r ih) ⟨⟩ (λ_ _ _ _=>⟨⟩) h
theorem RpM.ind{O:Addr->Prop}{P:List (Key×V)->List (Key×D)->Prop}(h0:P [] [])(h1:∀{k v d vs ds},Rp K kd O H v d->RpM K kd O H vs ds->P vs ds->P ((k,v)::vs) ((k,d)::ds)){vs:List (Key×V)}{ds:List (Key×D)}(h:RpM K kd O H vs ds):P vs ds:=
 RpM.rec (motive_1:=λ_ _ _=>True) (motive_2:=λ_ _ _=>True) (motive_3:=λvs ds _=>P vs ds) ⟨⟩ (λ_=>⟨⟩) (λ_=>⟨⟩) (λ_=>⟨⟩) (λ_ _ _ _=>⟨⟩) (λ_ _ _ _ _ _ _=>⟨⟩) (λ_ _ _ _=>⟨⟩) (λ_ _ _ _ _=>⟨⟩) (λ_ _ _ _=>⟨⟩) (λ_ _ _=>⟨⟩) (λ_=>⟨⟩) (λ_ _ _ _ _=>⟨⟩) ⟨⟩ (λ_ _ _ _=>⟨⟩) h0 (λa r _ ih=>h1 a r ih) h
theorem RpL.grow(g:Grow W H W' H'){vs:List V}{ds:List D}(h:RpL K kd (Un2 F W) H vs ds):RpL K kd (Un2 F W') H' vs ds:=RpL.ind .nil (λa _ r=>.cons (Rp.grow g a) r) h
theorem RpM.grow(g:Grow W H W' H'){vs:List (Key×V)}{ds:List (Key×D)}(h:RpM K kd (Un2 F W) H vs ds):RpM K kd (Un2 F W') H' vs ds:=RpM.ind .nil (λa _ r=>.cons (Rp.grow g a) r) h
theorem Rp.less{O O':Addr->Prop}(g:∀a,O' a->O a){v:V}{d:D}(h:Rp K kd O H v d):Rp K kd O' H v d:=
 Rp.rec (motive_1:=λv d _=>Rp K kd O' H v d) (motive_2:=λvs ds _=>RpL K kd O' H vs ds) (motive_3:=λvs ds _=>RpM K kd O' H vs ds) .non .bl .int .str (λn h _ r=>.tup (λz=>n (g _ z)) h r) (λa b c e f _ r=>.tupK a b c e f r) (λn h _ r=>.lst (λz=>n (g _ z)) h r) (λa e f _ r=>.lstK a e f r) (λn h _ r=>.dct (λz=>n (g _ z)) h r) (λh _ r=>.dctK h r) .cl (λn h l _ r=>.ob (λz=>n (g _ z)) h l r) .nil (λ_ _ h r=>.cons h r) .nil (λ_ _ h r=>.cons h r) h
theorem RpL.less{O O':Addr->Prop}(g:∀a,O' a->O a){vs:List V}{ds:List D}(h:RpL K kd O H vs ds):RpL K kd O' H vs ds:=RpL.ind .nil (λa _ r=>.cons (Rp.less g a) r) h
theorem RpM.less{O O':Addr->Prop}(g:∀a,O' a->O a){vs:List (Key×V)}{ds:List (Key×D)}(h:RpM K kd O H vs ds):RpM K kd O' H vs ds:=RpM.ind .nil (λa _ r=>.cons (Rp.less g a) r) h
theorem RpL.length{O:Addr->Prop}{vs:List V}{ds:List D}(h:RpL K kd O H vs ds):vs.length=ds.length:=RpL.ind (P:=λvs ds=>vs.length=ds.length) rfl (λ_ _ r=>congrArg (· + 1) r) h
theorem RpM.length{O:Addr->Prop}{vs:List (Key×V)}{ds:List (Key×D)}(h:RpM K kd O H vs ds):vs.length=ds.length:=RpM.ind (P:=λvs ds=>vs.length=ds.length) rfl (λ_ _ r=>congrArg (· + 1) r) h
theorem RpL.get{O:Addr->Prop}{vs:List V}{ds:List D}{i:Nat}{d:D}(h:RpL K kd O H vs ds)(e:ds[i]? = some d):∃v,vs[i]? = some v/\Rp K kd O H v d:=
 RpL.ind (P:=λvs ds=>∀i,ds[i]? = some d->∃v,vs[i]? = some v/\Rp K kd O H v d) (λi e=>by rw[List.getElem?_nil]at e;cases e) (λa _ ih i e=>by
  cases i with
  |zero=>cases e;exact⟨_,rfl,a⟩
  |succ i=>exact ih i e) h i e
theorem RpL.append{O:Addr->Prop}{vs ws:List V}{ds es:List D}(h:RpL K kd O H vs ds)(r:RpL K kd O H ws es):RpL K kd O H (vs++ws) (ds++es):=RpL.ind (P:=λvs ds=>RpL K kd O H (vs++ws) (ds++es)) r (λa _ t=>.cons a t) h
theorem RpL.take{O:Addr->Prop}{vs:List V}{ds:List D}(n:Nat)(h:RpL K kd O H vs ds):RpL K kd O H (vs.take n) (ds.take n):=
 RpL.ind (P:=λvs ds=>∀n,RpL K kd O H (vs.take n) (ds.take n)) (λn=>by rw[List.take_nil,List.take_nil];exact .nil) (λa _ ih n=>by
  cases n with
  |zero=>exact .nil
  |succ n=>exact .cons a (ih n)) h n
theorem RpL.drop{O:Addr->Prop}{vs:List V}{ds:List D}(n:Nat)(h:RpL K kd O H vs ds):RpL K kd O H (vs.drop n) (ds.drop n):=
 RpL.ind (P:=λvs ds=>∀n,RpL K kd O H (vs.drop n) (ds.drop n)) (λn=>by rw[List.drop_nil,List.drop_nil];exact .nil) (λa b ih n=>by
  cases n with
  |zero=>exact .cons a b
  |succ n=>exact ih n) h n
theorem RpL.rep{O:Addr->Prop}{vs:List V}{ds:List D}(h:RpL K kd O H vs ds):∀k:Nat,RpL K kd O H (List.replicate k vs).flatten (List.replicate k ds).flatten
 |0=>.nil
 |k+1=>by
  rw[List.replicate_succ,List.replicate_succ,List.flatten_cons,List.flatten_cons]
  exact h.append (RpL.rep h k)
end
inductive Vw(K:zC)(kd:KD)(O:Addr->Prop)(H:Hp):V->D->Prop
 |non:Vw K kd O H .non .non
 |bl (b:Bool):Vw K kd O H (.bl b) (.bl b)
 |int (i:Int):Vw K kd O H (.int i) (.int i)
 |str (x:Str):Vw K kd O H (.str x) (.str x)
 |tup {a:Addr}{vs:List V}{ds:List D}:Rp K kd O H (.ref a) (.tup ds)->SqT K H a vs->RpL K kd O H vs ds->Vw K kd O H (.ref a) (.tup ds)
 |lst {a:Addr}{vs:List V}{ds:List D}:RdL K H a vs->RpL K kd O H vs ds->Vw K kd O H (.ref a) (.lst ds)
 |dct {a:Addr}{kvs:List (Key×V)}{ds:List (Key×D)}:(Rd H a (.dK kvs)\/kd a kvs)->RpM K kd O H kvs ds->Vw K kd O H (.ref a) (.dct ds)
 |cl (c:Str):Vw K kd O H (.ref (kd.c c)) (.cl c)
 |ob {a dx:Addr}{c:Str}{ns:List Str}{vs:List V}{ds:List D}:H a=some (.ins (kd.c c) dx (ns.zip vs))->ns.length=vs.length->RpL K kd O H vs ds->Vw K kd O H (.ref a) (.ob c ns ds)
theorem Rp.vw{K:zC}{kd:KD}{O:Addr->Prop}{H:Hp}{v:V}{d:D}(h:Rp K kd O H v d):Vw K kd O H v d:=by
 cases h with
 |non=>exact .non
 |bl b=>exact .bl b
 |int i=>exact .int i
 |str x=>exact .str x
 |tup n h r=>exact .tup (.tup n h r) (.inl h) r
 |tupK a b c e f r=>exact .tup (.tupK a b c e f r) (.inr ⟨_,_,_,a,b,c,e,f⟩) r
 |lst n h r=>exact .lst (.inl h) r
 |lstK a e f r=>exact .lst (.inr ⟨_,_,a,e,f⟩) r
 |dct n h r=>exact .dct (.inl h) r
 |dctK h r=>exact .dct (.inr h) r
 |cl c=>exact .cl c
 |ob n h l r=>exact .ob h l r
theorem _root_.L2.RdL.sq{K:zC}{H:Hp}{a:Addr}{xs:List V}(h:RdL K H a xs):SqL K H a xs:=by
 rcases h with h|⟨its,n,k,z,r⟩
 · exact .inl h
 · exact .inr ⟨_,its,n,k,rfl,rfl,rfl,z,r⟩
theorem zjI{X:Cx}{pins:List (Addr×Obj)}{σ:St}{H:Hp}{s:Shared}{a:Addr}{xs:List V}(I:Inv X pins σ H s)(h:RdL X.K H a xs):
 xs.length<=sizeLine/\∃(its:List Value) (n:Nat),Vals xs its/\s.heap.get? a=some {cls:=.type "list",data:=.seq its.toArray n}:=by
 rcases h with h|⟨its,n,k,z,r⟩
 · exact h.ok I.hok
 · refine⟨by rw[r.length];simpa using z,its.toList,n,r,by simpa using I.kIn _ _ k⟩
theorem Rp.cl_eq{K:zC}{kd:KD}{O:Addr->Prop}{H:Hp}{C:Addr}{c:Str}(h:Rp K kd O H (.ref C) (.cl c)):C=kd.c c:=by
 cases h;rfl
def zL:D->Bool
 | .non=>true | .bl _=>true | .int _=>true | .str _=>true|_=>false
theorem Rp.flat{K:zC}{kd:KD}{O O':Addr->Prop}{H H':Hp}{v:V}{d:D}(h:Rp K kd O H v d)(e:zL d=true):Rp K kd O' H' v d:=by
 cases h with
 |non=>exact .non
 |bl b=>exact .bl b
 |int i=>exact .int i
 |str x=>exact .str x
 |_=>cases e
inductive Kind where
 |ls|tp|dc (ks:List Key)|ob (c:Str) (ns:List Str)
inductive O where
 |lf (st:Bool) (d:D)|nd (k:Kind) (os:List O)
abbrev lfs(st:Bool)(d:D):O:=.lf (zL d||st) d
mutual
inductive Ro(L:Bool->V->D->Prop)(N:Addr->Prop)(H:Hp):V->O->List Addr->Prop
 |lf {st:Bool}{v:V}{d:D}:L st v d->Ro L N H v (.lf st d) []
 |ls {a:Addr}{vs:List V}{os:List O}{fp:List Addr}:H a=some (.lst vs)->RoL L N H vs os fp->Ro L N H (.ref a) (.nd .ls os) (a::fp)
 |dc {a:Addr}{ks:List Key}{vs:List V}{os:List O}{fp:List Addr}:H a=some (.dK (ks.zip vs))->ks.length=vs.length->RoL L N H vs os fp->Ro L N H (.ref a) (.nd (.dc ks) os) (a::fp)
 |ob {a dx C:Addr}{c:Str}{ns:List Str}{vs:List V}{os:List O}{fp:List Addr}:L true (.ref C) (.cl c)->H a=some (.ins C dx (ns.zip vs))->ns.length=vs.length->RoL L N H vs os fp->Ro L N H (.ref a) (.nd (.ob c ns) os) (a::fp)
 |tp {a:Addr}{vs:List V}{os:List O}{fp:List Addr}:N a->H a=some (.tup vs)->RoL L N H vs os fp->Ro L N H (.ref a) (.nd .tp os) fp
inductive RoL(L:Bool->V->D->Prop)(N:Addr->Prop)(H:Hp):List V->List O->List Addr->Prop
 |nil:RoL L N H [] [] []
 |cons {v:V}{o:O}{vs:List V}{os:List O}{fp fq:List Addr}:Ro L N H v o fp->RoL L N H vs os fq->RoL L N H (v::vs) (o::os) (fp++fq)
end
mutual
def O.toD:O->D
 | .lf _ d=>d
 | .nd .ls os=>.lst (O.toDs os)
 | .nd .tp os=>.tup (O.toDs os)
 | .nd (.dc ks) os=>.dct (ks.zip (O.toDs os))
 | .nd (.ob c ns) os=>.ob c ns (O.toDs os)
def O.toDs:List O->List D
 | []=>[]
 |o::r=>o.toD::O.toDs r
end
mutual
def O.str:O->Bool
 | .lf st _=>st
 | .nd _ os=>O.strs os
def O.strs:List O->Bool
 | []=>true
 |o::r=>o.str&&O.strs r
end
section
variable{L L':Bool->V->D->Prop}{N N':Addr->Prop}{H H':Hp}{K:zC}{kd:KD}{Ob:Addr->Prop}
theorem Ro.mono(hL:∀st v d,L st v d->L' st v d)(hN:∀a vs,N a->H a=some (.tup vs)->N' a/\H' a=some (.tup vs)){v:V}{o:O}{fp:List Addr}(k:∀a ∈ fp,∀u,H a=some u->H' a=some u)(h:Ro L N H v o fp):Ro L' N' H' v o fp:=
 Ro.rec (motive_1:=λv o fp _=>(∀a ∈ fp,∀u,H a=some u->H' a=some u)->Ro L' N' H' v o fp) (motive_2:=λvs os fp _=>(∀a ∈ fp,∀u,H a=some u->H' a=some u)->RoL L' N' H' vs os fp)
  (λh _=>.lf (hL _ _ _ h)) (λh _ r k=>.ls (k _ zzC _ h) (r λa m=>k a (zzA _ m))) (λh l _ r k=>.dc (k _ zzC _ h) l (r λa m=>k a (zzA _ m))) (λc h l _ r k=>.ob (hL _ _ _ c) (k _ zzC _ h) l (r λa m=>k a (zzA _ m))) (λn h _ r k=>.tp (hN _ _ n h).1 (hN _ _ n h).2 (r k))
  (λ_=>.nil) (λ_ _ h r k=>.cons (h λa m=>k a (zzM _ m)) (r λa m=>k a (zzI _ m))) h k
theorem RoL.ind{P:List V->List O->List Addr->Prop}(h0:P [] [] [])(h1:∀{v o vs os fp fq},Ro L N H v o fp->RoL L N H vs os fq->P vs os fq->P (v::vs) (o::os) (fp++fq)){vs:List V}{os:List O}{fp:List Addr}(h:RoL L N H vs os fp):P vs os fp:=
 RoL.rec (motive_1:=λ_ _ _ _=>True) (motive_2:=λvs os fp _=>P vs os fp) (λ_=>⟨⟩) (λ_ _ _=>⟨⟩) (λ_ _ _ _=>⟨⟩) (λ_ _ _ _ _=>⟨⟩) (λ_ _ _ _=>⟨⟩) h0 (λa r _ ih=>h1 a r ih) h
theorem RoL.mono(hL:∀st v d,L st v d->L' st v d)(hN:∀a vs,N a->H a=some (.tup vs)->N' a/\H' a=some (.tup vs)){vs:List V}{os:List O}{fp:List Addr}(k:∀a ∈ fp,∀u,H a=some u->H' a=some u)(h:RoL L N H vs os fp):RoL L' N' H' vs os fp:=
 RoL.ind (P:=λvs os fp=>(∀a ∈ fp,∀u,H a=some u->H' a=some u)->RoL L' N' H' vs os fp) (λ_=>.nil) (λh _ r k=>.cons (Ro.mono hL hN (λa m=>k a (zzM _ m)) h) (r λa m=>k a (zzI _ m))) h k
theorem zeF:∀{ks:List Key}{vs:List V}{ds:List D},RpL K kd Ob H vs ds->ks.length=vs.length->RpM K kd Ob H (ks.zip vs) (ks.zip ds)
 | [],_,_,_,_=>.nil
 |_::_,_,_,.nil,e=>by simp at e
 |_::_,_,_,.cons h r,e=>.cons h (zeF r (by simpa using e))
theorem Ro.rp(b:Bool)(hL:∀st v d,(b=true->st=true)->L st v d->Rp K kd Ob H v d)(hN:∀a,N a->¬Ob a){v:V}{o:O}{fp:List Addr}(s:b=true->o.str=true)(k:∀a ∈ fp,¬Ob a)(h:Ro L N H v o fp):Rp K kd Ob H v o.toD:=
 Ro.rec (motive_1:=λv o fp _=>(b=true->o.str=true)->(∀a ∈ fp,¬Ob a)->Rp K kd Ob H v o.toD) (motive_2:=λvs os fp _=>(b=true->O.strs os=true)->(∀a ∈ fp,¬Ob a)->RpL K kd Ob H vs (O.toDs os))
  (λh s _=>hL _ _ _ s h) (λh _ r s k=>.lst (k _ zzC) (.inl h) (r s λa m=>k a (zzA _ m))) (λh l _ r s k=>.dct (k _ zzC) (.inl h) (zeF (r s λa m=>k a (zzA _ m)) l)) (λc h l _ r s k=>by
   have e:=(hL _ _ _ (λ_=>rfl) c).cl_eq
   subst e
   exact .ob (k _ zzC) h l (r s λa m=>k a (zzA _ m))) (λn h _ r s k=>.tup (hN _ n) (.inl h) (r s k))
  (λ_ _=>.nil) (λ_ _ h r s k=>.cons (h (λz=>((zzZ _ _).mp (s z)).1) λa m=>k a (zzM _ m)) (r (λz=>((zzZ _ _).mp (s z)).2) λa m=>k a (zzI _ m))) h s k
theorem RoL.rp(b:Bool)(hL:∀st v d,(b=true->st=true)->L st v d->Rp K kd Ob H v d)(hN:∀a,N a->¬Ob a){vs:List V}{os:List O}{fp:List Addr}(s:b=true->O.strs os=true)(k:∀a ∈ fp,¬Ob a)(h:RoL L N H vs os fp):RpL K kd Ob H vs (O.toDs os):=
 RoL.ind (P:=λvs os fp=>(b=true->O.strs os=true)->(∀a ∈ fp,¬Ob a)->RpL K kd Ob H vs (O.toDs os)) (λ_ _=>.nil) (λh _ r s k=>.cons (Ro.rp b hL hN (λz=>((zzZ _ _).mp (s z)).1) (λa m=>k a (zzM _ m)) h) (r (λz=>((zzZ _ _).mp (s z)).2) λa m=>k a (zzI _ m))) h s k
theorem RoL.length{vs:List V}{os:List O}{fp:List Addr}(h:RoL L N H vs os fp):vs.length=os.length:=RoL.ind (P:=λvs os _=>vs.length=os.length) rfl (λ_ _ r=>congrArg (· + 1) r) h
theorem zdw:∀os:List O,(O.toDs os).length=os.length
 | []=>rfl
 |_::r=>congrArg (· + 1) (zdw r)
theorem RoL.append{vs ws:List V}{os ps:List O}{f g:List Addr}(h:RoL L N H vs os f)(r:RoL L N H ws ps g):RoL L N H (vs++ws) (os++ps) (f++g):=RoL.ind (P:=λvs os f=>RoL L N H (vs++ws) (os++ps) (f++g)) r (λh _ t=>by rw[zxA];exact .cons h t) h
theorem RoL.one{v:V}{o:O}{f:List Addr}(h:Ro L N H v o f):RoL L N H [v] [o] f:=by
 have:=RoL.cons h (RoL.nil (L:=L) (N:=N) (H:=H))
 rw[zyB]at this
 exact this
theorem RoL.at_{k:Nat}{o:O}:∀{vs:List V}{os:List O}{fp:List Addr},RoL L N H vs os fp->os[k]? = some o->∃v f fo g,vs[k]? = some v/\fp=f++(fo++g)/\Ro L N H v o fo/\RoL L N H (vs.take k) (os.take k) f/\RoL L N H (vs.drop (k+1)) (os.drop (k+1)) g:=by
 induction k with
 |zero=>
  intro vs os fp h e
  cases h with
  |nil=>cases e
  |cons h r=>
   rw[List.getElem?_cons_zero]at e
   cases e
   exact⟨_,[],_,_,rfl,rfl,h,.nil,r⟩
 |succ k ih=>
  intro vs os fp h e
  cases h with
  |nil=>cases e
  |cons h r=>
   rw[List.getElem?_cons_succ]at e
   obtain⟨v,f,fo,g,e1,e2,h1,h2,h3⟩:=ih r e
   subst e2
   exact⟨v,_,fo,g,by rw[List.getElem?_cons_succ];exact e1,(zxA _ _ _).symm,h1,.cons h h2,h3⟩
theorem zdz{α:Type}(l:List α)(k:Nat):l.eraseIdx k=l.take k++l.drop (k+1):=List.eraseIdx_eq_take_drop_succ l k
end
abbrev AS:=List (Option O)
abbrev Ad:=Nat->List Addr
def Gw(T:List Addr)(ad:Ad):Addr->Prop:=λa=>a ∈ T\/∃i,a ∈ ad i
abbrev Lv(F B G:Addr->Prop)(st:Bool):Addr->Prop:=Un2 (λa=>(st=true/\F a)\/B a) G
abbrev Lf(K:zC)(kd:KD)(F B G:Addr->Prop)(H:Hp):Bool->V->D->Prop:=λst v d=>Rp K kd (Lv F B G st) H v d
abbrev Nf(F B G:Addr->Prop):Addr->Prop:=λa=>¬Lv F B G true a
abbrev RoS(K:zC)(kd:KD)(F B G:Addr->Prop)(H:Hp):V->O->List Addr->Prop:=Ro (Lf K kd F B G H) (Nf F B G) H
abbrev vB(K:zC)(kd:KD)(F B G:Addr->Prop)(H:Hp):List V->List O->List Addr->Prop:=RoL (Lf K kd F B G H) (Nf F B G) H
def zfY(K:zC)(kd:KD)(F B G:Addr->Prop)(H:Hp):Option O->Option (Option V)->List Addr->Prop
 |none,_,fp=>fp=[]
 |some o,s,fp=>∃v,s=some (some v)/\RoS K kd F B G H v o fp
structure Rel(K:zC)(kd:KD)(F B:Addr->Prop)(T:List Addr)(ad:Ad)(as:AS)(σ:St)(H:Hp):Prop where
 len:as.length=σ.length
 out:∀i,as.length<=i->ad i=[]
 nd:∀i,(ad i).Nodup
 inj:∀i j a,a ∈ ad i->a ∈ ad j->i=j
 tnd:T.Nodup
 dis:∀i a,a ∈ ad i->a ∉ T
 ftr:∀a,F a->H a≠none
 btr:∀a,B a->H a≠none/\¬F a/\¬Gw T ad a
 gtr:∀a,Gw T ad a->H a≠none/\¬F a
 sl:∀i s,as[i]? = some s->zfY K kd F B (Gw T ad) H s σ[i]? (ad i)
inductive RV where
 |ow (o:O)|bo (i:Nat)
def wC(K:zC)(kd:KD)(F B:Addr->Prop)(T:List Addr)(ad:Ad)(σ:St)(H:Hp)(v:V):RV->Prop
 | .ow o=>RoS K kd F B (Gw T ad) H v o T
 | .bo i=>T=[]/\σ[i]? = some (some v)
def O.frz(o:O):O:=.lf o.str o.toD
def RV.frz:RV->RV
 | .ow o=>.ow o.frz
 | .bo i=>.bo i
def O.isLf:O->Bool
 | .lf _ _=>true
 |_=>false
def O.kl:O->Option Bool
 | .lf st _=>some st
 | .nd _ os=>if os.all O.isLf=true then some (O.strs os)else none
def RV.view(as:AS):RV->Option (D×Option Bool)
 | .ow o=>some (o.toD,some o.str)
 | .bo i=>match as[i]? with
  |some (some o)=>some (o.toD,o.kl)
  |_=>none
def Obl(F B G:Addr->Prop):Option Bool->Addr->Prop
 |some st=>Lv F B G st
 |none=>λ_=>False
section
variable{K:zC}{kd:KD}{F B F' B':Addr->Prop}{G G':Addr->Prop}{T T':List Addr}{ad ad1:Ad}{as as1:AS}{σ:St}{H H1 H':Hp}{v:V}{r:RV}{o:O}{fp:List Addr}{vs:List V}{os:List O}
theorem RoS.grow(g:Grow G H G' H')(k:∀a ∈ fp,∀u,H a=some u->H' a=some u)(h:RoS K kd F B G H v o fp):RoS K kd F B G' H' v o fp:=
 Ro.mono (λst v d r=>Rp.grow g r) (λa vs n e=>⟨λz=>z.elim (λy=>n (.inl y)) λy=>(g.own a y).elim (λw=>n (.inr w)) λw=>(by rw[w]at e;cases e),g.keep a _ e (λw=>n (.inr w))⟩) k h
theorem vB.grow(g:Grow G H G' H')(k:∀a ∈ fp,∀u,H a=some u->H' a=some u)(h:vB K kd F B G H vs os fp):vB K kd F B G' H' vs os fp:=
 RoL.mono (λst v d r=>Rp.grow g r) (λa vs n e=>⟨λz=>z.elim (λy=>n (.inl y)) λy=>(g.own a y).elim (λw=>n (.inr w)) λw=>(by rw[w]at e;cases e),g.keep a _ e (λw=>n (.inr w))⟩) k h
theorem RoS.lv(g:∀st a,Lv F' B' G' st a->Lv F B G st a)(h:RoS K kd F B G H v o fp):RoS K kd F' B' G' H v o fp:=
 Ro.mono (λst v d r=>r.less (g st)) (λa vs n e=>⟨λz=>n (g true a z),e⟩) (λ_ _ _ e=>e) h
theorem vB.lv(g:∀st a,Lv F' B' G' st a->Lv F B G st a)(h:vB K kd F B G H vs os fp):vB K kd F' B' G' H vs os fp:=
 RoL.mono (λst v d r=>r.less (g st)) (λa vs n e=>⟨λz=>n (g true a z),e⟩) (λ_ _ _ e=>e) h
theorem RoS.less(g:∀a,G' a->G a)(h:RoS K kd F B G H v o fp):RoS K kd F B G' H v o fp:=RoS.lv (λ_ a z=>z.elim .inl λy=>.inr (g a y)) h
theorem Gw.drop:∀a,Gw [] ad a->Gw T ad a:=λ_ h=>h.elim (λz=>nomatch z) .inr
theorem Rel.trk(R:Rel K kd F B T ad as σ H)(st:Bool):∀a,Lv F B (Gw T ad) st a->H a≠none:=λa h=>by
 rcases h with(h|h)|h
 · exact R.ftr a h.2
 · exact(R.btr a h).1
 · exact(R.gtr a h).1
theorem Rel.tr(R:Rel K kd F B T ad as σ H)(lv:Option Bool):∀a,Obl F B (Gw T ad) lv a->H a≠none:=λa h=>by
 cases lv with
 |none=>exact h.elim
 |some st=>exact R.trk st a h
theorem zfY.lv{s:Option O}{x:Option (Option V)}(g:∀st a,Lv F' B' G' st a->Lv F B G st a)(h:zfY K kd F B G H s x fp):zfY K kd F' B' G' H s x fp:=by
 cases s with
 |none=>exact h
 |some o=>obtain⟨v,e,r⟩:=h;exact⟨v,e,RoS.lv g r⟩
theorem zfY.less{s:Option O}{x:Option (Option V)}(g:∀a,G' a->G a)(h:zfY K kd F B G H s x fp):zfY K kd F B G' H s x fp:=h.lv (λ_ a z=>z.elim .inl λy=>.inr (g a y))
theorem zfY.grow{s:Option O}{x:Option (Option V)}(g:Grow G H G' H')(k:∀a ∈ fp,∀u,H a=some u->H' a=some u)(h:zfY K kd F B G H s x fp):zfY K kd F B G' H' s x fp:=by
 cases s with
 |none=>exact h
 |some o=>obtain⟨v,e,r⟩:=h;exact⟨v,e,RoS.grow g k r⟩
theorem Rel.drop(R:Rel K kd F B T ad as σ H):Rel K kd F B [] ad as σ H where
 len:=R.len
 out:=R.out
 nd:=R.nd
 inj:=R.inj
 tnd:=zyG
 dis:=λ_ _ _ z=>nomatch z
 ftr:=R.ftr
 btr:=λa h=>let⟨h1,h2,h3⟩:=R.btr a h;⟨h1,h2,λz=>h3 (Gw.drop a z)⟩
 gtr:=λa h=>R.gtr a (Gw.drop a h)
 sl:=λi s e=>(R.sl i s e).less Gw.drop
theorem zjT(R:Rel K kd F B T ad as σ H)(h:RoS K kd F B (Gw T ad) H v o T):Rp K kd (Lv F B (Gw [] ad) o.str) H v o.toD:=
 Ro.rp o.str (λst v d hs r=>r.less λa z=>z.elim (λy=>.inl (y.elim (λx=>.inl ⟨hs x.1,x.2⟩) .inr)) λy=>.inr (Gw.drop a y))
  (λa n z=>n (z.elim (λy=>.inl (y.elim (λx=>.inl ⟨rfl,x.2⟩) .inr)) λy=>.inr (Gw.drop a y))) id
  (λa m z=>by
   rcases z with(z|z)|z|⟨i,z⟩
   · exact(R.gtr a (.inl m)).2 z.2
   · exact(R.btr a z).2.2 (.inl m)
   · cases z
   · exact R.dis i a z m) h
theorem wC.drop(R:Rel K kd F B T ad as σ H)(h:wC K kd F B T ad σ H v r):wC K kd F B [] ad σ H v r.frz:=by
 cases r with
 |ow o=>exact .lf (zjT R h)
 |bo i=>exact⟨rfl,h.2⟩
theorem wC.grow(g:Grow (Gw [] ad) H (Gw [] ad1) H1)(h:wC K kd F B [] ad σ H v r):wC K kd F B [] ad1 σ H1 v r:=by
 cases r with
 |ow o=>exact RoS.grow g (λ_ m=>nomatch m) h
 |bo i=>exact h
theorem zor{vs:List V}{os:List O}{fp:List Addr}(h:vB K kd F B G H vs os fp):os.all O.isLf=true->fp=[]:=
 RoL.ind (P:=λ_ os fp=>os.all O.isLf=true->fp=[]) (λ_=>rfl) (λh _ ih e=>by
  rw[List.all_cons,zzZ]at e
  rw[ih e.2,zyB]
  cases h with
  |lf=>rfl
  |ls=>cases e.1
  |dc=>cases e.1
  |ob=>cases e.1
  |tp=>cases e.1) h
theorem zfq{st:Bool}{b:Bool}(hs:b=true->st=true):∀a,Lv F B G b a->Lv F B G st a:=λa z=>z.elim (λy=>.inl (y.elim (λx=>.inl ⟨hs x.1,x.2⟩) .inr)) .inr
theorem zfP(h:vB K kd F B G H vs os fp)(e:os.all O.isLf=true):RpL K kd (Lv F B G (O.strs os)) H vs (O.toDs os):=by
 have:=zor h e
 subst this
 exact RoL.rp (O.strs os) (λst v d hs r=>r.less (zfq hs)) (λa n z=>n (zfq (λ_=>rfl) a z)) id (by intro a m;cases m) h
theorem zcq(h:vB K kd F B G H vs os fp):RpL K kd (λ_=>False) H vs (O.toDs os):=RoL.rp false (λst v d _ r=>r.less λ_ z=>z.elim) (λ_ _ z=>z) (λz=>Bool.noConfusion z) (λ_ _ z=>z) h
theorem zhT(h:RoS K kd F B G H v o fp):Rp K kd (λ_=>False) H v o.toD:=Ro.rp false (λst v d _ r=>r.less λ_ z=>z.elim) (λ_ _ z=>z) (λz=>Bool.noConfusion z) (λ_ _ z=>z) h
theorem zhU(h:RoS K kd F B G H v o []):Rp K kd (Lv F B G o.str) H v o.toD:=
 Ro.rp o.str (λst v d hs r=>r.less (zfq hs)) (λa n z=>n (zfq (λ_=>rfl) a z)) id (by intro a m;cases m) h
theorem RoS.vw(h:RoS K kd F B G H v o fp):Vw K kd (Obl F B G o.kl) H v o.toD:=by
 cases h with
 |lf h=>exact h.vw
 |ls hH r=>
  rename_i a vs' os' fp'
  show Vw K kd (Obl F B G (if os'.all O.isLf=true then some (O.strs os')else none)) H _ (.lst (O.toDs os'))
  by_cases e:os'.all O.isLf=true
  · rw[if_pos e];exact .lst (.inl (.inl hH)) (zfP r e)
  · rw[if_neg e];exact .lst (.inl (.inl hH)) (zcq r)
 |dc hH l r=>
  rename_i a ks vs' os' fp'
  show Vw K kd (Obl F B G (if os'.all O.isLf=true then some (O.strs os')else none)) H _ (.dct (ks.zip (O.toDs os')))
  by_cases e:os'.all O.isLf=true
  · rw[if_pos e];exact .dct (.inl (.inl hH)) (zeF (zfP r e) l)
  · rw[if_neg e];exact .dct (.inl (.inl hH)) (zeF (zcq r) l)
 |ob hc hH l r=>
  rename_i a dx C c ns vs' os' fp'
  have ec:C=kd.c c:=hc.cl_eq
  subst ec
  show Vw K kd (Obl F B G (if os'.all O.isLf=true then some (O.strs os')else none)) H _ (.ob c ns (O.toDs os'))
  by_cases e:os'.all O.isLf=true
  · rw[if_pos e];exact .ob hH l (zfP r e)
  · rw[if_neg e];exact .ob hH l (zcq r)
 |tp n hH r=>
  rename_i a vs' os'
  show Vw K kd (Obl F B G (if os'.all O.isLf=true then some (O.strs os')else none)) H _ (.tup (O.toDs os'))
  by_cases e:os'.all O.isLf=true
  · rw[if_pos e]
    have rl:=zfP r e
    exact .tup (.tup (λz=>n (zfq (λ_=>rfl) _ z)) (.inl hH) rl) (.inl (.inl hH)) rl
  · rw[if_neg e];exact .tup (.tup (λz=>z) (.inl hH) (zcq r)) (.inl (.inl hH)) (zcq r)
theorem wC.vw(R:Rel K kd F B [] ad as σ H)(h:wC K kd F B [] ad σ H v r){d:D}{lv:Option Bool}(e:r.view as=some (d,lv)):Vw K kd (Obl F B (Gw [] ad) lv) H v d:=by
 cases r with
 |ow o=>
  cases e
  exact(zhU h).vw
 |bo i=>
  have e:(match as[i]? with|some (some o)=>some (o.toD,o.kl)|_=>none)=some (d,lv):=e
  cases k:as[i]? with
  |none=>rw[k]at e;cases e
  |some s=>
   cases s with
   |none=>rw[k]at e;cases e
   |some o=>
    rw[k]at e
    cases e
    obtain⟨w,hw,ro⟩:=R.sl i _ k
    rw[h.2]at hw
    cases hw
    exact ro.vw
theorem Rel.add{N:List Addr}(R:Rel K kd F B T ad as σ H)(hn:N.Nodup)(hl:∀a ∈ N,H a=none)(k:∀b u,H b=some u->H' b=some u)(h1:∀a ∈ N,H' a≠none):Rel K kd F B (N++T) ad as σ H'/\Grow (Gw T ad) H (Gw (N++T) ad) H':=by
 have g:Grow (Gw T ad) H (Gw (N++T) ad) H':=⟨λb u h _=>k b u h,λb h=>by
  rcases h with h|h
  · rcases zzJ.mp h with h|h
    · exact .inr (hl b h)
    · exact .inl (.inl h)
  · exact .inl (.inr h)⟩
 have kn:∀a,H a≠none->H' a≠none:=λa z=>by
  cases e:H a with
  |none=>exact absurd e z
  |some u=>rw[k a u e];simp
 refine⟨⟨R.len,R.out,R.nd,R.inj, ?_,λi a m z=>?_,λa z=>kn a (R.ftr a z),λa z=>?_,λa z=>?_,λi s e=>(R.sl i s e).grow g λa _ u h=>k a u h⟩,g⟩
 · refine zxC.mpr ⟨hn,R.tnd,λa m b m' e=>?_⟩
   subst e
   exact(R.gtr a (.inl m')).1 (hl a m)
 · rcases zzJ.mp z with z|z
   · exact(R.gtr a (.inr ⟨i,m⟩)).1 (hl a z)
   · exact R.dis i a m z
 · obtain⟨b1,b2,b3⟩:=R.btr a z
   refine⟨kn a b1,b2,λy=>?_⟩
   rcases y with y|y
   · rcases zzJ.mp y with y|y
     · exact b1 (hl a y)
     · exact b3 (.inl y)
   · exact b3 (.inr y)
 · rcases z with z|z
   · rcases zzJ.mp z with z|z
     · exact⟨h1 a z,λf=>R.ftr a f (hl a z)⟩
     · exact⟨kn a (R.gtr a (.inl z)).1,(R.gtr a (.inl z)).2⟩
   · exact⟨kn a (R.gtr a (.inr z)).1,(R.gtr a (.inr z)).2⟩
theorem Rel.more(R:Rel K kd F B T ad as σ H)(k:∀b u,H b=some u->H' b=some u):Rel K kd F B T ad as σ H'/\Grow (Gw T ad) H (Gw T ad) H':=
 R.add (N:=[]) zyG (λ_ m=>nomatch m) k (λ_ m=>nomatch m)
theorem Rel.news(R:Rel K kd F B [] ad as σ H)(hn:T'.Nodup)(hl:∀a ∈ T',H a=none)(k:∀b u,H b=some u->H' b=some u)(h1:∀a ∈ T',H' a≠none):Rel K kd F B T' ad as σ H'/\Grow (Gw [] ad) H (Gw T' ad) H':=by
 have:=R.add hn hl k h1
 rw[zyB]at this
 exact this
end
inductive R0 where
 |im (d:D)|fl (ds:List D)|fd (kvs:List (Key×D))
def RQ(K:zC)(kd:KD)(O:Addr->Prop)(H:Hp)(Q:VK):R0->Prop
 | .im d=>∀v H',(∀b o,H b=some o->H' b=some o)->Rp K kd O H' v d->Q v H'
 | .fl ds=>∀l vs H',H l=none->(∀b o,H b=some o->H' b=some o)->H' l=some (.lst vs)->RpL K kd (Un2 O (· = l)) H' vs ds->Q (.ref l) H'
 | .fd ds=>∀l vs H',H l=none->(∀b o,H b=some o->H' b=some o)->H' l=some (.dK vs)->RpM K kd (Un2 O (· = l)) H' vs ds->Q (.ref l) H'
def wrap(lv:Option Bool):R0->Option RV
 | .im d=>if(zL d||lv.isSome)=true then some (.ow (lfs (lv.getD false) d))else none
 | .fl ds=>if(ds.all zL||lv.isSome)=true then some (.ow (.nd .ls (ds.map (lfs (lv.getD false)))))else none
 | .fd kvs=>if((kvs.map (·.2)).all zL||lv.isSome)=true then some (.ow (.nd (.dc (kvs.map (·.1))) ((kvs.map (·.2)).map (lfs (lv.getD false)))))else none
theorem bS_{α β:Type}{o:Option α}{f:α->Option β}{b:β}(h:o.bind f=some b):∃a,o=some a/\f a=some b:=by
 cases o with
 |none=>cases h
 |some a=>exact⟨a,rfl,h⟩
theorem ite_some'{α:Type}{c:Prop}[Decidable c]{a:Option α}{b:α}(h:(if c then a else none)=some b):c/\a=some b:=by
 by_cases hc:c
 · rw[if_pos hc]at h;exact⟨hc,h⟩
 · rw[if_neg hc]at h;cases h
theorem zM{α:Type}{c:Prop}[Decidable c]{a b:α}(h:(if c then some a else none)=some b):c/\a=b:=by
 by_cases hc:c
 · rw[if_pos hc]at h;cases h;exact⟨hc,rfl⟩
 · rw[if_neg hc]at h;cases h
section
variable{K:zC}{kd:KD}{F B:Addr->Prop}{G:Addr->Prop}{ad:Ad}{as:AS}{σ:St}{H H':Hp}{v:V}{r:R0}{rv:RV}{Q:VK}{lv:Option Bool}
theorem zqR{Ob:Addr->Prop}{d:D}(h:zL d=true\/lv.isSome=true)(hO:∀st,lv=some st->∀a,Lv F B G st a->Ob a)(rp:Rp K kd Ob H v d):Lf K kd F B G H (zL d||lv.getD false) v d:=by
 cases e:zL d with
 |true=>exact rp.flat e
 |false=>
  rw[e]at h
  cases lv with
  |none=>rcases h with h|h<;>cases h
  |some st=>exact rp.less (hO st rfl)
theorem znP{Ob:Addr->Prop}{N:Addr->Prop}(hO:∀st,lv=some st->∀a,Lv F B G st a->Ob a){vs:List V}{ds:List D}(e:(ds.all zL||lv.isSome)=true)(h:RpL K kd Ob H vs ds):RoL (Lf K kd F B G H) N H vs (ds.map (lfs (lv.getD false))) []:=
 RpL.ind (P:=λvs ds=>(ds.all zL||lv.isSome)=true->RoL (Lf K kd F B G H) N H vs (ds.map (lfs (lv.getD false))) []) (λ_=>.nil) (λ{v d vs ds} h _ ih e=>by
  rw[List.all_cons]at e
  have e1:zL d=true\/lv.isSome=true:=by
   cases h1:lv.isSome<;>cases h2:zL d<;>simp[h1,h2]at e ⊢
  have e2:(ds.all zL||lv.isSome)=true:=by
   cases h1:lv.isSome with
   |true=>simp
   |false=>
    rw[h1,Bool.or_false,zzZ]at e
    rw[Bool.or_false];exact e.2
  exact RoL.cons (.lf (zqR e1 hO h)) (ih e2)) h e
theorem zmr{O:Addr->Prop}{vs:List (Key×V)}{ds:List (Key×D)}(h:RpM K kd O H vs ds):vs=(ds.map (·.1)).zip (vs.map (·.2))/\RpL K kd O H (vs.map (·.2)) (ds.map (·.2)):=
 RpM.ind (P:=λvs ds=>vs=(ds.map (·.1)).zip (vs.map (·.2))/\RpL K kd O H (vs.map (·.2)) (ds.map (·.2))) ⟨rfl,.nil⟩ (λh _ ih=>by
  obtain⟨h1,h2⟩:=ih
  refine⟨?_,.cons h h2⟩
  conv=>lhs;rw[h1]
  rfl) h
theorem ZZ(R:Rel K kd F B [] ad as σ H)(e:wrap lv r=some rv)(q:∀v T' H',Rel K kd F B T' ad as σ H'->wC K kd F B T' ad σ H' v rv->Grow (Gw [] ad) H (Gw T' ad) H'->Q v H'):RQ K kd (Obl F B (Gw [] ad) lv) H Q r:=by
 have hO:∀(l:List Addr) st,lv=some st->∀a,Lv F B (Gw l ad) st a->Un2 (Obl F B (Gw [] ad) lv) (· ∈ l) a:=by
  intro l st e a z
  subst e
  rcases z with z|z|z
  · exact .inl (.inl z)
  · exact .inr z
  · exact .inl (.inr (.inr z))
 cases r with
 |im d=>
  obtain⟨c,rfl⟩:=zM e
  intro v H' k rp
  obtain⟨R',g⟩:=R.more k
  refine q v [] H' R' (.lf (zqR ((Bool.or_eq_true _ _).mp c) (λst e a z=>?_) rp)) g
  exact(hO [] st e a z).elim id λm=>nomatch m
 |fl ds=>
  obtain⟨c,rfl⟩:=zM e
  intro l vs H' hl k hl' rp
  obtain⟨R',g⟩:=R.news (T':=[l]) (by simp) (λa m=>by rw[zzO.mp m];exact hl) k (λa m=>by rw[zzO.mp m,hl'];simp)
  exact q _ [l] H' R' (.ls hl' (znP (λst e a z=>(hO [l] st e a z).elim .inl λm=>.inr (zzO.mp m)) c rp)) g
 |fd ds=>
  obtain⟨c,rfl⟩:=zM e
  intro l vs H' hl k hl' rp
  obtain⟨R',g⟩:=R.news (T':=[l]) (by simp) (λa m=>by rw[zzO.mp m];exact hl) k (λa m=>by rw[zzO.mp m,hl'];simp)
  obtain⟨e1,r1⟩:=zmr rp
  refine q _ [l] H' R' (.dc (vs:=vs.map (·.2)) (by rw[hl',<-e1]) (by rw[zD,zD,rp.length]) (znP (λst e a z=>(hO [l] st e a z).elim .inl λm=>.inr (zzO.mp m)) c r1)) g
end
abbrev EF:=AS->Option (RV×AS)
def al(K:zC)(kd:KD)(f:EF):TE:=λσ H Q=>∃F B ad as r as',Rel K kd F B [] ad as σ H/\f as=some (r,as')/\
 ∀v T' ad' H',Rel K kd F B T' ad' as' σ H'->wC K kd F B T' ad' σ H' v r->Grow (Gw [] ad) H (Gw T' ad') H'->Q v H'
@[irreducible] def AE(X:Cx)(kd:KD)(e:Expr)(f:EF):Prop:=PE X e (al X.K kd f)
theorem yJ{X:Cx}{e:Expr}{t t':TE}(h:PE X e t)(k:∀σ H Q,t' σ H Q->t σ H Q):PE X e t':=λpins s σ H Q I q=>h pins s σ H Q I (k σ H Q q)
section
variable{K:zC}{kd:KD}{F B:Addr->Prop}{ad:Ad}{as as1:AS}{σ:St}{H:Hp}{r:RV}{f:EF}{P:VK}
theorem vZ(R:Rel K kd F B [] ad as σ H)(e:f as=some (r,as1))(k:∀v ad1 H1,Rel K kd F B [] ad1 as1 σ H1->wC K kd F B [] ad1 σ H1 v r.frz->Grow (Gw [] ad) H (Gw [] ad1) H1->P v H1):al K kd f σ H P:=
 ⟨F,B,ad,as,r,as1,R,e,λv T' ad' H' R' rv g=>k v ad' H' R'.drop (wC.drop R' rv) (g.trans (Grow.less Gw.drop))⟩
end
def OpD(X:Cx)(kd:KD)(f:Value->Value->Sem Value)(g:D->D->Option R0):Prop:=
 OpR X f (λx y H Q=>∃O d e r,(∀a,O a->H a≠none)/\Vw X.K kd O H x d/\Vw X.K kd O H y e/\g d e=some r/\RQ X.K kd O H Q r)
def UnD(X:Cx)(kd:KD)(f:Value->Sem Value)(g:D->Option R0):Prop:=
 UnR X f (λx H Q=>∃O d r,(∀a,O a->H a≠none)/\Vw X.K kd O H x d/\g d=some r/\RQ X.K kd O H Q r)
inductive VwL(K:zC)(kd:KD)(O:Addr->Prop)(H:Hp):List V->List D->Prop
 |nil:VwL K kd O H [] []
 |cons {v:V}{d:D}{vs:List V}{ds:List D}:Vw K kd O H v d->VwL K kd O H vs ds->VwL K kd O H (v::vs) (d::ds)
def CallD(X:Cx)(kd:KD)(f:Value)(g:List D->Option R0):Prop:=
 zbn X f (λxs H Q=>∃O ds r,(∀a,O a->H a≠none)/\VwL X.K kd O H xs ds/\g ds=some r/\RQ X.K kd O H Q r)
def IxD(X:Cx)(kd:KD)(g:D->D->Option R0):Prop:=
 IxR X (λx y H Q=>∃O d e r,(∀a,O a->H a≠none)/\Vw X.K kd O H x d/\Vw X.K kd O H y e/\g d e=some r/\RQ X.K kd O H Q r)
def meet:Option Bool->Option Bool->Option Bool
 |some a,some b=>some (a&&b)
 |_,_=>none
theorem Obl.meet1{F B G:Addr->Prop}{a b:Option Bool}:∀x,Obl F B G (meet a b) x->Obl F B G a x:=λx h=>by
 cases a with
 |none=>cases b<;>exact h.elim
 |some p=>
  cases b with
  |none=>exact h.elim
  |some q=>exact zfq (λz=>((zzZ _ _).mp z).1) x h
theorem Obl.meet2{F B G:Addr->Prop}{a b:Option Bool}:∀x,Obl F B G (meet a b) x->Obl F B G b x:=λx h=>by
 cases a with
 |none=>cases b<;>exact h.elim
 |some p=>
  cases b with
  |none=>exact h.elim
  |some q=>exact zfq (λz=>((zzZ _ _).mp z).2) x h
theorem Vw.less{K:zC}{kd:KD}{O O':Addr->Prop}{H:Hp}{v:V}{d:D}(g:∀a,O' a->O a)(h:Vw K kd O H v d):Vw K kd O' H v d:=by
 cases h with
 |non=>exact .non
 |bl b=>exact .bl b
 |int i=>exact .int i
 |str x=>exact .str x
 |tup r s l=>exact .tup (r.less g) s (l.less g)
 |lst h l=>exact .lst h (l.less g)
 |dct h l=>exact .dct h (l.less g)
 |cl c=>exact .cl c
 |ob h k l=>exact .ob h k (l.less g)
def f2(fa fb:EF)(g:D->D->Option R0):EF:=λas=>(fa as).bind λp=>(fb p.2).bind λq=>(p.1.frz.view q.2).bind λx=>(q.1.frz.view q.2).bind λy=>(g x.1 y.1).bind λr=>(wrap (meet x.2 y.2) r).bind λz=>some (z,q.2)
theorem zkX{fa fb:EF}{g:D->D->Option R0}{as as':AS}{rv:RV}(h:f2 fa fb g as=some (rv,as')):
 ∃p as1 q x y lx ly r,fa as=some (p,as1)/\fb as1=some (q,as')/\p.frz.view as'=some (x,lx)/\q.frz.view as'=some (y,ly)/\g x y=some r/\wrap (meet lx ly) r=some rv:=by
 unfold f2 at h
 obtain⟨⟨p,as1⟩,h1,h⟩:=bS_ h
 obtain⟨⟨q,as2⟩,h2,h⟩:=bS_ h
 obtain⟨⟨x,lx⟩,h3,h⟩:=bS_ h
 obtain⟨⟨y,ly⟩,h4,h⟩:=bS_ h
 obtain⟨r,h5,h⟩:=bS_ h
 obtain⟨z,h6,h⟩:=bS_ h
 cases h
 exact⟨p,as1,q,x,y,lx,ly,r,h1,h2,h3,h4,h5,h6⟩
section
variable{X:Cx}{kd:KD}{a b c:Expr}{fa fb fc:EF}{pos:Pos}
theorem al2{g:D->D->Option R0}{R2':R2}(hr:∀x y H Q,(∃O d e r,(∀a,O a->H a≠none)/\Vw X.K kd O H x d/\Vw X.K kd O H y e/\g d e=some r/\RQ X.K kd O H Q r)->R2' x y H Q)
 {σ:St}{H:Hp}{Q:VK}(h:al X.K kd (f2 fa fb g) σ H Q):tOp R2' (al X.K kd fa) (al X.K kd fb) σ H Q:=by
 obtain⟨F,B,ad,as,r,as',R,e,q⟩:=h
 obtain⟨p,as1,z,x,y,lx,ly,r0,h1,h2,h3,h4,h5,h6⟩:=zkX e
 refine vZ R h1 λv ad1 H1 R1 rv1 g1=>vZ R1 h2 λu ad2 H2 R2 rv2 g2=>hr _ _ _ _ ?_
 exact⟨_,x,y,r0,R2.tr _,(wC.vw R2 (rv1.grow g2) h3).less Obl.meet1,(wC.vw R2 rv2 h4).less Obl.meet2,h5,ZZ R2 h6 λw T' H' R' rv' g'=>q w T' ad2 H' R' rv' ((g1.trans g2).trans g')⟩
theorem zj{op:Operator}{g:D->D->Option R0}(ho:OpD X kd (binaryOp op) g)(ha:AE X kd a fa)(hb':AE X kd b fb):AE X kd (.BinOp a op b pos) (f2 fa fb g):=by with_unfolding_all exact(yJ (zua ho ha hb') λσ H Q h=>al2 (λ_ _ _ _ z=>z) h)
theorem Yt{op:CmpOp}{g:D->D->Option R0}(ho:OpD X kd (compareOp op) g)(ha:AE X kd a fa)(hb':AE X kd b fb)(hm:behindInMarks op b=false):AE X kd (.Compare a [op] [b] pos) (f2 fa fb g):=by with_unfolding_all exact(yJ (zpw ho ha hb' hm) λσ H Q h=>al2 (λ_ _ _ _ z=>z) h)
theorem zuf{g:D->D->Option R0}(ho:IxD X kd g)(ha:AE X kd a fa)(hb':AE X kd b fb)(hm:Z1 b):AE X kd (.Subscript a b pos) (f2 fa fb g):=by with_unfolding_all exact(yJ (zdT ho ha hb' hm) λσ H Q h=>al2 (λ_ _ _ _ z=>z) h)
def fC(d:D):EF:=λas=>some (.ow (.lf true d),as)
def fV(i:Nat):EF:=λas=>match as[i]? with
 |some (some (.lf st d))=>some (.ow (.lf st d),as)
 |some (some (.nd _ _))=>some (.bo i,as)
 |_=>none
theorem zhB{v:V}{d:D}(h:PE X a (tC v))(hr:∀O H,Rp X.K kd O H v d):AE X kd a (fC d):=by with_unfolding_all exact(yJ h λσ H Q h=>by
 obtain⟨F,B,ad,as,r,as',R,e,q⟩:=h
 cases e
 exact q v [] ad H R (.lf (hr _ _)) Grow.refl)
theorem zrP{i:Nat}(h:PE X a (X8 i)):AE X kd a (fV i):=by with_unfolding_all exact(yJ h λσ H Q h=>by
 obtain⟨F,B,ad,as,r,as',R,e,q⟩:=h
 unfold fV at e
 cases k:as[i]? with
 |none=>rw[k]at e;cases e
 |some s=>
  rw[k]at e
  cases s with
  |none=>cases e
  |some o=>
   obtain⟨v,h1,h2⟩:=R.sl i _ k
   cases o with
   |lf st d=>
    cases e
    have e0:ad i=[]:=by
     generalize hfp:ad i=fp at h2
     cases h2
     rfl
    rw[e0]at h2
    exact⟨v,h1,q v [] ad H R h2 Grow.refl⟩
   |nd kk os=>
    cases e
    exact⟨_,h1,q _ [] ad H R ⟨rfl,h1⟩ Grow.refl⟩)
end
def vG(ad:Ad)(i:Nat)(x:List Addr):Ad:=λj=>if j=i then x else ad j
section
variable{K:zC}{kd:KD}{F B:Addr->Prop}{T T1 T2:List Addr}{ad ad1:Ad}{as as1:AS}{σ:St}{H H1:Hp}{v:V}{r:RV}{o:O}{i:Nat}
theorem zK{x:List Addr}:vG ad i x i=x:=if_pos rfl
theorem zP{j:Nat}{x:List Addr}(h:j≠i):vG ad i x j=ad j:=if_neg h
theorem xG:∀a,Gw T (vG ad i []) a->Gw T ad a:=λa h=>by
 rcases h with h|⟨j,h⟩
 · exact .inl h
 · by_cases e:j=i
   · subst e;rw[zK]at h;cases h
   · rw[zP e]at h;exact .inr ⟨j,h⟩
theorem Xu:∀a,Gw [] (vG ad i T) a->Gw T ad a:=λa h=>by
 rcases h with h|⟨j,h⟩
 · cases h
 · by_cases e:j=i
   · subst e;rw[zK]at h;exact .inl h
   · rw[zP e]at h;exact .inr ⟨j,h⟩
theorem zkM:∀st a,Lv F (λa=>B a\/a ∈ T) (Gw [] ad) st a->Lv F B (Gw T ad) st a:=λst a z=>by
 rcases z with(z|z|z)|z
 · exact .inl (.inl z)
 · exact .inl (.inr z)
 · exact .inr (.inl z)
 · exact .inr (Gw.drop a z)
theorem zde:∀st a,Lv F B (Gw (T1++T2) ad) st a->Lv F (λa=>B a\/a ∈ T1) (Gw T2 ad) st a:=λst a z=>by
 rcases z with(z|z)|z|z
 · exact .inl (.inl z)
 · exact .inl (.inr (.inl z))
 · rcases zzJ.mp z with z|z
   · exact .inl (.inr (.inr z))
   · exact .inr (.inl z)
 · exact .inr (.inr z)
theorem Rel.hide(R:Rel K kd F B T ad as σ H):Rel K kd F (λa=>B a\/a ∈ T) [] ad as σ H where
 len:=R.len
 out:=R.out
 nd:=R.nd
 inj:=R.inj
 tnd:=zyG
 dis:=λ_ _ _ z=>nomatch z
 ftr:=R.ftr
 btr:=λa h=>by
  rcases h with h|h
  · obtain⟨h1,h2,h3⟩:=R.btr a h
    exact⟨h1,h2,λz=>h3 (Gw.drop a z)⟩
  · exact⟨(R.gtr a (.inl h)).1,(R.gtr a (.inl h)).2,λz=>z.elim (λm=>nomatch m) λ⟨j,y⟩=>R.dis j a y h⟩
 gtr:=λa h=>R.gtr a (Gw.drop a h)
 sl:=λi s e=>(R.sl i s e).lv zkM
theorem Rel.unhide(hn:T1.Nodup)(hb:∀a ∈ T1,¬B a)(R:Rel K kd F (λa=>B a\/a ∈ T1) T2 ad as σ H):Rel K kd F B (T1++T2) ad as σ H where
 len:=R.len
 out:=R.out
 nd:=R.nd
 inj:=R.inj
 tnd:=zxC.mpr ⟨hn,R.tnd,λa m b m' e=>by subst e;exact(R.btr a (.inr m)).2.2 (.inl m')⟩
 dis:=λi a m z=>by
  rcases zzJ.mp z with z|z
  · exact(R.btr a (.inr z)).2.2 (.inr ⟨i,m⟩)
  · exact R.dis i a m z
 ftr:=R.ftr
 btr:=λa h=>by
  obtain⟨h1,h2,h3⟩:=R.btr a (.inl h)
  refine⟨h1,h2,λz=>?_⟩
  rcases z with z|z
  · rcases zzJ.mp z with z|z
    · exact hb a z h
    · exact h3 (.inl z)
  · exact h3 (.inr z)
 gtr:=λa h=>by
  rcases h with h|h
  · rcases zzJ.mp h with h|h
    · exact⟨(R.btr a (.inr h)).1,(R.btr a (.inr h)).2.1⟩
    · exact R.gtr a (.inl h)
  · exact R.gtr a (.inr h)
 sl:=λi s e=>(R.sl i s e).lv zde
theorem Rel.frz(R:Rel K kd F B T ad as σ H)(h:as[i]? = some (some o)):
 Rel K kd F B T (vG ad i []) (as.set i (some o.frz)) σ H/\∃v,σ[i]? = some (some v)/\Rp K kd (Lv F B (Gw T (vG ad i [])) o.str) H v o.toD:=by
 obtain⟨v,hv,ro⟩:=R.sl i _ h
 have rp:Rp K kd (Lv F B (Gw T (vG ad i [])) o.str) H v o.toD:=
  Ro.rp o.str (λst v d hs r=>r.less λa z=>z.elim (λy=>.inl (y.elim (λx=>.inl ⟨hs x.1,x.2⟩) .inr)) λy=>.inr (xG a y))
   (λa n z=>n (z.elim (λy=>.inl (y.elim (λx=>.inl ⟨rfl,x.2⟩) .inr)) λy=>.inr (xG a y))) id
   (λa m z=>by
    rcases z with(z|z)|z|⟨j,z⟩
    · exact(R.gtr a (.inr ⟨i,m⟩)).2 z.2
    · exact(R.btr a z).2.2 (.inr ⟨i,m⟩)
    · exact R.dis i a m z
    · by_cases e:j=i
      · subst e;rw[zK]at z;cases z
      · rw[zP e]at z;exact e (R.inj j i a z m)) ro
 have hi:i<as.length:=(zzD.mp h).1
 refine⟨⟨by rw[zzR];exact R.len,λj hj=>?_,λj=>?_,λj k a h1 h2=>?_,R.tnd,λj a h1=>?_,R.ftr,λa h1=>?_,λa h1=>R.gtr a (xG a h1),λj s e=>?_⟩,v,hv,rp⟩
 · rw[zzR]at hj
   rw[zP (by omega)];exact R.out j hj
 · by_cases e:j=i
   · subst e;rw[zK];exact zyG
   · rw[zP e];exact R.nd j
 · by_cases e:j=i
   · subst e;rw[zK]at h1;cases h1
   · by_cases e':k=i
     · subst e';rw[zK]at h2;cases h2
     · rw[zP e]at h1;rw[zP e']at h2;exact R.inj j k a h1 h2
 · by_cases e:j=i
   · subst e;rw[zK]at h1;cases h1
   · rw[zP e]at h1;exact R.dis j a h1
 · obtain⟨b1,b2,b3⟩:=R.btr a h1
   exact⟨b1,b2,λz=>b3 (xG a z)⟩
 · by_cases q:j=i
   · subst q
     rw[zyH hi]at e
     cases e
     rw[zK]
     exact⟨v,hv,.lf rp⟩
   · rw[zzV (Ne.symm q)]at e
     rw[zP q]
     exact(R.sl j s e).less xG
theorem Rel.put(R:Rel K kd F B T ad as σ H)(hi:i<as.length)(h:RoS K kd F B (Gw T ad) H v o T):Rel K kd F B [] (vG ad i T) (as.set i (some o)) (σ.set i (some v)) H:=by
 have hi':i<σ.length:=by rw[<-R.len];exact hi
 refine⟨by rw[zzR,zzR];exact R.len,λj hj=>?_,λj=>?_,λj k a h1 h2=>?_,zyG,(λ_ _ _ z=>nomatch z),R.ftr,λa h1=>?_,λa h1=>R.gtr a (Xu a h1),λj s e=>?_⟩
 · rw[zzR]at hj
   rw[zP (by omega)];exact R.out j hj
 · by_cases e:j=i
   · subst e;rw[zK];exact R.tnd
   · rw[zP e];exact R.nd j
 · by_cases e:j=i
   · subst e
     rw[zK]at h1
     by_cases e':k=j
     · exact e'.symm
     · rw[zP e']at h2
       exact(R.dis k a h2 h1).elim
   · rw[zP e]at h1
     by_cases e':k=i
     · subst e'
       rw[zK]at h2
       exact(R.dis j a h1 h2).elim
     · rw[zP e']at h2
       exact R.inj j k a h1 h2
 · obtain⟨b1,b2,b3⟩:=R.btr a h1
   exact⟨b1,b2,λz=>b3 (Xu a z)⟩
 · by_cases q:j=i
   · subst q
     rw[zyH hi]at e
     cases e
     rw[zK,zyH hi']
     exact⟨v,rfl,h.less Xu⟩
   · rw[zzV (Ne.symm q)]at e
     rw[zP q,zzV (Ne.symm q)]
     exact(R.sl j s e).less Xu
def toO(as:AS):RV->Option (O×AS)
 | .ow o=>some (o,as)
 | .bo i=>match as[i]? with
  |some (some o)=>some (o.frz,as.set i (some o.frz))
  |_=>none
theorem zfW{as':AS}(R:Rel K kd F B T ad as σ H)(h:wC K kd F B T ad σ H v r)(e:toO as r=some (o,as')):∃ad',Rel K kd F B T ad' as' σ H/\RoS K kd F B (Gw T ad') H v o T/\∀a,Gw T ad' a->Gw T ad a:=by
 cases r with
 |ow o'=>cases e;exact⟨ad,R,h,λ_ z=>z⟩
 |bo i=>
  have e:(match as[i]? with|some (some o)=>some (o.frz,as.set i (some o.frz))|_=>none)=some (o,as'):=e
  cases k:as[i]? with
  |none=>rw[k]at e;cases e
  |some s=>
   cases s with
   |none=>rw[k]at e;cases e
   |some o1=>
    rw[k]at e
    cases e
    obtain⟨hT,hs⟩:=h
    subst hT
    obtain⟨R',w,hw,rp⟩:=R.frz k
    rw[hs]at hw
    cases hw
    exact⟨_,R',.lf rp,xG⟩
end
abbrev TF:=AS->Option (Bool×AS)
def alT(K:zC)(kd:KD)(f:TF):TT:=λσ H Q=>∃F B ad as b as',Rel K kd F B [] ad as σ H/\f as=some (b,as')/\
 ∀ad' H',Rel K kd F B [] ad' as' σ H'->Grow (Gw [] ad) H (Gw [] ad') H'->Q b H'
@[irreducible] def AT(X:Cx)(kd:KD)(e:Expr)(f:TF):Prop:=PT X e (alT X.K kd f)
@[irreducible] def AW(X:Cx)(kd:KD)(e:Expr)(f:TF):Prop:=PW X e (alT X.K kd f)
def truth:D->Option Bool
 | .non=>some false
 | .bl b=>some b
 | .int i=>some (i != 0)
 | .str x=>if x.length<=sizeLine then some ((x.length:Int) != 0)else none
 | .tup ds=>some (!ds.isEmpty)
 | .lst ds=>some (!ds.isEmpty)
 |_=>none
def fT(f:EF):TF:=λas=>(f as).bind λp=>(p.1.frz.view p.2).bind λx=>(truth x.1).bind λb=>some (b,p.2)
def zcd(f g:TF):TF:=λas=>(f as).bind λp=>if p.1=true then g p.2 else some (false,p.2)
def Wl(f g:TF):TF:=λas=>(f as).bind λp=>if p.1=true then some (true,p.2)else g p.2
def wk(f:TF):TF:=λas=>(f as).bind λp=>some (!p.1,p.2)
def asI:D->Option Int
 | .int i=>some i
 |_=>none
def asS:D->Option Str
 | .str i=>some i
 |_=>none
def asL:D->Option (List D)
 | .lst i=>some i
 |_=>none
def asT:D->Option (List D)
 | .tup i=>some i
 |_=>none
theorem zfV{d:D}{i:List D}(e:asL d=some i):d = .lst i:=by
 cases d with
 |lst j=>cases e;rfl
 |_=>cases e
theorem zmL{d:D}{i:List D}(e:asT d=some i):d = .tup i:=by
 cases d with
 |tup j=>cases e;rfl
 |_=>cases e
theorem zid{d:D}{c:Int}(h:asI d=some c):d = .int c:=by
 cases d with
 |int i=>cases h;rfl
 |_=>cases h
def asB:D->Option Bool
 | .bl i=>some i
 |_=>none
theorem zrJ{d:D}{c:Bool}(h:asB d=some c):d = .bl c:=by
 cases d with
 |bl i=>cases h;rfl
 |_=>cases h
def rvD:RV->Option D
 | .ow (.lf _ d)=>some d
 |_=>none
theorem zow{r:RV}{d:D}(h:rvD r=some d):∃st,r = .ow (.lf st d):=by
 cases r with
 |bo i=>cases h
 |ow o=>
  cases o with
  |nd k os=>cases h
  |lf st d=>cases h;exact⟨st,rfl⟩
def rvB(r:RV):Option Bool:=(rvD r).bind asB
theorem zmW{r:RV}{c:Bool}(h:rvB r=some c):∃st,r = .ow (.lf st (.bl c)):=by
 obtain⟨d,h1,h⟩:=bS_ h
 cases zrJ h
 exact zow h1
def rvI(r:RV):Option Int:=(rvD r).bind asI
theorem zrG{r:RV}{c:Int}(h:rvI r=some c):∃st,r = .ow (.lf st (.int c)):=by
 obtain⟨d,h1,h⟩:=bS_ h
 cases zid h
 exact zow h1
def zrn{α:Type}:List α->Option (α×α)
 | [a,b]=>some (a,b)
 |_=>none
theorem zls{α:Type}{os:List α}{p:α×α}(h:zrn os=some p):os=[p.1,p.2]:=by
 cases os with
 |nil=>cases h
 |cons x r=>
  cases r with
  |nil=>cases h
  |cons y r=>
   cases r with
   |nil=>cases h;rfl
   |cons _ _=>cases h
def zcl(f g:EF):EF:=λas=>(f as).bind λp=>(rvB p.1).bind λc=>if c=true then g p.2 else some (.ow (.lf true (.bl false)),p.2)
def zlV(f:EF):EF:=λas=>(f as).bind λp=>(rvB p.1).bind λc=>some (.ow (.lf true (.bl (!c))),p.2)
def f1(fa:EF)(g:D->Option R0):EF:=λas=>(fa as).bind λp=>(p.1.frz.view p.2).bind λx=>(g x.1).bind λr=>(wrap x.2 r).bind λz=>some (z,p.2)
section
variable{X:Cx}{kd:KD}{a b c:Expr}{fa fb:EF}{ta tb:TF}{pos:Pos}{es rest:List Expr}
theorem zjK{e:Expr}{t t':TT}(h:PT X e t)(k:∀σ H Q,t' σ H Q->t σ H Q):PT X e t':=λpins s σ H Q I q=>h pins s σ H Q I (k σ H Q q)
theorem znM{e:Expr}{t t':TT}(h:PW X e t)(k:∀σ H Q,t' σ H Q->t σ H Q):PW X e t':=λw pins s σ H Q I q=>h w pins s σ H Q I (k σ H Q q)
theorem zsj{O:Addr->Prop}{H:Hp}{v:V}{d:D}{k:Bool}(h:Vw X.K kd O H v d)(e:truth d=some k):zrj X.K v H k:=by
 cases h with
 |non=>cases e;rfl
 |bl b=>cases e;rfl
 |int i=>cases e;rfl
 |str x=>
  have e:(if x.length<=sizeLine then some ((x.length:Int) != 0)else none)=some k:=e
  by_cases hl:x.length<=sizeLine
  · rw[if_pos hl]at e;cases e;exact⟨hl,rfl⟩
  · rw[if_neg hl]at e;cases e
 |tup r hs hr=>
  cases e
  refine .inr (.inl ⟨_,hs, ?_⟩)
  cases hr<;>rfl
 |lst hs hr=>
  cases e
  refine .inl ⟨_,hs.sq, ?_⟩
  cases hr<;>rfl
 |dct=>cases e
 |cl=>cases e
 |ob=>cases e
theorem ZQ(ha:AE X kd a fa)(he:∀whole,isTrue a X.env whole=(do let v <-whole;standAt a.pos;holding [v] (truthy v))):AT X kd a (fT fa):=by with_unfolding_all exact(zjK (zmR ha he) λσ H Q h=>by
 obtain⟨F,B,ad,as,bb,as',R,e,q⟩:=h
 obtain⟨⟨p,as1⟩,h1,e⟩:=bS_ (show(fa as).bind _=_ from e)
 obtain⟨⟨d,lv⟩,h2,e⟩:=bS_ e
 obtain⟨k,h3,e⟩:=bS_ e
 cases e
 exact vZ R h1 λv ad1 H1 R1 rv1 g1=>⟨_,zsj (wC.vw R1 rv1 h2) h3,q ad1 H1 R1 g1⟩)
theorem yN{op:CmpOp}{g:D->D->Option R0}(ho:OpD X kd (compareOp op) g)(hg:∀x y r,g x y=some r->∃k,r = .im (.bl k))(ha:AE X kd a fa)(hb:AE X kd b fb)(hm:behindInMarks op b=false):
 AT X kd (.Compare a [op] [b] pos) (fT (f2 fa fb g)):=by with_unfolding_all exact(zjK (zpS ho ha hb hm) λσ H Q h=>by
 obtain⟨F,B,ad,as,bb,as',R,e,q⟩:=h
 obtain⟨⟨p,as1⟩,h1,e⟩:=bS_ (show(f2 fa fb g as).bind _=_ from e)
 obtain⟨⟨d,lv⟩,h2,e⟩:=bS_ e
 obtain⟨k,h3,e⟩:=bS_ e
 cases e
 obtain⟨_,_,_,x,y,_,_,r0,_,_,_,_,hp,hw⟩:=zkX h1
 obtain⟨k',rfl⟩:=hg _ _ _ hp
 cases hw
 cases h2
 cases h3
 refine al2 (λ_ _ _ _ z=>z) ⟨F,B,ad,as,_,_,R,h1,λv T' ad' H' R' rv g'=>?_⟩
 generalize hT:T'=T2 at rv R' g'
 cases rv with
 |lf rp=>
  cases rp
  exact⟨_,rfl,q ad' H' R' g'⟩)
theorem Xe(ha:AT X kd a ta):AT X kd (.UnaryOp .Not a pos) (wk ta):=by with_unfolding_all exact(zjK (zrt ha) λσ H Q h=>by
 obtain⟨F,B,ad,as,bb,as',R,e,q⟩:=h
 obtain⟨⟨p,as1⟩,h1,e⟩:=bS_ (show(ta as).bind _=_ from e)
 cases e
 exact⟨F,B,ad,as,p,_,R,h1,λad' H' R' g=>q ad' H' R' g⟩)
theorem zgh(ha:AT X kd a ta):AW X kd (.BoolOp .And [a] pos) ta:=by with_unfolding_all exact(zqy ha)
theorem Zb(ha:AT X kd a ta):AW X kd (.BoolOp .Or [a] pos) ta:=by with_unfolding_all exact(zrQ ha)
theorem zmN(ha:AT X kd a ta)(hb:AW X kd (.BoolOp .And (b::rest) pos) tb):AW X kd (.BoolOp .And (a::b::rest) pos) (zcd ta tb):=by with_unfolding_all exact(znM (zsS ha hb) λσ H Q h=>by
 obtain⟨F,B,ad,as,bb,as',R,e,q⟩:=h
 obtain⟨⟨p,as1⟩,h1,e⟩:=bS_ (show(ta as).bind _=_ from e)
 refine⟨F,B,ad,as,p,as1,R,h1,λad' H' R' g=>?_⟩
 cases p with
 |true=>exact⟨F,B,ad',as1,bb,as',R',e,λad2 H2 R2 g2=>q ad2 H2 R2 (g.trans g2)⟩
 |false=>cases e;exact q ad' H' R' g)
theorem zds(ha:AT X kd a ta)(hb:AW X kd (.BoolOp .Or (b::rest) pos) tb):AW X kd (.BoolOp .Or (a::b::rest) pos) (Wl ta tb):=by with_unfolding_all exact(znM (ztR ha hb) λσ H Q h=>by
 obtain⟨F,B,ad,as,bb,as',R,e,q⟩:=h
 obtain⟨⟨p,as1⟩,h1,e⟩:=bS_ (show(ta as).bind _=_ from e)
 refine⟨F,B,ad,as,p,as1,R,h1,λad' H' R' g=>?_⟩
 cases p with
 |false=>exact⟨F,B,ad',as1,bb,as',R',e,λad2 H2 R2 g2=>q ad2 H2 R2 (g.trans g2)⟩
 |true=>cases e;exact q ad' H' R' g)
theorem AW.at_{e:Expr}(h:AW X kd e ta):AT X kd e ta:=by with_unfolding_all exact(PW.pt h)
theorem zrd{K:zC}{F B:Addr->Prop}{T:List Addr}{ad:Ad}{σ:St}{H:Hp}{v:V}{st c:Bool}(h:wC K kd F B T ad σ H v (.ow (.lf st (.bl c)))):T=[]/\v = .bl c:=by
 have h:RoS K kd F B (Gw T ad) H v (.lf st (.bl c)) T:=h
 generalize hT:Gw T ad=G at h
 cases h with
 |lf rp=>cases rp;exact⟨rfl,rfl⟩
theorem zbO{op}(ha:AE X kd a fa):AE X kd (.BoolOp op [a] pos) fa:=by with_unfolding_all exact(zsI ha)
theorem zbJ(ha:AE X kd a fa)(hb:AE X kd (.BoolOp .And (b::rest) pos) fb):AE X kd (.BoolOp .And (a::b::rest) pos) (zcl fa fb):=by with_unfolding_all exact(yJ (zsg ha hb) λσ H Q h=>by
 obtain⟨F,B,ad,as,r,as',R,e,q⟩:=h
 obtain⟨⟨p,as1⟩,h1,e⟩:=bS_ (show(fa as).bind _=_ from e)
 refine⟨F,B,ad,as,p,as1,R,h1,λv T' ad' H' R' rv g=>?_⟩
 obtain⟨k,e1,e⟩:=bS_ e
 obtain⟨st,rfl⟩:=zmW e1
 obtain⟨rfl,rfl⟩:=zrd rv
 cases k with
 |true=>exact⟨true,rfl,⟨F,B,ad',as1,r,as',R',e,λv T2 ad2 H2 R2 rv g2=>q v T2 ad2 H2 R2 rv (g.trans g2)⟩⟩
 |false=>
  cases e
  exact⟨false,rfl,q _ [] ad' H' R' (.lf (.bl false)) g⟩)
theorem zoA(ha:AE X kd a fa):AE X kd (.UnaryOp .Not a pos) (zlV fa):=by with_unfolding_all exact(yJ (zsf ha) λσ H Q h=>by
 obtain⟨F,B,ad,as,r,as',R,e,q⟩:=h
 obtain⟨⟨p,as1⟩,h1,e⟩:=bS_ (show(fa as).bind _=_ from e)
 refine⟨F,B,ad,as,p,as1,R,h1,λv T' ad' H' R' rv g=>?_⟩
 obtain⟨k,e1,e⟩:=bS_ e
 obtain⟨st,rfl⟩:=zmW e1
 obtain⟨rfl,rfl⟩:=zrd rv
 cases e
 exact⟨k,rfl,q _ [] ad' H' R' (.lf (.bl _)) g⟩)
theorem zqP{op:UnaryOp}{g:D->Option R0}(ho:UnD X kd (unaryOp op) g)(ha:AE X kd a fa):AE X kd (.UnaryOp op a pos) (f1 fa g):=by with_unfolding_all exact(yJ (ztt ho ha) λσ H Q h=>by
 obtain⟨F,B,ad,as,r,as',R,e,q⟩:=h
 obtain⟨⟨p,as1⟩,h1,e⟩:=bS_ (show(fa as).bind _=_ from e)
 obtain⟨⟨x,lv⟩,h2,e⟩:=bS_ e
 obtain⟨z,h3,e⟩:=bS_ e
 obtain⟨y,h4,e⟩:=bS_ e
 cases e
 refine vZ R h1 λv ad1 H1 R1 rv1 g1=>⟨_,x,z,R1.tr _,wC.vw R1 rv1 h2,h3,ZZ R1 h4 λw T' H' R' rv' g'=>q w T' ad1 H' R' rv' (g1.trans g')⟩)
end
abbrev AF:=AS->Option (List RV×AS)
inductive RVs(K:zC)(kd:KD)(F B:Addr->Prop)(ad:Ad)(σ:St)(H:Hp):List V->List RV->Prop
 |nil:RVs K kd F B ad σ H [] []
 |cons {v:V}{r:RV}{vs:List V}{rs:List RV}:wC K kd F B [] ad σ H v r->RVs K kd F B ad σ H vs rs->RVs K kd F B ad σ H (v::vs) (r::rs)
def alA(K:zC)(kd:KD)(f:AF):TA:=λσ H Q=>∃F B ad as rs as',Rel K kd F B [] ad as σ H/\f as=some (rs,as')/\
 ∀vs ad' H',Rel K kd F B [] ad' as' σ H'->RVs K kd F B ad' σ H' vs rs->Grow (Gw [] ad) H (Gw [] ad') H'->Q vs H'
@[irreducible] def AA(X:Cx)(kd:KD)(es:List Expr)(f:AF):Prop:=PA X es (alA X.K kd f)
def aN:AF:=λas=>some ([],as)
def aC(fa:EF)(fr:AF):AF:=λas=>(fa as).bind λp=>(fr p.2).bind λq=>some (p.1.frz::q.1,q.2)
theorem zhH{X:Cx}{e:List Expr}{t t':TA}(h:PA X e t)(k:∀σ H Q,t' σ H Q->t σ H Q):PA X e t':=λpos pins s σ H Q I q=>h pos pins s σ H Q I (k σ H Q q)
abbrev DF:=AS->Option (List O×AS)
def alD(K:zC)(kd:KD)(f:DF):TA:=λσ H Q=>∃F B ad as os as',Rel K kd F B [] ad as σ H/\f as=some (os,as')/\
 ∀vs T' ad' H',Rel K kd F B T' ad' as' σ H'->vB K kd F B (Gw T' ad') H' vs os T'->Grow (Gw [] ad) H (Gw T' ad') H'->Q vs H'
@[irreducible] def AD(X:Cx)(kd:KD)(es:List Expr)(f:DF):Prop:=PA X es (alD X.K kd f)
def dN:DF:=λas=>some ([],as)
def dC(fa:EF)(fr:DF):DF:=λas=>(fa as).bind λp=>(toO p.2 p.1).bind λx=>(fr x.2).bind λq=>some (x.1::q.1,q.2)
def views(as:AS):List RV->Option (List D×Option Bool)
 | []=>some ([],some true)
 |r::rs=>(r.view as).bind λx=>(views as rs).bind λy=>some (x.1::y.1,meet x.2 y.2)
def fP(fr:AF)(g:List D->Option R0):EF:=λas=>(fr as).bind λp=>(views p.2 p.1).bind λx=>(g x.1).bind λr=>(wrap x.2 r).bind λz=>some (z,p.2)
def zne(as:AS):RV->Option (Bool×D)
 | .ow o=>some (zL o.toD||o.str,o.toD)
 | .bo i=>match as[i]? with
  |some (some o)=>some (false,o.toD)
  |_=>none
def Yz(as:AS):List RV->Option (List (Bool×D))
 | []=>some []
 |r::rs=>(zne as r).bind λx=>(Yz as rs).bind λy=>some (x::y)
def zE(fr:AF)(g:List (Bool×D)->Option O):EF:=λas=>(fr as).bind λp=>(Yz p.2 p.1).bind λx=>(g x).bind λo=>some (.ow o,p.2)
def RQO(K:zC)(kd:KD)(F:Addr->Prop)(H:Hp)(Q:VK)(o:O):Prop:=
 ∀v T H',T.Nodup->(∀a ∈ T,H a=none)->(∀b u,H b=some u->H' b=some u)->(∀a ∈ T,H' a≠none)->Ro (λ_ v d=>Rp K kd (Un2 F (· ∈ T)) H' v d) (λa=>¬Un2 F (· ∈ T) a) H' v o T->Q v H'
inductive RpA(K:zC)(kd:KD)(F:Addr->Prop)(H:Hp):List V->List (Bool×D)->Prop
 |nil:RpA K kd F H [] []
 |cons {v:V}{st:Bool}{d:D}{vs:List V}{ds:List (Bool×D)}:Rp K kd (λa=>st=true/\F a) H v d->RpA K kd F H vs ds->RpA K kd F H (v::vs) ((st,d)::ds)
def spD(K:zC)(kd:KD)(g:List (Bool×D)->Option O):Sp:=λvs H Q _=>∃F ds o,(∀a,F a->H a≠none)/\RpA K kd F H vs ds/\g ds=some o/\RQO K kd F H Q o
def YB(os:List O):O:=if os.all O.isLf=true then .lf (O.strs os) (.tup (O.toDs os))else .nd .tp os
def wM(fr:DF):EF:=λas=>(fr as).bind λp=>if p.1.length<=sizeLine then some (.ow (YB p.1),p.2)else none
def wD(fr:DF):EF:=λas=>(fr as).bind λp=>if p.1.length<=sizeLine then some (.ow (.nd .ls p.1),p.2)else none
section
variable{X:Cx}{kd:KD}{a b c:Expr}{fa fb:EF}{ta tb:TF}{pos:Pos}{es rest:List Expr}{fr:AF}{fd:DF}
theorem RpA.length{K:zC}{F:Addr->Prop}{H:Hp}{vs:List V}{ds:List (Bool×D)}(h:RpA K kd F H vs ds):vs.length=ds.length:=by
 induction h with
 |nil=>rfl
 |cons _ _ ih=>exact congrArg (· + 1) ih
theorem zA:AA X kd [] aN:=by with_unfolding_all exact(zhH zcT λσ H Q h=>by
 obtain⟨F,B,ad,as,rs,as',R,e,q⟩:=h
 cases e
 exact q [] ad H R .nil Grow.refl)
theorem zc(ha:AE X kd a fa)(hr:AA X kd es fr)(hs:starEach (a::es) X.env=(false,eval a X.env)::starEach es X.env):AA X kd (a::es) (aC fa fr):=by with_unfolding_all exact(zhH (Vm ha hr hs) λσ H Q h=>by
 obtain⟨F,B,ad,as,rs,as',R,e,q⟩:=h
 obtain⟨⟨p,as1⟩,h1,e⟩:=bS_ (show(fa as).bind _=_ from e)
 obtain⟨⟨z,as2⟩,h2,e⟩:=bS_ e
 cases e
 refine vZ R h1 λv ad1 H1 R1 rv1 g1=>⟨F,B,ad1,as1,z,_,R1,h2,λvs ad2 H2 R2 rv2 g2=>?_⟩
 exact q _ ad2 H2 R2 (.cons (rv1.grow g2) rv2) (g1.trans g2))
theorem yd:AD X kd [] dN:=by with_unfolding_all exact(zhH zcT λσ H Q h=>by
 obtain⟨F,B,ad,as,rs,as',R,e,q⟩:=h
 cases e
 exact q [] [] ad H R .nil Grow.refl)
theorem zu(ha:AE X kd a fa)(hr:AD X kd es fd)(hs:starEach (a::es) X.env=(false,eval a X.env)::starEach es X.env):AD X kd (a::es) (dC fa fd):=by with_unfolding_all exact(zhH (Vm ha hr hs) λσ H Q h=>by
 obtain⟨F,B,ad,as,rs,as',R,e,q⟩:=h
 obtain⟨⟨p,as1⟩,h1,e⟩:=bS_ (show(fa as).bind _=_ from e)
 obtain⟨⟨o,as2⟩,h2,e⟩:=bS_ e
 obtain⟨⟨os,as3⟩,h3,e⟩:=bS_ e
 cases e
 refine⟨F,B,ad,as,p,as1,R,h1,λv T1 ad1 H1 R1 rv1 g1=>?_⟩
 obtain⟨ad2,R2,ro2,le2⟩:=zfW R1 rv1 h2
 refine⟨F,_,ad2,as2,os,_,R2.hide,h3,λvs T3 ad3 H3 R3 ro3 g3=>?_⟩
 have kT:∀a ∈ T1,∀u,H1 a=some u->H3 a=some u:=λa m u e=>g3.keep a u e λz=>z.elim (λy=>nomatch y) λ⟨i,y⟩=>R2.dis i a y m
 have r1:RoS X.K kd F B (Gw (T1++T3) ad3) H3 v o T1:=RoS.lv zde (RoS.grow g3 kT (RoS.lv zkM ro2))
 have r3:vB X.K kd F B (Gw (T1++T3) ad3) H3 vs os T3:=vB.lv zde ro3
 refine q _ (T1++T3) ad3 H3 (R3.unhide R2.tnd λa m z=>(R2.btr a z).2.2 (.inl m)) (.cons r1 r3) ((g1.trans (Grow.less le2)).trans ⟨λb u e n=>g3.keep b u e λz=>n (Gw.drop b z),λb z=>?_⟩)
 rcases z with z|z
 · rcases zzJ.mp z with z|z
   · exact .inl (.inl z)
   · exact(g3.own b (.inl z)).elim (λy=>.inl (Gw.drop b y)) .inr
 · exact(g3.own b (.inr z)).elim (λy=>.inl (Gw.drop b y)) .inr)
theorem v8{x1}(h:AD X kd es fd):AE X kd (.Tuple es x1 pos) (wM fd):=by with_unfolding_all exact(yJ (zrw h) λσ H Q h=>by
 obtain⟨F,B,ad,as,r,as',R,e,q⟩:=h
 obtain⟨⟨os,as1⟩,h1,e⟩:=bS_ (show(fd as).bind _=_ from e)
 obtain⟨hz,e⟩:=zM e
 cases e
 refine⟨F,B,ad,as,os,_,R,h1,λvs T1 ad1 H1 R1 ro1 g1=>⟨by rw[ro1.length];exact hz,λp hp=>?_⟩⟩
 have k:∀b o,H1 b=some o->upd H1 p (.tup vs) b=some o:=λb o hb=>by rw[zW (yG hb hp)];exact hb
 obtain⟨R2,g2⟩:=R1.more k
 have ro2:=vB.grow g2 (λa _ u h=>k a u h) ro1
 have np:∀st,¬Lv F B (Gw T1 ad1) st p:=λst z=>R1.trk st p z hp
 refine q _ T1 ad1 _ R2 ?_ (g1.trans g2)
 show RoS X.K kd F B (Gw T1 ad1) _ _ (YB os) T1
 unfold YB
 by_cases hl:os.all O.isLf=true
 · rw[if_pos hl]
   have:=zor ro2 hl
   subst this
   exact .lf (.tup (np _) (.inl yf) (zfP ro2 hl))
 · rw[if_neg hl]
   exact .tp (np _) yf ro2)
theorem wu(h:AD X kd es fd):AE X kd (.List es pos) (wD fd):=by with_unfolding_all exact(yJ (zrZ h) λσ H Q h=>by
 obtain⟨F,B,ad,as,r,as',R,e,q⟩:=h
 obtain⟨⟨os,as1⟩,h1,e⟩:=bS_ (show(fd as).bind _=_ from e)
 obtain⟨hz,e⟩:=zM e
 cases e
 refine⟨F,B,ad,as,os,_,R,h1,λvs T1 ad1 H1 R1 ro1 g1=>⟨by rw[ro1.length];exact hz,λp hp=>?_⟩⟩
 have k:∀b o,H1 b=some o->upd H1 p (.lst vs) b=some o:=λb o hb=>by rw[zW (yG hb hp)];exact hb
 obtain⟨R2,g2⟩:=R1.add (N:=[p]) (by simp) (λa m=>by rw[zzO.mp m];exact hp) k (λa m=>by rw[zzO.mp m,yf];simp)
 exact q _ _ ad1 _ R2 (.ls yf (vB.grow g2 (λa _ u h=>k a u h) ro1)) (g1.trans g2))
theorem VwL.less{K:zC}{O O':Addr->Prop}{H:Hp}(g:∀a,O' a->O a){vs:List V}{ds:List D}(h:VwL K kd O H vs ds):VwL K kd O' H vs ds:=by
 induction h with
 |nil=>exact .nil
 |cons h _ ih=>exact .cons (h.less g) ih
theorem W6{K:zC}{F B:Addr->Prop}{ad:Ad}{as:AS}{σ:St}{H:Hp}(R:Rel K kd F B [] ad as σ H){vs:List V}{rs:List RV}{ds:List D}{lv:Option Bool}(h:RVs K kd F B ad σ H vs rs)(e:views as rs=some (ds,lv)):VwL K kd (Obl F B (Gw [] ad) lv) H vs ds:=by
 induction h generalizing ds lv with
 |nil=>cases e;exact .nil
 |cons h t ih=>
  obtain⟨⟨d,l⟩,h1,e⟩:=bS_ (show(RV.view as _).bind _=_ from e)
  obtain⟨⟨ds,l2⟩,h2,e⟩:=bS_ e
  cases e
  exact .cons ((wC.vw R h h1).less Obl.meet1) ((ih h2).less Obl.meet2)
theorem alP{g:List D->Option R0}{σ:St}{H:Hp}{Q:VK}{R':List V->Hp->VK->Prop}(hr:∀vs H Q,(∃O ds r,(∀a,O a->H a≠none)/\VwL X.K kd O H vs ds/\g ds=some r/\RQ X.K kd O H Q r)->R' vs H Q)
 (h:al X.K kd (fP fr g) σ H Q):alA X.K kd fr σ H λvs H1=>R' vs H1 Q:=by
 obtain⟨F,B,ad,as,r,as',R,e,q⟩:=h
 obtain⟨⟨p,as1⟩,h1,e⟩:=bS_ (show(fr as).bind _=_ from e)
 obtain⟨⟨ds,lv⟩,h2,e⟩:=bS_ e
 obtain⟨z,h3,e⟩:=bS_ e
 obtain⟨y,h4,e⟩:=bS_ e
 cases e
 exact⟨F,B,ad,as,p,_,R,h1,λvs ad1 H1 R1 rv1 g1=>hr _ _ _ ⟨_,ds,z,R1.tr _,W6 R1 rv1 h2,h3,ZZ R1 h4 λw T' H' R' rv' g'=>q w T' ad1 H' R' rv' (g1.trans g')⟩⟩
theorem zij{K:zC}{F B:Addr->Prop}{ad:Ad}{as:AS}{σ:St}{H:Hp}(R:Rel K kd F B [] ad as σ H){vs:List V}{rs:List RV}{ds:List (Bool×D)}(h:RVs K kd F B ad σ H vs rs)(e:Yz as rs=some ds):RpA K kd (Lv F B (Gw [] ad) true) H vs ds:=by
 induction h generalizing ds with
 |nil=>cases e;exact .nil
 |cons h t ih=>
  rename_i v r vs rs
  obtain⟨⟨st,d⟩,h1,e⟩:=bS_ (show(zne as r).bind _=_ from e)
  obtain⟨ds,h2,e⟩:=bS_ e
  cases e
  refine .cons ?_ (ih h2)
  cases r with
  |ow o=>
   cases h1
   cases hf:zL o.toD with
   |true=>exact(zhT h).flat hf
   |false=>
    refine(zhU h).less λa z=>?_
    have zs:o.str=true:=z.1
    rw[zs]
    exact z.2
  |bo i=>
   have e:(match as[i]? with|some (some o)=>some (false,o.toD)|_=>none)=some (st,d):=h1
   cases k:as[i]? with
   |none=>rw[k]at e;cases e
   |some s=>
    cases s with
    |none=>rw[k]at e;cases e
    |some o=>
     rw[k]at e
     cases e
     obtain⟨w,hw,ro⟩:=R.sl i _ k
     rw[h.2]at hw
     cases hw
     exact(zhT ro).less λa z=>nomatch z.1
theorem zkx{K:zC}{F B:Addr->Prop}{ad:Ad}{as:AS}{σ:St}{H:Hp}{Q:VK}{o:O}(R:Rel K kd F B [] ad as σ H)(q:∀v T' H',Rel K kd F B T' ad as σ H'->wC K kd F B T' ad σ H' v (.ow o)->Grow (Gw [] ad) H (Gw T' ad) H'->Q v H'):
 RQO K kd (Lv F B (Gw [] ad) true) H Q o:=λv T H' hn hl k h1 ro=>by
 obtain⟨R',g⟩:=R.news hn hl k h1
 have le:∀st a,Lv F B (Gw T ad) st a->Un2 (Lv F B (Gw [] ad) true) (· ∈ T) a:=λst a z=>by
  rcases z with(z|z)|z|z
  · exact .inl (.inl (.inl ⟨rfl,z.2⟩))
  · exact .inl (.inl (.inr z))
  · exact .inr z
  · exact .inl (.inr (.inr z))
 exact q v T H' R' (Ro.mono (λst v d r=>r.less (le st)) (λa vs n e=>⟨λz=>n (le true a z),e⟩) (λ_ _ _ e=>e) ro) g
theorem zrR{g:List (Bool×D)->Option O}{σ:St}{H:Hp}{Q:VK}{E:XK}(h:al X.K kd (zE fr g) σ H Q):zrc (spD X.K kd g) [] E (alA X.K kd fr) σ H Q:=by
 obtain⟨F,B,ad,as,r,as',R,e,q⟩:=h
 obtain⟨⟨p,as1⟩,h1,e⟩:=bS_ (show(fr as).bind _=_ from e)
 obtain⟨ds,h2,e⟩:=bS_ e
 obtain⟨o,h3,e⟩:=bS_ e
 cases e
 refine⟨F,B,ad,as,p,_,R,h1,λvs ad1 H1 R1 rv1 g1=>?_⟩
 show spD X.K kd g (vs++[]) H1 Q E
 rw[zyB]
 exact⟨_,ds,o,R1.trk true,zij R1 rv1 h2,h3,zkx R1 λw T' H' R' rv' g'=>q w T' ad1 H' R' rv' (g1.trans g')⟩
end
inductive Out where
 |nx (as:AS)|rt (o:O)|bk (as:AS)|ct (as:AS)
abbrev SF:=AS->Option Out
structure RetOk(K:zC)(kd:KD)(F:Addr->Prop)(T:List Addr)(H:Hp)(v:V)(o:O):Prop where
 nd:T.Nodup
 tr:∀a ∈ T,H a≠none
 ro:Ro (λ_ v d=>Rp K kd (Un2 F (· ∈ T)) H v d) (λa=>¬Un2 F (· ∈ T) a) H v o T
def zgQ(K:zC)(kd:KD)(F B:Addr->Prop)(ad:Ad)(H:Hp)(D:Ends):Out->Prop
 | .nx as'=>∀σ' ad' H',Rel K kd F B [] ad' as' σ' H'->Grow (Gw [] ad) H (Gw [] ad') H'->D.nx σ' H'
 | .bk as'=>∀σ' ad' H',Rel K kd F B [] ad' as' σ' H'->Grow (Gw [] ad) H (Gw [] ad') H'->D.bk σ' H'
 | .ct as'=>∀σ' ad' H',Rel K kd F B [] ad' as' σ' H'->Grow (Gw [] ad) H (Gw [] ad') H'->D.ct σ' H'
 | .rt o=>∀v T H',RetOk K kd F T H' v o->Grow (Gw [] ad) H (· ∈ T) H'->D.rt v H'
def be(K:zC)(kd:KD)(f:SF):TS:=λD σ H=>∃F B ad as o,Rel K kd F B [] ad as σ H/\f as=some o/\zgQ K kd F B ad H D o
@[irreducible] def ASt(X:Cx)(kd:KD)(st:Stmt)(f:SF):Prop:=PS X st (be X.K kd f)
@[irreducible] def ASs(X:Cx)(kd:KD)(st:List Stmt)(f:SF):Prop:=PSs X st (be X.K kd f)
theorem Yr{X:Cx}{e:Stmt}{t t':TS}(h:PS X e t)(k:∀D σ H,t' D σ H->t D σ H):PS X e t':=λpins s σ H D I q=>h pins s σ H D I (k D σ H q)
theorem zci{X:Cx}{e:List Stmt}{t t':TS}(h:PSs X e t)(k:∀D σ H,t' D σ H->t D σ H):PSs X e t':=λpins s σ H D I q=>h pins s σ H D I (k D σ H q)
theorem zgQ.pre{K:zC}{kd:KD}{F B:Addr->Prop}{ad ad1:Ad}{H H1:Hp}{D:Ends}{o:Out}(g:Grow (Gw [] ad) H (Gw [] ad1) H1)(h:zgQ K kd F B ad H D o):zgQ K kd F B ad1 H1 D o:=by
 cases o with
 |nx as=>exact λσ' ad' H' R g'=>h σ' ad' H' R (g.trans g')
 |bk as=>exact λσ' ad' H' R g'=>h σ' ad' H' R (g.trans g')
 |ct as=>exact λσ' ad' H' R g'=>h σ' ad' H' R (g.trans g')
 |rt r=>exact λv T H' R g'=>h v T H' R (g.trans g')
def sNx:SF:=λas=>some (.nx as)
def zB(f g:SF):SF:=λas=>(f as).bind λo=>match o with | .nx as'=>g as'|o=>some o
def sIf(c:TF)(f g:SF):SF:=λas=>(c as).bind λp=>if p.1=true then f p.2 else g p.2
def vI(f:EF):SF:=λas=>(f as).bind λp=>some (.nx p.2)
def zmA(as:AS):RV->Option O
 | .ow o=>if o.str=true then some o else none
 | .bo i=>match as[i]? with
  |some (some o)=>if o.str=true then some o else none
  |_=>none
def ym(f:EF):SF:=λas=>(f as).bind λp=>(zmA p.2 p.1).bind λo=>some (.rt o)
def zH(z:Bool)(i:Nat)(f:EF):SF:=λas=>(f as).bind λp=>(toO p.2 (if z=true then p.1.frz else p.1)).bind λx=>if i<x.2.length then some (.nx (x.2.set i (some x.1)))else none
theorem Ro.strong{L:Bool->V->D->Prop}{N:Addr->Prop}{H:Hp}{v:V}{o:O}{fp:List Addr}(h:Ro L N H v o fp)(e:o.str=true):Ro (λst v d=>st=true/\L st v d) N H v o fp:=
 Ro.rec (motive_1:=λv o fp _=>o.str=true->Ro (λst v d=>st=true/\L st v d) N H v o fp) (motive_2:=λvs os fp _=>O.strs os=true->RoL (λst v d=>st=true/\L st v d) N H vs os fp)
  (λh e=>.lf ⟨e,h⟩) (λh _ r e=>.ls h (r e)) (λh l _ r e=>.dc h l (r e)) (λc h l _ r e=>.ob ⟨rfl,c⟩ h l (r e)) (λn h _ r e=>.tp n h (r e)) (λ_=>.nil) (λ_ _ h r e=>.cons (h ((zzZ _ _).mp e).1) (r ((zzZ _ _).mp e).2)) h e
section
variable{K:zC}{kd:KD}{F B:Addr->Prop}{T:List Addr}{ad ad1:Ad}{as as1:AS}{σ:St}{H H1:Hp}{v:V}{r:RV}{o:O}
theorem zhq{T':List Addr}(R:Rel K kd F B T ad as σ H)(hn:T'.Nodup)(hs:∀a ∈ T',Gw T ad a)(h:RoS K kd F B (Gw T ad) H v o T')(e:o.str=true):RetOk K kd F T' H v o:=by
 have le:∀a,Un2 F (· ∈ T') a->Lv F B (Gw T ad) true a:=λa z=>z.elim (λy=>.inl (.inl ⟨rfl,y⟩)) λy=>.inr (hs a y)
 exact⟨hn,λa m=>(R.gtr a (hs a m)).1,Ro.mono (λst v d r=>by obtain⟨rfl,r⟩:=r;exact r.less le) (λa vs n e=>⟨λz=>n (le a z),e⟩) (λ_ _ _ e=>e) (Ro.strong h e)⟩
theorem Rel.ret(R:Rel K kd F B T ad as σ H)(hr:wC K kd F B T ad σ H v r)(e:zmA as r=some o):∃T',RetOk K kd F T' H v o/\∀b ∈ T',Gw T ad b:=by
 cases r with
 |ow o'=>
  obtain⟨hs,rfl⟩:=zM e
  exact⟨T,zhq R R.tnd (λa m=>.inl m) hr hs,λa m=>.inl m⟩
 |bo i=>
  have e:(match as[i]? with|some (some o)=>if o.str=true then some o else none|_=>none)=some o:=e
  cases k:as[i]? with
  |none=>rw[k]at e;cases e
  |some s=>
   cases s with
   |none=>rw[k]at e;cases e
   |some o1=>
    rw[k]at e
    obtain⟨hs,rfl⟩:=zM e
    obtain⟨w,hw,ro⟩:=R.sl i _ k
    rw[hr.2]at hw
    cases hw
    exact⟨ad i,zhq R (R.nd i) (λa m=>.inr ⟨i,m⟩) ro hs,λa m=>.inr ⟨i,m⟩⟩
end
section
variable{X:Cx}{kd:KD}{st:Stmt}{sts rest:List Stmt}{a b c e:Expr}{fa fb:EF}{ta:TF}{pos:Pos}{f g:SF}
theorem yD:ASs X kd [] sNx:=by with_unfolding_all exact(zci zpy λD σ H h=>by
 obtain⟨F,B,ad,as,o,R,e,q⟩:=h
 cases e
 exact q σ ad H R Grow.refl)
theorem zg(h1:ASt X kd st f)(h2:ASs X kd rest g):ASs X kd (st::rest) (zB f g):=by with_unfolding_all exact(zci (YT h1 h2) λD σ H h=>by
 obtain⟨F,B,ad,as,o,R,e,q⟩:=h
 obtain⟨o1,e1,e⟩:=bS_ (show(f as).bind _=_ from e)
 refine⟨F,B,ad,as,o1,R,e1, ?_⟩
 cases o1 with
 |nx as1=>exact λσ' ad' H' R' g'=>⟨F,B,ad',as1,o,R',e,q.pre g'⟩
 |bk as1=>cases e;exact q
 |ct as1=>cases e;exact q
 |rt r=>cases e;exact q)
theorem zq(h1:ASt X kd st f):ASs X kd [st] f:=by with_unfolding_all exact(zcf h1)
def sNo:SF:=λ_=>none
theorem zuc:ASt X kd st sNo:=by with_unfolding_all exact(λpins s σ H D I h=>by obtain⟨F,B,ad,as,o,R,e,q⟩:=h;cases e)
theorem xQ(hc:AT X kd c ta)(ha:ASs X kd sts f)(hb:ASs X kd rest g):ASt X kd (.If c sts rest pos) (sIf ta f g):=by with_unfolding_all exact(Yr (ztW hc ha hb) λD σ H h=>by
 obtain⟨F,B,ad,as,o,R,e,q⟩:=h
 obtain⟨⟨p,as1⟩,h1,e⟩:=bS_ (show(ta as).bind _=_ from e)
 refine⟨F,B,ad,as,p,as1,R,h1,λad' H' R' g=>?_⟩
 cases p with
 |true=>exact⟨F,B,ad',as1,o,R',e,q.pre g⟩
 |false=>exact⟨F,B,ad',as1,o,R',e,q.pre g⟩)
theorem WR(he:AE X kd e fa)(hs:swapsWith e none pos.line X.env=pure false):ASt X kd (.Expr e pos) (vI fa):=by with_unfolding_all exact(Yr (Wz he hs) λD σ H h=>by
 obtain⟨F,B,ad,as,o,R,e,q⟩:=h
 obtain⟨⟨p,as1⟩,h1,e⟩:=bS_ (show(fa as).bind _=_ from e)
 cases e
 exact⟨F,B,ad,as,p,as1,R,h1,λv T' ad' H' R' rv g=>q σ ad' H' R'.drop (g.trans (Grow.less Gw.drop))⟩)
theorem zN(he:AE X kd e fa):ASt X kd (.Return (some e) pos) (ym fa):=by with_unfolding_all exact(Yr (zrF he) λD σ H h=>by
 obtain⟨F,B,ad,as,o,R,e,q⟩:=h
 obtain⟨⟨p,as1⟩,h1,e⟩:=bS_ (show(fa as).bind _=_ from e)
 obtain⟨r,h2,e⟩:=bS_ e
 cases e
 refine⟨F,B,ad,as,p,as1,R,h1,λv T' ad' H' R' rv g=>?_⟩
 obtain⟨T2,ro,le⟩:=R'.ret rv h2
 exact q v T2 H' ro (g.trans (Grow.less le)))
theorem znH{K:zC}{F B:Addr->Prop}{T:List Addr}{ad:Ad}{as as2:AS}{σ:St}{H:Hp}{v:V}{r:RV}{z:Bool}{o:O}{i:Nat}(R:Rel K kd F B T ad as σ H)(rv:wC K kd F B T ad σ H v r)
 (h2:toO as (if z=true then r.frz else r)=some (o,as2)) (hl:i<as2.length):∃ad',Rel K kd F B [] ad' (as2.set i (some o)) (σ.set i (some v)) H/\∀a,Gw [] ad' a->Gw T ad a:=by
 cases z with
 |true=>
  obtain⟨ad1,R1,ro,le⟩:=zfW R.drop (wC.drop R rv) h2
  exact⟨_,R1.put hl ro,λa y=>Gw.drop a (le a (Xu a y))⟩
 |false=>
  obtain⟨ad1,R1,ro,le⟩:=zfW R rv h2
  exact⟨_,R1.put hl ro,λa y=>le a (Xu a y)⟩
theorem zsJ{z:Bool}{i:Nat}{x:Str}{pos':Pos}(hN:X.N.Nodup)(hi:X.N[i]? = some x)(hx:Loc X.env.scope x)(he:AE X kd e fa)(hs:swapsWith e (some (.Name x pos')) pos.line X.env=pure false)(hf:X.fn x=true\/X.env.scope.names.lookup x=some .local):
 ASt X kd (.Assign [.Name x pos'] e pos) (zH z i fa):=by with_unfolding_all exact(Yr (zrE hN hi hx he hs hf) λD σ H h=>by
 obtain⟨F,B,ad,as,o,R,e,q⟩:=h
 obtain⟨⟨p,as1⟩,h1,e⟩:=bS_ (show(fa as).bind _=_ from e)
 obtain⟨⟨y,as2⟩,h2,e⟩:=bS_ e
 obtain⟨hl,e⟩:=zM e
 cases e
 refine⟨F,B,ad,as,p,as1,R,h1,λv T' ad' H' R' rv g=>?_⟩
 obtain⟨ad2,R2,le⟩:=znH R' rv h2 hl
 exact q _ ad2 H' R2 (g.trans (Grow.less le)))
end
def ZM(n:Nat)(ds:List (Bool×D)):AS:=ds.map (λx=>some (.lf x.1 x.2))++List.replicate (n-ds.length) none
def zuE:Out->Option O
 | .nx _=>some (.lf true .non)
 | .rt o=>some o
 |_=>none
def fnR(n m:Nat)(f:SF)(ds:List (Bool×D)):Option O:=if ds.length=m then(f (ZM n ds)).bind zuE else none
theorem RpA.get{K:zC}{kd:KD}{F:Addr->Prop}{H:Hp}:∀{vs:List V}{ds:List (Bool×D)}{i:Nat}{x:Bool×D},RpA K kd F H vs ds->ds[i]? = some x->∃v,vs[i]? = some v/\Rp K kd (λa=>x.1=true/\F a) H v x.2
 |_,_,_,_,.nil,e=>by simp at e
 |_,_,0,_,.cons h _,e=>by simp at e;subst e;exact⟨_,rfl,h⟩
 |_,_,i+1,_,.cons _ r,e=>by
  obtain⟨v,h1,h2⟩:=RpA.get (i:=i) r (by simpa using e)
  exact⟨v,by simpa using h1,h2⟩
theorem zmh{K:zC}{kd:KD}{F:Addr->Prop}{H:Hp}{N:List Str}{vs:List V}{ds:List (Bool×D)}(ht:∀a,F a->H a≠none)(rp:RpA K kd F H vs ds):
 Rel K kd F (λ_=>False) [] (λ_=>[]) (ZM N.length ds) (L2.start N vs) H:=by
 have hl:=rp.length
 have no:∀a,¬Gw [] (λ_=>[]) a:=λa z=>z.elim (λy=>nomatch y) λ⟨_,y⟩=>nomatch y
 refine⟨by unfold ZM L2.start;simp[hl],λ_ _=>rfl,λ_=>zyG,(λ_ _ _ z=>nomatch z),zyG,(λ_ _ _ z=>nomatch z),ht,(λ_ z=>z.elim),λa z=>(no a z).elim,λi s e=>?_⟩
 unfold ZM at e
 unfold L2.start
 by_cases hi:i<ds.length
 · rw[zyM (by rw[zD];exact hi),zzF]at e
   obtain⟨d,hd,ea⟩:=zzU.mp e
   subst ea
   obtain⟨v,hv,rv⟩:=rp.get hd
   rw[zyM (by rw[zD,hl];exact hi),zzF,hv]
   refine⟨v,rfl,.lf (rv.less λa z=>?_)⟩
   rcases z with(z|z)|z
   · exact z
   · exact z.elim
   · exact(no a z).elim
 · rw[zyO (by rw[zD];omega)]at e
   have:=zzX e
   have ea:s=none:=(List.mem_replicate.mp this).2
   subst ea
   rfl
section
variable{P:Program}{w:World}{K:zC}{mg:Str->Option Value}{base:Heap}
theorem znE{kd:KD}{F:Addr->Prop}{H H':Hp}{Q:VK}{o:O}{v:V}{T:List Addr}(q:RQO K kd F H Q o)(ro:RetOk K kd F T H' v o)(g:Grow (Gw [] λ_=>[]) H (· ∈ T) H'):Q v H':=by
 have no:∀a,¬Gw [] (λ_=>[]) a:=λa z=>z.elim (λy=>nomatch y) λ⟨_,y⟩=>nomatch y
 exact q v T H' ro.nd (λa m=>(g.own a m).resolve_left (no a)) (λb u h=>g.keep b u h (no b)) ro.tr ro.ro
theorem yQ{kd:KD}{x qual:Str}{st:Stmt}{f:Addr}{fd:FuncData}{N ps:List Str}{k:Nat}{c:SF}(Fn:Fun K x qual st f fd)(S:FnScope N ps (zx st))
 (hb:∀(cdv:Value) (A:Around) (outer:List Env) (s:Shared) (H:Hp) (E:XK),Room k (A.deeper (envOfC qual (zx st) s.heap.objs.size f cdv))->ASs (zix CX0 P w K mg base N qual (zx st) f cdv A outer s H E).nox kd (zaZ st) c):
 FnOk P w K mg base CX0 (k+1) f fd ps (spD K kd (fnR N.length ps.length c)):=by
 with_unfolding_all (
 refine Fn.ok S (λvs H Q E h=>?_) (λcdv A outer s H vs Q E hr h=>⟨_,hb cdv A outer s H E hr, ?_⟩)
 · obtain⟨F,ds,r,_,rp,e,_⟩:=h
   unfold fnR at e
   by_cases hl:ds.length=ps.length
   · rw[rp.length,hl]
   · rw[if_neg hl]at e;cases e
 · obtain⟨F,ds,r,ht,rp,e,q⟩:=h
   unfold fnR at e
   by_cases hl:ds.length=ps.length
   · rw[if_pos hl]at e
     obtain⟨o,e1,e⟩:=bS_ e
     refine⟨F,λ_=>False,λ_=>[],ZM N.length ds,o,zmh ht rp,e1, ?_⟩
     cases o with
     |nx as=>cases e;exact λσ' ad' H' R g=>znE q (T:=[]) ⟨zyG,(λ_ m=>nomatch m),.lf .non⟩ (g.trans (Grow.less (λ_ z=>nomatch z)))
     |rt o=>cases e;exact λv T H' ro g=>znE q ro g
     |bk=>cases e
     |ct=>cases e
   · rw[if_neg hl]at e;cases e)
end
abbrev It1:=Bool×D
abbrev GF:=It1->AS->Option AS
abbrev GFs:=List It1->AS->Option AS
def kids(st:Bool)(ds:List D):List It1:=ds.map λd=>(zL d||st,d)
inductive RpI(K:zC)(kd:KD)(F B G:Addr->Prop)(H:Hp):List V->List It1->Prop
 |nil:RpI K kd F B G H [] []
 |cons {v:V}{x:It1}{vs:List V}{ds:List It1}:Rp K kd (Lv F B G x.1) H v x.2->RpI K kd F B G H vs ds->RpI K kd F B G H (v::vs) (x::ds)
def alG(K:zC)(kd:KD)(S:List Nat)(g:GF):TG:=λv σ H Q=>∃F B ad as x as',Rel K kd F B [] ad as σ H/\Rp K kd (Lv F B (Gw [] ad) x.1) H v x.2/\g x as=some as'/\
 ∀σ' ad' H',Rel K kd F B [] ad' as' σ' H'->Grow (Gw [] ad) H (Gw [] ad') H'->(∀j,j ∉ S->σ'[j]? = σ[j]?)->Q σ' H'
def zuM(K:zC)(kd:KD)(S:List Nat)(g:GFs):TGs:=λvs σ H Q=>∃F B ad as ds as',Rel K kd F B [] ad as σ H/\RpI K kd F B (Gw [] ad) H vs ds/\g ds as=some as'/\
 ∀σ' ad' H',Rel K kd F B [] ad' as' σ' H'->Grow (Gw [] ad) H (Gw [] ad') H'->(∀j,j ∉ S->σ'[j]? = σ[j]?)->Q σ' H'
@[irreducible] def AG(X:Cx)(kd:KD)(tg:Expr)(S:List Nat)(g:GF):Prop:=PG X tg (alG X.K kd S g)
@[irreducible] def AGs(X:Cx)(kd:KD)(tg:List Expr)(S:List Nat)(g:GFs):Prop:=PGs X tg (zuM X.K kd S g)
theorem zrv{X:Cx}{e:Expr}{t t':TG}(h:PG X e t)(k:∀v σ H Q,t' v σ H Q->t v σ H Q):PG X e t':=λpins s σ H v u Q I r q=>h pins s σ H v u Q I r (k v σ H Q q)
theorem zln{X:Cx}{e:List Expr}{t t':TGs}(h:PGs X e t)(k:∀v σ H Q,t' v σ H Q->t v σ H Q):PGs X e t':=λpins s σ H v u Q I r q=>h pins s σ H v u Q I r (k v σ H Q q)
def gN(i:Nat):GF:=λx as=>if i<as.length then some (as.set i (some (.lf x.1 x.2)))else none
def gsN:GFs:=λds as=>match ds with | []=>some as|_::_=>none
def gsC(g:GF)(gs:GFs):GFs:=λds as=>match ds with | []=>none|d::r=>(g d as).bind λas1=>gs r as1
def gT(n:Nat)(gs:GFs):GF:=λx as=>match x.2 with
 | .tup ds=>if ds.length=n then gs (kids x.1 ds) as else none
 | .lst ds=>if ds.length=n then gs (kids x.1 ds) as else none
 |_=>none
section
variable{K:zC}{kd:KD}{F B G G':Addr->Prop}{H H':Hp}
theorem RpI.length{vs:List V}{ds:List It1}(h:RpI K kd F B G H vs ds):vs.length=ds.length:=by
 induction h with
 |nil=>rfl
 |cons _ _ ih=>exact congrArg (· + 1) ih
theorem RpI.grow(g:Grow G H G' H'){vs:List V}{ds:List It1}(h:RpI K kd F B G H vs ds):RpI K kd F B G' H' vs ds:=by
 induction h with
 |nil=>exact .nil
 |cons h _ ih=>exact .cons (Rp.grow g h) ih
theorem RpI.get{vs:List V}{ds:List It1}{i:Nat}{x:It1}(h:RpI K kd F B G H vs ds)(e:ds[i]? = some x):∃v,vs[i]? = some v/\Rp K kd (Lv F B G x.1) H v x.2:=by
 induction h generalizing i with
 |nil=>simp at e
 |cons h r ih=>
  cases i with
  |zero=>simp at e;subst e;exact⟨_,rfl,h⟩
  |succ i=>
   obtain⟨v,h1,h2⟩:=ih (i:=i) (by simpa using e)
   exact⟨v,by simpa using h1,h2⟩
theorem zba{st:Bool}{vs:List V}{ds:List D}(h:RpL K kd (Lv F B G st) H vs ds):RpI K kd F B G H vs (kids st ds):=
 RpL.ind (P:=λvs ds=>RpI K kd F B G H vs (kids st ds)) .nil (λ{v d vs ds} h _ ih=>by
  refine .cons (x:=(zL d||st,d)) ?_ ih
  cases e:zL d with
  |true=>exact h.flat e
  |false=>exact h) h
end
section
variable{prog:Program}{w:World}{A:Around}{E:Value->Shared->Prop}{s:Shared}
theorem zgT{it l:Addr}{items:Array Value}(hne:l≠it):∀(n i:Nat) (s:Shared) (Q:List Value->Shared->Prop),s.heap.IsListIter it l i->s.heap.IsList l items->i+n<=items.size->
 (∀h',h'.IsListIter it l (i+n)->Heap.SameBut it s.heap h'->Q ((items.toList.drop i).take n) {s with heap:=h'})->wpAny (model prog w) A (draw (.ref it) n) Q E s
 |0,i,s,Q,hit,_,_,hQ=>by
  show wpAny _ _ (pure []) Q E s
  exact zxE (by simpa using hQ s.heap hit (Heap.SameBut.refl ..))
 |n+1,i,s,Q,hit,ht,hle,hQ=>by
  have hlt:i<items.size:=by omega
  show wpAny _ _ (pyNext (.ref it) >>= _) Q E s
  refine zxD (wpAny_pyNext_list_item hit ht (x:=items[i]) (by simp[hlt]) λh₁ hit₁ hs₁=>?_)
  refine zxD (zxK (zgT hne n (i+1) _ _ hit₁ (ht.extBut hs₁.extBut hne) (by omega) λh₂ hit₂ hs₂=>zxE ?_))
  have hd:items.toList.drop i=items[i]::items.toList.drop (i+1):=by simp[zyN,hlt]
  have:=hQ h₂ (by rw[show i+(n+1)=i+1+n by omega];exact hit₂) (hs₁.trans hs₂)
  rw[hd,List.take_succ_cons]at this
  exact this
theorem ziD{l:Addr}{items:Array Value}{targets:List (Bool×(Value->Sem Unit))}{Q:Unit->Shared->Prop}(hh:A.handled=none)(ht:s.heap.IsList l items)
 (hn:targets.length=items.size) (hstar:targets.findIdx? (·.1)=none)
 (h:∀h',Heap.ExtBut s.heap.objs.size s.heap h'->wpAny (model prog w) A (assignInOrder (targets.map (·.2)) items.toList) Q E {s with heap:=h'}):
 wpAny (model prog w) A (unpack (.ref l) targets) Q E s:=by
 unfold unpack
 rw[hn,hstar]
 refine zxD (zxK ?_)
 have hlt:l≠s.heap.objs.size:=by obtain⟨o,ho,_⟩:=ht;exact zzN (zxG ho)
 unfold unpackItems
 refine zxD ?_
 unfold notIterableAtAll
 refine zxD (wpAny_specialOf ht.typeIs PySem.F.slot_list_iter.lookup ?_)
 refine zxE ?_
 simp only[Bool.false_eq_true,if_false]
 refine zxD (zxK (wpAny_pyIter_list ht ?_))
 refine zxD (zxK (zgT hlt items.size 0 _ _ ⟨_,zxH _ rfl,rfl,rfl⟩ (ht.push _) (by omega) λh₁ hit₁ hs₁=>?_))
 have hall:List.take items.size (List.drop 0 items.toList)=items.toList:=by
  rw[List.drop_zero];exact List.take_of_length_le (by simp)
 rw[hall]
 rw[if_neg (by simp)]
 have ht₁:h₁.IsList l items:=(ht.push _).extBut hs₁.extBut hlt
 refine zxD (zxK (wpAny_pyNext_list_end hh hit₁ ht₁ (by simp) λh₂ he₂=>?_))
 simp only[Option.isSome_none,Bool.false_eq_true,if_false]
 exact zxE (h h₂ λb o hb e=>he₂ b o hb (hs₁.extBut b o hb (zxF _ e)))
end
section
variable{X:Cx}{kd:KD}{a b c e tg iter:Expr}{es:List Expr}{body:List Stmt}{fa fb:EF}{pos:Pos}{g:GF}{gs:GFs}{f:SF}{ta:TF}{S S1 S2:List Nat}
def zuA(K:zC)(n:Nat)(t:TGs):TG:=λv σ H Q=>∃a xs,v = .ref a/\SqL K H a xs/\xs.length=n/\t xs σ H Q
theorem znc{es:List Expr}{k:Nat}{t:TGs}{n:Nat}(hc:X.calm=true)(h:PGs X es t)(hn:(assignEach es X.env).length=n)(hst:(assignEach es X.env).findIdx? (·.1)=none):PG X (.Tuple es k pos) (zuA X.K n t):=by
 intro pins s σ H v u Q I r hw
 obtain⟨a,xs,e1,hq,hl,hw⟩:=hw
 subst e1
 cases r
 obtain⟨its,rv,ht,hz⟩:=I.list hq
 rw[assign_Tuple]
 refine zxD (wpAny_standAt (ziD (I.ok.hd hc) ht.isList (by simp[hn,<-hl,rv.length]) hst λh' hx=>?_))
 have I1:Inv X pins σ H {s with heap:=h'}:=I.kept (t':=s.toks) λb o e=>hx b o (zzN (zxG e)) e
 exact h pins _ σ H xs _ Q I1 (by simpa using rv) hw
theorem zpn{i:Nat}{x:Str}(hN:X.N.Nodup)(hi:X.N[i]? = some x)(hx:Loc X.env.scope x)(hf:X.fn x=true\/X.env.scope.names.lookup x=some .local):AG X kd (.Name x pos) [i] (gN i):=by with_unfolding_all exact(zrv (zbb hN hi hx hf) λv σ H Q h=>by
 obtain⟨F,B,ad,as,y,as',R,rp,e,q⟩:=h
 obtain⟨hl,e⟩:=zM e
 cases e
 exact q _ _ H (R.put hl (o:=.lf y.1 y.2) (.lf rp)) (Grow.less Xu) λj hj=>zzV (λz=>hj (by rw[z];simp)))
theorem vo:AGs X kd [] [] gsN:=by with_unfolding_all exact(zln zio λvs σ H Q h=>by
 obtain⟨F,B,ad,as,ds,as',R,rp,e,q⟩:=h
 cases rp with
 |nil=>cases e;exact⟨rfl,q σ ad H R Grow.refl λ_ _=>rfl⟩
 |cons=>cases e)
theorem zJ(h1:AG X kd a S1 g)(h2:AGs X kd es S2 gs)(hs:(assignEach (a::es) X.env).map (·.2)=assign a X.env::(assignEach es X.env).map (·.2)):AGs X kd (a::es) (S1++S2) (gsC g gs):=by with_unfolding_all exact(zln (zaP h1 h2 hs) λvs σ H Q h=>by
 obtain⟨F,B,ad,as,ds,as',R,rp,e,q⟩:=h
 cases rp with
 |nil=>cases e
 |cons r rr=>
  obtain⟨as1,e1,e⟩:=bS_ (show(g _ as).bind _=_ from e)
  refine⟨_,_,rfl,F,B,ad,as,_,as1,R,r,e1,λσ' ad' H' R' g' k'=>?_⟩
  exact⟨F,B,ad',as1,_,as',R',rr.grow g',e,λσ2 ad2 H2 R2 g2 k2=>q σ2 ad2 H2 R2 (g'.trans g2) λj hj=>(k2 j λz=>hj (zzI _ z)).trans (k' j λz=>hj (zzM _ z))⟩)
theorem ZG{k n:Nat}(hc:X.calm=true)(h:AGs X kd es S gs)(hn:(assignEach es X.env).length=n)(hst:(assignEach es X.env).findIdx? (·.1)=none):AG X kd (.Tuple es k pos) S (gT n gs):=by
 with_unfolding_all (
 intro pins s σ H v u Q I r hw
 obtain⟨F,B,ad,as,⟨st,d⟩,as',R,rp,e,q⟩:=hw
 cases d with
 |tup ds=>
  have e:(if ds.length=n then gs (kids st ds) as else none)=some as':=e
  by_cases hl:ds.length=n
  · rw[if_pos hl]at e
    have go:∃a xs,v = .ref a/\SqT X.K H a xs/\RpL X.K kd (Lv F B (Gw [] ad) st) H xs ds:=by
     cases rp with
     |tup n h r=>exact⟨_,_,rfl,.inl h,r⟩
     |tupK a b c e f r=>exact⟨_,_,rfl,.inr ⟨_,_,_,a,b,c,e,f⟩,r⟩
    obtain⟨a,xs,rfl,hs,rl⟩:=go
    exact zkj hc h hn hst pins s σ H _ u Q I r ⟨a,xs,rfl,hs,by rw[rl.length,hl],F,B,ad,as,_,as',R,zba rl,e,q⟩
  · rw[if_neg hl]at e;cases e
 |lst ds=>
  have e:(if ds.length=n then gs (kids st ds) as else none)=some as':=e
  by_cases hl:ds.length=n
  · rw[if_pos hl]at e
    cases rp with
    |lstK a b c r'=>exact znc hc h hn hst pins s σ H _ u Q I r ⟨_,_,rfl,.inr ⟨_,_,_,a,rfl,rfl,rfl,b,c⟩,by rw[r'.length,hl],F,B,ad,as,_,as',R,zba r',e,q⟩
    |lst n h' r'=>exact znc hc h hn hst pins s σ H _ u Q I r ⟨_,_,rfl,.inl h',by rw[r'.length,hl],F,B,ad,as,_,as',R,zba r',e,q⟩
  · rw[if_neg hl]at e;cases e
 |_=>cases e)
def zfL(as:AS)(r:RV):Option (It1×AS):=(toO as r.frz).bind λx=>match x.1 with | .lf st d=>some ((st,d),x.2)|_=>none
theorem zaU{K:zC}{F B:Addr->Prop}{T:List Addr}{ad:Ad}{as as':AS}{σ:St}{H:Hp}{v:V}{r:RV}{x:It1}(R:Rel K kd F B T ad as σ H)(h:wC K kd F B T ad σ H v r)(e:zfL as r=some (x,as')):
 ∃ad',Rel K kd F B [] ad' as' σ H/\Rp K kd (Lv F B (Gw [] ad') x.1) H v x.2/\∀a,Gw [] ad' a->Gw T ad a:=by
 obtain⟨⟨o,as1⟩,h1,e⟩:=bS_ e
 obtain⟨ad1,R1,ro,le⟩:=zfW R.drop (wC.drop R h) h1
 cases o with
 |lf st d=>
  cases e
  refine⟨ad1,R1, ?_,λa y=>Gw.drop a (le a y)⟩
  have:=zhU ro
  exact this
 |nd k os=>cases e
def zfH(f:EF)(g:GF):SF:=λas=>(f as).bind λp=>(zfL p.2 p.1).bind λq=>(g q.1 q.2).bind λas'=>some (.nx as')
theorem ziu(he:AE X kd e fa)(hg:AG X kd tg S g)(hs:swapsWithSole [tg] e pos.line X.env=pure false)(hw:swappedStores [tg] e X.env=pure none)(h1:(assignEach [tg] X.env).map (·.2)=[assign tg X.env]):
 ASt X kd (.Assign [tg] e pos) (zfH fa g):=by with_unfolding_all exact(Yr (zoG he hg hs hw h1) λD σ H h=>by
 obtain⟨F,B,ad,as,o,R,e,q⟩:=h
 obtain⟨⟨p,as1⟩,h1,e⟩:=bS_ (show(fa as).bind _=_ from e)
 obtain⟨⟨x,as2⟩,h2,e⟩:=bS_ e
 obtain⟨as3,h3,e⟩:=bS_ e
 cases e
 refine⟨F,B,ad,as,p,as1,R,h1,λv T' ad' H' R' rv g1=>?_⟩
 obtain⟨ad2,R2,rp,le⟩:=zaU R' rv h2
 exact⟨F,B,ad2,as2,_,as3,R2,rp,h3,λσ' ad' H' R' g' _=>q σ' ad' H' R' ((g1.trans (Grow.less le)).trans g')⟩)
structure ItOk(K:zC)(kd:KD)(F B:Addr->Prop)(ad:Ad)(H:Hp)(J:It)(ds:List It1):Prop where
 all:∀(ad2:Ad) (H2:Hp),Grow (Gw [] ad) H (Gw [] ad2) H2->(∀st a,Lv F B (Gw [] ad2) st a->H2 a≠none)->∀i,(i<ds.length->J.go i H2)/\(ds.length<=i->J.stop i H2)/\
  ∀v H3,J.yld i H2 v H3->(∀b o,H2 b=some o->H3 b=some o)/\∀x,ds[i]? = some x->Rp K kd (Lv F B (Gw [] ad2) x.1) H3 v x.2
abbrev IF:=AS->Option (List It1×AS)
def alI(K:zC)(kd:KD)(f:IF):TI:=λσ H R=>∃F B ad as ds as',Rel K kd F B [] ad as σ H/\f as=some (ds,as')/\
 ∀J ad' H',Rel K kd F B [] ad' as' σ H'->Grow (Gw [] ad) H (Gw [] ad') H'->ItOk K kd F B ad' H' J ds->R J H'
@[irreducible] def AI(X:Cx)(kd:KD)(tg iter:Expr)(f:IF):Prop:=PI X tg iter (alI X.K kd f)
def forL(g:GF)(f:SF):List It1->AS->Option Out
 | [],as=>some (.nx as)
 |d::r,as=>(g d as).bind λas1=>(f as1).bind λo=>match o with
  | .nx as'=>forL g f r as'
  | .ct as'=>forL g f r as'
  | .bk as'=>some (.nx as')
  | .rt r=>some (.rt r)
def xJ(fi:IF)(g:GF)(f:SF):SF:=λas=>(fi as).bind λp=>forL g f p.1 p.2
theorem xg{fi:IF}(hp:PassesOwn (model X.prog X.w) X.A X.env X.xe)(hc:X.calm=true)(hi:AI X kd tg iter fi)(hg:AG X kd tg S g)(hb:ASs X kd body f)(hs:∀x,foldedSetIterable iter X.env x=pure x):
 ASt X kd (.For tg iter body [] pos) (xJ fi g f):=by with_unfolding_all exact(Yr (zhJ hp hc hi hg hb hs) λD σ H h=>by
 obtain⟨F,B,ad,as,o,R,e,q⟩:=h
 obtain⟨⟨ds,as1⟩,h1,e⟩:=bS_ (show(fi as).bind _=_ from e)
 refine⟨F,B,ad,as,ds,as1,R,h1,λJ ad1 H1 R1 g1 it=>?_⟩
 refine⟨λi m σ2 H2=>m+i=ds.length/\∃ad2 as2,Rel X.K kd F B [] ad2 as2 σ2 H2/\Grow (Gw [] ad1) H1 (Gw [] ad2) H2/\forL g f (ds.drop i) as2=some o,⟨ds.length,rfl,ad1,as1,R1,Grow.refl,e⟩, ?_⟩
 rintro i m σ2 H2 ⟨hm,ad2,as2,R2,g2,e2⟩
 obtain⟨k1,k2,k3⟩:=it.all ad2 H2 g2 R2.trk i
 by_cases hi:i<ds.length
 · refine .inr ⟨k1 hi,λσ3 H3=>∃ad3 as3,Rel X.K kd F B [] ad3 as3 σ3 H3/\Grow (Gw [] ad1) H1 (Gw [] ad3) H3/\forL g f (ds.drop (i+1)) as3=some o,λσ3 H3 ⟨ad3,as3,R3,g3,e3⟩=>⟨m-1,by omega,by omega,ad3,as3,R3,g3,e3⟩,λv H3 hy=>?_⟩
   obtain⟨kp,rp⟩:=k3 v H3 hy
   rw[zyN hi]at e2
   obtain⟨as3,e3,e2⟩:=bS_ (show(g _ as2).bind _=_ from e2)
   obtain⟨o3,e4,e2⟩:=bS_ e2
   obtain⟨R3,g3⟩:=R2.more kp
   refine⟨F,B,ad2,as2,_,as3,R3,rp _ (zzB hi),e3,λσ4 ad4 H4 R4 g4 _=>?_⟩
   refine⟨F,B,ad4,as3,o3,R4,e4, ?_⟩
   have gg:=(g2.trans g3).trans g4
   cases o3 with
   |nx as5=>exact λσ5 ad5 H5 R5 g5=>⟨ad5,as5,R5,gg.trans g5,e2⟩
   |ct as5=>exact λσ5 ad5 H5 R5 g5=>⟨ad5,as5,R5,gg.trans g5,e2⟩
   |bk as5=>
    cases e2
    exact λσ5 ad5 H5 R5 g5=>q σ5 ad5 H5 R5 (g1.trans (gg.trans g5))
   |rt r=>
    cases e2
    exact λv T H5 ro g5=>q v T H5 ro (g1.trans (gg.trans g5))
 · refine .inl ⟨k2 (by omega), ?_⟩
   rw[List.drop_eq_nil_of_le (by omega)]at e2
   cases e2
   exact q σ2 ad2 H2 R2 (g1.trans g2))
def whL(c:TF)(f:SF):Nat->AS->Option Out
 |0,_=>none
 |n+1,as=>(c as).bind λp=>if p.1=true then(f p.2).bind λo=>match o with
  | .nx as'=>whL c f n as'
  | .ct as'=>whL c f n as'
  | .bk as'=>some (.nx as')
  | .rt r=>some (.rt r)else some (.nx p.2)
theorem znx{n:Nat}(hp:PassesOwn (model X.prog X.w) X.A X.env X.xe)(hc:AT X kd c ta)(hb:ASs X kd body f):ASt X kd (.While c body [] pos) (whL ta f n):=by with_unfolding_all exact(Yr (zoF hp hc hb) λD σ H h=>by
 obtain⟨F,B,ad,as,o,R,e,q⟩:=h
 refine⟨λm σ2 H2=>∃ad2 as2,Rel X.K kd F B [] ad2 as2 σ2 H2/\Grow (Gw [] ad) H (Gw [] ad2) H2/\whL ta f m as2=some o,⟨n,ad,as,R,Grow.refl,e⟩, ?_⟩
 rintro m σ2 H2 ⟨ad2,as2,R2,g2,e2⟩
 cases m with
 |zero=>cases e2
 |succ m=>
  obtain⟨⟨p,as3⟩,e3,e2⟩:=bS_ (show(ta as2).bind _=_ from e2)
  refine⟨F,B,ad2,as2,p,as3,R2,e3,λad3 H3 R3 g3=>?_⟩
  cases p with
  |true=>
   rw[if_pos rfl]at e2 ⊢
   obtain⟨o3,e4,e2⟩:=bS_ e2
   refine⟨λσ3 H3=>∃ad3 as3,Rel X.K kd F B [] ad3 as3 σ3 H3/\Grow (Gw [] ad) H (Gw [] ad3) H3/\whL ta f m as3=some o,λσ3 H3 h=>⟨m,by omega,h⟩,F,B,ad3,as3,o3,R3,e4, ?_⟩
   have gg:=g2.trans g3
   cases o3 with
   |nx as5=>exact λσ5 ad5 H5 R5 g5=>⟨ad5,as5,R5,gg.trans g5,e2⟩
   |ct as5=>exact λσ5 ad5 H5 R5 g5=>⟨ad5,as5,R5,gg.trans g5,e2⟩
   |bk as5=>
    cases e2
    exact λσ5 ad5 H5 R5 g5=>q σ5 ad5 H5 R5 (gg.trans g5)
   |rt r=>
    cases e2
    exact λv T H5 ro g5=>q v T H5 ro (gg.trans g5)
  |false=>
   rw[if_neg zyT]at e2 ⊢
   cases e2
   exact q σ2 ad3 H3 R3 (g2.trans g3))
def zje:It1->Option (List It1)
 |(st,.lst ds)=>some (kids st ds)
 |(st,.tup ds)=>some (kids st ds)
 |_=>none
def zbI(f:EF):IF:=λas=>(f as).bind λp=>(zfL p.2 p.1).bind λq=>(zje q.1).bind λds=>some (ds,q.2)
theorem zkN{K:zC}{F B:Addr->Prop}{ad:Ad}{H:Hp}{a:Addr}{vs:List V}{ds:List It1}(hs:∀(ad3:Ad) (H3:Hp),Grow (Gw [] ad) H (Gw [] ad3) H3->SqL K H3 a vs)(r:RpI K kd F B (Gw [] ad) H vs ds):ItOk K kd F B ad H (Itl K a) ds:=⟨λad3 H3 g3 _ i=>by
 have hr3:=hs ad3 H3 g3
 have rl3:=r.grow g3
 refine⟨λhi=>?_,λhi=>⟨_,hr3,by rw[r.length];exact hi⟩,λv H4 hy=>?_⟩
 · obtain⟨u,hu,_⟩:=r.get (zzB hi)
   exact⟨_,u,hr3,hu⟩
 · obtain⟨rfl,hv⟩:=hy
   refine⟨λ_ _ z=>z,λd hd=>?_⟩
   obtain⟨u,hu,ru⟩:=rl3.get hd
   have:=hv _ hr3
   rw[hu]at this
   cases this
   exact ru⟩
theorem ztj{K:zC}{F B:Addr->Prop}{ad:Ad}{H:Hp}{a:Addr}{vs:List V}{ds:List It1}(hs:∀(ad3:Ad) (H3:Hp),Grow (Gw [] ad) H (Gw [] ad3) H3->SqT K H3 a vs)(r:RpI K kd F B (Gw [] ad) H vs ds):ItOk K kd F B ad H (Itt K a) ds:=⟨λad3 H3 g3 _ i=>by
 have hr3:=hs ad3 H3 g3
 have rl3:=r.grow g3
 refine⟨λhi=>?_,λhi=>⟨_,hr3,by rw[r.length];exact hi⟩,λv H4 hy=>?_⟩
 · obtain⟨u,hu,_⟩:=r.get (zzB hi)
   exact⟨_,u,hr3,hu⟩
 · obtain⟨rfl,hv⟩:=hy
   refine⟨λ_ _ z=>z,λd hd=>?_⟩
   obtain⟨u,hu,ru⟩:=rl3.get hd
   have:=hv _ hr3
   rw[hu]at this
   cases this
   exact ru⟩
theorem zga(he:AE X kd e fa):AI X kd tg e (zbI fa):=by
 with_unfolding_all (
 intro pins s σ H R I h
 obtain⟨F,B,ad,as,ds,as',Rl,e,q⟩:=h
 obtain⟨⟨p,as1⟩,h1,e⟩:=bS_ (show(fa as).bind _=_ from e)
 obtain⟨⟨⟨st,x⟩,as2⟩,h2,e⟩:=bS_ e
 obtain⟨ys,h3,e⟩:=bS_ e
 cases e
 cases x with
 |lst xs=>
  cases h3
  refine zaV he pins s σ H R I ⟨F,B,ad,as,p,as1,Rl,h1,λv T1 ad1 H1 R1 rv1 g1=>?_⟩
  obtain⟨ad2,R2,rp,le⟩:=zaU R1 rv1 h2
  cases rp with
  |lst hn hr rl=>exact⟨_,rfl,⟨_,.inl hr⟩,q _ ad2 H1 R2 (g1.trans (Grow.less le)) (zkN (λad3 H3 g3=>.inl (zaS g3 (λz=>hn (.inr z)) hr)) (zba rl))⟩
  |lstK a b c rl=>exact⟨_,rfl,⟨_,.inr ⟨_,_,_,a,rfl,rfl,rfl,b,c⟩⟩,q _ ad2 H1 R2 (g1.trans (Grow.less le)) (zkN (λad3 H3 g3=>.inr ⟨_,_,_,a,rfl,rfl,rfl,b,c⟩) (zba rl))⟩
 |tup xs=>
  cases h3
  refine zka he pins s σ H R I ⟨F,B,ad,as,p,as1,Rl,h1,λv T1 ad1 H1 R1 rv1 g1=>?_⟩
  obtain⟨ad2,R2,rp,le⟩:=zaU R1 rv1 h2
  have go:∃a ys,v = .ref a/\(∀(ad3:Ad) (H3:Hp),Grow (Gw [] ad2) H1 (Gw [] ad3) H3->SqT X.K H3 a ys)/\RpL X.K kd (Lv F B (Gw [] ad2) st) H1 ys xs:=by
   cases rp with
   |tup n h r=>exact⟨_,_,rfl,λad3 H3 g3=>.inl (zaS g3 (λz=>n (.inr z)) h),r⟩
   |tupK a b c e f r=>exact⟨_,_,rfl,λad3 H3 g3=>.inr ⟨_,_,_,a,b,c,e,f⟩,r⟩
  obtain⟨a,ys,rfl,hs,rl⟩:=go
  exact⟨_,rfl,⟨_,hs ad2 H1 Grow.refl⟩,q _ ad2 H1 R2 (g1.trans (Grow.less le)) (ztj hs (zba rl))⟩
 |_=>cases h3)
def xY(lo:Int)(n:Nat):List It1:=(List.range n).map λ(i:Nat)=>(true,D.int (lo+(i:Int)))
theorem znp{K:zC}{F B:Addr->Prop}{ad:Ad}{H:Hp}(lo:Int)(n:Nat):ItOk K kd F B ad H (Itr lo n) (xY lo n):=⟨λad2 H2 g _ i=>by
 have hl:(xY lo n).length=n:=by unfold xY;simp
 refine⟨λhi=>by rw[hl]at hi;exact hi,λhi=>by rw[hl]at hi;exact hi,λv H3 hy=>?_⟩
 obtain⟨rfl,rfl⟩:=hy
 refine⟨λ_ _ z=>z,λd hd=>?_⟩
 have hi:i<n:=by rw[<-hl];exact(zzD.mp hd).1
 unfold xY at hd
 rw[zzF,List.getElem?_range hi]at hd
 cases hd
 exact .int _⟩
def zug:List D->Option D
 | [x]=>some x
 |_=>none
theorem zpE{ds:List D}{d:D}(h:zug ds=some d):ds=[d]:=by
 cases ds with
 |nil=>cases h
 |cons x r=>
  cases r with
  |nil=>cases h;rfl
  |cons _ _=>cases h
def yP(ds:List D):Option (List It1):=((zug ds).bind asI).bind λj=>if -(2 ^ 62)<=j/\j<2 ^ 62 then some (xY 0 j.toNat)else none
theorem zkL{ds:List D}{xs:List It1}(h:yP ds=some xs):∃j,ds=[.int j]/\(if -(2 ^ 62)<=j/\j<2 ^ 62 then some (xY 0 j.toNat)else none)=some xs:=by
 obtain⟨j,h1,h⟩:=bS_ h
 obtain⟨d,h2,h1⟩:=bS_ h1
 cases zid h1
 exact⟨j,zpE h2,h⟩
def zsd:List D->Option (List It1)
 | [.int i,.int j]=>if -(2 ^ 62)<=i/\i<2 ^ 62 /\ -(2 ^ 62)<=j/\j<2 ^ 62 then some (xY i (j-i).toNat)else none
 |_=>none
def yM(fr:AF)(h:List D->Option (List It1)):IF:=λas=>(fr as).bind λp=>(views p.2 p.1).bind λds=>(h ds.1).bind λxs=>some (xs,p.2)
theorem yC{fr:AF}{p:Pos}(hg:Gl X "range")(hm:X.mg "range"=none)(ha:AA X kd [a] fr)(hs:starEach [a] X.env=[(false,eval a X.env)]):AI X kd tg (.Call (.Name "range" p) [a] [] pos) (yM fr yP):=by
 with_unfolding_all (
 intro pins s σ H R I h
 obtain⟨F,B,ad,as,ds,as',Rl,e,q⟩:=h
 obtain⟨⟨ps,as1⟩,h1,e⟩:=bS_ (show(fr as).bind _=_ from e)
 obtain⟨⟨xs,lv⟩,h2,e⟩:=bS_ e
 obtain⟨ys,h3,e⟩:=bS_ e
 cases e
 obtain⟨j,rfl,h3⟩:=zkL h3
 · obtain⟨hj,e3⟩:=zM h3
   cases e3
   refine zhc hg hm ha hs pins s σ H R I ⟨F,B,ad,as,ps,_,Rl,h1,λvs ad1 H1 R1 rv1 g1=>?_⟩
   have vl:=W6 R1 rv1 h2
   cases vl with
   |cons v1 v2=>
    cases v2
    cases v1
    exact⟨j,rfl,hj.1,hj.2,q _ ad1 H1 R1 g1 (znp 0 _)⟩)
theorem zme{fr:AF}{p:Pos}(hg:Gl X "range")(hm:X.mg "range"=none)(ha:AA X kd [a,b] fr)(hs:starEach [a,b] X.env=[(false,eval a X.env),(false,eval b X.env)])(hs2:starEach [b] X.env=[(false,eval b X.env)]):AI X kd tg (.Call (.Name "range" p) [a,b] [] pos) (yM fr zsd):=by
 with_unfolding_all (
 intro pins s σ H R I h
 obtain⟨F,B,ad,as,ds,as',Rl,e,q⟩:=h
 obtain⟨⟨ps,as1⟩,h1,e⟩:=bS_ (show(fr as).bind _=_ from e)
 obtain⟨⟨xs,lv⟩,h2,e⟩:=bS_ e
 obtain⟨ys,h3,e⟩:=bS_ e
 cases e
 match xs,h3,h2 with
 | [.int i,.int j],h3,h2=>
  obtain⟨hj,e3⟩:=zM (show(if -(2 ^ 62)<=i/\i<2 ^ 62 /\ -(2 ^ 62)<=j/\j<2 ^ 62 then some (xY i (j-i).toNat)else none)=some ds from h3)
  cases e3
  refine zms hg hm ha hs hs2 pins s σ H R I ⟨F,B,ad,as,ps,_,Rl,h1,λvs ad1 H1 R1 rv1 g1=>?_⟩
  have vl:=W6 R1 rv1 h2
  cases vl with
  |cons v1 v2=>
   cases v2 with
   |cons v2 v3=>
    cases v3
    cases v1
    cases v2
    exact⟨i,j,rfl,hj,q _ ad1 H1 R1 g1 (znp i _)⟩)
theorem Rel.mut{K:zC}{F B:Addr->Prop}{T fo:List Addr}{ad:Ad}{as:AS}{σ:St}{H:Hp}{i:Nat}{l:Addr}{fp fp':List Addr}{n:O}{u:HO}(R:Rel K kd F B T ad as σ H)(hi:i<as.length)(hl:ad i=l::fp)(hs:σ[i]? = some (some (.ref l)))
 (hsub:∀a ∈ fp'++fo,a ∈ fp++T) (hnd:(fp'++fo).Nodup) (hu:H l≠none)
 (ro:∀(H':Hp) (G':Addr->Prop),H' l=some u->Grow (Gw T ad) H G' H'->(∀a ∈ fp',∀w,H a=some w->H' a=some w)->RoS K kd F B G' H' (.ref l) n (l::fp')):
 Rel K kd F B fo (vG ad i (l::fp')) (as.set i (some n)) σ (upd H l u)/\Grow (Gw T ad) H (Gw fo (vG ad i (l::fp'))) (upd H l u):=by
 have hli:l ∈ ad i:=by rw[hl];exact zzC
 have lT:l ∉ T:=R.dis i l hli
 have lfp:l ∉ fp:=by have:=R.nd i;rw[hl]at this;exact(zzT.mp this).1
 have lsub:∀a ∈ fp'++fo,a≠l:=λa m e=>by
  subst e
  rcases zzJ.mp (hsub _ m)with z|z
  · exact lfp z
  · exact lT z
 have sub:∀a ∈ fp'++fo,Gw T ad a:=λa m=>by
  rcases zzJ.mp (hsub a m)with z|z
  · exact .inr ⟨i,by rw[hl];exact zzA _ z⟩
  · exact .inl z
 have gsub:∀a,Gw fo (vG ad i (l::fp')) a->Gw T ad a:=λa z=>by
  rcases z with z|⟨j,z⟩
  · exact sub a (zzI _ z)
  · by_cases e:j=i
    · subst e
      rw[zK]at z
      rcases zS.mp z with z|z
      · subst z;exact .inr ⟨j,hli⟩
      · exact sub a (zzM _ z)
    · rw[zP e]at z;exact .inr ⟨j,z⟩
 have g:Grow (Gw T ad) H (Gw fo (vG ad i (l::fp'))) (upd H l u):=⟨λb w h n=>by rw[zW (λe=>n (by subst e;exact .inr ⟨i,hli⟩))];exact h,λb z=>.inl (gsub b z)⟩
 have kn:∀a,H a≠none->upd H l u a≠none:=λa z=>by
  by_cases e:a=l
  · subst e;rw[yf];simp
  · rw[zW e];exact z
 obtain⟨hnd1,hnd2,hnd3⟩:=zxC.mp hnd
 have inT:∀j a,j≠i->a ∈ ad j->a ∈ fp'++fo->False:=λj a hj m m'=>by
  rcases zzJ.mp (hsub a m')with z|z
  · exact hj (R.inj j i a m (by rw[hl];exact zzA _ z))
  · exact R.dis j a m z
 refine⟨⟨by rw[zzR];exact R.len,λj hj=>?_,λj=>?_,λj k a h1 h2=>?_,hnd2,λj a h1 h2=>?_,λa z=>kn a (R.ftr a z),λa z=>?_,λa z=>⟨kn a (R.gtr a (gsub a z)).1,(R.gtr a (gsub a z)).2⟩,λj s e=>?_⟩,g⟩
 · rw[zzR]at hj
   rw[zP (by omega)];exact R.out j hj
 · by_cases e:j=i
   · subst e;rw[zK]
     exact zzT.mpr ⟨λm=>lsub l (zzM _ m) rfl,hnd1⟩
   · rw[zP e];exact R.nd j
 · by_cases e:j=i
   · subst e
     by_cases e':k=j
     · exact e'.symm
     · rw[zK]at h1
       rw[zP e']at h2
       rcases zS.mp h1 with z|z
       · subst z;exact R.inj j k a hli h2
       · exact(inT k a e' h2 (zzM _ z)).elim
   · rw[zP e]at h1
     by_cases e':k=i
     · subst e'
       rw[zK]at h2
       rcases zS.mp h2 with z|z
       · subst z;exact R.inj j k a h1 hli
       · exact(inT j a e h1 (zzM _ z)).elim
     · rw[zP e']at h2
       exact R.inj j k a h1 h2
 · by_cases e:j=i
   · subst e
     rw[zK]at h1
     rcases zS.mp h1 with z|z
     · subst z;exact lsub a (zzI _ h2) rfl
     · exact hnd3 a z a h2 rfl
   · rw[zP e]at h1
     exact inT j a e h1 (zzI _ h2)
 · obtain⟨b1,b2,b3⟩:=R.btr a z
   exact⟨kn a b1,b2,λy=>b3 (gsub a y)⟩
 · by_cases q:j=i
   · subst q
     rw[zyH hi]at e
     cases e
     rw[zK]
     refine⟨_,hs,ro _ _ yf g λa m w h=>?_⟩
     rw[zW (lsub a (zzM _ m))];exact h
   · rw[zzV (Ne.symm q)]at e
     rw[zP q]
     refine(R.sl j s e).grow g λa m w h=>?_
     rw[zW (λz=>q (R.inj j i l (by rw[<-z];exact m) hli))];exact h
abbrev MG:=List O->List O->Option (List O×O)
def ZC(i:Nat)(fr:DF)(g:MG):EF:=λas=>match as[i]? with
 |some (some (.nd .ls _))=>(fr as).bind λp=>match p.2[i]? with
  |some (some (.nd .ls os))=>(g os p.1).bind λz=>some (.ow z.2,p.2.set i (some (.nd .ls z.1)))
  |_=>none
 |_=>none
def MuD(X:Cx)(kd:KD)(r:V->List V->Hp->VK->Prop)(g:MG):Prop:=
 ∀(F B G:Addr->Prop) (l:Addr) (vs ws:List V) (os es os':List O) (o:O) (fp fq:List Addr) (H:Hp) (Q:VK),H l=some (.lst vs)->vB X.K kd F B G H vs os fp->vB X.K kd F B G H ws es fq->(fp++fq).Nodup->g os es=some (os',o)->
  (∀v vs' fp' fo,vB X.K kd F B G H vs' os' fp'->RoS X.K kd F B G H v o fo->(∀a ∈ fp'++fo,a ∈ fp++fq)->(fp'++fo).Nodup->Q v (upd H l (.lst vs')))->r (.ref l) ws H Q
theorem zub{i:Nat}{fr:DF}{g:MG}{r:V->List V->Hp->VK->Prop}(hr:MuD X kd r g)
 {σ:St}{H:Hp}{Q:VK}(h:al X.K kd (ZC i fr g) σ H Q):tBM X.K "list" r (X8 i) (alD X.K kd fr) σ H Q:=by
 obtain⟨F,B,ad,as,z,as',R,e,q⟩:=h
 unfold ZC at e
 cases k:as[i]? with
 |none=>rw[k]at e;cases e
 |some a0=>
  rw[k]at e
  match a0,e,k with
  |some (.nd .ls os0),e,k=>
   obtain⟨⟨es,as1⟩,h1,e⟩:=bS_ (show(fr as).bind _=_ from e)
   obtain⟨v0,hs0,ro0⟩:=R.sl i _ k
   generalize hfp0:ad i=fp0 at ro0
   cases ro0 with
   |ls hH0 rl0=>
   rename_i l vs0 fp00
   refine⟨_,hs0,.inl ⟨rfl,_,.inl (.inl hH0)⟩,F,B,ad,as,es,as1,R,h1,λws T1 ad1 H1 R1 ro1 g1=>?_⟩
   cases k2:as1[i]? with
   |none=>rw[k2]at e;cases e
   |some a2=>
    rw[k2]at e
    match a2,e,k2 with
    |some (.nd .ls os),e,k2=>
     obtain⟨⟨os',o⟩,h3,e⟩:=bS_ (show(g os es).bind _=_ from e)
     cases e
     obtain⟨v1,hs1,ro2⟩:=R1.sl i _ k2
     rw[hs0]at hs1
     cases hs1
     generalize hfp:ad1 i=fp1 at ro2
     cases ro2 with
     |ls hH rl=>
     rename_i vs fp
     have hnd:(fp++T1).Nodup:=zxC.mpr ⟨by have:=R1.nd i;rw[hfp]at this;exact(zzT.mp this).2,R1.tnd,λa m b m' e=>by
          subst e;exact R1.dis i a (by rw[hfp];exact zzA _ m) m'⟩
     refine hr F B (Gw T1 ad1) _ vs ws os es os' o fp T1 H1 Q hH rl ro1 hnd h3 λv vs' fp' fo rl' ro' hsub hnd'=>?_
     obtain⟨R3,g3⟩:=R1.mut (n:=.nd .ls os') (u:=.lst vs') (zzD.mp k2).1 hfp hs0 hsub hnd' (by rw[hH];simp) λH' G' hl' gr kp=>.ls hl' (vB.grow gr kp rl')
     have lno:∀a ∈ fo,∀w,H1 a=some w->upd H1 l (.lst vs') a=some w:=λa m w h=>by
          rw[zW (λe=>?_)]
          · exact h
          · subst e
            rcases zzJ.mp (hsub _ (zzI _ m))with z|z
            · have:=R1.nd i;rw[hfp]at this;exact(zzT.mp this).1 z
            · exact R1.dis i _ (by rw[hfp];exact zzC) z
     exact q v fo _ _ R3 (RoS.grow g3 lno ro') (g1.trans g3)
end
end PF
end
section
set_option exponentiation.threshold 5000
namespace PF
open PySem PySem.Spec PyProof.Rows L2
section
variable{K:zC}{kd:KD}{O:Addr->Prop}{H:Hp}{Q:VK}
theorem yz{d:D}{v:V}(q:RQ K kd O H Q (.im d))(r:Rp K kd O H v d):Q v H:=q v H (λ_ _ z=>z) r
theorem zkE{vs:List V}{ds:List D}{p:Addr}{o:HO}(hp:H p=none)(r:RpL K kd O H vs ds):RpL K kd (Un2 O (· = p)) (upd H p o) vs ds:=
 RpL.grow (F:=O) (W:=λ_=>False) ⟨λb u q _=>by rw[zW (yG q hp)];exact q,λb z=>.inr (by rw[z];exact hp)⟩ (r.less λa z=>z.elim id False.elim)
theorem zqf{vs:List (Key×V)}{ds:List (Key×D)}{p:Addr}{o:HO}(hp:H p=none)(r:RpM K kd O H vs ds):RpM K kd (Un2 O (· = p)) (upd H p o) vs ds:=
 RpM.grow (F:=O) (W:=λ_=>False) ⟨λb u q _=>by rw[zW (yG q hp)];exact q,λb z=>.inr (by rw[z];exact hp)⟩ (r.less λa z=>z.elim id False.elim)
theorem Xq{p:Addr}{o:HO}(hp:H p=none):∀b u,H b=some u->upd H p o b=some u:=λb u q=>by rw[zW (yG q hp)];exact q
theorem zcV{vs:List V}{ds:List D}(q:RQ K kd O H Q (.fl ds))(r:RpL K kd O H vs ds):∀p,H p=none->Q (.ref p) (upd H p (.lst vs)):=λp hp=>
 q p vs _ hp (Xq hp) yf (zkE hp r)
theorem znk{vs:List (Key×V)}{ds:List (Key×D)}(q:RQ K kd O H Q (.fd ds))(r:RpM K kd O H vs ds):∀p,H p=none->Q (.ref p) (upd H p (.dK vs)):=λp hp=>
 q p vs _ hp (Xq hp) yf (zqf hp r)
theorem zhs{vs:List V}{ds:List D}(ht:∀a,O a->H a≠none)(q:RQ K kd O H Q (.im (.tup ds)))(r:RpL K kd O H vs ds):∀p,H p=none->Q (.ref p) (upd H p (.tup vs)):=λp hp=>
 q _ _ (Xq hp) (.tup (λz=>ht p z hp) (.inl yf) ((zkE hp r).less λa z=>.inl z))
end
def big:Nat:=2 ^ 4000
theorem zjD{i:Int}(h:i.natAbs<big):Builtin.Int.intBits i<=2 ^ 20:=by
 unfold Builtin.Int.intBits
 split
 · exact Nat.zero_le _
 · have:i.natAbs.log2<4000:=by
    rcases Nat.eq_zero_or_pos i.natAbs with h0|hp
    · rw[h0];decide
    · exact(Nat.log2_lt (Nat.ne_of_gt hp)).mpr h
   have e:(2:Nat) ^ 20=1048576:=by decide
   omega
def onI(f:Int->Int->Option R0)(x y:D):Option R0:=(asI x).bind λi=>(asI y).bind λj=>f i j
def zuI(x y:D):Option R0:=match x with
 | .int i=>(asI y).bind λj=>some (.im (.int (i+j)))
 | .str x=>(asS y).bind λy=>if x.length+y.length<=sizeLine then some (.im (.str (x++y)))else none
 | .lst xs=>(asL y).bind λys=>if xs.length+ys.length<=sizeLine then some (.fl (xs++ys))else none
 | .tup xs=>(asT y).bind λys=>if xs.length+ys.length<=sizeLine then some (.im (.tup (xs++ys)))else none
 |_=>none
def zuC(x y:D):Option R0:=match x with
 | .int i=>(asI y).bind λj=>if i.natAbs<big/\j.natAbs<big then some (.im (.int (i*j)))else none
 | .lst xs=>(asI y).bind λk=>if -(2 ^ 63)<=k/\k<2 ^ 63/\xs.length*k.toNat<=sizeLine then some (.fl (List.replicate k.toNat xs).flatten)else none
 | .tup xs=>(asI y).bind λk=>if 1<=k/\k<2 ^ 63/\xs.length≠0/\xs.length*k.toNat<=sizeLine then some (.im (.tup (List.replicate k.toNat xs).flatten))else none
 |_=>none
def zm(o:Operator)(x y:D):Option R0:=match o with
 | .Add=>zuI x y
 | .Sub=>onI (λi j=>some (.im (.int (i-j)))) x y
 | .Mult=>zuC x y
 | .FloorDiv=>onI (λi j=>if 0<j/\j.natAbs<big then some (.im (.int (i/j)))else none) x y
 | .Mod=>onI (λi j=>if 0<j then some (.im (.int (i%j)))else none) x y
 | .Pow=>onI (λi j=>if 0<=j/\j<=1000000/\i.natAbs<2 ^ 64 then some (.im (.int (i ^ j.toNat)))else none) x y
 |_=>none
theorem Wb{K:zC}{kd:KD}{O:Addr->Prop}{H:Hp}{v:V}{d:D}{i:Int}(h:Vw K kd O H v d)(e:asI d=some i):d = .int i/\v = .int i:=by
 cases h with
 |int j=>cases e;exact⟨rfl,rfl⟩
 |_=>cases e
theorem zsn{K:zC}{kd:KD}{O:Addr->Prop}{H:Hp}{v:V}{d:D}{i:Str}(h:Vw K kd O H v d)(e:asS d=some i):d = .str i/\v = .str i:=by
 cases h with
 |str j=>cases e;exact⟨rfl,rfl⟩
 |_=>cases e
theorem X3{K:zC}{kd:KD}{O:Addr->Prop}{H:Hp}{v w:V}{d e:D}{f:Int->Int->Option R0}{r:R0}(vx:Vw K kd O H v d)(vy:Vw K kd O H w e)(h:onI f d e=some r):∃i j,v = .int i/\w = .int j/\f i j=some r:=by
 obtain⟨i,h1,h⟩:=bS_ (show(asI d).bind _=_ from h)
 obtain⟨j,h2,h⟩:=bS_ h
 exact⟨i,j,(Wb vx h1).2,(Wb vy h2).2,h⟩
section
variable{X:Cx}{kd:KD}
theorem zqG:OpR X (binaryOp .Add) (λx y H Q=>∃l b xs zs,x = .ref l/\y = .ref b/\RdL X.K H l xs/\RdL X.K H b zs/\xs.length+zs.length<=sizeLine/\∀p,H p=none->Q (.ref p) (upd H p (.lst (xs++zs)))):=by
 intro pins s σ H x y v u Q I rx ry h
 obtain⟨l,b,xs,zs,rfl,rfl,hH,hB,hz,q⟩:=h
 cases rx
 cases ry
 obtain⟨z,its,n,r,e⟩:=zjI I hH
 obtain⟨z2,its2,n2,r2,e2⟩:=zjI I hB
 have hl:=r.length
 have hl2:=r2.length
 refine PySem.P.add_list e e2 ?_ (by rw[zzE,zzE];omega)
 have ea:its.toArray++its2.toArray=(its++its2).toArray:=by simp
 rw[ea]
 exact⟨.ref _,_,I.lnew (t':=s.toks) (r.append r2) (by rw[zzG];omega),rfl,q _ I.fresh⟩
theorem zqF:OpR X (binaryOp .Mult) (λx y H Q=>∃l k xs,x = .ref l/\y = .int k/\RdL X.K H l xs /\ -(2 ^ 63)<=k/\k<2 ^ 63/\xs.length*k.toNat<=sizeLine/\
 ∀p,H p=none->Q (.ref p) (upd H p (.lst (List.replicate k.toNat xs).flatten))):=by
 intro pins s σ H x y v u Q I rx ry h
 obtain⟨l,k,xs,rfl,rfl,hH,h1,h2,hz,q⟩:=h
 cases rx
 obtain⟨t,rfl⟩:=ry
 obtain⟨z,its,n,r,e⟩:=zjI I hH
 have hl:=r.length
 have hlen:its.toArray.size*k.toNat<=sizeLine:=by rw[zzE,<-hl];exact hz
 have hcap:¬its.toArray.size*k.toNat > (2 ^ 63-1)/8:=by
  have:(sizeLine:Nat)<=(2 ^ 63-1)/8:=by decide
  omega
 have hfit:¬(!Builtin.List.listFitsIndex k)=true:=by
  rw[fitsIndex_both h1 h2]
  exact zyT
 have hlong:¬Builtin.List.listTooLong (its.toArray.size*k.toNat)=true:=by
  rw[zmC hlen]
  exact zyT
 have hnew:List.foldl (λx1 x2=>x1++x2) #[] (List.replicate (if its.toArray.isEmpty=true then 0 else k.toNat) its.toArray)=(List.replicate k.toNat its).flatten.toArray:=by
  have f0:∀m:Nat,List.foldl (λx1 x2=>x1++x2) #[] (List.replicate m its.toArray)=(List.replicate m its).flatten.toArray:=λm=>by
   have:=foldl_rep its m []
   rw[List.nil_append]at this
   exact this
  rw[f0]
  cases its with
  |nil=>simp
  |cons a r'=>rw[if_neg (by simp)]
 refine wpAny_binaryOp_repeat_ref (T:="list") (U:="int") (by decide) ⟨_,e,rfl⟩ (λs'=>typeIs_int s' k t) noFill_list_mul F.fills_int_mul F.slot_int_rmul repeat_list F.slot_int_index.lookup
  (call_meets F.slot_int_rmul (typeIs_int s k t) F.entry_int_rmul (F.args_int_rmul_2 _ _) (int___rmul___int_list k t l its.toArray n)
   ⟨e,rfl,⟨_,e,rfl⟩,call_meets F.slot_list_mul ⟨_,e,rfl⟩ F.entry_list_mul (F.args_list_mul_2 _ _) (AutoListH.list___mul___list_int_3 l its.toArray n k t hfit hcap hlong) ⟨e, ?_⟩⟩)
 rw[hnew]
 refine⟨.ref _,_,I.lnew (t':=s.toks) (r.rep k.toNat) ?_,rfl,q _ I.fresh⟩
 rw[len_rep,Nat.mul_comm]
 exact hz
theorem tuple_addW0(l b:Addr)(items items2:Array Value)(n n2:Nat)(dd dd2:Option Addr)(sl sl2:Array (Option Value))(h0:items.isEmpty=true):
 Meets (Builtin.«tuple.__add__» {pos:=[.ref l,.ref b]}) (λ_ R s=>s.heap.get? l=some {cls:=.type "tuple",dict:=dd,data:=.seq items n,slots:=sl}/\s.heap.get? b=some {cls:=.type "tuple",dict:=dd2,data:=.seq items2 n2,slots:=sl2}/\R (.ok (.ret (.ref b))) s):=
 .of_wp λprog w A R s h=>by
  obtain⟨hp,g,d,tk,os⟩:=s;obtain⟨hl,hb,h⟩:=h
  have f2:=AutoSeq1.sub_tuple_tuple
  wp_walk using wpAny_loadPart' hl,wpAny_loadPart' hb
  exact⟨_,rfl,h⟩
theorem ziP(l:Addr)(items:Array Value)(n:Nat)(dd:Option Addr)(sl:Array (Option Value))(u:Tok):
 Meets (Builtin.«tuple.__mul__» {pos:=[.ref l,.int 1 u]}) (λ_ R s=>s.heap.get? l=some {cls:=.type "tuple",dict:=dd,data:=.seq items n,slots:=sl}/\R (.ok (.ret (.ref l))) s):=
 .of_wp λprog w A R s h=>by
  obtain⟨hp,g,d,tk,os⟩:=s;obtain⟨hl,h⟩:=h
  have f2:=AutoSeq1.sub_tuple_tuple
  wp_walk using wpAny_loadPart' hl
  exact⟨_,rfl,h⟩
theorem zjm(l:Addr)(items its2:Array Value)(n:Nat)(dd:Option Addr)(sl:Array (Option Value))(x:Int)(u:Tok)(c1:¬(decide (x < -2 ^ 63)||decide (x ≥ 2 ^ 63))=true)(c2:¬(items.isEmpty||x==1)=true)(c3:¬(decide (x<=0)||items.isEmpty)=true)
 (hcap:¬(items.size:Int)*x > (2 ^ 63-1)/8) (ht:¬Builtin.Tuple.tupleTooMany (items.size*x)=true) (hz:¬(List.foldl (λx1 x2=>x1++x2) #[] (List.replicate x.toNat items)).size > sizeLine):
 Meets (Builtin.«tuple.__mul__» {pos:=[.ref l,.int x u]}) (λ_ R s=>s.heap.get? l=some {cls:=.type "tuple",dict:=dd,data:=.seq items n,slots:=sl}/\R (.ok (.ret (.ref s.heap.objs.size))) {s with heap:=s.heap.push {cls:=.type "tuple",data:=.seq (List.foldl (λx1 x2=>x1++x2) #[] (List.replicate x.toNat items))}}):=
 .of_wp λprog w A R s h=>by
  obtain⟨hp,g,d,tk,os⟩:=s;obtain⟨hl,h⟩:=h
  have f2:=AutoSeq1.sub_tuple_tuple
  wp_walk using wpAny_loadPart' hl
  rw[if_neg c1]
  wp_walk using wpAny_loadPart' hl
  rw[if_neg hcap]
  wp_walk
  exact⟨_,rfl,h⟩
theorem zcH:fillsNumberSlot (Value.type "tuple") "mul"=pure false:=PySem.fillsNumberSlot_seq rfl rfl rfl rfl
theorem zib:seqRepeat? (Value.type "tuple")=pure (some (Value.builtin "tuple.__mul__")):=W.of_pureOf rfl
theorem zfE(a:Int)(t:Tok)(l:Addr)(items:Array Value)(n:Nat)(dd:Option Addr)(sl:Array (Option Value)):
 Meets (Builtin.«int.__rmul__» {pos:=[.int a t,.ref l]}) (λ_ R s=>s.heap.get? l=some {cls:=.type "tuple",dict:=dd,data:=.seq items n,slots:=sl}/\R (.ok (.ret .notImplemented)) s):=
 .of_wp λprog w A R s h=>by
  obtain⟨hp,g,d,tk,os⟩:=s;obtain⟨hl,h⟩:=h
  wp_walk using wpAny_load' hl,wpAny_loadPart' hl
  exact⟨_,rfl,h⟩
theorem zqk:OpR X (binaryOp .Add) (λx y H Q=>∃a b ys,x = .ref a/\y = .ref b/\SqT X.K H a []/\SqT X.K H b ys/\Q (.ref b) H):=by
 intro pins s σ H x y v u Q I rx ry h
 obtain⟨a,b,ys,rfl,rfl,ha,hb,q⟩:=h
 cases rx
 cases ry
 obtain⟨its,r1,p1,_⟩:=I.tuple ha
 obtain⟨its2,r2,p2,_⟩:=I.tuple hb
 cases r1
 obtain⟨⟨cls,dd,data,sl⟩,ho,hc,n,hd⟩:=id p1
 obtain⟨⟨cls2,dd2,data2,sl2⟩,ho2,hc2,n2,hd2⟩:=id p2
 simp only at hc hd hc2 hd2
 subst hc hd hc2 hd2
 exact concat_meets ⟨_,ho,rfl⟩ ⟨_,ho2,rfl⟩ noFill_tuple_add seq_tuple_add PySem.F.slot_tuple_add PySem.F.entry_tuple_add (PySem.F.args_tuple_add_2 _ _) (tuple_addW0 a b _ _ n n2 dd dd2 sl sl2 rfl) ⟨ho,ho2,⟨.ref b,H,I,rfl,q⟩⟩
theorem zoJ:OpR X (binaryOp .Mult) (λx y H Q=>∃l k xs,x = .ref l/\y = .int k/\SqT X.K H l xs/\xs≠[]/\1<=k/\k<2 ^ 63/\xs.length*k.toNat<=sizeLine/\(k=1->Q (.ref l) H)/\
 (2<=k->∀p,H p=none->Q (.ref p) (upd H p (.tup (List.replicate k.toNat xs).flatten)))):=by
 intro pins s σ H x y v u Q I rx ry h
 obtain⟨l,k,xs,rfl,rfl,hH,hne,h1,h2,hz,q1,q2⟩:=h
 cases rx
 obtain⟨t,rfl⟩:=ry
 obtain⟨its,r,p,_⟩:=I.tuple hH
 have hl:=r.length
 have hlen:its.toArray.size*k.toNat<=sizeLine:=by rw[zzE,<-hl];exact hz
 have hki:((its.toArray.size:Int)*k)=((its.toArray.size*k.toNat:Nat):Int):=by
  rw[zzS,zyW (by omega)]
 have he:its.toArray.isEmpty=false:=by
  cases its with
  |nil=>rw[List.length_nil]at hl;exact absurd (List.length_eq_zero_iff.mp hl) hne
  |cons a r'=>rfl
 have hnew:List.foldl (λx1 x2=>x1++x2) #[] (List.replicate k.toNat its.toArray)=(List.replicate k.toNat its).flatten.toArray:=by
  have:=foldl_rep its k.toNat []
  rw[List.nil_append]at this
  exact this
 obtain⟨⟨cls,dd,data,sl⟩,ho,hc,n,hd⟩:=id p
 simp only at hc hd
 subst hc hd
 refine wpAny_binaryOp_repeat_ref (T:="tuple") (U:="int") (by decide) ⟨_,ho,rfl⟩ (λs'=>typeIs_int s' k t) zcH F.fills_int_mul F.slot_int_rmul zib F.slot_int_index.lookup
  (call_meets F.slot_int_rmul (typeIs_int s k t) F.entry_int_rmul (F.args_int_rmul_2 _ _) (zfE k t l its.toArray n dd sl) ⟨ho,rfl,⟨_,ho,rfl⟩, ?_⟩)
 by_cases hk:k=1
 · subst hk
   exact call_meets F.slot_tuple_mul ⟨_,ho,rfl⟩ F.entry_tuple_mul (F.args_tuple_mul_2 _ _) (ziP l its.toArray n dd sl t) ⟨ho,⟨.ref l,H,I,rfl,q1 rfl⟩⟩
 · have hfl:(List.replicate k.toNat xs).flatten.length<=sizeLine:=by rw[len_rep,Nat.mul_comm];exact hz
   refine call_meets F.slot_tuple_mul ⟨_,ho,rfl⟩ F.entry_tuple_mul (F.args_tuple_mul_2 _ _) (zjm l its.toArray #[] n dd sl k t (by simp;omega) (by rw[he];simpa using hk) (by rw[he];simp;omega) ?_ ?_ ?_) ⟨ho, ?_⟩
   · rw[hki]
     have:((sizeLine:Nat):Int)<=(2 ^ 63-1)/8:=by decide
     omega
   · unfold Builtin.Tuple.tupleTooMany
     rw[hki]
     simp only[gt_iff_lt,decide_eq_true_eq]
     omega
   · rw[hnew,zzE,len_rep,Nat.mul_comm]
     rw[zzE]at hlen
     omega
   · rw[hnew]
     refine⟨.ref s.heap.objs.size,_,I.laid (t':=s.toks) (o:=.tup (List.replicate k.toNat xs).flatten) (λb ob q=>zxF _ q) (zzK _) ?_,rfl,q2 (by omega) _ (I.hok.fresh (zzK _))⟩
     exact⟨hfl,_,r.rep k.toNat,IsTup.new _ _⟩
theorem zp(op:Operator):OpD X kd (binaryOp op) (zm op):=by
 intro pins s σ H x y v u Q I rx ry h
 obtain⟨O,d,e,r,ht,vx,vy,he,q⟩:=h
 cases op with
 |Add=>
  cases vx with
  |int i=>
   obtain⟨j,h1,he⟩:=bS_ (show(asI e).bind _=_ from he)
   obtain⟨rfl,rfl⟩:=Wb vy h1
   cases he
   exact zrT pins s σ H _ _ v u Q I rx ry ⟨_,_,rfl,rfl,yz q (.int _)⟩
  |str i=>
   obtain⟨j,h1,he⟩:=bS_ (show(asS e).bind _=_ from he)
   obtain⟨rfl,rfl⟩:=zsn vy h1
   obtain⟨c,rfl⟩:=zM he
   exact zjY pins s σ H _ _ v u Q I rx ry ⟨_,_,rfl,rfl,c,yz q (.str _)⟩
  |lst hx rx'=>
   obtain⟨j,h1,he⟩:=bS_ (show(asL e).bind _=_ from he)
   cases zfV h1
   obtain⟨c,rfl⟩:=zM he
   cases vy with
   |lst hy ry'=>exact zqG pins s σ H _ _ v u Q I rx ry ⟨_,_,_,_,rfl,rfl,hx,hy,by rw[rx'.length,ry'.length];exact c,zcV q (rx'.append ry')⟩
  | @tup a1 vs1 ds1 r1 hx rx'=>
   obtain⟨j,h1,he⟩:=bS_ (show(asT e).bind _=_ from he)
   cases zmL h1
   obtain⟨c,rfl⟩:=zM he
   cases vy with
   |tup r2 hy ry'=>
    by_cases h0:vs1=([]:List V)
    · subst h0
      cases rx'
      exact zqk pins s σ H _ _ v u Q I rx ry ⟨_,_,_,rfl,rfl,hx,hy,yz q r2⟩
    refine zoS pins s σ H _ _ v u Q I rx ry ⟨_,_,_,_,rfl,rfl,hx,hy,h0,by rw[rx'.length,ry'.length];exact c,λhn=>?_,λhn=>zhs ht q (rx'.append ry')⟩
    · subst hn
      cases ry'
      rw[zyB]at q
      exact yz q r1
  |_=>cases he
 |Sub=>
  obtain⟨i,j,rfl,rfl,he⟩:=X3 vx vy he
  cases he
  exact zrD pins s σ H _ _ v u Q I rx ry ⟨_,_,rfl,rfl,yz q (.int _)⟩
 |Mult=>
  cases vx with
  |int i=>
   obtain⟨j,h1,he⟩:=bS_ (show(asI e).bind _=_ from he)
   obtain⟨rfl,rfl⟩:=Wb vy h1
   obtain⟨c,rfl⟩:=zM he
   obtain⟨t,rfl⟩:=rx
   obtain⟨t',rfl⟩:=ry
   exact mul_int ⟨.int _,H,I.tok _,⟨_,rfl⟩,yz q (.int _)⟩ (IntMulOk.of_bits (zjD c.1) (zjD c.2))
  |lst hx rx'=>
   obtain⟨j,h1,he⟩:=bS_ (show(asI e).bind _=_ from he)
   obtain⟨rfl,rfl⟩:=Wb vy h1
   obtain⟨c,rfl⟩:=zM he
   exact zqF pins s σ H _ _ v u Q I rx ry ⟨_,_,_,rfl,rfl,hx,c.1,c.2.1,by rw[rx'.length];exact c.2.2,zcV q (rx'.rep _)⟩
  |tup r1 hx rx'=>
   obtain⟨j,h1,he⟩:=bS_ (show(asI e).bind _=_ from he)
   obtain⟨rfl,rfl⟩:=Wb vy h1
   obtain⟨c,rfl⟩:=zM he
   refine zoJ pins s σ H _ _ v u Q I rx ry ⟨_,_,_,rfl,rfl,hx,λe=>?_,c.1,c.2.1,by rw[rx'.length];exact c.2.2.2,λe=>?_,λ_=>zhs ht q (rx'.rep _)⟩
   · have:=rx'.length
     rw[e]at this
     exact c.2.2.1 this.symm
   · subst e
     refine yz q ?_
     rw[show(1:Int).toNat=1 from rfl,List.replicate_one,List.flatten_cons,List.flatten_nil,zyB]
     exact r1
  |_=>cases he
 |FloorDiv=>
  obtain⟨i,j,rfl,rfl,he⟩:=X3 vx vy he
  obtain⟨c,rfl⟩:=zM he
  obtain⟨t,rfl⟩:=rx
  obtain⟨t',rfl⟩:=ry
  refine floordiv_int (by omega) ?_ (.inl (PyProof.noPylong_of_log2 ?_))
  · rw[Int.fdiv_eq_ediv_of_nonneg _ (by omega)]
    exact⟨.int _,H,I.tok _,⟨_,rfl⟩,yz q (.int _)⟩
  · exact zzH ((Nat.log2_lt (by have:=c.1;omega)).mpr (show _<2 ^ 4000 from c.2)) (by decide)
 |Mod=>
  obtain⟨i,j,rfl,rfl,he⟩:=X3 vx vy he
  obtain⟨c,rfl⟩:=zM he
  exact zta pins s σ H _ _ v u Q I rx ry ⟨_,_,rfl,rfl,c,yz q (.int _)⟩
 |Pow=>
  obtain⟨i,j,rfl,rfl,he⟩:=X3 vx vy he
  obtain⟨c,rfl⟩:=zM he
  exact zro pins s σ H _ _ v u Q I rx ry ⟨_,_,rfl,rfl,c,yz q (.int _)⟩
 |_=>cases he
end
def eqL(f:D->D->Option Bool):List D->List D->Option Bool
 | [],[]=>some true
 |x::r,y::t=>(f x y).bind λb=>(eqL f r t).bind λc=>some (b&&c)
 |_,_=>some false
def eqF:Nat->D->D->Option Bool
 |0,_,_=>none
 |_+1,.non,.non=>some true
 |_+1,.bl a,.bl b=>some (a==b)
 |_+1,.int a,.int b=>some (a==b)
 |_+1,.str a,.str b=>some (a==b)
 |_+1,.bl a,.int b=>some ((if a then 1 else 0)==b)
 |_+1,.int a,.bl b=>some (a==(if b then 1 else 0))
 |n+1,.lst xs,.lst ys=>eqL (eqF n) xs ys
 |n+1,.tup xs,.tup ys=>eqL (eqF n) xs ys
 |_+1,.dct _,_=>none
 |_+1,.cl _,_=>none
 |_+1,.ob _ _ _,_=>none
 |_+1,_,.dct _=>none
 |_+1,_,.cl _=>none
 |_+1,_,.ob _ _ _=>none
 |_+1,_,_=>some false
def eqJ(f:D->D->Option Bool)(xs ys:List D)(j:Nat):Bool:=match xs[j]?,ys[j]? with
 |some d,some e=>(f d e).getD false
 |_,_=>false
theorem zfJ{f:D->D->Option Bool}:∀{xs ys:List D}{b:Bool},eqL f xs ys=some b->(∀(j:Nat) d e,xs[j]? = some d->ys[j]? = some e->∃c,f d e=some c)/\
 b=((List.range (min xs.length ys.length)).all (eqJ f xs ys)&&xs.length==ys.length)
 | [],[],b,h=>by cases h;exact⟨λj d e h=>by simp at h,by simp⟩
 | [],y::t,b,h=>by cases h;exact⟨λj d e h=>by simp at h,by simp⟩
 |x::r,[],b,h=>by cases h;exact⟨λj d e _ h=>by simp at h,by simp⟩
 |x::r,y::t,b,h=>by
  obtain⟨b1,h1,h⟩:=bS_ (show(f x y).bind _=_ from h)
  obtain⟨c1,h2,h⟩:=bS_ h
  cases h
  obtain⟨k1,k2⟩:=zfJ h2
  refine⟨λj d e hd he=>?_, ?_⟩
  · cases j with
    |zero=>simp at hd he;subst hd he;exact⟨b1,h1⟩
    |succ j=>exact k1 j d e (by simpa using hd) (by simpa using he)
  · have e0:min (x::r).length (y::t).length=min r.length t.length+1:=by simp only[zzQ];omega
    rw[e0,List.range_succ_eq_map,List.all_cons,List.all_map,k2]
    have e1:eqJ f (x::r) (y::t) 0=b1:=by show(f x y).getD false=b1;rw[h1];rfl
    have e2:(eqJ f (x::r) (y::t)∘Nat.succ)=eqJ f r t:=by
     funext j
     show eqJ f (x::r) (y::t) (j+1)=_
     unfold eqJ
     simp
    have e3:((x::r).length==(y::t).length)=(r.length==t.length):=by
     by_cases hh:r.length=t.length<;>simp[hh]
    rw[e1,e2,e3,Bool.and_assoc]
structure EqAll(A:Around)(s:Shared)(u v:Value)(b:Bool):Prop where
 rc:SeqAt.RcAt A s u v b
 ne:SeqAt.RcNeAt A s u v (!b)
 eq:SeqAt.EqAt A s u v b
section
variable{X:Cx}{kd:KD}{pins:List (Addr×Obj)}{σ:St}{H:Hp}{s:Shared}{O:Addr->Prop}
theorem zlC(I:Inv X pins σ H s){a:Addr}{xs ys:List V}(h:SqT X.K H a xs)(h':SqL X.K H a ys):False:=by
 obtain⟨_,_,⟨o,e,c,_⟩,_⟩:=I.tuple h
 obtain⟨_,_,⟨o',n,e',c',_⟩,_⟩:=I.list h'
 rw[e]at e'
 cases e'
 rw[c]at c'
 exact absurd c' (by decide)
theorem zlb(I:Inv X pins σ H s):∀(n:Nat) (v:V) (d e:D) (b:Bool),Vw X.K kd O H v d->Vw X.K kd O H v e->eqF n d e=some b->b=true
 |0,_,_,_,_,_,_,h=>by cases h
 |n+1,v,d,e,b,h1,h2,h=>by
  have lst:∀(vs:List V) (ds es:List D) (b:Bool),RpL X.K kd O H vs ds->RpL X.K kd O H vs es->eqL (eqF n) ds es=some b->b=true:=by
   intro vs
   induction vs with
   |nil=>intro ds es b r1 r2 h;cases r1;cases r2;cases h;rfl
   |cons v vs ih=>
    intro ds es b r1 r2 h
    cases r1 with
    |cons a1 r1=>
     cases r2 with
     |cons a2 r2=>
      obtain⟨b1,k1,h⟩:=bS_ (show(eqF n _ _).bind _=_ from h)
      obtain⟨c1,k2,h⟩:=bS_ h
      cases h
      rw[zlb I n _ _ _ _ a1.vw a2.vw k1,ih _ _ _ r1 r2 k2]
      rfl
  cases h1 with
  |non=>cases h2;cases h;rfl
  |bl x=>cases h2;cases h;simp
  |int x=>cases h2;cases h;simp
  |str x=>cases h2;cases h;simp
  |tup r1 s1 l1=>
   cases h2 with
   |tup r2 s2 l2=>
    have:=I.tuple_inj s1 s2
    subst this
    exact lst _ _ _ _ l1 l2 h
   |lst s2 l2=>exact(zlC I s1 s2.sq).elim
   |_=>cases h
  |lst s1 l1=>
   cases h2 with
   |tup r2 s2 l2=>exact(zlC I s2 s1.sq).elim
   |lst s2 l2=>
    have:=I.list_inj s1.sq s2.sq
    subst this
    exact lst _ _ _ _ l1 l2 h
   |_=>cases h
  |_=>cases h
theorem zhx(I:Inv X pins σ H s):∀(n:Nat) (A:Around) (x y:V) (d e:D) (u v:Value) (b:Bool),A.units+n<cLine->Vw X.K kd O H x d->Vw X.K kd O H y e->RelV x u->RelV y v->eqF n d e=some b->EqAll A s u v b
 |0,_,_,_,_,_,_,_,_,_,_,_,_,_,h=>by cases h
 |n+1,A,x,y,d,e,u,v,b,hu,h1,h2,r1,r2,h=>by
  have hu0:A.units<cLine:=by omega
  have itm:∀{vs ws:List V}{its its2:List Value}{ds es:List D},RpL X.K kd O H vs ds->RpL X.K kd O H ws es->Vals vs its->Vals ws its2->(∀(j:Nat) d e,ds[j]? = some d->es[j]? = some e->∃c,eqF n d e=some c)->
   ∀j (h1:j<its.toArray.size) (h2:j<its2.toArray.size),SeqAt.EqAt A.in1 s its.toArray[j] its2.toArray[j] (eqJ (eqF n) ds es j):=by
   intro vs ws its its2 ds es l1 l2 v1 v2 hd j j1 j2
   have q1:j<ds.length:=by rw[<-l1.length,v1.length];simpa using j1
   have q2:j<es.length:=by rw[<-l2.length,v2.length];simpa using j2
   obtain⟨a1,ha1,ra1⟩:=l1.get (zzB q1)
   obtain⟨a2,ha2,ra2⟩:=l2.get (zzB q2)
   obtain⟨u1,hu1,ru1⟩:=v1.get ha1
   obtain⟨u2,hu2,ru2⟩:=v2.get ha2
   obtain⟨c,hc⟩:=hd j _ _ (zzB q1) (zzB q2)
   have e1:its.toArray[j]=u1:=by
    have:=(zzD.mp hu1).2
    simpa using this
   have e2:its2.toArray[j]=u2:=by
    have:=(zzD.mp hu2).2
    simpa using this
   rw[e1,e2]
   have e3:eqJ (eqF n) ds es j=c:=by
    unfold eqJ
    rw[zzB q1,zzB q2]
    show(eqF n _ _).getD false=c
    rw[hc];rfl
   rw[e3]
   exact(zhx I n A.in1 a1 a2 _ _ u1 u2 c (by show A.units+1+n<cLine;omega) ra1.vw ra2.vw ru1 ru2 hc).eq
  have same:∀{a a':Addr},x = .ref a->y = .ref a'->a=a'->b=true:=by
   intro a a' e1 e2 e3
   subst e1 e2 e3
   exact zlb I (n+1) _ _ _ _ h1 h2 h
  cases h1 with
  |non=>
   cases r1
   cases h2 with
   |non=>cases r2;cases h;exact⟨SeqAt.RcAt.none_none,SeqAt.RcNeAt.none_none,SeqAt.EqAt.same _⟩
   |bl=>cases r2;cases h;exact⟨SeqAt.RcAt.none_bool _,SeqAt.RcNeAt.none_bool _,SeqAt.EqAt.none_bool _⟩
   |int=>obtain⟨t,rfl⟩:=r2;cases h;exact⟨SeqAt.RcAt.none_int _ _,SeqAt.RcNeAt.none_int _ _,SeqAt.EqAt.none_int _ _⟩
   |str=>obtain⟨t,rfl⟩:=r2;cases h;exact⟨SeqAt.RcAt.none_str _ _,SeqAt.RcNeAt.none_str _ _,SeqAt.EqAt.none_str _ _⟩
   |tup r s2 l2=>
    cases r2;cases h
    obtain⟨its,rv,p,_⟩:=I.tuple s2
    exact⟨SeqAt.RcAt.none_tuple p hu0,SeqAt.RcNeAt.none_tuple p hu0,SeqAt.EqAt.none_tuple p hu0⟩
   |lst s2 l2=>
    cases r2;cases h
    obtain⟨its,rv,p,_⟩:=I.list s2.sq
    exact⟨SeqAt.RcAt.none_list p.isList hu0,SeqAt.RcNeAt.none_list p.isList hu0,SeqAt.EqAt.none_list p.isList hu0⟩
   |_=>cases h
  |bl c=>
   cases r1
   cases h2 with
   |non=>cases r2;cases h;exact⟨SeqAt.RcAt.bool_none _,SeqAt.RcNeAt.bool_none _,SeqAt.EqAt.bool_none _⟩
   |bl=>cases r2;cases h;exact⟨SeqAt.RcAt.bool_bool _ _,SeqAt.RcNeAt.bool_bool _ _,SeqAt.EqAt.bool_bool _ _⟩
   |int=>obtain⟨t,rfl⟩:=r2;cases h;exact⟨SeqAt.RcAt.bool_int _ _ _,SeqAt.RcNeAt.bool_int _ _ _,SeqAt.EqAt.bool_int _ _ _⟩
   |str=>obtain⟨t,rfl⟩:=r2;cases h;exact⟨SeqAt.RcAt.bool_str _ _ _,SeqAt.RcNeAt.bool_str _ _ _,SeqAt.EqAt.bool_str _ _ _⟩
   |tup r s2 l2=>
    cases r2;cases h
    obtain⟨its,rv,p,_⟩:=I.tuple s2
    exact⟨SeqAt.RcAt.bool_tuple _ p hu0,SeqAt.RcNeAt.bool_tuple _ p hu0,SeqAt.EqAt.bool_tuple _ p hu0⟩
   |lst s2 l2=>
    cases r2;cases h
    obtain⟨its,rv,p,_⟩:=I.list s2.sq
    exact⟨SeqAt.RcAt.bool_list _ p.isList hu0,SeqAt.RcNeAt.bool_list _ p.isList hu0,SeqAt.EqAt.bool_list _ p.isList hu0⟩
   |_=>cases h
  |int c=>
   obtain⟨t0,rfl⟩:=r1
   cases h2 with
   |non=>cases r2;cases h;exact⟨SeqAt.RcAt.int_none _ _,SeqAt.RcNeAt.int_none _ _,SeqAt.EqAt.int_none _ _⟩
   |bl=>cases r2;cases h;exact⟨SeqAt.RcAt.int_bool _ _ _,SeqAt.RcNeAt.int_bool _ _ _,SeqAt.EqAt.int_bool _ _ _⟩
   |int=>obtain⟨t,rfl⟩:=r2;cases h;exact⟨SeqAt.RcAt.int_int _ _ _ _,SeqAt.RcNeAt.int_int _ _ _ _,SeqAt.EqAt.int_int _ _ _ _⟩
   |str=>obtain⟨t,rfl⟩:=r2;cases h;exact⟨SeqAt.RcAt.int_str _ _ _ _,SeqAt.RcNeAt.int_str _ _ _ _,SeqAt.EqAt.int_str _ _ _ _⟩
   |tup r s2 l2=>
    cases r2;cases h
    obtain⟨its,rv,p,_⟩:=I.tuple s2
    exact⟨SeqAt.RcAt.int_tuple _ _ p hu0,SeqAt.RcNeAt.int_tuple _ _ p hu0,SeqAt.EqAt.int_tuple _ _ p hu0⟩
   |lst s2 l2=>
    cases r2;cases h
    obtain⟨its,rv,p,_⟩:=I.list s2.sq
    exact⟨SeqAt.RcAt.int_list _ _ p.isList hu0,SeqAt.RcNeAt.int_list _ _ p.isList hu0,SeqAt.EqAt.int_list _ _ p.isList hu0⟩
   |_=>cases h
  |str c=>
   obtain⟨t0,rfl⟩:=r1
   cases h2 with
   |non=>cases r2;cases h;exact⟨SeqAt.RcAt.str_none _ _,SeqAt.RcNeAt.str_none _ _,SeqAt.EqAt.str_none _ _⟩
   |bl=>cases r2;cases h;exact⟨SeqAt.RcAt.str_bool _ _ _,SeqAt.RcNeAt.str_bool _ _ _,SeqAt.EqAt.str_bool _ _ _⟩
   |int=>obtain⟨t,rfl⟩:=r2;cases h;exact⟨SeqAt.RcAt.str_int _ _ _ _,SeqAt.RcNeAt.str_int _ _ _ _,SeqAt.EqAt.str_int _ _ _ _⟩
   |str=>obtain⟨t,rfl⟩:=r2;cases h;exact⟨SeqAt.RcAt.str_str _ _ _ _,SeqAt.RcNeAt.str_str _ _ _ _,SeqAt.EqAt.str_str _ _ _ _⟩
   |tup r s2 l2=>
    cases r2;cases h
    obtain⟨its,rv,p,_⟩:=I.tuple s2
    exact⟨SeqAt.RcAt.str_tuple _ _ p hu0,SeqAt.RcNeAt.str_tuple _ _ p hu0,SeqAt.EqAt.str_tuple _ _ p hu0⟩
   |lst s2 l2=>
    cases r2;cases h
    obtain⟨its,rv,p,_⟩:=I.list s2.sq
    exact⟨SeqAt.RcAt.str_list _ _ p.isList hu0,SeqAt.RcNeAt.str_list _ _ p.isList hu0,SeqAt.EqAt.str_list _ _ p.isList hu0⟩
   |_=>cases h
  | @tup a1 vs1 ds1 r s1 l1=>
   cases r1
   obtain⟨its1,rv1,p1,_⟩:=I.tuple s1
   cases h2 with
   |non=>cases r2;cases h;exact⟨SeqAt.RcAt.tuple_none p1 hu0,SeqAt.RcNeAt.tuple_none p1 hu0,SeqAt.EqAt.tuple_none p1 hu0⟩
   |bl=>cases r2;cases h;exact⟨SeqAt.RcAt.tuple_bool _ p1 hu0,SeqAt.RcNeAt.tuple_bool _ p1 hu0,SeqAt.EqAt.tuple_bool _ p1 hu0⟩
   |int=>obtain⟨t,rfl⟩:=r2;cases h;exact⟨SeqAt.RcAt.tuple_int _ _ p1 hu0,SeqAt.RcNeAt.tuple_int _ _ p1 hu0,SeqAt.EqAt.tuple_int _ _ p1 hu0⟩
   |str=>obtain⟨t,rfl⟩:=r2;cases h;exact⟨SeqAt.RcAt.tuple_str _ _ p1 hu0,SeqAt.RcNeAt.tuple_str _ _ p1 hu0,SeqAt.EqAt.tuple_str _ _ p1 hu0⟩
   | @tup a2 vs2 ds2 r' s2 l2=>
    cases r2
    obtain⟨its2,rv2,p2,_⟩:=I.tuple s2
    obtain⟨k1,k2⟩:=zfJ h
    have he:=itm l1 l2 rv1 rv2 k1
    have eb:((List.range (min its1.toArray.size its2.toArray.size)).all (eqJ (eqF n) ds1 ds2)&&its1.toArray.size==its2.toArray.size)=b:=by
     rw[k2,zzE,zzE,<-rv1.length,<-rv2.length,l1.length,l2.length]
    have b1:=SeqAt.RcAt.tuples p1 p2 hu0 he
    have b2:=SeqAt.RcNeAt.tuples p1 p2 hu0 he
    rw[eb]at b1 b2
    refine⟨b1,b2, ?_⟩
    by_cases ha:a1=a2
    · have hb:=same rfl rfl ha
      subst ha
      rw[hb]
      exact SeqAt.EqAt.same _
    · exact SeqAt.EqAt.of_refs ha b1
   |lst s2 l2=>
    cases r2;cases h
    obtain⟨its,rv,p,_⟩:=I.list s2.sq
    exact⟨SeqAt.RcAt.tuple_list p1 p.isList hu0,SeqAt.RcNeAt.tuple_list p1 p.isList hu0,SeqAt.EqAt.tuple_list p1 p.isList hu0⟩
   |_=>cases h
  | @lst a1 vs1 ds1 s1 l1=>
   cases r1
   obtain⟨its1,rv1,p1,_⟩:=I.list s1.sq
   cases h2 with
   |non=>cases r2;cases h;exact⟨SeqAt.RcAt.list_none p1.isList hu0,SeqAt.RcNeAt.list_none p1.isList hu0,SeqAt.EqAt.list_none p1.isList hu0⟩
   |bl=>cases r2;cases h;exact⟨SeqAt.RcAt.list_bool _ p1.isList hu0,SeqAt.RcNeAt.list_bool _ p1.isList hu0,SeqAt.EqAt.list_bool _ p1.isList hu0⟩
   |int=>obtain⟨t,rfl⟩:=r2;cases h;exact⟨SeqAt.RcAt.list_int _ _ p1.isList hu0,SeqAt.RcNeAt.list_int _ _ p1.isList hu0,SeqAt.EqAt.list_int _ _ p1.isList hu0⟩
   |str=>obtain⟨t,rfl⟩:=r2;cases h;exact⟨SeqAt.RcAt.list_str _ _ p1.isList hu0,SeqAt.RcNeAt.list_str _ _ p1.isList hu0,SeqAt.EqAt.list_str _ _ p1.isList hu0⟩
   |tup r' s2 l2=>
    cases r2;cases h
    obtain⟨its2,rv2,p2,_⟩:=I.tuple s2
    exact⟨SeqAt.RcAt.list_tuple p1.isList p2 hu0,SeqAt.RcNeAt.list_tuple p1.isList p2 hu0,SeqAt.EqAt.list_tuple p1.isList p2 hu0⟩
   | @lst a2 vs2 ds2 s2 l2=>
    cases r2
    obtain⟨its2,rv2,p2,_⟩:=I.list s2.sq
    obtain⟨k1,k2⟩:=zfJ h
    have he:=itm l1 l2 rv1 rv2 k1
    have ez1:its1.toArray.size=_:=zzE.trans (rv1.length.symm.trans l1.length)
    have ez2:its2.toArray.size=_:=zzE.trans (rv2.length.symm.trans l2.length)
    have both:SeqAt.RcAt A s (.ref a1) (.ref a2) b/\SeqAt.RcNeAt A s (.ref a1) (.ref a2) (!b):=by
     by_cases hz:its1.toArray.size=its2.toArray.size
     · have b1:=SeqAt.RcAt.lists p1.isList p2.isList hz hu0 he
       have b2:=SeqAt.RcNeAt.lists p1.isList p2.isList hz hu0 he
       have eb:(List.range its1.toArray.size).all (eqJ (eqF n) ds1 ds2)=b:=by
        rw[k2,<-ez1,<-ez2,<-hz,Nat.min_self]
        simp
       rw[eb]at b1 b2
       exact⟨b1,b2⟩
     · have hz':(its1.toArray.size != its2.toArray.size)=true:=by simpa using hz
       have eb:b=false:=by
        rw[k2,<-ez1,<-ez2]
        have:(its1.toArray.size==its2.toArray.size)=false:=by simpa using hz
        rw[this,Bool.and_false]
       rw[eb]
       exact⟨SeqAt.RcAt.lists_lengths p1.isList p2.isList hz' hu0,SeqAt.RcNeAt.lists_lengths p1.isList p2.isList hz' hu0⟩
    refine⟨both.1,both.2, ?_⟩
    by_cases ha:a1=a2
    · have hb:=same rfl rfl ha
      subst ha
      rw[hb]
      exact SeqAt.EqAt.same _
    · exact SeqAt.EqAt.of_refs ha both.1
   |_=>cases h
  |_=>cases h
end
structure DkAt(P:Program)(w:World)(h:Heap)(a:Addr)(kvs:List (Key×V)):Prop where
 le:kvs.length<=sizeLine
 ns:(a==sysModules)=false
 ex:∃vs,KV kvs vs/\h.DictOf (wN P w) a vs
structure KdOk(X:Cx)(kd:KD):Prop where
 inj:∀a k k',kd a k->kd a k'->k=k'
 inK:∀a k,kd a k->∃o,X.K.lookup a=some o
 at_:∀a k h,kd a k->X.K.In h->DkAt X.prog X.w h a k
section
variable{X:Cx}{kd:KD}{pins:List (Addr×Obj)}{σ:St}{H:Hp}{s:Shared}{O:Addr->Prop}
theorem zgf(I:Inv X pins σ H s)(hk:KdOk X kd){a:Addr}{kvs:List (Key×V)}(h:Rd H a (.dK kvs)\/kd a kvs):DkAt X.prog X.w s.heap a kvs:=by
 rcases h with h|h
 · obtain⟨z,hd,vs,rel,dd⟩:=zuq I.hok h
   exact⟨z,hd,vs,rel,dd⟩
 · exact hk.at_ _ _ _ h I.kIn
theorem zoc(I:Inv X pins σ H s):∀(n:Nat) (v:V) (d e x:D) (b c:Bool),Vw X.K kd O H v d->Vw X.K kd O H v e->eqF n d x=some b->eqF n e x=some c->b=c
 |0,_,_,_,_,_,_,_,_,h,_=>by cases h
 |n+1,v,d,e,x,b,c,h1,h2,h,h'=>by
  have lst:∀(vs:List V) (ds es xs:List D) (b c:Bool),RpL X.K kd O H vs ds->RpL X.K kd O H vs es->eqL (eqF n) ds xs=some b->eqL (eqF n) es xs=some c->b=c:=by
   intro vs
   induction vs with
   |nil=>intro ds es xs b c r1 r2 h h';cases r1;cases r2;exact zzW (h.symm.trans h')
   |cons v vs ih=>
    intro ds es xs b c r1 r2 h h'
    cases r1 with
    |cons a1 r1=>
     cases r2 with
     |cons a2 r2=>
      cases xs with
      |nil=>cases h;cases h';rfl
      |cons x xs=>
       obtain⟨b1,k1,h⟩:=bS_ (show(eqF n _ _).bind _=_ from h)
       obtain⟨c1,k2,h⟩:=bS_ h
       obtain⟨b2,k3,h'⟩:=bS_ (show(eqF n _ _).bind _=_ from h')
       obtain⟨c2,k4,h'⟩:=bS_ h'
       cases h;cases h'
       rw[zoc I n _ _ _ _ _ _ a1.vw a2.vw k1 k3,ih _ _ _ _ _ r1 r2 k2 k4]
  cases h1 with
  |tup r1 s1 l1=>
   cases h2 with
   |tup r2 s2 l2=>
    have:=I.tuple_inj s1 s2
    subst this
    cases x with
    |tup xs=>exact lst _ _ _ _ _ _ l1 l2 h h'
    |_=>exact zzW (h.symm.trans h')
   |lst s2 l2=>exact(zlC I s1 s2.sq).elim
   |_=>cases h'
  |lst s1 l1=>
   cases h2 with
   |tup r2 s2 l2=>exact(zlC I s2 s1.sq).elim
   |lst s2 l2=>
    have:=I.list_inj s1.sq s2.sq
    subst this
    cases x with
    |lst xs=>exact lst _ _ _ _ _ _ l1 l2 h h'
    |_=>exact zzW (h.symm.trans h')
   |_=>cases h'
  |dct s1 l1=>cases h
  |cl=>cases h
  |ob=>cases h
  |_=>cases h2;exact zzW (h.symm.trans h')
end
def znl:D->Option Key
 | .int i=>some (.inl i)
 | .str x=>some (.inr x)
 |_=>none
def V5(kvs:List (Key×D))(k:Key):Option D:=(kvs.find? λkv=>decide (kv.1=k)).map (·.2)
theorem zhF{K:zC}{kd:KD}{O:Addr->Prop}{H:Hp}(k:Key){vs:List (Key×V)}{ds:List (Key×D)}(h:RpM K kd O H vs ds):(∃v d,zcM vs k=some v/\V5 ds k=some d/\Rp K kd O H v d)\/(zcM vs k=none/\V5 ds k=none):=
 RpM.ind (P:=λvs ds=>(∃v d,zcM vs k=some v/\V5 ds k=some d/\Rp K kd O H v d)\/(zcM vs k=none/\V5 ds k=none)) (.inr ⟨rfl,rfl⟩) (λ{k' v d vs ds} a _ ih=>by
  by_cases e:k'=k
  · left
    refine⟨_,_, ?_, ?_,a⟩
    · unfold zcM;simp[e]
    · unfold V5;simp[e]
  · rcases ih with⟨v,d,h1,h2,h3⟩|⟨h1,h2⟩
    · left
      refine⟨v,d, ?_, ?_,h3⟩
      · unfold zcM at h1 ⊢;simpa[e]using h1
      · unfold V5 at h2 ⊢;simpa[e]using h2
    · right
      refine⟨?_, ?_⟩
      · unfold zcM at h1 ⊢;simpa[e]using h1
      · unfold V5 at h2 ⊢;simpa[e]using h2) h
def anyF(f:D->Option Bool):List D->Option Bool
 | []=>some false
 |x::r=>(f x).bind λb=>(anyF f r).bind λc=>some (b||c)
def blR(b:Bool):R0:=.im (.bl b)
def inP(x:D):D->Option Bool
 | .lst ys=>anyF (λy=>eqF 50 y x) ys
 | .tup ys=>anyF (λy=>eqF 50 y x) ys
 | .str y=>match x with | .str i=>some (!(Builtin.Str.occurrences y i 0 y.length 1).isEmpty)|_=>none
 | .dct kvs=>(znl x).bind λk=>some (V5 kvs k).isSome
 |_=>none
def isP:D->D->Option Bool
 |d,.non=>some (match d with | .non=>true|_=>false)
 |d,.bl b=>match d with | .bl c=>some (c==b)|_=>some false
 |_,_=>none
def zho(f:Int->Int->Bool):D->D->Option R0:=onI λi j=>some (blR (f i j))
def zO(o:CmpOp)(d e:D):Option R0:=match o with
 | .Eq=>(eqF 60 d e).bind λb=>some (blR b)
 | .NotEq=>(eqF 60 d e).bind λb=>some (blR !b)
 | .Lt=>zho (λi j=>decide (i<j)) d e
 | .LtE=>zho (λi j=>decide (i<=j)) d e
 | .Gt=>zho (λi j=>decide (j<i)) d e
 | .GtE=>zho (λi j=>decide (j<=i)) d e
 | .In=>(inP d e).bind λb=>some (blR b)
 | .NotIn=>(inP d e).bind λb=>some (blR !b)
 | .Is=>(isP d e).bind λb=>some (blR b)
 | .IsNot=>(isP d e).bind λb=>some (blR !b)
theorem zbc{o:Option Bool}{f:Bool->Bool}{r:R0}(h:(o.bind λb=>some (blR (f b)))=some r):∃k,r = .im (.bl k):=by
 obtain⟨b,_,h⟩:=bS_ h
 cases h
 exact⟨_,rfl⟩
theorem zeE{x y:D}{f:Int->Int->Bool}{r:R0}(h:zho f x y=some r):∃k,r = .im (.bl k):=by
 obtain⟨i,_,h⟩:=bS_ (show(asI x).bind _=_ from h)
 obtain⟨j,_,h⟩:=bS_ h
 cases h
 exact⟨_,rfl⟩
theorem yw(op:CmpOp)(x y:D)(r:R0)(h:zO op x y=some r):∃k,r = .im (.bl k):=by
 cases op with
 |Eq=>exact zbc (f:=id) h
 |NotEq=>exact zbc (f:=not) h
 |Lt=>exact zeE h
 |LtE=>exact zeE h
 |Gt=>exact zeE h
 |GtE=>exact zeE h
 |In=>exact zbc (f:=id) h
 |NotIn=>exact zbc (f:=not) h
 |Is=>exact zbc (f:=id) h
 |IsNot=>exact zbc (f:=not) h
section
variable{X:Cx}{kd:KD}{pins:List (Addr×Obj)}{σ:St}{H:Hp}{s:Shared}{O:Addr->Prop}
noncomputable def eqW(K:zC)(kd:KD)(O:Addr->Prop)(H:Hp)(n:Nat)(x:D)(u:Value):Bool:=@decide (∃v d,RelV v u/\Rp K kd O H v d/\eqF n d x=some true) (Classical.propDecidable _)
theorem znZ(I:Inv X pins σ H s)(hk:KdOk X kd){n:Nat}{x d:D}{v:V}{u:Value}{b:Bool}(r:RelV v u)(p:Rp X.K kd O H v d)(e:eqF n d x=some b):eqW X.K kd O H n x u=b:=by
 unfold eqW
 cases b with
 |true=>exact @zyL _ (Classical.propDecidable _) ⟨v,d,r,p,e⟩
 |false=>
  refine @zyD _ (Classical.propDecidable _) λ⟨v',d',r',p',e'⟩=>?_
  have:=r.inj r'
  subst this
  exact Bool.noConfusion (zoc I n _ _ _ _ _ _ p.vw p'.vw e e')
theorem zeL(I:Inv X pins σ H s)(hk:KdOk X kd){n:Nat}{x:D}{vs:List V}{us:List Value}{ds:List D}{b:Bool}(hv:Vals vs us)(h:RpL X.K kd O H vs ds)(e:anyF (λy=>eqF n y x) ds=some b):us.any (eqW X.K kd O H n x)=b:=
 RpL.ind (P:=λvs ds=>∀us b,Vals vs us->anyF (λy=>eqF n y x) ds=some b->us.any (eqW X.K kd O H n x)=b) (λus b hv e=>by cases e;cases hv;rfl) (λ{v d vs ds} a _ ih us b hv h=>by
  cases hv with
  |cons r t=>
   obtain⟨b1,h1,h⟩:=bS_ (show(eqF n _ x).bind _=_ from h)
   obtain⟨c1,h2,h⟩:=bS_ h
   cases h
   rw[List.any_cons,znZ I hk r a h1,ih _ _ t h2]) h us b hv e
theorem V9{f:D->Option Bool}:∀{ds:List D}{b:Bool},anyF f ds=some b->∀d ∈ ds,∃c,f d=some c
 | [],_,_,d,hd=>by simp at hd
 |x::r,b,h,d,hd=>by
  obtain⟨b1,h1,h⟩:=bS_ (show(f x).bind _=_ from h)
  obtain⟨c1,h2,h⟩:=bS_ h
  rcases zS.mp hd with e|e
  · subst e;exact⟨b1,h1⟩
  · exact V9 h2 d e
theorem zeP(I:Inv X pins σ H s)(hk:KdOk X kd){n:Nat}{A:Around}(hu:A.units+n<cLine){x:V}{v:Value}{d:D}(vx:Vw X.K kd O H x d)(rx:RelV x v){vs:List V}{us:List Value}{ds:List D}(hv:Vals vs us)(h:RpL X.K kd O H vs ds)(k:∀e ∈ ds,∃c,eqF n e d=some c):∀u ∈ us,SeqAt.EqAt A s u v (eqW X.K kd O H n d u):=
 RpL.ind (P:=λvs ds=>∀us,Vals vs us->(∀e ∈ ds,∃c,eqF n e d=some c)->∀u ∈ us,SeqAt.EqAt A s u v (eqW X.K kd O H n d u)) (λus hv _ u hu=>by cases hv;simp at hu) (λa q ih us hv h u hm=>by
  cases hv with
  |cons r t=>
   rcases zS.mp hm with e|e
   · subst e
     obtain⟨c,hc⟩:=h _ zzC
     rw[znZ I hk r a hc]
     exact(zhx I n A _ _ _ _ _ _ _ hu a.vw vx r rx hc).eq
   · exact ih _ t (λe he=>h e (zzA _ he)) u e) h us hv k
theorem zfT{A:Around}{E:Value->Shared->Prop}{x:V}{v:Value}{b c:Bool}{d:D}{Q:Bool->Shared->Prop}(vx:Vw X.K kd O H x d)(rx:RelV x v)(e:isP d (.bl b)=some c)(h:Q c s):wpAny (model X.prog X.w) A (isSame v (.bool b)) Q E s:=by
 cases vx with
 |non=>cases rx;cases e;exact zxE h
 |bl k=>
  cases rx
  have e:some (k==b)=some c:=e
  cases e
  refine zxE ?_
  cases k<;>cases b<;>exact h
 |int=>obtain⟨t,rfl⟩:=rx;cases e;exact zxE h
 |str=>obtain⟨t,rfl⟩:=rx;cases e;exact zxE h
 |tup=>cases rx;cases e;exact zxE h
 |lst=>cases rx;cases e;exact zxE h
 |dct=>cases rx;cases e;exact zxE h
 |cl=>cases rx;cases e;exact zxE h
 |ob=>cases rx;cases e;exact zxE h
theorem zZ(hk:KdOk X kd)(hu:X.A.units+100<cLine)(op:CmpOp):OpD X kd (compareOp op) (zO op):=by
 intro pins s σ H x y v u Q I rx ry h
 obtain⟨O,d,e,r,ht,vx,vy,he,q⟩:=h
 cases op with
 |Eq=>
  obtain⟨b,h1,he⟩:=bS_ (show(eqF 60 d e).bind _=_ from he)
  cases he
  exact(zhx I 60 X.A x y d e v u b (by omega) vx vy rx ry h1).rc _ _ _ _ (vA I (yz q (.bl _)) rfl)
 |NotEq=>
  obtain⟨b,h1,he⟩:=bS_ (show(eqF 60 d e).bind _=_ from he)
  cases he
  exact(zhx I 60 X.A x y d e v u b (by omega) vx vy rx ry h1).ne _ _ _ _ (vA I (yz q (.bl _)) rfl)
 |Lt=>
  obtain⟨i,j,rfl,rfl,he⟩:=X3 vx vy he
  cases he
  exact ztJ pins s σ H _ _ v u Q I rx ry ⟨_,_,rfl,rfl,yz q (.bl _)⟩
 |LtE=>
  obtain⟨i,j,rfl,rfl,he⟩:=X3 vx vy he
  cases he
  exact ztz pins s σ H _ _ v u Q I rx ry ⟨_,_,rfl,rfl,yz q (.bl _)⟩
 |Gt=>
  obtain⟨i,j,rfl,rfl,he⟩:=X3 vx vy he
  cases he
  exact ztT pins s σ H _ _ v u Q I rx ry ⟨_,_,rfl,rfl,yz q (.bl _)⟩
 |GtE=>
  obtain⟨i,j,rfl,rfl,he⟩:=X3 vx vy he
  cases he
  exact zuj pins s σ H _ _ v u Q I rx ry ⟨_,_,rfl,rfl,yz q (.bl _)⟩
 |In=>
  obtain⟨b,h1,he⟩:=bS_ (show(inP d e).bind _=_ from he)
  cases he
  cases vy with
  |lst hs rl=>
   cases ry
   obtain⟨its,rv,p,_⟩:=I.list hs.sq
   refine SeqAt.in_listAt (eqW X.K kd O H 50 d) p.isList (λw hw=>zeP I hk (by show X.A.units+1+50<cLine;omega) vx rx rv rl (V9 h1) w (by simpa using hw)) ?_
   have:=zeL I hk rv rl h1
   rw[show its.toArray.any (eqW X.K kd O H 50 d)=b by rw[<-this];simp]
   exact vA (I) (yz q (.bl _)) rfl
  |tup rp hs rl=>
   cases ry
   obtain⟨its,rv,p,_⟩:=I.tuple hs
   refine SeqAt.in_tupleAt (eqW X.K kd O H 50 d) p (λw hw=>zeP I hk (by show X.A.units+1+50<cLine;omega) vx rx rv rl (V9 h1) w (by simpa using hw)) ?_
   have:=zeL I hk rv rl h1
   rw[show its.toArray.any (eqW X.K kd O H 50 d)=b by rw[<-this];simp]
   exact vA (I) (yz q (.bl _)) rfl
  |str z=>
   cases vx with
   |str i=>cases h1;exact zlL pins s σ H _ _ v u Q I rx ry ⟨_,_,rfl,rfl,yz q (.bl _)⟩
   |_=>cases h1
  |dct hs rm=>
   cases ry
   obtain⟨k,k1,h1⟩:=bS_ h1
   cases h1
   obtain⟨z,hd,vs,rel,dd⟩:=zgf I hk hs
   have ek:x=kV k:=by
    cases vx with
    |int i=>cases k1;rfl
    |str i=>cases k1;rfl
    |_=>cases k1
   subst ek
   refine wpAny_in_of (zli rx) hd dd.mapOf ?_
   rw[<-(rel.val k).isSome_eq]
   rcases zhF k rm with⟨v1,d1,e1,e2,_⟩|⟨e1,e2⟩
   · rw[e1];rw[e2]at q;exact vA (I.tok _) (yz q (.bl _)) rfl
   · rw[e1];rw[e2]at q;exact vA (I.tok _) (yz q (.bl _)) rfl
  |_=>cases h1
 |NotIn=>
  obtain⟨b,h1,he⟩:=bS_ (show(inP d e).bind _=_ from he)
  cases he
  cases vy with
  |lst hs rl=>
   cases ry
   obtain⟨its,rv,p,_⟩:=I.list hs.sq
   refine SeqAt.notIn_listAt (eqW X.K kd O H 50 d) p.isList (λw hw=>zeP I hk (by show X.A.units+1+50<cLine;omega) vx rx rv rl (V9 h1) w (by simpa using hw)) ?_
   have:=zeL I hk rv rl h1
   rw[show its.toArray.any (eqW X.K kd O H 50 d)=b by rw[<-this];simp]
   exact vA (I) (yz q (.bl _)) rfl
  |tup rp hs rl=>
   cases ry
   obtain⟨its,rv,p,_⟩:=I.tuple hs
   refine SeqAt.notIn_tupleAt (eqW X.K kd O H 50 d) p (λw hw=>zeP I hk (by show X.A.units+1+50<cLine;omega) vx rx rv rl (V9 h1) w (by simpa using hw)) ?_
   have:=zeL I hk rv rl h1
   rw[show its.toArray.any (eqW X.K kd O H 50 d)=b by rw[<-this];simp]
   exact vA (I) (yz q (.bl _)) rfl
  |str z=>
   cases vx with
   |str i=>cases h1;exact zia pins s σ H _ _ v u Q I rx ry ⟨_,_,rfl,rfl,yz q (.bl _)⟩
   |_=>cases h1
  |dct hs rm=>
   cases ry
   obtain⟨k,k1,h1⟩:=bS_ h1
   cases h1
   obtain⟨z,hd,vs,rel,dd⟩:=zgf I hk hs
   have ek:x=kV k:=by
    cases vx with
    |int i=>cases k1;rfl
    |str i=>cases k1;rfl
    |_=>cases k1
   subst ek
   refine wpAny_notIn_of (zli rx) hd dd.mapOf ?_
   rw[<-(rel.val k).isSome_eq]
   rcases zhF k rm with⟨v1,d1,e1,e2,_⟩|⟨e1,e2⟩
   · rw[e1];rw[e2]at q;exact vA (I.tok _) (yz q (.bl _)) rfl
   · rw[e1];rw[e2]at q;exact vA (I.tok _) (yz q (.bl _)) rfl
  |_=>cases h1
 |Is=>
  obtain⟨b,h1,he⟩:=bS_ (show(isP d e).bind _=_ from he)
  cases he
  cases vy with
  |non=>
   refine zru pins s σ H _ _ v u Q I rx ry ⟨rfl, ?_⟩
   have:decide (x=V.non)=b:=by cases vx<;>(cases h1;rfl)
   rw[this]
   exact yz q (.bl b)
  |bl c=>
   cases ry
   exact zxD (zfT vx rx h1 (zxE (vA I (yz q (.bl _)) rfl)))
  |_=>cases h1
 |IsNot=>
  obtain⟨b,h1,he⟩:=bS_ (show(isP d e).bind _=_ from he)
  cases he
  cases vy with
  |non=>
   refine zqD pins s σ H _ _ v u Q I rx ry ⟨rfl, ?_⟩
   have:decide (x=V.non)=b:=by cases vx<;>(cases h1;rfl)
   rw[this]
   exact yz q (.bl _)
  |bl c=>
   cases ry
   exact zxD (zfT vx rx h1 (zxE (vA I (yz q (.bl _)) rfl)))
  |_=>cases h1
end
theorem zlz{K:zC}{kd:KD}{O:Addr->Prop}{H:Hp}{vs:List V}{ds:List D}{i:Int}{d:D}(r:RpL K kd O H vs ds)(h:atI ds i=some d):∃v,atI vs i=some v/\Rp K kd O H v d:=by
 unfold atI at h ⊢
 obtain⟨j,h1,h2⟩:=bS_ h
 rw[r.length,h1]
 exact r.get h2
def imR(o:Option D):Option R0:=o.bind λd=>some (.im d)
def ixP(x y:D):Option R0:=match x with
 | .lst xs=>(asI y).bind λi=>imR (atI xs i)
 | .tup xs=>(asI y).bind λi=>imR (atI xs i)
 | .str x=>(asI y).bind λi=>if x.length<=sizeLine then(atI x.cps.toList i).bind λc=>some (.im (.str ⟨#[c]⟩))else none
 | .dct kvs=>(znl y).bind λk=>imR (V5 kvs k)
 |_=>none
theorem zft{o:Option D}{r:R0}(h:imR o=some r):∃d,o=some d/\r = .im d:=by
 obtain⟨d,h1,h2⟩:=bS_ (show o.bind _=_ from h)
 cases h2
 exact⟨d,h1,rfl⟩
section
variable{X:Cx}{kd:KD}
theorem znh{K:zC}{O:Addr->Prop}{H:Hp}{x:V}{d:D}{k:Key}(vx:Vw K kd O H x d)(e:znl d=some k):x=kV k:=by
 cases vx with
 |int i=>cases e;rfl
 |str i=>cases e;rfl
 |_=>cases e
theorem zuV(hk:KdOk X kd):IxD X kd ixP:=by
 intro value slice pins s σ H x y v u Q I rx ry h hs
 obtain⟨O,d,e,r,ht,vx,vy,he,q⟩:=h
 cases vx with
 |lst hr rl=>
  obtain⟨i,h0,he⟩:=bS_ (show(asI e).bind _=_ from he)
  obtain⟨rfl,rfl⟩:=Wb vy h0
  obtain⟨d,h1,rfl⟩:=zft he
  obtain⟨w,hw,rw'⟩:=zlz rl h1
  exact zhS value slice pins s σ H _ _ v u Q I rx ry ⟨_,_,_,w,rfl,rfl,hr.sq,hw,yz q rw'⟩ hs
 |tup rp hr rl=>
  obtain⟨i,h0,he⟩:=bS_ (show(asI e).bind _=_ from he)
  obtain⟨rfl,rfl⟩:=Wb vy h0
  obtain⟨d,h1,rfl⟩:=zft he
  obtain⟨w,hw,rw'⟩:=zlz rl h1
  exact zdd value slice pins s σ H _ _ v u Q I rx ry ⟨_,_,_,w,rfl,rfl,hr,hw,yz q rw'⟩ hs
 |str z=>
  obtain⟨i,h0,he⟩:=bS_ (show(asI e).bind _=_ from he)
  obtain⟨rfl,rfl⟩:=Wb vy h0
  obtain⟨hz,he⟩:=ite_some' he
  obtain⟨c,h1,he⟩:=bS_ he
  cases he
  exact zrs value slice pins s σ H _ _ v u Q I rx ry ⟨_,_,c,rfl,rfl,hz,h1,yz q (.str _)⟩ hs
 |dct hr rm=>
  obtain⟨k,h1,he⟩:=bS_ (show(znl e).bind _=_ from he)
  obtain⟨d,h2,rfl⟩:=zft he
  cases rx
  obtain⟨z,hd,vs,rel,dd⟩:=zgf I hk hr
  have:=znh vy h1
  subst this
  rcases zhF k rm with⟨v1,d1,e1,e2,rp⟩|⟨e1,e2⟩
  · rw[h2]at e2
    cases e2
    obtain⟨w',hw,rw'⟩:=zcc.some_of (v:=v1) (o:=valueAt vs k) (by rw[<-e1];exact rel.val k)
    exact tail_any dd.typeIs PySem.F.slot_dict_getitem.lookup (wpAny_getItem_of (zli ry) dd.mapOf hw ⟨v1,H,I.tok _,rw',yz q rp⟩) hs
  · rw[h2]at e2;cases e2
 |_=>cases he
def cutD(xs:List D)(lo hi:Option Int):List D:=(xs.drop (HT.sIx xs.length 0 lo)).take (HT.sIx xs.length xs.length hi-HT.sIx xs.length 0 lo)
theorem zlk{K:zC}{O:Addr->Prop}{H:Hp}{vs:List V}{ds:List D}(r:RpL K kd O H vs ds)(lo hi:Option Int):RpL K kd O H (zjw vs lo hi) (cutD ds lo hi):=by
 unfold zjw cutD
 rw[r.length]
 exact(r.drop _).take _
def slP(x:D)(lo hi:Option Int):Option R0:=match x with
 | .lst xs=>some (.fl (cutD xs lo hi))
 | .tup xs=>if HT.sIx xs.length 0 lo=0/\HT.sIx xs.length xs.length hi=xs.length then none else some (.im (.tup (cutD xs lo hi)))
 |_=>none
abbrev OF:=AS->Option (Option Int×AS)
def oN:OF:=λas=>some (none,as)
def oS(f:EF):OF:=λas=>(f as).bind λp=>(rvI p.1).bind λi=>some (some i,p.2)
def fSl(fa:EF)(fl fh:OF)(g:D->Option Int->Option Int->Option R0):EF:=λas=>(fa as).bind λp=>(fl p.2).bind λl=>(fh l.2).bind λh=>(p.1.frz.view h.2).bind λx=>(g x.1 l.1 h.1).bind λr=>(wrap x.2 r).bind λz=>some (z,h.2)
def alO(K:zC)(kd:KD)(f:OF):TO:=λσ H Q=>∃F B ad as o as',Rel K kd F B [] ad as σ H/\f as=some (o,as')/\
 ∀ad' H',Rel K kd F B [] ad' as' σ H'->Grow (Gw [] ad) H (Gw [] ad') H'->Q o H'
@[irreducible] def AO(X:Cx)(kd:KD)(e:Option Expr)(f:OF):Prop:=PO X e (alO X.K kd f)
theorem zno{e:Option Expr}{t t':TO}(h:PO X e t)(k:∀σ H Q,t' σ H Q->t σ H Q):PO X e t':=λpins s σ H Q I q=>h pins s σ H Q I (k σ H Q q)
theorem zlo:AO X kd none oN:=by with_unfolding_all exact(zno zpT λσ H Q h=>by
 obtain⟨F,B,ad,as,o,as',R,e,q⟩:=h
 cases e
 exact q ad H R Grow.refl)
theorem zse{K:zC}{F B:Addr->Prop}{T:List Addr}{ad:Ad}{σ:St}{H:Hp}{v:V}{st:Bool}{c:Int}(h:wC K kd F B T ad σ H v (.ow (.lf st (.int c)))):T=[]/\v = .int c:=by
 have h:RoS K kd F B (Gw T ad) H v (.lf st (.int c)) T:=h
 generalize hT:Gw T ad=G at h
 cases h with
 |lf rp=>cases rp;exact⟨rfl,rfl⟩
theorem zeN{a:Expr}{fa:EF}(ha:AE X kd a fa):AO X kd (some a) (oS fa):=by with_unfolding_all exact(zno (zqe ha) λσ H Q h=>by
 obtain⟨F,B,ad,as,o,as',R,e,q⟩:=h
 obtain⟨⟨p,as1⟩,h1,e⟩:=bS_ (show(fa as).bind _=_ from e)
 obtain⟨i,e1,e⟩:=bS_ e
 obtain⟨st,rfl⟩:=zrG e1
 cases e
 refine⟨F,B,ad,as,_,_,R,h1,λv T' ad1 H1 R1 rv1 g1=>?_⟩
 obtain⟨rfl,rfl⟩:=zse rv1
 exact⟨i,rfl,q ad1 H1 R1 g1⟩)
theorem zuT:SlR X (λx lo hi H Q=>∃O d r,(∀a,O a->H a≠none)/\Vw X.K kd O H x d/\slP d lo hi=some r/\RQ X.K kd O H Q r):=by
 intro pins s σ H x v vl vu lo hi sl Q I rx hs pl pu h
 obtain⟨O,d,r,ht,vx,he,q⟩:=h
 cases vx with
 |lst hr rl=>cases he;exact zpY pins s σ H _ v vl vu lo hi sl Q I rx hs pl pu ⟨_,_,rfl,hr.sq,zcV q (zlk rl lo hi)⟩
 |tup rp hr rl=>
  have he:(if _ then none else some _:Option R0)=_:=he
  split at he
  · cases he
  · rename_i hw
    cases he
    exact zrS pins s σ H _ v vl vu lo hi sl Q I rx hs pl pu ⟨_,_,rfl,hr,by rw[rl.length];exact hw,zhs ht q (zlk rl lo hi)⟩
 |_=>cases he
theorem ziU{a:Expr}{lo hi:Option Expr}{fa:EF}{fl fh:OF}{pos p2:Pos}(ha:AE X kd a fa)(hl:AO X kd lo fl)(hh:AO X kd hi fh):AE X kd (.Subscript a (.Slice lo hi none p2) pos) (fSl fa fl fh slP):=by with_unfolding_all exact(yJ (ziS zuT ha hl hh) λσ H Q h=>by
 obtain⟨F,B,ad,as,r,as',R,e,q⟩:=h
 obtain⟨⟨p,as1⟩,h1,e⟩:=bS_ (show(fa as).bind _=_ from e)
 obtain⟨⟨l,as2⟩,h2,e⟩:=bS_ e
 obtain⟨⟨u,as3⟩,h3,e⟩:=bS_ e
 obtain⟨⟨d,lv⟩,h4,e⟩:=bS_ e
 obtain⟨r',h5,e⟩:=bS_ e
 obtain⟨z,h6,e⟩:=bS_ e
 cases e
 refine vZ R h1 λv ad1 H1 R1 rv1 g1=>⟨F,B,ad1,as1,l,as2,R1,h2,λad2 H2 R2 g2=>⟨F,B,ad2,as2,u,_,R2,h3,λad3 H3 R3 g3=>?_⟩⟩
 exact⟨_,d,r',R3.tr _,wC.vw R3 ((rv1.grow g2).grow g3) h4,h5,ZZ R3 h6 λw T' H' R' rv' g'=>q w T' ad3 H' R' rv' (((g1.trans g2).trans g3).trans g')⟩)
def znd:D->Option R0
 | .int i=>some (.im (.int (-i)))
 |_=>none
theorem ztF:UnD X kd (unaryOp .USub) znd:=by
 intro pins s σ H x v Q I rx h
 obtain⟨O,d,r,ht,vx,he,q⟩:=h
 cases vx with
 |int i=>cases he;exact zrO pins s σ H _ v Q I rx ⟨i,rfl,yz q (.int _)⟩
 |_=>cases he
def tyD:D->String
 | .non=>"NoneType" | .bl _=>"bool" | .int _=>"int" | .str _=>"str" | .tup _=>"tuple" | .lst _=>"list" | .dct _=>"dict"|_=>""
def Wi:D->Bool
 | .cl _=>false | .ob _ _ _=>false|_=>true
def zdV(t c:String):Bool:=t==c||(t=="bool"&&c=="int")
def zce(c:String):Bool:=c=="int"||c=="bool"||c=="str"||c=="list"||c=="tuple"||c=="dict"
theorem zsP(K:zC)(d:D)(c:String)(h:zce c=true)(ho:Wi d=true):PySem.W.kitOne K (.type (tyD d)) (.type c)=some (zdV (tyD d) c):=by
 have:c="int"\/c="bool"\/c="str"\/c="list"\/c="tuple"\/c="dict":=by
  unfold zce at h
  simp only[Bool.or_eq_true,beq_iff_eq]at h
  rcases h with((((h|h)|h)|h)|h)|h<;>simp[h]
 rcases this with rfl|rfl|rfl|rfl|rfl|rfl<;>cases d<;>first|rfl|cases ho
theorem zrr(hk:KdOk X kd){pins:List (Addr×Obj)}{σ:St}{H:Hp}{s:Shared}{O:Addr->Prop}{A:Around}{E:Value->Shared->Prop}{Q:Value->Shared->Prop}{c:String}{x:V}{u:Value}{d:D}(I:Inv X pins σ H s)(rx:RelV x u)(vx:Vw X.K kd O H x d)(hc:zce c=true)(ho:Wi d=true)
 (h:∀tk,Q (.bool (zdV (tyD d) c)) {s with toks:=tk}):wpAny (model X.prog X.w) A (call (.builtin "isinstance") [u,.type c]) Q E s:=by
 have e:=zsP X.K d c hc ho
 cases vx with
 |non=>cases rx;exact PySem.W.kia_one PySem.W.kitx_none I.kIn True.intro e (λz=>nomatch z) h
 |bl y=>cases rx;exact PySem.W.kia_one PySem.W.kitx_bool I.kIn True.intro e (λz=>nomatch z) h
 |int i=>obtain⟨t,rfl⟩:=rx;exact PySem.W.kia_one PySem.W.kitx_int I.kIn True.intro e (λz=>nomatch z) h
 |str y=>obtain⟨t,rfl⟩:=rx;exact PySem.W.kia_one PySem.W.kitx_str I.kIn True.intro e (λz=>nomatch z) h
 |lst hr rl=>
  cases rx
  obtain⟨its,rv,⟨o,n,h1,h2,_⟩,_⟩:=I.list hr.sq
  exact PySem.W.kia_one PySem.W.kitx_list I.kIn ⟨o,h1,h2⟩ e (λz=>nomatch z) h
 |tup rp hr rl=>
  cases rx
  obtain⟨its,rv,⟨o,h1,h2,_⟩,_⟩:=I.tuple hr
  exact PySem.W.kia_one PySem.W.kitx_tuple I.kIn ⟨o,h1,h2⟩ e (λz=>nomatch z) h
 |dct hr rm=>
  cases rx
  obtain⟨z,hd,vs,rel,⟨o,es,ep,h1,h2,_⟩⟩:=zgf I hk hr
  exact PySem.W.kia_one PySem.W.kitx_dict I.kIn ⟨o,h1,h2.1⟩ e (λz=>nomatch z) h
 |cl=>cases ho
 |ob=>cases ho
end
def Vy:List D->Option (List Int)
 | []=>some []
 | .int i::r=>(Vy r).bind λs=>some (i::s)
 |_::_=>none
def zsC:List Int->Int
 | []=>0
 |x::r=>r.foldl (λa b=>if a<b then b else a) x
theorem zgI:∀(r:List Int) (x:Int),r.foldl (λa b=>if a<b then b else a) x ∈ x::r/\∀a ∈ x::r,a<=r.foldl (λa b=>if a<b then b else a) x
 | [],x=>⟨by simp,by simp⟩
 |y::r,x=>by
  rw[List.foldl_cons]
  obtain⟨h1,h2⟩:=zgI r (if x<y then y else x)
  refine⟨?_,λa ha=>?_⟩
  · rcases zS.mp h1 with e|e
    · rw[e];split<;>simp
    · exact zzA _ (zzA _ e)
  · have h3:=h2 _ zzC
    rcases zS.mp ha with e|e
    · subst e;exact Int.le_trans (by split<;>omega) h3
    · rcases zS.mp e with e|e
      · subst e;exact Int.le_trans (by split<;>omega) h3
      · exact h2 a (zzA _ e)
theorem zpD{ns:List Int}{M:Int}(h1:M ∈ ns)(h2:∀a ∈ ns,a<=M):zsC ns=M:=by
 cases ns with
 |nil=>simp at h1
 |cons x r=>
  obtain⟨k1,k2⟩:=zgI r x
  have a1:=k2 M h1
  have a2:=h2 _ k1
  show r.foldl _ x=M
  omega
def on1(f:D->Option R0)(ds:List D):Option R0:=match ds with
 | [x]=>f x
 |_=>none
theorem zdq{K:zC}{kd:KD}{O:Addr->Prop}{H:Hp}{f:D->Option R0}{xs:List V}{ds:List D}{r:R0}(vl:VwL K kd O H xs ds)(h:on1 f ds=some r):∃x d,xs=[x]/\Vw K kd O H x d/\f d=some r:=by
 cases vl with
 |nil=>cases h
 |cons a b=>
  cases b with
  |nil=>exact⟨_,_,rfl,a,h⟩
  |cons _ _=>cases h
def zuO:D->Option R0
 | .lst ds=>some (.im (.int ds.length))
 | .tup ds=>some (.im (.int ds.length))
 | .str x=>if x.length<=sizeLine then some (.im (.int x.length))else none
 | .dct kvs=>some (.im (.int kvs.length))
 |_=>none
def zku:List D->Option R0:=on1 zuO
def zve:D->Option R0
 | .int i=>some (.im (.int i))
 | .bl b=>some (.im (.int (if b then 1 else 0)))
 |_=>none
def tupP:List D->Option R0
 | [.lst ds]=>some (.im (.tup ds))
 | [.tup ds]=>some (.im (.tup ds))
 |_=>none
def zuJ:D->Option R0
 | .lst ds=>some (.fl ds)
 | .tup ds=>some (.fl ds)
 |_=>none
def lstP:List D->Option R0:=on1 zuJ
def dctP:List D->Option R0
 | [.dct kvs]=>some (.fd kvs)
 |_=>none
def zue(ds:List D):Option R0:=match ds with
 | [x,y]=>onI (λi j=>some (.im (.int (if j > i then j else i)))) x y
 | [x]=>(asL x).bind λds=>(Vy ds).bind λns=>if 0<ns.length then some (.im (.int (zsC ns)))else none
 |_=>none
theorem zeH{K:zC}{kd:KD}{O:Addr->Prop}{H:Hp}{xs:List V}{d:D}(h:VwL K kd O H xs [d]):∃x,xs=[x]/\Vw K kd O H x d:=by
 cases h with
 |cons a b=>cases b;exact⟨_,rfl,a⟩
theorem zmF{K:zC}{kd:KD}{O:Addr->Prop}{H:Hp}{vs:List V}{ds:List D}{ns:List Int}(h:RpL K kd O H vs ds)(e:Vy ds=some ns):vs=ns.map V.int:=
 RpL.ind (P:=λvs ds=>∀ns,Vy ds=some ns->vs=ns.map V.int) (λns e=>by cases e;rfl) (λ{v d vs ds} a _ ih ns e=>by
  cases d with
  |int i=>
   obtain⟨s,h1,h2⟩:=bS_ (show(Vy _).bind _=_ from e)
   cases h2
   cases a
   rw[ih _ h1]
   rfl
  |_=>cases e) h ns e
section
variable{X:Cx}{kd:KD}
theorem zgK(hk:KdOk X kd):CallD X kd (.builtin "len") zku:=by
 intro pins s σ H xs us Q I r h
 obtain⟨O,ds,z,ht,vl,he,q⟩:=h
 obtain⟨x,d,rfl,vx,he⟩:=zdq vl he
 cases vx with
 |lst hr rl=>cases he;exact zbZ pins s σ H _ us Q I r ⟨_,_,rfl,.inl hr.sq,by rw[rl.length];exact yz q (.int _)⟩
 |tup rp hr rl=>cases he;exact zbZ pins s σ H _ us Q I r ⟨_,_,rfl,.inr hr,by rw[rl.length];exact yz q (.int _)⟩
 |str y=>
  obtain⟨c,rfl⟩:=zM he
  exact zhV pins s σ H _ us Q I r ⟨_,rfl,c,yz q (.int _)⟩
 |dct hr rm=>
  cases he
  obtain⟨u,rfl,ru⟩:=vals1 r
  cases ru
  obtain⟨z,hd,vs,rel,dd⟩:=zgf I hk hr
  refine call_len_dict hd dd (by rw[<-rel.length];rw[sizeLine_eq]at z;omega) ?_
  rw[<-rel.length,rm.length]
  exact⟨.int _,H,I.tok _,⟨_,rfl⟩,yz q (.int _)⟩
 |_=>cases he
theorem zmd:CallD X kd (.type "tuple") tupP:=by
 intro pins s σ H xs us Q I r h
 obtain⟨O,ds,z,ht,vl,he,q⟩:=h
 unfold tupP at he
 split at he
 · cases he
   obtain⟨x,rfl,vx⟩:=zeH vl
   cases vx with
   |lst hr rl=>exact X6 pins s σ H _ us Q I r ⟨_,_,rfl,.inl ⟨hr.sq,zhs ht q rl⟩⟩
 · cases he
   obtain⟨x,rfl,vx⟩:=zeH vl
   cases vx with
   |tup rp hr rl=>exact X6 pins s σ H _ us Q I r ⟨_,_,rfl,.inr ⟨hr,yz q rp⟩⟩
 · cases he
theorem zbd:CallD X kd (.type "list") lstP:=by
 intro pins s σ H xs us Q I r h
 obtain⟨O,ds,z,ht,vl,he,q⟩:=h
 obtain⟨x,d,rfl,vx,he⟩:=zdq vl he
 cases vx with
 |lst hr rl=>cases he;exact zcn pins s σ H _ us Q I r ⟨_,_,rfl,.inl hr.sq,zcV q rl⟩
 |tup rp hr rl=>cases he;exact zcn pins s σ H _ us Q I r ⟨_,_,rfl,.inr hr,zcV q rl⟩
 |_=>cases he
theorem zmf(hk:KdOk X kd):CallD X kd (.type "dict") dctP:=by
 intro pins s σ H xs us Q I r h
 obtain⟨O,ds,z,ht,vl,he,q⟩:=h
 unfold dctP at he
 split at he
 · cases he
   obtain⟨x,rfl,vx⟩:=zeH vl
   cases vx with
   |dct hr rm=>
    obtain⟨u,rfl,ru⟩:=vals1 r
    cases ru
    obtain⟨z,hd,vs,rel,dd⟩:=zgf I hk hr
    refine kt_call_dict hd dd (by rw[<-rel.length];exact z) λh' dd' hs=>?_
    refine⟨.ref _,_,(I.laid (a:=s.heap.objs.size) (o:=.dK _) (t':=s.toks) (λb q hq=>?_) (zzK _) (znF z (beq_eq_false_iff_ne.mpr (Ne.symm (zzN I.big))) rel dd')),rfl,znk q rm _ (I.hok.fresh (zzK _))⟩
    exact(hs.2 b (zzN (zxG hq))).trans (zxF _ hq)
 · cases he
theorem zmn(hc:X.calm=true):CallD X kd (.builtin "max") zue:=by
 intro pins s σ H xs us Q I r h
 obtain⟨O,ds,z,ht,vl,he,q⟩:=h
 cases vl with
 |nil=>cases he
 |cons vx vl=>
  cases vl with
  |nil=>
   obtain⟨ds,h0,he⟩:=bS_ (show(asL _).bind _=_ from he)
   cases zfV h0
   obtain⟨ns,h1,he⟩:=bS_ he
   obtain⟨c,rfl⟩:=zM he
   cases vx with
   |lst hr rl=>
    obtain⟨u,rfl,ru⟩:=vals1 r
    cases ru
    obtain⟨its,rv,p,_⟩:=I.list hr.sq
    rw[zmF rl h1]at rv
    have hi:=intsAre_of rv
    obtain⟨ys,e⟩:=hi.allInts.items
    have hns:ns=ys.toList.map (·.1):=by rw[<-hi.numsOf,<-nums_intItems,<-e]
    have hsz:0<ys.size:=by
     have h3:=c;rw[hns,zD,zyQ]at h3;exact h3
    have hl:=p.isList
    rw[e]at hl
    refine max_intList (I.ok.hd hc) hl hsz λv h' tk hv kp=>?_
    obtain⟨t,rfl⟩:=intItems_at hv
    obtain⟨k1,k2⟩:=argBest_gt (numAt ys) (ys.size-1)
    refine⟨.int (zsC ns),H,I.kept kp,⟨t, ?_⟩,yz q (.int _)⟩
    congr 1
    refine(zpD ?_ λa ha=>?_).symm
    · rw[hns,numAt_eq]
      have hlt:argBest (λi j=>decide (numAt ys i > numAt ys j)) (ys.size-1)<(ys.toList.map (·.1)).length:=by rw[zD,zyQ];omega
      rw[zyC,zzB hlt]
      exact zyX hlt
    · rw[hns]at ha
      obtain⟨j,hj,rfl⟩:=List.getElem_of_mem ha
      have hj':=hj
      rw[zD,zyQ]at hj
      have:=k2 j (by omega)
      rw[numAt_eq ys j,zyC,zzB hj']at this
      exact this
  |cons vy vl=>
   cases vl with
   |nil=>
    obtain⟨i,j,rfl,rfl,he⟩:=X3 vx vy he
    cases he
    exact zlG hc pins s σ H _ us Q I r ⟨_,_,rfl,yz q (.int _)⟩
   |cons _ _=>cases he
end
def vz(env:Env):List (Str×NameKind)->List (Str×Addr)->List (Str×Addr)
 | [],cs=>cs
 |(n,k)::r,cs=>vz env r (if k == .free then((n,(env.cells.lookup n).getD 0)::cs)else cs)
theorem zbt{scope:Scope}{env:Env}(h:∀x ∈ scope.names,x.2 = .free->∃c,env.cells.lookup x.1=some c):closureFor scope env=pure (vz env scope.names []):=by
 have go:∀(names:List (Str×NameKind)) (cs:List (Str×Addr)) (f:Str×NameKind->List (Str×Addr)->Sem (ForInStep (List (Str×Addr)))),
  (∀name kind cs,f (name,kind) cs=if kind == .free then(do let a <-cellOf env name;pure (.yield ((name,a)::cs)))else pure (.yield cs))->
  (∀x ∈ names,x.2 = .free->∃c,env.cells.lookup x.1=some c)->(forIn names cs f:Sem (List (Str×Addr)))=pure (vz env names cs):=by
  intro names
  induction names with
  |nil=>intro cs f _ _;rfl
  |cons x r ih=>
   intro cs f hf hx
   obtain⟨n,k⟩:=x
   rw[List.forIn_cons,hf]
   unfold vz
   by_cases hk:(k == .free)=true
   · obtain⟨c,hc⟩:=hx (n,k) zzC (by simpa using hk)
     rw[if_pos hk,if_pos hk]
     have e:cellOf env n=pure c:=by unfold cellOf;rw[hc]
     rw[e,hc]
     exact ih _ f hf λy hy=>hx y (zzA _ hy)
   · rw[if_neg hk,if_neg hk]
     exact ih _ f hf λy hy=>hx y (zzA _ hy)
 simp only[closureFor]
 rw[go scope.names [] _ (λname kind cs=>?_) h]
 · rfl
 · rfl
theorem zgB{env:Env}:∀(names:List (Str×NameKind)) (cs:List (Str×Addr)) (p:Str×Addr),p ∈ vz env names cs->p ∈ cs\/((p.1,NameKind.free) ∈ names/\p.2=(env.cells.lookup p.1).getD 0)
 | [],_,_,h=>.inl h
 |(n,k)::r,cs,p,h=>by
  unfold vz at h
  rcases zgB r _ p h with h|h
  · by_cases hk:(k == .free)=true
    · rw[if_pos hk]at h
      rcases zS.mp h with e|h
      · subst e
        have:k = .free:=by simpa using hk
        subst this
        exact .inr ⟨zzC,rfl⟩
      · exact .inl h
    · rw[if_neg hk]at h;exact .inl h
  · exact .inr ⟨zzA _ h.1,h.2⟩
theorem zfa{env:Env}:∀(names:List (Str×NameKind)) (cs:List (Str×Addr)) (p:Str×Addr),p ∈ cs->p ∈ vz env names cs
 | [],_,_,h=>h
 |(n,k)::r,cs,p,h=>by
  unfold vz
  refine zfa r _ p ?_
  split
  · exact zzA _ h
  · exact h
theorem zgY{env:Env}:∀(names:List (Str×NameKind)) (cs:List (Str×Addr)) (x:Str),(x,NameKind.free) ∈ names->(x,(env.cells.lookup x).getD 0) ∈ vz env names cs
 |(n,k)::r,cs,x,h=>by
  unfold vz
  rcases zS.mp h with e|h
  · cases e
    exact zfa r _ _ (by simp)
  · exact zgY r _ x h
theorem Wn{α:Type}{x:Str}{a:α}:∀{l:List (Str×α)},(∀p ∈ l,p.1=x->p.2=a)->(∃b,(x,b) ∈ l)->l.lookup x=some a
 | [],_,h=>by obtain⟨_,h⟩:=h;cases h
 |(k,v)::r,u,h=>by
  rw[List.lookup_cons]
  cases hb:x==k with
  |true=>
   have:=u (k,v) zzC (beq_iff_eq.mp hb).symm
   exact congrArg some this
  |false=>
   refine Wn (λp hp=>u p (zzA _ hp)) ?_
   obtain⟨b,h⟩:=h
   rcases zS.mp h with e|h
   · cases e;simp at hb
   · exact⟨b,h⟩
theorem zdi:∀(names:List (Str×NameKind)) (h:Heap) (acc:List (Str×Addr)) (p:Str×Addr),p ∈ cellsFrom h.objs.size names acc->
 p ∈ acc\/((p.1,NameKind.cell) ∈ names/\(pushCells h names).IsCell p.2 none/\h.objs.size<=p.2)
 | [],_,_,_,m=>.inl m
 |(n,k)::r,h,acc,p,m=>by
  unfold cellsFrom at m
  unfold pushCells
  split at m
  · rename_i hk
    rw[if_pos hk]
    have e:(h.push {cls:=.type "cell",data:=.cell none}).objs.size=h.objs.size+1:=zxO ..
    rw[<-e]at m
    rcases zdi r _ _ p m with m|⟨m1,m2,m3⟩
    · rcases zS.mp m with e2|m
      · subst e2
        have:k = .cell:=by simpa using hk
        subst this
        refine .inr ⟨zzC, ?_,zzK _⟩
        have z:(h.push {cls:=.type "cell",data:=.cell none}).IsCell h.objs.size none:=⟨_,zxH _ rfl,rfl⟩
        exact z.keeps (pushCells_keeps r _)
      · exact .inl m
    · exact .inr ⟨zzA _ m1,m2,by rw[e]at m3;omega⟩
  · rename_i hk
    rw[if_neg hk]
    rcases zdi r h acc p m with m|⟨m1,m2,m3⟩
    · exact .inl m
    · exact .inr ⟨zzA _ m1,m2,m3⟩
theorem WP:∀(names:List (Str×NameKind)) (n:Nat) (acc:List (Str×Addr)) (p:Str×Addr),p ∈ acc->p ∈ cellsFrom n names acc
 | [],_,_,_,m=>m
 |(_,k)::r,n,acc,p,m=>by
  unfold cellsFrom
  split
  · exact WP r _ _ p (zzA _ m)
  · exact WP r _ _ p m
theorem zcX:∀(names:List (Str×NameKind)) (n:Nat) (acc:List (Str×Addr)) (x:Str),(x,NameKind.cell) ∈ names->∃c,(x,c) ∈ cellsFrom n names acc
 |(y,k)::r,n,acc,x,m=>by
  unfold cellsFrom
  rcases zS.mp m with e|m
  · cases e
    rw[if_pos (by decide)]
    exact⟨n,WP r _ _ _ zzC⟩
  · split
    · exact zcX r _ _ x m
    · exact zcX r _ _ x m
theorem zdj:∀(names:List (Str×NameKind)) (n:Nat) (acc:List (Str×Addr)),(∀p ∈ acc,p.2<n)->(∀p ∈ acc,∀q ∈ acc,p.2=q.2->p.1=q.1)->∀p ∈ cellsFrom n names acc,∀q ∈ cellsFrom n names acc,p.2=q.2->p.1=q.1
 | [],_,_,_,h=>h
 |(y,k)::r,n,acc,lt,h=>by
  unfold cellsFrom
  split
  · refine zdj r (n+1) _ (λp m=>?_) (λp m q m' e=>?_)
    · rcases zS.mp m with z|m
      · subst z;exact Nat.lt_succ_self _
      · exact zyY (lt p m)
    · rcases zS.mp m with z|m
      · rcases zS.mp m' with z'|m'
        · rw[z,z']
        · subst z;have:=lt q m';rw[<-e]at this;exact absurd this (Nat.lt_irrefl _)
      · rcases zS.mp m' with z'|m'
        · subst z';have:=lt p m;rw[e]at this;exact absurd this (Nat.lt_irrefl _)
        · exact h p m q m' e
  · exact zdj r n acc lt h
section
variable{M:Model}{A:Around}{E:Value->Shared->Prop}{s:Shared}
def zaJ(scope:Scope)(env:Env)(cl:List (Str×Addr))(L:Addr):Env:=
 {scope:=relabel scope env,locals:=L,globals:=env.globals,cells:=cellsFrom (L+1) scope.names cl,qual:=env.qual,func:=none,code:=env.code,frame:=env.frame,builtins:=env.builtins}
theorem zhQ{scope:Scope}{env:Env}{cl:List (Str×Addr)}{Q:Env->Shared->Prop}
 (h:∀h' env',{env' with scope:=relabel scope env}=zaJ scope env cl s.heap.objs.size->env'.locals=s.heap.objs.size->(∀b o,s.heap.get? b=some o->h'.get? b=some o)->h'.Ns s.heap.objs.size (λ_=>none)->
  (∀p ∈ cellsFrom (s.heap.objs.size+1) scope.names cl,p ∈ cl\/((p.1,NameKind.cell) ∈ scope.names/\h'.IsCell p.2 none/\s.heap.objs.size+1<=p.2))->Q env' {s with heap:=h'}):
 wpAny M A (newFunctionEnv scope env.globals cl [] env.qual none .none (some env)) Q E s:=by
 simp only[newFunctionEnv,Option.isSome_some,if_true]
 refine zxD (wpAny_alloc ?_)
 refine zxD (wpAny_layCells _ (λname kind cells=>by cases hkc:kind==NameKind.cell<;>simp[hkc]) _ _ _ _ ?_)
 have e:(s.heap.push {cls:=.type "dict",data:=.dict #[]}).objs.size=s.heap.objs.size+1:=zxO ..
 refine zxD (zxE (zxE (h _ _ ?_ rfl (λb o q=>pushCells_keeps _ _ b o (zxF _ q)) ((Heap.Ns.new s.heap (.type "dict")).keeps (pushCells_keeps _ _)) λp m=>?_)))
 · unfold zaJ
   rw[<-e]
 · rw[<-e]at m
   rcases zdi _ _ _ p m with m|⟨m1,m2,m3⟩
   · exact .inl m
   · exact .inr ⟨m1,m2,by rw[e]at m3;exact m3⟩
end
abbrev wU(X:Cx)(N:List Str)(scope:Scope)(cl:List (Str×Addr))(s:Shared)(H:Hp)(fp:List Addr):Cx:=
 {X with N:=N,s₀:=s,H₀:=H,env:=zaJ scope X.env cl (s.heap.objs.size+1),outer:=X.stack,ex:=fp,fn:=λx=>scope.names.lookup x==some .cell,pn:=[],xe:=λ_ _=>False}
def ztp(σ:St):Option Nat->Option V
 |none=>none
 |some j=>(σ[j]?).getD none
def Zh(cap:List (Option Nat))(σ:St):St:=cap.map (ztp σ)
def wz(N XN:List Str)(names:List (Str×NameKind))(envNames:List (Str×NameKind))(cap:List (Option Nat)):Bool:=
 N.length==cap.length&&(N.zip cap).all (λp=>match p.2 with|none=>true|some j=>XN[j]? == some p.1&&names.contains (p.1,NameKind.free)) &&
 names.all (λp=>p.2 != .free||envNames.lookup p.1==some .cell||envNames.lookup p.1==some .free)&&decide (names.map (·.1)).Nodup
def PTs(X:Cx)(ifs:List Expr)(t:TT):Prop:=
 ∀(pins:List (Addr×Obj)) (s:Shared) (σ:St) (H:Hp) (Q:Bool->Hp->Prop),Inv X pins σ H s->t σ H Q->
  wpAny (model X.prog X.w) X.A (forIn ifs true λc r=>if r=true then do let ok <-isTrue c X.env (eval c X.env);pure (ForInStep.yield ok)else pure (ForInStep.yield r)) (TP X pins σ Q) X.xe s
theorem zpa{X:Cx}:PTs X [] (λ_ H Q=>Q true H):=λpins s σ H Q I h=>wpAny_tests_nil ⟨H,I,h⟩
theorem zoQ{X:Cx}{c:Expr}{t:TT}(h:PT X c t):PTs X [c] t:=λpins s σ H Q I q=>wpAny_tests_one (h pins s σ H Q I q)
def zoq(wi:TI)(cap:List (Option Nat))(g:TG)(tt:TT)(te:TE):TE:=λσ H Q=>wi σ H λJ H1=>∃W:Nat->Nat->List V->Hp->Prop,(∃m,W 0 m [] H1)/\∀i m ys H,W i m ys H->ys.length<=sizeLine/\
 ((J.stop i H/\∀p,H p=none->Q (.ref p) (upd H p (.lst ys)))\/(J.go i H/\∀x H',J.yld i H x H'->g x (Zh cap σ) H' λσ2 H2=>(∀(j:Nat) v,(Zh cap σ)[j]? = some (some v)->σ2[j]? = some (some v))/\
   tt σ2 H2 λb H3=>if b=true then ys.length<sizeLine/\te σ2 H3 λy H4=>∃m',m'<m/\W (i+1) m' (ys++[y]) H4 else ∃m',m'<m/\W (i+1) m' ys H3))
section
variable{prog:Program}{w:World}{A:Around}{E:Value->Shared->Prop}{R:Result->Shared->Prop}{s:Shared}
theorem zhN{elt target iter:Expr}{ifs:List Expr}{scope:Scope}{pos:Pos}{it acc:Value}{env:Env}(I:Nat->Shared->Prop)
 (turn:∀n s (E:Value->Shared->Prop),I n s->wpAny (model prog w) A (pyNext it) (λr s₁=>match r with
  |none=>R (.ok .next) s₁
  |some v=>wpAny (model prog w) A (letOwnedTupleGo target it v) (λ_ s₁=>wpAny (model prog w) A (assign target env v) (λ_ s₂=>
   wpAny (model prog w) A (forIn ifs true λc r=>if r=true then do let ok <-isTrue c env (eval c env);pure (ForInStep.yield ok)else pure (ForInStep.yield r)) (λok s₃=>
    if ok=true then wpAny (model prog w) A (eval elt env) (λx s₄=>
     wpAny (model prog w) A (call (.builtin "list.append") [acc,x]) (λ_ s₅=>∃m,m<n/\I m s₅) E s₄) E s₃
    else ∃m,m<n/\I m s₃) E s₂) E s₁) E s₁) E s)
 (n:Nat) (h:I n s):
 codeAny (model prog w) A (.compLoop (.ListComp elt [⟨target,iter,ifs,0⟩] scope pos) 0 it acc env) R s:=by
 refine codeAny_loop rfl I (λn s hI=>?_) n h
 show wpAny _ A ((compTurn (.ListComp elt [⟨target,iter,ifs,0⟩] scope pos) 0 it acc env).onRaise (λx=>do noteFrame x env;theTreesLotGoes x)) _ _ s
 refine wpAny_noted ?_
 rw[compTurn_list]
 refine zxD (wpAny_standAt (zxD (zxQ (turn n s _ hI) (λr s₁ h₁=>?_) λ_ _ h'=>h')))
 cases r with
 |none=>exact zxE h₁
 |some v=>
  refine zxD (zxQ h₁ (λ_ s₁ h₁=>?_) λ_ _ h'=>h')
  refine zxD (zxQ h₁ (λ_ s₂ h₂=>zxD (zxQ h₂ (λok s₃ h₃=>?_) λ_ _ h'=>h')) λ_ _ h'=>h')
  cases ok with
  |false=>exact zxE ⟨rfl,h₃⟩
  |true=>
   exact zxD (zxD (zxQ h₃ (λx s₄ h₄=>zxD (zxQ h₄ (λ_ s₅ h₅=>zxE (zxE ⟨rfl,h₅⟩)) λ_ _ h'=>h')) λ_ _ h'=>h'))
end
structure CapOk(N XN:List Str)(names:List (Str×NameKind))(envNames:List (Str×NameKind))(cap:List (Option Nat)):Prop where
 len:N.length=cap.length
 at_:∀(i:Nat) x (j:Nat),N[i]? = some x->cap[i]? = some (some j)->XN[j]? = some x/\(x,NameKind.free) ∈ names
 fr:∀p ∈ names,p.2 = .free->envNames.lookup p.1=some .cell\/envNames.lookup p.1=some .free
 nd:(names.map (·.1)).Nodup
theorem ziF{N XN:List Str}{names envNames:List (Str×NameKind)}{cap:List (Option Nat)}(h:wz N XN names envNames cap=true):CapOk N XN names envNames cap:=by
 unfold wz at h
 simp only[zzZ,beq_iff_eq,List.all_eq_true,decide_eq_true_eq]at h
 obtain⟨⟨⟨h1,h2⟩,h3⟩,h4⟩:=h
 refine⟨h1,λi x j e1 e2=>?_,λp hp e=>?_,h4⟩
 · have m:(x,some j) ∈ N.zip cap:=zzX (i:=i) (by rw[List.getElem?_zip_eq_some];exact⟨e1,e2⟩)
   have:=h2 _ m
   simp only[zzZ,beq_iff_eq]at this
   exact⟨this.1,by simpa using this.2⟩
 · have:=h3 p hp
   rw[e]at this
   simpa using this
theorem zit{names:List (Str×NameKind)}(h:(names.map (·.1)).Nodup){x:Str}{k k':NameKind}(m:(x,k) ∈ names)(m':(x,k') ∈ names):k=k':=by
 induction names with
 |nil=>cases m
 |cons p r ih=>
  obtain⟨h1,h2⟩:=zzT.mp (show(p.1::r.map (·.1)).Nodup from h)
  rcases zS.mp m with e|m
  · rcases zS.mp m' with e'|m'
    · rw[<-e]at e';cases e';rfl
    · exact absurd (zxB.mpr ⟨_,m',by rw[<-e]⟩) h1
  · rcases zS.mp m' with e'|m'
    · exact absurd (zxB.mpr ⟨_,m,by rw[<-e']⟩) h1
    · exact ih h2 m m'
theorem zcD{names:List (Str×NameKind)}(h:(names.map (·.1)).Nodup){x:Str}{k:NameKind}(m:(x,k) ∈ names):names.lookup x=some k:=
 Wn (λp hp e=>by obtain⟨y,k'⟩:=p;cases(show y=x from e);exact zit h hp m) ⟨k,m⟩
theorem zaa{env:Env}{scope:Scope}(x:Str):(relabel scope env).names.lookup x=(scope.names.lookup x).map λk=>if(k == .free&&env.scope.kind == .function&&env.kindOf x==some .cell)=true then NameKind.cell else k:=by
 unfold relabel
 show(scope.names.map _).lookup x=_
 generalize scope.names=names
 induction names with
 |nil=>rfl
 |cons p r ih=>
  obtain⟨n,k⟩:=p
  rw[zyP,List.lookup_cons (k:=n) (as:=r)]
  cases hb:x==n with
  |true=>
   have e:x=n:=beq_iff_eq.mp hb
   subst e
   show List.lookup x ((if(k==NameKind.free&&env.scope.kind == .function&&env.kindOf x==some .cell)=true then(x,NameKind.cell)else(x,k))::_)=_
   show _=some (if(k==NameKind.free&&env.scope.kind == .function&&env.kindOf x==some .cell)=true then NameKind.cell else k)
   split
   · rw[List.lookup_cons,hb]
   · rw[List.lookup_cons,hb]
  |false=>
   show List.lookup x ((if(k==NameKind.free&&env.scope.kind == .function&&env.kindOf n==some .cell)=true then(n,NameKind.cell)else(n,k))::_)=_
   split
   · rw[List.lookup_cons,hb];exact ih
   · rw[List.lookup_cons,hb];exact ih
theorem zkA{X:Cx}{pins:List (Addr×Obj)}{σ:St}{H:Hp}{s:Shared}{N:List Str}{scope:Scope}{cap:List (Option Nat)}{fp:List Addr}{h':Heap}(I:Inv X pins σ H s)(C:CapOk N X.N scope.names X.env.scope.names cap)(hk:scope.kind = .function)
 (hf:∀b ∈ fp,zgx X pins H b) (ho:∀b ∈ fp,∃o,s.heap.get? b=some o)
 (old:∀b o,s.heap.get? b=some o->h'.get? b=some o) (ns:h'.Ns (s.heap.objs.size+1) (λ_=>none))
 (hc:∀p ∈ cellsFrom (s.heap.objs.size+1+1) scope.names (vz X.env scope.names []),p ∈ vz X.env scope.names []\/((p.1,NameKind.cell) ∈ scope.names/\h'.IsCell p.2 none/\s.heap.objs.size+1+1<=p.2)):
 Inv (wU X N scope (vz X.env scope.names []) s H fp) [] (Zh cap σ) H {s with heap:=h'}:=by
 have has:∀x,(x,NameKind.free) ∈ scope.names->∃c,X.env.cells.lookup x=some c:=λx m=>I.ok.has x (C.fr _ m rfl)
 have clo:∀p ∈ vz X.env scope.names [],X.env.cells.lookup p.1=some p.2/\(p.1,NameKind.free) ∈ scope.names:=λp m=>by
  rcases zgB _ _ p m with z|⟨z1,z2⟩
  · cases z
  · obtain⟨c,e⟩:=has _ z1
    rw[e]at z2
    exact⟨by rw[e];exact congrArg some z2.symm,z1⟩
 have look:∀x c,(cellsFrom (s.heap.objs.size+1+1) scope.names (vz X.env scope.names [])).lookup x=some c->(X.env.cells.lookup x=some c/\(x,NameKind.free) ∈ scope.names)\/((x,NameKind.cell) ∈ scope.names/\h'.IsCell c none/\s.heap.objs.size+1+1<=c):=λx c e=>by
  rcases hc _ (mem_of_lookup e)with m|m
  · exact .inl (clo _ m)
  · exact .inr m
 have lt:∀x c,X.env.cells.lookup x=some c->c<s.heap.objs.size:=λx c e=>by obtain⟨v,z⟩:=I.cell x c e;exact z.lt
 have lookF:∀x,(x,NameKind.free) ∈ scope.names->∃c,(cellsFrom (s.heap.objs.size+1+1) scope.names (vz X.env scope.names [])).lookup x=some c/\X.env.cells.lookup x=some c:=λx m=>by
  obtain⟨c,e⟩:=has x m
  have m1:=WP scope.names (s.heap.objs.size+1+1) _ _ (zgY (env:=X.env) scope.names [] x m)
  refine⟨c,Wn (λp hp ep=>?_) ⟨_,m1⟩,e⟩
  rcases hc p hp with z|z
  · have:=(clo p z).1
    rw[ep,e]at this
    exact(zzW this).symm
  · rw[ep]at z
    exact absurd (zit C.nd z.1 m) (by decide)
 have kinds:∀x,((relabel scope X.env).names.lookup x=some .cell\/(relabel scope X.env).names.lookup x=some .free)->(x,NameKind.free) ∈ scope.names\/(x,NameKind.cell) ∈ scope.names:=λx h=>by
  rw[zaa]at h
  cases e:scope.names.lookup x with
  |none=>rw[e]at h;rcases h with h|h<;>cases h
  |some k=>
   have m:=mem_of_lookup e
   cases k with
   |free=>exact .inl m
   |cell=>exact .inr m
   |_=>rw[e]at h;rcases h with h|h<;>(simp at h)
 have lsz:s.heap.objs.size+1<h'.objs.size:=ns.lt
 refine⟨⟨I.ok.mod,hk,I.ok.glob,I.ok.blt,zyU _, ?_, ?_, ?_,I.ok.hd,I.ok.frames,.inl rfl, ?_,I.bs,zzL I.ok.bsz I.sz, ?_, ?_,I.stack,I.stkFree⟩,rfl,I.bare,(Un.kept old),⟨_,ns, ?_⟩, ?_,I.hok.fresh (zyU _), ?_,(λ_ z=>nomatch z),I.hok.kept old, ?_⟩
 · intro x y c e1 e2
   refine zdj scope.names (s.heap.objs.size+1+1) _ (λp m=>?_) (λp m q m' e=>?_) (x,c) (mem_of_lookup e1) (y,c) (mem_of_lookup e2) rfl
   · exact zyY (zyY (lt _ _ (clo p m).1))
   · refine I.ok.inj _ _ _ (clo p m).1 ?_
     rw[e];exact(clo q m').1
 · intro x h
   rcases kinds x h with m|m
   · obtain⟨c,e,_⟩:=lookF x m;exact⟨c,e⟩
   · obtain⟨c,e⟩:=zcX scope.names (s.heap.objs.size+1+1) (vz X.env scope.names []) x m
     cases q:(cellsFrom (s.heap.objs.size+1+1) scope.names (vz X.env scope.names [])).lookup x with
     |some c'=>exact⟨c',q⟩
     |none=>
      exfalso
      have:=List.lookup_eq_none_iff.mp q (x,c) e
      simp at this
 · intro x c hx e
   have hx:(scope.names.lookup x==some .cell)=true:=hx
   have m:=mem_of_lookup (beq_iff_eq.mp hx)
   rcases look x c e with z|z
   · exact absurd (zit C.nd z.2 m) (by decide)
   · exact zzL (zzL (zyU _) (zyU _)) z.2.2
 · intro b hb
   obtain⟨o,e⟩:=ho b hb
   refine⟨zzN (zyY (zxG e)),λx c ec=>?_⟩
   rcases look x c ec with z|z
   · exact(hf b hb).2.2.2.2.1 x c z.1
   · have:=zxG e
     intro q;subst q
     exact absurd (zzH this (zzL (zzL (zyU _) (zyU _)) z.2.2)) (Nat.lt_irrefl _)
 · intro b o e hb
   rcases(hf b hb).2.2.2.1 with z|z
   · exact I.ok.noex b o e z
   · exact absurd (zzH (zxG e) (zzL I.ok.bsz z)) (Nat.lt_irrefl _)
 · intro b hb hm
   rcases zS.mp (I.stkSub b hm)with z|z
   · exact(hf b hb).2.1 z
   · exact(hf b hb).2.2.1 z
 · intro i x v e1 e2 e3
   have e2:(Zh cap σ)[i]? = some (some v):=e2
   unfold Zh at e2
   rw[zzF]at e2
   cases ec:cap[i]? with
   |none=>rw[ec]at e2;cases e2
   |some c=>
    cases c with
    |none=>rw[ec]at e2;cases e2
    |some j=>
     rw[ec]at e2
     have e2:(σ[j]?).getD none=some v:=zzW e2
     obtain⟨xn,m⟩:=C.at_ i x j e1 ec
     have es:σ[j]? = some (some v):=by
      cases q:σ[j]? with
      |none=>rw[q]at e2;cases e2
      |some y=>rw[q]at e2;exact congrArg some e2
     have kf:=C.fr _ m rfl
     obtain⟨mm,hn,hl⟩:=I.loc
     obtain⟨u,r,l⟩:=hl j x v xn es (by rcases kf with k|k;exact .inr (.inl k);exact .inr (.inr k))
     refine⟨u,r,.inr ⟨?_, ?_⟩⟩
     · show(relabel scope X.env).names.lookup x=some .cell\/(relabel scope X.env).names.lookup x=some .free
       rw[zaa,zcD C.nd m]
       show some (if _ then _ else _)=_\/some (if _ then _ else _)=_
       split
       · exact .inl rfl
       · exact .inr rfl
     · obtain⟨c,ec,eo⟩:=lookF x m
       refine⟨c,ec, ?_⟩
       rcases l with⟨k1,_⟩|⟨_,c2,e4,z⟩
       · have k1:X.env.scope.names.lookup x=some .local:=k1
         rcases kf with k|k<;>(rw[k1]at k;cases k)
       · rw[eo]at e4;cases e4
         exact z.keeps old
 · intro x c e
   rcases look x c e with z|z
   · obtain⟨v,q⟩:=I.cell x c z.1;exact⟨v,q.keeps old⟩
   · exact⟨none,z.2.1⟩
 · intro x c e
   rcases look x c e with z|z
   · exact I.freeC x c z.1
   · exact I.hok.fresh (zzL (zzL (zyU _) (zyU _)) z.2.2)
 · show(Zh cap σ).length=N.length
   unfold Zh
   rw[zD,C.len]
abbrev lobj(its:List Value):Obj:={cls:=.type "list",data:=.seq its.toArray its.length}
section
variable{X:Cx}{pins:List (Addr×Obj)}{σ:St}{H2:Hp}{s2:Shared}{elt tg iter:Expr}{ifs:List Expr}{scope:Scope}{pos:Pos}{N:List Str}{cap:List (Option Nat)}{g:TG}{tt:TT}{te:TE}{wi:TI}
set_option maxHeartbeats 1000000
theorem zfC{J:It}{it:Addr}{fp:List Addr}{tn:Nat->Heap->Prop}{Q:VK}{R:Value->Addr->Result->Shared->Prop}{E:Value->Shared->Prop}
 (hc:X.calm=true) (C:CapOk N X.N scope.names X.env.scope.names cap) (hk:scope.kind = .function)
 (hg:∀cl s H fp,PG (wU X N scope cl s H fp) tg g) (ht:∀cl s H fp,PTs (wU X N scope cl s H fp) ifs tt) (he:∀cl s H fp,PE (wU X N scope cl s H fp) elt te)
 (I2:Inv X pins σ H2 s2) (T:Turn X.prog X.w X.K tg J fp it tn) (st2:tn 0 s2.heap) (f2:∀b ∈ fp,zgx X pins H2 b)
 (W:Nat->Nat->List V->Hp->Prop) (m0:Nat) (w0:W 0 m0 [] H2)
 (turn:∀i m ys H,W i m ys H->ys.length<=sizeLine/\((J.stop i H/\∀p,H p=none->Q (.ref p) (upd H p (.lst ys)))\/(J.go i H/\∀x H',J.yld i H x H'->g x (Zh cap σ) H' λσ2 H2=>(∀(j:Nat) v,(Zh cap σ)[j]? = some (some v)->σ2[j]? = some (some v))/\
  tt σ2 H2 λb H3=>if b=true then ys.length<sizeLine/\te σ2 H3 λy H4=>∃m',m'<m/\W (i+1) m' (ys++[y]) H4 else ∃m',m'<m/\W (i+1) m' ys H3)))
 (fin:∀ys H3 s1 m,Inv X pins σ (upd H3 s2.heap.objs.size (.lst ys)) s1->s1.heap.Ns (s2.heap.objs.size+1) m->zgx X pins (upd H3 s2.heap.objs.size (.lst ys)) (s2.heap.objs.size+1)->
  Q (.ref s2.heap.objs.size) (upd H3 s2.heap.objs.size (.lst ys))->R (.ref s2.heap.objs.size) (s2.heap.objs.size+1) (.ok .next) s1):
 wpAny (model X.prog X.w) X.A (newList []) (λacc s₃=>wpAny (model X.prog X.w) X.A (newFunctionEnv scope X.env.globals (vz X.env scope.names []) [] X.env.qual none .none (some X.env)) (λcenv s₄=>
  codeAny (model X.prog X.w) X.A (.compStart (.ListComp elt [⟨tg,iter,ifs,0⟩] scope pos) 0 (.ref it) acc {cenv with scope:=relabel scope X.env}) (R acc cenv.locals) s₄) E s₃) E s2:=by
 refine zxI (zhQ λh' env' eE eL old hns hcells=>?_)
 have e1:(s2.heap.push {cls:=.type "list",dict:=none,data:=.seq ([]:List Value).toArray}).objs.size=s2.heap.objs.size+1:=zxO ..
 dsimp only at eE eL old hns hcells
 rw[e1]at eE eL hns hcells
 have hD0:(s2.heap.push {cls:=.type "list",dict:=none,data:=.seq ([]:List Value).toArray}).get? s2.heap.objs.size=some (lobj []):=zxH _ rfl
 have hD:h'.get? s2.heap.objs.size=some (lobj []):=old _ _ hD0
 have old':∀b o,s2.heap.get? b=some o->h'.get? b=some o:=λb o q=>old b o (zxF _ q)
 have fex:∀b ∈ fp,∃o,s2.heap.get? b=some o:=λb hb=>by obtain⟨o,e,_⟩:=T.obj _ _ st2 b hb;exact⟨o,e⟩
 have flt:∀b ∈ fp,b<s2.heap.objs.size:=λb hb=>by obtain⟨o,e⟩:=fex b hb;exact zxG e
 have I':=zkA I2 C hk f2 fex old' hns hcells
 rw[eE,eL]
 generalize hX:wU X N scope (vz X.env scope.names []) s2 H2 fp=X' at I'
 have xP:X'.prog=X.prog:=by rw[<-hX]
 have xw:X'.w=X.w:=by rw[<-hX]
 have xK:X'.K=X.K:=by rw[<-hX]
 have xA:X'.A=X.A:=by rw[<-hX]
 have xe:X'.env=zaJ scope X.env (vz X.env scope.names []) (s2.heap.objs.size+1):=by rw[<-hX]
 have xL:X'.env.locals=s2.heap.objs.size+1:=by rw[xe];rfl
 have xfs:X'.fs=frs X.stack:=by rw[<-hX]
 have xex:X'.ex=fp:=by rw[<-hX]
 have xs:X'.s₀=s2:=by rw[<-hX]
 have xH:X'.H₀=H2:=by rw[<-hX]
 have xpn:X'.pn=[]:=by rw[<-hX]
 have xc:X'.calm=true:=by rw[<-hX];exact hc
 have xE:X'.xe=λ_ _=>False:=by rw[<-hX]
 have hg':PG X' tg g:=by rw[<-hX];exact hg _ _ _ _
 have ht':PTs X' ifs tt:=by rw[<-hX];exact ht _ _ _ _
 have he':PE X' elt te:=by rw[<-hX];exact he _ _ _ _
 have H2D:H2 s2.heap.objs.size=none:=I2.hok.fresh (zzK _)
 have Dfs:s2.heap.objs.size ∉ X'.fs:=by
  rw[xfs]
  intro hm
  rcases zS.mp (I2.stkSub _ hm)with z|z
  · exact absurd I2.lt (by rw[<-z];exact Nat.lt_irrefl _)
  · exact I2.nofs (zzK _) z
 have DL:s2.heap.objs.size≠X'.env.locals:=by rw[xL];exact zzN (Nat.lt_succ_self _)
 have pinD:∀{σ':St}{H':Hp}{s':Shared}{its:List Value}{ps:List (Addr×Obj)},Inv X' ps σ' H' s'->s'.heap.get? s2.heap.objs.size=some (lobj its)->H' s2.heap.objs.size=none->Inv X' [(s2.heap.objs.size,lobj its)] σ' H' s':=λI e n=>
  I.pins_of λp hp=>by
   cases zzO.mp hp
   exact⟨e,n,DL,Dfs,λv z=>by cases z⟩
 have stat:∀{H':Hp}{its:List Value},(∀b ∈ fp,H' b=none)->∀b ∈ fp,zgx X' [(s2.heap.objs.size,lobj its)] H' b:=λhn b hb=>by
  refine⟨hn b hb, ?_, ?_,.inl (by rw[xex];exact hb),(I'.ok.exf b (by rw[xex];exact hb)).2,λp hp=>?_⟩
  · exact(I'.ok.exf b (by rw[xex];exact hb)).1
  · exact I'.ok.exfs b (by rw[xex];exact hb)
  · rw[xpn,List.nil_append]at hp
    cases zzO.mp hp
    exact Nat.ne_of_gt (flt b hb)
 have loop:∀(n:Nat) (s':Shared),(∃i ys its H3,Inv X' [(s2.heap.objs.size,lobj its)] (Zh cap σ) H3 s'/\tn i s'.heap/\(∀b ∈ fp,H3 b=none)/\Vals ys its/\W i n ys H3)->
  codeAny (model X.prog X.w) X.A (.compLoop (.ListComp elt [⟨tg,iter,ifs,0⟩] scope pos) 0 (.ref it) (.ref s2.heap.objs.size) (zaJ scope X.env (vz X.env scope.names []) (s2.heap.objs.size+1)))
   (R (.ref s2.heap.objs.size) (s2.heap.objs.size+1)) s':=by
  intro n s' h0
  refine zhN (λn s'=>∃i ys its H3,Inv X' [(s2.heap.objs.size,lobj its)] (Zh cap σ) H3 s'/\tn i s'.heap/\(∀b ∈ fp,H3 b=none)/\Vals ys its/\W i n ys H3) ?_ n h0
  clear h0 n s'
  rintro n s3 E' ⟨i,ys,its,H3,I3,st3,fr3,rv3,w3⟩
  obtain⟨hz,hstep⟩:=turn i n ys H3 w3
  rcases hstep with⟨stop,qn⟩|⟨go,step⟩
  · have:=T.done X' xP xw xK xc i _ s3 _ H3 E' I3 (stat fr3) st3 stop
    rw[xA]at this
    refine zxQ this (λr s4 ⟨hr,I4⟩=>?_) λ_ _ z=>z
    subst hr
    obtain⟨gD,nD,_⟩:=I4.pin (s2.heap.objs.size,lobj its) (by rw[xpn];simp)
    obtain⟨m,hn,_⟩:=I4.loc
    rw[xL]at hn
    have b4:=I4.base
    rw[xfs,xex,xH,xs]at b4
    have nL:H3 (s2.heap.objs.size+1)=none:=by have:=I4.free;rw[xL]at this;exact this
    have neD:∀b o,s2.heap.get? b=some o->b≠s2.heap.objs.size:=λb o e=>zzN (zxG e)
    have neH:∀b u,H2 b=some u->b≠s2.heap.objs.size:=λb u e z=>by rw[z,H2D]at e;cases e
    have ne3:∀b u,H3 b=some u->b≠s2.heap.objs.size:=λb u e z=>by rw[z,nD]at e;cases e
    have hok4:=I4.hok
    rw[xP,xw]at hok4
    refine fin ys H3 s4 m (I2.call' (ch:=fp) ?_ ⟨b4.keep,b4.slot,λb o e n hx=>?_,b4.there,λb xs e=>?_,λb o u e=>?_,λb ps e=>?_⟩ ?_ I4.bare λb hb=>?_) hn (I2.fpOk (zyU _) (by rw[zW (Nat.ne_of_gt (Nat.lt_succ_self _))];exact nL)) (qn _ nD)
    · have:=I4.os;rw[xs]at this;exact this
    · rw[zW (neD b o e)];exact b4.free b o e n hx
    · rw[zW (neH b _ e)];exact b4.tups b xs e
    · rw[zW (neH b _ e)];exact b4.frzs b o u e
    · rw[zW (neH b _ e)];exact b4.tbls b ps e
    · intro b u e
      by_cases hb:b=s2.heap.objs.size
      · subst hb
        rw[yf]at e
        cases e
        exact⟨hz,its,its.length,rv3,gD⟩
      · rw[zW hb]at e
        exact(hok4 b u e).stay (λc v _ q=>q) (λc q=>by rw[zW (ne3 c _ q)];exact q) λc xs q=>by rw[zW (ne3 c _ q)];exact q
    · obtain⟨f0,f1,f3,f4,f5,f6⟩:=f2 b hb
      exact⟨f4,f1,f5,f6⟩
  · have:=T.item X' xP xw xK xc i _ s3 _ H3 E' I3 (stat fr3) st3 go
    rw[xA]at this
    refine zxQ this (λr s4 ⟨u,hr,h4⟩=>?_) λ_ _ z=>z
    subst hr
    refine zxQ h4 (λ_ s5 ⟨x,H5,I5,r5,y5,st5,fr5⟩=>?_) λ_ _ z=>z
    have I5':=I5.pinned (stat fr5) (T.obj _ _ st5)
    have h6:=hg' _ s5 _ H5 x u _ I5' r5 (step x H5 y5)
    rw[xP,xw,xA,xe,xE]at h6
    refine zxQ h6 (λ_ s6 ⟨σ6,H6,I6,cap6,q6⟩=>?_) λ_ _ z=>z.elim
    have h7:=ht' _ s6 σ6 H6 _ I6 q6
    rw[xP,xw,xA,xe,xE]at h7
    refine zxQ h7 (λb s7 ⟨H7,I7,q7⟩=>?_) λ_ _ z=>z.elim
    have keep:∀{H8:Hp}{s8:Shared},Inv X' ([(s2.heap.objs.size,lobj its)]++zfA fp s5.heap) σ6 H8 s8->Inv X' [(s2.heap.objs.size,lobj its)] (Zh cap σ) H8 s8/\tn (i+1) s8.heap/\∀b ∈ fp,H8 b=none:=λ{H8 s8} I8=>by
     refine⟨I8.unpinned.weak ?_ cap6,T.keep _ _ _ st5 λb hb o e=>(I8.pin (b,o) (zzI _ (zzI _ (Vd hb e)))).1,λb hb=>?_⟩
     · rw[I3.len];exact I8.len.symm
     · obtain⟨o,e,d⟩:=T.obj _ _ st5 b hb
       exact(I8.pin (b,o) (zzI _ (zzI _ (Vd hb e)))).2.1
    cases b with
    |false=>
     obtain⟨m',hm,w7⟩:=q7
     obtain⟨k1,k2,k3⟩:=keep I7
     exact⟨m',hm,i+1,ys,its,H7,k1,k2,k3,rv3,w7⟩
    |true=>
     obtain⟨hz2,q7⟩:=q7
     have h8:=he' _ s7 σ6 H7 _ I7 q7
     rw[xP,xw,xA,xe,xE]at h8
     show wpAny _ _ _ _ _ _
     refine zxQ h8 (λyv s8 ⟨y,H8,I8,ry,m',hm,w8⟩=>?_) λ_ _ z=>z.elim
     obtain⟨k1,k2,k3⟩:=keep I8
     obtain⟨gD,nD,_⟩:=k1.pin (s2.heap.objs.size,lobj its) (by rw[xpn];simp)
     have hl:=rv3.length
     refine append_at gD (λh9 sb gD9=>?_) (by rw[zzE];omega)
     have I9:Inv X' [] (Zh cap σ) H8 {s8 with heap:=h9}:=(k1.pins_of (pins':=[]) (λ_ z=>nomatch z)).turned (t':=s8.toks) (it:=s2.heap.objs.size) (λb o hb e=>(sb.2 b hb).trans e) nD DL (.inr (by rw[xs];exact zzK _)) (λx c ec z=>by
      obtain⟨v,o,ho,hd⟩:=k1.cell x c ec
      rw[z,gD]at ho
      cases ho
      cases hd) (λp hp=>by rw[xpn]at hp;cases hp)
     have gD9':h9.get? s2.heap.objs.size=some (lobj (its++[yv])):=by
      rw[gD9]
      congr 1
      show({cls:=.type "list",data:=.seq (its.toArray.push yv) (its.length+1)}:Obj)={cls:=.type "list",data:=.seq (its++[yv]).toArray (its++[yv]).length}
      rw[zzG,List.length_singleton,List.push_toArray]
     refine⟨m',hm,i+1,ys++[y],its++[yv],H8,pinD I9 gD9' nD,T.keep _ _ _ k2 λb hb o e=>(sb.2 b (zzN (flt b hb))).trans e,k3,rv3.append (.cons ry .nil),w8⟩
 have start:∃i ys its H3,Inv X' [(s2.heap.objs.size,lobj its)] (Zh cap σ) H3 {s2 with heap:=h'}/\tn i h'/\(∀b ∈ fp,H3 b=none)/\Vals ys its/\W i m0 ys H3:=
  ⟨0,[],[],H2,pinD I' hD H2D,T.keep _ _ _ st2 λb hb o e=>old' b o e,λb hb=>(f2 b hb).1,.nil,w0⟩
 exact codeAny_compStart_list (loop m0 _ start) (T.self _ 0 _ _ _ (T.keep _ _ _ st2 λb hb o e=>old' b o e) (loop m0 _ start))
theorem zpF(hc:X.calm=true)(hi:PI X tg iter wi)(hk:scope.kind = .function)(hcap:wz N X.N scope.names X.env.scope.names cap=true)
 (hg:∀cl s H fp,PG (wU X N scope cl s H fp) tg g) (ht:∀cl s H fp,PTs (wU X N scope cl s H fp) ifs tt) (he:∀cl s H fp,PE (wU X N scope cl s H fp) elt te)
 (hs:∀x,foldedSetIterable iter X.env x=pure x):PE X (.ListComp elt [⟨tg,iter,ifs,0⟩] scope pos) (zoq wi cap g tt te):=by
 intro pins s σ H Q I h
 have C:=ziF hcap
 rw[eval_ListComp]
 refine wpAny_comprehension_free (use:=none) rfl hs (zbt λx m e=>I.ok.has x.1 (C.fr x m e)) hk (λy m e=>zcD C.nd (by rw[<-e];exact m)) ?_
 refine thn (hi pins s σ H _ I h) λv s1 h1=>thn h1 λitv s2 h2=>?_
 obtain⟨it,fp,tn,J,H2,e,I2,T,st2,f2,W,⟨m0,w0⟩,turn⟩:=h2
 subst e
 refine zfC (R:=λacc C r s'=>compPost (model X.prog X.w) X.A X.xe none (EP X pins σ Q) acc C r s') hc C hk hg ht he I2 T st2 f2 W m0 w0 turn λys H3 s3 m I3 hn fl q=>?_
 refine⟨m,hn,λh' sb=>?_⟩
 obtain⟨f0,f1,f3,f4,f5,f6⟩:=fl
 exact⟨.ref s2.heap.objs.size,_,I3.turned (t':=s3.toks) (λb o hb e=>(sb.2 b hb).trans e) f0 f1 f4 f5 f6,rfl,q⟩
theorem zoP{i:Nat}{y:Str}{py spos:Pos}(hN:X.N.Nodup)(hiy:X.N[i]? = some y)(hy:Loc X.env.scope y)(hf:X.fn y=true\/X.env.scope.names.lookup y=some .local)
 (hsw:swapsWith (.ListComp elt [⟨tg,iter,ifs,0⟩] scope pos) (some (.Name y py)) spos.line X.env=pure true)
 (hc:X.calm=true) (hi:PI X tg iter wi) (hk:scope.kind = .function) (hcap:wz N X.N scope.names X.env.scope.names cap=true)
 (hg:∀cl s H fp,PG (wU X N scope cl s H fp) tg g) (ht:∀cl s H fp,PTs (wU X N scope cl s H fp) ifs tt) (he:∀cl s H fp,PE (wU X N scope cl s H fp) elt te)
 (hs:∀x,foldedSetIterable iter X.env x=pure x):PS X (.Assign [.Name y py] (.ListComp elt [⟨tg,iter,ifs,0⟩] scope pos) spos) (zrl (zoq wi cap g tt te) (Wr i)):=by
 intro pins s σ H D I h
 have C:=ziF hcap
 rw[exec_Assign_Name_used _ _ _ _ hsw]
 refine zxD (wpAny_standAt (zxD ?_))
 show wpAny _ X.A (do let _ <-comprehension (.ListComp elt [⟨tg,iter,ifs,0⟩] scope pos) scope X.env _ (newList []) false (eval iter X.env) (some (assign (.Name y py) X.env))) _ _ s
 refine zxD (zxQ (wpAny_comprehension_free (use:=some (assign (.Name y py) X.env)) (Q:=λ_ s'=>SP X pins D .next s') rfl hs (zbt λx m e=>I.ok.has x.1 (C.fr x m e)) hk (λy m e=>zcD C.nd (by rw[<-e];exact m)) ?_) (λ_ s' hq=>zxE (zxE hq)) λ_ _ e=>e)
 refine thn (hi pins s σ H _ I h) λv s1 h1=>thn h1 λitv s2 h2=>?_
 obtain⟨it,fp,tn,J,H2,e,I2,T,st2,f2,W,⟨m0,w0⟩,turn⟩:=h2
 subst e
 refine zfC (Q:=λx H1=>Wr i x σ H1 D.nx) (R:=λacc C r s'=>compPost (model X.prog X.w) X.A X.xe (some (assign (.Name y py) X.env)) (λ_ s'=>SP X pins D .next s') acc C r s') hc C hk hg ht he I2 T st2 f2 W m0 w0 turn λys H3 s3 m I3 hn fl q=>?_
 obtain⟨f0,f1,f3,f4,f5,f6⟩:=fl
 refine wpAny_assign_Name (zha I3 hN hiy hy (v:=.ref s2.heap.objs.size) rfl (λs4 I4 ⟨a,sb,ha⟩=>?_) hf)
 refine⟨m,hn.sameBut sb (λz=>?_),λh' sb'=>?_⟩
 · rcases ha with ha|ha
   · exact f1 (z.trans ha)
   · exact f5 y a ha z.symm
 · exact⟨_,_,I4.turned (t':=s4.toks) (λb o hb e=>(sb'.2 b hb).trans e) f0 f1 f4 f5 f6,q⟩
end
structure ItC(K:zC)(kd:KD)(F:Addr->Prop)(H:Hp)(J:It)(ds:List It1):Prop where
 all:∀(H2:Hp) (T:Addr->Prop),(∀b u,H b=some u->H2 b=some u)->(∀a,T a->H a=none/\H2 a≠none)->∀i,(i<ds.length->J.go i H2)/\(ds.length<=i->J.stop i H2)/\
  ∀v H3,J.yld i H2 v H3->(∀b o,H2 b=some o->H3 b=some o)/\∀x,ds[i]? = some x->Rp K kd (λa=>x.1=true/\(F a\/T a)) H3 v x.2
def alC(K:zC)(kd:KD)(f:IF):TI:=λσ H R=>∃F B ad as ds as',Rel K kd F B [] ad as σ H/\f as=some (ds,as')/\
 ∀J ad' H',Rel K kd F B [] ad' as' σ H'->Grow (Gw [] ad) H (Gw [] ad') H'->ItC K kd (Lv F B (Gw [] ad') true) H' J ds->R J H'
@[irreducible] def AIc(X:Cx)(kd:KD)(tg iter:Expr)(f:IF):Prop:=PI X tg iter (alC X.K kd f)
def zdg(os:List O):List It1:=os.map λo=>match o with | .lf st d=>(st,d)|o=>(false,o.toD)
def zuv(as:AS):RV->Option (List It1)
 | .ow o=>zje (o.str,o.toD)
 | .bo i=>match as[i]? with
  |some (some (.nd .ls os))=>some (zdg os)
  |some (some (.nd .tp os))=>some (zdg os)
  |_=>none
def xX(f:EF):IF:=λas=>(f as).bind λp=>(zuv p.2 p.1).bind λds=>some (ds,p.2)
section
variable{K:zC}{kd:KD}{F B:Addr->Prop}{G:Addr->Prop}{T:List Addr}{ad:Ad}{as:AS}{σ:St}{H H':Hp}
inductive RpC(K:zC)(kd:KD)(F:Addr->Prop)(H:Hp):List V->List It1->Prop
 |nil:RpC K kd F H [] []
 |cons {v:V}{x:It1}{vs:List V}{ds:List It1}:Rp K kd (λa=>x.1=true/\F a) H v x.2->RpC K kd F H vs ds->RpC K kd F H (v::vs) (x::ds)
theorem RpC.length{vs:List V}{ds:List It1}(h:RpC K kd F H vs ds):vs.length=ds.length:=by
 induction h with
 |nil=>rfl
 |cons _ _ ih=>exact congrArg (· + 1) ih
theorem RpC.get{vs:List V}{ds:List It1}{i:Nat}{x:It1}(h:RpC K kd F H vs ds)(e:ds[i]? = some x):∃v,vs[i]? = some v/\Rp K kd (λa=>x.1=true/\F a) H v x.2:=by
 induction h generalizing i with
 |nil=>simp at e
 |cons h r ih=>
  cases i with
  |zero=>simp at e;subst e;exact⟨_,rfl,h⟩
  |succ i=>
   obtain⟨v,h1,h2⟩:=ih (i:=i) (by simpa using e)
   exact⟨v,by simpa using h1,h2⟩
theorem Rp.since{Ob:Addr->Prop}{v:V}{d:D}{T:Addr->Prop}(k:∀b u,H b=some u->H' b=some u)(hT:∀a,T a->H a=none)(h:Rp K kd Ob H v d):Rp K kd (Un2 Ob T) H' v d:=
 Rp.grow (F:=Ob) (W:=λ_=>False) (W':=T) (H':=H') ⟨λb u q _=>k b u q,λb z=>.inr (hT b z)⟩ (h.less λa z=>z.elim id False.elim)
theorem zfB{st:Bool}{vs:List V}{ds:List D}(h:RpL K kd (Lv F B G st) H vs ds):RpC K kd (Lv F B G true) H vs (kids st ds):=
 RpL.ind (P:=λvs ds=>RpC K kd (Lv F B G true) H vs (kids st ds)) .nil (λ{v d vs ds} h _ ih=>by
  refine .cons (x:=(zL d||st,d)) ?_ ih
  cases e:zL d with
  |true=>exact h.flat e
  |false=>
   refine h.less λa z=>?_
   have zs:st=true:=z.1
   rw[zs];exact z.2) h
theorem zre{vs:List V}{os:List O}{fp:List Addr}(h:vB K kd F B G H vs os fp):RpC K kd (Lv F B G true) H vs (zdg os):=
 RoL.ind (P:=λvs os _=>RpC K kd (Lv F B G true) H vs (zdg os)) .nil (λ{v o vs os fp fq} h _ ih=>by
  have ha:=zhT h
  refine .cons ?_ ih
  cases h with
  |lf rp=>exact rp.less λa z=>(by have zs:=z.1;dsimp only at zs;rw[zs];exact z.2)
  |ls=>exact ha.less λa z=>nomatch z.1
  |dc=>exact ha.less λa z=>nomatch z.1
  |ob=>exact ha.less λa z=>nomatch z.1
  |tp=>exact ha.less λa z=>nomatch z.1) h
theorem zgn{a:Addr}{vs:List V}{ds:List It1}(h:SqL K H a vs)(r:RpC K kd F H vs ds):ItC K kd F H (Itl K a) ds:=⟨λH3 T k hT i=>by
 have hr3:SqL K H3 a vs:=by
  rcases h with(h|⟨o,h⟩)|h
  · exact .inl (.inl (k _ _ h))
  · exact .inl (.inr ⟨o,k _ _ h⟩)
  · exact .inr h
 refine⟨λhi=>?_,λhi=>⟨_,hr3,by rw[r.length];exact hi⟩,λv H4 hy=>?_⟩
 · obtain⟨u,hu,_⟩:=r.get (zzB hi)
   exact⟨_,u,hr3,hu⟩
 · obtain⟨rfl,hv⟩:=hy
   refine⟨λ_ _ z=>z,λd hd=>?_⟩
   obtain⟨u,hu,ru⟩:=r.get hd
   have:=hv _ hr3
   rw[hu]at this
   cases this
   exact(ru.since k λa z=>(hT a z).1).less λa z=>z.2.elim (λy=>.inl ⟨z.1,y⟩) .inr⟩
theorem zkS{a:Addr}{vs:List V}{ds:List It1}(h:SqT K H a vs)(r:RpC K kd F H vs ds):ItC K kd F H (Itt K a) ds:=⟨λH3 T k hT i=>by
 have hr3:SqT K H3 a vs:=by
  rcases h with(h|⟨o,h⟩)|h
  · exact .inl (.inl (k _ _ h))
  · exact .inl (.inr ⟨o,k _ _ h⟩)
  · exact .inr h
 refine⟨λhi=>?_,λhi=>⟨_,hr3,by rw[r.length];exact hi⟩,λv H4 hy=>?_⟩
 · obtain⟨u,hu,_⟩:=r.get (zzB hi)
   exact⟨_,u,hr3,hu⟩
 · obtain⟨rfl,hv⟩:=hy
   refine⟨λ_ _ z=>z,λd hd=>?_⟩
   obtain⟨u,hu,ru⟩:=r.get hd
   have:=hv _ hr3
   rw[hu]at this
   cases this
   exact(ru.since k λa z=>(hT a z).1).less λa z=>z.2.elim (λy=>.inl ⟨z.1,y⟩) .inr⟩
theorem zpJ(lo:Int)(n:Nat):ItC K kd F H (Itr lo n) (xY lo n):=⟨λH2 T k hT i=>by
 have hl:(xY lo n).length=n:=by unfold xY;simp
 refine⟨λhi=>by rw[hl]at hi;exact hi,λhi=>by rw[hl]at hi;exact hi,λv H3 hy=>?_⟩
 obtain⟨rfl,rfl⟩:=hy
 refine⟨λ_ _ z=>z,λd hd=>?_⟩
 have hi:i<n:=by rw[<-hl];exact(zzD.mp hd).1
 unfold xY at hd
 rw[zzF,List.getElem?_range hi]at hd
 cases hd
 exact .int _⟩
end
theorem wR{X:Cx}{kd:KD}{tg e:Expr}{fa:EF}(he:AE X kd e fa):AIc X kd tg e (xX fa):=by
 with_unfolding_all (
 intro pins s σ H R I h
 obtain⟨F,B,ad,as,ds,as',Rl,e,q⟩:=h
 obtain⟨⟨p,as1⟩,h1,e⟩:=bS_ (show(fa as).bind _=_ from e)
 obtain⟨ys,h2,e⟩:=bS_ e
 cases e
 cases p with
 |ow o=>
  have h2:zje (o.str,o.toD)=some ds:=h2
  generalize hd:o.toD=d at h2
  cases d with
  |lst xs=>
   cases h2
   refine zaV he pins s σ H R I ⟨F,B,ad,as,_,as1,Rl,h1,λv T1 ad1 H1 R1 rv1 g1=>?_⟩
   have rp:=zjT R1 rv1
   rw[hd]at rp
   cases rp with
   |lst hn hr rl=>exact⟨_,rfl,⟨_,.inl hr⟩,q _ ad1 H1 R1.drop (g1.trans (Grow.less Gw.drop)) (zgn (.inl hr) (zfB rl))⟩
   |lstK a b c rl=>exact⟨_,rfl,⟨_,.inr ⟨_,_,_,a,rfl,rfl,rfl,b,c⟩⟩,q _ ad1 H1 R1.drop (g1.trans (Grow.less Gw.drop)) (zgn (.inr ⟨_,_,_,a,rfl,rfl,rfl,b,c⟩) (zfB rl))⟩
  |tup xs=>
   cases h2
   refine zka he pins s σ H R I ⟨F,B,ad,as,_,as1,Rl,h1,λv T1 ad1 H1 R1 rv1 g1=>?_⟩
   have rp:=zjT R1 rv1
   rw[hd]at rp
   have go:∃a ys,v = .ref a/\SqT X.K H1 a ys/\RpL X.K kd (Lv F B (Gw [] ad1) o.str) H1 ys xs:=by
    cases rp with
    |tup n h r=>exact⟨_,_,rfl,.inl h,r⟩
    |tupK a b c e f r=>exact⟨_,_,rfl,.inr ⟨_,_,_,a,b,c,e,f⟩,r⟩
   obtain⟨a,ys,rfl,hs,rl⟩:=go
   exact⟨_,rfl,⟨_,hs⟩,q _ ad1 H1 R1.drop (g1.trans (Grow.less Gw.drop)) (zkS hs (zfB rl))⟩
  |_=>cases h2
 |bo i=>
  have h2:(match as1[i]? with|some (some (.nd .ls os))=>some (zdg os)|some (some (.nd .tp os))=>some (zdg os)|_=>none)=some ds:=h2
  cases k:as1[i]? with
  |none=>rw[k]at h2;cases h2
  |some s0=>
   rw[k]at h2
   match s0,h2,k with
   |some (.nd .ls os),h2,k=>
    cases h2
    refine zaV he pins s σ H R I ⟨F,B,ad,as,_,as1,Rl,h1,λv T1 ad1 H1 R1 rv1 g1=>?_⟩
    obtain⟨rfl,hs⟩:=rv1
    obtain⟨w,hw,ro⟩:=R1.sl i _ k
    rw[hs]at hw
    cases hw
    generalize hfp:ad1 i=fp at ro
    cases ro with
    |ls hH rl=>exact⟨_,rfl,⟨_,.inl (.inl hH)⟩,q _ ad1 H1 R1 g1 (zgn (.inl (.inl hH)) (zre rl))⟩
   |some (.nd .tp os),h2,k=>
    cases h2
    refine zka he pins s σ H R I ⟨F,B,ad,as,_,as1,Rl,h1,λv T1 ad1 H1 R1 rv1 g1=>?_⟩
    obtain⟨rfl,hs⟩:=rv1
    obtain⟨w,hw,ro⟩:=R1.sl i _ k
    rw[hs]at hw
    cases hw
    generalize hfp:ad1 i=fp at ro
    cases ro with
    |tp n hH rl=>exact⟨_,rfl,⟨_,.inl (.inl hH)⟩,q _ ad1 H1 R1 g1 (zkS (.inl (.inl hH)) (zre rl))⟩)
theorem ZF{X:Cx}{kd:KD}{tg a:Expr}{pos:Pos}{fr:AF}{p:Pos}(hg:Gl X "range")(hm:X.mg "range"=none)(ha:AA X kd [a] fr)(hs:starEach [a] X.env=[(false,eval a X.env)]):AIc X kd tg (.Call (.Name "range" p) [a] [] pos) (yM fr yP):=by
 with_unfolding_all (
 intro pins s σ H R I h
 obtain⟨F,B,ad,as,ds,as',Rl,e,q⟩:=h
 obtain⟨⟨ps,as1⟩,h1,e⟩:=bS_ (show(fr as).bind _=_ from e)
 obtain⟨⟨xs,lv⟩,h2,e⟩:=bS_ e
 obtain⟨ys,h3,e⟩:=bS_ e
 cases e
 obtain⟨j,rfl,h3⟩:=zkL h3
 · obtain⟨hj,e3⟩:=zM h3
   cases e3
   refine zhc hg hm ha hs pins s σ H R I ⟨F,B,ad,as,ps,_,Rl,h1,λvs ad1 H1 R1 rv1 g1=>?_⟩
   have vl:=W6 R1 rv1 h2
   cases vl with
   |cons v1 v2=>
    cases v2
    cases v1
    exact⟨j,rfl,hj.1,hj.2,q _ ad1 H1 R1 g1 (zpJ 0 _)⟩)
def zuD(as:AS):Option Nat->Option O
 |none=>none
 |some j=>match as[j]? with
  |some (some (.lf st d))=>some (.lf st d)
  |some (some o)=>some (.lf false o.toD)
  |_=>none
def YH(cap:List (Option Nat))(as:AS):AS:=cap.map (zuD as)
def xr(g:GF)(tt:TF)(fe:EF)(as0:AS):List It1->Option (List O)
 | []=>some []
 |x::r=>(g x as0).bind λas1=>(tt as1).bind λb=>if b.1=true then(fe b.2).bind λp=>(toO p.2 p.1).bind λq=>if q.1.str=true then(xr g tt fe as0 r).bind λos=>some (q.1::os)else none
  else xr g tt fe as0 r
def zY(fi:IF)(cap:List (Option Nat))(g:GF)(tt:TF)(fe:EF):EF:=λas=>(fi as).bind λp=>if p.1.length<=sizeLine then(xr g tt fe (YH cap p.2) p.1).bind λos=>some (.ow (.nd .ls os),p.2)else none
def yL:TF:=λas=>some (true,as)
section
variable{K:zC}{kd:KD}{F B:Addr->Prop}{T:List Addr}{ad:Ad}{as:AS}{σ:St}{H H':Hp}{cap:List (Option Nat)}
theorem zoH(R:Rel K kd F B [] ad as σ H)(k:∀b u,H b=some u->H' b=some u)(hT:∀a ∈ T,H a=none)(hT':∀a ∈ T,H' a≠none):
 Rel K kd (Un2 (Lv F B (Gw [] ad) true) (· ∈ T)) (λ_=>False) [] (λ_=>[]) (YH cap as) (Zh cap σ) H':=by
 have no:∀a,¬Gw [] (λ_=>[]) a:=λa z=>z.elim (λy=>nomatch y) λ⟨_,y⟩=>nomatch y
 have kn:∀a,H a≠none->H' a≠none:=λa z=>by
  cases e:H a with
  |none=>exact absurd e z
  |some u=>rw[k a u e];simp
 have up:∀{st:Bool}{v:V}{d:D},Rp K kd (λa=>st=true/\Lv F B (Gw [] ad) true a) H v d->Rp K kd (Lv (Un2 (Lv F B (Gw [] ad) true) (· ∈ T)) (λ_=>False) (Gw [] λ_=>[]) st) H' v d:=λ{st v d} h=>by
  have:=Rp.grow (F:=λa=>st=true/\Lv F B (Gw [] ad) true a) (W:=λ_=>False) (W':=(· ∈ T)) (H':=H') ⟨λb u q _=>k b u q,λb z=>.inr (hT b z)⟩ (h.less λa z=>z.elim id False.elim)
  refine this.less λa z=>?_
  rcases z with(⟨z1,z2⟩|z)|z
  · rcases z2 with z2|z2
    · exact .inl ⟨z1,z2⟩
    · exact .inr z2
  · exact z.elim
  · exact(no a z).elim
 refine⟨by unfold YH Zh;rw[zD,zD],λ_ _=>rfl,λ_=>zyG,(λ_ _ _ z=>nomatch z),zyG,(λ_ _ _ z=>nomatch z),λa z=>z.elim (λy=>kn a (R.trk true a y)) (hT' a),(λ_ z=>z.elim),λa z=>(no a z).elim,λi s e=>?_⟩
 unfold YH at e
 rw[zzF]at e
 obtain⟨c,hc,rfl⟩:=zzU.mp e
 have es:(Zh cap σ)[i]? = some (ztp σ c):=by
  unfold Zh
  rw[zzF,hc]
  rfl
 rw[es]
 cases c with
 |none=>rfl
 |some j=>
  show zfY _ _ _ _ _ _ (match as[j]? with|some (some (.lf st d))=>some (.lf st d)|some (some o)=>some (.lf false o.toD)|_=>none) _ _
  cases k2:as[j]? with
  |none=>rfl
  |some s0=>
   cases s0 with
   |none=>rfl
   |some o=>
    obtain⟨v,hv,ro⟩:=R.sl j _ k2
    cases o with
    |lf st d=>
     have e0:ad j=[]:=by
      generalize hfp:ad j=fp at ro
      cases ro
      rfl
     rw[e0]at ro
     refine⟨v,by show some ((σ[j]?).getD none)=_;rw[hv];rfl,.lf (up ?_)⟩
     exact(zhU ro).less λa z=>by have zs:st=true:=z.1;show Lv F B (Gw [] ad) st a;rw[zs];exact z.2
    |nd kk os=>exact⟨v,by show some ((σ[j]?).getD none)=_;rw[hv];rfl,.lf (up ((zhT ro).less λa z=>nomatch z.1))⟩
theorem zot{S:List Nat}{fi:IF}{g:GF}{tt:TF}{fe:EF}{Q:VK}(hS:∀i ∈ S,cap[i]? = some none)(h:al K kd (zY fi cap g tt fe) σ H Q):
 zoq (alC K kd fi) cap (alG K kd S g) (alT K kd tt) (al K kd fe) σ H Q:=by
 obtain⟨F,B,ad,as,r,as',R,e,q⟩:=h
 obtain⟨⟨ds,as1⟩,h1,e⟩:=bS_ (show(fi as).bind _=_ from e)
 by_cases hz:ds.length<=sizeLine
 · have e:(if ds.length<=sizeLine then(xr g tt fe (YH cap as1) ds).bind λos=>some (RV.ow (.nd .ls os),as1)else none)=some (r,as'):=e
   rw[if_pos hz]at e
   obtain⟨os,h2,e⟩:=bS_ e
   cases e
   refine⟨F,B,ad,as,ds,as',R,h1,λJ ad1 H1 R1 g1 it=>?_⟩
   refine⟨λi m ys H3=>m+i=ds.length/\∃T os1 os2,os=os1++os2/\xr g tt fe (YH cap as') (ds.drop i)=some os2/\os1.length<=i/\T.Nodup/\(∀a ∈ T,H1 a=none/\H3 a≠none)/\(∀b u,H1 b=some u->H3 b=some u)/\
    RoL (λ_ v d=>Rp K kd (Un2 (Lv F B (Gw [] ad1) true) (· ∈ T)) H3 v d) (λa=>¬Un2 (Lv F B (Gw [] ad1) true) (· ∈ T) a) H3 ys os1 T,⟨ds.length,rfl,[],[],os,rfl,h2,zzK _,zyG,(λ_ m=>nomatch m),(λ_ _ z=>z),.nil⟩, ?_⟩
   rintro i m ys H3 ⟨hm,T,os1,os2,eo,ec,hl,tnd,tf,k3,rl⟩
   obtain⟨i1,i2,i3⟩:=it.all H3 (· ∈ T) k3 tf i
   have yl:=rl.length
   refine⟨by omega, ?_⟩
   by_cases hi:i<ds.length
   · refine .inr ⟨i1 hi,λv H4 hy=>?_⟩
     obtain⟨k4,rp⟩:=i3 v H4 hy
     rw[zyN hi]at ec
     obtain⟨as2,e2,ec⟩:=bS_ (show(g _ _).bind _=_ from ec)
     obtain⟨⟨b,as3⟩,e3,ec⟩:=bS_ ec
     have k14:∀b u,H1 b=some u->H4 b=some u:=λb u h=>k4 b u (k3 b u h)
     have kn4:∀a,H3 a≠none->H4 a≠none:=λa z=>by
      cases e:H3 a with
      |none=>exact absurd e z
      |some u=>rw[k4 a u e];simp
     have R4:=zoH (cap:=cap) (T:=T) R1 k14 (λa z=>(tf a z).1) (λa z=>kn4 a (tf a z).2)
     have no:∀a,¬Gw [] (λ_=>[]) a:=λa z=>z.elim (λy=>nomatch y) λ⟨_,y⟩=>nomatch y
     refine⟨_,_,_,_,ds[i],as2,R4,(rp _ (zzB hi)).less λa z=>?_,e2,λσ5 ad5 H5 R5 g5 keep5=>⟨λj w hw=>?_,_,_,ad5,as2,b,as3,R5,e3,λad6 H6 R6 g6=>?_⟩⟩
     · rcases z with(z|z)|z
       · exact z
       · exact z.elim
       · exact(no a z).elim
     · rw[keep5 j λz=>?_]
       · exact hw
       · have:=hS j z
         unfold Zh at hw
         rw[zzF,this]at hw
         cases hw
     · -- what stood is kept
       have g46:=g5.trans g6
       have k46:∀b u,H4 b=some u->H6 b=some u:=λb u h=>g46.keep b u h (no b)
       have k36:∀b u,H3 b=some u->H6 b=some u:=λb u h=>k46 b u (k4 b u h)
       have kn6:∀a,H3 a≠none->H6 a≠none:=λa z=>by
        cases e:H3 a with
        |none=>exact absurd e z
        |some u=>rw[k36 a u e];simp
       have up:∀{H7:Hp}{T2:List Addr},(∀b u,H3 b=some u->H7 b=some u)->(∀a ∈ T2,H3 a=none)->RoL (λ_ v d=>Rp K kd (Un2 (Lv F B (Gw [] ad1) true) (· ∈ T++T2)) H7 v d) (λa=>¬Un2 (Lv F B (Gw [] ad1) true) (· ∈ T++T2) a) H7 ys os1 T:=λ{H7 T2} k7 f7=>
        RoL.mono (λst v d r=>(r.since k7 f7).less λa z=>z.elim (λy=>.inl (.inl y)) λy=>(zzJ.mp y).elim (λx=>.inl (.inr x)) .inr)
         (λa vs n e=>⟨λz=>z.elim (λy=>n (.inl y)) λy=>(zzJ.mp y).elim (λx=>n (.inr x)) λx=>(by have:=f7 a x;rw[this]at e;cases e),k7 _ _ e⟩) (λa _ u h=>k7 a u h) rl
       cases b with
       |false=>
        have:=up (T2:=[]) k36 (λ_ m=>nomatch m)
        rw[zyB]at this
        exact⟨m-1,by omega,by omega,T,os1,os2,eo,ec,Nat.le_succ_of_le hl,tnd,λa z=>⟨(tf a z).1,kn6 a (tf a z).2⟩,λb u h=>k36 b u (k3 b u h),this⟩
       |true=>
        rw[if_pos rfl]at ec
        obtain⟨⟨p,as7⟩,e7,ec⟩:=bS_ ec
        obtain⟨⟨o,as8⟩,e8,ec⟩:=bS_ ec
        by_cases hs:o.str=true
        · have ec:(if o.str=true then(xr g tt fe (YH cap as') (ds.drop (i+1))).bind λos=>some (o::os)else none)=some os2:=ec
          rw[if_pos hs]at ec
          obtain⟨os3,e9,ec⟩:=bS_ ec
          cases ec
          refine⟨by omega,_,_,ad6,as3,p,as7,R6,e7,λy T2 ad7 H7 R7 rv7 g7=>?_⟩
          obtain⟨ad8,R8,ro8,le8⟩:=zfW R7 rv7 e8
          have g47:=g46.trans g7
          have k47:∀b u,H4 b=some u->H7 b=some u:=λb u h=>g47.keep b u h (no b)
          have k37:∀b u,H3 b=some u->H7 b=some u:=λb u h=>k47 b u (k4 b u h)
          have f42:∀a ∈ T2,H4 a=none:=λa z=>(g47.own a (.inl z)).resolve_left (no a)
          have f32:∀a ∈ T2,H3 a=none:=λa z=>by
             cases e:H3 a with
             |none=>rfl
             |some u=>have:=k4 a u e;rw[f42 a z]at this;cases this
          have rt:=zhq R8 R8.tnd (λa z=>.inl z) ro8 hs
          have ro9:Ro (λ_ v d=>Rp K kd (Un2 (Lv F B (Gw [] ad1) true) (· ∈ T++T2)) H7 v d) (λa=>¬Un2 (Lv F B (Gw [] ad1) true) (· ∈ T++T2) a) H7 y o T2:=
             Ro.mono (λst v d r=>r.less λa z=>z.elim (λy=>.inl (.inl y)) λy=>(zzJ.mp y).elim (λx=>.inl (.inr x)) .inr)
              (λa vs n e=>⟨λz=>n (z.elim (λy=>.inl (.inl y)) λy=>(zzJ.mp y).elim (λx=>.inl (.inr x)) .inr),e⟩) (λ_ _ _ h=>h) rt.ro
          refine⟨m-1,by omega,by omega,T++T2,os1++[o],os3,by rw[eo,zxA];rfl,e9,by rw[zzG,List.length_singleton];omega,zxC.mpr ⟨tnd,rt.nd,λa z b z' e=>?_⟩,λa z=>?_,λb u h=>k37 b u (k3 b u h),(up k37 f32).append (RoL.one ro9)⟩
          · subst e
            exact(tf a z).2 (f32 a z')
          · rcases zzJ.mp z with z|z
            · refine⟨(tf a z).1, ?_⟩
              cases e:H3 a with
              |none=>exact absurd e (tf a z).2
              |some u=>rw[k37 a u e];simp
            · refine⟨?_,rt.tr a z⟩
              cases e:H1 a with
              |none=>rfl
              |some u=>have:=k3 a u e;rw[f32 a z]at this;cases this
        · have ec:(if o.str=true then(xr g tt fe (YH cap as') (ds.drop (i+1))).bind λos=>some (o::os)else none)=some os2:=ec
          rw[if_neg hs]at ec
          cases ec
   · refine .inl ⟨i2 (by omega),λp hp=>?_⟩
     rw[List.drop_eq_nil_of_le (by omega)]at ec
     cases ec
     rw[zyB]at eo
     subst eo
     have pT:p ∉ T:=λz=>(tf p z).2 hp
     have H1p:H1 p=none:=by
      cases e:H1 p with
      |none=>rfl
      |some u=>have:=k3 p u e;rw[hp]at this;cases this
     have kp:∀b u,H3 b=some u->upd H3 p (.lst ys) b=some u:=λb u h=>by rw[zW (yG h hp)];exact h
     obtain⟨R9,g9⟩:=R1.news (T':=p::T) (H':=upd H3 p (.lst ys)) (zzT.mpr ⟨pT,tnd⟩) (λa z=>(zS.mp z).elim (λe=>by rw[e];exact H1p) λz=>(tf a z).1) (λb u h=>kp b u (k3 b u h)) (λa z=>by
      rcases zS.mp z with e|z
      · rw[e,yf];simp
      · cases e:H3 a with
        |none=>exact absurd e (tf a z).2
        |some u=>rw[kp a u e];simp)
     refine q _ (p::T) ad1 _ R9 (.ls yf ?_) (g1.trans g9)
     have le:∀st a,Lv F B (Gw (p::T) ad1) st a->Un2 (Un2 (Lv F B (Gw [] ad1) true) (· ∈ T)) (· = p) a:=λst a z=>by
      rcases z with(z|z)|z|z
      · exact .inl (.inl (.inl (.inl ⟨rfl,z.2⟩)))
      · exact .inl (.inl (.inl (.inr z)))
      · exact(zS.mp z).elim .inr λy=>.inl (.inr y)
      · exact .inl (.inl (.inr (.inr z)))
     exact RoL.mono (λst v d r=>(r.since kp (T:=(· = p)) λa z=>by rw[z];exact hp).less (le st)) (λa vs n e=>⟨λz=>(le true a z).elim n λy=>(by rw[y,hp]at e;cases e),kp _ _ e⟩) (λa _ u h=>kp a u h) rl
 · have e:(if ds.length<=sizeLine then(xr g tt fe (YH cap as1) ds).bind λos=>some (RV.ow (.nd .ls os),as1)else none)=some (r,as'):=e
   rw[if_neg hz]at e
   cases e
end
section
variable{X:Cx}{kd:KD}{elt tg iter e a b c:Expr}{es ifs:List Expr}{scope:Scope}{pos:Pos}{N:List Str}{cap:List (Option Nat)}{g:GF}{tt:TF}{fe fa fb:EF}{fi:IF}{S:List Nat}{fr:AF}{fd:DF}
theorem yR:PTs X [] (alT X.K kd yL):=λpins s σ H Q I h=>by
 obtain⟨F,B,ad,as,b,as',R,e,q⟩:=h
 cases e
 exact zpa pins s σ H Q I (q ad H R Grow.refl)
theorem zih(h:AT X kd c tt):PTs X [c] (alT X.K kd tt):=by with_unfolding_all exact(zoQ h)
theorem xT(hc:X.calm=true)(hi:AIc X kd tg iter fi)(hk:scope.kind = .function)(hcap:wz N X.N scope.names X.env.scope.names cap=true)(hS:S.all (λi=>cap[i]? == some none)=true)
 (hg:∀cl s H fp,AG (wU X N scope cl s H fp) kd tg S g) (ht:∀cl s H fp,PTs (wU X N scope cl s H fp) ifs (alT X.K kd tt)) (he:∀cl s H fp,AE (wU X N scope cl s H fp) kd elt fe)
 (hs:∀x,foldedSetIterable iter X.env x=pure x):AE X kd (.ListComp elt [⟨tg,iter,ifs,0⟩] scope pos) (zY fi cap g tt fe):=by with_unfolding_all exact(yJ (zpF (g:=alG X.K kd S g) (te:=al X.K kd fe) hc hi hk hcap hg ht he hs) λσ H Q h=>zot (λi m=>by simpa using List.all_eq_true.mp hS i m) h)
theorem WL{z:Bool}{i:Nat}{y:Str}{py spos:Pos}(hN:X.N.Nodup)(hiy:X.N[i]? = some y)(hy:Loc X.env.scope y)(hf:X.fn y=true\/X.env.scope.names.lookup y=some .local)
 (hsw:swapsWith (.ListComp elt [⟨tg,iter,ifs,0⟩] scope pos) (some (.Name y py)) spos.line X.env=pure true)
 (hc:X.calm=true) (hi:AIc X kd tg iter fi) (hk:scope.kind = .function) (hcap:wz N X.N scope.names X.env.scope.names cap=true) (hS:S.all (λi=>cap[i]? == some none)=true)
 (hg:∀cl s H fp,AG (wU X N scope cl s H fp) kd tg S g) (ht:∀cl s H fp,PTs (wU X N scope cl s H fp) ifs (alT X.K kd tt)) (he:∀cl s H fp,AE (wU X N scope cl s H fp) kd elt fe)
 (hs:∀x,foldedSetIterable iter X.env x=pure x):ASt X kd (.Assign [.Name y py] (.ListComp elt [⟨tg,iter,ifs,0⟩] scope pos) spos) (zH z i (zY fi cap g tt fe)):=by with_unfolding_all exact(Yr (zoP (g:=alG X.K kd S g) (te:=al X.K kd fe) hN hiy hy hf hsw hc hi hk hcap hg ht he hs) λD σ H h=>by
 obtain⟨F,B,ad,as,o,R,e,q⟩:=h
 obtain⟨⟨p,as1⟩,h1,e⟩:=bS_ (show(zY fi cap g tt fe as).bind _=_ from e)
 obtain⟨⟨y,as2⟩,h2,e⟩:=bS_ e
 obtain⟨hl,e⟩:=zM e
 cases e
 refine zot (Q:=λx H1=>Wr i x σ H1 D.nx) (λi m=>by simpa using List.all_eq_true.mp hS i m) ⟨F,B,ad,as,p,as1,R,h1,λv T' ad' H' R' rv g=>?_⟩
 obtain⟨ad2,R2,le⟩:=znH R' rv h2 hl
 exact q _ ad2 H' R2 (g.trans (Grow.less le)))
theorem zU{k:Nat}{f:Addr}{fdt:FuncData}{ps:List Str}{gg:List (Bool×D)->Option O}{x:Str}{p:Pos}(F:FnOk X.prog X.w X.K X.mg X.base CX0 k f fdt ps (spD X.K kd gg))(hr:Room k X.A)(hg:Gl X x)(hm:X.mg x=some (.ref f))(hk:PySem.W.keepIn X.K (.ref f)=true)
 (hb:Binds X.K fdt ps []) (hx:Xa CX0 X (λ_ _ _=>False)) (ha:AA X kd (e::es) fr) (hdb:(x==("__debug__":Str))=false) (he:starEach (e::es) X.env=(false,eval e X.env)::starEach es X.env) (hpl:(backTo pos (starEach es X.env)).any (·.1)=false):
 AE X kd (.Call (.Name x p) (e::es) [] pos) (zE fr gg):=by with_unfolding_all exact(yJ (zpc F hr hg hm hk hb .nil hx ha hdb he hpl) λσ H Q h=>zrR h)
theorem zis{id:String}{gg:List D->Option R0}{x:Str}{p:Pos}(hc:CallD X kd (.builtin id) gg)(hg:Gl X x)(hm:X.mg x=none)(hv:bootBuiltins x=some (.builtin id))(ha:AA X kd (e::es) fr)(hn:x≠"__name__")(hdb:(x==("__debug__":Str))=false)
 (he:starEach (e::es) X.env=(false,eval e X.env)::starEach es X.env) (hpl:(backTo pos (starEach es X.env)).any (·.1)=false):AE X kd (.Call (.Name x p) (e::es) [] pos) (fP fr gg):=by with_unfolding_all exact(yJ (ziw hc hg hm hv ha hn hdb he hpl) λσ H Q h=>alP (λ_ _ _ z=>z) h)
theorem Yb{T:String}{gg:List D->Option R0}{x:Str}{p:Pos}(hc:CallD X kd (.type T) gg)(hg:Gl X x)(hm:X.mg x=none)(hv:bootBuiltins x=some (.type T))(ha:AA X kd (e::es) fr)(hn:x≠"__name__")(hdb:(x==("__debug__":Str))=false)
 (he:starEach (e::es) X.env=(false,eval e X.env)::starEach es X.env) (hpl:(backTo pos (starEach es X.env)).any (·.1)=false):AE X kd (.Call (.Name x p) (e::es) [] pos) (fP fr gg):=by with_unfolding_all exact(yJ (zhd hc hg hm hv ha hn hdb he hpl) λσ H Q h=>alP (λ_ _ _ z=>z) h)
def Wf(fa:EF)(c:String):EF:=λas=>(fa as).bind λp=>(p.1.frz.view p.2).bind λx=>if Wi x.1=true then some (.ow (.lf true (.bl (zdV (tyD x.1) c))),p.2)else none
theorem zoD(hk:KdOk X kd):zbn X (.builtin "isinstance") (λxs H Q=>∃x c O d,xs=[x,.ty c]/\zce c=true/\Vw X.K kd O H x d/\Wi d=true/\Q (.bl (zdV (tyD d) c)) H):=by
 intro pins s σ H xs us Q I r h
 obtain⟨x,c,O,d,rfl,hc,vx,ho,q⟩:=h
 cases r with
 |cons r1 r2=>
  cases r2 with
  |cons r2 r3=>
   cases r3
   cases(show _=Value.type c from r2)
   exact zrr hk I r1 vx hc ho λtk=>⟨.bl _,H,I.tok tk,rfl,q⟩
theorem WX{c:String}{x y:Str}{p p2:Pos}(hkd:KdOk X kd)(hc:zce c=true)(hg:Gl X x)(hm:X.mg x=none)(hv:bootBuiltins x=some (.builtin "isinstance"))(hg2:Gl X y)(hm2:X.mg y=none)(hv2:bootBuiltins y=some (.type c))(ha:AE X kd a fa)
 (hn:x≠"__name__") (hdb:(x==("__debug__":Str))=false) (hn2:y≠"__name__") (hdb2:(y==("__debug__":Str))=false)
 (he:starEach [a,.Name y p2] X.env=(false,eval a X.env)::starEach [.Name y p2] X.env) (he2:starEach [.Name y p2] X.env=(false,eval (.Name y p2) X.env)::starEach [] X.env) (hpl:(backTo pos (starEach [.Name y p2] X.env)).any (·.1)=false):
 AE X kd (.Call (.Name x p) [a,.Name y p2] [] pos) (Wf fa c):=by with_unfolding_all exact(yJ (ziw (zoD hkd) hg hm hv (Vm ha (Vm (zpH (v:=.ty c) hg2 hm2 hv2 rfl hn2 hdb2) zcT he2) he) hn hdb he hpl) λσ H Q h=>by
 obtain⟨F,B,ad,as,r,as',R,e,q⟩:=h
 obtain⟨⟨p,as1⟩,h1,e⟩:=bS_ (show(fa as).bind _=_ from e)
 obtain⟨⟨d,lv⟩,h2,e⟩:=bS_ e
 obtain⟨ho,e⟩:=zM e
 cases e
 exact vZ R h1 λv ad1 H1 R1 rv1 g1=>⟨v,c,_,d,rfl,hc,wC.vw R1 rv1 h2,ho,q _ [] ad1 H1 R1 (.lf (.bl _)) g1⟩)
def Z2:MG:=λos es=>match es with | [o]=>if os.length<sizeLine then some (os++[o],.lf true .non)else none|_=>none
def Vf:MG:=λos es=>match es with | [.lf _ (.int i)]=>if -(2 ^ 63)<=i/\i<2 ^ 63 then(seqIndex? i os.length).bind λk=>(os[k]?).bind λo=>some (os.eraseIdx k,o)else none|_=>none
theorem zqa{l f fo g:List Addr}(h:l.Nodup)(e:l=f++(fo++g)):((f++g)++fo).Nodup/\∀a ∈ (f++g)++fo,a ∈ l:=by
 subst e
 have p:(f++(fo++g)).Perm ((f++g)++fo):=by
  rw[zxA]
  exact(List.perm_append_comm).append_left f
 exact⟨p.nodup_iff.mp h,λa m=>p.mem_iff.mpr m⟩
theorem zbP:MuD X kd zlw Z2:=by
 intro F B G l vs ws os es os' o fp fq H Q hH rl rw' hn e k
 unfold Z2 at e
 split at e
 · obtain⟨hz,e⟩:=zM e
   cases e
   cases rw' with
   |cons h1 h2=>
    cases h2
    rw[zyB]at hn k
    exact⟨l,vs,_,rfl,rfl,hH,by rw[rl.length];exact hz,k _ _ _ [] (rl.append (RoL.one h1)) (.lf .non) (λa m=>by rwa [zyB]at m) (by rw[zyB];exact hn)⟩
 · cases e
theorem zmz:MuD X kd zmy Vf:=by
 intro F B G l vs ws os es os' o fp fq H Q hH rl rw' hn e k
 unfold Vf at e
 split at e
 · rename_i st i
   split at e
   · rename_i hi
     obtain⟨j,hj,e⟩:=bS_ e
     obtain⟨o1,ho,e⟩:=bS_ e
     cases e
     obtain⟨v,f,fo,gg,hv,hf,ro,r1,r2⟩:=rl.at_ ho
     cases rw' with
     |cons h1 h2=>
      cases h2
      cases h1 with
      |lf rp=>
       cases rp
       rw[zyB,zyB]at hn k
       obtain⟨n1,n2⟩:=zqa hn hf
       refine⟨l,vs,i,j,v,rfl,rfl,hH,hi.1,hi.2,by rw[rl.length];exact hj,hv,k v _ (f++gg) fo ?_ ro n2 n1⟩
       rw[zdz,zdz]
       exact r1.append r2
   · cases e
 · cases e
theorem zad{i:Nat}{x:Str}{gg:MG}{r:V->List V->Hp->VK->Prop}{name:Str}{id:String}{apos cpos p:Pos}(hm:MtM X id r)(hr:MuD X kd r gg)(slot:Slot "list" name id)(hty:typeOf (.builtin id)=pure (.type "method_descriptor"))(ho:PE X (.Name x p) (X8 i))(ha:AD X kd (e::es) fd)
 (hbase:attributeBase (.Name x p) name X.env (eval (.Name x p) X.env)=eval (.Name x p) X.env)
 (hfew:((backTo cpos (starEach (e::es) X.env)).all (λx=>!x.1)&&(backToKw cpos (keywordEach [] X.env)).all (λx=>x.1.isSome)
  && decide ((e::es).length+([]:List Keyword).length+(if([]:List Keyword).isEmpty then 0 else 1)<30))=true)
 (hline:(apos.endLine==cpos.line)=true) (hs:starEach (e::es) X.env=(false,eval e X.env)::starEach es X.env) (hplain:(backTo cpos (starEach es X.env)).any (·.1)=false):
 AE X kd (.Call (.Attribute (.Name x p) name apos) (e::es) [] cpos) (ZC i fd gg):=by with_unfolding_all exact(yJ (ztG PySem.F.plainAttrs_list slot hty hm ho ha hbase hfew hline hs hplain) λσ H Q h=>zub hr h)
end
inductive Ty where
 |str|lst|dct|int
def Ty.nm:Ty->String
 | .str=>"str" | .lst=>"list" | .dct=>"dict" | .int=>"int"
def zpv:Ty->D->Bool
 | .str,.str _=>true
 | .lst,.lst _=>true
 | .dct,.dct _=>true
 | .int,.int _=>true
 |_,_=>false
def tyS(X:Cx)(T:String)(x:V)(H:Hp):Prop:=∀(pins:List (Addr×Obj)) (σ:St) (s:Shared) (v:Value),Inv X pins σ H s->RelV x v->s.TypeIs v T/\∀a,v = .ref a->∃ob,s.heap.get? a=some ob/\ob.dict=none
def tMD(X:Cx)(T:String)(r:V->List V->Hp->VK->Prop)(to:TE)(t:TA):TE:=λσ H Q=>to σ H λx H1=>tyS X T x H1/\t σ H1 λxs H2=>r x xs H2 Q
section
variable{X:Cx}{kd:KD}{o e:Expr}{es:List Expr}{to:TE}{t:TA}{name:Str}{apos cpos:Pos}{T id:String}{r:V->List V->Hp->VK->Prop}
theorem ztY(pa:PlainAttrs T)(slot:Slot T name id)(hty:typeOf (.builtin id)=pure (.type "method_descriptor"))(hm:MtR X id r)(ho:PE X o to)(ha:PA X (e::es) t)
 (hbase:attributeBase o name X.env (eval o X.env)=eval o X.env)
 (hfew:((backTo cpos (starEach (e::es) X.env)).all (λx=>!x.1)&&(backToKw cpos (keywordEach [] X.env)).all (λx=>x.1.isSome)
  && decide ((e::es).length+([]:List Keyword).length+(if([]:List Keyword).isEmpty then 0 else 1)<30))=true)
 (hline:(apos.endLine==cpos.line)=true) (hs:starEach (e::es) X.env=(false,eval e X.env)::starEach es X.env) (hplain:(backTo cpos (starEach es X.env)).any (·.1)=false):
 PE X (.Call (.Attribute o name apos) (e::es) [] cpos) (tMD X T r to t):=by
 intro pins s σ H Q I h
 refine wpAny_Call_method_late hbase hfew hline rfl (thn (ho pins s σ H _ I h) λv s1 ⟨x,H1,I1,r1,ty,q1⟩=>?_)
 obtain⟨h1,h2⟩:=ty _ _ _ _ I1 r1
 refine⟨T,id,pa,slot,hty,h1,h2, ?_⟩
 have hA:=ha cpos pins s1 σ H1 _ I1 q1
 rw[hs]at hA ⊢
 refine Calls.callWith_builtin (by show(false||(backTo cpos (starEach es X.env)).any (·.1))=false;rw[hplain]<;>rfl) (Calls.evalArgs_plain ?_)
 exact thn hA λus s2 ⟨vs,H2,I2,r2,q2⟩=>hm pins s2 σ H2 x vs v us Q I2 r1 r2 q2
def MtD(X:Cx)(kd:KD)(id:String)(g:D->List D->Option R0):Prop:=
 MtR X id (λx xs H Q=>∃O d ds r,(∀a,O a->H a≠none)/\Vw X.K kd O H x d/\VwL X.K kd O H xs ds/\g d ds=some r/\RQ X.K kd O H Q r)
theorem zup(hk:KdOk X kd){O:Addr->Prop}{H:Hp}{x:V}{d:D}{ty:Ty}(h:Vw X.K kd O H x d)(e:zpv ty d=true):tyS X ty.nm x H:=by
 intro pins σ s v I rx
 cases h with
 |str z=>
  obtain⟨t,rfl⟩:=rx
  cases ty<;>first|(cases e;done)|exact⟨typeIs_str s z t,λ_ e=>nomatch e⟩
 |int z=>
  obtain⟨t,rfl⟩:=rx
  cases ty<;>first|(cases e;done)|exact⟨typeIs_int s z t,λ_ e=>nomatch e⟩
 |lst hr rl=>
  cases rx
  obtain⟨its,_,pl,_⟩:=I.list hr.sq
  cases ty<;>first|(cases e;done)|skip
  refine⟨pl.isList.typeIs,λa e=>?_⟩
  cases e
  obtain⟨o,n,e,c,hd,_⟩:=pl
  exact⟨o,e,hd⟩
 |dct hr rm=>
  cases rx
  obtain⟨z,hd,vs,rel,dd⟩:=zgf I hk hr
  cases ty<;>first|(cases e;done)|skip
  refine⟨dd.typeIs,λb q=>?_⟩
  cases q
  obtain⟨ob,_,_,h1,h2,_⟩:=dd
  exact⟨ob,h1,h2.2.1⟩
 |non=>cases ty<;>cases e
 |bl=>cases ty<;>cases e
 |tup=>cases ty<;>cases e
 |cl=>cases ty<;>cases e
 |ob=>cases ty<;>cases e
def zfO(ty:Ty)(fa:EF)(fr:AF)(g:D->List D->Option R0):EF:=λas=>(fa as).bind λp=>(p.1.frz.view p.2).bind λw=>if zpv ty w.1=true then(fr p.2).bind λq=>(p.1.frz.view q.2).bind λx=>(views q.2 q.1).bind λy=>(g x.1 y.1).bind λr=>(wrap (meet x.2 y.2) r).bind λz=>some (z,q.2)else none
theorem zrK(hk:KdOk X kd){ty:Ty}{fa:EF}{fr:AF}{g:D->List D->Option R0}{σ:St}{H:Hp}{Q:VK}(h:al X.K kd (zfO ty fa fr g) σ H Q):
 tMD X ty.nm (λx xs H Q=>∃O d ds r,(∀a,O a->H a≠none)/\Vw X.K kd O H x d/\VwL X.K kd O H xs ds/\g d ds=some r/\RQ X.K kd O H Q r) (al X.K kd fa) (alA X.K kd fr) σ H Q:=by
 obtain⟨F,B,ad,as,r,as',R,e,q⟩:=h
 obtain⟨⟨p,as1⟩,h1,e⟩:=bS_ (show(fa as).bind _=_ from e)
 obtain⟨⟨d0,l0⟩,h0,e⟩:=bS_ e
 obtain⟨hty,e⟩:=ite_some' e
 obtain⟨⟨ps,as2⟩,h2,e⟩:=bS_ e
 obtain⟨⟨d,lv⟩,h3,e⟩:=bS_ e
 obtain⟨⟨ds,lv2⟩,h4,e⟩:=bS_ e
 obtain⟨r0,h5,e⟩:=bS_ e
 obtain⟨z,h6,e⟩:=bS_ e
 cases e
 refine vZ R h1 λv ad1 H1 R1 rv1 g1=>⟨zup hk (wC.vw R1 rv1 h0) hty,F,B,ad1,as1,ps,_,R1,h2,λvs ad2 H2 R2 rv2 g2=>?_⟩
 exact⟨_,d,ds,r0,R2.tr _,(wC.vw R2 (rv1.grow g2) h3).less Obl.meet1,(W6 R2 rv2 h4).less Obl.meet2,h5,ZZ R2 h6 λw T' H' R' rv' g'=>q w T' ad2 H' R' rv' ((g1.trans g2).trans g')⟩
theorem zpj{ty:Ty}{a:Expr}{fa:EF}{fr:AF}{g:D->List D->Option R0}(hk:KdOk X kd)(hm:MtD X kd id g)(pa:PlainAttrs ty.nm)(slot:Slot ty.nm name id)(hty:typeOf (.builtin id)=pure (.type "method_descriptor"))(ho:AE X kd a fa)(ha:AA X kd (e::es) fr)
 (hbase:attributeBase a name X.env (eval a X.env)=eval a X.env)
 (hfew:((backTo cpos (starEach (e::es) X.env)).all (λx=>!x.1)&&(backToKw cpos (keywordEach [] X.env)).all (λx=>x.1.isSome)
  && decide ((e::es).length+([]:List Keyword).length+(if([]:List Keyword).isEmpty then 0 else 1)<30))=true)
 (hline:(apos.endLine==cpos.line)=true) (hs:starEach (e::es) X.env=(false,eval e X.env)::starEach es X.env) (hplain:(backTo cpos (starEach es X.env)).any (·.1)=false):
 AE X kd (.Call (.Attribute a name apos) (e::es) [] cpos) (zfO ty fa fr g):=by with_unfolding_all exact(yJ (ztY pa slot hty hm ho ha hbase hfew hline hs hplain) λσ H Q h=>zrK hk h)
end
section
variable{K:zC}{kd:KD}{F B G:Addr->Prop}{T:List Addr}{ad:Ad}{as:AS}{σ:St}{H H':Hp}
inductive RPs(K:zC)(kd:KD)(F B G:Addr->Prop)(H:Hp):List (V×V)->List (Key×O)->Prop
 |nil:RPs K kd F B G H [] []
 |cons {k:Key}{v:V}{o:O}{ps:List (V×V)}{kos:List (Key×O)}:RoS K kd F B G H v o []->RPs K kd F B G H ps kos->RPs K kd F B G H ((kV k,v)::ps) ((k,o)::kos)
end
def fD0:EF:=λas=>some (.ow (.nd (.dc []) []),as)
section
variable{X:Cx}{kd:KD}{e a b c o i:Expr}{pos pos':Pos}{fa fb fk fv:EF}
theorem ztA:AE X kd (.Dict [] [] pos) fD0:=by with_unfolding_all exact(yJ zni λσ H Q h=>by
 obtain⟨F,B,ad,as,r,as',R,e,q⟩:=h
 cases e
 intro p hp
 have k:∀b o,H b=some o->upd H p (.dK []) b=some o:=λb o hb=>by rw[zW (yG hb hp)];exact hb
 obtain⟨R2,g2⟩:=R.news (T':=[p]) (by simp) (λa m=>by rw[zzO.mp m];exact hp) k (λa m=>by rw[zzO.mp m,yf];simp)
 exact q _ [p] ad _ R2 (.dc (vs:=[]) yf rfl .nil) g2)
end
abbrev Fn:=List (Bool×D)->Option O
section
variable{P:Program}{w:World}{K:zC}{mg:Str->Option Value}{base:Heap}{kd:KD}
theorem yE{A:Around}{k:Nat}(hr:Room k A):A.units+100<cLine:=by have:=hr.un;omega
def KD1(P:Program)(w:World)(K:zC)(kd:KD):Prop:=∀X:Cx,X.prog=P->X.w=w->X.K=K->KdOk X kd
theorem V7{O:Addr->Prop}{H:Hp}:∀ns:List Int,RpL K kd O H (ns.map V.int) (ns.map D.int)
 | []=>.nil
 |_::r=>.cons (.int _) (V7 r)
theorem zsF{H:Hp}{a:Addr}{ns:List Int}{g:Fn}{E:XK}(hg:g [(true,.lst (ns.map D.int))]=some (.lf true (.bl true)))(hS:RdL K H a (ns.map V.int)):spD K kd g [.ref a] H (λv _=>v = .bl true) E:=by
 refine⟨λ_=>False,[(true,.lst (ns.map D.int))],.lf true (.bl true),(λ_ z=>z.elim),.cons ?_ .nil,hg,λv T H' _ _ _ _ ro=>?_⟩
 · rcases hS with h|⟨its,n,k,z,r⟩
   · exact .lst (λz=>z.2) h (V7 ns)
   · exact .lstK k z r (V7 ns)
 · cases ro with
   |lf rp=>cases rp;rfl
end
namespace Bt
theorem len:bootBuiltins "len"=some (.builtin "len"):=by decide +kernel
theorem max:bootBuiltins "max"=some (.builtin "max"):=by decide +kernel
theorem sorted:bootBuiltins "sorted"=some (.builtin "sorted"):=by decide +kernel
theorem isinstance:bootBuiltins "isinstance"=some (.builtin "isinstance"):=by decide +kernel
theorem int:bootBuiltins "int"=some (.type "int"):=by decide +kernel
theorem bool:bootBuiltins "bool"=some (.type "bool"):=by decide +kernel
theorem str:bootBuiltins "str"=some (.type "str"):=by decide +kernel
theorem list:bootBuiltins "list"=some (.type "list"):=by decide +kernel
theorem tuple:bootBuiltins "tuple"=some (.type "tuple"):=by decide +kernel
theorem dict:bootBuiltins "dict"=some (.type "dict"):=by decide +kernel
theorem n(x:Str)(h:(x==("__name__":Str))=false):x≠"__name__":=λe=>by subst e;simp at h
end Bt
def WD(f:EF)(as:AS)(st:Bool)(d:D):Prop:=f as=some (.ow (.lf st d),as)
def WT(f:TF)(as:AS)(b:Bool):Prop:=f as=some (b,as)
def WA(f:AF)(as:AS)(rs:List (Bool×D)):Prop:=f as=some (rs.map (λx=>.ow (.lf x.1 x.2)),as)
def WO(f:DF)(as:AS)(os:List O):Prop:=f as=some (os,as)
section
variable{as:AS}{f a b:EF}{s t:Bool}{x y z:D}{i j:Int}
theorem zf:WD (fC x) as true x:=rfl
theorem zb{i:Nat}(h:as[i]? = some (some (.lf s x))):WD (fV i) as s x:=by unfold WD fV;rw[h]
theorem zkR{g:D->D->Option R0}(ha:WD a as s x)(hb:WD b as t y)(hg:g x y=some (.im z)):WD (f2 a b g) as (zL z||(s&&t)) z:=by
 unfold WD f2 at *
 rw[ha];show((b as).bind _)=_
 rw[hb];show((g x y).bind _)=_
 rw[hg]
 show(if(zL z||(meet (some s) (some t)).isSome)=true then _ else _:Option RV).bind _=_
 rw[if_pos (by unfold meet;simp)]
 rfl
theorem ztH{g:D->D->Option R0}{oa ob:O}(ha:a as=some (.ow oa,as))(hb:b as=some (.ow ob,as))(hg:g oa.toD ob.toD=some (.im z)):WD (f2 a b g) as (zL z||(oa.str&&ob.str)) z:=by
 unfold WD f2 at *
 rw[ha];show((b as).bind _)=_
 rw[hb];show((g oa.toD ob.toD).bind _)=_
 rw[hg]
 show(if(zL z||(meet (some oa.str) (some ob.str)).isSome)=true then _ else _:Option RV).bind _=_
 rw[if_pos (by unfold meet;simp)]
 rfl
theorem yp{g:D->D->Option R0}(ha:WD a as s x)(hb:WD b as t y)(hg:g x y=some (.im z))(e:zL z=true):WD (f2 a b g) as true z:=by
 have:=zkR ha hb hg;rw[e]at this;exact this
theorem xf(ha:WD a as s (.int i))(hb:WD b as t (.int j)):WD (f2 a b (zm .Add)) as true (.int (i+j)):=yp ha hb rfl rfl
theorem zcR(ha:WD a as s (.int i))(hb:WD b as t (.int j)):WD (f2 a b (zm .Sub)) as true (.int (i-j)):=yp ha hb rfl rfl
theorem wG(ha:WD a as s (.int i))(hb:WD b as t (.int j))(h1:i.natAbs<big)(h2:j.natAbs<big):WD (f2 a b (zm .Mult)) as true (.int (i*j)):=yp ha hb (by show(if _ then _ else _)=_;rw[if_pos ⟨h1,h2⟩]) rfl
theorem wg(ha:WD a as s (.int i))(hb:WD b as t (.int j))(h1:0<j)(h2:j.natAbs<big):WD (f2 a b (zm .FloorDiv)) as true (.int (i/j)):=yp ha hb (by show(if _ then _ else _)=_;rw[if_pos ⟨h1,h2⟩]) rfl
theorem yt(ha:WD a as s (.int i))(hb:WD b as t (.int j))(h1:0<j):WD (f2 a b (zm .Mod)) as true (.int (i%j)):=yp ha hb (by show(if _ then _ else _)=_;rw[if_pos h1]) rfl
theorem zri(ha:WD a as s (.int i))(hb:WD b as t (.int j))(h1:0<=j/\j<=1000000/\i.natAbs<2 ^ 64):WD (f2 a b (zm .Pow)) as true (.int (i ^ j.toNat)):=yp ha hb (by show(if _ then _ else _)=_;rw[if_pos h1]) rfl
theorem zcv{c:Bool}(ha:WD a as s x)(hb:WD b as t y)(h:eqF 60 x y=some c):WD (f2 a b (zO .Eq)) as true (.bl c):=yp ha hb (by show(eqF 60 x y).bind _=_;rw[h];rfl) rfl
theorem ztM{c:Bool}(ha:WD a as s x)(hb:WD b as t y)(h:eqF 60 x y=some c):WD (f2 a b (zO .NotEq)) as true (.bl (!c)):=yp ha hb (by show(eqF 60 x y).bind _=_;rw[h];rfl) rfl
theorem zqW(ha:WD a as s (.int i))(hb:WD b as t (.int j)):WD (f2 a b (zO .Lt)) as true (.bl (decide (i<j))):=yp ha hb rfl rfl
theorem zgP(ha:WD a as s (.int i))(hb:WD b as t (.int j)):WD (f2 a b (zO .Gt)) as true (.bl (decide (j<i))):=yp ha hb rfl rfl
theorem Zg{c:Bool}(h:WD f as s x)(e:truth x=some c):WT (fT f) as c:=by
 unfold WT fT;unfold WD at h
 rw[h];show((truth x).bind _)=_
 rw[e];rfl
theorem zbF{c:TF}{k:Bool}(h:WT c as k):WT (wk c) as (!k):=by unfold WT wk at *;rw[h];rfl
theorem zrz{c e:TF}{k l:Bool}(h:WT c as k)(h2:k=true->WT e as l)(h3:k=false->l=false):WT (zcd c e) as l:=by
 unfold WT zcd at *;rw[h]
 cases k with
 |true=>exact h2 rfl
 |false=>rw[h3 rfl];rfl
theorem zgU{c e:TF}{k l:Bool}(h:WT c as k)(h2:k=false->WT e as l)(h3:k=true->l=true):WT (Wl c e) as l:=by
 unfold WT Wl at *;rw[h]
 cases k with
 |false=>exact h2 rfl
 |true=>rw[h3 rfl];rfl
theorem zdr{k l:Bool}(h:WD a as s (.bl k))(h2:k=true->WD b as true (.bl l))(h3:k=false->l=false):WD (zcl a b) as true (.bl l):=by
 unfold WD zcl at *;rw[h]
 cases k with
 |true=>exact h2 rfl
 |false=>rw[h3 rfl];rfl
theorem zX:WA aN as []:=rfl
theorem zG{fr:AF}{rs:List (Bool×D)}(ha:WD a as s x)(hr:WA fr as rs):WA (aC a fr) as ((s,x)::rs):=by
 unfold WA aC at *;unfold WD at ha
 rw[ha];show((fr as).bind _)=_
 rw[hr];rfl
theorem zaW:∀rs:List (Bool×D),Yz as (rs.map (λx=>.ow (.lf x.1 x.2)))=some (rs.map λx=>(zL x.2||x.1,x.2))
 | []=>rfl
 |r::rs=>by
  show(zne as (.ow (.lf r.1 r.2))).bind _=_
  show(Yz as (rs.map _)).bind _=_
  rw[zaW rs];rfl
theorem YW:∀rs:List (Bool×D),views as (rs.map (λx=>.ow (.lf x.1 x.2)))=some (rs.map (·.2),some (rs.all (·.1)))
 | []=>rfl
 |r::rs=>by
  show(views as (rs.map _)).bind _=_
  rw[YW rs];rfl
theorem Xr{fr:AF}{rs:List (Bool×D)}{g:List (Bool×D)->Option O}(ha:WA fr as rs)(hg:g (rs.map λx=>(zL x.2||x.1,x.2))=some (.lf s x)):WD (zE fr g) as s x:=by
 unfold WD zE;unfold WA at ha
 rw[ha];show(Yz as _).bind _=_
 rw[zaW];show(g _).bind _=_
 rw[hg];rfl
theorem W5{fr:AF}{rs:List (Bool×D)}{o:O}{g:List (Bool×D)->Option O}(ha:WA fr as rs)(hg:g (rs.map λx=>(zL x.2||x.1,x.2))=some o):zE fr g as=some (.ow o,as):=by
 unfold zE;unfold WA at ha
 rw[ha];show(Yz as _).bind _=_
 rw[zaW];show(g _).bind _=_
 rw[hg];rfl
theorem zlf{fr:AF}{rs:List (Bool×D)}{g:List D->Option R0}(ha:WA fr as rs)(hg:g (rs.map (·.2))=some (.im x)):WD (fP fr g) as (zL x||rs.all (·.1)) x:=by
 unfold WD fP;unfold WA at ha
 rw[ha];show(views as _).bind _=_
 rw[YW];show(g _).bind _=_
 rw[hg]
 show(if(zL x||(some (rs.all (·.1))).isSome)=true then _ else _:Option RV).bind _=_
 rw[if_pos (by simp)];rfl
theorem Z4{fr:AF}{rs:List (Bool×D)}{g:List D->Option R0}(ha:WA fr as rs)(hg:g (rs.map (·.2))=some (.im x))(e:zL x=true):WD (fP fr g) as true x:=by
 have:=zlf ha hg;rw[e]at this;exact this
theorem yK:WO dN as []:=rfl
theorem zT{fr:DF}{os:List O}(ha:WD a as s x)(hr:WO fr as os):WO (dC a fr) as (.lf s x::os):=by
 unfold WO dC at *;unfold WD at ha
 rw[ha];show((fr as).bind _)=_
 rw[hr];rfl
theorem X5{fr:DF}{os:List O}(h:WO fr as os)(hl:os.length<=sizeLine):wD fr as=some (.ow (.nd .ls os),as):=by
 unfold wD;unfold WO at h
 rw[h];show(if os.length<=sizeLine then _ else _)=_
 rw[if_pos hl]
theorem yh{f g:SF}{as1:AS}{o:Option Out}(h1:f as=some (.nx as1))(h2:g as1=o):zB f g as=o:=by unfold zB;rw[h1];exact h2
theorem zcp{f g:SF}{o:O}(h1:f as=some (.rt o)):zB f g as=some (.rt o):=by unfold zB;rw[h1];rfl
theorem Yo{c:TF}{f g:SF}{o:Option Out}(h:WT c as true)(h1:f as=o):sIf c f g as=o:=by unfold sIf;unfold WT at h;rw[h];exact h1
theorem xq{c:TF}{f g:SF}{o:Option Out}(h:WT c as false)(h1:g as=o):sIf c f g as=o:=by unfold sIf;unfold WT at h;rw[h];exact h1
theorem yF{i:Nat}{st:Bool}(h:WD f as s x)(hi:i<as.length):zH st i f as=some (.nx (as.set i (some (.lf s x)))):=by
 unfold zH;unfold WD at h
 rw[h]
 cases st<;>exact if_pos hi
theorem wO{i:Nat}{o:O}(h:f as=some (.ow o,as))(hi:i<as.length):zH false i f as=some (.nx (as.set i (some o))):=by
 unfold zH
 rw[h]
 exact if_pos hi
theorem zpi{i:Nat}{o:O}(h:f as=some (.ow o,as))(hi:i<as.length):zH true i f as=some (.nx (as.set i (some o.frz))):=by
 unfold zH
 rw[h]
 exact if_pos hi
theorem Yp(h:WD f as true x):ym f as=some (.rt (.lf true x)):=by unfold ym;unfold WD at h;rw[h];rfl
theorem Ws{n m:Nat}{c:SF}{ds:List (Bool×D)}{o:O}(hl:ds.length=m)(h:c (ZM n ds)=some (.rt o)):fnR n m c ds=some o:=by unfold fnR;rw[if_pos hl,h];rfl
theorem vN{g:GF}{f:SF}(I:Nat->AS->Prop):∀(xs:List It1) (k:Nat) (as:AS),(∀i x as,xs[i]? = some x->I (k+i) as->∃as1,g x as=some as1/\∃as2,f as1=some (.nx as2)/\I (k+i+1) as2)->I k as->∃as',forL g f xs as=some (.nx as')/\I (k+xs.length) as'
 | [],k,as,_,h=>⟨as,rfl,h⟩
 |x::r,k,as,st,h=>by
  obtain⟨as1,h1,as2,h2,h3⟩:=st 0 x as rfl h
  obtain⟨as',h4,h5⟩:=vN I r (k+1) as2 (λi y as e q=>by
   obtain⟨u,k1,v,k2,k3⟩:=st (i+1) y as e (by rw[show k+(i+1)=k+1+i by omega];exact q)
   exact⟨u,k1,v,k2,by rw[show k+1+i+1=k+(i+1)+1 by omega];exact k3⟩) h3
  refine⟨as', ?_,by rw[zzQ,show k+(r.length+1)=k+1+r.length by omega];exact h5⟩
  show(g x as).bind _=_
  rw[h1];show(f as1).bind _=_
  rw[h2];exact h4
theorem vY{fi:IF}{g:GF}{f:SF}{xs:List It1}{as':AS}{o:Option Out}(h:fi as=some (xs,as'))(h2:forL g f xs as'=o):xJ fi g f as=o:=by unfold xJ;rw[h];exact h2
theorem vd{lo:Int}{n i:Nat}{x:It1}(h:(xY lo n)[i]? = some x):x=(true,.int (lo+i))/\i<n:=by
 unfold xY at h
 rw[zzF]at h
 cases e:(List.range n)[i]? with
 |none=>rw[e]at h;cases h
 |some k=>
  rw[e]at h
  obtain⟨h1,h2⟩:=zzD.mp e
  rw[zyR]at h1
  rw[List.getElem_range]at h2
  subst h2
  exact⟨(zzW h).symm,h1⟩
theorem vq{fr:AF}{j:Int}{u:Bool}(h:WA fr as [(u,.int j)])(h0:0<=j)(h1:j<1000000):yM fr yP as=some (xY 0 j.toNat,as):=by
 unfold yM;unfold WA at h
 rw[h]
 simp only[zyI,YW]
 show((if -(2 ^ 62)<=j/\j<2 ^ 62 then some (xY 0 j.toNat)else none).bind _)=_
 rw[if_pos ⟨by omega,by omega⟩];rfl
theorem znS{fr:AF}{rs:List (Bool×D)}{o:O}(ha:a as=some (.ow o,as))(hr:WA fr as rs):WA (aC a fr) as ((o.str,o.toD)::rs):=by
 unfold WA aC at *
 rw[ha];show((fr as).bind _)=_
 rw[hr];rfl
theorem zeG{i:Nat}{o:O}(h:as[i]? = some (some o)):RV.view as (.bo i)=some (o.toD,o.kl):=by simp only[RV.view,h]
theorem ztl{i:Nat}{o:O}(h:as[i]? = some (some o)):toO as (.bo i)=some (o.frz,as.set i (some o.frz)):=by simp only[toO,h]
theorem zqb{i:Nat}{o:O}(h:as[i]? = some (some o))(hs:o.str=true):zmA as (.bo i)=some o:=by simp only[zmA,h,hs,if_true]
theorem zhh{i:Nat}{k:Kind}{os:List O}(h:as[i]? = some (some (.nd k os))):fV i as=some (.bo i,as):=by unfold fV;rw[h]
theorem zuz{i:Nat}{os:List O}(h:as[i]? = some (some (.nd .ls os))):WD (fP (aC (fV i) aN) zku) as true (.int os.length):=by
 have e:views as [.bo i]=some ([.lst (O.toDs os)],meet (O.nd .ls os).kl (some true)):=by
  show(RV.view as (.bo i)).bind _=_
  rw[zeG h];rfl
 unfold WD fP aC
 rw[zhh h]
 simp only[zyI,aN,RV.frz,e]
 rw[show zku [.lst (O.toDs os)]=some (.im (.int os.length)) by show some (R0.im (.int ((O.toDs os).length:Nat)))=_;rw[zdw]]
 rfl
theorem zcK{g:GF}{f:SF}{d:It1}{r:List It1}{as1 as2:AS}{o:Option Out}(h1:g d as=some as1)(h2:f as1=some (.nx as2))(h3:forL g f r as2=o):forL g f (d::r) as=o:=by
 show(g d as).bind _=_
 rw[h1];show(f as1).bind _=_
 rw[h2];exact h3
theorem zoj{g:GF}{f:SF}{d:It1}{r:List It1}{as1:AS}{o:O}(h1:g d as=some as1)(h2:f as1=some (.rt o)):forL g f (d::r) as=some (.rt o):=by
 show(g d as).bind _=_
 rw[h1];show(f as1).bind _=_
 rw[h2];rfl
theorem zjL{i:Nat}{os:List O}(h:as[i]? = some (some (.nd .ls os)))(hl:os.length<sizeLine)(ha:WD a as s x):vI (ZC i (dC a dN) Z2) as=some (.nx (as.set i (some (.nd .ls (os++[.lf s x]))))):=by
 unfold vI ZC;rw[h]
 have e:dC a dN as=some ([.lf s x],as):=zT ha yK
 show((dC a dN as).bind _).bind _=_
 rw[e];show(Option.bind (match as[i]? with|some (some (.nd .ls os))=>_|_=>none) _)=_
 rw[h];show((Z2 os [.lf s x]).bind _).bind _=_
 have e2:Z2 os [.lf s x]=some (os++[.lf s x],.lf true .non):=by unfold Z2;exact if_pos hl
 rw[e2];rfl
theorem znI{i:Nat}{os:List O}{k:Int}{o:O}(h:as[i]? = some (some (.nd .ls os)))(ha:WD a as s (.int k))(h0:0<=k)(h1:k<os.length)(hs:os.length<2 ^ 60)(ho:os[k.toNat]? = some o):ZC i (dC a dN) Vf as=some (.ow o,as.set i (some (.nd .ls (os.eraseIdx k.toNat)))):=by
 unfold ZC;rw[h]
 have e:dC a dN as=some ([.lf s (.int k)],as):=zT ha yK
 show((dC a dN as).bind _)=_
 rw[e];show(match as[i]? with|some (some (.nd .ls os))=>_|_=>none)=_
 rw[h];show((Vf os [.lf s (.int k)]).bind _)=_
 have e2:Vf os [.lf s (.int k)]=some (os.eraseIdx k.toNat,o):=by
  unfold Vf
  show(if -(2 ^ 63)<=k/\k<2 ^ 63 then _ else _)=_
  rw[if_pos ⟨by omega,by omega⟩]
  have e3:seqIndex? k os.length=some k.toNat:=by unfold seqIndex?;simp;omega
  rw[e3];show((os[k.toNat]?).bind _)=_
  rw[ho];rfl
 rw[e2];rfl
theorem zsT{g:GF}{o:O}{as':AS}(h:f as=some (.ow o,as))(hg:g (o.str,o.toD) as=some as'):zfH f g as=some (.nx as'):=by
 unfold zfH;rw[h]
 show(g (o.str,o.toD) as).bind _=_
 rw[hg];rfl
theorem zlv{i:Nat}{o:O}(h:as[i]? = some (some o))(hs:o.str=true):ym (fV i) as=some (.rt o):=by
 cases o with
 |lf st d=>unfold ym fV;rw[h];have:st=true:=hs;subst this;rfl
 |nd k os=>
  unfold ym;rw[zhh h];show(zmA as (.bo i)).bind _=_
  rw[zqb h hs];rfl
theorem zrM{g:D->D->Option R0}{oa ob:O}{zs:List D}{as1 as2:AS}(ha:a as=some (.ow oa,as1))(hb:b as1=some (.ow ob,as2))(hg:g oa.toD ob.toD=some (.fl zs)):f2 a b g as=some (.ow (.nd .ls (zs.map (lfs (oa.str&&ob.str)))),as2):=by
 unfold f2
 rw[ha];show((b as1).bind _)=_
 rw[hb];show((g oa.toD ob.toD).bind _)=_
 rw[hg]
 show(if(zs.all zL||(meet (some oa.str) (some ob.str)).isSome)=true then _ else _:Option RV).bind _=_
 rw[if_pos (by unfold meet;simp)]
 rfl
theorem zcG{g:D->D->Option R0}(ha:WD a as true x)(hb:WD b as true y)(hg:g x y=some (.im z)):WD (f2 a b g) as true z:=by
 have:=zkR ha hb hg
 rw[show(zL z||(true&&true))=true by simp]at this
 exact this
theorem XR:∀zs:List D,zs.map (lfs true)=zs.map (O.lf true)
 | []=>rfl
 |z::r=>by
  show lfs true z::r.map (lfs true)=_
  rw[XR r];unfold lfs;rw[zyA];rfl
theorem zoL{g:D->D->Option R0}{oa ob:O}{zs:List D}{as1 as2:AS}(ha:a as=some (.ow oa,as1))(hb:b as1=some (.ow ob,as2))(hg:g oa.toD ob.toD=some (.fl zs))(h1:oa.str=true)(h2:ob.str=true):f2 a b g as=some (.ow (.nd .ls (zs.map (O.lf true))),as2):=by
 have:=zrM ha hb hg
 rw[h1,h2,show(true&&true)=true from rfl,XR]at this
 exact this
theorem wY{fr:DF}{o:O}{os:List O}{as1 as2:AS}(ha:a as=some (.ow o,as1))(hr:fr as1=some (os,as2)):dC a fr as=some (o::os,as2):=by
 unfold dC
 rw[ha];show((fr as1).bind _)=_
 rw[hr];rfl
theorem add_lists{xs ys:List D}(h:xs.length+ys.length<=sizeLine):zm .Add (.lst xs) (.lst ys)=some (.fl (xs++ys)):=if_pos h
theorem zgC(lo:Int)(n:Nat):xY lo (n+1)=(true,.int lo)::xY (lo+1) n:=by
 unfold xY
 rw[List.range_succ_eq_map,zyP,zzY]
 congr 1
 · simp
 · apply List.map_congr_left
   intro i _
   show(true,D.int _)=(true,D.int _)
   congr 2
   show lo+((i+1:Nat):Int)=_
   omega
theorem zon{fr:AF}{rs:List (Bool×D)}{g:List D->Option R0}(ha:WA fr as rs)(hg:g (rs.map (·.2))=some (.im x))(e:rs.all (·.1)=true):WD (fP fr g) as true x:=by
 have:=zlf ha hg;rw[e,zyA]at this;exact this
theorem zqE{ty:Ty}{fr:AF}{rs:List (Bool×D)}{g:D->List D->Option R0}(ha:WD a as s y)(ht:zpv ty y=true)(hr:WA fr as rs)(hg:g y (rs.map (·.2))=some (.im x))(e:zL x=true):WD (zfO ty a fr g) as true x:=by
 unfold WD zfO;unfold WD at ha;unfold WA at hr
 rw[ha]
 show(if zpv ty y=true then _ else _:Option (RV×AS))=_
 rw[if_pos ht,hr]
 simp only[zyI,YW]
 show((g y (rs.map (·.2))).bind _)=_
 rw[hg]
 show(if(zL x||_)=true then _ else _:Option RV).bind _=_
 rw[if_pos (by rw[e];rfl)]
 show some (RV.ow (.lf (zL x||_) x),as)=_
 rw[e];rfl
theorem zlF{g:GF}{fe:EF}{as0 as1:AS}{y:It1}{r:List It1}{os:List O}(h1:g y as0=some as1)(h2:WD fe as1 true x)(h3:xr g yL fe as0 r=some os):xr g yL fe as0 (y::r)=some (.lf true x::os):=by
 show(g y as0).bind _=_
 rw[h1];show(fe as1).bind _=_
 unfold WD at h2
 rw[h2];show(xr g yL fe as0 r).bind _=_
 rw[h3];rfl
theorem zbe{fi:IF}{cap:List (Option Nat)}{g:GF}{tt:TF}{fe:EF}{xs:List It1}{os:List O}(h1:fi as=some (xs,as))(hl:xs.length<=sizeLine)(h2:xr g tt fe (YH cap as) xs=some os):zY fi cap g tt fe as=some (.ow (.nd .ls os),as):=by
 unfold zY
 rw[h1];show(if xs.length<=sizeLine then _ else _)=_
 rw[if_pos hl];show(xr g tt fe (YH cap as) xs).bind _=_
 rw[h2];rfl
theorem zmE{fr:AF}{rs:List RV}{xs:List (Bool×D)}{o:O}{g:List (Bool×D)->Option O}(ha:fr as=some (rs,as))(hx:Yz as rs=some xs)(hg:g xs=some o):zE fr g as=some (.ow o,as):=by
 unfold zE
 rw[ha];show(Yz as rs).bind _=_
 rw[hx];show(g xs).bind _=_
 rw[hg];rfl
end
theorem szl{n:Nat}(h:Nat.ble n 1000=true):n<=sizeLine:=Nat.le_of_lt (yO (Nat.le_of_ble_eq_true h))
theorem zF{a b:Nat}(h:Nat.ble (a+1) b=true):a<b:=Nat.le_of_ble_eq_true h
theorem zV{i:Int}(h0 : -(10 ^ 200)<i)(h1:i<10 ^ 200):i.natAbs<big:=by
 have:(10:Nat) ^ 200<big:=by unfold big;decide +kernel
 have e:((10 ^ 200:Nat):Int)=(10:Int) ^ 200:=by norm_cast
 have:(i.natAbs:Int)<((10 ^ 200:Nat):Int):=by rw[e];omega
 omega
theorem zpd{ns:List Int}{k:Int}(h0:0<=k)(h1:k<ns.length):∃x,ixP (.lst (ns.map D.int)) (.int k)=some (.im (.int x)):=by
 have hk:k.toNat<ns.length:=by omega
 refine⟨ns[k.toNat], ?_⟩
 have h:=WW (xs:=ns.map D.int) (j:=k.toNat) (v:=D.int ns[k.toNat]) (by rw[zzF,zzB hk];rfl)
 rw[show((k.toNat:Nat):Int)=k by omega]at h
 show imR (atI _ _)=_
 rw[h];rfl
section
variable{X:Cx}{kd:KD}{K:zC}{mg:Str->Option Value}
def spL(K:zC)(g:Fn):Sp:=λvs H Q E=>∀kd:KD,spD K kd g vs H Q E
end
def Y7(fa fb fc:EF)(g g':D->D->Option R0):EF:=λas=>(fa as).bind λp=>(fb p.2).bind λq=>(p.1.frz.view q.2).bind λx=>(q.1.frz.view q.2).bind λy=>(g x.1 y.1).bind λr=>match r with
 | .im (.bl true)=>(fc q.2).bind λt=>(q.1.frz.view t.2).bind λy'=>(t.1.frz.view t.2).bind λz=>(g' y'.1 z.1).bind λr'=>(wrap (meet y'.2 z.2) r').bind λo=>some (o,t.2)
 | .im (.bl false)=>some (.ow (.lf true (.bl false)),q.2)
 |_=>none
section
variable{X:Cx}{kd:KD}{a b c:Expr}{fa fb fc:EF}{pos:Pos}
theorem zja{op op':CmpOp}{g g':D->D->Option R0}(ho:OpD X kd (compareOp op) g)(ho':OpD X kd (compareOp op') g')(ha:AE X kd a fa)(hb:AE X kd b fb)(hc:AE X kd c fc)(hm:lastMarks [op,op'] [b,c]=false):
 AE X kd (.Compare a [op,op'] [b,c] pos) (Y7 fa fb fc g g'):=by with_unfolding_all exact(yJ (zok ho ho' ha hb hc hm) λσ H Q h=>by
 obtain⟨F,B,ad,as,r,as',R,e,q⟩:=h
 obtain⟨⟨p,as1⟩,h1,e⟩:=bS_ (show(fa as).bind _=_ from e)
 obtain⟨⟨z,as2⟩,h2,e⟩:=bS_ e
 obtain⟨⟨x,lx⟩,h3,e⟩:=bS_ e
 obtain⟨⟨y,ly⟩,h4,e⟩:=bS_ e
 obtain⟨r0,h5,e⟩:=bS_ e
 refine vZ R h1 λv ad1 H1 R1 rv1 g1=>vZ R1 h2 λu ad2 H2 R2 rv2 g2=>⟨_,x,y,r0,R2.tr (meet lx ly),(wC.vw R2 (rv1.grow g2) h3).less Obl.meet1,(wC.vw R2 rv2 h4).less Obl.meet2,h5, ?_⟩
 match r0,e with
 | .im (.bl true),e=>
  obtain⟨⟨t,as3⟩,h6,e⟩:=bS_ (show(fc as2).bind _=_ from e)
  obtain⟨⟨y',ly'⟩,h7,e⟩:=bS_ e
  obtain⟨⟨z',lz'⟩,h8,e⟩:=bS_ e
  obtain⟨r1,h9,e⟩:=bS_ e
  obtain⟨o,h10,e⟩:=bS_ e
  cases e
  intro w H3 kp rp
  cases rp
  obtain⟨R3,g3⟩:=R2.more kp
  refine⟨true,rfl, ?_⟩
  rw[if_pos rfl]
  refine vZ R3 h6 λw' ad4 H4 R4 rv4 g4=>⟨_,y',z',r1,R4.tr (meet ly' lz'),(wC.vw R4 ((rv2.grow g3).grow g4) h7).less Obl.meet1,(wC.vw R4 rv4 h8).less Obl.meet2,h9, ?_⟩
  exact ZZ R4 h10 λw T' H' R' rv' g'=>q w T' ad4 H' R' rv' ((((g1.trans g2).trans g3).trans g4).trans g')
 | .im (.bl false),e=>
  cases e
  intro w H3 kp rp
  cases rp
  obtain⟨R3,g3⟩:=R2.more kp
  refine⟨false,rfl, ?_⟩
  rw[if_neg zyT]
  exact q _ [] ad2 H3 R3 (.lf (.bl _)) ((g1.trans g2).trans g3))
end
def lfO:O->Option (Bool×D)
 | .lf s d=>some (s,d)
 |_=>none
theorem zoz{o:O}{p:Bool×D}(h:lfO o=some p):o = .lf p.1 p.2:=by
 cases o with
 |lf s d=>cases h;rfl
 |nd k os=>cases h
def zol(i j:Nat)(fd:DF):SF:=λas=>(fd as).bind λp=>(zrn p.1).bind λo=>(lfO o.1).bind λa=>(lfO o.2).bind λb=>if i<p.2.length/\j<p.2.length then some (.nx ((p.2.set i (some (.lf a.1 a.2))).set j (some (.lf b.1 b.2))))else none
section
variable{X:Cx}{kd:KD}{a b:Expr}{fd:DF}{pos:Pos}
theorem zsq{i j:Nat}{x y:Str}{px py pt:Pos}{kt k2 pt2}(hc:X.calm=true)(hN:X.N.Nodup)(hi:X.N[i]? = some x)(hj:X.N[j]? = some y)(hij:i≠j)
 (hx:X.env.scope.names.lookup x=some .local) (hy:X.env.scope.names.lookup y=some .local) (ha:AD X kd [a,b] fd)
 (hw:swappedStores [.Tuple [.Name x px,.Name y py] kt pt] (.Tuple [a,b] k2 pt2) X.env=pure (some [x,y]))
 (hs:swapsWithSole [.Tuple [.Name x px,.Name y py] kt pt] (.Tuple [a,b] k2 pt2) pos.line X.env=pure false):
 ASt X kd (.Assign [.Tuple [.Name x px,.Name y py] kt pt] (.Tuple [a,b] k2 pt2) pos) (zol i j fd):=by with_unfolding_all exact(Yr (zsG hc hN hi hj hij hx hy ha hw hs) λD σ H h=>by
 obtain⟨F,B,ad,as,o,R,e,q⟩:=h
 obtain⟨⟨os,as1⟩,h1,e⟩:=bS_ (show(fd as).bind _=_ from e)
 obtain⟨⟨o1,o2⟩,e1,e⟩:=bS_ e
 obtain⟨⟨s1,d1⟩,e2,e⟩:=bS_ e
 obtain⟨⟨s2,d2⟩,e3,e⟩:=bS_ e
 cases zls e1
 cases zoz e2
 cases zoz e3
 · obtain⟨⟨l1,l2⟩,e⟩:=zM e
   cases e
   refine⟨F,B,ad,as,_,as1,R,h1,λvs T' ad' H' R' rl g=>?_⟩
   cases rl with
   |cons ra rb=>
    cases rb with
    |cons rb rn=>
     cases rn
     cases ra with
     |lf ra=>
      cases rb with
      |lf rb=>
       refine⟨_,_,rfl, ?_⟩
       have R2:=R'.put (T:=[]) (i:=i) (o:=.lf s1 d1) l1 (.lf ra)
       have R3:=R2.put (T:=[]) (i:=j) (o:=.lf s2 d2) (by rw[zzR];exact l2) (RoS.less xG (.lf rb))
       exact q _ _ _ R3 (g.trans (Grow.less λa z=>xG a (xG a z))))
end
inductive Ents(w:World):List DictEntry->List (Key×V)->Prop
 |nil:Ents w [] []
 |str {x:Str}{t:Tok}{v:V}{u:Value}{r:List DictEntry}{s:List (Key×V)}:RelV v u->Ents w r s->Ents w (⟨PyData.keyHash w.params x,.str x t,u⟩::r) ((.inr x,v)::s)
theorem Ents.keys{P:Program}{w:World}:∀{es:List DictEntry}{kvs:List (Key×V)},Ents w es kvs->∀e ∈ es,∃k,(wN P w).is k e.key=true/\e.hash=(wN P w).hash k
 |_,_,.nil,_,m=>nomatch m
 |_,_,.str (x:=x) (t:=t) _ r,e,m=>by
  rcases zS.mp m with rfl|m
  · exact⟨.inr x,zaL P w x t,rfl⟩
  · exact r.keys e m
theorem Ents.pairs{P:Program}{w:World}:∀{es:List DictEntry}{kvs:List (Key×V)},Ents w es kvs->∃vs,KV kvs vs/\Pairs (wN P w) es vs/\vs.map (·.1)=kvs.map (·.1)
 |_,_,.nil=>⟨[],.nil,.nil,rfl⟩
 |_,_,.str (x:=x) (t:=t) (u:=u) h r=>by
  obtain⟨vs,h1,h2,h3⟩:=r.pairs (P:=P)
  exact⟨(.inr x,u)::vs,.cons ⟨rfl,h⟩ h1,.cons (zaL P w x t) rfl h2,by rw[zyP,zyP,h3]⟩
structure DctAt(w:World)(K:zC)(a:Addr)(kvs:List (Key×V)):Prop where
 ex:∃es ep,K.lookup a=some {cls:=.type "dict",data:=.dict es ep}/\Ents w es.toList kvs
 nd:(kvs.map (·.1)).Nodup
 le:kvs.length<=sizeLine
 ns:(a==sysModules)=false
def kdL(l:List (Addr×List (Key×V)))(c:Str->Addr:=λ_=>0):KD:=⟨λa k=>l.lookup a=some k,c⟩
theorem lookup_mem{l:List (Addr×List (Key×V))}{a:Addr}{k:List (Key×V)}(h:l.lookup a=some k):(a,k) ∈ l:=by
 induction l with
 |nil=>cases h
 |cons p r ih=>
  rw[List.lookup_cons]at h
  by_cases e:a=p.1
  · subst e
    rw[beq_self_eq_true]at h
    cases h
    exact zzC
  · rw[show(a==p.1)=false from beq_eq_false_iff_ne.mpr e]at h
    exact zzA _ (ih h)
theorem ztk{P:Program}{w:World}{K:zC}{l:List (Addr×List (Key×V))}{c:Str->Addr}(h:∀p ∈ l,DctAt w K p.1 p.2):KD1 P w K (kdL l c):=λX e1 e2 e3=>by
 subst e1;subst e2;subst e3
 refine⟨λa k k' h1 h2=>zzW (h1.symm.trans h2),λa k h1=>?_,λa k hp h1 hin=>?_⟩
 · obtain⟨es,ep,e,_⟩:=(h _ (lookup_mem h1)).ex
   exact⟨_,e⟩
 · have q:=h _ (lookup_mem h1)
   obtain⟨es,ep,e,en⟩:=q.ex
   obtain⟨vs,h2,h3,h4⟩:=en.pairs (P:=X.prog)
   refine⟨q.le,q.ns,vs,h2,_,es,ep,hin _ _ e,⟨rfl,rfl,rfl⟩,rfl,λx m=>en.keys x (by simpa using m),h3,by rw[h4];exact q.nd⟩
def isStar:Expr->Bool
 | .Starred .. => true
 |_=>false
theorem za{a:Expr}{es:List Expr}{env:Env}(h:isStar a=false):starEach (a::es) env=(false,eval a env)::starEach es env:=by
 cases a<;>first|rfl|cases h
section
variable{as:AS}{f a b c:EF}{s t u:Bool}{x y z:D}{i j k:Int}
theorem zkl{cl:String}(h:WD f as s x)(ho:Wi x=true:=by rfl):WD (Wf f cl) as true (.bl (zdV (tyD x) cl)):=by
 unfold WD Wf at *;rw[h];show(if Wi x=true then _ else _)=_;rw[if_pos ho];rfl
theorem zhP{cl:String}{q:Bool}(h:WD f as s x)(e:zdV (tyD x) cl=q)(ho:Wi x=true:=by rfl):WD (Wf f cl) as true (.bl q):=by subst e;exact zkl h ho
theorem znW{q:Bool}(h:WD f as s (.bl q)):WD (zlV f) as true (.bl (!q)):=by
 unfold WD zlV at *;rw[h];rfl
theorem zpW(ha:WD a as s (.int i))(hb:WD b as t (.int j))(hc:WD c as u (.int k)):WD (Y7 a b c (zO .LtE) (zO .Lt)) as true (.bl (decide (i<=j)&&decide (j<k))):=by
 unfold WD at *
 by_cases h:i<=j
 · unfold Y7
   rw[ha];simp only[zyI]
   rw[hb];simp only[zyI]
   simp only[RV.frz,O.frz,RV.view,O.toD,O.str,zyI,zO,zho,onI,asI,blR,h,decide_true,hc,Bool.true_and]
   rfl
 · unfold Y7
   rw[ha];simp only[zyI]
   rw[hb];simp only[zyI]
   simp only[RV.frz,O.frz,RV.view,O.toD,O.str,zyI,zO,zho,onI,asI,blR,h,decide_false,Bool.false_and]
theorem zte{cc:TF}{g:SF}{n:Nat}{as1:AS}{o:Option Out}(h:WT cc as true)(h1:g as=some (.nx as1))(h2:whL cc g n as1=o):whL cc g (n+1) as=o:=by
 unfold WT at h
 show(cc as).bind _=_
 rw[h];show(g as).bind _=_
 rw[h1];exact h2
theorem zrB{cc:TF}{g:SF}{n:Nat}(h:WT cc as false):whL cc g (n+1) as=some (.nx as):=by
 unfold WT at h
 show(cc as).bind _=_
 rw[h];rfl
theorem zsY{p q:Nat}{fd:DF}(h:WO fd as [.lf s x,.lf t y])(hi:p<as.length)(hj:q<as.length):zol p q fd as=some (.nx ((as.set p (some (.lf s x))).set q (some (.lf t y)))):=by
 unfold zol;unfold WO at h
 rw[h];show(if _ then _ else _)=_
 rw[if_pos ⟨hi,hj⟩]
theorem zlY{g:GF}{tt:TF}{fe:EF}{as0 as1:AS}{w:It1}{r:List It1}{o:Option (List O)}(h1:g w as0=some as1)(h2:WT tt as1 false)(h3:xr g tt fe as0 r=o):xr g tt fe as0 (w::r)=o:=by
 unfold WT at h2
 show(g w as0).bind _=_
 rw[h1];show(tt as1).bind _=_
 rw[h2];exact h3
def WE(f:EF)(as:AS)(x:D):Prop:=∃o,f as=some (.ow o,as)/\o.str=true/\o.toD=x
def RE(r:Option O)(x:D):Prop:=∃o,r=some o/\o.str=true/\o.toD=x
theorem WD.e(h:WD f as true x):WE f as x:=⟨_,h,rfl,rfl⟩
theorem Zm{fr:DF}{os:List O}(h:WO fr as os)(hl:os.length<=sizeLine)(hs:O.strs os=true)(e:D.lst (O.toDs os)=x):WE (wD fr) as x:=⟨_,X5 h hl,hs,e⟩
theorem WF{fr:AF}{rs:List (Bool×D)}(h:WE a as x)(hr:WA fr as rs):WA (aC a fr) as ((true,x)::rs):=by
 obtain⟨o,h1,h2,rfl⟩:=h
 have:=znS h1 hr
 rw[h2]at this
 exact this
theorem zmH{g:List (Bool×D)->Option O}(ha:WE a as x)(hg:RE (g [(true,x)]) z):WE (zE (aC a aN) g) as z:=by
 obtain⟨o,h1,h2,h3⟩:=hg
 exact⟨o,W5 (WF ha zX) (by show g [(zL x||true,x)]=_;rw[zyA];exact h1),h2,h3⟩
theorem zcz{g:List (Bool×D)->Option O}(ha:WE a as x)(hb:WE b as y)(hg:RE (g [(true,x),(true,y)]) z):WE (zE (aC a (aC b aN)) g) as z:=by
 obtain⟨o,h1,h2,h3⟩:=hg
 exact⟨o,W5 (WF ha (WF hb zX)) (by show g [(zL x||true,x),(zL y||true,y)]=_;rw[zyA,zyA];exact h1),h2,h3⟩
theorem zeW{w:D}{g:List (Bool×D)->Option O}(ha:WE a as x)(hb:WE b as y)(hc:WE c as w)(hg:RE (g [(true,x),(true,y),(true,w)]) z):WE (zE (aC a (aC b (aC c aN))) g) as z:=by
 obtain⟨o,h1,h2,h3⟩:=hg
 exact⟨o,W5 (WF ha (WF hb (WF hc zX))) (by show g [(zL x||true,x),(zL y||true,y),(zL w||true,w)]=_;rw[zyA,zyA,zyA];exact h1),h2,h3⟩
theorem f2E{g:D->D->Option R0}(ha:WE a as x)(hb:WE b as y)(hg:g x y=some (.im z)):WD (f2 a b g) as true z:=by
 obtain⟨o,h1,h2,rfl⟩:=ha
 obtain⟨p,h3,h4,rfl⟩:=hb
 have:=ztH h1 h3 hg
 rw[h2,h4,Bool.and_true,zyA]at this
 exact this
theorem f2L{g:D->D->Option R0}{zs:List D}(ha:WE a as x)(hb:WE b as y)(hg:g x y=some (.fl zs)):f2 a b g as=some (.ow (.nd .ls (zs.map (O.lf true))),as):=by
 obtain⟨o,h1,h2,rfl⟩:=ha
 obtain⟨p,h3,h4,rfl⟩:=hb
 exact zoL h1 h3 hg h2 h4
theorem zfn:∀zs:List D,O.strs (zs.map (O.lf true))=true
 | []=>rfl
 |_::r=>zfn r
theorem zfh:∀zs:List D,O.toDs (zs.map (O.lf true))=zs
 | []=>rfl
 |z::r=>congrArg (z :: ·) (zfh r)
theorem zrU{g:D->D->Option R0}{zs:List D}(ha:WE a as x)(hb:WE b as y)(hg:g x y=some (.fl zs)):WE (f2 a b g) as (.lst zs):=⟨_,f2L ha hb hg,zfn zs,congrArg D.lst (zfh zs)⟩
theorem Wy{p:Nat}(h:WE f as x)(hi:p<as.length):zH true p f as=some (.nx (as.set p (some (.lf true x)))):=by
 obtain⟨o,h1,h2,rfl⟩:=h
 have:=zpi h1 hi
 rw[show o.frz = .lf true o.toD by unfold O.frz;rw[h2]]at this
 exact this
theorem zrp{g:List D->Option R0}(ha:WE a as x)(hg:g [x]=some (.im z)):WD (fP (aC a aN) g) as true z:=zon (WF ha zX) hg rfl
theorem zbB{fr:DF}{o:O}{os:List O}(ha:a as=some (.ow o,as))(hr:WO fr as os):WO (dC a fr) as (o::os):=wY ha hr
theorem zcQ{fr:DF}{os:List O}(h:WO fr as os)(hl:os.length<=sizeLine):wM fr as=some (.ow (YB os),as):=by
 unfold wM;unfold WO at h
 rw[h];show(if os.length<=sizeLine then some (RV.ow (YB os),as)else _)=_
 rw[if_pos hl]
theorem zql{fl fh:OF}{lo hi:Option Int}{g:D->Option Int->Option Int->Option R0}{zs:List D}(ha:WE a as y)(hl:fl as=some (lo,as))(hh:fh as=some (hi,as))(hg:g y lo hi=some (.fl zs)):WE (fSl a fl fh g) as (.lst zs):=by
 obtain⟨o,h1,h2,rfl⟩:=ha
 refine⟨.nd .ls (zs.map (O.lf true)), ?_,zfn zs,congrArg D.lst (zfh zs)⟩
 unfold fSl
 rw[h1];show((fl as).bind _)=_
 rw[hl];show((fh as).bind _)=_
 rw[hh];show((g o.toD lo hi).bind _)=_
 rw[hg]
 show(if(zs.all zL||(some o.str).isSome)=true then some (RV.ow (.nd .ls (zs.map (lfs ((some o.str).getD false)))))else none:Option RV).bind _=_
 rw[if_pos (by simp),h2]
 show some (RV.ow (.nd .ls (zs.map (lfs true))),as)=_
 rw[XR]
theorem zhm:∀ds:List D,kids true ds=ds.map λd=>(true,d)
 | []=>rfl
 |d::r=>by show(zL d||true,d)::kids true r=_;rw[zhm r,zyA];rfl
theorem zed{ds:List D}(h:WE f as (.lst ds)):xX f as=some (ds.map λd=>(true,d),as):=by
 obtain⟨o,h1,h2,h3⟩:=h
 unfold xX
 rw[h1];show(zje (o.str,o.toD)).bind _=_
 rw[h2,h3];show some (kids true ds,as)=_
 rw[zhm]
theorem ztN{ds:List D}(h:WD f as true (.lst ds)):zbI f as=some (ds.map λd=>(true,d),as):=by
 unfold zbI;unfold WD at h
 rw[h];show some (kids true ds,as)=_
 rw[zhm]
end
def zdG:List D->Option (List Str)
 | []=>some []
 | .str x::r=>(zdG r).bind λs=>some (x::s)
 |_::_=>none
theorem zqp{K:zC}{kd:KD}{O:Addr->Prop}{H:Hp}{vs:List V}{us:List Value}{ds:List D}{ns:List Str}(h:RpL K kd O H vs ds)(hv:Vals vs us)(e:zdG ds=some ns):StrsAre us ns:=
 RpL.ind (P:=λvs ds=>∀us ns,Vals vs us->zdG ds=some ns->StrsAre us ns) (λus ns hv e=>by cases e;cases hv;exact .nil) (λ{v d vs ds} a _ ih us ns hv e=>by
  cases hv with
  |cons b t=>
   cases a with
   |str x=>
    obtain⟨ys,h1,h2⟩:=bS_ (show(zdG _).bind _=_ from e)
    cases h2
    obtain⟨tk,rfl⟩:=b
    exact .cons _ _ (ih _ _ t h1)
   |_=>cases e) h us ns hv e
def zjd:D->List D->Option R0
 | .str sep,[.lst ds]=>(zdG ds).bind λys=>if(ys.map (·.length)).sum+ys.length*sep.length<=16777216 then some (.im (.str (Txt.join sep ys)))else none
 |_,_=>none
section
variable{X:Cx}{kd:KD}
theorem zqo:MtD X kd "str.join" zjd:=by
 intro pins s σ H x xs v us Q I rx r h
 obtain⟨O,d,ds,r0,ht,vx,vl,he,q⟩:=h
 unfold zjd at he
 split at he
 · rename_i sep es
   obtain⟨ys,h1,he⟩:=bS_ he
   obtain⟨hz,he⟩:=zM he
   cases he
   cases vx
   obtain⟨t,rfl⟩:=rx
   obtain⟨y,rfl,vy⟩:=zeH vl
   cases vy with
   |lst hr rl=>
    obtain⟨u,rfl,ru⟩:=vals1 r
    cases ru
    obtain⟨its,rv,pl,_⟩:=I.list hr.sq
    exact join_list pl.isList (zqp rl (by simpa using rv) h1) hz λt' k=>⟨.str _,H,I.tok _,⟨t',rfl⟩,yz q (.str _)⟩
 · cases he
def zuY:D->Option R0
 | .str x=>if x.length<=640 then(PySem.intText? x).bind λn=>some (.im (.int n))else none
 |d=>zve d
def Wv:List D->Option R0:=on1 zuY
theorem Xh:CallD X kd (.type "int") Wv:=by
 intro pins s σ H xs us Q I r h
 obtain⟨O,ds,z,ht,vl,he,q⟩:=h
 obtain⟨x,d,rfl,vx,he⟩:=zdq vl he
 cases vx with
 |str y=>
  obtain⟨hl,he⟩:=ite_some' he
  obtain⟨n,hn,he⟩:=bS_ he
  cases he
  obtain⟨u,rfl,ru⟩:=vals1 r
  obtain⟨t,rfl⟩:=ru
  exact PySem.W.KIN.call_text hn hl ⟨.int _,H,I.tok _,⟨_,rfl⟩,yz q (.int _)⟩
 |int i=>cases he;exact zgM pins s σ H _ us Q I r (.inl ⟨_,rfl,yz q (.int _)⟩)
 |bl b=>cases he;exact zgM pins s σ H _ us Q I r (.inr ⟨_,rfl,yz q (.int _)⟩)
 |_=>cases he
end
theorem zmD(sep:Str)(ys:List Str):Txt.join sep ys=Str.join sep ys:=StrLaws.glued_eq_join sep ys
section
variable{as:AS}{f a b:EF}{s t:Bool}{x y z:D}
theorem zsp{xs ys:List D}:slP (.lst (xs++ys)) none (some (xs.length:Int))=some (.fl xs):=by
 show some (R0.fl (cutD (xs++ys) none (some (xs.length:Int))))=_
 congr 2
 unfold cutD
 rw[HT.zph,HT.znw,zzG,Nat.min_eq_left (by omega),List.drop_zero,Nat.sub_zero,List.take_left]
end
section
variable{X:Cx}{kd:KD}{tg e:Expr}{fa:EF}
theorem zpU{K:zC}{F B:Addr->Prop}{ad:Ad}{H:Hp}{v:V}{st q:Bool}{ds:List D}(rp:Rp K kd (Lv F B (Gw [] ad) st) H v (.lst ds))(hq:q=true->st=true):∃a vs,v = .ref a/\(∀(ad3:Ad) (H3:Hp),Grow (Gw [] ad) H (Gw [] ad3) H3->SqL K H3 a vs)/\RpL K kd (Lv F B (Gw [] ad) q) H vs ds:=by
 have le:∀a,Lv F B (Gw [] ad) q a->Lv F B (Gw [] ad) st a:=λa z=>z.imp (λy=>y.imp (λx=>⟨hq x.1,x.2⟩) id) id
 cases rp with
 |lst hn hr rl=>exact⟨_,_,rfl,λad3 H3 g3=>.inl (zaS g3 (λz=>hn (.inr z)) hr),rl.less le⟩
 |lstK a b c rl=>exact⟨_,_,rfl,λad3 H3 g3=>.inr ⟨_,_,_,a,rfl,rfl,rfl,b,c⟩,rl.less le⟩
end
def insI(x:Int):List Int->List Int
 | []=>[x]
 |y::r=>if x<=y then x::y::r else y::insI x r
def sortI:List Int->List Int
 | []=>[]
 |x::r=>insI x (sortI r)
theorem insI_perm(x:Int):∀l:List Int,(insI x l).Perm (x::l)
 | []=>List.Perm.refl _
 |y::r=>by
  unfold insI
  split
  · exact List.Perm.refl _
  · exact((insI_perm x r).cons y).trans (List.Perm.swap x y r)
theorem sortI_perm:∀l:List Int,(sortI l).Perm l
 | []=>List.Perm.refl _
 |x::r=>(insI_perm x (sortI r)).trans ((sortI_perm r).cons x)
theorem zdP(x:Int):∀l:List Int,l.Pairwise (· <= ·)->(insI x l).Pairwise (· <= ·)
 | [],_=>by simp[insI]
 |y::r,h=>by
  unfold insI
  rw[List.pairwise_cons]at h
  split
  · rename_i hxy
    rw[List.pairwise_cons,List.pairwise_cons]
    refine⟨λz hz=>?_,h⟩
    rcases zS.mp hz with rfl|hz
    · exact hxy
    · exact Int.le_trans hxy (h.1 z hz)
  · rename_i hxy
    rw[List.pairwise_cons]
    refine⟨λz hz=>?_,zdP x r h.2⟩
    rcases zS.mp ((insI_perm x r).mem_iff.mp hz)with rfl|hz
    · omega
    · exact h.1 z hz
theorem Va:∀l:List Int,(sortI l).Pairwise (· <= ·)
 | []=>List.Pairwise.nil
 |x::r=>zdP x _ (Va r)
theorem zgD:∀(a b:List Int),a.Perm b->a.Pairwise (· <= ·)->b.Pairwise (· <= ·)->a=b
 | [],b,p,_,_=>by rw[List.nil_perm]at p;exact p.symm
 |x::r,[],p,_,_=>by rw[List.perm_nil]at p;cases p
 |x::r,y::t,p,ha,hb=>by
  rw[List.pairwise_cons]at ha hb
  have hxy:x=y:=by
   have h1:x ∈ y::t:=p.mem_iff.mp (zzC ..)
   have h2:y ∈ x::r:=p.mem_iff.mpr (zzC ..)
   rcases zS.mp h1 with e|e
   · exact e
   · rcases zS.mp h2 with e'|e'
     · exact e'.symm
     · have:=hb.1 x e
       have:=ha.1 y e'
       omega
  subst hxy
  rw[zgD r t (List.Perm.cons_inv p) ha.2 hb.2]
theorem ints_of{K:zC}{kd:KD}{O:Addr->Prop}{H:Hp}{vs:List V}{us:List Value}{ds:List D}{ns:List Int}(h:RpL K kd O H vs ds)(hv:Vals vs us)(e:Vy ds=some ns):IntsAre us ns:=
 RpL.ind (P:=λvs ds=>∀us ns,Vals vs us->Vy ds=some ns->IntsAre us ns) (λus ns hv e=>by cases e;cases hv;exact .nil) (λ{v d vs ds} a _ ih us ns hv e=>by
  cases hv with
  |cons b t=>
   cases a with
   |int x=>
    obtain⟨ys,h1,h2⟩:=bS_ (show(Vy _).bind _=_ from e)
    cases h2
    obtain⟨tk,rfl⟩:=b
    exact .cons _ _ (ih _ _ t h1)
   |_=>cases e) h us ns hv e
theorem Ww:∀{us:List Value}{ns:List Int},IntsAre us ns->Vals (ns.map V.int) us
 |_,_,.nil=>.nil
 |_,_,.cons n t r=>.cons ⟨t,rfl⟩ (Ww r)
theorem zjg{K:zC}{kd:KD}{O:Addr->Prop}{H:Hp}:∀ns:List Int,RpL K kd O H (ns.map V.int) (ns.map D.int)
 | []=>.nil
 |y::r=>.cons (.int y) (zjg r)
def zmS:List D->Option R0:=on1 λx=>(asL x).bind λds=>(Vy ds).bind λns=>if ns.length<64 then some (.fl ((sortI ns).map .int))else none
section
variable{X:Cx}{kd:KD}
theorem zjU:CallD X kd (.builtin "sorted") zmS:=by
 intro pins s σ H xs us Q I r h
 obtain⟨O,ds,z,ht,vl,he,q⟩:=h
 obtain⟨x,d,rfl,vx,he⟩:=zdq vl he
 obtain⟨ds,h0,he2⟩:=bS_ (show(asL d).bind _=_ from he)
 cases zfV h0
 · obtain⟨ns,h1,he⟩:=bS_ he2
   obtain⟨hz,he⟩:=zM he
   cases he
   cases vx with
   |lst hr rl=>
    obtain⟨u,rfl,ru⟩:=vals1 r
    cases ru
    obtain⟨its,rv,pl,_⟩:=I.list hr.sq
    have hI:=ints_of rl rv h1
    have hl:=hI.length
    refine sorted_ints pl.isList hI (by omega) λout ns' a1 a2 a3=>?_
    have e:ns'=sortI ns:=zgD _ _ (a2.trans (sortI_perm ns).symm) a3 (Va ns)
    subst e
    obtain⟨ee,hob⟩:=sortedAll_at s.heap its out
    have hn:H (s.heap.objs.size+1)=none:=I.hok.fresh (zyU _)
    refine⟨.ref (s.heap.objs.size+1),_,I.laid (t':=s.toks) (λb o e=>sortedAll_old e) (zyU _) (show wV X.prog X.w _ _ _ (.lst ((sortI ns).map V.int))from⟨?_,out.toList,ee,Ww a1,by simpa[seqObj]using hob⟩),rfl,zcV q (zjg _) _ hn⟩
    rw[zD,(sortI_perm ns).length_eq]
    exact Nat.le_of_lt (yO (by omega))
end
theorem zae:∀{vs:List V}{us:List Value},vs.length=us.length->(∀(i:Nat) v u,vs[i]? = some v->us[i]? = some u->RelV v u)->Vals vs us
 | [],[],_,_=>.nil
 | [],_::_,h,_=>by simp at h
 |_::_,[],h,_=>by simp at h
 |v::vs,u::us,h,k=>.cons (k 0 v u rfl rfl) (zae (by simpa using h) λi a b x y=>k (i+1) a b (by simpa using x) (by simpa using y))
section
variable{X:Cx}{tg:Expr}
def zsZ(ta:TA):TE:=λσ H Q=>ta σ H λvs H1=>∃j:Int,vs=[.int j] /\ -(2 ^ 62)<=j/\j<2 ^ 62/\∀r,H1 r=none->Q (.ref r) (upd H1 r (.rng 0 j))
theorem zju{a:Expr}{ta:TA}{p pos:Pos}(hg:Gl X "range")(hm:X.mg "range"=none)(ha:PA X [a] ta)(hs:starEach [a] X.env=[(false,eval a X.env)]):PE X (.Call (.Name "range" p) [a] [] pos) (zsZ ta):=by
 intro pins s σ H Q I h
 refine Call_ (VV I hg hm boot_range (PyProof.Rows.callWith_type1 (thn (ha pos pins s σ H _ I h) λus s1 ⟨vs,H1,I1,r1,q1⟩=>?_) hs rfl))
 obtain⟨j,e,b1,b2,q⟩:=q1
 subst e
 cases r1 with
 |cons r rr=>
  cases rr
  obtain⟨t,rfl⟩:=r
  exact call_range_1 ⟨.ref s1.heap.objs.size,_,I1.laid (λb o e=>zxF _ e) (zzK _) (show wV X.prog X.w _ _ _ (.rng 0 j)from⟨_,_,_,zxH _ rfl⟩),rfl,q _ (I1.hok.fresh (zzK _))⟩
def tLR(ta:TA):TE:=λσ H Q=>znz (zsZ ta) zqg σ H λvs H2=>∃r H1,∃j:Int,vs=[.ref r]/\H1 r=none/\H2=upd H1 r (.rng 0 j)/\0<=j/\j<=100000/\∀l,H2 l=none->Q (.ref l) (upd H2 l (.lst ((List.range j.toNat).map λ(i:Nat)=>V.int i)))
theorem zmt{a:Expr}{ta:TA}{p p' pos pos':Pos}(hc:X.calm=true)(hg:Gl X "range")(hm:X.mg "range"=none)(hgl:Gl X "list")(hml:X.mg "list"=none)(ha:PA X [a] ta)(hs:starEach [a] X.env=[(false,eval a X.env)])
 (hs':starEach [.Call (.Name "range" p) [a] [] pos] X.env=[(false,eval (.Call (.Name "range" p) [a] [] pos) X.env)]):PE X (.Call (.Name "list" p') [.Call (.Name "range" p) [a] [] pos] [] pos') (tLR ta):=by
 intro pins s σ H Q I h
 refine Call_ (VV I hgl hml Bt.list (PyProof.Rows.callWith_type1 (thn ((Vm (zju hg hm ha hs) zcT hs') pos' pins s σ H (λvs H2=>∃r H1,∃j:Int,vs=[.ref r]/\H1 r=none/\H2=upd H1 r (.rng 0 j)/\0<=j/\j<=100000/\∀l,H2 l=none->Q (.ref l) (upd H2 l (.lst ((List.range j.toNat).map λ(i:Nat)=>V.int i)))) I ?_) λus s1 ⟨vs,H2,I2,r1,q1⟩=>?_) hs' rfl))
 · exact h
 obtain⟨r,H1,j,rfl,hn,rfl,h0,h1,q⟩:=q1
 cases r1 with
 |cons rr rs=>
  cases rs
  cases rr
  obtain⟨t,u,v,ho⟩:=I2.hok r _ (yf ..)
  have hsz:Builtin.Range.rangeSize 0 j 1=(j.toNat:Nat):=by rw[rangeSize_one];split<;>omega
  refine call_list_range (I2.ok.hd hc) ho (small_one (by omega) (by omega) (by omega) (by omega)) (n:=j.toNat) (by exact_mod_cast hsz) (by omega) λh' tk acc c' hk hob hit=>?_
  refine⟨.ref s1.heap.objs.size,_,I2.laid hk (zzK _) (show wV X.prog X.w _ _ _ (.lst ((List.range j.toNat).map λ(i:Nat)=>V.int i))from⟨?_,acc.toList,c', ?_,by simpa using hob⟩),rfl,q _ (I2.hok.fresh (zzK _))⟩
  · rw[zD,zyR];exact zzL (show j.toNat<=100000 by omega) (by decide)
  · refine zae (by rw[zD,zyR];simpa using hit.1.symm) λi x y hx hy=>?_
    rw[zzF]at hx
    obtain⟨tk',e⟩:=hit.2 i y (by simpa using hy)
    cases hr:(List.range j.toNat)[i]? with
    |none=>rw[hr]at hx;cases hx
    |some k=>
     rw[hr]at hx
     obtain⟨_,hk'⟩:=zzD.mp hr
     rw[List.getElem_range]at hk'
     subst hk'
     cases hx
     exact⟨tk',by rw[e];simp⟩
end
section
variable{X:Cx}{kd:KD}
def lrP:List D->Option R0
 | [.int j]=>if 0<=j/\j<=100000 then some (.fl ((List.range j.toNat).map λ(i:Nat)=>.int i))else none
 |_=>none
theorem zil{K:zC}{O:Addr->Prop}{H:Hp}:∀l:List Nat,RpL K kd O H (l.map λ(i:Nat)=>V.int i) (l.map λ(i:Nat)=>D.int i)
 | []=>.nil
 |y::r=>.cons (.int y) (zil r)
theorem zgG{a:Expr}{fr:AF}{p p' pos pos':Pos}(hc:X.calm=true)(hg:Gl X "range")(hm:X.mg "range"=none)(hgl:Gl X "list")(hml:X.mg "list"=none)(ha:AA X kd [a] fr)(hs:starEach [a] X.env=[(false,eval a X.env)])
 (hs':starEach [.Call (.Name "range" p) [a] [] pos] X.env=[(false,eval (.Call (.Name "range" p) [a] [] pos) X.env)]):AE X kd (.Call (.Name "list" p') [.Call (.Name "range" p) [a] [] pos] [] pos') (fP fr lrP):=by
 with_unfolding_all exact(yJ (zmt hc hg hm hgl hml ha hs hs') λσ H Q h=>by
  obtain⟨F,B,ad,as,r,as',R,e,q⟩:=h
  obtain⟨⟨rs,as1⟩,h1,e⟩:=bS_ (show(fr as).bind _=_ from e)
  obtain⟨⟨ds,lv⟩,h2,e⟩:=bS_ e
  obtain⟨r0,h3,e⟩:=bS_ e
  obtain⟨z,h4,e⟩:=bS_ e
  cases e
  match ds,h3,h2 with
  | [.int j],h3,h2=>
   obtain⟨⟨b1,b2⟩,e3⟩:=zM (show(if 0<=j/\j<=100000 then some (R0.fl ((List.range j.toNat).map λ(i:Nat)=>.int i))else none)=some r0 from h3)
   cases e3
   refine(show alA X.K kd fr σ H _ from⟨F,B,ad,as,rs,as1,R,h1,λvs ad1 H1 R1 rv1 g1=>?_⟩)
   have vl:=W6 R1 rv1 h2
   have rq:=ZZ R1 h4 (Q:=Q) λw T' H' R' rv' g'=>q w T' ad1 H' R' rv' (g1.trans g')
   cases vl with
   |cons v1 v2=>
    cases v2
    cases v1
    refine⟨j,rfl,by omega,by omega,λr hr=>⟨r,H1,j,rfl,hr,rfl,b1,b2,λl hl=>?_⟩⟩
    have hlr:l≠r:=λe=>by rw[e,yf]at hl;cases hl
    have hl1:H1 l=none:=by rw[zW hlr]at hl;exact hl
    exact rq l _ _ hl1 (λb o q=>Xq hl b o (Xq hr b o q)) yf (zil _))
end
def zcI(n:Nat)(os:List O):AS:=os.map some++List.replicate (n-os.length) none
theorem zlc{L:Bool->V->D->Prop}{N:Addr->Prop}{H:Hp}:∀(ls:List O) {vs:List V}{fp:List Addr},ls.all O.isLf=true->RoL L N H vs ls fp->fp=[]
 | [],_,_,_,r=>by cases r;rfl
 |o::ls,_,_,h,r=>by
  rw[List.all_cons,zzZ]at h
  cases r with
  |cons a r=>
   cases a with
   |lf _=>rw[zlc ls h.2 r];rfl
   |_=>exact absurd h.1 (by simp[O.isLf])
theorem zkV{L:Bool->V->D->Prop}{N:Addr->Prop}{H:Hp}{vs:List V}{ls:List O}{fp:List Addr}(h:RoL L N H vs ls fp):vs.length=ls.length:=RoL.length h
theorem zkZ{L:Bool->V->D->Prop}{N:Addr->Prop}{H:Hp}:∀(ls:List O) {vs:List V}{fp:List Addr}{i:Nat}{o:O},ls.all O.isLf=true->RoL L N H vs ls fp->ls[i]? = some o->∃v,vs[i]? = some v/\Ro L N H v o []
 | [],_,_,_,_,_,_,e=>by simp at e
 |o'::ls,_,_,i,o,h,r,e=>by
  rw[List.all_cons,zzZ]at h
  cases r with
  |cons a r=>
   cases i with
   |zero=>
    simp at e
    subst e
    cases a with
    |lf z=>exact⟨_,rfl,.lf z⟩
    |_=>exact absurd h.1 (by simp[O.isLf])
   |succ i=>
    obtain⟨v,h1,h2⟩:=zkZ ls (i:=i) h.2 r (by simpa using e)
    exact⟨v,by simpa using h1,h2⟩
theorem zki{K:zC}{kd:KD}{F:Addr->Prop}{T:List Addr}{H:Hp}{N:List Str}{vs:List V}{o:O}{ls:List O}(ht:∀a,F a->H a≠none)(hn:T.Nodup)(hT:∀a ∈ T,H a≠none/\¬F a)(hl:ls.all O.isLf=true)(hN:(o::ls).length<=N.length)(ro:vB K kd F (λ_=>False) (· ∈ T) H vs (o::ls) T):
 Rel K kd F (λ_=>False) [] (λi=>if i=0 then T else[]) (zcI N.length (o::ls)) (L2.start N vs) H:=by
 have hlen:=zkV ro
 have gw:∀a,Gw [] (λi=>if i=0 then T else[]) a ↔ a ∈ T:=λa=>⟨λz=>z.elim (λy=>nomatch y) λ⟨i,y⟩=>by
  by_cases e:i=0
  · subst e;simpa using y
  · simp[e]at y,λz=>.inr ⟨0,by simpa using z⟩⟩
 have lv:∀st a,Lv F (λ_=>False) (Gw [] (λi=>if i=0 then T else[])) st a->Lv F (λ_=>False) (· ∈ T) st a:=λst a z=>z.imp id (gw a).mp
 refine⟨by unfold zcI L2.start;simp[hlen];omega,λi hi=>?_,λi=>?_,λi j a x y=>?_,zyG,(λ_ _ _ z=>nomatch z),ht,(λ_ z=>z.elim),λa z=>hT a ((gw a).mp z),λi s e=>?_⟩
 · have:i≠0:=λz=>by subst z;unfold zcI at hi;simp at hi
   simp[this]
 · by_cases e:i=0
   · subst e;simpa using hn
   · simp[e]
 · have h1:i=0:=by
    by_cases e:i=0
    · exact e
    · simp[e]at x
   have h2:j=0:=by
    by_cases e:j=0
    · exact e
    · simp[e]at y
   rw[h1,h2]
 · unfold zcI at e
   unfold L2.start
   by_cases hi:i<(o::ls).length
   · rw[zyM (by rw[zD];exact hi),zzF]at e
     obtain⟨d,hd,ea⟩:=zzU.mp e
     subst ea
     rw[zyM (by rw[zD,hlen];exact hi),zzF]
     cases ro with
     |cons a r=>
      rename_i v vs' fp fq
      have e0:fq=[]:=zlc ls hl r
      subst e0
      cases i with
      |zero=>
       simp at hd
       subst hd
       exact⟨v,rfl,by simpa using RoS.lv lv a⟩
      |succ i=>
       obtain⟨w,h1,h2⟩:=zkZ ls hl r (show ls[i]? = some d by simpa using hd)
       exact⟨w,by simp[h1],by simpa using RoS.lv lv h2⟩
   · rw[zyO (by rw[zD];omega)]at e
     have:=zzX e
     have ea:s=none:=(List.mem_replicate.mp this).2
     subst ea
     have hi0:i≠0:=λz=>by subst z;exact hi (by simp)
     show(if i=0 then T else[])=[]
     rw[if_neg hi0]
def zmj(i:Nat)(f:SF):SF:=λas=>match as[i]? with
 |some (some o)=>f (as.set i (some o.frz))
 |_=>none
theorem znT{K:zC}{kd:KD}{F B:Addr->Prop}{ad:Ad}{i:Nat}{H:Hp}{D:Ends}:∀{o:Out},zgQ K kd F B ad H D o->zgQ K kd F B (vG ad i []) H D o
 | .nx _,q=>λσ' ad' H' R g=>q σ' ad' H' R ((Grow.less xG).trans g)
 | .ct _,q=>λσ' ad' H' R g=>q σ' ad' H' R ((Grow.less xG).trans g)
 | .bk _,q=>λσ' ad' H' R g=>q σ' ad' H' R ((Grow.less xG).trans g)
 | .rt _,q=>λv T H' ro g=>q v T H' ro ((Grow.less xG).trans g)
theorem zpL{X:Cx}{kd:KD}{i:Nat}{body:List Stmt}{f:SF}(h:ASs X kd body f):ASs X kd body (zmj i f):=by
 with_unfolding_all exact(zci h λD σ H h=>by
  obtain⟨F,B,ad,as,o,R,e,q⟩:=h
  unfold zmj at e
  cases k:as[i]? with
  |none=>rw[k]at e;cases e
  |some s=>
   rw[k]at e
   cases s with
   |none=>cases e
   |some oo=>
    exact⟨F,B,vG ad i [],_,o,(R.frz k).1,e,znT q⟩)
section
variable{K:zC}{kd:KD}{F B G:Addr->Prop}{H:Hp}
theorem zcu{p:Addr}{u:HO}(hp:G p):Grow G H G (upd H p u):=⟨λb w h n=>by rw[zW (λe=>n (by subst e;exact hp))];exact h,λb z=>.inl z⟩
theorem zkF:∀(os:List O) {vs:List V}{fp:List Addr}{n:Nat}{o:O},vB K kd F B G H vs os fp->fp.Nodup->(∀a ∈ fp,G a)->os[n]? = some o->
 ∃v f,vs[n]? = some v/\RoS K kd F B G H v o f/\f.Nodup/\(∀a ∈ f,a ∈ fp)/\∀(p:Addr) (u:HO) (o':O),p ∈ f->RoS K kd F B G (upd H p u) v o' f->vB K kd F B G (upd H p u) vs (os.set n o') fp
 | [],_,_,_,_,_,_,_,e=>by simp at e
 |o1::os,_,_,n,o,r,hn,hG,e=>by
  cases r with
  |cons a r=>
   rename_i v vs fp fq
   obtain⟨n1,n2,n3⟩:=zxC.mp hn
   cases n with
   |zero=>
    simp at e
    subst e
    exact⟨v,fp,rfl,a,n1,λx m=>zzM _ m,λp u o' hp ro=>.cons ro (vB.grow (zcu (hG p (zzM _ hp))) (λx m w h=>by rw[zW (λe=>n3 p hp x m e.symm)];exact h) r)⟩
   |succ n=>
    obtain⟨v',f,h1,h2,h3,h4,h5⟩:=zkF os (n:=n) (o:=o) r n2 (λx m=>hG x (zzI _ m)) (by simpa using e)
    exact⟨v',f,by simpa using h1,h2,h3,λx m=>zzI _ (h4 x m),λp u o' hp ro=>.cons (RoS.grow (zcu (hG p (zzI _ (h4 p hp)))) (λx m w h=>by rw[zW (λe=>n3 x m p (h4 p hp) e)];exact h) a) (h5 p u o' hp ro)⟩
theorem zgE{L:Bool->V->D->Prop}{N:Addr->Prop}{v:V}{st':Bool}{d':D}(h:L st' v d'):∀(os:List O) {vs:List V}{fp:List Addr}{n:Nat}{st:Bool}{d:D},RoL L N H vs os fp->os[n]? = some (.lf st d)->RoL L N H (vs.set n v) (os.set n (.lf st' d')) fp
 | [],_,_,_,_,_,_,e=>by simp at e
 |o1::os,_,_,n,st,d,r,e=>by
  cases r with
  |cons a r=>
   cases n with
   |zero=>
    simp at e
    subst e
    cases a with
    |lf _=>exact .cons (.lf h) r
   |succ n=>exact .cons a (zgE h os (n:=n) (st:=st) (d:=d) r (by simpa using e))
theorem zoT{v:V}{inner:List O}{fp:List Addr}{n:Nat}{st:Bool}{d:D}(c:Int)(r:RoS K kd F B G H v (.nd .ls inner) fp)(hn:fp.Nodup)(hG:∀a ∈ fp,G a)(e:inner[n]? = some (.lf st d)):
 ∃p ivs,v = .ref p/\p ∈ fp/\H p=some (.lst ivs)/\n<ivs.length/\RoS K kd F B G (upd H p (.lst (ivs.set n (.int c)))) v (.nd .ls (inner.set n (.lf true (.int c)))) fp:=by
 cases r with
 |ls hp ir=>
  rename_i p ivs ifp
  have hpfp:p ∉ ifp:=(zzT.mp hn).1
  refine⟨p,ivs,rfl,zzC ..,hp,by rw[zkV ir];exact(zzD.mp e).1,.ls yf (zgE (.int c) inner (vB.grow (zcu (hG p (zzC ..))) (λx m w h=>by rw[zW (λe=>hpfp (by subst e;exact m))];exact h) ir) e)⟩
theorem zth{v:V}{os:List O}{fp:List Addr}{n:Nat}{o:O}(r:RoS K kd F B G H v (.nd .ls os) fp)(hn:fp.Nodup)(hG:∀a ∈ fp,G a)(e:os[n]? = some o):
 ∃l vs w f,v = .ref l/\H l=some (.lst vs)/\vs[n]? = some w/\RoS K kd F B G H w o f/\f.Nodup/\(∀a ∈ f,a ∈ fp)/\∀(p:Addr) (u:HO) (o':O),p ∈ f->RoS K kd F B G (upd H p u) w o' f->RoS K kd F B G (upd H p u) v (.nd .ls (os.set n o')) fp:=by
 cases r with
 |ls hp ir=>
  rename_i l vs ifp
  obtain⟨w,f,h1,h2,h3,h4,h5⟩:=zkF os ir (zzT.mp hn).2 (λa m=>hG a (zzA _ m)) e
  exact⟨l,vs,w,f,rfl,hp,h1,h2,h3,λa m=>zzA _ (h4 a m),λp u o' hpf ro=>.ls (by rw[zW (λe=>(zzT.mp hn).1 (by rw[e];exact h4 p hpf))];exact hp) (h5 p u o' hpf ro)⟩
end
section
variable{K:zC}{kd:KD}{F B:Addr->Prop}{ad:Ad}{as:AS}{σ:St}{H:Hp}{i:Nat}{o:O}
theorem Rel.slotU(R:Rel K kd F B [] ad as σ H)(k:as[i]? = some (some o)):
 ∃v,σ[i]? = some (some v)/\RoS K kd F B (Gw [] ad) H v o (ad i)/\(ad i).Nodup/\(∀a ∈ ad i,Gw [] ad a)/\
  ∀(p:Addr) (u:HO) (o':O),p ∈ ad i->RoS K kd F B (Gw [] ad) (upd H p u) v o' (ad i)->Rel K kd F B [] ad (as.set i (some o')) σ (upd H p u)/\Grow (Gw [] ad) H (Gw [] ad) (upd H p u):=by
 obtain⟨v,hv,ro⟩:=R.sl i _ k
 have hi:i<as.length:=(zzD.mp k).1
 refine⟨v,hv,ro,R.nd i,λa m=>.inr ⟨i,m⟩,λp u o' hp ro'=>?_⟩
 have g:Grow (Gw [] ad) H (Gw [] ad) (upd H p u):=zcu (.inr ⟨i,hp⟩)
 have kn:∀a,H a≠none->upd H p u a≠none:=λa z=>by
  by_cases e:a=p
  · subst e;rw[yf];simp
  · rw[zW e];exact z
 refine⟨⟨by rw[zzR];exact R.len,λj hj=>R.out j (by rw[zzR]at hj;exact hj),R.nd,R.inj,R.tnd,R.dis,λa z=>kn a (R.ftr a z),λa z=>⟨kn a (R.btr a z).1,(R.btr a z).2⟩,λa z=>⟨kn a (R.gtr a z).1,(R.gtr a z).2⟩,λj s e=>?_⟩,g⟩
 by_cases q:j=i
 · subst q
   rw[zyH hi]at e
   cases e
   exact⟨v,hv,ro'⟩
 · rw[zzV (Ne.symm q)]at e
   exact(R.sl j s e).grow g λa m u h=>by rw[zW (λe=>q (R.inj j i a m (by rw[e];exact hp)))];exact h
end
abbrev IXF:=AS->Option Int
def tSt(K:zC)(kd:KD)(f:IXF):TE:=λσ H Q=>∃F B ad as k,Rel K kd F B [] ad as σ H/\f as=some k/\Q (.int k) H
@[irreducible] def AK(X:Cx)(kd:KD)(e:Expr)(f:IXF):Prop:=PE X e (tSt X.K kd f)
def zjH:O->Option (List O)
 | .nd .ls os=>some os
 |_=>none
def ztg:O->Option (List O)
 | .nd .tp os=>some os
 |_=>none
def zfl:O->Option D
 | .lf _ d=>some d
 |_=>none
def atO{α:Type}(f:O->Option α)(os:List O)(k:Nat):Option α:=os[k]?.bind f
def slO{α:Type}(f:O->Option α)(as:AS)(i:Nat):Option α:=as[i]?.bind λs=>s.bind f
theorem zkQ{o:O}{os:List O}(h:zjH o=some os):o = .nd .ls os:=by
 cases o with
 |lf s d=>cases h
 |nd k os=>cases k<;>cases h;rfl
theorem zqc{o:O}{os:List O}(h:ztg o=some os):o = .nd .tp os:=by
 cases o with
 |lf s d=>cases h
 |nd k os=>cases k<;>cases h;rfl
theorem zkP{o:O}{d:D}(h:zfl o=some d):∃st,o = .lf st d:=by
 cases o with
 |lf s d=>cases h;exact⟨s,rfl⟩
 |nd k os=>cases h
theorem zox{α:Type}{f:O->Option α}{os:List O}{k:Nat}{a:α}(h:atO f os k=some a):∃o,os[k]? = some o/\f o=some a:=bS_ h
theorem zjX{α:Type}{f:O->Option α}{as:AS}{k:Nat}{a:α}(h:slO f as k=some a):∃o,as[k]? = some (some o)/\f o=some a:=by
 obtain⟨s,h1,h⟩:=bS_ h
 obtain⟨o,rfl,h⟩:=bS_ h
 exact⟨o,h1,h⟩
theorem zvd{os inner:List O}{k:Nat}(h:atO zjH os k=some inner):os[k]? = some (.nd .ls inner):=by
 obtain⟨o,h1,h⟩:=zox h
 cases zkQ h
 exact h1
theorem zuP{os:List O}{d:D}{k:Nat}(h:atO zfl os k=some d):∃st,os[k]? = some (.lf st d):=by
 obtain⟨o,h1,h⟩:=zox h
 obtain⟨st,rfl⟩:=zkP h
 exact⟨st,h1⟩
theorem zvb{as:AS}{inner:List O}{k:Nat}(h:slO zjH as k=some inner):as[k]? = some (some (.nd .ls inner)):=by
 obtain⟨o,h1,h⟩:=zjX h
 cases zkQ h
 exact h1
theorem zuk{as:AS}{d:D}{k:Nat}(h:slO zfl as k=some d):∃st,as[k]? = some (some (.lf st d)):=by
 obtain⟨o,h1,h⟩:=zjX h
 obtain⟨st,rfl⟩:=zkP h
 exact⟨st,h1⟩
theorem zla{α:Type}{f:O->Option α}{os:List O}{k:Nat}{o:O}{a:α}(h:os[k]? = some o)(e:f o=some a):atO f os k=some a:=by unfold atO;rw[h];exact e
theorem zly{α:Type}{f:O->Option α}{as:AS}{k:Nat}{o:O}{a:α}(h:as[k]? = some (some o))(e:f o=some a):slO f as k=some a:=by unfold slO;rw[h];exact e
def xV(i:Nat):IXF:=λas=>(slO zfl as i).bind asI
def xAt(i:Nat)(f:IXF):IXF:=λas=>(f as).bind λk=>if 0<=k then(slO zfl as i).bind λd=>(asL d).bind λds=>ds[k.toNat]?.bind asI else none
section
variable{X:Cx}{kd:KD}{f g:IXF}{a b:Expr}
theorem zcP{i:Nat}{x:Str}{p:Pos}(hv:PE X (.Name x p) (X8 i)):AK X kd (.Name x p) (xV i):=by
 with_unfolding_all exact(yJ hv λσ H Q h=>by
  obtain⟨F,B,ad,as,k,R,e,q⟩:=h
  obtain⟨d,e1,e⟩:=bS_ (show(slO zfl as i).bind _=_ from e)
  cases zid e
  obtain⟨st,k1⟩:=zuk e1
  obtain⟨v,hv,ro⟩:=R.sl i _ k1
  generalize ad i=fp at ro
  cases ro with
  |lf rp=>cases rp;exact⟨_,hv,q⟩)
theorem ziV{i:Nat}{x:Str}{p pos:Pos}(hv:PE X (.Name x p) (X8 i))(hb:AK X kd b f)(hs:Z1 b):AK X kd (.Subscript (.Name x p) b pos) (xAt i f):=by
 with_unfolding_all exact(yJ (zdT zhS hv hb hs) λσ H Q h=>by
  obtain⟨F,B,ad,as,c,R,e,q⟩:=h
  obtain⟨k,h1,e⟩:=bS_ (show(f as).bind _=_ from e)
  obtain⟨hk,e⟩:=ite_some' e
  obtain⟨d0,e1,e3⟩:=bS_ e
  obtain⟨ds,e2,e4⟩:=bS_ e3
  obtain⟨d,k2,e5⟩:=bS_ e4
  cases zfV e2
  cases zid e5
  obtain⟨st,k1⟩:=zuk e1
  obtain⟨v,hv,ro⟩:=R.sl i _ k1
  generalize ad i=fp at ro
  cases ro with
  |lf rp=>
   obtain⟨l,vs,rfl,hq,rl⟩:=zpU (ad:=ad) (q:=st) rp (λz=>z)
   obtain⟨w,hw,rw'⟩:=rl.get k2
   cases rw'
   refine⟨_,hv,F,B,ad,as,k,R,h1,l,vs,k,_,rfl,rfl,hq ad H Grow.refl, ?_,q⟩
   have:=WW hw
   rw[zyW hk]at this
   exact this)
end
def zbj(i:Nat)(f1 f2 fv:IXF):SF:=λas=>(f1 as).bind λk1=>(f2 as).bind λk2=>(fv as).bind λc=>if 0<=k1/\0<=k2 then(slO zjH as i).bind λos=>(atO zjH os k1.toNat).bind λinner=>(atO zfl inner k2.toNat).bind λ_=>some (.nx (as.set i (some (.nd .ls (os.set k1.toNat (.nd .ls (inner.set k2.toNat (.lf true (.int c)))))))))else none
def noS(as:AS)(y:Nat):Bool:=match as[y]? with
 |some none=>true
 |_=>false
theorem zhE{as:AS}{y:Nat}(h:noS as y=true):as[y]? = some none:=by
 unfold noS at h
 cases k:as[y]? with
 |none=>rw[k]at h;cases h
 |some s=>
  cases s with
  |none=>rfl
  |some _=>rw[k]at h;cases h
theorem zpt{n j:Nat}(h:j<n):ixN n (j:Int)=some j:=by
 unfold ixN
 rw[if_pos (by omega),if_pos (by omega)];simp
theorem zps{n:Nat}{k:Int}(h0:0<=k)(h:k.toNat<n):ixN n k=some k.toNat:=by
 have:=zpt h
 rw[show((k.toNat:Nat):Int)=k by omega]at this
 exact this
theorem zpb{α:Type}{xs:List α}{k:Int}{v:α}(h0:0<=k)(h:xs[k.toNat]? = some v):atI xs k=some v:=by
 have:=WW h
 rw[show((k.toNat:Nat):Int)=k by omega]at this
 exact this
section
variable{X:Cx}{kd:KD}{f f1 f2 f3 fv:IXF}{e1 e2 e3 ev:Expr}{i y:Nat}
theorem zlh{x:Str}{p p1 tpos pos:Pos}(ho:PE X (.Name x p) (X8 i))(h1:AK X kd e1 f1)(hp1:Z1 e1)(h2:AK X kd e2 f2)(hv:AK X kd ev fv)
 (ha:∀v,assign (.Subscript (.Subscript (.Name x p) e1 p1) e2 tpos) X.env v=(do
  let ov <-holding [v] (eval (.Subscript (.Name x p) e1 p1) X.env)
  let iv <-holding [v,ov] (eval e2 X.env)
  standAt tpos
  holding [v,ov,iv] (setItem ov iv v)
  release [v,ov,iv] []))
 (hs:swapsWithSole [.Subscript (.Subscript (.Name x p) e1 p1) e2 tpos] ev pos.line X.env=pure false) (hw:swappedStores [.Subscript (.Subscript (.Name x p) e1 p1) e2 tpos] ev X.env=pure none)
 (hm:(assignEach [.Subscript (.Subscript (.Name x p) e1 p1) e2 tpos] X.env).map (·.2)=[assign (.Subscript (.Subscript (.Name x p) e1 p1) e2 tpos) X.env]):
 ASt X kd (.Assign [.Subscript (.Subscript (.Name x p) e1 p1) e2 tpos] ev pos) (zbj i f1 f2 fv):=by
 with_unfolding_all exact(Yr (zoG hv (zrA (zdT zhS ho h1 hp1) h2 set_list ha) hs hw hm) λD σ H h=>by
  obtain⟨F,B,ad,as,o,R,e,q⟩:=h
  obtain⟨n1,j1,e⟩:=bS_ (show(f1 as).bind _=_ from e)
  obtain⟨n2,j2,e⟩:=bS_ e
  obtain⟨c,j3,e⟩:=bS_ e
  obtain⟨⟨hk1,hk2⟩,e⟩:=ite_some' e
  obtain⟨os,e1,e⟩:=bS_ e
  obtain⟨inner,e2,e⟩:=bS_ e
  obtain⟨d,e3,e⟩:=bS_ e
  have k1:=zvb e1
  have k2:=zvd e2
  obtain⟨st,k3⟩:=zuP e3
  cases e
  obtain⟨v,sv,ro,hn,hG,up⟩:=R.slotU k1
  obtain⟨l,vs,w,fw,rfl,hH,hvs,rw1,fn,fs,up1⟩:=zth ro hn hG k2
  obtain⟨p,ivs,rfl,hp,hHp,hl,ro'⟩:=zoT c rw1 fn (λa m=>hG a (fs a m)) k3
  obtain⟨R2,g2⟩:=up p _ _ (fs p hp) (up1 p _ _ hp ro')
  exact⟨F,B,ad,as,c,R,j3,_,sv,F,B,ad,as,n1,R,j1,l,vs,n1,_,rfl,rfl,.inl (.inl hH),zpb hk1 hvs,F,B,ad,as,n2,R,j2,p,ivs,n2,n2.toNat,rfl,rfl,hHp,zps hk2 hl,q σ ad _ R2 g2⟩)
end
section
variable{X:Cx}{kd:KD}
theorem zrm:SlR X (λx lo hi H Q=>∃z,x = .str z/\z.length<=sizeLine/\Q (.str (Txt.slice z lo hi)) H):=by
 intro pins s σ H x v vl vu lo hi sl Q I rx hs pl pu h
 obtain⟨z,rfl,hz,q⟩:=h
 obtain⟨t,rfl⟩:=rx
 refine⟨"str",_,F.slot_str_getitem.lookup,typeIs_str _ _ _, ?_⟩
 cases pl with
 |none=>
  cases pu with
  |none=>exact wpAny_getItem_str_slice (l:=none) (u:=none) (st:=none) hs rfl (post_val_or_str ⟨zzL (Txt.slice_le z _ _) hz,λt' k=>⟨.str _,H,I.kept (λ_ _ e=>e),⟨_,rfl⟩,q⟩⟩)
  |int j uj=>exact wpAny_getItem_str_slice (l:=none) (u:=some (j,uj)) (st:=none) hs rfl (post_val_or_str ⟨zzL (Txt.slice_le z _ _) hz,λt' k=>⟨.str _,H,I.kept (λ_ _ e=>e),⟨_,rfl⟩,q⟩⟩)
 |int i ui=>
  cases pu with
  |none=>exact wpAny_getItem_str_slice (l:=some (i,ui)) (u:=none) (st:=none) hs rfl (post_val_or_str ⟨zzL (Txt.slice_le z _ _) hz,λt' k=>⟨.str _,H,I.kept (λ_ _ e=>e),⟨_,rfl⟩,q⟩⟩)
  |int j uj=>exact wpAny_getItem_str_slice (l:=some (i,ui)) (u:=some (j,uj)) (st:=none) hs rfl (post_val_or_str ⟨zzL (Txt.slice_le z _ _) hz,λt' k=>⟨.str _,H,I.kept (λ_ _ e=>e),⟨_,rfl⟩,q⟩⟩)
def slS:D->Option Int->Option Int->Option R0
 | .str z,lo,hi=>if z.length<=sizeLine then some (.im (.str (Txt.slice z lo hi)))else none
 |_,_,_=>none
theorem ztV:SlR X (λx lo hi H Q=>∃O d r,(∀a,O a->H a≠none)/\Vw X.K kd O H x d/\slS d lo hi=some r/\RQ X.K kd O H Q r):=by
 intro pins s σ H x v vl vu lo hi sl Q I rx hs pl pu h
 obtain⟨O,d,r,ht,vx,he,q⟩:=h
 unfold slS at he
 split at he
 · obtain⟨c,rfl⟩:=zM he
   cases vx
   exact zrm pins s σ H _ v vl vu lo hi sl Q I rx hs pl pu ⟨_,rfl,c,yz q (.str _)⟩
 · cases he
theorem zlI{a:Expr}{lo hi:Option Expr}{fa:EF}{fl fh:OF}{pos p2:Pos}(ha:AE X kd a fa)(hl:AO X kd lo fl)(hh:AO X kd hi fh):AE X kd (.Subscript a (.Slice lo hi none p2) pos) (fSl fa fl fh slS):=by with_unfolding_all exact(yJ (ziS ztV ha hl hh) λσ H Q h=>by
 obtain⟨F,B,ad,as,r,as',R,e,q⟩:=h
 obtain⟨⟨p,as1⟩,h1,e⟩:=bS_ (show(fa as).bind _=_ from e)
 obtain⟨⟨l,as2⟩,h2,e⟩:=bS_ e
 obtain⟨⟨u,as3⟩,h3,e⟩:=bS_ e
 obtain⟨⟨d,lv⟩,h4,e⟩:=bS_ e
 obtain⟨r',h5,e⟩:=bS_ e
 obtain⟨z,h6,e⟩:=bS_ e
 cases e
 refine vZ R h1 λv ad1 H1 R1 rv1 g1=>⟨F,B,ad1,as1,l,as2,R1,h2,λad2 H2 R2 g2=>⟨F,B,ad2,as2,u,_,R2,h3,λad3 H3 R3 g3=>?_⟩⟩
 exact⟨_,d,r',R3.tr _,wC.vw R3 ((rv1.grow g2).grow g3) h4,h5,ZZ R3 h6 λw T' H' R' rv' g'=>q w T' ad3 H' R' rv' (((g1.trans g2).trans g3).trans g')⟩)
end
theorem ziq:typeLookup (.type "list") "keys"=pure none:=am_miss_of_fast (by decide +kernel)
theorem zkn{prog:Program}{w:World}{A:Around}{E:Value->Shared->Prop}{s:Shared}{a:Addr}{o:Obj}{xs:Array Value}{k:Nat}{Q:Option Value->Shared->Prop}
 (hx:s.heap.get? a=some o) (hc:o.cls = .type "list") (hdat:o.data = .seq xs k) (hd:o.dict=none) (hA:A.handled=none)
 (h:∀h' tk,(∀b o,s.heap.get? b=some o->h'.get? b=some o)->Q none {s with heap:=h',toks:=tk}):
 wpAny (model prog w) A (getAttr? (.ref a) "keys") Q E s:=by
 obtain⟨c,dct,dat,sl⟩:=o
 simp only at hc hdat hd
 subst hc hdat hd
 obtain⟨hp,g,d,tk,os⟩:=s
 have hT:∀tk',(⟨hp,g,d,tk',os⟩:Shared).TypeIs (.ref a) "list":=λ_=>⟨_,hx,rfl⟩
 have f1:=sub_AttributeError
 have f3:=F.slot_list_getattribute.lookup
 have f4:=F.slot_list_getattribute.bind (.ref a)
 have f5:=am_list_getattr_none
 unfold getAttr? getAttrBy? getAttrBy
 repeat (any_goals (first|assumption|exact hT _|((with_reducible show wpAny _ _ (call (Value.builtin "list.__getattribute__") _ _) _ _ _);refine call_meets F.slot_list_getattribute (hT _) am_entry_list_getattribute (F.args_list_getattribute_2 _ _) (meets_getattribute_miss_list a xs k sl "keys" _ ziq (by decide +kernel)) ⟨hx,hA,λh' tk' e hx'=>?_⟩)|wp_step))
 obtain⟨t',u',he⟩:=hx'.there
 show wpAny _ _ (getattributeRaised _ _ _ _ _ _ _) _ _ _
 unfold getattributeRaised
 repeat (any_goals (first|assumption|wp_step))
 exact h _ _ hx'.keeps
theorem Zv:plainId "dict.update.loop"=true:=by decide +kernel
theorem zaE:entryFor table "dict.update.loop"=some Builtin.«dict.update.loop» := entryFor_of_fast (by kernel_rfl)
section
variable{prog:Program}{w:World}{κ:Type}[DecidableEq κ]{knd:KeyKind prog w κ}{A:Around}{R:Result->Shared->Prop}{d I l:Addr}{items:Array Value}{N:Nat}
def putAll(kvs:List (κ×Value)):List (κ×Value)->List (κ×Value)
 | []=>kvs
 |p::r=>putAll (stored kvs p.1 p.2) r
theorem zkw(kvs:List (κ×Value))(k:κ)(v:Value):(stored kvs k v).length<=kvs.length+1:=by
 unfold stored
 split
 · rw[zD];omega
 · rw[zzG];exact zzK _
theorem zod(hh:A.handled=none)(hdN:N<=d)(hIN:N<=I)(hdI:d≠I)(hlN:l<N):∀(rest:List (κ×Value)) (i:Nat) (s:Shared) (kvs:List (κ×Value)),s.heap.IsListIter I l i->s.heap.IsList l items->s.heap.DictOf knd d kvs->kvs.length+rest.length<=sizeLine->
 (∀j p,rest[j]? = some p->∃q key,items[i+j]? = some (.ref q)/\q<N/\IsTup s.heap q #[key,p.2]/\knd.is p.1 key=true)->items[i+rest.length]? = none->
 (∀h' tk,h'.DictOf knd d (putAll kvs rest)->(∀b o,b<N->s.heap.get? b=some o->h'.get? b=some o)->R (.ok (.ret .none)) {s with heap:=h',toks:=tk})->
 codeAny (model prog w) A (.builtin "dict.update.loop" ⟨[.ref d,.ref I,rawInt i,.none],[]⟩) R s:=by
 intro rest
 induction rest with
 |nil=>
  intro i s kvs hit hl hm hz hp he hR
  refine zxM zaE ?_
  rw[zxJ Zv _]
  show wpAny _ A.in1 (pyNext (.ref I) >>= _) _ _ s
  refine zxD (wpAny_pyNext_list_end hh hit hl he λh' hx=>?_)
  show wpAny _ _ (Builtin.Dict.addKeywords d [] >>= _) _ _ _
  refine zxD (zxE (zxE ?_))
  obtain⟨o,es,ep,ho,r⟩:=hm
  exact hR h' s.toks ⟨o,es,ep,hx d o hdI ho,r⟩ λb o hb e=>hx b o (zzN (zzH hb hIN)) e
 |cons p rest ih=>
  intro i s kvs hit hl hm hz hp he hR
  obtain⟨q,key,hq,hqN,ht,hkey⟩:=hp 0 p rfl
  refine zxM zaE ?_
  rw[zxJ Zv _]
  show wpAny _ A.in1 (pyNext (.ref I) >>= _) _ _ s
  refine zxD (wpAny_pyNext_list_item hit hl hq λh' hit' hs=>?_)
  have sm:∀b o,b≠I->s.heap.get? b=some o->h'.get? b=some o:=λb o hb e=>(hs.2 b hb).trans e
  obtain⟨oq,hoq,hcq,nq,hdq⟩:=ht
  have hoq':=sm q oq (zzN (zzH hqN hIN)) hoq
  have hm':h'.DictOf knd d kvs:=let⟨o,es,ep,ho,r⟩:=hm;⟨o,es,ep,sm d o hdI ho,r⟩
  have hl':h'.IsList l items:=let⟨o,ho,r⟩:=hl;⟨o,sm l o (zzN (zzH hlN hIN)) ho,r⟩
  have hT:({s with heap:=h'}:Shared).TypeIs (.ref q) "tuple":=⟨oq,hoq',hcq⟩
  show wpAny _ _ (holding [.ref q] _ >>= _) _ _ _
  refine zxD (zxK (zxD (wpAny_tryCatch ?_)))
  unfold Builtin.Dict.pairItems
  refine zxD (wpAny_typeOf hT ?_)
  show wpAny _ _ (if(Value.type "tuple"==Value.type "list"||Value.type "tuple"==Value.type "tuple")=true then _ else _) _ _ _
  rw[if_pos (by decide)]
  refine zxD (wpAny_seqItems hoq' hdq (zxE ?_))
  show wpAny _ _ (holding [key,p.2] (dictSet d key p.2)) _ _ _
  refine zxK (wpAny_dictSet_pairs (hsz:=by simp only[zzQ]at hz;omega) hkey hm' λh'' hm'' hs''=>?_)
  have sm2:∀b o,b≠d->h'.get? b=some o->h''.get? b=some o:=λb o hb e=>(hs''.2 b hb).trans e
  refine zxE ⟨plainId_quiet Zv _, ?_⟩
  have hit'':h''.IsListIter I l (i+1):=let⟨o,ho,r⟩:=hit';⟨o,sm2 I o (Ne.symm hdI) ho,r⟩
  have hl'':h''.IsList l items:=let⟨o,ho,r⟩:=hl';⟨o,sm2 l o (zzN (zzH hlN hdN)) ho,r⟩
  have keep:∀b o,b<N->s.heap.get? b=some o->h''.get? b=some o:=λb o hb e=>sm2 b o (zzN (zzH hb hdN)) (sm b o (zzN (zzH hb hIN)) e)
  have:=ih (i+1) {s with heap:=h'',toks:=s.toks+1} (stored kvs p.1 p.2) hit'' hl'' hm'' (by have:=zkw kvs p.1 p.2;simp only[zzQ]at hz;omega)
   (λj p' hj=>by
    obtain⟨q',key',a1,a2,⟨o',a3,a4⟩,a5⟩:=hp (j+1) p' (by simpa using hj)
    exact⟨q',key',by rw[show i+1+j=i+(j+1) by omega];exact a1,a2,⟨o',keep q' o' a2 a3,a4⟩,a5⟩)
   (by rw[show i+1+rest.length=i+(p::rest).length by simp only[zzQ];omega];exact he)
   (λh3 tk hm3 k3=>hR h3 tk hm3 λb o hb e=>k3 b o hb (keep b o hb e))
  exact this
end
theorem zfN{prog:Program}{w:World}{κ:Type}[DecidableEq κ]{knd:KeyKind prog w κ}{A:Around}{E:Value->Shared->Prop}{s:Shared}{l:Addr}{o:Obj}{items:Array Value}{n:Nat}{ps:List (κ×Value)}{Q:Value->Shared->Prop}(hh:A.handled=none)
 (ho:s.heap.get? l=some o) (hc:o.cls = .type "list") (hd:o.data = .seq items n) (hn:o.dict=none) (hsz:ps.length<=sizeLine)
 (hp:∀(j:Nat) (p:κ×Value),ps[j]? = some p->∃(q:Addr) (key:Value),items[j]? = some (Value.ref q)/\IsTup s.heap q #[key,p.2]/\knd.is p.1 key=true) (he:items[ps.length]? = none)
 (h:∀h' tk,h'.DictOf knd s.heap.objs.size (putAll [] ps)->(∀b o,s.heap.get? b=some o->h'.get? b=some o)->Q (.ref s.heap.objs.size) {s with heap:=h',toks:=tk}):wpAny (model prog w) A (call (.type "dict") [.ref l]) Q E s:=by
 refine callType_codes (Q₁:=λobj s₁=>obj = .ref s.heap.objs.size/\s₁={s with heap:=s.heap.push {cls:=.type "dict",data:=.dict #[]}}) F.kt_called_dict (F.kt_typeCall_dict_1 _) F.entry_dict_init (kt_code_dict_new _ ⟨rfl,rfl⟩) ?_
 rintro obj s₁ ⟨rfl,rfl⟩
 have hnew:(s.heap.push {cls:=.type "dict",data:=.dict #[]}).DictOf knd s.heap.objs.size []:=Heap.DictOf.new s.heap
 have k1:∀b o,s.heap.get? b=some o->(s.heap.push {cls:=.type "dict",data:=.dict #[]}).get? b=some o:=λb o e=>zxF _ e
 have hT:({s with heap:=s.heap.push {cls:=.type "dict",data:=.dict #[]}}:Shared).TypeIs (.ref l) "list":=⟨o,k1 l o ho,hc⟩
 refine⟨hnew.typeIs,F.args_dict_init_2 _ _, ?_⟩
 unfold Builtin.«dict.__init__»
 refine zxD ?_
 unfold Builtin.Dict.selfAndRest
 refine zxD (wpAny_notOrdered_dict hnew.typeIs ?_)
 show wpAny _ _ (pure (s.heap.objs.size,[Value.ref l])) _ _ _
 refine zxE ?_
 show wpAny _ _ (Builtin.Dict.updateFrom "dict.__init__" s.heap.objs.size (.ref l) [] .none) _ _ _
 unfold Builtin.Dict.updateFrom
 refine zxD (wpAny_typeOf hT ?_)
 rw[if_pos (by decide)]
 refine zxD (zkn (k1 l o ho) hc hd hn hh λh2 tk2 k2=>?_)
 rw[if_pos (by decide)]
 refine zxD (wpAny_rule ?_)
 have ho2:=k2 l o (k1 l o ho)
 have hl2:h2.IsList l items:=⟨o,ho2,hc,n,hd⟩
 refine zxD (wpAny_pyIter_list hl2 ?_)
 have k3:∀b o,h2.get? b=some o->(h2.push {cls:=.type "list_iterator",data:=.fields #[.ref l,.int 0 0]}).get? b=some o:=λb o e=>zxF _ e
 have hd2:s.heap.objs.size<h2.objs.size:=by
  obtain⟨o',_,_,ho',_⟩:=hnew
  exact zxG (k2 _ _ ho')
 refine zxE ⟨plainId_quiet Zv _, ?_⟩
 refine zod (A:=A.in1) (N:=s.heap.objs.size) (knd:=knd) (items:=items) hh (zzK _) (Nat.le_of_lt hd2) (zzN hd2) (zxG ho) ps 0 {s with heap:=h2.push {cls:=.type "list_iterator",data:=.fields #[.ref l,.int 0 0]},toks:=tk2} [] ⟨_,zxH _ rfl,rfl,rfl⟩ ⟨o,k3 l o ho2,hc,n,hd⟩ ?_ (by rw[List.length_nil];omega) (λj p hj=>?_) (by rw[zyV];exact he) (λh' tk dd kk=>?_)
 · obtain⟨o',es,ep,ho',r⟩:=hnew
   exact⟨o',es,ep,k3 _ _ (k2 _ _ ho'),r⟩
 · obtain⟨q,key,a1,⟨o',a3,a4⟩,a5⟩:=hp j p hj
   exact⟨q,key,by rw[zyV];exact a1,zxG a3,⟨o',k3 _ _ (k2 _ _ (k1 _ _ a3)),a4⟩,a5⟩
 · exact⟨rfl,h h' tk dd λb o e=>kk b o (zxG e) (k3 _ _ (k2 _ _ (k1 _ _ e)))⟩
def zbz:List D->Option (List (Key×D))
 | []=>some []
 |d::r=>(asT d).bind λl=>(zrn l).bind λp=>(znl p.1).bind λk=>(zbz r).bind λt=>some ((k,p.2)::t)
def zuZ:D->Option R0
 | .dct kvs=>some (.fd kvs)
 | .lst ds=>(zbz ds).bind λkvs=>if(kvs.map (·.1)).Nodup then some (.fd kvs)else none
 |_=>none
def zef:List D->Option R0:=on1 zuZ
theorem zfQ{κ:Type}[DecidableEq κ]:∀(ps acc:List (κ×Value)),((acc++ps).map (·.1)).Nodup->putAll acc ps=acc++ps
 | [],acc,_=>(zyB acc).symm
 |p::r,acc,h=>by
  have hs:stored acc p.1 p.2=acc++[p]:=by
   unfold stored
   rw[if_neg]
   rw[zyJ,zyP]at h
   obtain⟨_,_,n3⟩:=zxC.mp h
   intro z
   obtain⟨q,m,e⟩:=List.any_eq_true.mp z
   exact n3 q.1 (List.mem_map_of_mem m) p.1 (zzC ..) (of_decide_eq_true e)
  show putAll (stored acc p.1 p.2) r=_
  rw[hs,zfQ r (acc++[p]) (by rw[zxA];exact h),zxA];rfl
section
variable{X:Cx}{kd:KD}{O:Addr->Prop}{pins:List (Addr×Obj)}{σ:St}{H:Hp}{s:Shared}
theorem zge(I:Inv X pins σ H s):∀{vs:List V}{us:List Value}{ds:List D}{dk:List (Key×D)},RpL X.K kd O H vs ds->Vals vs us->zbz ds=some dk->
 ∃(kvs:List (Key×V)) (ps:List (Key×Value)),KV kvs ps/\RpM X.K kd O H kvs dk/\ps.length=us.length/\ps.map (·.1)=dk.map (·.1)/\kvs.length=ps.length/\
  ∀(j:Nat) (p:Key×Value),ps[j]? = some p->∃(q:Addr) (key:Value),us[j]? = some (Value.ref q)/\IsTup s.heap q #[key,p.2]/\(wN X.prog X.w).is p.1 key=true
 |_,_,[],_,rl,r,e=>by
  cases rl
  cases r
  cases e
  exact⟨[],[],.nil,.nil,rfl,rfl,rfl,λj p h=>by simp at h⟩
 |_,_,d::ds,dk,rl,r,e=>by
  cases rl with
  |cons rp rl=>
   rename_i v vs
   cases r with
   |cons r0 r=>
    rename_i u us
    obtain⟨l0,e0,e2⟩:=bS_ (show(asT d).bind _=_ from e)
    obtain⟨⟨k,dv⟩,e1,e3⟩:=bS_ e2
    cases zmL e0
    cases zls e1
    · obtain⟨kk,h1,e⟩:=bS_ e3
      obtain⟨t,h2,e⟩:=bS_ e
      cases e
      obtain⟨kvs,ps,a1,a2,a3,a4,a5,a6⟩:=zge I (ds:=ds) (dk:=t) rl r h2
      cases rp.vw with
      |tup rp' hq rl'=>
       rename_i q ws
       cases rl' with
       |cons k1 rl'=>
        cases rl' with
        |cons k2 rl'=>
         cases rl'
         rename_i kv' vv'
         have ek:=znh k1.vw h1
         subst ek
         obtain⟨its,rv,ht,_⟩:=I.tuple hq
         obtain⟨u1,u2,rfl,r1,r2⟩:=vals2 rv
         cases r0
         refine⟨(kk,vv')::kvs,(kk,u2)::ps,.cons ⟨rfl,r2⟩ a1,.cons k2 a2,congrArg (· + 1) a3,congrArg (kk :: ·) a4,congrArg (· + 1) a5,λj p h=>?_⟩
         cases j with
         |zero=>
          simp at h
          subst h
          exact⟨q,u1,rfl,ht,zli r1⟩
         |succ j=>simpa using a6 j p (by simpa using h)
theorem zff(hc:X.calm=true)(hk:KdOk X kd):CallD X kd (.type "dict") zef:=by
 intro pins s σ H xs us Q I r h
 obtain⟨O,ds,z,ht,vl,he,q⟩:=h
 obtain⟨x,d,rfl,vx,he⟩:=zdq vl he
 cases vx with
 |dct hr rm=>exact zmf hk pins s σ H _ us Q I r ⟨O,[.dct _],z,ht,.cons (.dct hr rm) .nil,he,q⟩
 |lst hr rl=>
  obtain⟨dk,h1,he⟩:=bS_ (show(zbz _).bind _=_ from he)
  obtain⟨hn,he⟩:=zM he
  cases he
  obtain⟨u,rfl,ru⟩:=vals1 r
  cases ru
  obtain⟨its,rv,⟨o,n,ho,hcl,hdi,hda⟩,hz⟩:=I.list hr.sq
  obtain⟨kvs,ps,a1,a2,a3,a4,a5,a6⟩:=zge I rl rv h1
  have hlen:=rv.length
  refine zfN (knd:=wN X.prog X.w) (ps:=ps) (I.ok.hd hc) ho hcl hda hdi (by omega) (λj p hj=>?_) (by rw[a3];simp) λh' tk dd kp=>?_
  · obtain⟨q',key,b1,b2,b3⟩:=a6 j p hj
    exact⟨q',key,by simpa using b1,b2,b3⟩
  · rw[zfQ ps [] (by rw[List.nil_append,a4];exact hn),List.nil_append]at dd
    exact⟨.ref _,_,I.laid (a:=s.heap.objs.size) (o:=.dK kvs) (t':=tk) kp (zzK _) (znF (by omega) (beq_eq_false_iff_ne.mpr (Ne.symm (zzN I.big))) a1 dd),rfl,znk q a2 _ (I.hok.fresh (zzK _))⟩
 |_=>cases he
end
theorem l1_{α:Type}{P:List α->Prop}(h:∀a,P [a]):∀us:List α,us.length=1->P us
 | [a],_=>h a
theorem l2_{α:Type}{P:List α->Prop}(h:∀a b,P [a,b]):∀us:List α,us.length=2->P us
 | [a,b],_=>h a b
theorem l3_{α:Type}{P:List α->Prop}(h:∀a b c,P [a,b,c]):∀us:List α,us.length=3->P us
 | [a,b,c],_=>h a b c
theorem l4_{α:Type}{P:List α->Prop}(h:∀a b c d,P [a,b,c,d]):∀us:List α,us.length=4->P us
 | [a,b,c,d],_=>h a b c d
section
variable{X:Cx}{kd:KD}
theorem aI{c:Int}{j pos}:AE X kd (.Constant (.int c) j pos) (fC (.int c)):=zhB zcZ λ_ _=>.int _
theorem aS{c:Str}{j pos}:AE X kd (.Constant (.str c) j pos) (fC (.str c)):=zhB zrk λ_ _=>.str _
theorem aZ{j pos}:AE X kd (.Constant .none j pos) (fC .non):=zhB zsy λ_ _=>.non
theorem aB{c:Bool}{j pos}:AE X kd (.Constant (.bool c) j pos) (fC (.bl c)):=zhB ztn λ_ _=>.bl _
theorem ax{P:Program}{w:World}{K:zC}{a b:Expr}{fa fb:EF}{pos:Pos}(hkd:KD1 P w K kd)(ha:AE X kd a fa)(hb:AE X kd b fb)(h1:X.prog=P:=by rfl)(h2:X.w=w:=by rfl)(h3:X.K=K:=by rfl)(hm:Z1 b:=by exact λ_ _=>rfl):AE X kd (.Subscript a b pos) (f2 fa fb ixP):=zuf (zuV (hkd _ h1 h2 h3)) ha hb hm
theorem sv(z:Bool)(i:Nat){x:Str}{pos pos':Pos}{e:Expr}{fa:EF}(hN:X.N.Nodup)(he:AE X kd e fa)(hi:X.N[i]? = some x:=by rfl)(hx:Loc X.env.scope x:=by first|exact Or.inl rfl|exact Or.inr rfl)(hs:swapsWith e (some (.Name x pos')) pos.line X.env=pure false:=by rfl)(hf:X.fn x=true\/X.env.scope.names.lookup x=some .local:=by first|exact Or.inl rfl|exact Or.inr rfl):
 ASt X kd (.Assign [.Name x pos'] e pos) (zH z i fa):=zsJ hN hi hx he hs hf
theorem an(i:Nat){x:Str}{pos:Pos}(hN:X.N.Nodup)(hi:X.N[i]? = some x:=by rfl)(hx:Loc X.env.scope x:=by first|exact Or.inl rfl|exact Or.inr rfl)(hf:X.fn x=true\/X.env.scope.names.lookup x=some .local:=by first|exact Or.inl rfl|exact Or.inr rfl):AG X kd (.Name x pos) [i] (gN i):=zpn hN hi hx hf
theorem av(i:Nat){x:Str}{pos:Pos}(hN:X.N[i]? = some x:=by rfl)(hv:Vis X.env.scope x:=by first|exact Or.inl rfl|exact Or.inr (Or.inl rfl)|exact Or.inr (Or.inr rfl))(hd:(x==("__debug__":Str))=false:=by decide)
 (hcd:(x==("__classdict__":Str))=false:=by decide):AE X kd (.Name x pos) (fV i):=zrP (zmX hN hv hd hcd)
end
def lkp{α:Type}:List Str->List α->Str->Option α
 | [],_,_=>none
 |_,[],_=>none
 |n::ns,a::as,f=>if f=n then some a else lkp ns as f
theorem zbw(f:Str):∀(ns:List Str) (vs:List V),(ns.zip vs).lookup f=lkp ns vs f
 | [],_=>rfl
 |_::_,[]=>rfl
 |n::ns,v::vs=>by
  show List.lookup f ((n,v)::ns.zip vs)=if f=n then some v else lkp ns vs f
  rw[List.lookup_cons]
  by_cases h:f=n
  · rw[if_pos h,beq_iff_eq.mpr h]
  · rw[if_neg h,beq_eq_false_iff_ne.mpr h]
    exact zbw f ns vs
theorem znO{K:zC}{kd:KD}{O:Addr->Prop}{H:Hp}{f:Str}{d:D}:∀{ns:List Str}{vs:List V}{ds:List D},RpL K kd O H vs ds->lkp ns ds f=some d->∃v,lkp ns vs f=some v/\Rp K kd O H v d
 | [],_,_,_,e=>by cases e
 |_::_,_,_,.nil,e=>by cases e
 |n::ns,_,_,.cons (v:=v) (d:=d') (vs:=vs) (ds:=ds) h r,e=>by
  have e:(if f=n then some d' else lkp ns ds f)=some d:=e
  show ∃w,(if f=n then some v else lkp ns vs f)=some w/\_
  by_cases q:f=n
  · rw[if_pos q]at e ⊢;cases e;exact⟨v,rfl,h⟩
  · rw[if_neg q]at e ⊢;exact znO r e
theorem ziC{α:Type}{f:Str}:∀{ns:List Str}{vs:List α},f ∉ ns->lkp ns vs f=none
 | [],_,_=>rfl
 |_::_,[],_=>rfl
 |n::ns,v::vs,h=>by
  show(if f=n then some v else lkp ns vs f)=none
  rw[if_neg λe=>h (by rw[e];exact zzC)]
  exact ziC λm=>h (zzA _ m)
theorem zji{f:Str}{v:V}:∀{ns:List Str}{vs:List V},ns.length=vs.length->f ∉ ns->VJ f v (ns.zip vs)=(ns++[f]).zip (vs++[v])
 | [],[],_,_=>rfl
 | [],_::_,h,_=>by cases h
 |_::_,[],h,_=>by cases h
 |n::ns,w::vs,h,hf=>by
  show(if n=f then(n,v)::ns.zip vs else(n,w)::VJ f v (ns.zip vs))=(n,w)::(ns++[f]).zip (vs++[v])
  rw[if_neg λe=>hf (by rw[e];exact zzC),zji (Nat.succ.inj h) λm=>hf (zzA _ m)]
def Wo(cs:List Str)(f:Str):D->Option R0
 | .ob c ns ds=>if c ∈ cs then(lkp ns ds f).bind λd=>some (.im d)else none
 |_=>none
def CF(K:zC)(kd:KD)(cs:List Str)(f:Str):Prop:=∀c ∈ cs,Cls K (kd.c c)/\Zo K (kd.c c) f
section
variable{X:Cx}{kd:KD}{a e o:Expr}{es:List Expr}{fa fo fe:EF}{fr:AF}{pos pos' apos:Pos}{m f:Str}{cs:List Str}
theorem Wh(hc:CF X.K kd cs f)(ha:AE X kd a fa)(hb:attributeBase a f X.env (eval a X.env)=eval a X.env):AE X kd (.Attribute a f pos) (f1 fa (Wo cs f)):=by
 with_unfolding_all exact(yJ (zsb ha hb) λσ H Q h=>by
  obtain⟨F,B,ad,as,r,as',R,e,q⟩:=h
  obtain⟨⟨p,as1⟩,h1,e⟩:=bS_ (show(fa as).bind _=_ from e)
  obtain⟨⟨x,lv⟩,h2,e⟩:=bS_ e
  obtain⟨z,h3,e⟩:=bS_ e
  obtain⟨y,h4,e⟩:=bS_ e
  cases e
  refine vZ R h1 λv ad1 H1 R1 rv1 g1=>?_
  have vw:=wC.vw R1 rv1 h2
  have rq:=ZZ R1 h4 λw T' H' R' rv' g'=>q w T' ad1 H' R' rv' (g1.trans g')
  cases vw with
  |ob hH hl rl=>
   obtain⟨hm,h3⟩:=ite_some' h3
   obtain⟨d,hd,h3⟩:=bS_ h3
   cases h3
   obtain⟨w,hw,rw'⟩:=znO rl hd
   exact⟨_,_,_,_,w,rfl,hH,(hc _ hm).1,(hc _ hm).2,(zbw _ _ _).trans hw,rq w H1 (λ_ _ z=>z) rw'⟩
  |_=>cases h3)
def zsi(X:Cx)(m:Str)(ta:TE)(t:TA):TE:=λσ H Q=>ta σ H λx H1=>∃a C dx fs k f fd ps sp,x = .ref a/\H1 a=some (.ins C dx fs)/\Cls X.K C/\Meth X.K C m f/\fs.lookup m=none/\
 FnOk X.prog X.w X.K X.mg X.base CX0 k f fd ps sp/\Room k X.A/\Binds X.K fd ps []/\t σ H1 λvs H2=>sp (x::vs) H2 Q λ_ _ _=>False
theorem zsL{pl:Sem Bool}{ta:TE}{t:TA}(he:PE X o ta)(hx:Xa CX0 X λ_ _ _=>False)(ha:PA X (e::es) t)
 (hst:starEach (e::es) X.env=(false,eval e X.env)::starEach es X.env) (hpl:(backTo pos (starEach es X.env)).any (·.1)=false)
 (ht:eval (.Call (.Attribute o m apos) (e::es) [] pos) X.env=(do
  let ov <-eval o X.env
  standAt apos.atName
  let(f,first) <-holding [ov] (getMethod ov m pl)
  callWith pos f first (backTo pos (starEach (e::es) X.env)) (backToKw pos (keywordEach [] X.env)))):
 PE X (.Call (.Attribute o m apos) (e::es) [] pos) (zsi X m ta t):=by
 intro pins s σ H Q I h
 refine PySem.W.methodCall_KW (pl:=pl) (thn (he pins s σ H _ I h) λu s1 ⟨x,H1,I1,rx,a,C,dx,fs,k,f,fd,ps,sp,ex,ea,c,hm,l,F,hr,hb,q⟩=>?_) ht
 subst ex
 obtain rfl:u=Value.ref a:=rx
 refine zeY I1 ea c hm l ?_
 refine PySem.W.callWith_K (first:=[.ref a]) (h₀:=X.base) I.ok.mod.kin hm.kp (thn (ha pos pins s1 σ H1 _ I1 q) λus s2 ⟨vs,H2,I2,r,q2⟩=>⟨I2.kIn, ?_⟩) hst hpl
 refine zkg (us:=.ref a::us) (vs:=.ref a::vs) F hr hb .nil hx I2 (.cons rfl r) ?_
 rw[zyB]
 exact q2
theorem zqi{pl:Sem Bool}{ta:TE}(he:PE X o ta)(hx:Xa CX0 X λ_ _ _=>False)
 (ht:eval (.Call (.Attribute o m apos) [] [] pos) X.env=(do
  let ov <-eval o X.env
  standAt apos.atName
  let(f,first) <-holding [ov] (getMethod ov m pl)
  callWith pos f first (backTo pos (starEach [] X.env)) (backToKw pos (keywordEach [] X.env)))):
 PE X (.Call (.Attribute o m apos) [] [] pos) (zsi X m ta zqg):=by
 intro pins s σ H Q I h
 refine PySem.W.methodCall_KW (pl:=pl) (thn (he pins s σ H _ I h) λu s1 ⟨x,H1,I1,rx,a,C,dx,fs,k,f,fd,ps,sp,ex,ea,c,hm,l,F,hr,hb,q⟩=>?_) ht
 subst ex
 obtain rfl:u=Value.ref a:=rx
 refine zeY I1 ea c hm l ?_
 exact PySem.W.callWith_K0 (first:=[.ref a]) I1.kIn hm.kp (zkg (us:=[.ref a]) (vs:=[.ref a]) F hr hb .nil hx I1 (.cons rfl .nil) q)
end
def lkT:List (Str×Fn)->Str->Option Fn
 | [],_=>none
 |p::r,c=>if c=p.1 then some p.2 else lkT r c
def MT(P:Program)(w:World)(K:zC)(mg:Str->Option Value)(base:Heap)(kd:KD)(m:Str)(k:Nat)(tbl:List (Str×Fn)):Prop:=
 ∀c g,lkT tbl c=some g->∃k' f fd ps,k'<=k/\Cls K (kd.c c)/\Meth K (kd.c c) m f/\FnOk P w K mg base CX0 k' f fd ps (spD K kd g)/\Binds K fd ps []
section
variable{P:Program}{w:World}{K:zC}{mg:Str->Option Value}{base:Heap}{kd:KD}{m:Str}{k:Nat}{tbl:List (Str×Fn)}
theorem W0:MT P w K mg base kd m k []:=λc g h=>by cases h
theorem zqC{c:Str}{g:Fn}{k':Nat}{f:Addr}{fd:FuncData}{ps:List Str}(hk:k'<=k)(cl:Cls K (kd.c c))(me:Meth K (kd.c c) m f)(F:FnOk P w K mg base CX0 k' f fd ps (spD K kd g))(b:Binds K fd ps [])(h:MT P w K mg base kd m k tbl):MT P w K mg base kd m k ((c,g)::tbl):=λc' g' e=>by
 have e:(if c'=c then some g else lkT tbl c')=some g':=e
 by_cases q:c'=c
 · rw[if_pos q]at e;cases e;subst q;exact⟨k',f,fd,ps,hk,cl,me,F,b⟩
 · rw[if_neg q]at e;exact h c' g' e
end
def obC(m:Str):D->Option Str
 | .ob c ns _=>if m ∈ ns then none else some c
 |_=>none
def vC(tbl:List (Str×Fn))(m:Str)(fo:EF)(fr:AF):EF:=λas=>(fo as).bind λp=>(p.1.frz.view p.2).bind λw=>(obC m w.1).bind λc=>(lkT tbl c).bind λg=>(fr p.2).bind λq=>(Yz q.2 (p.1.frz::q.1)).bind λx=>(g x).bind λo=>some (.ow o,q.2)
section
variable{X:Cx}{kd:KD}{a e o:Expr}{es:List Expr}{fa fo fe:EF}{fr:AF}{pos pos' apos:Pos}{m f:Str}{cs:List Str}{tbl:List (Str×Fn)}{k:Nat}
theorem zqS(hT:MT X.prog X.w X.K X.mg X.base kd m k tbl)(hr:Room k X.A){σ:St}{H:Hp}{Q:VK}{t:TA}(ht:∀σ H Q,alA X.K kd fr σ H Q->t σ H Q)(h:al X.K kd (vC tbl m fo fr) σ H Q):zsi X m (al X.K kd fo) t σ H Q:=by
 obtain⟨F,B,ad,as,r,as',R,e,q⟩:=h
 obtain⟨⟨p,as1⟩,h1,e⟩:=bS_ (show(fo as).bind _=_ from e)
 obtain⟨⟨w,lv⟩,h2,e⟩:=bS_ e
 obtain⟨c,h3,e⟩:=bS_ e
 obtain⟨g,h4,e⟩:=bS_ e
 obtain⟨⟨rs,as2⟩,h5,e⟩:=bS_ e
 obtain⟨ds,h6,e⟩:=bS_ e
 obtain⟨o,h7,e⟩:=bS_ e
 cases e
 refine vZ R h1 λv ad1 H1 R1 rv1 g1=>?_
 have vw:=wC.vw R1 rv1 h2
 cases vw with
 | @ob a' dx c' ns vs0 ds0 hH hl rl=>
  have h3:(if m ∈ ns then none else some c')=some c:=h3
  by_cases hn:m ∈ ns
  · rw[if_pos hn]at h3;cases h3
  · rw[if_neg hn]at h3
    cases h3
    obtain⟨k',f,fd,ps,hk',cl,me,F1,b⟩:=hT _ _ h4
    refine⟨_,_,_,_,k',f,fd,ps,_,rfl,hH,cl,me,(zbw _ _ _).trans (ziC hn),F1,hr.mono hk',b,ht _ _ _ ⟨F,B,ad1,as1,rs,as2,R1,h5,λvs ad2 H2 R2 rv2 g2=>?_⟩⟩
    exact⟨_,ds,o,R2.trk true,zij R2 (.cons (rv1.grow g2) rv2) h6,h7,zkx R2 λw T' H' R' rv' g'=>q w T' ad2 H' R' rv' ((g1.trans g2).trans g')⟩
 |_=>cases h3
theorem zan{pl:Sem Bool}(hT:MT X.prog X.w X.K X.mg X.base kd m k tbl)(hr:Room k X.A)(hx:Xa CX0 X λ_ _ _=>False)(ho:AE X kd o fo)(ha:AA X kd (e::es) fr)
 (hst:starEach (e::es) X.env=(false,eval e X.env)::starEach es X.env) (hpl:(backTo pos (starEach es X.env)).any (·.1)=false)
 (ht:eval (.Call (.Attribute o m apos) (e::es) [] pos) X.env=(do
  let ov <-eval o X.env
  standAt apos.atName
  let(f,first) <-holding [ov] (getMethod ov m pl)
  callWith pos f first (backTo pos (starEach (e::es) X.env)) (backToKw pos (keywordEach [] X.env)))):
 AE X kd (.Call (.Attribute o m apos) (e::es) [] pos) (vC tbl m fo fr):=by
 with_unfolding_all exact(yJ (zsL ho hx ha hst hpl ht) λσ H Q h=>zqS hT hr (λ_ _ _ z=>z) h)
theorem ziv{pl:Sem Bool}(hT:MT X.prog X.w X.K X.mg X.base kd m k tbl)(hr:Room k X.A)(hx:Xa CX0 X λ_ _ _=>False)(ho:AE X kd o fo)
 (ht:eval (.Call (.Attribute o m apos) [] [] pos) X.env=(do
  let ov <-eval o X.env
  standAt apos.atName
  let(f,first) <-holding [ov] (getMethod ov m pl)
  callWith pos f first (backTo pos (starEach [] X.env)) (backToKw pos (keywordEach [] X.env)))):
 AE X kd (.Call (.Attribute o m apos) [] [] pos) (vC tbl m fo aN):=by
 with_unfolding_all exact(yJ (zqi ho hx ht) λσ H Q h=>zqS hT hr (λσ H Q z=>by
  obtain⟨F,B,ad,as,rs,as',R,e,q⟩:=z
  cases e
  exact q [] ad H R .nil Grow.refl) h)
end
abbrev IFn:=AS->Option AS
def bf(K:zC)(kd:KD)(f:IFn):TS:=λD σ H=>∃F B ad as as',Rel K kd F B [] ad as σ H/\f as=some as'/\∀ad' H',Rel K kd F B [] ad' as' σ H'->Grow (Gw [] ad) H (Gw [] ad') H'->D.nx σ H'
@[irreducible] def AFs(X:Cx)(kd:KD)(st:List Stmt)(f:IFn):Prop:=PSs X st (bf X.K kd f)
@[irreducible] def AFt(X:Cx)(kd:KD)(st:Stmt)(f:IFn):Prop:=PS X st (bf X.K kd f)
def zhZ(i:Nat)(cs:List Str)(f:Str)(fe:EF):IFn:=λas=>(fe as).bind λp=>(zfL p.2 p.1).bind λx=>match x.2[i]? with
 |some (some (.nd (.ob c ns) os))=>if c ∈ cs/\f ∉ ns/\ns.length<1000 then some (x.2.set i (some (.nd (.ob c (ns++[f])) (os++[.lf x.1.1 x.1.2]))))else none
 |_=>none
def zoY(fe:EF):IFn:=λas=>(fe as).bind λp=>some p.2
def zcy(f g:IFn):IFn:=λas=>(f as).bind g
section
variable{X:Cx}{kd:KD}{e o:Expr}{st:Stmt}{rest:List Stmt}{fe:EF}{f g:IFn}{pos pos':Pos}{cs:List Str}{n:Str}
theorem zpO(he:AE X kd e fe)(hs:swapsWith e none pos.line X.env=pure false):AFt X kd (.Expr e pos) (zoY fe):=by
 with_unfolding_all exact(Yr (Wz he hs) λD σ H h=>by
  obtain⟨F,B,ad,as,o,R,e,q⟩:=h
  obtain⟨⟨p,as1⟩,h1,e⟩:=bS_ (show(fe as).bind _=_ from e)
  cases e
  exact⟨F,B,ad,as,p,as1,R,h1,λv T' ad' H' R' rv g=>q ad' H' R'.drop (g.trans (Grow.less Gw.drop))⟩)
theorem zaX{j:Nat}(hc:CF X.K kd cs n)(ho:PE X o (X8 j))(he:AE X kd e fe)(hs:swapsWith e (some (.Attribute o n pos')) pos.line X.env=pure false):AFt X kd (.Assign [.Attribute o n pos'] e pos) (zhZ j cs n fe):=by
 with_unfolding_all exact(Yr (zsl ho he hs) λD σ H h=>by
  obtain⟨F,B,ad,as,o,R,e,q⟩:=h
  obtain⟨⟨p,as1⟩,h1,e⟩:=bS_ (show(fe as).bind _=_ from e)
  obtain⟨⟨⟨st,d⟩,as2⟩,h2,e⟩:=bS_ e
  cases k1:as2[j]? with
  |none=>rw[k1]at e;cases e
  |some a0=>
   rw[k1]at e
   match a0,e,k1 with
   |some (.nd (.ob c ns) os),e,k1=>
    obtain⟨⟨hm,hf,hz⟩,e⟩:=zM e
    cases e
    refine⟨F,B,ad,as,p,as1,R,h1,λv T1 ad1 H1 R1 rv1 g1=>?_⟩
    obtain⟨ad2,R2,rp,le⟩:=zaU R1 rv1 h2
    obtain⟨v0,hs0,ro0⟩:=R2.sl j _ k1
    refine⟨v0,hs0, ?_⟩
    generalize hfp:ad2 j=fp1 at ro0
    cases ro0 with
    |ob hC hH hl rl=>
     rename_i l dx C vs fp
     have ec:C=kd.c c:=hC.cl_eq
     subst ec
     have hnd:=R2.nd j
     rw[hfp]at hnd
     have rl':vB X.K kd F B (Gw [] ad2) H1 (vs++[v]) (os++[.lf st d]) fp:=by
      have:=rl.append (RoL.one (Ro.lf (N:=Nf F B (Gw [] ad2)) (H:=H1) rp))
      rw[zyB]at this
      exact this
     refine⟨l,_,dx,_,rfl,hH,(hc _ hm).1,(hc _ hm).2,by rw[List.length_zip,hl,Nat.min_self,<-hl];exact hz, ?_⟩
     rw[zji hl hf]
     obtain⟨R4,g4⟩:=R2.mut (fo:=[]) (n:=.nd (.ob c (ns++[n])) (os++[.lf st d])) (u:=.ins (kd.c c) dx ((ns++[n]).zip (vs++[v]))) (zzD.mp k1).1 hfp hs0 (fp':=fp) (λa m=>by
      rw[zyB]at m ⊢;exact m) (by rw[zyB];exact(zzT.mp hnd).2) (by rw[hH];simp) λH' G' hl' gr kp=>.ob (.cl c) hl' (by rw[zzG,zzG,hl];rfl) (vB.grow gr kp rl')
     exact q _ _ R4 ((g1.trans (Grow.less le)).trans g4))
theorem zqn(h:AFt X kd st f):AFs X kd [st] f:=by
 with_unfolding_all exact(zcf h)
theorem Wx(h1:AFt X kd st f)(h2:AFs X kd rest g):AFs X kd (st::rest) (zcy f g):=by
 with_unfolding_all exact(zci (YT h1 h2) λD σ H h=>by
  obtain⟨F,B,ad,as,o,R,e,q⟩:=h
  obtain⟨o1,e1,e⟩:=bS_ (show(f as).bind _=_ from e)
  exact⟨F,B,ad,as,o1,R,e1,λad' H' R' g'=>⟨F,B,ad',o1,o,R',e,λad2 H2 R2 g2=>q ad2 H2 R2 (g'.trans g2)⟩⟩)
end
def ob0(c:Str):O:=.nd (.ob c []) []
def lfD(x:Bool×D):O:=.lf x.1 x.2
def slot0:AS->Option O
 |some o::_=>if o.str=true then some o else none
 |_=>none
def fnI(c:Str)(n m:Nat)(f:IFn)(ds:List (Bool×D)):Option O:=if ds.length+1=m then(f (zcI n (ob0 c::ds.map lfD))).bind slot0 else none
def spI(K:zC)(kd:KD)(c:Str)(g:Fn):Sp:=λvs H Q _=>∃F x dx vs' ds o,vs = .ref x::vs'/\H x=some (.ins (kd.c c) dx [])/\(∀a,F a->H a≠none)/\¬F x/\RpI K kd F (λ_=>False) (· = x) H vs' ds/\g ds=some o/\
 ∀T H',T.Nodup->(∀a ∈ T,a=x\/H a=none)->(∀b u,H b=some u->b≠x->H' b=some u)->(∀a ∈ T,H' a≠none)->Ro (λ_ v d=>Rp K kd (Un2 F (· ∈ T)) H' v d) (λa=>¬Un2 F (· ∈ T) a) H' (.ref x) o T->Q .non H'
theorem zrq{K:zC}{kd:KD}{F B G:Addr->Prop}{H:Hp}{vs:List V}{ds:List (Bool×D)}(h:RpI K kd F B G H vs ds):vB K kd F B G H vs (ds.map lfD) []:=by
 induction h with
 |nil=>exact .nil
 |cons a _ ih=>exact RoL.cons (Ro.lf a) ih
theorem zqs(ds:List (Bool×D)):(ds.map lfD).all O.isLf=true:=by
 induction ds with
 |nil=>rfl
 |cons x r ih=>exact ih
section
variable{P:Program}{w:World}{K:zC}{mg:Str->Option Value}{base:Heap}
theorem ztc{kd:KD}{x qual:Str}{st:Stmt}{f:Addr}{fd:FuncData}{N ps:List Str}{k:Nat}{c:Str}{b:IFn}(Fn:Fun K x qual st f fd)(S:FnScope N ps (zx st))(hps:ps.length<=N.length)
 (hb:∀(cdv:Value) (A:Around) (outer:List Env) (s:Shared) (H:Hp) (E:XK),Room k (A.deeper (envOfC qual (zx st) s.heap.objs.size f cdv))->AFs (zix CX0 P w K mg base N qual (zx st) f cdv A outer s H E).nox kd (zaZ st) b):
 FnOk P w K mg base CX0 (k+1) f fd ps (spI K kd c (fnI c N.length ps.length b)):=by
 with_unfolding_all (
 refine Fn.ok S (λvs H Q E h=>?_) (λcdv A outer s H vs Q E hr h=>⟨_,hb cdv A outer s H E hr, ?_⟩)
 · obtain⟨F,x,dx,vs',ds,o,rfl,_,_,_,rp,e,_⟩:=h
   obtain⟨hl,_⟩:=ite_some' (show(if ds.length+1=ps.length then _ else none)=_ from e)
   rw[zzQ,rp.length,hl]
 · obtain⟨F,x,dx,vs',ds,o,rfl,hx,ht,hF,rp,e,q⟩:=h
   obtain⟨hl,e⟩:=ite_some' (show(if ds.length+1=ps.length then _ else none)=_ from e)
   obtain⟨as',e1,e2⟩:=bS_ e
   have ro:vB K kd F (λ_=>False) (· ∈ [x]) H (V.ref x::vs') (ob0 c::ds.map lfD) [x]:=by
    have e0:(λa=>a ∈ [x])=(λa=>a=x):=by funext a;exact propext zzO
    rw[e0]
    exact RoL.cons (fq:=[]) (Ro.ob (C:=kd.c c) (vs:=[]) (.cl c) hx rfl .nil) (zrq rp)
   have R0:=zki (N:=N) ht (T:=[x]) (by simp) (λa m=>by rw[zzO.mp m,hx];exact⟨by simp,hF⟩) (zqs ds) (by rw[zzQ,zD];omega) ro
   have gw:∀a,Gw [] (λi=>if i=0 then[x]else[]) a->a=x:=λa z=>z.elim (λy=>nomatch y) λ⟨i,y⟩=>by
    by_cases e:i=0
    · subst e;simpa using y
    · simp[e]at y
   refine⟨F,λ_=>False,_,_,as',R0,e1,λad' H' R' g'=>?_⟩
   match as',e2,R' with
   |some o'::r,e2,R'=>
    obtain⟨hs,e2⟩:=zM (show(if o'.str=true then some o' else none)=some o from e2)
    subst e2
    obtain⟨v,hv,ro'⟩:=R'.sl 0 (some o') rfl
    have hv0:(L2.start N (V.ref x::vs'))[0]? = some (some (V.ref x)):=rfl
    rw[hv0]at hv
    cases hv
    have rt:=zhq R' (R'.nd 0) (λa m=>.inr ⟨0,m⟩) ro' hs
    exact q (ad' 0) H' rt.nd (λa m=>(g'.own a (.inr ⟨0,m⟩)).imp (gw a) id) (λb u h hb=>g'.keep b u h λz=>hb (gw b z)) rt.tr rt.ro)
end
section
variable{X:Cx}{kd:KD}{e:Expr}{es:List Expr}{fr:AF}{pos p:Pos}{g:Fn}
theorem zrx{c:Str}{σ:St}{H:Hp}{Q:VK}{E:XK}(h:al X.K kd (zE fr g) σ H Q):zqJ (kd.c c) (spI X.K kd c g) [] E (alA X.K kd fr) σ H Q:=by
 obtain⟨F,B,ad,as,r,as',R,e,q⟩:=h
 obtain⟨⟨p,as1⟩,h1,e⟩:=bS_ (show(fr as).bind _=_ from e)
 obtain⟨ds,h2,e⟩:=bS_ e
 obtain⟨o,h3,e⟩:=bS_ e
 cases e
 refine⟨F,B,ad,as,p,_,R,h1,λvs ad1 H1 R1 rv1 g1 x dx hx hdx hne=>?_⟩
 rw[zyB]
 have k:∀b u,H1 b=some u->upd (upd H1 dx (.own x)) x (.ins (kd.c c) dx []) b=some u:=λb u h=>by rw[zW (yG h hx),zW (yG h hdx)];exact h
 have kn:∀b,upd (upd H1 dx (.own x)) x (.ins (kd.c c) dx []) b=none->H1 b=none:=λb h=>by
  cases e:H1 b with
  |none=>rfl
  |some u=>rw[k b u e]at h;cases h
 refine⟨Lv F B (Gw [] ad1) true,x,dx,vs,ds,o,rfl,yf,λa z y=>R1.trk true a z (kn a y),λz=>R1.trk true x z hx, ?_,h3,λT H' hn hl kp ht ro=>⟨rfl, ?_⟩⟩
 · have ra:=zij R1 rv1 h2
   clear e h3 h2 rv1
   induction ra with
   |nil=>exact .nil
   |cons h _ ih=>
    refine .cons ?_ ih
    exact Rp.grow (W:=λ_=>False) (W':=(· = x)) ⟨λb u h _=>k b u h,λb e=>.inr (by rw[e];exact hx)⟩ (h.less λa z=>z.elim (λy=>y.elim id λy=>y.elim) λy=>y.elim)
 · exact zkx R1 (λw T' H' R' rv' g'=>q w T' ad1 H' R' rv' (g1.trans g')) (.ref x) T H' hn (λa m=>(hl a m).elim (λe=>by rw[e];exact hx) (kn a)) (λb u h=>kp b u (k b u h) (yG h hx)) ht ro
theorem zpo{c x:Str}{k:Nat}{f C:Addr}{fdt:FuncData}{ps:List Str}(hC:kd.c c=C)(M:Mk X.K C f)(F:FnOk X.prog X.w X.K X.mg X.base CX0 k f fdt ps (spI X.K kd c g))(hr:Room (k+1) X.A)(hg:Gl X x)(hm:X.mg x=some (.ref C))(hb:Binds X.K fdt ps [])(hx:Xa CX0 X λ_ _ _=>False)
 (ha:AA X kd (e::es) fr) (hdb:(x==("__debug__":Str))=false) (he:starEach (e::es) X.env=(false,eval e X.env)::starEach es X.env) (hpl:(backTo pos (starEach es X.env)).any (·.1)=false):
 AE X kd (.Call (.Name x p) (e::es) [] pos) (zE fr g):=by
 subst hC
 with_unfolding_all exact(yJ (zqv M F hr hg hm hb .nil hx ha hdb he hpl) λσ H Q h=>zrx h)
end
def zpM(mg:Str->Option Value):Str->Addr:=λx=>match mg x with
 |some (.ref a)=>a
 |_=>0
theorem zpN{mg:Str->Option Value}{x:Str}{a:Addr}(h:mg x=some (.ref a)):zpM mg x=a:=by
 unfold zpM;rw[h]
structure CI(K:zC)(kd:KD)(mg:Str->Option Value)(c:Str)(C:Addr):Prop where
 eq:kd.c c=C
 cl:Cls K C
 mks:PySem.W.makesIn K C=true
 kp:PySem.W.keepIn K (.ref C)=true
 mg:mg c=some (.ref C)
section
variable{P:Program}{w:World}{K:zC}{mg:Str->Option Value}{base:Heap}{kd:KD}{m f:Str}{k:Nat}{tbl:List (Str×Fn)}{cs:List Str}{c:Str}{C:Addr}
theorem W9{g:Fn}{k':Nat}{f:Addr}{fd:FuncData}{ps:List Str}(ci:CI K kd mg c C)(me:Meth K C m f)(F:FnOk P w K mg base CX0 k' f fd ps (spD K kd g))(hk:k'<=k)(b:Binds K fd ps [])(h:MT P w K mg base kd m k tbl):MT P w K mg base kd m k ((c,g)::tbl):=by
 have e:=ci.eq
 subst e
 exact zqC hk ci.cl me F b h
theorem zcC:CF K kd [] f:=λc h=>nomatch h
theorem zdk(ci:CI K kd mg c C)(n:Zo K C f)(h:CF K kd cs f):CF K kd (c::cs) f:=λc' hm=>by
 have e:=ci.eq
 subst e
 rcases zS.mp hm with rfl|hm
 · exact⟨ci.cl,n⟩
 · exact h c' hm
theorem CI.mk'{f:Addr}(ci:CI K kd mg c C)(me:Meth K C "__init__" f):Mk K C f:=⟨ci.mks,me.at_,me.fn,ci.kp⟩
end
theorem szs{n:Nat}(h:n<=1000000):n<=sizeLine:=zzL h (by decide)
section
variable{as:AS}{f fo a b:EF}{fr:AF}{s t:Bool}{x y z d:D}{c m:Str}{ns cs:List Str}{ds:List D}{tbl:List (Str×Fn)}{g:Fn}{o:O}
theorem zpu{n:Str}(h:WD fo as s (.ob c ns ds))(hc:c ∈ cs)(hl:lkp ns ds n=some d):WD (f1 fo (Wo cs n)) as (zL d||s) d:=by
 unfold WD f1 at *
 rw[h]
 show(if c ∈ cs then(lkp ns ds n).bind λd=>some (R0.im d)else none:Option R0).bind _=_
 rw[if_pos hc,hl]
 show(if(zL d||(some s).isSome)=true then _ else _:Option RV).bind _=_
 rw[if_pos (by simp)];rfl
theorem zeQ{rs:List (Bool×D)}(ho:WD fo as s (.ob c ns ds))(hm:m ∉ ns)(ht:lkT tbl c=some g)(hr:WA fr as rs)(hg:g ((s,.ob c ns ds)::rs.map λx=>(zL x.2||x.1,x.2))=some o):vC tbl m fo fr as=some (.ow o,as):=by
 unfold vC;unfold WD at ho;unfold WA at hr
 rw[ho]
 show(if m ∈ ns then none else some c:Option Str).bind _=_
 rw[if_neg hm]
 show(lkT tbl c).bind _=_
 rw[ht]
 show(fr as).bind _=_
 rw[hr]
 show(Yz as (.ow (.lf s (.ob c ns ds))::rs.map _)).bind _=_
 show((Yz as (rs.map _)).bind _:Option (List (Bool×D))).bind _=_
 rw[zaW]
 show(g ((s,.ob c ns ds)::_)).bind _=_
 rw[hg];rfl
theorem zqH(ho:WD fo as true (.ob c ns ds))(hm:m ∉ ns)(ht:lkT tbl c=some g)(hg:RE (g [(true,.ob c ns ds)]) z):WE (vC tbl m fo aN) as z:=by
 obtain⟨o,h1,h2,h3⟩:=hg
 exact⟨o,zeQ ho hm ht zX h1,h2,h3⟩
theorem zlA(ho:WD fo as true (.ob c ns ds))(hm:m ∉ ns)(ht:lkT tbl c=some g)(ha:WE a as x)(hg:RE (g [(true,.ob c ns ds),(true,x)]) z):WE (vC tbl m fo (aC a aN)) as z:=by
 obtain⟨o,h1,h2,h3⟩:=hg
 exact⟨o,zeQ ho hm ht (WF ha zX) (by show g [_,(zL x||true,x)]=_;rw[zyA];exact h1),h2,h3⟩
theorem zqZ(ho:WD fo as true (.ob c ns ds))(hm:m ∉ ns)(ht:lkT tbl c=some g)(ha:WE a as x)(hb:WE b as y)(hg:RE (g [(true,.ob c ns ds),(true,x),(true,y)]) z):WE (vC tbl m fo (aC a (aC b aN))) as z:=by
 obtain⟨o,h1,h2,h3⟩:=hg
 exact⟨o,zeQ ho hm ht (WF ha (WF hb zX)) (by show g [_,(zL x||true,x),(zL y||true,y)]=_;rw[zyA,zyA];exact h1),h2,h3⟩
theorem zqQ{e:EF}{w:D}(ho:WD fo as true (.ob c ns ds))(hm:m ∉ ns)(ht:lkT tbl c=some g)(ha:WE a as x)(hb:WE b as y)(he:WE e as w)(hg:RE (g [(true,.ob c ns ds),(true,x),(true,y),(true,w)]) z):WE (vC tbl m fo (aC a (aC b (aC e aN)))) as z:=by
 obtain⟨o,h1,h2,h3⟩:=hg
 exact⟨o,zeQ ho hm ht (WF ha (WF hb (WF he zX))) (by show g [_,(zL x||true,x),(zL y||true,y),(zL w||true,w)]=_;rw[zyA,zyA,zyA];exact h1),h2,h3⟩
inductive SqD:D->List D->Prop
 |l (ds:List D):SqD (.lst ds) ds
 |t (ds:List D):SqD (.tup ds) ds
theorem zgA{α:Type}{h:α->D}{it:α->It1}{gg:GF}{fe:EF}{as0:AS}:∀(l:List α),(∀q ∈ l,∃as1,gg (it q) as0=some as1/\WE fe as1 (h q))->∃os,xr gg yL fe as0 (l.map it)=some os/\O.strs os=true/\O.toDs os=l.map h
 | [],_=>⟨[],rfl,rfl,rfl⟩
 |q::l,H=>by
  obtain⟨os,e1,e2,e3⟩:=zgA l λp m=>H p (zzA _ m)
  obtain⟨as1,h1,o,h2,h3,h4⟩:=H q zzC
  refine⟨o::os, ?_,by show(o.str&&O.strs os)=true;rw[h3,e2];rfl,by show o.toD::O.toDs os=_;rw[h4,e3];rfl⟩
  show xr gg yL fe as0 (it q::l.map it)=_
  unfold xr
  rw[h1];show((fe as1).bind _)=_
  rw[h2];show(if o.str=true then _ else _)=_
  rw[if_pos h3,e1];rfl
theorem zgH{α:Type}{h:α->D}{p:α->Bool}{it:α->It1}{gg:GF}{tt:TF}{fe:EF}{as0:AS}:∀(l:List α),(∀q ∈ l,∃as1,gg (it q) as0=some as1/\WT tt as1 (p q)/\(p q=true->WE fe as1 (h q)))->∃os,xr gg tt fe as0 (l.map it)=some os/\O.strs os=true/\O.toDs os=(l.filter p).map h
 | [],_=>⟨[],rfl,rfl,rfl⟩
 |q::l,H=>by
  obtain⟨os,e1,e2,e3⟩:=zgH l λp m=>H p (zzA _ m)
  obtain⟨as1,h1,h2,h3⟩:=H q zzC
  cases hp:p q with
  |false=>
   rw[hp]at h2
   refine⟨os,zlY h1 h2 e1,e2, ?_⟩
   rw[List.filter_cons_of_neg (by simp[hp])];exact e3
  |true=>
   rw[hp]at h2
   obtain⟨o,k1,k2,k3⟩:=h3 hp
   refine⟨o::os, ?_,by show(o.str&&O.strs os)=true;rw[k2,e2];rfl, ?_⟩
   · unfold WT at h2
     show xr gg tt fe as0 (it q::l.map it)=_
     unfold xr
     rw[h1];show(tt as1).bind _=_
     rw[h2];show((fe as1).bind _)=_
     rw[k1];show(if o.str=true then _ else _)=_
     rw[if_pos k2,e1];rfl
   · rw[List.filter_cons_of_pos hp]
     show o.toD::O.toDs os=_
     rw[k3,e3];rfl
theorem ziG{fi:IF}{cap:List (Option Nat)}{gg:GF}{tt:TF}{fe:EF}{xs:List It1}{os:List O}{zs:List D}(h1:fi as=some (xs,as))(hl:xs.length<=1000000)(h2:xr gg tt fe (YH cap as) xs=some os)(hs:O.strs os=true)(e:O.toDs os=zs):WE (zY fi cap gg tt fe) as (.lst zs):=by
 refine⟨.nd .ls os, ?_,hs,congrArg D.lst e⟩
 unfold zY
 rw[h1];show(if xs.length<=sizeLine then _ else _)=_
 rw[if_pos (szs hl),h2];rfl
theorem zbH{α:Type}{h:α->D}{it:α->It1}{fi:IF}{cap:List (Option Nat)}{gg:GF}{fe:EF}(l:List α)(h1:fi as=some (l.map it,as))(hl:l.length<=1000000)(H:∀q ∈ l,∃as1,gg (it q) (YH cap as)=some as1/\WE fe as1 (h q)):WE (zY fi cap gg yL fe) as (.lst (l.map h)):=by
 obtain⟨os,e1,e2,e3⟩:=zgA l H
 exact ziG h1 (by rw[zD];exact hl) e1 e2 e3
theorem zmZ{α:Type}{h:α->D}{p:α->Bool}{it:α->It1}{fi:IF}{cap:List (Option Nat)}{gg:GF}{tt:TF}{fe:EF}(l:List α)(h1:fi as=some (l.map it,as))(hl:l.length<=1000000)(H:∀q ∈ l,∃as1,gg (it q) (YH cap as)=some as1/\WT tt as1 (p q)/\(p q=true->WE fe as1 (h q))):WE (zY fi cap gg tt fe) as (.lst ((l.filter p).map h)):=by
 obtain⟨os,e1,e2,e3⟩:=zgH l H
 exact ziG h1 (by rw[zD];exact hl) e1 e2 e3
def Rt(r:Option Out)(x:D):Prop:=∃o,r=some (.rt o)/\o.str=true/\o.toD=x
theorem xO{n m:Nat}{c:SF}{ds:List (Bool×D)}{x:D}(hl:ds.length=m)(h:Rt (c (ZM n ds)) x):RE (fnR n m c ds) x:=by
 obtain⟨o,h1,h2,h3⟩:=h
 exact⟨o,Ws hl h1,h2,h3⟩
theorem zR{f g:SF}{as as1:AS}{x:D}(h1:f as=some (.nx as1))(h2:Rt (g as1) x):Rt (zB f g as) x:=by
 obtain⟨o,e,h⟩:=h2
 exact⟨o,yh h1 e,h⟩
theorem zle{f g:SF}{as:AS}{x:D}(h1:Rt (f as) x):Rt (zB f g as) x:=by
 obtain⟨o,e,h⟩:=h1
 exact⟨o,zcp e,h⟩
theorem znL{c:TF}{f g:SF}{as:AS}{x:D}(h:WT c as true)(h1:Rt (f as) x):Rt (sIf c f g as) x:=by
 obtain⟨o,e,h2⟩:=h1
 exact⟨o,Yo h e,h2⟩
theorem yX{f:EF}{as:AS}{x:D}(h:WE f as x):Rt (ym f as) x:=by
 obtain⟨o,h1,h2,h3⟩:=h
 refine⟨o, ?_,h2,h3⟩
 unfold ym;rw[h1]
 show((if o.str=true then some o else none).bind _)=_
 rw[if_pos h2];rfl
theorem zkG{g:List D->Option R0}(ha:WE a as x)(hg:g [x]=some (.im z)):WE (fP (aC a aN) g) as z:=WD.e (zrp ha hg)
theorem zoe{fd:DF}{os:List O}{zs:List D}(h:WO fd as os)(hl:os.length<=1000000)(hs:O.strs os=true)(e:O.toDs os=zs):WE (wM fd) as (.tup zs):=by
 refine⟨YB os,zcQ h (szs hl), ?_, ?_⟩
 · unfold YB;split
   · exact hs
   · exact hs
 · subst e
   unfold YB;split
   · rfl
   · rfl
theorem zrf{fd:DF}{os:List O}(h:WE a as x)(hr:WO fd as os):∃o,o.str=true/\o.toD=x/\WO (dC a fd) as (o::os):=by
 obtain⟨o,h1,h2,h3⟩:=h
 exact⟨o,h2,h3,zbB h1 hr⟩
theorem zpq(ha:WE a as x):WE (wM (dC a dN)) as (.tup [x]):=by
 obtain⟨o,h1,rfl,h3⟩:=zrf ha yK
 exact zoe h3 (by show 1<=_;omega) (by show(o.str&&true)=true;rw[h1];rfl) rfl
theorem zll(ha:WE a as x)(hb:WE b as y):WE (wM (dC a (dC b dN))) as (.tup [x,y]):=by
 obtain⟨p,k1,rfl,k3⟩:=zrf hb yK
 obtain⟨o,h1,rfl,h3⟩:=zrf ha k3
 exact zoe h3 (by show 2<=_;omega) (by show(o.str&&(p.str&&true))=true;rw[h1,k1];rfl) rfl
theorem zaz{g:D->D->Option R0}(ha:WE a as x)(hb:WE b as y)(hg:g x y=some (.im z)):WE (f2 a b g) as z:=WD.e (f2E ha hb hg)
end
open AutoSeq1 (wpAny_loadPart')
section
variable{X:Cx}{kd:KD}
def zmc(x y:D):Option R0:=onI (λi j=>if 0<=j/\j<=1000000/\i.natAbs<2 ^ 64 then some (.im (.int (i*2 ^ j.toNat)))else none) x y
theorem zpk:OpD X kd (binaryOp .LShift) zmc:=by
 intro pins s σ H x y v u Q I rx ry h
 obtain⟨O,d,e,r,ht,vx,vy,he,q⟩:=h
 obtain⟨i,j,rfl,rfl,he⟩:=X3 vx vy he
 obtain⟨c,rfl⟩:=zM he
 exact zsR pins s σ H _ _ v u Q I rx ry ⟨_,_,rfl,rfl,c,yz q (.int _)⟩
end
def ztI(s:Shared)(n:Nat)(a c:Int)(s':Shared):Prop:=∃h' tk acc c',s'={s with heap:=h',toks:=tk}/\(∀b o,s.heap.get? b=some o->h'.get? b=some o)/\h'.get? s.heap.objs.size=some {cls:=.type "list",dict:=none,data:=.seq acc c',slots:=#[]}/\ItemsOf (λi v=>∃t,v = .int (a+i*c) t) acc n
section
variable{prog:Program}{w:World}{A:Around}{E:Value->Shared->Prop}{s:Shared}
theorem zgw{Q:List Value->Shared->Prop}{r:Addr}{a b c:Int}{t u v:Tok}{n:Nat}(hh:A.handled=none)(hr:IsRange s.heap r a b c t u v)(hsmall:Builtin.Range.small a b c=true)
 (hn:Builtin.Range.rangeSize a b c=n) (hlen:n<=2 ^ 24)
 (hQ:∀h' tk (acc':Array Value),(∀b o,s.heap.get? b=some o->h'.get? b=some o)->ItemsOf (λi v=>∃t,v = .int (a+i*c) t) acc' n->Q acc'.toList {s with heap:=h',toks:=tk}):
 wpAny (model prog w) A (collect (.ref r)) Q E s:=by
 unfold collect
 refine zxD (wpAny_runValue (zxM F.entry_proto_collect ?_))
 rw[zxJ F.plain_proto_collect _]
 show wpAny _ A.in1 (newList [] >>= λl=>again (.builtin "list.__iadd__" ⟨[l,.ref r],[]⟩)) _ _ s
 refine zxD (zxI ?_)
 refine zxE ⟨plainId_quiet F.plain_list_iadd _,zxM F.entry_list_iadd ?_⟩
 rw[zxJ F.plain_list_iadd _]
 show wpAny _ A.in1 (Builtin.List.listExtendWith (.ref s.heap.objs.size) (.ref r) (.ref s.heap.objs.size)) _ _ _
 have hS:(s.heap.push {cls:=.type "list",data:=.seq ([]:List Value).toArray}).get? s.heap.objs.size=some {cls:=.type "list",data:=.seq #[] 0}:=zxH _ rfl
 have fin':∀s',ztI s n a c s'->wpAny (model prog w) A (match Value.ref s.heap.objs.size with
  |Value.ref a=>do
   match(<-load a).data with
    |Data.seq xs _=>pure xs.toList
    |_=>unsupported "internal:collect"
  |_=>unsupported "internal:collect") Q E s':=by
  intro s' h
  obtain⟨h',tk,acc,c',rfl,hk,hS',hacc⟩:=h
  show wpAny _ A (load s.heap.objs.size >>= _) _ _ _
  refine zxD (wpAny_load hS' ?_)
  exact zxE (hQ h' tk acc hk hacc)
 refine zxQ (wpAny_extend_range (A:=A) (s:={s with heap:=s.heap.push {cls:=.type "list",data:=.seq ([]:List Value).toArray}}) (R:=λr s'=>r = .ok (.ret (.ref s.heap.objs.size))/\ztI s n a c s') hh (zxF _ hr) hsmall hn hlen _ _ 0 hS ?_) (λfin s' h=>?_) (λe s' h=>?_)
 · intro h' tk acc c' hk hS' hacc
   exact⟨rfl,h',tk,acc,c',rfl,λb o e=>hk b o (zzN (zxG e)) (zxF _ e),hS',hacc⟩
 · cases fin with
   |done f=>
    obtain⟨e,h⟩:=h
    cases e
    exact fin' _ h
   |again c'=>exact⟨h.1,codeAny_mono h.2 λr s'' hr=>by obtain⟨rfl,hr⟩:=hr;exact fin' _ hr⟩
 · exact absurd h.1 (by simp)
end
theorem zel(r:Addr){b:Int}{t u v:Tok}{n:Nat}(hsmall:Builtin.Range.small 0 b 1=true)(hn:Builtin.Range.rangeSize 0 b 1=n)(hlen:n<=2 ^ 24):
 Meets (Builtin.«tuple.__new__» ⟨[.type "tuple",.ref r],[]⟩) (λA R s=>A.handled=none/\IsRange s.heap r 0 b 1 t u v/\∀(h':Heap) (tk:Nat) (acc':Array Value),(∀b o,s.heap.get? b=some o->h'.get? b=some o)->ItemsOf (λi v=>∃t,v = .int (0+i*1) t) acc' n->R (.ok (.ret (.ref h'.objs.size))) {s with heap:=h'.push {cls:=.type "tuple",data:=.seq acc'},toks:=tk}):=
 .of_wp λprog w A R s h=>by
  obtain⟨hp,g,d,tk,os⟩:=s;obtain⟨hh,hr,h⟩:=h
  have hsub:=sub_tuple_self
  have hinit:=init_tuple_lookup
  have hmh:=madeHere_tuple
  have hT:Shared.TypeIs ⟨hp,g,d,tk,os⟩ (.ref r) "range":=⟨_,hr,rfl⟩
  wp_walk using wpAny_loadPart' hr,wpAny_typeOf hT,zgw (A:=A.in1) hh hr hsmall hn hlen
  intro h' tk' acc hk hacc
  show wpAny _ _ (Builtin.Tuple.tupleExact acc.toList.toArray >>= λv=>ret v) _ _ _
  unfold Builtin.Tuple.tupleExact
  refine zxD (zxI ?_ (by show acc.toList.toArray.size<=sizeLine;simp only[Array.toArray_toList];rw[hacc.1];exact hlen))
  refine zxE ⟨_,rfl, ?_⟩
  have e:acc.toList.toArray=acc:=by simp
  rw[e]
  exact h h' tk' acc hk hacc
section
variable{prog:Program}{w:World}{A:Around}{E:Value->Shared->Prop}{s:Shared}
theorem zfp{r:Addr}{b:Int}{t u v:Tok}{n:Nat}{Q:Value->Shared->Prop}(hh:A.handled=none)(hr:IsRange s.heap r 0 b 1 t u v)(hsmall:Builtin.Range.small 0 b 1=true)(hn:Builtin.Range.rangeSize 0 b 1=n)(hlen:n<=2 ^ 24)
 (h:∀(h':Heap) (tk:Nat) (acc':Array Value),(∀b o,s.heap.get? b=some o->h'.get? b=some o)->ItemsOf (λi v=>∃t,v = .int (0+i*1) t) acc' n->Q (.ref h'.objs.size) {s with heap:=h'.push {cls:=.type "tuple",data:=.seq acc'},toks:=tk}):
 wpAny (model prog w) A (call (.type "tuple") [.ref r]) Q E s:=
 callType_new F.called_tuple (by decide) (F.typeCall_tuple_1 _) (F.newCall_tuple_1 _) (λobj=>F.args_object_init_2 obj _) F.entry_tuple_new
  (zel r hsmall hn hlen) ⟨hh,hr,λh' tk acc hk hacc=>⟨⟨_,zxH _ rfl,rfl⟩,h h' tk acc hk hacc⟩⟩
end
section
variable{X:Cx}{tg:Expr}
def tTR(ta:TA):TE:=λσ H Q=>znz (zsZ ta) zqg σ H λvs H2=>∃r H1,∃j:Int,vs=[.ref r]/\H1 r=none/\H2=upd H1 r (.rng 0 j)/\0<=j/\j<=100000/\∀l,H2 l=none->Q (.ref l) (upd H2 l (.tup ((List.range j.toNat).map λ(i:Nat)=>V.int i)))
theorem zml{a:Expr}{ta:TA}{p p' pos pos':Pos}(hc:X.calm=true)(hg:Gl X "range")(hm:X.mg "range"=none)(hgl:Gl X "tuple")(hml:X.mg "tuple"=none)(ha:PA X [a] ta)(hs:starEach [a] X.env=[(false,eval a X.env)])
 (hs':starEach [.Call (.Name "range" p) [a] [] pos] X.env=[(false,eval (.Call (.Name "range" p) [a] [] pos) X.env)]):PE X (.Call (.Name "tuple" p') [.Call (.Name "range" p) [a] [] pos] [] pos') (tTR ta):=by
 intro pins s σ H Q I h
 refine Call_ (VV I hgl hml Bt.tuple (PyProof.Rows.callWith_type1 (thn ((Vm (zju hg hm ha hs) zcT hs') pos' pins s σ H (λvs H2=>∃r H1,∃j:Int,vs=[.ref r]/\H1 r=none/\H2=upd H1 r (.rng 0 j)/\0<=j/\j<=100000/\∀l,H2 l=none->Q (.ref l) (upd H2 l (.tup ((List.range j.toNat).map λ(i:Nat)=>V.int i)))) I ?_) λus s1 ⟨vs,H2,I2,r1,q1⟩=>?_) hs' rfl))
 · exact h
 obtain⟨r,H1,j,rfl,hn,rfl,h0,h1,q⟩:=q1
 cases r1 with
 |cons rr rs=>
  cases rs
  cases rr
  obtain⟨t,u,v,ho⟩:=I2.hok r _ (yf ..)
  have hsz:Builtin.Range.rangeSize 0 j 1=(j.toNat:Nat):=by rw[rangeSize_one];split<;>omega
  refine zfp (I2.ok.hd hc) ho (small_one (by omega) (by omega) (by omega) (by omega)) (n:=j.toNat) (by exact_mod_cast hsz) (by omega) λh' tk acc hk hit=>?_
  have I3:=I2.kept (t':=tk) hk
  refine⟨.ref h'.objs.size,_,I3.laid (t':=tk) (λb o e=>zxF _ e) (zzK _) (show wV X.prog X.w _ _ _ (.tup ((List.range j.toNat).map λ(i:Nat)=>V.int i))from⟨?_,acc.toList, ?_, ?_⟩),rfl,q _ (I3.hok.fresh (zzK _))⟩
  · rw[zD,zyR];exact zzL (show j.toNat<=100000 by omega) (by decide)
  · refine zae (by rw[zD,zyR];simpa using hit.1.symm) λi x y hx hy=>?_
    rw[zzF]at hx
    obtain⟨tk',e⟩:=hit.2 i y (by simpa using hy)
    cases hr:(List.range j.toNat)[i]? with
    |none=>rw[hr]at hx;cases hx
    |some k=>
     rw[hr]at hx
     obtain⟨_,hk'⟩:=zzD.mp hr
     rw[List.getElem_range]at hk'
     subst hk'
     cases hx
     exact⟨tk',by rw[e];simp⟩
  · have e:acc.toList.toArray=acc:=by simp
    rw[e]
    exact IsTup.new _ _
end
section
variable{X:Cx}{kd:KD}
def trP:List D->Option R0:=on1 λd=>(asI d).bind λj=>if 0<=j/\j<=100000 then some (.im (.tup ((List.range j.toNat).map λ(i:Nat)=>.int i)))else none
theorem zlW{a:Expr}{fr:AF}{p p' pos pos':Pos}(hc:X.calm=true)(hg:Gl X "range")(hm:X.mg "range"=none)(hgl:Gl X "tuple")(hml:X.mg "tuple"=none)(ha:AA X kd [a] fr)(hs:starEach [a] X.env=[(false,eval a X.env)])
 (hs':starEach [.Call (.Name "range" p) [a] [] pos] X.env=[(false,eval (.Call (.Name "range" p) [a] [] pos) X.env)]):AE X kd (.Call (.Name "tuple" p') [.Call (.Name "range" p) [a] [] pos] [] pos') (fP fr trP):=by
 with_unfolding_all exact(yJ (zml hc hg hm hgl hml ha hs hs') λσ H Q h=>by
  obtain⟨F,B,ad,as,r,as',R,e,q⟩:=h
  obtain⟨⟨rs,as1⟩,h1,e⟩:=bS_ (show(fr as).bind _=_ from e)
  obtain⟨⟨ds,lv⟩,h2,e⟩:=bS_ e
  obtain⟨r0,h3,e⟩:=bS_ e
  obtain⟨z,h4,e⟩:=bS_ e
  cases e
  refine(show alA X.K kd fr σ H _ from⟨F,B,ad,as,rs,as1,R,h1,λvs ad1 H1 R1 rv1 g1=>?_⟩)
  have vl:=W6 R1 rv1 h2
  have rq:=ZZ R1 h4 (Q:=Q) λw T' H' R' rv' g'=>q w T' ad1 H' R' rv' (g1.trans g')
  obtain⟨x,d,rfl,v1,h3⟩:=zdq vl h3
  obtain⟨j,h6,h3⟩:=bS_ h3
  obtain⟨⟨b1,b2⟩,e3⟩:=zM h3
  cases e3
  obtain⟨rfl,rfl⟩:=Wb v1 h6
  refine⟨j,rfl,by omega,by omega,λr hr=>⟨r,H1,j,rfl,hr,rfl,b1,b2,λl hl=>?_⟩⟩
  have hlr:l≠r:=λe=>by rw[e,yf]at hl;cases hl
  have hl1:H1 l=none:=by rw[zW hlr]at hl;exact hl
  exact rq (.ref l) _ (λb o q=>Xq hl b o (Xq hr b o q)) (.tup (λz=>R1.tr _ l z hl1) (.inl yf) (zil _)))
end
section
variable{K:zC}{kd:KD}{F B:Addr->Prop}{T:List Addr}{ad:Ad}{as:AS}{σ:St}{H:Hp}{i:Nat}{o:O}{v:V}
theorem zjh{a:Addr}:Gw (ad i) (vG ad i []) a ↔ Gw [] ad a:=by
 constructor
 · rintro(z|⟨j,z⟩)
   · exact .inr ⟨i,z⟩
   · by_cases e:j=i
     · subst e;rw[zK]at z;cases z
     · rw[zP e]at z;exact .inr ⟨j,z⟩
 · rintro(z|⟨j,z⟩)
   · cases z
   · by_cases e:j=i
     · subst e;exact .inl z
     · exact .inr ⟨j,by rw[zP e];exact z⟩
theorem Rel.mv(R:Rel K kd F B [] ad as σ H)(h:as[i]? = some (some o)):
 Rel K kd F B (ad i) (vG ad i []) (as.set i none) σ H/\∃v,σ[i]? = some (some v)/\RoS K kd F B (Gw (ad i) (vG ad i [])) H v o (ad i):=by
 have hi:i<as.length:=(zzD.mp h).1
 obtain⟨v,hv,ro⟩:=R.sl i _ h
 refine⟨⟨by rw[zzR];exact R.len,λj hj=>?_,λj=>?_,λj k a h1 h2=>?_,R.nd i,λj a h1 h2=>?_,R.ftr,λa h1=>?_,λa h1=>R.gtr a (zjh.mp h1),λj s e=>?_⟩,v,hv,ro.less λa z=>zjh.mp z⟩
 · rw[zzR]at hj
   rw[zP (by omega)];exact R.out j hj
 · by_cases e:j=i
   · subst e;rw[zK];exact zyG
   · rw[zP e];exact R.nd j
 · by_cases e:j=i
   · subst e;rw[zK]at h1;cases h1
   · rw[zP e]at h1
     by_cases e':k=i
     · subst e';rw[zK]at h2;cases h2
     · rw[zP e']at h2;exact R.inj j k a h1 h2
 · by_cases e:j=i
   · subst e;rw[zK]at h1;cases h1
   · rw[zP e]at h1
     exact e (R.inj j i a h1 h2)
 · obtain⟨b1,b2,b3⟩:=R.btr a h1
   exact⟨b1,b2,λz=>b3 (zjh.mp z)⟩
 · by_cases q:j=i
   · subst q
     rw[zyH hi]at e
     cases e
     rw[zK];exact(rfl:([]:List Addr)=[])
   · rw[zzV (Ne.symm q)]at e
     rw[zP q]
     have:=R.sl j s e
     cases s with
     |none=>exact this
     |some o'=>
      obtain⟨w,hw,rw'⟩:=this
      exact⟨w,hw,rw'.less λa z=>zjh.mp z⟩
end
def fMv(i:Nat):EF:=λas=>match as[i]? with
 |some (some o)=>some (.ow o,as.set i none)
 |_=>none
theorem zrb{X:Cx}{kd:KD}{i:Nat}{x:Str}{p:Pos}(hv:PE X (.Name x p) (X8 i)):AE X kd (.Name x p) (fMv i):=by with_unfolding_all exact(yJ hv λσ H Q h=>by
 obtain⟨F,B,ad,as,r,as',R,e,q⟩:=h
 unfold fMv at e
 cases k:as[i]? with
 |none=>rw[k]at e;cases e
 |some s=>
  cases s with
  |none=>rw[k]at e;cases e
  |some o=>
   rw[k]at e
   cases e
   obtain⟨R',v,hv,ro⟩:=R.mv k
   exact⟨v,hv,q v (ad i) _ H R' ro (Grow.less λa z=>zjh.mp z)⟩)
def zgL(fa:EF):EF:=λas=>(fa as).bind λp=>(p.1.frz.view p.2).bind λx=>(asL x.1).bind λds=>if ds.all zL=true then some (.ow (.lf true (.tup ds)),p.2)else none
theorem zmG{K:zC}{kd:KD}{O O':Addr->Prop}{H H':Hp}{vs:List V}{ds:List D}(h:RpL K kd O H vs ds)(e:ds.all zL=true):RpL K kd O' H' vs ds:=
 RpL.ind (P:=λvs ds=>ds.all zL=true->RpL K kd O' H' vs ds) (λ_=>.nil) (λa _ ih e=>by
  rw[List.all_cons,zzZ]at e
  exact .cons (a.flat e.1) (ih e.2)) h e
section
variable{X:Cx}{kd:KD}{a:Expr}{fa:EF}{x:Str}{p pos:Pos}
theorem zlp(hg:Gl X x)(hm:X.mg x=none)(hv:bootBuiltins x=some (.type "tuple"))(ha:AE X kd a fa)(hn:x≠"__name__")(hdb:(x==("__debug__":Str))=false)
 (he:starEach [a] X.env=(false,eval a X.env)::starEach [] X.env) (hpl:(backTo pos (starEach [] X.env)).any (·.1)=false):AE X kd (.Call (.Name x p) [a] [] pos) (zgL fa):=by
 with_unfolding_all exact(yJ (zhd X6 hg hm hv (Vm ha zcT he) hn hdb he hpl) λσ H Q h=>by
  obtain⟨F,B,ad,as,r,as',R,e,q⟩:=h
  obtain⟨⟨p,as1⟩,h1,e⟩:=bS_ (show(fa as).bind _=_ from e)
  obtain⟨⟨d,lv⟩,h2,e⟩:=bS_ e
  obtain⟨ds,h3,e⟩:=bS_ e
  obtain⟨hf,e⟩:=zM e
  cases e
  cases zfV h3
  refine vZ R h1 λv ad1 H1 R1 rv1 g1=>?_
  have vw:=wC.vw R1 rv1 h2
  cases vw with
  |lst hr rl=>
   rename_i a0 vs0
   refine⟨_,_,rfl,.inl ⟨hr.sq,λl hl=>?_⟩⟩
   have k:∀b u,H1 b=some u->upd H1 l (.tup vs0) b=some u:=λb u z=>by rw[zW (yG z hl)];exact z
   obtain⟨R2,g2⟩:=R1.more k
   exact q (.ref l) [] ad1 _ R2 (.lf (.tup (λz=>R1.trk true l z hl) (.inl yf) (zmG rl hf))) (g1.trans g2))
end
def IsL(H:Hp)(a:Addr):Prop:=∃vs,H a=some (.lst vs)
def Chg(S:Addr->Prop)(H H':Hp):Prop:=(∀b,¬S b->H' b=H b)/\∀b,IsL H b->IsL H' b
theorem Chg.refl{S:Addr->Prop}{H:Hp}:Chg S H H:=⟨λ_ _=>rfl,λ_ h=>h⟩
theorem Chg.upd{S:Addr->Prop}{H H':Hp}{r:Addr}(h:Chg S H H')(hr:S r):Chg S H (upd H' r (.lst [])):=by
 refine⟨λb hb=>by rw[zW (λe=>hb (by rw[e];exact hr))];exact h.1 b hb,λb hb=>?_⟩
 by_cases e:b=r
 · subst e;exact⟨[],yf⟩
 · obtain⟨vs,z⟩:=h.2 b hb
   exact⟨vs,by rw[zW e];exact z⟩
theorem Chg.trans{S:Addr->Prop}{H H1 H2:Hp}(a:Chg S H H1)(b:Chg S H1 H2):Chg S H H2:=⟨λx h=>(b.1 x h).trans (a.1 x h),λx h=>b.2 x (a.2 x h)⟩
theorem Chg.mono{S S':Addr->Prop}{H H1:Hp}(a:Chg S H H1)(h:∀b,S b->S' b):Chg S' H H1:=⟨λx hx=>a.1 x λz=>hx (h x z),a.2⟩
def Smv(js:List Nat)(σ σ':St):Prop:=σ'.length=σ.length/\∀b,b ∉ js->σ'[b]? = σ[b]?
theorem Smv.set{js:List Nat}{σ σ':St}{j:Nat}{v:Option V}(h:Smv js σ σ')(hj:j ∈ js):Smv js σ (σ'.set j v):=⟨by rw[zzR];exact h.1,λb hb=>by rw[zzV (λe=>hb (by rw[<-e];exact hj))];exact h.2 b hb⟩
theorem tyl{K:zC}{H:Hp}{r:Addr}(h:IsL H r):tyV K "list" (.ref r) H:=by
 obtain⟨vs,z⟩:=h
 exact .inl ⟨rfl,vs,.inl (.inl z)⟩
abbrev bmC(K:zC)(to:TE):TE:=ztu K "list" znG to
section
variable{K:zC}{D:Ends}{σ:St}{H:Hp}{i jr jn l t:Nat}{js:List Nat}{g:Addr->Prop}{xs:List V}{c:Nat}{vs:List V}
theorem zvc{te:TE}(hte:∀Q,Q (.ref l) H->te σ H Q)(hl:H l=some (.lst xs))(hx:∀x ∈ xs,∃r,x = .ref r/\g r/\IsL H r)(hng:¬g l)(hj:jr ∈ js)(hlen:jr<σ.length)
 (q:∀σ' H',Smv js σ σ'->Chg g H H'->D.nx σ' H'):zsk (zny K te) (Wr jr) (zkW (bmC K (X8 jr))) D σ H:=by
 refine hte _ ⟨l,rfl,⟨xs,.inl (.inl hl)⟩,ziR (xs:=xs) (λ_ σ2 H2=>Smv js σ σ2/\Chg g H H2) ⟨⟨rfl,λ_ _=>rfl⟩,Chg.refl⟩ (λ_ σ2 H2 _ P=>.inl (.inl (by rw[P.2.1 l hng];exact hl))) (λk x σ2 H2 hk P=>?_) λσ2 H2 P=>q σ2 H2 P.1 P.2⟩
 obtain⟨r,rfl,hr,hI⟩:=hx x (zzX hk)
 obtain⟨ws,z⟩:=P.2.2 r hI
 exact⟨.ref r,zyH (by rw[P.1.1];exact hlen),tyl ⟨ws,z⟩,r,ws,rfl,rfl,z,P.1.set hj,P.2.upd hr⟩
theorem zts{te:TE}(hte:∀Q,Q (.ref l) H->te σ H Q)(hl:H l=some (.lst xs))(hx:∀x ∈ xs,∃a w r,x = .ref a/\H a=some (.tup [w,.ref r])/\g r/\IsL H r)(hng:¬g l)(hgL:∀a,g a->IsL H a)(hjn:jn ∈ js)(hj:jr ∈ js)(hlen:jr<σ.length)
 (q:∀σ' H',Smv js σ σ'->Chg g H H'->D.nx σ' H'):zsk (zny K te) (zpz K 2 (zfm (Wr jn) (zfm (Wr jr) zoV))) (zkW (bmC K (X8 jr))) D σ H:=by
 refine hte _ ⟨l,rfl,⟨xs,.inl (.inl hl)⟩,ziR (xs:=xs) (λ_ σ2 H2=>Smv js σ σ2/\Chg g H H2) ⟨⟨rfl,λ_ _=>rfl⟩,Chg.refl⟩ (λ_ σ2 H2 _ P=>.inl (.inl (by rw[P.2.1 l hng];exact hl))) (λk x σ2 H2 hk P=>?_) λσ2 H2 P=>q σ2 H2 P.1 P.2⟩
 obtain⟨a,w,r,rfl,ha,hr,hI⟩:=hx x (zzX hk)
 obtain⟨ws,z⟩:=P.2.2 r hI
 have ha2:H2 a=some (.tup [w,.ref r]):=by
  rw[P.2.1 a λm=>by obtain⟨us,y⟩:=hgL a m;rw[ha]at y;cases y];exact ha
 refine⟨a,[w,.ref r],rfl,.inl (.inl ha2),rfl,w,[.ref r],rfl,.ref r,[],rfl,rfl, ?_⟩
 exact⟨.ref r,zyH (by rw[zzR,P.1.1];exact hlen),tyl ⟨ws,z⟩,r,ws,rfl,rfl,z,(P.1.set hjn).set hj,P.2.upd hr⟩
theorem ztP{te:TE}(hte:∀Q,Q (.ref l) H->te σ H Q)(hl:IsL H l)(hg:g l)(q:∀H',Chg g H H'->D.nx σ H'):zkW (bmC K te) D σ H:=by
 obtain⟨ws,z⟩:=hl
 exact hte _ ⟨tyl ⟨ws,z⟩,l,ws,rfl,rfl,z,q _ (Chg.refl.upd hg)⟩
end
def zpA:O->Bool
 | .nd .ls _=>true
 |_=>false
def zkz:O->Bool
 | .nd .tp [_,.nd .ls _]=>true
 |_=>false
def zoO(i jr jn js jv:Nat):SF:=λas=>(slO ztg as i).bind λos=>match os with
 | [_,_,.nd .ls rows,_,.nd .ls ds,.nd .ls ss]=>if rows.all zpA=true/\ds.all zkz=true/\ss.all zkz=true/\noS as jr=true/\noS as jn=true/\noS as js=true/\noS as jv=true then some (.nx (as.set i none))else none
 |_=>none
section
variable{K:zC}{kd:KD}{F B G:Addr->Prop}{H:Hp}
theorem zpp{xs:List V}{rows:List O}{g:List Addr}(h:vB K kd F B G H xs rows g):rows.all zpA=true->∀x ∈ xs,∃r,x = .ref r/\r ∈ g/\IsL H r:=
 RoL.ind (P:=λxs rows g=>rows.all zpA=true->∀x ∈ xs,∃r,x = .ref r/\r ∈ g/\IsL H r) (λ_ _ m=>nomatch m) (λ{v o vs os f f'} h _ ih e x m=>by
  rw[List.all_cons,zzZ]at e
  rcases zS.mp m with rfl|m
  · cases h with
    |ls hH _=>exact⟨_,rfl,zzM _ zzC,_,hH⟩
    |_=>cases e.1
  · obtain⟨r,h1,h2,h3⟩:=ih e.2 x m
    exact⟨r,h1,zzI _ h2,h3⟩) h
theorem zjb{xs:List V}{ds:List O}{g:List Addr}(h:vB K kd F B G H xs ds g):ds.all zkz=true->∀x ∈ xs,∃a w r,x = .ref a/\H a=some (.tup [w,.ref r])/\r ∈ g/\IsL H r:=
 RoL.ind (P:=λxs ds g=>ds.all zkz=true->∀x ∈ xs,∃a w r,x = .ref a/\H a=some (.tup [w,.ref r])/\r ∈ g/\IsL H r) (λ_ _ m=>nomatch m) (λ{v o vs os f f'} h _ ih e x m=>by
  rw[List.all_cons,zzZ]at e
  rcases zS.mp m with rfl|m
  · cases h with
    |tp hN hH rl=>
     rename_i a vs' os'
     cases rl with
     |nil=>cases e.1
     |cons r1 rl=>
      cases rl with
      |nil=>cases e.1
      |cons r2 rl=>
       cases rl with
       |nil=>
        cases r2 with
        |ls hH2 _=>exact⟨a,_,_,rfl,hH,zzM _ (zzI _ (zzM _ zzC)),_,hH2⟩
        |_=>cases e.1
       |cons _ _=>exact absurd e.1 (by simp[zkz])
    |_=>cases e.1
  · obtain⟨a,w,r,h1,h2,h3,h4⟩:=ih e.2 x m
    exact⟨a,w,r,h1,h2,zzI _ h3,h4⟩) h
theorem zsD{v:V}{fp:List Addr}{d0 d1 d3:O}{rows ds ss:List O}(h:RoS K kd F B G H v (.nd .tp [d0,d1,.nd .ls rows,d3,.nd .ls ds,.nd .ls ss]) fp):
 ∃t w0 w1 w3 l2 l4 l5 xs2 xs4 xs5 f0 f1 f3 g2 g4 g5,v = .ref t/\H t=some (.tup [w0,w1,.ref l2,w3,.ref l4,.ref l5])/\H l2=some (.lst xs2)/\vB K kd F B G H xs2 rows g2/\H l4=some (.lst xs4)/\vB K kd F B G H xs4 ds g4/\H l5=some (.lst xs5)/\vB K kd F B G H xs5 ss g5/\
  fp=f0++(f1++((l2::g2)++(f3++((l4::g4)++(l5::g5))))):=by
 cases h with
 |tp hNt hH rl=>
  cases rl with
  |cons r0 rl=>
   cases rl with
   |cons r1 rl=>
    cases rl with
    |cons r2 rl=>
     cases rl with
     |cons r3 rl=>
      cases rl with
      |cons r4 rl=>
       cases rl with
       |cons r5 rl=>
        cases rl
        cases r2 with
        |ls hl2 rr2=>
         cases r4 with
         |ls hl4 rr4=>
          cases r5 with
          |ls hl5 rr5=>exact⟨_,_,_,_,_,_,_,_,_,_,_,_,_,_,_,_,rfl,hH,hl2,rr2,hl4,rr4,hl5,rr5,by rw[zyB]⟩
theorem zqA{ad:Ad}{as:AS}{σ σ':St}{H':Hp}{i:Nat}{js:List Nat}(R:Rel K kd F B [] ad as σ H)(hi:i<as.length)(hs:Smv js σ σ')(hc:Chg (· ∈ ad i) H H')(hn:∀a ∈ ad i,H' a≠none)(hjs:∀j ∈ js,as[j]? = some none):
 Rel K kd F B [] (vG ad i []) (as.set i none) σ' H'/\Grow (Gw [] ad) H (Gw [] (vG ad i [])) H':=by
 have le:∀a,Gw [] (vG ad i []) a->Gw [] ad a:=λa z=>Xu a z
 have nin:∀j a,j≠i->a ∈ ad j->a ∉ ad i:=λj a e h z=>e (R.inj j i a h z)
 have g:Grow (Gw [] ad) H (Gw [] (vG ad i [])) H':=⟨λb u h n=>by rw[hc.1 b λz=>n (.inr ⟨i,z⟩)];exact h,λb z=>.inl (le b z)⟩
 have kn:∀a,H a≠none->H' a≠none:=λa z=>by
  by_cases e:a ∈ ad i
  · exact hn a e
  · rw[hc.1 a e];exact z
 refine⟨⟨by rw[zzR,hs.1];exact R.len,λj hj=>?_,λj=>?_,λj k a h1 h2=>?_,zyG,(λ_ _ _ z=>nomatch z),λa z=>kn a (R.ftr a z),λa z=>⟨kn a (R.btr a z).1,(R.btr a z).2.1,λy=>(R.btr a z).2.2 (le a y)⟩,λa z=>⟨kn a (R.gtr a (le a z)).1,(R.gtr a (le a z)).2⟩,λj s e=>?_⟩,g⟩
 · rw[zzR]at hj
   by_cases e:j=i
   · subst e;exact zK
   · rw[zP e];exact R.out j hj
 · by_cases e:j=i
   · subst e;rw[zK];exact zyG
   · rw[zP e];exact R.nd j
 · by_cases e:j=i
   · subst e;rw[zK]at h1;cases h1
   · rw[zP e]at h1
     by_cases e':k=i
     · subst e';rw[zK]at h2;cases h2
     · rw[zP e']at h2;exact R.inj j k a h1 h2
 · by_cases q:j=i
   · subst q
     rw[zyH hi]at e
     cases e
     rw[zK];exact(rfl:([]:List Addr)=[])
   · rw[zzV (Ne.symm q)]at e
     rw[zP q]
     have sj:=R.sl j s e
     by_cases m:j ∈ js
     · have z:=hjs j m
       rw[e]at z
       cases z
       exact sj
     · rw[hs.2 j m]
       exact sj.grow g λa ma u h=>by rw[hc.1 a (nin j a q ma)];exact h
end
section
variable{X:Cx}{kd:KD}{i jr jn js jv m4 m5:Nat}{x zr zn zs zv:Str}{e2 e4 e5 e4' e5':Expr}{p1 p2 p3 p4 p5 q1 q2 q3 q4 q5 r1 r2 r3 a1 a2 a3 a4 a5 c1 c2 c3 c4 c5 s1 s2 s3 s4 s5 o1 o2 o3 o4 n2 n3 v2 v3 t2 t3:Pos}
theorem zpm{rest:List Stmt}{gR:SF}(hR:ASs X kd rest gR)(hN:X.N.Nodup)(hp:PassesOwn (model X.prog X.w) X.A X.env X.xe)(hc:X.calm=true)(h1:PE X (.Name x p1) (X8 i))(h2:PE X (.Name x p2) (X8 i))(h3:PE X (.Name x p3) (X8 i))(h4:PE X (.Name x p4) (X8 i))(h5:PE X (.Name x p5) (X8 i))
 (k2:PE X e2 (tC (.int 2))) (k4:PE X e4 (tC (.int 4))) (k5:PE X e5 (tC (.int 5))) (k4':PE X e4' (tC (.int 4))) (k5':PE X e5' (tC (.int 5))) (x2:Z1 e2) (x4:Z1 e4) (x5:Z1 e5) (x4':Z1 e4') (x5':Z1 e5')
 (gr:PG X (.Name zr r1) (Wr jr)) (g2:PG X (.Tuple [.Name zn n2,.Name zs r2] m4 t2) (zpz X.K 2 (zfm (Wr jn) (zfm (Wr js) zoV)))) (g3:PG X (.Tuple [.Name zn n3,.Name zv r3] m5 t3) (zpz X.K 2 (zfm (Wr jn) (zfm (Wr jv) zoV))))
 (b1:PE X (.Call (.Attribute (.Name zr v2) "clear" a1) [] [] c1) (bmC X.K (X8 jr))) (b2:PE X (.Call (.Attribute (.Name zs o2) "clear" a2) [] [] c2) (bmC X.K (X8 js))) (b3:PE X (.Call (.Attribute (.Name zv o3) "clear" a3) [] [] c3) (bmC X.K (X8 jv)))
 (b4:∀te,PE X (.Subscript (.Name x p4) e4' q4) te->PE X (.Call (.Attribute (.Subscript (.Name x p4) e4' q4) "clear" a4) [] [] c4) (bmC X.K te)) (b5:∀te,PE X (.Subscript (.Name x p5) e5' q5) te->PE X (.Call (.Attribute (.Subscript (.Name x p5) e5' q5) "clear" a5) [] [] c5) (bmC X.K te))
 (w1:swapsWith (.Call (.Attribute (.Name zr v2) "clear" a1) [] [] c1) none s1.line X.env=pure false) (w2:swapsWith (.Call (.Attribute (.Name zs o2) "clear" a2) [] [] c2) none s2.line X.env=pure false) (w3:swapsWith (.Call (.Attribute (.Name zv o3) "clear" a3) [] [] c3) none s3.line X.env=pure false)
 (w4:swapsWith (.Call (.Attribute (.Subscript (.Name x p4) e4' q4) "clear" a4) [] [] c4) none s4.line X.env=pure false) (w5:swapsWith (.Call (.Attribute (.Subscript (.Name x p5) e5' q5) "clear" a5) [] [] c5) none s5.line X.env=pure false)
 (f1:∀y,foldedSetIterable (.Subscript (.Name x p1) e2 q1) X.env y=pure y) (f2:∀y,foldedSetIterable (.Subscript (.Name x p2) e4 q2) X.env y=pure y) (f3:∀y,foldedSetIterable (.Subscript (.Name x p3) e5 q3) X.env y=pure y):
 ASs X kd (.For (.Name zr r1) (.Subscript (.Name x p1) e2 q1) [.Expr (.Call (.Attribute (.Name zr v2) "clear" a1) [] [] c1) s1] [] o1 ::
  .For (.Tuple [.Name zn n2,.Name zs r2] m4 t2) (.Subscript (.Name x p2) e4 q2) [.Expr (.Call (.Attribute (.Name zs o2) "clear" a2) [] [] c2) s2] [] v3 ::
  .For (.Tuple [.Name zn n3,.Name zv r3] m5 t3) (.Subscript (.Name x p3) e5 q3) [.Expr (.Call (.Attribute (.Name zv o3) "clear" a3) [] [] c3) s3] [] o4 ::
  .Expr (.Call (.Attribute (.Subscript (.Name x p4) e4' q4) "clear" a4) [] [] c4) s4 :: .Expr (.Call (.Attribute (.Subscript (.Name x p5) e5' q5) "clear" a5) [] [] c5) s5::rest) (zB (zoO i jr jn js jv) gR):=by
 with_unfolding_all exact(zci (YT (zhJ hp hc (zaV (zdT zdd h1 k2 x2)) gr (zcf (Wz b1 w1)) f1) (YT (zhJ hp hc (zaV (zdT zdd h2 k4 x4)) g2 (zcf (Wz b2 w2)) f2) (YT (zhJ hp hc (zaV (zdT zdd h3 k5 x5)) g3 (zcf (Wz b3 w3)) f3) (YT (Wz (b4 _ (zdT zdd h4 k4' x4')) w4) (YT (Wz (b5 _ (zdT zdd h5 k5' x5')) w5) hR))))) λD σ H h=>by
  obtain⟨F,B,ad,as,o,R,e,q⟩:=h
  obtain⟨o9,e,e9⟩:=bS_ (show(zoO i jr jn js jv as).bind _=_ from e)
  obtain⟨os,e1,e⟩:=bS_ (show(slO ztg as i).bind _=_ from e)
  obtain⟨o0,k0,e1⟩:=zjX e1
  have k0':=zqc e1
  subst k0'
  match os,e,k0 with
  | [d0,d1,.nd .ls rows,d3,.nd .ls ds,.nd .ls ss],e,k0=>
   obtain⟨⟨c1,c2,c3,y1,y2,y3,y4⟩,e⟩:=zM e
   cases e
   have y1:=zhE y1
   have y2:=zhE y2
   have y3:=zhE y3
   have y4:=zhE y4
   have hi:=(zzD.mp k0).1
   obtain⟨v,hv,ro⟩:=R.sl i _ k0
   have nd:=R.nd i
   have hin:∀j,as[j]? = some none->j≠i:=λj y z=>by subst z;rw[k0]at y;cases y
   have ln:∀j,as[j]? = some none->j<σ.length:=λj y=>by rw[<-R.len];exact(zzD.mp y).1
   have nz:∀a ∈ ad i,H a≠none:=λa m=>(R.gtr a (.inr ⟨i,m⟩)).1
   have fin:∀σ' H',Smv [jr,jn,js,jv] σ σ'->Chg (· ∈ ad i) H H'->(∀a ∈ ad i,H' a≠none)->be X.K kd gR D σ' H':=λσ' H' hs hc hn=>by
    obtain⟨R2,g2⟩:=zqA R hi hs hc hn λj m=>by
     rcases zS.mp m with rfl|m
     · exact y1
     rcases zS.mp m with rfl|m
     · exact y2
     rcases zS.mp m with rfl|m
     · exact y3
     · rw[zzO.mp m];exact y4
    exact⟨F,B,_,_,o,R2,e9,q.pre g2⟩
   obtain⟨t,w0,w1,w3,l2,l4,l5,xs2,xs4,xs5,f0,f1,f3,g2,g4,g5,rfl,hH,hl2,rr2,hl4,rr4,hl5,rr5,hfp⟩:=zsD ro
   rw[hfp]at nd nz fin
   have nis:i ∉ [jr,jn,js,jv]:=λm=>by
    rcases zS.mp m with rfl|m
    · exact hin _ y1 rfl
    rcases zS.mp m with rfl|m
    · exact hin _ y2 rfl
    rcases zS.mp m with rfl|m
    · exact hin _ y3 rfl
    · exact hin _ y4 (zzO.mp m).symm
   have i2:∀a ∈ l2::g2,a ∈ f0++(f1++((l2::g2)++(f3++((l4::g4)++(l5::g5))))):=λa m=>zzI _ (zzI _ (zzM _ m))
   have i4:∀a ∈ l4::g4,a ∈ f0++(f1++((l2::g2)++(f3++((l4::g4)++(l5::g5))))):=λa m=>zzI _ (zzI _ (zzI _ (zzI _ (zzM _ m))))
   have i5:∀a ∈ l5::g5,a ∈ f0++(f1++((l2::g2)++(f3++((l4::g4)++(l5::g5))))):=λa m=>zzI _ (zzI _ (zzI _ (zzI _ (zzI _ m))))
   have n1:=(zxC.mp (zxC.mp nd).2.1).2.1
   obtain⟨n2,n3,n24⟩:=zxC.mp n1
   obtain⟨_,n4,_⟩:=zxC.mp n3
   obtain⟨n5,n6,n45⟩:=zxC.mp n4
   have d24:∀a ∈ l2::g2,∀b ∈ l4::g4,a≠b:=λa ma b mb=>n24 a ma b (zzI _ (zzM _ mb))
   have d25:∀a ∈ l2::g2,∀b ∈ l5::g5,a≠b:=λa ma b mb=>n24 a ma b (zzI _ (zzI _ mb))
   have s2:=zpp rr2 c1
   have s4:=zjb rr4 c2
   have s5:=zjb rr5 c3
   have pt:¬(t ∈ f0++(f1++((l2::g2)++(f3++((l4::g4)++(l5::g5)))))/\IsL H t):=λm=>by obtain⟨us,y⟩:=m.2;rw[hH]at y;cases y
   have vt:∀{σ':St}{H':Hp},Smv [jr,jn,js,jv] σ σ'->Chg (λa=>a ∈ f0++(f1++((l2::g2)++(f3++((l4::g4)++(l5::g5)))))/\IsL H a) H H'->∀(c:Int) (w:V),atI [w0,w1,V.ref l2,w3,.ref l4,.ref l5] c=some w->∀Q:VK,Q w H'->tOp (ztC X.K) (X8 i) (tC (.int c)) σ' H' Q:=λ{σ' H'} hs hc c w ha Q hq=>
    ⟨.ref t,by rw[hs.2 i nis];exact hv,t,_,c,w,rfl,rfl,.inl (.inl (by rw[hc.1 t pt];exact hH)),ha,hq⟩
   have tp2:∀{H':Hp}{a:Addr}{us:List V},Chg (λa=>a ∈ f0++(f1++((l2::g2)++(f3++((l4::g4)++(l5::g5)))))/\IsL H a) H H'->H a=some (.tup us)->H' a=some (.tup us):=λ{H' a us} hc ha=>by
    rw[hc.1 a λm=>by obtain⟨us,y⟩:=m.2;rw[ha]at y;cases y];exact ha
   have sm0:Smv [jr,jn,js,jv] σ σ:=⟨rfl,λ_ _=>rfl⟩
   refine zvc (g:=λa=>a ∈ g2/\IsL H a) (js:=[jr,jn,js,jv]) (vt sm0 Chg.refl 2 _ rfl) hl2 (λx m=>by obtain⟨r,z1,z2,z3⟩:=s2 x m;exact⟨r,z1,⟨z2,z3⟩,z3⟩) (λz=>(zzT.mp n2).1 z.1) (by simp) (ln jr y1) λσ1 H1 m1 ch1=>?_
   have C1:=ch1.mono (S':=λa=>a ∈ f0++(f1++((l2::g2)++(f3++((l4::g4)++(l5::g5)))))/\IsL H a) λa z=>⟨i2 a (zzA _ z.1),z.2⟩
   have e14:H1 l4=H l4:=ch1.1 l4 λz=>d24 l4 (zzA _ z.1) l4 zzC rfl
   have e15:H1 l5=H l5:=ch1.1 l5 λz=>d25 l5 (zzA _ z.1) l5 zzC rfl
   refine zts (g:=λa=>a ∈ g4/\IsL H a) (js:=[jr,jn,js,jv]) (vt m1 C1 4 _ rfl) (by rw[e14];exact hl4) (λx m=>by obtain⟨a,w,r,z1,z2,z3,z4⟩:=s4 x m;exact⟨a,w,r,z1,tp2 C1 z2,⟨z3,z4⟩,ch1.2 r z4⟩) (λz=>(zzT.mp n5).1 z.1) (λa z=>ch1.2 a z.2) (by simp) (by simp) (by rw[m1.1];exact ln js y3) λσ2 H2 m2 ch2=>?_
   have M2:Smv [jr,jn,js,jv] σ σ2:=⟨m2.1.trans m1.1,λb hb=>(m2.2 b hb).trans (m1.2 b hb)⟩
   have C2:=C1.trans (ch2.mono (S':=λa=>a ∈ f0++(f1++((l2::g2)++(f3++((l4::g4)++(l5::g5)))))/\IsL H a) λa z=>⟨i4 a (zzA _ z.1),z.2⟩)
   have e25:H2 l5=H l5:=(ch2.1 l5 λz=>n45 l5 (zzA _ z.1) l5 zzC rfl).trans e15
   refine zts (g:=λa=>a ∈ g5/\IsL H a) (js:=[jr,jn,js,jv]) (vt M2 C2 5 _ rfl) (by rw[e25];exact hl5) (λx m=>by obtain⟨a,w,r,z1,z2,z3,z4⟩:=s5 x m;exact⟨a,w,r,z1,tp2 C2 z2,⟨z3,z4⟩,C2.2 r z4⟩) (λz=>(zzT.mp n6).1 z.1) (λa z=>C2.2 a z.2) (by simp) (by simp) (by rw[M2.1];exact ln jv y4) λσ3 H3 m3 ch3=>?_
   have M3:Smv [jr,jn,js,jv] σ σ3:=⟨m3.1.trans M2.1,λb hb=>(m3.2 b hb).trans (M2.2 b hb)⟩
   have C3:=C2.trans (ch3.mono (S':=λa=>a ∈ f0++(f1++((l2::g2)++(f3++((l4::g4)++(l5::g5)))))/\IsL H a) λa z=>⟨i5 a (zzA _ z.1),z.2⟩)
   refine ztP (g:=λa=>a ∈ f0++(f1++((l2::g2)++(f3++((l4::g4)++(l5::g5)))))/\IsL H a) (vt M3 C3 4 _ rfl) (C3.2 l4 ⟨_,hl4⟩) ⟨i4 l4 zzC,_,hl4⟩ λH4 ch4=>?_
   have C4:=C3.trans ch4
   refine ztP (g:=λa=>a ∈ f0++(f1++((l2::g2)++(f3++((l4::g4)++(l5::g5)))))/\IsL H a) (vt M3 C4 5 _ rfl) (C4.2 l5 ⟨_,hl5⟩) ⟨i5 l5 zzC,_,hl5⟩ λH5 ch5=>?_
   have C5:=C4.trans ch5
   exact fin σ3 H5 M3 (C5.mono λa z=>z.1) λa m z=>by
    by_cases hI:IsL H a
    · obtain⟨us,y⟩:=C5.2 a hI;rw[z]at y;cases y
    · rw[C5.1 a λy=>hI y.2]at z;exact nz a m z)
end
abbrev InR(n:Nat)(x:Int):Prop:=0<=x/\x<(n:Int)
structure LJ(n:Nat)(j:Int->Int->Int)(e:Int):Prop where
 cl:∀a b,InR n a->InR n b->InR n (j a b)
 ce:InR n e
 ul:∀a,InR n a->j e a=a
 ur:∀a,InR n a->j a e=a
 as:∀a b c,InR n a->InR n b->InR n c->j (j a b) c=j a (j b c)
structure LD(n m:Nat)(j:Int->Int->Int)(e:Int)(d:Int->Int->Int):Prop where
 cl:∀c a,InR m c->InR n a->InR n (d c a)
 em:d 0 e=e
 dn:∀a i b k,InR n a->InR m i->InR n b->InR m k->d ((i+k)%m) (j a b)=j (d i a) (d k b)
theorem zgu{x:Int}{n:Nat}(hn:0<n):InR n (x%n):=⟨zyK _ (by omega),zyE _ (by omega)⟩
theorem LD.congr{n m:Nat}{j j':Int->Int->Int}{e:Int}{d d':Int->Int->Int}(hm:0<m)(hj:LJ n j e)(h:LD n m j e d)(q:∀a b,InR n a->InR n b->j' a b=j a b)(p:∀c a,InR m c->InR n a->d' c a=d c a):LD n m j' e d':=by
 refine⟨λc a hc ha=>by rw[p c a hc ha];exact h.cl c a hc ha,by rw[p 0 e ⟨by omega,by omega⟩ hj.ce];exact h.em,λa i b k ha hi hb hk=>?_⟩
 rw[q a b ha hb,p _ _ (zgu hm) (hj.cl a b ha hb),p i a hi ha,p k b hk hb,q _ _ (h.cl i a hi ha) (h.cl k b hk hb)]
 exact h.dn a i b k ha hi hb hk
def jS(n:Nat)(a b:Int):Int:=(a+b)%n
def jM(a b:Int):Int:=if b > a then b else a
def jL(a b:Int):Int:=if b=0 then a else b
theorem ljS{n:Nat}(hn:0<n):LJ n (jS n) 0:=by
 refine⟨λa b _ _=>zgu hn,⟨by omega,by omega⟩,λa ha=>?_,λa ha=>?_,λa b c _ _ _=>?_⟩
 · unfold jS;rw[Int.zero_add,Int.emod_eq_of_lt ha.1 ha.2]
 · unfold jS;rw[Int.add_zero,Int.emod_eq_of_lt ha.1 ha.2]
 · unfold jS;rw[Int.emod_add_emod,Int.add_emod_emod,Int.add_assoc]
theorem ljM{n:Nat}(hn:0<n):LJ n jM 0:=by
 refine⟨λa b ha hb=>?_,⟨by omega,by omega⟩,λa ha=>?_,λa ha=>?_,λa b c _ _ _=>?_⟩<;>unfold jM<;>(try unfold jM)<;>grind
theorem ljL{n:Nat}(hn:0<n):LJ n jL 0:=by
 refine⟨λa b ha hb=>?_,⟨by omega,by omega⟩,λa ha=>?_,λa ha=>?_,λa b c _ _ _=>?_⟩<;>unfold jL<;>grind
theorem four{P:Int->Prop}(h0:P 0)(h1:P 1)(h2:P 2)(h3:P 3){a:Int}(h:InR 4 a):P a:=by
 rcases(show a=0\/a=1\/a=2\/a=3 by have:=h.1;have:=h.2;omega)with rfl|rfl|rfl|rfl<;>assumption
theorem f4{P:Int->Prop}(h:∀a ∈ ([0,1,2,3]:List Int),P a){a:Int}(ha:InR 4 a):P a:=four (h 0 (by decide)) (h 1 (by decide)) (h 2 (by decide)) (h 3 (by decide)) ha
theorem ldS{n m:Nat}{g x0 x1:Int}(hn:0<n)(hm:0<m)(g0:0<g)(gn:g ∣ n)(gm:g ∣ m):LD n m (jS n) 0 (λc a=>(a*x0+c*((n:Int)/g)*x1)%n):=by
 refine⟨λc a _ _=>zgu hn,by simp,λa i b k _ _ _ _=>?_⟩
 obtain⟨t,ht⟩:=gm
 have h:(m:Int)*((n:Int)/g)=n*t:=by
  obtain⟨s,hs⟩:=gn
  rw[hs,Int.mul_ediv_cancel_left _ (by omega),ht];grind
 show(_:Int)=jS n _ _
 unfold jS
 rw[<-Int.add_emod]
 generalize (n:Int)/g=st at h
 rw[Int.emod_def (i+k) m,Int.emod_def (a+b) n]
 generalize (i+k)/(m:Int)=q
 generalize (a+b)/(n:Int)=p
 rw[show((a+b)-(n:Int)*p)*x0+((i+k)-(m:Int)*q)*st*x1=(a*x0+i*st*x1+(b*x0+k*st*x1))+(n:Int)*(-(p*x0)-t*q*x1) by grind,Int.add_mul_emod_self_left]
theorem ldM{n m:Nat}{r:Int->Int}(hm:0<m)(h0:r 0=0)(hc:∀a,InR n a->InR n (r a))(hr:∀a b,InR n a->InR n b->a<=b->r a<=r b):LD n m jM 0 (λ_ a=>r a):=by
 refine⟨λc a _ ha=>hc a ha,h0,λa i b k ha _ hb _=>?_⟩
 show r (jM a b)=jM (r a) (r b)
 unfold jM
 have h1:=hr a b ha hb
 have h2:=hr b a hb ha
 split<;>split<;>grind
theorem ldL{n m:Nat}{r:Int->Int}(h0:r 0=0)(hc:∀a,InR n a->InR n (r a))(hr:∀a,InR n a->a≠0->r a≠0):LD n m jL 0 (λ_ a=>r a):=by
 refine⟨λc a _ ha=>hc a ha,h0,λa i b k ha _ hb _=>?_⟩
 show r (jL a b)=jL (r a) (r b)
 unfold jL
 have h2:=hr b hb
 split<;>split<;>grind
theorem zti{n1 n2:Nat}{x y:Int}(hx:InR n1 x)(hy:InR n2 y):InR (n1*n2) (x*n2+y):=by
 have h1:0<=x*n2:=Int.mul_nonneg hx.1 (by omega)
 have h2:x*n2<=((n1:Int)-1)*n2:=Int.mul_le_mul_of_nonneg_right (by have:=hx.2;omega) (by omega)
 rw[Int.sub_mul,Int.one_mul]at h2
 refine⟨by have:=hy.1;omega, ?_⟩
 rw[zzS]
 have:=hy.2
 omega
theorem yq{n1 n2:Nat}{p:Int}(h2:0<n2)(h:InR (n1*n2) p):InR n1 (p/n2)/\InR n2 (p%n2):=
 ⟨⟨Int.ediv_nonneg h.1 (by omega),Int.ediv_lt_of_lt_mul (by omega) (by have:=h.2;rw[zzS]at this;exact this)⟩,zgu h2⟩
theorem zbf{n2:Nat}{x y:Int}(hy:InR n2 y):(x*n2+y)/n2=x/\(x*n2+y)%n2=y:=by
 have h0:(n2:Int)≠0:=by have:=hy.1;have:=hy.2;omega
 constructor
 · rw[Int.add_comm,Int.add_mul_ediv_right _ _ h0,Int.ediv_eq_zero_of_lt hy.1 hy.2,Int.zero_add]
 · rw[Int.add_comm,Int.add_mul_emod_self_right,Int.emod_eq_of_lt hy.1 hy.2]
theorem ztK{n2:Nat}{p:Int}:(p/n2)*n2+p%n2=p:=by rw[Int.mul_comm];exact Int.mul_ediv_add_emod p n2
def jB(n2:Nat)(j1 j2:Int->Int->Int)(p q:Int):Int:=j1 (p/n2) (q/n2)*n2+j2 (p%n2) (q%n2)
def dB(n2:Nat)(d1 d2:Int->Int->Int)(c p:Int):Int:=d1 c (p/n2)*n2+d2 c (p%n2)
theorem leN{n k:Nat}(h:n<=8)(hk:8<=k:=by decide):n<=k:=zzL h hk
theorem np1{n:Nat}(h:1<=n):(0:Int)<n:=Int.natCast_pos.mpr h
theorem tS{a:Int}{n:Nat}(h0:0<=a)(h1:a<n):a.toNat<n:=Int.ofNat_lt.mp (by rw[zyW h0];exact h1)
theorem mU{n:Nat}{k:Int}(h:n<=8)(hk:8<k:=by decide):(n:Int)<k:=Int.lt_of_le_of_lt (Int.ofNat_le.mpr h) hk
theorem iT{n:Nat}{x:Int}(h:InR n x):x.toNat<n:=Int.ofNat_lt.mp (by rw[zyW h.1];exact h.2)
theorem iC{n:Nat}{x:Int}(h:InR n x):((x.toNat:Nat):Int)=x:=zyW h.1
theorem zI(i:Nat):(0:Int)<=0+i:=by rw[Int.zero_add];exact Int.natCast_nonneg i
def rAt(r:List Int)(v:Int):Int:=(r[v.toNat]?).getD 0
def jAt(J:List (List Int))(w v:Int):Int:=rAt ((J[w.toNat]?).getD []) v
local macro_rules | `(tactic| trivial)=>`(tactic| first|with_reducible first|assumption|exact Int.natCast_nonneg _|exact Nat.le_refl _|exact Int.le_refl _|exact rfl|exact leN (by assumption)|exact np1 (by assumption)|exact np2 (by assumption)|exact nq1 (by assumption)|exact nq2 (by assumption)|exact Int.natCast_pos.mpr (by assumption)|exact Nat.le_trans (by assumption) (by decide)|exact bgL _|exact bgU (by assumption)|exact mU (by assumption)|exact zI _|exact bL0 (by assumption)|exact bU0 (by assumption) (by assumption)|exact iL (by assumption)|exact iU (by assumption) (by assumption)|exact iC (by assumption)|exact iT (by assumption)|exact stL (by assumption)|exact stU (by assumption)|exact lnK (by assumption) (by assumption) (by assumption)|exact zi1 _|exact lnE (by assumption)|exact ltL (by assumption)|exact Int.toNat_of_nonneg (by assumption)|exact tS (by assumption) (by assumption)|exact b6 (by assumption)|exact Int.emod_nonneg _ (by decide)|exact Int.emod_lt_of_pos _ (by decide)|decide|omega)
abbrev lfI(x:Int):O:=.lf true (.int x)
abbrev sI(x:Int):Option O:=some (lfI x)
abbrev sT(d:D):Option O:=some (.lf true d)
abbrev sN(os:List O):Option O:=some (.nd .ls os)
abbrev TZ:Type:=List (List Int)
abbrev DD:Type:=List (Str×TZ)
abbrev SS:Type:=List (Str×List Int)
theorem zkO{f:EF}{as as1:AS}{o:O}(h:f as=some (.ow o,as1))(hs:o.str=true):ym f as=some (.rt o):=by
 unfold ym;rw[h]
 show((if o.str=true then some o else none).bind _)=_
 rw[if_pos hs];rfl
theorem wW:∀xs:List Int,(xs.map lfI).all O.isLf=true/\O.strs (xs.map lfI)=true/\O.toDs (xs.map lfI)=xs.map D.int
 | []=>⟨rfl,rfl,rfl⟩
 |x::r=>⟨(wW r).1,(wW r).2.1,congrArg (D.int x :: ·) (wW r).2.2⟩
theorem zlj(xs:List Int):(xs.map D.int).map (O.lf true)=xs.map lfI:=by rw[zzY];rfl
theorem zbS(ys:List Int)(w:Int):(ys++[w]).map lfI=ys.map lfI++[O.lf true (.int w)]:=by rw[zyJ];rfl
theorem zah(xs:List Int):(O.nd .ls (xs.map lfI)).str=true/\(O.nd .ls (xs.map lfI)).toD = .lst (xs.map D.int):=⟨(wW xs).2.1,congrArg D.lst (wW xs).2.2⟩
abbrev Yg(r:List Int):O:=.nd .ls (r.map lfI)
abbrev yH(r:List Int):D:=.lst (r.map D.int)
theorem Xv:∀T:TZ,O.strs (T.map Yg)=true/\O.toDs (T.map Yg)=T.map yH
 | []=>⟨rfl,rfl⟩
 |r::T=>⟨by show(O.strs (r.map lfI)&&O.strs (T.map Yg))=true;rw[(wW r).2.1,(Xv T).1];rfl,by
  show D.lst (O.toDs (r.map lfI))::O.toDs (T.map Yg)=_
  rw[(wW r).2.2,(Xv T).2];rfl⟩
theorem VP{g:GF}{fe:EF}{as0 as1:AS}{y:It1}{r:List It1}{o:O}{os:List O}(h1:g y as0=some as1)(h2:fe as1=some (.ow o,as1))(hs:o.str=true)(h3:xr g yL fe as0 r=some os):xr g yL fe as0 (y::r)=some (o::os):=by
 unfold xr
 rw[h1];show((fe as1).bind _)=_
 rw[h2];show(if o.str=true then _ else _)=_
 rw[if_pos hs,h3];rfl
theorem yZ:∀(n:Nat) (k:Int),(xY k n).length=n
 |0,_=>rfl
 |n+1,k=>by rw[zgC];exact congrArg (· + 1) (yZ n (k+1))
theorem zeJ:∀{n:Nat}{k:Int}{y:It1},y ∈ xY k n->∃b:Int,y=(true,.int b)/\k<=b/\b<k+n
 |0,_,_,h=>nomatch h
 |n+1,k,y,h=>by
  rw[zgC]at h
  rcases zS.mp h with rfl|h
  · exact⟨k,rfl,by trivial,by trivial⟩
  · obtain⟨b,e,h1,h2⟩:=zeJ h
    exact⟨b,e,by trivial,by trivial⟩
def Row(n:Nat)(r:List Int):Prop:=r.length=n/\∀x ∈ r,0<=x/\x<(n:Int)
def Tab(k n:Nat)(T:TZ):Prop:=T.length=k/\∀r ∈ T,Row n r
abbrev yg(T:TZ):D:=.lst (T.map yH)
theorem zsX{r:List Int}{P:Int->Prop}{k:Int}(h0:0<=k)(h1:k<r.length)(hp:∀x ∈ r,P x):∃x,ixP (yH r) (.int k)=some (.im (.int x))/\P x:=by
 have hk:k.toNat<r.length:=by trivial
 refine⟨r[k.toNat], ?_,hp _ (zyX hk)⟩
 have h:=WW (xs:=r.map D.int) (j:=k.toNat) (v:=D.int r[k.toNat]) (by rw[zzF,zzB hk];rfl)
 rw[show((k.toNat:Nat):Int)=k by trivial]at h
 show imR (atI _ _)=_
 rw[h];rfl
theorem zie{α:Type}{f:α->D}{l:List α}{i:Nat}{p:α}(h:l[i]? = some p):ixP (.lst (l.map f)) (.int (i:Int))=some (.im (f p)):=by
 have h:=WW (xs:=l.map f) (j:=i) (v:=f p) (by rw[zzF,h];rfl)
 show imR (atI _ _)=_
 rw[h];rfl
theorem zsA{n k:Nat}{r:List Int}{v:Int}(hl:r.length=k)(hr:∀x ∈ r,InR n x)(hv:InR k v):ixP (yH r) (.int v)=some (.im (.int (rAt r v)))/\InR n (rAt r v):=by
 have hk:v.toNat<r.length:=by rw[hl];have:=hv.1;have:=hv.2;trivial
 have g:=zzB hk
 have e:rAt r v=r[v.toNat]:=by unfold rAt;rw[g];rfl
 rw[e]
 refine⟨?_,hr _ (zyX hk)⟩
 have:=zie (f:=D.int) g
 rw[show((v.toNat:Nat):Int)=v by have:=hv.1;trivial]at this
 exact this
abbrev zhI(T:TZ)(w:Int):List Int:=(T[w.toNat]?).getD []
theorem Zf{k n:Nat}{T:TZ}{w:Int}(hT:Tab k n T)(hw:InR k w):ixP (yg T) (.int w)=some (.im (yH (zhI T w)))/\Row n (zhI T w):=by
 have hk:w.toNat<T.length:=by rw[hT.1];have:=hw.1;have:=hw.2;trivial
 have g:=zzB hk
 unfold zhI
 rw[g]
 refine⟨?_,hT.2 _ (zyX hk)⟩
 have:=zie (f:=yH) g
 rw[show((w.toNat:Nat):Int)=w by have:=hw.1;trivial]at this
 exact this
theorem rowAt{n:Nat}{r:List Int}{v:Int}(hr:Row n r)(hv:InR n v):ixP (yH r) (.int v)=some (.im (.int (rAt r v)))/\InR n (rAt r v):=zsA hr.1 hr.2 hv
theorem zkI{α:Type}(toD:α->D){Q:Nat->α->Prop}{g:GF}{fe:EF}{as0:AS}:∀{xs:List It1}(k:Nat),(∀i y,xs[i]? = some y->∃as1 a,g y as0=some as1/\WE fe as1 (toD a)/\Q (k+i) a)->∃(os:List O) (l:List α),xr g yL fe as0 xs=some os/\O.strs os=true/\O.toDs os=l.map toD/\l.length=xs.length/\∀i a,l[i]? = some a->Q (k+i) a
 | [],k,_=>⟨[],[],rfl,rfl,rfl,rfl,λi a h=>by simp at h⟩
 |y::xs,k,H=>by
  obtain⟨as1,a,h1,⟨o,h2,h3,h4⟩,h5⟩:=H 0 y rfl
  obtain⟨os,l,a1,a2,a3,a4,a5⟩:=zkI toD (Q:=Q) (g:=g) (fe:=fe) (as0:=as0) (xs:=xs) (k+1) λi z m=>by
   have:=H (i+1) z (by simpa using m)
   rwa [show k+(i+1)=k+1+i by trivial]at this
  refine⟨o::os,a::l,VP h1 h2 h3 a1,by show(o.str&&O.strs os)=true;rw[h3,a2];rfl,by show o.toD::O.toDs os=_;rw[h4,a3];rfl,congrArg (· + 1) a4,λi b m=>?_⟩
  cases i with
  |zero=>simp at m;subst m;exact h5
  |succ i=>
   have:=a5 i b (by simpa using m)
   rwa [show k+1+i=k+(i+1) by trivial]at this
theorem zmB{α:Type}(toD:α->D){Q:Nat->α->Prop}{fi:IF}{cap:List (Option Nat)}{g:GF}{fe:EF}{as:AS}{xs:List It1}(h1:fi as=some (xs,as))(hl:xs.length<=1000)(H:∀i y,xs[i]? = some y->∃as1 a,g y (YH cap as)=some as1/\WE fe as1 (toD a)/\Q i a):
 ∃l:List α,l.length=xs.length/\(∀i a,l[i]? = some a->Q i a)/\WE (zY fi cap g yL fe) as (.lst (l.map toD)):=by
 obtain⟨os,l,a1,a2,a3,a4,a5⟩:=zkI toD (Q:=Q) (g:=g) (fe:=fe) (as0:=YH cap as) 0 (λi y h=>by rw[zyV];exact H i y h)
 exact⟨l,a4,(λi a h=>by have:=a5 i a h;rwa [zyV]at this),_,zbe h1 (szs (by trivial)) a1,a2,congrArg D.lst a3⟩
abbrev zmO(N n:Nat)(f:Int->Int)(r:List Int):Prop:=r.length=n/\(∀x ∈ r,InR N x)/\∀b,InR n b->rAt r b=f b
abbrev zsN(k n:Nat)(f:Int->Int->Int)(T:TZ):Prop:=Tab k n T/\∀a b,InR k a->InR n b->jAt T a b=f a b
theorem zoN{N n:Nat}{f:Int->Int}{l:List Int}(hl:l.length=n)(h:∀(i:Nat) a,l[i]? = some a->a=f i/\InR N a):zmO N n f l:=by
 refine⟨hl,λx m=>?_,λb hb=>?_⟩
 · obtain⟨i,hi⟩:=List.getElem?_of_mem m
   exact(h i x hi).2
 · have hk:b.toNat<l.length:=by rw[hl];have:=hb.1;have:=hb.2;trivial
   have g:=zzB hk
   unfold rAt
   rw[g]
   show l[b.toNat]=_
   rw[(h _ _ g).1,show((b.toNat:Nat):Int)=b by have:=hb.1;trivial]
theorem zpX{k n:Nat}{f:Int->Int->Int}{l:TZ}(hl:l.length=k)(h:∀(i:Nat) r,l[i]? = some r->zmO n n (f i) r):zsN k n f l:=by
 refine⟨⟨hl,λx m=>?_⟩,λa b ha hb=>?_⟩
 · obtain⟨i,hi⟩:=List.getElem?_of_mem m
   exact⟨(h i x hi).1,(h i x hi).2.1⟩
 · have hk:a.toNat<l.length:=by rw[hl];have:=ha.1;have:=ha.2;trivial
   have g:=zzB hk
   unfold jAt
   rw[g]
   show rAt l[a.toNat] b=_
   have:=(h _ _ g).2.2 b hb
   rw[show((a.toNat:Nat):Int)=a by have:=ha.1;trivial]at this
   exact this
theorem zkJ{f:Int->Int}{N:Nat}{fr:AF}{cap:List (Option Nat)}{fe:EF}{as:AS}{n:Nat}{u:Bool}(h1:WA fr as [(u,.int n)])(hl:n<=1000)(H:∀b:Int,InR n b->∃as1,gN 0 (true,.int b) (YH cap as)=some as1/\WE fe as1 (.int (f b))/\InR N (f b)):
 ∃r:List Int,zmO N n f r/\WE (zY (yM fr yP) cap (gN 0) yL fe) as (yH r):=by
 obtain⟨l,a1,a2,a3⟩:=zmB D.int (Q:=λi a=>a=f i/\InR N a) (cap:=cap) (g:=gN 0) (fe:=fe) (vq h1 (by trivial) (by trivial)) (by rw[yZ];trivial) (λi y m=>by
  obtain⟨rfl,hi⟩:=vd m
  obtain⟨as1,b1,b2,b3⟩:=H (0+i) ⟨by trivial,by trivial⟩
  exact⟨as1,f (0+i),b1,b2,by rw[Int.zero_add],b3⟩)
 rw[yZ]at a1
 exact⟨l,zoN (by trivial) a2,a3⟩
theorem zld{f:Int->Int->Int}{n:Nat}{fr:AF}{cap:List (Option Nat)}{fe:EF}{as:AS}{k:Nat}{u:Bool}(h1:WA fr as [(u,.int k)])(hl:k<=1000)(H:∀b:Int,InR k b->∃as1 r,gN 0 (true,.int b) (YH cap as)=some as1/\WE fe as1 (yH r)/\zmO n n (f b) r):
 ∃T:TZ,zsN k n f T/\WE (zY (yM fr yP) cap (gN 0) yL fe) as (yg T):=by
 obtain⟨l,a1,a2,a3⟩:=zmB yH (Q:=λi r=>zmO n n (f i) r) (cap:=cap) (g:=gN 0) (fe:=fe) (vq h1 (by trivial) (by trivial)) (by rw[yZ];trivial) (λi y m=>by
  obtain⟨rfl,hi⟩:=vd m
  obtain⟨as1,r,b1,b2,b3⟩:=H (0+i) ⟨by trivial,by trivial⟩
  rw[Int.zero_add]at b3
  exact⟨as1,r,b1,b2,b3⟩)
 rw[yZ]at a1
 exact⟨l,zpX (by trivial) a2,a3⟩
theorem zkq:∀(b:Nat) (a:Int) (f:Nat),b<f->0<a->a<1000->b<1000->∃g e,0<g/\g<1000/\g ∣ a/\g ∣ (b:Int)/\whL (fT (f2 (fV 1) (fC (.int 0)) (zO .Gt))) (zol 0 1 (dC (fV 1) (dC (f2 (fV 0) (fV 1) (zm .Mod)) dN))) f [sI a,sI b]=some (.nx [sI g,e]):=by
 intro b
 induction b using Nat.strongRecOn with
 |ind b ih=>
  intro a f hf ha ha2 hb2
  cases f with
  |zero=>trivial
  |succ f=>
   by_cases hb:b=0
   · subst hb
     exact⟨a,_,ha,ha2,Int.dvd_refl a,Int.dvd_zero a,zrB (Zg (zgP (zb rfl) zf) rfl)⟩
   · have m0:=zyK a (show(b:Int)≠0 by trivial)
     have m1:=zyE a (show(0:Int)<b by trivial)
     obtain⟨g,e,g0,g1,d1,d2,hg⟩:=ih (a%b).toNat (by trivial) b f (by trivial) (by trivial) (by trivial) (by trivial)
     rw[show(((a%b).toNat:Nat):Int)=a%b by trivial]at hg d2
     refine⟨g,e,g0,g1, ?_,d1,zte (Zg (zgP (zb rfl) zf) (congrArg some (zyL (show(0:Int)<b by trivial)))) (zsY (zT (zb rfl) (zT (yt (zb rfl) (zb rfl) (by trivial)) yK)) (zF rfl) (zF rfl)) hg⟩
     rw[<-Int.mul_ediv_add_emod a b]
     exact Int.dvd_add (Int.dvd_trans d1 (Int.dvd_mul_right _ _)) d2
theorem strs_snoc:∀(os:List O) (o:O),O.strs os=true->o.str=true->O.strs (os++[o])=true
 | [],o,_,h=>by show(o.str&&true)=true;rw[h];rfl
 |p::r,o,h,h'=>by
  have h:=(zzZ _ _).mp (show(p.str&&O.strs r)=true from h)
  show(p.str&&O.strs (r++[o]))=true
  rw[h.1,strs_snoc r o h.2 h'];rfl
theorem zgJ:∀(os:List O) (o:O),O.toDs (os++[o])=O.toDs os++[o.toD]
 | [],o=>rfl
 |p::r,o=>congrArg (p.toD :: ·) (zgJ r o)
structure Ows{α:Type}(toD:α->D)(Q:α->Prop)(os:List O)(l:List α):Prop where
 st:O.strs os=true
 ds:O.toDs os=l.map toD
 al:∀a ∈ l,Q a
 ln:os.length=l.length
theorem Ows.nil{α:Type}{toD:α->D}{Q:α->Prop}:Ows toD Q [] []:=⟨rfl,rfl,(λ_ m=>nomatch m),rfl⟩
theorem Ows.snoc{α:Type}{toD:α->D}{Q:α->Prop}{os:List O}{l:List α}{o:O}{a:α}(h:Ows toD Q os l)(h1:o.str=true)(h2:o.toD=toD a)(h3:Q a):Ows toD Q (os++[o]) (l++[a]):=
 ⟨strs_snoc os o h.st h1,(by rw[zgJ,h.ds,h2,zyJ];rfl),(λb m=>(zzJ.mp m).elim (h.al b) λm=>(by rw[zzO.mp m];exact h3)),(by rw[zzG,zzG,h.ln];rfl)⟩
theorem zeI{as as1:AS}{a:EF}{i:Nat}{os0 os:List O}{o:O}(h:as[i]? = some (sN os0))(ha:a as=some (.ow o,as1))(h1:as1[i]? = some (sN os))(hl:os.length<sizeLine):vI (ZC i (dC a dN) Z2) as=some (.nx (as1.set i (sN (os++[o])))):=by
 unfold vI ZC;rw[h]
 have e:dC a dN as=some ([o],as1):=wY ha rfl
 show((dC a dN as).bind _).bind _=_
 rw[e];show(Option.bind (match as1[i]? with|some (some (.nd .ls os))=>_|_=>none) _)=_
 rw[h1];show((Z2 os [o]).bind _).bind _=_
 have e2:Z2 os [o]=some (os++[o],.lf true .non):=by unfold Z2;exact if_pos hl
 rw[e2];rfl
theorem zvi{α:Type}{toD:α->D}{Q:α->Prop}{as:AS}{a:EF}{i:Nat}{os:List O}{l:List α}{x:α}(h:as[i]? = some (sN os))(ho:Ows toD Q os l)(hl:l.length<1000)(ha:WE a as (toD x))(hx:Q x):
 ∃os',Ows toD Q os' (l++[x])/\vI (ZC i (dC a dN) Z2) as=some (.nx (as.set i (sN os'))):=by
 obtain⟨o,h1,h2,h3⟩:=ha
 exact⟨os++[o],ho.snoc h2 h3 hx,zeI h h1 h (by rw[ho.ln];exact yO (by trivial))⟩
theorem Ows.retB{α:Type}{toD:α->D}{Q:α->Prop}{as:AS}{i:Nat}{os:List O}{l:List α}(h:as[i]? = some (sN os))(ho:Ows toD Q os l):Rt (ym (fV i) as) (.lst (l.map toD)):=
 ⟨_,zlv h ho.st,ho.st,congrArg D.lst ho.ds⟩
structure OwsX{α:Type}(toD:α->D)(Q:Nat->α->Prop)(os:List O)(l:List α):Prop where
 st:O.strs os=true
 ds:O.toDs os=l.map toD
 al:∀i a,l[i]? = some a->Q i a
 ln:os.length=l.length
theorem zqI{fr:AF}{as:AS}{rs:List (Bool×D)}{g:List D->Option R0}{zs:List D}(ha:WA fr as rs)(hg:g (rs.map (·.2))=some (.fl zs)):fP fr g as=some (.ow (.nd .ls (zs.map (lfs (rs.all (·.1))))),as):=by
 unfold fP;unfold WA at ha
 rw[ha];show(views as _).bind _=_
 rw[YW];show(g _).bind _=_
 rw[hg]
 show(if(zs.all zL||(some (rs.all (·.1))).isSome)=true then _ else _:Option RV).bind _=_
 rw[if_pos (by simp)];rfl
theorem zog{a:EF}{as:AS}{x:D}{g:List D->Option R0}{zs:List D}(ha:WE a as x)(hg:g [x]=some (.fl zs)):fP (aC a aN) g as=some (.ow (.nd .ls (zs.map (O.lf true))),as):=by
 have:=zqI (g:=g) (WF ha (zX (as:=as))) hg
 rw[show([(true,x)].all (·.1))=true from rfl,XR]at this
 exact this
theorem zng{a:EF}{as:AS}{s:Bool}{r:List Int}(h:WD a as s (yH r)):fP (aC a aN) lstP as=some (.ow (Yg r),as):=by
 have:=zqI (g:=lstP) (zG h (zX (as:=as))) rfl
 rw[zzY]at this
 exact this
theorem zsw{a:EF}{as:AS}{s:Bool}{r:List Int}(h:WD a as s (yH r)):WE (fP (aC a aN) lstP) as (yH r):=⟨_,zng h,(zah r).1,(zah r).2⟩
theorem zmT{a b c d:EF}{as:AS}{x y z u w:D}{g:List (Bool×D)->Option O}(ha:WE a as x)(hb:WE b as y)(hc:WE c as z)(hd:WE d as u)(hg:RE (g [(true,x),(true,y),(true,z),(true,u)]) w):WE (zE (aC a (aC b (aC c (aC d aN)))) g) as w:=by
 obtain⟨o,h1,h2⟩:=hg
 exact⟨o,W5 (WF ha (WF hb (WF hc (WF hd zX)))) (by show g [(zL x||true,x),(zL y||true,y),(zL z||true,z),(zL u||true,u)]=_;rw[zyA,zyA,zyA,zyA];exact h1),h2⟩
theorem zuB{fr:DF}{as:AS}{os:List O}{x:D}(h:WO fr as os)(hl:os.length<=sizeLine)(hs:O.strs os=true)(e:D.tup (O.toDs os)=x):WE (wM fr) as x:=by
 refine⟨_,zcQ h hl, ?_, ?_⟩
 · unfold YB
   split
   · exact hs
   · exact hs
 · unfold YB
   split
   · exact e
   · exact e
theorem copies{n m:Nat}{fr:AF}{cap:List (Option Nat)}{as:AS}{u s:Bool}{r:List Int}(hr:Row n r)(hm:m<=8)(h1:WA fr as [(u,.int m)])(h2:∀b:Int,∃as1,gN 0 (true,.int b) (YH cap as)=some as1/\WD (fV 1) as1 s (yH r)):
 ∃T,zsN m n (λ_ a=>rAt r a) T/\WE (zY (yM fr yP) cap (gN 0) yL (fP (aC (fV 1) aN) lstP)) as (yg T):=
 zld (f:=λ_ a=>rAt r a) (n:=n) (k:=m) (cap:=cap) (fe:=fP (aC (fV 1) aN) lstP) h1 (by trivial) λb _=>by
  obtain⟨as1,g1,g2⟩:=h2 b
  exact⟨as1,r,g1,zsw g2,hr.1,hr.2,λ_ _=>rfl⟩
theorem zlJ{l:List Int}(h:l.Pairwise (· <= ·)){i j:Nat}(hij:i<j)(hj:j<l.length):l[i]<=l[j]:=List.pairwise_iff_getElem.mp h i j (by trivial) hj hij
theorem YJ{r:List Int}{a:Int}(h:a.toNat<r.length):rAt r a=r[a.toNat]:=by unfold rAt;rw[zzB h];rfl
theorem zjl:∀l:List Int,Vy (l.map D.int)=some l
 | []=>rfl
 |x::r=>by
  show(Vy (r.map D.int)).bind _=_
  rw[zjl r];rfl
theorem zrh{as:AS}{i:Nat}{os:List O}{fl fh:OF}{lo hi:Option Int}(h:as[i]? = some (sN os))(hl:os.all O.isLf=true)(hs:O.strs os=true)(h1:fl as=some (lo,as))(h2:fh as=some (hi,as)):
 fSl (fV i) fl fh slP as=some (.ow (.nd .ls ((cutD (O.toDs os) lo hi).map (O.lf true))),as):=by
 unfold fSl
 rw[zhh h];show((fl as).bind _)=_
 rw[h1];show((fh as).bind _)=_
 rw[h2];show((RV.view as (.bo i)).bind _)=_
 rw[zeG h]
 have e:(O.nd .ls os).kl=some true:=by simp only[O.kl,hl,if_true,hs]
 rw[e]
 show(wrap (some true) (.fl (cutD (O.toDs os) lo hi))).bind _=_
 show(if((cutD (O.toDs os) lo hi).all zL||true)=true then some (RV.ow (.nd .ls ((cutD (O.toDs os) lo hi).map (lfs true))))else none:Option RV).bind _=_
 rw[if_pos (by simp),XR];rfl
theorem Ows.frz{α:Type}{toD:α->D}{Q:α->Prop}{os:List O}{l:List α}(h:Ows toD Q os l):(O.nd .ls os).frz = .lf true (.lst (l.map toD)):=by
 show O.lf (O.strs os) (.lst (O.toDs os))=_
 rw[h.st,h.ds]
theorem zjJ{as as2:AS}{j:Nat}{ps:List O}{fr:DF}{os:List O}(hj:as[j]? = some (sN ps))(hr:fr (as.set j (some (O.nd .ls ps).frz))=some (os,as2)):dC (fV j) fr as=some ((O.nd .ls ps).frz::os,as2):=by
 unfold dC
 rw[zhh hj]
 show((toO as (.bo j)).bind _)=_
 rw[ztl hj]
 show(fr (as.set j (some (O.nd .ls ps).frz))).bind _=_
 rw[hr];rfl
theorem zhz{as as1:AS}{fr:DF}{os:List O}(h:fr as=some (os,as1))(hl:os.length<=sizeLine):wM fr as=some (.ow (YB os),as1):=by
 unfold wM
 rw[h];show(if os.length<=sizeLine then _ else _)=_
 rw[if_pos hl]
theorem zfM:∀(l:List Int) (k:Nat) (h:k<l.length),(l[k]::l.eraseIdx k).Perm l
 |x::r,0,_=>List.Perm.refl _
 |x::r,k+1,h=>(List.Perm.swap _ _ _).trans ((zfM r k (by simpa using h)).cons x)
abbrev Ys(n:Nat):List Int:=(List.range n).map λ(i:Nat)=>(i:Int)
abbrev wA(p:Str×List Int):D:=.tup [.str p.1,yH p.2]
theorem zmI{x y:Int}{c:Bool}:ixP (.lst [.int x,.int y]) (.int (if c=true then 1 else 0))=some (.im (.int (if c=true then y else x))):=by cases c<;>rfl
abbrev abc:Str:="abcdefghijklmnopqrstuvwxyz"
theorem zpP:∀k,k<26->abc.cps.toList[k]? = some (97+k):=by decide +kernel
theorem ztd{i:Int}(h0:0<=i)(h1:i<26):ixP (.str abc) (.int i)=some (.im (.str ⟨#[97+i.toNat]⟩)):=by
 show(if abc.length<=sizeLine then(atI abc.cps.toList i).bind (λc=>some (R0.im (.str ⟨#[c]⟩)))else none)=_
 rw[if_pos (show abc.length<=sizeLine by decide +kernel)]
 have:=WW (zpP i.toNat (by trivial))
 rw[show((i.toNat:Nat):Int)=i by trivial]at this
 rw[this];rfl
theorem zjC:∀l:List Str,zdG (l.map D.str)=some l
 | []=>rfl
 |x::r=>by
  show(zdG (r.map D.str)).bind _=_
  rw[zjC r];rfl
theorem zum:∀l:List Str,(∀s ∈ l,s.length=1)->(l.map (·.length)).sum=l.length
 | [],_=>rfl
 |x::r,h=>by
  show x.length+(r.map (·.length)).sum=r.length+1
  rw[h x (zzC ..),zum r λs m=>h s (zzA _ m)];trivial
theorem zoX{α:Type}(toD:α->D){Q:Nat->α->Prop}{fr:AF}{cap:List (Option Nat)}{fe:EF}{as:AS}{n:Nat}{u:Bool}(h1:WA fr as [(u,.int n)])(hl:n<=1000)(H:∀i:Nat,i<n->∃as1 a,gN 0 (true,.int (i:Int)) (YH cap as)=some as1/\WE fe as1 (toD a)/\Q i a):
 ∃l:List α,l.length=n/\(∀i a,l[i]? = some a->Q i a)/\WE (zY (yM fr yP) cap (gN 0) yL fe) as (.lst (l.map toD)):=by
 obtain⟨l,a1,a2,a3⟩:=zmB toD (Q:=Q) (cap:=cap) (g:=gN 0) (fe:=fe) (vq h1 (by trivial) (by trivial)) (by rw[yZ];trivial) (λi y m=>by
  obtain⟨rfl,hi⟩:=vd m
  rw[Int.zero_add]
  exact H i (by trivial))
 rw[yZ]at a1
 exact⟨l,by trivial,a2,a3⟩
theorem Y9{F:List Int}{n:Nat}(h:F.Perm (Ys n)):Row n F/\∀b:Int,0<=b->b<n->b ∈ F:=by
 refine⟨⟨by rw[h.length_eq,zD,zyR],λx m=>?_⟩,λb b0 b1=>h.mem_iff.mpr ?_⟩
 · obtain⟨i,hi,rfl⟩:=zxB.mp (h.mem_iff.mp m)
   have:=List.mem_range.mp hi
   trivial
 · exact zxB.mpr ⟨b.toNat,List.mem_range.mpr (by trivial),by trivial⟩
theorem ziY{F:List Int}{n:Nat}(h:F.Perm (Ys n)){v w:Int}(hv:InR n v)(hw:InR n w)(e:rAt F v=rAt F w):v=w:=by
 have hl:=(Y9 h).1.1
 have v0:=hv.1
 have v1:=hv.2
 have w0:=hw.1
 have w1:=hw.2
 have nd:F.Nodup:=by
  refine h.nodup_iff.mpr (List.pairwise_map.mpr (List.nodup_range.imp λz q=>z (by trivial)))
 rw[YJ (by trivial),YJ (by trivial)]at e
 have:=(List.getElem_inj nd).mp e
 trivial
theorem zoU{f:EF}{g:GF}{as as':AS}{x:D}(h:WE f as x)(hg:g (true,x) as=some as'):zfH f g as=some (.nx as'):=by
 obtain⟨o,h1,h2,h3⟩:=h
 exact zsT h1 (by rw[h2,h3];exact hg)
abbrev wB(p:Str×TZ):D:=.tup [.str p.1,yg p.2]
structure Alg(n m:Nat)(J:TZ)(e:Int)(Ds:DD):Prop where
 n1:1<=n
 n8:n<=8
 m1:1<=m
 m6:m<=6
 j:Tab n n J
 e0:0<=e
 en:e<n
 dl:Ds.length<=6
 ds:∀p ∈ Ds,Tab m n p.2
 nd:(Ds.map (·.1)).Nodup
structure LawA(n m:Nat)(J:TZ)(e:Int)(Ds:DD):Prop where
 lj:LJ n (jAt J) e
 ld:∀p ∈ Ds,LD n m (jAt J) e (jAt p.2)
abbrev yc(n m:Nat)(J:TZ)(e:Int)(Ds:DD)(S:SS):D:=.tup [.int n,.int m,yg J,.int e,.lst (Ds.map wB),.lst (S.map wA)]
theorem zsx{f:EF}{as:AS}{k:Int}(h:WD f as true (.int k)):oS f as=some (some k,as):=by
 unfold oS
 unfold WD at h
 rw[h];rfl
abbrev Ze(T:TZ):O:=.nd .ls (T.map Yg)
theorem zdf{as:AS}{i:Nat}{k:Int}{s:Bool}(h:as[i]? = some (some (.lf s (.int k)))):xV i as=some k:=by
 unfold xV;rw[zly (f:=zfl) h rfl];rfl
theorem zrH{r:List Int}{k:Int}(h:k.toNat<r.length):(r.map lfI)[k.toNat]? = sT (.int r[k.toNat]):=by
 rw[zzF,zzB h];rfl
theorem zlK{as:AS}{i:Nat}{f1 f2 fv:IXF}{k1 k2 c:Int}{T:TZ}{r:List Int}(h1:f1 as=some k1)(h2:f2 as=some k2)(hv:fv as=some c)(p1:0<=k1)(p2:0<=k2)(hi:as[i]? = some (some (Ze T)))(hr:T[k1.toNat]? = some r)(hk:k2.toNat<r.length):
 zbj i f1 f2 fv as=some (.nx (as.set i (some (Ze (T.set k1.toNat (r.set k2.toNat c)))))):=by
 have e1:(T.map Yg)[k1.toNat]? = sN (r.map lfI):=by rw[zzF,hr];rfl
 have e2:=zrH hk
 have e3:(T.map Yg).set k1.toNat (.nd .ls ((r.map lfI).set k2.toNat (.lf true (.int c))))=(T.set k1.toNat (r.set k2.toNat c)).map Yg:=by
  rw[List.map_set]
  show _=(T.map Yg).set k1.toNat (.nd .ls ((r.set k2.toNat c).map lfI))
  rw[List.map_set]
 unfold zbj
 simp only[h1,h2,hv,zyI,if_pos (show 0<=k1/\0<=k2 from⟨p1,p2⟩),(zly hi rfl:slO zjH as i=some (T.map Yg)),(zla e1 rfl:atO zjH _ _=some (r.map lfI)),(zla e2 rfl:atO zfl _ _=some (.int r[k2.toNat])),e3]
theorem zoI{n i:Nat}{r:List Int}{c:Int}(hr:Row n r)(hc:InR n c):Row n (r.set i c):=by
 refine⟨by rw[zzR];exact hr.1,λx m=>?_⟩
 rcases List.mem_or_eq_of_mem_set m with m|rfl
 · exact hr.2 x m
 · exact hc
theorem zpG{k n i:Nat}{T:TZ}{r:List Int}(hT:Tab k n T)(hr:Row n r):Tab k n (T.set i r):=by
 refine⟨by rw[zzR];exact hT.1,λx m=>?_⟩
 rcases List.mem_or_eq_of_mem_set m with m|rfl
 · exact hT.2 x m
 · exact hr
theorem zkY(T:TZ):(Ze T).frz = .lf true (yg T):=by
 show O.lf (O.strs _) (.lst (O.toDs _))=_
 rw[(Xv T).1,(Xv T).2]
theorem zjQ{n:Nat}{J:TZ}{w v:Int}(hJ:Tab n n J)(hw:InR n w)(hv:InR n v):InR n (jAt J w v):=(rowAt (Zf hJ hw).2 hv).2
theorem zsh{a b c:EF}{as:AS}{n:Nat}{J:TZ}{w v:Int}(hJ:Tab n n J)(hw:InR n w)(hv:InR n v)(ha:WD a as true (yg J))(hb:WD b as true (.int w))(hc:WD c as true (.int v)):WD (f2 (f2 a b ixP) c ixP) as true (.int (jAt J w v)):=
 yp (zcG ha hb (Zf hJ hw).1) hc (rowAt (Zf hJ hw).2 hv).1 rfl
theorem ztw{fr:AF}{as:AS}{rs:List (Bool×D)}{g:List D->Option R0}{kvs:List (Key×D)}(ha:WA fr as rs)(hg:g (rs.map (·.2))=some (.fd kvs)):fP fr g as=some (.ow (.nd (.dc (kvs.map (·.1))) ((kvs.map (·.2)).map (lfs (rs.all (·.1))))),as):=by
 unfold fP;unfold WA at ha
 rw[ha];show(views as _).bind _=_
 rw[YW];show(g _).bind _=_
 rw[hg]
 show(if((kvs.map (·.2)).all zL||(some (rs.all (·.1))).isSome)=true then _ else _:Option RV).bind _=_
 rw[if_pos (by simp)];rfl
abbrev RT(o:O):Prop:=o.str=true/\∃ds,o.toD = .tup ds
theorem zkK{g:GF}{f:SF}(I:AS->Prop)(P:It1->Prop):∀(xs:List It1) (as:AS),(∀x ∈ xs,∀as,I as->∃as1,g x as=some as1/\((∃as2,f as1=some (.nx as2)/\I as2/\P x)\/∃o,f as1=some (.rt o)/\RT o/\¬P x))->I as->
 (∃as',forL g f xs as=some (.nx as')/\I as'/\∀x ∈ xs,P x)\/∃o,forL g f xs as=some (.rt o)/\RT o/\¬ ∀x ∈ xs,P x
 | [],as,_,h=>.inl ⟨as,rfl,h,λ_ m=>nomatch m⟩
 |x::r,as,H,h=>by
  obtain⟨as1,h1,h2⟩:=H x (zzC ..) as h
  rcases h2 with⟨as2,h2,h3,h4⟩|⟨o,h2,h3,h4⟩
  · rcases zkK I P r as2 (λy m=>H y (zzA _ m)) h3 with⟨as',k1,k2,k3⟩|⟨o,k1,k2,k3⟩
    · refine .inl ⟨as',zcK h1 h2 k1,k2,λy m=>?_⟩
      rcases zS.mp m with rfl|m
      · exact h4
      · exact k3 y m
    · exact .inr ⟨o,zcK h1 h2 k1,k2,λz=>k3 λy m=>z y (zzA _ m)⟩
  · exact .inr ⟨o,zoj h1 h2,h3,λz=>h4 (z x (zzC ..))⟩
abbrev zmm(r:Option Out)(I:AS->Prop)(P:Prop):Prop:=(∃as',r=some (.nx as')/\I as'/\P)\/∃o,r=some (.rt o)/\RT o/\¬P
theorem zmm.imp{r:Option Out}{I:AS->Prop}{P Q:Prop}(h:zmm r I P)(k:P ↔ Q):zmm r I Q:=by
 rcases h with⟨a,b,c,d⟩|⟨a,b,c,d⟩
 · exact .inl ⟨a,b,c,k.mp d⟩
 · exact .inr ⟨a,b,c,λz=>d (k.mpr z)⟩
theorem zrL{v n:Nat}{f fr:SF}(I:AS->Prop)(P:Int->Prop)(H:∀b,InR n b->∀as,I as->∃as1,gN v (true,.int b) as=some as1/\zmm (f as1) I (P b)){as:AS}(h:I as):zmm (forL (gN v) f (xY 0 n) as) I (∀b,InR n b->P b):=by
 have k:=zkK (g:=gN v) (f:=f) I (λx=>∀b,x=(true,.int b)->P b) (xY 0 n) as (λx m as hI=>by
  obtain⟨b,rfl,b0,b1⟩:=zeJ m
  obtain⟨as1,h1,h2⟩:=H b ⟨b0,by trivial⟩ as hI
  exact⟨as1,h1,h2.imp ⟨λp c e=>by cases e;exact p,λp=>p b rfl⟩⟩) h
 refine zmm.imp k ⟨λp b hb=>p (true,.int b) ?_ b rfl,λp x m b e=>?_⟩
 · have hb0:=hb.1
   have hb1:=hb.2
   refine zzX (i:=b.toNat) ?_
   unfold xY
   rw[zzF,List.getElem?_range (by trivial)]
   show some (true,D.int (0+(b.toNat:Int)))=_
   rw[show(0:Int)+(b.toNat:Int)=b by trivial]
 · subst e
   obtain⟨c,e,c0,c1⟩:=zeJ m
   cases e
   exact p b ⟨c0,by trivial⟩
theorem vp{v n:Nat}{g:GF}{f:SF}{as:AS}{s:Bool}(h:as[v]? = some (some (.lf s (.int n))))(hn:n<=1000):xJ (yM (aC (fV v) aN) yP) g f as=forL g f (xY 0 n) as:=
 vY (vq (zG (zb h) zX) (by trivial) (by trivial)) (by rw[zyF])
theorem zjM{a b:EF}{as:AS}{x y:Int}{s t:Bool}(ha:WD a as s (.int x))(hb:WD b as t (.int y)):WT (fT (f2 a b (zO .NotEq))) as (!(x==y)):=Zg (ztM (c:=x==y) ha hb rfl) rfl
abbrev UnA(n:Nat)(J:TZ)(e:Int):Prop:=∀a,InR n a->jAt J e a=a/\jAt J a e=a
abbrev As(n:Nat)(J:TZ):Prop:=∀a,InR n a->∀b,InR n b->∀c,InR n c->jAt J (jAt J a b) c=jAt J a (jAt J b c)
section
variable{S:Option O->Option O->Option O->AS}{vj vn ve:Nat}{J:TZ}{n:Nat}{e:Int}
abbrev zrC(vj vn:Nat):SF:=xJ (yM (aC (fV vn) aN) yP) (gN 4) (xJ (yM (aC (fV vn) aN) yP) (gN 5) (sIf (fT (f2 (f2 (f2 (fV vj) (f2 (f2 (fV vj) (fV 3) ixP) (fV 4) ixP) ixP) (fV 5) ixP) (f2 (f2 (fV vj) (fV 3) ixP) (f2 (f2 (fV vj) (fV 4) ixP) (fV 5) ixP) ixP) (zO .NotEq))) (ym (wM (dC (fC (.str "parting")) (dC (fV 3) (dC (fV 4) (dC (fV 5) dN)))))) sNx))
end
section
variable{n m:Nat}{J T:TZ}{e:Int}{Ds:DD}{S:SS}
abbrev Dn(n m:Nat)(J T:TZ):Prop:=∀a,InR n a->∀i,InR m i->∀b,InR n b->∀k,InR m k->jAt T ((i+k)%m) (jAt J a b)=jAt J (jAt T i a) (jAt T k b)
theorem znv{a b c:EF}{as:AS}{w v:Int}(hT:Tab m n T)(hw:InR m w)(hv:InR n v)(ha:WD a as true (yg T))(hb:WD b as true (.int w))(hc:WD c as true (.int v)):WD (f2 (f2 a b ixP) c ixP) as true (.int (jAt T w v))/\InR n (jAt T w v):=
 ⟨yp (zcG ha hb (Zf hT hw).1) hc (rowAt (Zf hT hw).2 hv).1 rfl,(rowAt (Zf hT hw).2 hv).2⟩
abbrev dfI:SF:=(sIf (fT (f2 (f2 (f2 (fV 2) (f2 (f2 (fV 7) (fV 9) (zm .Add)) (fV 4) (zm .Mod)) ixP) (f2 (f2 (fV 5) (fV 6) ixP) (fV 8) ixP) ixP) (f2 (f2 (fV 5) (f2 (f2 (fV 2) (fV 7) ixP) (fV 6) ixP) ixP) (f2 (f2 (fV 2) (fV 9) ixP) (fV 8) ixP) ixP) (zO .NotEq))) (ym (wM (dC (fC (.str "doing")) (dC (fV 1) (dC (fV 6) (dC (fV 7) (dC (fV 8) (dC (fV 9) dN)))))))) sNx)
theorem LawA.un(L:LawA n m J e Ds):UnA n J e:=λa ha=>⟨L.lj.ul a ha,L.lj.ur a ha⟩
theorem LawA.as(L:LawA n m J e Ds):As n J:=λa ha b hb c hc=>L.lj.as a b c ha hb hc
theorem LawA.dn(L:LawA n m J e Ds){p:Str×TZ}(hp:p ∈ Ds):Dn n m J p.2:=λa ha i hi b hb k hk=>(L.ld p hp).dn a i b k ha hi hb hk
end
def iP(b k:Int):Int:=if k=0 then b/2 else b%2
def jP(a b:Int):Int:=2*iP b (a/2)+iP b (a%2)
def sP(a:Int):Int:=2*(1-a%2)+1-a/2
theorem ljP:LJ 4 jP 1:=by
 refine⟨λa b ha hb=>?_,⟨by decide,by decide⟩,λa ha=>?_,λa ha=>?_,λa b c ha hb hc=>?_⟩
 · revert b;refine f4 (P:=λa=>∀b,InR 4 b->InR 4 (jP a b)) ?_ ha
   have:∀a ∈ ([0,1,2,3]:List Int),∀b ∈ ([0,1,2,3]:List Int),InR 4 (jP a b):=by decide
   exact λa m b hb=>f4 (P:=λb=>InR 4 (jP a b)) (this a m) hb
 · exact f4 (P:=λa=>jP 1 a=a) (by decide) ha
 · exact f4 (P:=λa=>jP a 1=a) (by decide) ha
 · have:∀a ∈ ([0,1,2,3]:List Int),∀b ∈ ([0,1,2,3]:List Int),∀c ∈ ([0,1,2,3]:List Int),jP (jP a b) c=jP a (jP b c):=by decide
   refine f4 (P:=λa=>jP (jP a b) c=jP a (jP b c)) (λa m=>f4 (P:=λb=>jP (jP a b) c=jP a (jP b c)) (λb m'=>f4 (P:=λc=>jP (jP a b) c=jP a (jP b c)) (this a m b m') hc) hb) ha
theorem ldP{m:Nat}{r:Int->Int}(h:(∀a,InR 4 a->r a=a)\/(∀a,InR 4 a->r a=sP a)):LD 4 m jP 1 (λ_ a=>r a):=by
 rcases h with h|h
 · refine⟨λc a _ ha=>by show InR 4 (r a);rw[h a ha];exact ha,h 1 ⟨by decide,by decide⟩,λa i b k ha _ hb _=>?_⟩
   show r (jP a b)=jP (r a) (r b)
   rw[h a ha,h b hb,h _ (ljP.cl a b ha hb)]
 · refine⟨λc a _ ha=>by show InR 4 (r a);rw[h a ha];exact f4 (P:=λa=>InR 4 (sP a)) (by decide) ha,h 1 ⟨by decide,by decide⟩,λa i b k ha _ hb _=>?_⟩
   show r (jP a b)=jP (r a) (r b)
   rw[h a ha,h b hb,h _ (ljP.cl a b ha hb)]
   have:∀a ∈ ([0,1,2,3]:List Int),∀b ∈ ([0,1,2,3]:List Int),sP (jP a b)=jP (sP a) (sP b):=by decide
   exact f4 (P:=λa=>sP (jP a b)=jP (sP a) (sP b)) (λa m=>f4 (P:=λb=>sP (jP a b)=jP (sP a) (sP b)) (this a m) hb) ha
theorem ljB{n1 n2:Nat}{j1 j2:Int->Int->Int}{e1 e2:Int}(h1:LJ n1 j1 e1)(h2:LJ n2 j2 e2)(p2:0<n2):LJ (n1*n2) (jB n2 j1 j2) (e1*n2+e2):=by
 refine⟨λa b ha hb=>?_,zti h1.ce h2.ce,λa ha=>?_,λa ha=>?_,λa b c ha hb hc=>?_⟩
 · exact zti (h1.cl _ _ (yq p2 ha).1 (yq p2 hb).1) (h2.cl _ _ (yq p2 ha).2 (yq p2 hb).2)
 · unfold jB
   rw[(zbf h2.ce).1,(zbf h2.ce).2,h1.ul _ (yq p2 ha).1,h2.ul _ (yq p2 ha).2,ztK]
 · unfold jB
   rw[(zbf h2.ce).1,(zbf h2.ce).2,h1.ur _ (yq p2 ha).1,h2.ur _ (yq p2 ha).2,ztK]
 · unfold jB
   rw[(zbf (h2.cl _ _ (yq p2 ha).2 (yq p2 hb).2)).1,(zbf (h2.cl _ _ (yq p2 ha).2 (yq p2 hb).2)).2,(zbf (h2.cl _ _ (yq p2 hb).2 (yq p2 hc).2)).1,(zbf (h2.cl _ _ (yq p2 hb).2 (yq p2 hc).2)).2,h1.as _ _ _ (yq p2 ha).1 (yq p2 hb).1 (yq p2 hc).1,h2.as _ _ _ (yq p2 ha).2 (yq p2 hb).2 (yq p2 hc).2]
theorem ldB{n1 n2 m:Nat}{j1 j2 d1 d2:Int->Int->Int}{u1 u2:Int}(h1:LJ n1 j1 u1)(h2:LJ n2 j2 u2)(p2:0<n2)(e1:LD n1 m j1 u1 d1)(e2:LD n2 m j2 u2 d2):LD (n1*n2) m (jB n2 j1 j2) (u1*n2+u2) (dB n2 d1 d2):=by
 refine⟨λc a hc ha=>zti (e1.cl _ _ hc (yq p2 ha).1) (e2.cl _ _ hc (yq p2 ha).2), ?_,λa i b k ha hi hb hk=>?_⟩
 · unfold dB
   rw[(zbf h2.ce).1,(zbf h2.ce).2,e1.em,e2.em]
 · unfold jB dB
   rw[(zbf (h2.cl _ _ (yq p2 ha).2 (yq p2 hb).2)).1,(zbf (h2.cl _ _ (yq p2 ha).2 (yq p2 hb).2)).2,(zbf (e2.cl i _ hi (yq p2 ha).2)).1,(zbf (e2.cl i _ hi (yq p2 ha).2)).2,(zbf (e2.cl k _ hk (yq p2 hb).2)).1,(zbf (e2.cl k _ hk (yq p2 hb).2)).2,e1.dn _ _ _ _ (yq p2 ha).1 hi (yq p2 hb).1 hk,e2.dn _ _ _ _ (yq p2 ha).2 hi (yq p2 hb).2 hk]
theorem ljT{n:Nat}{j j':Int->Int->Int}{e:Int}{F B:Int->Int}(h:LJ n j e)(hF:∀a,InR n a->InR n (F a))(hB:∀a,InR n a->InR n (B a))(hFB:∀a,InR n a->F (B a)=a)(q:∀a b,InR n a->InR n b->j' (F a) (F b)=F (j a b)):LJ n j' (F e):=by
 have q':∀a b,InR n a->InR n b->j' a b=F (j (B a) (B b)):=λa b ha hb=>by
  have:=q (B a) (B b) (hB a ha) (hB b hb)
  rw[hFB a ha,hFB b hb]at this
  exact this
 refine⟨λa b ha hb=>by rw[q' a b ha hb];exact hF _ (h.cl _ _ (hB a ha) (hB b hb)),hF e h.ce,λa ha=>?_,λa ha=>?_,λa b c ha hb hc=>?_⟩
 · have:=q e (B a) h.ce (hB a ha)
   rw[hFB a ha,h.ul _ (hB a ha),hFB a ha]at this
   exact this
 · have:=q (B a) e (hB a ha) h.ce
   rw[hFB a ha,h.ur _ (hB a ha),hFB a ha]at this
   exact this
 · have a':=hB a ha
   have b':=hB b hb
   have c':=hB c hc
   rw[q' a b ha hb,q' b c hb hc]
   have x:=q (j (B a) (B b)) (B c) (h.cl _ _ a' b') c'
   have y:=q (B a) (j (B b) (B c)) a' (h.cl _ _ b' c')
   rw[hFB c hc]at x
   rw[hFB a ha]at y
   rw[x,y,h.as _ _ _ a' b' c']
theorem ldT{n m:Nat}{j j' d d':Int->Int->Int}{e:Int}{F B:Int->Int}(hm:0<m)(h:LJ n j e)(k:LD n m j e d)(hF:∀a,InR n a->InR n (F a))(hB:∀a,InR n a->InR n (B a))(hFB:∀a,InR n a->F (B a)=a)
 (q:∀a b,InR n a->InR n b->j' (F a) (F b)=F (j a b)) (p:∀c a,InR m c->InR n a->d' c (F a)=F (d c a)):LD n m j' (F e) d':=by
 refine⟨λc a hc ha=>?_, ?_,λa i b l ha hi hb hl=>?_⟩
 · have:=p c (B a) hc (hB a ha)
   rw[hFB a ha]at this
   rw[this];exact hF _ (k.cl _ _ hc (hB a ha))
 · rw[p 0 e ⟨by omega,by omega⟩ h.ce,k.em]
 · have a':=hB a ha
   have b':=hB b hb
   have x:=q (B a) (B b) a' b'
   have y:=p i (B a) hi a'
   have z:=p l (B b) hl b'
   rw[hFB a ha]at x y
   rw[hFB b hb]at x z
   rw[x,y,z,p _ _ (zgu hm) (h.cl _ _ a' b'),q _ _ (k.cl _ _ hi a') (k.cl _ _ hl b'),k.dn _ _ _ _ a' hi b' hl]
def KN(k:Int)(n:Nat):Prop:=(k=0/\1<=n)\/(k=1/\1<=n)\/(k=2/\1<=n)\/(k=3/\n=4)
def jK(k:Int)(n:Nat):Int->Int->Int:=if k=0 then jS n else if k=1 then jM else if k=2 then jL else jP
def eK(k:Int):Int:=if k=3 then 1 else 0
theorem ljK{k:Int}{n:Nat}(h:KN k n):LJ n (jK k n) (eK k):=by
 rcases h with⟨rfl,h⟩|⟨rfl,h⟩|⟨rfl,h⟩|⟨rfl,rfl⟩
 · exact ljS h
 · exact ljM h
 · exact ljL h
 · exact ljP
theorem KN.n1{k:Int}{n:Nat}(h:KN k n):1<=n:=by rcases h with⟨_,h⟩|⟨_,h⟩|⟨_,h⟩|⟨_,h⟩<;>omega
theorem zrV{as:AS}{i:Nat}{xs:List Int}{g:List D->Option R0}{zs:List D}(h:as[i]? = some (sN (xs.map lfI)))(hg:g [yH xs]=some (.fl zs)):fP (aC (fV i) aN) g as=some (.ow (.nd .ls (zs.map (O.lf true))),as):=by
 obtain⟨i1,i2,i3⟩:=wW xs
 have e:views as [.bo i]=some ([yH xs],some true):=by
  show(RV.view as (.bo i)).bind _=_
  rw[zeG h]
  have k:(O.nd .ls (xs.map lfI)).kl=some true:=by simp only[O.kl,i1,if_true,i2]
  rw[k,(zah xs).2];rfl
 unfold fP aC
 rw[zhh h]
 simp only[zyI,aN,RV.frz,e,hg]
 show(if(zs.all zL||true)=true then some (RV.ow (.nd .ls (zs.map (lfs true))))else none:Option RV).bind _=_
 rw[if_pos (by simp),XR];rfl
theorem zqT{a:EF}{as:AS}{i:Nat}{xs:List Int}{ds:List D}(ha:WE a as (.lst ds))(h:as[i]? = some (sN (xs.map lfI)))(hl:ds.length+xs.length<=1000):WE (f2 a (fV i) (zm .Add)) as (.lst (ds++xs.map D.int)):=by
 obtain⟨i1,i2,i3⟩:=wW xs
 obtain⟨o,h1,h2,h3⟩:=ha
 have k:(O.nd .ls (xs.map lfI)).kl=some true:=by simp only[O.kl,i1,if_true,i2]
 have e:f2 a (fV i) (zm .Add) as=some (.ow (.nd .ls ((ds++xs.map D.int).map (O.lf true))),as):=by
  have e1:RV.view as (.ow o.frz)=some (.lst ds,some true):=by
   show some (o.toD,some o.str)=_
   rw[h2,h3]
  have e2:RV.view as (.bo i)=some (.lst (xs.map D.int),some true):=by rw[zeG h,k,(zah xs).2]
  unfold f2
  simp only[h1,zhh h,zyI,RV.frz,e1,e2]
  show((zm .Add (.lst ds) (.lst (xs.map D.int))).bind _)=_
  rw[add_lists (by rw[zD];exact szs (by omega))]
  show(if((ds++xs.map D.int).all zL||true)=true then some (RV.ow (.nd .ls ((ds++xs.map D.int).map (lfs true))))else none:Option RV).bind _=_
  rw[if_pos (by simp),XR];rfl
 exact⟨_,e,zfn _,congrArg D.lst (zfh _)⟩
theorem ziI{as:AS}{fr:AF}{i j:Int}{u v:Bool}(h:WA fr as [(u,.int i),(v,.int j)])(h0:0<=i)(h1:i<=1000)(h2:0<=j)(h3:j<=1000):yM fr zsd as=some (xY i (j-i).toNat,as):=by
 unfold yM;unfold WA at h
 rw[h]
 simp only[zyI,YW]
 show((if -(2 ^ 62)<=i/\i<2 ^ 62 /\ -(2 ^ 62)<=j/\j<2 ^ 62 then some (xY i (j-i).toNat)else none).bind _)=_
 rw[if_pos ⟨by omega,by omega,by omega,by omega⟩];rfl
theorem zlZ{x p q:Int}:ixP (.lst [.int p,.int q]) (.int (x%2))=some (.im (.int (if x%2=0 then p else q))):=by
 rcases Int.emod_two_eq x with h|h<;>rw[h]<;>rfl
def put(T:TZ)(p q c:Int):TZ:=T.set p.toNat ((zhI T p).set q.toNat c)
theorem zpe{k n:Nat}{T:TZ}{p q c:Int}(hT:Tab k n T)(hp:InR k p)(hc:InR n c):Tab k n (put T p q c):=zpG hT (zoI (Zf hT hp).2 hc)
theorem zkD{k n:Nat}{T:TZ}{p q c a b:Int}(hT:Tab k n T)(hp:InR k p)(hq:InR n q)(ha:InR k a)(hb:InR n b):jAt (put T p q c) a b=if a=p/\b=q then c else jAt T a b:=by
 have hp':=iT hp
 have ha':=iT ha
 have hq':=iT hq
 have hb':=iT hb
 have hl:=(Zf hT hp).2.1
 unfold jAt put
 by_cases e:a=p
 · subst e
   rw[zyH (by rw[hT.1];exact hp')]
   show rAt ((zhI T a).set q.toNat c) b=_
   unfold rAt
   by_cases e2:b=q
   · subst e2
     rw[zyH (by rw[hl];exact hq'),if_pos ⟨rfl,rfl⟩];rfl
   · rw[zzV (λz=>e2 (by have:=hb.1;have:=hq.1;omega)),if_neg (λz=>e2 z.2)]
 · rw[zzV (λz=>e (by have:=ha.1;have:=hp.1;omega)),if_neg (λz=>e z.1)]
theorem znb{v K n L:Nat}{f:SF}{S:TZ->Option O->Option O->AS}{p:Int}{g w:Int->Int}(hp:InR K p)(hg:∀b,InR L b->InR n (g b))(gi:∀b b',InR L b->InR L b'->g b=g b'->b=b')(hw:∀b,InR L b->InR n (w b))
 (h1:∀T d x y,gN v (true,d) (S T x y)=some (S T (sT d) y)) (h2:∀T b y,Tab K n T->InR L b->∃y',f (S T (sI b) y)=some (.nx (S (put T p (g b) (w b)) (sI b) y'))) {T0:TZ}{x0 y0:Option O}(hT:Tab K n T0):
 ∃T' x y,forL (gN v) f (xY 0 L) (S T0 x0 y0)=some (.nx (S T' x y))/\Tab K n T'/\(∀b,InR L b->jAt T' p (g b)=w b)/\(∀a b,InR K a->InR n b->a≠p->jAt T' a b=jAt T0 a b):=by
 obtain⟨as',hf,T',x,y,rfl,t1,t2,t3⟩:=vN (g:=gN v) (f:=f)
  (λi as=>∃(T:TZ) (x y:Option O),as=S T x y/\Tab K n T/\(∀b,InR L b->b<i->jAt T p (g b)=w b)/\(∀a b,InR K a->InR n b->a≠p->jAt T a b=jAt T0 a b))
  (xY 0 L) 0 (S T0 x0 y0) (λi y as hx hI=>by
   obtain⟨T,x,z,rfl,t1,t2,t3⟩:=hI
   obtain⟨rfl,hi⟩:=vd hx
   have hb:InR L (0+(i:Int)):=⟨by omega,by omega⟩
   obtain⟨y',h⟩:=h2 T (0+i) z t1 hb
   refine⟨_,h1 _ _ _ _,_,h,_,_,_,rfl,zpe t1 hp (hw _ hb),λb hb' hlt=>?_,λa b ha hb' hne=>?_⟩
   · rw[zkD t1 hp (hg _ hb) hp (hg _ hb')]
     by_cases e:g b=g (0+i)
     · have:=gi _ _ hb' hb e
       subst this
       rw[if_pos ⟨rfl,rfl⟩]
     · rw[if_neg (λz=>e z.2)]
       refine t2 b hb' ?_
       have:b≠0+i:=λz=>e (by rw[z])
       omega
   · rw[zkD t1 hp (hg _ hb) ha hb',if_neg (λz=>hne z.1)]
     exact t3 a b ha hb' hne)
  ⟨T0,x0,y0,rfl,hT,λb hb h=>absurd h (by have:=hb.1;omega),λ_ _ _ _ _=>rfl⟩
 rw[yZ]at t2
 exact⟨T',x,y,hf,t1,λb hb=>t2 b hb (by have:=hb.2;omega),t3⟩
theorem zkH{v K n L M:Nat}{F:SF}{S:TZ->Option O->Option O->Option O->AS}{f g:Int->Int}{w:Int->Int->Int}(hf':∀a,InR M a->InR K (f a))(fi:∀a a',InR M a->InR M a'->f a=f a'->a=a')(hg:∀b,InR L b->InR n (g b))
 (h1:∀T d x y z,gN v (true,d) (S T x y z)=some (S T (sT d) y z)) (h2:∀T a y z,Tab K n T->InR M a->∃T' y' z',F (S T (sI a) y z)=some (.nx (S T' (sI a) y' z'))/\Tab K n T'/\(∀b,InR L b->jAt T' (f a) (g b)=w a b)/\(∀a' b,InR K a'->InR n b->a'≠f a->jAt T' a' b=jAt T a' b)) {T0:TZ}{x0 y0 z0:Option O}(hT:Tab K n T0):
 ∃T' x y z,forL (gN v) F (xY 0 M) (S T0 x0 y0 z0)=some (.nx (S T' x y z))/\Tab K n T'/\∀a b,InR M a->InR L b->jAt T' (f a) (g b)=w a b:=by
 obtain⟨as',hf,T',x,y,z,rfl,t1,t2⟩:=vN (g:=gN v) (f:=F)
  (λi as=>∃(T:TZ) (x y z:Option O),as=S T x y z/\Tab K n T/\∀a b,InR M a->a<i->InR L b->jAt T (f a) (g b)=w a b)
  (xY 0 M) 0 (S T0 x0 y0 z0) (λi y as hx hI=>by
   obtain⟨T,x,y,z,rfl,t1,t2⟩:=hI
   obtain⟨rfl,hi⟩:=vd hx
   have ha:InR M (0+(i:Int)):=⟨by omega,by omega⟩
   obtain⟨T',y',z',h,q1,q2,q3⟩:=h2 T (0+i) y z t1 ha
   refine⟨_,h1 _ _ _ _ _,_,h,_,_,_,_,rfl,q1,λa b ha' hlt hb=>?_⟩
   by_cases e:a=0+i
   · subst e;exact q2 b hb
   · rw[q3 (f a) (g b) (hf' a ha') (hg b hb) (λz=>e (fi _ _ ha' ha z))]
     exact t2 a b ha' (by omega) hb)
  ⟨T0,x0,y0,z0,rfl,hT,λa b ha h=>absurd h (by have:=ha.1;omega)⟩
 rw[yZ]at t2
 exact⟨T',x,y,z,hf,t1,λa b ha hb=>t2 a b ha (by have:=ha.2;omega) hb⟩
theorem zos{as:AS}{i:Nat}{f:IXF}{n:Nat}{r:List Int}{k:Int}{s:Bool}(h:as[i]? = some (some (.lf s (yH r))))(hf:f as=some k)(hr:Row n r)(hk:InR n k):xAt i f as=some (rAt r k):=by
 have e:=(rowAt hr hk).1
 unfold xAt
 rw[hf]
 show(if 0<=k then(slO zfl as i).bind λd=>(asL d).bind λds=>ds[k.toNat]?.bind asI else none)=_
 rw[if_pos hk.1]
 have e1:slO zfl as i=some (yH r):=by unfold slO;rw[h];rfl
 rw[e1]
 show((r.map D.int)[k.toNat]?).bind asI=_
 have hl:=iT hk
 rw[zzF,zzB (by rw[hr.1];exact hl),YJ (by rw[hr.1];exact hl)]
 rfl
theorem zlt{as:AS}{i k n:Nat}{f1 f2 fv:IXF}{p q c:Int}{T:TZ}(hT:Tab k n T)(hp:InR k p)(hq:InR n q)(h1:f1 as=some p)(h2:f2 as=some q)(hv:fv as=some c)(hi:as[i]? = some (some (Ze T))):zbj i f1 f2 fv as=some (.nx (as.set i (some (Ze (put T p q c))))):=by
 have hl:=iT hp
 have hq':=iT hq
 refine zlK h1 h2 hv hp.1 hq.1 hi (r:=zhI T p) ?_ (by rw[(Zf hT hp).2.1];exact hq')
 unfold zhI
 rw[zzB (by rw[hT.1];exact hl)];rfl
theorem zjn{as0:AS}:∀(ds:List D),(∀d,∃as1,gN 0 (true,d) as0=some as1)->xr (gN 0) yL (fC (.int 0)) as0 (ds.map λd=>(true,d))=some ((List.replicate ds.length (0:Int)).map lfI)
 | [],_=>rfl
 |d::r,H=>by
  obtain⟨as1,h1⟩:=H d
  show xr _ _ _ _ ((true,d)::r.map λd=>(true,d))=some (lfI 0::(List.replicate r.length (0:Int)).map lfI)
  exact zlF h1 zf (zjn r H)
theorem ziM{g:GF}{fe:EF}{as0:AS}{r:List Int}:∀(xs:List It1),(∀y ∈ xs,∃as1,g y as0=some as1/\fe as1=some (.ow (Yg r),as1))->xr g yL fe as0 xs=some ((List.replicate xs.length r).map Yg)
 | [],_=>rfl
 |y::xs,H=>by
  obtain⟨as1,h1,h2⟩:=H y (zzC ..)
  exact VP h1 h2 (zah r).1 (ziM xs λz m=>H z (zzA _ m))
theorem ziH{k n:Nat}(hn:1<=n):Tab k n (List.replicate k (List.replicate n (0:Int))):=
 ⟨List.length_replicate ..,λr m=>by rw[List.eq_of_mem_replicate m];exact⟨List.length_replicate ..,λx m=>by rw[List.eq_of_mem_replicate m];omega⟩⟩
abbrev VH(r:List Int):D:=.tup (r.map D.int)
abbrev zby(T:TZ):D:=.tup (T.map VH)
theorem zlg{α:Type}{f:α->D}{l:List α}{i:Nat}{p:α}(h:l[i]? = some p):ixP (.tup (l.map f)) (.int (i:Int))=some (.im (f p)):=by
 have h:=WW (xs:=l.map f) (j:=i) (v:=f p) (by rw[zzF,h];rfl)
 show imR (atI _ _)=_
 rw[h];rfl
theorem zuR{k n:Nat}{T:TZ}{w:Int}(hT:Tab k n T)(hw:InR k w):ixP (zby T) (.int w)=some (.im (VH (zhI T w))):=by
 have hk:w.toNat<T.length:=by rw[hT.1];exact iT hw
 have g:=zzB hk
 unfold zhI
 rw[g]
 have:=zlg (f:=VH) g
 rw[iC hw]at this
 exact this
theorem zva{n:Nat}{r:List Int}{v:Int}(hr:Row n r)(hv:InR n v):ixP (VH r) (.int v)=some (.im (.int (rAt r v))):=by
 have hk:v.toNat<r.length:=by rw[hr.1];exact iT hv
 have g:=zzB hk
 rw[YJ hk]
 have:=zlg (f:=D.int) g
 rw[iC hv]at this
 exact this
theorem zmJ{a b c:EF}{as:AS}{m n:Nat}{T:TZ}{w v:Int}(hT:Tab m n T)(hw:InR m w)(hv:InR n v)(ha:WD a as true (zby T))(hb:WD b as true (.int w))(hc:WD c as true (.int v)):WD (f2 (f2 a b ixP) c ixP) as true (.int (jAt T w v)):=
 yp (zcG ha hb (zuR hT hw)) hc (zva (Zf hT hw).2 hv) rfl
section
variable{α:Type}{kf:α->Str}{vf:α->D}
theorem zhb:∀l:List α,zbz (l.map λp=>.tup [.str (kf p),vf p])=some (l.map λp=>(.inr (kf p),vf p))
 | []=>rfl
 |p::l=>by
  show(zbz (l.map λp=>.tup [.str (kf p),vf p])).bind _=_
  rw[zhb l];rfl
theorem zhn{p:α}:∀{l:List α},p ∈ l->(l.map kf).Nodup->V5 (l.map λp=>(.inr (kf p),vf p)) (.inr (kf p))=some (vf p)
 | [],h,_=>nomatch h
 |q::l,h,nd=>by
  have nd':=zzT.mp (show(kf q::l.map kf).Nodup from nd)
  rcases zS.mp h with rfl|h
  · unfold V5
    simp
  · have e:kf q≠kf p:=λe=>nd'.1 (e ▸ List.mem_map_of_mem h)
    have ih:=zhn h nd'.2
    unfold V5 at ih ⊢
    rw[zyP,List.find?_cons_of_neg (by simp[e])]
    exact ih
theorem zns:∀(kvs:List (Key×D)),(kvs.map (·.1)).zip (kvs.map (·.2))=kvs
 | []=>rfl
 |p::r=>congrArg (p :: ·) (zns r)
theorem zul{a:EF}{as:AS}{l:List α}(nd:(l.map kf).Nodup)(h:WE a as (.lst (l.map λp=>.tup [.str (kf p),vf p]))):WE (fP (aC a aN) zef) as (.dct (l.map λp=>(.inr (kf p),vf p))):=by
 have hg:zef [.lst (l.map λp=>.tup [.str (kf p),vf p])]=some (.fd (l.map λp=>(.inr (kf p),vf p))):=by
  show(zbz (l.map λp=>.tup [.str (kf p),vf p])).bind _=_
  rw[zhb]
  refine if_pos ?_
  rw[zzY]
  exact List.pairwise_map.mpr ((List.pairwise_map.mp nd).imp λh e=>h (Sum.inr.inj e))
 have k:=ztw (g:=zef) (WF h (zX (as:=as))) hg
 rw[show([(true,D.lst (l.map λp=>.tup [.str (kf p),vf p]))].all (·.1))=true from rfl,XR]at k
 generalize (l.map λp=>((.inr (kf p),vf p):Key×D))=kvs at k
 refine⟨_,k,zfn _, ?_⟩
 show D.dct ((kvs.map (·.1)).zip (O.toDs ((kvs.map (·.2)).map (O.lf true))))=_
 rw[zfh,zns]
end
theorem Wu{as:AS}{i:Nat}{cs:List Str}{f c:Str}{fe:EF}{d:D}{ns:List Str}{os:List O}(h:WE fe as d)(hi:as[i]? = some (some (.nd (.ob c ns) os)))(hc:c ∈ cs)(hn:f ∉ ns)(hl:ns.length<1000):zhZ i cs f fe as=some (as.set i (some (.nd (.ob c (ns++[f])) (os++[.lf true d])))):=by
 obtain⟨o,h1,h2,h3⟩:=h
 unfold zhZ
 have e:zfL as (.ow o)=some ((o.str,o.toD),as):=rfl
 simp only[h1,zyI,e,hi,if_pos (⟨hc,hn,hl⟩:c ∈ cs/\f ∉ ns/\ns.length<1000),h2,h3]
theorem YM{f g:IFn}{as as1:AS}{o:Option AS}(h:f as=some as1)(h2:g as1=o):zcy f g as=o:=by
 unfold zcy
 rw[h];exact h2
theorem zof{fe:EF}{as:AS}{d:D}(h:WE fe as d):zoY fe as=some as:=by
 obtain⟨o,h1,_,_⟩:=h
 unfold zoY
 rw[h1];rfl
theorem zgo{as:AS}{i:Nat}{cs ns:List Str}{f c:Str}{ds:List D}{d:D}(h:as[i]? = some (sT (.ob c ns ds)))(hc:c ∈ cs)(hl:lkp ns ds f=some d):WD (f1 (fV i) (Wo cs f)) as true d:=by
 have:=zpu (zb h) hc hl
 rw[zyA]at this
 exact this
def idT(n m:Nat):TZ:=List.replicate m (Ys n)
theorem zsu{n:Nat}{a:Int}(h:InR n a):rAt (Ys n) a=a:=by
 have hk:=iT h
 rw[YJ (by rw[zD,zyR];exact hk),List.getElem_map,List.getElem_range]
 exact iC h
theorem zqr(n:Nat):Row n (Ys n):=⟨by rw[zD,zyR],λx m=>by
 obtain⟨i,hi,rfl⟩:=zxB.mp m
 have:=List.mem_range.mp hi
 exact⟨Int.natCast_nonneg _,by omega⟩⟩
theorem zry(n m:Nat):Tab m n (idT n m):=⟨List.length_replicate ..,λr h=>by rw[List.eq_of_mem_replicate h];exact zqr n⟩
theorem zud{n m:Nat}{c a:Int}(hc:InR m c)(ha:InR n a):jAt (idT n m) c a=a:=by
 have hk:=iT hc
 unfold jAt idT
 rw[List.getElem?_replicate,if_pos hk]
 exact zsu ha
end PF
end
section
namespace G20
open PySem PySem.Spec PyProof.Rows L2 PF
def ZJ:List Str:=["Ways"]
def WQ:List Str:=["Ways"]
def zaQ:List Str:=["Ways"]
def zbA:List Str:=["Ways"]
def zfd:List Str:=["Ways"]
def YL:List Str:=["Ways"]
abbrev zfz:List Str:=["thing"]
theorem ziZ:FnScope zfz ["thing"] (zx WN):=⟨rfl,rfl,rfl,by decide +kernel,rfl,by decide +kernel,by decide +kernel⟩
def zfb:SF:=
 (ym (zcl (Wf (fV 0) "int") (zlV (Wf (fV 0) "bool"))))
def ZK:Fn:=fnR 1 1 zfb
abbrev zdF:List Str:=["thing","least","most"]
theorem zik:FnScope zdF ["thing","least","most"] (zx XD):=⟨rfl,rfl,rfl,by decide +kernel,rfl,by decide +kernel,by decide +kernel⟩
def zdJ:SF:=
 (ym (zcl (zE (aC (fV 0) aN) ZK) (Y7 (fV 1) (fV 0) (fV 2) (zO .LtE) (zO .LtE))))
def Z5:Fn:=fnR 3 3 zdJ
abbrev VG:List Str:=["algebra","join","nothing","a"]
theorem vm:FnScope VG ["algebra"] (zx vW):=⟨rfl,rfl,rfl,by decide +kernel,rfl,by decide +kernel,by decide +kernel⟩
def Vu:SF:=
 (zB (zH true 1 (f2 (fV 0) (fC (.int 2)) ixP))
  (zB (zH true 2 (f2 (fV 0) (fC (.int 3)) ixP))
  (zB (xJ (yM (aC (f2 (fV 0) (fC (.int 0)) ixP) aN) yP) (gN 3) (sIf (Wl (fT (f2 (f2 (f2 (fV 1) (fV 2) ixP) (fV 3) ixP) (fV 3) (zO .NotEq))) (fT (f2 (f2 (f2 (fV 1) (fV 3) ixP) (fV 2) ixP) (fV 3) (zO .NotEq)))) (ym (wM (dC (fC (.str "nothing")) (dC (fV 3) dN)))) sNx))
  (ym (fC .non)))))
def wH:Fn:=fnR 4 1 Vu
abbrev VD:List Str:=["algebra","n","join","a","b","c"]
theorem xF:FnScope VD ["algebra"] (zx vV):=⟨rfl,rfl,rfl,by decide +kernel,rfl,by decide +kernel,by decide +kernel⟩
def Vz:SF:=
 (zB (zH true 1 (f2 (fV 0) (fC (.int 0)) ixP))
  (zB (zH true 2 (f2 (fV 0) (fC (.int 2)) ixP))
  (zB (xJ (yM (aC (fV 1) aN) yP) (gN 3) (xJ (yM (aC (fV 1) aN) yP) (gN 4) (xJ (yM (aC (fV 1) aN) yP) (gN 5) (sIf (fT (f2 (f2 (f2 (fV 2) (f2 (f2 (fV 2) (fV 3) ixP) (fV 4) ixP) ixP) (fV 5) ixP) (f2 (f2 (fV 2) (fV 3) ixP) (f2 (f2 (fV 2) (fV 4) ixP) (fV 5) ixP) ixP) (zO .NotEq))) (ym (wM (dC (fC (.str "parting")) (dC (fV 3) (dC (fV 4) (dC (fV 5) dN)))))) sNx))))
  (ym (fC .non)))))
def wJ:Fn:=fnR 6 1 Vz
abbrev zbg:List Str:=["algebra","name","rows","n","m","join","a","i","b","j"]
theorem xj:FnScope zbg ["algebra","name","rows"] (zx ZX):=⟨rfl,rfl,rfl,by decide +kernel,rfl,by decide +kernel,by decide +kernel⟩
def zbi:SF:=
 (zB (zH true 3 (f2 (fV 0) (fC (.int 0)) ixP))
  (zB (zH true 4 (f2 (fV 0) (fC (.int 1)) ixP))
  (zB (zH true 5 (f2 (fV 0) (fC (.int 2)) ixP))
  (zB (xJ (yM (aC (fV 3) aN) yP) (gN 6) (xJ (yM (aC (fV 4) aN) yP) (gN 7) (xJ (yM (aC (fV 3) aN) yP) (gN 8) (xJ (yM (aC (fV 4) aN) yP) (gN 9) (sIf (fT (f2 (f2 (f2 (fV 2) (f2 (f2 (fV 7) (fV 9) (zm .Add)) (fV 4) (zm .Mod)) ixP) (f2 (f2 (fV 5) (fV 6) ixP) (fV 8) ixP) ixP) (f2 (f2 (fV 5) (f2 (f2 (fV 2) (fV 7) ixP) (fV 6) ixP) ixP) (f2 (f2 (fV 2) (fV 9) ixP) (fV 8) ixP) ixP) (zO .NotEq))) (ym (wM (dC (fC (.str "doing")) (dC (fV 1) (dC (fV 6) (dC (fV 7) (dC (fV 8) (dC (fV 9) dN)))))))) sNx)))))
  (ym (fC .non))))))
def xW:Fn:=fnR 10 3 zbi
abbrev zct:List Str:=["algebra","nothing","name","rows","fault"]
theorem vH:FnScope zct ["algebra"] (zx YF):=⟨rfl,rfl,rfl,by decide +kernel,rfl,by decide +kernel,by decide +kernel⟩
def zca:SF:=
 (zB (zH true 1 (f2 (fV 0) (fC (.int 3)) ixP))
  (zB (xJ (zbI (f2 (fV 0) (fC (.int 4)) ixP)) (gT 2 (gsC (gN 2) (gsC (gN 3) gsN))) (zB (sIf (fT (f2 (f2 (f2 (fV 3) (fC (.int 0)) ixP) (fV 1) ixP) (fV 1) (zO .NotEq))) (ym (wM (dC (fC (.str "empty")) (dC (fV 2) dN)))) sNx)
  (zB (zH true 4 (zE (aC (fV 0) (aC (fV 2) (aC (fV 3) aN))) xW))
  (sIf (fT (f2 (fV 4) (fC .non) (zO .IsNot))) (ym (fV 4)) sNx))))
  (ym (fC .non))))
def Zw:Fn:=fnR 5 1 zca
abbrev zcx:List Str:=["algebra","fault"]
theorem ZV:FnScope zcx ["algebra"] (zx YG):=⟨rfl,rfl,rfl,by decide +kernel,rfl,by decide +kernel,by decide +kernel⟩
def zco:SF:=
 (zB (zH true 1 (zE (aC (fV 0) aN) wH))
  (zB (sIf (fT (f2 (fV 1) (fC .non) (zO .Is))) (zH true 1 (zE (aC (fV 0) aN) wJ)) sNx)
  (zB (sIf (fT (f2 (fV 1) (fC .non) (zO .Is))) (zH true 1 (zE (aC (fV 0) aN) Zw)) sNx)
  (ym (fV 1)))))
def Zr:Fn:=fnR 2 1 zco
abbrev zaC:List Str:=["algebra","fault"]
theorem Vn:FnScope zaC ["algebra"] (zx Zj):=⟨rfl,rfl,rfl,by decide +kernel,rfl,by decide +kernel,by decide +kernel⟩
def YQ:SF:=
 (zB (zH true 1 (zE (aC (fV 0) aN) Zr))
  (sIf (fT (f2 (fV 1) (fC .non) (zO .IsNot))) sNo sNx))
def xZ:Fn:=fnR 2 1 YQ
abbrev zjZ:List Str:=["rows"]
theorem zoW:FnScope zjZ ["rows"] (zx zgj):=⟨rfl,rfl,rfl,by decide +kernel,rfl,by decide +kernel,by decide +kernel⟩
theorem zlX:(["row"]:List Str).Nodup:=by decide +kernel
def znR:SF:=
 (ym (fP (aC (zY (xX (fV 0)) [none] (gN 0) yL (zgL (fV 0))) aN) tupP))
def V6:Fn:=fnR 1 1 znR
abbrev zbq:List Str:=["_law_script","_law_k"]
theorem zfu:FnScope zbq ["_law_script","_law_k"] (zx Z0):=⟨rfl,rfl,rfl,by decide +kernel,rfl,by decide +kernel,by decide +kernel⟩
def zbu:SF:=
 (zB (sIf (fT (f2 (fV 1) (fP (aC (fV 0) aN) zku) (zO .Lt))) (ym (f2 (fV 0) (fV 1) ixP)) sNx)
  (ym (fC (.int 0))))
def yj:Fn:=fnR 2 2 zbu
abbrev zdH:List Str:=["_law_cell","_law_k","_law_number"]
theorem zcg:FnScope zdH ["_law_cell","_law_k"] (zx XC):=⟨rfl,rfl,rfl,by decide +kernel,rfl,by decide +kernel,by decide +kernel⟩
def zdN:SF:=
 (zB (zH true 2 (f2 (f2 (f2 (f2 (f2 (fV 0) (fC (.int 2147483647)) (zm .Mod)) (fC (.int 48271)) (zm .Mult)) (f2 (f2 (fV 1) (fV 1) (zm .Mult)) (fC (.int 69621)) (zm .Mult)) (zm .Add)) (fC (.int 7919)) (zm .Add)) (fC (.int 2147483647)) (zm .Mod)))
  (ym (f2 (f2 (f2 (f2 (fV 2) (fV 2) (zm .Mult)) (f2 (fC (.int 16807)) (fV 2) (zm .Mult)) (zm .Add)) (fV 1) (zm .Add)) (fC (.int 2147483629)) (zm .Mod))))
def xu:Fn:=fnR 3 2 zdN
abbrev zdA:List Str:=["_law_found"]
theorem zhM:FnScope zdA ["_law_found"] (zx Xw):=⟨rfl,rfl,rfl,by decide +kernel,rfl,by decide +kernel,by decide +kernel⟩
def zdC:SF:=
 (ym (zcl (Wf (fV 0) "int") (zlV (Wf (fV 0) "bool"))))
def ye:Fn:=fnR 1 1 zdC
abbrev zaq:List Str:=["_law_cell","_law_many","_law_letters","_law_size","_law_at","_law_words_here","_law_k","_law_some"]
theorem wF:FnScope zaq ["_law_cell","_law_many"] (zx Z9):=⟨rfl,rfl,rfl,by decide +kernel,rfl,by decide +kernel,by decide +kernel⟩
theorem zfg:(["_law_j","_law_letters","_law_k","_law_cell","_law_at"]:List Str).Nodup:=by decide +kernel
def zdM:SF:=
 (zB (zH true 2 (fC (.str "abcdefghijklmnopqrstuvwxyz")))
  (zB (zH true 3 (f2 (fC (.int 1)) (f2 (fV 0) (fC (.int 8)) (zm .Mod)) (zm .Add)))
  (zB (zH true 4 (f2 (f2 (fV 0) (fC (.int 8)) (zm .FloorDiv)) (fV 3) (zm .Mod)))
  (zB (zH false 5 (wD dN))
  (zB (xJ (yM (aC (fV 1) aN) yP) (gN 6) (zB (zH true 7 (zY (yM (aC (fV 3) aN) yP) [none,some 2,some 6,some 0,some 4] (gN 0) yL (f2 (fV 1) (f2 (f2 (f2 (zE (aC (fV 3) (aC (fV 0) aN)) xu) (fC (.int 64)) (zm .FloorDiv)) (f2 (fV 2) (fP (aC (f2 (fV 0) (fV 4) (zO .Eq)) aN) Wv) (zm .Mult)) (zm .Add)) (fC (.int 26)) (zm .Mod)) ixP)))
  (vI (ZC 5 (dC (zfO .str (fC (.str "")) (aC (fV 7) aN) zjd) dN) Z2))))
  (ym (fV 5)))))))
def Zc:Fn:=fnR 8 2 zdM
abbrev zcj:List Str:=["_law_n","_law_m"]
theorem zbo:FnScope zcj ["_law_n","_law_m"] (zx YC):=⟨rfl,rfl,rfl,by decide +kernel,rfl,by decide +kernel,by decide +kernel⟩
def zbX:SF:=
 (zB (whL (fT (f2 (fV 1) (fC (.int 0)) (zO .Gt))) (zol 0 1 (dC (fV 1) (dC (f2 (fV 0) (fV 1) (zm .Mod)) dN))) 10000)
  (ym (fV 0)))
def vh:Fn:=fnR 2 2 zbX
abbrev Vr:List Str:=["_law_kind","_law_n","_law_a","_law_b","_law_images_here"]
theorem Wt:FnScope Vr ["_law_kind","_law_n","_law_a","_law_b"] (zx vQ):=⟨rfl,rfl,rfl,by decide +kernel,rfl,by decide +kernel,by decide +kernel⟩
def VF:SF:=
 (zB (sIf (fT (f2 (fV 0) (fC (.int 0)) (zO .Eq))) (ym (f2 (f2 (fV 2) (fV 3) (zm .Add)) (fV 1) (zm .Mod))) sNx)
  (zB (sIf (fT (f2 (fV 0) (fC (.int 1)) (zO .Eq))) (ym (fP (aC (fV 2) (aC (fV 3) aN)) zue)) sNx)
  (zB (sIf (fT (f2 (fV 0) (fC (.int 2)) (zO .Eq))) (ym (f2 (wD (dC (fV 3) (dC (fV 2) dN))) (fP (aC (f2 (fV 3) (fC (.int 0)) (zO .Eq)) aN) Wv) ixP)) sNx)
  (zB (zH true 4 (wD (dC (f2 (fV 3) (fC (.int 2)) (zm .FloorDiv)) (dC (f2 (fV 3) (fC (.int 2)) (zm .Mod)) dN))))
  (ym (f2 (f2 (fC (.int 2)) (f2 (fV 4) (f2 (fV 2) (fC (.int 2)) (zm .FloorDiv)) ixP) (zm .Mult)) (f2 (fV 4) (f2 (fV 2) (fC (.int 2)) (zm .Mod)) ixP) (zm .Add)))))))
def zQ:Fn:=fnR 5 4 VF
abbrev WK:List Str:=["_law_kind","_law_n","_law_x","_law_some","_law_k"]
theorem vO:FnScope WK ["_law_kind","_law_n","_law_x"] (zx Zy):=⟨rfl,rfl,rfl,by decide +kernel,rfl,by decide +kernel,by decide +kernel⟩
theorem zeC:(["_law_a","_law_x"]:List Str).Nodup:=by decide +kernel
def zbY:SF:=
 (zB (sIf (fT (f2 (fV 0) (fC (.int 3)) (zO .Eq))) (ym (zY (yM (aC (fV 1) aN) yP) [none,some 2] (gN 0) yL (f2 (wD (dC (fV 0) (dC (f2 (f2 (f2 (fC (.int 2)) (f2 (fC (.int 1)) (f2 (fV 0) (fC (.int 2)) (zm .Mod)) (zm .Sub)) (zm .Mult)) (fC (.int 1)) (zm .Add)) (f2 (fV 0) (fC (.int 2)) (zm .FloorDiv)) (zm .Sub)) dN))) (f2 (fV 1) (fC (.int 2)) (zm .Mod)) ixP))) sNx)
  (zB (zH false 3 (wD dN))
  (zB (xJ (yM (aC (fC (.int 1)) (aC (fV 1) aN)) zsd) (gN 4) (zB (zH true 2 (f2 (fV 2) (fV 1) (zm .FloorDiv)))
  (vI (ZC 3 (dC (f2 (wD (dC (f2 (fV 2) (fV 1) (zm .Mod)) (dC (f2 (fC (.int 1)) (f2 (fV 2) (f2 (fV 1) (fC (.int 1)) (zm .Sub)) (zm .Mod)) (zm .Add)) dN))) (f2 (fV 0) (fC (.int 1)) (zm .Sub)) ixP) dN) Z2))))
  (zB (sIf (fT (f2 (fV 0) (fC (.int 1)) (zO .Eq))) (zH false 3 (fP (aC (fV 3) aN) zmS)) sNx)
  (ym (f2 (wD (dC (fC (.int 0)) dN)) (fV 3) (zm .Add)))))))
def Zx:Fn:=fnR 5 3 zbY
abbrev ZR:List Str:=["_law_kind","_law_n","_law_m","_law_x","_law_images_here","_law_step"]
theorem Xf:FnScope ZR ["_law_kind","_law_n","_law_m","_law_x"] (zx wK):=⟨rfl,rfl,rfl,by decide +kernel,rfl,by decide +kernel,by decide +kernel⟩
theorem zcY:(["_law_c","_law_images_here"]:List Str).Nodup:=by decide +kernel
theorem zcB:(["_law_c","_law_n","_law_step","_law_x"]:List Str).Nodup:=by decide +kernel
theorem zdh:(["_law_a","_law_n","_law_step","_law_c","_law_x"]:List Str).Nodup:=by decide +kernel
def zbl:SF:=
 (zB (sIf (fT (f2 (fV 0) (fC (.int 0)) (zO .Gt))) (zB (zH true 4 (zE (aC (fV 0) (aC (fV 1) (aC (fV 3) aN))) Zx))
  (ym (zY (yM (aC (fV 2) aN) yP) [none,some 4] (gN 0) yL (fP (aC (fV 1) aN) lstP)))) sNx)
  (zB (zH true 5 (f2 (f2 (fV 1) (zE (aC (fV 1) (aC (fV 2) aN)) vh) (zm .FloorDiv)) (f2 (f2 (fV 3) (fC (.int 8)) (zm .FloorDiv)) (fC (.int 8)) (zm .Mod)) (zm .Mult)))
  (ym (zY (yM (aC (fV 2) aN) yP) [none,some 1,some 5,some 3] (gN 0) yL (zY (yM (aC (fV 1) aN) yP) [none,some 1,some 2,some 0,some 3] (gN 0) yL (f2 (f2 (f2 (f2 (fV 4) (fC (.int 8)) (zm .Mod)) (fV 0) (zm .Mult)) (f2 (fV 2) (fV 3) (zm .Mult)) (zm .Add)) (fV 1) (zm .Mod)))))))
def yV:Fn:=fnR 6 4 zbl
abbrev zdX:List Str:=["_law_x","_law_first","_law_size","_law_other"]
theorem vg:FnScope zdX ["_law_x"] (zx XM):=⟨rfl,rfl,rfl,by decide +kernel,rfl,by decide +kernel,by decide +kernel⟩
def zdZ:SF:=
 (zB (zH true 1 (f2 (fV 0) (fC (.int 4)) (zm .Mod)))
  (zB (zH true 2 (f2 (wD (dC (f2 (fC (.int 1)) (f2 (f2 (fV 0) (fC (.int 4)) (zm .FloorDiv)) (fC (.int 5)) (zm .Mod)) (zm .Add)) (dC (f2 (fC (.int 1)) (f2 (f2 (fV 0) (fC (.int 4)) (zm .FloorDiv)) (fC (.int 8)) (zm .Mod)) (zm .Add)) dN))) (fP (aC (f2 (f2 (f2 (fV 0) (fC (.int 40)) (zm .FloorDiv)) (fC (.int 4)) (zm .Mod)) (fC (.int 1)) (zO .Eq)) aN) Wv) ixP))
  (zB (sIf (fT (f2 (fV 1) (fC (.int 3)) (zO .Eq))) (zH true 2 (fC (.int 4))) sNx)
  (zB (zH true 3 (f2 (fC (.int 1)) (f2 (f2 (fV 0) (fC (.int 160)) (zm .FloorDiv)) (fC (.int 3)) (zm .Mod)) (zm .Add)))
  (zB (sIf (fT (f2 (f2 (fV 2) (fV 3) (zm .Mult)) (fC (.int 8)) (zO .Gt))) (zH true 3 (fC (.int 1))) sNx)
  (ym (wM (dC (fV 1) (dC (fV 2) (dC (f2 (f2 (fV 0) (fC (.int 480)) (zm .FloorDiv)) (fC (.int 3)) (zm .Mod)) (dC (fV 3) dN)))))))))))
def v9:Fn:=fnR 4 1 zdZ
abbrev zcb:List Str:=["_law_cell","_law_many","_law_found","_law_rest","_law_k"]
theorem vL:FnScope zcb ["_law_cell","_law_many"] (zx YD):=⟨rfl,rfl,rfl,by decide +kernel,rfl,by decide +kernel,by decide +kernel⟩
def zbT:SF:=
 (zB (zH false 2 (wD dN))
  (zB (zH true 3 (f2 (fV 0) (fC (.int 2)) (zm .FloorDiv)))
  (zB (xJ (yM (aC (fV 1) aN) yP) (gN 4) (sIf (fT (f2 (f2 (fV 0) (fC (.int 2)) (zm .Mod)) (fC (.int 0)) (zO .Eq))) (zB (vI (ZC 2 (dC (f2 (fV 3) (fC (.int 1000000007)) (zm .Mod)) dN) Z2))
  (zH true 3 (f2 (fV 3) (fC (.int 1000000007)) (zm .FloorDiv)))) (vI (ZC 2 (dC (zE (aC (fV 3) (aC (fV 4) aN)) xu) dN) Z2))))
  (ym (fV 2)))))
def yU:Fn:=fnR 5 2 zbT
abbrev vM:List Str:=["_law_cell","_law_head","_law_many","_law_xs","_law_ys","_law_kind","_law_n","_law_more","_law_times","_law_m","_law_size","_law_left","_law_order","_law_k","_law_join","_law_a","_law_b","_law_there","_law_names","_law_deeds","_law_rows","_law_beside","_law_made","_law_c","_law_signs","_law_bits","_law_held","_law_nothing"]
theorem zy:FnScope vM ["_law_cell","_law_head","_law_many"] (zx xU):=⟨rfl,rfl,rfl,by decide +kernel,rfl,by decide +kernel,by decide +kernel⟩
theorem zdp:(["_law_a","_law_order"]:List Str).Nodup:=by decide +kernel
theorem zdc:(["_law_b"]:List Str).Nodup:=by decide +kernel
theorem zdo:(["_law_c","_law_order"]:List Str).Nodup:=by decide +kernel
theorem zcN:(["_law_a"]:List Str).Nodup:=by decide +kernel
theorem zcF:(["_law_a","_law_bits"]:List Str).Nodup:=by decide +kernel
def Wa:SF:=
 (zB (zH true 3 (zE (aC (fV 0) (aC (f2 (fC (.int 1)) (f2 (fC (.int 2)) (fV 2) (zm .Mult)) (zm .Add)) aN)) yU))
  (zB (zH true 4 (zE (aC (fV 1) (aC (fC (.int 13)) aN)) yU))
  (zB (zfH (zE (aC (f2 (fV 3) (fC (.int 0)) ixP) aN) v9) (gT 4 (gsC (gN 5) (gsC (gN 6) (gsC (gN 7) (gsC (gN 8) gsN))))))
  (zB (zH true 9 (f2 (f2 (fC (.int 1)) (f2 (f2 (fV 4) (fC (.int 0)) ixP) (fC (.int 4)) (zm .Mod)) (zm .Add)) (f2 (fC (.int 2)) (fP (aC (f2 (f2 (f2 (f2 (fV 4) (fC (.int 0)) ixP) (fC (.int 4)) (zm .FloorDiv)) (fC (.int 8)) (zm .Mod)) (fC (.int 5)) (zO .Eq)) aN) Wv) (zm .Mult)) (zm .Add)))
  (zB (zH true 10 (f2 (fV 6) (fV 8) (zm .Mult)))
  (zB (zH false 11 (fP (aC (fV 10) aN) lrP))
  (zB (zH false 12 (wD dN))
  (zB (xJ (yM (aC (fV 10) aN) yP) (gN 13) (vI (ZC 12 (dC (ZC 11 (dC (f2 (f2 (fV 4) (f2 (fC (.int 1)) (fV 13) (zm .Add)) ixP) (fP (aC (fV 11) aN) zku) (zm .Mod)) dN) Vf) dN) Z2)))
  (zmj 12 (zB (zH false 14 (zY (xX (fV 12)) [none,some 12] (gN 0) yL (zY (xX (fV 1)) [none] (gN 0) yL (fC (.int 0)))))
  (zB (xJ (yM (aC (fV 10) aN) yP) (gN 15) (xJ (yM (aC (fV 10) aN) yP) (gN 16) (zB (zH true 17 (f2 (zE (aC (fV 5) (aC (fV 6) (aC (f2 (fV 15) (fV 8) (zm .FloorDiv)) (aC (f2 (fV 16) (fV 8) (zm .FloorDiv)) aN)))) zQ) (fV 8) (zm .Mult)))
  (zB (zH true 17 (f2 (fV 17) (zE (aC (fV 7) (aC (fV 8) (aC (f2 (fV 15) (fV 8) (zm .Mod)) (aC (f2 (fV 16) (fV 8) (zm .Mod)) aN)))) zQ) (zm .Add)))
  (zbj 14 (xAt 12 (xV 15)) (xAt 12 (xV 16)) (xAt 12 (xV 17)))))))
  (zB (zH true 18 (zE (aC (f2 (fV 1) (fC (.int 7)) (zm .FloorDiv)) (aC (fC (.int 10)) aN)) Zc))
  (zB (zH false 19 (wD dN))
  (zB (xJ (yM (aC (fV 2) aN) yP) (gN 13) (zB (zH true 20 (zE (aC (fV 5) (aC (fV 6) (aC (fV 9) (aC (f2 (fV 3) (f2 (fC (.int 1)) (f2 (fC (.int 2)) (fV 13) (zm .Mult)) (zm .Add)) ixP) aN)))) yV))
  (zB (zH true 21 (zE (aC (fV 7) (aC (fV 8) (aC (fV 9) (aC (f2 (fV 3) (f2 (fC (.int 2)) (f2 (fC (.int 2)) (fV 13) (zm .Mult)) (zm .Add)) ixP) aN)))) yV))
  (zB (zH false 22 (zY (yM (aC (fV 9) aN) yP) [none,some 12] (gN 0) yL (zY (xX (fV 1)) [none] (gN 0) yL (fC (.int 0)))))
  (zB (xJ (yM (aC (fV 9) aN) yP) (gN 23) (xJ (yM (aC (fV 10) aN) yP) (gN 15) (zB (zH true 17 (f2 (f2 (fV 20) (fV 23) ixP) (f2 (fV 15) (fV 8) (zm .FloorDiv)) ixP))
  (zB (zH true 17 (f2 (f2 (fV 17) (fV 8) (zm .Mult)) (f2 (f2 (fV 21) (fV 23) ixP) (f2 (fV 15) (fV 8) (zm .Mod)) ixP) (zm .Add)))
  (zbj 22 (xV 23) (xAt 12 (xV 15)) (xAt 12 (xV 17)))))))
  (vI (ZC 19 (dC (wM (dC (f2 (fV 18) (fV 13) ixP) (dC (fV 22) dN))) dN) Z2)))))))
  (zB (zH false 24 (wD dN))
  (zB (xJ (yM (aC (fC (.int 3)) aN) yP) (gN 13) (zB (zH true 25 (f2 (fV 4) (f2 (fC (.int 9)) (fV 13) (zm .Add)) ixP))
  (zB (zH true 26 (zY (yM (aC (fV 10) aN) yP) [none,some 25] (gN 0) (fT (f2 (f2 (f2 (fV 1) (f2 (fC (.int 1)) (fV 0) zmc) (zm .FloorDiv)) (fC (.int 2)) (zm .Mod)) (fC (.int 1)) (zO .Eq))) (fV 0)))
  (vI (ZC 24 (dC (wM (dC (f2 (fV 18) (f2 (fV 13) (f2 (fC (.int 4)) (f2 (f2 (fV 25) (fC (.int 512)) (zm .FloorDiv)) (fC (.int 2)) (zm .Mod)) (zm .Mult)) (zm .Add)) ixP) (dC (fV 26) dN))) dN) Z2)))))
  (zB (zH true 27 (f2 (fV 12) (f2 (wD (dC (fC (.int 0)) (dC (fV 8) dN))) (fP (aC (f2 (fV 5) (fC (.int 3)) (zO .Eq)) aN) Wv) ixP) ixP))
  (ym (wM (dC (fV 10) (dC (fV 9) (dC (fV 14) (dC (fV 27) (dC (fV 19) (dC (fSl (fV 24) oN (oS (f2 (f2 (fV 4) (fC (.int 12)) ixP) (fC (.int 4)) (zm .Mod))) slP) dN)))))))))))))))))))))))))
def vJ:Fn:=fnR 28 3 Wa
abbrev Xb:List Str:=["_law_algebra_here","_law_n","_law_m","_law_join","_law_nothing","_law_deeds","_law_signs","_law_rows","_law_held"]
theorem xR:FnScope Xb ["_law_algebra_here"] (zx vX):=⟨rfl,rfl,rfl,by decide +kernel,rfl,by decide +kernel,by decide +kernel⟩
theorem zbr:(["_law_name","_law_table"]:List Str).Nodup:=by decide +kernel
theorem zgp:(["_law_row"]:List Str).Nodup:=by decide +kernel
theorem zbp:(["_law_name","_law_values"]:List Str).Nodup:=by decide +kernel
theorem zgr:(["_law_row"]:List Str).Nodup:=by decide +kernel
def zbD:SF:=
 (zB (zfH (fV 0) (gT 6 (gsC (gN 1) (gsC (gN 2) (gsC (gN 3) (gsC (gN 4) (gsC (gN 5) (gsC (gN 6) gsN))))))))
  (zB (zH false 7 (zY (xX (fV 5)) [none,none] (gT 2 (gsC (gN 0) (gsC (gN 1) gsN))) yL (wM (dC (fV 0) (dC (zY (xX (fV 1)) [none] (gN 0) yL (fP (aC (fV 0) aN) lstP)) dN)))))
  (zB (zH false 8 (zY (xX (fV 6)) [none,none] (gT 2 (gsC (gN 0) (gsC (gN 1) gsN))) yL (wM (dC (fV 0) (dC (fP (aC (fV 1) aN) lstP) dN)))))
  (ym (wM (dC (fV 1) (dC (fV 2) (dC (zY (xX (fV 3)) [none] (gN 0) yL (fP (aC (fV 0) aN) lstP)) (dC (fV 4) (dC (fMv 7) (dC (fMv 8) dN)))))))))))
def v7:Fn:=fnR 9 1 zbD
abbrev YK:List Str:=["_law_algebra_here","_law_cell","_law_n","_law_far","_law_names","_law_some"]
theorem Xi:FnScope YK ["_law_algebra_here","_law_cell"] (zx Za):=⟨rfl,rfl,rfl,by decide +kernel,rfl,by decide +kernel,by decide +kernel⟩
theorem zht:(["_law_pair"]:List Str).Nodup:=by decide +kernel
theorem zhy:(["_law_name"]:List Str).Nodup:=by decide +kernel
theorem zii:(["_law_name"]:List Str).Nodup:=by decide +kernel
theorem zhl:(["_law_name"]:List Str).Nodup:=by decide +kernel
def zgZ:SF:=
 (zB (zH true 2 (f2 (fV 0) (fC (.int 0)) ixP))
  (zB (zH true 3 (f2 (fC (.int 1)) (f2 (fV 1) (f2 (fC (.int 10)) (fC (.int 60)) (zm .Pow)) (zm .Mod)) (zm .Add)))
  (zB (zH true 4 (zY (xX (f2 (f2 (fV 0) (fC (.int 4)) ixP) (f2 (fV 0) (fC (.int 5)) ixP) (zm .Add))) [none] (gN 0) yL (f2 (fV 0) (fC (.int 0)) ixP)))
  (zB (zH true 5 (wD (dC (fV 2) (dC (f1 (fC (.int 1)) znd) (dC (fC (.bl true)) (dC (fC (.bl false)) (dC (fC .non) (dC (fC (.str "0")) (dC (fC (.str "a b")) (dC (wD (dC (fC (.int 0)) dN)) (dC (wM (dC (fC (.int 0)) dN)) (dC (f2 (fV 2) (fV 3) (zm .Add)) (dC (f2 (fC (.int 0)) (fV 3) (zm .Sub)) (dC (fC (.str "")) (dC (fC (.str "Ab")) (dC (wD dN) (dC fD0 dN)))))))))))))))))
  (ym (f2 (f2 (f2 (fV 5) (zY (xX (fV 4)) [none] (gN 0) yL (f2 (fV 0) (fC (.str "x")) (zm .Add))) (zm .Add)) (zY (xX (fV 4)) [none] (gN 0) yL (fSl (fV 0) oN (oS (f1 (fC (.int 1)) znd)) slS)) (zm .Add)) (zY (xX (fV 4)) [none] (gN 0) yL (wD (dC (fV 0) dN))) (zm .Add)))))))
def Wq:Fn:=fnR 6 2 zgZ
abbrev zdx:List Str:=["_law_found","_law_due"]
theorem zic:FnScope zdx ["_law_found","_law_due"] (zx XH):=⟨rfl,rfl,rfl,by decide +kernel,rfl,by decide +kernel,by decide +kernel⟩
def zeb:SF:=
 (ym (zcl (Wf (fV 0) "bool") (f2 (fV 0) (fV 1) (zO .Eq))))
def yx:Fn:=fnR 2 2 zeb
abbrev zar:List Str:=["self","thing"]
theorem zeq:FnScope zar ["self","thing"] (zx Zk):=⟨rfl,rfl,rfl,by decide +kernel,rfl,by decide +kernel,by decide +kernel⟩
def V1:SF:=
 (ym (zcl (Wf (fV 1) "str") (f2 (fV 1) (f1 (fV 0) (Wo ZJ "holders")) (zO .In))))
def Y0:Fn:=fnR 2 2 V1
abbrev Vx:List Str:=["self","thing"]
theorem zcS:FnScope Vx ["self","thing"] (zx vU):=⟨rfl,rfl,rfl,by decide +kernel,rfl,by decide +kernel,by decide +kernel⟩
def Vp:SF:=
 (ym (zE (aC (fV 1) (aC (fC (.int 0)) (aC (f2 (f1 (fV 0) (Wo WQ "size")) (fC (.int 1)) (zm .Sub)) aN))) Z5))
def Yu:Fn:=fnR 2 2 Vp
abbrev VN:List Str:=["self","thing"]
theorem zen:FnScope VN ["self","thing"] (zx Zi):=⟨rfl,rfl,rfl,by decide +kernel,rfl,by decide +kernel,by decide +kernel⟩
def VR:SF:=
 (ym (zcl (Wf (fV 1) "str") (f2 (fV 1) (f1 (fV 0) (Wo zaQ "waits")) (zO .In))))
def Y5:Fn:=fnR 2 2 VR
def zbN:List (Str×Fn):=[("Ways",Y5)]
def zam:List (Str×Fn):=[("Ways",Yu)]
def zbM:List (Str×Fn):=[("Ways",Y0)]
abbrev Z7:List Str:=["_law_way","_law_algebra_here","_law_cell","_law_thing","_law_value","_law_deed","_law_sign"]
theorem Zt:FnScope Z7 ["_law_way","_law_algebra_here","_law_cell"] (zx wX):=⟨rfl,rfl,rfl,by decide +kernel,rfl,by decide +kernel,by decide +kernel⟩
theorem zgk:(["_law_pair"]:List Str).Nodup:=by decide +kernel
theorem zau:(["_law_name","_law_rows","_law_thing"]:List Str).Nodup:=by decide +kernel
theorem zaG:(["_law_name","_law_values","_law_thing"]:List Str).Nodup:=by decide +kernel
def zee:SF:=
 (zB (xJ (zbI (f2 (f2 (fP (aC (f2 (fV 1) (fC (.int 0)) ixP) aN) lrP) (zY (xX (f2 (f2 (fV 1) (fC (.int 4)) ixP) (f2 (fV 1) (fC (.int 5)) ixP) (zm .Add))) [none] (gN 0) yL (f2 (fV 0) (fC (.int 0)) ixP)) (zm .Add)) (zE (aC (fV 1) (aC (fV 2) aN)) Wq) (zm .Add))) (gN 3) (zB (zH true 4 (zcl (zE (aC (fV 3) aN) ye) (Y7 (fC (.int 0)) (fV 3) (f2 (fV 1) (fC (.int 0)) ixP) (zO .LtE) (zO .Lt))))
  (zB (zH true 5 (f2 (zY (xX (f2 (fV 1) (fC (.int 4)) ixP)) [none,none,some 3] (gT 2 (gsC (gN 0) (gsC (gN 1) gsN))) (zcd (fT (Wf (fV 2) "str")) (fT (f2 (fV 0) (fV 2) (zO .Eq)))) (fV 0)) (wD dN) (zO .NotEq)))
  (zB (zH true 6 (f2 (zY (xX (f2 (fV 1) (fC (.int 5)) ixP)) [none,none,some 3] (gT 2 (gsC (gN 0) (gsC (gN 1) gsN))) (zcd (fT (Wf (fV 2) "str")) (fT (f2 (fV 0) (fV 2) (zO .Eq)))) (fV 0)) (wD dN) (zO .NotEq)))
  (zB (sIf (Wl (wk (fT (zE (aC (vC zam "is_value" (fV 0) (aC (fV 3) aN)) (aC (fV 4) aN)) yx))) (wk (fT (zE (aC (vC zbN "is_deed" (fV 0) (aC (fV 3) aN)) (aC (fV 5) aN)) yx)))) (ym (fC (.bl false))) sNx)
  (sIf (wk (fT (zE (aC (vC zbM "is_sign" (fV 0) (aC (fV 3) aN)) (aC (fV 6) aN)) yx))) (ym (fC (.bl false))) sNx))))))
  (ym (fC (.bl true))))
def Zd:Fn:=fnR 7 3 zee
abbrev zag:List Str:=["self"]
theorem zeD:FnScope zag ["self"] (zx Zq):=⟨rfl,rfl,rfl,by decide +kernel,rfl,by decide +kernel,by decide +kernel⟩
def V0:SF:=
 (ym (f1 (fV 0) (Wo zbA "neutral")))
def Xd:Fn:=fnR 1 1 V0
abbrev zdO:List Str:=["self","one","other"]
theorem zim:FnScope zdO ["self","one","other"] (zx XX):=⟨rfl,rfl,rfl,by decide +kernel,rfl,by decide +kernel,by decide +kernel⟩
def zdY:SF:=
 (ym (f2 (f2 (f1 (fV 0) (Wo zfd "table")) (fV 1) ixP) (fV 2) ixP))
def zaj:Fn:=fnR 3 3 zdY
abbrev Vs:List Str:=["self","sign","value"]
theorem zda:FnScope Vs ["self","sign","value"] (zx vR):=⟨rfl,rfl,rfl,by decide +kernel,rfl,by decide +kernel,by decide +kernel⟩
def Vo:SF:=
 (ym (f2 (fV 2) (f2 (f1 (fV 0) (Wo ZJ "holders")) (fV 1) ixP) (zO .In)))
def Yc:Fn:=fnR 3 3 Vo
def Vb:List (Str×Fn):=[("Ways",Xd)]
def zhL:List (Str×Fn):=[("Ways",zaj)]
def zak:List (Str×Fn):=[("Ways",Yc)]
abbrev zdL:List Str:=["_law_way","_law_algebra_here","_law_n","_law_m","_law_join","_law_nothing","_law_deeds","_law_signs","_law_a","_law_b","_law_found","_law_name","_law_values"]
theorem yI:FnScope zdL ["_law_way","_law_algebra_here"] (zx XS):=⟨rfl,rfl,rfl,by decide +kernel,rfl,by decide +kernel,by decide +kernel⟩
def zdQ:SF:=
 (zB (zfH (fV 1) (gT 6 (gsC (gN 2) (gsC (gN 3) (gsC (gN 4) (gsC (gN 5) (gsC (gN 6) (gsC (gN 7) gsN))))))))
  (zB (sIf (Wl (wk (fT (zE (aC (vC Vb "nothing" (fV 0) aN) aN) ye))) (fT (f2 (vC Vb "nothing" (fV 0) aN) (fV 5) (zO .NotEq)))) (ym (fC (.bl false))) sNx)
  (zB (xJ (yM (aC (fV 2) aN) yP) (gN 8) (zB (xJ (yM (aC (fV 2) aN) yP) (gN 9) (zB (zH true 10 (vC zhL "join" (fV 0) (aC (fV 8) (aC (fV 9) aN))))
  (sIf (Wl (wk (fT (zE (aC (fV 10) aN) ye))) (fT (f2 (fV 10) (f2 (f2 (fV 4) (fV 8) ixP) (fV 9) ixP) (zO .NotEq)))) (ym (fC (.bl false))) sNx)))
  (xJ (zbI (fV 7)) (gT 2 (gsC (gN 11) (gsC (gN 12) gsN))) (sIf (wk (fT (zE (aC (vC zak "has_sign" (fV 0) (aC (fV 11) (aC (fV 8) aN))) (aC (f2 (fV 8) (fV 12) (zO .In)) aN)) yx))) (ym (fC (.bl false))) sNx))))
  (ym (fC (.bl true))))))
def xx:Fn:=fnR 13 2 zdQ
abbrev zdu:List Str:=["self","wait","value","many"]
theorem zhi:FnScope zdu ["self","wait","value","many"] (zx Xy):=⟨rfl,rfl,rfl,by decide +kernel,rfl,by decide +kernel,by decide +kernel⟩
def zdy:SF:=
 (ym (f2 (f2 (fV 1) (f2 (fV 3) (f1 (fV 0) (Wo YL "around")) (zm .Mod)) ixP) (fV 2) ixP))
def VM:Fn:=fnR 4 4 zdy
abbrev zdS:List Str:=["self"]
theorem zhw:FnScope zdS ["self"] (zx XF):=⟨rfl,rfl,rfl,by decide +kernel,rfl,by decide +kernel,by decide +kernel⟩
def zec:SF:=
 (ym (f2 (wM (dC (fP (aC (f1 (fV 0) (Wo WQ "size")) aN) trP) dN)) (f1 (fV 0) (Wo YL "around")) (zm .Mult)))
def zal:Fn:=fnR 1 1 zec
abbrev zay:List Str:=["self","deed"]
theorem zei:FnScope zay ["self","deed"] (zx Zu):=⟨rfl,rfl,rfl,by decide +kernel,rfl,by decide +kernel,by decide +kernel⟩
def V3:SF:=
 (ym (f2 (f1 (fV 0) (Wo zaQ "waits")) (fV 1) ixP))
def Xc:Fn:=fnR 2 2 V3
def WY:List (Str×Fn):=[("Ways",VM)]
def zeK:List (Str×Fn):=[("Ways",zal)]
def Vl:List (Str×Fn):=[("Ways",Xc)]
abbrev zfr:List Str:=["_law_way","_law_algebra_here","_law_many","_law_n","_law_m","_law_join","_law_nothing","_law_deeds","_law_signs","_law_a","_law_name","_law_rows","_law_found"]
theorem yW:FnScope zfr ["_law_way","_law_algebra_here","_law_many"] (zx W3):=⟨rfl,rfl,rfl,by decide +kernel,rfl,by decide +kernel,by decide +kernel⟩
def zfc:SF:=
 (zB (zfH (fV 1) (gT 6 (gsC (gN 3) (gsC (gN 4) (gsC (gN 5) (gsC (gN 6) (gsC (gN 7) (gsC (gN 8) gsN))))))))
  (zB (xJ (yM (aC (fV 3) aN) yP) (gN 9) (sIf (Wl (fT (f2 (fV 2) (fC (.int 0)) (zO .Gt))) (fT (f2 (fV 9) (fV 6) (zO .Eq)))) (zB (sIf (fT (f2 (vC WY "made" (fV 0) (aC (vC zeK "idle" (fV 0) aN) (aC (fV 9) (aC (fV 2) aN)))) (fV 9) (zO .NotEq))) (ym (fC (.bl false))) sNx)
  (xJ (zbI (fV 7)) (gT 2 (gsC (gN 10) (gsC (gN 11) gsN))) (zB (zH true 12 (vC WY "made" (fV 0) (aC (vC Vl "wait_of" (fV 0) (aC (fV 10) aN)) (aC (fV 9) (aC (fV 2) aN)))))
  (sIf (Wl (wk (fT (zE (aC (fV 12) aN) ye))) (fT (f2 (fV 12) (f2 (f2 (fV 11) (f2 (fV 2) (fV 4) (zm .Mod)) ixP) (fV 9) ixP) (zO .NotEq)))) (ym (fC (.bl false))) sNx)))) sNx))
  (ym (fC (.bl true)))))
def ZL:Fn:=fnR 13 3 zfc
abbrev vP:List Str:=["self","algebra"]
theorem zcE:FnScope vP ["self","algebra"] (zx xM):=⟨rfl,rfl,rfl,by decide +kernel,rfl,by decide +kernel,by decide +kernel⟩
theorem Xk:(["name","rows"]:List Str).Nodup:=by decide +kernel
theorem Xo:(["name","values"]:List Str).Nodup:=by decide +kernel
def Yv:IFn:=
 (zcy (zoY (zE (aC (fV 1) aN) xZ))
  (zcy (zhZ 0 WQ "size" (f2 (fV 1) (fC (.int 0)) ixP))
  (zcy (zhZ 0 YL "around" (f2 (fV 1) (fC (.int 1)) ixP))
  (zcy (zhZ 0 zfd "table" (zE (aC (f2 (fV 1) (fC (.int 2)) ixP) aN) V6))
  (zcy (zhZ 0 zbA "neutral" (f2 (fV 1) (fC (.int 3)) ixP))
  (zcy (zhZ 0 zaQ "waits" (fP (aC (zY (xX (f2 (fV 1) (fC (.int 4)) ixP)) [none,none] (gT 2 (gsC (gN 0) (gsC (gN 1) gsN))) yL (wM (dC (fV 0) (dC (zE (aC (fV 1) aN) V6) dN)))) aN) zef))
  (zhZ 0 ZJ "holders" (fP (aC (zY (xX (f2 (fV 1) (fC (.int 5)) ixP)) [none,none] (gT 2 (gsC (gN 0) (gsC (gN 1) gsN))) yL (wM (dC (fV 0) (dC (zgL (fV 1)) dN)))) aN) zef))))))))
def wI(c:Str):Fn:=fnI c 2 2 Yv
abbrev zqO:List Str:=["_law_script","_law_algebra_here","_law_handed","_law_way","_law_row","_law_name","_law_rows","_law_values","_law_cell"]
theorem Y6:FnScope zqO ["_law_script"] (zx zkC):=⟨rfl,rfl,rfl,by decide +kernel,rfl,by decide +kernel,by decide +kernel⟩
def zqM:SF:=
 (zB (zH true 1 (zE (aC (zE (aC (fV 0) (aC (fC (.int 0)) aN)) yj) (aC (zE (aC (fV 0) (aC (fC (.int 1)) aN)) yj) (aC (f2 (zE (aC (fV 0) (aC (fC (.int 2)) aN)) yj) (fC (.int 5)) (zm .Mod)) aN))) vJ))
  (zB (zH false 2 (zE (aC (fV 1) aN) v7))
  (zB (zH true 3 (zE (aC (fV 2) aN) (wI "Ways")))
  (zB (sIf (Wl (fT (f2 (fV 2) (fV 1) (zO .NotEq))) (wk (fT (zE (aC (fV 3) (aC (fV 1) aN)) xx)))) (ym (fC (.bl false))) sNx)
  (zB (zoO 2 4 5 6 7)
  (zB (sIf (Wl (wk (fT (zE (aC (fV 3) (aC (fV 1) (aC (zE (aC (fV 0) (aC (fC (.int 3)) aN)) yj) aN))) Zd))) (wk (fT (zE (aC (fV 3) (aC (fV 1) aN)) xx)))) (ym (fC (.bl false))) sNx)
  (zB (xJ (zbI (f2 (wD (dC (fC (.int 0)) (dC (fC (.int 1)) (dC (fC (.int 300)) dN)))) (fSl (fV 0) (oS (fC (.int 4))) (oS (fC (.int 44))) slP) (zm .Add))) (gN 8) (sIf (wk (fT (zE (aC (fV 3) (aC (fV 1) (aC (f2 (fV 8) (fC (.int 301)) (zm .Mod)) aN))) ZL))) (ym (fC (.bl false))) sNx))
  (ym (fC (.bl true))))))))))
def zgi:Fn:=fnR 9 1 zqM
set_option genInjectivity false in
set_option genSizeOf false in
structure Adr where
 zbv:Addr
 zbG:FuncData
 zaN:Addr
 zaI:FuncData
 Yh:Addr
 Yy:FuncData
 Yw:Addr
 Yq:FuncData
 We:Addr
 Wg:FuncData
 W7:Addr
 W8:FuncData
 Vg:Addr
 WM:FuncData
 Y4:Addr
 Xp:FuncData
 zjS:Addr
 zjE:FuncData
 X7:Addr
 Wj:FuncData
 zai:Addr
 V8:FuncData
 zas:Addr
 zat:FuncData
 VL:Addr
 zaH:FuncData
 Vc:Addr
 W4:FuncData
 Ye:Addr
 Yl:FuncData
 Vi:Addr
 Ve:FuncData
 Wc:Addr
 Wm:FuncData
 zao:Addr
 zaf:FuncData
 Vk:Addr
 Vh:FuncData
 Wk:Addr
 Wd:FuncData
 zbx:Addr
 zbC:FuncData
 zcJ:Addr
 zdl:FuncData
 zaF:Addr
 zaK:FuncData
 YS:Addr
 Xn:FuncData
 Yd:Addr
 Yn:FuncData
 Xj:Addr
 Xm:FuncData
 zaO:Addr
 zaR:FuncData
 YZ:Addr
 Xg:FuncData
 zaA:Addr
 zaB:FuncData
 Yi:Addr
 Yj:FuncData
 zab:Addr
 zaw:FuncData
 zav:Addr
 zax:FuncData
 zaM:Addr
 V2:FuncData
 Y8:Addr
 Xl:FuncData
 zbK:Addr
 zbQ:FuncData
 Yx:Addr
 Ym:FuncData
 znV:Addr
 znu:FuncData
 wZ:Addr
structure Txt(K:zC)(kd:KD)(mg:Str->Option Value)(t:Adr):Prop where
 zgg:Fun K "is_whole" "is_whole" WN t.zbv t.zbG
 zke:Binds K t.zbG ["thing"] []
 ZK:mg "is_whole"=some (.ref t.zbv)
 zdD:Fun K "is_within" "is_within" XD t.zaN t.zaI
 ziJ:Binds K t.zaI ["thing","least","most"] []
 Z5:mg "is_within"=some (.ref t.zaN)
 Vq:Fun K "nothing_fails" "nothing_fails" vW t.Yh t.Yy
 zey:Binds K t.Yy ["algebra"] []
 wH:mg "nothing_fails"=some (.ref t.Yh)
 Vt:Fun K "parting_fails" "parting_fails" vV t.Yw t.Yq
 zem:Binds K t.Yq ["algebra"] []
 wJ:mg "parting_fails"=some (.ref t.Yw)
 zbs:Fun K "doing_fails" "doing_fails" ZX t.We t.Wg
 zgt:Binds K t.Wg ["algebra","name","rows"] []
 xW:mg "doing_fails"=some (.ref t.We)
 zcm:Fun K "deeds_fail" "deeds_fail" YF t.W7 t.W8
 zhO:Binds K t.W8 ["algebra"] []
 Zw:mg "deeds_fail"=some (.ref t.W7)
 zcs:Fun K "what_fails" "what_fails" YG t.Vg t.WM
 zhv:Binds K t.WM ["algebra"] []
 Zr:mg "what_fails"=some (.ref t.Vg)
 zaD:Fun K "check_let_by" "check_let_by" Zj t.Y4 t.Xp
 zeX:Binds K t.Xp ["algebra"] []
 xZ:mg "check_let_by"=some (.ref t.Y4)
 zjO:Fun K "firm" "firm" zgj t.zjS t.zjE
 zmK:Binds K t.zjE ["rows"] []
 V6:mg "firm"=some (.ref t.zjS)
 vK:Fun K "_law_cell_at" "_law_cell_at" Z0 t.X7 t.Wj
 ZS:Binds K t.Wj ["_law_script","_law_k"] []
 yj:mg "_law_cell_at"=some (.ref t.X7)
 zac:Fun K "_law_mixed" "_law_mixed" XC t.zai t.V8
 zdB:Binds K t.V8 ["_law_cell","_law_k"] []
 xu:mg "_law_mixed"=some (.ref t.zai)
 Z6:Fun K "_law_whole" "_law_whole" Xw t.zas t.zat
 XQ:Binds K t.zat ["_law_found"] []
 ye:mg "_law_whole"=some (.ref t.zas)
 zdR:Fun K "_law_words" "_law_words" Z9 t.VL t.zaH
 zjB:Binds K t.zaH ["_law_cell","_law_many"] []
 Zc:mg "_law_words"=some (.ref t.VL)
 zcr:Fun K "_law_common" "_law_common" YC t.Vc t.W4
 zir:Binds K t.W4 ["_law_n","_law_m"] []
 vh:mg "_law_common"=some (.ref t.Vc)
 Yk:Fun K "_law_joined_by" "_law_joined_by" vQ t.Ye t.Yl
 VB:Binds K t.Yl ["_law_kind","_law_n","_law_a","_law_b"] []
 zQ:mg "_law_joined_by"=some (.ref t.Ye)
 zbR:Fun K "_law_images" "_law_images" Zy t.Vi t.Ve
 zhC:Binds K t.Ve ["_law_kind","_law_n","_law_x"] []
 Zx:mg "_law_images"=some (.ref t.Vi)
 X4:Fun K "_law_done_by" "_law_done_by" wK t.Wc t.Wm
 zbh:Binds K t.Wm ["_law_kind","_law_n","_law_m","_law_x"] []
 yV:mg "_law_done_by"=some (.ref t.Wc)
 zdt:Fun K "_law_kinds" "_law_kinds" XM t.zao t.zaf
 ziE:Binds K t.zaf ["_law_x"] []
 v9:mg "_law_kinds"=some (.ref t.zao)
 Vj:Fun K "_law_stream" "_law_stream" YD t.Vk t.Vh
 zbV:Binds K t.Vh ["_law_cell","_law_many"] []
 yU:mg "_law_stream"=some (.ref t.Vk)
 zbk:Fun K "_law_algebra" "_law_algebra" xU t.Wk t.Wd
 zgv:Binds K t.Wd ["_law_cell","_law_head","_law_many"] []
 vJ:mg "_law_algebra"=some (.ref t.Wk)
 zfS:Fun K "_law_copy" "_law_copy" vX t.zbx t.zbC
 zkd:Binds K t.zbC ["_law_algebra_here"] []
 v7:mg "_law_copy"=some (.ref t.zbx)
 zgW:Fun K "_law_odd" "_law_odd" Za t.zcJ t.zdl
 zmq:Binds K t.zdl ["_law_algebra_here","_law_cell"] []
 Wq:mg "_law_odd"=some (.ref t.zcJ)
 Z8:Fun K "_law_truth" "_law_truth" XH t.zaF t.zaK
 XJ:Binds K t.zaK ["_law_found","_law_due"] []
 yx:mg "_law_truth"=some (.ref t.zaF)
 zfG:Fun K "is_sign" "Ways.is_sign" Zk t.YS t.Xn
 zfX:Binds K t.Xn ["self","thing"] []
 zex:Fun K "is_value" "Ways.is_value" vU t.Yd t.Yn
 zeo:Binds K t.Yn ["self","thing"] []
 zfi:Fun K "is_deed" "Ways.is_deed" Zi t.Xj t.Xm
 zeT:Binds K t.Xm ["self","thing"] []
 zdU:Fun K "_law_known" "_law_known" wX t.zaO t.zaR
 zjj:Binds K t.zaR ["_law_way","_law_algebra_here","_law_cell"] []
 Zd:mg "_law_known"=some (.ref t.zaO)
 zfw:Fun K "nothing" "Ways.nothing" Zq t.YZ t.Xg
 zfe:Binds K t.Xg ["self"] []
 zjv:Fun K "join" "Ways.join" XX t.zaA t.zaB
 ziQ:Binds K t.zaB ["self","one","other"] []
 zeB:Fun K "has_sign" "Ways.has_sign" vR t.Yi t.Yj
 zeg:Binds K t.Yj ["self","sign","value"] []
 V4:Fun K "_law_joins" "_law_joins" XS t.zab t.zaw
 zdE:Binds K t.zaw ["_law_way","_law_algebra_here"] []
 xx:mg "_law_joins"=some (.ref t.zab)
 zjp:Fun K "made" "Ways.made" Xy t.zav t.zax
 zjz:Binds K t.zax ["self","wait","value","many"] []
 ziN:Fun K "idle" "Ways.idle" XF t.zaM t.V2
 ziL:Binds K t.V2 ["self"] []
 zeZ:Fun K "wait_of" "Ways.wait_of" Zu t.Y8 t.Xl
 zfy:Binds K t.Xl ["self","deed"] []
 zfU:Fun K "_law_does" "_law_does" W3 t.zbK t.zbQ
 zkr:Binds K t.zbQ ["_law_way","_law_algebra_here","_law_many"] []
 ZL:mg "_law_does"=some (.ref t.zbK)
 zeA:Fun K "__init__" "Ways.__init__" xM t.Yx t.Ym
 zeu:Binds K t.Ym ["self","algebra"] []
 zui:Fun K "law" "law" zkC t.znV t.znu
 zvk:Binds K t.znu ["_law_script"] []
 zgi:mg "law"=some (.ref t.znV)
 wL:CI K kd mg "Ways" t.wZ
 zep:Meth K t.wZ "__init__" t.Yx
 zfK:Meth K t.wZ "is_deed" t.Xj
 zeh:Meth K t.wZ "is_value" t.Yd
 zfF:Meth K t.wZ "is_sign" t.YS
 zeV:Meth K t.wZ "nothing" t.YZ
 ziT:Meth K t.wZ "join" t.zaA
 zek:Meth K t.wZ "has_sign" t.Yi
 ziK:Meth K t.wZ "made" t.zav
 zjs:Meth K t.wZ "idle" t.zaM
 zeR:Meth K t.wZ "wait_of" t.Y8
 zgd:Zo K t.wZ "holders"
 zjc:Zo K t.wZ "size"
 zin:Zo K t.wZ "waits"
 zgb:Zo K t.wZ "neutral"
 zhK:Zo K t.wZ "table"
 zgq:Zo K t.wZ "around"
 zkm:mg "bool"=none
 znK:mg "dict"=none
 zfk:mg "int"=none
 xm:mg "isinstance"=none
 zqU:mg "len"=none
 zdn:mg "list"=none
 zty:mg "max"=none
 yr:mg "range"=none
 znB:mg "sorted"=none
 zkT:mg "str"=none
 zeM:mg "tuple"=none
set_option maxHeartbeats 8000000
section
variable{P:Program}{w:World}{K:zC}{mg:Str->Option Value}{base:Heap}{kd:KD}{t:Adr}
theorem zdm(T:Txt K kd mg t):CF K kd ZJ "holders":=(zdk T.wL T.zgd zcC)
theorem zkc(T:Txt K kd mg t):CF K kd WQ "size":=(zdk T.wL T.zjc zcC)
theorem zhX(T:Txt K kd mg t):CF K kd zaQ "waits":=(zdk T.wL T.zin zcC)
theorem zgF(T:Txt K kd mg t):CF K kd zbA "neutral":=(zdk T.wL T.zgb zcC)
theorem zlq(T:Txt K kd mg t):CF K kd zfd "table":=(zdk T.wL T.zhK zcC)
theorem zgc(T:Txt K kd mg t):CF K kd YL "around":=(zdk T.wL T.zgq zcC)
theorem zjG(T:Txt K kd mg t)(hkd:KD1 P w K kd):FnOk P w K mg base CX0 1 t.zbv t.zbG ["thing"] (spD K kd ZK):=by
 refine yQ (N:=zfz) (ps:=["thing"]) (k:=0) (c:=zfb) T.zgg ziZ λcdv A outer s H E hr=>?_
 exact(zq (zN (zbJ (WX (hkd _ rfl rfl rfl) rfl rfl T.xm Bt.isinstance rfl T.zfk Bt.int (av 0) (Bt.n _ rfl) (by decide) (Bt.n _ rfl) (by decide) rfl rfl rfl) (zbO (zoA (WX (hkd _ rfl rfl rfl) rfl rfl T.xm Bt.isinstance rfl T.zkm Bt.bool (av 0) (Bt.n _ rfl) (by decide) (Bt.n _ rfl) (by decide) rfl rfl rfl))))))
theorem zjk(T:Txt K kd mg t)(hkd:KD1 P w K kd):FnOk P w K mg base CX0 2 t.zaN t.zaI ["thing","least","most"] (spD K kd Z5):=by
 refine yQ (N:=zdF) (ps:=["thing","least","most"]) (k:=1) (c:=zdJ) T.zdD zik λcdv A outer s H E hr=>?_
 exact(zq (zN (zbJ (zU (zjG T hkd) (hr.mono (by omega)) rfl T.ZK T.zgg.kp T.zke yo (zc (av 0) zA (za rfl)) (by decide) rfl rfl) (zbO (zja (zZ (hkd _ rfl rfl rfl) (yE hr) .LtE) (zZ (hkd _ rfl rfl rfl) (yE hr) .LtE) (av 1) (av 0) (av 2) (by with_unfolding_all rfl))))))
theorem zew(T:Txt K kd mg t)(hkd:KD1 P w K kd):FnOk P w K mg base CX0 1 t.Yh t.Yy ["algebra"] (spD K kd wH):=by
 refine yQ (N:=VG) (ps:=["algebra"]) (k:=0) (c:=Vu) T.Vq vm λcdv A outer s H E hr=>?_
 exact(by
  refine zg ?_ ?_;exact(by refine sv true 1 vm.nd ?_;exact(ax hkd (av 0) aI))
  refine zg ?_ ?_;exact(by refine sv true 2 vm.nd ?_;exact(ax hkd (av 0) aI))
  refine zg ?_ ?_;exact(xg PassesOwn.never rfl (yC rfl T.yr (zc (ax hkd (av 0) aI) zA (za rfl)) rfl) (an 3 vm.nd) (zq (xQ (AW.at_ (zds (yN (zZ (hkd _ rfl rfl rfl) (yE hr) .NotEq) (yw .NotEq) (ax hkd (ax hkd (av 1) (av 2)) (av 3)) (av 3) (yu _)) (Zb (yN (zZ (hkd _ rfl rfl rfl) (yE hr) .NotEq) (yw .NotEq) (ax hkd (ax hkd (av 1) (av 3)) (av 2)) (av 3) (yu _))))) (zq (zN (v8 (zu aS (zu (av 3) yd (za rfl)) (za rfl))))) yD)) (λ_=>rfl))
  exact zq (zN aZ))
theorem zej(T:Txt K kd mg t)(hkd:KD1 P w K kd):FnOk P w K mg base CX0 1 t.Yw t.Yq ["algebra"] (spD K kd wJ):=by
 refine yQ (N:=VD) (ps:=["algebra"]) (k:=0) (c:=Vz) T.Vt xF λcdv A outer s H E hr=>?_
 exact(by
  refine zg ?_ ?_;exact(by refine sv true 1 xF.nd ?_;exact(ax hkd (av 0) aI))
  refine zg ?_ ?_;exact(by refine sv true 2 xF.nd ?_;exact(ax hkd (av 0) aI))
  refine zg ?_ ?_;exact(xg PassesOwn.never rfl (yC rfl T.yr (zc (av 1) zA (za rfl)) rfl) (an 3 xF.nd) (zq (xg PassesOwn.never rfl (yC rfl T.yr (zc (av 1) zA (za rfl)) rfl) (an 4 xF.nd) (zq (xg PassesOwn.never rfl (yC rfl T.yr (zc (av 1) zA (za rfl)) rfl) (an 5 xF.nd) (zq (xQ (yN (zZ (hkd _ rfl rfl rfl) (yE hr) .NotEq) (yw .NotEq) (ax hkd (ax hkd (av 2) (ax hkd (ax hkd (av 2) (av 3)) (av 4))) (av 5)) (ax hkd (ax hkd (av 2) (av 3)) (ax hkd (ax hkd (av 2) (av 4)) (av 5))) (yu _)) (zq (zN (v8 (by refine zu ?_ ?_ ?_;exact aS;refine zu ?_ ?_ ?_;exact(av 3);refine zu ?_ ?_ ?_;exact(av 4);refine zu ?_ ?_ ?_;exact(av 5);exact yd;exact za rfl;exact za rfl;exact za rfl;exact za rfl)))) yD)) (λ_=>rfl))) (λ_=>rfl))) (λ_=>rfl))
  exact zq (zN aZ))
theorem zgs(T:Txt K kd mg t)(hkd:KD1 P w K kd):FnOk P w K mg base CX0 1 t.We t.Wg ["algebra","name","rows"] (spD K kd xW):=by
 refine yQ (N:=zbg) (ps:=["algebra","name","rows"]) (k:=0) (c:=zbi) T.zbs xj λcdv A outer s H E hr=>?_
 exact(by
  refine zg ?_ ?_;exact(by refine sv true 3 xj.nd ?_;exact(ax hkd (av 0) aI))
  refine zg ?_ ?_;exact(by refine sv true 4 xj.nd ?_;exact(ax hkd (av 0) aI))
  refine zg ?_ ?_;exact(by refine sv true 5 xj.nd ?_;exact(ax hkd (av 0) aI))
  refine zg ?_ ?_;exact(xg PassesOwn.never rfl (yC rfl T.yr (zc (av 3) zA (za rfl)) rfl) (an 6 xj.nd) (zq (xg PassesOwn.never rfl (yC rfl T.yr (zc (av 4) zA (za rfl)) rfl) (an 7 xj.nd) (zq (xg PassesOwn.never rfl (yC rfl T.yr (zc (av 3) zA (za rfl)) rfl) (an 8 xj.nd) (zq (xg PassesOwn.never rfl (yC rfl T.yr (zc (av 4) zA (za rfl)) rfl) (an 9 xj.nd) (zq (xQ (yN (zZ (hkd _ rfl rfl rfl) (yE hr) .NotEq) (yw .NotEq) (ax hkd (ax hkd (av 2) (zj (zp .Mod) (zj (zp .Add) (av 7) (av 9)) (av 4))) (ax hkd (ax hkd (av 5) (av 6)) (av 8))) (ax hkd (ax hkd (av 5) (ax hkd (ax hkd (av 2) (av 7)) (av 6))) (ax hkd (ax hkd (av 2) (av 9)) (av 8))) (yu _)) (zq (zN (v8 (by refine zu ?_ ?_ ?_;exact aS;refine zu ?_ ?_ ?_;exact(av 1);refine zu ?_ ?_ ?_;exact(av 6);refine zu ?_ ?_ ?_;exact(av 7);refine zu ?_ ?_ ?_;exact(av 8);refine zu ?_ ?_ ?_;exact(av 9);exact yd;exact za rfl;exact za rfl;exact za rfl;exact za rfl;exact za rfl;exact za rfl)))) yD)) (λ_=>rfl))) (λ_=>rfl))) (λ_=>rfl))) (λ_=>rfl))
  exact zq (zN aZ))
theorem zhY(T:Txt K kd mg t)(hkd:KD1 P w K kd):FnOk P w K mg base CX0 2 t.W7 t.W8 ["algebra"] (spD K kd Zw):=by
 refine yQ (N:=zct) (ps:=["algebra"]) (k:=1) (c:=zca) T.zcm vH λcdv A outer s H E hr=>?_
 exact(by
  refine zg ?_ ?_;exact(by refine sv true 1 vH.nd ?_;exact(ax hkd (av 0) aI))
  refine zg ?_ ?_;exact(xg PassesOwn.never rfl (zga (ax hkd (av 0) aI)) (ZG rfl (zJ (an 2 vH.nd) (zJ (an 3 vH.nd) vo rfl) rfl) rfl rfl) (by
  refine zg ?_ ?_;exact(xQ (yN (zZ (hkd _ rfl rfl rfl) (yE hr) .NotEq) (yw .NotEq) (ax hkd (ax hkd (av 3) aI) (av 1)) (av 1) (yu _)) (zq (zN (v8 (zu aS (zu (av 2) yd (za rfl)) (za rfl))))) yD)
  refine zg ?_ ?_;exact(by refine sv true 4 vH.nd ?_;exact(zU (zgs T hkd) (hr.mono (by omega)) rfl T.xW T.zbs.kp T.zgt yo (by refine zc ?_ ?_ ?_;exact(av 0);refine zc ?_ ?_ ?_;exact(av 2);refine zc ?_ ?_ ?_;exact(av 3);exact zA;exact za rfl;exact za rfl;exact za rfl) (by decide) rfl rfl))
  exact zq (xQ (yN (zZ (hkd _ rfl rfl rfl) (yE hr) .IsNot) (yw .IsNot) (av 4) aZ (yu _)) (zq (zN (av 4))) yD)) (λ_=>rfl))
  exact zq (zN aZ))
theorem zig(T:Txt K kd mg t)(hkd:KD1 P w K kd):FnOk P w K mg base CX0 3 t.Vg t.WM ["algebra"] (spD K kd Zr):=by
 refine yQ (N:=zcx) (ps:=["algebra"]) (k:=2) (c:=zco) T.zcs ZV λcdv A outer s H E hr=>?_
 exact(by
  refine zg ?_ ?_;exact(by refine sv true 1 ZV.nd ?_;exact(zU (zew T hkd) (hr.mono (by omega)) rfl T.wH T.Vq.kp T.zey yo (zc (av 0) zA (za rfl)) (by decide) rfl rfl))
  refine zg ?_ ?_;exact(xQ (yN (zZ (hkd _ rfl rfl rfl) (yE hr) .Is) (yw .Is) (av 1) aZ (yu _)) (zq (by refine sv true 1 ZV.nd ?_;exact(zU (zej T hkd) (hr.mono (by omega)) rfl T.wJ T.Vt.kp T.zem yo (zc (av 0) zA (za rfl)) (by decide) rfl rfl))) yD)
  refine zg ?_ ?_;exact(xQ (yN (zZ (hkd _ rfl rfl rfl) (yE hr) .Is) (yw .Is) (av 1) aZ (yu _)) (zq (by refine sv true 1 ZV.nd ?_;exact(zU (zhY T hkd) (hr.mono (by omega)) rfl T.Zw T.zcm.kp T.zhO yo (zc (av 0) zA (za rfl)) (by decide) rfl rfl))) yD)
  exact zq (zN (av 1)))
theorem zeS(T:Txt K kd mg t)(hkd:KD1 P w K kd):FnOk P w K mg base CX0 4 t.Y4 t.Xp ["algebra"] (spD K kd xZ):=by
 refine yQ (N:=zaC) (ps:=["algebra"]) (k:=3) (c:=YQ) T.zaD Vn λcdv A outer s H E hr=>?_
 exact(by
  refine zg ?_ ?_;exact(by refine sv true 1 Vn.nd ?_;exact(zU (zig T hkd) (hr.mono (by omega)) rfl T.Zr T.zcs.kp T.zhv yo (zc (av 0) zA (za rfl)) (by decide) rfl rfl))
  exact zq (xQ (yN (zZ (hkd _ rfl rfl rfl) (yE hr) .IsNot) (yw .IsNot) (av 1) aZ (yu _)) (zq zuc) yD))
theorem znj(T:Txt K kd mg t)(hkd:KD1 P w K kd):FnOk P w K mg base CX0 1 t.zjS t.zjE ["rows"] (spD K kd V6):=by
 refine yQ (N:=zjZ) (ps:=["rows"]) (k:=0) (c:=znR) T.zjO zoW λcdv A outer s H E hr=>?_
 exact(zq (zN (Yb zmd rfl T.zeM Bt.tuple (zc (xT (N:=["row"]) (cap:=[none]) (S:=[0]) rfl (wR (av 0)) rfl (by change wz _ zjZ _ (zx zgj).names _=true;decide +kernel) (by decide) (λcl s H fp=>(an 0 zlX)) (λcl s H fp=>yR) (λcl s H fp=>(zlp rfl T.zeM Bt.tuple (av 0) (Bt.n _ rfl) (by decide) rfl rfl)) (λ_=>rfl)) zA (za rfl)) (Bt.n _ rfl) (by decide) rfl rfl)))
theorem ZW(T:Txt K kd mg t)(hkd:KD1 P w K kd):FnOk P w K mg base CX0 1 t.X7 t.Wj ["_law_script","_law_k"] (spD K kd yj):=by
 refine yQ (N:=zbq) (ps:=["_law_script","_law_k"]) (k:=0) (c:=zbu) T.vK zfu λcdv A outer s H E hr=>?_
 exact(by
  refine zg ?_ ?_;exact(xQ (yN (zZ (hkd _ rfl rfl rfl) (yE hr) .Lt) (yw .Lt) (av 1) (zis (zgK (hkd _ rfl rfl rfl)) rfl T.zqU Bt.len (zc (av 0) zA (za rfl)) (Bt.n _ rfl) (by decide) rfl rfl) (yu _)) (zq (zN (ax hkd (av 0) (av 1)))) yD)
  exact zq (zN aI))
theorem zdK(T:Txt K kd mg t)(hkd:KD1 P w K kd):FnOk P w K mg base CX0 1 t.zai t.V8 ["_law_cell","_law_k"] (spD K kd xu):=by
 refine yQ (N:=zdH) (ps:=["_law_cell","_law_k"]) (k:=0) (c:=zdN) T.zac zcg λcdv A outer s H E hr=>?_
 exact(by
  refine zg ?_ ?_;exact(by refine sv true 2 zcg.nd ?_;exact(zj (zp .Mod) (zj (zp .Add) (zj (zp .Add) (zj (zp .Mult) (zj (zp .Mod) (av 0) aI) aI) (zj (zp .Mult) (zj (zp .Mult) (av 1) (av 1)) aI)) aI) aI))
  exact zq (zN (zj (zp .Mod) (zj (zp .Add) (zj (zp .Add) (zj (zp .Mult) (av 2) (av 2)) (zj (zp .Mult) aI (av 2))) (av 1)) aI)))
theorem Xx(T:Txt K kd mg t)(hkd:KD1 P w K kd):FnOk P w K mg base CX0 1 t.zas t.zat ["_law_found"] (spD K kd ye):=by
 refine yQ (N:=zdA) (ps:=["_law_found"]) (k:=0) (c:=zdC) T.Z6 zhM λcdv A outer s H E hr=>?_
 exact(zq (zN (zbJ (WX (hkd _ rfl rfl rfl) rfl rfl T.xm Bt.isinstance rfl T.zfk Bt.int (av 0) (Bt.n _ rfl) (by decide) (Bt.n _ rfl) (by decide) rfl rfl rfl) (zbO (zoA (WX (hkd _ rfl rfl rfl) rfl rfl T.xm Bt.isinstance rfl T.zkm Bt.bool (av 0) (Bt.n _ rfl) (by decide) (Bt.n _ rfl) (by decide) rfl rfl rfl))))))
theorem ziB(T:Txt K kd mg t)(hkd:KD1 P w K kd):FnOk P w K mg base CX0 2 t.VL t.zaH ["_law_cell","_law_many"] (spD K kd Zc):=by
 refine yQ (N:=zaq) (ps:=["_law_cell","_law_many"]) (k:=1) (c:=zdM) T.zdR wF λcdv A outer s H E hr=>?_
 exact(by
  refine zg ?_ ?_;exact(by refine sv true 2 wF.nd ?_;exact aS)
  refine zg ?_ ?_;exact(by refine sv true 3 wF.nd ?_;exact(zj (zp .Add) aI (zj (zp .Mod) (av 0) aI)))
  refine zg ?_ ?_;exact(by refine sv true 4 wF.nd ?_;exact(zj (zp .Mod) (zj (zp .FloorDiv) (av 0) aI) (av 3)))
  refine zg ?_ ?_;exact(by refine sv false 5 wF.nd ?_;exact(wu yd))
  refine zg ?_ ?_;exact(xg PassesOwn.never rfl (yC rfl T.yr (zc (av 1) zA (za rfl)) rfl) (an 6 wF.nd) (by
  refine zg ?_ ?_;exact(WL (z:=true) (i:=7) (N:=["_law_j","_law_letters","_law_k","_law_cell","_law_at"]) (cap:=[none,some 2,some 6,some 0,some 4]) (S:=[0]) wF.nd rfl (by exact Or.inl rfl) (by exact Or.inr rfl) rfl rfl (ZF rfl T.yr (zc (av 3) zA (za rfl)) rfl) rfl (by change wz _ zaq _ (zx Z9).names _=true;decide +kernel) (by decide) (λcl s H fp=>(an 0 zfg)) (λcl s H fp=>yR) (λcl s H fp=>(ax hkd (av 1) (zj (zp .Mod) (zj (zp .Add) (zj (zp .FloorDiv) (zU (zdK T hkd) (hr.mono (by omega)) rfl T.xu T.zac.kp T.zdB yo (zc (av 3) (zc (av 0) zA (za rfl)) (za rfl)) (by decide) rfl rfl) aI) (zj (zp .Mult) (av 2) (Yb Xh rfl T.zfk Bt.int (zc (Yt (zZ (hkd _ rfl rfl rfl) (yE hr) .Eq) (av 0) (av 4) (yu _)) zA (za rfl)) (Bt.n _ rfl) (by decide) rfl rfl))) aI))) (λ_=>rfl))
  exact zq (WR (zad ZP zbP PySem.F.slot_list_append PySem.F.type_list_append (pv 5) (zu (zpj (ty:=.str) (hkd _ rfl rfl rfl) zqo PySem.F.plainAttrs_str PySem.F.slot_str_join PySem.F.type_str_join aS (zc (av 7) zA (za rfl)) rfl rfl rfl rfl rfl) yd (za rfl)) rfl rfl rfl rfl rfl) rfl)) (λ_=>rfl))
  exact zq (zN (av 5)))
theorem zhA(T:Txt K kd mg t)(hkd:KD1 P w K kd):FnOk P w K mg base CX0 1 t.Vc t.W4 ["_law_n","_law_m"] (spD K kd vh):=by
 refine yQ (N:=zcj) (ps:=["_law_n","_law_m"]) (k:=0) (c:=zbX) T.zcr zbo λcdv A outer s H E hr=>?_
 exact(by
  refine zg ?_ ?_;exact(znx (n:=10000) PassesOwn.never (yN (zZ (hkd _ rfl rfl rfl) (yE hr) .Gt) (yw .Gt) (av 1) aI (yu _)) (zq (zsq (i:=0) (j:=1) rfl zbo.nd rfl rfl (by decide) rfl rfl (zu (av 1) (zu (zj (zp .Mod) (av 0) (av 1)) yd (za rfl)) (za rfl)) rfl rfl)))
  exact zq (zN (av 0)))
theorem Vv(T:Txt K kd mg t)(hkd:KD1 P w K kd):FnOk P w K mg base CX0 1 t.Ye t.Yl ["_law_kind","_law_n","_law_a","_law_b"] (spD K kd zQ):=by
 refine yQ (N:=Vr) (ps:=["_law_kind","_law_n","_law_a","_law_b"]) (k:=0) (c:=VF) T.Yk Wt λcdv A outer s H E hr=>?_
 exact(by
  refine zg ?_ ?_;exact(xQ (yN (zZ (hkd _ rfl rfl rfl) (yE hr) .Eq) (yw .Eq) (av 0) aI (yu _)) (zq (zN (zj (zp .Mod) (zj (zp .Add) (av 2) (av 3)) (av 1)))) yD)
  refine zg ?_ ?_;exact(xQ (yN (zZ (hkd _ rfl rfl rfl) (yE hr) .Eq) (yw .Eq) (av 0) aI (yu _)) (zq (zN (zis (zmn rfl) rfl T.zty Bt.max (zc (av 2) (zc (av 3) zA (za rfl)) (za rfl)) (Bt.n _ rfl) (by decide) rfl rfl))) yD)
  refine zg ?_ ?_;exact(xQ (yN (zZ (hkd _ rfl rfl rfl) (yE hr) .Eq) (yw .Eq) (av 0) aI (yu _)) (zq (zN (ax hkd (wu (zu (av 3) (zu (av 2) yd (za rfl)) (za rfl))) (Yb Xh rfl T.zfk Bt.int (zc (Yt (zZ (hkd _ rfl rfl rfl) (yE hr) .Eq) (av 3) aI (yu _)) zA (za rfl)) (Bt.n _ rfl) (by decide) rfl rfl)))) yD)
  refine zg ?_ ?_;exact(by refine sv true 4 Wt.nd ?_;exact(wu (zu (zj (zp .FloorDiv) (av 3) aI) (zu (zj (zp .Mod) (av 3) aI) yd (za rfl)) (za rfl))))
  exact zq (zN (zj (zp .Add) (zj (zp .Mult) aI (ax hkd (av 4) (zj (zp .FloorDiv) (av 2) aI))) (ax hkd (av 4) (zj (zp .Mod) (av 2) aI)))))
theorem zhr(T:Txt K kd mg t)(hkd:KD1 P w K kd):FnOk P w K mg base CX0 1 t.Vi t.Ve ["_law_kind","_law_n","_law_x"] (spD K kd Zx):=by
 refine yQ (N:=WK) (ps:=["_law_kind","_law_n","_law_x"]) (k:=0) (c:=zbY) T.zbR vO λcdv A outer s H E hr=>?_
 exact(by
  refine zg ?_ ?_;exact(xQ (yN (zZ (hkd _ rfl rfl rfl) (yE hr) .Eq) (yw .Eq) (av 0) aI (yu _)) (zq (zN (xT (N:=["_law_a","_law_x"]) (cap:=[none,some 2]) (S:=[0]) rfl (ZF rfl T.yr (zc (av 1) zA (za rfl)) rfl) rfl (by change wz _ WK _ (zx Zy).names _=true;decide +kernel) (by decide) (λcl s H fp=>(an 0 zeC)) (λcl s H fp=>yR) (λcl s H fp=>(ax hkd (wu (zu (av 0) (zu (zj (zp .Sub) (zj (zp .Add) (zj (zp .Mult) aI (zj (zp .Sub) aI (zj (zp .Mod) (av 0) aI))) aI) (zj (zp .FloorDiv) (av 0) aI)) yd (za rfl)) (za rfl))) (zj (zp .Mod) (av 1) aI))) (λ_=>rfl)))) yD)
  refine zg ?_ ?_;exact(by refine sv false 3 vO.nd ?_;exact(wu yd))
  refine zg ?_ ?_;exact(xg PassesOwn.never rfl (zme rfl T.yr (zc aI (zc (av 1) zA (za rfl)) (za rfl)) rfl rfl) (an 4 vO.nd) (by
  refine zg ?_ ?_;exact(by refine sv true 2 vO.nd ?_;exact(zj (zp .FloorDiv) (av 2) (av 1)))
  exact zq (WR (zad ZP zbP PySem.F.slot_list_append PySem.F.type_list_append (pv 3) (zu (ax hkd (wu (zu (zj (zp .Mod) (av 2) (av 1)) (zu (zj (zp .Add) aI (zj (zp .Mod) (av 2) (zj (zp .Sub) (av 1) aI))) yd (za rfl)) (za rfl))) (zj (zp .Sub) (av 0) aI)) yd (za rfl)) rfl rfl rfl rfl rfl) rfl)) (λ_=>rfl))
  refine zg ?_ ?_;exact(xQ (yN (zZ (hkd _ rfl rfl rfl) (yE hr) .Eq) (yw .Eq) (av 0) aI (yu _)) (zq (by refine sv false 3 vO.nd ?_;exact(zis zjU rfl T.znB Bt.sorted (zc (av 3) zA (za rfl)) (Bt.n _ rfl) (by decide) rfl rfl))) yD)
  exact zq (zN (zj (zp .Add) (wu (zu aI yd (za rfl))) (av 3))))
theorem zbm(T:Txt K kd mg t)(hkd:KD1 P w K kd):FnOk P w K mg base CX0 2 t.Wc t.Wm ["_law_kind","_law_n","_law_m","_law_x"] (spD K kd yV):=by
 refine yQ (N:=ZR) (ps:=["_law_kind","_law_n","_law_m","_law_x"]) (k:=1) (c:=zbl) T.X4 Xf λcdv A outer s H E hr=>?_
 exact(by
  refine zg ?_ ?_;exact(xQ (yN (zZ (hkd _ rfl rfl rfl) (yE hr) .Gt) (yw .Gt) (av 0) aI (yu _)) (by
  refine zg ?_ ?_;exact(by refine sv true 4 Xf.nd ?_;exact(zU (zhr T hkd) (hr.mono (by omega)) rfl T.Zx T.zbR.kp T.zhC yo (by refine zc ?_ ?_ ?_;exact(av 0);refine zc ?_ ?_ ?_;exact(av 1);refine zc ?_ ?_ ?_;exact(av 3);exact zA;exact za rfl;exact za rfl;exact za rfl) (by decide) rfl rfl))
  exact zq (zN (xT (N:=["_law_c","_law_images_here"]) (cap:=[none,some 4]) (S:=[0]) rfl (ZF rfl T.yr (zc (av 2) zA (za rfl)) rfl) rfl (by change wz _ ZR _ (zx wK).names _=true;decide +kernel) (by decide) (λcl s H fp=>(an 0 zcY)) (λcl s H fp=>yR) (λcl s H fp=>(Yb zbd rfl T.zdn Bt.list (zc (av 1) zA (za rfl)) (Bt.n _ rfl) (by decide) rfl rfl)) (λ_=>rfl)))) yD)
  refine zg ?_ ?_;exact(by refine sv true 5 Xf.nd ?_;exact(zj (zp .Mult) (zj (zp .FloorDiv) (av 1) (zU (zhA T hkd) (hr.mono (by omega)) rfl T.vh T.zcr.kp T.zir yo (zc (av 1) (zc (av 2) zA (za rfl)) (za rfl)) (by decide) rfl rfl)) (zj (zp .Mod) (zj (zp .FloorDiv) (av 3) aI) aI)))
  exact zq (zN (xT (N:=["_law_c","_law_n","_law_step","_law_x"]) (cap:=[none,some 1,some 5,some 3]) (S:=[0]) rfl (ZF rfl T.yr (zc (av 2) zA (za rfl)) rfl) rfl (by change wz _ ZR _ (zx wK).names _=true;decide +kernel) (by decide) (λcl s H fp=>(an 0 zcB)) (λcl s H fp=>yR) (λcl s H fp=>(xT (N:=["_law_a","_law_n","_law_step","_law_c","_law_x"]) (cap:=[none,some 1,some 2,some 0,some 3]) (S:=[0]) rfl (ZF rfl T.yr (zc (av 1) zA (za rfl)) rfl) rfl (by with_unfolding_all rfl) (by decide) (λcl s H fp=>(an 0 zdh)) (λcl s H fp=>yR) (λcl s H fp=>(zj (zp .Mod) (zj (zp .Add) (zj (zp .Mult) (zj (zp .Mod) (av 4) aI) (av 0)) (zj (zp .Mult) (av 2) (av 3))) (av 1))) (λ_=>rfl))) (λ_=>rfl))))
theorem zjx(T:Txt K kd mg t)(hkd:KD1 P w K kd):FnOk P w K mg base CX0 1 t.zao t.zaf ["_law_x"] (spD K kd v9):=by
 refine yQ (N:=zdX) (ps:=["_law_x"]) (k:=0) (c:=zdZ) T.zdt vg λcdv A outer s H E hr=>?_
 exact(by
  refine zg ?_ ?_;exact(by refine sv true 1 vg.nd ?_;exact(zj (zp .Mod) (av 0) aI))
  refine zg ?_ ?_;exact(by refine sv true 2 vg.nd ?_;exact(ax hkd (wu (zu (zj (zp .Add) aI (zj (zp .Mod) (zj (zp .FloorDiv) (av 0) aI) aI)) (zu (zj (zp .Add) aI (zj (zp .Mod) (zj (zp .FloorDiv) (av 0) aI) aI)) yd (za rfl)) (za rfl))) (Yb Xh rfl T.zfk Bt.int (zc (Yt (zZ (hkd _ rfl rfl rfl) (yE hr) .Eq) (zj (zp .Mod) (zj (zp .FloorDiv) (av 0) aI) aI) aI (yu _)) zA (za rfl)) (Bt.n _ rfl) (by decide) rfl rfl)))
  refine zg ?_ ?_;exact(xQ (yN (zZ (hkd _ rfl rfl rfl) (yE hr) .Eq) (yw .Eq) (av 1) aI (yu _)) (zq (by refine sv true 2 vg.nd ?_;exact aI)) yD)
  refine zg ?_ ?_;exact(by refine sv true 3 vg.nd ?_;exact(zj (zp .Add) aI (zj (zp .Mod) (zj (zp .FloorDiv) (av 0) aI) aI)))
  refine zg ?_ ?_;exact(xQ (yN (zZ (hkd _ rfl rfl rfl) (yE hr) .Gt) (yw .Gt) (zj (zp .Mult) (av 2) (av 3)) aI (yu _)) (zq (by refine sv true 3 vg.nd ?_;exact aI)) yD)
  exact zq (zN (v8 (by refine zu ?_ ?_ ?_;exact(av 1);refine zu ?_ ?_ ?_;exact(av 2);refine zu ?_ ?_ ?_;exact(zj (zp .Mod) (zj (zp .FloorDiv) (av 0) aI) aI);refine zu ?_ ?_ ?_;exact(av 3);exact yd;exact za rfl;exact za rfl;exact za rfl;exact za rfl))))
theorem zch(T:Txt K kd mg t)(hkd:KD1 P w K kd):FnOk P w K mg base CX0 2 t.Vk t.Vh ["_law_cell","_law_many"] (spD K kd yU):=by
 refine yQ (N:=zcb) (ps:=["_law_cell","_law_many"]) (k:=1) (c:=zbT) T.Vj vL λcdv A outer s H E hr=>?_
 exact(by
  refine zg ?_ ?_;exact(by refine sv false 2 vL.nd ?_;exact(wu yd))
  refine zg ?_ ?_;exact(by refine sv true 3 vL.nd ?_;exact(zj (zp .FloorDiv) (av 0) aI))
  refine zg ?_ ?_;exact(xg PassesOwn.never rfl (yC rfl T.yr (zc (av 1) zA (za rfl)) rfl) (an 4 vL.nd) (zq (xQ (yN (zZ (hkd _ rfl rfl rfl) (yE hr) .Eq) (yw .Eq) (zj (zp .Mod) (av 0) aI) aI (yu _)) (by
  refine zg ?_ ?_;exact(WR (zad ZP zbP PySem.F.slot_list_append PySem.F.type_list_append (pv 2) (zu (zj (zp .Mod) (av 3) aI) yd (za rfl)) rfl rfl rfl rfl rfl) rfl)
  exact zq (by refine sv true 3 vL.nd ?_;exact(zj (zp .FloorDiv) (av 3) aI))) (zq (WR (zad ZP zbP PySem.F.slot_list_append PySem.F.type_list_append (pv 2) (zu (zU (zdK T hkd) (hr.mono (by omega)) rfl T.xu T.zac.kp T.zdB yo (zc (av 3) (zc (av 4) zA (za rfl)) (za rfl)) (by decide) rfl rfl) yd (za rfl)) rfl rfl rfl rfl rfl) rfl)))) (λ_=>rfl))
  exact zq (zN (av 2)))
theorem zgy(T:Txt K kd mg t)(hkd:KD1 P w K kd):FnOk P w K mg base CX0 3 t.Wk t.Wd ["_law_cell","_law_head","_law_many"] (spD K kd vJ):=by
 refine yQ (N:=vM) (ps:=["_law_cell","_law_head","_law_many"]) (k:=2) (c:=Wa) T.zbk zy λcdv A outer s H E hr=>?_
 exact(by
  refine zg ?_ ?_;exact(by refine sv true 3 zy.nd ?_;exact(zU (zch T hkd) (hr.mono (by omega)) rfl T.yU T.Vj.kp T.zbV yo (zc (av 0) (zc (zj (zp .Add) aI (zj (zp .Mult) aI (av 2))) zA (za rfl)) (za rfl)) (by decide) rfl rfl))
  refine zg ?_ ?_;exact(by refine sv true 4 zy.nd ?_;exact(zU (zch T hkd) (hr.mono (by omega)) rfl T.yU T.Vj.kp T.zbV yo (zc (av 1) (zc aI zA (za rfl)) (za rfl)) (by decide) rfl rfl))
  refine zg ?_ ?_;exact(ziu (zU (zjx T hkd) (hr.mono (by omega)) rfl T.v9 T.zdt.kp T.ziE yo (zc (ax hkd (av 3) aI) zA (za rfl)) (by decide) rfl rfl) (ZG rfl (zJ (an 5 zy.nd) (zJ (an 6 zy.nd) (zJ (an 7 zy.nd) (zJ (an 8 zy.nd) vo rfl) rfl) rfl) rfl) rfl rfl) rfl rfl rfl)
  refine zg ?_ ?_;exact(by refine sv true 9 zy.nd ?_;exact(zj (zp .Add) (zj (zp .Add) aI (zj (zp .Mod) (ax hkd (av 4) aI) aI)) (zj (zp .Mult) aI (Yb Xh rfl T.zfk Bt.int (zc (Yt (zZ (hkd _ rfl rfl rfl) (yE hr) .Eq) (zj (zp .Mod) (zj (zp .FloorDiv) (ax hkd (av 4) aI) aI) aI) aI (yu _)) zA (za rfl)) (Bt.n _ rfl) (by decide) rfl rfl))))
  refine zg ?_ ?_;exact(by refine sv true 10 zy.nd ?_;exact(zj (zp .Mult) (av 6) (av 8)))
  refine zg ?_ ?_;exact(by refine sv false 11 zy.nd ?_;exact(zgG rfl rfl T.yr rfl T.zdn (zc (av 10) zA (za rfl)) rfl rfl))
  refine zg ?_ ?_;exact(by refine sv false 12 zy.nd ?_;exact(wu yd))
  refine zg ?_ ?_;exact(xg PassesOwn.never rfl (yC rfl T.yr (zc (av 10) zA (za rfl)) rfl) (an 13 zy.nd) (zq (WR (zad ZP zbP PySem.F.slot_list_append PySem.F.type_list_append (pv 12) (zu (zad zmM zmz PySem.F.slot_list_pop PySem.F.type_list_pop (pv 11) (zu (zj (zp .Mod) (ax hkd (av 4) (zj (zp .Add) aI (av 13))) (zis (zgK (hkd _ rfl rfl rfl)) rfl T.zqU Bt.len (zc (av 11) zA (za rfl)) (Bt.n _ rfl) (by decide) rfl rfl)) yd (za rfl)) rfl rfl rfl rfl rfl) yd (za rfl)) rfl rfl rfl rfl rfl) rfl)) (λ_=>rfl))
  refine zpL ?_
  refine zg ?_ ?_;exact(WL (z:=false) (i:=14) (N:=["_law_a","_law_order"]) (cap:=[none,some 12]) (S:=[0]) zy.nd rfl (by exact Or.inl rfl) (by exact Or.inr rfl) rfl rfl (wR (av 12)) rfl (by change wz _ vM _ (zx xU).names _=true;decide +kernel) (by decide) (λcl s H fp=>(an 0 zdp)) (λcl s H fp=>yR) (λcl s H fp=>(xT (N:=["_law_b"]) (cap:=[none]) (S:=[0]) rfl (wR (av 1)) rfl (by with_unfolding_all rfl) (by decide) (λcl s H fp=>(an 0 zdc)) (λcl s H fp=>yR) (λcl s H fp=>aI) (λ_=>rfl))) (λ_=>rfl))
  refine zg ?_ ?_;exact(xg PassesOwn.never rfl (yC rfl T.yr (zc (av 10) zA (za rfl)) rfl) (an 15 zy.nd) (zq (xg PassesOwn.never rfl (yC rfl T.yr (zc (av 10) zA (za rfl)) rfl) (an 16 zy.nd) (by
  refine zg ?_ ?_;exact(by refine sv true 17 zy.nd ?_;exact(zj (zp .Mult) (zU (Vv T hkd) (hr.mono (by omega)) rfl T.zQ T.Yk.kp T.VB yo (by refine zc ?_ ?_ ?_;exact(av 5);refine zc ?_ ?_ ?_;exact(av 6);refine zc ?_ ?_ ?_;exact(zj (zp .FloorDiv) (av 15) (av 8));refine zc ?_ ?_ ?_;exact(zj (zp .FloorDiv) (av 16) (av 8));exact zA;exact za rfl;exact za rfl;exact za rfl;exact za rfl) (by decide) rfl rfl) (av 8)))
  refine zg ?_ ?_;exact(by refine sv true 17 zy.nd ?_;exact(zj (zp .Add) (av 17) (zU (Vv T hkd) (hr.mono (by omega)) rfl T.zQ T.Yk.kp T.VB yo (by refine zc ?_ ?_ ?_;exact(av 7);refine zc ?_ ?_ ?_;exact(av 8);refine zc ?_ ?_ ?_;exact(zj (zp .Mod) (av 15) (av 8));refine zc ?_ ?_ ?_;exact(zj (zp .Mod) (av 16) (av 8));exact zA;exact za rfl;exact za rfl;exact za rfl;exact za rfl) (by decide) rfl rfl)))
  exact zq (zlh (pv 14) (ziV (pv 12) (zcP (pv 15)) (λ_ _=>rfl)) (λ_ _=>rfl) (ziV (pv 12) (zcP (pv 16)) (λ_ _=>rfl)) (ziV (pv 12) (zcP (pv 17)) (λ_ _=>rfl)) (λ_=>rfl) rfl rfl rfl)) (λ_=>rfl))) (λ_=>rfl))
  refine zg ?_ ?_;exact(by refine sv true 18 zy.nd ?_;exact(zU (ziB T hkd) (hr.mono (by omega)) rfl T.Zc T.zdR.kp T.zjB yo (zc (zj (zp .FloorDiv) (av 1) aI) (zc aI zA (za rfl)) (za rfl)) (by decide) rfl rfl))
  refine zg ?_ ?_;exact(by refine sv false 19 zy.nd ?_;exact(wu yd))
  refine zg ?_ ?_;exact(xg PassesOwn.never rfl (yC rfl T.yr (zc (av 2) zA (za rfl)) rfl) (an 13 zy.nd) (by
  refine zg ?_ ?_;exact(by refine sv true 20 zy.nd ?_;exact(zU (zbm T hkd) (hr.mono (by omega)) rfl T.yV T.X4.kp T.zbh yo (by refine zc ?_ ?_ ?_;exact(av 5);refine zc ?_ ?_ ?_;exact(av 6);refine zc ?_ ?_ ?_;exact(av 9);refine zc ?_ ?_ ?_;exact(ax hkd (av 3) (zj (zp .Add) aI (zj (zp .Mult) aI (av 13))));exact zA;exact za rfl;exact za rfl;exact za rfl;exact za rfl) (by decide) rfl rfl))
  refine zg ?_ ?_;exact(by refine sv true 21 zy.nd ?_;exact(zU (zbm T hkd) (hr.mono (by omega)) rfl T.yV T.X4.kp T.zbh yo (by refine zc ?_ ?_ ?_;exact(av 7);refine zc ?_ ?_ ?_;exact(av 8);refine zc ?_ ?_ ?_;exact(av 9);refine zc ?_ ?_ ?_;exact(ax hkd (av 3) (zj (zp .Add) aI (zj (zp .Mult) aI (av 13))));exact zA;exact za rfl;exact za rfl;exact za rfl;exact za rfl) (by decide) rfl rfl))
  refine zg ?_ ?_;exact(WL (z:=false) (i:=22) (N:=["_law_c","_law_order"]) (cap:=[none,some 12]) (S:=[0]) zy.nd rfl (by exact Or.inl rfl) (by exact Or.inr rfl) rfl rfl (ZF rfl T.yr (zc (av 9) zA (za rfl)) rfl) rfl (by change wz _ vM _ (zx xU).names _=true;decide +kernel) (by decide) (λcl s H fp=>(an 0 zdo)) (λcl s H fp=>yR) (λcl s H fp=>(xT (N:=["_law_a"]) (cap:=[none]) (S:=[0]) rfl (wR (av 1)) rfl (by with_unfolding_all rfl) (by decide) (λcl s H fp=>(an 0 zcN)) (λcl s H fp=>yR) (λcl s H fp=>aI) (λ_=>rfl))) (λ_=>rfl))
  refine zg ?_ ?_;exact(xg PassesOwn.never rfl (yC rfl T.yr (zc (av 9) zA (za rfl)) rfl) (an 23 zy.nd) (zq (xg PassesOwn.never rfl (yC rfl T.yr (zc (av 10) zA (za rfl)) rfl) (an 15 zy.nd) (by
  refine zg ?_ ?_;exact(by refine sv true 17 zy.nd ?_;exact(ax hkd (ax hkd (av 20) (av 23)) (zj (zp .FloorDiv) (av 15) (av 8))))
  refine zg ?_ ?_;exact(by refine sv true 17 zy.nd ?_;exact(zj (zp .Add) (zj (zp .Mult) (av 17) (av 8)) (ax hkd (ax hkd (av 21) (av 23)) (zj (zp .Mod) (av 15) (av 8)))))
  exact zq (zlh (pv 22) (zcP (pv 23)) (λ_ _=>rfl) (ziV (pv 12) (zcP (pv 15)) (λ_ _=>rfl)) (ziV (pv 12) (zcP (pv 17)) (λ_ _=>rfl)) (λ_=>rfl) rfl rfl rfl)) (λ_=>rfl))) (λ_=>rfl))
  exact zq (WR (zad ZP zbP PySem.F.slot_list_append PySem.F.type_list_append (pv 19) (by refine zu ?_ ?_ ?_;exact(v8 (zu (ax hkd (av 18) (av 13)) (zu (av 22) yd (za rfl)) (za rfl)));exact yd;exact za rfl) rfl rfl rfl rfl rfl) rfl)) (λ_=>rfl))
  refine zg ?_ ?_;exact(by refine sv false 24 zy.nd ?_;exact(wu yd))
  refine zg ?_ ?_;exact(xg PassesOwn.never rfl (yC rfl T.yr (zc aI zA (za rfl)) rfl) (an 13 zy.nd) (by
  refine zg ?_ ?_;exact(by refine sv true 25 zy.nd ?_;exact(ax hkd (av 4) (zj (zp .Add) aI (av 13))))
  refine zg ?_ ?_;exact(WL (z:=true) (i:=26) (N:=["_law_a","_law_bits"]) (cap:=[none,some 25]) (S:=[0]) zy.nd rfl (by exact Or.inl rfl) (by exact Or.inr rfl) rfl rfl (ZF rfl T.yr (zc (av 10) zA (za rfl)) rfl) rfl (by change wz _ vM _ (zx xU).names _=true;decide +kernel) (by decide) (λcl s H fp=>(an 0 zcF)) (λcl s H fp=>(zih (yN (zZ (hkd _ rfl rfl rfl) (yE hr) .Eq) (yw .Eq) (zj (zp .Mod) (zj (zp .FloorDiv) (av 1) (zj zpk aI (av 0))) aI) aI (yu _)))) (λcl s H fp=>(av 0)) (λ_=>rfl))
  exact zq (WR (zad ZP zbP PySem.F.slot_list_append PySem.F.type_list_append (pv 24) (by refine zu ?_ ?_ ?_;exact(v8 (zu (ax hkd (av 18) (zj (zp .Add) (av 13) (zj (zp .Mult) aI (zj (zp .Mod) (zj (zp .FloorDiv) (av 25) aI) aI)))) (zu (av 26) yd (za rfl)) (za rfl)));exact yd;exact za rfl) rfl rfl rfl rfl rfl) rfl)) (λ_=>rfl))
  refine zg ?_ ?_;exact(by refine sv true 27 zy.nd ?_;exact(ax hkd (av 12) (ax hkd (wu (zu aI (zu (av 8) yd (za rfl)) (za rfl))) (Yb Xh rfl T.zfk Bt.int (zc (Yt (zZ (hkd _ rfl rfl rfl) (yE hr) .Eq) (av 5) aI (yu _)) zA (za rfl)) (Bt.n _ rfl) (by decide) rfl rfl))))
  exact zq (zN (v8 (by refine zu ?_ ?_ ?_;exact(av 10);refine zu ?_ ?_ ?_;exact(av 9);refine zu ?_ ?_ ?_;exact(av 14);refine zu ?_ ?_ ?_;exact(av 27);refine zu ?_ ?_ ?_;exact(av 19);refine zu ?_ ?_ ?_;exact(ziU (av 24) zlo (zeN (zj (zp .Mod) (ax hkd (av 4) aI) aI)));exact yd;exact za rfl;exact za rfl;exact za rfl;exact za rfl;exact za rfl;exact za rfl))))
theorem zkh(T:Txt K kd mg t)(hkd:KD1 P w K kd):FnOk P w K mg base CX0 1 t.zbx t.zbC ["_law_algebra_here"] (spD K kd v7):=by
 refine yQ (N:=Xb) (ps:=["_law_algebra_here"]) (k:=0) (c:=zbD) T.zfS xR λcdv A outer s H E hr=>?_
 exact(by
  refine zg ?_ ?_;exact(ziu (av 0) (ZG rfl (zJ (an 1 xR.nd) (zJ (an 2 xR.nd) (zJ (an 3 xR.nd) (zJ (an 4 xR.nd) (zJ (an 5 xR.nd) (zJ (an 6 xR.nd) vo rfl) rfl) rfl) rfl) rfl) rfl) rfl rfl) rfl rfl rfl)
  refine zg ?_ ?_;exact(WL (z:=false) (i:=7) (N:=["_law_name","_law_table"]) (cap:=[none,none]) (S:=[0,1]) xR.nd rfl (by exact Or.inl rfl) (by exact Or.inr rfl) rfl rfl (wR (av 5)) rfl (by change wz _ Xb _ (zx vX).names _=true;decide +kernel) (by decide) (λcl s H fp=>(ZG rfl (zJ (an 0 zbr) (zJ (an 1 zbr) vo rfl) rfl) rfl rfl)) (λcl s H fp=>yR) (λcl s H fp=>(v8 (zu (av 0) (zu (xT (N:=["_law_row"]) (cap:=[none]) (S:=[0]) rfl (wR (av 1)) rfl (by with_unfolding_all rfl) (by decide) (λcl s H fp=>(an 0 zgp)) (λcl s H fp=>yR) (λcl s H fp=>(Yb zbd rfl T.zdn Bt.list (zc (av 0) zA (za rfl)) (Bt.n _ rfl) (by decide) rfl rfl)) (λ_=>rfl)) yd (za rfl)) (za rfl)))) (λ_=>rfl))
  refine zg ?_ ?_;exact(WL (z:=false) (i:=8) (N:=["_law_name","_law_values"]) (cap:=[none,none]) (S:=[0,1]) xR.nd rfl (by exact Or.inl rfl) (by exact Or.inr rfl) rfl rfl (wR (av 6)) rfl (by change wz _ Xb _ (zx vX).names _=true;decide +kernel) (by decide) (λcl s H fp=>(ZG rfl (zJ (an 0 zbp) (zJ (an 1 zbp) vo rfl) rfl) rfl rfl)) (λcl s H fp=>yR) (λcl s H fp=>(v8 (zu (av 0) (zu (Yb zbd rfl T.zdn Bt.list (zc (av 1) zA (za rfl)) (Bt.n _ rfl) (by decide) rfl rfl) yd (za rfl)) (za rfl)))) (λ_=>rfl))
  exact zq (zN (v8 (by refine zu ?_ ?_ ?_;exact(av 1);refine zu ?_ ?_ ?_;exact(av 2);refine zu ?_ ?_ ?_;exact(xT (N:=["_law_row"]) (cap:=[none]) (S:=[0]) rfl (wR (av 3)) rfl (by change wz _ Xb _ (zx vX).names _=true;decide +kernel) (by decide) (λcl s H fp=>(an 0 zgr)) (λcl s H fp=>yR) (λcl s H fp=>(Yb zbd rfl T.zdn Bt.list (zc (av 0) zA (za rfl)) (Bt.n _ rfl) (by decide) rfl rfl)) (λ_=>rfl));refine zu ?_ ?_ ?_;exact(av 4);refine zu ?_ ?_ ?_;exact(zrb (pv 7));refine zu ?_ ?_ ?_;exact(zrb (pv 8));exact yd;exact za rfl;exact za rfl;exact za rfl;exact za rfl;exact za rfl;exact za rfl))))
theorem zmu(T:Txt K kd mg t)(hkd:KD1 P w K kd):FnOk P w K mg base CX0 1 t.zcJ t.zdl ["_law_algebra_here","_law_cell"] (spD K kd Wq):=by
 refine yQ (N:=YK) (ps:=["_law_algebra_here","_law_cell"]) (k:=0) (c:=zgZ) T.zgW Xi λcdv A outer s H E hr=>?_
 exact(by
  refine zg ?_ ?_;exact(by refine sv true 2 Xi.nd ?_;exact(ax hkd (av 0) aI))
  refine zg ?_ ?_;exact(by refine sv true 3 Xi.nd ?_;exact(zj (zp .Add) aI (zj (zp .Mod) (av 1) (zj (zp .Pow) aI aI))))
  refine zg ?_ ?_;exact(WL (z:=true) (i:=4) (N:=["_law_pair"]) (cap:=[none]) (S:=[0]) Xi.nd rfl (by exact Or.inl rfl) (by exact Or.inr rfl) rfl rfl (wR (zj (zp .Add) (ax hkd (av 0) aI) (ax hkd (av 0) aI))) rfl (by change wz _ YK _ (zx Za).names _=true;decide +kernel) (by decide) (λcl s H fp=>(an 0 zht)) (λcl s H fp=>yR) (λcl s H fp=>(ax hkd (av 0) aI)) (λ_=>rfl))
  refine zg ?_ ?_;exact(by refine sv true 5 Xi.nd ?_;exact(wu (by refine zu ?_ ?_ ?_;exact(av 2);refine zu ?_ ?_ ?_;exact(zqP ztF aI);refine zu ?_ ?_ ?_;exact aB;refine zu ?_ ?_ ?_;exact aB;refine zu ?_ ?_ ?_;exact aZ;refine zu ?_ ?_ ?_;exact aS;refine zu ?_ ?_ ?_;exact aS;refine zu ?_ ?_ ?_;exact(wu (zu aI yd (za rfl)));refine zu ?_ ?_ ?_;exact(v8 (zu aI yd (za rfl)));refine zu ?_ ?_ ?_;exact(zj (zp .Add) (av 2) (av 3));refine zu ?_ ?_ ?_;exact(zj (zp .Sub) aI (av 3));refine zu ?_ ?_ ?_;exact aS;refine zu ?_ ?_ ?_;exact aS;refine zu ?_ ?_ ?_;exact(wu yd);refine zu ?_ ?_ ?_;exact ztA;exact yd;exact za rfl;exact za rfl;exact za rfl;exact za rfl;exact za rfl;exact za rfl;exact za rfl;exact za rfl;exact za rfl;exact za rfl;exact za rfl;exact za rfl;exact za rfl;exact za rfl;exact za rfl)))
  exact zq (zN (zj (zp .Add) (zj (zp .Add) (zj (zp .Add) (av 5) (xT (N:=["_law_name"]) (cap:=[none]) (S:=[0]) rfl (wR (av 4)) rfl (by change wz _ YK _ (zx Za).names _=true;decide +kernel) (by decide) (λcl s H fp=>(an 0 zhy)) (λcl s H fp=>yR) (λcl s H fp=>(zj (zp .Add) (av 0) aS)) (λ_=>rfl))) (xT (N:=["_law_name"]) (cap:=[none]) (S:=[0]) rfl (wR (av 4)) rfl (by change wz _ YK _ (zx Za).names _=true;decide +kernel) (by decide) (λcl s H fp=>(an 0 zii)) (λcl s H fp=>yR) (λcl s H fp=>(zlI (av 0) zlo (zeN (zqP ztF aI)))) (λ_=>rfl))) (xT (N:=["_law_name"]) (cap:=[none]) (S:=[0]) rfl (wR (av 4)) rfl (by change wz _ YK _ (zx Za).names _=true;decide +kernel) (by decide) (λcl s H fp=>(an 0 zhl)) (λcl s H fp=>yR) (λcl s H fp=>(wu (zu (av 0) yd (za rfl)))) (λ_=>rfl)))))
theorem Xz(T:Txt K kd mg t)(hkd:KD1 P w K kd):FnOk P w K mg base CX0 1 t.zaF t.zaK ["_law_found","_law_due"] (spD K kd yx):=by
 refine yQ (N:=zdx) (ps:=["_law_found","_law_due"]) (k:=0) (c:=zeb) T.Z8 zic λcdv A outer s H E hr=>?_
 exact(zq (zN (zbJ (WX (hkd _ rfl rfl rfl) rfl rfl T.xm Bt.isinstance rfl T.zkm Bt.bool (av 0) (Bt.n _ rfl) (by decide) (Bt.n _ rfl) (by decide) rfl rfl rfl) (zbO (Yt (zZ (hkd _ rfl rfl rfl) (yE hr) .Eq) (av 0) (av 1) (yu _))))))
theorem zfj(T:Txt K kd mg t)(hkd:KD1 P w K kd):FnOk P w K mg base CX0 1 t.YS t.Xn ["self","thing"] (spD K kd Y0):=by
 refine yQ (N:=zar) (ps:=["self","thing"]) (k:=0) (c:=V1) T.zfG zeq λcdv A outer s H E hr=>?_
 exact(zq (zN (zbJ (WX (hkd _ rfl rfl rfl) rfl rfl T.xm Bt.isinstance rfl T.zkT Bt.str (av 1) (Bt.n _ rfl) (by decide) (Bt.n _ rfl) (by decide) rfl rfl rfl) (zbO (Yt (zZ (hkd _ rfl rfl rfl) (yE hr) .In) (av 1) (Wh (zdm T) (av 0) rfl) rfl)))))
theorem zet(T:Txt K kd mg t)(hkd:KD1 P w K kd):FnOk P w K mg base CX0 3 t.Yd t.Yn ["self","thing"] (spD K kd Yu):=by
 refine yQ (N:=Vx) (ps:=["self","thing"]) (k:=2) (c:=Vp) T.zex zcS λcdv A outer s H E hr=>?_
 exact(zq (zN (zU (zjk T hkd) (hr.mono (by omega)) rfl T.Z5 T.zdD.kp T.ziJ yo (by refine zc ?_ ?_ ?_;exact(av 1);refine zc ?_ ?_ ?_;exact aI;refine zc ?_ ?_ ?_;exact(zj (zp .Sub) (Wh (zkc T) (av 0) rfl) aI);exact zA;exact za rfl;exact za rfl;exact za rfl) (by decide) rfl rfl)))
theorem zfv(T:Txt K kd mg t)(hkd:KD1 P w K kd):FnOk P w K mg base CX0 1 t.Xj t.Xm ["self","thing"] (spD K kd Y5):=by
 refine yQ (N:=VN) (ps:=["self","thing"]) (k:=0) (c:=VR) T.zfi zen λcdv A outer s H E hr=>?_
 exact(zq (zN (zbJ (WX (hkd _ rfl rfl rfl) rfl rfl T.xm Bt.isinstance rfl T.zkT Bt.str (av 1) (Bt.n _ rfl) (by decide) (Bt.n _ rfl) (by decide) rfl rfl rfl) (zbO (Yt (zZ (hkd _ rfl rfl rfl) (yE hr) .In) (av 1) (Wh (zhX T) (av 0) rfl) rfl)))))
theorem zma(T:Txt K kd mg t)(hkd:KD1 P w K kd):MT P w K mg base kd "is_deed" 1 zbN:=(W9 T.wL T.zfK (zfv T hkd) (by decide) T.zeT W0)
theorem zkt(T:Txt K kd mg t)(hkd:KD1 P w K kd):MT P w K mg base kd "is_value" 3 zam:=(W9 T.wL T.zeh (zet T hkd) (by decide) T.zeo W0)
theorem zmo(T:Txt K kd mg t)(hkd:KD1 P w K kd):MT P w K mg base kd "is_sign" 1 zbM:=(W9 T.wL T.zfF (zfj T hkd) (by decide) T.zfX W0)
theorem zjr(T:Txt K kd mg t)(hkd:KD1 P w K kd):FnOk P w K mg base CX0 4 t.zaO t.zaR ["_law_way","_law_algebra_here","_law_cell"] (spD K kd Zd):=by
 refine yQ (N:=Z7) (ps:=["_law_way","_law_algebra_here","_law_cell"]) (k:=3) (c:=zee) T.zdU Zt λcdv A outer s H E hr=>?_
 exact(by
  refine zg ?_ ?_;exact(xg PassesOwn.never rfl (zga (zj (zp .Add) (zj (zp .Add) (zgG rfl rfl T.yr rfl T.zdn (zc (ax hkd (av 1) aI) zA (za rfl)) rfl rfl) (xT (N:=["_law_pair"]) (cap:=[none]) (S:=[0]) rfl (wR (zj (zp .Add) (ax hkd (av 1) aI) (ax hkd (av 1) aI))) rfl (by change wz _ Z7 _ (zx wX).names _=true;decide +kernel) (by decide) (λcl s H fp=>(an 0 zgk)) (λcl s H fp=>yR) (λcl s H fp=>(ax hkd (av 0) aI)) (λ_=>rfl))) (zU (zmu T hkd) (hr.mono (by omega)) rfl T.Wq T.zgW.kp T.zmq yo (zc (av 1) (zc (av 2) zA (za rfl)) (za rfl)) (by decide) rfl rfl))) (an 3 Zt.nd) (by
  refine zg ?_ ?_;exact(by refine sv true 4 Zt.nd ?_;exact(zbJ (zU (Xx T hkd) (hr.mono (by omega)) rfl T.ye T.Z6.kp T.XQ yo (zc (av 3) zA (za rfl)) (by decide) rfl rfl) (zbO (zja (zZ (hkd _ rfl rfl rfl) (yE hr) .LtE) (zZ (hkd _ rfl rfl rfl) (yE hr) .Lt) aI (av 3) (ax hkd (av 1) aI) (by with_unfolding_all rfl)))))
  refine zg ?_ ?_;exact(by refine sv true 5 Zt.nd ?_;exact(Yt (zZ (hkd _ rfl rfl rfl) (yE hr) .NotEq) (xT (N:=["_law_name","_law_rows","_law_thing"]) (cap:=[none,none,some 3]) (S:=[0,1]) rfl (wR (ax hkd (av 1) aI)) rfl (by change wz _ Z7 _ (zx wX).names _=true;decide +kernel) (by decide) (λcl s H fp=>(ZG rfl (zJ (an 0 zau) (zJ (an 1 zau) vo rfl) rfl) rfl rfl)) (λcl s H fp=>(zih (AW.at_ (zmN (ZQ (WX (hkd _ rfl rfl rfl) rfl rfl T.xm Bt.isinstance rfl T.zkT Bt.str (av 2) (Bt.n _ rfl) (by decide) (Bt.n _ rfl) (by decide) rfl rfl rfl) (λ_=>rfl)) (zgh (yN (zZ (hkd _ rfl rfl rfl) (yE hr) .Eq) (yw .Eq) (av 0) (av 2) (yu _))))))) (λcl s H fp=>(av 0)) (λ_=>rfl)) (wu yd) (yu _)))
  refine zg ?_ ?_;exact(by refine sv true 6 Zt.nd ?_;exact(Yt (zZ (hkd _ rfl rfl rfl) (yE hr) .NotEq) (xT (N:=["_law_name","_law_values","_law_thing"]) (cap:=[none,none,some 3]) (S:=[0,1]) rfl (wR (ax hkd (av 1) aI)) rfl (by change wz _ Z7 _ (zx wX).names _=true;decide +kernel) (by decide) (λcl s H fp=>(ZG rfl (zJ (an 0 zaG) (zJ (an 1 zaG) vo rfl) rfl) rfl rfl)) (λcl s H fp=>(zih (AW.at_ (zmN (ZQ (WX (hkd _ rfl rfl rfl) rfl rfl T.xm Bt.isinstance rfl T.zkT Bt.str (av 2) (Bt.n _ rfl) (by decide) (Bt.n _ rfl) (by decide) rfl rfl rfl) (λ_=>rfl)) (zgh (yN (zZ (hkd _ rfl rfl rfl) (yE hr) .Eq) (yw .Eq) (av 0) (av 2) (yu _))))))) (λcl s H fp=>(av 0)) (λ_=>rfl)) (wu yd) (yu _)))
  refine zg ?_ ?_;exact(xQ (AW.at_ (zds (Xe (ZQ (zU (Xz T hkd) (hr.mono (by omega)) rfl T.yx T.Z8.kp T.XJ yo (zc (zan (zkt T hkd) (hr.mono (by omega)) yo (av 0) (zc (av 3) zA (za rfl)) rfl rfl rfl) (zc (av 4) zA (za rfl)) (za rfl)) (by decide) rfl rfl) (λ_=>rfl))) (Zb (Xe (ZQ (zU (Xz T hkd) (hr.mono (by omega)) rfl T.yx T.Z8.kp T.XJ yo (zc (zan (zma T hkd) (hr.mono (by omega)) yo (av 0) (zc (av 3) zA (za rfl)) rfl rfl rfl) (zc (av 5) zA (za rfl)) (za rfl)) (by decide) rfl rfl) (λ_=>rfl)))))) (zq (zN aB)) yD)
  exact zq (xQ (Xe (ZQ (zU (Xz T hkd) (hr.mono (by omega)) rfl T.yx T.Z8.kp T.XJ yo (zc (zan (zmo T hkd) (hr.mono (by omega)) yo (av 0) (zc (av 3) zA (za rfl)) rfl rfl rfl) (zc (av 6) zA (za rfl)) (za rfl)) (by decide) rfl rfl) (λ_=>rfl))) (zq (zN aB)) yD)) (λ_=>rfl))
  exact zq (zN aB))
theorem zfR(T:Txt K kd mg t)(hkd:KD1 P w K kd):FnOk P w K mg base CX0 1 t.YZ t.Xg ["self"] (spD K kd Xd):=by
 refine yQ (N:=zag) (ps:=["self"]) (k:=0) (c:=V0) T.zfw zeD λcdv A outer s H E hr=>?_
 exact(zq (zN (Wh (zgF T) (av 0) rfl)))
theorem zjt(T:Txt K kd mg t)(hkd:KD1 P w K kd):FnOk P w K mg base CX0 1 t.zaA t.zaB ["self","one","other"] (spD K kd zaj):=by
 refine yQ (N:=zdO) (ps:=["self","one","other"]) (k:=0) (c:=zdY) T.zjv zim λcdv A outer s H E hr=>?_
 exact(zq (zN (ax hkd (ax hkd (Wh (zlq T) (av 0) rfl) (av 1)) (av 2))))
theorem zes(T:Txt K kd mg t)(hkd:KD1 P w K kd):FnOk P w K mg base CX0 1 t.Yi t.Yj ["self","sign","value"] (spD K kd Yc):=by
 refine yQ (N:=Vs) (ps:=["self","sign","value"]) (k:=0) (c:=Vo) T.zeB zda λcdv A outer s H E hr=>?_
 exact(zq (zN (Yt (zZ (hkd _ rfl rfl rfl) (yE hr) .In) (av 2) (ax hkd (Wh (zdm T) (av 0) rfl) (av 1)) rfl)))
theorem zgR(T:Txt K kd mg t)(hkd:KD1 P w K kd):MT P w K mg base kd "nothing" 1 Vb:=(W9 T.wL T.zeV (zfR T hkd) (by decide) T.zfe W0)
theorem zsM(T:Txt K kd mg t)(hkd:KD1 P w K kd):MT P w K mg base kd "join" 1 zhL:=(W9 T.wL T.ziT (zjt T hkd) (by decide) T.ziQ W0)
theorem zks(T:Txt K kd mg t)(hkd:KD1 P w K kd):MT P w K mg base kd "has_sign" 1 zak:=(W9 T.wL T.zek (zes T hkd) (by decide) T.zeg W0)
theorem zdI(T:Txt K kd mg t)(hkd:KD1 P w K kd):FnOk P w K mg base CX0 2 t.zab t.zaw ["_law_way","_law_algebra_here"] (spD K kd xx):=by
 refine yQ (N:=zdL) (ps:=["_law_way","_law_algebra_here"]) (k:=1) (c:=zdQ) T.V4 yI λcdv A outer s H E hr=>?_
 exact(by
  refine zg ?_ ?_;exact(ziu (av 1) (ZG rfl (zJ (an 2 yI.nd) (zJ (an 3 yI.nd) (zJ (an 4 yI.nd) (zJ (an 5 yI.nd) (zJ (an 6 yI.nd) (zJ (an 7 yI.nd) vo rfl) rfl) rfl) rfl) rfl) rfl) rfl rfl) rfl rfl rfl)
  refine zg ?_ ?_;exact(xQ (AW.at_ (zds (Xe (ZQ (zU (Xx T hkd) (hr.mono (by omega)) rfl T.ye T.Z6.kp T.XQ yo (zc (ziv (zgR T hkd) (hr.mono (by omega)) yo (av 0) rfl) zA (za rfl)) (by decide) rfl rfl) (λ_=>rfl))) (Zb (yN (zZ (hkd _ rfl rfl rfl) (yE hr) .NotEq) (yw .NotEq) (ziv (zgR T hkd) (hr.mono (by omega)) yo (av 0) rfl) (av 5) (yu _))))) (zq (zN aB)) yD)
  refine zg ?_ ?_;exact(xg PassesOwn.never rfl (yC rfl T.yr (zc (av 2) zA (za rfl)) rfl) (an 8 yI.nd) (by
  refine zg ?_ ?_;exact(xg PassesOwn.never rfl (yC rfl T.yr (zc (av 2) zA (za rfl)) rfl) (an 9 yI.nd) (by
  refine zg ?_ ?_;exact(by refine sv true 10 yI.nd ?_;exact(zan (zsM T hkd) (hr.mono (by omega)) yo (av 0) (zc (av 8) (zc (av 9) zA (za rfl)) (za rfl)) rfl rfl rfl))
  exact zq (xQ (AW.at_ (zds (Xe (ZQ (zU (Xx T hkd) (hr.mono (by omega)) rfl T.ye T.Z6.kp T.XQ yo (zc (av 10) zA (za rfl)) (by decide) rfl rfl) (λ_=>rfl))) (Zb (yN (zZ (hkd _ rfl rfl rfl) (yE hr) .NotEq) (yw .NotEq) (av 10) (ax hkd (ax hkd (av 4) (av 8)) (av 9)) (yu _))))) (zq (zN aB)) yD)) (λ_=>rfl))
  exact zq (xg PassesOwn.never rfl (zga (av 7)) (ZG rfl (zJ (an 11 yI.nd) (zJ (an 12 yI.nd) vo rfl) rfl) rfl rfl) (zq (xQ (Xe (ZQ (zU (Xz T hkd) (hr.mono (by omega)) rfl T.yx T.Z8.kp T.XJ yo (zc (zan (zks T hkd) (hr.mono (by omega)) yo (av 0) (zc (av 11) (zc (av 8) zA (za rfl)) (za rfl)) rfl rfl rfl) (zc (Yt (zZ (hkd _ rfl rfl rfl) (yE hr) .In) (av 8) (av 12) rfl) zA (za rfl)) (za rfl)) (by decide) rfl rfl) (λ_=>rfl))) (zq (zN aB)) yD)) (λ_=>rfl))) (λ_=>rfl))
  exact zq (zN aB))
theorem ziW(T:Txt K kd mg t)(hkd:KD1 P w K kd):FnOk P w K mg base CX0 1 t.zav t.zax ["self","wait","value","many"] (spD K kd VM):=by
 refine yQ (N:=zdu) (ps:=["self","wait","value","many"]) (k:=0) (c:=zdy) T.zjp zhi λcdv A outer s H E hr=>?_
 exact(zq (zN (ax hkd (ax hkd (av 1) (zj (zp .Mod) (av 3) (Wh (zgc T) (av 0) rfl))) (av 2))))
theorem ziz(T:Txt K kd mg t)(hkd:KD1 P w K kd):FnOk P w K mg base CX0 1 t.zaM t.V2 ["self"] (spD K kd zal):=by
 refine yQ (N:=zdS) (ps:=["self"]) (k:=0) (c:=zec) T.ziN zhw λcdv A outer s H E hr=>?_
 exact(zq (zN (zj (zp .Mult) (v8 (zu (zlW rfl rfl T.yr rfl T.zeM (zc (Wh (zkc T) (av 0) rfl) zA (za rfl)) rfl rfl) yd (za rfl))) (Wh (zgc T) (av 0) rfl))))
theorem zgm(T:Txt K kd mg t)(hkd:KD1 P w K kd):FnOk P w K mg base CX0 1 t.Y8 t.Xl ["self","deed"] (spD K kd Xc):=by
 refine yQ (N:=zay) (ps:=["self","deed"]) (k:=0) (c:=V3) T.zeZ zei λcdv A outer s H E hr=>?_
 exact(zq (zN (ax hkd (Wh (zhX T) (av 0) rfl) (av 1))))
theorem zoB(T:Txt K kd mg t)(hkd:KD1 P w K kd):MT P w K mg base kd "made" 1 WY:=(W9 T.wL T.ziK (ziW T hkd) (by decide) T.zjz W0)
theorem zsH(T:Txt K kd mg t)(hkd:KD1 P w K kd):MT P w K mg base kd "idle" 1 zeK:=(W9 T.wL T.zjs (ziz T hkd) (by decide) T.ziL W0)
theorem zlE(T:Txt K kd mg t)(hkd:KD1 P w K kd):MT P w K mg base kd "wait_of" 1 Vl:=(W9 T.wL T.zeR (zgm T hkd) (by decide) T.zfy W0)
theorem zjN(T:Txt K kd mg t)(hkd:KD1 P w K kd):FnOk P w K mg base CX0 2 t.zbK t.zbQ ["_law_way","_law_algebra_here","_law_many"] (spD K kd ZL):=by
 refine yQ (N:=zfr) (ps:=["_law_way","_law_algebra_here","_law_many"]) (k:=1) (c:=zfc) T.zfU yW λcdv A outer s H E hr=>?_
 exact(by
  refine zg ?_ ?_;exact(ziu (av 1) (ZG rfl (zJ (an 3 yW.nd) (zJ (an 4 yW.nd) (zJ (an 5 yW.nd) (zJ (an 6 yW.nd) (zJ (an 7 yW.nd) (zJ (an 8 yW.nd) vo rfl) rfl) rfl) rfl) rfl) rfl) rfl rfl) rfl rfl rfl)
  refine zg ?_ ?_;exact(xg PassesOwn.never rfl (yC rfl T.yr (zc (av 3) zA (za rfl)) rfl) (an 9 yW.nd) (zq (xQ (AW.at_ (zds (yN (zZ (hkd _ rfl rfl rfl) (yE hr) .Gt) (yw .Gt) (av 2) aI (yu _)) (Zb (yN (zZ (hkd _ rfl rfl rfl) (yE hr) .Eq) (yw .Eq) (av 9) (av 6) (yu _))))) (by
  refine zg ?_ ?_;exact(xQ (yN (zZ (hkd _ rfl rfl rfl) (yE hr) .NotEq) (yw .NotEq) (zan (zoB T hkd) (hr.mono (by omega)) yo (av 0) (by refine zc ?_ ?_ ?_;exact(ziv (zsH T hkd) (hr.mono (by omega)) yo (av 0) rfl);refine zc ?_ ?_ ?_;exact(av 9);refine zc ?_ ?_ ?_;exact(av 2);exact zA;exact za rfl;exact za rfl;exact za rfl) rfl rfl rfl) (av 9) (yu _)) (zq (zN aB)) yD)
  exact zq (xg PassesOwn.never rfl (zga (av 7)) (ZG rfl (zJ (an 10 yW.nd) (zJ (an 11 yW.nd) vo rfl) rfl) rfl rfl) (by
  refine zg ?_ ?_;exact(by refine sv true 12 yW.nd ?_;exact(zan (zoB T hkd) (hr.mono (by omega)) yo (av 0) (by refine zc ?_ ?_ ?_;exact(zan (zlE T hkd) (hr.mono (by omega)) yo (av 0) (zc (av 10) zA (za rfl)) rfl rfl rfl);refine zc ?_ ?_ ?_;exact(av 9);refine zc ?_ ?_ ?_;exact(av 2);exact zA;exact za rfl;exact za rfl;exact za rfl) rfl rfl rfl))
  exact zq (xQ (AW.at_ (zds (Xe (ZQ (zU (Xx T hkd) (hr.mono (by omega)) rfl T.ye T.Z6.kp T.XQ yo (zc (av 12) zA (za rfl)) (by decide) rfl rfl) (λ_=>rfl))) (Zb (yN (zZ (hkd _ rfl rfl rfl) (yE hr) .NotEq) (yw .NotEq) (av 12) (ax hkd (ax hkd (av 11) (zj (zp .Mod) (av 2) (av 4))) (av 9)) (yu _))))) (zq (zN aB)) yD)) (λ_=>rfl))) yD)) (λ_=>rfl))
  exact zq (zN aB))
theorem zer(T:Txt K kd mg t)(hkd:KD1 P w K kd)(c:Str):FnOk P w K mg base CX0 5 t.Yx t.Ym ["self","algebra"] (spI K kd c (wI c)):=by
 refine ztc (N:=vP) (ps:=["self","algebra"]) (k:=4) (b:=Yv) T.zeA zcE (by decide) λcdv A outer s H E hr=>?_
 exact(Wx (zpO (zU (zeS T hkd) (hr.mono (by omega)) rfl T.xZ T.zaD.kp T.zeX yo (zc (av 1) zA (za rfl)) (by decide) rfl rfl) rfl) (Wx (zaX (zkc T) (pv 0) (ax hkd (av 1) aI) rfl) (Wx (zaX (zgc T) (pv 0) (ax hkd (av 1) aI) rfl) (Wx (zaX (zlq T) (pv 0) (zU (znj T hkd) (hr.mono (by omega)) rfl T.V6 T.zjO.kp T.zmK yo (zc (ax hkd (av 1) aI) zA (za rfl)) (by decide) rfl rfl) rfl) (Wx (zaX (zgF T) (pv 0) (ax hkd (av 1) aI) rfl) (Wx (zaX (zhX T) (pv 0) (Yb (zff rfl (hkd _ rfl rfl rfl)) rfl T.znK Bt.dict (zc (xT (N:=["name","rows"]) (cap:=[none,none]) (S:=[0,1]) rfl (wR (ax hkd (av 1) aI)) rfl (by change wz _ vP _ (zx xM).names _=true;decide +kernel) (by decide) (λcl s H fp=>(ZG rfl (zJ (an 0 Xk) (zJ (an 1 Xk) vo rfl) rfl) rfl rfl)) (λcl s H fp=>yR) (λcl s H fp=>(v8 (zu (av 0) (zu (zU (znj T hkd) (hr.mono (by omega)) rfl T.V6 T.zjO.kp T.zmK yo (zc (av 1) zA (za rfl)) (by decide) rfl rfl) yd (za rfl)) (za rfl)))) (λ_=>rfl)) zA (za rfl)) (Bt.n _ rfl) (by decide) rfl rfl) rfl) (zqn (zaX (zdm T) (pv 0) (Yb (zff rfl (hkd _ rfl rfl rfl)) rfl T.znK Bt.dict (zc (xT (N:=["name","values"]) (cap:=[none,none]) (S:=[0,1]) rfl (wR (ax hkd (av 1) aI)) rfl (by change wz _ vP _ (zx xM).names _=true;decide +kernel) (by decide) (λcl s H fp=>(ZG rfl (zJ (an 0 Xo) (zJ (an 1 Xo) vo rfl) rfl) rfl rfl)) (λcl s H fp=>yR) (λcl s H fp=>(v8 (zu (av 0) (zu (zlp rfl T.zeM Bt.tuple (av 1) (Bt.n _ rfl) (by decide) rfl rfl) yd (za rfl)) (za rfl)))) (λ_=>rfl)) zA (za rfl)) (Bt.n _ rfl) (by decide) rfl rfl) rfl))))))))
theorem o_law(T:Txt K kd mg t)(hkd:KD1 P w K kd):FnOk P w K mg base CX0 7 t.znV t.znu ["_law_script"] (spD K kd zgi):=by
 refine yQ (N:=zqO) (ps:=["_law_script"]) (k:=6) (c:=zqM) T.zui Y6 λcdv A outer s H E hr=>?_
 exact(by
  refine zg ?_ ?_;exact(by refine sv true 1 Y6.nd ?_;exact(zU (zgy T hkd) (hr.mono (by omega)) rfl T.vJ T.zbk.kp T.zgv yo (by refine zc ?_ ?_ ?_;exact(zU (ZW T hkd) (hr.mono (by omega)) rfl T.yj T.vK.kp T.ZS yo (zc (av 0) (zc aI zA (za rfl)) (za rfl)) (by decide) rfl rfl);refine zc ?_ ?_ ?_;exact(zU (ZW T hkd) (hr.mono (by omega)) rfl T.yj T.vK.kp T.ZS yo (zc (av 0) (zc aI zA (za rfl)) (za rfl)) (by decide) rfl rfl);refine zc ?_ ?_ ?_;exact(zj (zp .Mod) (zU (ZW T hkd) (hr.mono (by omega)) rfl T.yj T.vK.kp T.ZS yo (zc (av 0) (zc aI zA (za rfl)) (za rfl)) (by decide) rfl rfl) aI);exact zA;exact za rfl;exact za rfl;exact za rfl) (by decide) rfl rfl))
  refine zg ?_ ?_;exact(by refine sv false 2 Y6.nd ?_;exact(zU (zkh T hkd) (hr.mono (by omega)) rfl T.v7 T.zfS.kp T.zkd yo (zc (av 1) zA (za rfl)) (by decide) rfl rfl))
  refine zg ?_ ?_;exact(by refine sv true 3 Y6.nd ?_;exact(zpo T.wL.eq (T.wL.mk' T.zep) (zer T hkd "Ways") (hr.mono (by omega)) rfl T.wL.mg T.zeu yo (zc (av 2) zA (za rfl)) (by decide) rfl rfl))
  refine zg ?_ ?_;exact(xQ (AW.at_ (zds (yN (zZ (hkd _ rfl rfl rfl) (yE hr) .NotEq) (yw .NotEq) (av 2) (av 1) (yu _)) (Zb (Xe (ZQ (zU (zdI T hkd) (hr.mono (by omega)) rfl T.xx T.V4.kp T.zdE yo (zc (av 3) (zc (av 1) zA (za rfl)) (za rfl)) (by decide) rfl rfl) (λ_=>rfl)))))) (zq (zN aB)) yD)
  exact(zpm (by
  refine zg ?_ ?_;exact(xQ (AW.at_ (zds (Xe (ZQ (zU (zjr T hkd) (hr.mono (by omega)) rfl T.Zd T.zdU.kp T.zjj yo (by refine zc ?_ ?_ ?_;exact(av 3);refine zc ?_ ?_ ?_;exact(av 1);refine zc ?_ ?_ ?_;exact(zU (ZW T hkd) (hr.mono (by omega)) rfl T.yj T.vK.kp T.ZS yo (zc (av 0) (zc aI zA (za rfl)) (za rfl)) (by decide) rfl rfl);exact zA;exact za rfl;exact za rfl;exact za rfl) (by decide) rfl rfl) (λ_=>rfl))) (Zb (Xe (ZQ (zU (zdI T hkd) (hr.mono (by omega)) rfl T.xx T.V4.kp T.zdE yo (zc (av 3) (zc (av 1) zA (za rfl)) (za rfl)) (by decide) rfl rfl) (λ_=>rfl)))))) (zq (zN aB)) yD)
  refine zg ?_ ?_;exact(xg PassesOwn.never rfl (zga (zj (zp .Add) (wu (by refine zu ?_ ?_ ?_;exact aI;refine zu ?_ ?_ ?_;exact aI;refine zu ?_ ?_ ?_;exact aI;exact yd;exact za rfl;exact za rfl;exact za rfl)) (ziU (av 0) (zeN aI) (zeN aI)))) (an 8 Y6.nd) (zq (xQ (Xe (ZQ (zU (zjN T hkd) (hr.mono (by omega)) rfl T.ZL T.zfU.kp T.zkr yo (by refine zc ?_ ?_ ?_;exact(av 3);refine zc ?_ ?_ ?_;exact(av 1);refine zc ?_ ?_ ?_;exact(zj (zp .Mod) (av 8) aI);exact zA;exact za rfl;exact za rfl;exact za rfl) (by decide) rfl rfl) (λ_=>rfl))) (zq (zN aB)) yD)) (λ_=>rfl))
  exact zq (zN aB)) Y6.nd PassesOwn.never rfl (pv 2) (pv 2) (pv 2) (pv 2) (pv 2) zcZ zcZ zcZ zcZ zcZ (λ_ _=>rfl) (λ_ _=>rfl) (λ_ _=>rfl) (λ_ _=>rfl) (λ_ _=>rfl) (zbb (i:=4) Y6.nd rfl (by exact Or.inl rfl) (by exact Or.inr rfl)) (zkj rfl (zaP (zbb (i:=5) Y6.nd rfl (by exact Or.inl rfl) (by exact Or.inr rfl)) (zaP (zbb (i:=6) Y6.nd rfl (by exact Or.inl rfl) (by exact Or.inr rfl)) zio rfl) rfl) rfl rfl) (zkj rfl (zaP (zbb (i:=5) Y6.nd rfl (by exact Or.inl rfl) (by exact Or.inr rfl)) (zaP (zbb (i:=7) Y6.nd rfl (by exact Or.inl rfl) (by exact Or.inr rfl)) zio rfl) rfl) rfl rfl) (zfo PySem.F.plainAttrs_list PySem.F.slot_list_clear PySem.F.type_list_clear zap (pv 4) rfl rfl) (zfo PySem.F.plainAttrs_list PySem.F.slot_list_clear PySem.F.type_list_clear zap (pv 6) rfl rfl) (zfo PySem.F.plainAttrs_list PySem.F.slot_list_clear PySem.F.type_list_clear zap (pv 7) rfl rfl) (λ_ z=>zfo PySem.F.plainAttrs_list PySem.F.slot_list_clear PySem.F.type_list_clear zap z rfl rfl) (λ_ z=>zfo PySem.F.plainAttrs_list PySem.F.slot_list_clear PySem.F.type_list_clear zap z rfl rfl) rfl rfl rfl rfl rfl (λ_=>rfl) (λ_=>rfl) (λ_=>rfl)))
end
abbrev NsR(K:zC)(x:Str)(f:Addr):Prop:=PySem.W.nsIn K mainGlobals x=some (some (.ref f))
abbrev FnAt(K:zC)(x q:Str)(s:Stmt)(f:Addr):Prop:=∃d,Fun K x q s f d
theorem zsU{l:PySem.W.OpenLaw}{w:World}{K:zC}{h:Heap}{mg:Str->Option Value}{fa:Addr}(X:K.In h)(G:h.Ns mainGlobals mg)(hfa:mg "law"=some (.ref fa))
 {f0 f1 f2 f3 f4 f5 f6 f7 f8 f9 f10 f11 f12 f13 f14 f15 f16 f17 f18 f19 f20 f21 f22 f23 f24 f25 f26 f27 f28 f29 f30 f31 f32 f33 f34 f35 f36 C0:Addr}
 (aC0:PySem.W.nsIn K mainGlobals "Ways"=some (some (.ref C0)))
 (e0:PySem.W.findIn K (.ref C0) "__init__"=some (some (.ref f35))) (ei0:PySem.W.isFn K (.ref f35)=true) (ek0:PySem.W.keepIn K (.ref f35)=true)
 (e1:PySem.W.findIn K (.ref C0) "is_deed"=some (some (.ref f25))) (ei1:PySem.W.isFn K (.ref f25)=true) (ek1:PySem.W.keepIn K (.ref f25)=true)
 (e2:PySem.W.findIn K (.ref C0) "is_value"=some (some (.ref f24))) (ei2:PySem.W.isFn K (.ref f24)=true) (ek2:PySem.W.keepIn K (.ref f24)=true)
 (e3:PySem.W.findIn K (.ref C0) "is_sign"=some (some (.ref f23))) (ei3:PySem.W.isFn K (.ref f23)=true) (ek3:PySem.W.keepIn K (.ref f23)=true)
 (e4:PySem.W.findIn K (.ref C0) "nothing"=some (some (.ref f27))) (ei4:PySem.W.isFn K (.ref f27)=true) (ek4:PySem.W.keepIn K (.ref f27)=true)
 (e5:PySem.W.findIn K (.ref C0) "join"=some (some (.ref f28))) (ei5:PySem.W.isFn K (.ref f28)=true) (ek5:PySem.W.keepIn K (.ref f28)=true)
 (e6:PySem.W.findIn K (.ref C0) "has_sign"=some (some (.ref f29))) (ei6:PySem.W.isFn K (.ref f29)=true) (ek6:PySem.W.keepIn K (.ref f29)=true)
 (e7:PySem.W.findIn K (.ref C0) "made"=some (some (.ref f31))) (ei7:PySem.W.isFn K (.ref f31)=true) (ek7:PySem.W.keepIn K (.ref f31)=true)
 (e8:PySem.W.findIn K (.ref C0) "idle"=some (some (.ref f32))) (ei8:PySem.W.isFn K (.ref f32)=true) (ek8:PySem.W.keepIn K (.ref f32)=true)
 (e9:PySem.W.findIn K (.ref C0) "wait_of"=some (some (.ref f33))) (ei9:PySem.W.isFn K (.ref f33)=true) (ek9:PySem.W.keepIn K (.ref f33)=true)
 (pg0:PySem.W.plainGet K C0 Str.empty=true) (hd0:PySem.W.hasDictIn K C0=true) (po0:PySem.W.plainOver K C0=true) (sa0:PySem.W.findIn K (.ref C0) "__setattr__"=some (some (.builtin "object.__setattr__"))) (mk0:PySem.W.makesIn K C0=true) (kc0:PySem.W.keepIn K (.ref C0)=true)
 (na0:PySem.W.findIn K (.ref C0) "holders"=some none)
 (na1:PySem.W.findIn K (.ref C0) "size"=some none)
 (na2:PySem.W.findIn K (.ref C0) "waits"=some none)
 (na3:PySem.W.findIn K (.ref C0) "neutral"=some none)
 (na4:PySem.W.findIn K (.ref C0) "table"=some none)
 (na5:PySem.W.findIn K (.ref C0) "around"=some none)
 (a0:NsR K "is_whole" f0) (l0:FnAt K "is_whole" "is_whole" WN f0)
 (a1:NsR K "is_within" f1) (l1:FnAt K "is_within" "is_within" XD f1)
 (a2:NsR K "nothing_fails" f2) (l2:FnAt K "nothing_fails" "nothing_fails" vW f2)
 (a3:NsR K "parting_fails" f3) (l3:FnAt K "parting_fails" "parting_fails" vV f3)
 (a4:NsR K "doing_fails" f4) (l4:FnAt K "doing_fails" "doing_fails" ZX f4)
 (a5:NsR K "deeds_fail" f5) (l5:FnAt K "deeds_fail" "deeds_fail" YF f5)
 (a6:NsR K "what_fails" f6) (l6:FnAt K "what_fails" "what_fails" YG f6)
 (a7:NsR K "check_let_by" f7) (l7:FnAt K "check_let_by" "check_let_by" Zj f7)
 (a8:NsR K "firm" f8) (l8:FnAt K "firm" "firm" zgj f8)
 (a9:NsR K "_law_cell_at" f9) (l9:FnAt K "_law_cell_at" "_law_cell_at" Z0 f9)
 (a10:NsR K "_law_mixed" f10) (l10:FnAt K "_law_mixed" "_law_mixed" XC f10)
 (a11:NsR K "_law_whole" f11) (l11:FnAt K "_law_whole" "_law_whole" Xw f11)
 (a12:NsR K "_law_words" f12) (l12:FnAt K "_law_words" "_law_words" Z9 f12)
 (a13:NsR K "_law_common" f13) (l13:FnAt K "_law_common" "_law_common" YC f13)
 (a14:NsR K "_law_joined_by" f14) (l14:FnAt K "_law_joined_by" "_law_joined_by" vQ f14)
 (a15:NsR K "_law_images" f15) (l15:FnAt K "_law_images" "_law_images" Zy f15)
 (a16:NsR K "_law_done_by" f16) (l16:FnAt K "_law_done_by" "_law_done_by" wK f16)
 (a17:NsR K "_law_kinds" f17) (l17:FnAt K "_law_kinds" "_law_kinds" XM f17)
 (a18:NsR K "_law_stream" f18) (l18:FnAt K "_law_stream" "_law_stream" YD f18)
 (a19:NsR K "_law_algebra" f19) (l19:FnAt K "_law_algebra" "_law_algebra" xU f19)
 (a20:NsR K "_law_copy" f20) (l20:FnAt K "_law_copy" "_law_copy" vX f20)
 (a21:NsR K "_law_odd" f21) (l21:FnAt K "_law_odd" "_law_odd" Za f21)
 (a22:NsR K "_law_truth" f22) (l22:FnAt K "_law_truth" "_law_truth" XH f22)
 (l23:FnAt K "is_sign" "Ways.is_sign" Zk f23)
 (l24:FnAt K "is_value" "Ways.is_value" vU f24)
 (l25:FnAt K "is_deed" "Ways.is_deed" Zi f25)
 (a26:NsR K "_law_known" f26) (l26:FnAt K "_law_known" "_law_known" wX f26)
 (l27:FnAt K "nothing" "Ways.nothing" Zq f27)
 (l28:FnAt K "join" "Ways.join" XX f28)
 (l29:FnAt K "has_sign" "Ways.has_sign" vR f29)
 (a30:NsR K "_law_joins" f30) (l30:FnAt K "_law_joins" "_law_joins" XS f30)
 (l31:FnAt K "made" "Ways.made" Xy f31)
 (l32:FnAt K "idle" "Ways.idle" XF f32)
 (l33:FnAt K "wait_of" "Ways.wait_of" Zu f33)
 (a34:NsR K "_law_does" f34) (l34:FnAt K "_law_does" "_law_does" W3 f34)
 (l35:FnAt K "__init__" "Ways.__init__" xM f35)
 (a36:NsR K "law" f36) (l36:FnAt K "law" "law" zkC f36)
 (z0:PySem.W.nsIn K mainGlobals "bool"=some none) (z1:PySem.W.nsIn K mainGlobals "dict"=some none) (z2:PySem.W.nsIn K mainGlobals "int"=some none) (z3:PySem.W.nsIn K mainGlobals "isinstance"=some none) (z4:PySem.W.nsIn K mainGlobals "len"=some none) (z5:PySem.W.nsIn K mainGlobals "list"=some none) (z6:PySem.W.nsIn K mainGlobals "max"=some none) (z7:PySem.W.nsIn K mainGlobals "range"=some none) (z8:PySem.W.nsIn K mainGlobals "sorted"=some none) (z9:PySem.W.nsIn K mainGlobals "str"=some none) (z10:PySem.W.nsIn K mainGlobals "tuple"=some none):
 ∃fd:FuncData,(∀(s:Shared) (v:Value),BindsTo s fd ⟨[v],[]⟩ [("_law_script",v)])/\∀base:Heap,K.In base->base.Ns mainGlobals mg->FnOk l.prog w K mg base CX0 7 fa fd ["_law_script"] (spL K zgi):=by
 have e:=hfa.symm.trans (PySem.W.mg_of X G a36)
 cases e
 obtain⟨_,F0⟩:=l0
 have b0:=F0.binds (ps:=["thing"]) λ_ _ _ _ _ _=>l1_ λ_=>rfl
 obtain⟨_,F1⟩:=l1
 have b1:=F1.binds (ps:=["thing","least","most"]) λ_ _ _ _ _ _=>l3_ λ_ _ _=>rfl
 obtain⟨_,F2⟩:=l2
 have b2:=F2.binds (ps:=["algebra"]) λ_ _ _ _ _ _=>l1_ λ_=>rfl
 obtain⟨_,F3⟩:=l3
 have b3:=F3.binds (ps:=["algebra"]) λ_ _ _ _ _ _=>l1_ λ_=>rfl
 obtain⟨_,F4⟩:=l4
 have b4:=F4.binds (ps:=["algebra","name","rows"]) λ_ _ _ _ _ _=>l3_ λ_ _ _=>rfl
 obtain⟨_,F5⟩:=l5
 have b5:=F5.binds (ps:=["algebra"]) λ_ _ _ _ _ _=>l1_ λ_=>rfl
 obtain⟨_,F6⟩:=l6
 have b6:=F6.binds (ps:=["algebra"]) λ_ _ _ _ _ _=>l1_ λ_=>rfl
 obtain⟨_,F7⟩:=l7
 have b7:=F7.binds (ps:=["algebra"]) λ_ _ _ _ _ _=>l1_ λ_=>rfl
 obtain⟨_,F8⟩:=l8
 have b8:=F8.binds (ps:=["rows"]) λ_ _ _ _ _ _=>l1_ λ_=>rfl
 obtain⟨_,F9⟩:=l9
 have b9:=F9.binds (ps:=["_law_script","_law_k"]) λ_ _ _ _ _ _=>l2_ λ_ _=>rfl
 obtain⟨_,F10⟩:=l10
 have b10:=F10.binds (ps:=["_law_cell","_law_k"]) λ_ _ _ _ _ _=>l2_ λ_ _=>rfl
 obtain⟨_,F11⟩:=l11
 have b11:=F11.binds (ps:=["_law_found"]) λ_ _ _ _ _ _=>l1_ λ_=>rfl
 obtain⟨_,F12⟩:=l12
 have b12:=F12.binds (ps:=["_law_cell","_law_many"]) λ_ _ _ _ _ _=>l2_ λ_ _=>rfl
 obtain⟨_,F13⟩:=l13
 have b13:=F13.binds (ps:=["_law_n","_law_m"]) λ_ _ _ _ _ _=>l2_ λ_ _=>rfl
 obtain⟨_,F14⟩:=l14
 have b14:=F14.binds (ps:=["_law_kind","_law_n","_law_a","_law_b"]) λ_ _ _ _ _ _=>l4_ λ_ _ _ _=>rfl
 obtain⟨_,F15⟩:=l15
 have b15:=F15.binds (ps:=["_law_kind","_law_n","_law_x"]) λ_ _ _ _ _ _=>l3_ λ_ _ _=>rfl
 obtain⟨_,F16⟩:=l16
 have b16:=F16.binds (ps:=["_law_kind","_law_n","_law_m","_law_x"]) λ_ _ _ _ _ _=>l4_ λ_ _ _ _=>rfl
 obtain⟨_,F17⟩:=l17
 have b17:=F17.binds (ps:=["_law_x"]) λ_ _ _ _ _ _=>l1_ λ_=>rfl
 obtain⟨_,F18⟩:=l18
 have b18:=F18.binds (ps:=["_law_cell","_law_many"]) λ_ _ _ _ _ _=>l2_ λ_ _=>rfl
 obtain⟨_,F19⟩:=l19
 have b19:=F19.binds (ps:=["_law_cell","_law_head","_law_many"]) λ_ _ _ _ _ _=>l3_ λ_ _ _=>rfl
 obtain⟨_,F20⟩:=l20
 have b20:=F20.binds (ps:=["_law_algebra_here"]) λ_ _ _ _ _ _=>l1_ λ_=>rfl
 obtain⟨_,F21⟩:=l21
 have b21:=F21.binds (ps:=["_law_algebra_here","_law_cell"]) λ_ _ _ _ _ _=>l2_ λ_ _=>rfl
 obtain⟨_,F22⟩:=l22
 have b22:=F22.binds (ps:=["_law_found","_law_due"]) λ_ _ _ _ _ _=>l2_ λ_ _=>rfl
 obtain⟨_,F23⟩:=l23
 have b23:=F23.binds (ps:=["self","thing"]) λ_ _ _ _ _ _=>l2_ λ_ _=>rfl
 obtain⟨_,F24⟩:=l24
 have b24:=F24.binds (ps:=["self","thing"]) λ_ _ _ _ _ _=>l2_ λ_ _=>rfl
 obtain⟨_,F25⟩:=l25
 have b25:=F25.binds (ps:=["self","thing"]) λ_ _ _ _ _ _=>l2_ λ_ _=>rfl
 obtain⟨_,F26⟩:=l26
 have b26:=F26.binds (ps:=["_law_way","_law_algebra_here","_law_cell"]) λ_ _ _ _ _ _=>l3_ λ_ _ _=>rfl
 obtain⟨_,F27⟩:=l27
 have b27:=F27.binds (ps:=["self"]) λ_ _ _ _ _ _=>l1_ λ_=>rfl
 obtain⟨_,F28⟩:=l28
 have b28:=F28.binds (ps:=["self","one","other"]) λ_ _ _ _ _ _=>l3_ λ_ _ _=>rfl
 obtain⟨_,F29⟩:=l29
 have b29:=F29.binds (ps:=["self","sign","value"]) λ_ _ _ _ _ _=>l3_ λ_ _ _=>rfl
 obtain⟨_,F30⟩:=l30
 have b30:=F30.binds (ps:=["_law_way","_law_algebra_here"]) λ_ _ _ _ _ _=>l2_ λ_ _=>rfl
 obtain⟨_,F31⟩:=l31
 have b31:=F31.binds (ps:=["self","wait","value","many"]) λ_ _ _ _ _ _=>l4_ λ_ _ _ _=>rfl
 obtain⟨_,F32⟩:=l32
 have b32:=F32.binds (ps:=["self"]) λ_ _ _ _ _ _=>l1_ λ_=>rfl
 obtain⟨_,F33⟩:=l33
 have b33:=F33.binds (ps:=["self","deed"]) λ_ _ _ _ _ _=>l2_ λ_ _=>rfl
 obtain⟨_,F34⟩:=l34
 have b34:=F34.binds (ps:=["_law_way","_law_algebra_here","_law_many"]) λ_ _ _ _ _ _=>l3_ λ_ _ _=>rfl
 obtain⟨_,F35⟩:=l35
 have b35:=F35.binds (ps:=["self","algebra"]) λ_ _ _ _ _ _=>l2_ λ_ _=>rfl
 obtain⟨_,F36⟩:=l36
 obtain⟨_,_,_,_,_,_,_,_,_,rfl,_,_⟩:=F36.ex
 have b36:=F36.binds (ps:=["_law_script"]) λ_ _ _ _ _ _=>l1_ λ_=>rfl
 let KL:List (Addr×List (Key×V)):=[]
 have hkd:KD1 l.prog w K (kdL KL (zpM mg)):=ztk λp m=>by
  exact absurd (show p ∈ ([]:List (Addr×List (Key×V)))from m) zyZ
 have T:Txt K (kdL KL (zpM mg)) mg ⟨_,_,_,_,_,_,_,_,_,_,_,_,_,_,_,_,_,_,_,_,_,_,_,_,_,_,_,_,_,_,_,_,_,_,_,_,_,_,_,_,_,_,_,_,_,_,_,_,_,_,_,_,_,_,_,_,_,_,_,_,_,_,_,_,_,_,_,_,_,_,_,_,_,_,_⟩:=⟨F0,b0,PySem.W.mg_of X G a0,F1,b1,PySem.W.mg_of X G a1,F2,b2,PySem.W.mg_of X G a2,F3,b3,PySem.W.mg_of X G a3,F4,b4,PySem.W.mg_of X G a4,F5,b5,PySem.W.mg_of X G a5,F6,b6,PySem.W.mg_of X G a6,F7,b7,PySem.W.mg_of X G a7,F8,b8,PySem.W.mg_of X G a8,F9,b9,PySem.W.mg_of X G a9,F10,b10,PySem.W.mg_of X G a10,F11,b11,PySem.W.mg_of X G a11,F12,b12,PySem.W.mg_of X G a12,F13,b13,PySem.W.mg_of X G a13,F14,b14,PySem.W.mg_of X G a14,F15,b15,PySem.W.mg_of X G a15,F16,b16,PySem.W.mg_of X G a16,F17,b17,PySem.W.mg_of X G a17,F18,b18,PySem.W.mg_of X G a18,F19,b19,PySem.W.mg_of X G a19,F20,b20,PySem.W.mg_of X G a20,F21,b21,PySem.W.mg_of X G a21,F22,b22,PySem.W.mg_of X G a22,F23,b23,F24,b24,F25,b25,F26,b26,PySem.W.mg_of X G a26,F27,b27,F28,b28,F29,b29,F30,b30,PySem.W.mg_of X G a30,F31,b31,F32,b32,F33,b33,F34,b34,PySem.W.mg_of X G a34,F35,b35,F36,b36,PySem.W.mg_of X G a36,⟨zpN (PySem.W.mg_of X G aC0),⟨pg0,hd0,po0,sa0⟩,mk0,kc0,PySem.W.mg_of X G aC0⟩,⟨e0,ei0,ek0⟩,⟨e1,ei1,ek1⟩,⟨e2,ei2,ek2⟩,⟨e3,ei3,ek3⟩,⟨e4,ei4,ek4⟩,⟨e5,ei5,ek5⟩,⟨e6,ei6,ek6⟩,⟨e7,ei7,ek7⟩,⟨e8,ei8,ek8⟩,⟨e9,ei9,ek9⟩,na0,na1,na2,na3,na4,na5,PySem.W.mg_none_of X G z0,PySem.W.mg_none_of X G z1,PySem.W.mg_none_of X G z2,PySem.W.mg_none_of X G z3,PySem.W.mg_none_of X G z4,PySem.W.mg_none_of X G z5,PySem.W.mg_none_of X G z6,PySem.W.mg_none_of X G z7,PySem.W.mg_none_of X G z8,PySem.W.mg_none_of X G z9,PySem.W.mg_none_of X G z10⟩
 exact⟨_,λs v=>.of_eq rfl,λbase _ _=>(o_law T hkd).imp λvs H Q E h=>h _⟩
theorem walk{l:PySem.W.OpenLaw}{q:Program}{loose:List Str}{XP:(Str->Option Value)->Heap->Prop}{YP:World->Heap->Prop}{d:DefRec}{K:Params->zC}(hn:l.most=some 63)(hdf:d.params.defaults=[])
 (hY:∀(w:World) (h:Heap),YP w h->(K w.params).In h) (hm:∀ns:List Int,ns.length<=63->zgi [(true,.lst (ns.map D.int))]=some (.lf true (.bl true)))
 (F:∀(w:World) (mg:Str->Option Value) (fa:Addr) (h:Heap),(K w.params).In h->h.Ns mainGlobals mg->mg d.name=some (.ref fa)->
  ∃fd:FuncData,(∀(s:Shared) (u:Value),BindsTo s fd ⟨[u],[]⟩ [("_law_script",u)])/\∀base:Heap,(K w.params).In base->base.Ns mainGlobals mg->FnOk l.prog w (K w.params) mg base CX0 7 fa fd ["_law_script"] (spL (K w.params) zgi)):
 PySem.W.WalkO q loose XP YP l.row.toRowW d [] (λf vs=>PySem.call f vs):=
 L2.walk_of (n:=63) (k:=7) (x:="_law_script") (CX:=λ_=>CX0) (sp:=λw=>spL (K w.params) zgi) hn (by decide) hdf ⟨rfl,by decide,by decide,rfl⟩ hY F (λ_ _ a ns hl _ hS kd=>zsF (hm ns hl) hS) λ_ _ _ _ _ z=>z
open L2 (yO)
local macro_rules | `(tactic| trivial)=>`(tactic| first|with_reducible first|assumption|exact Int.natCast_nonneg _|exact Nat.le_refl _|exact Int.le_refl _|exact rfl|exact leN (by assumption)|exact np1 (by assumption)|exact np2 (by assumption)|exact nq1 (by assumption)|exact nq2 (by assumption)|exact Int.natCast_pos.mpr (by assumption)|exact Nat.le_trans (by assumption) (by decide)|exact bgL _|exact bgU (by assumption)|exact mU (by assumption)|exact zI _|exact bL0 (by assumption)|exact bU0 (by assumption) (by assumption)|exact iL (by assumption)|exact iU (by assumption) (by assumption)|exact iC (by assumption)|exact iT (by assumption)|exact stL (by assumption)|exact stU (by assumption)|exact lnK (by assumption) (by assumption) (by assumption)|exact zi1 _|exact lnE (by assumption)|exact ltL (by assumption)|exact Int.toNat_of_nonneg (by assumption)|exact tS (by assumption) (by assumption)|exact b6 (by assumption)|exact Int.emod_nonneg _ (by decide)|exact Int.emod_lt_of_pos _ (by decide)|decide|omega)
def mx(c k:Int):Int:=((c%2147483647*48271+k*k*69621+7919)%2147483647*((c%2147483647*48271+k*k*69621+7919)%2147483647)+16807*((c%2147483647*48271+k*k*69621+7919)%2147483647)+k)%2147483629
abbrev St(x:Int):Prop:=0<=x/\x<2147483647
theorem ztE(c k:Int):St (mx c k):=⟨zyK _ (by decide),Int.lt_trans (zyE _ (by decide)) (by decide)⟩
theorem zjA{c k:Int}{s t:Bool}(k0:0<=k)(k1:k<=1000):xu [(s,.int c),(t,.int k)]=sI (mx c k):=by
 have c0:=zyK c (show(2147483647:Int)≠0 by decide)
 have c1:=zyE c (show(0:Int)<2147483647 by decide)
 have kk0:0<=k*k:=Int.mul_nonneg k0 k0
 have kk1:k*k<=1000*1000:=Int.mul_le_mul k1 k1 k0 (by decide)
 have u0:=zyK (c%2147483647*48271+k*k*69621+7919) (show(2147483647:Int)≠0 by decide)
 have u1:=zyE (c%2147483647*48271+k*k*69621+7919) (show(0:Int)<2147483647 by decide)
 have bk:k.natAbs<big:=zV (by omega) (by omega)
 have bu:((c%2147483647*48271+k*k*69621+7919)%2147483647).natAbs<big:=zV (by omega) (by omega)
 exact Ws rfl (yh (yF (i:=2) (yt (xf (xf (wG (yt (zb (i:=0) rfl) zf (by decide)) zf (zV (by omega) (by omega)) (zV (by decide) (by decide))) (wG (wG (zb (i:=1) rfl) (zb (i:=1) rfl) bk bk) zf (zV (by omega) (by omega)) (zV (by decide) (by decide)))) zf) zf (by decide)) (zF rfl))
  (Yp (yt (xf (xf (wG (zb (i:=2) rfl) (zb (i:=2) rfl) bu bu) (wG zf (zb (i:=2) rfl) (zV (by decide) (by decide)) bu)) (zb (i:=1) rfl)) zf (by decide))))
theorem zeO{ns:List Int}{k:Int}{s t:Bool}(hk:0<=k):∃x,yj [(s,.lst (ns.map .int)),(t,.int k)]=sT (.int x):=by
 by_cases h:k<((ns.map D.int).length:Int)
 · obtain⟨x,hx⟩:=zpd (ns:=ns) hk (by rw[zD]at h;exact h)
   exact⟨x,Ws rfl (zcp (Yo (Zg (zqW (zb rfl) (Z4 (zG (zb rfl) zX) rfl rfl)) (congrArg some (zyL h))) (Yp (yp (zb rfl) (zb rfl) hx rfl))))⟩
 · exact⟨0,Ws rfl (yh (xq (Zg (zqW (zb rfl) (Z4 (zG (zb rfl) zX) rfl rfl)) (congrArg some (zyD h))) rfl) (Yp zf))⟩
theorem zmY{s:Bool}{x:Int}:ye [(s,.int x)]=sT (.bl true):=
 Ws rfl (Yp (zdr (k:=true) (zhP (zb rfl) rfl) (λ_=>znW (q:=false) (zhP (zb rfl) rfl)) (λh=>nomatch h)))
theorem zlQ{c:Int}{m:Nat}(h1:m<=900):∃xs:List Int,xs.length=m/\(∀x ∈ xs,St x)/\RE (yU [(true,.int c),(true,.int m)]) (yH xs):=by
 obtain⟨as',hf,ys,r,e4,rfl,hl,hy⟩:=vN (g:=gN 4) (f:=sIf (fT (f2 (f2 (fV 0) (fC (.int 2)) (zm .Mod)) (fC (.int 0)) (zO .Eq))) (zB (vI (ZC 2 (dC (f2 (fV 3) (fC (.int 1000000007)) (zm .Mod)) dN) Z2)) (zH true 3 (f2 (fV 3) (fC (.int 1000000007)) (zm .FloorDiv)))) (vI (ZC 2 (dC (zE (aC (fV 3) (aC (fV 4) aN)) xu) dN) Z2)))
  (λi as=>∃(ys:List Int) (r:Int) (e4:Option O),as=[sI c,sI m,sN (ys.map lfI),sI r,e4]/\ys.length=i/\∀y ∈ ys,St y)
  (xY 0 m) 0 [sI c,sI m,sN [],sI (c/2),none] (λi x as hx hI=>by
   obtain⟨ys,r,e4,rfl,hl,hy⟩:=hI
   obtain⟨rfl,hi⟩:=vd hx
   have tt:WT (fT (f2 (f2 (fV 0) (fC (.int 2)) (zm .Mod)) (fC (.int 0)) (zO .Eq))) [sI c,sI m,sN (ys.map lfI),sI r,sI (0+i)] (c%2==0):=Zg (zcv (c:=c%2==0) (yt (zb (i:=0) rfl) zf (by decide)) zf rfl) rfl
   refine⟨[sI c,sI m,sN (ys.map lfI),sI r,sI (0+i)],rfl, ?_⟩
   have fin:∀w,St w->(ys++[w]).length=0+i+1/\∀y ∈ ys++[w],St y:=λw hw=>⟨by rw[zzG,hl];rfl,λy m=>(zzJ.mp m).elim (hy y) λm=>by rw[zzO.mp m];exact hw⟩
   cases hb:(c%2==0)with
   |true=>
    rw[hb]at tt
    have w0:=zyK r (show(1000000007:Int)≠0 by decide)
    have w1:=zyE r (show(0:Int)<1000000007 by decide)
    have ap:=zjL (i:=2) (as:=[sI c,sI m,sN (ys.map lfI),sI r,sI (0+i)]) rfl (by rw[zD];exact yO (by omega)) (yt (zb (i:=3) rfl) (zf (x:=.int 1000000007)) (by decide))
    rw[<-zbS]at ap
    exact⟨_,Yo tt (yh ap (yF (i:=3) (wg (zb (i:=3) rfl) zf (by decide) (zV (by decide) (by decide))) (zF rfl))),ys++[r%1000000007],_,_,rfl,fin _ ⟨w0,by omega⟩⟩
   |false=>
    rw[hb]at tt
    have ap:=zjL (i:=2) (as:=[sI c,sI m,sN (ys.map lfI),sI r,sI (0+i)]) rfl (by rw[zD];exact yO (by omega)) (Xr (zG (zb (i:=3) rfl) (zG (zb (i:=4) rfl) zX)) (zjA (c:=r) (k:=0+i) (by omega) (by omega)))
    rw[<-zbS]at ap
    exact⟨_,xq tt ap,ys++[mx r (0+i)],_,_,rfl,fin _ (ztE _ _)⟩)
  ⟨[],c/2,none,rfl,rfl,λ_ m=>nomatch m⟩
 rw[yZ]at hl
 refine⟨ys,by omega,hy,xO rfl (zR (wO (i:=2) (X5 yK (szl rfl)) (zF rfl)) (zR (yF (i:=3) (wg (zb (i:=0) rfl) zf (by decide) (zV (by decide) (by decide))) (zF rfl)) (zR (vY (vq (zG (zb (i:=1) rfl) zX) (by omega) (by omega)) hf) ⟨_,zlv (i:=2) rfl (wW ys).2.1,(zah ys).1,(zah ys).2⟩)))⟩
theorem stE{a b:EF}{as:AS}{c:Int}{m:Nat}(hm:m<=900)(ha:WE a as (.int c))(hb:WE b as (.int m)):∃xs:List Int,xs.length=m/\(∀x ∈ xs,St x)/\WE (zE (aC a (aC b aN)) yU) as (yH xs):=by
 obtain⟨xs,h1,h2,h3⟩:=zlQ (c:=c) (m:=m) hm
 exact⟨xs,h1,h2,zcz ha hb h3⟩
theorem at2{xs:List Int}(h:∀x ∈ xs,St x){k:Int}(h0:0<=k)(h1:k<xs.length):∃x,ixP (yH xs) (.int k)=some (.im (.int x))/\St x:=zsX h0 h1 h
theorem zlO{n m:Nat}(hn:0<n)(hn2:n<=8)(hm:m<=8):∃g:Int,0<g/\g<1000/\g ∣ (n:Int)/\g ∣ (m:Int)/\vh [(true,.int n),(true,.int m)]=sI g:=by
 obtain⟨g,e,g0,g1,d1,d2,hg⟩:=zkq m n 10000 (by trivial) (by trivial) (by trivial) (by trivial)
 exact⟨g,g0,g1,d1,d2,Ws rfl (yh hg (Yp (zb rfl)))⟩
theorem eqT{a b:EF}{as:AS}{x y:Int}{s t q:Bool}(ha:WD a as s (.int x))(hb:WD b as t (.int y))(e:(x==y)=q):WT (fT (f2 a b (zO .Eq))) as q:=Zg (zcv (c:=q) ha hb (congrArg some e)) rfl
theorem zbU{k:Int}{n:Nat}{a b:Int}(h:KN k n)(ha:InR n a)(hb:InR n b):zQ [(true,.int k),(true,.int n),(true,.int a),(true,.int b)]=sI (jK k n a b):=by
 rcases h with⟨rfl,hn⟩|⟨rfl,hn⟩|⟨rfl,hn⟩|⟨rfl,rfl⟩
 · exact Ws rfl (zcp (Yo (eqT (zb (i:=0) rfl) zf rfl) (Yp (yt (xf (zb (i:=2) rfl) (zb (i:=3) rfl)) (zb (i:=1) rfl) (by omega)))))
 · exact Ws rfl (yh (xq (eqT (zb (i:=0) rfl) zf rfl) rfl) (zcp (Yo (eqT (zb (i:=0) rfl) zf rfl) (Yp (Z4 (zG (zb (i:=2) rfl) (zG (zb (i:=3) rfl) zX)) rfl rfl)))))
 · exact Ws rfl (yh (xq (eqT (zb (i:=0) rfl) zf rfl) rfl) (yh (xq (eqT (zb (i:=0) rfl) zf rfl) rfl) (zcp (Yo (eqT (zb (i:=0) rfl) zf rfl) (Yp (f2E (Zm (os:=[lfI b,lfI a]) (zT (zb (i:=3) rfl) (zT (zb (i:=2) rfl) yK)) (szl rfl) rfl rfl) (WD.e (Z4 (zG (zcv (zb (i:=3) rfl) zf rfl) zX) rfl rfl)) (zmI.trans (by show _=some (R0.im (.int (jL a b)));unfold jL;by_cases h:b=0<;>simp[h]))))))))
 · have P:∀a ∈ ([0,1,2,3]:List Int),∀b ∈ ([0,1,2,3]:List Int),zQ [(true,.int 3),(true,.int (4:Nat)),(true,.int a),(true,.int b)]=sI (jK 3 4 a b):=by
    intro a ma b mb
    simp only[zS,zyZ,or_false]at ma mb
    rcases ma with rfl|rfl|rfl|rfl<;>rcases mb with rfl|rfl|rfl|rfl<;>rfl
   exact f4 (P:=λa=>zQ [(true,.int 3),(true,.int (4:Nat)),(true,.int a),(true,.int b)]=sI (jK 3 4 a b)) (λa m=>f4 (P:=λb=>zQ [(true,.int 3),(true,.int (4:Nat)),(true,.int a),(true,.int b)]=sI (jK 3 4 a b)) (P a m) hb) ha
open L2 (yO)
abbrev imB:SF:=(zB (zH true 2 (f2 (fV 2) (fV 1) (zm .FloorDiv)))
 (vI (ZC 3 (dC (f2 (wD (dC (f2 (fV 2) (fV 1) (zm .Mod)) (dC (f2 (fC (.int 1)) (f2 (fV 2) (f2 (fV 1) (fC (.int 1)) (zm .Sub)) (zm .Mod)) (zm .Add)) dN))) (f2 (fV 0) (fC (.int 1)) (zm .Sub)) ixP) dN) Z2)))
theorem znA{k x:Int}{n:Nat}(hk:k=1\/k=2)(hn:1<=n)(hn2:n<=8):∃(ys:List Int) (z:Int) (e4:Option O),ys.length=n-1/\(∀y ∈ ys,InR n y/\(k=2->1<=y))/\forL (gN 4) imB (xY 1 (n-1)) [sI k,sI n,sI x,sN [],none]=some (.nx [sI k,sI n,sI z,sN (ys.map lfI),e4]):=by
 obtain⟨as',hf,ys,z,e4,rfl,hl,hy⟩:=vN (g:=gN 4) (f:=imB)
  (λi as=>∃(ys:List Int) (z:Int) (e4:Option O),as=[sI k,sI n,sI z,sN (ys.map lfI),e4]/\ys.length=i/\∀y ∈ ys,InR n y/\(k=2->1<=y))
  (xY 1 (n-1)) 0 [sI k,sI n,sI x,sN [],none] (λi y as hx hI=>by
   obtain⟨ys,z,e4,rfl,hl,hy⟩:=hI
   obtain⟨rfl,hi⟩:=vd hx
   have m0:=zyK (z/n) (show(n:Int)≠0 by omega)
   have m1:=zyE (z/n) (show(0:Int)<n by omega)
   have q0:=zyK (z/n) (show(n:Int)-1≠0 by omega)
   have q1:=zyE (z/n) (show(0:Int)<(n:Int)-1 by omega)
   have hp:ixP (.lst [.int (z/n%n),.int (1+z/n%(n-1))]) (.int (k-1))=some (.im (.int (if k=1 then z/n%n else 1+z/n%(n-1)))):=by rcases hk with rfl|rfl<;>rfl
   have ap:=zjL (i:=3) (as:=[sI k,sI n,sI (z/n),sN (ys.map lfI),sI (1+i)]) rfl (by rw[zD];exact yO (by omega)) (f2E (Zm (os:=[lfI (z/n%n),lfI (1+z/n%(n-1))]) (zT (yt (zb (i:=2) rfl) (zb (i:=1) rfl) (by omega)) (zT (xf zf (yt (zb (i:=2) rfl) (zcR (zb (i:=1) rfl) zf) (by omega))) yK)) (szl rfl) rfl rfl) (WD.e (zcR (zb (i:=0) rfl) zf)) hp)
   rw[<-zbS]at ap
   refine⟨_,rfl,_,yh (yF (i:=2) (wg (zb (i:=2) rfl) (zb (i:=1) rfl) (by omega) (zV (by omega) (by omega))) (zF rfl)) ap,_,_,_,rfl,by rw[zzG,hl];rfl,λy m=>(zzJ.mp m).elim (hy y) λm=>?_⟩
   rw[zzO.mp m]
   rcases hk with rfl|rfl
   · rw[if_pos rfl];exact⟨⟨m0,m1⟩,λh=>nomatch h⟩
   · rw[if_neg (by decide)];exact⟨⟨by omega,by omega⟩,λ_=>by omega⟩)
  ⟨[],x,none,rfl,rfl,λ_ m=>nomatch m⟩
 rw[yZ]at hl
 exact⟨ys,z,e4,by omega,hy,hf⟩
theorem zmp{k x:Int}{n m:Nat}(h:KN k n)(h0:k≠0)(hn2:n<=8)(hm:0<m):∃r,Row n r/\LD n m (jK k n) (eK k) (λ_ a=>rAt r a)/\RE (Zx [(true,.int k),(true,.int n),(true,.int x)]) (yH r):=by
 have n1:=h.n1
 rcases h with⟨rfl,hn⟩|⟨rfl,hn⟩|⟨rfl,hn⟩|⟨rfl,rfl⟩
 · exact absurd rfl h0
 · obtain⟨ys,z,e4,l1,l2,hf⟩:=znA (k:=1) (x:=x) (n:=n) (.inl rfl) hn hn2
   have hp:=sortI_perm ys
   have hlen:(sortI ys).length=n-1:=by rw[hp.length_eq,l1]
   have hr:Row n (0::sortI ys):=⟨by rw[zzQ,hlen];omega,λy m=>by
    rcases zS.mp m with rfl|m
    · omega
    · exact(l2 y (hp.mem_iff.mp m)).1⟩
   have s3:=wO (i:=3) (as:=[sI 1,sI n,sI z,sN (ys.map lfI),e4]) (zrV (i:=3) (g:=zmS) (zs:=(sortI ys).map D.int) rfl (by
    show(Vy (ys.map D.int)).bind _=_
    rw[zjl]
    show(if ys.length<64 then _ else _)=_
    rw[if_pos (by omega)])) (zF rfl)
   rw[zlj]at s3
   refine⟨_,hr,ldM hm rfl (λa ha=>(rowAt hr ha).2) λa b ha hb hab=>?_,xO rfl (zR (xq (eqT (zb (i:=0) rfl) zf rfl) rfl) (zR (wO (i:=3) (X5 yK (szl rfl)) (zF rfl)) (zR (vY (ziI (i:=1) (j:=n) (zG zf (zG (zb (i:=1) rfl) zX)) (by omega) (by omega) (by omega) (by omega)) (by rw[show((n:Int)-1).toNat=n-1 by omega];exact hf)) (zR (Yo (eqT (zb (i:=0) rfl) zf rfl) s3) (yX (zqT (i:=3) (xs:=sortI ys) (ds:=[.int 0]) (Zm (os:=[lfI 0]) (zT zf yK) (szl rfl) rfl rfl) rfl (by rw[hlen];show 1+_<=_;omega)))))))⟩
   by_cases he:a=b
   · rw[he];exact Int.le_refl _
   have a0:=ha.1
   have b1:=hb.2
   have hs:(0::sortI ys).Pairwise (· <= ·):=List.pairwise_cons.mpr ⟨λy m=>(l2 y (hp.mem_iff.mp m)).1.1,Va ys⟩
   rw[YJ (by rw[hr.1];omega),YJ (by rw[hr.1];omega)]
   exact zlJ hs (by omega) (by rw[hr.1];omega)
 · obtain⟨ys,z,e4,l1,l2,hf⟩:=znA (k:=2) (x:=x) (n:=n) (.inr rfl) hn hn2
   have hr:Row n (0::ys):=⟨by rw[zzQ,l1];omega,λy m=>by
    rcases zS.mp m with rfl|m
    · omega
    · exact(l2 y m).1⟩
   refine⟨_,hr,ldL rfl (λa ha=>(rowAt hr ha).2) λa ha ha0=>?_,xO rfl (zR (xq (eqT (zb (i:=0) rfl) zf rfl) rfl) (zR (wO (i:=3) (X5 yK (szl rfl)) (zF rfl)) (zR (vY (ziI (i:=1) (j:=n) (zG zf (zG (zb (i:=1) rfl) zX)) (by omega) (by omega) (by omega) (by omega)) (by rw[show((n:Int)-1).toNat=n-1 by omega];exact hf)) (zR (xq (eqT (zb (i:=0) rfl) zf rfl) rfl) (yX (zqT (i:=3) (xs:=ys) (ds:=[.int 0]) (Zm (os:=[lfI 0]) (zT zf yK) (szl rfl) rfl rfl) rfl (by rw[l1];show 1+_<=_;omega)))))))⟩
   have a0:=ha.1
   have a1:=ha.2
   have hk:a.toNat<(0::ys).length:=by rw[hr.1];omega
   rw[YJ hk]
   obtain⟨j,ek⟩:∃j,a.toNat=j+1:=⟨a.toNat-1,by omega⟩
   have:(0::ys)[a.toNat]=ys[j]'(by rw[zzQ]at hk;omega):=by simp only[ek,List.getElem_cons_succ]
   rw[this]
   have:=(l2 _ (zyX (show j<ys.length by rw[zzQ]at hk;omega))).2 rfl
   omega
 · obtain⟨r,r1,r2⟩:=zkJ (f:=λa=>if x%2=0 then a else sP a) (N:=4) (n:=4) (u:=true) (as:=[sI 3,sI (4:Nat),sI x,none,none]) (cap:=[none,some 2]) (fr:=aC (fV 1) aN) (fe:=f2 (wD (dC (fV 0) (dC (f2 (f2 (f2 (fC (.int 2)) (f2 (fC (.int 1)) (f2 (fV 0) (fC (.int 2)) (zm .Mod)) (zm .Sub)) (zm .Mult)) (fC (.int 1)) (zm .Add)) (f2 (fV 0) (fC (.int 2)) (zm .FloorDiv)) (zm .Sub)) dN))) (f2 (fV 1) (fC (.int 2)) (zm .Mod)) ixP) (zG (zb rfl) zX) (by omega) λb hb=>by
    have b0:=hb.1
    have b1:=hb.2
    refine⟨[sI b,sI x],rfl,zaz (Zm (os:=[lfI b,lfI (2*(1-b%2)+1-b/2)]) (zT (zb (i:=0) rfl) (zT (zcR (xf (wG zf (zcR zf (yt (zb (i:=0) rfl) zf (by decide))) (zV (by decide) (by decide)) (zV (by omega) (by omega))) zf) (wg (zb (i:=0) rfl) zf (by decide) (zV (by decide) (by decide)))) yK)) (szl rfl) rfl rfl) (WD.e (yt (zb (i:=1) rfl) zf (by decide))) zlZ, ?_⟩
    show InR 4 (if x%2=0 then b else sP b)
    split
    · exact hb
    · exact f4 (P:=λa=>InR 4 (sP a)) (by decide) hb
   refine⟨r,⟨r1.1,r1.2.1⟩,ldP ?_,xO rfl (zle (znL (eqT (zb (i:=0) rfl) zf rfl) (yX r2)))⟩
   by_cases hx:x%2=0
   · exact .inl λa ha=>(r1.2.2 a ha).trans (if_pos hx)
   · exact .inr λa ha=>(r1.2.2 a ha).trans (if_neg hx)
theorem zfs{k x:Int}{n m:Nat}(h:KN k n)(hn2:n<=8)(hm0:0<m)(hm:m<=8)(hx:St x):∃T,Tab m n T/\LD n m (jK k n) (eK k) (jAt T)/\RE (yV [(true,.int k),(true,.int n),(true,.int m),(true,.int x)]) (yg T):=by
 have n1:=h.n1
 have hJ:=ljK h
 by_cases h0:k=0
 · subst h0
   obtain⟨g,g0,g1,gn,gm,hg⟩:=zlO (n:=n) (m:=m) n1 hn2 hm
   have q0:0<=(n:Int)/g:=Int.ediv_nonneg (by omega) (by omega)
   have q1:(n:Int)/g<=n:=Int.ediv_le_self _ (by omega)
   have hLD:=ldS (x0:=x%8) (x1:=x/8%8) n1 hm0 g0 gn gm
   have hd:WD (f2 (fV 1) (zE (aC (fV 1) (aC (fV 2) aN)) vh) (zm .FloorDiv)) [sI 0,sI n,sI m,sI x,none,none] true (.int ((n:Int)/g)):=wg (zb (i:=1) rfl) (Xr (zG (zb (i:=1) rfl) (zG (zb (i:=2) rfl) zX)) hg) g0 (zV (by omega) (by omega))
   generalize (n:Int)/g=q at q0 q1 hLD hd
   have y0:=zyK (x/8) (show(8:Int)≠0 by decide)
   have y1:=zyE (x/8) (show(0:Int)<8 by decide)
   have z0:=zyK x (show(8:Int)≠0 by decide)
   have z1:=zyE x (show(0:Int)<8 by decide)
   have s5:=yF (st:=true) (i:=5) (as:=[sI 0,sI n,sI m,sI x,none,none]) (wG hd (yt (wg (zb (i:=3) rfl) (zf (x:=.int 8)) (by decide) (zV (by decide) (by decide))) (zf (x:=.int 8)) (by decide)) (zV (by omega) (by omega)) (zV (by omega) (by omega))) (zF rfl)
   have st0:0<=q*(x/8%8):=Int.mul_nonneg q0 y0
   have st1:q*(x/8%8)<=8*8:=Int.mul_le_mul (by omega) (by omega) y0 (by decide)
   obtain⟨T,t1,t2⟩:=zld (f:=λc a=>(x%8*a+q*(x/8%8)*c)%n) (n:=n) (k:=m) (u:=true) (as:=[sI 0,sI n,sI m,sI x,none,sI (q*(x/8%8))]) (cap:=[none,some 1,some 5,some 3]) (fr:=aC (fV 2) aN)
    (fe:=zY (yM (aC (fV 1) aN) yP) [none,some 1,some 2,some 0,some 3] (gN 0) yL (f2 (f2 (f2 (f2 (fV 4) (fC (.int 8)) (zm .Mod)) (fV 0) (zm .Mult)) (f2 (fV 2) (fV 3) (zm .Mult)) (zm .Add)) (fV 1) (zm .Mod))) (zG (zb rfl) zX) (by omega) λc hc=>by
     have c0:=hc.1
     have c1:=hc.2
     obtain⟨r,r1,r2⟩:=zkJ (f:=λa=>(x%8*a+q*(x/8%8)*c)%n) (N:=n) (n:=n) (u:=true) (as:=[sI c,sI n,sI (q*(x/8%8)),sI x]) (cap:=[none,some 1,some 2,some 0,some 3]) (fr:=aC (fV 1) aN) (fe:=f2 (f2 (f2 (f2 (fV 4) (fC (.int 8)) (zm .Mod)) (fV 0) (zm .Mult)) (f2 (fV 2) (fV 3) (zm .Mult)) (zm .Add)) (fV 1) (zm .Mod)) (zG (zb rfl) zX) (by omega) λb hb=>by
      have b0:=hb.1
      have b1:=hb.2
      exact⟨[sI b,sI n,sI (q*(x/8%8)),sI c,sI x],rfl,WD.e (yt (xf (wG (yt (zb (i:=4) rfl) zf (by decide)) (zb (i:=0) rfl) (zV (by omega) (by omega)) (zV (by omega) (by omega))) (wG (zb (i:=2) rfl) (zb (i:=3) rfl) (zV (by omega) (by omega)) (zV (by omega) (by omega)))) (zb (i:=1) rfl) (by omega)),zgu n1⟩
     exact⟨[sI c,sI n,sI (q*(x/8%8)),sI x],r,rfl,r2,r1⟩
   refine⟨T,t1.1,hLD.congr hm0 (ljS n1) (λ_ _ _ _=>rfl) (λc a hc ha=>?_),xO rfl (zR (xq (Zg (zgP (zb (i:=0) rfl) zf) rfl) rfl) (zR s5 (yX t2)))⟩
   rw[t1.2 c a hc ha]
   show(x%8*a+q*(x/8%8)*c)%(n:Int)=(a*(x%8)+c*q*(x/8%8))%(n:Int)
   rw[Int.mul_comm (x%8) a,Int.mul_comm (q*(x/8%8)) c,Int.mul_assoc c q]
 · have hk:0<k:=by rcases h with⟨rfl,_⟩|⟨rfl,_⟩|⟨rfl,_⟩|⟨rfl,_⟩<;>omega
   obtain⟨r,hr,hd,hi⟩:=zmp (x:=x) h h0 hn2 hm0
   obtain⟨T,t1,t2⟩:=copies (n:=n) (m:=m) (s:=true) (u:=true) (cap:=[none,some 4]) (as:=[sI k,sI n,sI m,sI x,sT (yH r),none]) (fr:=aC (fV 2) aN) hr hm (zG (zb rfl) zX) (λb=>⟨[sI b,sT (yH r)],rfl,zb rfl⟩)
   exact⟨T,t1.1,hd.congr hm0 hJ (λ_ _ _ _=>rfl) t1.2,xO rfl (zle (znL (Zg (zgP (zb (i:=0) rfl) zf) (congrArg some (zyL hk))) (zR (Wy (p:=4) (zeW (WD.e (zb (i:=0) rfl)) (WD.e (zb (i:=1) rfl)) (WD.e (zb (i:=3) rfl)) hi) (zF rfl)) (yX t2))))⟩
open L2 (yO)
theorem kinds_ok{x:Int}:∃(k:Int) (n:Nat) (k2:Int) (n2:Nat),KN k n/\KN k2 n2/\n*n2<=8/\eK k2=0/\RE (v9 [(true,.int x)]) (.tup [.int k,.int n,.int k2,.int n2]):=by
 have s1:zH true 1 (f2 (fV 0) (fC (.int 4)) (zm .Mod)) [sI x,none,none,none]=some (.nx [sI x,sI (x%4),none,none]):=yF (i:=1) (yt (zb (i:=0) rfl) zf (by decide)) (zF rfl)
 obtain⟨sz,z1,z8,s2⟩:∃sz:Int,1<=sz/\sz<=8/\zH true 2 (f2 (wD (dC (f2 (fC (.int 1)) (f2 (f2 (fV 0) (fC (.int 4)) (zm .FloorDiv)) (fC (.int 5)) (zm .Mod)) (zm .Add)) (dC (f2 (fC (.int 1)) (f2 (f2 (fV 0) (fC (.int 4)) (zm .FloorDiv)) (fC (.int 8)) (zm .Mod)) (zm .Add)) dN))) (fP (aC (f2 (f2 (f2 (fV 0) (fC (.int 40)) (zm .FloorDiv)) (fC (.int 4)) (zm .Mod)) (fC (.int 1)) (zO .Eq)) aN) Wv) ixP) [sI x,sI (x%4),none,none]=some (.nx [sI x,sI (x%4),sI sz,none]):=by
  have w5:=xf (as:=[sI x,sI (x%4),none,none]) (zf (x:=.int 1)) (yt (wg (zb (i:=0) rfl) (zf (x:=.int 4)) (by decide) (zV (by decide) (by decide))) (zf (x:=.int 5)) (by decide))
  have w8:=xf (as:=[sI x,sI (x%4),none,none]) (zf (x:=.int 1)) (yt (wg (zb (i:=0) rfl) (zf (x:=.int 4)) (by decide) (zV (by decide) (by decide))) (zf (x:=.int 8)) (by decide))
  refine⟨if(x/40%4==1)=true then 1+x/4%8 else 1+x/4%5,by split<;>omega,by split<;>omega,yF (i:=2) (f2E (Zm (os:=[lfI (1+x/4%5),lfI (1+x/4%8)]) (zT w5 (zT w8 yK)) (szl rfl) rfl rfl) (WD.e (Z4 (zG (zcv (c:=x/40%4==1) (yt (wg (zb (i:=0) rfl) (zf (x:=.int 40)) (by decide) (zV (by decide) (by decide))) (zf (x:=.int 4)) (by decide)) (zf (x:=.int 1)) rfl) zX) rfl rfl)) zmI) (zF rfl)⟩
 obtain⟨n,hk,n8,s3⟩:∃n:Nat,KN (x%4) n/\n<=8/\sIf (fT (f2 (fV 1) (fC (.int 3)) (zO .Eq))) (zH true 2 (fC (.int 4))) sNx [sI x,sI (x%4),sI sz,none]=some (.nx [sI x,sI (x%4),sI n,none]):=by
  by_cases h3:x%4=3
  · exact⟨4,by rw[h3];exact .inr (.inr (.inr ⟨rfl,rfl⟩)),by decide,Yo (eqT (zb (i:=1) rfl) zf (by simp[h3])) (yF (i:=2) zf (zF rfl))⟩
  · refine⟨sz.toNat, ?_,by omega,(xq (eqT (zb (i:=1) rfl) zf (by simp[h3])) rfl).trans (by rw[show((sz.toNat:Nat):Int)=sz by omega];rfl)⟩
    rcases(show x%4=0\/x%4=1\/x%4=2 by omega)with h|h|h<;>rw[h]
    · exact .inl ⟨rfl,by omega⟩
    · exact .inr (.inl ⟨rfl,by omega⟩)
    · exact .inr (.inr (.inl ⟨rfl,by omega⟩))
 have s4:zH true 3 (f2 (fC (.int 1)) (f2 (f2 (fV 0) (fC (.int 160)) (zm .FloorDiv)) (fC (.int 3)) (zm .Mod)) (zm .Add)) [sI x,sI (x%4),sI n,none]=some (.nx [sI x,sI (x%4),sI n,sI (1+x/160%3)]):=yF (i:=3) (xf zf (yt (wg (zb (i:=0) rfl) zf (by decide) (zV (by decide) (by decide))) zf (by decide))) (zF rfl)
 have n1:=hk.n1
 obtain⟨n2,p2,q2,s5⟩:∃n2:Nat,1<=n2/\n*n2<=8/\sIf (fT (f2 (f2 (fV 2) (fV 3) (zm .Mult)) (fC (.int 8)) (zO .Gt))) (zH true 3 (fC (.int 1))) sNx [sI x,sI (x%4),sI n,sI (1+x/160%3)]=some (.nx [sI x,sI (x%4),sI n,sI n2]):=by
  have wm:=zgP (wG (as:=[sI x,sI (x%4),sI n,sI (1+x/160%3)]) (zb (i:=2) rfl) (zb (i:=3) rfl) (zV (i:=(n:Int)) (by omega) (by omega)) (zV (i:=1+x/160%3) (by omega) (by omega))) (zf (x:=.int 8))
  by_cases h:(8:Int)<(n:Int)*(1+x/160%3)
  · exact⟨1,by decide,by omega,Yo (Zg wm (congrArg some (zyL h))) (yF (i:=3) zf (zF rfl))⟩
  · have e:(((1+x/160%3).toNat:Nat):Int)=1+x/160%3:=by omega
    refine⟨(1+x/160%3).toNat,by omega, ?_,(xq (Zg wm (congrArg some (zyD h))) rfl).trans (by rw[e];rfl)⟩
    have:((n*(1+x/160%3).toNat:Nat):Int)<=8:=by rw[zzS,e];omega
    omega
 have w7:=yt (as:=[sI x,sI (x%4),sI n,sI n2]) (wg (zb (i:=0) rfl) (zf (x:=.int 480)) (by decide) (zV (by decide) (by decide))) (zf (x:=.int 3)) (by decide)
 refine⟨x%4,n,x/480%3,n2,hk, ?_,q2, ?_,xO rfl (zR s1 (zR s2 (zR s3 (zR s4 (zR s5 (yX (zuB (os:=[lfI (x%4),lfI n,lfI (x/480%3),lfI n2]) (zT (zb (i:=1) rfl) (zT (zb (i:=2) rfl) (zT w7 (zT (zb (i:=3) rfl) yK)))) (szl rfl) rfl rfl)))))))⟩
 · rcases(show x/480%3=0\/x/480%3=1\/x/480%3=2 by omega)with h|h|h<;>rw[h]
   · exact .inl ⟨rfl,by omega⟩
   · exact .inr (.inl ⟨rfl,by omega⟩)
   · exact .inr (.inr (.inl ⟨rfl,by omega⟩))
 · exact if_neg (by omega)
abbrev ch(c:Nat):Str:=⟨#[c]⟩
theorem zif:∀cs:List Nat,(Str.join "" (cs.map ch)).cps.toList=cs
 | []=>rfl
 | [x]=>rfl
 |x::y::r=>by
  show(ch x++""++Str.join "" ((y::r).map ch)).cps.toList=_
  rw[Str.cps_append,Str.cps_append,Array.toList_append,Array.toList_append,zif (y::r)]
  rfl
def lt(c:Int)(k:Nat)(at_:Int)(i:Nat):Nat:=97+((mx c i/64+(k:Int)*(if((i:Int)==at_)=true then 1 else 0))%26).toNat
def wd(c:Int)(n:Nat)(at_:Int)(k:Nat):Str:=Str.join "" (((List.range n).map (lt c k at_)).map ch)
theorem zsQ{c at_:Int}{n k j:Nat}(h0:0<=at_)(h1:at_<n)(hk:k<10)(hj:j<10)(h:wd c n at_ k=wd c n at_ j):k=j:=by
 have h:=congrArg (λs:Str=>s.cps.toList[at_.toNat]?) h
 simp only[wd,zif,zzF]at h
 rw[List.getElem?_range (by omega)]at h
 have h:some (lt c k at_ at_.toNat)=some (lt c j at_ at_.toNat):=h
 injection h with h
 unfold lt at h
 rw[show((at_.toNat:Nat):Int)=at_ by omega]at h
 simp only[beq_self_eq_true,if_true,Int.mul_one]at h
 omega
theorem zrg{c at_:Int}{n k:Nat}(hn:n<=8):(wd c n at_ k).length<=8:=by
 have e:=zif ((List.range n).map (lt c k at_))
 have e2:(wd c n at_ k).length=n:=by
  show(wd c n at_ k).cps.size=n
  rw[<-zyQ]
  unfold wd
  rw[e,zD,zyR]
 omega
theorem zov{c:Int}:∃ss:List Str,ss.length=10/\ss.Nodup/\(∀s ∈ ss,s.length<=8)/\RE (Zc [(true,.int c),(true,.int (10:Nat))]) (.lst (ss.map D.str)):=by
 have z0:=zyK c (show(8:Int)≠0 by decide)
 have z1:=zyE c (show(0:Int)<8 by decide)
 obtain⟨n,hn,hn1,hn8⟩:∃n:Nat,(n:Int)=1+c%8/\1<=n/\n<=8:=⟨(1+c%8).toNat,by omega,by omega,by omega⟩
 have t0:=zyK (c/8) (show(n:Int)≠0 by omega)
 have t1:=zyE (c/8) (show(0:Int)<n by omega)
 have s3:=yF (st:=true) (i:=3) (as:=[sI c,sI (10:Nat),sT (.str abc),none,none,none,none,none]) (xf (zf (x:=.int 1)) (yt (zb (i:=0) rfl) (zf (x:=.int 8)) (by decide))) (zF rfl)
 rw[<-hn]at s3
 have s4:=yF (st:=true) (i:=4) (as:=[sI c,sI (10:Nat),sT (.str abc),sI n,none,none,none,none]) (yt (wg (zb (i:=0) rfl) (zf (x:=.int 8)) (by decide) (zV (by decide) (by decide))) (zb (i:=3) (x:=.int n) (s:=true) rfl) (by omega)) (zF rfl)
 generalize hat:c/8%(n:Int)=at_ at t0 t1 s4
 obtain⟨as',hf,os,e6,e7,rfl,ho⟩:=vN (g:=gN 6) (f:=(zB (zH true 7 (zY (yM (aC (fV 3) aN) yP) [none,some 2,some 6,some 0,some 4] (gN 0) yL (f2 (fV 1) (f2 (f2 (f2 (zE (aC (fV 3) (aC (fV 0) aN)) xu) (fC (.int 64)) (zm .FloorDiv)) (f2 (fV 2) (fP (aC (f2 (fV 0) (fV 4) (zO .Eq)) aN) Wv) (zm .Mult)) (zm .Add)) (fC (.int 26)) (zm .Mod)) ixP)))
  (vI (ZC 5 (dC (zfO .str (fC (.str "")) (aC (fV 7) aN) zjd) dN) Z2))))
  (λi as=>∃(os:List O) (e6 e7:Option O),as=[sI c,sI (10:Nat),sT (.str abc),sI n,sI at_,sN os,e6,e7]/\Ows D.str (λ_=>True) os ((List.range i).map (wd c n at_)))
  (xY 0 10) 0 [sI c,sI (10:Nat),sT (.str abc),sI n,sI at_,sN [],none,none] (λi x as hx' hI=>by
   obtain⟨os,e6,e7,rfl,ho⟩:=hI
   obtain⟨rfl,hi⟩:=vd hx'
   rw[zyV]at ho
   rw[Int.zero_add]
   obtain⟨l,l1,l2,l3⟩:=zoX (λc=>D.str (ch c)) (Q:=λj a=>a=lt c i at_ j) (n:=n) (u:=true) (as:=[sI c,sI (10:Nat),sT (.str abc),sI n,sI at_,sN os,sI i,e7]) (cap:=[none,some 2,some 6,some 0,some 4]) (fr:=aC (fV 3) aN) (fe:=f2 (fV 1) (f2 (f2 (f2 (zE (aC (fV 3) (aC (fV 0) aN)) xu) (fC (.int 64)) (zm .FloorDiv)) (f2 (fV 2) (fP (aC (f2 (fV 0) (fV 4) (zO .Eq)) aN) Wv) (zm .Mult)) (zm .Add)) (fC (.int 26)) (zm .Mod)) ixP) (zG (zb rfl) zX) (by omega) λj hj=>by
    have q0:=zyK (mx c j/64+(i:Int)*(if((j:Int)==at_)=true then 1 else 0)) (show(26:Int)≠0 by decide)
    have q1:=zyE (mx c j/64+(i:Int)*(if((j:Int)==at_)=true then 1 else 0)) (show(0:Int)<26 by decide)
    refine⟨[sI j,sT (.str abc),sI i,sI c,sI at_],_,rfl,WD.e (yp (zb (i:=1) rfl) (yt (xf (wg (Xr (zG (zb (i:=3) rfl) (zG (zb (i:=0) rfl) zX)) (zjA (by omega) (by omega))) zf (by decide) (zV (by decide) (by decide))) (wG (zb (i:=2) rfl) (Z4 (x:=.int (if((j:Int)==at_)=true then 1 else 0)) (zG (zcv (c:=(j:Int)==at_) (zb (i:=0) rfl) (zb (i:=4) rfl) rfl) zX) rfl rfl) (zV (by omega) (by omega)) (by split<;>exact zV (by decide) (by decide)))) zf (by decide)) (ztd q0 q1) rfl),rfl⟩
   have el:l=(List.range n).map (lt c i at_):=by
    refine List.ext_getElem? λj=>?_
    rw[zzF]
    by_cases hj:j<n
    · rw[List.getElem?_range hj,zzB (by omega),l2 j _ (zzB (by omega))];rfl
    · rw[List.getElem?_eq_none (by omega),List.getElem?_eq_none (by rw[zyR];omega)];rfl
   have hm:WE (zfO .str (fC (.str "")) (aC (fV 7) aN) zjd) [sI c,sI (10:Nat),sT (.str abc),sI n,sI at_,sN os,sI i,sT (.lst (l.map λc=>D.str (ch c)))] (.str (wd c n at_ i)):=by
    refine WD.e (zqE zf rfl (zG (zb (i:=7) rfl) zX) ?_ rfl)
    have e1:l.map (λc=>D.str (ch c))=(l.map ch).map D.str:=by rw[zzY];rfl
    rw[e1]
    show(zdG ((l.map ch).map D.str)).bind _=_
    rw[zjC]
    show(if((l.map ch).map (·.length)).sum+(l.map ch).length*0<=16777216 then some (R0.im (.str (Txt.join "" (l.map ch))))else none)=_
    have e2:=zum (l.map ch) λs m=>by
     obtain⟨a,_,rfl⟩:=zxB.mp m
     rfl
    rw[if_pos (by rw[e2,zD];omega),zmD,el];rfl
   obtain⟨os',o1,o2⟩:=zvi (i:=5) (toD:=D.str) (Q:=λ_=>True) rfl ho (by rw[zD,zyR];omega) hm trivial
   refine⟨[sI c,sI (10:Nat),sT (.str abc),sI n,sI at_,sN os,sI i,e7],rfl,_,yh (Wy (p:=7) l3 (zF rfl)) o2,os',_,_,rfl, ?_⟩
   rw[show 0+i+1=i+1 by omega,List.range_succ,zyJ]
   exact o1)
  ⟨[],none,none,rfl,Ows.nil⟩
 rw[yZ,zyV]at ho
 refine⟨(List.range 10).map (wd c n at_),by rw[zD,zyR], ?_,λs ms=>?_,xO rfl (zR (yF (i:=2) zf (zF rfl)) (zR s3 (zR s4 (zR (wO (i:=5) (X5 yK (szl rfl)) (zF rfl)) (zR (vY (vq (zG (zb (i:=1) rfl) zX) (by decide) (by decide)) hf) (Ows.retB (i:=5) rfl ho))))))⟩
 · exact List.pairwise_map.mpr ((List.nodup_range (n:=10)).imp_of_mem λha hb hne he=>hne (zsQ t0 t1 (List.mem_range.mp ha) (List.mem_range.mp hb) he))
 · obtain⟨k,_,rfl⟩:=zxB.mp ms
   exact zrg hn8
open L2 (yO)
structure Par where
 c:Int
 h:Int
 w:Nat
 xs:List Int
 ys:List Int
 k:Int
 n:Nat
 k2:Int
 n2:Nat
 m:Nat
structure POk(P:Par):Prop where
 k1:KN P.k P.n
 k2:KN P.k2 P.n2
 n8:P.n*P.n2<=8
 e2:eK P.k2=0
 m1:1<=P.m
 m6:P.m<=6
 w4:P.w<=4
 xl:P.xs.length=1+2*P.w
 xS:∀x ∈ P.xs,St x
 yl:P.ys.length=13
 yS:∀x ∈ P.ys,St x
abbrev Par.N(P:Par):Nat:=P.n*P.n2
theorem POk.n1{P:Par}(h:POk P):1<=P.n:=h.k1.n1
theorem POk.p2{P:Par}(h:POk P):1<=P.n2:=h.k2.n1
theorem POk.a8{P:Par}(h:POk P):P.n<=8:=zzL (Nat.le_mul_of_pos_right _ h.p2) h.n8
theorem POk.b8{P:Par}(h:POk P):P.n2<=8:=zzL (Nat.le_mul_of_pos_left _ h.n1) h.n8
theorem POk.N1{P:Par}(h:POk P):1<=P.N:=Nat.mul_pos h.n1 h.p2
abbrev Z(P:Par)(e11 e12 e13 e14 e15 e16 e17 e18 e19 e20 e21 e22 e23 e24 e25 e26 e27:Option O):AS:=
 [sI P.c,sI P.h,sI P.w,sT (yH P.xs),sT (yH P.ys),sI P.k,sI P.n,sI P.k2,sI P.n2,sI P.m,sI P.N,e11,e12,e13,e14,e15,e16,e17,e18,e19,e20,e21,e22,e23,e24,e25,e26,e27]
def Rq(r:Option Out)(Q:D->Prop):Prop:=∃x,Rt r x/\Q x
theorem ZD{f g:SF}{as as1:AS}{Q:D->Prop}(h1:f as=some (.nx as1))(h2:Rq (g as1) Q):Rq (zB f g as) Q:=by
 obtain⟨x,h,q⟩:=h2
 exact⟨x,zR h1 h,q⟩
theorem ztm{f:SF}{as:AS}{i:Nat}{o:O}{Q:D->Prop}(h:as[i]? = some (some o))(k:Rq (f (as.set i (some o.frz))) Q):Rq (zmj i f as) Q:=by
 unfold zmj
 rw[h];exact k
theorem zpQ{c h:Int}{w:Nat}(hw:w<=4){f:SF}{Q:D->Prop}(K:∀P:Par,POk P->P.w=w->P.h=h->Rq (f (Z P none none none none none none none none none none none none none none none none none)) Q):
 Rq ((zB (zH true 3 (zE (aC (fV 0) (aC (f2 (fC (.int 1)) (f2 (fC (.int 2)) (fV 2) (zm .Mult)) (zm .Add)) aN)) yU))
 (zB (zH true 4 (zE (aC (fV 1) (aC (fC (.int 13)) aN)) yU))
 (zB (zfH (zE (aC (f2 (fV 3) (fC (.int 0)) ixP) aN) v9) (gT 4 (gsC (gN 5) (gsC (gN 6) (gsC (gN 7) (gsC (gN 8) gsN))))))
 (zB (zH true 9 (f2 (f2 (fC (.int 1)) (f2 (f2 (fV 4) (fC (.int 0)) ixP) (fC (.int 4)) (zm .Mod)) (zm .Add)) (f2 (fC (.int 2)) (fP (aC (f2 (f2 (f2 (f2 (fV 4) (fC (.int 0)) ixP) (fC (.int 4)) (zm .FloorDiv)) (fC (.int 8)) (zm .Mod)) (fC (.int 5)) (zO .Eq)) aN) Wv) (zm .Mult)) (zm .Add)))
 (zB (zH true 10 (f2 (fV 6) (fV 8) (zm .Mult))) f))))) (ZM 28 [(true,.int c),(true,.int h),(true,.int w)])) Q:=by
 have w1:=xf (as:=ZM 28 [(true,.int c),(true,.int h),(true,.int w)]) (zf (x:=.int 1)) (wG (zf (x:=.int 2)) (zb (i:=2) (s:=true) (x:=.int w) rfl) (zV (by decide) (by decide)) (zV (by omega) (by omega)))
 rw[show(1:Int)+2*(w:Int)=((1+2*w:Nat):Int) by omega]at w1
 obtain⟨xs,xl,xS,wx⟩:=stE (m:=1+2*w) (by omega) (WD.e (zb (i:=0) (as:=ZM 28 [(true,.int c),(true,.int h),(true,.int w)]) rfl)) (WD.e w1)
 obtain⟨ys,yl,yS,wy⟩:=stE (m:=13) (as:=[sI c,sI h,sI w,sT (yH xs),none,none,none,none,none,none,none,none,none,none,none,none,none,none,none,none,none,none,none,none,none,none,none,none]) (b:=fC (.int 13)) (by omega) (WD.e (zb (i:=1) rfl)) (WD.e zf)
 obtain⟨x0,a0,b0⟩:=at2 xS (k:=0) (by omega) (by omega)
 obtain⟨y0,c0,d0⟩:=at2 yS (k:=0) (by omega) (by omega)
 obtain⟨k,n,k2,n2,h1,h2,h3,h4,h5⟩:=kinds_ok (x:=x0)
 have hm0:1<=1+y0%4+2*(if(y0/4%8==5)=true then 1 else 0)/\1+y0%4+2*(if(y0/4%8==5)=true then 1 else 0)<=6:=by split<;>omega
 obtain⟨m,hm⟩:∃m:Nat,(m:Int)=1+y0%4+2*(if(y0/4%8==5)=true then 1 else 0):=⟨(1+y0%4+2*(if(y0/4%8==5)=true then 1 else 0)).toNat,by omega⟩
 have P1:POk ⟨c,h,w,xs,ys,k,n,k2,n2,m⟩:=⟨h1,h2,h3,h4,by show 1<=m;omega,by show m<=6;omega,hw,xl,xS,yl,yS⟩
 have A8:n<=8:=P1.a8
 have B8:n2<=8:=P1.b8
 have y4:WD (f2 (fV 4) (fC (.int 0)) ixP) [sI c,sI h,sI w,sT (yH xs),sT (yH ys),sI k,sI n,sI k2,sI n2,none,none,none,none,none,none,none,none,none,none,none,none,none,none,none,none,none,none,none] true (.int y0):=yp (zb (i:=4) rfl) zf c0 rfl
 have s9:=yF (st:=true) (i:=9) (xf (xf (zf (x:=.int 1)) (yt y4 (zf (x:=.int 4)) (by decide))) (wG (zf (x:=.int 2)) (Z4 (g:=Wv) (x:=.int (if(y0/4%8==5)=true then 1 else 0)) (zG (zcv (c:=y0/4%8==5) (yt (wg y4 (zf (x:=.int 4)) (by decide) (zV (by decide) (by decide))) (zf (x:=.int 8)) (by decide)) (zf (x:=.int 5)) rfl) zX) rfl rfl) (zV (by decide) (by decide)) (by split<;>exact zV (by decide) (by decide)))) (zF rfl)
 rw[<-hm]at s9
 have s10:=yF (st:=true) (i:=10) (as:=[sI c,sI h,sI w,sT (yH xs),sT (yH ys),sI k,sI n,sI k2,sI n2,sI m,none,none,none,none,none,none,none,none,none,none,none,none,none,none,none,none,none,none]) (wG (zb (i:=6) rfl) (zb (i:=8) rfl) (zV (i:=(n:Int)) (by omega) (by omega)) (zV (i:=(n2:Int)) (by omega) (by omega))) (zF rfl)
 rw[<-zzS]at s10
 exact ZD (Wy (p:=3) wx (zF rfl)) (ZD (Wy (p:=4) wy (zF rfl)) (ZD (zoU (zmH (zaz (WD.e (zb (i:=3) rfl)) (WD.e zf) a0) h5) rfl) (ZD s9 (ZD s10 (K ⟨c,h,w,xs,ys,k,n,k2,n2,m⟩ P1 rfl rfl)))))
theorem zoy{P:Par}(h:POk P){f:SF}{Q:D->Prop}(K:∀(F:List Int) (e11 e13:Option O),F.Perm (Ys P.N)->Rq (f (Z P e11 (sT (yH F)) e13 none none none none none none none none none none none none none none)) Q):
 Rq ((zB (zH false 11 (fP (aC (fV 10) aN) lrP))
 (zB (zH false 12 (wD dN))
 (zB (xJ (yM (aC (fV 10) aN) yP) (gN 13) (vI (ZC 12 (dC (ZC 11 (dC (f2 (f2 (fV 4) (f2 (fC (.int 1)) (fV 13) (zm .Add)) ixP) (fP (aC (fV 11) aN) zku) (zm .Mod)) dN) Vf) dN) Z2)))
 (zmj 12 f)))) (Z P none none none none none none none none none none none none none none none none none)) Q:=by
 have N8:=h.n8
 obtain⟨as',hf,L,F,e13,rfl,hp,hlen⟩:=vN (g:=gN 13) (f:=vI (ZC 12 (dC (ZC 11 (dC (f2 (f2 (fV 4) (f2 (fC (.int 1)) (fV 13) (zm .Add)) ixP) (fP (aC (fV 11) aN) zku) (zm .Mod)) dN) Vf) dN) Z2))
  (λi as=>∃(L F:List Int) (e13:Option O),as=Z P (sN (L.map lfI)) (sN (F.map lfI)) e13 none none none none none none none none none none none none none none/\(L++F).Perm (Ys P.N)/\L.length+i=P.N)
  (xY 0 P.N) 0 (Z P (sN ((Ys P.N).map lfI)) (sN []) none none none none none none none none none none none none none none none) (λi x as hx' hI=>by
   obtain⟨L,F,e13,rfl,hp,hlen⟩:=hI
   obtain⟨rfl,hi⟩:=vd hx'
   obtain⟨y,a1,b1⟩:=at2 h.yS (k:=1+(0+i)) (by omega) (by rw[h.yl];have:i<P.n*P.n2:=hi;omega)
   have hL0:0<L.length:=by have:i<P.N:=hi;omega
   have hL8:L.length<=8:=zzL (show L.length<=P.N by omega) N8
   have l0:(0:Int)<((L.map lfI).length:Int):=by rw[zD];omega
   have z0:=zyK y (show((L.map lfI).length:Int)≠0 by omega)
   have z1:=zyE y l0
   have hk:(y%((L.map lfI).length:Int)).toNat<L.length:=by rw[zD]at z0 z1 ⊢;omega
   generalize hkk:(y%((L.map lfI).length:Int)).toNat=k at hk
   have pop:=znI (as:=Z P (sN (L.map lfI)) (sN (F.map lfI)) (sI (0+i)) none none none none none none none none none none none none none none) (i:=11) (os:=L.map lfI) (o:=lfI L[k]) rfl (yt (yp (zb (i:=4) rfl) (xf zf (zb (i:=13) rfl)) a1 rfl) (zuz (i:=11) rfl) l0) z0 z1 (by rw[zD];exact Nat.lt_of_le_of_lt hL8 (by decide)) (by rw[hkk,zzF,zzB hk];rfl)
   rw[hkk,show(L.map lfI).eraseIdx k=(L.eraseIdx k).map lfI by rw[List.eraseIdx_eq_take_drop_succ,List.eraseIdx_eq_take_drop_succ,zyJ,List.map_take,List.map_drop]]at pop
   have hF:F.length<=8:=by
    have e:=hp.length_eq
    rw[zzG,zD,zyR]at e
    have:P.N<=8:=N8
    omega
   have ap:=zeI (i:=12) (os:=F.map lfI) (as:=Z P (sN (L.map lfI)) (sN (F.map lfI)) (sI (0+i)) none none none none none none none none none none none none none none) rfl pop rfl (by rw[zD];exact yO (by omega))
   rw[<-zbS]at ap
   refine⟨Z P (sN (L.map lfI)) (sN (F.map lfI)) (sI (0+i)) none none none none none none none none none none none none none none,rfl,_,ap,L.eraseIdx k,F++[L[k]],_,rfl, ?_,by rw[List.length_eraseIdx_of_lt hk];omega⟩
   rw[<-zxA]
   refine(List.perm_append_singleton _ _).trans ?_
   rw[<-List.cons_append]
   exact((zfM L k hk).append_right F).trans hp)
  ⟨Ys P.N,[],none,rfl,by rw[zyB],by rw[zD,zyR];rfl⟩
 rw[yZ]at hlen
 have hL:L=[]:=List.eq_nil_of_length_eq_zero (by omega)
 subst hL
 have s2:=wO (i:=11) (as:=Z P none none none none none none none none none none none none none none none none none) (zog (a:=fV 10) (x:=.int P.N) (g:=lrP) (zs:=(Ys P.N).map D.int) (WD.e (zb (i:=10) rfl)) (by
  show(if(0:Int)<=P.N/\(P.N:Int)<=100000 then _ else _)=_
  rw[if_pos ⟨by omega,by have:P.N<=8:=N8;omega⟩,zzY];rfl)) (zF rfl)
 rw[zlj]at s2
 have hfz:(O.nd .ls (F.map lfI)).frz = .lf true (yH F):=by
  show O.lf (O.nd .ls (F.map lfI)).str (O.nd .ls (F.map lfI)).toD=_
  rw[(zah F).1,(zah F).2]
 refine ZD s2 (ZD (wO (i:=12) (X5 yK (szl rfl)) (zF rfl)) (ZD (vY (vq (zG (zb (i:=10) rfl) zX) (by omega) (by have:P.N<=8:=N8;omega)) (by rw[zyF];exact hf)) (ztm (i:=12) rfl ?_)))
 rw[hfz]
 exact K F _ _ hp
open L2 (yO)
abbrev Par.j(P:Par):Int->Int->Int:=jB P.n2 (jK P.k P.n) (jK P.k2 P.n2)
abbrev Par.e(P:Par):Int:=eK P.k*P.n2+eK P.k2
theorem POk.lj{P:Par}(h:POk P):LJ P.N P.j P.e:=ljB (ljK h.k1) (ljK h.k2) h.p2
theorem zhe{as:AS}{F:List Int}{i:Nat}{fi:IF}{xs:List It1}(hF:F.length<=8)(hx:xs.length<=8)(h1:fi as=some (xs,as))(h2:∀y ∈ xs,∃d,y=(true,d))(hc:∀d:D,gN 0 (true,d) (YH [none,some i] as)=some [sT d,sT (yH F)]):
 zY fi [none,some i] (gN 0) yL (zY (xX (fV 1)) [none] (gN 0) yL (fC (.int 0))) as=some (.ow (Ze (List.replicate xs.length (List.replicate F.length (0:Int)))),as):=by
 refine zbe h1 (szs (by omega)) (ziM xs λy m=>?_)
 obtain⟨d,rfl⟩:=h2 y m
 refine⟨_,hc d, ?_⟩
 have e:=zjn (as0:=[none]) (F.map D.int) (λd=>⟨[sT d],rfl⟩)
 rw[zD]at e
 exact zbe (zed (WD.e (zb (i:=1) rfl))) (szs (by rw[zD,zD];omega)) e
theorem zpg{P:Par}(h:POk P){F:List Int}(hF:F.Perm (Ys P.N)){e11 e13:Option O}{f:SF}{Q:D->Prop}(K:∀(J:TZ) (e15 e16 e17:Option O),Tab P.N P.N J->(∀a b,InR P.N a->InR P.N b->jAt J (rAt F a) (rAt F b)=rAt F (P.j a b))->Rq (f (Z P e11 (sT (yH F)) e13 (some (Ze J)) e15 e16 e17 none none none none none none none none none none)) Q):
 Rq ((zB (zH false 14 (zY (xX (fV 12)) [none,some 12] (gN 0) yL (zY (xX (fV 1)) [none] (gN 0) yL (fC (.int 0)))))
 (zB (xJ (yM (aC (fV 10) aN) yP) (gN 15) (xJ (yM (aC (fV 10) aN) yP) (gN 16) (zB (zH true 17 (f2 (zE (aC (fV 5) (aC (fV 6) (aC (f2 (fV 15) (fV 8) (zm .FloorDiv)) (aC (f2 (fV 16) (fV 8) (zm .FloorDiv)) aN)))) zQ) (fV 8) (zm .Mult)))
 (zB (zH true 17 (f2 (fV 17) (zE (aC (fV 7) (aC (fV 8) (aC (f2 (fV 15) (fV 8) (zm .Mod)) (aC (f2 (fV 16) (fV 8) (zm .Mod)) aN)))) zQ) (zm .Add)))
 (zbj 14 (xAt 12 (xV 15)) (xAt 12 (xV 16)) (xAt 12 (xV 17)))))))
 f)) (Z P e11 (sT (yH F)) e13 none none none none none none none none none none none none none none)) Q:=by
 have N8:P.N<=8:=h.n8
 have N1:=h.N1
 have p2:=h.p2
 have b8:=h.b8
 have a8:=h.a8
 obtain⟨hR,_⟩:=Y9 hF
 have hl:=hR.1
 have hz:=zhe (as:=Z P e11 (sT (yH F)) e13 none none none none none none none none none none none none none none) (F:=F) (i:=12) (xs:=(F.map D.int).map λd=>(true,d)) (by omega) (by rw[zD,zD];omega) (zed (WD.e (zb (i:=12) rfl))) (λy m=>by
  obtain⟨d,_,rfl⟩:=zxB.mp m
  exact⟨d,rfl⟩) (λd=>rfl)
 rw[zD,zD,hl]at hz
 have lj:=h.lj
 have lk1:=ljK h.k1
 have lk2:=ljK h.k2
 have pN:∀a,InR P.N a->InR P.N (rAt F a):=λa ha=>(rowAt hR ha).2
 have pi:∀a a',InR P.N a->InR P.N a'->rAt F a=rAt F a'->a=a':=λa a' ha ha' e=>ziY hF ha ha' e
 obtain⟨J,e15,e16,e17,hf,t1,t2⟩:=zkH (v:=15) (K:=P.N) (n:=P.N) (L:=P.N) (M:=P.N) (S:=λT x y z=>Z P e11 (sT (yH F)) e13 (some (Ze T)) x y z none none none none none none none none none none) (f:=rAt F) (g:=rAt F) (w:=λa b=>rAt F (P.j a b)) (F:=xJ (yM (aC (fV 10) aN) yP) (gN 16) (zB (zH true 17 (f2 (zE (aC (fV 5) (aC (fV 6) (aC (f2 (fV 15) (fV 8) (zm .FloorDiv)) (aC (f2 (fV 16) (fV 8) (zm .FloorDiv)) aN)))) zQ) (fV 8) (zm .Mult)))
  (zB (zH true 17 (f2 (fV 17) (zE (aC (fV 7) (aC (fV 8) (aC (f2 (fV 15) (fV 8) (zm .Mod)) (aC (f2 (fV 16) (fV 8) (zm .Mod)) aN)))) zQ) (zm .Add)))
  (zbj 14 (xAt 12 (xV 15)) (xAt 12 (xV 16)) (xAt 12 (xV 17)))))) (x0:=none) (y0:=none) (z0:=none) pN pi pN (λ_ _ _ _ _=>rfl) (λT a y z hT ha=>by
   obtain⟨T',y',z',k1,k2,k3,k4⟩:=znb (v:=16) (K:=P.N) (n:=P.N) (L:=P.N) (S:=λT y z=>Z P e11 (sT (yH F)) e13 (some (Ze T)) (sI a) y z none none none none none none none none none none) (p:=rAt F a) (g:=rAt F) (w:=λb=>rAt F (P.j a b)) (f:=(zB (zH true 17 (f2 (zE (aC (fV 5) (aC (fV 6) (aC (f2 (fV 15) (fV 8) (zm .FloorDiv)) (aC (f2 (fV 16) (fV 8) (zm .FloorDiv)) aN)))) zQ) (fV 8) (zm .Mult)))
  (zB (zH true 17 (f2 (fV 17) (zE (aC (fV 7) (aC (fV 8) (aC (f2 (fV 15) (fV 8) (zm .Mod)) (aC (f2 (fV 16) (fV 8) (zm .Mod)) aN)))) zQ) (zm .Add)))
  (zbj 14 (xAt 12 (xV 15)) (xAt 12 (xV 16)) (xAt 12 (xV 17)))))) (x0:=y) (y0:=z) (pN a ha) pN pi (λb hb=>pN _ (lj.cl a b ha hb)) (λ_ _ _ _=>rfl) (λT b z hT hb=>by
   have ua:=yq p2 ha
   have ub:=yq p2 hb
   have c1:=lk1.cl _ _ ua.1 ub.1
   have j1:=zbU h.k1 ua.1 ub.1
   have j2:=zbU h.k2 ua.2 ub.2
   have b2:(P.n2:Int).natAbs<big:=zV (by omega) (by omega)
   have s1:=yF (st:=true) (i:=17) (as:=Z P e11 (sT (yH F)) e13 (some (Ze T)) (sI a) (sI b) z none none none none none none none none none none) (wG (Xr (zG (zb (i:=5) rfl) (zG (zb (i:=6) rfl) (zG (wg (zb (i:=15) rfl) (zb (i:=8) rfl) (by omega) b2) (zG (wg (zb (i:=16) rfl) (zb (i:=8) rfl) (by omega) b2) zX)))) j1) (zb (i:=8) rfl) (zV (by have:=c1.1;omega) (by have:=c1.2;omega)) b2) (zF rfl)
   have s2:=yF (st:=true) (i:=17) (as:=Z P e11 (sT (yH F)) e13 (some (Ze T)) (sI a) (sI b) (sI (jK P.k P.n (a/P.n2) (b/P.n2)*P.n2)) none none none none none none none none none none) (xf (zb (i:=17) rfl) (Xr (zG (zb (i:=7) rfl) (zG (zb (i:=8) rfl) (zG (yt (zb (i:=15) rfl) (zb (i:=8) rfl) (by omega)) (zG (yt (zb (i:=16) rfl) (zb (i:=8) rfl) (by omega)) zX)))) j2)) (zF rfl)
   exact⟨_,yh s1 (yh s2 (zlt (i:=14) (T:=T) hT (pN a ha) (pN b hb) (zos (i:=12) rfl (zdf (i:=15) rfl) hR ha) (zos (i:=12) rfl (zdf (i:=16) rfl) hR hb) (zos (i:=12) rfl (zdf (i:=17) rfl) hR (lj.cl a b ha hb)) rfl))⟩) hT
   refine⟨T',y',z', ?_,k2,k3,k4⟩
   rw[vp (v:=10) (n:=P.N) rfl (by omega)]
   exact k1) (ziH N1)
 refine ZD (wO (i:=14) hz (zF rfl)) (ZD (vY (vq (zG (zb (i:=10) rfl) zX) (by omega) (by omega)) (by rw[zyF];exact hf)) (K J e15 e16 e17 t1 t2))
open L2 (yO)
theorem perm_back{F:List Int}{n:Nat}(h:F.Perm (Ys n)):∃B:Int->Int,(∀a,InR n a->InR n (B a))/\∀a,InR n a->rAt F (B a)=a:=by
 obtain⟨hR,hm⟩:=Y9 h
 refine⟨λa=>(F.idxOf a:Nat),λa ha=>?_,λa ha=>?_⟩
 · have:=List.idxOf_lt_length_of_mem (hm a ha.1 ha.2)
   rw[hR.1]at this
   exact⟨Int.natCast_nonneg _,Int.ofNat_lt.mpr this⟩
 · have hl:=List.idxOf_lt_length_of_mem (hm a ha.1 ha.2)
   rw[YJ (by rw[zyF];exact hl)]
   simp only[zyF]
   exact List.getElem_idxOf hl
abbrev Good(P:Par)(F:List Int)(J:TZ)(p:Str×TZ):Prop:=Tab P.m P.N p.2/\LD P.N P.m (jAt J) (rAt F P.e) (jAt p.2)
abbrev Y(P:Par)(F:List Int)(J:TZ)(e11 e16:Option O)(ss:List Str)(os:List O)(e13 e15 e17 e20 e21 e22 e23:Option O):AS:=Z P e11 (sT (yH F)) e13 (some (Ze J)) e15 e16 e17 (sT (.lst (ss.map D.str))) (sN os) e20 e21 e22 e23 none none none none
abbrev mdI:SF:=(zB (zH true 17 (f2 (f2 (fV 20) (fV 23) ixP) (f2 (fV 15) (fV 8) (zm .FloorDiv)) ixP))
 (zB (zH true 17 (f2 (f2 (fV 17) (fV 8) (zm .Mult)) (f2 (f2 (fV 21) (fV 23) ixP) (f2 (fV 15) (fV 8) (zm .Mod)) ixP) (zm .Add)))
 (zbj 22 (xV 23) (xAt 12 (xV 15)) (xAt 12 (xV 17)))))
theorem znC{P:Par}(h:POk P){F:List Int}(hF:F.Perm (Ys P.N)){J T1 T2:TZ}{e11 e16:Option O}{ss:List Str}{os:List O}{e13 e15 e17 e23:Option O}(t1:Tab P.m P.n T1)(t2:Tab P.m P.n2 T2)(l1:LD P.n P.m (jK P.k P.n) (eK P.k) (jAt T1))(l2:LD P.n2 P.m (jK P.k2 P.n2) (eK P.k2) (jAt T2)):
 ∃(T:TZ) (x y z:Option O),forL (gN 23) (xJ (yM (aC (fV 10) aN) yP) (gN 15) mdI) (xY 0 P.m) (Y P F J e11 e16 ss os e13 e15 e17 (sT (yg T1)) (sT (yg T2)) (some (Ze (List.replicate P.m (List.replicate P.N 0)))) e23)=some (.nx (Y P F J e11 e16 ss os e13 y z (sT (yg T1)) (sT (yg T2)) (some (Ze T)) x))/\Tab P.m P.N T/\∀c a,InR P.m c->InR P.N a->jAt T c (rAt F a)=rAt F (dB P.n2 (jAt T1) (jAt T2) c a):=by
 have N8:P.N<=8:=h.n8
 have N1:=h.N1
 have p2:=h.p2
 have b8:=h.b8
 have a8:=h.a8
 obtain⟨hR,_⟩:=Y9 hF
 have ld:=ldB (ljK h.k1) (ljK h.k2) p2 l1 l2
 have pN:∀a,InR P.N a->InR P.N (rAt F a):=λa ha=>(rowAt hR ha).2
 have pi:∀a a',InR P.N a->InR P.N a'->rAt F a=rAt F a'->a=a':=λa a' ha ha' e=>ziY hF ha ha' e
 exact zkH (v:=23) (K:=P.m) (n:=P.N) (L:=P.N) (M:=P.m) (S:=λT x y z=>Y P F J e11 e16 ss os e13 y z (sT (yg T1)) (sT (yg T2)) (some (Ze T)) x) (f:=λc=>c) (g:=rAt F) (w:=λc a=>rAt F (dB P.n2 (jAt T1) (jAt T2) c a)) (λ_ ha=>ha) (λ_ _ _ _ e=>e) pN (λ_ _ _ _ _=>rfl) (λT c y z hT hc=>by
  obtain⟨T',y',z',k1,k2,k3,k4⟩:=znb (v:=15) (K:=P.m) (n:=P.N) (L:=P.N) (S:=λT y z=>Y P F J e11 e16 ss os e13 y z (sT (yg T1)) (sT (yg T2)) (some (Ze T)) (sI c)) (p:=c) (g:=rAt F) (w:=λa=>rAt F (dB P.n2 (jAt T1) (jAt T2) c a)) (f:=mdI) (x0:=y) (y0:=z) hc pN pi (λa ha=>pN _ (ld.cl c a hc ha)) (λ_ _ _ _=>rfl) (λT a z hT ha=>by
   have ua:=yq p2 ha
   have b2:(P.n2:Int).natAbs<big:=zV (by omega) (by omega)
   obtain⟨q1,r1⟩:=znv (as:=Y P F J e11 e16 ss os e13 (sI a) z (sT (yg T1)) (sT (yg T2)) (some (Ze T)) (sI c)) t1 hc ua.1 (zb (i:=20) rfl) (zb (i:=23) rfl) (wg (zb (i:=15) rfl) (zb (i:=8) rfl) (by omega) b2)
   have s1:=yF (st:=true) (i:=17) q1 (zF rfl)
   obtain⟨q2,r2⟩:=znv (as:=Y P F J e11 e16 ss os e13 (sI a) (sI (jAt T1 c (a/P.n2))) (sT (yg T1)) (sT (yg T2)) (some (Ze T)) (sI c)) t2 hc ua.2 (zb (i:=21) rfl) (zb (i:=23) rfl) (yt (zb (i:=15) rfl) (zb (i:=8) rfl) (by omega))
   have s2:=yF (st:=true) (i:=17) (xf (wG (zb (i:=17) rfl) (zb (i:=8) rfl) (zV (i:=jAt T1 c (a/P.n2)) (by have:=r1.1;omega) (by have:=r1.2;omega)) b2) q2) (zF rfl)
   exact⟨_,yh s1 (yh s2 (zlt (i:=22) (T:=T) hT hc (pN a ha) (zdf (i:=23) rfl) (zos (i:=12) rfl (zdf (i:=15) rfl) hR ha) (zos (i:=12) rfl (zdf (i:=17) rfl) hR (ld.cl c a hc ha)) rfl))⟩) hT
  refine⟨T',y',z', ?_,k2,k3,k4⟩
  rw[vp (v:=10) (n:=P.N) rfl (by omega)]
  exact k1) (ziH N1)
abbrev ddB:SF:=(zB (zH true 20 (zE (aC (fV 5) (aC (fV 6) (aC (fV 9) (aC (f2 (fV 3) (f2 (fC (.int 1)) (f2 (fC (.int 2)) (fV 13) (zm .Mult)) (zm .Add)) ixP) aN)))) yV))
 (zB (zH true 21 (zE (aC (fV 7) (aC (fV 8) (aC (fV 9) (aC (f2 (fV 3) (f2 (fC (.int 2)) (f2 (fC (.int 2)) (fV 13) (zm .Mult)) (zm .Add)) ixP) aN)))) yV))
 (zB (zH false 22 (zY (yM (aC (fV 9) aN) yP) [none,some 12] (gN 0) yL (zY (xX (fV 1)) [none] (gN 0) yL (fC (.int 0)))))
 (zB (xJ (yM (aC (fV 9) aN) yP) (gN 23) (xJ (yM (aC (fV 10) aN) yP) (gN 15) mdI))
 (vI (ZC 19 (dC (wM (dC (f2 (fV 18) (fV 13) ixP) (dC (fV 22) dN))) dN) Z2))))))
theorem take_snoc{α:Type}{l:List α}{i:Nat}{a:α}(h:l[i]? = some a):l.take (i+1)=l.take i++[a]:=by rw[List.take_succ,h];rfl
theorem zmU{P:Par}(h:POk P){F:List Int}(hF:F.Perm (Ys P.N)){J:TZ}(hJ:∀a b,InR P.N a->InR P.N b->jAt J (rAt F a) (rAt F b)=rAt F (P.j a b)){e11 e16:Option O}{ss:List Str}(hs:ss.length=10){i:Nat}(hi:i<P.w){os:List O}{Ds:DD}(ho:Ows wB (Good P F J) os Ds)(hD:Ds.map (·.1)=ss.take i){e15 e17 e20 e21 e22 e23:Option O}:
 ∃(os':List O) (Ds':DD) (e15' e17' e20' e21' e22' e23':Option O),ddB (Y P F J e11 e16 ss os (sI i) e15 e17 e20 e21 e22 e23)=some (.nx (Y P F J e11 e16 ss os' (sI i) e15' e17' e20' e21' e22' e23'))/\Ows wB (Good P F J) os' Ds'/\Ds'.map (·.1)=ss.take (i+1):=by
 have N8:P.N<=8:=h.n8
 have w4:=h.w4
 have m1:=h.m1
 have m6:=h.m6
 obtain⟨hR,_⟩:=Y9 hF
 have hxl:=h.xl
 obtain⟨x1,a1,b1⟩:=at2 h.xS (k:=1+2*i) (by omega) (by omega)
 obtain⟨x2,a2,b2⟩:=at2 h.xS (k:=2+2*i) (by omega) (by omega)
 obtain⟨T1,t1,l1,r1⟩:=zfs h.k1 h.a8 m1 (by omega) b1
 obtain⟨T2,t2,l2,r2⟩:=zfs h.k2 h.b8 m1 (by omega) b2
 have bi:((i:Nat):Int).natAbs<big:=zV (by omega) (by omega)
 have s20:=Wy (p:=20) (as:=Y P F J e11 e16 ss os (sI i) e15 e17 e20 e21 e22 e23) (zmT (WD.e (zb (i:=5) rfl)) (WD.e (zb (i:=6) rfl)) (WD.e (zb (i:=9) rfl)) (WD.e (yp (zb (i:=3) rfl) (xf (zf (x:=.int 1)) (wG (zf (x:=.int 2)) (zb (i:=13) rfl) (zV (by decide) (by decide)) bi)) a1 rfl)) r1) (zF rfl)
 have s21:=Wy (p:=21) (as:=Y P F J e11 e16 ss os (sI i) e15 e17 (sT (yg T1)) e21 e22 e23) (zmT (WD.e (zb (i:=7) rfl)) (WD.e (zb (i:=8) rfl)) (WD.e (zb (i:=9) rfl)) (WD.e (yp (zb (i:=3) rfl) (xf (zf (x:=.int 2)) (wG (zf (x:=.int 2)) (zb (i:=13) rfl) (zV (by decide) (by decide)) bi)) a2 rfl)) r2) (zF rfl)
 have hz:=zhe (as:=Y P F J e11 e16 ss os (sI i) e15 e17 (sT (yg T1)) (sT (yg T2)) e22 e23) (F:=F) (i:=12) (xs:=xY 0 P.m) (by rw[hR.1];exact N8) (by rw[yZ];omega) (by
  have:=vq (as:=Y P F J e11 e16 ss os (sI i) e15 e17 (sT (yg T1)) (sT (yg T2)) e22 e23) (zG (zb (i:=9) (x:=.int P.m) (s:=true) rfl) zX) (by omega) (by omega)
  rw[zyF]at this
  exact this) (λy m=>by
  obtain⟨b,rfl,_,_⟩:=zeJ m
  exact⟨_,rfl⟩) (λd=>rfl)
 rw[yZ,hR.1]at hz
 have s22:=wO (i:=22) hz (zF rfl)
 obtain⟨T,x,y,z,hf,q1,q2⟩:=znC h hF (J:=J) (e11:=e11) (e16:=e16) (ss:=ss) (os:=os) (e13:=sI i) (e15:=e15) (e17:=e17) (e23:=e23) t1 t2 l1 l2
 rw[<-vp (v:=9) (n:=P.m) rfl (by omega)]at hf
 obtain⟨s,hsi⟩:∃s,ss[i]? = some s:=⟨ss[i]'(by omega),zzB (by omega)⟩
 have wn:WD (f2 (fV 18) (fV 13) ixP) (Y P F J e11 e16 ss os (sI i) y z (sT (yg T1)) (sT (yg T2)) (some (Ze T)) x) true (.str s):=zcG (zb (i:=18) rfl) (zb (i:=13) rfl) (zie hsi)
 have hb:=zjJ (j:=22) (as:=Y P F J e11 e16 ss os (sI i) y z (sT (yg T1)) (sT (yg T2)) (some (Ze T)) x) (ps:=T.map Yg) (fr:=dN) (os:=[]) rfl rfl
 have ap:=zeI (i:=19) (os0:=os) (os:=os) (as:=Y P F J e11 e16 ss os (sI i) y z (sT (yg T1)) (sT (yg T2)) (some (Ze T)) x) rfl (zhz (wY wn hb) (szl rfl)) rfl (by
  rw[ho.ln]
  have:=congrArg List.length hD
  rw[zD,zzP]at this
  exact yO (by omega))
 rw[zkY]at ap
 obtain⟨B,b1',b2'⟩:=perm_back hF
 have ld:=ldB (ljK h.k1) (ljK h.k2) h.p2 l1 l2
 have hg:Good P F J (s,T):=⟨q1,ldT h.m1 h.lj ld (λa ha=>(rowAt hR ha).2) b1' b2' hJ q2⟩
 refine⟨_,Ds++[(s,T)],_,_,_,_,_,_,yh s20 (yh s21 (yh s22 (yh hf ap))),ho.snoc rfl rfl hg, ?_⟩
 rw[zyJ,hD,take_snoc hsi];rfl
theorem znX{P:Par}(h:POk P){F:List Int}(hF:F.Perm (Ys P.N)){J:TZ}(hJ:∀a b,InR P.N a->InR P.N b->jAt J (rAt F a) (rAt F b)=rAt F (P.j a b)){e11 e13 e15 e16 e17:Option O}{f:SF}{Q:D->Prop}
 (K:∀(ss:List Str) (os:List O) (Ds:DD) (e13 e15 e17 e20 e21 e22 e23:Option O),ss.length=10->ss.Nodup->(∀s ∈ ss,s.length<=8)->Ows wB (Good P F J) os Ds->Ds.map (·.1)=ss.take P.w->Rq (f (Y P F J e11 e16 ss os e13 e15 e17 e20 e21 e22 e23)) Q):
 Rq ((zB (zH true 18 (zE (aC (f2 (fV 1) (fC (.int 7)) (zm .FloorDiv)) (aC (fC (.int 10)) aN)) Zc))
 (zB (zH false 19 (wD dN))
 (zB (xJ (yM (aC (fV 2) aN) yP) (gN 13) ddB)
 f))) (Z P e11 (sT (yH F)) e13 (some (Ze J)) e15 e16 e17 none none none none none none none none none none)) Q:=by
 have w4:=h.w4
 obtain⟨ss,s1,s2,s2p,s3⟩:=zov (c:=P.h/7)
 obtain⟨as',hf,os,Ds,e13',e15',e17',e20',e21',e22',e23',rfl,ho,hD⟩:=vN (g:=gN 13) (f:=ddB)
  (λi as=>∃(os:List O) (Ds:DD) (e13 e15 e17 e20 e21 e22 e23:Option O),as=Y P F J e11 e16 ss os e13 e15 e17 e20 e21 e22 e23/\Ows wB (Good P F J) os Ds/\Ds.map (·.1)=ss.take i)
  (xY 0 P.w) 0 (Y P F J e11 e16 ss [] e13 e15 e17 none none none none) (λi x as hx hI=>by
   obtain⟨os,Ds,e13,e15,e17,e20,e21,e22,e23,rfl,ho,hD⟩:=hI
   obtain⟨rfl,hi⟩:=vd hx
   rw[zyV]at hD
   rw[Int.zero_add,zyV]
   obtain⟨os',Ds',a15,a17,a20,a21,a22,a23,k1,k2,k3⟩:=zmU (e11:=e11) (e16:=e16) (e15:=e15) (e17:=e17) (e20:=e20) (e21:=e21) (e22:=e22) (e23:=e23) h hF hJ s1 hi ho hD
   exact⟨_,rfl,_,k1,os',Ds',_,_,_,_,_,_,_,rfl,k2,k3⟩)
  ⟨[],[],_,_,_,_,_,_,_,rfl,Ows.nil,rfl⟩
 rw[yZ,zyV]at hD
 exact ZD (Wy (p:=18) (zcz (WD.e (wg (zb (i:=1) rfl) (zf (x:=.int 7)) (by decide) (zV (by decide) (by decide)))) (WD.e (zf (x:=.int 10))) s3) (zF rfl)) (ZD (wO (i:=19) (X5 yK (szl rfl)) (zF rfl)) (ZD (vY (vq (zG (zb (i:=2) rfl) zX) (by omega) (by omega)) (by rw[zyF];exact hf)) (K ss os Ds _ _ _ _ _ _ _ s1 s2 s2p ho hD)))
open L2 (yO)
def held(n:Nat)(b:Int):List Int:=((List.range n).filter λi=>b/2 ^ i%2==1).map λ(i:Nat)=>(i:Int)
abbrev sgO(p:Str×List Int):O:=.lf true (wA p)
theorem zhk:∀S:SS,(S.map sgO).all O.isLf=true/\O.strs (S.map sgO)=true/\O.toDs (S.map sgO)=S.map wA
 | []=>⟨rfl,rfl,rfl⟩
 |p::r=>⟨(zhk r).1,(zhk r).2.1,congrArg (wA p :: ·) (zhk r).2.2⟩
theorem znr{os:List O}(hs:O.strs os=true):(YB os).str=true/\(YB os).toD = .tup (O.toDs os):=by
 unfold YB
 split
 · exact⟨hs,rfl⟩
 · exact⟨hs,rfl⟩
theorem ztX{P:Par}(h:POk P){b:Int}{as:AS}(h1:as[10]? = some (sI P.N))(h2:∀d:D,gN 0 (true,d) (YH [none,some 25] as)=some [sT d,sI b]):
 WE (zY (yM (aC (fV 10) aN) yP) [none,some 25] (gN 0) (fT (f2 (f2 (f2 (fV 1) (f2 (fC (.int 1)) (fV 0) zmc) (zm .FloorDiv)) (fC (.int 2)) (zm .Mod)) (fC (.int 1)) (zO .Eq))) (fV 0)) as (yH (held P.N b)):=by
 have N8:P.N<=8:=h.n8
 have:=zmZ (as:=as) (h:=λ(i:Nat)=>D.int i) (p:=λi=>b/2 ^ i%2==1) (it:=λ(i:Nat)=>(true,D.int (0+(i:Int)))) (fi:=yM (aC (fV 10) aN) yP) (cap:=[none,some 25]) (gg:=gN 0) (tt:=fT (f2 (f2 (f2 (fV 1) (f2 (fC (.int 1)) (fV 0) zmc) (zm .FloorDiv)) (fC (.int 2)) (zm .Mod)) (fC (.int 1)) (zO .Eq))) (fe:=fV 0) (List.range P.N) (by
  have:=vq (zG (zb (i:=10) h1) zX) (show(0:Int)<=P.N by omega) (by omega)
  rw[zyF]at this
  exact this) (by rw[zyR];omega) (λi hi=>by
   have hi:=List.mem_range.mp hi
   rw[Int.zero_add]
   have p0:(0:Int)<2 ^ i:=Int.pow_pos (by decide)
   have p1:(2:Int) ^ i<1000:=by
    rcases(show i=0\/i=1\/i=2\/i=3\/i=4\/i=5\/i=6\/i=7 by omega)with rfl|rfl|rfl|rfl|rfl|rfl|rfl|rfl<;>decide
   have ws:WD (f2 (fC (.int 1)) (fV 0) zmc) [sI i,sI b] true (.int (2 ^ i)):=yp zf (zb (i:=0) rfl) (by
    show(if(0:Int)<=i/\(i:Int)<=1000000/\(1:Int).natAbs<2 ^ 64 then some (R0.im (.int (1*2 ^ (i:Int).toNat)))else none)=_
    rw[if_pos ⟨by omega,by omega,by decide⟩,zyF,Int.one_mul]) rfl
   exact⟨[sI i,sI b],h2 _,eqT (yt (wg (zb (i:=1) rfl) ws p0 (zV (by omega) (by omega))) zf (by decide)) zf rfl,λ_=>WD.e (zb (i:=0) rfl)⟩)
 unfold held
 rw[show D.lst (((List.range P.N).filter λi=>b/2 ^ i%2==1).map λ(i:Nat)=>D.int i)=yH (((List.range P.N).filter λi=>b/2 ^ i%2==1).map λ(i:Nat)=>(i:Int)) by show _=D.lst _;rw[zzY];rfl]at this
 exact this
abbrev V(P:Par)(F:List Int)(J:TZ)(ss:List Str)(os:List O)(e11 e15 e16 e17 e20 e21 e22 e23:Option O)(S:SS)(e13 e25 e26 e27:Option O):AS:=Z P e11 (sT (yH F)) e13 (some (Ze J)) e15 e16 e17 (sT (.lst (ss.map D.str))) (sN os) e20 e21 e22 e23 (sN (S.map sgO)) e25 e26 e27
abbrev sgB:SF:=(zB (zH true 25 (f2 (fV 4) (f2 (fC (.int 9)) (fV 13) (zm .Add)) ixP))
 (zB (zH true 26 (zY (yM (aC (fV 10) aN) yP) [none,some 25] (gN 0) (fT (f2 (f2 (f2 (fV 1) (f2 (fC (.int 1)) (fV 0) zmc) (zm .FloorDiv)) (fC (.int 2)) (zm .Mod)) (fC (.int 1)) (zO .Eq))) (fV 0)))
 (vI (ZC 24 (dC (wM (dC (f2 (fV 18) (f2 (fV 13) (f2 (fC (.int 4)) (f2 (f2 (fV 25) (fC (.int 512)) (zm .FloorDiv)) (fC (.int 2)) (zm .Mod)) (zm .Mult)) (zm .Add)) ixP) (dC (fV 26) dN))) dN) Z2))))
abbrev SgI(P:Par)(ss:List Str)(i:Nat)(S:SS):Prop:=S.length=i/\(S.map (·.1)).Nodup/\∀p ∈ S,(∃b,p.2=held P.N b)/\∃j,j%4<i/\j<7/\ss[j]? = some p.1
theorem zmV{P:Par}(h:POk P){F:List Int}{J:TZ}{ss:List Str}(hs:ss.length=10)(hn:ss.Nodup){os:List O}{e11 e15 e16 e17 e20 e21 e22 e23 e25 e26 e27:Option O}{S:SS}{i:Nat}(hi:i<3)(hI:SgI P ss i S):
 ∃(S':SS) (e25' e26':Option O),sgB (V P F J ss os e11 e15 e16 e17 e20 e21 e22 e23 S (sI i) e25 e26 e27)=some (.nx (V P F J ss os e11 e15 e16 e17 e20 e21 e22 e23 S' (sI i) e25' e26' e27))/\SgI P ss (i+1) S':=by
 obtain⟨i1,i2,i3⟩:=hI
 obtain⟨b,a1,b1⟩:=at2 h.yS (k:=9+i) (by omega) (by rw[h.yl];omega)
 have q0:=zyK (b/512) (show(2:Int)≠0 by decide)
 have q1:=zyE (b/512) (show(0:Int)<2 by decide)
 have hw:=ztX h (b:=b) (as:=V P F J ss os e11 e15 e16 e17 e20 e21 e22 e23 S (sI i) (sI b) e26 e27) rfl (λd=>rfl)
 obtain⟨j,ej⟩:∃j:Nat,(j:Int)=(i:Int)+4*(b/512%2):=⟨((i:Int)+4*(b/512%2)).toNat,by omega⟩
 have hj:ss[j]? = some (ss[j]'(by omega)):=zzB (by omega)
 have wi:=xf (as:=V P F J ss os e11 e15 e16 e17 e20 e21 e22 e23 S (sI i) (sI b) (sT (yH (held P.N b))) e27) (zb (i:=13) (x:=.int i) (s:=true) rfl) (wG (zf (x:=.int 4)) (yt (wg (zb (i:=25) rfl) (zf (x:=.int 512)) (by decide) (zV (by decide) (by decide))) (zf (x:=.int 2)) (by decide)) (zV (by decide) (by decide)) (zV (by omega) (by omega)))
 rw[<-ej]at wi
 have ap:=zeI (i:=24) (os0:=S.map sgO) (os:=S.map sgO) (as:=V P F J ss os e11 e15 e16 e17 e20 e21 e22 e23 S (sI i) (sI b) (sT (yH (held P.N b))) e27) rfl (zcQ (zT (zcG (zb (i:=18) rfl) wi (zie hj)) (zT (zb (i:=26) rfl) yK)) (szl rfl)) rfl (by rw[zD,i1];exact yO (by omega))
 rw[show S.map sgO++[YB [O.lf true (.str (ss[j]'(by omega))),O.lf true (yH (held P.N b))]]=(S++[((ss[j]'(by omega)),held P.N b)]).map sgO by rw[zyJ];rfl]at ap
 refine⟨_,_,_,yh (yF (i:=25) (yp (zb (i:=4) rfl) (xf zf (zb (i:=13) rfl)) a1 rfl) (zF rfl)) (yh (Wy (p:=26) hw (zF rfl)) ap),by rw[zzG,i1];rfl, ?_,λp m=>?_⟩
 · rw[zyJ]
   refine zxC.mpr ⟨i2,zzT.mpr ⟨zyZ,zyG⟩,λx mx y my e=>?_⟩
   obtain⟨p,mp,rfl⟩:=zxB.mp mx
   obtain⟨_,j',j1,j2,j3⟩:=i3 p mp
   have my:=zzO.mp my
   subst my
   have hj':=zzD.mp j3
   obtain⟨l',e'⟩:=hj'
   have:ss[j']=ss[j]'(by omega):=e'.trans e
   have:=(List.getElem_inj hn).mp this
   omega
 · rcases zzJ.mp m with m|m
   · obtain⟨z1,j',j1,j2,j3⟩:=i3 p m
     exact⟨z1,j',by omega,j2,j3⟩
   · rw[zzO.mp m]
     exact⟨⟨b,rfl⟩,j,by omega,by omega,hj⟩
theorem znQ{P:Par}(h:POk P){F:List Int}(hF:F.Perm (Ys P.N)){J:TZ}{ss:List Str}(hs:ss.length=10)(hn:ss.Nodup){os:List O}{Ds:DD}(ho:Ows wB (Good P F J) os Ds){e11 e13 e15 e16 e17 e20 e21 e22 e23:Option O}:
 ∃S:SS,S.length<=3/\(S.map (·.1)).Nodup/\(∀p ∈ S,p.1 ∈ ss)/\Rt ((zB (zH false 24 (wD dN))
 (zB (xJ (yM (aC (fC (.int 3)) aN) yP) (gN 13) sgB)
 (zB (zH true 27 (f2 (fV 12) (f2 (wD (dC (fC (.int 0)) (dC (fV 8) dN))) (fP (aC (f2 (fV 5) (fC (.int 3)) (zO .Eq)) aN) Wv) ixP) ixP))
 (ym (wM (dC (fV 10) (dC (fV 9) (dC (fV 14) (dC (fV 27) (dC (fV 19) (dC (fSl (fV 24) oN (oS (f2 (f2 (fV 4) (fC (.int 12)) ixP) (fC (.int 4)) (zm .Mod))) slP) dN)))))))))))
 (Y P F J e11 e16 ss os e13 e15 e17 e20 e21 e22 e23)) (yc P.N P.m J (rAt F P.e) Ds S):=by
 obtain⟨hR,_⟩:=Y9 hF
 obtain⟨as',hf,S,a13,a25,a26,rfl,i1,i2,i3⟩:=vN (g:=gN 13) (f:=sgB)
  (λi as=>∃(S:SS) (e13 e25 e26:Option O),as=V P F J ss os e11 e15 e16 e17 e20 e21 e22 e23 S e13 e25 e26 none/\SgI P ss i S)
  (xY 0 3) 0 (V P F J ss os e11 e15 e16 e17 e20 e21 e22 e23 [] e13 none none none) (λi x as hx hI=>by
   obtain⟨S,e13,e25,e26,rfl,hI⟩:=hI
   obtain⟨rfl,hi⟩:=vd hx
   rw[zyV]at hI
   rw[Int.zero_add,zyV]
   obtain⟨S',a,b,k1,k2⟩:=zmV (F:=F) (J:=J) (os:=os) (e11:=e11) (e15:=e15) (e16:=e16) (e17:=e17) (e20:=e20) (e21:=e21) (e22:=e22) (e23:=e23) (e25:=e25) (e26:=e26) (e27:=none) h hs hn hi hI
   exact⟨_,rfl,_,k1,S',_,_,_,rfl,k2⟩)
  ⟨[],_,_,_,rfl,rfl,zyG,λ_ m=>nomatch m⟩
 rw[yZ]at i1
 obtain⟨y,y1,y2⟩:=at2 h.yS (k:=12) (by omega) (by rw[h.yl];omega)
 have q0:=zyK y (show(4:Int)≠0 by decide)
 have q1:=zyE y (show(0:Int)<4 by decide)
 obtain⟨g1,g2,g3⟩:=zhk S
 have ce:=h.lj.ce
 have ee:(if(P.k==3)=true then(P.n2:Int)else 0)=P.e:=by
  show _=eK P.k*P.n2+eK P.k2
  rw[h.e2]
  unfold eK
  by_cases hk:P.k=3<;>simp[hk]
 have wE:WD (f2 (wD (dC (fC (.int 0)) (dC (fV 8) dN))) (fP (aC (f2 (fV 5) (fC (.int 3)) (zO .Eq)) aN) Wv) ixP) (V P F J ss os e11 e15 e16 e17 e20 e21 e22 e23 S a13 a25 a26 none) true (.int P.e):=by
  rw[<-ee]
  exact f2E (Zm (os:=[lfI 0,lfI P.n2]) (zT zf (zT (zb (i:=8) rfl) yK)) (szl rfl) rfl rfl) (WD.e (Z4 (x:=.int (if(P.k==3)=true then 1 else 0)) (zG (zcv (c:=P.k==3) (zb (i:=5) rfl) zf rfl) zX) rfl rfl)) zmI
 have s27:=yF (st:=true) (i:=27) (yp (zb (i:=12) rfl) wE (rowAt hR ce).1 rfl) (zF rfl)
 have hfJ:=zkY J
 have hfD:=ho.frz
 have wy:oS (f2 (f2 (fV 4) (fC (.int 12)) ixP) (fC (.int 4)) (zm .Mod)) ((V P F (J) ss os e11 e15 e16 e17 e20 e21 e22 e23 S a13 a25 a26 (sI (rAt F P.e))).set 14 (some (Ze J).frz) |>.set 19 (some (O.nd .ls os).frz))=some (some (y%4),_):=zsx (yt (yp (zb (i:=4) rfl) zf y1 rfl) zf (by decide))
 have sl:=zrh (as:=(V P F (J) ss os e11 e15 e16 e17 e20 e21 e22 e23 S a13 a25 a26 (sI (rAt F P.e))).set 14 (some (Ze J).frz) |>.set 19 (some (O.nd .ls os).frz)) (i:=24) (os:=S.map sgO) (fl:=oN) (lo:=none) rfl g1 g2 rfl wy
 have ct:=zsp (xs:=(S.take (y%4).toNat).map wA) (ys:=(S.drop (y%4).toNat).map wA)
 rw[<-zyJ,List.take_append_drop,zD,zzP,Nat.min_eq_left (by omega),show(((y%4).toNat:Nat):Int)=y%4 by omega]at ct
 have ct:cutD (S.map wA) none (some (y%4))=(S.take (y%4).toNat).map wA:=by
  injection ct with ct
  injection ct
 rw[g3,ct]at sl
 have w0:(dC (fV 10) (dC (fV 9) (dC (fV 14) (dC (fV 27) (dC (fV 19) (dC (fSl (fV 24) oN (oS (f2 (f2 (fV 4) (fC (.int 12)) ixP) (fC (.int 4)) (zm .Mod))) slP) dN)))))) (V P F J ss os e11 e15 e16 e17 e20 e21 e22 e23 S a13 a25 a26 (sI (rAt F P.e)))=some (_,_):=
  wY (zb (i:=10) rfl) (wY (zb (i:=9) rfl) (zjJ (j:=14) (ps:=J.map Yg) rfl (wY (zb (i:=27) rfl) (zjJ (j:=19) (ps:=os) rfl (wY sl rfl)))))
 have hfin:=zhz w0 (szl rfl)
 rw[hfJ,hfD]at hfin
 have ms:=znr (os:=[lfI P.N,lfI P.m,.lf true (yg J),lfI (rAt F P.e),.lf true (.lst (Ds.map wB)),.nd .ls (((S.take (y%4).toNat).map wA).map (O.lf true))]) (by
  show(O.strs (((S.take (y%4).toNat).map wA).map (O.lf true))&&true)=true
  rw[zfn];rfl)
 have rt:=zkO hfin ms.1
 refine⟨S.take (y%4).toNat,by rw[zzP];omega, ?_,λp m=>by
  obtain⟨_,j,_,_,z⟩:=i3 p (List.mem_of_mem_take m)
  exact zzX z,zR (wO (i:=24) (X5 yK (szl rfl)) (zF rfl)) (zR (vY (vq (j:=3) (zG zf zX) (by decide) (by decide)) hf) (zR s27 ⟨_,rt,ms.1,ms.2.trans ?_⟩))⟩
 · rw[List.map_take];exact i2.sublist (List.take_sublist _ _)
 · show D.tup [.int P.N,.int P.m,yg J,.int (rAt F P.e),.lst (Ds.map wB),.lst (O.toDs (((S.take (y%4).toNat).map wA).map (O.lf true)))]=_
   rw[zfh]
structure Made(n m:Nat)(J:TZ)(e:Int)(Ds:DD)(S:SS):Prop where
 al:Alg n m J e Ds
 la:LawA n m J e Ds
 s3:S.length<=3
 sn:(S.map (·.1)).Nodup
 sh:∀p ∈ S,p.1.length<=8
 nk:∀p ∈ Ds,p.1.length<=8
theorem zkB{c h:Int}{w:Nat}(hw:w<=4):∃n m J e Ds S,Made n m J e Ds S/\Ds.length=w/\RE (vJ [(true,.int c),(true,.int h),(true,.int w)]) (yc n m J e Ds S):=by
 obtain⟨x,hr,n,m,J,e,Ds,S,h1,h2,rfl⟩:Rq (Wa (ZM 28 [(true,.int c),(true,.int h),(true,.int w)])) (λx=>∃n m J e Ds S,Made n m J e Ds S/\Ds.length=w/\x=yc n m J e Ds S):=by
  refine zpQ hw λP hP hw' hh=>zoy hP λF e11 e13 hF=>zpg hP hF λJ e15 e16 e17 hJ hJ2=>znX hP hF hJ2 λss os Ds e13 e15 e17 e20 e21 e22 e23 s1 s2 s2p ho hD=>?_
  obtain⟨S,q1,q2,q3,q4⟩:=znQ hP hF (J:=J) s1 s2 ho (e11:=e11) (e13:=e13) (e15:=e15) (e16:=e16) (e17:=e17) (e20:=e20) (e21:=e21) (e22:=e22) (e23:=e23)
  obtain⟨hR,_⟩:=Y9 hF
  obtain⟨B,b1,b2⟩:=perm_back hF
  have hl:Ds.length=P.w:=by
   have:=congrArg List.length hD
   rw[zD,zzP,s1]at this
   have:=hP.w4
   omega
  have ce:=(rowAt hR hP.lj.ce).2
  exact⟨_,q4,P.N,P.m,J,rAt F P.e,Ds,S,⟨⟨hP.N1,hP.n8,hP.m1,hP.m6,hJ,ce.1,ce.2,by have:=hP.w4;omega,λp m=>(ho.al p m).1,by rw[hD];exact s2.sublist (List.take_sublist _ _)⟩,⟨ljT hP.lj (λa ha=>(rowAt hR ha).2) b1 b2 hJ2,λp m=>(ho.al p m).2⟩,q1,q2,λp m=>s2p _ (q3 p m),λp m=>s2p _ (List.mem_of_mem_take (by rw[<-hD];exact List.mem_map_of_mem m))⟩,by omega,rfl⟩
 exact⟨n,m,J,e,Ds,S,h1,h2,xO rfl hr⟩
abbrev sW(d:D):Option O:=some (.lf false d)
abbrev Nx(r:Option Out)(I:AS->Prop):Prop:=∃as',r=some (.nx as')/\I as'
theorem YX{v n:Nat}{f:SF}(I:AS->Prop)(H:∀b,InR n b->∀as,I as->∃as1,gN v (true,.int b) as=some as1/\Nx (f as1) I){as:AS}(h:I as):Nx (forL (gN v) f (xY 0 n) as) I:=by
 rcases zrL (fr:=sNx) I (λ_=>True) (λb hb as hI=>by obtain⟨as1,h1,as2,h2,h3⟩:=H b hb as hI;exact⟨as1,h1,.inl ⟨as2,h2,h3,True.intro⟩⟩) h with⟨a,b,c,_⟩|⟨_,_,_,z⟩
 · exact⟨a,b,c⟩
 · exact absurd (λ_ _=>True.intro) z
theorem Nx.imp{r:Option Out}{I I':AS->Prop}(h:Nx r I)(k:∀as,I as->I' as):Nx r I':=by
 obtain⟨a,b,c⟩:=h
 exact⟨a,b,k a c⟩
theorem zjf{c:TF}{f:SF}{as:AS}{I:AS->Prop}{q:Bool}(ht:WT c as q)(hq:q=false)(hI:I as):Nx (sIf c f sNx as) I:=by
 subst hq
 exact⟨as,xq ht rfl,hI⟩
theorem ne0{x y:Int}(h:x=y):(!(x==y))=false:=by subst h;simp
theorem zbL{a b:EF}{as:AS}{t:Bool}{x y z:D}{g:D->D->Option R0}(ha:WD a as false x)(hb:WD b as t y)(hg:g x y=some (.im z))(hz:zL z=false):WD (f2 a b g) as false z:=by
 have:=zkR ha hb hg
 rw[hz]at this
 exact this
theorem jW{k n:Nat}{T:TZ}{a b c:EF}{as:AS}{s:Bool}{w v:Int}(hT:Tab k n T)(hw:InR k w)(hv:InR n v)(ha:WD a as s (yg T))(hb:WD b as true (.int w))(hc:WD c as true (.int v)):WD (f2 (f2 a b ixP) c ixP) as true (.int (jAt T w v)):=
 yp (zkR ha hb (Zf hT hw).1) hc (rowAt (Zf hT hw).2 hv).1 rfl
section
variable{n m:Nat}{J T:TZ}{e:Int}{Ds:DD}{S:SS}
theorem zmg(n8:n<=8)(hJ:Tab n n J)(he:InR n e)(U:UnA n J e):RE (wH [(false,yc n m J e Ds S)]) .non:=by
 have s1:zH true 1 (f2 (fV 0) (fC (.int 2)) ixP) [sW (yc n m J e Ds S),none,none,none]=some (.nx [sW (yc n m J e Ds S),sW (yg J),none,none]):=yF (i:=1) (zbL (zb (i:=0) rfl) zf rfl rfl) (zF rfl)
 have s2:zH true 2 (f2 (fV 0) (fC (.int 3)) ixP) [sW (yc n m J e Ds S),sW (yg J),none,none]=some (.nx [sW (yc n m J e Ds S),sW (yg J),sI e,none]):=yF (i:=2) (yp (zb (i:=0) rfl) zf rfl rfl) (zF rfl)
 have hr:=vq (as:=[sW (yc n m J e Ds S),sW (yg J),sI e,none]) (zG (yp (a:=fV 0) (b:=fC (.int 0)) (g:=ixP) (z:=.int n) (zb (i:=0) rfl) (zf (x:=.int 0)) rfl rfl) zX) (by trivial) (by trivial)
 rw[zyF]at hr
 obtain⟨as',k,_⟩:=YX (v:=3) (n:=n) (f:=sIf (Wl (fT (f2 (f2 (f2 (fV 1) (fV 2) ixP) (fV 3) ixP) (fV 3) (zO .NotEq))) (fT (f2 (f2 (f2 (fV 1) (fV 3) ixP) (fV 2) ixP) (fV 3) (zO .NotEq)))) (ym (wM (dC (fC (.str "nothing")) (dC (fV 3) dN)))) sNx) (as:=[sW (yc n m J e Ds S),sW (yg J),sI e,none]) (λas=>∃x,as=[sW (yc n m J e Ds S),sW (yg J),sI e,x]) (λa ha as hI=>by
  obtain⟨x,rfl⟩:=hI
  have w1:WD (fV 1) [sW (yc n m J e Ds S),sW (yg J),sI e,sI a] false (yg J):=zb rfl
  have w2:WD (fV 2) [sW (yc n m J e Ds S),sW (yg J),sI e,sI a] true (.int e):=zb rfl
  have w3:WD (fV 3) [sW (yc n m J e Ds S),sW (yg J),sI e,sI a] true (.int a):=zb rfl
  have t1:=zjM (jW hJ he ha w1 w2 w3) w3
  have t2:=zjM (jW hJ ha he w1 w3 w2) w3
  rw[ne0 (U a ha).1]at t1
  rw[ne0 (U a ha).2]at t2
  exact⟨_,rfl,zjf (zgU t1 (λ_=>t2) (λz=>nomatch z)) rfl ⟨_,rfl⟩⟩) ⟨_,rfl⟩
 exact xO rfl (zR s1 (zR s2 (zR (vY hr k) (yX (WD.e zf)))))
theorem zlU(n8:n<=8)(hJ:Tab n n J)(U:As n J):RE (wJ [(false,yc n m J e Ds S)]) .non:=by
 have s1:zH true 1 (f2 (fV 0) (fC (.int 0)) ixP) [sW (yc n m J e Ds S),none,none,none,none,none]=some (.nx [sW (yc n m J e Ds S),sI n,none,none,none,none]):=yF (i:=1) (yp (zb (i:=0) rfl) zf rfl rfl) (zF rfl)
 have s2:zH true 2 (f2 (fV 0) (fC (.int 2)) ixP) [sW (yc n m J e Ds S),sI n,none,none,none,none]=some (.nx [sW (yc n m J e Ds S),sI n,sW (yg J),none,none,none]):=yF (i:=2) (zbL (zb (i:=0) rfl) zf rfl rfl) (zF rfl)
 obtain⟨as',k,_⟩:=YX (v:=3) (n:=n) (f:=zrC 2 1) (as:=[sW (yc n m J e Ds S),sI n,sW (yg J),none,none,none]) (λas=>∃x y z,as=[sW (yc n m J e Ds S),sI n,sW (yg J),x,y,z]) (λa ha as hI=>by
  obtain⟨x,y,z,rfl⟩:=hI
  refine⟨_,rfl, ?_⟩
  unfold zrC
  rw[vp (v:=1) (n:=n) rfl (by trivial)]
  refine(YX (v:=4) (n:=n) (λas=>∃y z,as=[sW (yc n m J e Ds S),sI n,sW (yg J),sI a,y,z]) (λb hb as hI=>?_) ⟨_,_,rfl⟩).imp λas ⟨y,z,q⟩=>⟨_,y,z,q⟩
  obtain⟨y,z,rfl⟩:=hI
  refine⟨_,rfl, ?_⟩
  rw[vp (v:=1) (n:=n) rfl (by trivial)]
  refine(YX (v:=5) (n:=n) (λas=>∃z,as=[sW (yc n m J e Ds S),sI n,sW (yg J),sI a,sI b,z]) (λc hc as hI=>?_) ⟨_,rfl⟩).imp λas ⟨z,q⟩=>⟨_,z,q⟩
  obtain⟨z,rfl⟩:=hI
  have wj:WD (fV 2) [sW (yc n m J e Ds S),sI n,sW (yg J),sI a,sI b,sI c] false (yg J):=zb rfl
  have w3:WD (fV 3) [sW (yc n m J e Ds S),sI n,sW (yg J),sI a,sI b,sI c] true (.int a):=zb rfl
  have w4:WD (fV 4) [sW (yc n m J e Ds S),sI n,sW (yg J),sI a,sI b,sI c] true (.int b):=zb rfl
  have w5:WD (fV 5) [sW (yc n m J e Ds S),sI n,sW (yg J),sI a,sI b,sI c] true (.int c):=zb rfl
  have ab:=zjQ hJ ha hb
  have bc:=zjQ hJ hb hc
  exact⟨_,rfl,zjf (zjM (jW hJ ab hc wj (jW hJ ha hb wj w3 w4) w5) (jW hJ ha bc wj w3 (jW hJ hb hc wj w4 w5))) (ne0 (U a ha b hb c hc)) ⟨_,rfl⟩⟩) ⟨_,_,_,rfl⟩
 rw[<-vp (v:=1) (n:=n) (g:=gN 3) (f:=zrC 2 1) (as:=[sW (yc n m J e Ds S),sI n,sW (yg J),none,none,none]) rfl (by trivial)]at k
 exact xO rfl (zR s1 (zR s2 (zR k (yX (WD.e zf)))))
abbrev X10(n m:Nat)(J T:TZ)(e:Int)(Ds:DD)(S:SS)(s:Str)(x y z w:Option O):AS:=[sW (yc n m J e Ds S),sT (.str s),sW (yg T),sI n,sI m,sW (yg J),x,y,z,w]
theorem zpC{s:Str}(n8:n<=8)(m1:1<=m)(m6:m<=6)(hJ:Tab n n J)(hT:Tab m n T)(U:Dn n m J T):RE (xW [(false,yc n m J e Ds S),(true,.str s),(false,yg T)]) .non:=by
 obtain⟨as',k,_⟩:=YX (v:=6) (n:=n) (f:=xJ (yM (aC (fV 4) aN) yP) (gN 7) (xJ (yM (aC (fV 3) aN) yP) (gN 8) (xJ (yM (aC (fV 4) aN) yP) (gN 9) dfI))) (as:=X10 n m J T e Ds S s none none none none) (λas=>∃x y z w,as=X10 n m J T e Ds S s x y z w) (λa ha as hI=>by
  obtain⟨x,y,z,w,rfl⟩:=hI
  refine⟨_,rfl, ?_⟩
  rw[vp (v:=4) (n:=m) rfl (by trivial)]
  refine(YX (v:=7) (n:=m) (λas=>∃y z w,as=X10 n m J T e Ds S s (sI a) y z w) (λi hi as hI=>?_) ⟨_,_,_,rfl⟩).imp λas ⟨y,z,w,q⟩=>⟨_,y,z,w,q⟩
  obtain⟨y,z,w,rfl⟩:=hI
  refine⟨_,rfl, ?_⟩
  rw[vp (v:=3) (n:=n) rfl (by trivial)]
  refine(YX (v:=8) (n:=n) (λas=>∃z w,as=X10 n m J T e Ds S s (sI a) (sI i) z w) (λb hb as hI=>?_) ⟨_,_,rfl⟩).imp λas ⟨z,w,q⟩=>⟨_,z,w,q⟩
  obtain⟨z,w,rfl⟩:=hI
  refine⟨_,rfl, ?_⟩
  rw[vp (v:=4) (n:=m) rfl (by trivial)]
  refine(YX (v:=9) (n:=m) (λas=>∃w,as=X10 n m J T e Ds S s (sI a) (sI i) (sI b) w) (λk hk as hI=>?_) ⟨_,rfl⟩).imp λas ⟨w,q⟩=>⟨_,w,q⟩
  obtain⟨w,rfl⟩:=hI
  have w2:WD (fV 2) (X10 n m J T e Ds S s (sI a) (sI i) (sI b) (sI k)) false (yg T):=zb rfl
  have w5:WD (fV 5) (X10 n m J T e Ds S s (sI a) (sI i) (sI b) (sI k)) false (yg J):=zb rfl
  have w6:WD (fV 6) (X10 n m J T e Ds S s (sI a) (sI i) (sI b) (sI k)) true (.int a):=zb rfl
  have w7:WD (fV 7) (X10 n m J T e Ds S s (sI a) (sI i) (sI b) (sI k)) true (.int i):=zb rfl
  have w8:WD (fV 8) (X10 n m J T e Ds S s (sI a) (sI i) (sI b) (sI k)) true (.int b):=zb rfl
  have w9:WD (fV 9) (X10 n m J T e Ds S s (sI a) (sI i) (sI b) (sI k)) true (.int k):=zb rfl
  have q2:=(rowAt (Zf hT hi).2 ha).2
  have q4:=(rowAt (Zf hT hk).2 hb).2
  have q5:=jW hT (w:=(i+k)%m) (zgu m1) (zjQ hJ ha hb) w2 (yt (xf w7 w9) (zb (i:=4) (x:=.int m) (s:=true) rfl) (by trivial)) (jW hJ ha hb w5 w6 w8)
  exact⟨_,rfl,zjf (zjM q5 (jW hJ q2 q4 w5 (jW hT hi ha w2 w7 w6) (jW hT hk hb w2 w9 w8))) (ne0 (U a ha i hi b hb k hk)) ⟨_,rfl⟩⟩) ⟨_,_,_,_,rfl⟩
 rw[<-vp (v:=3) (n:=n) (as:=X10 n m J T e Ds S s none none none none) rfl (by trivial)]at k
 have s3:zH true 3 (f2 (fV 0) (fC (.int 0)) ixP) [sW (yc n m J e Ds S),sT (.str s),sW (yg T),none,none,none,none,none,none,none]=some (.nx [sW (yc n m J e Ds S),sT (.str s),sW (yg T),sI n,none,none,none,none,none,none]):=yF (i:=3) (yp (zb (i:=0) rfl) zf rfl rfl) (zF rfl)
 have s4:zH true 4 (f2 (fV 0) (fC (.int 1)) ixP) [sW (yc n m J e Ds S),sT (.str s),sW (yg T),sI n,none,none,none,none,none,none]=some (.nx [sW (yc n m J e Ds S),sT (.str s),sW (yg T),sI n,sI m,none,none,none,none,none]):=yF (i:=4) (yp (zb (i:=0) rfl) zf rfl rfl) (zF rfl)
 have s5:zH true 5 (f2 (fV 0) (fC (.int 2)) ixP) [sW (yc n m J e Ds S),sT (.str s),sW (yg T),sI n,sI m,none,none,none,none,none]=some (.nx (X10 n m J T e Ds S s none none none none)):=yF (i:=5) (zbL (zb (i:=0) rfl) zf rfl rfl) (zF rfl)
 exact xO rfl (zR s3 (zR s4 (zR s5 (zR k (yX (WD.e zf))))))
theorem ztD{α:Type}{f:EF}{as:AS}{g:α->D}{l:List α}(h:WD f as false (.lst (l.map g)))(hg:∀x,zL (g x)=false):zbI f as=some (l.map λa=>(false,g a),as):=by
 unfold zbI
 unfold WD at h
 rw[h]
 show some (kids false (l.map g),as)=_
 unfold kids
 rw[zzY]
 congr 2
 exact List.map_congr_left λx _=>by show(zL (g x)||false,g x)=_;rw[hg];rfl
theorem zoE{α:Type}{f:EF}{as:AS}{g:α->D}{l:List α}(h:WD f as false (.lst (l.map g)))(hg:∀x,zL (g x)=false):xX f as=some (l.map λa=>(false,g a),as):=by
 unfold xX
 unfold WD at h
 rw[h]
 show some (kids false (l.map g),as)=_
 unfold kids
 rw[zzY]
 congr 2
 exact List.map_congr_left λx _=>by show(zL (g x)||false,g x)=_;rw[hg];rfl
theorem zpB(A:Alg n m J e Ds)(L:LawA n m J e Ds):RE (Zw [(false,yc n m J e Ds S)]) .non:=by
 have n8:=A.n8
 have m1:=A.m1
 have s1:zH true 1 (f2 (fV 0) (fC (.int 3)) ixP) [sW (yc n m J e Ds S),none,none,none,none]=some (.nx [sW (yc n m J e Ds S),sI e,none,none,none]):=yF (i:=1) (yp (zb (i:=0) rfl) zf rfl rfl) (zF rfl)
 obtain⟨as',hf,x,y,z,rfl⟩:=vN (g:=gT 2 (gsC (gN 2) (gsC (gN 3) gsN))) (f:=(zB (sIf (fT (f2 (f2 (f2 (fV 3) (fC (.int 0)) ixP) (fV 1) ixP) (fV 1) (zO .NotEq))) (ym (wM (dC (fC (.str "empty")) (dC (fV 2) dN)))) sNx)
  (zB (zH true 4 (zE (aC (fV 0) (aC (fV 2) (aC (fV 3) aN))) xW))
  (sIf (fT (f2 (fV 4) (fC .non) (zO .IsNot))) (ym (fV 4)) sNx))))
  (λi as=>∃(x y z:Option O),as=[sW (yc n m J e Ds S),sI e,x,y,z])
  (Ds.map λp=>(false,wB p)) 0 [sW (yc n m J e Ds S),sI e,none,none,none] (λi x as hx' hI=>by
   obtain⟨x,y,z,rfl⟩:=hI
   rw[zzF]at hx'
   obtain⟨p,hp,rfl⟩:=zzU.mp hx'
   have mp:=zzX hp
   have hT:=A.ds p mp
   have q1:=jW (as:=[sW (yc n m J e Ds S),sI e,sT (.str p.1),sW (yg p.2),z]) hT (w:=0) (v:=e) ⟨by trivial,by trivial⟩ ⟨A.e0,A.en⟩ (zb (i:=3) rfl) (zf (x:=.int 0)) (zb (i:=1) rfl)
   have t1:=zjM q1 (zb (i:=1) (x:=.int e) (s:=true) rfl)
   rw[ne0 (L.ld p mp).em]at t1
   obtain⟨o,d,d1,d2⟩:=zpC (s:=p.1) (e:=e) (Ds:=Ds) (S:=S) n8 m1 A.m6 A.j hT (L.dn mp)
   have wc:WE (zE (aC (fV 0) (aC (fV 2) (aC (fV 3) aN))) xW) [sW (yc n m J e Ds S),sI e,sT (.str p.1),sW (yg p.2),z] .non:=⟨o,W5 (zG (zb (i:=0) rfl) (zG (zb (i:=2) rfl) (zG (zb (i:=3) rfl) zX))) d,d1,d2⟩
   exact⟨[sW (yc n m J e Ds S),sI e,sT (.str p.1),sW (yg p.2),z],rfl,_,yh (xq t1 rfl) (yh (Wy (p:=4) wc (zF rfl)) (xq (Zg (yp (zb (i:=4) rfl) zf rfl rfl) rfl) rfl)),_,_,_,rfl⟩)
  ⟨_,_,_,rfl⟩
 exact xO rfl (zR s1 (zR (vY (ztD (g:=wB) (zbL (zb (i:=0) rfl) zf rfl rfl) λ_=>rfl) hf) (yX (WD.e zf))))
theorem zfx{d:D}{x:D}{g:List (Bool×D)->Option O}{as:AS}{a:EF}(ha:WD a as false d)(hd:zL d=false)(hg:RE (g [(false,d)]) x):WE (zE (aC a aN) g) as x:=by
 obtain⟨o,h,h1,h2⟩:=hg
 exact⟨o,W5 (zG ha zX) (by show g [(zL d||false,d)]=_;rw[hd];exact h),h1,h2⟩
theorem zrW(A:Alg n m J e Ds)(L:LawA n m J e Ds):RE (Zr [(false,yc n m J e Ds S)]) .non:=by
 have r1:=zmg (m:=m) (Ds:=Ds) (S:=S) A.n8 A.j ⟨A.e0,A.en⟩ L.un
 have r2:=zlU (m:=m) (e:=e) (Ds:=Ds) (S:=S) A.n8 A.j L.as
 have r3:=zpB (S:=S) A L
 have tt:WT (fT (f2 (fV 1) (fC .non) (zO .Is))) [sW (yc n m J e Ds S),sT .non] true:=Zg (yp (zb (i:=1) rfl) zf rfl rfl) rfl
 exact xO rfl (zR (Wy (p:=1) (zfx (zb (i:=0) rfl) rfl r1) (zF rfl)) (zR (Yo tt (Wy (p:=1) (zfx (zb (i:=0) rfl) rfl r2) (zF rfl))) (zR (Yo tt (Wy (p:=1) (zfx (zb (i:=0) rfl) rfl r3) (zF rfl))) (yX (WD.e (zb (i:=1) rfl))))))
end
abbrev kvW(p:Str×TZ):L2.Key×D:=(Sum.inr p.1,zby p.2)
abbrev kvS(p:Str×List Int):L2.Key×D:=(Sum.inr p.1,VH p.2)
abbrev zcL:List Str:=["size","around","table","neutral","waits","holders"]
abbrev wQ(n m:Nat)(J:TZ)(e:Int)(Ds:DD)(S:SS):D:=.ob "Ways" zcL [.int n,.int m,zby J,.int e,.dct (Ds.map kvW),.dct (S.map kvS)]
theorem zpK(r:List Int):(r.map D.int).all zL=true:=by
 rw[List.all_map,List.all_eq_true]
 intro _ _;rfl
theorem zlx{f:EF}{as:AS}{s:Bool}{r:List Int}(h:WD f as s (yH r)):WE (zgL f) as (VH r):=by
 refine⟨.lf true (VH r), ?_,rfl,rfl⟩
 unfold zgL
 unfold WD at h
 rw[h]
 show(if(r.map D.int).all zL=true then _ else _)=_
 rw[if_pos (zpK r)]
theorem znY{T:TZ}(hl:T.length<=1000):RE (V6 [(false,yg T)]) (zby T):=
 xO rfl (yX (zkG (zbH (h:=VH) (it:=λr=>(false,yH r)) T (zoE (zb (i:=0) rfl) λ_=>rfl) (by omega) λr _=>⟨[sW (yH r)],rfl,zlx (zb (i:=0) rfl)⟩) rfl))
abbrev Zn(p:Str×TZ):O:=.nd .tp [.lf true (.str p.1),Ze p.2]
abbrev Z3(p:Str×List Int):O:=.nd .tp [.lf true (.str p.1),Yg p.2]
abbrev zoM:EF:=fP (aC (fV 0) aN) lstP
theorem zgN:∀T:TZ,xr (gN 0) yL zoM [none] ((T.map yH).map λd=>(true,d))=some (T.map Yg)
 | []=>rfl
 |r::T=>VP (as1:=[sT (yH r)]) rfl (zng (zb rfl)) (wW r).2.1 (zgN T)
theorem znJ{f:EF}{as:AS}{T:TZ}(hl:T.length<=1000)(h:WE f as (yg T)):zY (xX f) [none] (gN 0) yL zoM as=some (.ow (Ze T),as):=
 zbe (zed h) (by rw[zD,zD];exact szs (by trivial)) (zgN T)
theorem zcO(p:Str×TZ):(Zn p).str=true/\(Zn p).toD=wB p:=by
 constructor
 · show(true&&(O.strs (p.2.map Yg)&&true))=true
   rw[(Xv p.2).1];rfl
 · show D.tup [.str p.1,.lst (O.toDs (p.2.map Yg))]=_
   rw[(Xv p.2).2]
theorem zcA(p:Str×List Int):(Z3 p).str=true/\(Z3 p).toD=wA p:=by
 constructor
 · show(true&&((Yg p.2).str&&true))=true
   rw[(zah p.2).1];rfl
 · show D.tup [.str p.1,(Yg p.2).toD]=_
   rw[(zah p.2).2]
theorem zaY:∀Ds:DD,O.strs (Ds.map Zn)=true/\O.toDs (Ds.map Zn)=Ds.map wB
 | []=>⟨rfl,rfl⟩
 |p::Ds=>⟨by show((Zn p).str&&O.strs (Ds.map Zn))=true;rw[(zcO p).1,(zaY Ds).1];rfl,by
  show(Zn p).toD::O.toDs (Ds.map Zn)=_
  rw[(zcO p).2,(zaY Ds).2];rfl⟩
theorem zaT:∀S:SS,O.strs (S.map Z3)=true/\O.toDs (S.map Z3)=S.map wA
 | []=>⟨rfl,rfl⟩
 |p::S=>⟨by show((Z3 p).str&&O.strs (S.map Z3))=true;rw[(zcA p).1,(zaT S).1];rfl,by
  show(Z3 p).toD::O.toDs (S.map Z3)=_
  rw[(zcA p).2,(zaT S).2];rfl⟩
abbrev zrX:EF:=wM (dC (fV 0) (dC (zY (xX (fV 1)) [none] (gN 0) yL zoM) dN))
abbrev zrY:EF:=wM (dC (fV 0) (dC (fP (aC (fV 1) aN) lstP) dN))
theorem zmP{p:Str×TZ}(hl:p.2.length<=1000):zrX [sT (.str p.1),sT (yg p.2)]=some (.ow (Zn p),[sT (.str p.1),sT (yg p.2)]):=
 zcQ (os:=[.lf true (.str p.1),Ze p.2]) (zT (zb (i:=0) rfl) (zbB (znJ hl (WD.e (zb (i:=1) rfl))) yK)) (szl rfl)
theorem zoi{p:Str×List Int}:zrY [sT (.str p.1),sT (yH p.2)]=some (.ow (Z3 p),[sT (.str p.1),sT (yH p.2)]):=
 zcQ (os:=[.lf true (.str p.1),Yg p.2]) (zT (zb (i:=0) rfl) (zbB (zng (zb (i:=1) rfl)) yK)) (szl rfl)
theorem zfI:∀Ds:DD,(∀p ∈ Ds,p.2.length<=1000)->xr (gT 2 (gsC (gN 0) (gsC (gN 1) gsN))) yL zrX [none,none] ((Ds.map wB).map λd=>(true,d))=some (Ds.map Zn)
 | [],_=>rfl
 |p::Ds,h=>VP (as1:=[sT (.str p.1),sT (yg p.2)]) rfl (zmP (h p (zzC ..))) (zcO p).1 (zfI Ds λq m=>h q (zzA _ m))
theorem zfD:∀S:SS,xr (gT 2 (gsC (gN 0) (gsC (gN 1) gsN))) yL zrY [none,none] ((S.map wA).map λd=>(true,d))=some (S.map Z3)
 | []=>rfl
 |p::S=>VP (as1:=[sT (.str p.1),sT (yH p.2)]) rfl zoi (zcA p).1 (zfD S)
theorem zqX{as as':AS}{j:Nat}{o:O}{fr:DF}{os:List O}(h:as[j]? = some (some o))(hr:fr (as.set j none)=some (os,as')):dC (fMv j) fr as=some (o::os,as'):=by
 have e:fMv j as=some (.ow o,as.set j none):=by unfold fMv;rw[h]
 unfold dC
 rw[e];show(fr (as.set j none)).bind _=_
 rw[hr];rfl
abbrev zcW(n m:Nat)(J:TZ)(e:Int)(Ds:DD)(S:SS):O:=.nd .tp [lfI n,lfI m,Ze J,lfI e,.nd .ls (Ds.map Zn),.nd .ls (S.map Z3)]
theorem zhD(n m:Nat)(J:TZ)(e:Int)(Ds:DD)(S:SS):(zcW n m J e Ds S).str=true/\(zcW n m J e Ds S).toD=yc n m J e Ds S:=by
 constructor
 · show(true&&(true&&(O.strs (J.map Yg)&&(true&&(O.strs (Ds.map Zn)&&(O.strs (S.map Z3)&&true))))))=true
   rw[(Xv J).1,(zaY Ds).1,(zaT S).1];rfl
 · show D.tup [.int n,.int m,.lst (O.toDs (J.map Yg)),.int e,.lst (O.toDs (Ds.map Zn)),.lst (O.toDs (S.map Z3))]=_
   rw[(Xv J).2,(zaY Ds).2,(zaT S).2]
section
variable{n m:Nat}{J:TZ}{e:Int}{Ds:DD}{S:SS}
abbrev C9(n m:Nat)(J:TZ)(e:Int)(Ds:DD)(S:SS)(x y:Option O):AS:=[sT (yc n m J e Ds S),sI n,sI m,sT (yg J),sI e,sT (.lst (Ds.map wB)),sT (.lst (S.map wA)),x,y]
theorem zpR(A:Alg n m J e Ds)(sl:S.length<=3):v7 [(true,yc n m J e Ds S)]=some (zcW n m J e Ds S):=by
 have n8:=A.n8
 have m6:=A.m6
 have dl:=A.dl
 have s7:zH false 7 (zY (xX (fV 5)) [none,none] (gT 2 (gsC (gN 0) (gsC (gN 1) gsN))) yL zrX) (C9 n m J e Ds S none none)=some (.nx (C9 n m J e Ds S (sN (Ds.map Zn)) none)):=
  wO (i:=7) (zbe (zed (WD.e (zb (i:=5) rfl))) (by rw[zD,zD];exact szs (by omega)) (zfI Ds λp mp=>by rw[(A.ds p mp).1];omega)) (zF rfl)
 have s8:zH false 8 (zY (xX (fV 6)) [none,none] (gT 2 (gsC (gN 0) (gsC (gN 1) gsN))) yL zrY) (C9 n m J e Ds S (sN (Ds.map Zn)) none)=some (.nx (C9 n m J e Ds S (sN (Ds.map Zn)) (sN (S.map Z3)))):=
  wO (i:=8) (zbe (zed (WD.e (zb (i:=6) rfl))) (by rw[zD,zD];exact szs (by omega)) (zfD S)) (zF rfl)
 have w0:(dC (fV 1) (dC (fV 2) (dC (zY (xX (fV 3)) [none] (gN 0) yL zoM) (dC (fV 4) (dC (fMv 7) (dC (fMv 8) dN)))))) (C9 n m J e Ds S (sN (Ds.map Zn)) (sN (S.map Z3)))=some ([lfI n,lfI m,Ze J,lfI e,.nd .ls (Ds.map Zn),.nd .ls (S.map Z3)],_):=
  wY (zb (i:=1) rfl) (wY (zb (i:=2) rfl) (wY (znJ (by rw[A.j.1];omega) (WD.e (zb (i:=3) rfl))) (wY (zb (i:=4) rfl) (zqX (j:=7) rfl (zqX (j:=8) rfl rfl)))))
 have hr:=zkO (zhz w0 (szl rfl)) (zhD n m J e Ds S).1
 have h:zbD (ZM 9 [(true,yc n m J e Ds S)])=some (.rt (zcW n m J e Ds S)):=yh (as1:=C9 n m J e Ds S none none) (zoU (WD.e (zb (i:=0) rfl)) rfl) (yh s7 (yh s8 hr))
 unfold v7 fnR
 rw[if_pos (by rfl),h];rfl
theorem zoZ(A:Alg n m J e Ds)(L:LawA n m J e Ds):RE (xZ [(false,yc n m J e Ds S)]) .non:=by
 have h:YQ (ZM 2 [(false,yc n m J e Ds S)])=some (.nx [sW (yc n m J e Ds S),sT .non]):=yh (Wy (p:=1) (zfx (zb (i:=0) rfl) rfl (zrW A L)) (zF rfl)) (xq (Zg (yp (zb (i:=1) rfl) zf rfl rfl) rfl) rfl)
 refine⟨.lf true .non, ?_,rfl,rfl⟩
 unfold xZ fnR
 rw[if_pos (by rfl),h];rfl
theorem zsB(A:Alg n m J e Ds)(L:LawA n m J e Ds)(sl:S.length<=3)(sn:(S.map (·.1)).Nodup):wI "Ways" [(false,yc n m J e Ds S)]=some (.nd (.ob "Ways" zcL) [.lf true (.int n),.lf true (.int m),.lf true (zby J),.lf true (.int e),.lf true (.dct (Ds.map kvW)),.lf true (.dct (S.map kvS))]):=by
 have dl:=A.dl
 have n8:=A.n8
 have m6:=A.m6
 have w1:∀o,WD (fV 1) [o,sW (yc n m J e Ds S)] false (yc n m J e Ds S):=λo=>zb (i:=1) rfl
 have h4:∀o,WE (fP (aC (zY (xX (f2 (fV 1) (fC (.int 4)) ixP)) [none,none] (gT 2 (gsC (gN 0) (gsC (gN 1) gsN))) yL (wM (dC (fV 0) (dC (zE (aC (fV 1) aN) V6) dN)))) aN) zef) [o,sW (yc n m J e Ds S)] (.dct (Ds.map kvW)):=λo=>
  zul (kf:=λp:Str×TZ=>p.1) (vf:=λp=>zby p.2) A.nd (zbH (h:=λp:Str×TZ=>.tup [.str p.1,zby p.2]) (it:=λp=>(false,wB p)) Ds (zoE (g:=wB) (zbL (w1 o) zf rfl rfl) λ_=>rfl) (by omega) λp mp=>⟨[sT (.str p.1),sW (yg p.2)],rfl,zll (WD.e (zb (i:=0) rfl)) (zfx (zb (i:=1) rfl) rfl (znY (by rw[(A.ds p mp).1];omega)))⟩)
 have h5:∀o,WE (fP (aC (zY (xX (f2 (fV 1) (fC (.int 5)) ixP)) [none,none] (gT 2 (gsC (gN 0) (gsC (gN 1) gsN))) yL (wM (dC (fV 0) (dC (zgL (fV 1)) dN)))) aN) zef) [o,sW (yc n m J e Ds S)] (.dct (S.map kvS)):=λo=>
  zul (kf:=λp:Str×List Int=>p.1) (vf:=λp=>VH p.2) sn (zbH (h:=λp:Str×List Int=>.tup [.str p.1,VH p.2]) (it:=λp=>(false,wA p)) S (zoE (g:=wA) (zbL (w1 o) zf rfl rfl) λ_=>rfl) (by omega) λp mp=>⟨[sT (.str p.1),sW (yH p.2)],rfl,zll (WD.e (zb (i:=0) rfl)) (zlx (zb (i:=1) rfl))⟩)
 have hi:∀o (c:Int) (d:D),ixP (yc n m J e Ds S) (.int c)=some (.im d)->zL d=true->WE (f2 (fV 1) (fC (.int c)) ixP) [o,sW (yc n m J e Ds S)] d:=λo c d h hd=>WD.e (yp (w1 o) zf h hd)
 have h:Yv (zcI 2 (ob0 "Ways"::[(false,yc n m J e Ds S)].map lfD))=some [some (.nd (.ob "Ways" zcL) [.lf true (.int n),.lf true (.int m),.lf true (zby J),.lf true (.int e),.lf true (.dct (Ds.map kvW)),.lf true (.dct (S.map kvS))]),sW (yc n m J e Ds S)]:=
  YM (zof (zfx (w1 _) rfl (zoZ A L))) (YM (Wu (c:="Ways") (i:=0) (ns:=[]) (os:=[]) (hi _ 0 _ rfl rfl) rfl (by decide +kernel) (by decide +kernel) (by decide)) (YM (Wu (c:="Ways") (i:=0) (hi _ 1 _ rfl rfl) rfl (by decide +kernel) (by decide +kernel) (by decide)) (YM (Wu (c:="Ways") (i:=0) (zfx (zbL (w1 _) zf rfl rfl) rfl (znY (by rw[A.j.1];omega))) rfl (by decide +kernel) (by decide +kernel) (by decide)) (YM (Wu (c:="Ways") (i:=0) (hi _ 3 _ rfl rfl) rfl (by decide +kernel) (by decide +kernel) (by decide)) (YM (Wu (c:="Ways") (i:=0) (h4 _) rfl (by decide +kernel) (by decide +kernel) (by decide)) (Wu (c:="Ways") (i:=0) (h5 _) rfl (by decide +kernel) (by decide +kernel) (by decide)))))))
 unfold wI fnI
 rw[if_pos (by rfl),h];rfl
end
theorem zpx{a b c:EF}{as:AS}{s t u:Bool}{i j k:Int}(ha:WD a as s (.int i))(hb:WD b as t (.int j))(hc:WD c as u (.int k)):WD (Y7 a b c (zO .LtE) (zO .LtE)) as true (.bl (decide (i<=j)&&decide (j<=k))):=by
 unfold WD at *
 by_cases h:i<=j
 · unfold Y7
   rw[ha];simp only[zyI]
   rw[hb];simp only[zyI]
   simp only[RV.frz,O.frz,RV.view,O.toD,O.str,zyI,zO,zho,onI,asI,blR,h,decide_true,hc,Bool.true_and]
   rfl
 · unfold Y7
   rw[ha];simp only[zyI]
   rw[hb];simp only[zyI]
   simp only[RV.frz,O.frz,RV.view,O.toD,O.str,zyI,zO,zho,onI,asI,blR,h,decide_false,Bool.false_and]
section
variable{n m:Nat}{J:TZ}{e:Int}{Ds:DD}{S:SS}
theorem zpr(m1:1<=m)(m6:m<=6)(n8:n<=8):RE (zal [(true,wQ n m J e Ds S)]) (zby (idT n m)):=by
 have ws:WD (f1 (fV 0) (Wo WQ "size")) [sT (wQ n m J e Ds S)] true (.int n):=zgo (c:="Ways") (ns:=zcL) rfl (by decide +kernel) rfl
 have wa:WD (f1 (fV 0) (Wo YL "around")) [sT (wQ n m J e Ds S)] true (.int m):=zgo (c:="Ways") (ns:=zcL) rfl (by decide +kernel) rfl
 have wt:WE (wM (dC (fP (aC (f1 (fV 0) (Wo WQ "size")) aN) trP) dN)) [sT (wQ n m J e Ds S)] (.tup [VH (Ys n)]):=zpq (zkG (WD.e ws) (by
  show(if(0:Int)<=n/\(n:Int)<=100000 then some (R0.im (.tup ((List.range (n:Int).toNat).map λ(i:Nat)=>.int i)))else none)=_
  rw[if_pos ⟨by omega,by omega⟩,zyF]
  show _=some (R0.im (.tup ((Ys n).map D.int)))
  rw[zzY];rfl))
 refine xO rfl (yX (zaz wt (WD.e wa) ?_))
 show(if 1<=(m:Int)/\(m:Int)<2 ^ 63/\([VH (Ys n)]:List D).length≠0/\([VH (Ys n)]:List D).length*(m:Int).toNat<=sizeLine then some (R0.im (.tup (List.replicate (m:Int).toNat [VH (Ys n)]).flatten))else none)=_
 rw[if_pos ⟨by omega,by omega,Nat.one_ne_zero,by show 1*_<=_;exact szs (by omega)⟩,zyF,List.flatten_replicate_singleton]
 show _=some (R0.im (.tup ((List.replicate m (Ys n)).map VH)))
 rw[List.map_replicate]
theorem zkk{p:Str×TZ}(nd:(Ds.map (·.1)).Nodup)(hp:p ∈ Ds):RE (Xc [(true,wQ n m J e Ds S),(true,.str p.1)]) (zby p.2):=by
 have ww:WD (f1 (fV 0) (Wo zaQ "waits")) [sT (wQ n m J e Ds S),sT (.str p.1)] true (.dct (Ds.map kvW)):=zgo (c:="Ways") (ns:=zcL) rfl (by decide +kernel) rfl
 refine xO rfl (yX (zaz (WD.e ww) (WD.e (zb (i:=1) rfl)) ?_))
 show imR (V5 (Ds.map kvW) (.inr p.1))=_
 rw[zhn (kf:=λp:Str×TZ=>p.1) (vf:=λp=>zby p.2) hp nd];rfl
theorem zlr{W:TZ}{v k:Int}(m1:1<=m)(h1:Tab m n W)(hv:InR n v):VM [(true,wQ n m J e Ds S),(true,zby W),(true,.int v),(true,.int k)]=sI (jAt W (k%m) v):=by
 have wa:WD (f1 (fV 0) (Wo YL "around")) [sT (wQ n m J e Ds S),sT (zby W),sI v,sI k] true (.int m):=zgo (c:="Ways") (ns:=zcL) rfl (by decide +kernel) rfl
 exact Ws rfl (Yp (zmJ h1 (zgu m1) hv (zb (i:=1) rfl) (yt (zb (i:=3) rfl) wa (by omega)) (zb (i:=2) rfl)))
theorem zlN:RE (Xd [(true,wQ n m J e Ds S)]) (.int e):=xO rfl (yX (WD.e (zgo (c:="Ways") (ns:=zcL) rfl (by decide +kernel) rfl)))
theorem zrN{a b:Int}(hJ:Tab n n J)(ha:InR n a)(hb:InR n b):RE (zaj [(true,wQ n m J e Ds S),(true,.int a),(true,.int b)]) (.int (jAt J a b)):=
 xO rfl (yX (WD.e (zmJ hJ ha hb (zgo (c:="Ways") (ns:=zcL) rfl (by decide +kernel) rfl) (zb (i:=1) rfl) (zb (i:=2) rfl))))
theorem zhu(b:Int):∀r:List Int,anyF (λy=>eqF 50 y (.int b)) (r.map D.int)=some (r.any (· == b))
 | []=>rfl
 |x::r=>by
  show(some (x==b)).bind _=_
  rw[zyI,zhu b r];rfl
theorem zrI{p:Str×List Int}{a:Int}(nd:(S.map (·.1)).Nodup)(hp:p ∈ S):RE (Yc [(true,wQ n m J e Ds S),(true,.str p.1),(true,.int a)]) (.bl (p.2.any (· == a))):=by
 have ww:WD (f1 (fV 0) (Wo ZJ "holders")) [sT (wQ n m J e Ds S),sT (.str p.1),sI a] true (.dct (S.map kvS)):=zgo (c:="Ways") (ns:=zcL) rfl (by decide +kernel) rfl
 have w2:WD (f2 (f1 (fV 0) (Wo ZJ "holders")) (fV 1) ixP) [sT (wQ n m J e Ds S),sT (.str p.1),sI a] true (VH p.2):=zcG ww (zb (i:=1) rfl) (by
  show imR (V5 (S.map kvS) (.inr p.1))=_
  rw[zhn (kf:=λp:Str×List Int=>p.1) (vf:=λp=>VH p.2) hp nd];rfl)
 exact xO rfl (yX (WD.e (yp (zb (i:=2) rfl) w2 (by show(anyF _ (p.2.map D.int)).bind _=_;rw[zhu];rfl) rfl)))
theorem zlB{a b:Bool}:RE (yx [(true,.bl a),(true,.bl b)]) (.bl (a==b)):=
 xO rfl (yX (WD.e (zdr (k:=true) (zhP (zb (i:=0) rfl) rfl) (λ_=>zcv (zb (i:=0) rfl) (zb (i:=1) rfl) (by cases a<;>cases b<;>rfl)) (λh=>nomatch h))))
def iD:D->Option Int
 | .int i=>some i
 |_=>none
def tD:D->Option Str
 | .str s=>some s
 |_=>none
def vD(n:Nat)(d:D):Bool:=match iD d with
 |some i=>decide (0<=i)&&decide (i<n)
 |none=>false
def sD(l:List Str)(d:D):Bool:=match tD d with
 |some s=>l.any (· == s)
 |none=>false
theorem ztO{f:EF}{as:AS}{d:D}(h:WD f as true d)(ho:Wi d=true):WD (zcl (Wf f "int") (zlV (Wf f "bool"))) as true (.bl (iD d).isSome):=
 zdr (k:=zdV (tyD d) "int") (zkl h ho) (λq=>by
  have:=znW (zkl (cl:="bool") h ho)
  have e:(!zdV (tyD d) "bool")=(iD d).isSome:=by
   cases d with
   |int|bl=>rfl
   |_=>first|cases q|cases ho
  rw[e]at this;exact this) λq=>by
  cases d with
  |int=>cases q
  |_=>rfl
theorem ztU{f:EF}{as:AS}{d:D}(h:WD f as true d)(ho:Wi d=true):WD (Wf f "str") as true (.bl (tD d).isSome):=zhP h (by
 cases d with
 |cl|ob=>cases ho
 |_=>rfl) ho
theorem zra{d:D}{i:Int}(h:iD d=some i):d = .int i:=by
 cases d with
 |int=>cases h;rfl
 |_=>cases h
theorem zqY{d:D}{s:Str}(h:tD d=some s):d = .str s:=by
 cases d with
 |str=>cases h;rfl
 |_=>cases h
theorem zqd{d:D}(ho:Wi d=true):RE (Yu [(true,wQ n m J e Ds S),(true,d)]) (.bl (vD n d)):=by
 have ws:WD (f1 (fV 0) (Wo WQ "size")) [sT (wQ n m J e Ds S),sT d] true (.int n):=zgo (c:="Ways") (ns:=zcL) rfl (by decide +kernel) rfl
 have hi:RE (Z5 [(true,d),(true,.int 0),(true,.int (n-1))]) (.bl (vD n d)):=by
  have w0:WD (zE (aC (fV 0) aN) ZK) [sT d,sI 0,sI (n-1)] true (.bl (iD d).isSome):=by
   exact Xr (zG (zb (i:=0) rfl) zX) (by show ZK [(zL d||true,d)]=_;rw[zyA];exact Ws rfl (Yp (ztO (zb (i:=0) rfl) ho)))
  refine xO rfl (yX (WD.e (zdr w0 (λq=>?_) λq=>?_)))
  · obtain⟨i,hi⟩:=Option.isSome_iff_exists.mp q
    have e:=zra hi
    subst e
    have:=zpx (as:=[sT (.int i),sI 0,sI ((n:Int)-1)]) (zb (i:=1) (x:=.int 0) rfl) (zb (i:=0) (x:=.int i) rfl) (zb (i:=2) (x:=.int (n-1)) rfl)
    rw[show decide (i<=(n:Int)-1)=decide (i<(n:Int))from decide_eq_decide.mpr ⟨λ_=>by omega,λ_=>by omega⟩]at this
    exact this
  · unfold vD
    cases h:iD d with
    |none=>rfl
    |some i=>rw[h]at q;cases q
 exact xO rfl (yX (zeW (WD.e (zb (i:=1) rfl)) (WD.e zf) (WD.e (zcR ws zf)) hi))
theorem zlm{α:Type}{kf:α->Str}{vf:α->D}(s:Str):∀l:List α,(V5 (l.map λp=>(.inr (kf p),vf p)) (.inr s)).isSome=(l.map kf).any (· == s)
 | []=>rfl
 |p::l=>by
  have ih:=zlm (kf:=kf) (vf:=vf) s l
  unfold V5 at ih ⊢
  rw[zyP,List.find?_cons,zyP,List.any_cons]
  by_cases h:kf p=s
  · rw[show decide ((Sum.inr (kf p):L2.Key)=Sum.inr s)=true by simp[h],show(kf p==s)=true by simp[h]];rfl
  · rw[show decide ((Sum.inr (kf p):L2.Key)=Sum.inr s)=false by simp[h],show(kf p==s)=false by simp[h]]
    exact ih
theorem zqL{α:Type}{kf:α->Str}{vf:α->D}{l:List α}{fd:EF}{d:D}{as:AS}{s:Bool}(hd:WD fd as s (.dct (l.map λp=>(.inr (kf p),vf p))))(h:WD (fV 1) as true d)(ho:Wi d=true):WD (zcl (Wf (fV 1) "str") (f2 (fV 1) fd (zO .In))) as true (.bl (sD (l.map kf) d)):=by
 refine zdr (ztU h ho) (λq=>?_) λq=>?_
 · obtain⟨s,hs⟩:=Option.isSome_iff_exists.mp q
   have e:=zqY hs
   subst e
   refine yp h hd ?_ rfl
   show some (blR (V5 (l.map λp=>(.inr (kf p),vf p)) (.inr s)).isSome)=_
   rw[zlm];rfl
 · unfold sD
   cases h:tD d with
   |none=>rfl
   |some i=>rw[h]at q;cases q
theorem zsO{d:D}(ho:Wi d=true):RE (Y5 [(true,wQ n m J e Ds S),(true,d)]) (.bl (sD (Ds.map (·.1)) d)):=
 xO rfl (yX (WD.e (zqL (kf:=λp:Str×TZ=>p.1) (vf:=λp=>zby p.2) (zgo (c:="Ways") (ns:=zcL) rfl (by decide +kernel) rfl) (zb (i:=1) rfl) ho)))
theorem zpZ{d:D}(ho:Wi d=true):RE (Y0 [(true,wQ n m J e Ds S),(true,d)]) (.bl (sD (S.map (·.1)) d)):=
 xO rfl (yX (WD.e (zqL (kf:=λp:Str×List Int=>p.1) (vf:=λp=>VH p.2) (zgo (c:="Ways") (ns:=zcL) rfl (by decide +kernel) rfl) (zb (i:=1) rfl) ho)))
end
theorem weF{f:EF}{as:AS}{d:D}(hd:zL d=true)(h:WE f as d):WD f as true d:=by
 obtain⟨o,h,h1,h2⟩:=h
 cases o with
 |lf s x=>subst h2;rw[show s=true from h1]at h;exact h
 |nd k os=>subst h2;cases k<;>cases hd
theorem wtE{f:EF}{as:AS}{k:Bool}(h:WE f as (.bl k)):WT (fT f) as k:=Zg (weF rfl h) rfl
theorem zqt{x:Int}:RE (ye [(true,.int x)]) (.bl true):=⟨_,zmY,rfl,rfl⟩
theorem zmQ{f f' g:EF}{as:AS}{x:Int}(h:WE f as (.int x))(h':WE f' as (.int x))(hg:WD g as true (.int x)):WT (Wl (wk (fT (zE (aC f aN) ye))) (fT (f2 f' g (zO .NotEq)))) as false:=
 zgU (zbF (wtE (zmH h zqt))) (λ_=>by have:=zjM (weF rfl h') hg;rw[ne0 rfl]at this;exact this) (λq=>nomatch q)
theorem znf{α:Type}{g:GF}{f:SF}{it:α->It1}(I:AS->Prop):∀(l:List α),(∀x ∈ l,∀as,I as->∃as1,g (it x) as=some as1/\Nx (f as1) I)->∀as,I as->Nx (forL g f (l.map it) as) I
 | [],_,as,h=>⟨as,rfl,h⟩
 |x::l,H,as,h=>by
  obtain⟨as1,h1,as2,h2,h3⟩:=H x zzC as h
  obtain⟨as3,h4,h5⟩:=znf I l (λy my=>H y (zzA _ my)) as2 h3
  exact⟨as3,zcK h1 h2 h4,h5⟩
theorem Nx.seq{f g:SF}{as:AS}{I I':AS->Prop}(h:Nx (f as) I)(k:∀as',I as'->Nx (g as') I'):Nx (zB f g as) I':=by
 obtain⟨a,b,c⟩:=h
 obtain⟨a',b',c'⟩:=k a c
 exact⟨a',yh b b',c'⟩
theorem Nx.rt{f g:SF}{as:AS}{I:AS->Prop}{x:D}(h:Nx (f as) I)(k:∀as',I as'->Rt (g as') x):Rt (zB f g as) x:=by
 obtain⟨a,b,c⟩:=h
 exact zR b (k a c)
theorem zqK{α:Type}{f:EF}{as:AS}{g:α->D}{l:List α}(h:WD f as true (.lst (l.map g))):zbI f as=some (l.map λa=>(true,g a),as):=by
 rw[ztN h,zzY];rfl
section
variable{n m:Nat}{J:TZ}{e:Int}{Ds:DD}{S:SS}
abbrev J13(n m:Nat)(J:TZ)(e:Int)(Ds:DD)(S:SS)(a b c d f:Option O):AS:=[sT (wQ n m J e Ds S),sT (yc n m J e Ds S),sI n,sI m,sT (yg J),sI e,sT (.lst (Ds.map wB)),sT (.lst (S.map wA)),a,b,c,d,f]
theorem zmw(A:Alg n m J e Ds)(sn:(S.map (·.1)).Nodup):RE (xx [(true,wQ n m J e Ds S),(true,yc n m J e Ds S)]) (.bl true):=by
 have n8:=A.n8
 have s1:zfH (fV 1) (gT 6 (gsC (gN 2) (gsC (gN 3) (gsC (gN 4) (gsC (gN 5) (gsC (gN 6) (gsC (gN 7) gsN))))))) [sT (wQ n m J e Ds S),sT (yc n m J e Ds S),none,none,none,none,none,none,none,none,none,none,none]=some (.nx (J13 n m J e Ds S none none none none none)):=zoU (WD.e (zb (i:=1) rfl)) rfl
 have wy:∀a b c d f,WD (fV 0) (J13 n m J e Ds S a b c d f) true (wQ n m J e Ds S):=λ_ _ _ _ _=>zb (i:=0) rfl
 have nt:∀a b c d f,WE (vC Vb "nothing" (fV 0) aN) (J13 n m J e Ds S a b c d f) (.int e):=λ_ _ _ _ _=>zqH (wy _ _ _ _ _) (by decide +kernel) rfl zlN
 have k:=YX (v:=8) (n:=n) (f:=(zB (xJ (yM (aC (fV 2) aN) yP) (gN 9) (zB (zH true 10 (vC zhL "join" (fV 0) (aC (fV 8) (aC (fV 9) aN))))
  (sIf (Wl (wk (fT (zE (aC (fV 10) aN) ye))) (fT (f2 (fV 10) (f2 (f2 (fV 4) (fV 8) ixP) (fV 9) ixP) (zO .NotEq)))) (ym (fC (.bl false))) sNx)))
  (xJ (zbI (fV 7)) (gT 2 (gsC (gN 11) (gsC (gN 12) gsN))) (sIf (wk (fT (zE (aC (vC zak "has_sign" (fV 0) (aC (fV 11) (aC (fV 8) aN))) (aC (f2 (fV 8) (fV 12) (zO .In)) aN)) yx))) (ym (fC (.bl false))) sNx)))) (as:=J13 n m J e Ds S none none none none none) (λas=>∃a b c d f,as=J13 n m J e Ds S a b c d f) (λa ha as hI=>by
  obtain⟨x,b,c,d,f,rfl⟩:=hI
  refine⟨J13 n m J e Ds S (sI a) b c d f,rfl,Nx.seq (I:=λas=>∃b c d f,as=J13 n m J e Ds S (sI a) b c d f) ?_ λas' hI'=>?_⟩
  · rw[vp (v:=2) (n:=n) rfl (by trivial)]
    refine YX (v:=9) (n:=n) (λas=>∃b c d f,as=J13 n m J e Ds S (sI a) b c d f) (λb hb as hI=>?_) ⟨_,_,_,_,rfl⟩
    obtain⟨x,c,d,f,rfl⟩:=hI
    refine⟨J13 n m J e Ds S (sI a) (sI b) c d f,rfl,J13 n m J e Ds S (sI a) (sI b) (sI (jAt J a b)) d f,yh (Wy (p:=10) (zqZ (wy _ _ _ _ _) (by decide +kernel) rfl (WD.e (zb (i:=8) rfl)) (WD.e (zb (i:=9) rfl)) (zrN A.j ha hb)) (zF rfl)) (xq (zmQ (WD.e (zb (i:=10) rfl)) (WD.e (zb (i:=10) rfl)) (zsh A.j ha hb (zb (i:=4) rfl) (zb (i:=8) rfl) (zb (i:=9) rfl))) rfl),_,_,_,_,rfl⟩
  · obtain⟨b,c,d,f,rfl⟩:=hI'
    rw[vY (zqK (g:=wA) (zb (i:=7) rfl)) rfl]
    refine(znf (g:=gT 2 (gsC (gN 11) (gsC (gN 12) gsN))) (it:=λp=>(true,wA p)) (λas=>∃d f,as=J13 n m J e Ds S (sI a) b c d f) S (λp mp as hI=>?_) _ ⟨_,_,rfl⟩).imp λas ⟨d,f,q⟩=>⟨_,_,_,d,f,q⟩
    obtain⟨d,f,rfl⟩:=hI
    refine⟨J13 n m J e Ds S (sI a) b c (sT (.str p.1)) (sT (yH p.2)),rfl,zjf (zbF (wtE (zcz (zqZ (wy _ _ _ _ _) (by decide +kernel) rfl (WD.e (zb (i:=11) rfl)) (WD.e (zb (i:=8) rfl)) (zrI sn mp)) (WD.e (yp (zb (i:=8) rfl) (zb (i:=12) rfl) (by show(anyF _ (p.2.map D.int)).bind _=_;rw[zhu];rfl) rfl)) zlB))) (by simp) ⟨_,_,rfl⟩⟩) ⟨_,_,_,_,_,rfl⟩
 rw[<-vp (v:=2) (n:=n) (as:=J13 n m J e Ds S none none none none none) rfl (by trivial)]at k
 exact xO rfl (zR s1 (zR (xq (zmQ (nt _ _ _ _ _) (nt _ _ _ _ _) (zb (i:=5) rfl)) rfl) (k.rt λ_ _=>yX (WD.e zf))))
abbrev D13(n m:Nat)(J:TZ)(e:Int)(Ds:DD)(S:SS)(k:Int)(a b c d:Option O):AS:=[sT (wQ n m J e Ds S),sT (yc n m J e Ds S),sI k,sI n,sI m,sT (yg J),sI e,sT (.lst (Ds.map wB)),sT (.lst (S.map wA)),a,b,c,d]
theorem zqm{k:Int}(A:Alg n m J e Ds):RE (ZL [(true,wQ n m J e Ds S),(true,yc n m J e Ds S),(true,.int k)]) (.bl true):=by
 have n8:=A.n8
 have m1:=A.m1
 have m6:=A.m6
 have s1:zfH (fV 1) (gT 6 (gsC (gN 3) (gsC (gN 4) (gsC (gN 5) (gsC (gN 6) (gsC (gN 7) (gsC (gN 8) gsN))))))) [sT (wQ n m J e Ds S),sT (yc n m J e Ds S),sI k,none,none,none,none,none,none,none,none,none,none]=some (.nx (D13 n m J e Ds S k none none none none)):=zoU (WD.e (zb (i:=1) rfl)) rfl
 have wy:∀a b c d,WD (fV 0) (D13 n m J e Ds S k a b c d) true (wQ n m J e Ds S):=λ_ _ _ _=>zb (i:=0) rfl
 have q:=YX (v:=9) (n:=n) (f:=(sIf (Wl (fT (f2 (fV 2) (fC (.int 0)) (zO .Gt))) (fT (f2 (fV 9) (fV 6) (zO .Eq)))) (zB (sIf (fT (f2 (vC WY "made" (fV 0) (aC (vC zeK "idle" (fV 0) aN) (aC (fV 9) (aC (fV 2) aN)))) (fV 9) (zO .NotEq))) (ym (fC (.bl false))) sNx)
  (xJ (zbI (fV 7)) (gT 2 (gsC (gN 10) (gsC (gN 11) gsN))) (zB (zH true 12 (vC WY "made" (fV 0) (aC (vC Vl "wait_of" (fV 0) (aC (fV 10) aN)) (aC (fV 9) (aC (fV 2) aN)))))
  (sIf (Wl (wk (fT (zE (aC (fV 12) aN) ye))) (fT (f2 (fV 12) (f2 (f2 (fV 11) (f2 (fV 2) (fV 4) (zm .Mod)) ixP) (fV 9) ixP) (zO .NotEq)))) (ym (fC (.bl false))) sNx)))) sNx)) (as:=D13 n m J e Ds S k none none none none) (λas=>∃a b c d,as=D13 n m J e Ds S k a b c d) (λa ha as hI=>by
  obtain⟨x,b,c,d,rfl⟩:=hI
  refine⟨D13 n m J e Ds S k (sI a) b c d,rfl, ?_⟩
  have tt:WT (Wl (fT (f2 (fV 2) (fC (.int 0)) (zO .Gt))) (fT (f2 (fV 9) (fV 6) (zO .Eq)))) (D13 n m J e Ds S k (sI a) b c d) (decide (0<k)||(a==e)):=zgU (Zg (zgP (zb (i:=2) rfl) zf) rfl) (λh=>by rw[h,Bool.false_or];exact eqT (zb (i:=9) rfl) (zb (i:=6) rfl) rfl) (λh=>by rw[h];rfl)
  cases hq:(decide (0<k)||(a==e))with
  |false=>rw[hq]at tt;exact⟨_,xq tt rfl,_,_,_,_,rfl⟩
  |true=>
   rw[hq]at tt
   have t1:=zjM (as:=D13 n m J e Ds S k (sI a) b c d) (weF rfl (zqQ (tbl:=WY) (m:="made") (wy _ _ _ _) (by decide +kernel) rfl (zqH (tbl:=zeK) (m:="idle") (wy _ _ _ _) (by decide +kernel) rfl (zpr m1 m6 n8)) (WD.e (zb (i:=9) rfl)) (WD.e (zb (i:=2) rfl)) ⟨_,zlr (k:=k) m1 (zry n m) ha,rfl,rfl⟩)) (zb (i:=9) (x:=.int a) (s:=true) rfl)
   rw[ne0 (zud (zgu m1) ha)]at t1
   obtain⟨as',h,d',c',b',q⟩:Nx (forL (gT 2 (gsC (gN 10) (gsC (gN 11) gsN))) (zB (zH true 12 (vC WY "made" (fV 0) (aC (vC Vl "wait_of" (fV 0) (aC (fV 10) aN)) (aC (fV 9) (aC (fV 2) aN)))))
    (sIf (Wl (wk (fT (zE (aC (fV 12) aN) ye))) (fT (f2 (fV 12) (f2 (f2 (fV 11) (f2 (fV 2) (fV 4) (zm .Mod)) ixP) (fV 9) ixP) (zO .NotEq)))) (ym (fC (.bl false))) sNx)) (Ds.map λp=>(true,wB p)) (D13 n m J e Ds S k (sI a) b c d)) (λas=>∃b c d,as=D13 n m J e Ds S k (sI a) b c d):=znf (g:=gT 2 (gsC (gN 10) (gsC (gN 11) gsN))) (it:=λp=>(true,wB p)) (λas=>∃b c d,as=D13 n m J e Ds S k (sI a) b c d) Ds (λp mp as hI=>by
     obtain⟨b,c,d,rfl⟩:=hI
     have hT:=A.ds p mp
     exact⟨D13 n m J e Ds S k (sI a) (sT (.str p.1)) (sT (yg p.2)) d,rfl,D13 n m J e Ds S k (sI a) (sT (.str p.1)) (sT (yg p.2)) (sI (jAt p.2 (k%m) a)),yh (Wy (p:=12) (zqQ (wy _ _ _ _) (by decide +kernel) rfl (zlA (wy _ _ _ _) (by decide +kernel) rfl (WD.e (zb (i:=10) rfl)) (zkk A.nd mp)) (WD.e (zb (i:=9) rfl)) (WD.e (zb (i:=2) rfl)) ⟨_,zlr (k:=k) m1 hT ha,rfl,rfl⟩) (zF rfl)) (xq (zmQ (WD.e (zb (i:=12) rfl)) (WD.e (zb (i:=12) rfl)) (jW hT (zgu m1) ha (zb (i:=11) rfl) (yt (zb (i:=2) rfl) (zb (i:=4) (x:=.int m) (s:=true) rfl) (by omega)) (zb (i:=9) rfl))) rfl),_,_,_,rfl⟩) _ ⟨_,_,_,rfl⟩
   exact⟨as',Yo tt (yh (xq t1 rfl) (vY (zqK (g:=wB) (zb (i:=7) rfl)) h)),_,_,_,_,q⟩) ⟨_,_,_,_,rfl⟩
 rw[<-vp (v:=3) (n:=n) (as:=D13 n m J e Ds S k none none none none) rfl (by trivial)]at q
 exact xO rfl (zR s1 (q.rt λ_ _=>yX (WD.e zf)))
end
section
variable{n m:Nat}{J:TZ}{e:Int}{Ds:DD}{S:SS}
abbrev nmL(Ds:DD)(S:SS):List (Str×D):=(Ds.map λp=>(p.1,yg p.2))++S.map λp=>(p.1,yH p.2)
abbrev prD(q:Str×D):D:=.tup [.str q.1,q.2]
theorem zso(Ds:DD)(S:SS):Ds.map wB++S.map wA=(nmL Ds S).map prD:=by
 rw[zyJ,zzY,zzY];rfl
theorem zkp(dl:Ds.length<=6)(sl:S.length<=3):(nmL Ds S).length<=9:=by
 rw[zzG,zD,zD];omega
theorem zut(h1:∀p ∈ Ds,p.1.length<=8)(h2:∀p ∈ S,p.1.length<=8):∀q ∈ nmL Ds S,q.1.length<=8:=λq mq=>by
 rcases zzJ.mp mq with m|m
 · obtain⟨p,mp,rfl⟩:=zxB.mp m
   exact h1 p mp
 · obtain⟨p,mp,rfl⟩:=zxB.mp m
   exact h2 p mp
theorem zqV{as:AS}{a:EF}(h:WE a as (yc n m J e Ds S))(hc:∀q:Str×D,gN 0 (true,prD q) (YH [none] as)=some [sT (prD q)])(dl:Ds.length<=6)(sl:S.length<=3):WE (zY (xX (f2 (f2 a (fC (.int 4)) ixP) (f2 a (fC (.int 5)) ixP) (zm .Add))) [none] (gN 0) yL (f2 (fV 0) (fC (.int 0)) ixP)) as (.lst ((nmL Ds S).map λq=>.str q.1)):=by
 have w:=zrU (zaz (g:=ixP) (z:=.lst (Ds.map wB)) h (WD.e (zf (x:=.int 4))) rfl) (zaz (g:=ixP) (z:=.lst (S.map wA)) h (WD.e (zf (x:=.int 5))) rfl) (add_lists (xs:=Ds.map wB) (ys:=S.map wA) (by rw[zD,zD];exact szs (by omega)))
 rw[zso]at w
 have i:=zed w
 rw[zzY]at i
 exact zbH (h:=λq:Str×D=>.str q.1) (it:=λq=>(true,prD q)) (nmL Ds S) i (by have:=zkp dl sl;omega) λq _=>⟨[sT (prD q)],hc q,zaz (WD.e (zb (i:=0) rfl)) (WD.e zf) rfl⟩
theorem all_map{α:Type}{h:α->D}(k:∀x,Wi (h x)=true)(l:List α):(l.map h).all Wi=true:=by
 rw[List.all_map,List.all_eq_true]
 exact λx _=>k x
theorem zeU{a b:EF}{as:AS}{xs ys:List D}(ha:WE a as (.lst xs))(hb:WE b as (.lst ys))(hl:xs.length+ys.length<=1000)(h1:xs.all Wi=true)(h2:ys.all Wi=true):WE (f2 a b (zm .Add)) as (.lst (xs++ys))/\(xs++ys).all Wi=true:=
 ⟨zrU ha hb (add_lists (szs (by omega))),by rw[List.all_append,h1,h2];rfl⟩
theorem nmI{as:AS}{i:Nat}{ns:List (Str×D)}(h:as[i]? = some (sT (.lst (ns.map λq=>.str q.1)))):xX (fV i) as=some (ns.map λq=>(true,.str q.1),as):=by
 have:=zed (WD.e (zb h))
 rw[zzY]at this
 exact this
theorem p60:(0:Int)<10 ^ ((60:Int).toNat):=Int.pow_pos (by decide)
theorem zsE{c:Int}(dl:Ds.length<=6)(sl:S.length<=3)(hs:∀q ∈ nmL Ds S,q.1.length<=8):∃ds,RE (Wq [(true,yc n m J e Ds S),(true,.int c)]) (.lst ds)/\ds.all Wi=true/\ds.length<=100:=by
 have nl:=zkp dl sl
 have s2:zH true 2 (f2 (fV 0) (fC (.int 0)) ixP) [sT (yc n m J e Ds S),sI c,none,none,none,none]=some (.nx [sT (yc n m J e Ds S),sI c,sI n,none,none,none]):=yF (i:=2) (yp (zb (i:=0) rfl) zf rfl rfl) (zF rfl)
 obtain⟨r,s3⟩:∃r:Int,zH true 3 (f2 (fC (.int 1)) (f2 (fV 1) (f2 (fC (.int 10)) (fC (.int 60)) (zm .Pow)) (zm .Mod)) (zm .Add)) [sT (yc n m J e Ds S),sI c,sI n,none,none,none]=some (.nx [sT (yc n m J e Ds S),sI c,sI n,sI r,none,none]):=
  ⟨_,yF (i:=3) (xf zf (yt (zb (i:=1) rfl) (zri (zf (x:=.int 10)) (zf (x:=.int 60)) ⟨by decide,by decide,by decide⟩) p60)) (zF rfl)⟩
 have s4:zH true 4 (zY (xX (f2 (f2 (fV 0) (fC (.int 4)) ixP) (f2 (fV 0) (fC (.int 5)) ixP) (zm .Add))) [none] (gN 0) yL (f2 (fV 0) (fC (.int 0)) ixP)) [sT (yc n m J e Ds S),sI c,sI n,sI r,none,none]=some (.nx [sT (yc n m J e Ds S),sI c,sI n,sI r,sT (.lst ((nmL Ds S).map λq=>.str q.1)),none]):=Wy (p:=4) (zqV (WD.e (zb (i:=0) rfl)) (λ_=>rfl) dl sl) (zF rfl)
 generalize nmL Ds S=ns at s4 hs nl
 obtain⟨xs,h5,x1,x2⟩:∃xs,WE (wD (dC (fV 2) (dC (f1 (fC (.int 1)) znd) (dC (fC (.bl true)) (dC (fC (.bl false)) (dC (fC .non) (dC (fC (.str "0")) (dC (fC (.str "a b")) (dC (wD (dC (fC (.int 0)) dN)) (dC (wM (dC (fC (.int 0)) dN)) (dC (f2 (fV 2) (fV 3) (zm .Add)) (dC (f2 (fC (.int 0)) (fV 3) (zm .Sub)) (dC (fC (.str "")) (dC (fC (.str "Ab")) (dC (wD dN) (dC fD0 dN)))))))))))))))) [sT (yc n m J e Ds S),sI c,sI n,sI r,sT (.lst (ns.map λq=>.str q.1)),none] (.lst xs)/\xs.all Wi=true/\xs.length=15:=
  ⟨_,Zm (os:=[lfI n,lfI (-1),.lf true (.bl true),.lf true (.bl false),.lf true .non,.lf true (.str "0"),.lf true (.str "a b"),.nd .ls [lfI 0],YB [lfI 0],lfI (n+r),lfI (0-r),.lf true (.str ""),.lf true (.str "Ab"),.nd .ls [],.nd (.dc []) []]) (zT (zb (i:=2) rfl) (zT rfl (zT zf (zT zf (zT zf (zT zf (zT zf (zbB (X5 (zT zf yK) (szl rfl)) (zbB (zcQ (zT zf yK) (szl rfl)) (zT (xf (zb (i:=2) rfl) (zb (i:=3) rfl)) (zT (zcR zf (zb (i:=3) rfl)) (zT zf (zT zf (zbB (X5 yK (szl rfl)) (zbB rfl yK))))))))))))))) (szl rfl) rfl rfl,rfl,rfl⟩
 have s5:=Wy (p:=5) h5 (zF rfl)
 have h6:WE (fV 5) [sT (yc n m J e Ds S),sI c,sI n,sI r,sT (.lst (ns.map λq=>.str q.1)),sT (.lst xs)] (.lst xs):=WD.e (zb (i:=5) rfl)
 have c1:WE (zY (xX (fV 4)) [none] (gN 0) yL (f2 (fV 0) (fC (.str "x")) (zm .Add))) [sT (yc n m J e Ds S),sI c,sI n,sI r,sT (.lst (ns.map λq=>.str q.1)),sT (.lst xs)] (.lst (ns.map λq=>.str (q.1++"x"))):=
  zbH (h:=λq:Str×D=>.str (q.1++"x")) (it:=λq=>(true,.str q.1)) ns (nmI (i:=4) rfl) (by omega) λq mq=>⟨[sT (.str q.1)],rfl,zaz (WD.e (zb (i:=0) rfl)) (WD.e (zf (x:=.str "x"))) (if_pos (szs (by have:=hs q mq;show q.1.length+1<=_;omega)))⟩
 have c2:WE (zY (xX (fV 4)) [none] (gN 0) yL (fSl (fV 0) oN (oS (f1 (fC (.int 1)) znd)) slS)) [sT (yc n m J e Ds S),sI c,sI n,sI r,sT (.lst (ns.map λq=>.str q.1)),sT (.lst xs)] (.lst (ns.map λq=>.str (PySem.Txt.slice q.1 none (some (-1))))):=
  zbH (h:=λq:Str×D=>.str (PySem.Txt.slice q.1 none (some (-1)))) (it:=λq=>(true,.str q.1)) ns (nmI (i:=4) rfl) (by omega) λq mq=>⟨[sT (.str q.1)],rfl,⟨.lf true (.str (PySem.Txt.slice q.1 none (some (-1)))),by
   have z:slS (.str q.1) none (some (-1))=some (.im (.str (PySem.Txt.slice q.1 none (some (-1))))):=if_pos (szs (by have:=hs q mq;omega))
   show(slS (.str q.1) none (some (-1))).bind _=_
   rw[z];rfl,rfl,rfl⟩⟩
 have c3:WE (zY (xX (fV 4)) [none] (gN 0) yL (wD (dC (fV 0) dN))) [sT (yc n m J e Ds S),sI c,sI n,sI r,sT (.lst (ns.map λq=>.str q.1)),sT (.lst xs)] (.lst (ns.map λq=>.lst [.str q.1])):=
  zbH (h:=λq:Str×D=>.lst [.str q.1]) (it:=λq=>(true,.str q.1)) ns (nmI (i:=4) rfl) (by omega) λq mq=>⟨[sT (.str q.1)],rfl,Zm (os:=[.lf true (.str q.1)]) (zT (zb (i:=0) rfl) yK) (szl rfl) rfl rfl⟩
 obtain⟨a1,b1⟩:=zeU h6 c1 (by rw[x2,zD];omega) x1 (all_map (λ_=>rfl) ns)
 obtain⟨a2,b2⟩:=zeU a1 c2 (by rw[zzG,x2,zD,zD];omega) b1 (all_map (λ_=>rfl) ns)
 obtain⟨a3,b3⟩:=zeU a2 c3 (by rw[zzG,zzG,x2,zD,zD,zD];omega) b2 (all_map (λ_=>rfl) ns)
 exact⟨_,xO rfl (zR s2 (zR s3 (zR s4 (zR s5 (yX a3))))),b3,by rw[zzG,zzG,zzG,x2,zD,zD,zD];omega⟩
end
theorem zoh{f:EF}{as:AS}{ds:List D}(h:WE f as (.lst ds)):zbI f as=some (ds.map λd=>(true,d),as):=by
 obtain⟨o,h,h1,h2⟩:=h
 unfold zbI
 rw[h]
 show(zje (o.str,o.toD)).bind _=_
 rw[h1,h2]
 show some (kids true ds,as)=_
 rw[zhm]
theorem znU{α:Type}{h:α->D}{p:α->Bool}:∀l:List α,eqF 60 (.lst ((l.filter p).map h)) (.lst [])=some (!(l.any p))
 | []=>rfl
 |x::l=>by
  have ih:=znU (h:=h) (p:=p) l
  rw[List.filter_cons,List.any_cons]
  cases p x with
  |true=>rfl
  |false=>exact ih
def eqN(d:D)(x:Str):Bool:=match tD d with
 |some s=>x==s
 |none=>false
theorem zqq{d:D}:∀l:List Str,l.any (eqN d)=sD l d:=λl=>by
 unfold sD eqN
 cases tD d with
 |none=>exact List.any_eq_false.mpr λ_ _=>by simp
 |some s=>rfl
section
variable{n m:Nat}{J:TZ}{e:Int}{Ds:DD}{S:SS}
abbrev K7(n m:Nat)(J:TZ)(e:Int)(Ds:DD)(S:SS)(c:Int)(x y z w:Option O):AS:=[sT (wQ n m J e Ds S),sT (yc n m J e Ds S),sI c,x,y,z,w]
theorem zqN{α:Type}{as:AS}{kf:α->Str}{vf:α->D}{l:List α}{d:D}{a:EF}(ha:WE a as (.lst (l.map λp=>.tup [.str (kf p),vf p])))(hl:l.length<=10)(hc:∀p:α,gT 2 (gsC (gN 0) (gsC (gN 1) gsN)) (true,.tup [.str (kf p),vf p]) (YH [none,none,some 3] as)=some [sT (.str (kf p)),sT (vf p),sT d])(ho:Wi d=true):
 WD (f2 (zY (xX a) [none,none,some 3] (gT 2 (gsC (gN 0) (gsC (gN 1) gsN))) (zcd (fT (Wf (fV 2) "str")) (fT (f2 (fV 0) (fV 2) (zO .Eq)))) (fV 0)) (wD dN) (zO .NotEq)) as true (.bl (sD (l.map kf) d)):=by
 have i:=zed ha
 rw[zzY]at i
 have w:=zmZ (h:=λp=>D.str (kf p)) (p:=λp=>eqN d (kf p)) (it:=λp=>(true,.tup [.str (kf p),vf p])) (cap:=[none,none,some 3]) (gg:=gT 2 (gsC (gN 0) (gsC (gN 1) gsN))) (tt:=zcd (fT (Wf (fV 2) "str")) (fT (f2 (fV 0) (fV 2) (zO .Eq)))) (fe:=fV 0) l i (by omega) (λp _=>⟨_,hc p,zrz (Zg (ztU (zb (i:=2) rfl) ho) rfl) (λq=>by
  obtain⟨s,hs⟩:=Option.isSome_iff_exists.mp q
  unfold eqN
  rw[hs]
  have e:=zqY hs
  subst e
  exact Zg (zcv (c:=kf p==s) (zb (i:=0) rfl) (zb (i:=2) rfl) rfl) rfl) (λq=>by
  unfold eqN
  cases h:tD d with
  |none=>rfl
  |some s=>rw[h]at q;cases q),λ_=>WD.e (zb (i:=0) rfl)⟩)
 have e1:l.any (λp=>eqN d (kf p))=sD (l.map kf) d:=by
  rw[<-zqq,List.any_map];rfl
 have:=f2E (g:=zO .NotEq) (z:=.bl (sD (l.map kf) d)) w (Zm (as:=as) yK (szl rfl) rfl rfl) (by
  show(eqF 60 _ (.lst [])).bind _=_
  rw[znU,e1,zyI,Bool.not_not];rfl)
 exact this
theorem zoC{c:Int}(A:Alg n m J e Ds)(sl:S.length<=3)(hs:∀q ∈ nmL Ds S,q.1.length<=8):RE (Zd [(true,wQ n m J e Ds S),(true,yc n m J e Ds S),(true,.int c)]) (.bl true):=by
 have n8:=A.n8
 have dl:=A.dl
 have nl:=zkp dl sl
 obtain⟨ds,o1,o2,o3⟩:=zsE (n:=n) (m:=m) (J:=J) (e:=e) (c:=c) dl sl hs
 have wa:WE (fV 1) (K7 n m J e Ds S c none none none none) (yc n m J e Ds S):=WD.e (zb (i:=1) rfl)
 have w1:WE (fP (aC (f2 (fV 1) (fC (.int 0)) ixP) aN) lrP) (K7 n m J e Ds S c none none none none) (.lst ((Ys n).map D.int)):=
  ⟨_,zog (g:=lrP) (zs:=(Ys n).map D.int) (zaz (z:=.int n) wa (WD.e zf) rfl) (by
   show(if(0:Int)<=n/\(n:Int)<=100000 then _ else _)=_
   rw[if_pos ⟨by omega,by omega⟩,zzY];rfl),zfn _,congrArg D.lst (zfh _)⟩
 obtain⟨a1,b1⟩:=zeU w1 (zqV wa (λ_=>rfl) dl sl) (by rw[zD,zD,zD,zyR];omega) (all_map (λ_=>rfl) _) (all_map (λ_=>rfl) _)
 obtain⟨a2,b2⟩:=zeU a1 (zcz wa (WD.e (zb (i:=2) rfl)) o1) (by rw[zzG,zD,zD,zD,zyR];omega) b1 o2
 have it:=zoh a2
 rw[List.all_eq_true]at b2
 generalize ((Ys n).map D.int++(nmL Ds S).map λq=>D.str q.1)++ds=L at it b2
 have k:=znf (g:=gN 3) (f:=(zB (zH true 4 (zcl (zE (aC (fV 3) aN) ye) (Y7 (fC (.int 0)) (fV 3) (f2 (fV 1) (fC (.int 0)) ixP) (zO .LtE) (zO .Lt))))
  (zB (zH true 5 (f2 (zY (xX (f2 (fV 1) (fC (.int 4)) ixP)) [none,none,some 3] (gT 2 (gsC (gN 0) (gsC (gN 1) gsN))) (zcd (fT (Wf (fV 2) "str")) (fT (f2 (fV 0) (fV 2) (zO .Eq)))) (fV 0)) (wD dN) (zO .NotEq)))
  (zB (zH true 6 (f2 (zY (xX (f2 (fV 1) (fC (.int 5)) ixP)) [none,none,some 3] (gT 2 (gsC (gN 0) (gsC (gN 1) gsN))) (zcd (fT (Wf (fV 2) "str")) (fT (f2 (fV 0) (fV 2) (zO .Eq)))) (fV 0)) (wD dN) (zO .NotEq)))
  (zB (sIf (Wl (wk (fT (zE (aC (vC zam "is_value" (fV 0) (aC (fV 3) aN)) (aC (fV 4) aN)) yx))) (wk (fT (zE (aC (vC zbN "is_deed" (fV 0) (aC (fV 3) aN)) (aC (fV 5) aN)) yx)))) (ym (fC (.bl false))) sNx)
  (sIf (wk (fT (zE (aC (vC zbM "is_sign" (fV 0) (aC (fV 3) aN)) (aC (fV 6) aN)) yx))) (ym (fC (.bl false))) sNx)))))) (it:=λd=>(true,d)) (λas=>∃x y z w,as=K7 n m J e Ds S c x y z w) L (λd md as hI=>by
  obtain⟨x,y,z,w,rfl⟩:=hI
  have ho:=b2 d md
  refine⟨K7 n m J e Ds S c (sT d) y z w,rfl,K7 n m J e Ds S c (sT d) (sT (.bl (vD n d))) (sT (.bl (sD (Ds.map (·.1)) d))) (sT (.bl (sD (S.map (·.1)) d))), ?_,_,_,_,_,rfl⟩
  have v4:WD (zcl (zE (aC (fV 3) aN) ye) (Y7 (fC (.int 0)) (fV 3) (f2 (fV 1) (fC (.int 0)) ixP) (zO .LtE) (zO .Lt))) (K7 n m J e Ds S c (sT d) y z w) true (.bl (vD n d)):=by
   refine zdr (k:=(iD d).isSome) (Xr (zG (zb (i:=3) rfl) zX) (by show ye [(zL d||true,d)]=_;rw[zyA];exact Ws rfl (Yp (ztO (zb (i:=0) rfl) ho)))) (λq=>?_) λq=>?_
   · obtain⟨i,hi⟩:=Option.isSome_iff_exists.mp q
     have e:=zra hi
     subst e
     exact zpW zf (zb (i:=3) (x:=.int i) rfl) (yp (z:=.int n) (zb (i:=1) rfl) zf rfl rfl)
   · unfold vD
     cases h:iD d with
     |none=>rfl
     |some i=>rw[h]at q;cases q
  have v5:=zqN (as:=K7 n m J e Ds S c (sT d) (sT (.bl (vD n d))) z w) (kf:=λp:Str×TZ=>p.1) (vf:=λp=>yg p.2) (l:=Ds) (d:=d) (a:=f2 (fV 1) (fC (.int 4)) ixP) (zaz (WD.e (zb (i:=1) rfl)) (WD.e zf) rfl) (by omega) (λ_=>rfl) ho
  have v6:=zqN (as:=K7 n m J e Ds S c (sT d) (sT (.bl (vD n d))) (sT (.bl (sD (Ds.map (·.1)) d))) w) (kf:=λp:Str×List Int=>p.1) (vf:=λp=>yH p.2) (l:=S) (d:=d) (a:=f2 (fV 1) (fC (.int 5)) ixP) (zaz (WD.e (zb (i:=1) rfl)) (WD.e zf) rfl) (by omega) (λ_=>rfl) ho
  have tr:∀{f:EF}{i:Nat}{b:Bool},WE f (K7 n m J e Ds S c (sT d) (sT (.bl (vD n d))) (sT (.bl (sD (Ds.map (·.1)) d))) (sT (.bl (sD (S.map (·.1)) d)))) (.bl b)->(K7 n m J e Ds S c (sT d) (sT (.bl (vD n d))) (sT (.bl (sD (Ds.map (·.1)) d))) (sT (.bl (sD (S.map (·.1)) d))))[i]? = some (sT (.bl b))->WT (wk (fT (zE (aC f (aC (fV i) aN)) yx))) (K7 n m J e Ds S c (sT d) (sT (.bl (vD n d))) (sT (.bl (sD (Ds.map (·.1)) d))) (sT (.bl (sD (S.map (·.1)) d)))) false:=λ{f i b} h hi=>by
   have:=zbF (wtE (zcz h (WD.e (zb hi)) zlB))
   rw[show(!(b==b))=false by simp]at this
   exact this
  have wy:WD (fV 0) (K7 n m J e Ds S c (sT d) (sT (.bl (vD n d))) (sT (.bl (sD (Ds.map (·.1)) d))) (sT (.bl (sD (S.map (·.1)) d)))) true (wQ n m J e Ds S):=zb (i:=0) rfl
  have w3:WE (fV 3) (K7 n m J e Ds S c (sT d) (sT (.bl (vD n d))) (sT (.bl (sD (Ds.map (·.1)) d))) (sT (.bl (sD (S.map (·.1)) d)))) d:=WD.e (zb (i:=3) rfl)
  exact yh (yF (i:=4) v4 (zF rfl)) (yh (yF (i:=5) v5 (zF rfl)) (yh (yF (i:=6) v6 (zF rfl)) (yh (xq (zgU (tr (i:=4) (zlA wy (by decide +kernel) rfl w3 (zqd ho)) rfl) (λ_=>tr (i:=5) (zlA wy (by decide +kernel) rfl w3 (zsO ho)) rfl) (λq=>nomatch q)) rfl) (xq (tr (i:=6) (zlA wy (by decide +kernel) rfl w3 (zpZ ho)) rfl) rfl))))) (K7 n m J e Ds S c none none none none) ⟨_,_,_,_,rfl⟩
 obtain⟨as',k,_⟩:=k
 exact xO rfl (zR (vY it k) (yX (WD.e zf)))
end
theorem zqh{α:Type}(f:α->D)(l:List α)(lo hi:Option Int):∃l':List α,l'.length<=l.length/\PF.cutD (l.map f) lo hi=l'.map f:=by
 unfold PF.cutD
 rw[zD,<-List.map_drop,<-List.map_take]
 exact⟨_,by rw[zzP,List.length_drop];omega,rfl⟩
theorem ziO{f:D->D->Option Bool}:∀xs:List D,(∀x ∈ xs,f x x=some true)->eqL f xs xs=some true
 | [],_=>rfl
 |x::r,h=>by
  show((f x x).bind λb=>(eqL f r r).bind λc=>some (b&&c))=_
  rw[h x zzC,ziO r λy my=>h y (zzA _ my)];rfl
theorem znD{k:Nat}(r:List Int):eqF (k+2) (yH r) (yH r)=some true:=ziO _ λx mx=>by
 obtain⟨i,_,rfl⟩:=zxB.mp mx
 show some (i==i)=_
 rw[beq_self_eq_true]
theorem zob{k:Nat}(T:TZ):eqF (k+3) (yg T) (yg T)=some true:=ziO _ λx mx=>by
 obtain⟨r,_,rfl⟩:=zxB.mp mx
 exact znD r
theorem eq_str{k:Nat}(s:Str):eqF (k+1) (.str s) (.str s)=some true:=by
 show some (s==s)=_
 rw[beq_self_eq_true]
theorem zss{k:Nat}(i:Int):eqF (k+1) (.int i) (.int i)=some true:=by
 show some (i==i)=_
 rw[beq_self_eq_true]
theorem zpV{k:Nat}(p:Str×TZ):eqF (k+4) (wB p) (wB p)=some true:=ziO _ λx mx=>by
 rcases zS.mp mx with rfl|mx
 · exact eq_str _
 · rcases zS.mp mx with rfl|mx
   · exact zob _
   · exact nomatch mx
theorem zpl{k:Nat}(p:Str×List Int):eqF (k+4) (wA p) (wA p)=some true:=ziO _ λx mx=>by
 rcases zS.mp mx with rfl|mx
 · exact eq_str _
 · rcases zS.mp mx with rfl|mx
   · exact znD (k:=k+1) _
   · exact nomatch mx
section
variable{n m:Nat}{J:TZ}{e:Int}{Ds:DD}{S:SS}
theorem zsa:eqF 60 (yc n m J e Ds S) (yc n m J e Ds S)=some true:=ziO _ λx mx=>by
 rcases zS.mp mx with rfl|mx
 · exact zss _
 rcases zS.mp mx with rfl|mx
 · exact zss _
 rcases zS.mp mx with rfl|mx
 · exact zob _
 rcases zS.mp mx with rfl|mx
 · exact zss _
 rcases zS.mp mx with rfl|mx
 · exact ziO _ λx mx=>by
    obtain⟨p,_,rfl⟩:=zxB.mp mx
    exact zpV p
 rcases zS.mp mx with rfl|mx
 · exact ziO _ λx mx=>by
    obtain⟨p,_,rfl⟩:=zxB.mp mx
    exact zpl p
 exact nomatch mx
abbrev L9(ns:List Int)(n m:Nat)(J:TZ)(e:Int)(Ds:DD)(S:SS)(x y z:Option O):AS:=[sT (.lst (ns.map .int)),sT (yc n m J e Ds S),x,y,none,none,none,none,z]
theorem zqB{ns:List Int}{y:Option O}:zoO 2 4 5 6 7 (L9 ns n m J e Ds S (some (zcW n m J e Ds S)) y none)=some (.nx (L9 ns n m J e Ds S none y none)):=by
 have h1:(J.map Yg).all zpA=true:=by rw[List.all_map,List.all_eq_true];exact λ_ _=>rfl
 have h2:(Ds.map Zn).all zkz=true:=by rw[List.all_map,List.all_eq_true];exact λ_ _=>rfl
 have h3:(S.map Z3).all zkz=true:=by rw[List.all_map,List.all_eq_true];exact λ_ _=>rfl
 show(if _ then _ else _)=_
 rw[if_pos ⟨h1,h2,h3,rfl,rfl,rfl,rfl⟩]
 rfl
theorem zst{ns:List Int}{y z:Option O}:WT (fT (f2 (fV 2) (fV 1) (zO .NotEq))) (L9 ns n m J e Ds S (some (zcW n m J e Ds S)) y z) false:=by
 have h:f2 (fV 2) (fV 1) (zO .NotEq) (L9 ns n m J e Ds S (some (zcW n m J e Ds S)) y z)=some (.ow (.lf true (.bl false)),L9 ns n m J e Ds S (some (zcW n m J e Ds S)) y z):=by
  show((zO .NotEq (zcW n m J e Ds S).toD (yc n m J e Ds S)).bind _)=_
  rw[(zhD n m J e Ds S).2]
  show((eqF 60 (yc n m J e Ds S) (yc n m J e Ds S)).bind _ |>.bind _)=_
  rw[zsa];rfl
 exact Zg (s:=true) h rfl
theorem zqu{ns:List Int}{z:Option O}(A:Alg n m J e Ds)(L:LawA n m J e Ds)(sl:S.length<=3)(sn:(S.map (·.1)).Nodup):WE (zE (aC (fV 2) aN) (wI "Ways")) (L9 ns n m J e Ds S (some (zcW n m J e Ds S)) none z) (wQ n m J e Ds S):=
 ⟨_,zmE (rs:=[.bo 2]) (xs:=[(false,yc n m J e Ds S)]) rfl (by
  show some [(false,(zcW n m J e Ds S).toD)]=_
  rw[(zhD n m J e Ds S).2]) (zsB A L sl sn),rfl,rfl⟩
theorem zoo(ns:List Int)(hns:ns.length<=63):zgi [(true,.lst (ns.map .int))]=some (.lf true (.bl true)):=by
 obtain⟨c0,h0⟩:=zeO (ns:=ns) (k:=0) (s:=true) (t:=true) (by omega)
 obtain⟨c1,h1⟩:=zeO (ns:=ns) (k:=1) (s:=true) (t:=true) (by omega)
 obtain⟨c2,h2⟩:=zeO (ns:=ns) (k:=2) (s:=true) (t:=true) (by omega)
 obtain⟨c3,h3⟩:=zeO (ns:=ns) (k:=3) (s:=true) (t:=true) (by omega)
 have z0:=zyK c2 (show(5:Int)≠0 by decide)
 have z1:=zyE c2 (show(0:Int)<5 by decide)
 obtain⟨w,ew⟩:∃w:Nat,(w:Int)=c2%5:=⟨(c2%5).toNat,by omega⟩
 obtain⟨n,m,J,e,Ds,S,M,hw,ha⟩:=zkB (c:=c0) (h:=c1) (w:=w) (by omega)
 rw[ew]at ha
 have A:=M.al
 have cl:∀(as:AS) (k:Int) (x:Int),as[0]? = some (sT (.lst (ns.map .int)))->yj [(true,.lst (ns.map .int)),(true,.int k)]=sT (.int x)->WD (zE (aC (fV 0) (aC (fC (.int k)) aN)) yj) as true (.int x):=λas k x h hh=>Xr (zG (zb h) (zG zf zX)) hh
 have s1:=Wy (p:=1) (as:=[sT (.lst (ns.map .int)),none,none,none,none,none,none,none,none]) (zeW (WD.e (cl _ 0 c0 rfl h0)) (WD.e (cl _ 1 c1 rfl h1)) (WD.e (yt (cl _ 2 c2 rfl h2) zf (by decide))) ha) (zF rfl)
 have s2:zH false 2 (zE (aC (fV 1) aN) v7) (L9 ns n m J e Ds S none none none)=some (.nx (L9 ns n m J e Ds S (some (zcW n m J e Ds S)) none none)):=wO (i:=2) (W5 (zG (zb (i:=1) rfl) zX) (zpR A M.s3)) (zF rfl)
 have s3:=Wy (p:=3) (zqu (ns:=ns) (z:=none) A M.la M.s3 M.sn) (zF rfl)
 have jn:∀x z,WE (zE (aC (fV 3) (aC (fV 1) aN)) xx) (L9 ns n m J e Ds S x (sT (wQ n m J e Ds S)) z) (.bl true):=λx z=>zcz (WD.e (zb (i:=3) rfl)) (WD.e (zb (i:=1) rfl)) (zmw A M.sn)
 have t4:WT (Wl (fT (f2 (fV 2) (fV 1) (zO .NotEq))) (wk (fT (zE (aC (fV 3) (aC (fV 1) aN)) xx)))) (L9 ns n m J e Ds S (some (zcW n m J e Ds S)) (sT (wQ n m J e Ds S)) none) false:=zgU zst (λ_=>zbF (wtE (jn _ _))) (λq=>nomatch q)
 have t6:WT (Wl (wk (fT (zE (aC (fV 3) (aC (fV 1) (aC (zE (aC (fV 0) (aC (fC (.int 3)) aN)) yj) aN))) Zd))) (wk (fT (zE (aC (fV 3) (aC (fV 1) aN)) xx)))) (L9 ns n m J e Ds S none (sT (wQ n m J e Ds S)) none) false:=
  zgU (zbF (wtE (zeW (WD.e (zb (i:=3) rfl)) (WD.e (zb (i:=1) rfl)) (WD.e (cl _ 3 c3 rfl h3)) (zoC A M.s3 (zut M.nk M.sh))))) (λ_=>zbF (wtE (jn _ _))) (λq=>nomatch q)
 obtain⟨xs,xl,ex⟩:=zqh D.int ns (some 4) (some 44)
 have hsl:WE (fSl (fV 0) (oS (fC (.int 4))) (oS (fC (.int 44))) slP) (L9 ns n m J e Ds S none (sT (wQ n m J e Ds S)) none) (.lst (xs.map D.int)):=zql (WD.e (zb (i:=0) rfl)) rfl rfl (by rw[<-ex];rfl)
 have hit:=zoh (zrU (Zm (os:=[lfI 0,lfI 1,lfI 300]) (zT zf (zT zf (zT zf yK))) (szl rfl) rfl rfl) hsl (add_lists (xs:=[.int 0,.int 1,.int 300]) (by rw[zD];exact szs (by show 3+_<=_;omega))))
 rw[show[D.int 0,.int 1,.int 300]++xs.map D.int=([0,1,300]++xs).map D.int by rw[zyJ];rfl,zzY]at hit
 obtain⟨as',k,_⟩:=znf (g:=gN 8) (f:=(sIf (wk (fT (zE (aC (fV 3) (aC (fV 1) (aC (f2 (fV 8) (fC (.int 301)) (zm .Mod)) aN))) ZL))) (ym (fC (.bl false))) sNx)) (it:=λc=>(true,D.int c)) (λas=>∃z,as=L9 ns n m J e Ds S none (sT (wQ n m J e Ds S)) z) ([0,1,300]++xs) (λc _ as hI=>by
  obtain⟨z,rfl⟩:=hI
  exact⟨L9 ns n m J e Ds S none (sT (wQ n m J e Ds S)) (sI c),rfl,zjf (zbF (wtE (zeW (WD.e (zb (i:=3) rfl)) (WD.e (zb (i:=1) rfl)) (WD.e (yt (zb (i:=8) rfl) zf (by decide))) (zqm A)))) rfl ⟨_,rfl⟩⟩) (L9 ns n m J e Ds S none (sT (wQ n m J e Ds S)) none) ⟨_,rfl⟩
 exact Ws rfl (yh s1 (yh s2 (yh s3 (yh (xq t4 rfl) (yh zqB (yh (xq t6 rfl) (yh (vY hit k) (Yp zf))))))))
end
end G20
end
open PySem PySem.W PyProof.Rows
set_option maxRecDepth 100000 in
set_option maxHeartbeats 0 in
theorem PySem.Challenge.cw_stretchdeeds_k20_ways_of_algebras_holds : PySem.Challenge.rw_stretchdeeds_k20_ways_of_algebras.Holds := by
 w_on;refine holds_law G20.ws λsaid=>?_
 refine holds_open (q:=G20.qv) (loose:=[]) (Xt:=G20.Xt) (XP:=XL G20.qv []) (Yf:=Hook.obs (kHook G20.K G20.kA G20.kAe)) (Ya:=Hook.val (kHook G20.K G20.kA G20.kAe)) (YP:=Hook.says (kHook G20.K G20.kA G20.kAe)) (N:=5000) G20.hl (Hook.of (kHook G20.K G20.kA G20.kAe)) (Hook.keeps (kHook G20.K G20.kA G20.kAe)) (λs e=>xl_of s (Bool.and_eq_true_iff.mp e).1) XL.keeps (by rfl) (by rfl) (by rfl) (λs e=>recFacts_of (Bool.and_eq_true_iff.mp e).2) (by rfl) (by first|assumption|decide +kernel) (by decide +kernel) ⟨rfl,rfl,rfl,rfl,rfl,by decide +kernel⟩ ?hw ?hc
 (case hw=>w_witness2)
 k_fill
 refine G20.walk (l:=PySem.Challenge.rw_stretchdeeds_k20_ways_of_algebras) rfl rfl (λw h Y=>PySem.W.kIn_of Y) G20.zoo ?F
 case F=>
  intro w mg fa h KX G hmg
  refine' G20.zsU KX G hmg ?_ ?_ ?_ ?_ ?_ ?_ ?_ ?_ ?_ ?_ ?_ ?_ ?_ ?_ ?_ ?_ ?_ ?_ ?_ ?_ ?_ ?_ ?_ ?_ ?_ ?_ ?_ ?_ ?_ ?_ ?_ ?_ ?_ ?_ ?_ ?_ ?_ ?_ ?_ ?_ ?_ ?_ ?_ ?_ ?_ ?_ ?_ ?_ ?_ ?_ ?_ ?_ ?_ ?_ ?_ ?_ ?_ ?_ ?_ ?_ ?_ ?_ ?_ ?_ ?_ ?_ ?_ ?_ ?_ ?_ ?_ ?_ ?_ ?_ ?_ ?_ ?_ ?_ ?_ ?_ ?_ ?_ ?_ ?_ ?_ ?_ ?_ ?_ ?_ ?_ ?_ ?_ ?_ ?_ ?_ ?_ ?_ ?_ ?_ ?_ ?_ ?_ ?_ ?_ ?_ ?_ ?_ ?_ ?_ ?_ ?_ ?_ ?_ ?_ ?_ ?_ ?_ ?_
  all_goals try first|k_is|(change _=_;k_is)|exact⟨_,⟨_,_,_,_,_,_,_,_,_,rfl,by k_is,by k_is⟩,by k_is⟩|rfl
#print axioms PySem.Challenge.cw_stretchdeeds_k20_ways_of_algebras_holds
